import PyProof.Rows.All
import Wide.All
import OpenK.AllK
import Wide.FinOn
import Lean
import PyProof.EqAt
import PyProof.EqKinds
import PyProof.TupleCall
import PyProof.Rows.TupTab
import PyProof.DictRoadsH
import PyProof.DictTable
import KE.KLam
import KE.KNestM
import PyProof.MeetsStr2
import PyProof.StrLawsTight
import PyProof.StrBlockI
import KE.KIntText
import PyProof.StrWalks
import PyProof.EnumMake
import KE.KIsAll
import KE.KRevSl
import PyProof.Rows.FactsN_isinstance
import KE.KDictOf
import PyProof.AttrMiss
import PyProof.WalksMore
import PyProof.FactsAll.tuple
import PyProof.ListRange
import PyProof.Rows.SetFrom
import PyProof.DictItems
import KE.KSortTup
import PyProof.DictIter
import PyProof.DictWalks
import KE.KDictList
import PyProof.Rows.SortShell
import KE.KItemsList
import KE.KUnpack
import PyProof.Rows.CallKwBuiltin
import PyProof.RulesAs
import PyProof.StationsW
import PyProof.ExcClass2
import PyProof.RulesTry
import PyProof.PassesOwn
import OpenK.KRaise
import KE.KTryMore
import PyProof.ExcBaseAll.ValueError
import PyProof.ExcArgs
import PyProof.ExcAttrAll.ValueError
import OpenK.KDescr
import PyProof.NsDelKeeps
import PyProof.ExcInit
import PyProof.FString
import PyProof.AssignAttr
import PySem.Challenge.RW_copyclerk_k82_rows_that_are_no_shapes
set_option Elab.async false
set_option autoImplicit true
set_option relaxedAutoImplicit true
set_option linter.all false
set_option genSizeOfSpec false
set_option maxHeartbeats 8000000
set_option maxRecDepth 100000
local macro_rules |`(def $i:declId $s:optDeclSig $v:declVal)=>`(noncomputable def $i:declId $s:optDeclSig $v:declVal)
local macro_rules |`(abbrev $i:declId $s:optDeclSig $v:declVal)=>`(noncomputable abbrev $i:declId $s:optDeclSig $v:declVal)
open Array renaming length_toList->ZG,getElem?_toList->Zl,getD_eq_getD_getElem?->XW,getElem?_eq_getElem->WS,forIn_toList->WD
open Bool renaming and_eq_true->Z8,false_eq_true->Z1,not_eq_true'->Zu,or_eq_true->Zh,false_ne_true->Zc,not_true->YW,false_or->Yt,eq_iff_iff->X0,true_and->XR,and_false->W3,and_true->V5,not_false->Vz,not_eq_true->UZ
open Char renaming toNat->Uq
open False renaming elim->Yh
open Fin renaming val->XU
open ForInStep renaming yield->XZ
open Int renaming toNat_natCast->YV,emod_lt_of_pos->VA,emod_nonneg->UG
open LawfulBEq renaming eq_of_beq->ZX
open List renaming getElem?_eq_getElem->Z4,getElem?_eq_some_iff->Z2,size_toArray->ZV,mem_cons_of_mem->ZU,length_map->ZR,all_eq_true->ZQ,length_cons->ZP,replicate->ZN,mem_cons_self->ZK,mem_cons->ZJ,getElem?_append_left->ZF,range->ZA,map_cons->Zz,getD_eq_getElem?_getD->Zy,mem_append_right->Zx,length_append->Zw,getElem?_set_self->Zs,getElem?_set_ne->Zr,lookup_cons->Zq,getElem?_map->Zp,getElem_mem->Zn,length_take->Ze,mem_append->Zd,replicate_succ->Y2,getElem?_append_right->YZ,getElem?_cons_zero->YX,mem_of_getElem?->YU,nodup_cons->YR,length_drop->YN,mem_range->YM,isPrefixOf_iff_prefix->YK,length_nil->YH,take_of_length_le->YF,filterMap_cons->YE,flatten_cons->YC,getElem?_eq_none->YA,getElem?_take_of_lt->Yy,mem_singleton->Yx,findIdx?_eq_some_iff_getElem->Yu,append_nil->Ym,take_append_drop->Yk,pairwise_cons->Ye,mem_map->X9,filterMap_cons_some->X8,getElem?_cons_succ->X4,drop_of_length_le->XX,cons_append->XN,drop_zero->XM,drop_eq_getElem_cons->XG,map_append->XF,getElem?_of_mem->XB,append_assoc->XA,mem_of_mem_take->Xz,take_succ_eq_append_getElem->Xx,getElem_of_mem->Xr,mem_of_mem_drop->W2,toArray->WV,not_mem_nil->WU,length_pos_iff->WR,filterMap_cons_none->WM,mem_filter->WJ,foldl_cons->WF,mem_filterMap->WB,zip_cons_cons->Wz,length->Ww,getElem_cons_succ->Wm,getElem?_set->Wi,length_range->Wh,eraseIdx_eq_take_drop_succ->We,any_eq_true->Wb,mem_append_left->VZ,of_mem_zip->VW,find?_cons->VU,take_set_of_le->VR,drop_drop->VD,length_eraseIdx_of_lt->Vt,pairwise_iff_getElem->Vp,mem_or_eq_of_mem_set->Vn,nodup_append->Vh,all_cons->Vb,any_cons->U6,take_length->U0,isEmpty_iff->UU,map_nil->UQ,nil_append->UI,forIn_cons->UH,range'->Uz
open List.Pairwise renaming nil->Vi
open List.Perm renaming refl->XL,cons->W0,swap->Vu
open List.cons renaming injEq->UE
open Nat renaming le_refl->ZZ,ne_of_lt->ZI,lt_of_lt_of_le->ZE,le_trans->Zf,zero_le->Y3,lt_irrefl->YO,lt_succ_of_lt->YB,le_of_not_lt->Xk,le_of_lt->Xi,ne_of_gt->Xf,lt_trans->Xd,lt_succ_self->WX,le_succ->Ws,lt_or_eq_of_le->Vy,add_assoc->Va,min_le_right->U1,mod_lt->UN,sub_self->UM
open Ne renaming symm->Za
open Option renaming map_eq_some_iff->YS,isSome_iff_exists->Yb,isSome->Xt,map_some->WE,isNone_iff_eq_none->Vo
open Option.some renaming injEq->Z3,inj->ZY
open Prod renaming mk->Ul
open Prod.mk renaming injEq->ZO
open PyProof.Rows renaming slot_tuple_getitem->Y4,boot_isinstance->Xb,callWith_type1->VQ,AllBare->Vl,failedOf->Um
open PyProof.Rows.F renaming plain_set_update_loop->Xj
open PySem renaming wpAny_bind->Z9,wpAny_pure->Z6,starEach->ZT,Spec->ZL,wpAny_mono->ZC,Program->ZB,SetTable->Zt,wpAny_setState_of->Zj,sizeLine_eq->Zg,Builtin->Zb,assignEach->Y9,wpAny_holding->Y6,compareOp->Y1,codeAny_builtin->YQ,binaryOp->YL,compEnvC->YJ,wpAny_setField_rec->YI,call_meets->YD,attributeBase->Yz,Env->Yv,foldedSetIterable->Ys,wpAny_newObj_type->Yq,wpAny_call_entry->Yj,wpAny_Call_Name_kw->Yg,wpAny_truthy_bool->X6,Keyword->X5,mem_of_lookup->XY,keywordEach->XT,plainId_quiet->XQ,bootBuiltins->XD,codeAny_mono->XC,codeAny_call_builtin->Xw,codeAny->Xs,wpAny_forIn_list->Xq,wpAny_isInstance->Xp,NameKind->Xn,wpAny_callSpecial?_slot->Xl,wpAny_rule->Xg,typeIs_str->Xe,wpAny_ite_split->Xa,behindInMarks->W9,wpAny_loadPart_at->W6,wpAny_execs_cons->WY,backToKw->WO,wpAny_comprehension_free->WN,wpAny_specialOf->WL,letOwnedTupleGo->WI,wpAny_passesOwn->WH,wpAny_loadPart'->WG,swapsWith->Wx,sliceBounds->Wu,strIterType->Wt,excClassObj->Wr,wpAny_typeOf->Wn,wpAny_pyIter_list->Wj,BoolOp->Wf,wpAny_load->Wd,wpAny_call->Wc,seqItems?->V8,Str->V7,wpAny_standAt->V6,wpAny_execs_nil->VX,wpAny_setEntries_of->VS,TriplesOk->VN,codeAmong->VM,wpAny_tupleItemsOf->VL,builtinsNs->VI,wpAny_newFunctionEnv_cells->VG,standAt->Vk,wpAny_storeSet_of->Vd,swapsWithSole->U9,swappedStores->U8,setSearchFrom->U5,UnaryOp->U4,PassesOwn->U3,Operator->U2,checkBuiltinCall->UX,wpAny_askSetting->UW,isInstance->UT,callerA->UP,closureFor->UO,setAddHashed->UL,setNext->UK,OwnTail->UJ,codeAny_of_tree->UF,wpAny_updateSeq->UD,bindArgs->UA,isSubtype_stop->Ux,BindsTo->Uv,getItem->Uu,noteFrame->Ut,pickOrder->Us,setFlight->Ur,valueAt->Up
open PySem.Around renaming under_plainId->YT
open PySem.Builtin renaming bitAnd->Wq,bitOr->U7
open PySem.Builtin.List renaming listLengthHint->VP,listExtendWith->VO
open PySem.Builtin.Slice renaming slicePlaces->XH,sliceAdjust->WT,sliceApplied->VF
open PySem.Builtin.Str renaming strKind->Yn
open PySem.Builtin.Tuple renaming tupleHashOf->XI,tupleExact->Xv,tupleItemsOf->W5
open PySem.Calls renaming Name_function_global->W4
open PySem.Challenge renaming rw_copyclerk_k82_rows_that_are_no_shapes->X7
open PySem.Code renaming quiet_builtin->Wy
open PySem.F renaming called_set->Yw,slot_tuple_hash->W7,slot_tuple_mul->WW,plain_extend_loop->WQ,args_tuple_add_2->WP,entry_tuple_add->Wv,slot_tuple_add->Wo,attr_ValueError->Wg,plain_any_loop->Wa,plain_all_loop->V9,args_tuple_mul_2->VC,args_str_split_2->VB,excBase_ValueError->Vq,entry_tuple_mul->Vg,entry_str_split->Vf,slot_str_split->UY
open PySem.Heap renaming get?_push_of_some->Z5,lt_size->ZW,get?_push_size->ZH,get?_update_other->Zo,get?_update_self->Zi,SameBut->Yc,size_push->Xo,get?_none_of_le->V0,MadeExcOf->Vs
open PySem.Heap.SameBut renaming update->VT
open PySem.NameKind renaming free->V4
open PySem.Obj renaming mapSeq->YY,putSet->Vx
open PySem.SeqAt renaming EqAt->X2,RcAt->Xc,RcNeAt->Wl
open PySem.SetTable renaming below->ZM,insertAt->Zk,bits->Y5,runEnd->Yl,toList_insertAt->Xu,leap->W8,fill->V3,turns->Vv,Probe->Uy,layClean->Uo,probe->Uk
open PySem.SetTable.below renaming go->Xy
open PySem.SetTable.layClean renaming free->XV
open PySem.SetTable.probe renaming go->Ve
open PySem.Str renaming ofString->Z0,ofString->YG,length_append->Vc,empty_append->UV
open PySem.Value renaming ref->ZD,str->Yp,type->Yi,builtin->Yd,none->X3,bool->WC
open PySem.W renaming Frag->Z7,nsIn->ZS,mg_none_of->Zv,mg_of->Zm,findIn->Y8,kitOne->Y7,keepIn->Y0,emptyDict->Yr,hideAll_get->Yo,codeHdIn->Yf,fnOf->Ya,tabObj->XJ,kia_one->XE,codeIn->Xm,exmOne->WZ,instObj->WK,cellsFrom_some->Wp,hideAll_none->V2,hideAll->VY,of_hideAll->VJ,callWith_K->VH,kla_fn->VE,typeIn->Vr,methodObj->Vm,hasDictIn->Vj,OpenLaw->UC,nsOkIn->Uw
open Sum renaming inl->US,inr->UR
open ToString renaming toString->UB
open True renaming intro->WA
local macro_rules | `(tactic|ac_rfl)=>`(tactic|conv=>whnf)
local macro_rules | `(tactic|omega)=>`(tactic|with_reducible first|assumption|exact Nat.succ_le_of_lt (by assumption)|exact Nat.le_of_lt (by assumption)|exact Nat.zero_le _|exact Nat.lt_of_lt_of_le (by assumption) (by assumption)|exact Nat.le_trans (by assumption) (by assumption)|exact Nat.succ_le_succ (by assumption)|fail)
namespace IT
open PySem
inductive D where|non|bl (b:Bool)|int (i:Int)|str (x:List Nat)|tup (xs:List D)|lst (xs:List D)
mutual
noncomputable def D.eqb:D->D->Bool
 |.non,y=>match y with | .non=>true | _=>false
 |.bl a,y=>match y with | .bl b=>a==b | .int b=>(if a then 1 else 0)==b | _=>false
 |.int a,y=>match y with | .int b=>a==b | .bl b=>a==(if b then 1 else 0) | _=>false
 |.str a,y=>match y with | .str b=>a==b | _=>false
 |.tup a,y=>match y with | .tup b=>D.eqbs a b | _=>false
 |.lst a,y=>match y with | .lst b=>D.eqbs a b | _=>false
noncomputable def D.eqbs:List D->List D->Bool
 | [],ys=>match ys with | []=>true | _=>false
 |a::r,ys=>match ys with | b::t=>D.eqb a b&&D.eqbs r t | _=>false
end
mutual
noncomputable def D.dep:D->Nat|.tup xs=>D.deps xs+1|.lst xs=>D.deps xs+1|.non | .bl _ | .int _ | .str _=>0
noncomputable def D.deps:List D->Nat| []=>0|x::xs=>max (D.dep x) (D.deps xs)
end
def zql(a b:D):Bool:=decide (min a.dep b.dep<=60)
inductive R where|d (x:D)|loc (l:Nat)
inductive Ob where|lst (xs:List D)|fro (xs:List D)|ins (c:Str) (fs:List (Str×R))|ols (ls:List Nat)|fnc (x:Str)|tab
def Ob.items:Ob->List D|.lst xs=>xs|.fro xs=>xs|.ins _ _=>[]|.ols _=>[]|.fnc _=>[]|.tab=>[]
def Ob.isL:Ob->Bool|.lst _=>true|.fro _=>true|_=>false
inductive Ite where|r (x:R)|en (i:Int) (x:R)
abbrev dI(x:D):Ite:=.r (.d x)
abbrev Sto:=List Ob
abbrev M(α:Type):=Sto->Option (α×Sto)
def ok{α:Type}(a:α):M α:=λh=>some (a,h)
def bnd{α β:Type}(x:M α)(f:α->M β):M β:=λh=>match x h with|some (a,h1)=>f a h1|none=>none
theorem zad{α:Type}{z:α}{P:Prop}(e:none=some z):P:=by cases e
def rd:R->M D
 |.d x=>ok x
 |.loc l=>λh=>match h[l]? with
  |some o=>if o.isL then some (.lst o.items,h) else none|none=>none
def fz:R->M D
 |.d x=>ok x
 |.loc l=>λh=>match h[l]? with
  |some o=>if o.isL then some (.lst o.items,h.set l (.fro o.items)) else none|none=>none
inductive Bo where|add | sub | mul | fdiv | mod | pow | band | bor
inductive Co where|eq | ne | lt | le | gt | ge | isin | notin | isN | isnotN
inductive Bi where|len | sum | tuple | int | all | any | max | min | str
inductive Me where|append | pop | popAt | clear | extend
inductive Ty where|int | str | bool | list | tuple
inductive Tm where|starts | parti | join
inductive Lm where|count | index | countT | indexT
inductive Tg where|name (i:Nat)|tup (ts:List Tg)
set_option genInjectivity false
mutual
inductive E where|con (d:D)|var (i:Nat)|bin (o:Bo) (a b:E)|cmp (o:Co) (a b:E)|and (a b:E)|or (a b:E)|not (a:E)|ife (c:T) (a b:E)|tup (es:List E)|lst (m:Bool) (l:L)|idx (a i:E)|sli (a lo hi:E)|call (f:Nat) (es:List E)|bi (b:Bi) (es:List E)|me (m:Me) (o:E) (es:List E)|glo (d:D)|isi (t:Ty) (e:E)|tm (m:Tm) (o:E) (es:List E)|lm (m:Lm) (o a:E)|lstO (tg:Tg) (it:I) (c:List T) (el:E)|call0 (f:Nat)|lam (x:Str)|cv (i:Nat) (tb:List (Str×Nat)) (es:List E)|stuck
inductive T where|val (e:E)|and (a b:T)|or (a b:T)|not (a:T)
inductive L where|disp (es:List E)|comp (tg:Tg) (it:I) (c:List T) (el:E)|of (e:E)|cat (a b:E)|spl (a b:E)|sst (e:E)
inductive I where|seq (e:E)|rng (e:E)
end
set_option genInjectivity true
def big:Nat:=16777216
def fit(n:Nat):Bool:=decide (n<=big)
def zha(i:Int):Bool:=Nat.ble i.natAbs 18446744073709551615
theorem zdk{i:Int}:zha i=true↔-(2^64)<i/\i<2^64:=by unfold zha;rw[Nat.ble_eq];omega
def wide:Int:=1000000000000000000000000000000000000000000000000000000000000
def bop:Bo->D->D->Option D
 |.add,.int a,.int b=>some (.int (a+b))|.sub,.int a,.int b=>some (.int (a-b))
 |.mul,.int a,.int b=>if zha a||zha b then some (.int (a*b)) else none
 |.fdiv,.int a,.int b=>if decide (0<b)&&decide (b<wide) then some (.int (a / b)) else none|.mod,.int a,.int b=>if decide (0<b) then some (.int (a%b)) else none|.add,.str a,.str b=>if fit (a.length+b.length) then some (.str (a++b)) else none|.pow,.int a,.int b=>if decide (0<=b)&&decide (b<=1000000)&&decide (a.natAbs<2^64) then some (.int (a^b.toNat)) else none|.band,.int a,.int b=>if decide (0<=a)&&decide (0<=b) then some (.int (a.toNat &&& b.toNat:Nat)) else none|.bor,.int a,.int b=>if decide (0<=a)&&decide (0<=b) then some (.int (a.toNat ||| b.toNat:Nat)) else none|.add,.lst a,.lst b=>if fit (a.length+b.length) then some (.lst (a++b)) else none|.add,.tup a,.tup b=>if fit (a.length+b.length) then some (.tup (a++b)) else none|.mul,.str a,.int b=>if decide (0<=b)&&decide (b<=1000)&&decide (a.length<=1000) then some (.str (ZN b.toNat a).flatten) else none
 |.mul,.tup a,.int b=>if a.isEmpty||decide (b<0)||decide (2^24<b)||!fit (a.length*b.toNat) then none else some (.tup (ZN b.toNat a).flatten)
 |_,_,_=>none
def catS(sep:List Nat):List (List Nat)->List Nat| []=>[]|x::xs=>x++(xs.map λy=>sep++y).flatten
def fnd(y:List Nat):List Nat->Option Nat
 | []=>if y.isPrefixOf [] then some 0 else none
 |c::r=>if y.isPrefixOf (c::r) then some 0 else match fnd y r with
  |some i=>some (i+1)|none=>none
def splS(y:List Nat):Nat->List Nat->List (List Nat)
 |0,x=>[x]
 |n+1,x=>match fnd y x with
  |some i=>x.take i::splS y n (x.drop (i+y.length))|none=>[x]
def txts:List D->Option (List (List Nat))
 | []=>some []
 |.str x::r=>match txts r with
  |some l=>some (x::l)|none=>none
 |_::_=>none
def znU:D->Bool|.non=>true|_=>false
def items:D->Option (List D)|.tup xs=>some xs|.lst xs=>some xs|_=>none
def cop:Co->D->D->Option D
 |.eq,a,b=>if zql a b then some (.bl (a.eqb b)) else none|.ne,a,b=>if zql a b then some (.bl (!a.eqb b)) else none|.lt,.int a,.int b=>some (.bl (decide (a<b)))|.le,.int a,.int b=>some (.bl (decide (a<=b)))|.gt,.int a,.int b=>some (.bl (decide (b<a)))|.ge,.int a,.int b=>some (.bl (decide (b<=a)))
 | .isin,a,b=>match items b with
  |some xs=>if decide (a.dep<=60) then some (.bl (xs.any λy=>y.eqb a)) else none
  |none=>match b,a with
   |.str x,.str y=>some (.bl (fnd y x).isSome)|_,_=>none
 | .notin,a,b=>match items b with
  |some xs=>if decide (a.dep<=60) then some (.bl (!(xs.any λy=>y.eqb a))) else none
  |none=>match b,a with
   |.str x,.str y=>some (.bl (!(fnd y x).isSome))|_,_=>none
 |.isN,a,.non=>some (.bl (znU a))|.isnotN,a,.non=>some (.bl (!znU a))|.isN,.bl a,.bl b=>some (.bl (a==b))|.isnotN,.bl a,.bl b=>some (.bl (a != b))|_,_,_=>none
def ixn(n:Nat)(i:Int):Option Nat:=if 0<=i then(if i<n then some i.toNat else none) else if -(n:Int)<=i then some (i+n).toNat else none
def at'{α:Type}(xs:List α)(i:Int):Option α:=match ixn xs.length i with|some j=>xs[j]?|none=>none
def idxD:D->D->Option D
 |.tup xs,.int i=>at' xs i|.lst xs,.int i=>at' xs i
 |.str z,.int i=>if fit z.length then(match at' z i with
  |some c=>some (.str [c])
  |none=>none) else none
 |_,_=>none
def catD:D->D->Option (List D)|.lst a,.lst b=>if fit (a.length+b.length) then some (a++b) else none|_,_=>none
def sIx(n d:Nat):Option Int->Nat|none=>d|some v=>if v<0 then(v+(n:Int)).toNat else min v.toNat n
def cut{α:Type}(xs:List α)(lo hi:Option Int):List α:=(xs.drop (sIx xs.length 0 lo)).take (sIx xs.length xs.length hi-sIx xs.length 0 lo)
def part:D->Option (Option Int)|.non=>some none|.int i=>some (some i)|_=>none
def cutD(x:D)(lo hi:Option Int):Option D:=match x with|.tup xs=>some (.tup (cut xs lo hi))|.lst xs=>some (.lst (cut xs lo hi))|.str xs=>if fit xs.length then some (.str (cut xs lo hi)) else none|_=>none
def sliD(x l u:D):Option D:=match part l,part u with|some lo,some hi=>cutD x lo hi|_,_=>none
def sumI:List D->Option Int
 | []=>some 0
 |.int a::r=>match sumI r with
  |some s=>some (a+s)|none=>none
 |_=>none
def tru:D->Option Bool|.non=>some false|.bl b=>some b|.int i=>some (i != 0)|.str x=>if fit x.length then some (!x.isEmpty) else none|.tup xs=>some (!xs.isEmpty)|.lst xs=>some (!xs.isEmpty)
def zaN:List D->Option (List Bool)
 | []=>some []
 | d::r=>match tru d with
  |some b=>match zaN r with
   |some s=>some (b::s)|none=>none
  |none=>none
def isiD:Ty->D->Bool|.int,.int _=>true|.int,.bl _=>true|.str,.str _=>true|.bool,.bl _=>true|.list,.lst _=>true|.tuple,.tup _=>true|_,_=>false
def decS(n:Int):List Nat:=if n<0 then 45::(Nat.toDigits 10 n.natAbs).map Uq else(Nat.toDigits 10 n.natAbs).map Uq
def digS(x:List Nat):Bool:=!x.isEmpty&&x.all λc=>decide (48<=c)&&decide (c<=57)
def valS(x:List Nat):Nat:=x.foldl (λacc c=>acc*10+(c-48)) 0
def intS(x:List Nat):Option Int:=match x with| []=>none|c::r=>if c=45 then(if digS r then some (-(valS r:Int)) else none) else if digS (c::r) then some (valS (c::r):Int) else none
def biD:Bi->List D->Option D
 |.len,[.tup xs]=>some (.int xs.length)|.len,[.lst xs]=>some (.int xs.length)|.len,[.str xs]=>if fit xs.length then some (.int xs.length) else none
 |.sum,[.lst xs]=>match sumI xs with
  |some s=>some (.int s)|none=>none
 |.tuple,[.lst xs]=>some (.tup xs)|.tuple,[.tup xs]=>some (.tup xs)|.int,[.bl b]=>some (.int (if b then 1 else 0))|.int,[.int i]=>some (.int i)
 |.all,[.lst xs]=>match zaN xs with
  |some bs=>some (.bl (bs.all id))|none=>none
 |.any,[.lst xs]=>match zaN xs with
  |some bs=>some (.bl (bs.any id))|none=>none
 |.int,[.str x]=>if decide (x.length<=640) then(match intS x with
  |some i=>some (.int i)
  |none=>none) else none
 |.str,[.str x]=>some (.str x)|.str,[.int i]=>if decide (i.natAbs<2^200) then some (.str (decS i)) else none|.max,[.int i,.int j]=>some (.int (if j>i then j else i))|.min,[.int i,.int j]=>some (.int (if j<i then j else i))|_,_=>none
def tmD:Tm->D->List D->Option D
 |.starts,.str x,[.str y]=>some (.bl (y.isPrefixOf x))
 |.parti,.str x,[.str y]=>if y.isEmpty||!fit x.length then none else some (.tup (match fnd y x with
  |some i=>[.str (x.take i),.str y,.str (x.drop (i+y.length))]
  |none=>[.str x,.str [],.str []]))
 | .join,.str z,[d]=>match items d with
  |some xs=>match txts xs with
   |some l=>if fit (l.map λy=>y.length+z.length).sum then some (.str (catS z l)) else none|none=>none
  |none=>none
 |_,_,_=>none
def lmD:Lm->D->D->Option D
 |.count,.lst xs,d=>if decide (d.dep<=60) then some (.int (xs.countP λy=>y.eqb d)) else none
 |.index,.lst xs,d=>if decide (d.dep<=60) then(match xs.findIdx? λy=>y.eqb d with
  |some j=>some (.int j)
  |none=>none) else none
 |.countT,.tup xs,d=>if decide (d.dep<=60) then some (.int (xs.countP λy=>y.eqb d)) else none
 |.indexT,.tup xs,d=>if decide (d.dep<=60) then(match xs.findIdx? λy=>y.eqb d with
  |some j=>some (.int j)
  |none=>none) else none
 |_,_,_=>none
def splD:D->D->Option (List D)
 |.str x,.str y=>if y.isEmpty||!fit (x.length+1)||!fit (splS y x.length x).length then none else some ((splS y x.length x).map D.str)
 |_,_=>none
abbrev Env:=List (Option R)
mutual
noncomputable def bindT:Tg->R->Env->M Env
 |.name i,r,σ=>ok (σ.set i (some r))
 |.tup ts,r,σ=>bnd (rd r) λd=>match d with
  |.tup xs=>bindTs ts xs σ
  |_=>λ_=>none
noncomputable def bindTs:List Tg->List D->Env->M Env
 | [],xs,σ=>match xs with
  | []=>ok σ
  |_=>λ_=>none
 |t::ts,xs,σ=>match xs with
  |x::xs=>bnd (bindT t (.d x) σ) λσ'=>bindTs ts xs σ'
  |_=>λ_=>none
end
def zaq:Tg->Ite->Env->M Env
 |tg,.r x,σ=>bindT tg x σ
 |.tup [a,b],.en i x,σ=>bnd (bindT a (.d (.int i)) σ) λσ'=>bindT b x σ'
 |_,_,_=>λ_=>none
mutual
noncomputable def D.same:D->D->Bool
 |.non,y=>match y with | .non=>true | _=>false
 |.bl a,y=>match y with | .bl b=>a==b | _=>false
 |.int a,y=>match y with | .int b=>a==b | _=>false
 |.str a,y=>match y with | .str b=>a==b | _=>false
 |.tup a,y=>match y with | .tup b=>D.sames a b | _=>false
 |.lst a,y=>match y with | .lst b=>D.sames a b | _=>false
noncomputable def D.sames:List D->List D->Bool
 | [],ys=>match ys with | []=>true | _=>false
 |a::r,ys=>match ys with | b::t=>D.same a b&&D.sames r t | _=>false
end
mutual
theorem D.same_eq:∀x y:D,D.same x y=true->x=y|.non,.non,_=>rfl|.bl a,.bl b,h=>by simp[D.same] at h;rw[h]|.int a,.int b,h=>by simp[D.same] at h;rw[h]|.str a,.str b,h=>by simp[D.same] at h;rw[h]|.tup a,.tup b,h=>by simp[D.same] at h;rw[D.sames_eq a b h]|.lst a,.lst b,h=>by simp[D.same] at h;rw[D.sames_eq a b h]|.non,.bl _,h | .non,.int _,h | .non,.str _,h | .non,.tup _,h | .non,.lst _,h=>by simp[D.same] at h|.bl _,.non,h | .bl _,.int _,h | .bl _,.str _,h | .bl _,.tup _,h | .bl _,.lst _,h=>by simp[D.same] at h|.int _,.non,h | .int _,.bl _,h | .int _,.str _,h | .int _,.tup _,h | .int _,.lst _,h=>by simp[D.same] at h|.str _,.non,h | .str _,.bl _,h | .str _,.int _,h | .str _,.tup _,h | .str _,.lst _,h=>by simp[D.same] at h|.tup _,.non,h | .tup _,.bl _,h | .tup _,.int _,h | .tup _,.str _,h | .tup _,.lst _,h=>by simp[D.same] at h|.lst _,.non,h | .lst _,.bl _,h | .lst _,.int _,h | .lst _,.str _,h | .lst _,.tup _,h=>by simp[D.same] at h
theorem D.sames_eq:∀x y:List D,D.sames x y=true->x=y| [],[],_=>rfl|a::r,b::t,h=>by simp[D.sames] at h;rw[D.same_eq a b h.1,D.sames_eq r t h.2]| [],_::_,h=>by simp[D.sames] at h|_::_,[],h=>by simp[D.sames] at h
end
mutual
theorem D.same_refl:∀x:D,D.same x x=true|.non=>rfl|.bl a=>by simp[D.same]|.int a=>by simp[D.same]|.str a=>by simp[D.same]|.tup a=>by simp[D.same];exact D.sames_refl a|.lst a=>by simp[D.same];exact D.sames_refl a
theorem D.sames_refl:∀x:List D,D.sames x x=true| []=>rfl|a::r=>by simp[D.sames];exact⟨D.same_refl a,D.sames_refl r⟩
end
mutual
noncomputable def D.hk:D->Bool|.int _=>true|.str _=>true|.tup xs=>D.hks xs|.non | .bl _ | .lst _=>false
noncomputable def D.hks:List D->Bool| []=>true|x::r=>D.hk x&&D.hks r
end
def zaG:D->Bool|.tup xs=>D.hks xs&&decide (D.deps xs<=6)|_=>false
def zks:List (D×D)->List (D×D)->Bool
 | [],ys=>ys.isEmpty
 |p::r,ys=>match ys with
  |q::t=>p.1.same q.1&&p.2.same q.2&&zks r t| []=>false
def ltS:List Nat->List Nat->Bool
 | [],ys=>match ys with | []=>false | _=>true
 |a::r,ys=>match ys with | b::t=>if a=b then ltS r t else decide (a<b) | []=>false
mutual
noncomputable def D.lt:D->D->Option Bool
 |.int a,y=>match y with | .int b=>some (decide (a<b)) | _=>none
 |.str a,y=>match y with | .str b=>some (ltS a b) | _=>none
 |.tup a,y=>match y with | .tup b=>D.lts a b | _=>none
 |.non,_=>none|.bl _,_=>none|.lst _,_=>none
noncomputable def D.lts:List D->List D->Option Bool
 | [],ys=>match ys with | []=>some false | _=>some true
 |a::r,ys=>match ys with | b::t=>if D.same a b then D.lts r t else D.lt a b | []=>some false
end
def ltT(a b:D):Bool:=match D.lt a b with|some c=>c|none=>false
def rnk(xs:List D)(x:D):Nat:=xs.countP λy=>ltT y x
def rkOk(xs:List D):Bool:=xs.all λx=>xs.all λy=>(D.lt x y).isSome&&(ltT x y==decide (rnk xs x<rnk xs y))
def apart:List D->Bool| []=>true|x::r=>(r.all λy=>!x.same y)&&apart r
def insD(x:D):List D->List D| []=>[x]|y::r=>if ltT y x then y::insD x r else x::y::r
def zd8:List D->List D| []=>[]|x::r=>insD x (zd8 r)
def fstK:D->Nat|.tup (.str _::_)=>1|.tup (.tup _::_)=>2|_=>0
def zhi(xs:List D):Option (List D):=if decide (xs.length<=5)&&xs.all zaG&&apart xs&&rkOk xs&&((xs.all λx=>fstK x==1)||xs.all λx=>fstK x==2) then some (zd8 xs) else none
def once:List D->List D
 | []=>[]
 |x::r=>x::(once r).filter λy=>!x.same y
def zdl(d:D):Option (List D):=match d with|.lst xs=>if fit xs.length&&xs.all zaG&&(decide ((once xs).length<=4)||decide (xs.length<=5)) then zhi (once xs) else none|_=>none
def Ob.same:Ob->Ob->Bool
 |.ols a,o=>match o with
  |.ols b=>a==b|_=>false
 |.ins _ _,_=>false
 |.fnc x,o=>match o with
  |.fnc y=>x==y|_=>false
 |.tab,o=>match o with
  |.tab=>true|_=>false
 |.lst a,o=>o.isL&&D.sames a o.items|.fro a,o=>o.isL&&D.sames a o.items
def zaA(l:Option Nat)(h h':Sto):Bool:=match l with
 |none=>true
 |some l=>match h[l]?,h'[l]? with
  |some o,some o'=>o.same o'|_,_=>false
def turns{α:Type}(l:Option Nat)(f:Ite->M (Option α)):List Ite->M (List α)
 | []=>ok []
 |x::xs=>λh=>match f x h with
  |some (o,h1)=>if zaA l h h1 then bnd (turns l f xs) (λys=>ok (match o with | some y=>y::ys | none=>ys)) h1 else none|none=>none
def zbT(lo:Int):Nat->List D|0=>[]|n+1=>.int lo::zbT (lo+1) n
def opt{α:Type}(o:Option α):M α:=λh=>match o with|some a=>some (a,h)|none=>none
def alloc(xs:List D):M R:=λh=>some (.loc h.length,h++[.lst xs])
structure Wk where
 xs:List Ite
 l:Option Nat
def wkOf(r:R)(d:D):M Wk:=match items d with
 |some xs=>ok ⟨xs.map dI,match r with | .loc l=>some l | .d _=>none⟩
 |none=>match d with
  |.str x=>if fit x.length then ok ⟨(x.map λc=>D.str [c]).map dI,none⟩ else λ_=>none
  |_=>λ_=>none
def zcH(r:R):M (Option (List Nat)):=λh=>match r with
 |.loc l=>match h[l]? with
  |some (.ols ls)=>some (some ls,h)|_=>some (none,h)
 |.d _=>some (none,h)
def wkAny(r:R):M Wk:=bnd (zcH r) λo=>match o with
 |some ls=>ok ⟨ls.map λl=>.r (.loc l),match r with | .loc l=>some l | .d _=>none⟩
 |none=>bnd (rd r) λd=>wkOf r d
def rngOf(r:R):M Wk:=match r with
 |.d (.int n)=>if decide (-(2^62)<=n)&&decide (n<=16777216) then ok ⟨(zbT 0 n.toNat).map dI,none⟩ else λ_=>none
 |_=>λ_=>none
mutual
noncomputable def Tg.slots:Tg->List Nat|.name i=>[i]|.tup ts=>Tg.slotss ts
noncomputable def Tg.slotss:List Tg->List Nat| []=>[]|t::ts=>t.slots++Tg.slotss ts
end
def clr:List Nat->Env->Env| [],σ=>σ|i::r,σ=>clr r (σ.set i none)
abbrev Calls:=Nat->List R->M R
def zed(x:R):M Unit:=λh=>match x with
 |.loc l=>match h[l]? with
  |some o=>if o.isL then some ((),h) else none|none=>none
 |.d _=>none
def newF(x:Str):M R:=λ(h:Sto)=>match h[0]? with|some Ob.tab=>some (.loc h.length,h++[.fnc x])|_=>none
def varM(σ:List (Option R))(i:Nat):M R:=λh=>match σ[i]? with|some (some r)=>some (r,h)|_=>none
def fnOf(x:R):M Str:=λh=>match x with
 |.loc l=>match h[l]? with
  |some (.fnc y)=>some (y,h)|_=>none
 |.d _=>none
def zcO(x:R):M Nat:=λh=>match x with
 |.loc l=>match h[l]? with
  |some (.ins _ _)=>some (l,h)|some (.lst _)=>some (l,h)|_=>none
 |.d _=>none
def allocO(ls:List Nat):M R:=λh=>some (.loc h.length,h++[.ols ls])
def meth:Me->R->List R->M R
 |.append,.loc l,[r]=>bnd (fz r) λd h=>match h[l]? with
  |some (.lst xs)=>if decide (xs.length<big) then some (.d .non,h.set l (.lst (xs++[d]))) else none|_=>none
 | .pop,.loc l,[]=>λh=>match h[l]? with
  |some (.lst xs)=>match xs[xs.length-1]? with
   |some y=>some (.d y,h.set l (.lst xs.dropLast))|none=>none
  |_=>none
 | .popAt,.loc l,[.d (.int i)]=>λh=>if decide (-(2^63)<=i)&&decide (i<2^63) then match h[l]? with
  | some (.lst xs)=>match ixn xs.length i with
   |some k=>match xs[k]? with
    |some y=>some (.d y,h.set l (.lst (xs.eraseIdx k)))|none=>none
   |none=>none
  |_=>none
  else none
 |.clear,.loc l,[]=>λh=>match h[l]? with
  |some (.lst xs)=>some (.d .non,h.set l (.lst []))|_=>none
 | .extend,.loc l,[r]=>bnd (rd r) λd h=>match d with
  |.lst ys=>match h[l]? with
   |some (.lst xs)=>if fit (xs.length+ys.length) then some (.d .non,h.set l (.lst (xs++ys))) else none|_=>none
  |_=>none
 |_,_,_=>λ_=>none
mutual
noncomputable def ev(Γ:Calls):E->Env->M R
 |.con d,_=>ok (.d d)
 |.var i,σ=>λh=>match σ[i]? with
  |some (some r)=>some (r,h)|_=>none
 |.bin o a b,σ=>bnd (ev Γ a σ) λx=>bnd (ev Γ b σ) λy=>bnd (rd x) λx=>bnd (rd y) λy=>bnd (opt (bop o x y)) λz=>ok (.d z)
 |.cmp o a b,σ=>bnd (ev Γ a σ) λx=>bnd (ev Γ b σ) λy=>bnd (rd x) λx=>bnd (rd y) λy=>bnd (opt (cop o x y)) λz=>ok (.d z)
 |.and a b,σ=>bnd (ev Γ a σ) λx=>match x with
  |.d (.bl c)=>if c then ev Γ b σ else ok (.d (.bl false))
  |_=>λ_=>none
 |.or a b,σ=>bnd (ev Γ a σ) λx=>match x with
  |.d (.bl c)=>if c then ok (.d (.bl true)) else ev Γ b σ
  |_=>λ_=>none
 |.not a,σ=>bnd (ev Γ a σ) λx=>bnd (rd x) λd=>bnd (opt (tru d)) λt=>ok (.d (.bl (!t)))
 |.ife c a b,σ=>bnd (tv Γ c σ) λt=>if t then ev Γ a σ else ev Γ b σ
 |.tup es,σ=>bnd (evs Γ es σ) λrs=>bnd (fzs rs) λds=>ok (.d (.tup ds))
 |.lst m l,σ=>bnd (evL Γ l σ) λxs=>if m then alloc xs else ok (.d (.lst xs))
 |.idx a i,σ=>bnd (ev Γ a σ) λx=>bnd (ev Γ i σ) λy=>bnd (rd x) λx=>bnd (rd y) λy=>bnd (opt (idxD x y)) λz=>ok (.d z)
 |.sli a lo hi,σ=>bnd (ev Γ a σ) λx=>bnd (ev Γ lo σ) λl=>bnd (ev Γ hi σ) λu=>bnd (rd x) λx=>bnd (rd l) λl=>bnd (rd u) λu=>bnd (opt (sliD x l u)) λz=>ok (.d z)
 |.call f es,σ=>bnd (evs Γ es σ) λrs=>Γ f rs
 |.bi b es,σ=>bnd (evs Γ es σ) λrs=>bnd (rds rs) λds=>bnd (opt (biD b ds)) λz=>ok (.d z)
 |.me m o es,σ=>bnd (ev Γ o σ) λx=>bnd (zed x) λ_=>bnd (evs Γ es σ) λrs=>meth m x rs
 |.glo d,_=>ok (.d d)
 |.isi t e,σ=>bnd (ev Γ e σ) λr=>bnd (rd r) λd=>ok (.d (.bl (isiD t d)))
 |.tm m o es,σ=>bnd (ev Γ o σ) λx=>bnd (evs Γ es σ) λrs=>bnd (rd x) λd=>bnd (rds rs) λds=>bnd (opt (tmD m d ds)) λz=>ok (.d z)
 |.lm m o a,σ=>bnd (ev Γ o σ) λx=>bnd (rd x) λ_=>bnd (ev Γ a σ) λy=>bnd (rd x) λx=>bnd (rd y) λy=>bnd (opt (lmD m x y)) λz=>ok (.d z)
 |.lstO tg it c el,σ=>bnd (evI Γ it σ) λw=>bnd (turns w.l (λx=>bnd (zaq tg x (clr tg.slots σ)) λσ'=>bnd (tvs Γ c σ') λt=>if t then bnd (ev Γ el σ') λr=>bnd (zcO r) λd=>ok (some d) else ok none) w.xs) λls=>allocO ls
 |.call0 f,_=>Γ f []|.lam x,_=>newF x
 |.cv i tb es,σ=>bnd (varM σ i) λx=>bnd (fnOf x) λy=>bnd (opt (tb.lookup y)) λf=>bnd (evs Γ es σ) λrs=>Γ f rs
 |.stuck,_=>λ_=>none
noncomputable def evs(Γ:Calls):List E->Env->M (List R)
 | [],_=>ok []
 |e::es,σ=>bnd (ev Γ e σ) λr=>bnd (evs Γ es σ) λrs=>ok (r::rs)
noncomputable def tv(Γ:Calls):T->Env->M Bool
 |.val e,σ=>bnd (ev Γ e σ) λr=>bnd (rd r) λd=>opt (tru d)
 |.and a b,σ=>bnd (tv Γ a σ) λt=>if t then tv Γ b σ else ok false
 |.or a b,σ=>bnd (tv Γ a σ) λt=>if t then ok true else tv Γ b σ
 |.not a,σ=>bnd (tv Γ a σ) λt=>ok (!t)
noncomputable def tvs(Γ:Calls):List T->Env->M Bool
 | [],_=>ok true
 |c::cs,σ=>bnd (tv Γ c σ) λt=>if t then tvs Γ cs σ else ok false
noncomputable def evL(Γ:Calls):L->Env->M (List D)
 |.disp es,σ=>bnd (evs Γ es σ) λrs=>fzs rs
 |.comp tg it c el,σ=>bnd (evI Γ it σ) λw=>turns w.l (λx=>bnd (zaq tg x (clr tg.slots σ)) λσ'=>bnd (tvs Γ c σ') λt=>if t then bnd (ev Γ el σ') λr=>bnd (fz r) λd=>ok (some d) else ok none) w.xs
 |.of e,σ=>bnd (ev Γ e σ) λr=>bnd (rd r) λd=>opt (items d)
 |.spl a b,σ=>bnd (ev Γ a σ) λx=>bnd (ev Γ b σ) λy=>bnd (rd x) λx=>bnd (rd y) λy=>opt (splD x y)
 |.cat a b,σ=>bnd (ev Γ a σ) λx=>bnd (ev Γ b σ) λy=>bnd (rd x) λx=>bnd (rd y) λy=>opt (catD x y)
 |.sst e,σ=>bnd (ev Γ e σ) λr=>bnd (rd r) λd=>opt (zdl d)
noncomputable def evI(Γ:Calls):I->Env->M Wk
 |.seq e,σ=>bnd (ev Γ e σ) λr=>wkAny r
 |.rng e,σ=>bnd (ev Γ e σ) λr=>rngOf r
noncomputable def fzs:List R->M (List D)
 | []=>ok []
 |r::rs=>bnd (fz r) λd=>bnd (fzs rs) λds=>ok (d::ds)
noncomputable def rds:List R->M (List D)
 | []=>ok []
 |r::rs=>bnd (rd r) λd=>bnd (rds rs) λds=>ok (d::ds)
end
set_option genInjectivity false in
inductive S where|asg (tg:Tg) (e:E)|setI (o i e:E)|exp (e:E)|ife (c:T) (a b:List S)|for (tg:Tg) (it:I) (body:List S)|ret (e:E)|brk|cnt|raiN (c:Nat) (e:E)|tryb (e:E) (c j o m:Nat)|stuck
inductive Fl where|nx | ret (r:R) | brk | cnt
def raN(c:Nat)(r:R):M R:=match r with
 |.d (.int k)=>if k.natAbs<2^200 then ok (.d (.tup [.int c,.int k])) else λ_=>none
 |_=>λ_=>none
def numE(c:Nat)(r:R):Option Int:=match r with|.d (.tup [.int x,.int k])=>if x=(c:Int) then some k else none|_=>none
def tryN(c m:Nat)(f g:Env->M R):Env->M (Fl×Env):=λσ h=>match f σ h with
 |some (_,h1)=>some ((.nx,σ),h1)
 | none=>match g σ h with
  | some (r,h1)=>match numE c r with
   |some k=>match σ[m]? with
    |some (some (.d (.int n)))=>some ((.ret (.d (.bl (k==n))),σ),h1)|_=>none
   |none=>none
  |none=>none
def zd6(x:R)(i:D)(d:D):M Unit:=λh=>match x,i with
 | .loc l,.int k=>match h[l]? with
  |some (.lst xs)=>match ixn xs.length k with
   |some j=>some ((),h.set l (.lst (xs.set j d)))|none=>none
  |_=>none
 |_,_=>none
def loop(l:Option Nat)(f:Ite->Env->M (Fl×Env)):List Ite->Env->M (Fl×Env)
 | [],σ=>ok (.nx,σ)
 | x::xs,σ=>λh=>match f x σ h with
  |some ((fl,σ1),h1)=>match fl with
   |.ret r=>some ((.ret r,σ1),h1)|.brk=>some ((.nx,σ1),h1)|_=>if zaA l h h1 then loop l f xs σ1 h1 else none
  |none=>none
def xof(f:Nat):Nat:=f+1000
def evC(Γ:Calls)(e:E)(σ:Env):M R:=match e with
 |.call f es=>bnd (evs Γ es σ) λrs=>Γ (xof f) rs
 |.cv i tb es=>bnd (varM σ i) λx=>bnd (fnOf x) λy=>bnd (opt (tb.lookup y)) λf=>bnd (evs Γ es σ) λrs=>Γ (xof f) rs
 |_=>λ_=>none
def evX(Γ:Calls)(e:E)(σ:Env):M R:=λh=>match e with
 | .call f es=>match evs Γ es σ h with
  |some (rs,h1)=>Γ (xof f) rs h1
  |none=>match es with
   | [.lst _ (.comp _ (.seq a) _ _)]=>evC Γ a σ h|_=>none
 |_=>none
mutual
noncomputable def ex(Γ:Calls):S->Env->M (Fl×Env)
 |.asg tg e,σ=>bnd (ev Γ e σ) λr=>bnd (bindT tg r σ) λσ'=>ok (.nx,σ')
 |.setI o i e,σ=>bnd (ev Γ e σ) λr=>bnd (ev Γ o σ) λx=>bnd (ev Γ i σ) λy=>bnd (fz r) λd=>bnd (rd y) λy=>bnd (zd6 x y d) λ_=>ok (.nx,σ)
 |.exp e,σ=>bnd (ev Γ e σ) λ_=>ok (.nx,σ)
 |.ife c a b,σ=>bnd (tv Γ c σ) λt=>if t then exs Γ a σ else exs Γ b σ
 |.for tg it body,σ=>bnd (evI Γ it σ) λw=>loop w.l (λx σ=>bnd (zaq tg x σ) λσ'=>exs Γ body σ') w.xs σ
 |.ret e,σ=>bnd (ev Γ e σ) λr=>ok (.ret r,σ)
 |.brk,σ=>ok (.brk,σ)|.cnt,σ=>ok (.cnt,σ)
 |.raiN _ _,_=>λ_=>none
 |.tryb e c _ _ m,σ=>tryN c m (ev Γ e) (evC Γ e) σ
 |.stuck,_=>λ_=>none
noncomputable def exs(Γ:Calls):List S->Env->M (Fl×Env)
 | [],σ=>ok (.nx,σ)
 |s::r,σ=>bnd (ex Γ s σ) λp=>match p.1 with
  |.nx=>exs Γ r p.2|_=>ok p
end
def zgU(l:Option Nat)(f:Ite->Env->M (Fl×Env))(g:Ite->Env->M R):List Ite->Env->M R
 | [],_=>λ_=>none
 | x::xs,σ=>λh=>match f x σ h with
  |some ((fl,σ1),h1)=>match fl with
   |.nx=>if zaA l h h1 then zgU l f g xs σ1 h1 else none|.cnt=>if zaA l h h1 then zgU l f g xs σ1 h1 else none|_=>none
  |none=>g x σ h
mutual
noncomputable def exX(Γ:Calls):S->Env->M R
 |.asg _ e,σ=>match e with
  |.call f es=>bnd (evs Γ es σ) λrs=>Γ (xof f) rs
  |_=>λ_=>none
 |.ife c a b,σ=>bnd (tv Γ c σ) λt=>if t then exXs Γ a σ else exXs Γ b σ
 |.for tg it body,σ=>bnd (evI Γ it σ) λw=>zgU w.l (λx σ=>bnd (zaq tg x σ) λσ'=>exs Γ body σ') (λx σ=>bnd (zaq tg x σ) λσ'=>exXs Γ body σ') w.xs σ
 |.setI _ _ _,_=>λ_=>none
 |.exp _,_=>λ_=>none
 |.ret e,σ=>evX Γ e σ
 |.brk,_=>λ_=>none
 |.cnt,_=>λ_=>none
 |.raiN c e,σ=>bnd (ev Γ e σ) λr=>raN c r
 |.tryb _ _ _ _ _,_=>λ_=>none
 |.stuck,_=>λ_=>none
noncomputable def exXs(Γ:Calls):List S->Env->M R
 | [],_=>λ_=>none
 | s::r,σ=>λh=>match ex Γ s σ h with
  |some ((fl,σ1),h1)=>match fl with
   |.nx=>exXs Γ r σ1 h1|_=>none
  |none=>exX Γ s σ h
end
structure F where
 np:Nat
 ns:Nat
 body:List S
 keep:Bool
 dfl:List D
 all:Bool:=false
 lam:Bool:=false
def zao(np:Nat)(dfl:List D)(rs:List R):List R:=if rs.length+dfl.length<np then rs else rs++(dfl.drop (rs.length+dfl.length-np)).map R.d
def R.same:R->R->Bool
 |.d x,y=>match y with
  |.d z=>D.same x z|_=>false
 |.loc l,y=>match y with
  |.loc k=>l==k|_=>false
def zca:List (Str×R)->List (Str×R)->Bool
  | [],ys=>ys.isEmpty
  | (f,x)::r,ys=>match ys with
    |(g,y)::t=>f==g&&x.same y&&zca r t| []=>false
def objs:Sto->Sto->Bool
 | [],_=>true
 | o::h,h1=>match h1 with
  | []=>false
  |o1::t=>(match o,o1 with
   |.ins c fs,.ins c1 fs1=>c==c1&&zca fs fs1|.ols a,.ols b=>a==b|.fnc a,.fnc b=>a==b|.tab,.tab=>true|.lst _,.lst _=>true|.lst _,.fro _=>true|.fro _,.lst _=>true|.fro _,.fro _=>true
   |_,_=>false)&&objs h t
def fin0(n0:Nat)(keep:Bool)(r:R)(h1:Sto):Option (R×Sto):=match r with
 |.d x=>some (.d x,h1.take n0)
 |.loc l=>if l<n0 then some (.loc l,h1.take n0) else match h1[l]? with
  |some (.lst xs)=>if keep then some (.loc n0,h1.take n0++[.lst xs]) else some (.d (.lst xs),h1.take n0)|some (.fro xs)=>some (.d (.lst xs),h1.take n0)|_=>none
def fin(h:Sto)(all keep:Bool)(r:R)(h1:Sto):Option (R×Sto):=if all then some (r,h1) else if objs h h1 then fin0 h.length keep r h1 else none
def finX(h:Sto)(all keep:Bool)(r:R)(h1:Sto):Option (R×Sto):=match r with
 |.d (.int c)=>fin h all keep (.d (.int c)) h1
 |.d (.tup [.int c,.int k])=>match fin h all keep (.d (.int c)) h1 with
  |some (_,h2)=>some (.d (.tup [.int c,.int k]),h2)|none=>none
 |_=>none
def zae(P:List F):Nat->Calls
 |0,_,_=>λ_=>none
 | n + 1,f,rs=>λh=>match P[f]? with
  | some F=>if(zao F.np F.dfl rs).length=F.np then match exs (zae P n) F.body ((zao F.np F.dfl rs).map some++ZN (F.ns-F.np) none) h with
    |some ((.ret r,_),h1)=>fin h F.all F.keep r h1|some ((.nx,_),h1)=>fin h F.all F.keep (.d .non) h1|_=>none
   else none
  | none=>match P[f-1000]? with
   | some F=>if(zao F.np F.dfl rs).length=F.np then match exXs (zae P n) F.body ((zao F.np F.dfl rs).map some++ZN (F.ns-F.np) none) h with
     |some (r,h1)=>finX h F.all F.keep r h1|none=>none
    else none
   |none=>none
theorem zaJ(P:List F)(n f:Nat)(rs:List R)(h:Sto):zae P (n+1) f rs h=match P[f]? with
  | some F=>if(zao F.np F.dfl rs).length=F.np then match exs (zae P n) F.body ((zao F.np F.dfl rs).map some++ZN (F.ns-F.np) none) h with
    |some ((.ret r,_),h1)=>fin h F.all F.keep r h1|some ((.nx,_),h1)=>fin h F.all F.keep (.d .non) h1|_=>none
   else none
  | none=>match P[f-1000]? with
   | some F=>if(zao F.np F.dfl rs).length=F.np then match exXs (zae P n) F.body ((zao F.np F.dfl rs).map some++ZN (F.ns-F.np) none) h with
     |some (r,h1)=>finX h F.all F.keep r h1|none=>none
    else none
   |none=>none:=rfl
theorem zfr{P:List F}{n f:Nat}{rs:List R}{h:Sto}{F:F}(hP:P.length<=1000)(e:P[f]?=some F):zae P (n+1) (xof f) rs h=if(zao F.np F.dfl rs).length=F.np then match exXs (zae P n) F.body ((zao F.np F.dfl rs).map some++ZN (F.ns-F.np) none) h with|some (r,h1)=>finX h F.all F.keep r h1|none=>none
 else none:=by
 rw[zaJ]
 have e1:P[xof f]?=none:=YA (by unfold xof;omega)
 have e2:xof f-1000=f:=by unfold xof;omega
 simp only[e1,e2,e]
end IT
namespace IT
open PySem
def zaa(x:List Nat):Str:=⟨x.toArray⟩
theorem zag(x:List Nat):(zaa x).length=x.length:=by simp[zaa,Str.length]
theorem zb1(h:zaa x=zaa y):x=y:=by
 have:=congrArg (λs:Str=>s.cps.toList) h
 simpa[zaa] using this
theorem zjO(x y:List Nat):zaa x++zaa y=zaa (x++y):=by show Str.append _ _=_;simp[zaa,Str.append]
mutual
noncomputable def KAt(h:Heap):D->Value->Prop|.int i,u=>∃t,u=.int i t|.str x,u=>∃t,u=.str (zaa x) t|.tup xs,u=>∃a its,u=.ref a/\h.IsTuple a its/\KAts h xs its.toList|.non,_=>False|.bl _,_=>False|.lst _,_=>False
noncomputable def KAts(h:Heap):List D->List Value->Prop| [],us=>us=[]|x::xs,us=>∃u r,us=u::r/\KAt h x u/\KAts h xs r
end
mutual
noncomputable def zaj(w:World):D->Int|.int i=>hashInt i|.str x=>hashStr w (zaa x)|.tup xs=>reduceHash (XI (kHashs w xs))|.non=>0|.bl _=>0|.lst _=>0
noncomputable def kHashs(w:World):List D->List Int| []=>[]|x::xs=>zaj w x::kHashs w xs
end
mutual
noncomputable def zdN:D->Nat|.tup xs=>kDrawss xs+1|.int _=>1|.str _=>1|.non=>1|.bl _=>1|.lst _=>1
noncomputable def kDrawss:List D->Nat| []=>0|x::xs=>zdN x+kDrawss xs
end
theorem zdU:∀xs ys:List D,kDrawss (xs++ys)=kDrawss xs+kDrawss ys| [],ys=>by simp[kDrawss]|x::xs,ys=>by simp only[XN,kDrawss,zdU xs ys];omega
theorem zex(w:World):∀xs ys:List D,kHashs w (xs++ys)=kHashs w xs++kHashs w ys| [],ys=>rfl|x::xs,ys=>by simp only[XN,kHashs,zex w xs ys]
mutual
theorem KAt.keep(k:∀a its,h.IsTuple a its->h'.IsTuple a its):∀(x:D) (u:Value),KAt h x u->KAt h' x u|.int _,_,q=>by simp only[KAt] at q⊢;exact q|.str _,_,q=>by simp only[KAt] at q⊢;exact q|.tup xs,_,q=>by simp only[KAt] at q⊢;obtain⟨a,its,e,t,r⟩:=q;exact⟨a,its,e,k a its t,KAts.keep k xs _ r⟩|.non,_,q=>by simp only[KAt] at q|.bl _,_,q=>by simp only[KAt] at q|.lst _,_,q=>by simp only[KAt] at q
theorem KAts.keep(k:∀a its,h.IsTuple a its->h'.IsTuple a its):∀(x:List D) (u:List Value),KAts h x u->KAts h' x u| [],_,q=>by simp only[KAts] at q⊢;exact q|x::xs,_,q=>by simp only[KAts] at q⊢;obtain⟨u,r,e,q1,q2⟩:=q;exact⟨u,r,e,KAt.keep k x u q1,KAts.keep k xs r q2⟩
end
theorem zeh{h:Heap}(p:h.IsTuple a xs)(q:h.IsTuple a ys):xs=ys:=by
 obtain⟨o,e,_,n,d⟩:=p;obtain⟨o',e',_,n',d'⟩:=q
 rw[e] at e';cases e';rw[d] at d';cases d';rfl
mutual
theorem KAt.inj{h:Heap}:∀(x y:D) (u:Value),KAt h x u->KAt h y u->x=y
 |.int a,y,u,p,q=>by
  simp only[KAt] at p;obtain⟨t,rfl⟩:=p
  cases y<;>simp[KAt] at q
  rw[q]
 |.str a,y,u,p,q=>by
  simp only[KAt] at p;obtain⟨t,rfl⟩:=p
  cases y<;>simp[KAt] at q
  rw[zb1 q]
 | .tup a,y,u,p,q=>by
  simp only[KAt] at p;obtain⟨c,its,rfl,t,r⟩:=p
  cases y with
  |tup b=>
   simp only[KAt] at q;obtain⟨c',its',e,t',r'⟩:=q;cases e
   have:=zeh t t'
   subst this;rw[KAts.inj a b _ r r']
  |_=>simp[KAt] at q
 |.non,_,_,p,_=>by simp only[KAt] at p|.bl _,_,_,p,_=>by simp only[KAt] at p|.lst _,_,_,p,_=>by simp only[KAt] at p
theorem KAts.inj:∀(x y:List D) (u:List Value),KAts h x u->KAts h y u->x=y| [],[],_,_,_=>rfl| [],_::_,_,p,q=>by simp only[KAts] at p q;subst p;obtain⟨_,_,e,_⟩:=q;cases e|_::_,[],_,p,q=>by simp only[KAts] at p q;subst q;obtain⟨_,_,e,_⟩:=p;cases e|x::xs,y::ys,_,p,q=>by simp only[KAts] at p q;obtain⟨u,r,rfl,p1,p2⟩:=p;obtain⟨u',r',e,q1,q2⟩:=q;cases e;rw[KAt.inj x y u p1 q1,KAts.inj xs ys r p2 q2]
end
theorem KAts.length:∀{x:List D} {u:List Value},KAts h x u->x.length=u.length| [],_,q=>by simp only[KAts] at q;subst q;rfl|x::xs,_,q=>by simp only[KAts] at q;obtain⟨u,r,rfl,_,q⟩:=q;simp only[ZP,KAts.length q]
theorem KAts.at:∀{x:List D} {u:List Value},KAts h x u->∀(j:Nat) (d:D),x[j]?=some d->∃v,u[j]?=some v/\KAt h d v
 | [],_,_,j,d,e=>by simp at e
 |x::xs,_,q,j,d,e=>by
  simp only[KAts] at q;obtain⟨u,r,rfl,q1,q2⟩:=q
  cases j with|zero=>simp at e;subst e;exact⟨u,rfl,q1⟩|succ j=>simp at e;simpa using KAts.at q2 j d e
theorem zhu:∀{xs:List D} {x:D} {i:Nat},xs[i]?=some x->x.dep<=D.deps xs
 | [],x,i,e=>by simp at e
 |y::xs,x,i,e=>by
  cases i with|zero=>simp at e;subst e;simp only[D.deps];omega|succ i=>simp at e;have:=zhu e;simp only[D.deps];omega
def zdq(xs ys:List D)(j:Nat):Bool:=match xs[j]?,ys[j]? with|some x,some y=>x.same y|_,_=>false
theorem zfE:∀xs ys:List D,((ZA (min xs.length ys.length)).all (zdq xs ys)&&xs.length==ys.length)=D.sames xs ys
 | [],[]=>rfl| [],_::_=>by simp[D.sames]|_::_,[]=>by simp[D.sames]
 |x::xs,y::ys=>by
  have ih:=zfE xs ys
  have e:min (x::xs).length (y::ys).length=min xs.length ys.length+1:=by simp only[ZP];omega
  rw[e,List.range_succ_eq_map,Vb,List.all_map,D.sames,<-ih]
  have e2:(zdq (x::xs) (y::ys)∘Nat.succ)=zdq xs ys:=by funext j;rfl
  rw[e2];show(x.same y&&_&&_)=_;rw[Bool.and_assoc]
  congr 2
  simp
theorem zb5{x y:D}(h:x≠y):x.same y=false:=by
 cases e:x.same y
 ·rfl
 ·exact absurd (D.same_eq x y e) h
open SeqAt in
theorem kEq{s:Shared}:∀(n:Nat) (x y:D) (A:Around) (u v:Value),x.dep<=n->KAt s.heap x u->KAt s.heap y v->A.units+n<cLine->EqAt A s u v (x.same y)
 |n,.int a,y,A,u,v,hn,p,q,hu=>by
  simp only[KAt] at p;obtain⟨t,rfl⟩:=p
  cases y with|int b=>simp only[KAt] at q;obtain⟨t',rfl⟩:=q;exact EqAt.int_int a t b t'|str b=>simp only[KAt] at q;obtain⟨t',rfl⟩:=q;exact EqAt.int_str a t _ t'|tup b=>simp only[KAt] at q;obtain⟨c,its,rfl,t',_⟩:=q;exact EqAt.int_tuple a t t' (by omega)|_=>simp[KAt] at q
 | n, .str a,y,A,u,v,hn,p,q,hu=>by
  simp only[KAt] at p;obtain⟨t,rfl⟩:=p
  cases y with
  |int b=>simp only[KAt] at q;obtain⟨t',rfl⟩:=q;exact EqAt.str_int _ t b t'
  | str b=>
   simp only[KAt] at q;obtain⟨t',rfl⟩:=q
   have z:=EqAt.str_str (A:=A) (s:=s) (zaa a) t (zaa b) t'
   have e:(zaa a==zaa b)=(D.str a).same (D.str b):=by
    show _=(a==b)
    by_cases h:a=b
    ·subst h;simp
    ·rw[beq_eq_false_iff_ne.mpr h,beq_eq_false_iff_ne.mpr λz=>h (zb1 z)]
   rw[e] at z;exact z
  |tup b=>simp only[KAt] at q;obtain⟨c,its,rfl,t',_⟩:=q;exact EqAt.str_tuple _ t t' (by omega)|_=>simp[KAt] at q
 | n, .tup a,y,A,u,v,hn,p,q,hu=>by
  simp only[KAt] at p;obtain⟨c,its,rfl,t,r⟩:=p
  cases y with
  |int b=>simp only[KAt] at q;obtain⟨t',rfl⟩:=q;exact EqAt.tuple_int b t' t (by omega)|str b=>simp only[KAt] at q;obtain⟨t',rfl⟩:=q;exact EqAt.tuple_str _ t' t (by omega)
  | tup b=>
   simp only[KAt] at q;obtain⟨c',its',rfl,t',r'⟩:=q
   by_cases hc:c=c'
   ·subst hc
    have e1:=zeh t t';subst e1;have e2:=KAts.inj a b _ r r';subst e2;exact(show D.same (.tup a) (.tup a)=true from D.same_refl _)▸EqAt.same _
   ·refine EqAt.of_refs hc ?_
    match n,hn with
    |0,hn=>simp only[D.dep] at hn;omega
    | n + 1,hn=>
     have l1:=r.length;have l2:=r'.length
     have z:=RcAt.tuples (A:=A) (e:=zdq a b) t t' (by omega) (λj h1 h2=>by
      have j1:j<a.length:=by rw[l1];simpa using h1
      have j2:j<b.length:=by rw[l2];simpa using h2
      obtain⟨w,e3,k3⟩:=r.at j _ (Z4 j1);obtain⟨w',e4,k4⟩:=r'.at j _ (Z4 j2);have hd:=zhu (Z4 j1)
      have ih:=kEq n (a[j]) (b[j]) A.in1 w w' (by simp only[D.dep] at hn;omega) k3 k4 (by show A.units+1+n<cLine;omega)
      have e5:zdq a b j=(a[j]).same (b[j]):=by simp[zdq,Z4 j1,Z4 j2]
      rw[e5]
      have e6:its[j]=w:=by
       have:=Z2.mp e3
       obtain⟨_,e⟩:=this
       simpa using e
      have e7:its'[j]=w':=by
       obtain⟨_,e⟩:=Z2.mp e4
       simpa using e
      rw[e6,e7]
      exact ih)
     have e8:((ZA (min its.size its'.size)).all (zdq a b)&&its.size==its'.size)=D.sames a b:=by rw[<-zfE,l1,l2];simp
     rw[e8] at z;exact z
  |_=>simp[KAt] at q
 |_,.non,_,_,_,_,_,p,_,_=>by simp only[KAt] at p|_,.bl _,_,_,_,_,_,p,_,_=>by simp only[KAt] at p|_,.lst _,_,_,_,_,_,p,_,_=>by simp only[KAt] at p
theorem zaO{s:Shared}(t:s.heap.IsTuple a its):s.TypeIs (.ref a) "tuple":=let ⟨o,e,c,_⟩:=t;⟨o,e,c⟩
section
variable {prog:ZB}{w:World}{E:Value->Shared->Prop}
theorem zfj:∀(n:Nat) (x:D) (A:Around) (s:Shared) (u:Value) (Q:Int->Shared->Prop),x.dep<=n->KAt s.heap x u->A.units+n<cLine->Q (zaj w x) {s with toks:=s.toks+zdN x} →
  wpAny (model prog w) A (pyHash u) Q E s
 |n,.int a,A,s,u,Q,hn,p,hu,q=>by simp only[KAt] at p;obtain⟨t,rfl⟩:=p;exact wpAny_pyHash_int q|n,.str a,A,s,u,Q,hn,p,hu,q=>by simp only[KAt] at p;obtain⟨t,rfl⟩:=p;exact wpAny_pyHash_str q|0,.tup a,A,s,u,Q,hn,p,hu,q=>by simp only[D.dep] at hn;omega
 | n + 1,.tup a,A,s,u,Q,hn,p,hu,q=>by
  simp only[KAt] at p;obtain⟨c,its,rfl,t,r⟩:=p;have T:=zaO t;obtain⟨o,ho,_,m,hd⟩:=t
  have hdep:D.deps a<=n:=by simp only[D.dep] at hn;omega
  unfold pyHash
  first | unfold pyHashByItsType | skip
  first | refine Z9 (wpAny_cRoomFor_or (.inr (show A.units<cLine by omega)) ?_) | skip
  refine Z9 (WL T W7.lookup ?_);show wpAny _ _ (if(some (Yd "tuple.__hash__")==some X3)=true then _ else _) Q E _
  rw[if_neg (by rw[beq_builtin_none];exact Zc)]
  refine Z9 (WL T W7.lookup ?_);show wpAny _ _ (callSpecialIfBoundUnlessNone? (.ref c) "__hash__" _ >>= _) Q E _;refine Z9 (wpAny_callSpecialIfBoundUnlessNone?_slot T W7 (Yj W7 T F.entry_tuple_hash ?_ (F.args_tuple_hash_1 _)));show wpAny _ A.in1 (W5 (.ref c) >>= _) _ _ _;refine Z9 (VL ho hd (Z9 ?_));rw[<-WD];refine Xq _ (λrest (b:Array Int) s1=>∃done left,a=done++left/\KAts s.heap left rest/\b.toList=kHashs w done/\s1={s with toks:=s.toks+kDrawss done}) _ ?_ ?_ _ _ ⟨[],a,rfl,r,rfl,rfl⟩
  ·rintro v rest b s1 ⟨done,left,rfl,hl,hb,rfl⟩
   cases left with
   |nil=>simp only[KAts] at hl;cases hl
   | cons k ks=>
    simp only[KAts] at hl;obtain⟨v',rest',ez,k1,k2⟩:=hl;cases ez
    have hk:k.dep<=n:=by
     have:=zhu (xs:=done++k::ks) (x:=k) (i:=done.length) (by simp)
     omega
    refine Z9 (zfj n k A.in1 _ v _ hk k1 (by show A.units+1+n<cLine;omega) ?_)
    have fin:∃d2 l2,done++k::ks=d2++l2/\KAts s.heap l2 rest/\(b.push (zaj w k)).toList=kHashs w d2/\({s with toks:=s.toks+kDrawss done+zdN k}:Shared)={s with toks:=s.toks+kDrawss d2}:=⟨done++[k],ks,by simp,k2,by simp[hb,zex,kHashs],by simp[zdU,kDrawss,Va]⟩
    first | exact Z6 fin | exact Z9 (Z6 (Z6 fin))
  ·rintro b s1 ⟨done,left,rfl,hl,hb,rfl⟩
   cases left with
   |cons k ks=>simp only[KAts] at hl;obtain⟨_,_,ez,_⟩:=hl;cases ez
   | nil=>
    rw[Ym] at q;show wpAny _ _ (retInt (XI b.toList)) _ _ _;rw[hb];refine wpAny_ret_mkInt ?_
    have q2:Q (reduceHash (XI (kHashs w done))) {s with toks:=s.toks+(kDrawss done+1)}:=by simp only[zaj,zdN] at q;exact q
    clear q;unfold reduceHash at q2;generalize XI (kHashs w done)=z at q2⊢;show wpAny _ _ (if(decide (-(2:Int)^63<=z)&&decide (z<2^63))=true then _ else _) Q E _
    by_cases hr:(decide (-(2:Int)^63<=z)&&decide (z<2^63))=true
    ·rw [if_pos hr] at q2⊢
     exact Z6 (by simpa[Va] using q2)
    ·rw [if_neg hr] at q2⊢
     exact Z9 (Xg (Z6 (by simpa[Va] using q2)))
 |_,.non,_,_,_,_,_,p,_,_=>by simp only[KAt] at p|_,.bl _,_,_,_,_,_,p,_,_=>by simp only[KAt] at p|_,.lst _,_,_,_,_,_,p,_,_=>by simp only[KAt] at p
theorem zh1:∀(n:Nat) (x:D) (A:Around) (s:Shared) (u:Value) (Q:Bool->Shared->Prop),x.dep<=n->KAt s.heap x u->Q true s->wpAny (model prog w) A (eqIsQuiet n u) Q E s
 |n,.int a,A,s,u,Q,hn,p,q=>by simp only[KAt] at p;obtain⟨t,rfl⟩:=p;rw[eqIsQuiet_byValue n rfl];exact Z6 q|n,.str a,A,s,u,Q,hn,p,q=>by simp only[KAt] at p;obtain⟨t,rfl⟩:=p;rw[eqIsQuiet_byValue n rfl];exact Z6 q|0,.tup a,A,s,u,Q,hn,p,q=>by simp only[D.dep] at hn;omega
 | n + 1,.tup a,A,s,u,Q,hn,p,q=>by
  simp only[KAt] at p;obtain⟨c,its,rfl,t,r⟩:=p;have T:=zaO t;obtain⟨o,ho,_,m,hd⟩:=t
  have hdep:D.deps a<=n:=by simp only[D.dep] at hn;omega
  unfold eqIsQuiet;refine Z9 (WL T F.slot_tuple_eq.lookup ?_);show wpAny _ _ (UT (.ref c) (.type "tuple") >>= _) _ _ _;refine Z9 (Xp T isSubtype_tuple_tuple ?_);simp only[YW,Z1,if_false];refine Z9 (wpAny_seqItems ho hd (Z9 ?_));show wpAny _ _ (forIn its _ _) _ _ _;rw[<-WD];refine Xq _ (λrest r s1=>r.1=none/\s1=s/\∃left,D.deps left<=n/\KAts s.heap left rest) _ ?_ ?_ _ _ ⟨rfl,rfl,a,hdep,r⟩
  ·rintro v rest r s1 ⟨hr,rfl,left,hl,hk⟩
   cases left with|nil=>simp only[KAts] at hk;cases hk|cons k ks=>simp only[KAts] at hk;obtain⟨v',rest',ez,k1,k2⟩:=hk;cases ez;simp only[D.deps] at hl;refine Z9 (zh1 n k A _ v _ (by omega) k1 ?_);simp only[YW,Z1,if_false];exact Z6 ⟨rfl,rfl,ks,by omega,k2⟩
  ·rintro⟨r1,r2⟩ s1 ⟨hr,rfl,_⟩
   simp only at hr;subst hr;exact Z6 q
 |_,.non,_,_,_,_,_,p,_=>by simp only[KAt] at p|_,.bl _,_,_,_,_,_,p,_=>by simp only[KAt] at p|_,.lst _,_,_,_,_,_,p,_=>by simp only[KAt] at p
end
noncomputable instance:DecidableEq D:=λx y=>if h:x.same y=true then isTrue (D.same_eq x y h) else isFalse λe=>h (e▸D.same_refl x)
theorem zgL(x y:D):x.same y=decide (x=y):=by
 by_cases h:x=y
 ·subst h;rw[D.same_refl,decide_eq_true rfl]
 ·rw[zb5 h,decide_eq_false h]
theorem zjn(ho:h.get? d=some o)(hd:o.data=.dict es ep)(hs:Yc d h h')(a:Addr)(its:Array Value)(t:h.IsTuple a its):h'.IsTuple a its:=by
 obtain⟨o',e,c,n,dt⟩:=t
 have ne:a≠d:=by
  rintro rfl
  rw[ho] at e;cases e
  rw[hd] at dt;cases dt
 exact⟨o',(hs.2 a ne).trans e,c,n,dt⟩
def zpl(prog:ZB)(w:World):HeapKind prog w D where
 is:=λh x a=>x.dep<=8/\KAt h x (.ref a)
 hash:=zaj w
 draws:=zdN
 room:=λA=>A.units+8<cLine
 inj:=λhx hy=>KAt.inj _ _ _ hx.2 hy.2
 keeps:=λx ho hd hs=>⟨x.1,KAt.keep (zjn ho hd hs) _ _ x.2⟩
 pyHash:=λhu hk q=>zfj 8 _ _ _ _ _ hk.1 hk.2 hu q
 eqBool:=λhu hx hy q=>kEq 8 _ _ _ _ _ hx.1 hx.2 hy.2 hu _ _ _ _ (by rw[zgL];exact q)
 quiet:=λhk q=>zh1 8 _ _ _ _ _ hk.1 hk.2 q
end IT
namespace L2
open PySem PySem.Spec PyProof.Rows
abbrev Key:=Sum Int Str
def zpJ:Key->Value->Bool|.inl k,v=>Value.isInt k v|.inr x,v=>Value.isStrOf x v
def keyH(w:World):Key->Int|.inl k=>hashInt k|.inr x=>hashStr w x
theorem zav:∀{k:Key} {v:Value},zpJ k v=true->(∃i t,k=US i/\v=Value.int i t)\/(∃x t,k=UR x/\v=Yp x t)|.inl i,v,h=>by obtain⟨t,e⟩:=Value.isInt_shape (k:=i) (v:=v) h;exact .inl ⟨i,t,rfl,e⟩|.inr x,v,h=>by obtain⟨t,e⟩:=Value.isStrOf_shape (x:=x) (v:=v) h;exact .inr ⟨x,t,rfl,e⟩
theorem zq2(a b:Int):decide ((US a:Key)=US b)=(a==b):=by
 by_cases e:a=b
 ·subst e;simp
 ·have h:¬(US a:Key)=US b:=λq=>e (US.inj q)
  rw[decide_eq_false h];exact(beq_eq_false_iff_ne.mpr e).symm
theorem zp3(a b:Str):decide ((UR a:Key)=UR b)=decide (a=b):=by
 by_cases e:a=b
 ·subst e;simp
 ·have h:¬(UR a:Key)=UR b:=λq=>e (UR.inj q)
  rw[decide_eq_false h,decide_eq_false e]
theorem zp8(a:Int)(b:Str):decide ((US a:Key)=UR b)=false:=decide_eq_false (λq=>nomatch q)
theorem zqR(a:Str)(b:Int):decide ((UR a:Key)=US b)=false:=decide_eq_false (λq=>nomatch q)
def zj8(prog:ZB)(w:World):PySem.KeyKind prog w Key where
 is:=zpJ
 hash:=keyH w
 inj:=λv a b ha hb=>by
  rcases zav ha with⟨i,t,rfl,rfl⟩|⟨x,t,rfl,rfl⟩
  ·rcases zav hb with⟨j,u,rfl,e⟩|⟨y,u,rfl,e⟩
   ·injection e with e1 _;rw[e1]
   ·exact nomatch e
  ·rcases zav hb with⟨j,u,rfl,e⟩|⟨y,u,rfl,e⟩
   ·exact nomatch e
   ·injection e with e1 _;rw[e1]
 byValue:=λk v h=>by rcases zav h with⟨i,t,rfl,rfl⟩|⟨x,t,rfl,rfl⟩<;>rfl
 pyHash:=λhv h=>by
  rcases zav hv with⟨i,t,rfl,rfl⟩|⟨x,t,rfl,rfl⟩
  ·exact wpAny_pyHash_int h
  ·exact wpAny_pyHash_str h
 eqBool:=λhu hv h=>by
  rcases zav hu with⟨i,t,rfl,rfl⟩|⟨x,t,rfl,rfl⟩
  ·rcases zav hv with⟨j,u,rfl,rfl⟩|⟨y,u,rfl,rfl⟩
   ·rw[zq2] at h;exact wpAny_eqBool_int h
   ·rw[zp8] at h;exact X2.int_str i t y u _ _ _ _ h
  ·rcases zav hv with⟨j,u,rfl,rfl⟩|⟨y,u,rfl,rfl⟩
   ·rw[zqR] at h;exact X2.str_int x t j u _ _ _ _ h
   ·rw[zp3] at h;exact wpAny_eqBool_str h
 «strs»:=λk x t v h=>by
  rcases zav h with⟨i,u,rfl,e⟩|⟨y,u,rfl,e⟩
  ·exact nomatch e
  ·injection e with e1 _
   subst e1
   cases v<;>rfl
inductive V where|non | bl (b:Bool) | int (i:Int) | str (x:Str) | byt (b:Array UInt8) | flt (b:UInt64) | ref (a:Addr) | ty (n:String)
 deriving DecidableEq
def RelV:V->Value->Prop|.non,u=>u=X3|.bl b,u=>u=WC b|.int i,u=>∃t,u=Value.int i t|.str x,u=>∃t,u=Yp x t|.byt b,u=>∃t,u=Value.bytes b t|.flt b,u=>∃t,u=Value.float b t|.ref a,u=>u=ZD a|.ty n,u=>u=Yi n
abbrev Vals:List V->List Value->Prop:=Paired RelV
theorem Vals.length{xs:List V}{us:List Value}(r:Vals xs us):xs.length=us.length:=Paired.length r
theorem Vals.get:∀{xs:List V} {us:List Value} {i:Nat} {x:V},Vals xs us->xs[i]?=some x->∃u,us[i]?=some u/\RelV x u|_,_,_,_,.nil,e=>by simp at e|_,_,0,_,.cons r _,e=>by simp at e;subst e;exact⟨_,rfl,r⟩|_,_,i+1,x,.cons _ t,e=>by obtain⟨u,h1,h2⟩:=Vals.get (i:=i) (x:=x) t (by simpa using e);exact⟨u,by simpa using h1,h2⟩
theorem Vals.set{x:V}{u:Value}(r:RelV x u):∀{xs:List V} {us:List Value} (i:Nat),Vals xs us->Vals (xs.set i x) (us.set i u)|_,_,_,.nil=>.nil|_,_,0,.cons _ t=>.cons r t|_,_,i+1,.cons q t=>.cons q (Vals.set r i t)
theorem Vals.append:∀{xs ys:List V} {us ws:List Value},Vals xs us->Vals ys ws->Vals (xs++ys) (us++ws)|_,_,_,_,.nil,s=>s|_,_,_,_,.cons r t,s=>.cons r (Vals.append t s)
theorem Vals.take:∀{xs:List V} {us:List Value} (n:Nat),Vals xs us->Vals (xs.take n) (us.take n)|_,_,0,_=>.nil|_,_,_+1,.nil=>.nil|_,_,n+1,.cons r t=>.cons r (Vals.take n t)
theorem Vals.drop:∀{xs:List V} {us:List Value} (n:Nat),Vals xs us->Vals (xs.drop n) (us.drop n)|_,_,0,r=>r|_,_,_+1,.nil=>.nil|_,_,n+1,.cons _ t=>Vals.drop n t
def RelO:Option V->Option Value->Prop|some v,some u=>RelV v u|none,none=>True|_,_=>False
def KV{κ:Type}:List (κ×V)->List (κ×Value)->Prop:=Paired λ(p:κ×V) (q:κ×Value)=>p.1=q.1/\RelV p.2 q.2
def kV:Key->V|.inl i=>.int i|.inr x=>.str x
inductive HO where|lst (xs:List V)|tup (xs:List V)|dK (kvs:List (Key×V))|set (S:Int->Bool) (n:Nat)|ins (C dx:Addr) (fs:List (Str×V))|own (x:Addr)|xd (fs:List (Str×V))|met (f x:Addr)|rng (lo hi:Int)|frz (o:Obj) (u:HO)|tbl (ps:Array Value)|ext (φ:Heap->Prop)
abbrev Hp:=Addr->Option HO
def upd(H:Hp)(a:Addr)(o:HO):Hp:=λb=>if b=a then some o else H b
theorem zak{H:Hp}{a:Addr}{o:HO}:upd H a o a=some o:=by unfold upd;rw[if_pos rfl]
theorem zah{H:Hp}{a b:Addr}{o:HO}(h:b≠a):upd H a o b=H b:=by unfold upd;rw[if_neg h]
theorem zai{H:Hp}{a b:Addr}{o:HO}(h:H a=some o)(h':H b=none):a≠b:=by intro e;subst e;rw[h] at h';cases h'
section
variable (P:ZB)(w:World)
def zbp(h:Heap)(a:Addr)(items:Array Value):Prop:=IsTup h a items/\∀o,h.get? a=some o->o.dict=none
theorem zbp.new(h:Heap)(items:Array Value):zbp (h.push {cls:=.type "tuple",data:=.seq items}) h.objs.size items:=⟨IsTup.new h items,λo e=>by rw[ZH _ rfl] at e;cases e;rfl⟩
def zaI(H:Hp)(h:Heap)(a:Addr):HO->Prop
 |.lst xs=>xs.length<=sizeLine/\∃(its:List Value) (n:Nat),Vals xs its/\h.get? a=some {cls:=.type "list",data:=.seq its.toArray n}|.tup xs=>xs.length<=sizeLine/\∃its:List Value,Vals xs its/\zbp h a its.toArray|.dK kvs=>kvs.length<=sizeLine/\(a==sysModules)=false/\∃vs,KV kvs vs/\h.DictOf (zj8 P w) a vs|.set S n=>h.SetOf (intKind P w) a S n
 | .ins C dx fs=>H dx=some (.own a)/\fs.length<=1000/\dx≠a/\h.get? a=some (WK C dx) ∧
   ∃mA,h.Ns1 dx mA/\(∀f,RelO (fs.lookup f) (mA f))/\PySem.Within mA (fs.map (·.1))
 |.own _=>∃o,h.get? a=some o|.xd fs=>∃mA,h.Ns1 a mA/\∀f,RelO (fs.lookup f) (mA f)|.rng lo hi=>∃t u v,h.get? a=some {cls:=.type "range",data:=.fields #[.int lo t,.int hi u,.int 1 v]}|.frz o u=>h.get? a=some o/\zaI H h a u|.tbl ps=>h.get? a=some {cls:=.none,data:=.fields ps}|.met f x=>h.get? a=some (Vm (.ref f) (.ref x))|.ext φ=>φ h/\(∃o,h.get? a=some o)/\∀h1 h2:Heap,φ h1->(∀o,h1.get? a=some o->h2.get? a=some o)->φ h2
def HOk(H:Hp)(h:Heap):Prop:=∀a o,H a=some o->zaI P w H h a o
end
section
variable {P:ZB}{w:World}{H H':Hp}{h h':Heap}{a:Addr}{o:HO}
theorem zaI.lt(x:zaI P w H h a o):a<h.objs.size:=by
 cases o with|lst xs=>obtain⟨_,_,_,_,e⟩:=x;exact ZW e|tup xs=>obtain⟨_,_,_,p⟩:=x;exact p.1.lt|dK kvs=>obtain⟨_,_,_,_,o,_,_,e,_⟩:=x;exact ZW e|set S n=>obtain⟨o,_,_,_,e,_⟩:=x;exact ZW e|ins C dx fs=>obtain⟨_,_,_,e,_⟩:=x;exact ZW e|own y=>obtain⟨_,e⟩:=x;exact ZW e|xd fs=>obtain⟨_,⟨_,_,_,e,_⟩,_⟩:=x;exact ZW e|rng lo hi=>obtain⟨_,_,_,e⟩:=x;exact ZW e|frz ob u=>obtain⟨e,_⟩:=x;exact ZW e|tbl ps=>exact ZW (show h.get? a=some _ from x)|met f y=>exact ZW (show h.get? a=some _ from x)|ext φ=>obtain⟨_,⟨_,e⟩,_⟩:=x;exact ZW e
theorem Paired.mapP{α β:Type}{F G:α->β->Prop}:∀{l₁:List α} {l₂:List β},Paired F l₁ l₂->(∀a b,F a b->G a b)->Paired G l₁ l₂|_,_,.nil,_=>.nil|_,_,.cons r t,f=>.cons (f _ _ r) (Paired.mapP t f)
theorem zaI.stay(x:zaI P w H h a o)(k:∀b u,(b=a\/H b=some (.own a))->h.get? b=some u->h'.get? b=some u)
  (ho:∀b,H b=some (.own a)->H' b=some (.own a)) (ht:∀b xs,H b=some (.tup xs)->H' b=some (.tup xs)):zaI P w H' h' a o:=by
 induction o with|lst xs=>obtain⟨z,its,n,r,e⟩:=x;exact⟨z,its,n,r,k _ _ (.inl rfl) e⟩|tup xs=>obtain⟨z,its,r,⟨ob,e,c⟩,dd⟩:=x;exact⟨z,its,r,⟨ob,k _ _ (.inl rfl) e,c⟩,λo2 e2=>by rw[k _ _ (.inl rfl) e] at e2;cases e2;exact dd _ e⟩|dK kvs=>obtain⟨z,y,vs,r,ob,es,ep,e,c⟩:=x;exact⟨z,y,vs,r,ob,es,ep,k _ _ (.inl rfl) e,c⟩|set S n=>obtain⟨ob,es,ep,t,e,c⟩:=x;exact⟨ob,es,ep,t,k _ _ (.inl rfl) e,c⟩|ins C dx fs=>obtain⟨d,z,ne,e,mA,⟨od,es,ep,e2,c⟩,r⟩:=x;exact⟨ho _ d,z,ne,k _ _ (.inl rfl) e,mA,⟨od,es,ep,k _ _ (.inr d) e2,c⟩,r⟩|own y=>obtain⟨ob,e⟩:=x;exact⟨ob,k _ _ (.inl rfl) e⟩|xd fs=>obtain⟨mA,⟨od,es,ep,e,c⟩,r⟩:=x;exact⟨mA,⟨od,es,ep,k _ _ (.inl rfl) e,c⟩,r⟩|rng lo hi=>obtain⟨t,u,v,e⟩:=x;exact⟨t,u,v,k _ _ (.inl rfl) e⟩|frz ob u ih=>obtain⟨e,q⟩:=x;exact⟨k _ _ (.inl rfl) e,ih q⟩|tbl ps=>have e:h.get? a=some {cls:=.none,data:=.fields ps}:=x;show h'.get? a=some {cls:=.none,data:=.fields ps};exact k a _ (.inl rfl) e|met f y=>have e:h.get? a=some (Vm (.ref f) (.ref y)):=x;show h'.get? a=some (Vm (.ref f) (.ref y));exact k a _ (.inl rfl) e|ext φ=>obtain⟨p,⟨o,e⟩,st⟩:=x;exact⟨st _ _ p λo q=>k _ _ (.inl rfl) q,⟨o,k _ _ (.inl rfl) e⟩,st⟩
theorem HOk.lt(x:HOk P w H h)(e:H a=some o):a<h.objs.size:=(x a o e).lt
theorem HOk.fresh(x:HOk P w H h)(e:h.objs.size<=a):H a=none:=by
 cases q:H a with|none=>rfl|some u=>exact absurd (ZE (x.lt q) e) (YO _)
theorem HOk.kept(x:HOk P w H h)(k:∀b u,h.get? b=some u->h'.get? b=some u):HOk P w H h':=λa o e=>(x a o e).stay (λb u _ q=>k b u q) (λ_ q=>q) λ_ _ q=>q
theorem HOk.laid(x:HOk P w H h)(k:∀b u,h.get? b=some u->h'.get? b=some u)(hp:h.objs.size<=a)(new:zaI P w (upd H a o) h' a o):HOk P w (upd H a o) h':=λb u e=>by
 have hn:=x.fresh hp
 by_cases hb:b=a
 ·subst hb;rw[zak] at e;cases e;exact new
 ·rw [zah hb] at e
  exact(x b u e).stay (λc v _ q=>k c v q) (λc q=>by rw[zah (zai q hn)];exact q) λc xs q=>by rw[zah (zai q hn)];exact q
end
def Rd(H:Hp)(a:Addr)(u:HO):Prop:=H a=some u\/∃o,H a=some (.frz o u)
theorem Rd.ok{P:ZB}{w:World}{H:Hp}{h:Heap}{a:Addr}{u:HO}(r:Rd H a u)(x:HOk P w H h):zaI P w H h a u:=by
 rcases r with r|⟨o,r⟩
 ·exact x a u r
 ·obtain ⟨_,q⟩:=x a _ r
  exact q
def Mut:Option HO->Prop|some (.lst _)=>True|some (.dK _)=>True|some (.set _ _)=>True|some (.ins _ _ _)=>True|some (.ext _)=>True|_=>False
section
variable {P:ZB}{w:World}{H:Hp}{h h':Heap}{x e:Addr}{o':HO}
theorem HOk.write(ok:HOk P w H h)(mu:Mut (H x))(he:e=x\/H e=some (.own x))(k:∀b u,b≠e->h.get? b=some u->h'.get? b=some u)(heo:∃u,h'.get? e=some u)
  (new:zaI P w (upd H x o') h' x o'):HOk P w (upd H x o') h':=λb u q=>by
 have nown:∀c y,H c=some (.own y)->c≠x:=λc y r z=>by subst z;rw[r] at mu;exact mu
 have ntup:∀c xs,H c=some (.tup xs)->c≠x:=λc xs r z=>by subst z;rw[r] at mu;exact mu
 by_cases hb:b=x
 ·subst hb;rw[zak] at q;cases q;exact new
 ·rw [zah hb] at q
  by_cases hbe:b=e
  ·have q':H b=some (.own x):=by
    rcases he with z | z
    ·exact absurd (hbe.trans z) hb
    ·rw[hbe];exact z
   rw[q] at q';cases q'
   obtain⟨v,hv⟩:=heo
   exact⟨v,by rw[hbe];exact hv⟩
  ·refine (ok b u q).stay (λc v hc r=>k c v ?_ r) (λc r=>by rw[zah (nown c b r)];exact r) λc xs r=>by rw[zah (ntup c xs r)];exact r
   rcases hc with rfl | hc
   ·exact hbe
   ·rintro rfl
    rcases he with z | z
    ·exact nown c b hc z
    ·rw[hc] at z;cases z;exact hb rfl
end
structure Un(fs ex:List Addr)(H H':Hp)(h h':Heap):Prop where
 keep:∀b o,h.get? b=some o->H b=none->b∉fs->b∉ex->h'.get? b=some o
 slot:∀b o,h.get? b=some o->H b=none->b∈fs->b∉ex->∃sl,h'.get? b=some {o with slots:=sl}
 free:∀b o,h.get? b=some o->H b=none->b∉ex->H' b=none
 there:∀b o,h.get? b=some o->b∉ex->∃o',h'.get? b=some o'
 tups:∀b xs,H b=some (.tup xs)->H' b=some (.tup xs)
 frzs:∀b o u,H b=some (.frz o u)->H' b=some (.frz o u)
 tbls:∀b ps,H b=some (.tbl ps)->∃more,H' b=some (.tbl (ps++more))
section
variable {fs fs' ex ex':List Addr}{H H1 H2:Hp}{h h1 h2 h':Heap}{a x e:Addr}{o:HO}
theorem Un.any(u:Un fs ex H H1 h h1){b:Addr}{ob:Obj}(q:h.get? b=some ob)(n:H b=none)(hx:b∉ex):∃sl,h1.get? b=some {ob with slots:=sl}:=by
 by_cases hb:b∈fs
 ·exact u.slot b ob q n hb hx
 ·exact⟨ob.slots,u.keep b ob q n hb hx⟩
theorem Un.kept(k:∀b u,h.get? b=some u->h'.get? b=some u):Un fs ex H H h h':=⟨λb ob q _ _ _=>k b ob q,λb ob q _ _ _=>⟨ob.slots,k b ob q⟩,λ_ _ _ n _=>n,λb ob q _=>⟨ob,k b ob q⟩,λ_ _ q=>q,λ_ _ _ q=>q,λ_ ps q=>⟨#[],by rw[q];simp⟩⟩
theorem Un.refl:Un fs ex H H h h:=Un.kept λ_ _ q=>q
theorem Un.laid(k:∀b u,h.get? b=some u->h'.get? b=some u)(hp:h.objs.size<=a)(hn:H a=none):Un fs ex H (upd H a o) h h' where
 keep:=λb u q _ _ _=>k b u q
 slot:=λb u q _ _ _=>⟨u.slots,k b u q⟩
 free:=λb u q n _=>by rw[zah (ZI (ZE (ZW q) hp))];exact n
 there:=λb u q _=>⟨u,k b u q⟩
 tups:=λb xs q=>by rw[zah (zai q hn)];exact q
 frzs:=λb u xs q=>by rw[zah (zai q hn)];exact q
 tbls:=λb ps q=>⟨#[],by rw[zah (zai q hn),q];simp⟩
theorem Un.write(mu:Mut (H x))(he:e=x\/H e=some (.own x))(k:∀b u,b≠e->h.get? b=some u->h'.get? b=some u)(heo:∃u,h'.get? e=some u):Un fs ex H (upd H x o) h h':=by
 have hx:∀b,H b=none->b≠x:=λb n z=>by subst z;rw[n] at mu;exact mu
 have hb:∀b,H b=none->b≠e:=λb n z=>by
  subst z
  rcases he with r | r
  ·exact hx b n r
  ·rw[n] at r;cases r
 have hm:∀b u,H b=some u->¬Mut (some u)->b≠x:=λb u q nm z=>by subst z;rw[q] at mu;exact nm mu
 refine ⟨λb u q n _ _=>k b u (hb b n) q,λb u q n _ _=>⟨u.slots,k b u (hb b n) q⟩,λb u q n _=>by rw[zah (hx b n)];exact n,λb u q _=>?_,
  fun b xs q=>by rw[zah (hm b _ q λz=>z)];exact q,λb u xs q=>by rw[zah (hm b _ q λz=>z)];exact q,λb ps q=>⟨#[],by rw[zah (hm b _ q λz=>z),q];simp⟩⟩
 by_cases hbe:b=e
 ·subst hbe;exact heo
 ·exact⟨u,k b u hbe q⟩
end
def trk(h:Heap)(H:Hp):List Addr:=(ZA h.objs.size).filter λa=>(H a).isSome
def hidT(h:Heap)(H:Hp):Heap:=VY h (trk h H)
theorem zkP(h:Heap)(H:Hp):(hidT h H).objs.size=h.objs.size:=PySem.W.hideAll_size _ _
theorem zeT{h:Heap}{H:Hp}{b:Addr}{o:Obj}(e:h.get? b=some o)(n:H b=none):(hidT h H).get? b=some o:=
 Yo _ e λhm=>by
  have q:(H b).isSome=true:=(WJ.mp hm).2
  rw[n] at q;simp at q
theorem zn7{h:Heap}{H:Hp}{b:Addr}{o:Obj}(e:(hidT h H).get? b=some o):h.get? b=some o/\H b=none:=by
 have e':h.get? b=some o:=VJ (trk h H) e;refine⟨e',?_⟩
 cases q:H b with
 |none=>rfl
 |some x=>
  have hm:b∈trk h H:=WJ.mpr ⟨YM.mpr (ZW e'),by simp[q]⟩;have z:(hidT h H).get? b=none:=V2 (trk h H) hm
  rw[z] at e;cases e
structure Mod(K:Z7)(mg:Str->Option Value)(base:Heap):Prop where
 kin:K.In base
 glob:base.Ns mainGlobals mg
 blt:∃mb,base.Ns VI mb/\∀x:Str,x ≠ "__name__"->mb x=XD x
 nolimit:base.NoLimit
structure Cx where
 prog:ZB
 w:World
 K:Z7
 mg:Str->Option Value
 base:Heap
 A:Around
 N:List Str
 s₀:Shared
 H₀:Hp
 env:Env
 outer:List Env
 stack:List Env
 ex:List Addr
 fn:Str->Bool
 calm:Bool
 pn:List (Addr×Obj)
 xe:Value->Shared->Prop
def frs(l:List Env):List Addr:=l.filterMap (·.frame)
abbrev Cx.fs(X:Cx):List Addr:=frs X.outer
def Vis(sc:Scope)(x:Str):Prop:=sc.names.lookup x=some .local\/sc.names.lookup x=some .cell\/sc.names.lookup x=some .free
def Loc(sc:Scope)(x:Str):Prop:=sc.names.lookup x=some .local\/sc.names.lookup x=some .cell
def Look(env:Env)(h:Heap)(m:Str->Option Value)(x:Str)(u:Value):Prop:=(env.kindOf x=some .local/\m x=some u)\/((env.kindOf x=some .cell\/env.kindOf x=some .free)/\∃c,env.cells.lookup x=some c/\h.IsCell c (some u))
structure Cx.Ok(X:Cx):Prop where
 mod:Mod X.K X.mg X.base
 kind:X.env.scope.kind=.function
 glob:X.env.globals=mainGlobals
 blt:X.env.builtins=VI
 above:X.s₀.heap.objs.size<=X.env.locals
 inj:∀x y c,X.env.cells.lookup x=some c->X.env.cells.lookup y=some c->x=y
 has:∀x,(X.env.kindOf x=some .cell\/X.env.kindOf x=some .free)->∃c,X.env.cells.lookup x=some c
 cab:∀x c,X.fn x=true->X.env.cells.lookup x=some c->X.s₀.heap.objs.size<=c
 hd:X.calm=true->X.A.handled=none
 frames:X.A.frames=some X.stack
 stk:X.stack=X.outer\/(X.stack=X.env::X.outer/\X.env.frame=some X.env.locals)
 exf:∀b∈X.ex,b≠X.env.locals/\∀x c,X.env.cells.lookup x=some c->c≠b
 bs:∀b o,X.base.get? b=some o->X.s₀.heap.get? b=some o/\X.H₀ b=none
 bsz:X.base.objs.size<=X.s₀.heap.objs.size
 noex:∀b o,X.base.get? b=some o->b∉X.ex
 exfs:∀b∈X.ex,b∉X.fs
 funs:X.s₀.heap.FunFrames X.base X.outer
 frf:∀b∈X.fs,X.H₀ b=none
structure Inv(X:Cx)(pins:List (Addr×Obj))(σ:List (Option V))(H:Hp)(s:Shared):Prop where
 ok:X.Ok
 os:s.os=X.s₀.os
 bare:Vl s.gens
 base:Un X.fs X.ex X.H₀ H X.s₀.heap s.heap
 loc:∃m,s.heap.Ns X.env.locals m/\∀(i:Nat) (x:Str) (v:V),X.N[i]?=some x->σ[i]?=some (some v)->Vis X.env.scope x->∃u,RelV v u/\Look X.env s.heap m x u
 cell:∀x c,X.env.cells.lookup x=some c->∃v,s.heap.IsCell c v
 free:H X.env.locals=none
 freeC:∀x c,X.env.cells.lookup x=some c->H c=none
 pin:∀p∈X.pn++pins,s.heap.get? p.1=some p.2/\H p.1=none/\p.1≠X.env.locals/\p.1∉X.fs/\∀v,p.2.data≠.cell v
 hok:HOk X.prog X.w H s.heap
 len:σ.length=X.N.length
section
variable {X:Cx}{pins:List (Addr×Obj)}{σ:List (Option V)}{H H':Hp}{s:Shared}{h':Heap}
theorem Cx.Ok.nofr(ok:X.Ok){b:Addr}{o:Obj}(e:X.base.get? b=some o):b∉X.fs:=λhb=>by
 have:=(ok.funs.mem hb).1
 rw[e] at this;cases this
theorem Inv.bs(I:Inv X pins σ H s):∀b o,X.base.get? b=some o->s.heap.get? b=some o/\H b=none:=λb o e=>⟨I.base.keep b o (I.ok.bs b o e).1 (I.ok.bs b o e).2 (I.ok.nofr e) (I.ok.noex b o e),I.base.free b o (I.ok.bs b o e).1 (I.ok.bs b o e).2 (I.ok.noex b o e)⟩
theorem Inv.bk(I:Inv X pins σ H s):∀b o,X.base.get? b=some o->s.heap.get? b=some o:=λb o e=>(I.bs b o e).1
theorem Inv.mod(I:Inv X pins σ H s):Mod X.K X.mg X.base:=I.ok.mod
theorem Inv.kIn(I:Inv X pins σ H s):X.K.In s.heap:=I.ok.mod.kin.keeps I.bk
theorem Inv.lt(I:Inv X pins σ H s):X.env.locals<s.heap.objs.size:=let ⟨_,hn,_⟩:=I.loc;hn.lt
theorem Inv.sz(I:Inv X pins σ H s):X.s₀.heap.objs.size<=s.heap.objs.size:=Zf I.ok.above (Xi I.lt)
theorem Inv.nofs(I:Inv X pins σ H s){a:Addr}(h:s.heap.objs.size<=a):a∉X.fs:=λhb=>by obtain⟨_,o,ho,_⟩:=I.ok.funs.mem hb;exact absurd (ZE (ZW ho) (Zf I.sz h)) (YO _)
theorem Inv.cne(I:Inv X pins σ H s):∀x c,X.env.cells.lookup x=some c->c≠X.env.locals:=λx c e z=>by
 obtain⟨v,o,ho,hd⟩:=I.cell x c e;obtain⟨m,⟨o',es,ep,ho',hd',_⟩,_⟩:=I.loc
 rw[z,ho'] at ho;cases ho;rw[hd'] at hd;cases hd
theorem Inv.funs(I:Inv X pins σ H s):s.heap.FunFrames X.base X.outer:=by
 have all:∀(l:List Env),(∀b∈frs l,b∈X.fs)->X.s₀.heap.FunFrames X.base l->s.heap.FunFrames X.base l:=by
  intro l
  induction l with
  |nil=>intro _ _;trivial
  |cons env r ih=>
   intro hs hl;obtain⟨hk,⟨L,o,hf,hn,ho,hd⟩,hr⟩:=hl
   have hL:L∈X.fs:=hs L (by unfold frs;rw[YE,hf];exact ZK)
   obtain⟨sl,e⟩:=I.base.slot L o ho (I.ok.frf L hL) hL λz=>I.ok.exfs L z hL
   exact⟨hk,⟨L,_,hf,hn,e,hd⟩,ih (λb hb=>hs b (by unfold frs;rw[YE,hf];exact ZU _ hb)) hr⟩
 exact all X.outer (λ_ hb=>hb) I.ok.funs
theorem Inv.stack(I:Inv X pins σ H s):s.heap.FunFrames X.base X.stack:=by
 rcases I.ok.stk with e|⟨e,hf⟩
 ·rw[e];exact I.funs
 ·rw [e]
  obtain⟨m,hn,_⟩:=I.loc
  refine .cons (by rw[I.ok.kind];decide) hf hn ?_ I.funs
  exact V0 (Zf I.ok.bsz I.ok.above)
theorem Inv.stkSub(I:Inv X pins σ H s):∀b∈frs X.stack,b∈X.env.locals::X.fs:=λb hb=>by
 rcases I.ok.stk with e|⟨e,hf⟩
 ·rw[e] at hb;exact ZU _ hb
 ·rw [e] at hb
  unfold frs at hb;rw[YE,hf] at hb;exact hb
theorem Inv.stkFree(I:Inv X pins σ H s):∀b∈frs X.stack,H b=none:=λb hb=>by
 rcases ZJ.mp (I.stkSub b hb) with e | hb
 ·rw[e];exact I.free
 ·obtain ⟨_,o,ho,_⟩:=I.ok.funs.mem hb
  exact I.base.free b o ho (I.ok.frf b hb) λz=>I.ok.exfs b z hb
theorem Inv.step{g':Array GenState}{t':Nat}{d':Drawn}{ch:List Addr}(I:Inv X pins σ H s)
  (hch:∀b∈ch,(b∈X.ex\/X.s₀.heap.objs.size<=b)/\b≠X.env.locals/\(∀x c,X.env.cells.lookup x=some c->c≠b)/\∀p∈X.pn++pins,p.1≠b)
  (keep:∀b o,b≠X.env.locals->b∉X.fs->b∉ch->s.heap.get? b=some o->H b=none->h'.get? b=some o)
  (slot:∀b o,b≠X.env.locals->b∈X.fs->b∉ch->s.heap.get? b=some o->H b=none->∃sl,h'.get? b=some {o with slots:=sl}) (free:∀b o,b∉ch->s.heap.get? b=some o->H b=none->H' b=none)
  (there:∀b o,b∉ch->s.heap.get? b=some o->∃o',h'.get? b=some o')
  (tups:∀b xs,H b=some (.tup xs)->H' b=some (.tup xs)) (frzs:∀b o u,H b=some (.frz o u)->H' b=some (.frz o u)) (tbls:∀b ps,H b=some (.tbl ps)->∃more,H' b=some (.tbl (ps++more)))
  (ns:∀m,s.heap.Ns X.env.locals m->h'.Ns X.env.locals m) (hok:HOk X.prog X.w H' h') (hg:Vl g'):
  Inv X pins σ H' {s with heap:=h',gens:=g',drawn:=d',toks:=t'}:=by
 have neL:∀b o,X.s₀.heap.get? b=some o->b≠X.env.locals:=λb o e=>ZI (ZE (ZW e) I.ok.above)
 have neC:∀b o,X.s₀.heap.get? b=some o->b∉X.ex->b∉ch:=λb o e hx hb=>by
  rcases(hch b hb).1 with z | z
  ·exact hx z
  ·exact absurd (ZE (ZW e) z) (YO _)
 have cellK:∀x c,X.env.cells.lookup x=some c->∀v,s.heap.IsCell c v->h'.IsCell c v:=λx c e v ⟨o,ho,hd⟩=>by
  have nch:c∉ch:=λz=>(hch c z).2.2.1 x c e rfl
  by_cases hc:c∈X.fs
  ·obtain ⟨sl,q⟩:=slot c o (I.cne x c e) hc nch ho (I.freeC x c e)
   exact⟨_,q,hd⟩
  ·exact⟨o,keep c o (I.cne x c e) hc nch ho (I.freeC x c e),hd⟩
 refine⟨I.ok,I.os,hg,⟨λb o e n hb hx=>?_,λb o e n hb hx=>?_,λb o e n hx=>?_,λb o e hx=>?_,λb xs e=>tups b xs (I.base.tups b xs e),λb o xs e=>frzs b o xs (I.base.frzs b o xs e),λb ps e=>?_⟩,?_,λx c e=>?_,?_,λx c e=>?_,λp hp=>?_,hok,I.len⟩
 ·exact keep b o (neL b o e) hb (neC b o e hx) (I.base.keep b o e n hb hx) (I.base.free b o e n hx)
 ·obtain ⟨sl,e1⟩:=I.base.slot b o e n hb hx
  obtain⟨sl',e2⟩:=slot b _ (neL b o e) hb (neC b o e hx) e1 (I.base.free b o e n hx);exact⟨sl',e2⟩
 ·obtain ⟨o',e1⟩:=I.base.there b o e hx
  exact free b o' (neC b o e hx) e1 (I.base.free b o e n hx)
 ·obtain ⟨o',e1⟩:=I.base.there b o e hx
  exact there b o' (neC b o e hx) e1
 ·obtain ⟨m1,e1⟩:=I.base.tbls b ps e
  obtain⟨m2,e2⟩:=tbls b _ e1;exact⟨m1++m2,by rw[e2,Array.append_assoc]⟩
 ·obtain ⟨m,hn,hl⟩:=I.loc
  refine⟨m,ns m hn,λi x v e1 e2 e3=>?_⟩;obtain⟨u,r,l⟩:=hl i x v e1 e2 e3;refine⟨u,r,?_⟩
  rcases l with l|⟨k,c,e,z⟩
  ·exact .inl l
  ·exact .inr ⟨k,c,e,cellK x c e _ z⟩
 ·obtain ⟨v,z⟩:=I.cell x c e
  exact⟨v,cellK x c e v z⟩
 ·obtain ⟨m,⟨o,_,_,ho,_⟩,_⟩:=I.loc
  exact free _ o (λz=>(hch _ z).2.1 rfl) ho I.free
 ·obtain ⟨v,o,ho,hd⟩:=I.cell x c e
  exact free c o (λz=>(hch c z).2.2.1 x c e rfl) ho (I.freeC x c e)
 ·obtain ⟨e,n,ne,nf,d⟩:=I.pin p hp
  have nch:p.1∉ch:=λz=>(hch p.1 z).2.2.2 p hp rfl;exact⟨keep p.1 p.2 ne nf nch e n,free p.1 p.2 nch e n,ne,nf,d⟩
theorem Inv.un{t':Nat}(I:Inv X pins σ H s)(u:Un X.fs [] H H' s.heap h')(hok:HOk X.prog X.w H' h'):Inv X pins σ H' {s with heap:=h',toks:=t'}:=by
 obtain⟨m,⟨o,es,ep,ho,r⟩,_⟩:=id I.loc;obtain⟨sl,hL⟩:=u.any ho I.free (by simp)
 exact I.step (g':=s.gens) (d':=s.drawn) (ch:=[]) (λ_ z=>nomatch z) (λb o _ hb _ e n=>u.keep b o e n hb (by simp)) (λb o _ hb _ e n=>u.slot b o e n hb (by simp)) (λb o _ e n=>u.free b o e n (by simp)) (λb o _ e=>u.there b o e (by simp)) u.tups u.frzs u.tbls (λm' hm=>by
  obtain⟨o',es',ep',ho',r'⟩:=hm
  rw[ho] at ho';cases ho'
  exact⟨_,es',ep',hL,r'⟩) hok I.bare
theorem Inv.call{g':Array GenState}{t':Nat}{d':Drawn}{ch:List Addr}(I:Inv X pins σ H s)(u:Un (frs X.stack) ch H H' s.heap h')(hok:HOk X.prog X.w H' h')(hg:Vl g')
  (hch:∀b∈ch,(b∈X.ex\/X.s₀.heap.objs.size<=b)/\b≠X.env.locals/\(∀x c,X.env.cells.lookup x=some c->c≠b)/\∀p∈X.pn++pins,p.1≠b):
  Inv X pins σ H' {s with heap:=h',gens:=g',drawn:=d',toks:=t'}:=by
 obtain⟨m,⟨o,es,ep,ho,r⟩,_⟩:=id I.loc;obtain⟨sl,hL⟩:=u.any ho I.free λz=>(hch _ z).2.1 rfl
 exact I.step (ch:=ch) hch (λb o hL hb hc e n=>u.keep b o e n (λz=>(ZJ.mp (I.stkSub b z)).elim hL hb) hc) (λb o _ _ hc e n=>u.any e n hc) (λb o hc e n=>u.free b o e n hc) (λb o hc e=>u.there b o e hc) u.tups u.frzs u.tbls (λm' hm=>by
  obtain⟨o',es',ep',ho',r'⟩:=hm
  rw[ho] at ho';cases ho'
  exact⟨_,es',ep',hL,r'⟩) hok hg
theorem Inv.turned{t':Nat}{it:Addr}(I:Inv X pins σ H s)(k:∀b o,b≠it->s.heap.get? b=some o->h'.get? b=some o)(hn:H it=none)(hL:it≠X.env.locals)
  (h1:it∈X.ex\/X.s₀.heap.objs.size<=it) (h2:∀x c,X.env.cells.lookup x=some c->c≠it) (h3:∀p∈X.pn++pins,p.1≠it):Inv X pins σ H {s with heap:=h',toks:=t'}:=by
 have nit:∀b u,H b=some u->b≠it:=λb u e z=>by rw[z,hn] at e;cases e
 refine I.step (g':=s.gens) (d':=s.drawn) (ch:=[it]) (λb hb=>?_) (λb o _ _ hc e _=>k b o (λz=>hc (by simp[z])) e) (λb o _ _ hc e _=>⟨o.slots,k b o (λz=>hc (by simp[z])) e⟩) (λ_ _ _ _ n=>n)
  (λb o hc e=>⟨o,k b o (λz=>hc (by simp[z])) e⟩) (λ_ _ e=>e) (λ_ _ _ e=>e) (λb ps e=>⟨#[],by rw[e];simp⟩) (λm hm=>?_) (λb u e=>?_) I.bare
 ·have e:b=it:=by simpa using hb
  subst e;exact⟨h1,hL,h2,h3⟩
 ·obtain ⟨o,es,ep,ho,r⟩:=hm
  exact⟨o,es,ep,k _ o (Za hL) ho,r⟩
 ·refine (I.hok b u e).stay (λc v hc q=>k c v ?_ q) (λ_ q=>q) λ_ _ q=>q
  rcases hc with z | z
  ·rw[z];exact nit b u e
  ·exact nit c _ z
theorem Inv.tok(I:Inv X pins σ H s)(t:Nat):Inv X pins σ H {s with toks:=t}:=I.un (h':=s.heap) (t':=t) Un.refl I.hok
theorem Inv.kept{t':Nat}(I:Inv X pins σ H s)(k:∀b u,s.heap.get? b=some u->h'.get? b=some u):Inv X pins σ H {s with heap:=h',toks:=t'}:=I.un (Un.kept k) (I.hok.kept k)
theorem Inv.laid{a:Addr}{o:HO}{t':Nat}(I:Inv X pins σ H s)(k:∀b u,s.heap.get? b=some u->h'.get? b=some u)(hp:s.heap.objs.size<=a)(new:zaI X.prog X.w (upd H a o) h' a o):
  Inv X pins σ (upd H a o) {s with heap:=h',toks:=t'}:=I.un (Un.laid k hp (I.hok.fresh hp)) (I.hok.laid k hp new)
theorem Inv.write{x e:Addr}{o:HO}{t':Nat}(I:Inv X pins σ H s)(mu:Mut (H x))(he:e=x\/H e=some (.own x))(k:∀b u,b≠e->s.heap.get? b=some u->h'.get? b=some u)(heo:∃u,h'.get? e=some u)
  (new:zaI X.prog X.w (upd H x o) h' x o):Inv X pins σ (upd H x o) {s with heap:=h',toks:=t'}:=I.un (Un.write mu he k heo) (I.hok.write mu he k heo new)
theorem Inv.pins_of{pins':List (Addr×Obj)}(I:Inv X pins σ H s)(h:∀p∈pins',s.heap.get? p.1=some p.2/\H p.1=none/\p.1≠X.env.locals/\p.1∉X.fs/\∀v,p.2.data≠.cell v):Inv X pins' σ H s:=⟨I.ok,I.os,I.bare,I.base,I.loc,I.cell,I.free,I.freeC,λp hp=>(Zd.mp hp).elim (λz=>I.pin p (VZ _ z)) (h p),I.hok,I.len⟩
theorem zeW{N:List Str}(hN:N.Nodup){i j:Nat}{x:Str}(a:N[i]?=some x)(b:N[j]?=some x):i=j:=by obtain⟨h1,e1⟩:=Z2.mp a;obtain⟨h2,e2⟩:=Z2.mp b;exact(List.getElem_inj hN).mp (e1.trans e2.symm)
theorem zky{M:Model}{A:Around}{E:Value->Shared->Prop}{i:Nat}{x:Str}{v:V}{u:Value}{Q:Unit->Shared->Prop}(I:Inv X pins σ H s)(hN:X.N.Nodup)(hi:X.N[i]?=some x)(hx:Loc X.env.scope x)(r:RelV v u)
    (h:∀s',Inv X pins (σ.set i (some v)) H s'->(∃a,Yc a s.heap s'.heap/\(a=X.env.locals\/X.env.cells.lookup x=some a))->Q () s') (hf:X.fn x=true\/X.env.scope.names.lookup x=some .local:=by first | exact .inl rfl | exact .inr rfl | assumption):wpAny M A (storeName X.env x u) Q E s:=by
  obtain⟨m,hn,hl⟩:=id I.loc
  have hcls:(X.env.scope.kind==.class||(X.env.scope.kind==.module&&X.env.locals != X.env.globals))=false:=by rw[I.ok.kind];rfl
  have hiσ:i<σ.length:=by rw[I.len];exact(Z2.mp hi).1
  have cne:=I.cne
  have tracked:∀{a:Addr} {h':Heap},(∃o,s.heap.get? a=some o/\H a=none)->Yc a s.heap h'->HOk X.prog X.w H h':=λ{a h'} ha hs b ob e=>by
    obtain⟨_,_,hfree⟩:=ha;refine(I.hok b ob e).stay (λc w' hc q=>(hs.2 c ?_).trans q) (λ_ q=>q) λ_ _ q=>q
    rintro rfl
    rcases hc with rfl | hc
    · rw[hfree] at e;cases e
    · rw[hfree] at hc;cases hc
  rcases hx with hk | hk
  · refine wpAny_storeName_local hk hn (λh' hn' hs=>?_) hcls
    obtain⟨oL,_,_,hoL,_⟩:=id hn;refine h _ ⟨I.ok,I.os,I.bare,⟨λb o e n hb hx=>?_,λb o e n hb hx=>?_,I.base.free,λb o e hx=>?_,I.base.tups,I.base.frzs,I.base.tbls⟩,⟨_,hn',λj y v' e1 e2 e3=>?_⟩,λy c e=>?_,I.free,I.freeC,λp hp=>?_,tracked ⟨oL,hoL,I.free⟩ hs,by simpa using I.len⟩ ⟨_,hs,.inl rfl⟩
    · exact(hs.2 b (ZI (ZE (ZW e) I.ok.above))).trans (I.base.keep b o e n hb hx)
    · obtain ⟨sl,e1⟩:=I.base.slot b o e n hb hx
      exact⟨sl,(hs.2 b (ZI (ZE (ZW e) I.ok.above))).trans e1⟩
    · obtain ⟨o',e1⟩:=I.base.there b o e hx
      exact⟨o',(hs.2 b (ZI (ZE (ZW e) I.ok.above))).trans e1⟩
    · by_cases hj:j=i
      · subst hj
        rw[hi] at e1;cases e1
        rw[Zs hiσ] at e2;cases e2;exact⟨u,r,.inl ⟨hk,by simp⟩⟩
      · rw [Zr (Za hj)] at e2
        obtain⟨u',r',q⟩:=hl j y v' e1 e2 e3;refine⟨u',r',?_⟩
        rcases q with⟨k,e⟩|⟨k,c,e,z⟩
        · refine .inl ⟨k,?_⟩
          have:y≠x:=λe=>hj (zeW hN e1 (e▸hi))
          simp[this,e]
        · exact .inr ⟨k,c,e,z.sameBut hs (cne y c e)⟩
    · obtain ⟨w',z⟩:=I.cell y c e
      exact⟨w',z.sameBut hs (cne y c e)⟩
    · obtain ⟨e,n,ne,nf,d⟩:=I.pin p hp
      exact⟨(hs.2 p.1 ne).trans e,n,ne,nf,d⟩
  · have hfn:X.fn x=true:=by
      rcases hf with z | z
      · exact z
      · rw[z] at hk;cases hk
    obtain⟨c,hc⟩:=I.ok.has x (.inl hk);obtain⟨w',z⟩:=I.cell x c hc;refine wpAny_storeName_cell I.ok.kind hk hc z (λh' hc' hs=>?_);obtain⟨oc,hoc,hocd⟩:=id z;refine h {s with heap:=h'} ⟨I.ok,I.os,I.bare,⟨λb o e n hb hx=>?_,λb o e n hb hx=>?_,I.base.free,λb o e hx=>?_,I.base.tups,I.base.frzs,I.base.tbls⟩,⟨m,hn.sameBut hs (Za (cne x c hc)),λj y v' e1 e2 e3=>?_⟩,λy c' e=>?_,I.free,I.freeC,λp hp=>?_,tracked ⟨oc,hoc,I.freeC x c hc⟩ hs,by simpa using I.len⟩ ⟨c,hs,.inr hc⟩
    · exact(hs.2 b (ZI (ZE (ZW e) (I.ok.cab x c hfn hc)))).trans (I.base.keep b o e n hb hx)
    · obtain ⟨sl,e1⟩:=I.base.slot b o e n hb hx
      exact⟨sl,(hs.2 b (ZI (ZE (ZW e) (I.ok.cab x c hfn hc)))).trans e1⟩
    · obtain ⟨o',e1⟩:=I.base.there b o e hx
      exact⟨o',(hs.2 b (ZI (ZE (ZW e) (I.ok.cab x c hfn hc)))).trans e1⟩
    · by_cases hj:j=i
      · subst hj
        rw[hi] at e1;cases e1
        rw[Zs hiσ] at e2;cases e2;exact⟨u,r,.inr ⟨.inl hk,c,hc,hc'⟩⟩
      · rw [Zr (Za hj)] at e2
        obtain⟨u',r',q⟩:=hl j y v' e1 e2 e3;refine⟨u',r',?_⟩
        rcases q with q|⟨k,c',e,z'⟩
        · exact .inl q
        · refine .inr ⟨k,c',e,z'.sameBut hs ?_⟩
          rintro rfl
          exact hj (zeW hN e1 (I.ok.inj _ _ _ e hc▸hi))
    · by_cases hcc:c'=c
      · subst hcc;exact⟨_,hc'⟩
      · obtain ⟨w2,z2⟩:=I.cell y c' e
        exact⟨w2,z2.sameBut hs hcc⟩
    · obtain ⟨e,n,ne,nf,d⟩:=I.pin p hp
      refine⟨(hs.2 p.1 ?_).trans e,n,ne,nf,d⟩;intro q;rw[q,hoc] at e;have q':oc=p.2:=ZY e
      exact d w' (by rw[<-q'];exact hocd)
theorem zfp{M:Model}{A:Around}{E:Value->Shared->Prop}{i:Nat}{x:Str}{v:V}{u:Value}{Q:Unit->Shared->Prop}(I:Inv X pins σ H s)(hN:X.N.Nodup)(hi:X.N[i]?=some x)(hx:Loc X.env.scope x)(r:RelV v u)
  (h:∀s',Inv X pins (σ.set i (some v)) H s'->Q () s') (hf:X.fn x=true\/X.env.scope.names.lookup x=some .local:=by first | exact .inl rfl | exact .inr rfl | assumption):wpAny M A (storeName X.env x u) Q E s:=
 zky I hN hi hx r (λs' I' _=>h s' I') hf
theorem Inv.call'{s':Shared}{ch:List Addr}(I:Inv X pins σ H s)(ho:s'.os=s.os)(u:Un (frs X.stack) ch H H' s.heap s'.heap)(hok:HOk X.prog X.w H' s'.heap)(hg:Vl s'.gens)
  (hch:∀b∈ch,(b∈X.ex\/X.s₀.heap.objs.size<=b)/\b≠X.env.locals/\(∀x c,X.env.cells.lookup x=some c->c≠b)/\∀p∈X.pn++pins,p.1≠b):Inv X pins σ H' s':=by
 obtain⟨h',g',d',t',o'⟩:=s';have e:o'=s.os:=ho;subst e;exact I.call (g':=g') (t':=t') (d':=d') u hok hg hch
end
abbrev XK:=Value->Option Addr->Hp->Prop
abbrev St:=List (Option V)
abbrev VK:=V->Hp->Prop
abbrev TE:=St->Hp->VK->Prop
abbrev TT:=St->Hp->(Bool->Hp->Prop)->Prop
abbrev TA:=St->Hp->(List V->Hp->Prop)->Prop
structure Ends where
 nx:St->Hp->Prop
 rt:VK
 bk:St->Hp->Prop:=λ_ _=>False
 ct:St->Hp->Prop:=λ_ _=>False
abbrev TS:=Ends->St->Hp->Prop
inductive EP(X:Cx)(pins:List (Addr×Obj))(σ:St)(Q:VK)(u:Value)(s':Shared):Prop where|mk (v:V) (H':Hp) (I:Inv X pins σ H' s') (r:RelV v u) (q:Q v H')
inductive TP(X:Cx)(pins:List (Addr×Obj))(σ:St)(Q:Bool->Hp->Prop)(b:Bool)(s':Shared):Prop where|mk (H':Hp) (I:Inv X pins σ H' s') (q:Q b H')
inductive AP(X:Cx)(pins:List (Addr×Obj))(σ:St)(Q:List V->Hp->Prop)(us:List Value)(s':Shared):Prop where|mk (vs:List V) (H':Hp) (I:Inv X pins σ H' s') (r:Vals vs us) (q:Q vs H')
def SP(X:Cx)(pins:List (Addr×Obj))(D:Ends)(f:Flow)(s':Shared):Prop:=
 match f with|.next=>∃σ' H',Inv X pins σ' H' s'/\D.nx σ' H'|.brk=>∃σ' H',Inv X pins σ' H' s'/\D.bk σ' H'|.cont=>∃σ' H',Inv X pins σ' H' s'/\D.ct σ' H'|.ret u=>∃v σ' H',Inv X pins σ' H' s'/\RelV v u/\D.rt v H'
def PE(X:Cx)(e:Expr)(t:TE):Prop:=∀(pins:List (Addr×Obj)) (s:Shared) (σ:St) (H:Hp) (Q:VK),Inv X pins σ H s->t σ H Q->wpAny (model X.prog X.w) X.A (eval e X.env) (EP X pins σ Q) X.xe s
def PT(X:Cx)(e:Expr)(t:TT):Prop:=∀(pins:List (Addr×Obj)) (s:Shared) (σ:St) (H:Hp) (Q:Bool->Hp->Prop),Inv X pins σ H s->t σ H Q->wpAny (model X.prog X.w) X.A (isTrue e X.env (eval e X.env)) (TP X pins σ Q) X.xe s
def PW(X:Cx)(e:Expr)(t:TT):Prop:=∀(whole:Sem Value) (pins:List (Addr×Obj)) (s:Shared) (σ:St) (H:Hp) (Q:Bool->Hp->Prop),Inv X pins σ H s->t σ H Q->wpAny (model X.prog X.w) X.A (isTrue e X.env whole) (TP X pins σ Q) X.xe s
theorem PW.pt{X:Cx}{e:Expr}{t:TT}(h:PW X e t):PT X e t:=h _
def PA(X:Cx)(es:List Expr)(t:TA):Prop:=∀(pos:Pos) (pins:List (Addr×Obj)) (s:Shared) (σ:St) (H:Hp) (Q:List V->Hp->Prop),Inv X pins σ H s->t σ H Q->wpAny (model X.prog X.w) X.A (spliced (backTo pos (ZT es X.env))) (AP X pins σ Q) X.xe s
def PS(X:Cx)(st:Stmt)(t:TS):Prop:=∀(pins:List (Addr×Obj)) (s:Shared) (σ:St) (H:Hp) (D:Ends),Inv X pins σ H s->t D σ H->wpAny (model X.prog X.w) X.A (exec st X.env) (SP X pins D) X.xe s
def PSs(X:Cx)(st:List Stmt)(t:TS):Prop:=∀(pins:List (Addr×Obj)) (s:Shared) (σ:St) (H:Hp) (D:Ends),Inv X pins σ H s->t D σ H->wpAny (model X.prog X.w) X.A (execs st X.env) (SP X pins D) X.xe s
theorem thn{α:Type}{t:Sem α}{Q Q':α->Shared->Prop}{M:Model}{A:Around}{E:Value->Shared->Prop}{s:Shared}(h:wpAny M A t Q E s)(hQ:∀a s,Q a s->Q' a s):wpAny M A t Q' E s:=ZC h hQ λ_ _ x=>x
section
variable {X:Cx}
def tVar(i:Nat):TE:=λσ H Q=>∃v,σ[i]?=some (some v)/\Q v H
def tC(v:V):TE:=λ_ H Q=>Q v H
theorem zbO{i:Nat}{x:Str}{pos:Pos}(hN:X.N[i]?=some x)(hv:Vis X.env.scope x)(hd:(x==("__debug__":Str))=false:=by decide)(hcd:(x==("__classdict__":Str))=false:=by decide):PE X (.Name x pos) (tVar i):=by
 intro pins s σ H Q I h;obtain⟨v,e,h⟩:=h;obtain⟨m,hn,hl⟩:=I.loc;obtain⟨u,r,l⟩:=hl i x v hN e hv;have fin:EP X pins σ Q u s:=⟨v,H,I,r,h⟩
 rcases l with⟨hk,hm⟩|⟨hk,c,hc,hcell⟩
 ·exact wpAny_Name (wpAny_loadName_local I.ok.kind hk hn hm fin) hd
 ·rcases hk with hk | hk
  ·exact wpAny_Name (wpAny_loadName_cell I.ok.kind hk hc hcell fin) hd
  ·exact wpAny_Name (wpAny_loadName_free I.ok.kind hk hc hcell fin hcd) hd
theorem zqN{i j pos}:PE X (.Constant (.int i) j pos) (tC (.int i)):=λ_ _ _ H _ I h=>wpAny_Constant_int ⟨.int i,H,I.tok _,⟨_,rfl⟩,h⟩
theorem zqK{b j pos}:PE X (.Constant (.bool b) j pos) (tC (.bl b)):=λ_ _ _ H _ I h=>Constant_bool ⟨.bl b,H,I,rfl,h⟩
theorem zqX{j pos}:PE X (.Constant .none j pos) (tC .non):=λ_ _ _ H _ I h=>Constant_none ⟨.non,H,I,rfl,h⟩
theorem zhL{x j pos}:PE X (.Constant (.str x) j pos) (tC (.str x)):=λ_ _ _ H _ I h=>Calls.Constant_str ⟨.str x,H,I.tok _,⟨_,rfl⟩,h⟩
def Gl(X:Cx)(x:Str):Prop:=X.env.kindOf x=some .globalImplicit
theorem zcD{E:Value->Shared->Prop}{pins:List (Addr×Obj)}{s:Shared}{σ:St}{H:Hp}{x:Str}{u:Value}{pos:Pos}{Q:Value->Shared->Prop}(I:Inv X pins σ H s)(hg:Gl X x)(hm:X.mg x=some u)(h:Q u s)
  (hd:(x==("__debug__":Str))=false:=by decide):wpAny (model X.prog X.w) X.A (eval (.Name x pos) X.env) Q E s:=
 W4 I.ok.kind hg (Calls.loadGlobal_global (by rw[I.ok.glob];exact I.mod.glob.keeps I.bk) hm h) hd
theorem zhX{E:Value->Shared->Prop}{pins:List (Addr×Obj)}{s:Shared}{σ:St}{H:Hp}{x:Str}{u:Value}{pos:Pos}{Q:Value->Shared->Prop}(I:Inv X pins σ H s)(hg:Gl X x)(hm:X.mg x=none)(hv:XD x=some u)(h:Q u s)
  (hn:x ≠ "__name__":=by decide) (hd:(x==("__debug__":Str))=false:=by decide):wpAny (model X.prog X.w) X.A (eval (.Name x pos) X.env) Q E s:=by
 obtain⟨mb,h1,h2⟩:=I.mod.blt
 exact W4 I.ok.kind hg (Calls.loadGlobal_builtin (by rw[I.ok.glob];exact I.mod.glob.keeps I.bk) hm (by rw[I.ok.blt];exact h1.keeps I.bk) ((h2 x hn).trans hv) h) hd
theorem zkg{x:Str}{v:V}{u:Value}{pos:Pos}(hg:Gl X x)(hm:X.mg x=some u)(r:RelV v u)(hd:(x==("__debug__":Str))=false:=by decide):PE X (.Name x pos) (tC v):=fun _ _ _ H _ I h=>zcD I hg hm ⟨v,H,I,r,h⟩ hd
theorem zgP{x:Str}{v:V}{u:Value}{pos:Pos}(hg:Gl X x)(hm:X.mg x=none)(hv:XD x=some u)(r:RelV v u)(hn:x ≠ "__name__":=by decide)(hd:(x==("__debug__":Str))=false:=by decide):PE X (.Name x pos) (tC v):=fun _ _ _ H _ I h=>zhX I hg hm hv ⟨v,H,I,r,h⟩ hn hd
variable {a b:Expr}{ta tb:TE}{pos:Pos}
def tB(t:TE):TT:=λσ H Q=>t σ H λx H1=>∃c,x=.bl c/\Q c H1
theorem zkE{e:Expr}{t:TE}(h:PE X e t)(he:∀whole,isTrue e X.env whole=(do let v<-whole;Vk e.pos;holding [v] (truthy v)):=by intro _;rfl):PT X e (tB t):=by intro pins s σ H Q I hw;refine isTrue_plain (thn (h pins s σ H _ I hw) λv s1 q_=>?_) (he _);obtain⟨x,H1,I1,r1,q1⟩:=q_;obtain⟨d,rfl,q⟩:=q1;cases r1;exact X6 ⟨H1,I1,q⟩
variable {tA tB':TT}{rest:List Expr}
def tAnd(t u:TT):TT:=λσ H Q=>t σ H λc H1=>if c=true then u σ H1 Q else Q false H1
def tOr(t u:TT):TT:=λσ H Q=>t σ H λc H1=>if c=true then Q true H1 else u σ H1 Q
def tNot(t:TT):TT:=λσ H Q=>t σ H λc H1=>Q (!c) H1
theorem zo1(ha:PT X a tA):PW X (.BoolOp .And [a] pos) tA:=by
 intro wh pins s σ H Q I h;refine isTrue_and (thn (ha pins s σ H Q I h) λc s1 e=>?_)
 cases c with|true=>exact isTrue_and_nil e|false=>exact e
theorem zmX(ha:PT X a tA):PW X (.BoolOp .Or [a] pos) tA:=by
 intro wh pins s σ H Q I h;refine isTrue_or (thn (ha pins s σ H Q I h) λc s1 e=>?_)
 cases c with|false=>exact isTrue_or_nil e|true=>exact e
theorem zpE(ha:PT X a tA)(hb:PW X (.BoolOp .And (b::rest) pos) tB'):PW X (.BoolOp .And (a::b::rest) pos) (tAnd tA tB'):=by
 intro wh pins s σ H Q I h;refine isTrue_and (thn (ha pins s σ H _ I h) λc s1 q_=>?_);obtain⟨H1,I1,q1⟩:=q_
 cases c with|true=>exact hb wh pins s1 σ H1 Q I1 q1|false=>exact⟨H1,I1,q1⟩
theorem zn0(ha:PT X a tA)(hb:PW X (.BoolOp .Or (b::rest) pos) tB'):PW X (.BoolOp .Or (a::b::rest) pos) (tOr tA tB'):=by
 intro wh pins s σ H Q I h;refine isTrue_or (thn (ha pins s σ H _ I h) λc s1 q_=>?_);obtain⟨H1,I1,q1⟩:=q_
 cases c with|true=>exact⟨H1,I1,q1⟩|false=>exact hb wh pins s1 σ H1 Q I1 q1
theorem zkr(ha:PT X a tA):PT X (.UnaryOp .Not a pos) (tNot tA):=by intro pins s σ H Q I h;exact isTrue_not (thn (ha pins s σ H (λc H1=>Q (!c) H1) I h) λ_ _ ⟨H1,I1,q1⟩=>⟨H1,I1,q1⟩)
def zrB(ta tb:TE):TE:=λσ H Q=>ta σ H λx H1=>∃c,x=.bl c/\if c=true then tb σ H1 Q else Q (.bl false) H1
def tOrV(ta tb:TE):TE:=λσ H Q=>ta σ H λx H1=>∃c,x=.bl c/\if c=true then Q (.bl true) H1 else tb σ H1 Q
def zrk(ta:TE):TE:=λσ H Q=>ta σ H λx H1=>∃c,x=.bl c/\Q (.bl (!c)) H1
theorem zhE{op}{t:TE}(h:PE X a t):PE X (.BoolOp op [a] pos) t:=λpins s σ H Q I hw=>BoolOp_one (h pins s σ H Q I hw)
theorem znd(ha:PE X a ta)(hb:PE X (.BoolOp .And (b::rest) pos) tb):PE X (.BoolOp .And (a::b::rest) pos) (zrB ta tb):=by
 intro pins s σ H Q I h;refine BoolOp_and (thn (ha pins s σ H _ I h) λv s1 q_=>?_);obtain⟨x,H1,I1,r1,q1⟩:=q_;obtain⟨c,rfl,q1⟩:=q1;cases r1;refine X6 ?_
 cases c with|true=>exact hb pins s1 σ H1 Q I1 q1|false=>exact⟨.bl false,H1,I1,rfl,q1⟩
theorem znY(ha:PE X a ta)(hb:PE X (.BoolOp .Or (b::rest) pos) tb):PE X (.BoolOp .Or (a::b::rest) pos) (tOrV ta tb):=by
 intro pins s σ H Q I h;refine BoolOp_or (thn (ha pins s σ H _ I h) λv s1 q_=>?_);obtain⟨x,H1,I1,r1,q1⟩:=q_;obtain⟨c,rfl,q1⟩:=q1;cases r1;refine X6 ?_
 cases c with|false=>exact hb pins s1 σ H1 Q I1 q1|true=>exact⟨.bl true,H1,I1,rfl,q1⟩
theorem zq3(ha:PE X a ta):PE X (.UnaryOp .Not a pos) (zrk ta):=by intro pins s σ H Q I h;refine UnaryOp_ (thn (ha pins s σ H _ I h) λv s1 q_=>?_);obtain⟨x,H1,I1,r1,q1⟩:=q_;obtain⟨c,rfl,q1⟩:=q1;cases r1;exact not_of (X6 ⟨.bl (!c),H1,I1,rfl,q1⟩)
def tIf(t:TT)(ta tb:TE):TE:=λσ H Q=>t σ H λc H1=>if c=true then ta σ H1 Q else tb σ H1 Q
theorem zmy{c:Expr}(hc:PT X c tA)(ha:PE X a ta)(hb:PE X b tb):PE X (.IfExp c a b pos) (tIf tA ta tb):=by
 intro pins s σ H Q I h;refine wpAny_IfExp (thn (hc pins s σ H _ I h) λd s1 q_=>?_);obtain⟨H1,I1,q1⟩:=q_
 cases d with|true=>exact ha pins s1 σ H1 Q I1 q1|false=>exact hb pins s1 σ H1 Q I1 q1
end
def SqL(K:Z7)(H:Hp)(a:Addr)(xs:List V):Prop:=
 Rd H a (.lst xs)\/
  ∃(o:Obj) (its:Array Value) (n:Nat),K.lookup a=some o/\o.cls=.type "list"/\o.dict=none/\o.data=.seq its n/\its.size<=sizeLine/\Vals xs its.toList
def SqT(K:Z7)(H:Hp)(a:Addr)(xs:List V):Prop:=
 Rd H a (.tup xs)\/
  ∃(o:Obj) (its:Array Value) (n:Nat),K.lookup a=some o/\o.cls=.type "tuple"/\o.dict=none/\o.data=.seq its n/\its.size<=sizeLine/\Vals xs its.toList
def absV:Value->Option V|.none=>some .non|.bool b=>some (.bl b)|.int i _=>some (.int i)|.str x _=>some (.str x)|.bytes b _=>some (.byt b)|.float b _=>some (.flt b)|.ref a=>some (.ref a)|.type n=>some (.ty n)|_=>none
theorem RelV.abs{x:V}{u:Value}(r:RelV x u):absV u=some x:=by
 cases x with|non=>cases r;rfl|bl _=>cases r;rfl|int _=>obtain⟨t,rfl⟩:=r;rfl|str _=>obtain⟨t,rfl⟩:=r;rfl|byt _=>obtain⟨t,rfl⟩:=r;rfl|flt _=>obtain⟨t,rfl⟩:=r;rfl|ref _=>cases r;rfl|ty _=>cases r;rfl
theorem RelV.inj{x y:V}{u:Value}(r:RelV x u)(q:RelV y u):x=y:=ZY (r.abs.symm.trans q.abs)
theorem Vals.inj:∀{xs ys:List V} {us:List Value},Vals xs us->Vals ys us->xs=ys|_,_,_,.nil,.nil=>rfl|_,_,_,.cons r t,.cons r' t'=>by rw[r.inj r',Vals.inj t t']
section
variable {X:Cx}{pins:List (Addr×Obj)}{σ:St}{H:Hp}{s:Shared}{a:Addr}{xs ys:List V}
theorem SqT.of{K:Z7}(h:H a=some (.tup xs)):SqT K H a xs:=.inl (.inl h)
theorem Inv.list(I:Inv X pins σ H s)(h:SqL X.K H a xs):∃its:List Value,Vals xs its/\PlainL s.heap a its.toArray/\xs.length<=sizeLine:=by
 rcases h with h|⟨o,its,n,hk,hc,hd,hs,hz,r⟩
 ·obtain ⟨z,its,n,r,e⟩:=h.ok I.hok
  exact⟨its,r,⟨_,n,e,rfl,rfl,rfl⟩,z⟩
 ·refine ⟨its.toList,r,⟨o,n,I.kIn a o hk,hc,hd,by simpa using hs⟩,?_⟩
  have e:=r.length;simp only[ZG] at e;omega
theorem Inv.tuple(I:Inv X pins σ H s)(h:SqT X.K H a xs):∃its:List Value,Vals xs its/\IsTup s.heap a its.toArray/\xs.length<=sizeLine:=by
 rcases h with h|⟨o,its,n,hk,hc,_,hs,hz,r⟩
 ·obtain ⟨z,its,r,p⟩:=h.ok I.hok
  exact⟨its,r,p.1,z⟩
 ·refine ⟨its.toList,r,⟨o,I.kIn a o hk,hc,n,by simpa using hs⟩,?_⟩
  have e:=r.length;simp only[ZG] at e;omega
theorem Inv.tupleB(I:Inv X pins σ H s)(h:SqT X.K H a xs):∀o,s.heap.get? a=some o->o.dict=none:=by
 rcases h with h|⟨o,its,n,hk,hc,hd,hs,hz,r⟩
 ·obtain ⟨z,its,r,p⟩:=h.ok I.hok
  exact p.2
 ·intro o2 e2
  rw[I.kIn a o hk] at e2;cases e2;exact hd
theorem Inv.list_inj(I:Inv X pins σ H s)(h:SqL X.K H a xs)(h':SqL X.K H a ys):xs=ys:=by
 obtain⟨its,r,⟨o,n,e,_,_,d⟩,_⟩:=I.list h;obtain⟨its',r',⟨o',n',e',_,_,d'⟩,_⟩:=I.list h'
 rw[e] at e';cases e'
 rw[d] at d';injection d' with d1 _
 have:its=its':=by simpa using congrArg Array.toList d1
 subst this;exact r.inj r'
theorem Inv.tuple_inj(I:Inv X pins σ H s)(h:SqT X.K H a xs)(h':SqT X.K H a ys):xs=ys:=by
 obtain⟨its,r,⟨o,e,_,n,d⟩,_⟩:=I.tuple h;obtain⟨its',r',⟨o',e',_,n',d'⟩,_⟩:=I.tuple h'
 rw[e] at e';cases e'
 rw[d] at d';injection d' with d1 _
 have:its=its':=by simpa using congrArg Array.toList d1
 subst this;exact r.inj r'
end
abbrev Cx.wish(X:Cx)(E:Value->Shared->Prop):Cx:={X with xe:=E}
abbrev Cx.nox(X:Cx):Cx:=X.wish λ_ _=>False
theorem Cx.Ok.wish{X:Cx}(ok:X.Ok)(E:Value->Shared->Prop):(X.wish E).Ok:=⟨ok.mod,ok.kind,ok.glob,ok.blt,ok.above,ok.inj,ok.has,ok.cab,ok.hd,ok.frames,ok.stk,ok.exf,ok.bs,ok.bsz,ok.noex,ok.exfs,ok.funs,ok.frf⟩
theorem Cx.Ok.unwish{X:Cx}{E:Value->Shared->Prop}(ok:(X.wish E).Ok):X.Ok:=⟨ok.mod,ok.kind,ok.glob,ok.blt,ok.above,ok.inj,ok.has,ok.cab,ok.hd,ok.frames,ok.stk,ok.exf,ok.bs,ok.bsz,ok.noex,ok.exfs,ok.funs,ok.frf⟩
section
variable {X:Cx}{pins:List (Addr×Obj)}{σ:St}{H:Hp}{s:Shared}{E:Value->Shared->Prop}
theorem Inv.wish(I:Inv X pins σ H s)(E:Value->Shared->Prop):Inv (X.wish E) pins σ H s:=⟨I.ok.wish E,I.os,I.bare,I.base,I.loc,I.cell,I.free,I.freeC,I.pin,I.hok,I.len⟩
theorem Inv.unwish(I:Inv (X.wish E) pins σ H s):Inv X pins σ H s:=⟨I.ok.unwish,I.os,I.bare,I.base,I.loc,I.cell,I.free,I.freeC,I.pin,I.hok,I.len⟩
theorem SP.unwish{D:Ends}{f:Flow}{s':Shared}(h:SP (X.wish E) pins D f s'):SP X pins D f s':=by
 cases f with|next=>obtain⟨σ',H',I,q⟩:=h;exact⟨σ',H',I.unwish,q⟩|brk=>obtain⟨σ',H',I,q⟩:=h;exact⟨σ',H',I.unwish,q⟩|cont=>obtain⟨σ',H',I,q⟩:=h;exact⟨σ',H',I.unwish,q⟩|ret u=>obtain⟨v,σ',H',I,r,q⟩:=h;exact⟨v,σ',H',I.unwish,r,q⟩
theorem PE.nox{e:Expr}{t:TE}(h:PE X.nox e t):PE X e t:=λpins s σ H Q I hw=>ZC (h pins s σ H Q (I.wish _) hw) (λ_ _ ⟨v,H',I',r,q⟩=>⟨v,H',I'.unwish,r,q⟩) λ_ _ z=>Yh z
theorem PT.nox{e:Expr}{t:TT}(h:PT X.nox e t):PT X e t:=λpins s σ H Q I hw=>ZC (h pins s σ H Q (I.wish _) hw) (λ_ _ ⟨H',I',q⟩=>⟨H',I'.unwish,q⟩) λ_ _ z=>Yh z
theorem PSs.nox{st:List Stmt}{t:TS}(h:PSs X.nox st t):PSs X st t:=λpins s σ H D I hw=>ZC (h pins s σ H D (I.wish _) hw) (λ_ _ q=>q.unwish) λ_ _ z=>Yh z
end
section
variable {X:Cx}{st:Stmt}{rest:List Stmt}{t u:TS}{e:Expr}{te:TE}{pos:Pos}
def zrx:TS:=λD σ H=>D.nx σ H
def tSeq(t u:TS):TS:=λD σ H=>t {D with nx:=u D} σ H
theorem zku:PSs X [] zrx:=λ_ _ σ H _ I h=>VX ⟨σ,H,I,h⟩
theorem zdd(h1:PS X st t)(h2:PSs X rest u):PSs X (st::rest) (tSeq t u):=by
 intro pins s σ H D I h;refine WY (thn (h1 pins s σ H {D with nx:=u D} I h) λf s1 q=>?_)
 cases f with|next=>obtain⟨σ',H',I',q⟩:=q;exact h2 pins s1 σ' H' D I' q|ret v=>exact q|brk=>exact q|cont=>exact q
theorem zfn(h1:PS X st t):PSs X [st] t:=by
 intro pins s σ H D I h;refine WY (thn (h1 pins s σ H D I h) λf s1 q=>?_)
 cases f with|next=>exact VX q|ret v=>exact q|brk=>exact q|cont=>exact q
theorem Inv.quiet{pins:List (Addr×Obj)}{σ:St}{H:Hp}{s:Shared}(I:Inv X pins σ H s):interactive X.env=false:=by simp[interactive,I.ok.kind]
def zrr(te:TE):TS:=λD σ H=>te σ H λ_ H1=>D.nx σ H1
theorem zgZ(he:PE X e te)(hs:Wx e none pos.line X.env=pure false:=by rfl):PS X (.Expr e pos) (zrr te):=by intro pins s σ H D I h;exact wpAny_Expr_any (thn (he pins s σ H _ I h) λv s1 ⟨x,H1,I1,r1,q1⟩=>⟨σ,H1,I1,q1⟩) I.quiet hs
def tRet(te:TE):TS:=λD σ H=>te σ H D.rt
theorem zeG(he:PE X e te):PS X (.Return (some e) pos) (tRet te):=by intro pins s σ H D I h;exact wpAny_Return_some (thn (he pins s σ H _ I h) λv s1 ⟨x,H1,I1,r1,q1⟩=>⟨x,σ,H1,I1,r1,q1⟩)
def tIfS(c:TT)(t u:TS):TS:=λD σ H=>c σ H λb H1=>if b=true then t D σ H1 else u D σ H1
theorem zpc{c:Expr}{a b:List Stmt}{tc:TT}(hc:PT X c tc)(ha:PSs X a t)(hb:PSs X b u):PS X (.If c a b pos) (tIfS tc t u):=by
 intro pins s σ H D I h;refine wpAny_If (thn (hc pins s σ H _ I h) λd s1 q_=>?_);obtain⟨H1,I1,q1⟩:=q_
 cases d with|true=>exact ha pins s1 σ H1 D I1 q1|false=>exact hb pins s1 σ H1 D I1 q1
end
abbrev TG:=V->St->Hp->(St->Hp->Prop)->Prop
abbrev TGs:=List V->St->Hp->(St->Hp->Prop)->Prop
def PG(X:Cx)(target:Expr)(t:TG):Prop:=
 ∀ (pins:List (Addr×Obj)) (s:Shared) (σ:St) (H:Hp) (v:V) (u:Value) (Q:St->Hp->Prop),Inv X pins σ H s->RelV v u->t v σ H Q →
  wpAny (model X.prog X.w) X.A (assign target X.env u) (λ_ s'=>∃σ' H',Inv X pins σ' H' s'/\Q σ' H') X.xe s
def PGs(X:Cx)(ts:List Expr)(t:TGs):Prop:=
 ∀ (pins:List (Addr×Obj)) (s:Shared) (σ:St) (H:Hp) (vs:List V) (us:List Value) (Q:St->Hp->Prop),Inv X pins σ H s->Vals vs us->t vs σ H Q →
  wpAny (model X.prog X.w) X.A (assignInOrder ((Y9 ts X.env).map (·.2)) us) (λ_ s'=>∃σ' H',Inv X pins σ' H' s'/\Q σ' H') X.xe s
abbrev TSet:=V->V->V->Hp->(Hp->Prop)->Prop
def PSet(X:Cx)(t:TSet):Prop:=
 ∀ (pins:List (Addr×Obj)) (s:Shared) (σ:St) (H:Hp) (o i v:V) (ov iv u:Value) (Q:Hp->Prop),Inv X pins σ H s->RelV o ov->RelV i iv->RelV v u->t o i v H Q →
  wpAny (model X.prog X.w) X.A (setItem ov iv u) (λ_ s'=>∃H',Inv X pins σ H' s'/\Q H') X.xe s
section
variable {X:Cx}{pos:Pos}
def zjv(i:Nat):TG:=λv σ H Q=>Q (σ.set i (some v)) H
theorem zhb{i:Nat}{x:Str}(hN:X.N.Nodup)(hi:X.N[i]?=some x)(hx:Loc X.env.scope x)(hf:X.fn x=true\/X.env.scope.names.lookup x=some .local:=by first | exact .inl rfl | exact .inr rfl | assumption):PG X (.Name x pos) (zjv i):=by intro pins s σ H v u Q I r h;exact wpAny_assign_Name (zfp I hN hi hx r (λs' I'=>⟨_,H,I',h⟩) hf)
def gNil:TGs:=λvs σ H Q=>vs=[]/\Q σ H
def zrn(t:TG)(u:TGs):TGs:=λvs σ H Q=>∃v r,vs=v::r/\t v σ H λσ' H'=>u r σ' H' Q
theorem zk6:PGs X [] gNil:=by intro pins s σ H vs us Q I r h;obtain⟨e,h⟩:=h;subst e;cases r;exact assignInOrder_nil ⟨σ,H,I,h⟩
theorem zfu{e:Expr}{es:List Expr}{t:TG}{u:TGs}(h1:PG X e t)(h2:PGs X es u)
  (hs:(Y9 (e::es) X.env).map (·.2)=assign e X.env::(Y9 es X.env).map (·.2):=by rfl):PGs X (e::es) (zrn t u):=by
 intro pins s σ H vs us Q I r h;obtain⟨v,vr,e1,h⟩:=h;subst e1
 cases r with|cons r rr=>rw[hs];refine assignInOrder_cons (thn (h1 pins s σ H _ _ _ I r h) λ_ s1 q_=>?_);obtain⟨σ1,H1,I1,q1⟩:=q_;exact h2 pins s1 σ1 H1 _ _ Q I1 rr q1
def gTup(K:Z7)(n:Nat)(t:TGs):TG:=λv σ H Q=>∃a xs,v=.ref a/\SqT K H a xs/\xs.length=n/\t xs σ H Q
theorem zne{es:List Expr}{k:Nat}{t:TGs}{n:Nat}(hc:X.calm=true)(h:PGs X es t)
  (hn:(Y9 es X.env).length=n:=by rfl) (hst:(Y9 es X.env).findIdx? (·.1)=none:=by rfl):PG X (.Tuple es k pos) (gTup X.K n t):=by
 intro pins s σ H v u Q I r hw;obtain⟨a,xs,e1,hq,hl,hw⟩:=hw;subst e1;cases r;obtain⟨its,rv,ht,hz⟩:=I.tuple hq;refine assign_Tuple_tuple (I.ok.hd hc) ht (by simp[hn,<-hl,rv.length]) hst λh' hx=>?_;have I1:Inv X pins σ H {s with heap:=h'}:=I.kept (t':=s.toks) λb o e=>hx b o (ZI (ZW e)) e;exact h pins _ σ H xs _ Q I1 (by simpa using rv) hw
def gSub(to ti:TE)(t:TSet):TG:=λv σ H Q=>to σ H λo H1=>ti σ H1 λi H2=>t o i v H2 λH3=>Q σ H3
theorem zqr{o i:Expr}{to ti:TE}{t:TSet}(ho:PE X o to)(hi:PE X i ti)(hs:PSet X t)
  (ha:∀v,assign (.Subscript o i pos) X.env v=(do
   let ov<-holding [v] (eval o X.env)
   let iv<-holding [v,ov] (eval i X.env)
   Vk pos
   holding [v,ov,iv] (setItem ov iv v)
   release [v,ov,iv] []):=by intro _;rfl):PG X (.Subscript o i pos) (gSub to ti t):=by
 intro pins s σ H v u Q I r h;rw[ha];refine Z9 (Y6 (thn (ho pins s σ H _ I h) λov s1 q_=>?_));obtain⟨x,H1,I1,r1,q1⟩:=q_;refine Z9 (Y6 (thn (hi pins s1 σ H1 _ I1 q1) λiv s2 q_=>?_));obtain⟨y,H2,I2,r2,q2⟩:=q_;refine Z9 (V6 (Z9 (Y6 (thn (hs pins s2 σ H2 x y v ov iv u _ I2 r1 r2 r q2) λ_ s3 q_=>?_))));obtain⟨H3,I3,q3⟩:=q_;exact wpAny_release ⟨σ,H3,I3,q3⟩
def tAsg(te:TE)(g:TG):TS:=λD σ H=>te σ H λx H1=>g x σ H1 D.nx
theorem zli{tg e:Expr}{te:TE}{g:TG}(he:PE X e te)(hg:PG X tg g)(hs:U9 [tg] e pos.line X.env=pure false:=by rfl)(hw:U8 [tg] e X.env=pure none:=by rfl)
  (h1:(Y9 [tg] X.env).map (·.2)=[assign tg X.env]:=by rfl):PS X (.Assign [tg] e pos) (tAsg te g):=by
 intro pins s σ H D I h;refine wpAny_Assign_stores (thn (he pins s σ H _ I h) λv s1 q_=>?_) hs hw;obtain⟨x,H1,I1,r1,q1⟩:=q_;rw[h1];exact thn (hg pins s1 σ H1 x v _ I1 r1 q1) λ_ s2 q=>q
theorem zqu{i:Nat}{x:Str}{e:Expr}{te:TE}{pos':Pos}(hN:X.N.Nodup)(hi:X.N[i]?=some x)(hx:Loc X.env.scope x)(he:PE X e te)(hs:Wx e (some (.Name x pos')) pos.line X.env=pure false:=by rfl)(hf:X.fn x=true\/X.env.scope.names.lookup x=some .local:=by first | exact .inl rfl | exact .inr rfl | assumption):
  PS X (.Assign [.Name x pos'] e pos) (tAsg te (zjv i)):=by
 intro pins s σ H D I h;refine wpAny_Assign_Name (thn (he pins s σ H _ I h) λv s1 q_=>?_) hs;obtain⟨y,H1,I1,r1,q1⟩:=q_;exact zfp I1 hN hi hx r1 (λs2 I2=>⟨_,H1,I2,q1⟩) hf
end
section
variable {X:Cx}{pos:Pos}
end
structure It where
 go:Nat->Hp->Prop
 yld:Nat->Hp->V->Hp->Prop
 stop:Nat->Hp->Prop
def FpOk(X:Cx)(pins:List (Addr×Obj))(H:Hp)(b:Addr):Prop:=H b=none/\b≠X.env.locals/\b∉X.fs/\(b∈X.ex\/X.s₀.heap.objs.size<=b)/\(∀x c,X.env.cells.lookup x=some c->c≠b)/\∀p∈X.pn++pins,p.1≠b
theorem Inv.fpOk{X:Cx}{pins:List (Addr×Obj)}{σ:St}{H H':Hp}{s:Shared}{b:Addr}(I:Inv X pins σ H s)(hb:s.heap.objs.size<=b)(hn:H' b=none):FpOk X pins H' b:=by
 refine⟨hn,Xf (ZE I.lt hb),I.nofs hb,.inr (Zf I.sz hb),λx c e z=>?_,λp hp z=>?_⟩
 ·obtain ⟨v,q⟩:=I.cell x c e
  exact absurd (ZE q.lt (by rw[z];exact hb)) (YO _)
 ·exact absurd (ZE (ZW (I.pin p hp).1) (by rw[z];exact hb)) (YO _)
structure Turn(P:ZB)(w:World)(K:Z7)(tg:Expr)(J:It)(fp:List Addr)(it:Addr)(tn:Nat->Heap->Prop):Prop where
 mem:it∈fp
 obj:∀i h,tn i h->∀b∈fp,∃o,h.get? b=some o/\∀v,o.data≠.cell v
 keep:∀i h h',tn i h->(∀b∈fp,∀o,h.get? b=some o->h'.get? b=some o)->tn i h'
 item:∀(X:Cx),X.prog=P->X.w=w->X.K=K->X.calm=true->∀(i:Nat) (pins:List (Addr×Obj)) (s:Shared) (σ:St) (H:Hp) (E:Value->Shared->Prop),Inv X pins σ H s->(∀b∈fp,FpOk X pins H b)->tn i s.heap->J.go i H →
  wpAny (model P w) X.A (pyNext (.ref it)) (λr s1=>∃u,r=some u ∧
   wpAny (model P w) X.A (WI tg (.ref it) u) (λ_ s2=>∃x H',Inv X pins σ H' s2/\RelV x u/\J.yld i H x H'/\tn (i+1) s2.heap/\∀b∈fp,H' b=none) E s1) E s
 done:∀(X:Cx),X.prog=P->X.w=w->X.K=K->X.calm=true->∀(i:Nat) (pins:List (Addr×Obj)) (s:Shared) (σ:St) (H:Hp) (E:Value->Shared->Prop),Inv X pins σ H s->(∀b∈fp,FpOk X pins H b)->tn i s.heap->J.stop i H →
  wpAny (model P w) X.A (pyNext (.ref it)) (λr s1=>r=none/\Inv X pins σ H s1) E s
 self:∀(A:Around) (i:Nat) (s:Shared) (Q:Value->Shared->Prop) (E:Value->Shared->Prop),tn i s.heap->Q (.ref it) s->wpAny (model P w) A (pyIter (.ref it)) Q E s
abbrev TI:=St->Hp->(It->Hp->Prop)->Prop
def PIE(X:Cx)(pins:List (Addr×Obj))(σ:St)(tg:Expr)(R:It->Hp->Prop)(itv:Value)(s2:Shared):Prop:=∃(it:Addr) (fp:List Addr) (tn:Nat->Heap->Prop) (J:It) (H':Hp),itv=.ref it/\Inv X pins σ H' s2/\Turn X.prog X.w X.K tg J fp it tn/\tn 0 s2.heap/\(∀b∈fp,FpOk X pins H' b)/\R J H'
def PI(X:Cx)(tg iter:Expr)(wi:TI):Prop:=
 ∀ (pins:List (Addr×Obj)) (s:Shared) (σ:St) (H:Hp) (R:It->Hp->Prop),Inv X pins σ H s->wi σ H R →
  wpAny (model X.prog X.w) X.A (eval iter X.env) (λv s1=>wpAny (model X.prog X.w) X.A (pyIter v) (PIE X pins σ tg R) X.xe s1) X.xe s
theorem zmc{M:Model}{A:Around}{E:Value->Shared->Prop}{s:Shared}{tg:Expr}{it:Addr}{u:Value}{o:Obj}{n:String}{vs:Array Value}{Q:Unit->Shared->Prop}(ho:s.heap.get? it=some o)(hc:o.cls=.type n)(hd:o.data=.fields vs)
    (hn:["enumerate", "zip", "dict_itemiterator", "dict_reverseitemiterator", "odict_iterator", "itertools.zip_longest", "itertools.pairwise"].contains n=false) (hQ:Q () s):wpAny M A (WI tg (.ref it) u) Q E s:=by
  unfold WI
  cases tg <;> first
    |exact Z6 hQ
    | (cases u<;>first
        |exact Z6 hQ
        | (refine Z9 (Wd ho ?_)
           rw[hc,hd];show wpAny M A (if(["enumerate", "zip", "dict_itemiterator", "dict_reverseitemiterator", "odict_iterator", "itertools.zip_longest", "itertools.pairwise"].contains n&&vs[0]?==some (rawInt _))=true then _ else _) Q E s
           rw[if_neg (by intro h;rw[hn,Bool.false_and] at h;cases h)]
           exact Z6 hQ))
def Itl(K:Z7)(a:Addr):It:=⟨λi H=>∃xs x,SqL K H a xs/\xs[i]?=some x,λi H x H'=>H'=H/\∀xs,SqL K H a xs->xs[i]?=some x,λi H=>∃xs,SqL K H a xs/\xs.length<=i⟩
def Itt(K:Z7)(a:Addr):It:=⟨λi H=>∃xs x,SqT K H a xs/\xs[i]?=some x,λi H x H'=>H'=H/\∀xs,SqT K H a xs->xs[i]?=some x,λi H=>∃xs,SqT K H a xs/\xs.length<=i⟩
def Itr(lo:Int)(n:Nat):It:=⟨λi _=>i<n,λi H x H'=>H'=H/\x=.int (lo+i),λi _=>n<=i⟩
theorem zkZ{P:ZB}{w:World}{K:Z7}{tg:Expr}(a it:Addr):Turn P w K tg (Itl K a) [it] it (λi h=>h.IsListIter it a i) where
 mem:=by simp
 obj:=λi h st b hb=>by
  have e:b=it:=by simpa using hb
  subst e;obtain⟨o,e,c,d⟩:=st
  exact⟨o,e,λv z=>by rw[d] at z;cases z⟩
 keep:=λi h h' st k=>st.at λo e=>k it (by simp) o e
 item:=by
  intro X hP hw hK hc i pins s σ H E I hf st hg;subst hP hw hK;obtain⟨xs,x,hq,hx⟩:=hg;obtain⟨its,rv,p,hz⟩:=I.list hq;obtain⟨u,hu,ru⟩:=rv.get hx;obtain⟨f0,f1,f2,f3,f4,f5⟩:=hf it (by simp);refine wpAny_pyNext_list_item st p.isList (x:=u) (by simpa using hu) λh' st' sb=>?_;have I1:Inv X pins σ H {s with heap:=h'}:=I.turned (t':=s.toks) (λb o hb e=>(sb.2 b hb).trans e) f0 f1 f3 f4 f5;obtain⟨o,e,c,d⟩:=id st'
  exact⟨u,rfl,zmc (s:={s with heap:=h'}) e c d (by decide) ⟨x,H,I1,ru,⟨rfl,λys hy=>by rw[I.list_inj hy hq];exact hx⟩,st',λb hb=>(hf b hb).1⟩⟩
 done:=by
  intro X hP hw hK hc i pins s σ H E I hf st hg;subst hP hw hK;obtain⟨xs,hq,hx⟩:=hg;obtain⟨its,rv,p,hz⟩:=I.list hq;obtain⟨f0,f1,f2,f3,f4,f5⟩:=hf it (by simp);have hl:=rv.length
  exact wpAny_pyNext_list_end (I.ok.hd hc) st p.isList (by simp;omega) λh' eb=>⟨rfl,I.turned (t':=s.toks) (λb o hb e=>eb b o hb e) f0 f1 f3 f4 f5⟩
 self:=λ_ _ _ _ _ st h=>wpAny_pyIter_listiter st h
theorem ziT{P:ZB}{w:World}{K:Z7}{tg:Expr}(a it:Addr):Turn P w K tg (Itt K a) [it] it (λi h=>h.IsTupleIter it a i) where
 mem:=by simp
 obj:=λi h st b hb=>by
  have e:b=it:=by simpa using hb
  subst e;obtain⟨o,e,c,d⟩:=st
  exact⟨o,e,λv z=>by rw[d] at z;cases z⟩
 keep:=λi h h' st k=>st.at λo e=>k it (by simp) o e
 item:=by
  intro X hP hw hK hc i pins s σ H E I hf st hg;subst hP hw hK;obtain⟨xs,x,hq,hx⟩:=hg;obtain⟨its,rv,p,hz⟩:=I.tuple hq;obtain⟨u,hu,ru⟩:=rv.get hx;obtain⟨f0,f1,f2,f3,f4,f5⟩:=hf it (by simp);refine wpAny_pyNext_tuple_item st (show s.heap.IsTuple a its.toArray from p) (x:=u) (by simpa using hu) λh' st' sb=>?_;have I1:Inv X pins σ H {s with heap:=h'}:=I.turned (t':=s.toks) (λb o hb e=>(sb.2 b hb).trans e) f0 f1 f3 f4 f5;obtain⟨o,e,c,d⟩:=id st'
  exact⟨u,rfl,zmc (s:={s with heap:=h'}) e c d (by decide) ⟨x,H,I1,ru,⟨rfl,λys hy=>by rw[I.tuple_inj hy hq];exact hx⟩,st',λb hb=>(hf b hb).1⟩⟩
 done:=by
  intro X hP hw hK hc i pins s σ H E I hf st hg;subst hP hw hK;obtain⟨xs,hq,hx⟩:=hg;obtain⟨its,rv,p,hz⟩:=I.tuple hq;obtain⟨f0,f1,f2,f3,f4,f5⟩:=hf it (by simp);have hl:=rv.length
  exact wpAny_pyNext_tuple_end (I.ok.hd hc) st (show s.heap.IsTuple a its.toArray from p) (by simp;omega) λh' eb=>⟨rfl,I.turned (t':=s.toks) (λb o hb e=>eb b o hb e) f0 f1 f3 f4 f5⟩
 self:=λ_ _ _ _ _ st h=>wpAny_pyIter_tupleiter st h
theorem ziw{P:ZB}{w:World}{K:Z7}{tg:Expr}(it:Addr)(lo:Int)(n:Nat):Turn P w K tg (Itr lo n) [it] it (λi h=>IsRangeIter h it (lo+(i:Nat)*1) ((n:Int)-(i:Nat)) 1) where
 mem:=by simp
 obj:=λi h st b hb=>by
  have e:b=it:=by simpa using hb
  subst e
  exact ⟨_,st,λv z=>by
   have z':Data.fields _=Data.cell v:=z
   cases z'⟩
 keep:=λi h h' st k=>k it (by simp) _ st
 item:=by intro X hP hw hK hc i pins s σ H E I hf st hg;subst hP hw hK;obtain⟨f0,f1,f2,f3,f4,f5⟩:=hf it (by simp);have W:=Walks.range (prog:=X.prog) (w:=X.w) (I.ok.hd hc) it lo 1 n;refine W.item i s _ _ hg st λv h' tk hv st' kk=>?_;obtain⟨t,rfl⟩:=hv;have I1:Inv X pins σ H {s with heap:=h',toks:=tk}:=I.turned (λb o hb e=>kk b o (by simpa using hb) e) f0 f1 f3 f4 f5;refine⟨_,rfl,zmc (s:={s with heap:=h',toks:=tk}) (n:="range_iterator") st' rfl rfl (by decide) ⟨.int (lo+i),H,I1,⟨t,?_⟩,⟨rfl,rfl⟩,st',λb hb=>(hf b hb).1⟩⟩;rw[Int.mul_one]
 done:=by
  intro X hP hw hK hc i pins s σ H E I hf st hg;subst hP hw hK;obtain⟨f0,f1,f2,f3,f4,f5⟩:=hf it (by simp)
  exact wpAny_pyNext_range_end (I.ok.hd hc) st (by have:n<=i:=hg;omega) λh' eb=>⟨rfl,I.turned (t':=s.toks) (λb o hb e=>eb b o hb e) f0 f1 f3 f4 f5⟩
 self:=λ_ _ _ _ _ st h=>wpAny_pyIter_rangeiter st h
section
variable {X:Cx}{tg:Expr}
theorem zmC{pins:List (Addr×Obj)}{σ:St}{H:Hp}{s:Shared}{R:It->Hp->Prop}{E:Value->Shared->Prop}{lo hi:Int}{t u v:Tok}{tk:Nat}(I:Inv X pins σ H s)(h1:-(2^62)<=lo)(h2:lo<2^62)(h3:-(2^62)<=hi)(h4:hi<2^62)
  (q:R (Itr lo (hi-lo).toNat) H):wpAny (model X.prog X.w) X.A (pyIter (.ref s.heap.objs.size)) (PIE X pins σ tg R) E {s with heap:=s.heap.push {cls:=.type "range",data:=.fields #[.int lo t,.int hi u,.int 1 v]},toks:=tk}:=by
 refine wpAny_pyIter_range (IsRange.new ..) (small_one h1 h2 h3 h4) ?_;have I1:Inv X pins σ H {s with heap:=s.heap.push {cls:=.type "range",data:=.fields #[.int lo t,.int hi u,.int 1 v]},toks:=tk}:=I.kept λb o e=>Z5 _ e
 refine ⟨(s.heap.push {cls:=.type "range",data:=.fields #[.int lo t,.int hi u,.int 1 v]}).objs.size,[(s.heap.push {cls:=.type "range",data:=.fields #[.int lo t,.int hi u,.int 1 v]}).objs.size],_,_,H,rfl,
  I1.kept (t':=tk) λb o e=>Z5 _ e,ziw _ lo (hi-lo).toNat,?_,λb hb=>?_,q⟩
 ·have e1:lo+((0:Nat):Int)*1=lo:=by simp
  have e2:(((hi-lo).toNat:Nat):Int)-((0:Nat):Int)=Zb.Range.rangeSize lo hi 1:=by rw[rangeSize_one];split<;>omega
  show IsRangeIter _ _ (lo+((0:Nat):Int)*1) ((((hi-lo).toNat:Nat):Int)-((0:Nat):Int)) 1;rw[e1,e2];exact ZH _ rfl
 ·have e:b=(s.heap.push {cls:=.type "range",data:=.fields #[.int lo t,.int hi u,.int 1 v]}).objs.size:=by simpa using hb
  subst e;exact I1.fpOk (ZZ _) (I1.hok.fresh (ZZ _))
def zry(ta:TA):TI:=λσ H R=>ta σ H λvs H1=>∃j:Int,vs=[.int j]/\-(2^62)<=j/\j<2^62/\R (Itr 0 j.toNat) H1
theorem zjE{a:Expr}{ta:TA}{p pos:Pos}(hg:Gl X "range")(hm:X.mg "range"=none)(ha:PA X [a] ta)(hs:ZT [a] X.env=[(false,eval a X.env)]:=by rfl):PI X tg (.Call (.Name "range" p) [a] [] pos) (zry ta):=by
 intro pins s σ H R I h;refine Call_ (zhX I hg hm boot_range (VQ (thn (ha pos pins s σ H _ I h) λus s1 q_=>?_) hs rfl));obtain⟨vs,H1,I1,r1,q1⟩:=q_;obtain⟨j,e,q1,q2,q⟩:=q1;subst e
 cases r1 with|cons r rr=>cases rr;obtain⟨t,rfl⟩:=r;exact call_range_1 (zmC I1 (by omega) (by omega) q1 q2 (by simpa using q))
def tFor(wi:TI)(g:TG)(tb:TS):TS:=λD σ H=>wi σ H λJ H1=>∃W:Nat->Nat->St->Hp->Prop,(∃m,W 0 m σ H1)/\∀i m σ H,W i m σ H →
 (J.stop i H/\D.nx σ H)\/(J.go i H/\∃N:St->Hp->Prop,(∀σ' H',N σ' H'->∃m',m'<m/\W (i+1) m' σ' H')/\∀x H',J.yld i H x H'->g x σ H' λσ2 H2=>tb {D with nx:=N,ct:=N,bk:=D.nx} σ2 H2)
def zgI(fp:List Addr)(h:Heap):List (Addr×Obj):=fp.filterMap λb=>(h.get? b).map λo=>(b,o)
theorem zbD{fp:List Addr}{h:Heap}{b:Addr}{o:Obj}(hb:b∈fp)(e:h.get? b=some o):(b,o)∈zgI fp h:=WB.mpr ⟨b,hb,by rw[e];rfl⟩
theorem zj4{fp:List Addr}{h:Heap}{p:Addr×Obj}(hp:p∈zgI fp h):p.1∈fp/\h.get? p.1=some p.2:=by
 obtain⟨b,hb,e⟩:=WB.mp hp
 cases q:h.get? b with|none=>rw[q] at e;cases e|some o=>rw[q] at e;have e':(b,o)=p:=ZY e;subst e';exact⟨hb,q⟩
theorem Inv.pinned{pins:List (Addr×Obj)}{σ:St}{H:Hp}{s:Shared}{fp:List Addr}(I:Inv X pins σ H s)(hf:∀b∈fp,FpOk X pins H b)(ho:∀b∈fp,∃o,s.heap.get? b=some o/\∀v,o.data≠.cell v):Inv X (pins++zgI fp s.heap) σ H s:=
 I.pins_of λp hp=>(Zd.mp hp).elim (λz=>I.pin p (Zx _ z)) λz=>by
  obtain⟨hb,e⟩:=zj4 z;obtain⟨f0,f1,f2,_⟩:=hf p.1 hb;obtain⟨o,e',d⟩:=ho p.1 hb
  rw[e] at e';cases e'
  exact⟨e,f0,f1,f2,d⟩
theorem Inv.unpinned{pins pl:List (Addr×Obj)}{σ:St}{H:Hp}{s:Shared}(I:Inv X (pins++pl) σ H s):Inv X pins σ H s:=I.pins_of λp hp=>I.pin p (Zx _ (VZ _ hp))
theorem zmV{iter:Expr}{body:List Stmt}{wi:TI}{g:TG}{tb:TS}{pos:Pos}(hp:U3 (model X.prog X.w) X.A X.env X.xe)(hc:X.calm=true)(hi:PI X tg iter wi)(hg:PG X tg g)(hb:PSs X body tb)
  (hs:∀x,Ys iter X.env x=pure x:=by intro _;rfl):PS X (.For tg iter body [] pos) (tFor wi g tb):=by
 intro pins s σ H D I h;refine wpAny_For (thn (hi pins s σ H _ I h) λv s1 h1=>thn h1 λitv s2 h2=>?_) hs;obtain⟨it,fp,tn,J,H2,e,I2,T,st2,f2,W,⟨m0,w0⟩,turn⟩:=h2;subst e;have stat:∀{H':Hp},(∀b∈fp,H' b=none)->∀b∈fp,FpOk X pins H' b:=λhn b hb=>⟨hn b hb,(f2 b hb).2⟩;refine codeAny_forLoop_any (λn s'=>∃i σ' H',Inv X pins σ' H' s'/\tn i s'.heap/\(∀b∈fp,H' b=none)/\W i n σ' H') ?_ m0 ⟨0,σ,H2,I2,st2,λb hb=>(f2 b hb).1,w0⟩
 rintro n s3 ⟨i,σ3,H3,I3,st3,fr3,w3⟩
 rcases turn i n σ3 H3 w3 with⟨stop,qn⟩|⟨go,N,hN,step⟩
 ·refine WH hp (thn (T.done X rfl rfl rfl hc i pins s3 σ3 H3 X.xe I3 (stat fr3) st3 stop) λr s4 q_=>?_)
  obtain⟨hr,I4⟩:=q_;subst hr;exact VX ⟨σ3,H3,I4,qn⟩
 ·refine WH hp (thn (T.item X rfl rfl rfl hc i pins s3 σ3 H3 X.xe I3 (stat fr3) st3 go) λr s4 q_=>?_)
  obtain⟨u,hr,h4⟩:=q_;subst hr;refine WH hp (thn h4 λ_ s5 q_=>?_);obtain⟨x,H5,I5,r5,y5,st5,fr5⟩:=q_;have I5':=I5.pinned (stat fr5) (T.obj _ _ st5);refine WH hp (thn (hg _ s5 σ3 H5 x u _ I5' r5 (step x H5 y5)) λ_ s6 q_=>?_);obtain⟨σ6,H6,I6,q6⟩:=q_;refine WH hp (thn (hb _ s6 σ6 H6 _ I6 q6) λf s7 q7=>?_)
  have again:∀{σ7:St} {H7:Hp},Inv X (pins++zgI fp s5.heap) σ7 H7 s7->N σ7 H7->∃m,m<n/\∃i σ' H',Inv X pins σ' H' s7/\tn i s7.heap/\(∀b∈fp,H' b=none)/\W i m σ' H':=λ{σ7 H7} I7 n7=>by obtain⟨m',hm,w7⟩:=hN σ7 H7 n7;refine⟨m',hm,i+1,σ7,H7,I7.unpinned,T.keep _ _ _ st5 λb hb o e=>(I7.pin (b,o) (Zx _ (Zx _ (zbD hb e)))).1,λb hb=>?_,w7⟩;obtain⟨o,e,d⟩:=T.obj _ _ st5 b hb;exact(I7.pin (b,o) (Zx _ (Zx _ (zbD hb e)))).2.1
  cases f with|next=>obtain⟨σ7,H7,I7,n7⟩:=q7;exact again I7 n7|cont=>obtain⟨σ7,H7,I7,n7⟩:=q7;exact again I7 n7|brk=>obtain⟨σ7,H7,I7,q7⟩:=q7;exact⟨σ7,H7,I7.unpinned,q7⟩|ret v=>obtain⟨x7,σ7,H7,I7,r7,q7⟩:=q7;exact⟨x7,σ7,H7,I7.unpinned,r7,q7⟩
end
abbrev R2:=V->V->Hp->VK->Prop
def OpR(X:Cx)(f:Value->Value->Sem Value)(r:R2):Prop:=
 ∀ (pins:List (Addr×Obj)) (s:Shared) (σ:St) (H:Hp) (x y:V) (v u:Value) (Q:VK),Inv X pins σ H s->RelV x v->RelV y u->r x y H Q →
  wpAny (model X.prog X.w) X.A (f v u) (EP X pins σ Q) X.xe s
def zcs(X:Cx)(f:Value)(r:List V->Hp->VK->Prop):Prop:=
 ∀ (pins:List (Addr×Obj)) (s:Shared) (σ:St) (H:Hp) (xs:List V) (us:List Value) (Q:VK),Inv X pins σ H s->Vals xs us->r xs H Q →
  wpAny (model X.prog X.w) X.A (call f us) (EP X pins σ Q) X.xe s
def TruR(X:Cx)(r:V->Hp->(Bool->Hp->Prop)->Prop):Prop:=
 ∀ (pins:List (Addr×Obj)) (s:Shared) (σ:St) (H:Hp) (x:V) (v:Value) (Q:Bool->Hp->Prop),Inv X pins σ H s->RelV x v->r x H Q →
  wpAny (model X.prog X.w) X.A (truthy v) (TP X pins σ Q) X.xe s
def tOp(r:R2)(ta tb:TE):TE:=λσ H Q=>ta σ H λx H1=>tb σ H1 λy H2=>r x y H2 Q
def rI(C:Int->Int->Prop)(g:Int->Int->V):R2:=λx y H Q=>∃i j,x=.int i/\y=.int j/\C i j/\Q (g i j) H
def rI0(g:Int->Int->V):R2:=λx y H Q=>∃i j,x=.int i/\y=.int j/\Q (g i j) H
section
variable {X:Cx}{a b c:Expr}{ta tb tc:TE}{pos:Pos}
theorem binT(ha:PE X a ta)(hb:PE X b tb){pins:List (Addr×Obj)}{s:Shared}{σ:St}{H:Hp}{R:V->V->Hp->Prop}(I:Inv X pins σ H s)
  (h:ta σ H λx H1=>tb σ H1 λy H2=>R x y H2) {Q:Value->Shared->Prop} {f:Value->Value->Sem Value}
  (hf:∀v u s2 x y H2,Inv X pins σ H2 s2->RelV x v->RelV y u->R x y H2->wpAny (model X.prog X.w) X.A (f v u) Q X.xe s2):
  wpAny (model X.prog X.w) X.A (eval a X.env) (λv s₁=>wpAny (model X.prog X.w) X.A (eval b X.env) (λu s₂=>wpAny (model X.prog X.w) X.A (f v u) Q X.xe s₂) X.xe s₁) X.xe s:=by
 refine thn (ha pins s σ H _ I h) λv s1 q_=>?_;obtain⟨x,H1,I1,r1,q1⟩:=q_;refine thn (hb pins s1 σ H1 _ I1 q1) λu s2 q_=>?_;obtain⟨y,H2,I2,r2,q2⟩:=q_;exact hf v u s2 x y H2 I2 r1 r2 q2
theorem zqI{op:U2}{r:R2}(ho:OpR X (YL op) r)(ha:PE X a ta)(hb:PE X b tb):PE X (.BinOp a op b pos) (tOp r ta tb):=by intro pins s σ H Q I h;exact wpAny_BinOp (binT ha hb I h λv u s2 x y H2 I2 rx ry q=>ho pins s2 σ H2 x y v u Q I2 rx ry q)
theorem opI{f:Value->Value->Sem Value}{C:Int->Int->Prop}{g:Int->Int->Int}
  (rule:∀(i j:Int) (t u:Tok) (s:Shared) (Q:Value->Shared->Prop) (E:Value->Shared->Prop),C i j->Q (.int (g i j) s.toks) {s with toks:=s.toks+1}->wpAny (model X.prog X.w) X.A (f (.int i t) (.int j u)) Q E s):
  OpR X f (rI C λi j=>.int (g i j)):=by
 intro pins s σ H x y v u Q I rx ry h;obtain⟨i,j,rfl,rfl,hc,q⟩:=h;obtain⟨t,rfl⟩:=rx;obtain⟨t',rfl⟩:=ry;exact rule i j t t' s _ _ hc ⟨.int (g i j),H,I.tok _,⟨_,rfl⟩,q⟩
theorem opI0{f:Value->Value->Sem Value}{g:Int->Int->Int}
  (rule:∀(i j:Int) (t u:Tok) (s:Shared) (Q:Value->Shared->Prop) (E:Value->Shared->Prop),Q (.int (g i j) s.toks) {s with toks:=s.toks+1}->wpAny (model X.prog X.w) X.A (f (.int i t) (.int j u)) Q E s):
  OpR X f (rI0 λi j=>.int (g i j)):=by
 intro pins s σ H x y v u Q I rx ry h;obtain⟨i,j,rfl,rfl,q⟩:=h;obtain⟨t,rfl⟩:=rx;obtain⟨t',rfl⟩:=ry;exact rule i j t t' s _ _ ⟨.int (g i j),H,I.tok _,⟨_,rfl⟩,q⟩
theorem opB0{f:Value->Value->Sem Value}{g:Int->Int->Bool}
  (rule:∀(i j:Int) (t u:Tok) (s:Shared) (Q:Value->Shared->Prop) (E:Value->Shared->Prop),Q (.bool (g i j)) s->wpAny (model X.prog X.w) X.A (f (.int i t) (.int j u)) Q E s):
  OpR X f (rI0 λi j=>.bl (g i j)):=by
 intro pins s σ H x y v u Q I rx ry h;obtain⟨i,j,rfl,rfl,q⟩:=h;obtain⟨t,rfl⟩:=rx;obtain⟨t',rfl⟩:=ry;exact rule i j t t' s _ _ ⟨.bl (g i j),H,I,rfl,q⟩
def CPow(i j:Int):Prop:=0<=j/\j<=1000000/\i.natAbs<2^64
def CMul(i j:Int):Prop:=(-(2^64)<i/\i<2^64)\/(-(2^64)<j/\j<2^64)
theorem CMul.ok{i j:Int}(h:CMul i j):IntMulOk i j:=by
 rcases h with⟨h1,h2⟩|⟨h1,h2⟩
 ·exact .of_left (intBits_le_64 h1 h2)
 ·exact .of_right (intBits_le_64 h1 h2)
theorem zpv:OpR X (YL .Add) (rI0 λi j=>.int (i+j)):=opI0 λ_ _ _ _ _ _ _ q=>add_int q
theorem zqx:OpR X (YL .Sub) (rI0 λi j=>.int (i-j)):=opI0 λ_ _ _ _ _ _ _ q=>sub_int q
theorem zpb:OpR X (YL .Mult) (rI CMul λi j=>.int (i*j)):=opI λ_ _ _ _ _ _ _ hc q=>mul_int q hc.ok
theorem zpP:OpR X (YL .Mod) (rI (λ_ j=>0<j) λi j=>.int (i%j)):=opI λi j _ _ _ _ _ hc q=>by
 have h1:(0:Int)<j:=hc
 exact mod_int' (by omega) (by rw[Int.fmod_eq_emod_of_nonneg i (by omega)];exact q)
theorem zqi:OpR X (YL .Pow) (rI CPow λi j=>.int (i^j.toNat)):=opI λ_ _ _ _ _ _ _ hc q=>pow_int_small hc.1 hc.2.1 hc.2.2 q
theorem zqn:OpR X (YL .BitAnd) (rI0 λi j=>.int (Wq i j)):=opI0 λ_ _ _ _ _ _ _ q=>and_int q
theorem zrm:OpR X (YL .BitOr) (rI0 λi j=>.int (U7 i j)):=opI0 λ_ _ _ _ _ _ _ q=>or_int q
end
def scal:V->V->Bool
 |.non,.non=>true | .non,.int _=>true | .int _,.non=>true | .non,.bl _=>true | .bl _,.non=>true | .non,.str _=>true | .str _,.non=>true
 |.int _,.int _=>true | .bl _,.bl _=>true | .str _,.str _=>true | .byt _,.byt _=>true
 |.int _,.str _=>true | .str _,.int _=>true | .bl _,.str _=>true | .str _,.bl _=>true
 |_,_=>false
def rEq:R2:=λx y H Q=>scal x y=true/\Q (.bl (decide (x=y))) H
theorem zjM{i j:Int}:decide (V.int i=V.int j)=(i==j):=by rw[X0];simp
theorem zq0{i j:Bool}:decide (V.bl i=V.bl j)=(i==j):=by rw[X0];simp
theorem dec_str{i j:Str}:decide (V.str i=V.str j)=(i==j):=by rw[X0];simp
theorem zoA{i j:Array UInt8}:decide (V.byt i=V.byt j)=(i.toList==j.toList):=by rw[X0];cases i;cases j;simp
section
variable {X:Cx}{a b c:Expr}{ta tb tc:TE}{pos:Pos}
theorem zaB{pins:List (Addr×Obj)}{σ:St}{H:Hp}{s:Shared}{Q:VK}{k k':Bool}(I:Inv X pins σ H s)(q:Q (.bl k) H)(e:k=k'):EP X pins σ Q (.bool k') s:=by subst e;exact⟨.bl k,H,I,rfl,q⟩
theorem zrR:OpR X (Y1 .Eq) rEq:=by
 intro pins s σ H x y v u Q I rx ry h;obtain⟨hs,q⟩:=h
 cases x with
 |non=>
  cases rx
  cases y with|non=>cases ry;exact PySem.EqNone.eq_none_none (zaB I q (by simp))|bl j=>cases ry;exact PySem.EqNone.eq_none_bool (zaB I q (by simp))|int j=>obtain⟨t',rfl⟩:=ry;exact PySem.EqNone.eq_none_int (zaB I q (by simp))|str j=>obtain⟨t',rfl⟩:=ry;exact PySem.EqNone.eq_none_str (zaB I q (by simp))|_=>exact absurd (show false=true from hs) Zc
 |bl i=>
  cases rx
  cases y with|non=>cases ry;exact PySem.EqNone.eq_bool_none (zaB I q (by simp))|bl j=>cases ry;exact eq_bool (zaB I q zq0)|str j=>obtain⟨t',rfl⟩:=ry;exact PySem.EqMixed.eq_bool_str (zaB I q (by simp))|_=>exact absurd (show false=true from hs) Zc
 |int i=>
  obtain⟨t,rfl⟩:=rx
  cases y with|non=>cases ry;exact PySem.EqNone.eq_int_none (zaB I q (by simp))|int j=>obtain⟨t',rfl⟩:=ry;exact eq_int (zaB I q zjM)|str j=>obtain⟨t',rfl⟩:=ry;exact PySem.EqMixed.eq_int_str (zaB I q (by simp))|_=>exact absurd (show false=true from hs) Zc
 |str i=>
  obtain⟨t,rfl⟩:=rx
  cases y with|non=>cases ry;exact PySem.EqNone.eq_str_none (zaB I q (by simp))|bl j=>cases ry;exact PySem.EqMixed.eq_str_bool (zaB I q (by simp))|int j=>obtain⟨t',rfl⟩:=ry;exact PySem.EqMixed.eq_str_int (zaB I q (by simp))|str j=>obtain⟨t',rfl⟩:=ry;exact eq_str (zaB I q dec_str)|_=>exact absurd (show false=true from hs) Zc
 |byt i=>
  obtain⟨t,rfl⟩:=rx
  cases y with|byt j=>obtain⟨t',rfl⟩:=ry;exact PySem.W.eq_bytes (zaB I q zoA)|_=>exact absurd (show false=true from hs) Zc
 |_=>cases y<;>exact absurd (show false=true from hs) Zc
theorem zrs:OpR X (Y1 .Lt) (rI0 λi j=>.bl (decide (i<j))):=opB0 λ_ _ _ _ _ _ _ q=>lt_int q
theorem zr5:OpR X (Y1 .LtE) (rI0 λi j=>.bl (decide (i<=j))):=opB0 λ_ _ _ _ _ _ _ q=>le_int q
theorem zr6:OpR X (Y1 .Gt) (rI0 λi j=>.bl (decide (j<i))):=opB0 λ_ _ _ _ _ _ _ q=>gt_int q
theorem zr1:OpR X (Y1 .GtE) (rI0 λi j=>.bl (decide (j<=i))):=opB0 λ_ _ _ _ _ _ _ q=>ge_int q
theorem zk3:OpR X (Y1 .In) (λx y H Q=>∃i j,x=.str i/\y=.str j/\Q (.bl (!(Zb.Str.occurrences j i 0 j.length 1).isEmpty)) H):=by intro pins s σ H x y v u Q I rx ry h;obtain⟨i,j,rfl,rfl,q⟩:=h;obtain⟨t,rfl⟩:=rx;obtain⟨t',rfl⟩:=ry;exact in_str (zaB I q rfl)
theorem zqa:OpR X (Y1 .Is) (λx y H Q=>y=.non/\Q (.bl (decide (x=.non))) H):=by
 intro pins s σ H x y v u Q I rx ry h;obtain⟨rfl,q⟩:=h;cases ry;refine is_none_gen (zaB I q ?_)
 cases x<;>first|(cases rx;rfl)|(obtain⟨t,rfl⟩:=rx;rfl)
theorem zoh:OpR X (Y1 .IsNot) (λx y H Q=>y=.non/\Q (.bl (!decide (x=.non))) H):=by
 intro pins s σ H x y v u Q I rx ry h;obtain⟨rfl,q⟩:=h;cases ry;refine isnot_none_gen (zaB I q ?_)
 cases x<;>first|(cases rx;rfl)|(obtain⟨t,rfl⟩:=rx;rfl)
theorem zgw:OpR X (Y1 .NotIn) (λx y H Q=>∃i j,x=.str i/\y=.str j/\Q (.bl (!(!(Zb.Str.occurrences j i 0 j.length 1).isEmpty))) H):=by intro pins s σ H x y v u Q I rx ry h;obtain⟨i,j,rfl,rfl,q⟩:=h;obtain⟨t,rfl⟩:=rx;obtain⟨t',rfl⟩:=ry;exact notIn_str (zaB I q rfl)
theorem zqo(b:Expr){op:CmpOp}(h:op≠.In:=by decide)(h2:op≠.NotIn:=by decide):W9 op b=false:=by
 have e1:(op==CmpOp.In)=false:=by cases op<;>first | rfl | exact absurd rfl h
 have e2:(op==CmpOp.NotIn)=false:=by cases op<;>first | rfl | exact absurd rfl h2
 cases b<;>simp[W9,e1,e2]
theorem zkq{op:CmpOp}{r:R2}(ho:OpR X (Y1 op) r)(ha:PE X a ta)(hb:PE X b tb)(hm:W9 op b=false):PE X (.Compare a [op] [b] pos) (tOp r ta tb):=by intro pins s σ H Q I h;exact wpAny_Compare1 (binT ha hb I h λv u s2 x y H2 I2 rx ry q=>ho pins s2 σ H2 x y v u Q I2 rx ry q) hm
def zrP(t:TE):TT:=λσ H Q=>t σ H λx H'=>∃k,x=.bl k/\Q k H'
theorem znZ{op:CmpOp}{r:R2}(ho:OpR X (Y1 op) r)(ha:PE X a ta)(hb:PE X b tb)(hm:W9 op b=false):PT X (.Compare a [op] [b] pos) (zrP (tOp r ta tb)):=by
 intro pins s σ H Q I h
 refine wpAny_isTrue_Compare1 (thn (ha pins s σ H _ I h) λv s1 ⟨x,H1,I1,r1,q1⟩=>thn (hb pins s1 σ H1 _ I1 q1) λu s2 ⟨y,H2,I2,r2,q2⟩=>thn (ho pins s2 σ H2 x y v u _ I2 r1 r2 q2) λc s3 ⟨z,H3,I3,r3,k,e,q3⟩=>?_) hm
 subst e;cases r3;exact X6 ⟨H3,I3,q3⟩
def TruV(K:Z7)(x:V)(H:Hp)(k:Bool):Prop:=
 match x with|.non=>k=false|.bl b=>k=b|.int i=>k=(i != 0)|.str y=>y.length<=sizeLine/\k=((y.length:Int) != 0)|.byt y=>y.size<=sizeLine/\k=((y.size:Int) != 0)|.ref p=>(∃xs,SqL K H p xs/\k=!xs.isEmpty)\/(∃xs,SqT K H p xs/\k=!xs.isEmpty)\/∃kvs,H p=some (.dK kvs)/\k=!kvs.isEmpty|_=>False
theorem ziR{κ:Type}{kvs:List (κ×V)}{vs:List (κ×Value)}(r:KV kvs vs):(!vs.isEmpty)=!kvs.isEmpty:=by cases r<;>rfl
theorem zbC{xs:List V}{its:List Value}(r:Vals xs its):(!its.toArray.isEmpty)=!xs.isEmpty:=by cases r<;>simp
theorem zdZ:(sizeLine:Nat)<2^63:=by rw[Zg];decide
theorem zqh:TruR X (λx H Q=>∃k,TruV X.K x H k/\Q k H):=by
 intro pins s σ H x v Q I rx h;obtain⟨k,e,q⟩:=h;have hl:=zdZ;have hs:sizeLine=16777216:=Zg
 cases x with
 |non=>cases rx;have e':k=false:=e;subst e';exact truthy_none ⟨H,I,q⟩|bl b=>cases rx;have e':k=b:=e;subst e';exact X6 ⟨H,I,q⟩|int i=>obtain⟨t,rfl⟩:=rx;have e':k=(i != 0):=e;subst e';exact PySem.P.truthy_int ⟨H,I,q⟩|str y=>obtain⟨t,rfl⟩:=rx;obtain⟨hy,e'⟩:y.length<=sizeLine/\k=((y.length:Int) != 0):=e;subst e';exact PySem.P.truthy_str (by omega) ⟨H,I.tok _,q⟩|byt y=>obtain⟨t,rfl⟩:=rx;obtain⟨hy,e'⟩:y.size<=sizeLine/\k=((y.size:Int) != 0):=e;subst e';exact PySem.W.truthy_bytes (by omega) ⟨H,I.tok _,q⟩
 | ref p=>
  cases rx;have e':(∃xs,SqL X.K H p xs/\k=!xs.isEmpty)\/(∃xs,SqT X.K H p xs/\k=!xs.isEmpty)\/∃kvs,H p=some (.dK kvs)/\k=!kvs.isEmpty:=e
  rcases e' with⟨xs,hx,e'⟩|⟨xs,hx,e'⟩|⟨kvs,hx,e'⟩
  ·subst e'
   obtain⟨its,r,pl,hz⟩:=I.list hx;have hlen:=r.length
   exact wpAny_truthy_list pl.isList (by simp only[ZV];omega) ⟨H,I.tok _,by rw[zbC r];exact q⟩
  ·subst e'
   obtain⟨its,r,pl,hz⟩:=I.tuple hx;have hlen:=r.length
   exact truthy_tuple pl (by simp only[ZV];omega) ⟨H,I.tok _,by rw[zbC r];exact q⟩
  ·subst e'
   obtain⟨hz,hS,vs,r,m⟩:kvs.length<=sizeLine/\(p==sysModules)=false/\∃vs,KV kvs vs/\s.heap.DictOf (zj8 X.prog X.w) p vs:=I.hok p _ hx;have hlen:kvs.length=vs.length:=Paired.length r
   exact wpAny_truthy_dict hS m (by omega) ⟨H,I.tok _,by rw[ziR r];exact q⟩
 |_=>exact(show False from e).elim
theorem zmB(ha:PE X a ta)(he:∀whole,isTrue a X.env whole=(do let v<-whole;Vk a.pos;holding [v] (truthy v))):
  PT X a (λσ H Q=>ta σ H λx H'=>∃k,TruV X.K x H' k/\Q k H'):=by
 intro pins s σ H Q I h;exact isTrue_plain (thn (ha pins s σ H _ I h) λv s1 ⟨x,H1,I1,r1,q1⟩=>zqh pins s1 σ H1 x v Q I1 r1 q1) (he _)
theorem ziC:OpR X (YL .Add) (λx y H Q=>∃i j,x=.str i/\y=.str j/\i.length+j.length<=sizeLine/\Q (.str (i++j)) H):=by intro pins s σ H x y v u Q I rx ry h;obtain⟨i,j,rfl,rfl,hz,q⟩:=h;obtain⟨t,rfl⟩:=rx;obtain⟨t',rfl⟩:=ry;exact add_str (λt' tk=>⟨.str (i++j),H,I.tok _,⟨_,rfl⟩,q⟩) hz
theorem zfe{x:V}{us:List Value}(r:Vals [x] us):∃u,us=[u]/\RelV x u:=by
 cases r with|cons r1 r2=>cases r2;exact⟨_,rfl,r1⟩
theorem zrj{x y:V}{us:List Value}(r:Vals [x,y] us):∃u w',us=[u,w']/\RelV x u/\RelV y w':=by
 cases r with
 |cons r1 r2=>
  cases r2 with|cons r3 r4=>cases r4;exact⟨_,_,rfl,r1,r3⟩
theorem zgB:zcs X (.type "int") (λxs H Q=>(∃i,xs=[.int i]/\Q (.int i) H)\/∃k,xs=[.bl k]/\Q (.int (if k then 1 else 0)) H):=by
 intro pins s σ H xs us Q I r h
 rcases h with⟨i,rfl,q⟩|⟨k,rfl,q⟩
 ·obtain ⟨u,rfl,t,rfl⟩:=zfe r
  exact call_int_int ⟨.int i,H,I,⟨_,rfl⟩,q⟩
 ·obtain ⟨u,rfl,r1⟩:=zfe r
  cases r1;exact call_int_bool ⟨.int (if k then 1 else 0),H,I.tok _,⟨_,rfl⟩,q⟩
theorem zgo:zcs X (.type "str") (λxs H Q=>∃i,xs=[.int i]/\i.natAbs.log2<1920/\Q (.str (UB i)) H):=by intro pins s σ H xs us Q I r h;obtain⟨i,rfl,hz,q⟩:=h;obtain⟨u,rfl,t,rfl⟩:=zfe r;exact PySem.P.str_of_int hz ⟨.str _,H,I.tok _,⟨_,rfl⟩,q⟩
def LenV(K:Z7)(x:V)(H:Hp)(n:Nat):Prop:=
 match x with|.str y=>y.length<=sizeLine/\n=y.length|.byt y=>y.size<=sizeLine/\n=y.size|.ref p=>(∃xs,SqL K H p xs/\n=xs.length)\/∃xs,SqT K H p xs/\n=xs.length|_=>False
theorem zeZ:zcs X (.builtin "len") (λxs H Q=>∃x n,xs=[x]/\LenV X.K x H n/\Q (.int n) H):=by
 intro pins s σ H xs us Q I r h;obtain⟨x,n,rfl,e,q⟩:=h;obtain⟨u,rfl,rx⟩:=zfe r;have hl:=zdZ;have hs:sizeLine=16777216:=Zg
 cases x with
 |str y=>obtain⟨t,rfl⟩:=rx;obtain⟨hy,e'⟩:y.length<=sizeLine/\n=y.length:=e;subst e';exact len_str (by omega) ⟨.int _,H,I.tok _,⟨_,rfl⟩,q⟩|byt y=>obtain⟨t,rfl⟩:=rx;obtain⟨hy,e'⟩:y.size<=sizeLine/\n=y.size:=e;subst e';exact PySem.W.len_bytes (by omega) ⟨.int _,H,I.tok _,⟨_,rfl⟩,q⟩
 | ref p=>
  cases rx;have e':(∃xs,SqL X.K H p xs/\n=xs.length)\/∃xs,SqT X.K H p xs/\n=xs.length:=e
  rcases e' with⟨xs,hx,e'⟩|⟨xs,hx,e'⟩
  ·subst e'
   obtain⟨its,r',pl,hz⟩:=I.list hx;have hlen:=r'.length
   exact Calls.call_len_list pl.isList (by simp only[ZV];omega) ⟨.int xs.length,H,I.tok _,⟨_,by simp only[ZV];rw[hlen]⟩,q⟩
  ·subst e'
   obtain⟨its,r',pl,hz⟩:=I.tuple hx;have hlen:=r'.length
   exact len_tuple pl (by simp only[ZV];omega) ⟨.int xs.length,H,I.tok _,⟨_,by simp only[ZV];rw[hlen]⟩,q⟩
 |_=>exact(show False from e).elim
end
section
variable {prog:ZB}{w:World}{A:Around}{E:Value->Shared->Prop}{s:Shared}{K:Z7}{x dx C f:Addr}{mA:Str->Option Value}{name:Str}{v:Value}
end
theorem RelO.some_of{v:V}{o:Option Value}(r:RelO (some v) o):∃u,o=some u/\RelV v u:=by
 cases o with|none=>exact(show False from r).elim|some u=>exact⟨u,rfl,r⟩
theorem zjT{v:V}{u:Value}(r:RelV v u):PySem.W.handedIn u=true:=by
 cases v with|non=>cases (show u=X3 from r);rfl|bl b=>cases (show u=WC b from r);rfl|int i=>obtain⟨t,e⟩:=(show ∃t,u=Value.int i t from r);cases e;rfl|str x=>obtain⟨t,e⟩:=(show ∃t,u=Yp x t from r);cases e;rfl|byt b=>obtain⟨t,e⟩:=(show ∃t,u=Value.bytes b t from r);cases e;rfl|flt b=>obtain⟨t,e⟩:=(show ∃t,u=Value.float b t from r);cases e;rfl|ref a=>cases (show u=ZD a from r);rfl|ty n=>cases (show u=Yi n from r);rfl
section
variable {P:ZB}{w:World}{H H':Hp}{h h':Heap}{a C dx:Addr}{fs fs':List (Str×V)}
end
structure Cls(K:Z7)(C:Addr):Prop where
 pg:PySem.W.plainGet K C Str.empty=true
 hd:Vj K C=true
 po:PySem.W.plainOver K C=true
 sa:Y8 K (.ref C) "__setattr__"=some (some (.builtin "object.__setattr__"))
theorem Cls.get{K:Z7}{C:Addr}(c:Cls K C)(f:Str):PySem.W.plainGet K C f=true:=c.pg
def zjc(K:Z7)(C:Addr)(f:Str):Prop:=Y8 K (.ref C) f=some none
structure Meth(K:Z7)(C:Addr)(m:Str)(f:Addr):Prop where
 at_:Y8 K (.ref C) m=some (some (.ref f))
 fn:PySem.W.isFn K (.ref f)=true
 kp:Y0 K (.ref f)=true
section
variable {X:Cx}{pins:List (Addr×Obj)}{σ:St}{H:Hp}{s:Shared}{a C dx:Addr}{fs:List (Str×V)}{f:Str}{v:V}{A:Around}{E:Value->Shared->Prop}
theorem Inv.made(I:Inv X pins σ H s):Inv X pins σ (upd (upd H s.heap.objs.size (.own (s.heap.objs.size+1))) (s.heap.objs.size+1) (.ins C s.heap.objs.size []))
  {s with heap:=(s.heap.push Yr).push (WK C s.heap.objs.size)}:=by
 have e1:(s.heap.push Yr).get? s.heap.objs.size=some Yr:=ZH s.heap rfl
 have e2:((s.heap.push Yr).push (WK C s.heap.objs.size)).get? (s.heap.objs.size+1)=some (WK C s.heap.objs.size):=by
  have:=ZH (s.heap.push Yr) (o:=WK C s.heap.objs.size) rfl
  rwa [Xo] at this
 have e3:(s.heap.push Yr).Ns s.heap.objs.size (λ_=>none):=⟨Yr,#[],_,e1,rfl,(λe he=>absurd he (by simp)),λ_=>rfl⟩;have I1:=I.laid (a:=s.heap.objs.size) (o:=.own (s.heap.objs.size+1)) (h':=s.heap.push Yr) (t':=s.toks) (λb u q=>Z5 _ q) (ZZ _) ⟨_,e1⟩;refine I1.laid (a:=s.heap.objs.size+1) (o:=.ins C s.heap.objs.size []) (t':=s.toks) (λb u q=>Z5 _ q) (Nat.le_of_eq (Xo _ _)) ?_;have ne:s.heap.objs.size≠s.heap.objs.size+1:=ZI (WX _);refine⟨by rw[zah ne,zak],Y3 _,ne,e2,λ_=>none,(Heap.Ns1.of_empty e3).at λo q=>Z5 _ q,λ_=>WA,λy hy=>absurd rfl hy⟩
theorem zoQ{prog:ZB}{w:World}{env:Env}{e:Expr}{f:Str}{pos:Pos}{s:Shared}{Q:Value->Shared->Prop}(hb:Yz e f env (eval e env)=eval e env)
  (h:wpAny (model prog w) A (eval e env) (λo s₁=>wpAny (model prog w) A (getAttr o f true) Q E s₁) E s):wpAny (model prog w) A (eval (.Attribute e f pos) env) Q E s:=
 Attribute_any_ h (by rw[arm_eval_Attribute,hb])
end
section
variable {X:Cx}{o e value:Expr}{f:Str}{pos pos' tpos:Pos}{ta tv:TE}
end
section
variable {X:Cx}{pins:List (Addr×Obj)}{σ:St}{H:Hp}{s:Shared}{A:Around}{E:Value->Shared->Prop}{Q:Value->Shared->Prop}{c:Value}{b:Bool}
end
structure Room(k:Nat)(A:Around):Prop where
 hd:A.handled=none
 dp:A.depth+3*k+5<recursionLimit
 un:A.units+16*k+200<cLine
theorem Room.mono{j k:Nat}{A:Around}(r:Room k A)(h:j<=k):Room j A:=⟨r.hd,by have:=r.dp;omega,by have:=r.un;omega⟩
theorem Room.deeper{k:Nat}{A:Around}(r:Room (k+1) A)(env:Env):Room k (A.deeper env):=⟨r.hd,by have:=r.dp;show A.depth+1+3*k+5<_;omega,by have:=r.un;show A.units+3+16*k+200<_;omega⟩
theorem ziF{A:Around}{C:Addr}{us:List Value}{kw:List (Str×Value)}:(A.under (.builtin "type.__call__" ⟨.ref C::us,kw⟩)).depth=A.depth+1:=by first | rfl | simp[Around.under,Code.weight,Code.isCreation,Code.isGuard,Code.isCaller,Code.frames,Code.isFrame,guardIds]
theorem zix{A:Around}{C:Addr}{us:List Value}{kw:List (Str×Value)}:(A.under (.builtin "type.__call__" ⟨.ref C::us,kw⟩)).units=A.units+1:=by first | rfl | simp[Around.under,Code.cUnits,Code.frames,Code.isFrame]
theorem Room.make{k:Nat}{A:Around}(r:Room (k+1) A)(C:Addr)(us:List Value)(kw:List (Str×Value)):Room k (A.under (.builtin "type.__call__" ⟨.ref C::us,kw⟩)):=⟨r.hd,by have:=r.dp;rw[ziF];omega,by have:=r.un;rw[zix];omega⟩
theorem Room.depth{k:Nat}{A:Around}(r:Room k A):A.depth<recursionLimit:=by have:=r.dp;omega
theorem Room.units{k:Nat}{A:Around}(r:Room k A):A.units+64<cLine:=by have:=r.un;omega
def tNil:TA:=λ_ H Q=>Q [] H
def zrZ(ta:TE)(tr:TA):TA:=λσ H Q=>ta σ H λx H1=>tr σ H1 λxs H2=>Q (x::xs) H2
section
variable {X:Cx}{e:Expr}{es:List Expr}{te:TE}{t:TA}{pos:Pos}
theorem za1:PA X [] tNil:=λ_ _ _ _ H Q I h=>Calls.spliced_nil ⟨[],H,I,.nil,h⟩
theorem zax(ha:PE X e te)(hr:PA X es t)(hs:ZT (e::es) X.env=(false,eval e X.env)::ZT es X.env:=by rfl):PA X (e::es) (zrZ te t):=by intro pos pins s σ H Q I h;rw[hs];show wpAny _ _ (spliced ((false,eval e X.env)::backTo pos (ZT es X.env))) _ _ s;refine Calls.spliced_cons (thn (ha pins s σ H _ I h) λu s1 q_=>?_);obtain⟨x,H1,I1,r1,q1⟩:=q_;exact thn (hr pos pins s1 σ H1 _ I1 q1) λus s2 ⟨xs,H2,I2,r2,q2⟩=>⟨x::xs,H2,I2,.cons r1 r2,q2⟩
def tTup(t:TA):TE:=λσ H Q=>t σ H λxs H1=>xs.length<=sizeLine/\∀p,H1 p=none->Q (.ref p) (upd H1 p (.tup xs))
def tLst(t:TA):TE:=λσ H Q=>t σ H λxs H1=>xs.length<=sizeLine/\∀p,H1 p=none->Q (.ref p) (upd H1 p (.lst xs))
theorem zps{x1}(h:PA X es t):PE X (.Tuple es x1 pos) (tTup t):=by
 intro pins s σ H Q I hq
 refine wpAny_Tuple_spliced (thn (h pos pins s σ H _ I hq) λus s1 ⟨xs,H1,I1,r,z,q⟩=>⟨by rw[<-r.length];exact z,?_⟩)
 have hf:H1 s1.heap.objs.size=none:=I1.hok.fresh (ZZ _);refine⟨.ref s1.heap.objs.size,upd H1 s1.heap.objs.size (.tup xs),I1.laid (t':=s1.toks) (λb u e=>Z5 _ e) (ZZ _) ?_,rfl,q _ hf⟩;exact⟨z,us,r,zbp.new _ _⟩
theorem zqM(h:PA X es t):PE X (.List es pos) (tLst t):=by
 intro pins s σ H Q I hq
 refine wpAny_List_spliced (thn (h pos pins s σ H _ I hq) λus s1 ⟨xs,H1,I1,r,z,q⟩=>⟨by rw[<-r.length];exact z,?_⟩)
 have hf:H1 s1.heap.objs.size=none:=I1.hok.fresh (ZZ _);refine⟨.ref s1.heap.objs.size,upd H1 s1.heap.objs.size (.lst xs),I1.laid (t':=s1.toks) (λb u e=>Z5 _ e) (ZZ _) ?_,rfl,q _ hf⟩;exact⟨z,us,0,r,ZH _ rfl⟩
end
abbrev Sp:=List V->Hp->VK->XK->Prop
abbrev CXT:=List Env->Hp->Shared->XK->Value->Shared->Prop
structure Env0(P:ZB)(w:World)(K:Z7)(mg:Str->Option Value)(base:Heap)(A:Around)(outer:List Env)(s:Shared)(H:Hp):Prop where
 frames:A.frames=some outer
 mod:Mod K mg base
 bs:∀b o,base.get? b=some o->s.heap.get? b=some o/\H b=none
 bsz:base.objs.size<=s.heap.objs.size
 funs:s.heap.FunFrames base outer
 frf:∀b∈frs outer,H b=none
 hok:HOk P w H s.heap
 bare:Vl s.gens
def CE(outer:List Env)(P:ZB)(w:World)(H:Hp)(s:Shared)(Q:VK)(u:Value)(s':Shared):Prop:=∃v H',s'.os=s.os/\Vl s'.gens/\Un (frs outer) [] H H' s.heap s'.heap/\HOk P w H' s'.heap/\RelV v u/\Q v H'
def CR(CX:CXT)(outer:List Env)(P:ZB)(w:World)(H:Hp)(s:Shared)(Q:VK)(E:XK)(r:Result)(s':Shared):Prop:=
 match r with|.ok (.ret u)=>CE outer P w H s Q u s'|.ok _=>False|.error e=>CX outer H s E e s'
structure FnOk(P:ZB)(w:World)(K:Z7)(mg:Str->Option Value)(base:Heap)(CX:CXT)(k:Nat)(f:Addr)(fd:FuncData)(ps:List Str)(sp:Sp):Prop where
 len:∀vs H Q E,sp vs H Q E->vs.length=ps.length
 run:∀(A:Around) (outer:List Env) (s:Shared) (H:Hp) (args:Args) (us:List Value) (vs:List V) (Q:VK) (E:XK),Room k A->Env0 P w K mg base A outer s H->Uv s fd args (ps.zip us)->Vals vs us->sp vs H Q E →
  Xs (model P w) A (.call (.ref f) args) (CR CX outer P w H s Q E) s
theorem FnOk.mono{P:ZB}{w:World}{K:Z7}{mg:Str->Option Value}{base:Heap}{CX:CXT}{j k:Nat}{f:Addr}{fd:FuncData}{ps:List Str}{sp:Sp}(F:FnOk P w K mg base CX j f fd ps sp)(h:j<=k):
  FnOk P w K mg base CX k f fd ps sp:=⟨F.len,λA outer s H args us vs Q E hr=>F.run A outer s H args us vs Q E (hr.mono h)⟩
theorem Env0.make{P:ZB}{w:World}{K:Z7}{mg:Str->Option Value}{base:Heap}{A:Around}{outer:List Env}{s:Shared}{H:Hp}(e:Env0 P w K mg base A outer s H)(C:Addr)(us:List Value)(kw:List (Str×Value)):
    Env0 P w K mg base (A.under (.builtin "type.__call__" ⟨.ref C::us,kw⟩)) outer s H:=⟨by first | exact e.frames | (simpa[Around.under,Code.envs,Code.isFrame,pushEnvs] using e.frames),e.mod,e.bs,e.bsz,e.funs,e.frf,e.hok,e.bare⟩
section
variable {X:Cx}{pins:List (Addr×Obj)}{σ:St}{H:Hp}{s s':Shared}
theorem Inv.env0(I:Inv X pins σ H s):Env0 X.prog X.w X.K X.mg X.base X.A X.stack s H:=⟨I.ok.frames,I.ok.mod,I.bs,Zf I.ok.bsz I.sz,I.stack,I.stkFree,I.hok,I.bare⟩
theorem Inv.after{Q:VK}{u:Value}(I:Inv X pins σ H s)(h:CE X.stack X.prog X.w H s Q u s'):EP X pins σ Q u s':=by obtain⟨v,H',os,bare,un,hok,r,q⟩:=h;obtain⟨hh,g,d,t,os'⟩:=s';obtain rfl:os'=s.os:=os;exact⟨v,H',I.call (h':=hh) (g':=g) (d':=d) (t':=t) (ch:=[]) un hok bare (λb z=>absurd z (by simp)),r,q⟩
end
def zrc(sp:Sp)(dvs:List V)(E:XK)(t:TA):TE:=λσ H Q=>t σ H λvs H1=>sp (vs++dvs) H1 Q E
def zcm(K:Z7)(fd:FuncData)(ps:List Str)(ds:List Value):Prop:=∀(s:Shared) (us:List Value),K.In s.heap->(us++ds).length=ps.length->Uv s fd ⟨us,[]⟩ (ps.zip (us++ds))
theorem zcm.all{K:Z7}{fd:FuncData}{ps:List Str}(h:∀us:List Value,us.length=ps.length->UA fd ⟨us,[]⟩=pure (ps.zip us)):zcm K fd ps []:=λs us _ hl=>by rw[Ym] at hl⊢;exact .of_eq (h us hl)
def zc4(CX:CXT)(X:Cx)(E:XK):Prop:=∀(pins:List (Addr×Obj)) (σ:St) (H:Hp) (s:Shared) (e:Value) (s':Shared),Inv X pins σ H s->CX X.stack H s E e s'->X.xe e s'
section
variable {X:Cx}{CX:CXT}{k:Nat}{f C:Addr}{fd:FuncData}{ps:List Str}{sp:Sp}{dvs:List V}{ds:List Value}{E:XK}{x m:Str}{p pos apos:Pos}{e o:Expr}{es:List Expr}{ta:TE}{t:TA}
theorem zna{pins:List (Addr×Obj)}{σ:St}{H:Hp}{s:Shared}{Q:VK}{us:List Value}{vs:List V}(F:FnOk X.prog X.w X.K X.mg X.base CX k f fd ps sp)(hr:Room k X.A)(hb:zcm X.K fd ps ds)(hd:Vals dvs ds)(hx:zc4 CX X E)
  (I:Inv X pins σ H s) (r:Vals vs us) (h:sp (vs++dvs) H Q E):wpAny (model X.prog X.w) X.A (call (.ref f) us) (EP X pins σ Q) X.xe s:=by
 have r2:Vals (vs++dvs) (us++ds):=r.append hd
 have hl:(us++ds).length=ps.length:=by rw[<-r2.length];exact F.len _ _ _ _ h
 refine Wc (XC (F.run X.A X.stack s H ⟨us,[]⟩ (us++ds) (vs++dvs) Q E hr I.env0 (hb s us I.kIn hl) r2 h) λr s' hq=>?_)
 cases r with
 |error e=>exact hx pins σ H s e s' I hq
 |ok fl=>
  cases fl with|ret u=>exact I.after hq|next=>exact Yh hq|brk=>exact Yh hq|cont=>exact Yh hq
theorem ze3(F:FnOk X.prog X.w X.K X.mg X.base CX k f fd ps sp)(hr:Room k X.A)(hg:Gl X x)(hm:X.mg x=some (.ref f))(hk:Y0 X.K (.ref f)=true)(hb:zcm X.K fd ps ds)(hd:Vals dvs ds)(hx:zc4 CX X E)
  (ha:PA X (e::es) t) (hdb:(x==("__debug__":Str))=false:=by decide) (he:ZT (e::es) X.env=(false,eval e X.env)::ZT es X.env:=by rfl) (hpl:(backTo pos (ZT es X.env)).any (·.1)=false:=by rfl):
  PE X (.Call (.Name x p) (e::es) [] pos) (zrc sp dvs E t):=by
 intro pins s σ H Q I h;refine Yg (zcD I hg hm ?_ hdb);refine VH (h₀:=X.base) I.ok.mod.kin hk (thn (ha pos pins s σ H _ I h) λus s1 ⟨vs,H1,I1,r,q⟩=>⟨I1.kIn,?_⟩) he hpl;exact zna F hr hb hd hx I1 r q
theorem zii(F:FnOk X.prog X.w X.K X.mg X.base CX k f fd ps sp)(hr:Room k X.A)(hg:Gl X x)(hm:X.mg x=some (.ref f))(hk:Y0 X.K (.ref f)=true)(hb:zcm X.K fd ps ds)(hd:Vals dvs ds)(hx:zc4 CX X E)
  (hdb:(x==("__debug__":Str))=false:=by decide):PE X (.Call (.Name x p) [] [] pos) (zrc sp dvs E tNil):=by
 intro pins s σ H Q I h;refine Yg (zcD I hg hm ?_ hdb);exact PySem.W.callWith_K0 I.kIn hk (zna (us:=[]) F hr hb hd hx I .nil h)
structure Mk(K:Z7)(C f:Addr):Prop where
 makes:PySem.W.makesIn K C=true
 init:Y8 K (.ref C) "__init__"=some (some (.ref f))
 fn:PySem.W.isFn K (.ref f)=true
 kp:Y0 K (.ref C)=true
end
section
variable {X:Cx}{CX:CXT}{k:Nat}{f C:Addr}{fd:FuncData}{ps ks:List Str}{sp:Sp}{E:XK}{x m:Str}{p pos apos kpos:Pos}{e o:Expr}{es:List Expr}{kws:List X5}{te ta:TE}{t tk:TA}{nm:Option Str}
variable {g:List Value->List Value->List Value}{gV:List V->List V->List V}
end
structure zaR(N P:List Str)(sc:Scope):Prop where
 kind:sc.kind=.function
 co:sc.isCoroutine=false
 gen:sc.isGenerator=false
 nd:N.Nodup
 pre:N.take P.length=P
 par:∀x∈P,sc.names.lookup x=some .local\/sc.names.lookup x=some .cell
 nofree:∀y∈sc.names,y.2≠.free
theorem zfK{kindOf:Str->Option Xn}{x:Str}:∀{binds:List (Str×Value)} {m:Str->Option Value},(∀v,(x,v)∉binds)->bindL kindOf binds m x=m x
  | [],_,_=>rfl
  | (n, v)::r,m,h=>by
    unfold bindL;rw[zfK λw hw=>h w (ZU _ hw)]
    split
    · have:x≠n:=by rintro rfl;exact h v ZK
      simp[this]
    · rfl
theorem zfN{kindOf:Str->Option Xn}{x:Str}:∀{binds:List (Str×Value)} {m:Str->Option Value},(∀v,(x,v)∉binds)->bindC kindOf binds m x=m x
  | [],_,_=>rfl
  | (n, v)::r,m,h=>by
    unfold bindC;rw[zfN λw hw=>h w (ZU _ hw)]
    split
    · rfl
    · have:x≠n:=by rintro rfl;exact h v ZK
      simp[this]
theorem zf0{kindOf:Str->Option Xn}{x:Str}{v:Value}:∀{P:List Str} {vs:List Value} {i:Nat} {m:Str->Option Value},P.Nodup->P[i]?=some x->vs[i]?=some v->kindOf x=some .local →
  bindL kindOf (P.zip vs) m x=some v
 | [],_,_,_,_,h,_,_=>by simp at h|_::_,[],_,_,_,_,h,_=>by simp at h
 |p::P,w::vs,0,m,nd,h1,h2,hk=>by
  simp at h1 h2;subst h1;subst h2
  show bindL kindOf ((p,w)::P.zip vs) m p=_;unfold bindL;rw[zfK λv hv=>(YR.mp nd).1 (VW hv).1,if_pos hk];simp
 |p::P,w::vs,i+1,m,nd,h1,h2,hk=>by show bindL kindOf ((p,w)::P.zip vs) m x=_;unfold bindL;exact zf0 (i:=i) (YR.mp nd).2 (by simpa using h1) (by simpa using h2) hk
theorem zgs{kindOf:Str->Option Xn}{x:Str}{v:Value}:∀{P:List Str} {vs:List Value} {i:Nat} {m:Str->Option Value},P.Nodup->P[i]?=some x->vs[i]?=some v->kindOf x≠some .local →
  bindC kindOf (P.zip vs) m x=some v
 | [],_,_,_,_,h,_,_=>by simp at h|_::_,[],_,_,_,_,h,_=>by simp at h
 |p::P,w::vs,0,m,nd,h1,h2,hk=>by
  simp at h1 h2;subst h1;subst h2
  show bindC kindOf ((p,w)::P.zip vs) m p=_;unfold bindC;rw[zfN λv hv=>(YR.mp nd).1 (VW hv).1,if_neg hk];simp
 |p::P,w::vs,i+1,m,nd,h1,h2,hk=>by show bindC kindOf ((p,w)::P.zip vs) m x=_;unfold bindC;exact zgs (i:=i) (YR.mp nd).2 (by simpa using h1) (by simpa using h2) hk
def start(N:List Str)(vs:List V):St:=vs.map some++ZN (N.length-vs.length) none
def cxOf(CX:CXT)(P:ZB)(w:World)(K:Z7)(mg:Str->Option Value)(base:Heap)(N:List Str)(qual:Str)(scope:Scope)(f:Addr)(cd:Value)(A:Around)(outer:List Env)(s:Shared)(H:Hp)(E:XK):Cx where
 prog:=P
 w:=w
 K:=K
 mg:=mg
 base:=base
 A:=A.deeper (envOfC qual scope s.heap.objs.size f cd)
 N:=N
 s₀:=s
 H₀:=H
 env:=envOfC qual scope s.heap.objs.size f cd
 outer:=outer
 stack:=envOfC qual scope s.heap.objs.size f cd::outer
 ex:=[]
 calm:=true
 fn:=λ_=>true
 pn:=[]
 xe:=λe s'=>wpAny (model P w) (A.deeper (envOfC qual scope s.heap.objs.size f cd)) (leaving (envOfC qual scope s.heap.objs.size f cd) e) (λ_ s''=>CX outer H s E e s'') (λe' s''=>CX outer H s E e' s'') s'
theorem zin{sc:Scope}{n:Nat}{x:Str}(h:sc.names.lookup x=some .cell):∃c,(cellsFrom n sc.names []).lookup x=some c:=by have q:=Wp sc.names n [] (.inl h);exact Yb.mp q
theorem zf5{CX:CXT}{P:ZB}{w:World}{K:Z7}{mg:Str->Option Value}{base:Heap}{N ps:List Str}{qual:Str}{scope:Scope}{f:Addr}{cd:Value}{A:Around}{outer:List Env}{s s1:Shared}{H:Hp}{E:XK}{us:List Value}{vs:List V}
  (S:zaR N ps scope) (hd:A.handled=none) (e0:Env0 P w K mg base A outer s H) (hl:vs.length=ps.length) (r:Vals vs us)
  (x:InCallC s s.heap.objs.size (bindL (envOfC qual scope s.heap.objs.size f cd).kindOf (ps.zip us) λ_=>none) (cellsFrom (s.heap.objs.size+1) scope.names []) (bindC (envOfC qual scope s.heap.objs.size f cd).kindOf (ps.zip us) λ_=>none) s1):
  Inv (cxOf CX P w K mg base N qual scope f cd A outer s H E) [] (start N vs) H s1:=by
 have hpl:ps.length<=N.length:=by have:=congrArg Ww S.pre;rw[Ze] at this;omega
 obtain⟨h1,tk,rfl,hk⟩:=x.done;have noA:∀b:Addr,b∉(cxOf CX P w K mg base N qual scope f cd A outer s H E).ex:=λb z=>absurd (show b∈([]:List Addr) from z) (by simp)
 refine ⟨⟨e0.mod,S.kind,rfl,rfl,ZZ _,λy z c h1 h2=>?_,λy hy=>?_,λy c _ h=>?_,λ_=>hd,Around.frames_deeper e0.frames,.inr ⟨rfl,rfl⟩,λb z=>absurd z (noA b),e0.bs,e0.bsz,λb _ _=>noA b,λb z=>absurd z (noA b),e0.funs,e0.frf⟩,
  rfl,e0.bare,Un.kept hk,⟨_,x.toInCall.ns,λi y v h1 h2 h3=>?_⟩,λy c h=>⟨_,x.cell y c h⟩,e0.hok.fresh (ZZ _),λy c h=>?_,λp hp=>absurd (show p∈([]:List (Addr×Obj)) from hp) (by simp),e0.hok.kept hk,?_⟩
 ·exact name_of_addr x.apart (XY h1) (XY h2)
 ·have hy:scope.names.lookup y=some .cell\/scope.names.lookup y=some .free:=hy
  rcases hy with hy | hy
  ·exact zin hy
  ·exact absurd rfl (S.nofree _ (XY hy))
 ·exact Xi (x.above y c (XY h))
 ·have hi:i<vs.length:=by
   unfold start at h2
   by_cases hi:i<vs.length
   ·exact hi
   ·rw [YZ (by simpa using hi)] at h2
    rw[List.getElem?_replicate] at h2
    split at h2<;>cases h2
  have ha:vs[i]?=some v:=by
   unfold start at h2;rw[ZF (by simpa using hi),Zp] at h2
   cases e:vs[i]? with|none=>rw[e] at h2;cases h2|some a=>rw[e] at h2;cases h2;rfl
  obtain⟨u,hu,rv⟩:=r.get ha
  have hp:ps[i]?=some y:=by rw[<-S.pre,Yy (by omega)];exact h1
  have ndP:ps.Nodup:=by rw[<-S.pre];exact S.nd.sublist (List.take_sublist _ _)
  refine⟨u,rv,?_⟩
  rcases S.par y (YU hp) with k | k
  ·exact .inl ⟨k,zf0 ndP hp hu k⟩
  ·obtain ⟨c,e⟩:=zin (n:=s.heap.objs.size+1) k
   refine .inr ⟨.inl k,c,e,?_⟩;have q:=x.cell y c e
   rw[zgs ndP hp hu (by show scope.names.lookup y≠_;rw[k];decide)] at q
   exact q
 ·exact e0.hok.fresh (Xi (x.above y c (XY h)))
 ·unfold start
  show _=N.length;rw[Zw,ZR,List.length_replicate];omega
theorem znv{CX:CXT}{P:ZB}{w:World}{K:Z7}{mg:Str->Option Value}{base:Heap}{k:Nat}{f:Addr}{name qual:Str}{params:Arguments}{body:List Stmt}{scope:Scope}{dV kV doc pm cdv ct oc:Value}{an od:Option Addr}
  {osl:Array (Option Value)} {N ps:List Str} {sp:Sp} (lk:K.lookup f=some ⟨oc,od,.func (Ya name qual params body scope dV kV doc pm an cdv ct),osl⟩) (hcd:Xm K cdv qual=true) (S:zaR N ps scope)
  (len:∀vs H Q E,sp vs H Q E->vs.length=ps.length)
  (hbody:∀(A:Around) (outer:List Env) (s:Shared) (H:Hp) (vs:List V) (Q:VK) (E:XK),Room k (A.deeper (envOfC qual scope s.heap.objs.size f cdv))->sp vs H Q E →
   ∃t,PSs (cxOf CX P w K mg base N qual scope f cdv A outer s H E) body t/\t {nx:=λ_ H'=>Q .non H',rt:=Q} (start N vs) H):
  FnOk P w K mg base CX (k+1) f (Ya name qual params body scope dV kV doc pm an cdv ct) ps sp:=by
 refine⟨len,λA outer s H args us vs Q E hr e0 hb r hsp=>?_⟩;have hl:=len _ _ _ _ hsp;have KX:K.In s.heap:=e0.mod.kin.keeps λb o e=>(e0.bs b o e).1;have lim:s.heap.NoLimit:=e0.mod.nolimit.keeps λb o e=>(e0.bs b o e).1
 have hkind:∀y∈ps.zip us,scope.names.lookup y.1=some .local\/(scope.names.lookup y.1=some .cell/\((cellsFrom (s.heap.objs.size+1) scope.names []).lookup y.1).isSome=true):=λ⟨n,v⟩ hy=>by
  rcases S.par n (VW hy).1 with q | q
  ·exact .inl q
  ·exact .inr ⟨q,Wp _ _ _ (.inl q)⟩
 refine codeAny_call_function hr.depth (KX _ _ lk) rfl S.co S.gen rfl (PySem.W.codeRec_of KX hcd) (hb _ _ _ _ ?_);refine VG S.kind hkind λenv he s1 x=>?_;subst he;refine⟨lim.keeps x.toInCall.keep,codeAny_func ?_⟩;obtain⟨t,ht,hq⟩:=hbody A outer s H vs Q E (hr.deeper _) hsp;have I:Inv (cxOf CX P w K mg base N qual scope f cdv A outer s H E) [] (start N vs) H s1:=zf5 S hr.hd e0 hl r x;refine ZC (ht [] s1 (start N vs) H _ I hq) (λfl s' hs=>?_) λe s' hs=>hs
 have fin:∀{σ':St} {H':Hp} {v:V} {u:Value},Inv (cxOf CX P w K mg base N qual scope f cdv A outer s H E) [] σ' H' s'->RelV v u->Q v H'->CE outer P w H s Q u s':=fun {σ' H' v u} J rv q=>⟨v,H',J.os,J.bare,J.base,J.hok,rv,q⟩
 cases fl with|ret u=>obtain⟨v,σ',H',J,rv,q⟩:=hs;exact fin J rv q|next=>obtain⟨σ',H',J,q⟩:=hs;exact fin (v:=V.non) (u:=X3) J rfl q|brk=>obtain⟨_,_,_,q⟩:=hs;exact Yh q|cont=>obtain⟨_,_,_,q⟩:=hs;exact Yh q
section
variable {X:Cx}{x:Str}{p pos:Pos}{e:Expr}{es:List Expr}{t:TA}{id T:String}{r:List V->Hp->VK->Prop}
def tCB(r:List V->Hp->VK->Prop)(t:TA):TE:=λσ H Q=>t σ H λvs H1=>r vs H1 Q
theorem zbE(hc:zcs X (.builtin id) r)(hg:Gl X x)(hm:X.mg x=none)(hv:XD x=some (.builtin id))(ha:PA X (e::es) t)(hn:x ≠ "__name__":=by decide)(hdb:(x==("__debug__":Str))=false:=by decide)
  (he:ZT (e::es) X.env=(false,eval e X.env)::ZT es X.env:=by rfl) (hpl:(backTo pos (ZT es X.env)).any (·.1)=false:=by rfl):PE X (.Call (.Name x p) (e::es) [] pos) (tCB r t):=by
 intro pins s σ H Q I h;refine Yg (zhX I hg hm hv ?_ hn hdb);exact PyProof.Rows.callWith_builtin1 (thn (ha pos pins s σ H _ I h) λus s1 ⟨vs,H1,I1,r1,q1⟩=>hc pins s1 σ H1 vs us Q I1 r1 q1) he hpl
theorem zbq(hc:zcs X (.type T) r)(hg:Gl X x)(hm:X.mg x=none)(hv:XD x=some (.type T))(ha:PA X (e::es) t)(hn:x ≠ "__name__":=by decide)(hdb:(x==("__debug__":Str))=false:=by decide)
  (he:ZT (e::es) X.env=(false,eval e X.env)::ZT es X.env:=by rfl) (hpl:(backTo pos (ZT es X.env)).any (·.1)=false:=by rfl):PE X (.Call (.Name x p) (e::es) [] pos) (tCB r t):=by
 intro pins s σ H Q I h;refine Yg (zhX I hg hm hv ?_ hn hdb);exact VQ (thn (ha pos pins s σ H _ I h) λus s1 ⟨vs,H1,I1,r1,q1⟩=>hc pins s1 σ H1 vs us Q I1 r1 q1) he hpl
end
end L2
namespace HT
open PySem PyProof.Rows
section
open PySem.SeqAt
open PySem.AutoSeq1 (wpAny_loadPart')
open PySem.MeetsSeq PySem.MeetsSeq2 PySem.MeetsSeq3
end
section
variable {prog:ZB}{w:World}{A:Around}{E:Value->Shared->Prop}{s:Shared}
theorem cat_tup{t b:Addr}{vs ws:List Value}{Q:Value->Shared->Prop}(ht:IsTup s.heap t vs.toArray)(hb:IsTup s.heap b ws.toArray)(hv:vs≠[])
  (h1:ws=[]->Q (.ref t) s) (h2:ws≠[]->Q (.ref s.heap.objs.size) {s with heap:=s.heap.push {cls:=.type "tuple",data:=.seq (vs++ws).toArray}})
  (hsz:vs.length+ws.length<=sizeLine):wpAny (model prog w) A (YL .Add (.ref t) (.ref b)) Q E s:=by
 obtain⟨⟨cls,dd,data,sl⟩,ho,hc,n,hd⟩:=id ht;obtain⟨⟨cls2,dd2,data2,sl2⟩,ho2,hc2,n2,hd2⟩:=id hb;simp only at hc hd hc2 hd2;subst hc hd hc2 hd2
 have e:vs.toArray++ws.toArray=(vs++ws).toArray:=by simp
 by_cases hw:ws=[]
 ·exact concat_meets ⟨_,ho,rfl⟩ ⟨_,ho2,rfl⟩ noFill_tuple_add seq_tuple_add Wo Wv (WP _ _)
   (tuple_addW1 t b vs.toArray ws.toArray n n2 dd dd2 sl sl2 (by simpa using hv) (by simp[hw])) ⟨ho,ho2,h1 hw⟩
 ·refine concat_meets ⟨_,ho,rfl⟩ ⟨_,ho2,rfl⟩ noFill_tuple_add seq_tuple_add Wo Wv (WP _ _)
   (tuple_addW2 t b vs.toArray ws.toArray n n2 dd dd2 sl sl2 (by simpa using hv) (by simpa using hw) (by rw[ZV,ZV];exact hsz)) ⟨ho,ho2,?_⟩
  rw[e];exact h2 hw
def sIx(n d:Nat):Option Int->Nat|none=>d|some v=>if v<0 then(v+(n:Int)).toNat else min v.toNat n
theorem sIx_le(n d:Nat)(hd:d<=n)(o:Option Int):sIx n d o<=n:=by
 cases o with
 |none=>exact hd
 |some v=>
  show(if v<0 then(v+(n:Int)).toNat else min v.toNat n)<=n
  by_cases hv:v<0
  ·rw[if_pos hv];omega
  ·rw[if_neg hv];exact U1 _ _
theorem zk5(v:Int)(n d:Nat):(if v<0 then max (v+(n:Int)) 0 else min v (n:Int))=((sIx n d (some v):Nat):Int):=by
 show(if v<0 then max (v+(n:Int)) 0 else min v (n:Int))=(((if v<0 then(v+(n:Int)).toNat else min v.toNat n):Nat):Int)
 by_cases hv:v<0
 ·simp only[if_pos hv];omega
 ·simp only[if_neg hv];omega
theorem zi5(lo hi:Option Int)(n:Nat):WT lo hi 1 (n:Int)=(((sIx n 0 lo:Nat):Int),((sIx n n hi:Nat):Int)):=by
 have h1:¬((1:Int)<0):=by omega
 unfold WT;simp only[h1,if_false];refine Prod.ext ?_ ?_
 ·cases lo with|none=>rfl|some v=>exact zk5 v n 0
 ·cases hi with|none=>rfl|some v=>exact zk5 v n n
theorem ziI(i j:Nat):XH (i:Int) (j:Int) 1=j-i:=by
 unfold XH
 have h1:(1:Int)>0:=by omega
 simp only[h1,if_true,Int.ediv_one]
 split<;>omega
theorem zen{v:Value}{o:Option Int}{Q:Option Int->Shared->Prop}(p:IsPart v o)(h:Q o s):wpAny (model prog w) A (Zb.Slice.slicePartIndex v) Q E s:=by
 cases p with|none=>exact slicePart_none h|int i t=>exact slicePart_int h
theorem zbo{sl:Addr}{vl vu:Value}{lo hi:Option Int}{n:Nat}{Q:Int×Int×Nat->Shared->Prop}(hs:s.heap.IsSliceOf sl vl vu .none)(pl:IsPart vl lo)(pu:IsPart vu hi)
    (h:Q (((sIx n 0 lo:Nat):Int),1,sIx n n hi-sIx n 0 lo) s):wpAny (model prog w) A (VF (.ref sl) (pure (n:Int))) Q E s:=by
  obtain⟨os,hos,hcs,hds⟩:=id hs;unfold VF Zb.Slice.sliceFields;refine Z9 (Z9 (wpAny_field hos hds (x:=vl) rfl (Z9 (wpAny_field hos hds (x:=vu) rfl (Z9 (wpAny_field hos hds (x:=.none) rfl (Z6 ?_)))))));refine Z9 (slicePart_none ?_);show wpAny _ _ (if((1:Int)==0)=true then _ else _) _ _ s;rw[if_neg (by decide)];refine Z9 (zen pl (Z9 (zen pu (Z9 (Z6 ?_)))));show wpAny _ _ (match WT lo hi 1 (n:Int) with | (lo,hi)=>pure (lo,(1:Int),XH lo hi 1)) _ _ s;rw[zi5 lo hi n];show wpAny _ _ (pure (((sIx n 0 lo:Nat):Int),(1:Int),XH ((sIx n 0 lo:Nat):Int) ((sIx n n hi:Nat):Int) 1)) _ _ s;rw[ziI];exact Z6 h
theorem zmK(xs:Array Value)(i k:Nat):((ZA k).filterMap λ(m:Nat)=>xs[((i:Int)+(m:Int)*1).toNat]?).toArray=((xs.toList.drop i).take k).toArray:=by
 have e:(λ(m:Nat)=>xs[((i:Int)+(m:Int)*1).toNat]?)=λm=>xs[i+m]?:=by
  funext m
  have:((i:Int)+(m:Int)*1).toNat=i+m:=by omega
  rw[this]
 rw[e]
 have:=pick_run xs i k
 rw[List.filterMap_map] at this;have e2:((λx=>xs[x]?)∘λx=>i+x)=λm=>xs[i+m]?:=rfl;rw[e2] at this;rw[this]
theorem getItem_tuple_cut{t sl:Addr}{items:Array Value}{vl vu:Value}{lo hi:Option Int}{Q:Value->Shared->Prop}(ht:IsTup s.heap t items)(hs:s.heap.IsSliceOf sl vl vu .none)(pl:IsPart vl lo)(pu:IsPart vu hi)
  (hw:¬(sIx items.size 0 lo=0/\sIx items.size items.size hi=items.size))
  (h:Q (.ref s.heap.objs.size) {s with heap:=s.heap.push {cls:=.type "tuple",data:=.seq ((items.toList.drop (sIx items.size 0 lo)).take (sIx items.size items.size hi-sIx items.size 0 lo)).toArray}})
  (hsz:items.size<=sizeLine):wpAny (model prog w) A (Uu (.ref t) (.ref sl)) Q E s:=by
 have htake:sizeOk (.seq ((items.toList.drop (sIx items.size 0 lo)).take (sIx items.size items.size hi-sIx items.size 0 lo)).toArray):=by show((items.toList.drop (sIx items.size 0 lo)).take (sIx items.size items.size hi-sIx items.size 0 lo)).toArray.size<=sizeLine;rw[ZV,Ze,YN,ZG];omega
 have hj:sIx items.size items.size hi<=items.size:=sIx_le _ _ (ZZ _) hi;obtain⟨os,hos,hcs,hds⟩:=id hs;have hTs:s.TypeIs (.ref sl) "slice":=⟨os,hos,hcs⟩;unfold Uu
 try with_reducible refine Y6 ?_
 first | refine Z9 (Z6 ?_) | skip
 refine Z9 (wpAny_sequenceKey ht.typeIs (by decide) ?_)
 refine Z9 (Xl (name:=YG "__getitem__") ht.typeIs Y4
  (Yj Y4 ht.typeIs entry_tuple_getitem ?_ (args_tuple_getitem _ _)))
 show wpAny _ _ (W5 (.ref t) >>= _) _ _ s;refine Z9 (tupleItemsOf_ ht ?_);refine Z9 (Wn hTs ?_);rw[if_pos (by decide)];refine Z9 (zbo hs pl pu ?_)
 have hno:¬((((sIx items.size 0 lo:Nat):Int)==0&&(1:Int)==1&&(sIx items.size items.size hi-sIx items.size 0 lo)==items.size)=true):=by intro q;rw[Z8,Z8] at q;have q1:((sIx items.size 0 lo:Nat):Int)=0:=ZX q.1.1;have q2:sIx items.size items.size hi-sIx items.size 0 lo=items.size:=ZX q.2;exact hw ⟨by omega,by omega⟩
 show wpAny _ _ (if(((sIx items.size 0 lo:Nat):Int)==0&&(1:Int)==1&&(sIx items.size items.size hi-sIx items.size 0 lo)==items.size)=true then _ else _) _ _ s;rw[if_neg hno,zmK]
 first|exact Z9 (m:=Xv _) (Yq (Z6 ⟨_,rfl,Z6 h⟩) htake)|exact Z9 (m:=Xv _) (Yq (Z9 (Z6 (Z6 ⟨_,rfl,Z6 h⟩))) htake)|exact Z9 (Z9 (m:=Xv _) (Yq (Z6 (Z6 ⟨_,rfl,Z6 h⟩)) htake))|exact Z9 (Z9 (m:=Xv _) (Yq (Z6 ⟨_,rfl,Z6 h⟩) htake))
end
end HT
namespace L2
open PySem PySem.Spec PyProof.Rows
abbrev TO:=St->Hp->(Option Int->Hp->Prop)->Prop
def PO(X:Cx)(e:Option Expr)(t:TO):Prop:=
 ∀ (pins:List (Addr×Obj)) (s:Shared) (σ:St) (H:Hp) (Q:Option Int->Hp->Prop),Inv X pins σ H s->t σ H Q →
  wpAny (model X.prog X.w) X.A (evalPart e X.env) (λu s'=>∃o H',Inv X pins σ H' s'/\IsPart u o/\Q o H') X.xe s
def zoL:TO:=λ_ H Q=>Q none H
section
variable {X:Cx}{e:Expr}{te:TE}{lo hi:Option Expr}{tl th:TO}{pos p2:Pos}
theorem zoI:PO X none zoL:=by intro pins s σ H Q I h;rw[evalPart_none];exact Z6 ⟨none,H,I,.none,h⟩
def SlR(X:Cx)(r:V->Option Int->Option Int->Hp->VK->Prop):Prop:=
 ∀ (pins:List (Addr×Obj)) (s:Shared) (σ:St) (H:Hp) (x:V) (v vl vu:Value) (lo hi:Option Int) (sl:Addr) (Q:VK),Inv X pins σ H s->RelV x v->s.heap.IsSliceOf sl vl vu .none->IsPart vl lo->IsPart vu hi->r x lo hi H Q →
  ∃T id,typeLookup (.type T) "__getitem__"=pure (some (.builtin id))/\s.TypeIs v T/\wpAny (model X.prog X.w) X.A (Uu v (.ref sl)) (EP X pins σ Q) X.xe s
def tSl(r:V->Option Int->Option Int->Hp->VK->Prop)(te:TE)(tl th:TO):TE:=λσ H Q=>te σ H λx H1=>tl σ H1 λl H2=>th σ H2 λu H3=>r x l u H3 Q
theorem zmH{r:V->Option Int->Option Int->Hp->VK->Prop}(hr:SlR X r)(he:PE X e te)(hl:PO X lo tl)(hu:PO X hi th):PE X (.Subscript e (.Slice lo hi none p2) pos) (tSl r te tl th):=by intro pins s σ H Q I h;refine Subscript_ (thn (he pins s σ H _ I h) λv s1 q_=>?_);obtain⟨x,H1,I1,r1,q1⟩:=q_;refine wpAny_Slice (thn (hl pins s1 σ H1 _ I1 q1) λvl s2 ⟨l,H2,I2,pl,q2⟩=>thn (hu pins s2 σ H2 _ I2 q2) λvu s3 q_=>?_);obtain⟨u,H3,I3,pu,q3⟩:=q_;rw[evalPart_none];refine Z6 ?_;have I4:Inv X pins σ H3 {s3 with heap:=s3.heap.push {cls:=.type "slice",data:=.fields #[vl,vu,.none]}}:=I3.kept (t':=s3.toks) λb ob q=>Z5 _ q;obtain⟨T,id,hT,ht,hg⟩:=hr pins {s3 with heap:=s3.heap.push {cls:=.type "slice",data:=.fields #[vl,vu,.none]}} σ H3 x v vl vu l u s3.heap.objs.size Q I4 r1 (Heap.IsSliceOf.new ..) pl pu q3;show wpAny (model X.prog X.w) X.A (subscriptTail e (.Slice lo hi none p2) v (.ref s3.heap.objs.size)) (EP X pins σ Q) X.xe {s3 with heap:=s3.heap.push {cls:=.type "slice",data:=.fields #[vl,vu,.none]}};exact tail_any (ops:=[.ref s3.heap.objs.size,v]) ht hT hg (by with_unfolding_all rfl)
def cutV(xs:List V)(lo hi:Option Int):List V:=(xs.drop (HT.sIx xs.length 0 lo)).take (HT.sIx xs.length xs.length hi-HT.sIx xs.length 0 lo)
theorem zdo(xs:List V)(lo hi:Option Int):(cutV xs lo hi).length<=xs.length:=by unfold cutV;rw[Ze,YN];omega
def rSlT(K:Z7):V->Option Int->Option Int->Hp->VK->Prop:=λx lo hi H Q=>∃a xs,x=.ref a/\SqT K H a xs ∧
 ¬(HT.sIx xs.length 0 lo=0/\HT.sIx xs.length xs.length hi=xs.length)/\∀p,H p=none->Q (.ref p) (upd H p (.tup (cutV xs lo hi)))
theorem zq1:SlR X (rSlT X.K):=by
 intro pins s σ H x v vl vu lo hi sl Q I rx hs pl pu h;obtain⟨a,xs,rfl,hx,hw,q⟩:=h;cases rx;obtain⟨its,r,ht,hz⟩:=I.tuple hx
 have hlen:its.toArray.size=xs.length:=by rw[ZV];exact r.length.symm
 refine⟨"tuple",_,Y4.lookup,ht.typeIs,?_⟩
 refine HT.getItem_tuple_cut ht hs pl pu (by rw[hlen];exact hw) ?_ (by rw[hlen];exact hz)
 rw[hlen];refine⟨.ref s.heap.objs.size,_,I.laid (t':=s.toks) (o:=.tup (cutV xs lo hi)) (λb ob q=>Z5 _ q) (ZZ _) ?_,rfl,q _ (I.hok.fresh (ZZ _))⟩;exact⟨Zf (zdo xs lo hi) hz,_,(r.drop (HT.sIx xs.length 0 lo)).take (HT.sIx xs.length xs.length hi-HT.sIx xs.length 0 lo),zbp.new _ _⟩
def zrK(K:Z7):R2:=λx y H Q=>∃a b xs ys,x=.ref a/\y=.ref b/\SqT K H a xs/\SqT K H b ys/\xs≠[]/\xs.length+ys.length<=sizeLine ∧
 (ys=[]->Q (.ref a) H)/\(ys≠[]->∀p,H p=none->Q (.ref p) (upd H p (.tup (xs++ys))))
theorem Vals.nil_iff{xs:List V}{us:List Value}(r:Vals xs us):us=[]↔xs=[]:=by
 cases r with|nil=>simp|cons _ _=>simp
theorem zoK:OpR X (YL .Add) (zrK X.K):=by
 intro pins s σ H x y v u Q I rx ry h;obtain⟨a,b,xs,ys,rfl,rfl,ha,hb,hx,hz,q1,q2⟩:=h;cases rx;cases ry;obtain⟨its,r1,p1,_⟩:=I.tuple ha;obtain⟨its2,r2,p2,_⟩:=I.tuple hb
 refine HT.cat_tup p1 p2 (λz=>hx (r1.nil_iff.mp z)) (λz=>⟨.ref a,H,I,rfl,q1 (r2.nil_iff.mp z)⟩) (λz=>?_) (by rw[<-r1.length,<-r2.length];exact hz)
 refine⟨.ref s.heap.objs.size,_,I.laid (t':=s.toks) (o:=.tup (xs++ys)) (λb ob q=>Z5 _ q) (ZZ _) ?_,rfl,q2 (λw=>z (r2.nil_iff.mpr w)) _ (I.hok.fresh (ZZ _))⟩
 exact⟨by rw[Zw];exact hz,_,r1.append r2,zbp.new _ _⟩
end
def ixN(n:Nat)(i:Int):Option Nat:=if 0<=i then(if i<n then some i.toNat else none) else if -(n:Int)<=i then some (i+n).toNat else none
def atI{α:Type}(xs:List α)(i:Int):Option α:=(ixN xs.length i).bind λj=>xs[j]?
theorem zj7{n:Nat}{i:Int}{j:Nat}(h:ixN n i=some j):seqIndex? i n=some j/\j<n/\-(n:Int)<=i/\i<n:=by
 unfold ixN at h
 by_cases h0:0<=i
 ·rw [if_pos h0] at h
  by_cases h1:i<n
  ·rw [if_pos h1] at h
   have e:i.toNat=j:=ZY h;exact⟨by rw[seqIndex_of h0 h1,e],by omega,by omega,h1⟩
  ·rw[if_neg h1] at h;cases h
 ·rw [if_neg h0] at h
  by_cases h1:-(n:Int)<=i
  ·rw [if_pos h1] at h
   have e:(i+n).toNat=j:=ZY h;exact⟨by rw[seqIndex_neg (by omega) h1,e],by omega,h1,by omega⟩
  ·rw[if_neg h1] at h;cases h
theorem zhh{α:Type}{xs:List α}{i:Int}{v:α}(h:atI xs i=some v):∃j,seqIndex? i xs.length=some j/\xs[j]?=some v/\j<xs.length/\-(xs.length:Int)<=i/\i<xs.length:=by
 unfold atI at h
 cases e:ixN xs.length i with|none=>rw[e] at h;cases h|some j=>rw[e] at h;obtain⟨h1,h2,h3,h4⟩:=zj7 e;exact⟨j,h1,h,h2,h3,h4⟩
def zhz(b:Expr):Prop:=∀o i,subscripted b false o i=operate [o,i] (Uu o i)
def IxR(X:Cx)(r:R2):Prop:=
 ∀ (value slice:Expr) (pins:List (Addr×Obj)) (s:Shared) (σ:St) (H:Hp) (x y:V) (v u:Value) (Q:VK),Inv X pins σ H s->RelV x v->RelV y u->r x y H Q →
  subscripted slice false v u=operate [v,u] (Uu v u)->wpAny (model X.prog X.w) X.A (subscriptTail value slice v u) (EP X pins σ Q) X.xe s
def MtR(X:Cx)(id:String)(r:V->List V->Hp->VK->Prop):Prop:=
 ∀ (pins:List (Addr×Obj)) (s:Shared) (σ:St) (H:Hp) (x:V) (xs:List V) (v:Value) (us:List Value) (Q:VK),Inv X pins σ H s->RelV x v->Vals xs us->r x xs H Q →
  wpAny (model X.prog X.w) X.A (call (.builtin id) (v::us)) (EP X pins σ Q) X.xe s
section
variable {X:Cx}{a b:Expr}{ta tb:TE}{pos:Pos}
theorem zrC{r:R2}(hr:IxR X r)(ha:PE X a ta)(hb:PE X b tb)(hs:zhz b):PE X (.Subscript a b pos) (tOp r ta tb):=by intro pins s σ H Q I h;exact Subscript_ (binT ha hb I h λv u s2 x y H2 I2 rx ry q=>hr a b pins s2 σ H2 x y v u Q I2 rx ry q (hs _ _))
def rIxL(K:Z7):R2:=λx y H Q=>∃p xs i v,x=.ref p/\y=.int i/\SqL K H p xs/\atI xs i=some v/\Q v H
def rIxT(K:Z7):R2:=λx y H Q=>∃p xs i v,x=.ref p/\y=.int i/\SqT K H p xs/\atI xs i=some v/\Q v H
def rIxS:R2:=λx y H Q=>∃z i c,x=.str z/\y=.int i/\z.length<=sizeLine/\atI z.cps.toList i=some c/\Q (.str ⟨#[c]⟩) H
theorem zoW:IxR X (rIxL X.K):=by
 intro value slice pins s σ H x y v u Q I rx ry h hs;obtain⟨p,xs,i,z,rfl,rfl,hq,he,q⟩:=h;cases rx;obtain⟨t,rfl⟩:=ry;obtain⟨its,r,pl,hz⟩:=I.list hq;obtain⟨j,h1,h2,h3,h4,h5⟩:=zhh he;obtain⟨w,ew,rw'⟩:=r.get h2;have hl:=r.length;have hn:=zdZ;have fin:EP X pins σ Q w s:=⟨z,H,I,rw',q⟩
 by_cases h0:0<=i
 ·have hj:i.toNat=j:=by
   rw[seqIndex_of h0 h5] at h1;exact ZY h1
  exact item_listR pl.isList h0 (by omega) (by rw[hj];simpa using ew) fin hs
 ·have hj:(i+(its.toArray.size:Int)).toNat=j:=by
   rw[seqIndex_neg (by omega) h4] at h1;rw[ZV,<-hl];exact ZY h1
  exact subscriptTail_builtinR (x:=w) pl.isList.typeIs slot_list_getitem.lookup
   (wpAny_getItem_list_neg (Q:=λr s'=>r=w/\EP X pins σ Q r s') pl.isList (by omega) (by rw[ZV]<;>omega) (by omega) (by rw[hj];simpa using ew) ⟨rfl,fin⟩) hs
theorem zpD:IxR X (rIxT X.K):=by
 intro value slice pins s σ H x y v u Q I rx ry h hs;obtain⟨p,xs,i,z,rfl,rfl,hq,he,q⟩:=h;cases rx;obtain⟨t,rfl⟩:=ry;obtain⟨its,r,pl,hz⟩:=I.tuple hq;obtain⟨j,h1,h2,h3,h4,h5⟩:=zhh he;obtain⟨w,ew,rw'⟩:=r.get h2;have hl:=r.length;have hn:=zdZ;have fin:EP X pins σ Q w s:=⟨z,H,I,rw',q⟩
 exact subscriptTail_builtinR (x:=w) pl.typeIs slot_tuple_getitem.lookup
  (getItem_tuple (j:=j) (Q:=λr s'=>r=w/\EP X pins σ Q r s') pl (by omega) (by omega) (by rw[ZV,<-hl];exact h1) (by simpa using ew) ⟨rfl,fin⟩) hs
theorem zqz:IxR X rIxS:=by
 intro value slice pins s σ H x y v u Q I rx ry h hs;obtain⟨z,i,c,rfl,rfl,hz,he,q⟩:=h;obtain⟨t,rfl⟩:=rx;obtain⟨t',rfl⟩:=ry;obtain⟨j,h1,h2,h3,h4,h5⟩:=zhh he
 have hl:z.cps.toList.length=z.length:=by simp[Str.length]
 rw[hl] at h1 h4 h5;have hn:=zdZ
 exact tail_any (Xe s z t) slot_str_getitem.lookup (getItem_str (c:=c) (by
  have e1:decide (i < -(2^63:Int))=false:=decide_eq_false (by omega);have e2:decide (i>=2^63)=false:=decide_eq_false (by omega)
  rw[e1,e2,Bool.or_false]) (by rw[h1];simpa using h2) ⟨.str ⟨#[c]⟩,H,I.tok _,⟨_,rfl⟩,q⟩) hs
theorem ziz(its:List Value)(n j:Nat)(u:Value):YY (·.setIfInBounds j u) {cls:=.type "list",data:=.seq its.toArray n}={cls:=.type "list",data:=.seq (its.set j u).toArray n}:=by simp[YY]
theorem Inv.lst{pins:List (Addr×Obj)}{σ:St}{H:Hp}{s:Shared}{p:Addr}{xs:List V}(I:Inv X pins σ H s)(h:H p=some (.lst xs)):
  ∃(its:List Value) (n:Nat),Vals xs its/\s.heap.get? p=some {cls:=.type "list",data:=.seq its.toArray n}/\xs.length<=sizeLine:=by
 obtain⟨z,its,n,r,e⟩:=I.hok p _ h;exact⟨its,n,r,e,z⟩
theorem Inv.lstUpd{pins:List (Addr×Obj)}{σ:St}{H:Hp}{s:Shared}{p:Addr}{xs ys:List V}{its its':List Value}{n n':Nat}{f:Obj->Obj}(I:Inv X pins σ H s)(h:H p=some (.lst xs))
  (ho:s.heap.get? p=some {cls:=.type "list",data:=.seq its.toArray n}) (hf:f {cls:=.type "list",data:=.seq its.toArray n}={cls:=.type "list",data:=.seq its'.toArray n'}) (r:Vals ys its') (hz:ys.length<=sizeLine) (t:Nat):
  Inv X pins σ (upd H p (.lst ys)) {s with heap:=s.heap.update p f,toks:=t}:=by
 have e:(s.heap.update p f).get? p=some {cls:=.type "list",data:=.seq its'.toArray n'}:=by rw[Zi f ho (by rw[hf]<;>rfl),hf]
 refine I.write (x:=p) (e:=p) (by rw[h];trivial) (.inl rfl) (λb u hb q=>(Zo _ _ (Za hb)).trans q) ⟨_,e⟩ ?_
 exact⟨hz,its',n',r,e⟩
def zrA:V->V->V->Hp->(Hp->Prop)->Prop:=λo i v H Q=>∃p xs k j,o=.ref p/\i=.int k/\H p=some (.lst xs)/\ixN xs.length k=some j/\Q (upd H p (.lst (xs.set j v)))
theorem zmN:PSet X zrA:=by
 intro pins s σ H o i v ov iv u Q I ro ri rv h;obtain⟨p,xs,k,j,rfl,rfl,hp,hj,q⟩:=h;cases ro;obtain⟨t,rfl⟩:=ri;obtain⟨its,n,r,ho,hz⟩:=I.lst hp;obtain⟨h1,h2,h3,h4⟩:=zj7 hj;have hl:=r.length;have hn:=zdZ
 have I':Inv X pins σ (upd H p (.lst (xs.set j v))) {s with heap:=s.heap.update p (YY (·.setIfInBounds j u))}:=I.lstUpd hp ho (ziz its n j u) (r.set rv j) (by rw[List.length_set];exact hz) s.toks
 by_cases h0:0<=k
 ·have hk:k.toNat=j:=by
   rw[seqIndex_of h0 h4] at h1;exact ZY h1
  exact PySem.W.ki_setAt ho h0 (by omega) (by rw[ZV,<-hl];exact h4) (by rw[hk];exact⟨_,I',q⟩)
 ·have hk:(k+(its.toArray.size:Int)).toNat=j:=by
   rw[seqIndex_neg (by omega) h3] at h1;rw[ZV,<-hl];exact ZY h1
  exact PySem.W.ki_setBack ho (by omega) (by rw[ZV,<-hl];exact h3) (by omega) (by rw[hk];exact⟨_,I',q⟩)
theorem zgv(lo hi:Option Int)(n:Nat):(Wu lo hi none n).1=((HT.sIx n 0 lo:Nat):Int)/\(Wu lo hi none n).2.1=((HT.sIx n n hi:Nat):Int)/\(Wu lo hi none n).2.2=1:=by
 refine⟨?_,?_,rfl⟩
 ·cases lo with
  |none=>simp[Wu,HT.sIx]
  |some i=>
   simp only[Wu,HT.sIx,Option.getD_none,show(1:Int)>0 by decide,if_true]
   by_cases h:i<0
   ·simp only[h,if_true]<;>omega
   ·simp only[h,if_false]<;>omega
 ·cases hi with
  |none=>simp[Wu,HT.sIx]
  |some i=>
   simp only[Wu,HT.sIx,Option.getD_none,show(1:Int)>0 by decide,if_true]
   by_cases h:i<0
   ·simp only[h,if_true]<;>omega
   ·simp only[h,if_false]<;>omega
theorem zfv(its:List Value)(lo hi:Option Int):slicePick its.toArray lo hi none=((its.drop (HT.sIx its.length 0 lo)).take (HT.sIx its.length its.length hi-HT.sIx its.length 0 lo)).toArray:=by
 obtain⟨h1,h2,h3⟩:=zgv lo hi its.toArray.size;unfold slicePick;rw[h1,h2,h3]
 simp only[sliceRange_one,pick_run,ZV]<;>rfl
def rSlL(K:Z7):V->Option Int->Option Int->Hp->VK->Prop:=λx lo hi H Q=>∃a xs,x=.ref a/\SqL K H a xs/\∀p,H p=none->Q (.ref p) (upd H p (.lst (cutV xs lo hi)))
theorem zob:SlR X (rSlL X.K):=by
 intro pins s σ H x v vl vu lo hi sl Q I rx hs pl pu h;obtain⟨a,xs,rfl,hx,q⟩:=h;cases rx;obtain⟨its,r,ht,hz⟩:=I.list hx;have hlen:=r.length;refine⟨"list",_,slot_list_getitem.lookup,ht.isList.typeIs,?_⟩
 refine wpAny_getItem_list_slice ht.isList hs pl pu .none (by simp) ?_ (by rw[ZV]<;>omega)
 rw[zfv,<-hlen];refine⟨.ref s.heap.objs.size,_,I.laid (t':=s.toks) (o:=.lst (cutV xs lo hi)) (λb ob q=>Z5 _ q) (ZZ _) ?_,rfl,q _ (I.hok.fresh (ZZ _))⟩;exact⟨Zf (zdo xs lo hi) hz,_,0,(r.drop (HT.sIx xs.length 0 lo)).take (HT.sIx xs.length xs.length hi-HT.sIx xs.length 0 lo),ZH _ rfl⟩
theorem zf3:zcs X (.type "list") (λxs H Q=>∃p ys,xs=[.ref p]/\(SqL X.K H p ys\/SqT X.K H p ys)/\∀l,H l=none->Q (.ref l) (upd H l (.lst ys))):=by
 intro pins s σ H xs us Q I r h;obtain⟨p,ys,rfl,hq,q⟩:=h;obtain⟨u,rfl,rx⟩:=zfe r;cases rx
 have fin:∀(its:List Value),Vals ys its->ys.length<=sizeLine->∀(h':Heap) (c':Nat),(∀b o',s.heap.get? b=some o'->h'.get? b=some o') →
   h'.get? s.heap.objs.size=some {cls:=.type "list",dict:=none,data:=.seq its.toArray c',slots:=#[]}->EP X pins σ Q (.ref s.heap.objs.size) {s with heap:=h'}:=λits r' hz h' c' kp e=>
  ⟨.ref s.heap.objs.size,_,I.laid (t':=s.toks) kp (ZZ _) (show zaI X.prog X.w _ h' _ (.lst ys) from⟨hz,its,c',r',e⟩),rfl,q _ (I.hok.fresh (ZZ _))⟩
 rcases hq with hq | hq
 ·obtain ⟨its,r',pl,hz⟩:=I.list hq
  have hlen:=r'.length;obtain⟨o,ho,hc,n,hd⟩:=pl.isList
  exact call_list_seq p (.inl rfl) ho hc hd (λh' c' kp e=>fin its r' hz h' c' kp e) (by simp only[ZV]<;>omega)
 ·obtain ⟨its,r',pl,hz⟩:=I.tuple hq
  have hlen:=r'.length;obtain⟨o,ho,hc,n,hd⟩:=pl
  exact call_list_seq p (.inr rfl) ho hc hd (λh' c' kp e=>fin its r' hz h' c' kp e) (by simp only[ZV]<;>omega)
theorem zb2:zcs X (.type "tuple") (λxs H Q=>∃p ys,xs=[.ref p]/\((SqL X.K H p ys/\∀l,H l=none->Q (.ref l) (upd H l (.tup ys)))\/(SqT X.K H p ys/\Q (.ref p) H))):=by
 intro pins s σ H xs us Q I r h;obtain⟨p,ys,rfl,h⟩:=h;obtain⟨u,rfl,rx⟩:=zfe r;cases rx
 rcases h with⟨hq,q⟩|⟨hq,q⟩
 ·obtain ⟨its,r',pl,hz⟩:=I.list hq
  have hlen:=r'.length
  refine call_tuple_list pl.isList (λh' kp=>?_) (by simp only[ZV]<;>omega)
  have I1:Inv X pins σ H {s with heap:=h'}:=I.kept (t':=s.toks) kp
  have I2:Inv X pins σ (upd H h'.objs.size (.tup ys)) {s with heap:=h'.push {cls:=.type "tuple",data:=.seq its.toArray}}:=I1.laid (t':=s.toks) (λb o e=>Z5 _ e) (ZZ _) (show zaI X.prog X.w _ _ _ (.tup ys) from⟨hz,its,r',zbp.new _ _⟩)
  exact⟨.ref h'.objs.size,_,I2,rfl,q _ (I1.hok.fresh (ZZ _))⟩
 ·obtain ⟨its,r',pl,hz⟩:=I.tuple hq
  exact call_tuple_same pl ⟨.ref p,H,I,rfl,q⟩
def tyV(K:Z7)(T:String)(x:V)(H:Hp):Prop:=match x with
 |.str _=>T="str"|.int _=>T="int"
 | .ref p=>(T="list"/\∃xs,SqL K H p xs)\/(T="tuple"/\∃xs,SqT K H p xs)\/
   (T="dict"/\((∃kvs,H p=some (.dK kvs))\/∃kvs,H p=some (.dK kvs)))\/(T="set"/\∃S n,H p=some (.set S n))
 |_=>False
theorem zpK{pins:List (Addr×Obj)}{σ:St}{H:Hp}{s:Shared}{T:String}{x:V}{v:Value}(I:Inv X pins σ H s)(r:RelV x v)(ty:tyV X.K T x H):
  s.TypeIs v T/\∀a,v=.ref a->∃ob,s.heap.get? a=some ob/\ob.dict=none:=by
 cases x with
 |str z=>
  obtain⟨t,rfl⟩:=r
  cases (show T="str" from ty)
  exact⟨Xe s z t,λ_ e=>nomatch e⟩
 |int i=>
  obtain⟨t,rfl⟩:=r
  cases (show T="int" from ty)
  exact⟨typeIs_int s i t,λ_ e=>nomatch e⟩
 | ref p=>
  cases r
  rcases ty with⟨rfl,xs,hq⟩|⟨rfl,xs,hq⟩|⟨rfl,hk⟩|⟨rfl,S,n,hk⟩
  ·obtain ⟨its,_,pl,_⟩:=I.list hq
   refine⟨pl.isList.typeIs,λa e=>?_⟩;cases e;obtain⟨o,n,e,c,hd,_⟩:=pl;exact⟨o,e,hd⟩
  ·obtain ⟨its,_,⟨o,e,c,_⟩,_⟩:=I.tuple hq
   refine⟨⟨o,e,c⟩,λa e2=>?_⟩;cases e2;exact⟨o,e,I.tupleB hq o e⟩
  ·have z:∃o,s.heap.get? p=some o/\o.ExactDict:=by
    rcases hk with⟨kvs,hk⟩|⟨kvs,hk⟩
    ·obtain ⟨_,_,_,_,o,_,_,e,ex,_⟩:=I.hok p _ hk
     exact⟨o,e,ex⟩
    ·obtain ⟨_,_,_,_,o,_,_,e,ex,_⟩:=I.hok p _ hk
     exact⟨o,e,ex⟩
   obtain⟨o,e,ex⟩:=z;refine⟨⟨o,e,ex.1⟩,λa e2=>?_⟩;cases e2;exact⟨o,e,ex.2.1⟩
  ·obtain ⟨o,_,_,_,e,ex,_⟩:=I.hok p _ hk
   refine⟨⟨o,e,ex.1⟩,λa e2=>?_⟩;cases e2;exact⟨o,e,ex.2.1⟩
 |_=>exact Yh ty
def tBM(K:Z7)(T:String)(r:V->List V->Hp->VK->Prop)(to:TE)(t:TA):TE:=λσ H Q=>to σ H λx H1=>tyV K T x H1/\t σ H1 λxs H2=>r x xs H2 Q
variable {o e:Expr}{es:List Expr}{to:TE}{t:TA}{name:Str}{apos cpos:Pos}{T id:String}{r:V->List V->Hp->VK->Prop}
theorem zjw(pa:PlainAttrs T)(slot:Slot T name id)(hty:typeOf (.builtin id)=pure (.type "method_descriptor"))(hm:MtR X id r)(ho:PE X o to)(ha:PA X (e::es) t)
  (hbase:Yz o name X.env (eval o X.env)=eval o X.env:=by rfl)
  (hfew:((backTo cpos (ZT (e::es) X.env)).all (λx=>!x.1)&&(WO cpos (XT [] X.env)).all (λx=>x.1.isSome)
   && decide ((e::es).length+([]:List X5).length+(if([]:List X5).isEmpty then 0 else 1)<30))=true:=by rfl)
  (hline:(apos.endLine==cpos.line)=true:=by rfl) (hs:ZT (e::es) X.env=(false,eval e X.env)::ZT es X.env:=by rfl) (hplain:(backTo cpos (ZT es X.env)).any (·.1)=false:=by rfl):
  PE X (.Call (.Attribute o name apos) (e::es) [] cpos) (tBM X.K T r to t):=by
 intro pins s σ H Q I h;refine wpAny_Call_method_late hbase hfew hline rfl (thn (ho pins s σ H _ I h) λv s1 q_=>?_);obtain⟨x,H1,I1,r1,ty,q1⟩:=q_;obtain⟨h1,h2⟩:=zpK I1 r1 ty;refine⟨T,id,pa,slot,hty,h1,h2,?_⟩;have hA:=ha cpos pins s1 σ H1 _ I1 q1;rw[hs] at hA⊢
 refine Calls.callWith_builtin (by show(false||(backTo cpos (ZT es X.env)).any (·.1))=false;rw[hplain]<;>rfl) (Calls.evalArgs_plain ?_)
 exact thn hA λus s2 ⟨vs,H2,I2,r2,q2⟩=>hm pins s2 σ H2 x vs v us Q I2 r1 r2 q2
/- xs.append(e),list.index on a module's tuple .. are MtR facts of 06m -/
end
def MtM(X:Cx)(id:String)(r:V->List V->Hp->VK->Prop):Prop:=
 ∀ (pins:List (Addr×Obj)) (s:Shared) (σ:St) (H:Hp) (x:V) (xs:List V) (v:Value) (us:List Value) (Q:VK),Inv X pins σ H s->RelV x v->Vals xs us->r x xs H Q →
  wpAny (model X.prog X.w) X.A (call (.builtin id) (v::us)) (EP X pins σ Q) X.xe s
theorem Vals.one:∀{x:V} {us:List Value},Vals [x] us->∃u,us=[u]/\RelV x u|_,_,.cons r .nil=>⟨_,rfl,r⟩
theorem Vals.zero:∀{us:List Value},Vals [] us->us=[]|_,.nil=>rfl
theorem Vals.dropLast{xs:List V}{us:List Value}(h:Vals xs us):Vals xs.dropLast us.dropLast:=by
 induction h with
 |nil=>exact .nil
 |cons r t ih=>
  cases t with|nil=>exact .nil|cons q t'=>exact .cons r ih
theorem Vals.eraseIdx:∀{xs:List V} {us:List Value} (i:Nat),Vals xs us->Vals (xs.eraseIdx i) (us.eraseIdx i)|_,_,_,.nil=>.nil|_,_,0,.cons _ t=>t|_,_,i+1,.cons r t=>.cons r (Vals.eraseIdx i t)
section
variable {X:Cx}{pins:List (Addr×Obj)}{σ:St}{H:Hp}{s:Shared}{l b:Addr}{xs ys zs:List V}
theorem Inv.lset{its its':List Value}{n:Nat}{f:Array Value->Array Value}{t':Nat}(I:Inv X pins σ H s)(hH:H l=some (.lst xs))
  (e:s.heap.get? l=some {cls:=.type "list",data:=.seq its.toArray n}) (hf:f its.toArray=its'.toArray) (hv:Vals ys its') (hz:ys.length<=sizeLine):
  Inv X pins σ (upd H l (.lst ys)) {s with heap:=s.heap.update l (YY f),toks:=t'}:=by
 have q:=PySem.IsL.update e f;rw[hf] at q
 refine I.write (x:=l) (e:=l) (by rw[hH];exact trivial) (.inl rfl) (λb' u hb hu=>(Zo s.heap (YY f) (Za hb)).trans hu) ⟨_,q⟩ ?_
 exact⟨hz,its',_,hv,q⟩
theorem Inv.lnew{its:List Value}{t':Nat}(I:Inv X pins σ H s)(hv:Vals ys its)(hz:ys.length<=sizeLine):
  Inv X pins σ (upd H s.heap.objs.size (.lst ys)) {s with heap:=s.heap.push {cls:=.type "list",data:=.seq its.toArray},toks:=t'}:=
 I.laid (λ_ _ q=>Z5 _ q) (ZZ _) ⟨hz,its,0,hv,ZH _ rfl⟩
theorem Inv.fresh(I:Inv X pins σ H s):H s.heap.objs.size=none:=I.hok.fresh (ZZ _)
theorem Inv.lstM(I:Inv X pins σ H s)(hH:H l=some (.lst xs)):xs.length<=sizeLine/\∃(its:List Value) (n:Nat),Vals xs its/\xs.length=its.length/\s.heap.get? l=some {cls:=.type "list",data:=.seq its.toArray n}:=by obtain⟨z,its,n,r,e⟩:=I.hok l _ hH;exact⟨z,its,n,r,r.length,e⟩
end
section
variable {X:Cx}
def znT:V->List V->Hp->VK->Prop:=λx vs H Q=>∃l xs y,x=.ref l/\vs=[y]/\H l=some (.lst xs)/\xs.length<sizeLine/\Q .non (upd H l (.lst (xs++[y])))
theorem zjC:MtM X "list.append" znT:=by
 intro pins s σ H x vs v us Q I rx rv h;obtain⟨l,xs,y,rfl,rfl,hH,hz,q⟩:=h;cases rx;obtain⟨u,rfl,ru⟩:=rv.one;obtain⟨z,its,n,r,hl,e⟩:=I.lstM hH
 refine YD F.slot_list_append ⟨_,e,rfl⟩ F.entry_list_append (F.args_list_append_2 _ _) (PySem.list_append l its.toArray n u (by rw[ZV];omega)) ⟨e,?_⟩
 refine⟨.non,_,I.lset (its':=its++[u]) hH e (by simp) (r.append (.cons ru .nil)) ?_,rfl,q⟩;rw[Zw,List.length_singleton];omega
end
section
variable {prog:ZB}{w:World}{A:Around}{E:Value->Shared->Prop}{s:Shared}
end
section
variable {X:Cx}
end
end L2
namespace Att
open PySem PySem.W PySem.Calls PyProof.Rows
theorem zdJ{P:Params}{h:Heap}:∀(ns:List Int) (vs:List Value),WellAll P h vs (ns.map WData.int)->IntsAre vs ns:=by
 intro ns
 induction ns with
 |nil=>intro vs w;rw[UQ] at w;cases w;exact .nil
 | cons n ns ih=>
  intro vs w;rw[Zz] at w
  cases w with|cons a b=>cases a;exact .cons _ _ (ih _ b)
theorem zjV{l:OpenLaw}{n:Nat}(hn:l.most=some n){P:Params}{h:Heap}{args:List WData}{vals:List Value}
  (hpre:l.row.toRowW.claim.pre args=true) (hwl:WellAll P h vals args):
  ∃a vs ns,vals=[ZD a]/\args=[WData.list (ns.map WData.int)]/\h.get? a=some {cls:=.type "list",data:=.seq vs.toArray}/\IntsAre vs ns/\ns.length<=n:=by
 have hsh:WShape.hasAll [] args [.list .int]=true:=(pre_splitW hpre).1;have hc:l.pre.holds [] {args:=args}=true:=(pre_splitW hpre).2;obtain⟨d,r,rfl,h1,h2⟩:=hasAllW_cons hsh;obtain rfl:=hasAllW_nil h2;obtain⟨xs,rfl,h3⟩:=hasW_list h1;obtain⟨ns,rfl⟩:=items_int h3
 have hlen:ns.length<=n:=by
  unfold OpenLaw.pre at hc
  have h4:(WTm.not (.lt (.lit (.int (n:Int))) (.len (.arg 0)))).holds [] {args:=[.list (ns.map .int)]}=true:=by have h4:=(holds_andW hc).1;rw[hn] at h4;exact h4
  have h5:=condW_of h4 (w_not (w_lt w_lit (w_len_list (w_arg rfl))));rw[ZR] at h5;refine Xk λq=>?_
  have q':(n:Int)<((ns.length:Nat):Int):=by omega
  first|(rw[decide_eq_true q'] at h5;exact absurd h5 (by decide))|(simp at h5;omega)
 cases hwl with
 |cons w1 w2=>
  cases w2
  cases w1 with|list ho hall=>exact⟨_,_,ns,rfl,rfl,ho,zdJ ns _ hall,hlen⟩
theorem zkN(l:OpenLaw)(args:List WData):l.row.toRowW.claim.post args (.bool true) args=true:=
 postW_of (r:=l.row.toRowW) (X:=(true==true))
  (show WShape.has [] (.bool true) .bool=true by first | rfl | decide | simp[WShape.has,WShape.arms,WShape.armsAll])
  (show(WTm.eq .res (.lit (.bool true))).value [] {args:=args,res:=some (.bool true),after:=args}=some (.bool (true==true)) from w_eq_bool (w_res rfl) w_lit) rfl
theorem attach_call{l:OpenLaw}{n:Nat}{q:ZB}{loose:List Str}{XP:(Str->Option Value)->Heap->Prop}{YP:World->Heap->Prop}{d:DefRec}
  (hn:l.most=some n) (hdf:d.params.defaults=[])
  (call:∀(w:World) (s₀ s₁:Shared) (mg mb:Str->Option Value) (fa:Addr) (o:Obj) (pm cd doc:Value) (a:Addr) (vs:List Value) (ns:List Int),
   Ground q loose [] XP w s₀ mg mb s₁.heap->YP w s₁.heap →
   s₁.heap.get? fa=some o->o.data=.func (docDef d.name d.params d.body d.scope pm cd doc)->s₁.heap.CodeRec cd d.name->mg d.name=some (.ref fa) →
   s₁.heap.get? a=some {cls:=.type "list",data:=.seq vs.toArray}->IntsAre vs ns->ns.length<=n->s₁.gens=#[] →
   Xs (model l.prog w) UP (.call (.ref fa) ⟨[.ref a],[]⟩) (λr s'=>r=.ok (.ret (.bool true))/\OldK s₁.heap s'.heap/\s'.os=s₁.os/\Vl s'.gens) s₁):
  WalkO q loose XP YP l.row.toRowW d [] (λf vs=>PySem.call f vs):=by
 intro w s₀ s₁ mg mb G Y fa o pm cd doc dV kV ho hd hcd hD hmg hg args vals as hpre hlay hrd hwl hlo;obtain rfl:dV=.none:=Dflts.none hD hdf;obtain rfl:kV=.none:=Dflts.noKw hD;obtain⟨a,vs,ns,rfl,rfl,hobj,hints,hlen⟩:=zjV hn hpre hwl;refine enter_call (XC (call w s₀ s₁ mg mb fa o pm cd doc a vs ns G Y ho (fd_plain hd) hcd hmg hobj hints hlen hg) λr s' hq=>?_);obtain⟨rfl,h2,h3,h4⟩:=hq;exact⟨.inl ⟨.bool true,.bool true,[],rfl,λ_=>rfl,.bool true,zkN l _,λ_=>⟨Vi,λ_ hm=>(nomatch hm)⟩⟩,h2,h3,h4⟩
section
variable {prog:ZB}{w:World}{A:Around}{E:Value->Shared->Prop}{s:Shared}{K:Frag}
end
end Att
namespace L2
open PySem PySem.Spec PyProof.Rows
theorem zfF:∀{vs:List Value} {ns:List Int},IntsAre vs ns->Vals (ns.map V.int) vs|_,_,.nil=>.nil|_,_,.cons n t h=>.cons ⟨t,rfl⟩ (zfF h)
abbrev KOf{K:Z7}{h:Heap}(_:K.In h):Z7:=K
end L2
/- THE LAST THEOREM (shape;LID,My.* are yours):
   My.Adr: a structure of the addresses that your layer names (classes,functions);My.Txt K t: a structure (Prop) of the equations over K;
   My.txt_mk:{K} {implicit addresses ..} (e1:nsIn K mainGlobals "law"=some (some (.ref f))) (e2:K.lookup f=some ⟨oc,od,.func (fnOf "law" "law" params body scope dV kV doc pm an cdv ct),sl⟩) (e3:codeIn K cdv "law"=true) ..:∃t,My.Txt K t
set_option maxRecDepth 100000 in
set_option maxHeartbeats 0 in
theorem PySem.Challenge.cw_LID_holds : PySem.Challenge.rw_LID.Holds := by
 w_on;o_law;k_head;(case hw=>w_witness2)
 k_fill
 refine L2.walk_of (l:=PySem.Challenge.rw_LID) (n:=63) (k:=40) (x:="script") (CX:=λw=>..) (sp:=λ_=>My.sp_law) rfl (by decide) rfl ⟨rfl,by decide,by decide⟩ (λw h Y=>PySem.W.kIn_of Y) ?F ?S ?C
 case F=>
  intro w mg fa h KX G hmg
  have T:∃t,My.Txt (L2.KOf KX) t:=by
   dsimp only[L2.KOf]                          -- K must stand as «<heap const> w.params» for k_is
   refine' My.txt_mk ?e1 ?e2 ?e3 ..
   (case e1=>PySem.W.k_is)                    -- in the order: a name->its address->its object->its parts
   (case e2=>PySem.W.k_is)
   ..
  obtain⟨t,T⟩:=T;have e0:=hmg.symm.trans (Zm KX G T.law)
  cases e0                                       -- fa is the law's own address
  exact⟨_,λs u=>.of_eq rfl,λbase kb nb=>My.law_fn T kb nb⟩     -- if «.of_eq rfl» comes too early: refine' ⟨_,?b,λbase kb nb=>My.law_fn T kb nb⟩;exact λs u=>.of_eq rfl
 case S=>exact λw H a ns hl hO hS=>..
 case C=>exact ..
(the tactic k_is has no namespace: write k_is) -/
namespace L2
open PySem PySem.Spec PyProof.Rows
def zo8(s:Stmt)(j:Nat):Stmt:=match s with|.ClassDef _ _ _ body _ _ _ _ _ _ _=>body.getD j (.Pass ⟨0,0,0,0⟩)|_=>.Pass ⟨0,0,0,0⟩
def zbk(s:Stmt):Arguments:=match s with|.FunctionDef _ a _ _ _ _ _ _ _ _=>a|_=>{posonlyargs:=[],args:=[],vararg:=none,kwonlyargs:=[],kw_defaults:=[],kwarg:=none,defaults:=[]}
def zau(s:Stmt):List Stmt:=match s with|.FunctionDef _ _ b _ _ _ _ _ _ _=>b|_=>[]
def zaf(s:Stmt):Scope:=match s with|.FunctionDef _ _ _ _ _ _ sc _ _ _=>sc|_=>{kind:=.function,names:=[],isGenerator:=false,isCoroutine:=false}
abbrev CX0:CXT:=λ_ _ _ _ _ _=>False
abbrev E0:XK:=λ_ _ _=>False
theorem zlc{X:Cx}:zc4 CX0 X E0:=λ_ _ _ _ _ _ _ h=>h.elim
structure Fun(K:Z7)(x qual:Str)(st:Stmt)(f:Addr)(fd:FuncData):Prop where
 ex:∃(oc:Value) (od:Option Addr) (kV doc pm:Value) (an:Option Addr) (cdv ct:Value) (osl:Array (Option Value)),
  fd=Ya x qual (zbk st) (zau st) (zaf st) .none kV doc pm an cdv ct/\K.lookup f=some ⟨oc,od,.func fd,osl⟩/\Xm K cdv qual=true
 kp:Y0 K (.ref f)=true
section
variable {P:ZB}{w:World}{K:Z7}{mg:Str->Option Value}{base:Heap}
theorem Fun.ok{x qual:Str}{st:Stmt}{f:Addr}{fd:FuncData}{N ps:List Str}{k:Nat}{sp:Sp}(F:Fun K x qual st f fd)(S:zaR N ps (zaf st))(len:∀vs H Q E,sp vs H Q E->vs.length=ps.length)
  (hbody:∀(cdv:Value) (A:Around) (outer:List Env) (s:Shared) (H:Hp) (vs:List V) (Q:VK) (E:XK),Room k (A.deeper (envOfC qual (zaf st) s.heap.objs.size f cdv))->sp vs H Q E →
   ∃t,PSs (cxOf CX0 P w K mg base N qual (zaf st) f cdv A outer s H E).nox (zau st) t/\t {nx:=λ_ H'=>Q .non H',rt:=Q} (start N vs) H):FnOk P w K mg base CX0 (k+1) f fd ps sp:=by
 obtain⟨oc,od,kV,doc,pm,an,cdv,ct,osl,rfl,lk,hcd⟩:=F.ex;refine znv lk hcd S len λA outer s H vs Q E hr hsp=>?_;obtain⟨t,h,q⟩:=hbody cdv A outer s H vs Q E hr hsp;exact⟨t,h.nox,q⟩
end
section
variable {X:Cx}
theorem pv(i:Nat){x:Str}{pos:Pos}(hN:X.N[i]?=some x:=by rfl)(hv:Vis X.env.scope x:=by first | exact Or.inl rfl | exact Or.inr (Or.inl rfl) | exact Or.inr (Or.inr rfl))(hd:(x==("__debug__":Str))=false:=by decide)
  (hcd:(x==("__classdict__":Str))=false:=by decide):PE X (.Name x pos) (tVar i):=zbO hN hv hd hcd
end
theorem iteF{A B:Prop}(h:B):if false=true then A else B:=by rw[if_neg Zc];exact h
theorem iteT{A B:Prop}(h:A):if true=true then A else B:=by rw[if_pos rfl];exact h
section
variable {κ:Type}[DecidableEq κ]
def valV(kvs:List (κ×V))(k:κ):Option V:=(kvs.find? λkv=>decide (kv.1=k)).map (·.2)
def putK(kvs:List (κ×V))(k:κ)(v:V):List (κ×V):=if(kvs.any λkv=>decide (kv.1=k))=true then kvs.map (λkv=>if kv.1=k then(kv.1,v) else kv) else kvs++[(k,v)]
theorem zml{p:κ×V}{r:List (κ×V)}{k:κ}(e:p.1=k):valV (p::r) k=some p.2:=by simp[valV,VU,e]
theorem zmg{p:κ×V}{r:List (κ×V)}{k:κ}(e:¬p.1=k):valV (p::r) k=valV r k:=by simp[valV,VU,e]
theorem KV.val{kvs:List (κ×V)}{vs:List (κ×Value)}(r:KV kvs vs)(k:κ):RelO (valV kvs k) (Up vs k):=by
 unfold KV at r
 induction r with
 |nil=>exact WA
 | @cons p q ps qs h t ih=>
  obtain⟨h1,h2⟩:=h
  by_cases e:p.1=k
  ·have e':q.1=k:=h1.symm.trans e
   have b:Up (q::qs) k=some q.2:=by simp[Up,VU,e']
   rw[zml e,b];exact h2
  ·have e':¬q.1=k:=λz=>e (h1.trans z)
   have b:Up (q::qs) k=Up qs k:=by simp[Up,VU,e']
   rw[zmg e,b];exact ih
theorem KV.any{kvs:List (κ×V)}{vs:List (κ×Value)}(r:KV kvs vs)(k:κ):(kvs.any λkv=>decide (kv.1=k))=vs.any λkv=>decide (kv.1=k):=by
 unfold KV at r
 induction r with|nil=>rfl|cons h t ih=>rw[U6,U6,ih,h.1]
theorem KV.repl{kvs:List (κ×V)}{vs:List (κ×Value)}(r:KV kvs vs)(k:κ){y:V}{u:Value}(ry:RelV y u):
  KV (kvs.map λkv=>if kv.1=k then(kv.1,y) else kv) (vs.map λkv=>if kv.1=k then(kv.1,u) else kv):=by
 unfold KV at r⊢
 induction r with
 |nil=>exact .nil
 |@cons p q ps qs h t ih=>
  rw[Zz,Zz];refine .cons ?_ ih;obtain⟨h1,h2⟩:=h
  by_cases e:p.1=k
  ·rw[if_pos e,if_pos (h1.symm.trans e)];exact⟨h1,ry⟩
  ·rw[if_neg e,if_neg (λz=>e (h1.trans z))];exact⟨h1,h2⟩
theorem KV.put{kvs:List (κ×V)}{vs:List (κ×Value)}(r:KV kvs vs)(k:κ){y:V}{u:Value}(ry:RelV y u):KV (putK kvs k y) (stored vs k u):=by
 unfold putK stored;rw[r.any k]
 by_cases e:(vs.any λkv=>decide (kv.1=k))=true
 ·rw[if_pos e,if_pos e];exact r.repl k ry
 ·rw[if_neg e,if_neg e];exact Paired.snoc r ⟨rfl,ry⟩
theorem KV.length{kvs:List (κ×V)}{vs:List (κ×Value)}(r:KV kvs vs):kvs.length=vs.length:=Paired.length r
end
section
end
section
variable {P:ZB}{w:World}{H:Hp}{h:Heap}{a:Addr}
end
section
variable {X:Cx}{pins:List (Addr×Obj)}{σ:St}{H:Hp}{s:Shared}{a:Addr}{y v:V}{u r:Value}{o:Option V}{A:Around}{E:Value->Shared->Prop}
theorem Inv.big(I:Inv X pins σ H s):sysModules<s.heap.objs.size:=by have h:mainGlobals<s.heap.objs.size:=(I.mod.glob.keeps I.bk).lt;exact Xd (by decide) h
end
section
abbrev VV:List (V×V)->List (Value×Value)->Prop:=Paired λp q=>RelV p.1 q.1/\RelV p.2 q.2
end
end L2
namespace IT
open PySem PySem.Spec L2
def lamQ:Str:=("law.<locals>.<lambda>":Str)
def zir(H:Hp)(q:Str)(c:Value):Prop:=∃c' oc vs t,c=.ref c'/\H c'=some (.frz oc (.own c'))/\oc.data=.fields vs/\vs[1]?=some (.str q t)
def zef(H:Hp)(q:Str)(params:Arguments)(body:Expr)(scope:Scope)(f:Addr):Prop:=∃pm cd ctv,H f=some (.frz ⟨.type "function",none,.func (VE "<lambda>" q params body scope [] pm cd ctv),#[]⟩ (.own f))/\zir H q cd
def zcP(H:Hp)(q:Str)(ps:Array Value):Prop:=VN ps.toList/\∀pos c,VM pos ps.toList=some c->zir H q c
theorem zir.keep{H H':Hp}{q:Str}{c:Value}(h:zir H q c)(k:∀b o u,H b=some (.frz o u)->H' b=some (.frz o u)):zir H' q c:=let ⟨c',oc,vs,t,e,eH,r⟩:=h;⟨c',oc,vs,t,e,k _ _ _ eH,r⟩
theorem zef.keep{H H':Hp}{q:Str}{params:Arguments}{body:Expr}{scope:Scope}{f:Addr}(h:zef H q params body scope f)(k:∀b o u,H b=some (.frz o u)->H' b=some (.frz o u)):zef H' q params body scope f:=let ⟨pm,cd,ctv,e,c⟩:=h;⟨pm,cd,ctv,k _ _ _ e,c.keep k⟩
theorem zcP.keep{H H':Hp}{q:Str}{ps:Array Value}(h:zcP H q ps)(k:∀b o u,H b=some (.frz o u)->H' b=some (.frz o u)):zcP H' q ps:=⟨h.1,λp c e=>(h.2 p c e).keep k⟩
inductive ziS(x:Str)(params:Arguments)(body:Expr)(scope:Scope):Prop where
 | mk (t:Str) (p1 p2 p3:Pos) (hb:body=.Call (.Name x p1) [.Name t p2] [] p3) (S:zaR [t] [t] scope) (hx:scope.names.lookup x=some .globalImplicit) (pt:(t==("__debug__":Str))=false/\(t==("__classdict__":Str))=false) (px:(x==("__debug__":Str))=false)
   (bind:∀(q:Str) (pm cd ctv:Value) (us:List Value),us.length=1->UA (VE "<lambda>" q params body scope [] pm cd ctv) ⟨us,[]⟩=pure ([t].zip us))
def za6(K:Z7):Option Addr:=match ZS K mainGlobals "law" with
 | some (some (.ref f))=>match K.lookup f with
  |some ⟨_,_,.func fd,_⟩=>match fd.code with
   |.ref c=>some c|_=>none
  |_=>none
 |_=>none
end IT
namespace IT
open PySem PySem.Spec L2
def LsR(K:Z7)(A:Addr->Prop)(H:Hp)(a:Addr)(vs:List V):Prop:=(¬A a/\Rd H a (.lst vs))\/∃(o:Obj) (its:Array Value) (n:Nat),K.lookup a=some o/\o.cls=.type "list"/\o.dict=none/\o.data=.seq its n/\its.size<=sizeLine/\Vals vs its.toList
theorem LsR.sq(q:LsR K A H a vs):SqL K H a vs:=q.imp (λz=>z.2) (λz=>z)
mutual
noncomputable def RepD(K:Z7)(A:Addr->Prop)(H:Hp):D->V->Prop|.non,v=>v=.non|.bl b,v=>v=.bl b|.int i,v=>v=.int i|.str x,v=>v=.str (zaa x)|.tup xs,v=>∃a vs,v=.ref a/\SqT K H a vs/\RepDs K A H xs vs|.lst xs,v=>∃a vs,v=.ref a/\LsR K A H a vs/\RepDs K A H xs vs
noncomputable def RepDs(K:Z7)(A:Addr->Prop)(H:Hp):List D->List V->Prop| [],vs=>vs=[]|x::xs,vs=>∃v r,vs=v::r/\RepD K A H x v/\RepDs K A H xs r
end
section
variable {K:Z7}{A A':Addr->Prop}{H H':Hp}
mutual
theorem RepD.mono(ht:∀a u,Rd H a (.tup u)->Rd H' a (.tup u))(hl:∀a u,¬A a->Rd H a (.lst u)->¬A' a/\Rd H' a (.lst u)):∀(x:D) (v:V),RepD K A H x v->RepD K A' H' x v
 |.non,_,h | .bl _,_,h | .int _,_,h | .str _,_,h=>by
  first
  |(simp only[RepD] at h⊢;exact h)
 |.tup xs,v,h=>by simp only[RepD] at h⊢;obtain⟨a,vs,e,q,r⟩:=h;exact⟨a,vs,e,q.imp (ht a vs) (λz=>z),RepDs.mono ht hl xs vs r⟩|.lst xs,v,h=>by simp only[RepD] at h⊢;obtain⟨a,vs,e,q,r⟩:=h;exact⟨a,vs,e,q.imp (λz=>hl a vs z.1 z.2) (λz=>z),RepDs.mono ht hl xs vs r⟩
theorem RepDs.mono(ht:∀a u,Rd H a (.tup u)->Rd H' a (.tup u))(hl:∀a u,¬A a->Rd H a (.lst u)->¬A' a/\Rd H' a (.lst u)):∀(x:List D) (v:List V),RepDs K A H x v->RepDs K A' H' x v| [],_,h=>by simp only[RepDs] at h⊢;exact h|x::xs,vs,h=>by simp only[RepDs] at h⊢;obtain⟨v,r,e,h1,h2⟩:=h;exact⟨v,r,e,RepD.mono ht hl x v h1,RepDs.mono ht hl xs r h2⟩
end
end
section
variable {K:Z7}{A:Addr->Prop}{H:Hp}
theorem RepDs.length:∀{xs:List D} {vs:List V},RepDs K A H xs vs->xs.length=vs.length| [],vs,h=>by simp only[RepDs] at h;subst h;rfl|x::xs,vs,h=>by simp only[RepDs] at h;obtain⟨v,r,rfl,_,h2⟩:=h;simp only[ZP,h2.length]
theorem RepDs.get:∀{xs:List D} {vs:List V} {i:Nat} {x:D},RepDs K A H xs vs->xs[i]?=some x->∃v,vs[i]?=some v/\RepD K A H x v
 | [],vs,i,x,h,e=>by simp at e
 |y::xs,vs,i,x,h,e=>by
  simp only[RepDs] at h;obtain⟨v,r,rfl,h1,h2⟩:=h
  cases i with|zero=>simp at e;subst e;exact⟨v,rfl,h1⟩|succ i=>simp at e;simpa using h2.get e
theorem RepDs.get':∀{xs:List D} {vs:List V} {i:Nat} {v:V},RepDs K A H xs vs->vs[i]?=some v->∃x,xs[i]?=some x/\RepD K A H x v
 | [],vs,i,v,h,e=>by simp only[RepDs] at h;subst h;simp at e
 |y::xs,vs,i,v,h,e=>by
  simp only[RepDs] at h;obtain⟨w,r,rfl,h1,h2⟩:=h
  cases i with|zero=>simp at e;subst e;exact⟨y,rfl,h1⟩|succ i=>simp at e;simpa using h2.get' e
theorem RepDs.app:∀{xs ys:List D} {vs us:List V},RepDs K A H xs vs->RepDs K A H ys us->RepDs K A H (xs++ys) (vs++us)| [],ys,vs,us,h,h'=>by simp only[RepDs] at h;subst h;simpa using h'|x::xs,ys,vs,us,h,h'=>by simp only[RepDs] at h;obtain⟨v,r,rfl,h1,h2⟩:=h;simp only[XN,RepDs];exact⟨v,r++us,rfl,h1,h2.app h'⟩
theorem RepDs.nil:RepDs K A H [] []:=by simp only[RepDs]
theorem RepDs.cons(h:RepD K A H x v)(h':RepDs K A H xs vs):RepDs K A H (x::xs) (v::vs):=by simp only[RepDs];exact⟨v,vs,rfl,h,h'⟩
theorem RepDs.one(h:RepD K A H x v):RepDs K A H [x] [v]:=.cons h .nil
theorem RepDs.take:∀{xs:List D} {vs:List V} (n:Nat),RepDs K A H xs vs->RepDs K A H (xs.take n) (vs.take n)
 | [],vs,n,h=>by simp only[RepDs] at h;subst h;simpa using RepDs.nil
 |x::xs,vs,n,h=>by
  simp only[RepDs] at h;obtain⟨v,r,rfl,h1,h2⟩:=h
  cases n with|zero=>simpa using RepDs.nil|succ n=>simpa using RepDs.cons h1 (h2.take n)
theorem RepDs.drop:∀{xs:List D} {vs:List V} (n:Nat),RepDs K A H xs vs->RepDs K A H (xs.drop n) (vs.drop n)
 | [],vs,n,h=>by simp only[RepDs] at h;subst h;simpa using RepDs.nil
 |x::xs,vs,n,h=>by
  simp only[RepDs] at h;obtain⟨v,r,rfl,h1,h2⟩:=h
  cases n with|zero=>simpa using RepDs.cons h1 h2|succ n=>simpa using h2.drop n
theorem RepDs.set(hx:RepD K A H x v):∀{xs:List D} {vs:List V} (n:Nat),RepDs K A H xs vs->RepDs K A H (xs.set n x) (vs.set n v)
 | [],vs,n,h=>by simp only[RepDs] at h;subst h;simpa using RepDs.nil
 |y::xs,vs,n,h=>by
  simp only[RepDs] at h;obtain⟨w,r,rfl,h1,h2⟩:=h
  cases n with|zero=>simpa using RepDs.cons hx h2|succ n=>simpa using RepDs.cons h1 (h2.set hx n)
end
def Ob.mut:Ob->Bool|.lst _=>true|.ins _ _=>true|.tab=>true|_=>false
def Live(μ:List Addr)(h:Sto)(a:Addr):Prop:=∃(i:Nat) (o:Ob),μ[i]?=some a/\h[i]?=some o/\o.mut=true
def RepR(K:Z7)(μ:List Addr)(h:Sto)(H:Hp):R->V->Prop|.d x,v=>RepD K (Live μ h) H x v|.loc l,v=>∃a,μ[l]?=some a/\v=.ref a
def RepO(K:Z7)(μ:List Addr)(h:Sto)(H:Hp)(a:Addr):Ob->Prop|.lst xs=>∃vs,H a=some (.lst vs)/\RepDs K (Live μ h) H xs vs|.fro xs=>∃vs,H a=some (.lst vs)/\RepDs K (Live μ h) H xs vs|.ols ls=>∃vs,H a=some (.lst vs)/\Paired (λ(l:Nat) (v:V)=>∃b,μ[l]?=some b/\v=.ref b) ls vs|.ins c fs=>∃C dx fs',(ZS K mainGlobals c=some (some (.ref C))/\Cls K C/\∀p∈fs,zjc K C p.1)/\H a=some (.ins C dx fs')/\Paired (λ(p:Str×R) (q:Str×V)=>p.1=q.1/\RepR K μ h H p.2 q.2) fs fs'|.fnc x=>∃params body scope,ziS x params body scope/\zef H lamQ params body scope a|.tab=>∃ps,H a=some (.tbl ps)/\zcP H lamQ ps/\∃c,za6 K=some c/\Yf K c a=true
structure Rep(K:Z7)(μ:List Addr)(h:Sto)(H:Hp):Prop where
 len:μ.length=h.length
 nd:μ.Nodup
 obj:∀(i:Nat) (a:Addr) (o:Ob),μ[i]?=some a->h[i]?=some o->RepO K μ h H a o
structure Stp(μ:List Addr)(h:Sto)(H:Hp)(μ':List Addr)(h':Sto)(H':Hp):Prop where
 pre:∀(i:Nat) (a:Addr),μ[i]?=some a->μ'[i]?=some a
 keep:∀a o,¬Live μ h a->H a=some o->H' a=some o
 live:∀a,Live μ' h' a->Live μ h a\/H a=none
section
variable {K:Z7}{μ μ' μ2:List Addr}{h h' h2:Sto}{H H' H2:Hp}
theorem RepO.isL(q:RepO K μ h H a o)(l:o.isL=true):∃vs,H a=some (.lst vs)/\RepDs K (Live μ h) H o.items vs:=by
 cases o with|lst xs=>exact q|fro xs=>exact q|ins _ _=>cases l|ols _=>cases l|fnc _=>cases l|tab=>cases l
theorem RepO.some(q:RepO K μ h H a o):∃u,H a=some u:=by
 cases o with|lst xs=>obtain⟨vs,e,_⟩:=q;exact⟨_,e⟩|fro xs=>obtain⟨vs,e,_⟩:=q;exact⟨_,e⟩|ins _ _=>obtain⟨C,dx,fs,_,e,_⟩:=q;exact⟨_,e⟩|ols _=>obtain⟨vs,e,_⟩:=q;exact⟨_,e⟩|fnc _=>obtain⟨_,_,_,_,_,_,_,e,_⟩:=q;exact⟨_,e⟩|tab=>obtain⟨ps,e,_⟩:=q;exact⟨_,e⟩
theorem Rep.liveAt(r:Rep K μ h H)(l:Live μ h a):∃u,H a=some u/\((∃vs,u=.lst vs)\/(∃C dx fs,u=.ins C dx fs)\/(∃kvs,u=.dK kvs)\/(∃kvs,u=.dK kvs)\/∃ps,u=.tbl ps):=by
 obtain⟨i,o,e1,e2,m⟩:=l;have q:=r.obj i a _ e1 e2
 cases o with|lst xs=>obtain⟨vs,e,_⟩:=q;exact⟨_,e,.inl ⟨vs,rfl⟩⟩|fro xs=>cases m|ins _ _=>obtain⟨C,dx,fs,_,e,_⟩:=q;exact⟨_,e,.inr (.inl ⟨C,dx,fs,rfl⟩)⟩|ols _=>cases m|fnc _=>cases m|tab=>obtain⟨ps,e,_⟩:=q;exact⟨_,e,.inr (.inr (.inr (.inr ⟨ps,rfl⟩)))⟩
theorem Rep.notLive(r:Rep K μ h H)(e:H a=some o)(n:∀vs,o≠.lst vs)(n2:∀C dx fs,o≠.ins C dx fs:=by intro _ _ _ z;cases z)(n3:∀kvs,o≠.dK kvs:=by intro _ z;cases z)(n4:∀kvs,o≠.dK kvs:=by intro _ z;cases z)(n5:∀ps,o≠.tbl ps:=by intro _ z;cases z):¬Live μ h a:=λl=>by
 obtain⟨u,q,z⟩:=r.liveAt l;rw[e] at q;cases q
 rcases z with⟨vs,z⟩|⟨C,dx,fs,z⟩|⟨kvs,z⟩|⟨kvs,z⟩|⟨ps,z⟩
 ·exact n vs z
 ·exact n2 C dx fs z
 ·exact n3 kvs z
 ·exact n4 kvs z
 ·exact n5 ps z
theorem Stp.refl:Stp μ h H μ h H:=⟨λ_ _ e=>e,λ_ _ _ e=>e,λ_ l=>.inl l⟩
theorem Stp.trans(s:Stp μ h H μ' h' H')(t:Stp μ' h' H' μ2 h2 H2):Stp μ h H μ2 h2 H2:=by
 have nl:∀a o,¬Live μ h a->H a=some o->¬Live μ' h' a:=λa o n e l=>by
  rcases s.live a l with z | z
  ·exact n z
  ·rw[e] at z;cases z
 refine⟨λi a e=>t.pre i a (s.pre i a e),λa o n e=>t.keep a o (nl a o n e) (s.keep a o n e),λa l=>?_⟩
 rcases t.live a l with z | z
 ·exact s.live a z
 ·by_cases n:Live μ h a
  ·exact .inl n
  ·cases e:H a with|none=>exact .inr rfl|some o=>rw[s.keep a o n e] at z;cases z
theorem Stp.rdT(s:Stp μ h H μ' h' H')(r:Rep K μ h H)(a:Addr)(u:List V)(q:Rd H a (.tup u)):Rd H' a (.tup u):=by
 rcases q with e|⟨o,e⟩
 ·exact .inl (s.keep a _ (r.notLive e (by intro vs z;cases z)) e)
 ·exact .inr ⟨o,s.keep a _ (r.notLive e (by intro vs z;cases z)) e⟩
theorem Stp.rdL(s:Stp μ h H μ' h' H')(a:Addr)(u:List V)(n:¬Live μ h a)(q:Rd H a (.lst u)):¬Live μ' h' a/\Rd H' a (.lst u):=by
 have nl:∀o,H a=some o->¬Live μ' h' a:=λo e l=>by
  rcases s.live a l with z | z
  ·exact n z
  ·rw[e] at z;cases z
 rcases q with e|⟨o,e⟩
 ·exact⟨nl _ e,.inl (s.keep a _ n e)⟩
 ·exact⟨nl _ e,.inr ⟨o,s.keep a _ n e⟩⟩
theorem Stp.lsR(s:Stp μ h H μ' h' H')(q:LsR K (Live μ h) H a u):LsR K (Live μ' h') H' a u:=q.imp (λz=>s.rdL a u z.1 z.2) (λz=>z)
theorem RepD.stp(s:Stp μ h H μ' h' H')(r:Rep K μ h H)(q:RepD K (Live μ h) H x v):RepD K (Live μ' h') H' x v:=RepD.mono (s.rdT r) s.rdL x v q
theorem RepDs.stp(s:Stp μ h H μ' h' H')(r:Rep K μ h H)(q:RepDs K (Live μ h) H x v):RepDs K (Live μ' h') H' x v:=RepDs.mono (s.rdT r) s.rdL x v q
theorem RepR.stp(s:Stp μ h H μ' h' H')(r:Rep K μ h H)(q:RepR K μ h H x v):RepR K μ' h' H' x v:=by
 cases x with|d x=>exact RepD.stp s r q|loc l=>obtain⟨a,e,z⟩:=q;exact⟨a,s.pre l a e,z⟩
theorem Stp.frz(s:Stp μ h H μ' h' H')(r:Rep K μ h H):∀b o u,H b=some (.frz o u)->H' b=some (.frz o u):=λb o u e=>s.keep b _ (r.notLive e (by intro _ z;cases z)) e
theorem RepO.stp(s:Stp μ h H μ' h' H')(r:Rep K μ h H)(e:H' a=H a)(q:RepO K μ h H a o):RepO K μ' h' H' a o:=by
 cases o with|lst xs=>obtain⟨vs,e1,z⟩:=q;exact⟨vs,e.trans e1,RepDs.stp s r z⟩|fro xs=>obtain⟨vs,e1,z⟩:=q;exact⟨vs,e.trans e1,RepDs.stp s r z⟩|ols ls=>obtain⟨vs,e1,z⟩:=q;exact⟨vs,e.trans e1,L2.Paired.mapP z λl v ⟨b,eb,ev⟩=>⟨b,s.pre l b eb,ev⟩⟩|fnc x=>obtain⟨p,b,sc,f,l⟩:=q;exact⟨p,b,sc,f,l.keep (s.frz r)⟩|tab=>obtain⟨ps,e1,g,z⟩:=q;exact⟨ps,e.trans e1,g.keep (s.frz r),z⟩|ins c fs=>obtain⟨C,dx,fs',ec,e1,z⟩:=q;exact⟨C,dx,fs',ec,e.trans e1,L2.Paired.mapP z λp q ⟨ep,eq⟩=>⟨ep,RepR.stp s r eq⟩⟩
theorem Stp.fresh(n:H p=none):Stp μ h H μ h (upd H p o):=⟨λ_ _ e=>e,λa o' _ e=>by rw[zah (zai e n)];exact e,λ_ l=>.inl l⟩
theorem Rep.ne_fresh(r:Rep K μ h H){i:Nat}(n:H p=none)(e1:μ[i]?=some a)(e2:h[i]?=some o):a≠p:=by obtain⟨u,q⟩:=(r.obj i a o e1 e2).some;exact zai q n
theorem Rep.fresh{o:HO}(r:Rep K μ h H)(n:H p=none):Rep K μ h (upd H p o):=⟨r.len,r.nd,λi a ob e1 e2=>RepO.stp (Stp.fresh n) r (zah (r.ne_fresh n e1 e2)) (r.obj i a ob e1 e2)⟩
theorem zfa(hl:μ.length=h.length):Live (μ++[p]) (h++[o]) a↔Live μ h a\/(a=p/\o.mut=true):=by
 constructor
 ·rintro ⟨i,o',e1,e2,e3⟩
  by_cases hi:i<μ.length
  ·rw [ZF hi] at e1
   rw[ZF (by omega)] at e2;exact .inl ⟨i,o',e1,e2,e3⟩
  ·rw [YZ (by omega)] at e1 e2
   have hz:i-μ.length=0:=by
    cases hk:i-μ.length with|zero=>rfl|succ k=>rw[hk] at e1;simp at e1
   rw[hz] at e1;rw[<-hl,hz] at e2;simp at e1 e2;subst e1 e2;exact .inr ⟨rfl,e3⟩
 ·rintro (⟨i,o',e1,e2,e3⟩|⟨rfl,e3⟩)
  ·obtain ⟨h1,_⟩:=Z2.mp e1
   exact⟨i,o',by rw[ZF h1];exact e1,by rw[ZF (by omega)];exact e2,e3⟩
  ·exact⟨μ.length,o,by simp,by rw[hl];simp,e3⟩
theorem Stp.allocO(r:Rep K μ h H)(n:H p=none):Stp μ h H (μ++[p]) (h++[ob]) (upd H p o):=
  ⟨fun i a e=>by rw[ZF (Z2.mp e).1];exact e,λa o' _ e=>by rw[zah (zai e n)];exact e,
   fun a l=>by
    rcases(zfa r.len).mp l with z|⟨rfl,_⟩
    · exact .inl z
    · exact .inr n⟩
theorem Stp.alloc(r:Rep K μ h H)(n:H p=none):Stp μ h H (μ++[p]) (h++[.lst xs]) (upd H p o):=Stp.allocO r n
theorem Rep.allocO{o:Ob}(r:Rep K μ h H)(n:H p=none)(q:RepO K (μ++[p]) (h++[o]) (upd H p u) p o):Rep K (μ++[p]) (h++[o]) (upd H p u):=by
 have st:Stp μ h H (μ++[p]) (h++[o]) (upd H p u):=Stp.allocO r n;refine⟨by simp[r.len],?_,λi a ob e1 e2=>?_⟩
 ·rw [Vh]
  refine⟨r.nd,by simp,λa ha b hb=>?_⟩;simp at hb;subst hb
  rintro rfl
  obtain⟨i,hi,e⟩:=Xr ha
  have hi':i<h.length:=by rw[<-r.len];exact hi
  exact r.ne_fresh n (by rw[Z4 hi,e]) (Z4 hi') rfl
 ·by_cases hi:i<μ.length
  ·rw [ZF hi] at e1
   rw[ZF (by have:=r.len;omega)] at e2
   exact RepO.stp st r (zah (r.ne_fresh n e1 e2)) (r.obj i a ob e1 e2)
  ·rw [YZ (by omega)] at e1
   have hz:i-μ.length=0:=by
    cases hk:i-μ.length with|zero=>rfl|succ k=>rw[hk] at e1;simp at e1
   rw[hz] at e1;simp at e1;subst e1
   have hi2:i=h.length:=by have:=r.len;have:=(Z2.mp e2).1;simp at this;omega
   subst hi2;simp at e2;subst e2;exact q
theorem Rep.alloc(r:Rep K μ h H)(n:H p=none)(q:RepDs K (Live μ h) H xs vs):Rep K (μ++[p]) (h++[.lst xs]) (upd H p (.lst vs)):=r.allocO n ⟨vs,zak,RepDs.stp (Stp.allocO r n) r q⟩
end
end IT
namespace IT
open PySem PySem.Spec L2
def RdD(K:Z7)(A:Addr->Prop)(H:Hp)(x:D)(v:V):Prop:=match x with|.lst xs=>∃a vs,v=.ref a/\SqL K H a vs/\RepDs K A H xs vs|x=>RepD K A H x v
section
variable {K:Z7}{μ μ':List Addr}{h h':Sto}{H H':Hp}
theorem RdD.of{A:Addr->Prop}(q:RepD K A H x v):RdD K A H x v:=by
 cases x with|lst xs=>simp only[RepD] at q;obtain⟨a,vs,e,r,z⟩:=q;exact⟨a,vs,e,r.sq,z⟩|_=>exact q
theorem zez(e:rd (.loc l) h=some (d,h')):∃o,h[l]?=some o/\o.isL=true/\d=.lst o.items/\h'=h:=by
 simp only[rd] at e
 cases ho:h[l]? with
 |none=>rw[ho] at e;cases e
 | some o=>
  rw[ho] at e;simp only at e
  split at e
  ·rename_i il
   simp only[Z3,ZO] at e;exact⟨o,rfl,il,e.1.symm,e.2.symm⟩
  ·cases e
theorem zi3(e:zed x h=some (u,h')):∃l o,x=.loc l/\h[l]?=some o/\o.isL=true/\h'=h:=by
 cases x with
 |d _=>cases e
 | loc l=>
  simp only[zed] at e
  cases ho:h[l]? with
  |none=>rw[ho] at e;cases e
  | some o=>
   rw[ho] at e;simp only at e
   split at e
   ·rename_i il
    simp only[Z3,ZO] at e;exact⟨l,o,rfl,ho,il,e.2.symm⟩
   ·cases e
theorem zaU{r:R}(R0:Rep K μ h H)(q:RepR K μ h H r v)(e:rd r h=some (d,h')):h'=h/\RdD K (Live μ h) H d v:=by
 cases r with
 |d x=>simp only[rd,ok,Z3,ZO] at e;obtain⟨rfl,rfl⟩:=e;exact⟨rfl,RdD.of q⟩
 | loc l=>
  obtain⟨a,ea,rfl⟩:=q;simp only[rd] at e
  cases ho:h[l]? with
  |none=>rw[ho] at e;cases e
  | some o=>
   rw[ho] at e;simp only at e
   split at e
   ·rename_i il
    simp only[Z3,ZO] at e;obtain⟨rfl,rfl⟩:=e;obtain⟨vs,q1,q2⟩:=(R0.obj l a o ea ho).isL il;exact⟨rfl,a,vs,rfl,.inl (.inl q1),q2⟩
   ·cases e
theorem zc9{l:List Addr}(hn:l.Nodup){i j:Nat}(h1:l[i]?=some a)(h2:l[j]?=some a):i=j:=by obtain⟨p1,e1⟩:=Z2.mp h1;obtain⟨p2,e2⟩:=Z2.mp h2;exact(List.getElem_inj hn).mp (e1.trans e2.symm)
theorem zp6(R0:Rep K μ h H)(ho:h[l]?=some o)(il:o.isL=true):Stp μ h H μ (h.set l (.fro o.items)) H/\Rep K μ (h.set l (.fro o.items)) H:=by
 have hl:l<h.length:=(Z2.mp ho).1
 have lv:∀a,Live μ (h.set l (.fro o.items)) a->Live μ h a:=by
  rintro a ⟨i,xs,e1,e2,e3⟩
  by_cases hi:i=l
  ·subst hi
   rw[Zs hl] at e2;cases e2;cases e3
  ·rw [Zr (Za hi)] at e2
   exact⟨i,xs,e1,e2,e3⟩
 have st:Stp μ h H μ (h.set l (.fro o.items)) H:=⟨λ_ _ e=>e,λ_ _ _ e=>e,λa z=>.inl (lv a z)⟩;refine⟨st,by simp[R0.len],R0.nd,λi a ob e1 e2=>?_⟩
 by_cases hi:i=l
 ·subst hi
  rw[Zs hl] at e2;cases e2;obtain⟨vs,q1,q2⟩:=(R0.obj i a o e1 ho).isL il;exact⟨vs,q1,RepDs.stp st R0 q2⟩
 ·rw [Zr (Za hi)] at e2
  exact RepO.stp st R0 rfl (R0.obj i a ob e1 e2)
theorem zlx{r:R}{v:V}(R0:Rep K μ h H)(q:RepR K μ h H r v)(e:fz r h=some (d,h')):Stp μ h H μ h' H/\Rep K μ h' H/\RepD K (Live μ h') H d v:=by
 cases r with
 |d x=>simp only[fz,ok,Z3,ZO] at e;obtain⟨rfl,rfl⟩:=e;exact⟨Stp.refl,R0,q⟩
 | loc l=>
  obtain⟨a,ea,rfl⟩:=q;simp only[fz] at e
  cases ho:h[l]? with
  |none=>rw[ho] at e;cases e
  | some o=>
   rw[ho] at e;simp only at e
   split at e
   ·rename_i il
    simp only[Z3,ZO] at e;obtain⟨rfl,rfl⟩:=e;obtain⟨st,R1⟩:=zp6 R0 ho il;have hl:l<h.length:=(Z2.mp ho).1;obtain⟨vs,q1,q2⟩:=(R0.obj l a o ea ho).isL il;refine⟨st,R1,?_⟩;simp only[RepD];refine⟨a,vs,rfl,.inl ⟨?_,.inl q1⟩,RepDs.stp st R0 q2⟩
    rintro⟨i,xs,e1,e2,e3⟩
    have:=zc9 R0.nd e1 ea
    subst this;rw[Zs hl] at e2;cases e2;cases e3
   ·cases e
theorem zq9{l:Nat}{a:Addr}(R0:Rep K μ h H)(ea:μ[l]?=some a)(ho:h[l]?=some o)(hm:o.mut=true)
  (q:Stp μ h H μ (h.set l o') (upd H a u)->RepO K μ (h.set l o') (upd H a u) a o'):Stp μ h H μ (h.set l o') (upd H a u)/\Rep K μ (h.set l o') (upd H a u):=by
 have hl:l<h.length:=(Z2.mp ho).1;have hla:Live μ h a:=⟨l,o,ea,ho,hm⟩
 have lv:∀b,Live μ (h.set l o') b->Live μ h b:=by
  rintro b ⟨i,zs,e1,e2,e3⟩
  by_cases hi:i=l
  ·subst hi
   exact⟨i,o,e1,ho,hm⟩
  ·rw [Zr (Za hi)] at e2
   exact⟨i,zs,e1,e2,e3⟩
 have st:Stp μ h H μ (h.set l o') (upd H a u):=⟨λ_ _ e=>e,λb o n e=>by rw[zah (λz=>n (by rw[z];exact hla))];exact e,λb z=>.inl (lv b z)⟩
 refine⟨st,by simp[R0.len],R0.nd,λi b ob e1 e2=>?_⟩
 by_cases hi:i=l
 ·subst hi
  rw[ea] at e1;cases e1
  rw[Zs hl] at e2;cases e2;exact q st
 ·rw [Zr (Za hi)] at e2
  exact RepO.stp st R0 (zah (λz:b=a=>hi (zc9 R0.nd e1 (by rw[z];exact ea)))) (R0.obj i b ob e1 e2)
theorem write(R0:Rep K μ h H)(ea:μ[l]?=some a)(ho:h[l]?=some (.lst xs))(q:RepDs K (Live μ h) H ys ws):
  Stp μ h H μ (h.set l (.lst ys)) (upd H a (.lst ws))/\Rep K μ (h.set l (.lst ys)) (upd H a (.lst ws)):=
 zq9 R0 ea ho rfl λst=>⟨ws,zak,RepDs.stp st R0 q⟩
end
theorem zab{α β:Type}{x:M α}{f:α->M β}{h:Sto}{r:β×Sto}:bnd x f h=some r↔∃a h1,x h=some (a,h1)/\f a h1=some r:=by
 unfold bnd
 cases e:x h with
 |none=>simp
 |some p=>
  obtain⟨a,h1⟩:=p
  exact⟨λq=>⟨a,h1,rfl,q⟩,λ⟨a',h1',e',q⟩=>by cases e';exact q⟩
theorem zac{α:Type}{a b:α}{h h':Sto}:ok a h=some (b,h')↔a=b/\h=h':=by simp[ok]
theorem zat{α:Type}{o:Option α}{b:α}{h h':Sto}:opt o h=some (b,h')↔o=some b/\h=h':=by
 unfold opt
 cases o with|none=>simp|some a=>simp
structure RepE(K:Z7)(μ:List Addr)(h:Sto)(H:Hp)(env:IT.Env)(σ:St):Prop where
 len:env.length=σ.length
 get:∀(i:Nat) (r:R),env[i]?=some (some r)->∃v,σ[i]?=some (some v)/\RepR K μ h H r v
inductive zaL(K:Z7)(μ:List Addr)(h:Sto)(H:Hp):List R->List V->Prop where|nil:zaL K μ h H [] []|cons {r:R} {v:V} {rs:List R} {vs:List V}:RepR K μ h H r v->zaL K μ h H rs vs->zaL K μ h H (r::rs) (v::vs)
section
variable {K:Z7}{μ μ':List Addr}{h h':Sto}{H H':Hp}
theorem RepE.stp(s:Stp μ h H μ' h' H')(R0:Rep K μ h H){env:IT.Env}(q:RepE K μ h H env σ):RepE K μ' h' H' env σ:=⟨q.len,λi r e=>let ⟨v,e',z⟩:=q.get i r e;⟨v,e',z.stp s R0⟩⟩
theorem zaL.stp(s:Stp μ h H μ' h' H')(R0:Rep K μ h H){rs:List R}(q:zaL K μ h H rs vs):zaL K μ' h' H' rs vs:=by
 induction q with|nil=>exact .nil|cons a _ ih=>exact .cons (a.stp s R0) ih
theorem zaL.length{rs:List R}(q:zaL K μ h H rs vs):rs.length=vs.length:=by
 induction q with|nil=>rfl|cons _ _ ih=>simp[ih]
theorem RepE.set(q:RepE K μ h H env σ)(i:Nat)(z:RepR K μ h H r v):RepE K μ h H (env.set i (some r)) (σ.set i (some v)):=by
 refine⟨by simp[q.len],λj r' e=>?_⟩
 by_cases hj:j=i
 ·subst hj
  have hl:j<env.length:=by
   have:=(Z2.mp e).1
   simpa using this
  rw[Zs hl] at e;cases e
  exact⟨v,by rw[Zs (by rw[<-q.len];exact hl)],z⟩
 ·rw [Zr (Za hj)] at e⊢
  exact q.get j r' e
theorem zkO:∀{rs:List R} {vs:List V} {ds:List D} {h h':Sto},Rep K μ h H->zaL K μ h H rs vs->rds rs h=some (ds,h')->h'=h/\Paired (RdD K (Live μ h) H) ds vs| [],_,ds,h,h',R0,.nil,e=>by simp only[rds,zac] at e;obtain⟨rfl,rfl⟩:=e;exact⟨rfl,.nil⟩|r::rs,_,ds,h,h',R0,.cons q qs,e=>by simp only[rds,zab,zac] at e;obtain⟨d,h1,e1,ds',h2,e2,rfl,rfl⟩:=e;obtain⟨rfl,z⟩:=zaU R0 q e1;obtain⟨rfl,zs⟩:=zkO R0 qs e2;exact⟨rfl,.cons z zs⟩
theorem zld:∀{rs:List R} {vs:List V} {ds:List D} {h h':Sto},Rep K μ h H->zaL K μ h H rs vs->fzs rs h=some (ds,h')->Stp μ h H μ h' H/\Rep K μ h' H/\RepDs K (Live μ h') H ds vs| [],_,ds,h,h',R0,.nil,e=>by simp only[fzs,zac] at e;obtain⟨rfl,rfl⟩:=e;exact⟨Stp.refl,R0,.nil⟩|r::rs,_,ds,h,h',R0,.cons q qs,e=>by simp only[fzs,zab,zac] at e;obtain⟨d,h1,e1,ds',h2,e2,rfl,rfl⟩:=e;obtain⟨s1,R1,z⟩:=zlx R0 q e1;obtain⟨s2,R2,zs⟩:=zld R1 (qs.stp s1 R0) e2;exact⟨s1.trans s2,R2,.cons (z.stp s2 R1) zs⟩
end
inductive Post{α β:Type}(K:Z7)(μ:List Addr)(h:Sto)(H:Hp)(Rel:List Addr->Sto->Hp->α->β->Prop)(m:Option (α×Sto))(Q:β->Hp->Prop):Prop where|mk (r:α) (h':Sto) (e:m=some (r,h')) (k:∀μ' H' v,Stp μ h H μ' h' H'->Rep K μ' h' H'->Rel μ' h' H' r v->Q v H')
inductive tE(K:Z7)(f:IT.Env->M R)(σ:St)(H:Hp)(Q:VK):Prop where|mk (μ:List Addr) (h:Sto) (env:IT.Env) (R0:Rep K μ h H) (re:RepE K μ h H env σ) (p:Post K μ h H (RepR K) (f env h) Q)
inductive tTv(K:Z7)(f:IT.Env->M Bool)(σ:St)(H:Hp)(Q:Bool->Hp->Prop):Prop where|mk (μ:List Addr) (h:Sto) (env:IT.Env) (R0:Rep K μ h H) (re:RepE K μ h H env σ) (p:Post K μ h H (λ_ _ _ a b=>a=b) (f env h) Q)
inductive tAs(K:Z7)(f:IT.Env->M (List R))(σ:St)(H:Hp)(Q:List V->Hp->Prop):Prop where|mk (μ:List Addr) (h:Sto) (env:IT.Env) (R0:Rep K μ h H) (re:RepE K μ h H env σ) (p:Post K μ h H (zaL K) (f env h) Q)
inductive tLs(K:Z7)(f:IT.Env->M (List D))(σ:St)(H:Hp)(Q:VK):Prop where|mk (μ:List Addr) (h:Sto) (env:IT.Env) (R0:Rep K μ h H) (re:RepE K μ h H env σ) (xs:List D) (h':Sto) (e:f env h=some (xs,h')) (k:∀μ' H' a vs,Stp μ h H μ' h' H'->Rep K μ' h' H'->RepDs K (Live μ' h') H' xs vs->H' a=none->Q (.ref a) (upd H' a (.lst vs)))
abbrev IE(X:Cx)(e:Expr)(f:IT.Env->M R):Prop:=PE X e (tE X.K f)
abbrev IT'(X:Cx)(e:Expr)(f:IT.Env->M Bool):Prop:=PT X e (tTv X.K f)
abbrev IA(X:Cx)(es:List Expr)(f:IT.Env->M (List R)):Prop:=PA X es (tAs X.K f)
abbrev IL(X:Cx)(e:Expr)(f:IT.Env->M (List D)):Prop:=PE X e (tLs X.K f)
theorem PE.imp{X:Cx}(h:PE X e t)(i:∀σ H Q,t' σ H Q->t σ H Q):PE X e t':=λpins s σ H Q I q=>h pins s σ H Q I (i σ H Q q)
theorem PT.imp{X:Cx}(h:PT X e t)(i:∀σ H Q,t' σ H Q->t σ H Q):PT X e t':=λpins s σ H Q I q=>h pins s σ H Q I (i σ H Q q)
theorem PA.imp{X:Cx}(h:PA X e t)(i:∀σ H Q,t' σ H Q->t σ H Q):PA X e t':=λpos pins s σ H Q I q=>h pos pins s σ H Q I (i σ H Q q)
section
variable {X:Cx}{e a b c:Expr}{es:List Expr}{pos:Pos}{f g k:IT.Env->M R}{ft gt:IT.Env->M Bool}
theorem zgj{v:V}(h:PE X e (tC v))(hd:∀A H,RepD X.K A H d v):IE X e (λ_=>ok (.d d)):=by refine PE.imp h λσ H Q q0=>?_;obtain⟨μ,h,env,R0,re,r,h',e,k⟩:=q0;obtain⟨rfl,rfl⟩:=zac.mp e;exact k μ H v Stp.refl R0 (hd _ _)
theorem zjf{i:Nat}(h:PE X e (tVar i)):IE X e (λσ h=>match σ[i]? with | some (some r)=>some (r,h) | _=>none):=by
 refine PE.imp h λσ H Q q0=>?_;obtain⟨μ,h,env,R0,re,r,h',e,k⟩:=q0
 have e2:env[i]?=some (some r)/\h=h':=by
  (try dsimp only at e)
  cases q:env[i]? with
  |none=>rw[q] at e;cases e
  |some o=>
   cases o with|none=>rw[q] at e;cases e|some r'=>rw[q] at e;simp at e;exact⟨by rw[e.1],e.2⟩
 obtain⟨e3,rfl⟩:=e2;obtain⟨v,e4,z⟩:=re.get i r e3;exact⟨v,e4,k μ H v Stp.refl R0 z⟩
inductive OpIQ(K:Z7)(m:R->R->M R)(v u:V)(H:Hp)(Q:VK):Prop where|mk (μ:List Addr) (h:Sto) (x y:R) (R0:Rep K μ h H) (qx:RepR K μ h H x v) (qy:RepR K μ h H y u) (p:Post K μ h H (RepR K) (m x y h) Q)
def OpI(X:Cx)(F:Value->Value->Sem Value)(m:R->R->M R):Prop:=OpR X F λv u H Q=>OpIQ X.K m v u H Q
theorem two{m:R->R->M R}{σ:St}{Q:VK}(q:tE X.K (λσ=>bnd (f σ) λx=>bnd (g σ) λy=>m x y) σ H Q):
  tE X.K f σ H λv H1=>tE X.K g σ H1 λu H2=>OpIQ X.K m v u H2 Q:=by
 obtain⟨μ,h,env,R0,re,r,h',e,k⟩:=q;simp only[zab] at e;obtain⟨x,h1,e1,y,h2,e2,e3⟩:=e
 exact ⟨μ,h,env,R0,re,x,h1,e1,λμ1 H1 v s1 R1 q1=>⟨μ1,h1,env,R1,re.stp s1 R0,y,h2,e2,λμ2 H2 u s2 R2 q2=>⟨μ2,h2,x,y,R2,q1.stp s2 R1,q2,r,h',e3,λμ3 H3 w s3 R3 q3=>k μ3 H3 w ((s1.trans s2).trans s3) R3 q3⟩⟩⟩
theorem zpm{op:U2}(ho:OpI X (YL op) m)(ha:IE X a f)(hb:IE X b g):IE X (.BinOp a op b pos) (λσ=>bnd (f σ) λx=>bnd (g σ) λy=>m x y):=PE.imp (zqI ho ha hb) λσ H Q q=>two q
theorem zqm{op:CmpOp}(ho:OpI X (Y1 op) m)(ha:IE X a f)(hb:IE X b g)(hm:W9 op b=false):IE X (.Compare a [op] [b] pos) (λσ=>bnd (f σ) λx=>bnd (g σ) λy=>m x y):=PE.imp (zkq ho ha hb hm) λσ H Q q=>two q
inductive OpDQ(K:Z7)(g:D->D->Option D)(v u:V)(H:Hp)(Q:VK):Prop where|mk (μ:List Addr) (h:Sto) (a b z:D) (R0:Rep K μ h H) (qa:RdD K (Live μ h) H a v) (qb:RdD K (Live μ h) H b u) (e:g a b=some z) (k:∀μ' H' w,Stp μ h H μ' h H'->Rep K μ' h H'->RepD K (Live μ' h) H' z w->Q w H')
def OpD(X:Cx)(F:Value->Value->Sem Value)(g:D->D->Option D):Prop:=OpR X F λv u H Q=>OpDQ X.K g v u H Q
def mD(g:D->D->Option D)(x y:R):M R:=bnd (rd x) λx=>bnd (rd y) λy=>bnd (opt (g x y)) λz=>ok (.d z)
theorem OpD.opI{F:Value->Value->Sem Value}{g:D->D->Option D}(h:OpD X F g):OpI X F (mD g):=by intro pins s σ H v u v' u' Q I rv ru q;obtain⟨μ,h0,x,y,R0,qx,qy,r,h',e,k⟩:=q;simp only[mD,zab,zac,zat] at e;obtain⟨dx,h1,e1,dy,h2,e2,z,h3,⟨e3,rfl⟩,rfl,rfl⟩:=e;obtain⟨rfl,zx⟩:=zaU R0 qx e1;obtain⟨rfl,zy⟩:=zaU R0 qy e2;exact h pins s σ H v u v' u' Q I rv ru ⟨μ,_,dx,dy,z,R0,zx,zy,e3,λμ' H' w st R1 qw=>k μ' H' w st R1 qw⟩
theorem zpS(h:IE X e f)(he:∀whole,isTrue e X.env whole=(do let v<-whole;Vk e.pos;holding [v] (truthy v))):IT' X e (λσ=>bnd (f σ) λr=>bnd (rd r) λd=>opt (tru d)):=by
 refine PT.imp (zmB h he) λσ H Q q0=>?_;obtain⟨μ,h,env,R0,re,t,h',e,k⟩:=q0;simp only[zab,zat] at e;obtain⟨r,h1,e1,d,h2,e2,e3,rfl⟩:=e;refine⟨μ,h,env,R0,re,r,h1,e1,λμ1 H1 v s1 R1 q1=>?_⟩;obtain⟨rfl,z⟩:=zaU R1 q1 e2;refine⟨t,?_,k μ1 H1 t s1 R1 rfl⟩
 cases d with
 |non=>simp only[RdD,RepD] at z;subst z;simp only[tru,Z3] at e3;exact e3.symm|bl b=>simp only[RdD,RepD] at z;subst z;simp only[tru,Z3] at e3;exact e3.symm|int i=>simp only[RdD,RepD] at z;subst z;simp only[tru,Z3] at e3;exact e3.symm
 | str x=>
  simp only[RdD,RepD] at z;subst z;simp only[tru] at e3
  split at e3
  ·rename_i hf
   simp only[Z3] at e3
   refine⟨by rw[zag];exact of_decide_eq_true hf,?_⟩
   rw[<-e3,zag]
   cases x<;>simp
   omega
  ·cases e3
 |tup xs=>
  simp only[RdD,RepD] at z;obtain⟨a,vs,rfl,q,zs⟩:=z;simp only[tru,Z3] at e3;refine .inr (.inl ⟨vs,q,?_⟩);rw[<-e3]
  have:=zs.length
  cases xs<;>cases vs<;>simp_all
 |lst xs=>
  obtain⟨a,vs,rfl,q,zs⟩:=z;simp only[tru,Z3] at e3;refine .inl ⟨vs,q,?_⟩;rw[<-e3]
  have:=zs.length
  cases xs<;>cases vs<;>simp_all
theorem zpd{op:CmpOp}{m:R->R->M R}(ho:OpI X (Y1 op) m)(ha:IE X a f)(hb:IE X b g)(hm:W9 op b=false)(hbl:∀x y h r h',m x y h=some (r,h')->∃t,r=.d (.bl t)):
  IT' X (.Compare a [op] [b] pos) (λσ=>bnd (bnd (f σ) λx=>bnd (g σ) λy=>m x y) λr=>bnd (rd r) λd=>opt (tru d)):=by
 refine PT.imp (znZ ho ha hb hm) λσ H Q q0=>?_;obtain⟨μ,h,env,R0,re,t,h',e,k⟩:=q0;simp only[zab,zat] at e;obtain⟨r,h1,⟨x,h2,e1,y,h3,e2,e3⟩,d,h4,e4,e5,rfl⟩:=e;obtain⟨t',rfl⟩:=hbl _ _ _ _ _ e3;simp only[rd,zac] at e4;obtain⟨rfl,rfl⟩:=e4;simp only[tru,Z3] at e5;subst e5
 refine two (m:=m) ⟨μ,h,env,R0,re,.d (.bl t'),h1,by simp only[zab];exact⟨x,h2,e1,y,h3,e2,e3⟩,λμ1 H1 v s1 R1 q1=>?_⟩
 simp only[RepR,RepD] at q1;subst q1;exact⟨t',rfl,k μ1 H1 t' s1 R1 rfl⟩
theorem zni{rest:List Expr}{tb:TT}(ha:IT' X a ft)(hb:PW X (.BoolOp .And (b::rest) pos) (tTv X.K gt)):PW X (.BoolOp .And (a::b::rest) pos) (tTv X.K λσ=>bnd (ft σ) λt=>if t then gt σ else ok false):=by
 intro whole pins s σ H Q I q;refine zpE ha hb whole pins s σ H Q I ?_;obtain⟨μ,h,env,R0,re,t,h',e,k⟩:=q;simp only[zab] at e;obtain⟨u,h1,e1,e2⟩:=e;refine⟨μ,h,env,R0,re,u,h1,e1,λμ1 H1 v s1 R1 hv=>?_⟩;subst hv
 cases u with|true=>rw[if_pos rfl] at e2;rw[if_pos rfl];exact⟨μ1,h1,env,R1,re.stp s1 R0,t,h',e2,λμ2 H2 v s2 R2 hv=>k μ2 H2 v (s1.trans s2) R2 hv⟩|false=>rw[if_neg (by decide)] at e2;rw[if_neg (by decide)];obtain⟨rfl,rfl⟩:=zac.mp e2;exact k μ1 H1 _ s1 R1 rfl
theorem zpH{rest:List Expr}(ha:IT' X a ft)(hb:PW X (.BoolOp .Or (b::rest) pos) (tTv X.K gt)):PW X (.BoolOp .Or (a::b::rest) pos) (tTv X.K λσ=>bnd (ft σ) λt=>if t then ok true else gt σ):=by
 intro whole pins s σ H Q I q;refine zn0 ha hb whole pins s σ H Q I ?_;obtain⟨μ,h,env,R0,re,t,h',e,k⟩:=q;simp only[zab] at e;obtain⟨u,h1,e1,e2⟩:=e;refine⟨μ,h,env,R0,re,u,h1,e1,λμ1 H1 v s1 R1 hv=>?_⟩;subst hv
 cases u with|false=>rw[if_neg (by decide)] at e2;rw[if_neg (by decide)];exact⟨μ1,h1,env,R1,re.stp s1 R0,t,h',e2,λμ2 H2 v s2 R2 hv=>k μ2 H2 v (s1.trans s2) R2 hv⟩|true=>rw[if_pos rfl] at e2;rw[if_pos rfl];obtain⟨rfl,rfl⟩:=zac.mp e2;exact k μ1 H1 _ s1 R1 rfl
theorem zpI(ha:IT' X a ft):IT' X (.UnaryOp .Not a pos) (λσ=>bnd (ft σ) λt=>ok (!t)):=by refine PT.imp (zkr ha) λσ H Q q0=>?_;obtain⟨μ,h,env,R0,re,t,h',e,k⟩:=q0;simp only[zab,zac] at e;obtain⟨u,h1,e1,rfl,rfl⟩:=e;refine⟨μ,h,env,R0,re,u,h1,e1,λμ1 H1 v s1 R1 hv=>?_⟩;subst hv;exact k μ1 H1 _ s1 R1 rfl
theorem zm2{rest:List Expr}(ha:IE X a f)(hb:IE X (.BoolOp .And (b::rest) pos) g):IE X (.BoolOp .And (a::b::rest) pos) (λσ=>bnd (f σ) λx=>match x with | .d (.bl c)=>if c then g σ else ok (.d (.bl false)) | _=>λ_=>none):=by
 refine PE.imp (znd ha hb) λσ H Q q0=>?_;obtain⟨μ,h,env,R0,re,r,h',e,k⟩:=q0;simp only[zab] at e;obtain⟨x,h1,e1,e2⟩:=e;refine⟨μ,h,env,R0,re,x,h1,e1,λμ1 H1 v s1 R1 q1=>?_⟩
 cases x with
 |loc l=>cases e2
 | d d=>
  cases d with
  | bl c=>
   simp only[RepR,RepD] at q1;refine⟨c,q1,?_⟩
   cases c with|true=>simp only[if_true] at e2⊢;exact⟨μ1,h1,env,R1,re.stp s1 R0,r,h',e2,λμ2 H2 v s2 R2 hv=>k μ2 H2 v (s1.trans s2) R2 hv⟩|false=>simp only[Z1,if_false] at e2⊢;obtain⟨rfl,rfl⟩:=zac.mp e2;exact k μ1 H1 _ s1 R1 (by simp only[RepR,RepD])
  |_=>cases e2
theorem zrb{rest:List Expr}(ha:IE X a f)(hb:IE X (.BoolOp .Or (b::rest) pos) g):IE X (.BoolOp .Or (a::b::rest) pos) (λσ=>bnd (f σ) λx=>match x with | .d (.bl c)=>if c then ok (.d (.bl true)) else g σ | _=>λ_=>none):=by
 refine PE.imp (znY ha hb) λσ H Q q0=>?_;obtain⟨μ,h,env,R0,re,r,h',e,k⟩:=q0;simp only[zab] at e;obtain⟨x,h1,e1,e2⟩:=e;refine⟨μ,h,env,R0,re,x,h1,e1,λμ1 H1 v s1 R1 q1=>?_⟩
 cases x with
 |loc l=>cases e2
 | d d=>
  cases d with
  | bl c=>
   simp only[RepR,RepD] at q1;refine⟨c,q1,?_⟩
   cases c with|false=>simp only[Z1,if_false] at e2⊢;exact⟨μ1,h1,env,R1,re.stp s1 R0,r,h',e2,λμ2 H2 v s2 R2 hv=>k μ2 H2 v (s1.trans s2) R2 hv⟩|true=>simp only[if_true] at e2⊢;obtain⟨rfl,rfl⟩:=zac.mp e2;exact k μ1 H1 _ s1 R1 (by simp only[RepR,RepD])
  |_=>cases e2
theorem zkT{pins:List (Addr×Obj)}{d:D}{v:V}{u:Value}{b:Bool}{Q:Bool->Shared->Prop}{E:Value->Shared->Prop}(I:Inv X pins σ H s)(q:RdD X.K A0 H d v)(r:RelV v u)(e:tru d=some b)(k:∀tk,Q b {s with toks:=tk}):
  wpAny (model X.prog X.w) A (truthy u) Q E s:=by
 have hl:=zdZ;have hs:sizeLine=16777216:=Zg
 cases d with
 |non=>
  simp only[RdD,RepD] at q;subst q;cases r
  simp only[tru,Z3] at e;subst e
  exact PyProof.Rows.truthy_none (k s.toks)
 |bl c=>
  simp only[RdD,RepD] at q;subst q;cases r
  simp only[tru,Z3] at e;subst e
  exact X6 (k s.toks)
 |int i=>
  simp only[RdD,RepD] at q;subst q
  obtain⟨t,rfl⟩:=r
  simp only[tru,Z3] at e;subst e
  exact PySem.P.truthy_int (k s.toks)
 | str x=>
  simp only[RdD,RepD] at q;subst q
  obtain⟨t,rfl⟩:=r;simp only[tru] at e
  split at e
  ·rename_i hf
   simp only[Z3] at e;have hx:x.length<=big:=of_decide_eq_true hf;unfold big at hx
   refine PySem.P.truthy_str (by rw[zag];omega) ?_
   have e2:(((zaa x).length:Int) != 0)=b:=by
    rw[<-e,zag]
    cases x<;>simp
    omega
   rw[e2];exact k _
  ·cases e
 | tup xs=>
  simp only[RdD,RepD] at q;obtain⟨a,vs,rfl,q,zs⟩:=q;cases r;simp only[tru,Z3] at e;obtain⟨its,ri,pl,hz⟩:=I.tuple q;have hlen:=ri.length;have h1:=zs.length
  refine PyProof.Rows.truthy_tuple pl (by simp only[ZV];omega) ?_
  have e2:(!its.toArray.isEmpty)=b:=by
   rw[zbC ri,<-e];clear hlen ri pl q hz
   cases xs<;>cases vs<;>first | rfl | (simp at h1)
  rw[e2];exact k _
 | lst xs=>
  obtain⟨a,vs,rfl,q,zs⟩:=q;cases r;simp only[tru,Z3] at e;obtain⟨its,ri,pl,hz⟩:=I.list q;have hlen:=ri.length;have h1:=zs.length
  refine wpAny_truthy_list pl.isList (by simp only[ZV];omega) ?_
  have e2:(!its.toArray.isEmpty)=b:=by
   rw[zbC ri,<-e];clear hlen ri pl q hz
   cases xs<;>cases vs<;>first | rfl | (simp at h1)
  rw[e2];exact k _
theorem zqv(ha:IE X a f):IE X (.UnaryOp .Not a pos) (λσ=>bnd (f σ) λx=>bnd (rd x) λd=>bnd (opt (tru d)) λt=>ok (.d (.bl (!t)))):=by
 intro pins s σ H Q I q0;obtain⟨μ,h,env,R0,re,r,h',e,k⟩:=q0;simp only[zab,zat,zac] at e;obtain⟨x,h1,e1,d,h2,e2,t,h3,⟨e3,rfl⟩,rfl,rfl⟩:=e
 have z:=ha pins s σ H (λy H1=>∃A0 d,RdD X.K A0 H1 d y/\tru d=some t/\Q (.bl (!t)) H1) I ⟨μ,h,env,R0,re,x,h1,e1,λμ1 H1 v s1 R1 q1=>by
  obtain⟨rfl,z⟩:=zaU R1 q1 e2
  exact⟨_,d,z,e3,k μ1 H1 _ s1 R1 (by simp only[RepR,RepD])⟩⟩
 refine PyProof.Rows.UnaryOp_ (thn z λv s1 ⟨y,H1,I1,r1,A0,d',z1,z2,q1⟩=>PyProof.Rows.not_of ?_);exact zkT I1 z1 r1 z2 λtk=>⟨.bl (!t),H1,I1.tok _,rfl,q1⟩
theorem zqT(hc:IT' X c ft)(ha:IE X a f)(hb:IE X b g):IE X (.IfExp c a b pos) (λσ=>bnd (ft σ) λt=>if t then f σ else g σ):=by
 refine PE.imp (zmy hc ha hb) λσ H Q q0=>?_;obtain⟨μ,h,env,R0,re,r,h',e,k⟩:=q0;simp only[zab] at e;obtain⟨t,h1,e1,e2⟩:=e;refine⟨μ,h,env,R0,re,t,h1,e1,λμ1 H1 v s1 R1 hv=>?_⟩;subst hv
 cases t with|true=>simp only[if_true] at e2⊢;exact⟨μ1,h1,env,R1,re.stp s1 R0,r,h',e2,λμ2 H2 v s2 R2 hv=>k μ2 H2 v (s1.trans s2) R2 hv⟩|false=>simp only[Z1,if_false] at e2⊢;exact⟨μ1,h1,env,R1,re.stp s1 R0,r,h',e2,λμ2 H2 v s2 R2 hv=>k μ2 H2 v (s1.trans s2) R2 hv⟩
theorem zjo:IA X [] (λ_=>ok []):=by refine PA.imp za1 λσ H Q q0=>?_;obtain⟨μ,h,env,R0,re,r,h',e,k⟩:=q0;obtain⟨rfl,rfl⟩:=zac.mp e;exact k μ H [] Stp.refl R0 .nil
theorem zg6{fs:IT.Env->M (List R)}(ha:IE X e f)(hr:IA X es fs)(hs:ZT (e::es) X.env=(false,eval e X.env)::ZT es X.env):IA X (e::es) (λσ=>bnd (f σ) λr=>bnd (fs σ) λrs=>ok (r::rs)):=by refine PA.imp (zax ha hr hs) λσ H Q q0=>?_;obtain⟨μ,h,env,R0,re,r,h',e,k⟩:=q0;simp only[zab,zac] at e;obtain⟨x,h1,e1,xs,h2,e2,rfl,rfl⟩:=e;exact⟨μ,h,env,R0,re,x,h1,e1,λμ1 H1 v s1 R1 q1=>⟨μ1,h1,env,R1,re.stp s1 R0,xs,h2,e2,λμ2 H2 vs s2 R2 q2=>k μ2 H2 (v::vs) (s1.trans s2) R2 (.cons (q1.stp s2 R1) q2)⟩⟩
theorem zp2{n:Nat}{fs:IT.Env->M (List R)}(h:IA X es fs)(hl:es.length<=1000)(hf:∀σ h rs h',fs σ h=some (rs,h')->rs.length=es.length):IE X (.Tuple es n pos) (λσ=>bnd (fs σ) λrs=>bnd (fzs rs) λds=>ok (.d (.tup ds))):=by
 refine PE.imp (zps h) λσ H Q q0=>?_;obtain⟨μ,h,env,R0,re,r,h',e,k⟩:=q0;simp only[zab,zac] at e;obtain⟨rs,h1,e1,ds,h2,e2,rfl,rfl⟩:=e;refine⟨μ,h,env,R0,re,rs,h1,e1,λμ1 H1 vs s1 R1 q1=>⟨?_,λp hp=>?_⟩⟩
 ·rw [<-q1.length,hf _ _ _ _ e1]
  have:(1000:Nat)<=sizeLine:=by decide
  omega
 ·obtain ⟨s2,R2,q2⟩:=zld R1 q1 e2
  have s3:Stp μ1 h2 H1 μ1 h2 (upd H1 p (.tup vs)):=Stp.fresh hp;refine k μ1 _ (.ref p) ((s1.trans s2).trans s3) (R2.fresh hp) ?_;simp only[RepR,RepD];exact⟨p,vs,rfl,SqT.of zak,RepDs.stp s3 R2 q2⟩
theorem zn1{fs:IT.Env->M (List R)}(h:IA X es fs)(hl:es.length<=1000)(hf:∀σ h rs h',fs σ h=some (rs,h')->rs.length=es.length):IL X (.List es pos) (λσ=>bnd (fs σ) λrs=>fzs rs):=by
 refine PE.imp (zqM h) λσ H Q q0=>?_;obtain⟨μ,h,env,R0,re,ds,h',e,k⟩:=q0;simp only[zab] at e;obtain⟨rs,h1,e1,e2⟩:=e;refine⟨μ,h,env,R0,re,rs,h1,e1,λμ1 H1 vs s1 R1 q1=>⟨?_,λp hp=>?_⟩⟩
 ·rw [<-q1.length,hf _ _ _ _ e1]
  have:(1000:Nat)<=sizeLine:=by decide
  omega
 ·obtain ⟨s2,R2,q2⟩:=zld R1 q1 e2
  exact k μ1 H1 p vs (s1.trans s2) R2 q2 hp
theorem zeF{fl:IT.Env->M (List D)}(m:Bool)(h:IL X e fl):IE X e (λσ=>bnd (fl σ) λxs=>if m then alloc xs else ok (.d (.lst xs))):=by
 refine PE.imp h λσ H Q q0=>?_;obtain⟨μ,h,env,R0,re,r,h',e,k⟩:=q0;simp only[zab] at e;obtain⟨xs,h1,e1,e2⟩:=e;refine⟨μ,h,env,R0,re,xs,h1,e1,λμ1 H1 a vs s1 R1 q1 ha=>?_⟩
 cases m with
 |true=>simp only[if_true,alloc,Z3,ZO] at e2;obtain⟨rfl,rfl⟩:=e2;refine k (μ1++[a]) _ (.ref a) (s1.trans (Stp.alloc R1 ha)) (R1.alloc ha q1) ⟨a,?_,rfl⟩;rw[<-R1.len];simp
 |false=>
  simp only[Z1,if_false] at e2;obtain⟨rfl,rfl⟩:=zac.mp e2;have s2:Stp μ1 h1 H1 μ1 h1 (upd H1 a (.lst vs)):=Stp.fresh ha;refine k μ1 _ (.ref a) (s1.trans s2) (R1.fresh ha) ?_;simp only[RepR,RepD];refine⟨a,vs,rfl,.inl ⟨λl=>?_,.inl zak⟩,RepDs.stp s2 R1 q1⟩;obtain⟨ws,z,_⟩:=R1.liveAt l
  rw[ha] at z;cases z
end
end IT
namespace IT
open PySem PySem.Spec L2
section
variable {K:Z7}{A0:Addr->Prop}{H:Hp}
theorem ze2(x y:List Nat):(zaa x==zaa y)=(x==y):=by
 by_cases e:x=y
 ·subst e;simp
 ·rw[beq_eq_false_iff_ne.mpr e,beq_eq_false_iff_ne.mpr (λz=>e (zb1 z))]
structure zaY(X:Cx)(s:Shared)(H:Hp):Prop where
 lst:∀a vs,SqL X.K H a vs->∃its:List Value,Vals vs its/\s.heap.IsList a its.toArray
 tup:∀a vs,SqT X.K H a vs->∃its:List Value,Vals vs its/\s.heap.IsTuple a its.toArray
theorem zaV(I:Inv X pins σ H s):zaY X s H:=⟨λa vs q=>let ⟨its,r,p,_⟩:=I.list q;⟨its,r,p.isList⟩,λa vs q=>let ⟨its,r,p,_⟩:=I.tuple q;⟨its,r,p⟩⟩
theorem zcc{α:Type}(xs ys:List α)(f:α->α->Bool)(hl:xs.length=ys.length)(e:Nat->Bool)(he:∀(j:Nat) (x y:α),xs[j]?=some x->ys[j]?=some y->e j=f x y):
  (ZA xs.length).all e=(xs.zip ys).all λp=>f p.1 p.2:=by
 rw[X0,ZQ,ZQ];constructor
 ·intro h p hp
  obtain⟨j,hj,e1⟩:=Xr hp
  have hj':j<xs.length/\j<ys.length:=by simp at hj;omega
  have e2:p=(xs[j]'hj'.1,ys[j]'hj'.2):=by rw[<-e1,List.getElem_zip]
  rw[e2,<-he j _ _ (Z4 hj'.1) (Z4 hj'.2)];exact h j (by simpa using hj'.1)
 ·intro h j hj
  have hj1:j<xs.length:=by simpa using hj
  have hj2:j<ys.length:=by omega
  rw[he j _ _ (Z4 hj1) (Z4 hj2)];refine h (xs[j],ys[j]) ?_;rw[List.mem_iff_getElem]
  exact⟨j,by simp;omega,by simp⟩
theorem zb9:∀xs ys:List D,xs.length=ys.length->D.eqbs xs ys=(xs.zip ys).all λp=>p.1.eqb p.2| [],[],_=>rfl|x::xs,y::ys,h=>by simp only[D.eqbs,Wz,Vb];rw[zb9 xs ys (by simpa using h)]
theorem zcl:∀xs ys:List D,xs.length≠ys.length->D.eqbs xs ys=false| [],[],h=>absurd rfl h| [],_::_,_=>rfl|_::_,[],_=>rfl|x::xs,y::ys,h=>by simp only[D.eqbs];rw[zcl xs ys (by simpa using h),W3]
theorem zmo(r:Vals vs its)(e:vs[j]?=some v)(h:j<its.length):RelV v its[j]:=by obtain⟨u,e1,r1⟩:=r.get e;rw[Z4 h] at e1;cases e1;exact r1
mutual
theorem D.eqb_refl:∀x:D,x.eqb x=true|.non=>rfl|.bl a=>by simp[D.eqb]|.int a=>by simp[D.eqb]|.str a=>by simp[D.eqb]|.tup a=>by simp only[D.eqb];exact D.eqbs_refl a|.lst a=>by simp only[D.eqb];exact D.eqbs_refl a
theorem D.eqbs_refl:∀x:List D,D.eqbs x x=true| []=>rfl|a::r=>by simp only[D.eqbs,Z8];exact⟨D.eqb_refl a,D.eqbs_refl r⟩
end
section
variable {X:Cx}{s:Shared}
theorem zjq(S:zaY X s H)(q:SqT X.K H a vs)(q':SqT X.K H a ws):vs=ws:=by
 obtain⟨its,ri,o,h1,_,_,h2⟩:=S.tup a vs q;obtain⟨its',ri',o',h1',_,_,h2'⟩:=S.tup a ws q'
 rw[h1] at h1';cases h1';rw[h2] at h2';cases h2'
 exact Vals.inj ri ri'
theorem zi7(S:zaY X s H)(q:SqL X.K H a vs)(q':SqL X.K H a ws):vs=ws:=by
 obtain⟨its,ri,o,h1,_,_,h2⟩:=S.lst a vs q;obtain⟨its',ri',o',h1',_,_,h2'⟩:=S.lst a ws q'
 rw[h1] at h1';cases h1';rw[h2] at h2';cases h2'
 exact Vals.inj ri ri'
theorem zj1(S:zaY X s H)(q:SqL X.K H a vs)(q':SqT X.K H a ws):False:=by obtain⟨its,ri,p⟩:=S.lst a vs q;obtain⟨its',ri',p'⟩:=S.tup a ws q';exact SeqAt.ne_of_list_tuple p p' rfl
mutual
theorem RepD.inj(S:zaY X s H):∀(x y:D) (v:V),RepD X.K A0 H x v->RepD X.K A0 H y v->x=y
 |.non,y,v,qx,qy=>by
  simp only[RepD] at qx;subst qx
  cases y<;>simp_all [RepD]
 |.bl c,y,v,qx,qy=>by
  simp only[RepD] at qx;subst qx
  cases y<;>simp_all [RepD]
 |.int c,y,v,qx,qy=>by
  simp only[RepD] at qx;subst qx
  cases y<;>simp_all [RepD]
 |.str c,y,v,qx,qy=>by
  simp only[RepD] at qx;subst qx
  cases y with|str b=>simp only[RepD,V.str.injEq] at qy;rw[zb1 qy]|_=>simp[RepD] at qy
 | .tup c,y,v,qx,qy=>by
  simp only[RepD] at qx;obtain⟨a,vs,rfl,q,zs⟩:=qx
  cases y with|tup b=>simp only[RepD] at qy;obtain⟨a',vs',e,q',zs'⟩:=qy;cases e;have e2:=zjq S q q';subst e2;rw[RepDs.inj S c b vs zs zs']|lst b=>simp only[RepD] at qy;obtain⟨a',vs',e,q',zs'⟩:=qy;cases e;exact(zj1 S q'.sq q).elim|_=>simp[RepD] at qy
 | .lst c,y,v,qx,qy=>by
  simp only[RepD] at qx;obtain⟨a,vs,rfl,q,zs⟩:=qx
  cases y with|lst b=>simp only[RepD] at qy;obtain⟨a',vs',e,q',zs'⟩:=qy;cases e;have e2:=zi7 S q.sq q'.sq;subst e2;rw[RepDs.inj S c b vs zs zs']|tup b=>simp only[RepD] at qy;obtain⟨a',vs',e,q',zs'⟩:=qy;cases e;exact(zj1 S q.sq q').elim|_=>simp[RepD] at qy
theorem RepDs.inj(S:zaY X s H):∀(x y:List D) (v:List V),RepDs X.K A0 H x v->RepDs X.K A0 H y v->x=y
 | [],y,v,qx,qy=>by
  simp only[RepDs] at qx;subst qx
  cases y with|nil=>rfl|cons _ _=>have:=qy.length;simp at this
 | x::xs,y,v,qx,qy=>by
  simp only[RepDs] at qx;obtain⟨w,ws,rfl,q1,q2⟩:=qx
  cases y with|nil=>have:=qy.length;simp at this|cons y ys=>simp only[RepDs] at qy;obtain⟨w',ws',e,q1',q2'⟩:=qy;cases e;rw[RepD.inj S x y w q1 q1',RepDs.inj S xs ys ws q2 q2']
end
end
def zaH(xs ys:List D)(j:Nat):Bool:=match xs[j]?,ys[j]? with|some x,some y=>x.eqb y|_,_=>false
section
variable {X:Cx}{s:Shared}
inductive Vw(X:Cx)(s:Shared)(H:Hp)(A0:Addr->Prop):D->Value->Prop where|non:Vw X s H A0 .non .none|bl (b:Bool):Vw X s H A0 (.bl b) (.bool b)|int (b:Int) (t:Tok):Vw X s H A0 (.int b) (.int b t)|str (b:List Nat) (t:Tok):Vw X s H A0 (.str b) (.str (zaa b) t)|tup (c:List D) (a:Addr) (vs:List V) (its:List Value) (q:SqT X.K H a vs) (zs:RepDs X.K A0 H c vs) (ri:Vals vs its) (p:s.heap.IsTuple a its.toArray):Vw X s H A0 (.tup c) (.ref a)|lst (c:List D) (a:Addr) (vs:List V) (its:List Value) (q:SqL X.K H a vs) (zs:RepDs X.K A0 H c vs) (ri:Vals vs its) (p:s.heap.IsList a its.toArray):Vw X s H A0 (.lst c) (.ref a)
theorem vw(S:zaY X s H)(q:RdD X.K A0 H x v)(r:RelV v u):Vw X s H A0 x u:=by
 cases x with|non=>simp only[RdD,RepD] at q;subst q;cases r;exact .non|bl b=>simp only[RdD,RepD] at q;subst q;cases r;exact .bl b|int b=>simp only[RdD,RepD] at q;subst q;obtain⟨t,rfl⟩:=r;exact .int b t|str b=>simp only[RdD,RepD] at q;subst q;obtain⟨t,rfl⟩:=r;exact .str b t|tup c=>simp only[RdD,RepD] at q;obtain⟨a,vs,rfl,q,zs⟩:=q;cases r;obtain⟨its,ri,p⟩:=S.tup a vs q;exact .tup c a vs its q zs ri p|lst c=>obtain⟨a,vs,rfl,q,zs⟩:=q;cases r;obtain⟨its,ri,p⟩:=S.lst a vs q;exact .lst c a vs its q zs ri p
theorem zfh(zs:RepDs X.K A0 H c vs)(zt:RepDs X.K A0 H b ws)(ri:Vals vs us)(rj:Vals ws ts):((ZA (min us.toArray.size ts.toArray.size)).all (zaH c b)&&us.toArray.size==ts.toArray.size)=D.eqbs c b:=by
 have l1:=zs.length;have l2:=zt.length;have l3:=ri.length;have l4:=rj.length
 by_cases hl:c.length=b.length
 ·have hm:min us.toArray.size ts.toArray.size=c.length:=by simp;omega
  rw[hm,zb9 c b hl,zcc c b (λx y=>x.eqb y) hl (zaH c b) (λj x y h1 h2=>by simp[zaH,h1,h2])]
  have:(us.toArray.size==ts.toArray.size)=true:=by simp;omega
  rw[this,V5]
 ·rw [zcl c b hl]
  have:(us.toArray.size==ts.toArray.size)=false:=by simp;omega
  rw[this,W3]
mutual
theorem znb(S:zaY X s H):∀(x y:D) (A:Around) (v w:V) (u t:Value),RdD X.K A0 H x v->RdD X.K A0 H y w->RelV v u->RelV w t->A.units+min x.dep y.dep<cLine->X2 A s u t (x.eqb y)
 |.non,y,A,v,w,_,_,qx,qy,ru,rt,hu=>by
  cases vw S qx ru with | non=>
  cases vw S qy rt with|non=>exact .same _|bl b=>exact .none_bool b|int b t=>exact .none_int b t|str b t=>exact .none_str _ t|tup _ _ _ _ _ _ _ p=>exact .none_tuple p (by omega)|lst _ _ _ _ _ _ _ p=>exact .none_list p (by omega)
 |.bl c,y,A,v,w,_,_,qx,qy,ru,rt,hu=>by
  cases vw S qx ru with | bl=>
  cases vw S qy rt with|non=>exact .bool_none c|bl b=>exact .bool_bool c b|int b t=>exact .bool_int c b t|str b t=>exact .bool_str c _ t|tup _ _ _ _ _ _ _ p=>exact .bool_tuple c p (by omega)|lst _ _ _ _ _ _ _ p=>exact .bool_list c p (by omega)
 |.int c,y,A,v,w,_,_,qx,qy,ru,rt,hu=>by
  cases vw S qx ru with | int _ u=>
  cases vw S qy rt with|non=>exact .int_none c u|bl b=>exact .int_bool c u b|int b t=>exact .int_int c u b t|str b t=>exact .int_str c u _ t|tup _ _ _ _ _ _ _ p=>exact .int_tuple c u p (by omega)|lst _ _ _ _ _ _ _ p=>exact .int_list c u p (by omega)
 |.str c,y,A,v,w,_,_,qx,qy,ru,rt,hu=>by
  cases vw S qx ru with | str _ u=>
  cases vw S qy rt with|non=>exact .str_none _ u|bl b=>exact .str_bool _ u b|int b t=>exact .str_int _ u b t|str b t=>have z:=X2.str_str (A:=A) (s:=s) (zaa c) u (zaa b) t;rw[ze2] at z;exact z|tup _ _ _ _ _ _ _ p=>exact .str_tuple _ u p (by omega)|lst _ _ _ _ _ _ _ p=>exact .str_list _ u p (by omega)
 | .tup c,y,A,v,w,_,_,qx,qy,ru,rt,hu=>by
  have hu0:A.units<cLine:=by omega
  cases vw S qx ru with | tup _ a vs its q zs ri p=>
  cases vw S qy rt with
  |non=>exact .tuple_none p hu0|bl b=>exact .tuple_bool b p hu0|int b t=>exact .tuple_int b t p hu0|str b t=>exact .tuple_str _ t p hu0|lst _ _ _ _ _ _ _ p'=>exact .tuple_list p p' hu0
  | tup b a' vs' its' q' zs' ri' p'=>
   have key:=pairs_D S c b A.in1 vs vs' its its' zs zs' ri ri' (by
    show A.units+1+_<cLine;simp only[D.dep] at hu
    omega)
   by_cases hab:a=a'
   ·subst hab
    have e2:=zjq S q q';subst e2;have e1:=RepDs.inj S c b vs zs zs';subst e1;refine(show D.eqb (.tup c) (.tup c)=true from D.eqb_refl _)▸X2.same _
   ·refine X2.of_refs hab ?_
    have:=Xc.tuples (e:=zaH c b) p p' hu0 (λj h1 h2=>by
     have:=key j (by simpa using h1) (by simpa using h2)
     simpa using this)
    rw[zfh zs zs' ri ri'] at this;exact this
 | .lst c,y,A,v,w,_,_,qx,qy,ru,rt,hu=>by
  have hu0:A.units<cLine:=by omega
  cases vw S qx ru with | lst _ a vs its q zs ri p=>
  cases vw S qy rt with
  |non=>exact .list_none p hu0|bl b=>exact .list_bool b p hu0|int b t=>exact .list_int b t p hu0|str b t=>exact .list_str _ t p hu0|tup _ _ _ _ _ _ _ p'=>exact .list_tuple p p' hu0
  | lst b a' vs' its' q' zs' ri' p'=>
   have key:=pairs_D S c b A.in1 vs vs' its its' zs zs' ri ri' (by
    show A.units+1+_<cLine;simp only[D.dep] at hu
    omega)
   by_cases hab:a=a'
   ·subst hab
    have e2:=zi7 S q q';subst e2;have e1:=RepDs.inj S c b vs zs zs';subst e1;refine(show D.eqb (.lst c) (.lst c)=true from D.eqb_refl _)▸X2.same _
   ·refine X2.of_refs hab ?_
    show Xc A s _ _ (D.eqbs c b);have l1:=zs.length;have l2:=zs'.length;have l3:=ri.length;have l4:=ri'.length
    by_cases hl:c.length=b.length
    ·have:=Xc.lists (e:=zaH c b) p p' (by simp;omega) hu0 (λj h1 h2=>by
      have:=key j (by simpa using h1) (by simpa using h2)
      simpa using this)
     have hm:its.toArray.size=c.length:=by simp;omega
     rw[hm,zcc c b (λx y=>x.eqb y) hl (zaH c b) (λj x y h1 h2=>by simp[zaH,h1,h2]),<-zb9 c b hl] at this;exact this
    ·rw [zcl c b hl]
     exact Xc.lists_lengths p p' (by simp;omega) hu0
theorem pairs_D(S:zaY X s H):∀(xs ys:List D) (A:Around) (vs ws:List V) (us ts:List Value),RepDs X.K A0 H xs vs->RepDs X.K A0 H ys ws->Vals vs us->Vals ws ts->A.units+min (D.deps xs) (D.deps ys)<cLine →
  ∀(j:Nat) (h1:j<us.length) (h2:j<ts.length),X2 A s us[j] ts[j] (zaH xs ys j)
 | [],ys,A,vs,ws,us,ts,qx,qy,ru,rt,hu,j,h1,h2=>by have l1:=qx.length;have l2:=ru.length;rw[YH] at l1;omega
 | x :: xs,ys,A,vs,ws,us,ts,qx,qy,ru,rt,hu,j,h1,h2=>by
  rw[RepDs] at qx;obtain⟨v,vs,rfl,qx1,qx2⟩:=qx
  cases ru with
  | cons ru1 ru2=>
   cases ys with
   |nil=>have l1:=qy.length;have l2:=rt.length;rw[YH] at l1;omega
   | cons y ys=>
    rw[RepDs] at qy;obtain⟨w,ws,rfl,qy1,qy2⟩:=qy
    cases rt with
    | cons rt1 rt2=>
     simp only[D.deps] at hu
     cases j with
     |zero=>simp only[List.getElem_cons_zero,zaH,YX];exact znb S x y A v w _ _ (RdD.of qx1) (RdD.of qy1) ru1 rt1 (by omega)
     |succ j=>
      simp only[Wm]
      have:=pairs_D S xs ys A vs ws _ _ qx2 qy2 ru2 rt2 (by omega) j (by simpa using h1) (by simpa using h2)
      simpa only[zaH,X4] using this
end
end
end
end IT
namespace PySem
open Sem (wp)
open Builtin AutoSeq1
theorem zhp(l:Addr)(items:Array Value)(n:Nat)(dd:Option Addr)(sl:Array (Option Value))(b:Addr)(items2:Array Value)(n2:Nat)(dd2:Option Addr)(sl2:Array (Option Value))(hc0:items.size+items2.size<=sizeLine):
  Meets (Zb.«list.__add__» ⟨[.ref l,.ref b],[]⟩) (λ_ R s=>s.heap.get? l=some {cls:=.type "list",dict:=dd,data:=.seq items n,slots:=sl}/\s.heap.get? b=some {cls:=.type "list",dict:=dd2,data:=.seq items2 n2,slots:=sl2}/\R (.ok (.ret (ZD s.heap.objs.size))) {s with heap:=s.heap.push {cls:=Yi "list",data:=Data.seq (items++items2)}}):=
 .of_wp λprog w A R s h=>by obtain⟨hp,g,d,tk,os⟩:=s;obtain⟨hl,hb,h⟩:=h;have f1:=idx_int;have f2:=sub_tuple_tuple;have f3:=sub_list_list;have f4:=sub_tuple_list;have f5:=sub_list_tuple;wp_walk using WG hl,WG hb;exact⟨_,rfl,h⟩
end PySem
namespace IT
open PySem PySem.Spec L2
section
variable {X:Cx}
theorem zko:OpR X (YL .Add) (λx y H Q=>∃l b xs zs,x=.ref l/\y=.ref b/\SqL X.K H l xs/\SqL X.K H b zs/\xs.length+zs.length<=sizeLine/\∀p,H p=none->Q (.ref p) (upd H p (.lst (xs++zs)))):=by
 intro pins s σ H x y v u Q I rx ry h;obtain⟨l,b,xs,zs,rfl,rfl,hH,hB,hz,q⟩:=h;cases rx;cases ry;obtain⟨its,r,⟨o,n,e,hc,hd,hs⟩,_⟩:=I.list hH;obtain⟨its2,r2,⟨o2,n2,e2,hc2,hd2,hs2⟩,_⟩:=I.list hB;have hl:=r.length;have hl2:=r2.length;obtain⟨cls,dd,data,sl⟩:=o;obtain⟨cls2,dd2,data2,sl2⟩:=o2;simp only at hc hd hs hc2 hd2 hs2;subst hc hd hs hc2 hd2 hs2
 refine concat_meets ⟨_,e,rfl⟩ ⟨_,e2,rfl⟩ noFill_list_add seq_list_add F.slot_list_add F.entry_list_add (F.args_list_add_2 _ _) (zhp l its.toArray n none sl b its2.toArray n2 none sl2 (by rw[ZV,ZV];omega)) ⟨e,e2,?_⟩
 have ea:its.toArray++its2.toArray=(its++its2).toArray:=by simp
 rw[ea]
 exact⟨.ref _,_,I.lnew (t':=s.toks) (r.append r2) (by rw[Zw];omega),rfl,q _ I.fresh⟩
end
end IT
namespace IT
open PySem PySem.Spec L2
open PySem.StrLaws Builtin.Str
theorem zdO(x y:List Nat)(i:Nat):At (zaa x) (zaa y) (zaa x).length i↔(i+y.length<=x.length/\y.isPrefixOf (x.drop i)=true):=by
 unfold At subAt;rw[zag,zag,beq_toList]
 have e:((zaa x).cps.extract i (i+y.length)).toList=(x.drop i).take y.length:=by simp[zaa,List.extract_eq_take_drop]
 rw[e,YK,List.prefix_iff_eq_take];simp only[zaa,beq_iff_eq];constructor
 ·rintro⟨h1,h2⟩;exact⟨h1,h2.symm⟩
 ·rintro⟨h1,h2⟩;exact⟨h1,h2.symm⟩
theorem zg3{x y:List Nat}{i:Nat}(hy:y≠[])(h:y.isPrefixOf (x.drop i)=true):i+y.length<=x.length:=by have h1:=(YK.mp h).length_le;have h2:0<y.length:=WR.mpr hy;simp at h1;omega
theorem ze9{y:List Nat}:∀{x:List Nat} {i:Nat},i<=x.length->y.isPrefixOf (x.drop i)=true->(∀k,k<i->¬y.isPrefixOf (x.drop k)=true)->fnd y x=some i
 | [],i,hi,h,hn=>by
  have e:i=0:=by simpa using hi
  subst e;simp only[fnd];rw[if_pos (by simpa using h)]
 |c::r,0,hi,h,hn=>by simp only[fnd];rw[if_pos (by simpa using h)]|c::r,i+1,hi,h,hn=>by simp only[fnd];rw[if_neg (by simpa using hn 0 (by omega)),ze9 (x:=r) (i:=i) (by simpa using hi) (by simpa using h) (λk hk=>by simpa using hn (k+1) (by omega))]
theorem fnd_none{y:List Nat}:∀{x:List Nat},(∀k,k<=x.length->¬y.isPrefixOf (x.drop k)=true)->fnd y x=none| [],hn=>by simp only[fnd];rw[if_neg (by simpa using hn 0 (by simp))]|c::r,hn=>by simp only[fnd];rw[if_neg (by simpa using hn 0 (by simp)),fnd_none (x:=r) (λk hk=>by simpa using hn (k+1) (by simpa using hk))]
theorem zgS{x y:List Nat}(limit:Nat)(hl:1<=limit):(fnd y x=none/\occurrences (zaa x) (zaa y) 0 (zaa x).length limit=[])\/∃i r,fnd y x=some i/\i+y.length<=x.length/\occurrences (zaa x) (zaa y) 0 (zaa x).length limit=i::r:=by
 have fits:∀k,k<=x.length->y.isPrefixOf (x.drop k)=true->k+y.length<=x.length:=λk hk h=>by have h1:=(YK.mp h).length_le;simp at h1;omega
 rcases occ_head (zaa x) (zaa y) limit hl with⟨e,hn⟩|⟨i,r,e,h,hn⟩
 ·exact .inl ⟨fnd_none λk hk h=>hn k ((zdO x y k).mpr ⟨fits k hk h,h⟩),e⟩
 ·have h':=(zdO x y i).mp h
  refine .inr ⟨i,r,ze9 (by omega) h'.2 (λk hk q=>hn k hk ((zdO x y k).mpr ⟨fits k (by omega) q,q⟩)),h'.1,e⟩
theorem zm0(x y:List Nat):(!(occurrences (zaa x) (zaa y) 0 (zaa x).length 1).isEmpty)=(fnd y x).isSome:=by
 rcases zgS (x:=x) (y:=y) 1 (by omega) with⟨e1,e2⟩|⟨i,r,e1,_,e2⟩
 ·rw[e1,e2];rfl
 ·rw[e1,e2];rfl
theorem zhJ(x:List Nat)(i j:Nat):strSub (zaa x) i j=zaa ((x.drop i).take (j-i)):=by
 have:=strSub_toList (zaa x) i j
 have e:strSub (zaa x) i j=zaa (strSub (zaa x) i j).cps.toList:=rfl;rw[e,this];simp[zaa]
theorem zki{y x:List Nat}(n:Nat)(h:fnd y x=none):splS y n x=[x]:=by
 cases n with|zero=>rfl|succ n=>simp[splS,h]
theorem zfR{x y:List Nat}(hy:y≠[]):∀(cuts:List Nat) (a f n:Nat),a<=x.length->ChainG (zaa x) (zaa y) (zaa x).length a cuts f->(∀k,f<=k->¬At (zaa x) (zaa y) (zaa x).length k)->x.length-a<=n →
  partsFrom (zaa x) (zaa y).length a cuts=(splS y n (x.drop a)).map zaa
 | [],a,f,n,ha,h,hn,hl=>by
  have e:f=a:=h;subst e
  have e2:fnd y (x.drop f)=none:=fnd_none λk hk q=>by rw[VD] at q;exact hn (f+k) (by omega) ((zdO x y _).mpr ⟨zg3 hy q,q⟩)
  rw[zki n e2];simp only[partsFrom,Zz,UQ,zhJ,zag];rw[YF (by simp)]
 | c :: r,a,f,n,ha,h,hn,hl=>by
  obtain⟨h1,h2,h3,h4⟩:=h;have h2':=(zdO x y c).mp h2;have hy':0<y.length:=WR.mpr hy
  have e2:fnd y (x.drop a)=some (c-a):=by
   refine ze9 (by simp;omega) ?_ λk hk q=>?_
   ·rw[VD,show a+(c-a)=c by omega];exact h2'.2
   ·rw [VD] at q
    exact h3 (a+k) (by omega) (by omega) ((zdO x y _).mpr ⟨zg3 hy q,q⟩)
  rw[zag y] at h4
  cases n with|zero=>omega|succ n=>simp only[splS,e2,partsFrom,Zz,VD,zhJ];rw[zag y,show a+(c-a+y.length)=c+y.length by omega];rw[<-zfR hy r (c+y.length) f n h2'.1 h4 hn (by omega),zag y]
theorem znI{x y:List Nat}(h:∀c∈y,c∈x):Yn (zaa y)<=Yn (zaa x):=by
 have mono:∀n,(zaa x).cps.all (·<n)=true->(zaa y).cps.all (·<n)=true:=by intro n hx;simp[zaa] at hx⊢;intro c hc;exact hx c (h c hc)
 unfold Yn
 by_cases h1:(zaa x).cps.all (·<256)=true
 ·rw[if_pos h1,if_pos (mono _ h1)];omega
 ·rw [if_neg h1]
  by_cases h2:(zaa x).cps.all (·<65536)=true
  ·rw[if_pos h2,if_pos (mono _ h2)];split<;>omega
  ·rw [if_neg h2];split
   ·omega
   ·split<;>omega
theorem zpp{x y:List Nat}(hy:y≠[])(h:(decide ((zaa x).length<(zaa y).length)||decide (Yn (zaa x)<Yn (zaa y)))=true):fnd y x=none:=by refine fnd_none λk hk q=>?_;have h1:=zg3 hy q;have hp:=YK.mp q;have h2:=znI (x:=x) (y:=y) λc hc=>W2 (hp.subset hc);simp[zag] at h;omega
theorem ssi(lo hi:Option Int)(n:Nat):strSliceIndices lo hi 1 n=(ZA (HT.sIx n n hi-HT.sIx n 0 lo)).map λk=>HT.sIx n 0 lo+k:=by
 have clip:∀v:Int,(max 0 (min (if v<0 then v+(n:Int) else v) (n:Int)))=(((if v<0 then(v+(n:Int)).toNat else min v.toNat n):Nat):Int):=by
  intro v
  by_cases hv:v<0
  ·simp only[if_pos hv];omega
  ·simp only[if_neg hv];omega
 have rng:∀i j:Nat,sliceRange (i:Int) (j:Int) 1=(ZA (j-i)).map λk=>i+k:=by
  intro i j;unfold sliceRange
  have h1:(1:Int)>0:=by omega
  simp only[h1,if_true,Int.ediv_one]
  have e:(if(i:Int)<(j:Int) then(j:Int)-i+1-1 else 0).toNat=j-i:=by split<;>omega
  rw[e];refine List.map_congr_left λk _=>?_;omega
 unfold strSliceIndices
 have h1:(1:Int)>0:=by omega
 simp only[h1,if_true]
 cases lo with
 |none=>
  cases hi with|none=>exact rng 0 n|some u=>simp only[clip];exact rng 0 _
 |some l=>
  cases hi with|none=>simp only[clip];exact rng _ n|some u=>simp only[clip];exact rng _ _
theorem pick_run(x:List Nat)(i:Nat):∀k,i+k<=x.length->(((ZA k).map λm=>i+m).filterMap λj=>x[j]?)=(x.drop i).take k
 |0,_=>by simp
 |k+1,h=>by
  rw[List.range_succ,XF,List.filterMap_append,pick_run x i k (by omega),List.take_succ]
  congr 1
  have hx:i+k<x.length:=by omega
  simp[Z4 hx]
theorem zkm(x:List Nat)(lo hi:Option Int):Txt.slice (zaa x) lo hi=zaa (cut x lo hi):=by
 have eI:∀n d o,sIx n d o=HT.sIx n d o:=λn d o=>by cases o<;>rfl
 unfold Txt.slice cut;rw[zag,ssi,eI,eI];have h1:=HT.sIx_le x.length x.length (ZZ _) hi;have h2:=HT.sIx_le x.length 0 (Y3 _) lo;generalize HT.sIx x.length x.length hi=j at *;generalize HT.sIx x.length 0 lo=i at *
 have e:((List.map (λk=>i+k) (ZA (j-i))).filterMap λk=>(zaa x).cps[k]?)=(x.drop i).take (j-i):=by
  have:=pick_run x i (j-i)
  by_cases hij:i<=j
  ·simpa[zaa] using this (by omega)
  ·have z:j-i=0:=by omega
   rw[z];simp
 split
 ·rename_i hc
  have hl:j-i=x.length:=by simpa using hc
  rw[hl]
  by_cases hn:x.length=0
  ·have:x=[]:=List.length_eq_zero_iff.mp hn
   subst this;simp
  ·have:i=0:=by omega
   subst this;simp
 ·rw[e];rfl
section
variable {A0:Addr->Prop}{H:Hp}{X:Cx}{s:Shared}
theorem zqD(S:zaY X s H)(x y:D)(A:Around)(v w:V)(u t:Value)(qx:RdD X.K A0 H x v)(qy:RdD X.K A0 H y w)(ru:RelV v u)(rt:RelV w t)(hu:A.units+min x.dep y.dep<cLine):Xc A s u t (x.eqb y):=by
 have hu0:A.units<cLine:=by omega
 cases vw S qx ru with
 |non=>
  cases vw S qy rt with|non=>exact .none_none|bl b=>exact .none_bool b|int b t=>exact .none_int b t|str b t=>exact .none_str _ t|tup _ _ _ _ _ _ _ p=>exact .none_tuple p hu0|lst _ _ _ _ _ _ _ p=>exact .none_list p hu0
 |bl c=>
  cases vw S qy rt with|non=>exact .bool_none c|bl b=>exact .bool_bool c b|int b t=>exact .bool_int c b t|str b t=>exact .bool_str c _ t|tup _ _ _ _ _ _ _ p=>exact .bool_tuple c p hu0|lst _ _ _ _ _ _ _ p=>exact .bool_list c p hu0
 |int c u=>
  cases vw S qy rt with|non=>exact .int_none c u|bl b=>exact .int_bool c u b|int b t=>exact .int_int c u b t|str b t=>exact .int_str c u _ t|tup _ _ _ _ _ _ _ p=>exact .int_tuple c u p hu0|lst _ _ _ _ _ _ _ p=>exact .int_list c u p hu0
 |str c u=>
  cases vw S qy rt with|non=>exact .str_none _ u|bl b=>exact .str_bool _ u b|int b t=>exact .str_int _ u b t|str b t=>have z:=Xc.str_str (A:=A) (s:=s) (zaa c) u (zaa b) t;rw[ze2] at z;exact z|tup _ _ _ _ _ _ _ p=>exact .str_tuple _ u p hu0|lst _ _ _ _ _ _ _ p=>exact .str_list _ u p hu0
 | tup c a vs its q zs ri p=>
  cases vw S qy rt with
  |non=>exact .tuple_none p hu0|bl b=>exact .tuple_bool b p hu0|int b t=>exact .tuple_int b t p hu0|str b t=>exact .tuple_str _ t p hu0|lst _ _ _ _ _ _ _ p'=>exact .tuple_list p p' hu0
  |tup b a' vs' its' q' zs' ri' p'=>
   have key:=pairs_D S c b A.in1 vs vs' its its' zs zs' ri ri' (by show A.units+1+_<cLine;simp only[D.dep] at hu;omega)
   have:=Xc.tuples (e:=zaH c b) p p' hu0 (λj h1 h2=>by have:=key j (by simpa using h1) (by simpa using h2);simpa using this)
   rw[zfh zs zs' ri ri'] at this;exact this
 | lst c a vs its q zs ri p=>
  cases vw S qy rt with
  |non=>exact .list_none p hu0|bl b=>exact .list_bool b p hu0|int b t=>exact .list_int b t p hu0|str b t=>exact .list_str _ t p hu0|tup _ _ _ _ _ _ _ p'=>exact .list_tuple p p' hu0
  | lst b a' vs' its' q' zs' ri' p'=>
   have key:=pairs_D S c b A.in1 vs vs' its its' zs zs' ri ri' (by show A.units+1+_<cLine;simp only[D.dep] at hu;omega)
   have l1:=zs.length;have l2:=zs'.length;have l3:=ri.length;have l4:=ri'.length
   show Xc A s _ _ (D.eqbs c b)
   by_cases hl:c.length=b.length
   ·have:=Xc.lists (e:=zaH c b) p p' (by simp;omega) hu0 (λj h1 h2=>by have:=key j (by simpa using h1) (by simpa using h2);simpa using this)
    have hm:its.toArray.size=c.length:=by simp;omega
    rw[hm,zcc c b (λx y=>x.eqb y) hl (zaH c b) (λj x y h1 h2=>by simp[zaH,h1,h2]),<-zb9 c b hl] at this;exact this
   ·rw [zcl c b hl]
    exact Xc.lists_lengths p p' (by simp;omega) hu0
theorem zlq(S:zaY X s H)(x y:D)(A:Around)(v w:V)(u t:Value)(qx:RdD X.K A0 H x v)(qy:RdD X.K A0 H y w)(ru:RelV v u)(rt:RelV w t)(hu:A.units+min x.dep y.dep<cLine):Wl A s u t (!x.eqb y):=by
 have hu0:A.units<cLine:=by omega
 cases vw S qx ru with
 |non=>
  cases vw S qy rt with|non=>exact .none_none|bl b=>exact .none_bool b|int b t=>exact .none_int b t|str b t=>exact .none_str _ t|tup _ _ _ _ _ _ _ p=>exact .none_tuple p hu0|lst _ _ _ _ _ _ _ p=>exact .none_list p hu0
 |bl c=>
  cases vw S qy rt with|non=>exact .bool_none c|bl b=>exact .bool_bool c b|int b t=>exact .bool_int c b t|str b t=>exact .bool_str c _ t|tup _ _ _ _ _ _ _ p=>exact .bool_tuple c p hu0|lst _ _ _ _ _ _ _ p=>exact .bool_list c p hu0
 |int c u=>
  cases vw S qy rt with|non=>exact .int_none c u|bl b=>exact .int_bool c u b|int b t=>exact .int_int c u b t|str b t=>exact .int_str c u _ t|tup _ _ _ _ _ _ _ p=>exact .int_tuple c u p hu0|lst _ _ _ _ _ _ _ p=>exact .int_list c u p hu0
 |str c u=>
  cases vw S qy rt with|non=>exact .str_none _ u|bl b=>exact .str_bool _ u b|int b t=>exact .str_int _ u b t|str b t=>have z:=Wl.str_str (A:=A) (s:=s) (zaa c) u (zaa b) t;rw[ze2] at z;exact z|tup _ _ _ _ _ _ _ p=>exact .str_tuple _ u p hu0|lst _ _ _ _ _ _ _ p=>exact .str_list _ u p hu0
 | tup c a vs its q zs ri p=>
  cases vw S qy rt with
  |non=>exact .tuple_none p hu0|bl b=>exact .tuple_bool b p hu0|int b t=>exact .tuple_int b t p hu0|str b t=>exact .tuple_str _ t p hu0|lst _ _ _ _ _ _ _ p'=>exact .tuple_list p p' hu0
  |tup b a' vs' its' q' zs' ri' p'=>
   have key:=pairs_D S c b A.in1 vs vs' its its' zs zs' ri ri' (by show A.units+1+_<cLine;simp only[D.dep] at hu;omega)
   have:=Wl.tuples (e:=zaH c b) p p' hu0 (λj h1 h2=>by have:=key j (by simpa using h1) (by simpa using h2);simpa using this)
   rw[zfh zs zs' ri ri'] at this;exact this
 | lst c a vs its q zs ri p=>
  cases vw S qy rt with
  |non=>exact .list_none p hu0|bl b=>exact .list_bool b p hu0|int b t=>exact .list_int b t p hu0|str b t=>exact .list_str _ t p hu0|tup _ _ _ _ _ _ _ p'=>exact .list_tuple p p' hu0
  | lst b a' vs' its' q' zs' ri' p'=>
   have key:=pairs_D S c b A.in1 vs vs' its its' zs zs' ri ri' (by show A.units+1+_<cLine;simp only[D.dep] at hu;omega)
   have l1:=zs.length;have l2:=zs'.length;have l3:=ri.length;have l4:=ri'.length
   show Wl A s _ _ (!D.eqbs c b)
   by_cases hl:c.length=b.length
   ·have:=Wl.lists (e:=zaH c b) p p' (by simp;omega) hu0 (λj h1 h2=>by have:=key j (by simpa using h1) (by simpa using h2);simpa using this)
    have hm:its.toArray.size=c.length:=by simp;omega
    rw[hm,zcc c b (λx y=>x.eqb y) hl (zaH c b) (λj x y h1 h2=>by simp[zaH,h1,h2]),<-zb9 c b hl] at this;exact this
   ·rw [zcl c b hl]
    exact Wl.lists_lengths p p' (by simp;omega) hu0
end
section
variable {X:Cx}
theorem zlu:OpR X (YL .Add) (λx y H Q=>∃a b ys,x=.ref a/\y=.ref b/\SqT X.K H a []/\SqT X.K H b ys/\Q (.ref b) H):=by
 intro pins s σ H x y v u Q I rx ry h;obtain⟨a,b,ys,rfl,rfl,ha,hb,q⟩:=h
 cases rx;cases ry
 obtain⟨its,r1,p1,_⟩:=I.tuple ha;obtain⟨its2,r2,p2,_⟩:=I.tuple hb;have hi:its=[]:=r1.nil_iff.mpr rfl;subst hi;obtain⟨⟨cls,dd,data,sl⟩,ho,hc,n,hd⟩:=id p1;obtain⟨⟨cls2,dd2,data2,sl2⟩,ho2,hc2,n2,hd2⟩:=id p2;simp only at hc hd hc2 hd2;subst hc hd hc2 hd2;refine PySem.concat_meets ⟨_,ho,rfl⟩ ⟨_,ho2,rfl⟩ PySem.noFill_tuple_add PySem.seq_tuple_add Wo Wv (WP _ _) (PyProof.Rows.tuple_addW0 a b _ its2.toArray n n2 dd dd2 sl sl2 ?_) ⟨ho,ho2,?_⟩
 ·rfl
 ·exact⟨.ref b,H,I,rfl,q⟩
theorem zkh(h1:0<=i)(h2:0<=j):Wq i j=((i.toNat &&& j.toNat:Nat):Int):=by unfold Wq;rw[decide_eq_true h1,decide_eq_true h2]
theorem zmt(h1:0<=i)(h2:0<=j):U7 i j=((i.toNat ||| j.toNat:Nat):Int):=by unfold U7 Wq Zb.bitNot;rw[decide_eq_false (show ¬0<=-i-1 by omega),decide_eq_false (show ¬0<=-j-1 by omega)];simp only;rw[show-(-i-1)-1=i by omega,show-(-j-1)-1=j by omega];omega
theorem zlP:OpD X (YL .BitAnd) (bop .band):=by
 intro pins s σ H v u v' u' Q I rv ru q;obtain⟨μ,h,a,b,z,R0,qa,qb,e,k⟩:=q
 cases a with
 | int i=>
  cases b with
  | int j=>
   simp only[RdD,RepD] at qa qb
   (change (if _=true then _ else _)=some _ at e;simp only[Z8,decide_eq_true_eq] at e)
   split at e
   ·rename_i hf
    cases e
    exact zqn pins s σ H v u v' u' Q I rv ru ⟨i,j,qa,qb,by show Q (V.int (Wq i j)) H;rw[zkh hf.1 hf.2];exact k μ H _ Stp.refl R0 (by simp only[RepD])⟩
   ·cases e
  |_=>exact zad e
 |_=>cases b<;>exact zad e
theorem zoe:OpD X (YL .BitOr) (bop .bor):=by
 intro pins s σ H v u v' u' Q I rv ru q;obtain⟨μ,h,a,b,z,R0,qa,qb,e,k⟩:=q
 cases a with
 | int i=>
  cases b with
  | int j=>
   simp only[RdD,RepD] at qa qb
   (change (if _=true then _ else _)=some _ at e;simp only[Z8,decide_eq_true_eq] at e)
   split at e
   ·rename_i hf
    cases e
    exact zrm pins s σ H v u v' u' Q I rv ru ⟨i,j,qa,qb,by show Q (V.int (U7 i j)) H;rw[zmt hf.1 hf.2];exact k μ H _ Stp.refl R0 (by simp only[RepD])⟩
   ·cases e
  |_=>exact zad e
 |_=>cases b<;>exact zad e
theorem zn3:OpD X (YL .Add) (bop .add):=by
 intro pins s σ H v u v' u' Q I rv ru q;obtain⟨μ,h,a,b,z,R0,qa,qb,e,k⟩:=q
 cases a with
 | int i=>
  cases b with|int j=>simp only[RdD,RepD] at qa qb;replace e:=ZY e;subst e;exact zpv pins s σ H v u v' u' Q I rv ru ⟨i,j,qa,qb,k μ H _ Stp.refl R0 (by simp only[RepD])⟩|_=>exact zad e
 | str x=>
  cases b with
  | str y=>
   simp only[RdD,RepD] at qa qb;change (if _=true then _ else _)=some _ at e
   split at e
   ·rename_i hf
    cases e
    exact ziC pins s σ H v u v' u' Q I rv ru ⟨zaa x,zaa y,qa,qb,by rw[zag,zag];exact of_decide_eq_true hf,by rw[zjO];exact k μ H _ Stp.refl R0 (by simp only[RepD])⟩
   ·cases e
  |_=>exact zad e
 | tup xs=>
  cases b with
  | tup ys=>
   simp only[RdD,RepD] at qa qb;obtain⟨p,vs,rfl,q1,z1⟩:=qa;obtain⟨p',vs',rfl,q2,z2⟩:=qb;change (if _=true then _ else _)=some _ at e
   split at e
   ·rename_i hf
    cases e;have l1:=z1.length;have l2:=z2.length;have hlen:xs.length+ys.length<=sizeLine:=of_decide_eq_true hf
    by_cases hv:vs=[]
    ·subst hv
     have hx:xs=[]:=by cases xs with | nil=>rfl | cons _ _=>simp at l1
     subst hx
     exact zlu pins s σ H _ _ v' u' Q I rv ru ⟨p,p',vs',rfl,rfl,q1,q2,k μ H _ Stp.refl R0 (by simp only[RepD];exact⟨p',vs',rfl,q2,z2⟩)⟩
    refine zoK pins s σ H _ _ v' u' Q I rv ru ⟨p,p',vs,vs',rfl,rfl,q1,q2,hv,by omega,λhn=>?_,λ_ r hr=>?_⟩
    ·subst hn
     cases ys with
     |nil=>
      rw[Ym] at k
      exact k μ H _ Stp.refl R0 (by simp only[RepD];exact⟨p,vs,rfl,q1,z1⟩)
     |cons _ _=>simp at l2
    ·have s2:Stp μ h H μ h (upd H r (.tup (vs++vs'))):=Stp.fresh hr
     refine k μ _ (.ref r) s2 (R0.fresh hr) ?_;simp only[RepD];exact⟨r,vs++vs',rfl,SqT.of zak,RepDs.stp s2 R0 (z1.app z2)⟩
   ·cases e
  |_=>exact zad e
 | lst xs=>
  cases b with
  | lst ys=>
   obtain⟨p,vs,rfl,q1,z1⟩:=qa;obtain⟨p',vs',rfl,q2,z2⟩:=qb;change (if _=true then _ else _)=some _ at e
   split at e
   ·rename_i hf
    cases e;have l1:=z1.length;have l2:=z2.length;have hlen:xs.length+ys.length<=sizeLine:=of_decide_eq_true hf;refine zko pins s σ H _ _ v' u' Q I rv ru ⟨p,p',vs,vs',rfl,rfl,q1,q2,by omega,λr hr=>?_⟩;have s2:Stp μ h H μ h (upd H r (.lst (vs++vs'))):=Stp.fresh hr;refine k μ _ (.ref r) s2 (R0.fresh hr) ?_;simp only[RepD];refine⟨r,vs++vs',rfl,.inl ⟨λl=>?_,.inl zak⟩,RepDs.stp s2 R0 (z1.app z2)⟩;obtain⟨ws,w,_⟩:=R0.liveAt l
    rw[hr] at w;cases w
   ·cases e
  |_=>exact zad e
 |_=>cases b<;>exact zad e
theorem zo4:OpD X (YL .Pow) (bop .pow):=by
 intro pins s σ H v u v' u' Q I rv ru q;obtain⟨μ,h,a,b,z,R0,qa,qb,e,k⟩:=q
 cases a with
 | int i=>
  cases b with
  | int j=>
   simp only[RdD,RepD] at qa qb;change (if _=true then _ else _)=some _ at e
   split at e
   ·rename_i hf
    simp only[Z8] at hf;cases e;exact zqi pins s σ H v u v' u' Q I rv ru ⟨i,j,qa,qb,⟨of_decide_eq_true hf.1.1,of_decide_eq_true hf.1.2,of_decide_eq_true hf.2⟩,k μ H _ Stp.refl R0 (by simp only[RepD])⟩
   ·cases e
  |_=>exact zad e
 |_=>cases b<;>exact zad e
theorem znx:OpD X (YL .Sub) (bop .sub):=by
 intro pins s σ H v u v' u' Q I rv ru q;obtain⟨μ,h,a,b,z,R0,qa,qb,e,k⟩:=q
 cases a with
 | int i=>
  cases b with|int j=>simp only[RdD,RepD] at qa qb;replace e:=ZY e;subst e;exact zqx pins s σ H v u v' u' Q I rv ru ⟨i,j,qa,qb,k μ H _ Stp.refl R0 (by simp only[RepD])⟩|_=>exact zad e
 |_=>cases b<;>exact zad e
theorem zlt:OpD X (YL .FloorDiv) (bop .fdiv):=by
 intro pins s σ H v u v' u' Q I rv ru q;obtain⟨μ,h,a,b,z,R0,qa,qb,e,k⟩:=q
 cases a with
 | int i=>
  cases b with
  | int j=>
   simp only[RdD,RepD] at qa qb;change (if _=true then _ else _)=some _ at e
   split at e
   ·rename_i hf
    rw[Z8] at hf;cases e;have h0:(0:Int)<j:=of_decide_eq_true hf.1;have h1:j<1000000000000000000000000000000000000000000000000000000000000:=of_decide_eq_true hf.2;subst qa qb;obtain⟨t1,rfl⟩:=rv;obtain⟨t2,rfl⟩:=ru;refine PyProof.Rows.floordiv_int (by omega) ?_ (.inl (PyProof.noPylong_of_log2 ?_))
    ·have ef:i.fdiv j=i / j:=Int.fdiv_eq_ediv_of_nonneg i (by omega)
     rw[ef];exact⟨.int (i / j),H,I.tok _,⟨_,rfl⟩,k μ H _ Stp.refl R0 (by simp only[RepD])⟩
    ·have hj:j.natAbs<2^200:=by
      omega
     have hj0:j.natAbs≠0:=by omega
     have:=(Nat.log2_lt hj0).mpr hj
     omega
   ·cases e
  |_=>exact zad e
 |_=>cases b<;>exact zad e
theorem zn9:OpD X (YL .Mod) (bop .mod):=by
 intro pins s σ H v u v' u' Q I rv ru q;obtain⟨μ,h,a,b,z,R0,qa,qb,e,k⟩:=q
 cases a with
 | int i=>
  cases b with
  | int j=>
   simp only[RdD,RepD] at qa qb;change (if _=true then _ else _)=some _ at e
   split at e
   ·rename_i hf
    cases e;exact zpP pins s σ H v u v' u' Q I rv ru ⟨i,j,qa,qb,of_decide_eq_true hf,k μ H _ Stp.refl R0 (by simp only[RepD])⟩
   ·cases e
  |_=>exact zad e
 |_=>cases b<;>exact zad e
theorem zqb(hu:X.A.units+64<cLine):OpD X (Y1 .Eq) (cop .eq):=by
 intro pins s σ H v u v' u' Q I rv ru q;obtain⟨μ,h,a,b,z,R0,qa,qb,e,k⟩:=q
 (delta cop at e;(try dsimp only at e))
 split at e
 ·rename_i hf
  cases e;have hd:min a.dep b.dep<=60:=of_decide_eq_true hf;exact zqD (zaV I) a b X.A v u v' u' qa qb rv ru (by omega) X.prog X.w X.xe _ ⟨.bl _,H,I,rfl,k μ H _ Stp.refl R0 (by simp only[RepD])⟩
 ·cases e
theorem zp4(hu:X.A.units+64<cLine):OpD X (Y1 .NotEq) (cop .ne):=by
 intro pins s σ H v u v' u' Q I rv ru q;obtain⟨μ,h,a,b,z,R0,qa,qb,e,k⟩:=q
 (delta cop at e;(try dsimp only at e))
 split at e
 ·rename_i hf
  cases e;have hd:min a.dep b.dep<=60:=of_decide_eq_true hf;exact zlq (zaV I) a b X.A v u v' u' qa qb rv ru (by omega) X.prog X.w X.xe _ ⟨.bl _,H,I,rfl,k μ H _ Stp.refl R0 (by simp only[RepD])⟩
 ·cases e
theorem zpW:OpD X (Y1 .Lt) (cop .lt):=by
 intro pins s σ H v u v' u' Q I rv ru q;obtain⟨μ,h,a,b,z,R0,qa,qb,e,k⟩:=q
 cases a with
 | int i=>
  cases b with|int j=>simp only[RdD,RepD] at qa qb;replace e:=ZY e;subst e;exact zrs pins s σ H v u v' u' Q I rv ru ⟨i,j,qa,qb,k μ H _ Stp.refl R0 (by simp only[RepD])⟩|_=>exact zad e
 |_=>cases b<;>exact zad e
theorem zqw:OpD X (Y1 .LtE) (cop .le):=by
 intro pins s σ H v u v' u' Q I rv ru q;obtain⟨μ,h,a,b,z,R0,qa,qb,e,k⟩:=q
 cases a with
 | int i=>
  cases b with|int j=>simp only[RdD,RepD] at qa qb;replace e:=ZY e;subst e;exact zr5 pins s σ H v u v' u' Q I rv ru ⟨i,j,qa,qb,k μ H _ Stp.refl R0 (by simp only[RepD])⟩|_=>exact zad e
 |_=>cases b<;>exact zad e
theorem zq6:OpD X (Y1 .Gt) (cop .gt):=by
 intro pins s σ H v u v' u' Q I rv ru q;obtain⟨μ,h,a,b,z,R0,qa,qb,e,k⟩:=q
 cases a with
 | int i=>
  cases b with|int j=>simp only[RdD,RepD] at qa qb;replace e:=ZY e;subst e;exact zr6 pins s σ H v u v' u' Q I rv ru ⟨i,j,qa,qb,k μ H _ Stp.refl R0 (by simp only[RepD])⟩|_=>exact zad e
 |_=>cases b<;>exact zad e
theorem zqZ:OpD X (Y1 .GtE) (cop .ge):=by
 intro pins s σ H v u v' u' Q I rv ru q;obtain⟨μ,h,a,b,z,R0,qa,qb,e,k⟩:=q
 cases a with
 | int i=>
  cases b with|int j=>simp only[RdD,RepD] at qa qb;replace e:=ZY e;subst e;exact zr1 pins s σ H v u v' u' Q I rv ru ⟨i,j,qa,qb,k μ H _ Stp.refl R0 (by simp only[RepD])⟩|_=>exact zad e
 |_=>cases b<;>exact zad e
theorem zgA(hu:X.A.units+64<cLine)(I:Inv X pins σ H s)(qa:RdD X.K (Live μ h) H a v)(rv:RelV v v')(hd:a.dep<=60)
  {xs:List D} {ws:List V} {its:List Value} (q:RepDs X.K (Live μ h) H xs ws) (r:Vals ws its):
  ∃f:Value->Bool,(∀y,y∈its.toArray->X2 X.A.in1 s y v' (f y))/\∀(j:Nat) (x:D) (y:Value),xs[j]?=some x->its[j]?=some y->f y=x.eqb a:=by
 have S:=zaV I
 classical
 have base:∀(y:Value) (x:D) (w:V),RepD X.K (Live μ h) H x w->RelV w y->X2 X.A.in1 s y v' (x.eqb a):=λy x w qx rx=>znb S x a X.A.in1 w v y v' (RdD.of qx) qa rx rv (by show X.A.units+1+_<cLine;omega)
 have at':∀(j:Nat) (y:Value),its[j]?=some y->∃x w,xs[j]?=some x/\RepD X.K (Live μ h) H x w/\RelV w y:=by
  intro j y hy;have hj:j<its.length:=(Z2.mp hy).1
  have hj2:j<ws.length:=by rw[r.length];exact hj
  obtain⟨x,hx,qx⟩:=q.get' (Z4 hj2);obtain⟨u,hu',ru⟩:=r.get (Z4 hj2);rw[hy] at hu';cases hu';exact⟨x,_,hx,qx,ru⟩
 refine⟨λy=>decide (∃(x:D) (w:V),RepD X.K (Live μ h) H x w/\RelV w y/\x.eqb a=true),λy hy=>?_,λj x y hx hy=>?_⟩
 ·obtain ⟨j,hj⟩:=XB (show y∈its by simpa using hy)
  obtain⟨x,w,hx,qx,rx⟩:=at' j y hj;dsimp only
  by_cases hx':∃(x:D) (w:V),RepD X.K (Live μ h) H x w/\RelV w y/\x.eqb a=true
  ·rw [decide_eq_true hx']
   obtain⟨x',w',q',r',e'⟩:=hx';rw[<-e'];exact base y x' w' q' r'
  ·rw [decide_eq_false hx']
   cases ex:x.eqb a with|true=>exact absurd ⟨x,_,qx,rx,ex⟩ hx'|false=>rw[<-ex];exact base y x _ qx rx
 ·obtain ⟨x1,w,hx1,qx,rx⟩:=at' j y hy
  rw[hx] at hx1;cases hx1;dsimp only
  cases ex:x.eqb a with
  |true=>exact decide_eq_true ⟨x,w,qx,rx,ex⟩
  |false=>refine decide_eq_false λq_=>?_;obtain⟨x',w',q',r',e'⟩:=q_;have ew:=RelV.inj rx r';rw[RepD.inj S x x' w' (ew▸qx) q'] at ex;rw[ex] at e';cases e'
theorem zfo(hu:X.A.units+64<cLine)(I:Inv X pins σ H s)(qa:RdD X.K (Live μ h) H a v)(rv:RelV v v')(hd:a.dep<=60)
  {xs:List D} {ws:List V} {its:List Value} (q:RepDs X.K (Live μ h) H xs ws) (r:Vals ws its):
  ∃f:Value->Bool,(∀y,y∈its.toArray->X2 X.A.in1 s y v' (f y))/\its.toArray.any f=xs.any λy=>y.eqb a:=by
 obtain⟨f,f1,f2⟩:=zgA hu I qa rv hd q r;refine⟨f,f1,?_⟩;have l1:=q.length;have l2:=r.length
 have e:its.map f=xs.map λy=>y.eqb a:=List.ext_getElem? λj=>by
  rw[Zp,Zp]
  by_cases c:j<xs.length
  ·have c2:j<its.length:=by omega
   rw[Z4 c,Z4 c2];exact congrArg some (f2 j _ _ (Z4 c) (Z4 c2))
  ·rw[YA (by omega),YA (by omega)];rfl
 have:=congrArg (List.any · id) e
 simpa[List.any_map] using this
theorem zls(hu:X.A.units+64<cLine):OpD X (Y1 .In) (cop .isin):=by
 intro pins s σ H v u v' u' Q I rv ru q;obtain⟨μ,h,a,b,z,R0,qa,qb,e,k⟩:=q;have S:=zaV I
 (delta cop at e;(try dsimp only at e))
 cases b with
 | tup ys=>
  simp only[items] at e
  split at e
  ·rename_i hf
   cases e;simp only[RdD,RepD] at qb;obtain⟨p,vs,rfl,q1,z1⟩:=qb;cases ru;obtain⟨its,r1,p1⟩:=S.tup p vs q1;obtain⟨f,hf1,hf2⟩:=zfo hu I qa rv (of_decide_eq_true hf) z1 r1
   exact SeqAt.in_tupleAt f p1 hf1 ⟨.bl _,H,I,rfl,by rw[hf2];exact k μ H _ Stp.refl R0 (by simp only[RepD])⟩
  ·cases e
 | lst ys=>
  simp only[items] at e
  split at e
  ·rename_i hf
   cases e;obtain⟨p,vs,rfl,q1,z1⟩:=qb;cases ru;obtain⟨its,r1,p1⟩:=S.lst p vs q1;obtain⟨f,hf1,hf2⟩:=zfo hu I qa rv (of_decide_eq_true hf) z1 r1
   exact SeqAt.in_listAt f p1 hf1 ⟨.bl _,H,I,rfl,by rw[hf2];exact k μ H _ Stp.refl R0 (by simp only[RepD])⟩
  ·cases e
 | str x=>
  simp only[items] at e
  cases a with|str y=>cases e;simp only[RdD,RepD] at qa qb;subst qa qb;refine zk3 pins s σ H _ _ v' u' Q I rv ru ⟨zaa y,zaa x,rfl,rfl,?_⟩;rw[zm0];exact k μ H _ Stp.refl R0 (by simp only[RepD])|_=>cases e
 |_=>simp[items] at e
theorem zjz(hu:X.A.units+64<cLine):OpD X (Y1 .NotIn) (cop .notin):=by
 intro pins s σ H v u v' u' Q I rv ru q;obtain⟨μ,h,a,b,z,R0,qa,qb,e,k⟩:=q;have S:=zaV I
 (delta cop at e;(try dsimp only at e))
 cases b with
 | tup ys=>
  simp only[items] at e
  split at e
  ·rename_i hf
   cases e;simp only[RdD,RepD] at qb;obtain⟨p,vs,rfl,q1,z1⟩:=qb;cases ru;obtain⟨its,r1,p1⟩:=S.tup p vs q1;obtain⟨f,hf1,hf2⟩:=zfo hu I qa rv (of_decide_eq_true hf) z1 r1
   exact SeqAt.notIn_tupleAt f p1 hf1 ⟨.bl _,H,I,rfl,by rw[hf2];exact k μ H _ Stp.refl R0 (by simp only[RepD])⟩
  ·cases e
 | lst ys=>
  simp only[items] at e
  split at e
  ·rename_i hf
   cases e;obtain⟨p,vs,rfl,q1,z1⟩:=qb;cases ru;obtain⟨its,r1,p1⟩:=S.lst p vs q1;obtain⟨f,hf1,hf2⟩:=zfo hu I qa rv (of_decide_eq_true hf) z1 r1
   exact SeqAt.notIn_listAt f p1 hf1 ⟨.bl _,H,I,rfl,by rw[hf2];exact k μ H _ Stp.refl R0 (by simp only[RepD])⟩
  ·cases e
 | str x=>
  simp only[items] at e
  cases a with|str y=>cases e;simp only[RdD,RepD] at qa qb;subst qa qb;refine zgw pins s σ H _ _ v' u' Q I rv ru ⟨zaa y,zaa x,rfl,rfl,?_⟩;rw[zm0];exact k μ H _ Stp.refl R0 (by simp only[RepD])|_=>cases e
 |_=>simp[items] at e
end
end IT
namespace PySem
open Sem (wp)
open Builtin
theorem zbY:fillsNumberSlot (.type "tuple") "mul"=pure false:=fillsNumberSlot_seq (id:="tuple.__mul__") (r:=some (.builtin "tuple.__rmul__")) WW.lookup (by decide +kernel) F.slot_tuple_rmul.lookup (by decide +kernel)
theorem zdE:seqRepeat? (.type "tuple")=pure (some (.builtin "tuple.__mul__")):=by unfold seqRepeat?;rw[seqSlot_of (T:="tuple") (name:="__mul__") (id:="tuple.__mul__") WW.lookup (by decide +kernel),seqSlot_of (T:="tuple") (name:="__rmul__") (id:="tuple.__rmul__") F.slot_tuple_rmul.lookup (by decide +kernel)];rfl
theorem zfy(a:Int)(t:Tok)(l:Addr)(items:Array Value)(n:Nat)(dd:Option Addr)(sl:Array (Option Value)):
  Meets (Zb.«int.__rmul__» ⟨[.int a t,.ref l],[]⟩) (λ_ R s=>s.heap.get? l=some {cls:=.type "tuple",dict:=dd,data:=.seq items n,slots:=sl}/\R (.ok (.ret Value.notImplemented)) s):=
 .of_wp λprog w A R s h=>by obtain⟨hp,g,d,tk,os⟩:=s;obtain⟨hl,h⟩:=h;wp_walk;exact⟨_,rfl,h⟩
theorem zfB(t:Tok)(l:Addr)(items:Array Value)(n:Nat)(dd:Option Addr)(sl:Array (Option Value)):
  Meets (Zb.«tuple.__mul__» ⟨[.ref l,.int 1 t],[]⟩) (λ_ R s=>s.heap.get? l=some {cls:=.type "tuple",dict:=dd,data:=.seq items n,slots:=sl}/\R (.ok (.ret (.ref l))) s):=
 .of_wp λprog w A R s h=>by obtain⟨hp,g,d,tk,os⟩:=s;obtain⟨hl,h⟩:=h;wp_walk;exact⟨_,rfl,h⟩
theorem zeJ(t:Tok)(l:Addr)(items:Array Value)(n:Nat)(dd:Option Addr)(sl:Array (Option Value))(hc:items.isEmpty=false):
  Meets (Zb.«tuple.__mul__» ⟨[.ref l,.int 0 t],[]⟩) (λ_ R s=>s.heap.get? l=some {cls:=.type "tuple",dict:=dd,data:=.seq items n,slots:=sl}/\R (.ok (.ret (.ref s.heap.objs.size))) {s with heap:=s.heap.push {cls:=.type "tuple",data:=.seq #[]}}):=
 .of_wp λprog w A R s h=>by obtain⟨hp,g,d,tk,os⟩:=s;obtain⟨hl,h⟩:=h;wp_walk;exact⟨_,rfl,h⟩
theorem zb0(items:Array Value):∀(m:Nat) (acc:Array Value),((ZN m items).foldl (·++·) acc).toList=acc.toList++(ZN m items.toList).flatten|0,acc=>by simp|m+1,acc=>by rw[Y2,WF,zb0 items m,Y2,YC,Array.toList_append,XA]
theorem zgN(items:Array Value)(m:Nat):((ZN m items).foldl (·++·) #[]).size=items.size*m:=by
 rw[<-ZG,zb0]
 induction m with|zero=>simp|succ m ih=>rw[Y2,YC,<-XA];simp only[Zw,UI] at ih⊢;rw[ZG,Nat.mul_succ];omega
theorem zff(k:Int)(t:Tok)(l:Addr)(items:Array Value)(n:Nat)(dd:Option Addr)(sl:Array (Option Value))(hc:items.isEmpty=false)(h1:1<k)(h2:k<=16777216)(h3:items.size*k.toNat<=sizeLine):
  Meets (Zb.«tuple.__mul__» ⟨[.ref l,.int k t],[]⟩) (λ_ R s=>s.heap.get? l=some {cls:=.type "tuple",dict:=dd,data:=.seq items n,slots:=sl}/\R (.ok (.ret (.ref s.heap.objs.size))) {s with heap:=s.heap.push {cls:=.type "tuple",data:=.seq ((ZN k.toNat items).foldl (·++·) #[])}}):=
 .of_wp λprog w A R s h=>by
  obtain⟨hp,g,d,tk,os⟩:=s;obtain⟨hl,h⟩:=h
  have hk:(items.size:Int)*k=((items.size*k.toNat:Nat):Int):=by rw[Int.natCast_mul,Int.toNat_of_nonneg (by omega)]
  rw[Zg] at h3
  have c1:(decide (k < -(2^63))||decide (k>=2^63))=false:=by simp;omega
  have c2:(items.isEmpty||k==1)=false:=by rw[hc];simp;omega
  have c3:(decide (k<=0)||items.isEmpty)=false:=by rw[hc];simp;omega
  have c4:¬((items.size:Int)*k>(2^63-1) / 8):=by rw[hk];omega
  have c5:Tuple.tupleTooMany ((items.size:Int)*k)=false:=by rw[hk];unfold Tuple.tupleTooMany;rw[Zg];exact decide_eq_false (by omega)
  wp_walk
  rw[if_neg (by rw[c1];decide)]
  wp_walk
  dsimp only
  rw[if_neg (by rw[c2];decide)]
  rw[if_neg (by rw[c3];decide)]
  rw[if_neg c4]
  rw[if_neg (by rw[c5];decide)]
  wp_walk
  rw[if_neg (by rw[zgN,Zg];omega)]
  wp_walk
  exact⟨_,rfl,h⟩
end PySem
namespace IT
open PySem PySem.Spec L2
section
variable {X:Cx}
theorem Vals.rep(r:Vals xs us):∀m:Nat,Vals (ZN m xs).flatten (ZN m us).flatten|0=>.nil|m+1=>by rw[Y2,Y2,YC,YC];exact r.append (Vals.rep r m)
theorem RepDs.rep(q:RepDs K A H xs vs):∀m:Nat,RepDs K A H (ZN m xs).flatten (ZN m vs).flatten|0=>.nil|m+1=>by rw[Y2,Y2,YC,YC];exact q.app (RepDs.rep q m)
theorem zlg{α:Type}(xs:List α):∀m:Nat,(ZN m xs).flatten.length=xs.length*m|0=>by simp|m+1=>by rw[Y2,YC,Zw,zlg xs m,Nat.mul_succ,Nat.add_comm]
theorem zg5:OpR X (YL .Mult) (λx y H Q=>∃p k xs,x=.ref p/\y=.int k/\SqT X.K H p xs/\xs≠[]/\((k=1/\Q (.ref p) H)\/(k=0/\∀r,H r=none->Q (.ref r) (upd H r (.tup [])))\/
  (1<k/\k<=16777216/\xs.length*k.toNat<=sizeLine/\∀r,H r=none->Q (.ref r) (upd H r (.tup (ZN k.toNat xs).flatten))))):=by
 intro pins s σ H x y v u Q I rx ry q;obtain⟨p,k,xs,rfl,rfl,hq,hn,q⟩:=q;cases rx;obtain⟨t,rfl⟩:=ry;obtain⟨its,r,pt,hz⟩:=I.tuple hq;have hl:=r.length;obtain⟨⟨cls,dd,data,sl⟩,ho,hc,n,hd⟩:=id pt;simp only at hc hd;subst hc hd
 have hne:its.toArray.isEmpty=false:=by
  cases its with
  |nil=>cases xs with
   |nil=>exact absurd rfl hn|cons _ _=>simp at hl
  |cons _ _=>simp
 refine wpAny_binaryOp_repeat_ref (T:="tuple") (U:="int") (by decide) ⟨_,ho,rfl⟩ (λs'=>typeIs_int s' k t) zbY F.fills_int_mul F.slot_int_rmul zdE F.slot_int_index.lookup
  (YD F.slot_int_rmul (typeIs_int s k t) F.entry_int_rmul (F.args_int_rmul_2 _ _) (zfy k t p its.toArray n dd sl)
   ⟨ho,rfl,⟨_,ho,rfl⟩,?_⟩)
 rcases q with⟨rfl,q⟩|⟨rfl,q⟩|⟨k1,k2,k3,q⟩
 ·exact YD WW ⟨_,ho,rfl⟩ Vg (VC _ _) (zfB t p its.toArray n dd sl) ⟨ho,⟨.ref p,H,I,rfl,q⟩⟩
 ·refine YD WW ⟨_,ho,rfl⟩ Vg (VC _ _) (zeJ t p its.toArray n dd sl hne) ⟨ho,?_⟩
  have hf:H s.heap.objs.size=none:=I.hok.fresh (ZZ _);refine⟨.ref s.heap.objs.size,upd H s.heap.objs.size (.tup []),I.laid (t':=s.toks) (λb u e=>Z5 _ e) (ZZ _) ?_,rfl,q _ hf⟩;exact⟨Y3 _,[],.nil,zbp.new _ _⟩
 ·refine YD WW ⟨_,ho,rfl⟩ Vg (VC _ _) (zff k t p its.toArray n dd sl hne k1 k2 (by rw[ZV,<-hl];exact k3)) ⟨ho,?_⟩
  have hf:H s.heap.objs.size=none:=I.hok.fresh (ZZ _)
  have e:(ZN k.toNat its.toArray).foldl (·++·) #[]=((ZN k.toNat its).flatten).toArray:=by apply Array.ext';rw[zb0];simp
  rw[e];refine⟨.ref s.heap.objs.size,upd H s.heap.objs.size (.tup (ZN k.toNat xs).flatten),I.laid (t':=s.toks) (λb u e=>Z5 _ e) (ZZ _) ?_,rfl,q _ hf⟩
  exact⟨by rw[zlg];exact k3,_,Vals.rep r _,zbp.new _ _⟩
theorem zh7(a:Array Nat):∀(n:Nat) (acc:Array Nat),((ZN n a).foldl (·++·) acc).toList=acc.toList++(ZN n a.toList).flatten|0,acc=>by simp|n+1,acc=>by rw[Y2,WF,zh7 a n (acc++a),Y2,YC];simp
theorem zlR{x:List Nat}{j:Int}(h:0<=j):PySem.Txt.mul (zaa x) j=zaa (ZN j.toNat x).flatten:=by
 unfold PySem.Txt.mul
 split
 ·have:j=0:=by omega
  subst this;rfl
 ·split
  ·rename_i z
   simp only[Zh,beq_iff_eq,zag] at z
   rcases z with z | z
   ·subst z
    simp
   ·have:x=[]:=List.length_eq_zero_iff.mp z
    subst this;simp
  ·show (⟨_⟩:Str)=⟨_⟩
   congr 1
   apply Array.ext';rw[zh7];simp[zaa]
theorem zns:OpD X (YL .Mult) (bop .mul):=by
 intro pins s σ H v u v' u' Q I rv ru q;obtain⟨μ,h,a,b,z,R0,qa,qb,e,k⟩:=q
 cases a with
 | int i=>
  cases b with
  | int j=>
   simp only[RdD,RepD] at qa qb;change (if _=true then _ else _)=some _ at e
   split at e
   ·rename_i hf
    cases e;refine zpb pins s σ H v u v' u' Q I rv ru ⟨i,j,qa,qb,?_,k μ H _ Stp.refl R0 (by simp only[RepD])⟩;rw[Zh] at hf
    rcases hf with hf | hf
    ·exact .inl (zdk.mp hf)
    ·exact .inr (zdk.mp hf)
   ·cases e
  |_=>exact zad e
 | tup xs=>
  cases b with
  | int j=>
   simp only[RdD,RepD] at qa qb;obtain⟨p,vs,rfl,q1,z1⟩:=qa;have l1:=z1.length;change (if _=true then _ else _)=some _ at e
   split at e
   ·cases e
   ·rename_i hne
    cases e;simp only[Zh,Zu,not_or,decide_eq_true_eq] at hne;obtain⟨⟨⟨n1,n2⟩,n3⟩,n4⟩:=hne
    have n4:fit (xs.length*j.toNat)=true:=by simpa using n4
    have n4:xs.length*j.toNat<=sizeLine:=of_decide_eq_true n4
    have hn:vs≠[]:=by
     rintro rfl
     cases xs with|nil=>simp at n1|cons _ _=>simp at l1
    by_cases h0:j=0
    ·subst h0
     refine zg5 pins s σ H _ u v' u' Q I rv ru ⟨p,0,vs,rfl,qb,q1,hn,.inr (.inl ⟨rfl,λr hr=>?_⟩)⟩;have s2:Stp μ h H μ h (upd H r (.tup [])):=Stp.fresh hr;refine k μ _ (.ref r) s2 (R0.fresh hr) ?_;simp only[RepD];exact⟨r,[],rfl,SqT.of zak,.nil⟩
    ·by_cases h1:j=1
     ·subst h1
      refine zg5 pins s σ H _ u v' u' Q I rv ru ⟨p,1,vs,rfl,qb,q1,hn,.inl ⟨rfl,k μ H _ Stp.refl R0 ?_⟩⟩;simp only[RepD];rw[show(ZN (1:Int).toNat xs).flatten=xs from by simp];exact⟨p,vs,rfl,q1,z1⟩
     ·refine zg5 pins s σ H _ u v' u' Q I rv ru ⟨p,j,vs,rfl,qb,q1,hn,.inr (.inr ⟨by omega,by omega,by rw[<-l1];exact n4,λr hr=>?_⟩)⟩
      have s2:Stp μ h H μ h (upd H r (.tup (ZN j.toNat vs).flatten)):=Stp.fresh hr;refine k μ _ (.ref r) s2 (R0.fresh hr) ?_;simp only[RepD];exact⟨r,_,rfl,SqT.of zak,RepDs.stp s2 R0 (RepDs.rep z1 _)⟩
  |_=>exact zad e
 | str x=>
  cases b with
  | int j=>
   simp only[RdD,RepD] at qa qb;subst qa qb;obtain⟨t1,rfl⟩:=rv;obtain⟨t2,rfl⟩:=ru;change (if(decide (0<=j)&&decide (j<=1000)&&decide (x.length<=1000))=true then some (D.str (ZN j.toNat x).flatten) else none)=some _ at e
   split at e
   case isFalse=>cases e
   rename_i hc;simp only[Z8,decide_eq_true_eq] at hc;obtain⟨⟨c1,c2⟩,c3⟩:=hc;cases e;have hx:(zaa x).length=x.length:=zag x
   refine PySem.SB.mul ⟨by simp;omega,λz1 z2 z=>?_,λz1 z2=>?_⟩ λt' k'=>?_
   ·rw [hx] at z
    have:(1:Int)<=j:=by omega
    have h9:(1000:Int)<=(2^63-1) / j:=Int.le_ediv_of_mul_le (by omega) (by omega);omega
   ·rw [hx]
    have:x.length*j.toNat<=1000*1000:=Nat.mul_le_mul c3 (by omega)
    exact decide_eq_false (by rw[Zg];omega)
   ·exact⟨.str (zaa (ZN j.toNat x).flatten),H,I.tok k',⟨t',by rw[zlR c1]⟩,k μ H _ Stp.refl R0 (by simp only[RepD])⟩
  |_=>exact zad e
 |_=>cases b<;>exact zad e
theorem zh8(q:RdD K A0 H a v):decide (v=.non)=znU a:=by
 cases a with|non=>simp only[RdD,RepD] at q;subst q;rfl|bl b=>simp only[RdD,RepD] at q;subst q;rfl|int b=>simp only[RdD,RepD] at q;subst q;rfl|str b=>simp only[RdD,RepD] at q;subst q;rfl|tup b=>simp only[RdD,RepD] at q;obtain⟨p,vs,rfl,_⟩:=q;rfl|lst b=>obtain⟨p,vs,rfl,_⟩:=q;rfl
theorem zot:OpD X (Y1 .Is) (cop .isN):=by
 intro pins s σ H v u v' u' Q I rv ru q;obtain⟨μ,h,a,b,z,R0,qa,qb,e,k⟩:=q
 cases b with
 |non=>
  simp only[RdD,RepD] at qb;replace e:=ZY e;subst e
  exact zqa pins s σ H v u v' u' Q I rv ru ⟨qb,by rw[zh8 qa];exact k μ H _ Stp.refl R0 (by simp only[RepD])⟩
 | bl c=>
  cases a with|bl d=>simp only[RdD,RepD] at qa qb;replace e:=ZY e;subst e qa qb;have e1:v'=WC d:=rv;have e2:u'=WC c:=ru;subst e1 e2;exact PyProof.Rows.is_bool ⟨.bl (d==c),H,I,rfl,k μ H _ Stp.refl R0 (by simp only[RepD])⟩|_=>exact zad e
 |_=>cases a<;>exact zad e
theorem zi1:OpD X (Y1 .IsNot) (cop .isnotN):=by
 intro pins s σ H v u v' u' Q I rv ru q;obtain⟨μ,h,a,b,z,R0,qa,qb,e,k⟩:=q
 cases b with
 |non=>
  simp only[RdD,RepD] at qb;replace e:=ZY e;subst e
  exact zoh pins s σ H v u v' u' Q I rv ru ⟨qb,by rw[zh8 qa];exact k μ H _ Stp.refl R0 (by simp only[RepD])⟩
 | bl c=>
  cases a with|bl d=>simp only[RdD,RepD] at qa qb;replace e:=ZY e;subst e qa qb;have e1:v'=WC d:=rv;have e2:u'=WC c:=ru;subst e1 e2;exact PyProof.Rows.isnot_bool ⟨.bl (d != c),H,I,rfl,k μ H _ Stp.refl R0 (by simp only[RepD])⟩|_=>exact zad e
 |_=>cases a<;>exact zad e
theorem zja{α:Type}{xs:List α}{i:Int}{x:α}(e:at' xs i=some x):∃j,ixN xs.length i=some j/\xs[j]?=some x:=by
 unfold at' at e
 cases q:ixn xs.length i with|none=>rw[q] at e;cases e|some j=>rw[q] at e;exact⟨j,q,e⟩
theorem ix':IxR X (λv u H Q=>∃μ h a b z,Rep X.K μ h H/\RdD X.K (Live μ h) H a v/\RdD X.K (Live μ h) H b u/\idxD a b=some z/\∀μ' H' w,Stp μ h H μ' h H'->Rep X.K μ' h H'->RepD X.K (Live μ' h) H' z w->Q w H'):=by
 intro value slice pins s σ H v u v' u' Q I rv ru q hs;obtain⟨μ,h,a,b,z,R0,qa,qb,e,k⟩:=q
 cases a with
 | tup xs=>
  cases b with|int i=>simp only[RdD,RepD] at qa qb;obtain⟨p,vs,rfl,q1,z1⟩:=qa;obtain⟨j,e1,e2⟩:=zja (show at' xs i=some z from e);obtain⟨w,e3,qw⟩:=z1.get e2;refine zpD value slice pins s σ H _ u v' u' Q I rv ru ⟨p,vs,i,w,rfl,qb,q1,?_,k μ H w Stp.refl R0 qw⟩ hs;unfold atI;rw[<-z1.length,e1];exact e3|_=>exact zad e
 | lst xs=>
  cases b with|int i=>simp only[RdD,RepD] at qb;obtain⟨p,vs,rfl,q1,z1⟩:=qa;obtain⟨j,e1,e2⟩:=zja (show at' xs i=some z from e);obtain⟨w,e3,qw⟩:=z1.get e2;refine zoW value slice pins s σ H _ u v' u' Q I rv ru ⟨p,vs,i,w,rfl,qb,q1,?_,k μ H w Stp.refl R0 qw⟩ hs;unfold atI;rw[<-z1.length,e1];exact e3|_=>exact zad e
 | str x=>
  cases b with
  | int i=>
   simp only[RdD,RepD] at qa qb
   (delta idxD at e;(try dsimp only at e))
   split at e
   ·rename_i hf
    cases ec:at' x i with
    |none=>rw[ec] at e;cases e
    |some c=>
     rw[ec] at e;cases e;obtain⟨j,e1,e2⟩:=zja ec
     refine zqz value slice pins s σ H _ u v' u' Q I rv ru ⟨zaa x,i,c,qa,qb,by rw[zag];exact of_decide_eq_true hf,?_,k μ H _ Stp.refl R0 (by simp only[RepD];rfl)⟩ hs
     show atI x i=some c;unfold atI;rw[e1];exact e2
   ·cases e
  |_=>exact zad e
 |_=>exact zad e
theorem zqq(ha:IE X a f)(hb:IE X b g)(hs:zhz b):IE X (.Subscript a b pos) (λσ=>bnd (f σ) λx=>bnd (g σ) λy=>mD idxD x y):=by refine PE.imp (zrC ix' ha hb hs) λσ H Q q=>?_;obtain⟨μ,h,env,R0,re,r,h',e,k⟩:=q;simp only[mD,zab,zac,zat] at e;obtain⟨x,h1,e1,y,h2,e2,dx,h3,e3,dy,h4,e4,z,h5,⟨e5,rfl⟩,rfl,rfl⟩:=e;refine⟨μ,h,env,R0,re,x,h1,e1,λμ1 H1 v s1 R1 q1=>⟨μ1,h1,env,R1,re.stp s1 R0,y,h2,e2,λμ2 H2 u s2 R2 q2=>?_⟩⟩;obtain⟨rfl,zx⟩:=zaU R2 (q1.stp s2 R1) e3;obtain⟨rfl,zy⟩:=zaU R2 q2 e4;exact⟨μ2,_,dx,dy,z,R2,zx,zy,e5,λμ3 H3 w s3 R3 q3=>k μ3 H3 w ((s1.trans s2).trans s3) R3 q3⟩
end
end IT
namespace HT
open PySem PyProof.Rows
section
variable {prog:ZB}{w:World}{A:Around}{E:Value->Shared->Prop}{s:Shared}
theorem getItem_tuple_whole{lo hi:Option Int}(ht:IsTup s.heap t items)(hs:s.heap.IsSliceOf sl vl vu .none)(pl:IsPart vl lo)(pu:IsPart vu hi)
  (hw:sIx items.size 0 lo=0/\sIx items.size items.size hi=items.size) (h:Q (.ref t) s):wpAny (model prog w) A (Uu (.ref t) (.ref sl)) Q E s:=by
 obtain⟨os,hos,hcs,hds⟩:=id hs;have hTs:s.TypeIs (.ref sl) "slice":=⟨os,hos,hcs⟩;unfold Uu
 try with_reducible refine Y6 ?_
 first | refine Z9 (Z6 ?_) | skip
 refine Z9 (wpAny_sequenceKey ht.typeIs (by decide) ?_)
 refine Z9 (Xl (name:=YG "__getitem__") ht.typeIs Y4
  (Yj Y4 ht.typeIs entry_tuple_getitem ?_ (args_tuple_getitem _ _)))
 show wpAny _ _ (W5 (.ref t) >>= _) _ _ s;refine Z9 (tupleItemsOf_ ht ?_);refine Z9 (Wn hTs ?_);rw[if_pos (by decide)];refine Z9 (zbo hs pl pu ?_)
 have hyes:(((sIx items.size 0 lo:Nat):Int)==0&&(1:Int)==1&&(sIx items.size items.size hi-sIx items.size 0 lo)==items.size)=true:=by rw[hw.1,hw.2];simp
 show wpAny _ _ (if(((sIx items.size 0 lo:Nat):Int)==0&&(1:Int)==1&&(sIx items.size items.size hi-sIx items.size 0 lo)==items.size)=true then _ else _) _ _ s;rw[if_pos hyes];unfold Zb.Tuple.tupleIsExact;refine Z9 (Z9 (Wn ht.typeIs (Z6 ?_)));rw[if_pos (by decide)]
 first|exact Z9 (Xg (Z6 ⟨_,rfl,Z6 h⟩))|exact Z9 (Xg (Z9 (Z6 (Z6 ⟨_,rfl,Z6 h⟩))))|exact Z9 (Xg (Z9 (Z6 ⟨_,rfl,Z6 h⟩)))
end
end HT
namespace IT
open PySem PySem.Spec L2
section
variable {X:Cx}
theorem zop:SlR X (λx lo hi H Q=>∃a xs,x=.ref a/\SqT X.K H a xs/\(HT.sIx xs.length 0 lo=0/\HT.sIx xs.length xs.length hi=xs.length)/\Q (.ref a) H):=by
 intro pins s σ H x v vl vu lo hi sl Q I rx hs pl pu h;obtain⟨a,xs,rfl,hx,hw,q⟩:=h;cases rx;obtain⟨its,r,ht,hz⟩:=I.tuple hx
 have hlen:its.toArray.size=xs.length:=by rw[ZV];exact r.length.symm
 refine⟨"tuple",_,Y4.lookup,ht.typeIs,?_⟩
 exact HT.getItem_tuple_whole ht hs pl pu (by rw[hlen];exact hw) ⟨.ref a,H,I,rfl,q⟩
theorem zhI(n d:Nat)(o:Option Int):sIx n d o=HT.sIx n d o:=by cases o<;>rfl
theorem RepDs.cut(q:RepDs K A H xs vs)(lo hi:Option Int):RepDs K A H (IT.cut xs lo hi) (cutV vs lo hi):=by unfold IT.cut cutV;rw[zhI,zhI,q.length];exact(q.drop _).take _
theorem sl':SlR X (λv lo hi H Q=>∃μ h a z,Rep X.K μ h H/\RdD X.K (Live μ h) H a v/\cutD a lo hi=some z/\∀μ' H' w,Stp μ h H μ' h H'->Rep X.K μ' h H'->RepD X.K (Live μ' h) H' z w->Q w H'):=by
 intro pins s σ H x v vl vu lo hi sl Q I rx hs pl pu q;obtain⟨μ,h,a,z,R0,qa,e,k⟩:=q
 cases a with
 | tup xs=>
  simp only[RdD,RepD] at qa;obtain⟨p,vs,rfl,q1,z1⟩:=qa;cases e
  by_cases hw:HT.sIx vs.length 0 lo=0/\HT.sIx vs.length vs.length hi=vs.length
  ·refine zop pins s σ H _ v vl vu lo hi sl Q I rx hs pl pu ⟨p,vs,rfl,q1,hw,k μ H _ Stp.refl R0 ?_⟩
   simp only[RepD];refine⟨p,vs,rfl,q1,?_⟩
   have e2:cut xs lo hi=xs:=by unfold cut;rw[zhI,zhI,z1.length,hw.1,hw.2,XM,Nat.sub_zero,<-z1.length,U0]
   rw[e2];exact z1
  ·refine zq1 pins s σ H _ v vl vu lo hi sl Q I rx hs pl pu ⟨p,vs,rfl,q1,hw,λr hr=>?_⟩
   have s2:Stp μ h H μ h (upd H r (.tup (cutV vs lo hi))):=Stp.fresh hr;refine k μ _ (.ref r) s2 (R0.fresh hr) ?_;simp only[RepD];exact⟨r,cutV vs lo hi,rfl,SqT.of zak,RepDs.stp s2 R0 (z1.cut lo hi)⟩
 |lst xs=>
  obtain⟨p,vs,rfl,q1,z1⟩:=qa;cases e;refine zob pins s σ H _ v vl vu lo hi sl Q I rx hs pl pu ⟨p,vs,rfl,q1,λr hr=>?_⟩;have s2:Stp μ h H μ h (upd H r (.lst (cutV vs lo hi))):=Stp.fresh hr;refine k μ _ (.ref r) s2 (R0.fresh hr) ?_;simp only[RepD];refine⟨r,cutV vs lo hi,rfl,.inl ⟨λl=>?_,.inl zak⟩,RepDs.stp s2 R0 (z1.cut lo hi)⟩;obtain⟨ws,w,_⟩:=R0.liveAt l
  rw[hr] at w;cases w
 | str xs=>
  (delta cutD at e;(try dsimp only at e))
  split at e
  ·rename_i hf
   cases e;simp only[RdD,RepD] at qa;subst qa;obtain⟨t,rfl⟩:=(show ∃t',v=Yp (zaa xs) t' from rx)
   have hz:(zaa xs).length<=sizeLine:=by rw[zag];exact of_decide_eq_true hf
   have fin:∀t' k',EP X pins σ Q (.str (Txt.slice (zaa xs) lo hi) t') {s with toks:=k'}:=λt' k'=>⟨.str (Txt.slice (zaa xs) lo hi),H,I.tok _,⟨_,rfl⟩,k μ H _ Stp.refl R0 (by rw[zkm];simp only[RepD])⟩
   obtain⟨os,hos,hcs,hds⟩:=id hs
   have part:∀{v:Value} {o:Option Int},IsPart v o->∃p:Option (Int×Tok),v=partValue p/\p.map (·.1)=o:=by
    intro v o p
    cases p with|none=>exact⟨none,rfl,rfl⟩|int i t=>exact⟨some (i,t),rfl,rfl⟩
   obtain⟨p1,rfl,e1⟩:=part pl;obtain⟨p2,rfl,e2⟩:=part pu;refine⟨"str",_,PySem.F.slot_str_getitem.lookup,Xe _ _ _,wpAny_getItem_str_slice (l:=p1) (u:=p2) (st:=none) ⟨os,hos,hcs,hds⟩ rfl ?_⟩;unfold sliceMade slicePicked;rw[e1,e2];exact post_val_or_str ⟨Zf (Txt.slice_le _ lo hi) hz,fin⟩
  ·cases e
 |_=>cases e
inductive tO(K:Z7)(f:IT.Env->M R)(σ:St)(H:Hp)(Q:Option Int->Hp->Prop):Prop where|mk (μ:List Addr) (h:Sto) (env:IT.Env) (R0:Rep K μ h H) (re:RepE K μ h H env σ) (d:D) (h':Sto) (o:Option Int) (e:f env h=some (.d d,h')) (ep:part d=some o) (k:∀μ' H',Stp μ h H μ' h' H'->Rep K μ' h' H'->Q o H')
theorem PO.imp(h:PO X oe t)(i:∀σ H Q,t' σ H Q->t σ H Q):PO X oe t':=λpins s σ H Q I q=>h pins s σ H Q I (i σ H Q q)
theorem zog:PO X none (tO X.K λ_=>ok (.d .non)):=by refine PO.imp zoI λσ H Q q0=>?_;obtain⟨μ,h,env,R0,re,d,h',o,e,ep,k⟩:=q0;simp only[zac,R.d.injEq] at e;obtain⟨rfl,rfl⟩:=e;simp only[part,Z3] at ep;subst ep;exact k μ H Stp.refl R0
theorem zk7(h:IE X e f):PO X (some e) (tO X.K f):=by
 intro pins s σ H Q I ⟨μ,h0,env,R0,re,d,h',o,ef,ep,k⟩;rw[evalPart_some];refine thn (h pins s σ H (λx H1=>(∃i,x=.int i/\Q (some i) H1)\/(x=.non/\Q none H1)) I ⟨μ,h0,env,R0,re,.d d,h',ef,λμ1 H1 v s1 R1 q1=>?_⟩) λu s1 ⟨x,H1,I1,r1,q1⟩=>?_
 ·cases d with|int i=>simp only[RepR,RepD] at q1;simp only[part,Z3] at ep;subst ep;exact .inl ⟨i,q1,k μ1 H1 s1 R1⟩|non=>simp only[RepR,RepD] at q1;simp only[part,Z3] at ep;subst ep;exact .inr ⟨q1,k μ1 H1 s1 R1⟩|_=>simp[part] at ep
 ·rcases q1 with⟨i,rfl,q⟩|⟨rfl,q⟩
  ·obtain ⟨t,rfl⟩:=r1
   exact⟨some i,H1,I1,.int i t,q⟩
  ·cases r1
   exact⟨none,H1,I1,.none,q⟩
theorem zqf(ha:IE X a f)(hl:PO X lo (tO X.K g))(hu:PO X hi (tO X.K k)):IE X (.Subscript a (.Slice lo hi none p2) pos)
  (λσ=>bnd (f σ) λx=>bnd (g σ) λl=>bnd (k σ) λu=>bnd (rd x) λx=>bnd (rd l) λl=>bnd (rd u) λu=>bnd (opt (sliD x l u)) λz=>ok (.d z)):=by
 refine PE.imp (zmH sl' ha hl hu) λσ H Q q0=>?_;obtain⟨μ,h,env,R0,re,r,h',e,kk⟩:=q0;simp only[zab,zac,zat] at e;obtain⟨x,h1,e1,l,h2,e2,u,h3,e3,dx,h4,e4,dl,h5,e5,du,h6,e6,z,h7,⟨e7,rfl⟩,rfl,rfl⟩:=e
 (delta sliD at e7;(try dsimp only at e7))
 have isd:∀(r:R) (d:D) (h h':Sto),rd r h=some (d,h')->∀o,part d=some o->r=.d d/\h'=h:=by
  intro r d h h' e o ep
  cases r with|d x=>simp only[rd,zac] at e;exact⟨by rw[e.1],e.2.symm⟩|loc l=>obtain⟨o,_,_,rfl,_⟩:=zez e;simp[part] at ep
 cases pl:part dl with
 |none=>rw[pl] at e7;cases e7
 | some lo'=>
  cases pu:part du with|none=>rw[pl,pu] at e7;cases e7|some hi'=>rw[pl,pu] at e7;replace e7:cutD dx lo' hi'=some z:=e7;obtain⟨rfl,hh5⟩:=isd l dl h4 h5 e5 lo' pl;subst hh5;obtain⟨rfl,hh6⟩:=isd u du _ h6 e6 hi' pu;subst hh6;refine⟨μ,h,env,R0,re,x,h1,e1,λμ1 H1 v s1 R1 q1=>⟨μ1,h1,env,R1,re.stp s1 R0,dl,h2,lo',e2,pl,λμ2 H2 s2 R2=>⟨μ2,h2,env,R2,re.stp (s1.trans s2) R0,du,h3,hi',e3,pu,λμ3 H3 s3 R3=>?_⟩⟩⟩;obtain⟨rfl,zx⟩:=zaU R3 ((q1.stp s2 R1).stp s3 R2) e4;exact⟨μ3,_,dx,z,R3,zx,e7,λμ4 H4 w s4 R4 q4=>kk μ4 H4 w (((s1.trans s2).trans s3).trans s4) R4 q4⟩
inductive zm7(K:Z7)(g:List D->Option D)(vs:List V)(H:Hp)(Q:VK):Prop where|mk (μ:List Addr) (h:Sto) (ds:List D) (z:D) (R0:Rep K μ h H) (pr:Paired (RdD K (Live μ h) H) ds vs) (e:g ds=some z) (k:∀μ' H' w,Stp μ h H μ' h H'->Rep K μ' h H'->RepD K (Live μ' h) H' z w->Q w H')
def zjK(X:Cx)(f:Value)(g:List D->Option D):Prop:=zcs X f λvs H Q=>zm7 X.K g vs H Q
theorem zdB
  (q:tE X.K (λσ=>bnd (fs σ) λrs=>bnd (rds rs) λds=>bnd (opt (biD t ds)) λz=>ok (.d z)) σ H Q):
  tAs X.K fs σ H λvs H1=>zm7 X.K (biD t) vs H1 Q:=by
 obtain⟨μ,h,env,R0,re,r,h',e,k⟩:=q;simp only[zab,zac,zat] at e;obtain⟨rs,h1,e1,ds,h2,e2,z,h3,⟨e3,rfl⟩,rfl,rfl⟩:=e;refine⟨μ,h,env,R0,re,rs,h1,e1,λμ1 H1 vs s1 R1 q1=>?_⟩;obtain⟨rfl,zs⟩:=zkO R1 q1 e2;exact⟨μ1,_,ds,z,R1,zs,e3,λμ2 H2 w s2 R2 q2=>k μ2 H2 w (s1.trans s2) R2 q2⟩
theorem zjJ:zjK X (.builtin "len") (biD .len):=by
 intro pins s σ H vs us Q I r q;obtain⟨μ,h,ds,z,R0,pr,e,k⟩:=q
 cases pr with
 |nil=>exact zad e
 | @cons d v ds vs qd pr=>
  cases pr with
  |cons _ _=>cases d<;>exact zad e
  | nil=>
   cases d with
   |tup xs=>
    simp only[RdD,RepD] at qd;obtain⟨p,ws,rfl,q1,z1⟩:=qd;replace e:=ZY e;subst e
    exact zeZ pins s σ H _ us Q I r ⟨.ref p,ws.length,rfl,.inr ⟨ws,q1,rfl⟩,k μ H _ Stp.refl R0 (by simp only[RepD];rw[z1.length])⟩
   |lst xs=>
    obtain⟨p,ws,rfl,q1,z1⟩:=qd;replace e:=ZY e;subst e
    exact zeZ pins s σ H _ us Q I r ⟨.ref p,ws.length,rfl,.inl ⟨ws,q1,rfl⟩,k μ H _ Stp.refl R0 (by simp only[RepD];rw[z1.length])⟩
   | str x=>
    simp only[RdD,RepD] at qd;subst qd
    (delta biD at e;(try dsimp only at e))
    split at e
    ·rename_i hf
     cases e
     exact zeZ pins s σ H _ us Q I r ⟨.str (zaa x),x.length,rfl,⟨by rw[zag];exact of_decide_eq_true hf,by rw[zag]⟩,k μ H _ Stp.refl R0 (by simp only[RepD])⟩
    ·cases e
   |_=>exact zad e
theorem zgQ:zjK X (.type "tuple") (biD .tuple):=by
 intro pins s σ H vs us Q I r q;obtain⟨μ,h,ds,z,R0,pr,e,k⟩:=q
 cases pr with
 |nil=>exact zad e
 | @cons d v ds vs qd pr=>
  cases pr with
  |cons _ _=>cases d<;>exact zad e
  | nil=>
   cases d with
   |tup xs=>
    simp only[RdD,RepD] at qd;obtain⟨p,ws,rfl,q1,z1⟩:=qd;replace e:=ZY e;subst e
    exact zb2 pins s σ H _ us Q I r ⟨p,ws,rfl,.inr ⟨q1,k μ H _ Stp.refl R0 (by simp only[RepD];exact⟨p,ws,rfl,q1,z1⟩)⟩⟩
   |lst xs=>obtain⟨p,ws,rfl,q1,z1⟩:=qd;replace e:=ZY e;subst e;refine zb2 pins s σ H _ us Q I r ⟨p,ws,rfl,.inl ⟨q1,λl hl=>?_⟩⟩;have s2:Stp μ h H μ h (upd H l (.tup ws)):=Stp.fresh hl;refine k μ _ (.ref l) s2 (R0.fresh hl) ?_;simp only[RepD];exact⟨l,ws,rfl,SqT.of zak,RepDs.stp s2 R0 z1⟩|_=>exact zad e
theorem dec_str(n:Int):(Z0 (UB n)).cps.toList=decS n:=by
 rw[PyProof.Rows.signs_ofString];unfold decS
 cases n with|ofNat m=>rw[if_neg (by simp)];show(Nat.repr m).toList.map Uq=_;rw[Nat.toList_repr];rfl|negSucc m=>rw[if_pos (Int.negSucc_lt_zero m)];show("-"++Nat.repr (m+1)).toList.map Uq=_;rw[String.toList_append,XF,Nat.toList_repr];rfl
theorem zj9(n:Int):(Z0 (UB n))=zaa (decS n):=by rw[<-dec_str];rfl
theorem zjr{x:List Nat}(h:digS x=true):PySem.NumText.AllDigits x/\x≠[]:=by
 simp only[digS,Z8,ZQ,decide_eq_true_eq] at h
 exact⟨λc hc=>h.2 c hc,by rintro rfl;cases h.1⟩
theorem zji{x:List Nat}{n:Int}(hl:x.length<=640)(h:intS x=some n):PySem.intText? (zaa x)=some n:=by
 have e:(zaa x).cps.toList=x:=rfl;have el:(zaa x).length<=4300:=Zf (show x.toArray.size<=640 from hl) (by decide)
 cases x with
 |nil=>cases h
 | cons c r=>
  unfold intS at h;dsimp only at h
  split at h
  ·rename_i hc
   subst hc
   split at h
   ·rename_i hd
    cases h;obtain⟨d1,d2⟩:=zjr hd;exact PySem.intText_neg e d1 d2 el
   ·cases h
  ·split at h
   ·rename_i hd
    cases h;obtain⟨d1,d2⟩:=zjr hd
    exact PySem.intText_digits (by rw[e];exact d1) (by rw[e];exact d2) el
   ·cases h
theorem zfA:zcs X (.type "int") (λxs H Q=>∃x n,xs=[.str (zaa x)]/\x.length<=640/\intS x=some n/\Q (.int n) H):=by intro pins s σ H xs us Q I r h;obtain⟨x,n,rfl,hl,e,q⟩:=h;obtain⟨u,rfl,t,rfl⟩:=zfe r;exact PySem.W.KIN.call_text (zji hl e) hl ⟨.int n,H,I.tok _,⟨_,rfl⟩,q⟩
theorem zgi:zcs X (.type "str") (λxs H Q=>∃x,xs=[.str x]/\Q (.str x) H):=by intro pins s σ H xs us Q I r h;obtain⟨x,rfl,q⟩:=h;obtain⟨u,rfl,t,rfl⟩:=zfe r;exact PySem.P.str_of_str ⟨.str x,H,I,⟨_,rfl⟩,q⟩
theorem zjX:zjK X (.type "str") (biD .str):=by
 intro pins s σ H vs us Q I r q;obtain⟨μ,h,ds,z,R0,pr,e,k⟩:=q
 cases pr with
 |nil=>exact zad e
 | @cons d v ds vs qd pr=>
  cases pr with
  |cons _ _=>cases d<;>exact zad e
  | nil=>
   cases d with
   |str x=>simp only[RdD,RepD] at qd;subst qd;replace e:=ZY e;subst e;exact zgi pins s σ H _ us Q I r ⟨_,rfl,k μ H _ Stp.refl R0 (by simp only[RepD])⟩
   | int i=>
    simp only[RdD,RepD] at qd;subst qd;change (if _ then _ else _)=_ at e
    split at e
    ·rename_i hd
     replace e:=ZY e;subst e
     have hz:i.natAbs.log2<1920:=by
      have hd:=of_decide_eq_true hd
      by_cases h0:i.natAbs=0
      ·rw[h0];decide
      ·exact(Nat.log2_lt h0).mpr (Xd hd (Nat.pow_lt_pow_right (by decide) (by decide)))
     exact zgo pins s σ H _ us Q I r ⟨i,rfl,hz,k μ H _ Stp.refl R0 (by simp only[RepD];rw[<-zj9])⟩
    ·cases e
   |_=>exact zad e
theorem zjd:zjK X (.type "int") (biD .int):=by
 intro pins s σ H vs us Q I r q;obtain⟨μ,h,ds,z,R0,pr,e,k⟩:=q
 cases pr with
 |nil=>exact zad e
 | @cons d v ds vs qd pr=>
  cases pr with
  |cons _ _=>cases d<;>exact zad e
  | nil=>
   cases d with
   |bl b=>simp only[RdD,RepD] at qd;subst qd;replace e:=ZY e;subst e;exact zgB pins s σ H _ us Q I r (.inr ⟨b,rfl,k μ H _ Stp.refl R0 (by simp only[RepD])⟩)|int i=>simp only[RdD,RepD] at qd;subst qd;replace e:=ZY e;subst e;exact zgB pins s σ H _ us Q I r (.inl ⟨i,rfl,k μ H _ Stp.refl R0 (by simp only[RepD])⟩)
   | str x=>
    simp only[RdD,RepD] at qd;subst qd;change (if _ then _ else _)=_ at e
    split at e
    ·rename_i hd
     cases ei:intS x with|none=>rw[ei] at e;cases e|some n=>rw[ei] at e;replace e:=ZY e;subst e;exact zfA pins s σ H _ us Q I r ⟨x,n,rfl,of_decide_eq_true hd,ei,k μ H _ Stp.refl R0 (by simp only[RepD])⟩
    ·cases e
   |_=>exact zad e
end
section
variable {X:Cx}
theorem Rep.placeL(R0:Rep K μ h H){l:Nat}{o:Ob}(e:μ[l]?=some a)(ho:h[l]?=some o)(il:o.isL=true):∃vs,H a=some (.lst vs)/\RepDs K (Live μ h) H o.items vs:=(R0.obj l a o e ho).isL il
theorem Rep.placeO(R0:Rep K μ h H){l:Nat}(e:μ[l]?=some a):∃o,h[l]?=some o:=by
 have hl:l<h.length:=by rw[<-R0.len];exact(Z2.mp e).1
 exact⟨h[l],Z4 hl⟩
theorem zj5{f:IT.Env->M R}(ho:IE X o f)(ha:IA X (e::es) fs)(hname:name=("append":Str))
  (hbase:Yz o name X.env (eval o X.env)=eval o X.env)
  (hfew:((backTo cpos (ZT (e::es) X.env)).all (λx=>!x.1)&&(WO cpos (XT [] X.env)).all (λx=>x.1.isSome)
   && decide ((e::es).length+([]:List X5).length+(if([]:List X5).isEmpty then 0 else 1)<30))=true)
  (hline:(apos.endLine==cpos.line)=true) (hs:ZT (e::es) X.env=(false,eval e X.env)::ZT es X.env) (hplain:(backTo cpos (ZT es X.env)).any (·.1)=false):
  IE X (.Call (.Attribute o name apos) (e::es) [] cpos) (λσ=>bnd (f σ) λx=>bnd (zed x) λ_=>bnd (fs σ) λrs=>meth .append x rs):=by
 subst hname;refine PE.imp (zjw PySem.F.plainAttrs_list PySem.F.slot_list_append PySem.F.type_list_append zjC ho ha hbase hfew hline hs hplain) λσ H Q q0=>?_;obtain⟨μ,h,env,R0,re,r,h',e,k⟩:=q0;simp only[zab] at e;obtain⟨x,h1,e1,_,h1',e0,rs,h2,e2,e3⟩:=e;obtain⟨l,o1,rfl,ho1,il1,rfl⟩:=zi3 e0;refine⟨μ,h,env,R0,re,.loc l,_,e1,λμ1 H1 v s1 R1 q1=>?_⟩
 ·skip
  obtain⟨a,ea,rfl⟩:=q1;obtain⟨vs1,hH1,z1⟩:=R1.placeL ea ho1 il1;refine⟨.inl ⟨rfl,vs1,.inl (.inl hH1)⟩,μ1,_,env,R1,re.stp s1 R0,rs,h2,e2,λμ2 H2 ws s2 R2 q2=>?_⟩
  cases q2 with
  |nil=>exact zad e3
  | @cons rr w rs' ws' qr q2=>
   cases q2 with
   |cons _ _=>exact zad e3
   | nil=>
    (delta meth at e3;(try dsimp only at e3);simp only[zab] at e3)
    obtain⟨d,h3,e4,e5⟩:=e3;obtain⟨s3,R3,zd⟩:=zlx R2 qr e4;have ea2:=s2.pre l a ea
    split at e5
    ·rename_i xs hx
     split at e5
     ·rename_i hlen
      simp only[Z3,ZO] at e5;obtain⟨rfl,rfl⟩:=e5;obtain⟨vs3,hH3,z3⟩:=R3.placeL ea2 hx rfl
      have hlen':vs3.length<sizeLine:=by
       have:=z3.length
       have h4:xs.length<big:=of_decide_eq_true hlen;have h5:big=sizeLine:=rfl;simp only[Ob.items] at this;omega
      refine⟨a,vs3,w,rfl,rfl,hH3,hlen',?_⟩;obtain⟨s4,R4⟩:=write R3 ea2 hx (z3.app (RepDs.one zd));exact k μ2 _ .non (((s1.trans s2).trans s3).trans s4) R4 (by simp only[RepR,RepD])
     ·cases e5
    ·cases e5
def spF(K:Z7)(np:Nat)(m:List R->M R):Sp:=λvs H Q _=>vs.length=np/\∃μ h rs,Rep K μ h H/\zaL K μ h H rs vs/\Post K μ h H (RepR K) (m rs h) Q
structure zeN(X:Cx)(n:Nat)(x:Str)(np:Nat)(dfl:List D)(m:List R->M R):Prop where
 ex:∃f fd ps dvs,FnOk X.prog X.w X.K X.mg X.base CX0 n f fd ps (spF X.K np m)/\X.mg x=some (.ref f)/\Y0 X.K (.ref f)=true/\(∀A H,RepDs X.K A H dfl dvs)/\(∀j,j<=dfl.length->∃ds,zcm X.K fd ps ds/\Vals (dvs.drop j) ds)
 fill:∀rs,m rs=m (zao np dfl rs)
 len:∀rs h p,m rs h=some p->(zao np dfl rs).length=np
theorem zaP(h:rs.length+dfl.length<np):zao np dfl rs=rs:=by unfold zao;rw[if_pos h]
theorem zaF(h:¬rs.length+dfl.length<np):zao np dfl rs=rs++(dfl.drop (rs.length+dfl.length-np)).map R.d:=by unfold zao;rw[if_neg h]
theorem zaL.app(a:zaL K μ h H rs vs)(b:zaL K μ h H ss ws):zaL K μ h H (rs++ss) (vs++ws):=by
 induction a with|nil=>exact b|cons q _ ih=>exact .cons q ih
theorem RepDs.rs:∀{ds:List D} {vs:List V},RepDs K (Live μ h) H ds vs->zaL K μ h H (ds.map R.d) vs| [],vs,q=>by simp only[RepDs] at q;subst q;exact .nil|x::xs,vs,q=>by simp only[RepDs] at q;obtain⟨v,r,rfl,h1,h2⟩:=q;exact .cons h1 h2.rs
theorem zhx{p pos:Pos}{fs:IT.Env->M (List R)}(hF:zeN X n x np dfl m)(hr:Room n X.A)(hg:Gl X x)(ha:IA X (e::es) fs)(hf:∀σ h rs h',fs σ h=some (rs,h')->rs.length=(e::es).length)
  (hdb:(x==("__debug__":Str))=false) (he:ZT (e::es) X.env=(false,eval e X.env)::ZT es X.env) (hpl:(backTo pos (ZT es X.env)).any (·.1)=false):
  IE X (.Call (.Name x p) (e::es) [] pos) (λσ=>bnd (fs σ) λrs=>m rs):=by
 obtain⟨f,fd,ps,dvs,F,hm,hk,hd,hb⟩:=hF.ex
 by_cases hj:(e::es).length+dfl.length-np<=dfl.length/\¬(e::es).length+dfl.length<np
 ·obtain ⟨hj,hj2⟩:=hj
  obtain⟨ds,hb,hv⟩:=hb _ hj;refine PE.imp (ze3 F hr hg hm hk hb hv zlc ha hdb he hpl) λσ H Q q0=>?_;obtain⟨μ,h,env,R0,re,r,h',ee,k⟩:=q0;simp only[zab] at ee;obtain⟨rs,h1,e1,e2⟩:=ee;refine⟨μ,h,env,R0,re,rs,h1,e1,λμ1 H1 vs s1 R1 q1=>?_⟩;have hlen:=hF.len _ _ _ e2;rw[hF.fill rs] at e2
  have qq:zaL X.K μ1 h1 H1 (zao np dfl rs) (vs++dvs.drop ((e::es).length+dfl.length-np)):=by
   rw[zaF (by rw[hf _ _ _ _ e1];exact hj2),hf _ _ _ _ e1]
   exact q1.app (RepDs.drop _ (hd _ _)).rs
  exact⟨by rw[<-qq.length];exact hlen,μ1,h1,zao np dfl rs,R1,qq,r,h',e2,λμ2 H2 v s2 R2 q2=>k μ2 H2 v (s1.trans s2) R2 q2⟩
 ·obtain ⟨ds,hb,hv⟩:=hb dfl.length (ZZ _)
  refine PE.imp (ze3 F hr hg hm hk hb hv zlc ha hdb he hpl) λσ H Q q0=>?_;obtain⟨μ,h,env,R0,re,r,h',ee,k⟩:=q0;simp only[zab] at ee;obtain⟨rs,h1,e1,e2⟩:=ee;refine⟨μ,h,env,R0,re,rs,h1,e1,λμ1 H1 vs s1 R1 q1=>?_⟩
  exfalso
  have hlen:=hF.len _ _ _ e2;have hrs:=hf _ _ _ _ e1
  by_cases hs:rs.length+dfl.length<np
  ·rw [zaP hs] at hlen
   omega
  ·rw [zaF hs] at hlen
   simp only[Zw,ZR,YN] at hlen;omega
theorem zmr(hF:zeN X n x np dfl m)(hr:Room n X.A)(hg:Gl X x)(hdb:(x==("__debug__":Str))=false):IE X (.Call (.Name x p) [] [] pos) (λ_=>m []):=by
 obtain⟨f,fd,ps,dvs,F,hm,hk,hd,hb⟩:=hF.ex
 by_cases hj:dfl.length-np<=dfl.length/\¬dfl.length<np
 ·obtain ⟨hj,hj2⟩:=hj
  obtain⟨ds,hb,hv⟩:=hb _ hj;refine PE.imp (zii F hr hg hm hk hb hv zlc hdb) λσ H Q q0=>?_;obtain⟨μ,h,env,R0,re,r,h',e2,k⟩:=q0;have hlen:=hF.len _ _ _ e2;rw[hF.fill []] at e2
  have qq:zaL X.K μ h H (zao np dfl []) ([]++dvs.drop (dfl.length-np)):=by rw[zaF (by simpa using hj2)];simp only[UI,YH,Nat.zero_add];exact(RepDs.drop _ (hd _ _)).rs
  exact⟨by rw[<-qq.length];exact hlen,μ,h,zao np dfl [],R0,qq,r,h',e2,k⟩
 ·obtain ⟨ds,hb,hv⟩:=hb dfl.length (ZZ _)
  refine PE.imp (zii F hr hg hm hk hb hv zlc hdb) λσ H Q q0=>?_;obtain⟨μ,h,env,R0,re,r,h',e2,k⟩:=q0
  exfalso
  have hlen:=hF.len _ _ _ e2
  by_cases hs:([]:List R).length+dfl.length<np
  ·rw [zaP hs] at hlen
   simp at hlen hs;omega
  ·simp at hs
   omega
inductive tG(K:Z7)(t:Tg)(v:V)(σ:St)(H:Hp)(Q:St->Hp->Prop):Prop where|mk (μ:List Addr) (h:Sto) (env:IT.Env) (r:R) (env':IT.Env) (R0:Rep K μ h H) (re:RepE K μ h H env σ) (qr:RepR K μ h H r v) (e:bindT t r env h=some (env',h)) (k:∀σ',RepE K μ h H env' σ'->Q σ' H)
inductive tGs(K:Z7)(ts:List Tg)(vs:List V)(σ:St)(H:Hp)(Q:St->Hp->Prop):Prop where|mk (μ:List Addr) (h:Sto) (env:IT.Env) (xs:List D) (env':IT.Env) (R0:Rep K μ h H) (re:RepE K μ h H env σ) (qr:RepDs K (Live μ h) H xs vs) (e:bindTs ts xs env h=some (env',h)) (k:∀σ',RepE K μ h H env' σ'->Q σ' H)
theorem PG.imp(h:PG X tg t)(i:∀v σ H Q,t' v σ H Q->t v σ H Q):PG X tg t':=λpins s σ H v u Q I r q=>h pins s σ H v u Q I r (i v σ H Q q)
theorem PGs.imp(h:PGs X tg t)(i:∀v σ H Q,t' v σ H Q->t v σ H Q):PGs X tg t':=λpins s σ H v u Q I r q=>h pins s σ H v u Q I r (i v σ H Q q)
theorem znK(hN:X.N.Nodup)(hi:X.N[i]?=some x)(hx:Loc X.env.scope x)(hf:X.fn x=true\/X.env.scope.names.lookup x=some .local):PG X (.Name x pos) (tG X.K (.name i)):=by refine PG.imp (zhb hN hi hx hf) λv σ H Q q_=>?_;obtain⟨μ,h,env,r,env',R0,re,qr,e,k⟩:=q_;simp only[bindT,zac] at e;obtain⟨rfl,_⟩:=e;exact k _ (re.set i qr)
theorem znB:PGs X [] (tGs X.K []):=by
 refine PGs.imp zk6 λvs σ H Q q_=>?_;obtain⟨μ,h,env,xs,env',R0,re,qx,e,k⟩:=q_
 cases xs with|nil=>simp only[RepDs] at qx;simp only[bindTs,zac] at e;obtain⟨rfl,_⟩:=e;exact⟨qx,k σ re⟩|cons _ _=>exact zad e
theorem zaS:∀(t:Tg) (r:R) (env env':IT.Env) (h h':Sto),bindT t r env h=some (env',h')->h'=h:=by
 intro t
 refine Tg.rec (motive_1:=λt=>∀(r:R) (env env':IT.Env) (h h':Sto),bindT t r env h=some (env',h')->h'=h)
  (motive_2:=λts=>∀(xs:List D) (env env':IT.Env) (h h':Sto),bindTs ts xs env h=some (env',h')->h'=h) ?_ ?_ ?_ ?_ t
 ·intro i r env env' h h' e
  simp only[bindT,zac] at e;exact e.2.symm
 ·intro ts ih r env env' h h' e
  simp only[bindT,zab] at e;obtain⟨d,h1,e1,e2⟩:=e
  have hh:h1=h:=by
   cases r with|d x=>simp only[rd,zac] at e1;exact e1.2.symm|loc l=>exact(zez e1).choose_spec.2.2.2
  subst hh
  cases d with|tup xs=>exact ih xs env env' _ h' e2|_=>cases e2
 ·intro xs env env' h h' e
  cases xs with|nil=>simp only[bindTs,zac] at e;exact e.2.symm|cons _ _=>exact zad e
 ·intro t ts iht ihts xs env env' h h' e
  cases xs with
  |nil=>exact zad e
  |cons x xs=>
   simp only[bindTs,zab] at e;obtain⟨env1,h1,e1,e2⟩:=e
   have:=iht _ _ _ _ _ e1
   subst this;exact ihts _ _ _ _ _ e2
theorem zct:∀(ts:List Tg) (xs:List D) (env env':IT.Env) (h h':Sto),bindTs ts xs env h=some (env',h')->xs.length=ts.length| [],[],_,_,_,_,_=>rfl| [],_::_,_,_,_,_,e=>by exact zad e|_::_,[],_,_,_,_,e=>by exact zad e|t::ts,x::xs,env,env',h,h',e=>by simp only[bindTs,zab] at e;obtain⟨env1,h2,e3,e4⟩:=e;simp only[ZP];rw[zct ts xs env1 env' h2 h' e4]
theorem zlk(h1:PG X e (tG X.K t))(h2:PGs X es (tGs X.K ts))(hs:(Y9 (e::es) X.env).map (·.2)=assign e X.env::(Y9 es X.env).map (·.2)):PGs X (e::es) (tGs X.K (t::ts)):=by
 refine PGs.imp (zfu h1 h2 hs) λvs σ H Q q_=>?_;obtain⟨μ,h,env,xs,env',R0,re,qx,e,k⟩:=q_
 cases xs with
 |nil=>exact zad e
 |cons x xs=>
  simp only[RepDs] at qx;obtain⟨v,r,rfl,q1,q2⟩:=qx;simp only[bindTs,zab] at e;obtain⟨env1,h1',e1,e2⟩:=e
  have:=zaS _ _ _ _ _ _ e1
  subst this;refine⟨v,r,rfl,μ,_,env,.d x,env1,R0,re,q1,e1,λσ1 re1=>⟨μ,_,env1,xs,env',R0,re1,q2,e2,k⟩⟩
theorem zqp(hc:X.calm=true)(h:PGs X es (tGs X.K ts))(hl:es.length=ts.length)(hn:(Y9 es X.env).length=es.length)(hst:(Y9 es X.env).findIdx? (·.1)=none):PG X (.Tuple es n pos) (tG X.K (.tup ts)):=by
 refine PG.imp (zne (n:=es.length) hc h hn hst) λv σ H Q q_=>?_;obtain⟨μ,h,env,r,env',R0,re,qr,e,k⟩:=q_;simp only[bindT,zab] at e;obtain⟨d,h1,e1,e2⟩:=e;obtain⟨rfl,zd⟩:=zaU R0 qr e1
 cases d with|tup xs=>simp only[RdD,RepD] at zd;obtain⟨a,vs,rfl,q1,z1⟩:=zd;refine⟨a,vs,rfl,q1,?_,μ,_,env,xs,env',R0,re,z1,e2,k⟩;rw[<-z1.length,hl];exact zct _ _ _ _ _ _ e2|_=>cases e2
def RepI(K:Z7)(μ:List Addr)(h:Sto)(H:Hp):Ite->V->Prop|.r r,v=>RepR K μ h H r v|.en i r,v=>∃p w,v=.ref p/\H p=some (.tup [.int i,w])/\RepR K μ h H r w
inductive tGI(K:Z7)(t:Tg)(v:V)(σ:St)(H:Hp)(Q:St->Hp->Prop):Prop where|mk (μ:List Addr) (h:Sto) (env:IT.Env) (x:Ite) (env':IT.Env) (R0:Rep K μ h H) (re:RepE K μ h H env σ) (qx:RepI K μ h H x v) (e:zaq t x env h=some (env',h)) (k:∀σ',RepE K μ h H env' σ'->Q σ' H)
inductive tGe(K:Z7)(a b:Tg)(vs:List V)(σ:St)(H:Hp)(Q:St->Hp->Prop):Prop where|mk (μ:List Addr) (h:Sto) (env:IT.Env) (i:Int) (r:R) (w:V) (env1 env':IT.Env) (R0:Rep K μ h H) (re:RepE K μ h H env σ) (ev:vs=[.int i,w]) (qr:RepR K μ h H r w) (e1:bindT a (.d (.int i)) env h=some (env1,h)) (e2:bindT b r env1 h=some (env',h)) (k:∀σ',RepE K μ h H env' σ'->Q σ' H)
theorem zrw(ha:PG X ea (tG X.K a))(hb:PG X eb (tG X.K b))(h1:(Y9 [ea,eb] X.env).map (·.2)=assign ea X.env::(Y9 [eb] X.env).map (·.2))(h2:(Y9 [eb] X.env).map (·.2)=assign eb X.env::(Y9 [] X.env).map (·.2)):PGs X [ea,eb] (tGe X.K a b):=by refine PGs.imp (zfu ha (zfu hb zk6 h2) h1) λvs σ H Q q0=>?_;obtain⟨μ,h,env,i,r,w,env1,env',R0,re,rfl,qr,e1,e2,k⟩:=q0;exact⟨.int i,[w],rfl,μ,h,env,.d (.int i),env1,R0,re,by simp only[RepR,RepD],e1,λσ1 re1=>⟨w,[],rfl,μ,h,env1,r,env',R0,re1,qr,e2,λσ2 re2=>⟨rfl,k σ2 re2⟩⟩⟩
theorem zcr(e:zaq t x env h=some (env',h')):h'=h:=by
 cases x with
 |r r=>rw[zaq] at e;exact zaS _ _ _ _ _ _ e
 | en i r=>
  match t,e with
  |.tup [a,b],e=>
   rw[zaq,zab] at e;obtain⟨env1,h1,e1,e2⟩:=e
   have:=zaS _ _ _ _ _ _ e1
   subst this;exact zaS _ _ _ _ _ _ e2
  |.name _,e=>exact zad e|.tup [],e=>exact zad e|.tup [_],e=>exact zad e|.tup (_::_::_::_),e=>exact zad e
theorem zl7(hg:PG X e (tG X.K (.name i))):PG X e (tGI X.K (.name i)):=by
 refine PG.imp hg λv σ H Q q0=>?_;obtain⟨μ,h,env,x,env',R0,re,qx,eb,k⟩:=q0
 cases x with|r r=>exact⟨μ,h,env,r,env',R0,re,qx,by rw[zaq] at eb;exact eb,k⟩|en i r=>exact zad eb
theorem zoa(hn:ts.length≠2)(hg:PG X e (tG X.K (.tup ts))):PG X e (tGI X.K (.tup ts)):=by
 refine PG.imp hg λv σ H Q q0=>?_;obtain⟨μ,h,env,x,env',R0,re,qx,eb,k⟩:=q0
 cases x with
 |r r=>exact⟨μ,h,env,r,env',R0,re,qx,by rw[zaq] at eb;exact eb,k⟩
 |en i r=>
  match ts,hn,eb with| [],_,eb=>exact zad eb| [_],_,eb=>exact zad eb| [_,_],hn,_=>exact absurd rfl hn|_::_::_::_,_,eb=>exact zad eb
theorem zoF(hc:X.calm=true)(hs:PGs X [ea,eb] (tGs X.K [a,b]))(he:PGs X [ea,eb] (tGe X.K a b))(hn:(Y9 [ea,eb] X.env).length=2)(hst:(Y9 [ea,eb] X.env).findIdx? (·.1)=none):PG X (.Tuple [ea,eb] n pos) (tGI X.K (.tup [a,b])):=by
 have both:PGs X [ea,eb] (λvs σ H Q=>tGs X.K [a,b] vs σ H Q\/tGe X.K a b vs σ H Q):=λpins s σ H v u Q I r q=>by
  rcases q with q | q
  ·exact hs pins s σ H v u Q I r q
  ·exact he pins s σ H v u Q I r q
 refine PG.imp (zne (n:=2) hc both hn hst) λv σ H Q q0=>?_;obtain⟨μ,h,env,x,env',R0,re,qx,eb,k⟩:=q0
 cases x with
 | r r=>
  rw[zaq] at eb;simp only[bindT,zab] at eb;obtain⟨d,h1,e1,e2⟩:=eb;obtain⟨rfl,zd⟩:=zaU R0 qx e1
  cases d with|tup xs=>simp only[RdD,RepD] at zd;obtain⟨p,vs,rfl,q1,z1⟩:=zd;refine⟨p,vs,rfl,q1,?_,.inl ⟨μ,_,env,xs,env',R0,re,z1,e2,k⟩⟩;rw[<-z1.length];exact zct _ _ _ _ _ _ e2|_=>cases e2
 |en i r=>
  obtain⟨p,w,rfl,hp,qr⟩:=qx;rw[zaq,zab] at eb;obtain⟨env1,h1,e1,e2⟩:=eb
  have:=zaS _ _ _ _ _ _ e1
  subst this;exact⟨p,[.int i,w],rfl,SqT.of hp,rfl,.inr ⟨μ,_,env,i,r,w,env1,env',R0,re,rfl,qr,e1,e2,k⟩⟩
end
structure Wlk(K:Z7)(J:L2.It)(w:Wk)(μ:List Addr)(h:Sto)(H:Hp):Prop where
 go:∀μ1 h1 H1 (i:Nat) x,Stp μ h H μ1 h1 H1->Rep K μ1 h1 H1->zaA w.l h h1=true->w.xs[i]?=some x->J.go i H1/\∀v H',J.yld i H1 v H'->Stp μ1 h1 H1 μ1 h1 H'/\Rep K μ1 h1 H'/\RepI K μ1 h1 H' x v
 stop:∀μ1 h1 H1,Stp μ h H μ1 h1 H1->Rep K μ1 h1 H1->zaA w.l h h1=true->J.stop w.xs.length H1
theorem zfS{xs:List D}{i:Nat}(e:(xs.map dI)[i]?=some x):∃d,xs[i]?=some d/\x=.r (.d d):=by rw[Zp,YS] at e;obtain⟨d,e1,e2⟩:=e;exact⟨d,e1,e2.symm⟩
section
variable {K:Z7}{μ:List Addr}{h:Sto}{H:Hp}
theorem zmq{a:Addr}{xs:List D}(R0:Rep K μ h H)(q:LsR K (Live μ h) H a vs)(z:RepDs K (Live μ h) H xs vs):Wlk K (Itl K a) ⟨xs.map dI,none⟩ μ h H:=by
 refine⟨λμ1 h1 H1 i x st R1 _ e=>?_,λμ1 h1 H1 st R1 _=>?_⟩
 ·obtain ⟨d,ed,rfl⟩:=zfS e
  have q1:=st.lsR q;have z1:=RepDs.stp st R0 z;obtain⟨v,e1,z2⟩:=z1.get ed;refine⟨⟨vs,v,q1.sq,e1⟩,λv' H' q_=>?_⟩;obtain⟨hH,hv⟩:=q_;subst hH
  have:=hv vs q1.sq
  rw[e1] at this;cases this;exact⟨Stp.refl,R1,z2⟩
 ·exact⟨vs,(st.lsR q).sq,by rw[ZR,<-z.length];exact ZZ _⟩
theorem znE{a:Addr}{xs:List D}(R0:Rep K μ h H)(q:SqT K H a vs)(z:RepDs K (Live μ h) H xs vs):Wlk K (Itt K a) ⟨xs.map dI,none⟩ μ h H:=by
 have qs:∀μ1 h1 H1,Stp μ h H μ1 h1 H1->SqT K H1 a vs:=λμ1 h1 H1 st=>q.imp (st.rdT R0 a vs) λz=>z;refine⟨λμ1 h1 H1 i x st R1 _ e=>?_,λμ1 h1 H1 st R1 _=>?_⟩
 ·obtain ⟨d,ed,rfl⟩:=zfS e
  have q1:=qs _ _ _ st;have z1:=RepDs.stp st R0 z;obtain⟨v,e1,z2⟩:=z1.get ed;refine⟨⟨vs,v,q1,e1⟩,λv' H' q_=>?_⟩;obtain⟨hH,hv⟩:=q_;subst hH
  have:=hv vs q1
  rw[e1] at this;cases this;exact⟨Stp.refl,R1,z2⟩
 ·exact⟨vs,qs _ _ _ st,by rw[ZR,<-z.length];exact ZZ _⟩
theorem Ob.same_isL{o o':Ob}(s:o.same o'=true)(il:o.isL=true):o'.isL=true/\o'.items=o.items:=by
 cases o with|lst xs=>simp only[Ob.same,Z8] at s;exact⟨s.1,(D.sames_eq _ _ s.2).symm⟩|fro xs=>simp only[Ob.same,Z8] at s;exact⟨s.1,(D.sames_eq _ _ s.2).symm⟩|ins _ _=>cases il|ols _=>cases il|fnc _=>cases il|tab=>cases il
theorem zfg(ho:h[l]?=some o)(s:zaA (some l) h h1=true):∃o',h1[l]?=some o'/\o.same o'=true:=by
 simp only[zaA,ho] at s
 cases q:h1[l]? with|none=>rw[q] at s;cases s|some o'=>rw[q] at s;exact⟨o',rfl,s⟩
theorem zoS{a:Addr}{l:Nat}(R0:Rep K μ h H)(ea:μ[l]?=some a)(ho:h[l]?=some o)(il:o.isL=true):Wlk K (Itl K a) ⟨o.items.map dI,some l⟩ μ h H:=by
 refine⟨λμ1 h1 H1 i x st R1 sy e=>?_,λμ1 h1 H1 st R1 sy=>?_⟩
 ·obtain ⟨d,ed,rfl⟩:=zfS e
  obtain⟨o',ho',eo⟩:=zfg ho sy;obtain⟨il',eo⟩:=Ob.same_isL eo il;obtain⟨vs,q1,z1⟩:=R1.placeL (st.pre l a ea) ho' il';rw[eo] at z1;obtain⟨v,e1,z2⟩:=z1.get ed;refine⟨⟨vs,v,.inl (.inl q1),e1⟩,λv' H' q_=>?_⟩;obtain⟨hH,hv⟩:=q_;subst hH
  have:=hv vs (.inl (.inl q1))
  rw[e1] at this;cases this;exact⟨Stp.refl,R1,z2⟩
 ·obtain ⟨o',ho',eo⟩:=zfg ho sy
  obtain⟨il',eo⟩:=Ob.same_isL eo il;obtain⟨vs,q1,z1⟩:=R1.placeL (st.pre l a ea) ho' il';rw[eo] at z1
  exact⟨vs,.inl (.inl q1),by rw[ZR,<-z1.length];exact ZZ _⟩
theorem zeo{α β:Type}{F:α->β->Prop}:∀{xs:List α} {ys:List β} {i:Nat} {x:α},Paired F xs ys->xs[i]?=some x->∃y,ys[i]?=some y/\F x y|_,_,_,_,.nil,e=>by simp at e|_,_,0,_,.cons r _,e=>by simp at e;subst e;exact⟨_,rfl,r⟩|_,_,i+1,x,.cons _ t,e=>by obtain⟨y,h1,h2⟩:=zeo (i:=i) (x:=x) t (by simpa using e);exact⟨y,by simpa using h1,h2⟩
theorem znC{l:Nat}{ls:List Nat}(R0:Rep K μ h H)(ea:μ[l]?=some a)(ho:h[l]?=some (.ols ls)):Wlk K (Itl K a) ⟨ls.map λl=>.r (.loc l),some l⟩ μ h H:=by
 have at1:∀μ1 h1 H1,Stp μ h H μ1 h1 H1->Rep K μ1 h1 H1->zaA (some l) h h1=true->∃vs,H1 a=some (.lst vs)/\Paired (λ(l:Nat) (v:V)=>∃b,μ1[l]?=some b/\v=.ref b) ls vs:=by
  intro μ1 h1 H1 st R1 sy;obtain⟨o',ho',eo⟩:=zfg ho sy
  cases o' with
  |ols ls'=>
   simp only[Ob.same] at eo
   have:=ZX eo
   subst this;exact R1.obj l a _ (st.pre l a ea) ho'
  |_=>cases eo
 refine⟨λμ1 h1 H1 i x st R1 sy e=>?_,λμ1 h1 H1 st R1 sy=>?_⟩
 ·rw [Zp,YS] at e
  obtain⟨k,e,rfl⟩:=e;obtain⟨vs,q1,z1⟩:=at1 _ _ _ st R1 sy;obtain⟨v,e1,b,eb,rfl⟩:=zeo z1 e;refine⟨⟨vs,.ref b,.inl (.inl q1),e1⟩,λv' H' q_=>?_⟩;obtain⟨hH,hv⟩:=q_;subst hH
  have:=hv vs (.inl (.inl q1))
  rw[e1] at this;cases this;exact⟨Stp.refl,R1,b,eb,rfl⟩
 ·obtain ⟨vs,q1,z1⟩:=at1 _ _ _ st R1 sy
  exact⟨vs,.inl (.inl q1),by rw[ZR,<-z1.length];exact ZZ _⟩
theorem zgF:∀(n:Nat) (lo:Int) (i:Nat) (x:D),(zbT lo n)[i]?=some x->i<n/\x=.int (lo+i)
 |0,lo,i,x,e=>by simp[zbT] at e
 | n+1,lo,i,x,e=>by
  cases i with
  |zero=>simp[zbT] at e;exact⟨by omega,by rw[<-e];simp⟩
  |succ i=>
   simp only[zbT,X4] at e;obtain⟨h1,h2⟩:=zgF n (lo+1) i x e;refine⟨by omega,?_⟩;rw[h2]
   congr 1
   push_cast
   omega
theorem zd1:∀(n:Nat) (lo:Int),(zbT lo n).length=n|0,_=>rfl|n+1,lo=>by simp[zbT,zd1 n]
theorem zoo(lo:Int)(n:Nat):Wlk K (Itr lo n) ⟨(zbT lo n).map dI,none⟩ μ h H:=by
 refine⟨λμ1 h1 H1 i x st R1 _ e=>?_,λμ1 h1 H1 st R1 _=>?_⟩
 ·obtain ⟨d,ed,rfl⟩:=zfS e
  obtain⟨h1',rfl⟩:=zgF n lo i d ed
  exact⟨h1',λv H' ⟨hH,hv⟩=>by subst hH;exact⟨Stp.refl,R1,by rw[hv];simp only[RepI,RepR,RepD]⟩⟩
 ·show n<=((zbT lo n).map dI).length
  rw[ZR,zd1];exact ZZ _
end
def Its(x:Str):L2.It:=⟨λi _=>i<x.cps.size,λi H v H'=>H'=H/\∃c,x.cps[i]?=some c/\v=.str ⟨#[c]⟩,λi _=>x.cps.size<=i⟩
theorem zo5{K:Z7}{μ:List Addr}(x:List Nat):Wlk K (Its (zaa x)) ⟨(x.map λc=>D.str [c]).map dI,none⟩ μ h H:=by
 refine⟨λμ1 h1 H1 i d st R1 _ e=>?_,λμ1 h1 H1 st R1 _=>?_⟩
 ·obtain ⟨d,ed,rfl⟩:=zfS e
  simp only[Zp,YS] at ed;obtain⟨c,hc,rfl⟩:=ed;refine⟨?_,λv H' ⟨hH,c',hc',hv⟩=>?_⟩
  ·show i<x.toArray.size
   simpa using(Z2.mp hc).1
  ·subst hH
   refine⟨Stp.refl,R1,?_⟩
   have e2:x[i]?=some c':=by simpa[zaa] using hc'
   rw[hc] at e2;cases e2;rw[hv];simp only[RepI,RepR,RepD];rfl
 ·show x.toArray.size<=_
  simp
theorem zmL(x:Str)(t:Tok)(it:Addr):Turn P w K tg (Its x) [it] it (λi h=>h.IsStrIter it (Wt x) x t i) where
 mem:=by simp
 obj:=λi h st b hb=>by
  have e:b=it:=by simpa using hb
  subst e;obtain⟨o,e,c,d⟩:=st
  exact⟨o,e,λv z=>by rw[d] at z;cases z⟩
 keep:=λi h h' st k=>by obtain⟨o,e,r⟩:=st;exact⟨o,k it (by simp) o e,r⟩
 item:=by
  intro X hP hw hK hc i pins s σ H E I hf st hg;subst hP hw hK;obtain⟨f0,f1,f2,f3,f4,f5⟩:=hf it (by simp);have hg':i<x.cps.size:=hg;obtain⟨c,hx⟩:∃c,x.cps[i]?=some c:=⟨x.cps[i]'hg',by simp⟩
  have go:∀h',h'.IsStrIter it (Wt x) x t (i+1)->Yc it s.heap h'->∃u,some (Yp ⟨#[c]⟩ s.toks)=some u ∧
    wpAny (model X.prog X.w) X.A (WI tg (.ref it) u) (λ_ s2=>∃x' H',Inv X pins σ H' s2/\RelV x' u/\(Its x).yld i H x' H'/\s2.heap.IsStrIter it (Wt x) x t (i+1)/\∀b∈[it],H' b=none) E {s with heap:=h',toks:=s.toks+1}:=by
   intro h' st' sb;have I1:Inv X pins σ H {s with heap:=h',toks:=s.toks+1}:=I.turned (t':=s.toks+1) (λb o hb e=>(sb.2 b hb).trans e) f0 f1 f3 f4 f5;obtain⟨o,e,cl,d⟩:=id st';refine⟨_,rfl,zmc (s:={s with heap:=h',toks:=s.toks+1}) e cl d ?_ ⟨.str ⟨#[c]⟩,H,I1,⟨_,rfl⟩,⟨rfl,_,hx,rfl⟩,st',λb hb=>(hf b hb).1⟩⟩;unfold Wt
   split<;>decide
  unfold Wt at st go⊢
  split at st
  ·rename_i ha
   simp only[ha,if_true] at go⊢;exact wpAny_pyNext_ascii_item st hx go
  ·rename_i ha
   simp only[ha] at go⊢;exact wpAny_pyNext_wide_item st hx go
 done:=by
  intro X hP hw hK hc i pins s σ H E I hf st hg;subst hP hw hK;obtain⟨f0,f1,f2,f3,f4,f5⟩:=hf it (by simp)
  have hx:x.cps[i]?=none:=by
   have hg':x.cps.size<=i:=hg
   simp;omega
  unfold Wt at st
  split at st
  ·exact wpAny_pyNext_ascii_end (I.ok.hd hc) st hx λh' eb=>⟨rfl,I.turned (t':=s.toks) (λb o hb e=>eb b o hb e) f0 f1 f3 f4 f5⟩
  ·exact wpAny_pyNext_wide_end (I.ok.hd hc) st hx λh' eb=>⟨rfl,I.turned (t':=s.toks) (λb o hb e=>eb b o hb e) f0 f1 f3 f4 f5⟩
 self:=λ_ _ _ _ _ st h=>by
  unfold Wt at st
  split at st
  ·exact wpAny_pyIter_striter_ascii st h
  ·exact wpAny_pyIter_striter_wide st h
inductive tI(K:Z7)(f:IT.Env->M Wk)(σ:St)(H:Hp)(R:It->Hp->Prop):Prop where|mk (μ:List Addr) (h:Sto) (env:IT.Env) (R0:Rep K μ h H) (re:RepE K μ h H env σ) (w:Wk) (h':Sto) (e:f env h=some (w,h')) (k:∀μ' H' J,Stp μ h H μ' h' H'->Rep K μ' h' H'->Wlk K J w μ' h' H'->w.xs.length<=sizeLine->R J H')
section
variable {X:Cx}{tg:Expr}
theorem PI.imp(h:PI X tg l t)(i:∀σ H R,t' σ H R->t σ H R):PI X tg l t':=λpins s σ H R I q=>h pins s σ H R I (i σ H R q)
theorem zqH(hl:PE X l tl):PI X tg l (λσ H R=>tl σ H λx H1=>(∃a xs,x=.ref a/\SqL X.K H1 a xs/\(xs.length<=sizeLine->R (Itl X.K a) H1))\/(∃a xs,x=.ref a/\SqT X.K H1 a xs/\(xs.length<=sizeLine->R (Itt X.K a) H1))\/(∃z:Str,x=.str z/\R (Its z) H1)):=by
 intro pins s σ H R I h;refine thn (hl pins s σ H _ I h) λv s1 q_=>?_;obtain⟨x,H1,I1,r1,q1⟩:=q_
 rcases q1 with⟨a,xs,e,hq,q⟩|⟨a,xs,e,hq,q⟩|⟨z,e,q⟩
 ·subst e
  cases r1;obtain⟨its,rv,p,hz⟩:=I1.list hq;refine Wj p.isList ?_;refine⟨s1.heap.objs.size,[s1.heap.objs.size],_,_,H1,rfl,I1.kept (t':=s1.toks) λb o e=>Z5 _ e,zkZ a _,⟨_,ZH _ rfl,rfl,rfl⟩,λb hb=>?_,q hz⟩
  have e:b=s1.heap.objs.size:=by simpa using hb
  subst e;exact I1.fpOk (ZZ _) (I1.hok.fresh (ZZ _))
 ·subst e
  cases r1;obtain⟨its,rv,p,hz⟩:=I1.tuple hq;refine wpAny_pyIter_tuple (show s1.heap.IsTuple a its.toArray from p) ?_;refine⟨s1.heap.objs.size,[s1.heap.objs.size],_,_,H1,rfl,I1.kept (t':=s1.toks) λb o e=>Z5 _ e,ziT a _,⟨_,ZH _ rfl,rfl,rfl⟩,λb hb=>?_,q hz⟩
  have e:b=s1.heap.objs.size:=by simpa using hb
  subst e;exact I1.fpOk (ZZ _) (I1.hok.fresh (ZZ _))
 ·subst e
  obtain⟨t,rfl⟩:=(show ∃t',v=Yp z t' from r1);refine wpAny_pyIter_strU ?_;refine⟨s1.heap.objs.size,[s1.heap.objs.size],_,_,H1,rfl,I1.kept (t':=s1.toks) λb o e=>Z5 _ e,zmL z t _,⟨_,ZH _ rfl,rfl,rfl⟩,λb hb=>?_,q⟩
  have e:b=s1.heap.objs.size:=by simpa using hb
  subst e;exact I1.fpOk (ZZ _) (I1.hok.fresh (ZZ _))
theorem zeH(e:zcH r h=some (o,h')):h'=h/\match o with
  |some ls=>∃l,r=.loc l/\h[l]?=some (.ols ls)
  |none=>True:=by
 cases r with
 |d x=>simp only[zcH,Z3,ZO] at e;obtain⟨rfl,rfl⟩:=e;exact⟨rfl,trivial⟩
 | loc l=>
  (delta zcH at e;(try dsimp only at e))
  split at e
  ·rename_i ls hl
   simp only[Z3,ZO] at e;obtain⟨rfl,rfl⟩:=e;exact⟨rfl,l,rfl,hl⟩
  ·simp only[Z3,ZO] at e
   obtain⟨rfl,rfl⟩:=e;exact⟨rfl,trivial⟩
def WkIs(K:Z7)(v:V)(w:Wk)(μ:List Addr)(h:Sto)(H:Hp):Prop:=(∃a vs,v=.ref a/\SqL K H a vs/\vs.length=w.xs.length/\Wlk K (Itl K a) w μ h H)\/(∃a vs,v=.ref a/\SqT K H a vs/\vs.length=w.xs.length/\Wlk K (Itt K a) w μ h H)\/(∃z:Str,v=.str z/\w.xs.length<=sizeLine/\Wlk K (Its z) w μ h H)
theorem zrz(R1:Rep K μ h H)(q1:RepR K μ h H r v)(e:wkAny r h=some (w,h')):h'=h/\WkIs K v w μ h H:=by
 (delta wkAny at e;simp only[zab] at e)
 obtain⟨o,h1,e1,e2⟩:=e;obtain⟨rfl,ho⟩:=zeH e1
 cases o with
 |some ls=>
  obtain⟨l,rfl,ho⟩:=ho;obtain⟨a,ea,rfl⟩:=q1;simp only[zac] at e2;obtain⟨rfl,rfl⟩:=e2;obtain⟨vs,q2,z2⟩:=R1.obj l a _ ea ho
  exact⟨rfl,.inl ⟨a,vs,rfl,.inl (.inl q2),by rw[ZR];exact z2.length.symm,znC R1 ea ho⟩⟩
 | none=>
  simp only[zab] at e2;obtain⟨d,h2,e3,e4⟩:=e2
  cases r with
  |loc l=>
   obtain⟨a,ea,rfl⟩:=q1;obtain⟨o,ho,il,rfl,rfl⟩:=zez e3;obtain⟨vs,q2,z2⟩:=R1.placeL ea ho il
   (delta wkOf items at e4;(try dsimp only at e4);simp only[zac] at e4)
   obtain⟨rfl,rfl⟩:=e4
   exact⟨rfl,.inl ⟨a,vs,rfl,.inl (.inl q2),by rw[ZR];exact z2.length.symm,zoS R1 ea ho il⟩⟩
  | d x=>
   simp only[rd,zac] at e3;obtain⟨rfl,rfl⟩:=e3
   cases x with
   |tup xs=>
    (delta wkOf items at e4;(try dsimp only at e4);simp only[zac] at e4)
    obtain⟨rfl,rfl⟩:=e4;simp only[RepR,RepD] at q1;obtain⟨a,vs,rfl,q2,z2⟩:=q1
    exact⟨rfl,.inr (.inl ⟨a,vs,rfl,q2,by rw[ZR];exact z2.length.symm,znE R1 q2 z2⟩)⟩
   |lst xs=>
    (delta wkOf items at e4;(try dsimp only at e4);simp only[zac] at e4)
    obtain⟨rfl,rfl⟩:=e4;simp only[RepR,RepD] at q1;obtain⟨a,vs,rfl,q2,z2⟩:=q1
    exact⟨rfl,.inl ⟨a,vs,rfl,q2.sq,by rw[ZR];exact z2.length.symm,zmq R1 q2 z2⟩⟩
   | str xs=>
    (delta wkOf items at e4;(try dsimp only at e4))
    split at e4
    ·rename_i hf
     obtain⟨rfl,rfl⟩:=zac.mp e4;simp only[RepR,RepD] at q1;subst q1
     exact⟨rfl,.inr (.inr ⟨zaa xs,rfl,by rw[ZR,ZR];exact of_decide_eq_true hf,zo5 xs⟩)⟩
    ·cases e4
   |_=>exact zad e4
theorem zpX(hl:IE X l f):PI X tg l (tI X.K λσ=>bnd (f σ) λr=>wkAny r):=by
 refine PI.imp (zqH hl) λσ H R q0=>?_;obtain⟨μ,h,env,R0,re,w,h',e,k⟩:=q0;simp only[zab] at e;obtain⟨r,h1,e1,e2⟩:=e;refine⟨μ,h,env,R0,re,r,h1,e1,λμ1 H1 v s1 R1 q1=>?_⟩;obtain⟨rfl,W⟩:=zrz R1 q1 e2
 rcases W with⟨a,vs,rfl,q2,hl,W⟩|⟨a,vs,rfl,q2,hl,W⟩|⟨z,rfl,hz,W⟩
 ·exact .inl ⟨a,vs,rfl,q2,λhz=>k μ1 H1 _ s1 R1 W (by rw[<-hl];exact hz)⟩
 ·exact .inr (.inl ⟨a,vs,rfl,q2,λhz=>k μ1 H1 _ s1 R1 W (by rw[<-hl];exact hz)⟩)
 ·exact .inr (.inr ⟨z,rfl,k μ1 H1 _ s1 R1 W hz⟩)
theorem zqW(hg:Gl X "range")(hm:X.mg "range"=none)(ha:IE X e f)(hs:ZT [e] X.env=[(false,eval e X.env)]):PI X tg (.Call (.Name "range" p) [e] [] pos) (tI X.K λσ=>bnd (f σ) λr=>rngOf r):=by
 refine PI.imp (zjE hg hm (zax ha za1 hs) hs) λσ H R q0=>?_;obtain⟨μ,h,env,R0,re,w,h',e,k⟩:=q0;simp only[zab] at e;obtain⟨r,h1,e1,e2⟩:=e;refine⟨μ,h,env,R0,re,r,h1,e1,λμ1 H1 v s1 R1 q1=>?_⟩
 (delta rngOf at e2;(try dsimp only at e2))
 split at e2
 ·rename_i n
  split at e2
  ·rename_i hb
   rw[Z8] at hb;obtain⟨rfl,rfl⟩:=zac.mp e2;simp only[RepR,RepD] at q1;have h3:n<=16777216:=of_decide_eq_true hb.2
   exact⟨n,by rw[q1],of_decide_eq_true hb.1,by omega,k μ1 H1 _ s1 R1 (zoo 0 n.toNat) (by show((zbT 0 n.toNat).map dI).length<=sizeLine;rw[ZR,zd1];show n.toNat<=16777216;omega)⟩
  ·cases e2
 ·cases e2
def zrX(K:Z7)(μ:List Addr)(h:Sto)(D:Ends)(fl:Fl)(σ:St)(H:Hp):Prop:=match fl with|.nx=>D.nx σ H|.brk=>D.bk σ H|.cnt=>D.ct σ H|.ret r=>∀v,RepR K μ h H r v->D.rt v H
inductive tS(K:Z7)(f:IT.Env->M (Fl×IT.Env))(D:Ends)(σ:St)(H:Hp):Prop where|mk (μ:List Addr) (h:Sto) (env:IT.Env) (R0:Rep K μ h H) (re:RepE K μ h H env σ) (fl:Fl) (env':IT.Env) (h':Sto) (e:f env h=some ((fl,env'),h')) (k:∀μ' H' σ',Stp μ h H μ' h' H'->Rep K μ' h' H'->RepE K μ' h' H' env' σ'->zrX K μ' h' D fl σ' H')
theorem PS.imp(h:PS X st t)(i:∀D σ H,t' D σ H->t D σ H):PS X st t':=λpins s σ H D I q=>h pins s σ H D I (i D σ H q)
theorem PSs.imp(h:PSs X st t)(i:∀D σ H,t' D σ H->t D σ H):PSs X st t':=λpins s σ H D I q=>h pins s σ H D I (i D σ H q)
theorem znn(he:IE X e f):PS X (.Return (some e) pos) (tS X.K λσ=>bnd (f σ) λr=>ok (.ret r,σ)):=by refine PS.imp (zeG he) λD σ H q0=>?_;obtain⟨μ,h,env,R0,re,fl,env',h',e,k⟩:=q0;simp only[zab,zac,ZO] at e;obtain⟨r,h1,e1,⟨rfl,rfl⟩,rfl⟩:=e;exact⟨μ,h,env,R0,re,r,h1,e1,λμ1 H1 v s1 R1 q1=>k μ1 H1 σ s1 R1 (re.stp s1 R0) v q1⟩
theorem zqc(he:IE X e f)(hs:Wx e none pos.line X.env=pure false):PS X (.Expr e pos) (tS X.K λσ=>bnd (f σ) λ_=>ok (.nx,σ)):=by refine PS.imp (zgZ he hs) λD σ H q0=>?_;obtain⟨μ,h,env,R0,re,fl,env',h',e,k⟩:=q0;simp only[zab,zac,ZO] at e;obtain⟨r,h1,e1,⟨rfl,rfl⟩,rfl⟩:=e;exact⟨μ,h,env,R0,re,r,h1,e1,λμ1 H1 v s1 R1 q1=>k μ1 H1 σ s1 R1 (re.stp s1 R0)⟩
theorem zmU(he:IE X e f)(hg:PG X tge (tG X.K t))(hs:U9 [tge] e pos.line X.env=pure false)(hw:U8 [tge] e X.env=pure none)(h1:(Y9 [tge] X.env).map (·.2)=[assign tge X.env]):
  PS X (.Assign [tge] e pos) (tS X.K λσ=>bnd (f σ) λr=>bnd (bindT t r σ) λσ'=>ok (.nx,σ')):=by
 refine PS.imp (zli he hg hs hw h1) λD σ H q0=>?_;obtain⟨μ,h,env,R0,re,fl,env',h',e,k⟩:=q0;simp only[zab,zac,ZO] at e;obtain⟨r,h1,e1,env1,h2,e2,⟨rfl,rfl⟩,rfl⟩:=e
 have:=zaS _ _ _ _ _ _ e2
 subst this;exact⟨μ,h,env,R0,re,r,_,e1,λμ1 H1 v s1 R1 q1=>⟨μ1,_,env,r,env1,R1,re.stp s1 R0,q1,e2,λσ' re'=>k μ1 H1 σ' s1 R1 re'⟩⟩
theorem znN(he:IE X e f)(ho:IE X o g)(hi:IE X i k)
  (ha:∀v,assign (.Subscript o i p2) X.env v=(do let ov<-holding [v] (eval o X.env);let iv<-holding [v,ov] (eval i X.env);Vk p2;holding [v,ov,iv] (setItem ov iv v);release [v,ov,iv] []))
  (hs:U9 [.Subscript o i p2] e pos.line X.env=pure false) (hw:U8 [.Subscript o i p2] e X.env=pure none) (h1:(Y9 [.Subscript o i p2] X.env).map (·.2)=[assign (.Subscript o i p2) X.env]):
  PS X (.Assign [.Subscript o i p2] e pos) (tS X.K λσ=>bnd (f σ) λr=>bnd (g σ) λx=>bnd (k σ) λy=>bnd (fz r) λd=>bnd (rd y) λy=>bnd (zd6 x y d) λ_=>ok (.nx,σ)):=by
 refine PS.imp (zli he (zqr ho hi zmN ha) hs hw h1) λD σ H q0=>?_;obtain⟨μ,h,env,R0,re,fl,env',h',e,kk⟩:=q0;simp only[zab,zac,ZO] at e;obtain⟨r,h1,e1,x,h2,e2,y,h3,e3,d,h4,e4,dy,h5,e5,_,h6,e6,⟨rfl,rfl⟩,rfl⟩:=e;refine⟨μ,h,env,R0,re,r,h1,e1,λμ1 H1 v s1 R1 q1=>⟨μ1,h1,env,R1,re.stp s1 R0,x,h2,e2,λμ2 H2 u s2 R2 q2=>⟨μ2,h2,env,R2,re.stp (s1.trans s2) R0,y,h3,e3,λμ3 H3 w s3 R3 q3=>?_⟩⟩⟩;obtain⟨s4,R4,zd⟩:=zlx R3 ((q1.stp s2 R1).stp s3 R2) e4;obtain⟨rfl,zy⟩:=zaU R4 (q3.stp s4 R3) e5
 (delta zd6 at e6;(try dsimp only at e6))
 split at e6
 ·rename_i l k'
  obtain⟨a,ea,rfl⟩:=(q2.stp s3 R2).stp s4 R3
  split at e6
  ·rename_i xs hx
   split at e6
   ·rename_i j hj
    simp only[Z3,ZO] at e6;obtain⟨_,rfl⟩:=e6;obtain⟨vs4,hH4,z4⟩:=R4.placeL ea hx rfl;simp only[RdD,RepD] at zy
    refine⟨a,vs4,k',j,rfl,zy,hH4,by rw[<-z4.length];exact hj,?_⟩
    obtain⟨s5,R5⟩:=write R4 ea hx (z4.set zd j);exact kk μ3 _ σ ((((s1.trans s2).trans s3).trans s4).trans s5) R5 (re.stp ((((s1.trans s2).trans s3).trans s4).trans s5) R0)
   ·cases e6
  ·cases e6
 ·cases e6
theorem zrv(hc:IT' X c ft)(ha:PSs X a (tS X.K fa))(hb:PSs X b (tS X.K fb)):
  PS X (.If c a b pos) (tS X.K λσ=>bnd (ft σ) λt=>if t then fa σ else fb σ):=by
 refine PS.imp (zpc hc ha hb) λD σ H q0=>?_;obtain⟨μ,h,env,R0,re,fl,env',h',e,k⟩:=q0;simp only[zab] at e;obtain⟨t,h1,e1,e2⟩:=e;refine⟨μ,h,env,R0,re,t,h1,e1,λμ1 H1 v s1 R1 hv=>?_⟩;subst hv
 cases t with|true=>simp only[if_true] at e2⊢;exact⟨μ1,h1,env,R1,re.stp s1 R0,fl,env',h',e2,λμ2 H2 σ2 s2 R2 q2=>k μ2 H2 σ2 (s1.trans s2) R2 q2⟩|false=>simp only[Z1,if_false] at e2⊢;exact⟨μ1,h1,env,R1,re.stp s1 R0,fl,env',h',e2,λμ2 H2 σ2 s2 R2 q2=>k μ2 H2 σ2 (s1.trans s2) R2 q2⟩
theorem zla:PSs X [] (tS X.K λσ=>ok (.nx,σ)):=by refine PSs.imp zku λD σ H q0=>?_;obtain⟨μ,h,env,R0,re,fl,env',h',e,k⟩:=q0;simp only[zac,ZO] at e;obtain⟨⟨rfl,rfl⟩,rfl⟩:=e;exact k μ H σ Stp.refl R0 re
theorem zeY(h1:PS X st (tS X.K f))(h2:PSs X sts (tS X.K g)):PSs X (st::sts) (tS X.K λσ=>bnd (f σ) λp=>match p.1 with | .nx=>g p.2 | _=>ok p):=by
 refine PSs.imp (zdd h1 h2) λD σ H q0=>?_;obtain⟨μ,h,env,R0,re,fl,env',h',e,k⟩:=q0;simp only[zab] at e;obtain⟨⟨fl1,env1⟩,h1,e1,e2⟩:=e;refine⟨μ,h,env,R0,re,fl1,env1,h1,e1,λμ1 H1 σ1 s1 R1 q1=>?_⟩
 cases fl1 with|nx=>exact⟨μ1,h1,env1,R1,q1,fl,env',h',e2,λμ2 H2 σ2 s2 R2 q2=>k μ2 H2 σ2 (s1.trans s2) R2 q2⟩|brk=>simp only[zac,ZO] at e2;obtain⟨⟨rfl,rfl⟩,rfl⟩:=e2;exact k μ1 H1 σ1 s1 R1 q1|cnt=>simp only[zac,ZO] at e2;obtain⟨⟨rfl,rfl⟩,rfl⟩:=e2;exact k μ1 H1 σ1 s1 R1 q1|ret r=>simp only[zac,ZO] at e2;obtain⟨⟨rfl,rfl⟩,rfl⟩:=e2;exact k μ1 H1 σ1 s1 R1 q1
theorem Ob.same_refl{o:Ob}(n:∀c fs,o≠.ins c fs):o.same o=true:=by
 cases o with|lst xs=>simp only[Ob.same,Ob.isL,Ob.items,XR];exact D.sames_refl _|fro xs=>simp only[Ob.same,Ob.isL,Ob.items,XR];exact D.sames_refl _|ins c fs=>exact absurd rfl (n c fs)|ols ls=>simp only[Ob.same,beq_self_eq_true]|fnc x=>simp only[Ob.same,beq_self_eq_true]|tab=>rfl
theorem Ob.same_trans{a b c:Ob}(h1:a.same b=true)(h2:b.same c=true):a.same c=true:=by
 cases a with
 |ins _ _=>cases h1
 |fnc x=>
  cases b with|fnc y=>have e:=ZX (show(x==y)=true from h1);subst e;exact h2|_=>cases h1
 |tab=>
  cases b with|tab=>exact h2|_=>cases h1
 |ols ls=>
  cases b with|ols ls'=>simp only[Ob.same] at h1;have:=ZX h1;subst this;exact h2|_=>cases h1
 |lst xs=>obtain⟨i1,e1⟩:=Ob.same_isL h1 rfl;obtain⟨i2,e2⟩:=Ob.same_isL h2 i1;simp only[Ob.same,i2,XR];rw[e2,e1];exact D.sames_refl _|fro xs=>obtain⟨i1,e1⟩:=Ob.same_isL h1 rfl;obtain⟨i2,e2⟩:=Ob.same_isL h2 i1;simp only[Ob.same,i2,XR];rw[e2,e1];exact D.sames_refl _
def WlOk(w:Wk)(h:Sto):Prop:=∀i,w.l=some i->∃o,h[i]?=some o/\∀c fs,o≠.ins c fs
theorem zcI(l:Option Nat)(h:Sto)(hl:∀i,l=some i->∃o,h[i]?=some o/\∀c fs,o≠.ins c fs):zaA l h h=true:=by
 cases l with|none=>rfl|some i=>obtain⟨o,ho,n⟩:=hl i rfl;simp only[zaA,ho];exact Ob.same_refl n
theorem zaK(a:zaA l h h1=true)(b:zaA l h1 h2=true):zaA l h h2=true:=by
 cases l with
 |none=>rfl
 | some i=>
  simp only[zaA] at a b⊢
  cases e0:h[i]? with
  |none=>rw[e0] at a;cases a
  | some o0=>
   cases e1:h1[i]? with
   |none=>rw[e0,e1] at a;cases a
   | some o1=>
    cases e2:h2[i]? with|none=>rw[e1,e2] at b;cases b|some o2=>rw[e0,e1] at a;rw[e1,e2] at b;exact Ob.same_trans a b
theorem zqk(hp:U3 (model X.prog X.w) X.A X.env X.xe)(hc:X.calm=true)(hi:PI X tg iter (tI X.K fi))(hg:PG X tg (tGI X.K t))(hb:PSs X body (tS X.K fb))
  (hs:∀x,Ys iter X.env x=pure x) (hwl:∀σ h w h',fi σ h=some (w,h')->WlOk w h'):
  PS X (.For tg iter body [] pos) (tS X.K λσ=>bnd (fi σ) λw=>loop w.l (λx σ=>bnd (zaq t x σ) λσ'=>fb σ') w.xs σ):=by
 refine PS.imp (zmV hp hc hi hg hb hs) λD σ H q0=>?_;obtain⟨μ,h,env,R0,re,fl,env',h',e,k⟩:=q0;simp only[zab] at e;obtain⟨w,h1,e1,e2⟩:=e;refine⟨μ,h,env,R0,re,w,h1,e1,λμ1 H1 J s1 R1 W1 _=>?_⟩
 refine ⟨λi m σ2 H2=>∃μ2 h2 env2,Stp μ1 h1 H1 μ2 h2 H2/\zaA w.l h1 h2=true/\Rep X.K μ2 h2 H2/\RepE X.K μ2 h2 H2 env2 σ2/\i+m=w.xs.length ∧
   loop w.l (λx σ=>bnd (zaq t x σ) λσ'=>fb σ') (w.xs.drop i) env2 h2=some ((fl,env'),h'),⟨w.xs.length,μ1,h1,env,Stp.refl,zcI _ _ (hwl _ _ _ _ e1),R1,re.stp s1 R0,by omega,by rw[XM];exact e2⟩,?_⟩
 rintro i m σ2 H2 ⟨μ2,h2,env2,s2,sy2,R2,re2,him,el⟩
 cases hx:w.xs[i]? with
 |none=>
  have hi':w.xs.length<=i:=by simpa using hx
  have hi2:i=w.xs.length:=by omega
  subst hi2;rw[XX (ZZ _)] at el;simp only[loop,zac,ZO] at el;obtain⟨⟨rfl,rfl⟩,rfl⟩:=el;exact .inl ⟨W1.stop μ2 h2 H2 s2 R2 sy2,k μ2 H2 σ2 (s1.trans s2) R2 re2⟩
 | some x=>
  have hil:i<w.xs.length:=(Z2.mp hx).1
  have hdrop:w.xs.drop i=x::w.xs.drop (i+1):=by
   rw[XG hil]
   have:=(Z2.mp hx).2
   rw[this]
  rw[hdrop] at el;simp only[loop] at el;obtain⟨go,yld⟩:=W1.go μ2 h2 H2 i x s2 R2 sy2 hx
  cases ef:bnd (zaq t x env2) (λσ'=>fb σ') h2 with
  |none=>rw[ef] at el;cases el
  | some p=>
   obtain⟨⟨fl3,env3⟩,h3⟩:=p;rw[ef] at el;simp only[zab] at ef;obtain⟨env4,h4,e4,e5⟩:=ef
   have:=zcr e4
   subst this
   refine .inr ⟨go,λσ' H'=>∃m',m'<m/\∃μ5 h5 env5,Stp μ1 h1 H1 μ5 h5 H'/\zaA w.l h1 h5=true/\Rep X.K μ5 h5 H'/\RepE X.K μ5 h5 H' env5 σ'/\(i+1)+m'=w.xs.length ∧
    loop w.l (λx σ=>bnd (zaq t x σ) λσ'=>fb σ') (w.xs.drop (i+1)) env5 h5=some ((fl,env'),h'),λσ' H' hN=>hN,λv H' hy=>?_⟩
   obtain⟨sy,Ry,zx⟩:=yld v H' hy;refine⟨μ2,_,env2,x,env4,Ry,re2.stp sy R2,zx,e4,λσ4 re4=>⟨μ2,_,env4,Ry,re4,fl3,env3,h3,e5,λμ5 H5 σ5 s5' R5 re5=>?_⟩⟩;have s5:=sy.trans s5'
   cases fl3 with
   | nx=>
    simp only at el
    split at el
    ·rename_i sy5
     exact⟨m-1,by omega,μ5,h3,env3,s2.trans s5,zaK sy2 sy5,R5,re5,by omega,el⟩
    ·cases el
   | cnt=>
    simp only at el
    split at el
    ·rename_i sy5
     exact⟨m-1,by omega,μ5,h3,env3,s2.trans s5,zaK sy2 sy5,R5,re5,by omega,el⟩
    ·cases el
   |brk=>simp only[Z3,ZO] at el;obtain⟨⟨rfl,rfl⟩,rfl⟩:=el;exact k μ5 H5 σ5 ((s1.trans s2).trans s5) R5 re5|ret r=>simp only[Z3,ZO] at el;obtain⟨⟨rfl,rfl⟩,rfl⟩:=el;exact k μ5 H5 σ5 ((s1.trans s2).trans s5) R5 re5
end
end IT
namespace PySem
section
variable {prog:ZB}{w:World}{A:Around}{R:Result->Shared->Prop}{s:Shared}
theorem zgR(I:Nat->Shared->Prop)
  (turn : ∀n s,I n s->wpAny (model prog w) A (pyNext it) (λr s₁=>match r with
   |none=>R (.ok .next) s₁
   | some v=>wpAny (model prog w) A (WI target it v) (λ_ s₁'=>wpAny (model prog w) A (assign target env v) (λ_ s₂=>
     wpAny (model prog w) A (forIn ifs true λc r=>if r=true then do let ok<-isTrue c env (eval c env);pure (XZ ok) else pure (XZ r)) (λok s₃=>
      if ok=true then wpAny (model prog w) A (eval elt env) (λx s₄=>wpAny (model prog w) A (call (.builtin "list.append") [acc,x]) (λ_ s₅=>∃m,m<n/\I m s₅) (λ_ _=>False) s₄) (λ_ _=>False) s₃
      else ∃m,m<n/\I m s₃) (λ_ _=>False) s₂) (λ_ _=>False) s₁') (λ_ _=>False) s₁) (λ_ _=>False) s)
  (n:Nat) (h:I n s):
  Xs (model prog w) A (.compLoop (.ListComp elt [⟨target,iter,ifs,0⟩] scope pos) 0 it acc env) R s:=by
 refine codeAny_loop rfl I (λn s hI=>?_) n h
 show wpAny _ A ((compTurn (.ListComp elt [⟨target,iter,ifs,0⟩] scope pos) 0 it acc env).onRaise (λx=>do Ut x env;theTreesLotGoes x)) _ _ s
 refine wpAny_noted ?_;rw[compTurn_list];refine Z9 (V6 (Z9 (ZC (turn n s hI) (λr s₁ h₁=>?_) λ_ _ h'=>h'.elim)))
 cases r with
 |none=>exact Z6 h₁
 | some v=>
  refine Z9 (ZC h₁ (λ_ s₁' h₁'=>?_) λ_ _ h'=>h'.elim);refine Z9 (ZC h₁' (λ_ s₂ h₂=>Z9 (ZC h₂ (λok s₃ h₃=>?_) λ_ _ h'=>h'.elim)) λ_ _ h'=>h'.elim)
  cases ok with|false=>exact Z6 ⟨rfl,h₃⟩|true=>exact Z9 (Z9 (ZC h₃ (λx s₄ h₄=>Z9 (ZC h₄ (λ_ s₅ h₅=>Z6 (Z6 ⟨rfl,h₅⟩)) λ_ _ h'=>h'.elim)) λ_ _ h'=>h'.elim))
end
theorem zbf(h:∀x∈scope.names,x.2=.free->∃c,env.cells.lookup x.1=some c):
  ∃cl,UO scope env=pure cl/\(∀x c,cl.lookup x=some c->env.cells.lookup x=some c)/\∀x∈scope.names,x.2=.free->∃c,cl.lookup x.1=some c:=by
 unfold UO
 have gen:∀(l:List (Str×Xn)) (cs:List (Str×Addr)),(∀x∈l,x.2=.free->∃c,env.cells.lookup x.1=some c)->(∀x c,cs.lookup x=some c->env.cells.lookup x=some c) →
   ∃ cl,(forIn l cs λ(x:Str×Xn) (r:List (Str×Addr))=>(if x.2==.free then do let c<-cellOf env x.1;pure (XZ ((x.1,c)::r)) else pure (XZ r):Sem (ForInStep (List (Str×Addr)))))=pure cl ∧
    (∀x c,cl.lookup x=some c->env.cells.lookup x=some c)/\(∀x c,cs.lookup x=some c->∃c',cl.lookup x=some c')/\∀x∈l,x.2=.free->∃c,cl.lookup x.1=some c:=by
  intro l
  induction l with
  |nil=>intro cs _ h2;exact⟨cs,rfl,h2,λx c e=>⟨c,e⟩,λx hx=>absurd hx (by simp)⟩
  | cons y l ih=>
   intro cs h1 h2
   by_cases hy:y.2=.free
   ·obtain ⟨c,hc⟩:=h1 y (by simp) hy
    have hcell:cellOf env y.1=pure c:=by unfold cellOf;rw[hc]
    obtain ⟨cl,e,a1,a2,a3⟩:=ih ((y.1,c)::cs) (λx hx=>h1 x (by simp[hx])) (λx c' e=>by
     rw[Zq] at e
     split at e
     ·rename_i hb
      cases e;rw[ZX hb];exact hc
     ·exact h2 x c' e)
    refine⟨cl,?_,a1,λx c' e'=>?_,λx hx hf=>?_⟩
    ·rw [UH,if_pos (by rw[hy];rfl),hcell]
     exact e
    ·by_cases hb:(x==y.1)=true
     ·exact a2 x c (by rw[Zq,hb])
     ·exact a2 x c' (by rw[Zq];simp only[UZ] at hb;rw[hb];exact e')
    ·rcases ZJ.mp hx with rfl | hx
     ·exact a2 x.1 c (by rw[Zq];simp)
     ·exact a3 x hx hf
   ·obtain ⟨cl,e,a1,a2,a3⟩:=ih cs (λx hx=>h1 x (by simp[hx])) h2
    refine⟨cl,?_,a1,a2,λx hx hf=>?_⟩
    ·rw [UH,if_neg (by intro z;exact hy (ZX z))]
     exact e
    ·rcases ZJ.mp hx with rfl | hx
     ·exact absurd hf hy
     ·exact a3 x hx hf
 obtain⟨cl,e,a1,_,a3⟩:=gen scope.names [] h (λx c e=>by simp at e);refine⟨cl,?_,a1,a3⟩
 show(forIn scope.names ([]:List (Str×Addr)) (λ(x:Str×Xn) (r:List (Str×Addr))=>(if x.2==.free then do let c<-cellOf env x.1;pure (XZ ((x.1,c)::r)) else pure (XZ r):Sem (ForInStep (List (Str×Addr))))) >>= λcs=>pure cs)=pure cl
 rw[e];rfl
end PySem
namespace IT
open PySem PySem.Spec L2
def clrS:List Nat->St->St| [],σ=>σ|i::r,σ=>clrS r (σ.set i none)
theorem zfb:∀(own:List Nat) (σ:St),(clrS own σ).length=σ.length| [],_=>rfl|i::r,σ=>by simp[clrS,zfb r]
theorem zfz:∀(own:List Nat) (σ:St) (i:Nat) (v:V),(clrS own σ)[i]?=some (some v)->σ[i]?=some (some v)/\i∉own
 | [],σ,i,v,e=>⟨e,by simp⟩
 | j::r,σ,i,v,e=>by
  obtain⟨e1,n1⟩:=zfz r (σ.set j none) i v e
  by_cases hij:i=j
  ·subst hij
   rw[Wi] at e1;simp only[if_true] at e1
   split at e1<;>cases e1
  ·rw [Zr (Za hij)] at e1
   exact⟨e1,by simp[hij,n1]⟩
def blk(X:Cx)(N':List Str)(s₂:Shared)(H₂:Hp)(cenv:Yv)(fp:List Addr)(pins:List (Addr×Obj)):Cx:={X with N:=N',s₀:=s₂,H₀:=H₂,env:=cenv,outer:=X.stack,ex:=fp,fn:=λ_=>false,pn:=X.pn++pins}
def PTs(X:Cx)(ifs:List Expr)(t:TT):Prop:=
 ∀ (pins:List (Addr×Obj)) (s:Shared) (σ:St) (H:Hp) (Q:Bool->Hp->Prop),Inv X pins σ H s->t σ H Q →
  wpAny (model X.prog X.w) X.A (forIn ifs true λc r=>if r=true then do let ok<-isTrue c X.env (eval c X.env);pure (XZ ok) else pure (XZ r)) (TP X pins σ Q) X.xe s
theorem zok:PTs X [] (λ_ H Q=>Q true H):=λpins s σ H Q I q=>wpAny_tests_nil ⟨H,I,q⟩
theorem zow(h:PT X c t):PTs X [c] t:=λpins s σ H Q I q=>wpAny_tests_one (h pins s σ H Q I q)
def zhe(wi:TI)(own:List Nat)(g:TG)(tc:TT)(te:TE):TE:=λσ H Q=>wi σ H λJ H1=>∃W:Nat->Nat->List V->Hp->Prop,(∃m,W 0 m [] H1)/\∀i m vs H,W i m vs H →
 (J.stop i H/\vs.length<=sizeLine/\∀a,H a=none->Q (.ref a) (upd H a (.lst vs)))\/
 (J.go i H/\vs.length<sizeLine/\∀x H',J.yld i H x H'->g x (clrS own σ) H' λσ2 H2=>tc σ2 H2 λb H3=>if b=true then te σ2 H3 λv H4=>∃m',m'<m/\W (i+1) m' (vs++[v]) H4 else ∃m',m'<m/\W (i+1) m' vs H3)
section
variable {X:Cx}
theorem zm8{cl:List (Str×Addr)}(hcell:∀y∈scope.names,y.2≠.cell)(hcl2:∀x∈scope.names,x.2=.free->∃c,cl.lookup x.1=some c):∀x,Vis (relabel scope X.env) x->(relabel scope X.env).names.lookup x≠some .local->∃c,cl.lookup x=some c:=by
 intro x hv hnl
 have : ∀(l:List (Str×Xn)),(∀y∈l,y.2≠.cell)->(∀y∈l,y.2=.free->∃c,cl.lookup y.1=some c)->∀k,(k=.cell\/k=.free) →
   (l.map λ(n,k)=>if(k==V4&&X.env.scope.kind==.function&&X.env.kindOf n==some .cell) then(n,Xn.cell) else(n,k)).lookup x=some k->∃c,cl.lookup x=some c:=by
  intro l
  induction l with
  |nil=>intro _ _ k _ e;simp at e
  | cons y l ih=>
   intro h1 h2 k hkk e;obtain⟨n,kd⟩:=y;rw[Zz] at e
   by_cases hb:(kd==V4&&X.env.scope.kind==.function&&X.env.kindOf n==some .cell)=true
   ·simp only[hb,if_true] at e
    rw[Zq] at e
    split at e
    ·rename_i hx
     rw[ZX hx];refine h2 (n,kd) (by simp) ?_;rw[Z8,Z8] at hb;exact ZX hb.1.1
    ·exact ih (λy hy=>h1 y (by simp[hy])) (λy hy=>h2 y (by simp[hy])) k hkk e
   ·simp only[hb] at e
    rw[Zq] at e
    split at e
    ·rename_i hx
     have e':kd=k:=by simpa using e
     subst e';rw[ZX hx]
     rcases hkk with z | z
     ·exact absurd z (h1 (n,kd) (by simp))
     ·exact h2 (n,kd) (by simp) z
    ·exact ih (λy hy=>h1 y (by simp[hy])) (λy hy=>h2 y (by simp[hy])) k hkk e
 rcases hv with z | z | z
 ·exact absurd z hnl
 ·exact this scope.names hcell hcl2 .cell (.inl rfl) z
 ·exact this scope.names hcell hcl2 .free (.inr rfl) z
theorem zoy{own:List Nat}{H₂:Hp}{s₂:Shared}{fp:List Addr}{h₄:Heap}{tk:Nat}
  (hkind:scope.kind=.function) (hcell:∀y∈scope.names,y.2≠.cell)
  (hN:∀(i:Nat) (x:Str),N'[i]?=some x->Vis (relabel scope X.env) x->i∈own\/(X.N[i]?=some x/\(X.env.kindOf x=some .cell\/X.env.kindOf x=some .free)/\(relabel scope X.env).names.lookup x≠some .local))
  (hlen:N'.length=X.N.length) (hcl1:∀x c,cl.lookup x=some c->X.env.cells.lookup x=some c) (hcl2:∀x∈scope.names,x.2=.free->∃c,cl.lookup x.1=some c)
  (I:Inv X pins σ H₂ s₂) (hf:∀b∈fp,FpOk X pins H₂ b) (hex:∀b∈fp,b<s₂.heap.objs.size)
  (hk:∀b o,s₂.heap.get? b=some o->h₄.get? b=some o) (hns:∃m,h₄.Ns (s₂.heap.objs.size+1) m) (hacc:h₄.get? s₂.heap.objs.size=some {cls:=.type "list",data:=.seq #[]}):
  Inv (blk X N' s₂ H₂ (YJ scope cl (s₂.heap.objs.size+1) X.env) fp pins) [(s₂.heap.objs.size,{cls:=.type "list",data:=.seq #[]})] (clrS own σ) H₂ {s₂ with heap:=h₄,toks:=tk}:=by
 have fsub:∀b∈frs X.stack,b=X.env.locals\/b∈X.fs:=λb hb=>ZJ.mp (I.stkSub b hb);have fresh:∀b,s₂.heap.objs.size<=b->H₂ b=none:=λb hb=>I.hok.fresh hb
 have flt:∀b∈frs X.stack,b<s₂.heap.objs.size:=λb hb=>by obtain⟨_,o,ho,_⟩:=I.stack.mem hb;exact ZW ho
 have vis_free:=zm8 (X:=X) hcell hcl2
 refine ⟨⟨I.ok.mod,?_,I.ok.glob,I.ok.blt,Ws _,λx y c e1 e2=>I.ok.inj x y c (hcl1 x c e1) (hcl1 y c e2),λx hx=>?_,λx c e=>absurd (show false=true from e) Zc,I.ok.hd,I.ok.frames,.inl rfl,λb hb=>⟨?_,λx c e=>?_⟩,I.bs,Zf I.ok.bsz I.sz,λb o e hb=>?_,λb hb hb2=>?_,I.stack,I.stkFree⟩,
  rfl,I.bare,Un.kept hk,?_,λx c e=>?_,fresh _ (Ws _),λx c e=>I.freeC x c (hcl1 x c e),λp hp=>?_,I.hok.kept hk,?_⟩
 ·exact hkind
 ·rcases hx with z | z
  ·exact vis_free x (.inr (.inl z)) (by
    have z':(relabel scope X.env).names.lookup x=some .cell:=z
    rw[z'];decide)
  ·exact vis_free x (.inr (.inr z)) (by
    have z':(relabel scope X.env).names.lookup x=some .free:=z
    rw[z'];decide)
 ·exact ZI (YB (hex b hb))
 ·exact(hf b hb).2.2.2.2.1 x c (hcl1 x c e)
 ·rcases (hf b hb).2.2.2.1 with z | z
  ·exact I.ok.noex b o e z
  ·have h1:b<X.base.objs.size:=ZW e
   have h2:=I.ok.bsz;exact absurd (ZE h1 (Zf h2 z)) (YO _)
 ·rcases fsub b hb2 with z | z
  ·exact(hf b hb).2.1 z
  ·exact(hf b hb).2.2.1 z
 ·obtain ⟨m,hm⟩:=hns
  obtain⟨mX,_,hl⟩:=I.loc;refine⟨m,hm,λi x v e1 e2 e3=>?_⟩;obtain⟨e2',ni⟩:=zfz own σ i v e2
  rcases hN i x e1 e3 with z|⟨z,zk,nl⟩
  ·exact absurd z ni
  ·have vx:Vis X.env.scope x:=by
    rcases zk with q | q
    ·exact .inr (.inl q)
    ·exact .inr (.inr q)
   obtain⟨u,ru,lk⟩:=hl i x v z e2' vx;refine⟨u,ru,?_⟩
   rcases lk with⟨q,_⟩|⟨_,c,ec,hcv⟩
   ·rcases zk with q' | q'
    ·rw[q] at q';cases q'
    ·rw[q] at q';cases q'
   ·obtain ⟨c',ec'⟩:=vis_free x e3 nl
    have:=hcl1 x c' ec'
    rw[ec] at this;cases this;refine .inr ⟨?_,c,ec',hcv.keeps hk⟩
    rcases e3 with q | q | q
    ·exact absurd q nl
    ·exact .inl q
    ·exact .inr q
 ·obtain ⟨v,q⟩:=I.cell x c (hcl1 x c e)
  exact⟨v,q.keeps hk⟩
 ·rcases Zd.mp hp with z | z
  ·obtain ⟨e1,e2,e3,e4,e5⟩:=I.pin p z
   refine⟨hk _ _ e1,e2,ZI (YB (ZW e1)),λhb=>?_,e5⟩
   rcases fsub p.1 hb with q | q
   ·exact e3 q
   ·exact e4 q
  ·have ep:p=(s₂.heap.objs.size,({cls:=.type "list",data:=.seq #[]}:Obj)):=by simpa using z
   subst ep;exact⟨hacc,fresh _ (ZZ _),ZI (WX _),λhb=>absurd (flt _ hb) (YO _),λv q=>by cases q⟩
 ·show (clrS own σ).length=N'.length
  rw[zfb,hlen];exact I.len
theorem zf4{own:List Nat}{σ σ':St}{H₂ H':Hp}{s₂ s':Shared}{fp:List Addr}
  (hcell:∀y∈scope.names,y.2≠.cell)
  (hN:∀(i:Nat) (x:Str),N'[i]?=some x->Vis (relabel scope X.env) x->i∈own\/(X.N[i]?=some x/\(X.env.kindOf x=some .cell\/X.env.kindOf x=some .free)/\(relabel scope X.env).names.lookup x≠some .local))
  (hlen:N'.length=X.N.length) (hcl1:∀x c,cl.lookup x=some c->X.env.cells.lookup x=some c) (hcl2:∀x∈scope.names,x.2=.free->∃c,cl.lookup x.1=some c)
  (I:Inv X pins σ H₂ s₂) (hf:∀b∈fp,FpOk X pins H₂ b) (J:Inv (blk X N' s₂ H₂ (YJ scope cl C X.env) fp pins) pl σ' H' s'):Inv (blk X N' s₂ H₂ (YJ scope cl C X.env) fp pins) pl (clrS own σ) H' s':=by
 refine⟨J.ok,J.os,J.bare,J.base,?_,J.cell,J.free,J.freeC,J.pin,J.hok,?_⟩
 ·obtain ⟨m,hm,_⟩:=J.loc
  obtain⟨mX,_,hl⟩:=I.loc;refine⟨m,hm,λi x v e1 e2 e3=>?_⟩;obtain⟨e2',ni⟩:=zfz own σ i v e2
  rcases hN i x e1 e3 with z|⟨z,zk,nl⟩
  ·exact absurd z ni
  ·have vx:Vis X.env.scope x:=by
    rcases zk with q | q
    ·exact .inr (.inl q)
    ·exact .inr (.inr q)
   obtain⟨u,ru,lk⟩:=hl i x v z e2' vx;refine⟨u,ru,?_⟩
   rcases lk with⟨q,_⟩|⟨_,c,ec,o,ho,hd⟩
   ·rcases zk with q' | q'
    ·rw[q] at q';cases q'
    ·rw[q] at q';cases q'
   ·obtain ⟨c',ec'⟩:=zm8 (X:=X) hcell hcl2 x e3 nl
    have:=hcl1 x c' ec'
    rw[ec] at this;cases this
    have hcv:s'.heap.IsCell c (some u):=by obtain⟨sl,q⟩:=J.base.any ho (I.freeC x c ec) λhb=>(hf c hb).2.2.2.2.1 x c ec rfl;exact⟨_,q,hd⟩
    refine .inr ⟨?_,c,ec',hcv⟩
    rcases e3 with q | q | q
    ·exact absurd q nl
    ·exact .inl q
    ·exact .inr q
 ·show (clrS own σ).length=N'.length
  rw[zfb,hlen];exact I.len
theorem zll
  (I:Inv X pins σ H₂ s₂) (hf:∀b∈fp,FpOk X pins H₂ b) (J:Inv (blk X N' s₂ H₂ cenv fp pins) pl σ' H' s') (hacc:s₂.heap.objs.size<=acc) (hn:H' acc=none)
  (ho:s'.heap.get? acc=some {cls:=.type "list",data:=.seq its.toArray n}) (r:Vals vs its) (hz:vs.length<=sizeLine):Inv X pins σ (upd H' acc (.lst vs)) s':=by
 have lt:∀b o,s₂.heap.get? b=some o->b≠acc:=λb o e z=>absurd (ZE (ZW e) (by rw[z];exact hacc)) (YO _)
 refine I.call' (ch:=fp) J.os ⟨J.base.keep,J.base.slot,λb o e n hx=>?_,J.base.there,λb xs e=>?_,λb o u e=>?_,λb ps e=>?_⟩ (λb u e=>?_) J.bare (λb hb=>?_)
 ·rw [zah (lt b o e)]
  exact J.base.free b o e n hx
 ·have:=J.base.tups b xs e
  rw[zah (zai this hn)];exact this
 ·have:=J.base.frzs b o u e
  rw[zah (zai this hn)];exact this
 ·obtain ⟨more,this⟩:=J.base.tbls b ps e
  refine⟨more,?_⟩;rw[zah (zai this hn)];exact this
 ·by_cases hb:b=acc
  ·subst hb
   rw[zak] at e;cases e;exact⟨hz,its,n,r,ho⟩
  ·rw [zah hb] at e
   exact(J.hok b u e).stay (λc o _ q=>q) (λc q=>by rw[zah (zai q hn)];exact q) λc xs q=>by rw[zah (zai q hn)];exact q
 ·obtain ⟨_,h1,_,h3,h4,h5⟩:=hf b hb
  exact⟨h3,h1,h4,h5⟩
end
section
variable {X:Cx}
structure Gone(X:Cx)(pins:List (Addr×Obj))(H:Hp)(C:Addr)(s:Shared):Prop where
 ns:∃m,s.heap.Ns C m
 free:H C=none
 loc:C≠X.env.locals
 fs:C∉X.fs
 new:X.s₀.heap.objs.size<=C
 cel:∀x c,X.env.cells.lookup x=some c->c≠C
 pin:∀p∈X.pn++pins,p.1≠C
inductive CI(P:List Value->Nat->Hp->Shared->Prop)(tn:Nat->Heap->Prop)(fp:List Addr)(W:Nat->Nat->List V->Hp->Prop)(n:Nat)(s':Shared):Prop|mk (i:Nat) (vs:List V) (H':Hp) (its:List Value) (nn:Nat) (J:P its nn H' s') (st:tn i s'.heap) (fr:∀b∈fp,H' b=none) (rv:Vals vs its) (w:W i n vs H')
theorem zgf
  {cl:List (Str×Addr)} {RR:Value->Addr->Result->Shared->Prop}
  (hx:X.xe=λ_ _=>False) (hc:X.calm=true) (hkind:scope.kind=.function) (hcell:∀y∈scope.names,y.2≠.cell)
  (hN:∀(i:Nat) (x:Str),N'[i]?=some x->Vis (relabel scope X.env) x->i∈own\/(X.N[i]?=some x/\(X.env.kindOf x=some .cell\/X.env.kindOf x=some .free)/\(relabel scope X.env).names.lookup x≠some .local))
  (hlen:N'.length=X.N.length) (hcl1:∀x c,cl.lookup x=some c->X.env.cells.lookup x=some c) (hcl2:∀x∈scope.names,x.2=.free->∃c,cl.lookup x.1=some c)
  (hi:PI X tg iter wi)
  (hB:∀s₂ H₂ C fp,PG (blk X N' s₂ H₂ (YJ scope cl C X.env) fp pins) tg g/\PTs (blk X N' s₂ H₂ (YJ scope cl C X.env) fp pins) ifs tc/\PE (blk X N' s₂ H₂ (YJ scope cl C X.env) fp pins) elt te)
  (I:Inv X pins σ H s) (q:zhe wi own g tc te σ H Q)
  (hRR:∀a C s' H',Inv X pins σ H' s'->Q (.ref a) H'->Gone X pins H' C s'->RR (.ref a) C (.ok .next) s'):
  wpAny (model X.prog X.w) X.A (eval iter X.env) (λx s₁=>wpAny (model X.prog X.w) X.A (pyIter x) (λit s₂=>wpAny (model X.prog X.w) X.A (newList []) (λacc s₃=>
   wpAny (model X.prog X.w) X.A (newFunctionEnv scope X.env.globals cl [] X.env.qual none .none (some X.env)) (λcenv s₄=>
    Xs (model X.prog X.w) X.A (.compStart (.ListComp elt [⟨tg,iter,ifs,0⟩] scope pos) 0 it acc {cenv with scope:=relabel scope X.env}) (RR acc cenv.locals) s₄) X.xe s₃) X.xe s₂) X.xe s₁) X.xe s:=by
 refine thn (hi pins s σ H _ I q) λv s1 h1=>thn h1 λitv s2 h2=>?_;obtain⟨it,fp,tn,J,H2,e,I2,T,st2,f2,W,⟨m0,w0⟩,turn⟩:=h2;subst e
 refine Yq (wpAny_newFunctionEnv hcell (by intro y hy;simp at hy) (λh₁ hns₁ hsb₁=>?_) hkind)
 dsimp only at hns₁ hsb₁⊢;generalize hG:s2.heap.push {cls:=.type "list",dict:=none,data:=.seq ([]:List Value).toArray}=G at hns₁ hsb₁⊢
 have hGs:G.objs.size=s2.heap.objs.size+1:=by rw[<-hG,Xo]
 rw[hGs] at hns₁ hsb₁⊢;have hold:∀b o,s2.heap.get? b=some o->h₁.get? b=some o:=λb o e=>hsb₁.extBut b o (ZI (YB (ZW e))) (Z5 _ (hG▸Z5 _ e));have hacc:h₁.get? s2.heap.objs.size=some {cls:=.type "list",data:=.seq #[]}:=hsb₁.extBut _ _ (ZI (WX _)) (Z5 _ (hG▸ZH _ rfl))
 have hex:∀b∈fp,b<s2.heap.objs.size:=λb hb=>by obtain⟨o,ho,_⟩:=T.obj _ _ st2 b hb;exact ZW ho
 have J0:=zoy (X:=X) (own:=own) (tk:=s2.toks+([]:List (Str×Value)).length) hkind hcell hN hlen hcl1 hcl2 I2 f2 hex hold ⟨_,hns₁⟩ hacc;have st4:tn 0 h₁:=T.keep _ _ _ st2 λb hb o e=>hold b o e
 have frame:∀b∈frs X.stack,b≠X.env.locals->b∈X.fs:=λb hb hne=>by
  rcases ZJ.mp (I2.stkSub b hb) with z | z
  ·exact absurd z hne
  ·exact z
 have stat:∀{H':Hp} {pl:List (Addr×Obj)},(∀b∈fp,H' b=none)->(∀p∈pl,∀b∈fp,p.1≠b)->∀b∈fp,FpOk (blk X N' s2 H2 (YJ scope cl (s2.heap.objs.size+1) X.env) fp pins) pl H' b:=by
  intro H' pl hn hp b hb;obtain⟨g0,g1,g2,g3,g4,g5⟩:=f2 b hb;refine⟨hn b hb,ZI (YB (hex b hb)),λhs=>?_,.inl hb,λx c e=>g4 x c (hcl1 x c e),λp hpp=>?_⟩
  ·exact g2 (frame b hs g1)
  ·rcases Zd.mp hpp with z | z
   ·exact g5 p z
   ·exact hp p z b hb
 have accne:∀b∈fp,s2.heap.objs.size≠b:=λb hb z=>absurd (hex b hb) (by rw[<-z];exact YO _)
 have loop:Xs (model X.prog X.w) X.A (.compLoop (.ListComp elt [⟨tg,iter,ifs,0⟩] scope pos) 0 (.ref it) (.ref s2.heap.objs.size) (YJ scope cl (s2.heap.objs.size+1) X.env)) (RR (.ref s2.heap.objs.size) (s2.heap.objs.size+1))
   {s2 with heap:=h₁,toks:=s2.toks+([]:List (Str×Value)).length}:=by
  refine zgR (CI (λits nn H' s'=>Inv (blk X N' s2 H2 (YJ scope cl (s2.heap.objs.size+1) X.env) fp pins) [(s2.heap.objs.size,{cls:=.type "list",data:=.seq its.toArray nn})] (clrS own σ) H' s') tn fp W) ?_ m0 ⟨0,[],H2,[],0,J0,st4,λb hb=>(f2 b hb).1,.nil,w0⟩
  rintro n s3 ⟨i,vs,H3,its,nn,J3,st3,fr3,rv,w3⟩
  have pne:∀p∈[(s2.heap.objs.size,({cls:=.type "list",data:=.seq its.toArray nn}:Obj))],∀b∈fp,p.1≠b:=by
   intro p hp b hb
   have ep:p=(s2.heap.objs.size,({cls:=.type "list",data:=.seq its.toArray nn}:Obj)):=by simpa using hp
   rw[ep];exact accne b hb
  rcases turn i n vs H3 w3 with⟨stop,hz,qn⟩|⟨go,hz,step⟩
  ·refine ZC (T.done (blk X N' s2 H2 (YJ scope cl (s2.heap.objs.size+1) X.env) fp pins) rfl rfl rfl hc i _ s3 _ H3 (λ_ _=>False) J3 (stat fr3 pne) st3 stop) (λr s4 q_=>?_) λ_ _ z=>z
   obtain⟨hr,I4⟩:=q_;subst hr;obtain⟨ea,na,_,_,_⟩:=I4.pin (s2.heap.objs.size,_) (Zx _ (Yx.mpr rfl));have I5:=zll (X:=X) I2 f2 I4 (ZZ _) na ea rv hz;obtain⟨m,hm,_⟩:=I4.loc;refine hRR _ _ s4 _ I5 (qn _ na) ⟨⟨m,hm⟩,?_,?_,λhb=>?_,?_,λx c e=>?_,λp hp=>?_⟩
   ·rw [zah (Xf (WX _))]
    exact I4.free
   ·exact Xf (YB I2.lt)
   ·exact I2.nofs (Ws _) hb
   ·exact Zf I2.sz (Ws _)
   ·obtain ⟨v,z⟩:=I2.cell x c e
    exact ZI (YB z.lt)
   ·exact ZI (YB (ZW (I2.pin p hp).1))
  ·refine ZC (T.item (blk X N' s2 H2 (YJ scope cl (s2.heap.objs.size+1) X.env) fp pins) rfl rfl rfl hc i _ s3 _ H3 (λ_ _=>False) J3 (stat fr3 pne) st3 go) (λr s4 q_=>?_) λ_ _ z=>z
   obtain⟨u,hr,h4⟩:=q_;subst hr;refine ZC h4 (λ_ s5 q_=>?_) λ_ _ z=>z;obtain⟨x,H5,I5,r5,y5,st5,fr5⟩:=q_;have I5':=I5.pinned (stat fr5 pne) (T.obj _ _ st5);obtain⟨hg,ht,he⟩:=hB s2 H2 (s2.heap.objs.size+1) fp
   have nx:∀{e:Value} {s:Shared},(blk X N' s2 H2 (YJ scope cl (s2.heap.objs.size+1) X.env) fp pins).xe e s->False:=λz=>by have z':X.xe _ _:=z;rw[hx] at z';exact z'
   refine ZC (hg _ s5 _ H5 x u _ I5' r5 (step x H5 y5)) (λ_ s6 q_=>?_) λ_ _ z=>nx z;obtain⟨σ6,H6,I6,q6⟩:=q_;refine ZC (ht _ s6 σ6 H6 _ I6 q6) (λok s7 q_=>?_) λ_ _ z=>nx z;obtain⟨H7,I7,q7⟩:=q_
   have keepIt:∀{σ8:St} {H8:Hp} {s8:Shared},Inv (blk X N' s2 H2 (YJ scope cl (s2.heap.objs.size+1) X.env) fp pins) ([(s2.heap.objs.size,({cls:=.type "list",data:=.seq its.toArray nn}:Obj))]++zgI fp s5.heap) σ8 H8 s8 →
     tn (i+1) s8.heap/\∀b∈fp,H8 b=none:=λ{σ8 H8 s8} I8=>by
    refine⟨T.keep _ _ _ st5 λb hb o e=>(I8.pin (b,o) (Zx _ (Zx _ (zbD hb e)))).1,λb hb=>?_⟩;obtain⟨o,e,d⟩:=T.obj _ _ st5 b hb;exact(I8.pin (b,o) (Zx _ (Zx _ (zbD hb e)))).2.1
   cases ok with
   |false=>simp only[Z1,if_false] at q7⊢;obtain⟨m',hm',w7⟩:=q7;obtain⟨k1,k2⟩:=keepIt I7;exact⟨m',hm',i+1,vs,H7,its,nn,zf4 hcell hN hlen hcl1 hcl2 I2 f2 I7.unpinned,k1,k2,rv,w7⟩
   | true=>
    simp only[if_true] at q7⊢;refine ZC (he _ s7 σ6 H7 _ I7 q7) (λy s8 q_=>?_) λ_ _ z=>nx z;obtain⟨vy,H8,I8,r8,m',hm',w8⟩:=q_;obtain⟨k1,k2⟩:=keepIt I8;obtain⟨ea,na,nl,nf,nd⟩:=I8.unpinned.pin (s2.heap.objs.size,_) (Zx _ (Yx.mpr rfl));have hl:=rv.length
    refine YD F.slot_list_append ⟨_,ea,rfl⟩ F.entry_list_append (F.args_list_append_2 _ _) (PySem.list_append s2.heap.objs.size its.toArray nn y (by rw[ZV];omega)) ⟨ea,?_⟩
    have J8:=zf4 hcell hN hlen hcl1 hcl2 I2 f2 (I8.unpinned);have J8':Inv (blk X N' s2 H2 (YJ scope cl (s2.heap.objs.size+1) X.env) fp pins) [] (clrS own σ) H8 s8:=J8.pins_of λp hp=>absurd hp (by simp);have up:=Zi (YY λx_1=>x_1.push y) ea rfl;obtain⟨n',en⟩:∃n',YY (λx_1=>x_1.push y) ({cls:=.type "list",data:=.seq its.toArray nn}:Obj)={cls:=.type "list",data:=.seq (its.toArray.push y) n'}:=⟨_,rfl⟩
    have J9:=J8'.turned (t':=s8.toks) (it:=s2.heap.objs.size) (h':=s8.heap.update s2.heap.objs.size (YY λx_1=>x_1.push y)) (λb o hb e=>(Zo _ _ (Za hb)).trans e) na nl (.inr (ZZ _))
     (fun x c e=>by
      obtain⟨v,z⟩:=I2.cell x c (hcl1 x c e)
      exact ZI z.lt)
     (fun p hp=>by
      have hp':p∈X.pn++pins:=by simpa[blk] using hp
      exact ZI (ZW (I2.pin p hp').1))
    refine⟨m',hm',i+1,vs++[vy],H8,its++[y],n',?_,T.keep _ _ _ k1 λb hb o e=>(Zo _ _ (accne b hb)).trans e,k2,rv.append (.cons r8 .nil),w8⟩;refine J9.pins_of λp hp=>?_
    have ep:p=(s2.heap.objs.size,({cls:=.type "list",data:=.seq (its++[y]).toArray n'}:Obj)):=by simpa using hp
    subst ep;refine⟨?_,na,nl,nf,λv q=>by cases q⟩;show(s8.heap.update s2.heap.objs.size (YY λx_1=>x_1.push y)).get? s2.heap.objs.size=_;rw[up];show some (YY (λx_1=>x_1.push y) ({cls:=.type "list",data:=.seq its.toArray nn}:Obj))=_;rw[en];simp
 exact codeAny_compStart_list loop (T.self _ 0 _ _ _ st4 loop)
end
section
variable {X:Cx}
structure zfP(X:Cx)(scope:Scope)(N':List Str)(own:List Nat):Prop where
 kind:scope.kind=.function
 cell:∀y∈scope.names,y.2≠.cell
 names:∀x∈scope.names,x.2=.local->scope.names.lookup x.1=some .local
 free:∀x∈scope.names,x.2=.free->X.env.kindOf x.1=some .cell\/X.env.kindOf x.1=some .free
 slots:∀(i:Nat) (x:Str),N'[i]?=some x->Vis (relabel scope X.env) x->i∈own\/(X.N[i]?=some x/\(X.env.kindOf x=some .cell\/X.env.kindOf x=some .free)/\(relabel scope X.env).names.lookup x≠some .local)
 len:N'.length=X.N.length
theorem Gone.turned(g:Gone X pins H C s)(I:Inv X pins σ H s)(sb:Yc C s.heap h'):Inv X pins σ H {s with heap:=h'}:=I.turned (t':=s.toks) (λb o hb e=>(sb.2 b hb).trans e) g.free g.loc (.inr g.new) g.cel g.pin
theorem zjQ
  (hx:X.xe=λ_ _=>False) (hc:X.calm=true) (K:zfP X scope N' own) (hi:PI X tg iter wi)
  (hB:∀cl pins s₂ H₂ C fp,PG (blk X N' s₂ H₂ (YJ scope cl C X.env) fp pins) tg g/\PTs (blk X N' s₂ H₂ (YJ scope cl C X.env) fp pins) ifs tc/\PE (blk X N' s₂ H₂ (YJ scope cl C X.env) fp pins) elt te)
  (hs:∀x,Ys iter X.env x=pure x):PE X (.ListComp elt [⟨tg,iter,ifs,0⟩] scope pos) (zhe wi own g tc te):=by
 intro pins s σ H Q I q;obtain⟨cl,hclos,hcl1,hcl2⟩:=zbf (scope:=scope) (env:=X.env) (λx hx hf=>I.ok.has x.1 (K.free x hx hf));rw[eval_ListComp];refine WN (use:=none) rfl hs hclos K.kind K.names (zgf hx hc K.kind K.cell K.slots K.len hcl1 hcl2 hi (hB cl pins) I q ?_);intro a C s' H' I' q' gn;obtain⟨m,hm⟩:=gn.ns;exact⟨m,hm,λh' sb=>⟨.ref a,H',gn.turned I' sb,rfl,q'⟩⟩
theorem zdM
  (hx:X.xe=λ_ _=>False) (hc:X.calm=true) (K:zfP X scope N' own) (hi:PI X tg iter wi)
  (hB:∀cl pins s₂ H₂ C fp,PG (blk X N' s₂ H₂ (YJ scope cl C X.env) fp pins) tg g/\PTs (blk X N' s₂ H₂ (YJ scope cl C X.env) fp pins) ifs tc/\PE (blk X N' s₂ H₂ (YJ scope cl C X.env) fp pins) elt te)
  (hs:∀x,Ys iter X.env x=pure x) (hsw:Wx (.ListComp elt [⟨tg,iter,ifs,0⟩] scope pos) (some (.Name y py)) spos.line X.env=pure true)
  (hg:PG X (.Name y py) (zjv iy)):PS X (.Assign [.Name y py] (.ListComp elt [⟨tg,iter,ifs,0⟩] scope pos) spos) (tAsg (zhe wi own g tc te) (zjv iy)):=by
 intro pins s σ H D I q;obtain⟨cl,hclos,hcl1,hcl2⟩:=zbf (scope:=scope) (env:=X.env) (λx hx hf=>I.ok.has x.1 (K.free x hx hf));rw[exec_Assign_Name_used _ _ _ _ hsw];refine Z9 (V6 (Z9 ?_));show wpAny _ X.A (do let _<-comprehension (.ListComp elt [⟨tg,iter,ifs,0⟩] scope pos) scope X.env _ (newList []) false (eval iter X.env) (some (assign (.Name y py) X.env))) _ _ s
 refine Z9 (ZC (WN (use:=some (assign (.Name y py) X.env)) (Q:=λ_ s'=>SP X pins D .next s') rfl hs hclos K.kind K.names
  (zgf hx hc K.kind K.cell K.slots K.len hcl1 hcl2 hi (hB cl pins) I q ?_)) (λ_ s' hq=>Z6 (Z6 hq)) λ_ _ e=>e)
 intro a C s' H' I' q' gn;obtain⟨m,o,es,ep,ho,hd,hr⟩:=id gn.ns
 have Ip:Inv X (pins++[(C,o)]) σ H' s':=I'.pins_of λp hp=>(Zd.mp hp).elim (λz=>I'.pin p (Zx _ z)) λz=>by
  have ep:p=(C,o):=by simpa using z
  subst ep
  exact⟨ho,gn.free,gn.loc,gn.fs,λv z=>by rw[hd] at z;cases z⟩
 refine thn (hg _ s' σ H' (.ref a) (.ref a) _ Ip rfl q') λ_ s'' q_=>?_;obtain⟨σ2,H2,I2,q2⟩:=q_;obtain⟨e1,e2,_,_,_⟩:=I2.pin (C,o) (Zx _ (Zx _ (Yx.mpr rfl)));have gn2:Gone X pins H2 C s'':=⟨⟨m,o,es,ep,e1,hd,hr⟩,e2,gn.loc,gn.fs,gn.new,gn.cel,gn.pin⟩;exact⟨m,⟨o,es,ep,e1,hd,hr⟩,λh' sb=>⟨σ2,H2,gn2.turned I2.unpinned sb,q2⟩⟩
theorem RepE.clr:∀(own:List Nat) {env:IT.Env} {σ:St},RepE K μ h H env σ->RepE K μ h H (clr own env) (clrS own σ)
 | [],env,σ,q=>q
 | i::r,env,σ,q=>by
  refine RepE.clr r ⟨by simp[q.len],λj rr e=>?_⟩
  by_cases hj:j=i
  ·subst hj
   rw[Wi] at e;simp only[if_true] at e
   split at e<;>cases e
  ·rw [Zr (Za hj)] at e⊢
   exact q.get j rr e
structure ElK{α:Type}(K:Z7)(kp:R->M α)(Rel:List Addr->Sto->Hp->α->V->Prop):Prop where
 kp:∀{μ h H r v d h'},Rep K μ h H->RepR K μ h H r v->kp r h=some (d,h')->Stp μ h H μ h' H/\Rep K μ h' H/\Rel μ h' H d v
 stp:∀{μ h H μ' h' H' d v},Stp μ h H μ' h' H'->Rep K μ h H->Rel μ h H d v->Rel μ' h' H' d v
def zfM{α:Type}(kp:R->M α)(t:Tg)(ft:IT.Env->M Bool)(fe:IT.Env->M R)(σ:IT.Env)(x:Ite):M (Option α):=bnd (zaq t x (clr t.slots σ)) λσ'=>bnd (ft σ') λb=>if b then bnd (fe σ') λr=>bnd (kp r) λd=>ok (some d) else ok none
def tLsG{α:Type}(K:Z7)(Rel:List Addr->Sto->Hp->α->V->Prop)(f:IT.Env->M (List α)):TE:=λσ H Q=>∃μ h env,Rep K μ h H/\RepE K μ h H env σ/\∃xs h',f env h=some (xs,h') ∧
 ∀μ' H' a vs,Stp μ h H μ' h' H'->Rep K μ' h' H'->Paired (Rel μ' h' H') xs vs->H' a=none->Q (.ref a) (upd H' a (.lst vs))
theorem zeq{α β:Type}{F:α->β->Prop}:∀{xs xs':List α} {ys ys':List β},Paired F xs ys->Paired F xs' ys'->Paired F (xs++xs') (ys++ys')|_,_,_,_,.nil,q=>q|_,_,_,_,.cons r t,q=>.cons r (zeq t q)
inductive CR{α:Type}(K:Z7)(Rel:List Addr->Sto->Hp->α->V->Prop)(tr:List Ite->M (List α))(w:Wk)(μ1:List Addr)(h1:Sto)(H1:Hp)(h':Sto)(zs:List α)(i m:Nat)(vs:List V)(H2:Hp):Prop|mk (μ2:List Addr) (h2:Sto) (ys rest:List α) (s2:Stp μ1 h1 H1 μ2 h2 H2) (sy2:zaA w.l h1 h2=true) (R2:Rep K μ2 h2 H2) (zy:Paired (Rel μ2 h2 H2) ys vs) (him:i+m=w.xs.length) (hyl:ys.length<=i) (el':tr (w.xs.drop i) h2=some (rest,h')) (eys:ys++rest=zs)
theorem zeg{α:Type}{K:Z7}{kp:R->M α}{Rel:List Addr->Sto->Hp->α->V->Prop}(el:ElK K kp Rel){t:Tg}{fi:IT.Env->M Wk}{ft:IT.Env->M Bool}{fe:IT.Env->M R}(hwl:∀σ h w h',fi σ h=some (w,h')->WlOk w h'){σ:St}{H:Hp}{Q:VK}
  (q:tLsG K Rel (λσ=>bnd (fi σ) λw=>turns w.l (zfM kp t ft fe σ) w.xs) σ H Q):zhe (tI K fi) t.slots (tGI K t) (tTv K ft) (tE K fe) σ H Q:=by
 obtain⟨μ,h,env,R0,re,zs,h',e,k⟩:=q;simp only[zab] at e;obtain⟨w,h1,e1,e2⟩:=e;refine⟨μ,h,env,R0,re,w,h1,e1,λμ1 H1 J s1 R1 W1 hz=>?_⟩
 refine⟨CR K Rel (turns w.l (zfM kp t ft fe env)) w μ1 h1 H1 h' zs,⟨w.xs.length,μ1,h1,[],zs,Stp.refl,zcI _ _ (hwl _ _ _ _ e1),R1,.nil,by omega,ZZ _,by rw[XM];exact e2,rfl⟩,?_⟩
 rintro i m vs H2 ⟨μ2,h2,ys,rest,s2,sy2,R2,zy,him,hyl,el',eys⟩
 have hl:=zy.length
 cases hxx:w.xs[i]? with
 |none=>
  have hi':w.xs.length<=i:=by simpa using hxx
  have hi2:i=w.xs.length:=by omega
  subst hi2;rw[XX (ZZ _)] at el';simp only[turns,zac] at el';obtain⟨rfl,rfl⟩:=el';rw[Ym] at eys;subst eys;exact .inl ⟨W1.stop μ2 h2 H2 s2 R2 sy2,by omega,λa ha=>k μ2 H2 a vs (s1.trans s2) R2 zy ha⟩
 | some x=>
  have hil:i<w.xs.length:=(Z2.mp hxx).1
  have hdrop:w.xs.drop i=x::w.xs.drop (i+1):=by
   rw[XG hil]
   have:=(Z2.mp hxx).2
   rw[this]
  rw[hdrop] at el';simp only[turns] at el';obtain⟨go,yld⟩:=W1.go μ2 h2 H2 i x s2 R2 sy2 hxx
  cases ef:zfM kp t ft fe env x h2 with
  |none=>rw[ef] at el';cases el'
  | some p=>
   obtain⟨od,h3⟩:=p;rw[ef] at el';simp only[zfM,zab] at ef;obtain⟨env4,h4,e4,tt,h5,e5,e6⟩:=ef
   have:=zcr e4
   subst this;refine .inr ⟨go,by omega,λv H' hy=>?_⟩;obtain⟨sY,RY,zx⟩:=yld v H' hy;refine⟨μ2,_,clr t.slots env,x,env4,RY,RepE.clr _ ((re.stp (s1.trans s2) R0).stp sY R2),zx,e4,λσ4 re4=>⟨μ2,_,env4,RY,re4,tt,h5,e5,λμ5 H5 b s5' R5 hb=>?_⟩⟩;have s5:=sY.trans s5';subst hb;simp only at el'
   split at el'
   ·rename_i sy3
    simp only[zab,zac] at el';obtain⟨rest',h6,el'',er,rfl⟩:=el'
    cases tt with
    |false=>simp only[Z1,if_false,zac] at e6⊢;obtain⟨rfl,rfl⟩:=e6;refine⟨m-1,by omega,μ5,_,ys,rest',s2.trans s5,zaK sy2 sy3,R5,L2.Paired.mapP zy λd v z=>el.stp s5 R2 z,by omega,by omega,el'',?_⟩;rw[<-eys,<-er]
    |true=>
     simp only[if_true,zab,zac] at e6⊢;obtain⟨r,h7,e7,d,h8,e8,rfl,rfl⟩:=e6;refine⟨μ5,h5,env4,R5,re4.stp s5' RY,r,h7,e7,λμ6 H6 v6 s6 R6 q6=>?_⟩;obtain⟨s7,R7,zd⟩:=el.kp R6 q6 e8
     refine⟨m-1,by omega,μ6,_,ys++[d],rest',((s2.trans s5).trans s6).trans s7,zaK sy2 sy3,R7,zeq (L2.Paired.mapP zy λd v z=>el.stp s7 R6 (el.stp s6 R5 (el.stp s5 R2 z))) (.cons zd .nil),by omega,by simp;omega,el'',?_⟩
     rw[<-eys,<-er];simp
   ·cases el'
theorem zrU(K:Z7):ElK K fz (λμ h H d v=>RepD K (Live μ h) H d v):=⟨zlx,λs r q=>RepD.stp s r q⟩
theorem zrg(K:Z7):ElK K zcO (λμ h H l v=>∃b,μ[l]?=some b/\v=.ref b):=by
 refine⟨λ{μ h H r v d h'} R0 q e=>?_,λs r ⟨b,e1,e2⟩=>⟨b,s.pre _ _ e1,e2⟩⟩
 cases r with
 |d x=>cases e
 | loc l=>
  (delta zcO at e;(try dsimp only at e))
  split at e
  ·simp only[Z3,ZO] at e
   obtain⟨rfl,rfl⟩:=e;exact⟨Stp.refl,R0,q⟩
  ·simp only[Z3,ZO] at e
   obtain⟨rfl,rfl⟩:=e;exact⟨Stp.refl,R0,q⟩
  ·cases e
theorem zhG:∀{K:Z7} {A:Addr->Prop} {H:Hp} {xs:List D} {vs:List V},Paired (RepD K A H) xs vs->RepDs K A H xs vs|_,_,_,_,_,.nil=>.nil|_,_,_,_,_,.cons r t=>.cons r (zhG t)
def zpk(t:Tg)(ft:IT.Env->M Bool)(fe:IT.Env->M R)(σ:IT.Env)(x:Ite):M (Option D):=zfM fz t ft fe σ x
theorem zjN{t:Tg}{fi:IT.Env->M Wk}(hwl:∀σ h w h',fi σ h=some (w,h')->WlOk w h'){H:Hp}{Q:VK}
  (q:tLs K (λσ=>bnd (fi σ) λw=>turns w.l (zpk t ft fe σ) w.xs) σ H Q):zhe (tI K fi) t.slots (tGI K t) (tTv K ft) (tE K fe) σ H Q:=by
 refine zeg (zrU K) hwl ?_;obtain⟨μ,h,env,R0,re,zs,h',e,k⟩:=q;exact⟨μ,h,env,R0,re,zs,h',e,λμ' H' a vs st R1 z ha=>k μ' H' a vs st R1 (zhG z) ha⟩
end
end IT
namespace IT
open PySem PySem.Spec L2
section
variable {X:Cx}
theorem zhW:PS X st (tS X.K λ_ _=>none):=λpins s σ H D I ⟨μ,h,env,R0,re,fl,env',h',e,k⟩=>by cases e
theorem zlL:IE X e (λ_ _=>none):=λpins s σ H Q I ⟨μ,h,env,R0,re,r,h',e,k⟩=>by cases e
theorem zr7(hg:Gl X "list")(hm:X.mg "list"=none)(he:IE X e f)(hs:ZT [e] X.env=[(false,eval e X.env)]):IL X (.Call (.Name "list" p) [e] [] pos) (λσ=>bnd (f σ) λr=>bnd (rd r) λd=>opt (items d)):=by
 refine PE.imp (zbq zf3 hg hm PyProof.Rows.boot_list (zax he za1 hs) (by decide) (by decide) hs rfl) λσ H Q q0=>?_;obtain⟨μ,h,env,R0,re,xs,h',e,k⟩:=q0;simp only[zab,zat] at e;obtain⟨r,h1,e1,d,h2,e2,e3,rfl⟩:=e;refine⟨μ,h,env,R0,re,r,h1,e1,λμ1 H1 v s1 R1 q1=>?_⟩;obtain⟨rfl,z⟩:=zaU R1 q1 e2
 cases d with|tup ys=>simp only[RdD,RepD] at z;obtain⟨a,vs,rfl,q,zs⟩:=z;simp only[items,Z3] at e3;subst e3;exact⟨a,vs,rfl,.inr q,λl hl=>k μ1 H1 l vs s1 R1 zs hl⟩|lst ys=>obtain⟨a,vs,rfl,q,zs⟩:=z;simp only[items,Z3] at e3;subst e3;exact⟨a,vs,rfl,.inl q,λl hl=>k μ1 H1 l vs s1 R1 zs hl⟩|_=>simp[items] at e3
theorem zq4(ha:IE X a f)(hb:IE X b g):IL X (.BinOp a .Add b pos) (λσ=>bnd (f σ) λx=>bnd (g σ) λy=>bnd (rd x) λx=>bnd (rd y) λy=>opt (catD x y)):=by
 refine PE.imp (zqI zko ha hb) λσ H Q q0=>?_;obtain⟨μ,h,env,R0,re,xs,h',e,k⟩:=q0;simp only[zab,zat] at e;obtain⟨x,h1,e1,y,h2,e2,dx,h3,e3,dy,h4,e4,e5,rfl⟩:=e;refine⟨μ,h,env,R0,re,x,h1,e1,λμ1 H1 v s1 R1 q1=>⟨μ1,h1,env,R1,re.stp s1 R0,y,h2,e2,λμ2 H2 u s2 R2 q2=>?_⟩⟩;obtain⟨rfl,zx⟩:=zaU R2 (q1.stp s2 R1) e3;obtain⟨rfl,zy⟩:=zaU R2 q2 e4
 cases dx with
 | lst xs1=>
  cases dy with
  | lst xs2=>
   (delta catD at e5;(try dsimp only at e5))
   split at e5
   ·rename_i hf
    cases e5;obtain⟨p,vs,rfl,q1,z1⟩:=zx;obtain⟨p',vs',rfl,q2,z2⟩:=zy;have l1:=z1.length;have l2:=z2.length;have hlen:xs1.length+xs2.length<=sizeLine:=of_decide_eq_true hf;exact⟨p,p',vs,vs',rfl,rfl,q1,q2,by omega,λr hr=>k μ2 H2 r _ (s1.trans s2) R2 (z1.app z2) hr⟩
   ·cases e5
  |_=>exact zad e5
 |_=>cases dy<;>exact zad e5
theorem zfX:∀{xs:List D} {bs:List Bool},zaN xs=some bs->bs.length=xs.length
 | [],bs,e=>by simp only[zaN,Z3] at e;subst e;rfl
 | x :: xs,bs,e=>by
  simp only[zaN] at e
  split at e
  ·split at e
   ·rename_i es
    simp only[Z3] at e;subst e;simp only[ZP,zfX es]
   ·cases e
  ·cases e
theorem zig:∀{xs:List D} {bs:List Bool} {i:Nat} {d:D},zaN xs=some bs->xs[i]?=some d->∃b,bs[i]?=some b/\tru d=some b
 | [],bs,i,d,e,ed=>by simp at ed
 | x :: xs,bs,i,d,e,ed=>by
  simp only[zaN] at e
  split at e
  ·rename_i b eb
   split at e
   ·rename_i l es
    simp only[Z3] at e;subst e
    cases i with|zero=>simp only[YX,Z3] at ed;subst ed;exact⟨b,rfl,eb⟩|succ i=>obtain⟨c,e1,e2⟩:=zig (i:=i) (d:=d) es (by simpa using ed);exact⟨c,by simpa using e1,e2⟩
   ·cases e
  ·cases e
theorem zjY(bs:List Bool):(ZA bs.length).all (λi=>bs.getD i false)=bs.all id:=by
 rw[X0,ZQ,ZQ];constructor
 ·intro h b hb
  obtain⟨i,hi,e⟩:=Xr hb
  have:=h i (by simpa using hi)
  rw[Zy,Z4 hi] at this
  simpa[e] using this
 ·intro h i hi
  have hi':i<bs.length:=by simpa using hi
  rw[Zy,Z4 hi'];exact h _ (Zn hi')
theorem zkF(bs:List Bool):(ZA bs.length).any (λi=>bs.getD i false)=bs.any id:=by
 rw[X0,Wb,Wb];constructor
 ·rintro⟨i,hi,h⟩
  have hi':i<bs.length:=by simpa using hi
  rw[Zy,Z4 hi'] at h;exact⟨_,Zn hi',by simpa using h⟩
 ·rintro⟨b,hb,h⟩
  obtain⟨i,hi,e⟩:=Xr hb;refine⟨i,by simpa using hi,?_⟩;rw[Zy,Z4 hi]
  simpa[e] using h
def zht(prog:ZB)(w:World)(A:Around)(Hs:Shared->Prop)(P:Nat->Value->Prop)(tr:Nat->Bool):Prop:=∀i v (t:Shared) (Q:Bool->Shared->Prop) (E:Value->Shared->Prop),P i v->Hs t->(∀tk,Q (tr i) {t with toks:=tk})->wpAny (model prog w) A (truthy v) Q E t
theorem zbF(h:i<n):(ZA n).drop i=i::(ZA n).drop (i+1):=by rw[XG (by simpa using h)];simp
section
variable {prog:ZB}{w:World}{A:Around}{R:Result->Shared->Prop}{I:Addr}{fp wr:List Addr}{n:Nat}{P:Nat->Value->Prop}{St:Nat->Heap->Prop}{Hs:Shared->Prop}
theorem zka(W:Walks prog w A.in1 I fp wr n P St)(tr:Nat->Bool)(hs:∀t h' tk,Hs t->(∀b o,b∉wr->t.heap.get? b=some o->h'.get? b=some o)->Hs {t with heap:=h',toks:=tk})(htr:zht prog w A.in1 Hs P tr)(k:Nat):
  ∀ (i:Nat) (t:Shared),n-i=k->i<=n->St i t.heap->Hs t →
   (∀h' tk,(∀b o,b∉wr->t.heap.get? b=some o->h'.get? b=some o)->R (.ok (.ret (.bool (((ZA n).drop i).any tr)))) {t with heap:=h',toks:=tk})->Xs (model prog w) A (.builtin "any.loop" ⟨[.ref I],[]⟩) R t:=by
 induction k with
 |zero=>
  intro i t hk hi st ht hR
  obtain rfl:i=n:=by omega
  refine YQ F.entry_any_loop ?_;rw[YT Wa _];refine Z9 (m:=pyNext (.ref I)) (W.done t _ _ st λh' tk e=>Z9 (Xg (Z6 ?_)));have z:=hR h' tk e
  rwa [XX (by simp)] at z
 | succ k ih=>
  intro i t hk hi st ht hR
  have hlt:i<n:=by omega
  refine YQ F.entry_any_loop ?_;rw[YT Wa _];refine Z9 (m:=pyNext (.ref I)) (W.item i t _ _ hlt st λv h' tk hP st' e=>Z9 (Y6 (htr i v _ _ _ hP (hs t h' tk ht e) λtk2=>Z9 (wpAny_letGo ?_))))
  cases hb:tr i with
  |false=>
   simp only[Z1,if_false];refine Z6 ⟨XQ Wa _,ih (i+1) _ (by omega) hlt st' (hs t h' tk2 ht e) λh2 tk3 e2=>?_⟩;have z:=hR h2 tk3 λb o hbw eb=>e2 b o hbw (e b o hbw eb)
   rwa [zbF hlt,U6,hb,Yt] at z
  |true=>
   simp only[if_true];refine Z9 (Xg (Z6 ?_));have z:=hR h' tk2 e
   rwa [zbF hlt,U6,hb,Bool.true_or] at z
theorem zjx(W:Walks prog w A.in1 I fp wr n P St)(tr:Nat->Bool)(hs:∀t h' tk,Hs t->(∀b o,b∉wr->t.heap.get? b=some o->h'.get? b=some o)->Hs {t with heap:=h',toks:=tk})(htr:zht prog w A.in1 Hs P tr)(k:Nat):
  ∀ (i:Nat) (t:Shared),n-i=k->i<=n->St i t.heap->Hs t →
   (∀h' tk,(∀b o,b∉wr->t.heap.get? b=some o->h'.get? b=some o)->R (.ok (.ret (.bool (((ZA n).drop i).all tr)))) {t with heap:=h',toks:=tk})->Xs (model prog w) A (.builtin "all.loop" ⟨[.ref I],[]⟩) R t:=by
 induction k with
 |zero=>
  intro i t hk hi st ht hR
  obtain rfl:i=n:=by omega
  refine YQ F.entry_all_loop ?_;rw[YT V9 _];refine Z9 (m:=pyNext (.ref I)) (W.done t _ _ st λh' tk e=>Z9 (Xg (Z6 ?_)));have z:=hR h' tk e
  rwa [XX (by simp)] at z
 | succ k ih=>
  intro i t hk hi st ht hR
  have hlt:i<n:=by omega
  refine YQ F.entry_all_loop ?_;rw[YT V9 _];refine Z9 (m:=pyNext (.ref I)) (W.item i t _ _ hlt st λv h' tk hP st' e=>Z9 (Y6 (htr i v _ _ _ hP (hs t h' tk ht e) λtk2=>Z9 (wpAny_letGo ?_))))
  cases hb:tr i with
  |true=>
   simp only[if_true];refine Z6 ⟨XQ V9 _,ih (i+1) _ (by omega) hlt st' (hs t h' tk2 ht e) λh2 tk3 e2=>?_⟩;have z:=hR h2 tk3 λb o hbw eb=>e2 b o hbw (e b o hbw eb)
   rwa [zbF hlt,Vb,hb,XR] at z
  |false=>
   simp only[Z1,if_false];refine Z9 (Xg (Z6 ?_));have z:=hR h' tk2 e
   rwa [zbF hlt,Vb,hb,Bool.false_and] at z
end
theorem zho(hc:X.calm=true)(all:Bool):zjK X (.builtin (if all then "all" else "any")) (biD (if all then .all else .any)):=by
 intro pins s σ H vs us Q I r q;obtain⟨μ,h,ds,z,R0,pr,e,k⟩:=q
 cases pr with
 |nil=>cases all<;>exact zad e
 | @cons d v ds vs qd pr=>
  cases pr with
  |cons _ _=>cases all<;>cases d<;>exact zad e
  | nil=>
   cases d with
   | lst xs=>
    obtain⟨p,ws,rfl,q1,z1⟩:=qd
    have eb:∃bs,zaN xs=some bs/\z=.bl (if all then bs.all id else bs.any id):=by
     cases hb:zaN xs with|none=>cases all<;>(change (match zaN xs with | some bs=>_ | none=>_)=_ at e;rw[hb] at e;exact zad e)|some bs=>cases all<;>(change (match zaN xs with | some bs=>_ | none=>_)=_ at e;rw[hb] at e;exact⟨bs,rfl,(ZY e).symm⟩)
    obtain⟨bs,eb,rfl⟩:=eb;obtain⟨u,rfl,rx⟩:=zfe r;cases rx;obtain⟨its,ri,pl,hz⟩:=I.list q1;have hl1:=z1.length;have hl2:=ri.length;have hl3:=zfX eb
    have hne:p≠s.heap.objs.size:=by obtain⟨o,n,eo,_⟩:=id pl;exact ZI (ZW eo)
    have W:=Walks.list (prog:=X.prog) (w:=X.w) (A:=X.A.in1) (I.ok.hd hc) s.heap.objs.size p hne its.toArray
    let Hs:Shared->Prop:=λt=>∃h' tk,t={s with heap:=h',toks:=tk}/\∀a o,s.heap.get? a=some o->h'.get? a=some o
    have hs:∀t h' tk,Hs t->(∀b o,b∉[s.heap.objs.size]->t.heap.get? b=some o->h'.get? b=some o)->Hs {t with heap:=h',toks:=tk}:=by
     rintro t h' tk ⟨h1,tk1,rfl,e1⟩ e2
     exact⟨h',tk,rfl,λa o ea=>e2 a o (by simp;exact ZI (ZW ea)) (e1 a o ea)⟩
    have htr:zht X.prog X.w X.A.in1 Hs (λi v=>its.toArray[i]?=some v) (λi=>bs.getD i false):=by
     rintro i v t Q1 E1 ei ⟨h1,tk1,rfl,e1⟩ hq
     have ei':its[i]?=some v:=by simpa using ei
     have hi:i<its.length:=(Z2.mp ei').1;obtain⟨d,ed⟩:∃d,xs[i]?=some d:=⟨xs[i]'(by omega),Z4 _⟩;obtain⟨b,e2,e3⟩:=zig eb ed;obtain⟨v2,e4,e5⟩:=z1.get ed
     have rv:RelV v2 v:=by
      have:=zmo ri e4 hi
      rwa [(Z2.mp ei').2] at this
     have e6:bs.getD i false=b:=by rw[Zy,e2];rfl
     simp only[e6] at hq;exact zkT (I.kept (t':=tk1) e1) (RdD.of e5) rv e3 hq
    have st0:(s.heap.push {cls:=.type "list_iterator",data:=.fields #[.ref p,.int 0 0]}).IsListIter s.heap.objs.size p 0/\(s.heap.push {cls:=.type "list_iterator",data:=.fields #[.ref p,.int 0 0]}).IsList p its.toArray:=by refine⟨⟨_,ZH _ rfl,rfl,rfl⟩,?_⟩;obtain⟨o,eo,hcl,n,hd⟩:=pl.isList;exact⟨o,Z5 _ eo,hcl,n,hd⟩
    have hs0:Hs {s with heap:=s.heap.push {cls:=.type "list_iterator",data:=.fields #[.ref p,.int 0 0]}}:=⟨_,s.toks,rfl,λa o ea=>Z5 _ ea⟩
    have hsz:its.toArray.size=bs.length:=by simp;omega
    have fin:∀(b:Bool) (h':Heap) (tk:Nat),(∀b o,b∉[s.heap.objs.size]->(s.heap.push {cls:=.type "list_iterator",data:=.fields #[.ref p,.int 0 0]}).get? b=some o->h'.get? b=some o)->Q (.bl b) H->EP X pins σ Q (.bool b) {s with heap:=h',toks:=tk}:=by
     intro b h' tk hk q
     refine⟨.bl b,H,I.kept (t':=tk) λa o ea=>hk a o (by simp;exact ZI (ZW ea)) (Z5 _ ea),rfl,q⟩
    have hq:=k μ H (.bl (if all then bs.all id else bs.any id)) Stp.refl R0 (by simp only[RepD])
    cases all with|true=>refine call_function_tree F.kind_all F.plain_all F.entry_all (F.args_all1 _) ?_;unfold Zb.«all»;refine Z9 (m:=oneArg "all" _) (Z6 (Z9 (Wj pl.isList (Z6 ⟨XQ V9 _,zjx W _ hs htr _ 0 _ rfl (Y3 _) st0 hs0 λh' tk hk=>?_⟩))));rw[XM,hsz,zjY];exact fin _ h' tk hk hq|false=>refine call_function_tree F.kind_any F.plain_any F.entry_any (F.args_any1 _) ?_;unfold Zb.«any»;refine Z9 (m:=oneArg "any" _) (Z6 (Z9 (Wj pl.isList (Z6 ⟨XQ Wa _,zka W _ hs htr _ 0 _ rfl (Y3 _) st0 hs0 λh' tk hk=>?_⟩))));rw[XM,hsz,zkF];exact fin _ h' tk hk hq
   |_=>cases all<;>exact zad e
end
def tyS:Ty->String|.int=>"int"|.str=>"str"|.bool=>"bool"|.list=>"list"|.tuple=>"tuple"
section
variable {K:Z7}
theorem zou(t:Ty):Y7 K (.type "NoneType") (.type (tyS t))=some (isiD t .non):=by cases t<;>rfl
theorem zph(t:Ty)(b:Bool):Y7 K (.type "bool") (.type (tyS t))=some (isiD t (.bl b)):=by cases t<;>rfl
theorem zn2(t:Ty)(i:Int):Y7 K (.type "int") (.type (tyS t))=some (isiD t (.int i)):=by cases t<;>rfl
theorem zoZ(t:Ty)(x:List Nat):Y7 K (.type "str") (.type (tyS t))=some (isiD t (.str x)):=by cases t<;>rfl
theorem znV(t:Ty)(x:List D):Y7 K (.type "tuple") (.type (tyS t))=some (isiD t (.tup x)):=by cases t<;>rfl
theorem znz(t:Ty)(x:List D):Y7 K (.type "list") (.type (tyS t))=some (isiD t (.lst x)):=by cases t<;>rfl
end
section
variable {X:Cx}
theorem zhQ(t:Ty):zcs X (.builtin "isinstance") (λvs H Q=>∃A d v,RdD X.K A H d v/\vs=[v,.ty (tyS t)]/\Q (.bl (isiD t d)) H):=by
 intro pins s σ H vs us Q I r q;obtain⟨A,d,v,qd,rfl,q⟩:=q
 cases r with
 | cons r1 r=>
  cases r with
  | cons r2 r=>
   cases r;rename_i u1 u2;have e2:u2=Yi (tyS t):=r2;subst e2;have fin:∀tk:Nat,EP X pins σ Q (.bool (isiD t d)) {s with toks:=tk}:=λtk=>⟨.bl (isiD t d),H,I.tok tk,rfl,q⟩
   cases d with
   |non=>
    simp only[RdD,RepD] at qd;subst qd
    have e1:u1=X3:=r1;subst e1;exact XE PySem.W.kitx_none I.kIn WA (zou t) (λz=>nomatch z) fin
   |bl b=>
    simp only[RdD,RepD] at qd;subst qd
    have e1:u1=WC b:=r1;subst e1;exact XE PySem.W.kitx_bool I.kIn WA (zph t b) (λz=>nomatch z) fin
   |int i=>
    simp only[RdD,RepD] at qd;subst qd
    obtain⟨t',e1⟩:=(show ∃t',u1=Value.int i t' from r1);subst e1;exact XE PySem.W.kitx_int I.kIn WA (zn2 t i) (λz=>nomatch z) fin
   |str x=>
    simp only[RdD,RepD] at qd;subst qd
    obtain⟨t',e1⟩:=(show ∃t',u1=Yp (zaa x) t' from r1);subst e1;exact XE PySem.W.kitx_str I.kIn WA (zoZ t x) (λz=>nomatch z) fin
   |tup xs=>simp only[RdD,RepD] at qd;obtain⟨a,ws,rfl,q1,_⟩:=qd;have e1:u1=ZD a:=r1;subst e1;obtain⟨its,ri,⟨o,h1,h2,_⟩,hz⟩:=I.tuple q1;exact XE PySem.W.kitx_tuple I.kIn ⟨o,h1,h2⟩ (znV t xs) (λz=>nomatch z) fin|lst xs=>obtain⟨a,ws,rfl,q1,_⟩:=qd;have e1:u1=ZD a:=r1;subst e1;obtain⟨its,ri,⟨o,n,h1,h2,_⟩,hz⟩:=I.list q1;exact XE PySem.W.kitx_list I.kIn ⟨o,h1,h2⟩ (znz t xs) (λz=>nomatch z) fin
theorem zjm(t:Ty):XD (YG (tyS t))=some (.type (tyS t)):=by cases t<;>decide +kernel
theorem zpY(hg:Gl X "isinstance")(hm:X.mg "isinstance"=none)(he:IE X e f)(hx:x=YG (tyS t))(hg2:Gl X x)(hm2:X.mg x=none)(hs:ZT [e,.Name x p2] X.env=[(false,eval e X.env),(false,eval (.Name x p2) X.env)]):
  IE X (.Call (.Name "isinstance" p) [e,.Name x p2] [] pos) (λσ=>bnd (f σ) λr=>bnd (rd r) λd=>ok (.d (.bl (isiD t d)))):=by
 subst hx
 have hn:YG (tyS t) ≠ "__name__":=by cases t<;>decide
 have hdb:(YG (tyS t)==("__debug__":Str))=false:=by cases t<;>decide
 have h2:PE X (.Name (YG (tyS t)) p2) (tC (.ty (tyS t))):=zgP hg2 hm2 (zjm t) rfl hn hdb;refine PE.imp (zbE (zhQ t) hg hm Xb (zax he (zax h2 za1 rfl) hs) (by decide) (by decide) hs rfl) λσ H Q q0=>?_;obtain⟨μ,h,env,R0,re,r,h',e,k⟩:=q0;simp only[zab,zac] at e;obtain⟨r1,h1,e1,d,h2',e2,rfl,rfl⟩:=e;refine⟨μ,h,env,R0,re,r1,h1,e1,λμ1 H1 v s1 R1 q1=>?_⟩;obtain⟨rfl,z⟩:=zaU R1 q1 e2;exact⟨_,d,v,z,rfl,k μ1 H1 _ s1 R1 (by simp only[RepR,RepD])⟩
theorem RepDs.dropLast(q:RepDs K A H xs vs):RepDs K A H xs.dropLast vs.dropLast:=by rw[List.dropLast_eq_take,List.dropLast_eq_take,q.length];exact q.take _
theorem RepDs.eraseIdx(k:Nat)(q:RepDs K A H xs vs):RepDs K A H (xs.eraseIdx k) (vs.eraseIdx k):=by rw[We,We];exact(q.take k).app (q.drop (k+1))
end
open PySem PyProof.Rows PySem.Calls
theorem zik{M:Model}{A:Around}{E:Value->Shared->Prop}{s s':Shared}{β:Type}{f:Nat->β->Sem (ForInStep β)}{b r:β}{j:Nat}{Q:β->Shared->Prop}(hd:∀Q':ForInStep β->Shared->Prop,Q' (.done r) s'->wpAny M A (f j b) Q' E s)(q:Q r s'):
  ∀(m i:Nat),i<=j->j<i+m->(∀k,i<=k->k<j->∀Q':ForInStep β->Shared->Prop,Q' (.yield b) s->wpAny M A (f k b) Q' E s)->wpAny M A (forIn (Uz i m) b f) Q E s
 |0,i,h1,h2,_=>by omega
 | m+1,i,h1,h2,hy=>by
  rw[List.range'_succ,UH]
  by_cases e:i=j
  ·subst e
   exact Z9 (hd _ (Z6 q))
  ·refine Z9 (hy i (ZZ _) (by omega) _ ?_)
   exact zik hd q m (i+1) (by omega) (by omega) λk h3 h4=>hy k (by omega) h4
theorem zkV{M:Model}{A:Around}{E:Value->Shared->Prop}{s s':Shared}{β:Type}{f:Nat->β->Sem (ForInStep β)}{b r:β}{j n:Nat}{Q:β->Shared->Prop}(hd:∀Q':ForInStep β->Shared->Prop,Q' (.done r) s'->wpAny M A (f j b) Q' E s)(hj:j<n)
  (hy:∀k,k<j->∀Q':ForInStep β->Shared->Prop,Q' (.yield b) s->wpAny M A (f k b) Q' E s) (q:Q r s'):wpAny M A (forIn [:n] b f) Q E s:=by
 rw[Std.Legacy.Range.forIn_eq_forIn_range'];exact zik hd q _ 0 (Y3 _) (by simpa using hj) λk _ h=>hy k h
theorem zje(l:Addr)(items:Array Value)(n:Nat)(dd:Option Addr)(sl:Array (Option Value))(x:Value)(e:Value->Bool)(j:Nat)(hj:j<items.size)(hit:e items[j]=true)(hno:∀m (hm:m<items.size),m<j->e items[m]=false):
  Meets (Zb.«tuple.index» ⟨[.ref l,x],[]⟩)
   (λA R s=>s.heap.get? l=some {cls:=.type "tuple",dict:=dd,data:=.seq items n,slots:=sl}/\(∀y,y∈items->X2 A.in1 s y x (e y))/\R (.ok (.ret (.int j s.toks))) {s with toks:=s.toks+1}):=
 .of_wp λprog w A R s h=>by
  obtain⟨hp,g,d,tk,os⟩:=s;obtain⟨hl,he,h⟩:=h
  wp_walk using WG hl,zkV (j:=j) (r:=(some (.done (.ret (.int (j:Int) tk))),())) (s':=⟨hp,g,d,tk+1,os⟩) ?hd ?hj ?hy ?hq
  case hd=>
   intro Q' q';rw[WS hj];refine Z9 (he _ (Array.getElem_mem hj) prog w _ _ ?_);rw[hit]
   wp_walk
   exact q'
  case hj=>omega
  case hy=>
   intro k hk Q' q'
   have hk':k<items.size:=by omega
   rw[WS hk'];refine Z9 (he _ (Array.getElem_mem hk') prog w _ _ ?_);rw[hno k hk' hk];exact Z6 q'
  case hq=>exact Z6 ⟨_,rfl,h⟩
end IT
namespace IT
open PySem PySem.Spec L2
open PySem.StrLaws Builtin.Str
section
variable {X:Cx}
theorem zj3:MtR X "str.startswith" (λx vs H Q=>∃z y:List Nat,x=.str (zaa z)/\vs=[.str (zaa y)]/\Q (.bl (y.isPrefixOf z)) H):=by
 intro pins s σ H x xs v us Q I rx rs q;obtain⟨z,y,rfl,rfl,q⟩:=q;obtain⟨t,rfl⟩:=(show ∃t',v=Yp (zaa z) t' from rx);obtain⟨u,rfl,ru⟩:=rs.one;obtain⟨t2,rfl⟩:=(show ∃t',u=Yp (zaa y) t' from ru);refine YD F.slot_str_startswith (Xe _ _ _) F.entry_str_startswith (F.args_str_startswith_2 _ _) (gives_str_startswith _ _ _ _).meets ?_
 have e:(decide (0+(zaa y).length<=(zaa z).length)&&subAt (zaa z) (zaa y) 0)=y.isPrefixOf z:=by
  have h:=zdO z y 0;unfold At at h;rw[X0,Z8,decide_eq_true_iff];refine h.trans ?_;simp only[XM,Nat.zero_add];constructor
  ·exact λh=>h.2
  ·exact λh=>⟨(YK.mp h).length_le,h⟩
 rw[e];exact⟨.bl _,H,I,rfl,q⟩
theorem zdD:∀{l:List (List Nat)} {us:List Value},Vals (l.map λx=>V.str (zaa x)) us->∃ps:List (Str×Tok),us=strValues ps/\ps.map (·.1)=l.map zaa
 | [],us,r=>⟨[],r.zero,rfl⟩
 | x::l,us,r=>by
  cases r with|cons r1 r=>obtain⟨t,rfl⟩:=(show ∃t',_=Yp (zaa x) t' from r1);obtain⟨ps,rfl,e⟩:=zdD r;exact⟨(zaa x,t)::ps,rfl,by simp[e]⟩
theorem zhF(z:Str):∀(l:List Str) (n:Nat),l.foldl (λa y=>a+y.length+z.length) n=n+(l.map λy=>y.length+z.length).sum| [],n=>by simp|y::l,n=>by simp only[WF,Zz,List.sum_cons];rw[zhF z l];omega
theorem zfO(z:List Nat):∀(l:List (List Nat)) (x:List Nat),(l.map zaa).foldl (λacc p=>acc++(zaa z).cps++p.cps) (zaa x).cps=(zaa (x++(l.map λy=>z++y).flatten)).cps
 | [],x=>by simp
 |y::l,x=>by
  simp only[Zz,WF,YC]
  have e:(zaa x).cps++(zaa z).cps++(zaa y).cps=(zaa (x++(z++y))).cps:=by simp[zaa]
  rw[e,zfO z l];simp
theorem zjl(z:List Nat):∀l:List (List Nat),glued (zaa z) (l.map zaa)=zaa (catS z l)
 | []=>rfl
 |x::l=>by
  have:=zfO z l x
  show(⟨(l.map zaa).foldl (λacc p=>acc++(zaa z).cps++p.cps) (zaa x).cps⟩:Str)=_;rw[this];rfl
theorem cat_len(z:List Nat):∀l:List (List Nat),(catS z l).length<=(l.map λy=>y.length+z.length).sum
 | []=>by simp[catS]
 | x::l=>by
  have h:∀l:List (List Nat),((l.map λy=>z++y).flatten).length=(l.map λy=>y.length+z.length).sum:=by
   intro l
   induction l with|nil=>rfl|cons y l ih=>simp[ih];omega
  simp only[catS,Zw,h,Zz,List.sum_cons];omega
theorem znG:MtR X "str.join" (λx vs H Q=>∃(z:List Nat) (p:Addr) (l:List (List Nat)),x=.str (zaa z)/\vs=[.ref p]/\(SqL X.K H p (l.map λx=>V.str (zaa x))\/SqT X.K H p (l.map λx=>V.str (zaa x)))/\(l.map λy=>y.length+z.length).sum<=sizeLine/\Q (.str (zaa (catS z l))) H):=by
 intro pins s σ H x xs v us Q I rx rs q;obtain⟨z,p,l,rfl,rfl,sq,hz,q⟩:=q;obtain⟨t,rfl⟩:=(show ∃t',v=Yp (zaa z) t' from rx);obtain⟨u,rfl,ru⟩:=rs.one;cases ru
 have long:∀ps:List (Str×Tok),ps.map (·.1)=l.map zaa->Zb.Str.tooLong ((ps.map (·.1)).toArray.foldl (·+·.length+(zaa z).length) 0)=false:=by
  intro ps e;rw[e]
  have h2:(l.map zaa).toArray.foldl (λa y=>a+y.length+(zaa z).length) 0=(l.map λy=>y.length+z.length).sum:=by rw[List.foldl_toArray,zhF];simp[zag,Function.comp_def]
  unfold Zb.Str.tooLong;have h3:=h2▸hz;simp only[decide_eq_false_iff_not];exact Nat.not_lt.mpr h3
 have fin:∀ps:List (Str×Tok),ps.map (·.1)=l.map zaa->(joinMade (zaa z) ps).post (λv s'=>wants (EP X pins σ Q) X.xe (.ok (.ret v)) s') s:=by
  intro ps e
  have many:(Made.str (glued (zaa z) (ps.map (·.1)))).post (λv s'=>wants (EP X pins σ Q) X.xe (.ok (.ret v)) s') s:=by rw[e,zjl];refine⟨?_,⟨.str (zaa (catS z l)),H,I.tok _,⟨_,rfl⟩,q⟩⟩;rw[zag];exact Zf (cat_len z l) hz
  match ps,e with
  | [],e=>exact many
  | [p1],e=>
   have e1:p1.1=zaa (catS z l):=by
    match l,e with| [],e=>simp at e| [x1],e=>simpa[catS] using e|_::_::_,e=>simp at e
   obtain⟨px,pt⟩:=p1;simp only at e1;subst e1;exact⟨.str (zaa (catS z l)),H,I,⟨pt,rfl⟩,q⟩
  |p1::p2::r,e=>exact many
 rcases sq with sq | sq
 ·obtain ⟨its,ri,pl,hn⟩:=I.list sq
  obtain⟨ps,rfl,e⟩:=zdD ri;exact YD F.slot_str_join (Xe _ _ _) F.entry_str_join (F.args_str_join_2 _ _) (meets_str_join_list (zaa z) t p ps (long ps e)) ⟨pl.isList,fin ps e⟩
 ·obtain ⟨its,ri,pl,hn⟩:=I.tuple sq
  obtain⟨ps,rfl,e⟩:=zdD ri;obtain⟨o,h1,h2,n,h3⟩:=pl;exact YD F.slot_str_join (Xe _ _ _) F.entry_str_join (F.args_str_join_2 _ _) (meets_str_join_tuple (zaa z) t p ps (long ps e)) ⟨⟨o,n,h1,h2,h3⟩,fin ps e⟩
theorem zlJ:MtR X "str.partition" (λx vs H Q=>∃z y:List Nat,x=.str (zaa z)/\vs=[.str (zaa y)]/\y≠[]/\z.length<=sizeLine ∧
  ∀p,H p=none->Q (.ref p) (upd H p (.tup (match fnd y z with | some i=>[.str (zaa (z.take i)),.str (zaa y),.str (zaa (z.drop (i+y.length)))] | none=>[.str (zaa z),.str (zaa []),.str (zaa [])])))):=by
 intro pins s σ H x xs v us Q I rx rs q;obtain⟨z,y,rfl,rfl,hy,hz,q⟩:=q;obtain⟨t,rfl⟩:=(show ∃t',v=Yp (zaa z) t' from rx);obtain⟨u,rfl,ru⟩:=rs.one;obtain⟨t2,rfl⟩:=(show ∃t',u=Yp (zaa y) t' from ru)
 have hy2:((zaa y).length==0)=false:=by
  rw[zag]
  cases y with|nil=>exact absurd rfl hy|cons _ _=>rfl
 refine YD F.slot_str_partition (Xe _ _ _) F.entry_str_partition (F.args_str_partition_2 _ _) (meets_str_partition (zaa z) (zaa y) t t2 hy2 (by rw[zag];exact hz)) ?_
 have hf:=I.fresh;have q:=q _ hf
 rcases zgS (x:=z) (y:=y) 1 (by omega) with⟨e1,e2⟩|⟨i,r,e1,hi,e2⟩
 ·rw [e1] at q
  simp only[e2];refine⟨.ref s.heap.objs.size,_,I.laid (o:=.tup [.str (zaa z),.str (zaa []),.str (zaa [])]) (t':=s.toks+1) (λb u e=>Z5 _ e) (ZZ _) ?_,rfl,q⟩;exact⟨show 3<=sizeLine by decide,_,.cons ⟨_,rfl⟩ (.cons ⟨_,rfl⟩ (.cons ⟨_,rfl⟩ .nil)),zbp.new _ _⟩
 ·rw [e1] at q
  simp only[e2]
  have z1:strSub (zaa z) 0 i=zaa (z.take i):=by rw[zhJ];simp
  have z2:strSub (zaa z) (i+(zaa y).length) (zaa z).length=zaa (z.drop (i+y.length)):=by rw[zhJ,zag,zag,YF (by simp)]
  rw[z1,z2];refine⟨.ref s.heap.objs.size,_,I.laid (o:=.tup [.str (zaa (z.take i)),.str (zaa y),.str (zaa (z.drop (i+y.length)))]) (t':=s.toks+1+1) (λb u e=>Z5 _ e) (ZZ _) ?_,rfl,q⟩;exact⟨show 3<=sizeLine by decide,_,.cons ⟨_,rfl⟩ (.cons ⟨_,rfl⟩ (.cons ⟨_,rfl⟩ .nil)),zbp.new _ _⟩
theorem zgq:∀(l:List (List Nat)) (k:Nat),Vals (l.map λx=>V.str (zaa x)) (strsFrom k (l.map zaa))| [],_=>.nil|x::l,k=>.cons ⟨_,rfl⟩ (zgq l (k+1))
theorem zl4:MtR X "str.split" (λx vs H Q=>∃z y:List Nat,x=.str (zaa z)/\vs=[.str (zaa y)]/\y≠[]/\z.length+1<=sizeLine/\(splS y z.length z).length<=sizeLine ∧
  ∀p,H p=none->Q (.ref p) (upd H p (.lst ((splS y z.length z).map λx=>V.str (zaa x))))):=by
 intro pins s σ H x xs v us Q I rx rs q;obtain⟨z,y,rfl,rfl,hy,hz,hn,q⟩:=q;obtain⟨t,rfl⟩:=(show ∃t',v=Yp (zaa z) t' from rx);obtain⟨u,rfl,ru⟩:=rs.one;obtain⟨t2,rfl⟩:=(show ∃t',u=Yp (zaa y) t' from ru)
 have hy2:((zaa y).length==0)=false:=by
  rw[zag]
  cases y with|nil=>exact absurd rfl hy|cons _ _=>rfl
 have q:=q _ I.fresh
 have self:fnd y z=none->EP X pins σ Q (.ref s.heap.objs.size) {s with heap:=s.heap.push {cls:=.type "list",data:=.seq [Yp (zaa z) t].toArray}}:=by intro e;rw[zki _ e] at q;exact⟨.ref s.heap.objs.size,_,I.lnew (t':=s.toks) (ys:=[.str (zaa z)]) (its:=[Yp (zaa z) t]) (.cons ⟨_,rfl⟩ .nil) (show 1<=sizeLine by decide),rfl,q⟩
 cases h1:(decide ((zaa z).length<(zaa y).length)||decide (Yn (zaa z)<Yn (zaa y)))
 ·rcases zgS (x:=z) (y:=y) ((zaa z).length+1) (by omega) with⟨e1,e2⟩|⟨i,r,e1,hi,e2⟩
  ·exact YD UY (Xe _ _ _) Vf (VB _ _) (meets_str_split_not_found (zaa z) (zaa y) t t2 h1 hy2 (by rw[e2];rfl)) (self e1)
  ·obtain ⟨f,c1,c2⟩:=occ_tight (zaa z) (zaa y) (by rw[zag];exact WR.mpr hy)
   have ep:partsBetween (zaa z) (occurrences (zaa z) (zaa y) 0 (zaa z).length ((zaa z).length+1)) (zaa y).length=(splS y z.length z).map zaa:=by rw[partsBetween_eq];exact zfR hy _ 0 f z.length (Y3 _) c1 c2 (by omega)
   refine YD UY (Xe _ _ _) Vf (VB _ _) (meets_str_split_sep (zaa z) (zaa y) t t2 h1 hy2 (by rw[e2];rfl) (by rw[zag];omega) (by rw[ep];simpa using hn)) ?_
   rw[ep];exact⟨.ref s.heap.objs.size,_,I.lnew (t':=s.toks+((splS y z.length z).map zaa).length) (its:=strsFrom s.toks ((splS y z.length z).map zaa)) (zgq _ _) (by simpa using hn),rfl,q⟩
 ·exact YD UY (Xe _ _ _) Vf (VB _ _) (meets_str_split_cannot_occur (zaa z) (zaa y) t t2 h1) (self (zpp hy h1))
theorem zjH(q:RepDs K A H (d::xs) (v::vs)):RepD K A H d v/\RepDs K A H xs vs:=by rw[RepDs] at q;obtain⟨v',r,e,q1,q2⟩:=q;cases e;exact⟨q1,q2⟩
theorem zcy(x:List Nat):RepD K A H (.str x) (.str (zaa x)):=by simp only[RepD]
theorem zhN:∀{xs:List D} {vs:List V} {l:List (List Nat)},RepDs K A H xs vs->txts xs=some l->vs=l.map λx=>V.str (zaa x)
 | [],vs,l,q,e=>by
  cases e
  cases vs with|nil=>rfl|cons _ _=>simp[RepDs] at q
 | d :: xs,vs,l,q,e=>by
  cases vs with
  |nil=>simp[RepDs] at q
  | cons v vs=>
   obtain⟨q1,q2⟩:=zjH q
   cases d with
   | str x=>
    simp only[txts] at e
    cases hr:txts xs with|none=>rw[hr] at e;cases e|some l'=>rw[hr] at e;cases e;simp only[RepD] at q1;rw[zhN q2 hr,q1];rfl
   |_=>simp[txts] at e
def tmS:Tm->Str|.starts=>"startswith"|.parti=>"partition"|.join=>"join"
theorem zrS{fs:IT.Env->M (List R)}(ho:IE X o f)(ha:IA X (e::es) fs)
  (hname:name=tmS m)
  (hbase:Yz o name X.env (eval o X.env)=eval o X.env)
  (hfew:((backTo cpos (ZT (e::es) X.env)).all (λx=>!x.1)&&(WO cpos (XT [] X.env)).all (λx=>x.1.isSome)
   && decide ((e::es).length+([]:List X5).length+(if([]:List X5).isEmpty then 0 else 1)<30))=true)
  (hline:(apos.endLine==cpos.line)=true) (hs:ZT (e::es) X.env=(false,eval e X.env)::ZT es X.env) (hplain:(backTo cpos (ZT es X.env)).any (·.1)=false):
  IE X (.Call (.Attribute o name apos) (e::es) [] cpos) (λσ=>bnd (f σ) λx=>bnd (fs σ) λrs=>bnd (rd x) λd=>bnd (rds rs) λds=>bnd (opt (tmD m d ds)) λz=>ok (.d z)):=by
 have key:∀(id:String) (rr:V->List V->Hp->VK->Prop),MtR X id rr->Slot "str" name id->typeOf (.builtin id)=pure (.type "method_descriptor") →
   (∀μ h H (z:List Nat) ds vs d Q,Rep X.K μ h H->Paired (RdD X.K (Live μ h) H) ds vs->tmD m (.str z) ds=some d->(∀μ' H' w,Stp μ h H μ' h H'->Rep X.K μ' h H'->RepD X.K (Live μ' h) H' d w->Q w H')->rr (.str (zaa z)) vs H Q) →
   IE X (.Call (.Attribute o name apos) (e::es) [] cpos) (λσ=>bnd (f σ) λx=>bnd (fs σ) λrs=>bnd (rd x) λd=>bnd (rds rs) λds=>bnd (opt (tmD m d ds)) λz=>ok (.d z)):=by
  intro id rr hm slot hty hk;refine PE.imp (zjw PySem.F.plainAttrs_str slot hty hm ho ha hbase hfew hline hs hplain) λσ H Q q0=>?_;obtain⟨μ,h,env,R0,re,r,h',e,k⟩:=q0;simp only[zab,zat,zac] at e;obtain⟨x,h1,e1,rs,h2,e2,d,h3,e3,ds,h4,e4,z,h5,⟨e5,rfl⟩,rfl,rfl⟩:=e;refine⟨μ,h,env,R0,re,x,h1,e1,λμ1 H1 v s1 R1 q1=>?_⟩
  have hd:∃z',d=.str z':=by
   cases d with|str z'=>exact⟨z',rfl⟩|_=>cases m<;>exact zad e5
  obtain⟨z',rfl⟩:=hd
  have hx:x=.d (.str z')/\h3=h2:=by
   cases x with
   |d y=>simp only[rd,zac] at e3;exact⟨by rw[e3.1],e3.2.symm⟩
   |loc l=>
    simp only[rd] at e3
    cases hl:h2[l]? with|none=>rw[hl] at e3;cases e3|some ob=>rw[hl] at e3;simp at e3
  obtain⟨rfl,rfl⟩:=hx;simp only[RepR,RepD] at q1;subst q1;refine⟨rfl,μ1,h1,env,R1,re.stp s1 R0,rs,_,e2,λμ2 H2 vs s2 R2 q2=>?_⟩;obtain⟨rfl,zs⟩:=zkO R2 q2 e4;exact hk μ2 _ H2 z' ds vs z Q R2 zs e5 λμ' H' w st R' q'=>k μ' H' w ((s1.trans s2).trans st) R' q'
 cases m with
 | starts=>
  subst hname;refine key _ _ zj3 PySem.F.slot_str_startswith PySem.F.type_str_startswith λμ h H z ds vs d Q R0 pr e k=>?_
  cases pr with
  |nil=>exact zad e
  | @cons d1 v1 ds vs q1 pr=>
   cases pr with
   |cons _ _=>cases d1<;>exact zad e
   | nil=>
    cases d1 with|str y=>simp only[RdD,RepD] at q1;subst q1;cases e;exact⟨z,y,rfl,rfl,k μ H _ Stp.refl R0 (by simp only[RepD])⟩|_=>exact zad e
 | parti=>
  subst hname;refine key _ _ zlJ PySem.F.slot_str_partition PySem.F.type_str_partition λμ h H z ds vs d Q R0 pr e k=>?_
  cases pr with
  |nil=>exact zad e
  | @cons d1 v1 ds vs q1 pr=>
   cases pr with
   |cons _ _=>cases d1<;>exact zad e
   | nil=>
    cases d1 with
    | str y=>
     simp only[RdD,RepD] at q1;subst q1
     (delta tmD at e;(try dsimp only at e))
     split at e
     ·cases e
     ·rename_i hc
      simp only[Zh,not_or,Zu,UZ] at hc;cases e
      refine⟨z,y,rfl,rfl,by intro z;rw[z] at hc;simp at hc,(show z.length<=big from by simpa[fit] using hc.2),λp hp=>?_⟩
      have s2:∀u:List V,Stp μ h H μ h (upd H p (.tup u)):=λu=>Stp.fresh hp;refine k μ _ (.ref p) (s2 _) (R0.fresh hp) ?_
      have hrep:∀(A:Addr->Prop) (H:Hp),RepDs X.K A H (match fnd y z with | some i=>[D.str (z.take i),.str y,.str (z.drop (i+y.length))] | none=>[.str z,.str [],.str []]) (match fnd y z with | some i=>[V.str (zaa (z.take i)),.str (zaa y),.str (zaa (z.drop (i+y.length)))] | none=>[.str (zaa z),.str (zaa []),.str (zaa [])]):=by
       intro A H
       cases fnd y z with|none=>exact .cons (zcy _) (.cons (zcy _) (.cons (zcy _) .nil))|some i=>exact .cons (zcy _) (.cons (zcy _) (.cons (zcy _) .nil))
      simp only[RepD];exact⟨p,_,rfl,SqT.of zak,hrep _ _⟩
    |_=>exact zad e
 | join =>
  subst hname;refine key _ _ znG PySem.F.slot_str_join PySem.F.type_str_join λμ h H z ds vs d Q R0 pr e k=>?_
  cases pr with
  |nil=>exact zad e
  | @cons d1 v1 ds vs q1 pr=>
   cases pr with
   |cons _ _=>cases d1<;>exact zad e
   | nil=>
    have fin:∀xs:List D,items d1=some xs->(∃(p:Addr) (ws:List V),v1=.ref p/\(SqL X.K H p ws\/SqT X.K H p ws)/\RepDs X.K (Live μ h) H xs ws)->∃(z':List Nat) (p:Addr) (l:List (List Nat)),V.str (zaa z)=.str (zaa z')/\[v1]=[.ref p]/\(SqL X.K H p (l.map λx=>V.str (zaa x))\/SqT X.K H p (l.map λx=>V.str (zaa x)))/\(l.map λy=>y.length+z'.length).sum<=sizeLine/\Q (.str (zaa (catS z' l))) H:=by
     intro xs hi ⟨p,ws,e1,sq,zz⟩
     (delta tmD at e;(try dsimp only at e);simp only[hi] at e)
     cases hl:txts xs with
     |none=>rw[hl] at e;cases e
     | some l=>
      rw[hl] at e;simp only at e
      split at e
      ·rename_i hf
       cases e;have ew:=zhN zz hl;subst ew;exact⟨z,p,l,rfl,by rw[e1],sq,of_decide_eq_true hf,k μ H _ Stp.refl R0 (by simp only[RepD])⟩
      ·cases e
    cases d1 with|tup xs=>simp only[RdD,RepD] at q1;obtain⟨p,ws,rfl,sq,zz⟩:=q1;exact fin xs rfl ⟨p,ws,rfl,.inr sq,zz⟩|lst xs=>obtain⟨p,ws,rfl,sq,zz⟩:=q1;exact fin xs rfl ⟨p,ws,rfl,.inl sq,zz⟩|_=>exact zad e
theorem zqQ(ho:IE X o f)(he:IE X e g)(hname:name=("split":Str))
  (hbase:Yz o name X.env (eval o X.env)=eval o X.env)
  (hfew:((backTo cpos (ZT [e] X.env)).all (λx=>!x.1)&&(WO cpos (XT [] X.env)).all (λx=>x.1.isSome)
   && decide ([e].length+([]:List X5).length+(if([]:List X5).isEmpty then 0 else 1)<30))=true)
  (hline:(apos.endLine==cpos.line)=true) (hs:ZT [e] X.env=[(false,eval e X.env)]) (hplain:(backTo cpos (ZT [] X.env)).any (·.1)=false):
  IL X (.Call (.Attribute o name apos) [e] [] cpos) (λσ=>bnd (f σ) λx=>bnd (g σ) λy=>bnd (rd x) λx=>bnd (rd y) λy=>opt (splD x y)):=by
 subst hname;refine PE.imp (zjw PySem.F.plainAttrs_str PySem.F.slot_str_split PySem.F.type_str_split zl4 ho (zax he za1 hs) hbase hfew hline hs hplain) λσ H Q q0=>?_;obtain⟨μ,h,env,R0,re,xs,h',e,k⟩:=q0;simp only[zab,zat] at e;obtain⟨x,h1,e1,y,h2,e2,dx,h3,e3,dy,h4,e4,e5,rfl⟩:=e;refine⟨μ,h,env,R0,re,x,h1,e1,λμ1 H1 v s1 R1 q1=>?_⟩
 have hd:∃z w,dx=.str z/\dy=.str w:=by
  cases dx with
  |str z=>
   cases dy with|str w=>exact⟨z,w,rfl,rfl⟩|_=>exact zad e5
  |_=>exact zad e5
 obtain⟨z,w,rfl,rfl⟩:=hd
 have one:∀(r:R) (t:List Nat) (ha hb:Sto),rd r ha=some (.str t,hb)->r=.d (.str t)/\hb=ha:=by
  intro r t ha hb e
  cases r with
  |d y=>simp only[rd,zac] at e;exact⟨by rw[e.1],e.2.symm⟩
  |loc l=>
   simp only[rd] at e
   cases hl:ha[l]? with|none=>rw[hl] at e;cases e|some ob=>rw[hl] at e;simp at e
 obtain⟨rfl,rfl⟩:=one _ _ _ _ e3;obtain⟨rfl,rfl⟩:=one _ _ _ _ e4;simp only[RepR,RepD] at q1;subst q1;refine⟨rfl,μ1,h1,env,R1,re.stp s1 R0,_,_,e2,λμ2 H2 vs s2 R2 q2=>?_⟩;simp only[RepR,RepD] at q2;subst q2
 (delta splD at e5;(try dsimp only at e5))
 split at e5
 ·cases e5
 ·rename_i hc
  simp only[Zh,not_or,Zu,UZ] at hc;cases e5
  refine⟨z,w,rfl,rfl,by intro z;rw[z] at hc;simp at hc,(show z.length+1<=big from by simpa[fit] using hc.1.2),(show(splS w z.length z).length<=big from by simpa[fit] using hc.2),λp hp=>?_⟩
  refine k μ2 H2 p _ (s1.trans s2) R2 ?_ hp
  have all:∀l:List (List Nat),RepDs X.K (Live μ2 h4) H2 (l.map D.str) (l.map λx=>V.str (zaa x)):=by
   intro l
   induction l with|nil=>exact RepDs.nil|cons a l ih=>exact RepDs.cons (by simp only[RepD]) ih
  exact all _
theorem zdF{α β:Type}{p:α->Bool}{f:β->Bool}:∀{xs:List α} {ys:List β},xs.length=ys.length->(∀(j:Nat) (x:α) (y:β),xs[j]?=some x->ys[j]?=some y->f y=p x)->ys.countP f=xs.countP p| [],[],_,_=>rfl| [],_::_,h,_=>by simp at h|_::_,[],h,_=>by simp at h|x::xs,y::ys,h,k=>by rw[List.countP_cons,List.countP_cons,zdF (xs:=xs) (ys:=ys) (by simpa using h) (λj x y hx hy=>k (j+1) x y (by simpa using hx) (by simpa using hy)),k 0 x y rfl rfl]
def lmI:Lm->String|.count=>"list.count"|.index=>"list.index"|.countT=>"tuple.count"|.indexT=>"tuple.index"
theorem zrl(hu:X.A.units+64<cLine)(m:Lm):MtR X (lmI m) (λx vs H Q=>∃μ h xs d v z,Rep X.K μ h H/\RdD X.K (Live μ h) H (.lst xs) x/\vs=[v]/\RdD X.K (Live μ h) H d v/\lmD m (.lst xs) d=some z/\(∀w,RepD X.K (Live μ h) H z w->Q w H)):=by
 intro pins s σ H x vs v us Q I rx rs q;obtain⟨μ,h,xs,d,vd,z,R0,qx,rfl,qd,e,k⟩:=q;obtain⟨p,ws,rfl,sq,zz⟩:=qx;cases rx;obtain⟨u,rfl,ru⟩:=rs.one;obtain⟨its,ri,⟨o,n,e1,hc,hdd,hs⟩,hz⟩:=I.list sq;obtain⟨cls,dd,data,sl⟩:=o;simp only at hc hdd hs;subst hc hdd hs
 have hlen:xs.length=its.length:=by rw[zz.length,ri.length]
 cases m with
 | count=>
  (delta lmD at e;(try dsimp only at e))
  split at e
  ·rename_i hd
   cases e;obtain⟨f,f1,f2⟩:=zgA hu I qd ru (of_decide_eq_true hd) zz ri;refine YD F.slot_list_count ⟨_,e1,rfl⟩ F.entry_list_count (F.args_list_count_2 _ _) (SeqAt.list_countAt p its.toArray n none sl u f) ⟨e1,f1,?_⟩
   have ec:(its.toArray.toList.countP f:Nat)=xs.countP λy=>y.eqb d:=by simpa using zdF hlen f2
   rw[ec];exact⟨.int _,H,I.tok _,⟨_,rfl⟩,k _ (by simp only[RepD])⟩
  ·cases e
 | index=>
  (delta lmD at e;(try dsimp only at e))
  split at e
  ·rename_i hd
   cases hj:xs.findIdx? (λy=>y.eqb d) with
   |none=>rw[hj] at e;cases e
   | some j=>
    rw[hj] at e;cases e;obtain⟨f,f1,f2⟩:=zgA hu I qd ru (of_decide_eq_true hd) zz ri;obtain⟨jl,j1,j2⟩:=Yu.mp hj
    have fa:∀(i:Nat) (hi:i<its.toArray.size),f its.toArray[i]=(xs[i]'(by rw[hlen];simpa using hi)).eqb d:=by
     intro i hi
     have hi2:i<its.length:=by simpa using hi
     exact f2 i _ _ (Z4 (by rw[hlen];exact hi2)) (by simp)
    refine YD F.slot_list_index ⟨_,e1,rfl⟩ F.entry_list_index (F.args_list_index_2 _ _) (SeqAt.list_indexAt p its.toArray n none sl u f j (by simp;omega) ?_ ?_ ?_) ⟨e1,f1,?_⟩
    ·have h5:ws.length<=sizeLine:=hz
     have h6:sizeLine=16777216:=rfl;have h7:=zz.length;omega
    ·rw[fa];exact j1
    ·intro i hi hij
     rw[fa]
     simpa using j2 i hij
    ·exact⟨.int _,H,I.tok _,⟨_,rfl⟩,k _ (by simp only[RepD])⟩
  ·cases e
 |countT=>exact zad e|indexT=>exact zad e
def lmS:Lm->Str|.count=>"count"|.index=>"index"|.countT=>"count"|.indexT=>"index"
theorem zrV(hu:X.A.units+64<cLine)(hnt:m≠.countT)(hnx:m≠.indexT)(ho:IE X o f)(he:IE X e g)(hname:name=lmS m)
  (hbase:Yz o name X.env (eval o X.env)=eval o X.env)
  (hfew:((backTo cpos (ZT [e] X.env)).all (λx=>!x.1)&&(WO cpos (XT [] X.env)).all (λx=>x.1.isSome)
   && decide ([e].length+([]:List X5).length+(if([]:List X5).isEmpty then 0 else 1)<30))=true)
  (hline:(apos.endLine==cpos.line)=true) (hs:ZT [e] X.env=[(false,eval e X.env)]) (hplain:(backTo cpos (ZT [] X.env)).any (·.1)=false):
  IE X (.Call (.Attribute o name apos) [e] [] cpos) (λσ=>bnd (f σ) λx=>bnd (rd x) λ_=>bnd (g σ) λy=>bnd (rd x) λx=>bnd (rd y) λy=>bnd (opt (lmD m x y)) λz=>ok (.d z)):=by
 have slot:Slot "list" name (lmI m):=by
  subst hname
  cases m with|count=>exact PySem.F.slot_list_count|index=>exact PySem.F.slot_list_index|countT=>exact absurd rfl hnt|indexT=>exact absurd rfl hnx
 have hty:typeOf (.builtin (lmI m))=pure (.type "method_descriptor"):=by
  cases m with|count=>exact PySem.F.type_list_count|index=>exact PySem.F.type_list_index|countT=>exact absurd rfl hnt|indexT=>exact absurd rfl hnx
 refine PE.imp (zjw PySem.F.plainAttrs_list slot hty (zrl hu m) ho (zax he za1 hs) hbase hfew hline hs hplain) λσ H Q q0=>?_;obtain⟨μ,h,env,R0,re,r,h',e,k⟩:=q0;simp only[zab,zat,zac] at e;obtain⟨x,h1,e1,d1,h1',e0,y,h2,e2,dx,h3,e3,dy,h4,e4,z,h5,⟨e5,rfl⟩,rfl,rfl⟩:=e;refine⟨μ,h,env,R0,re,x,h1,e1,λμ1 H1 v s1 R1 q1=>?_⟩;obtain⟨rfl,_⟩:=zaU R1 q1 e0
 have hd:∃xs,dx=.lst xs:=by
  cases dx with
  |lst xs=>exact⟨xs,rfl⟩
  |_=>cases m<;>first | exact absurd rfl hnt | exact absurd rfl hnx | exact zad e5
 obtain⟨xs,rfl⟩:=hd
 have ty:tyV X.K "list" v H1:=by
  cases x with|loc l=>obtain⟨a,ea,rfl⟩:=q1;obtain⟨o1,ho1,il1,_,_⟩:=zez e0;obtain⟨vs1,hH1,z1⟩:=R1.placeL ea ho1 il1;exact .inl ⟨rfl,vs1,.inl (.inl hH1)⟩|d d0=>simp only[rd,zac] at e3;obtain⟨rfl,rfl⟩:=e3;simp only[RepR,RepD] at q1;obtain⟨a,ws,rfl,sq,zz⟩:=q1;exact .inl ⟨rfl,ws,sq.sq⟩
 refine⟨ty,μ1,_,env,R1,re.stp s1 R0,y,h2,e2,λμ2 H2 w s2 R2 q2=>?_⟩;have q1':=RepR.stp s2 R1 q1;obtain⟨rfl,zx⟩:=zaU R2 q1' e3;obtain⟨rfl,zy⟩:=zaU R2 q2 e4;exact⟨μ2,_,xs,dy,w,z,R2,zx,rfl,zy,e5,λu qu=>k μ2 H2 u (s1.trans s2) R2 qu⟩
theorem zpU(hu:X.A.units+64<cLine):MtR X "tuple.count" (λx vs H Q=>∃μ h xs d v z,Rep X.K μ h H/\RdD X.K (Live μ h) H (.tup xs) x/\vs=[v]/\RdD X.K (Live μ h) H d v/\lmD .countT (.tup xs) d=some z/\(∀w,RepD X.K (Live μ h) H z w->Q w H)):=by
 intro pins s σ H x vs v us Q I rx rs q;obtain⟨μ,h,xs,d,vd,z,R0,qx,rfl,qd,e,k⟩:=q;simp only[RdD,RepD] at qx;obtain⟨p,ws,rfl,sq,zz⟩:=qx;cases rx;obtain⟨u,rfl,ru⟩:=rs.one;obtain⟨its,ri,pt,hz⟩:=I.tuple sq;obtain⟨⟨cls,dd,data,sl⟩,e1,hc,n,hdd⟩:=id pt;simp only at hc hdd;subst hc hdd
 have hlen:xs.length=its.length:=by rw[zz.length,ri.length]
 change (if _=true then _ else _)=some _ at e
 split at e
 ·rename_i hd
  cases e;obtain⟨f,f1,f2⟩:=zgA hu I qd ru (of_decide_eq_true hd) zz ri;refine YD F.slot_tuple_count ⟨_,e1,rfl⟩ F.entry_tuple_count (F.args_tuple_count_2 _ _) (SeqAt.tuple_countAt p its.toArray n dd sl u f) ⟨e1,f1,?_⟩
  have ec:(its.toArray.toList.countP f:Nat)=xs.countP λy=>y.eqb d:=by simpa using zdF hlen f2
  rw[ec];exact⟨.int _,H,I.tok _,⟨_,rfl⟩,k _ (by simp only[RepD])⟩
 ·cases e
theorem zm9{id:String}{m:Lm}(slot:Slot "tuple" name id)(hty:typeOf (.builtin id)=pure (.type "method_descriptor"))(mt:MtR X id (λx vs H Q=>∃μ h xs d v z,Rep X.K μ h H/\RdD X.K (Live μ h) H (.tup xs) x/\vs=[v]/\RdD X.K (Live μ h) H d v/\lmD m (.tup xs) d=some z/\(∀w,RepD X.K (Live μ h) H z w->Q w H)))
  (hm:m=.countT\/m=.indexT) (ho:IE X o f) (he:IE X e g)
  (hbase:Yz o name X.env (eval o X.env)=eval o X.env)
  (hfew:((backTo cpos (ZT [e] X.env)).all (λx=>!x.1)&&(WO cpos (XT [] X.env)).all (λx=>x.1.isSome)
   && decide ([e].length+([]:List X5).length+(if([]:List X5).isEmpty then 0 else 1)<30))=true)
  (hline:(apos.endLine==cpos.line)=true) (hs:ZT [e] X.env=[(false,eval e X.env)]) (hplain:(backTo cpos (ZT [] X.env)).any (·.1)=false):
  IE X (.Call (.Attribute o name apos) [e] [] cpos) (λσ=>bnd (f σ) λx=>bnd (rd x) λ_=>bnd (g σ) λy=>bnd (rd x) λx=>bnd (rd y) λy=>bnd (opt (lmD m x y)) λz=>ok (.d z)):=by
 refine PE.imp (zjw PySem.F.plainAttrs_tuple slot hty mt ho (zax he za1 hs) hbase hfew hline hs hplain) λσ H Q q0=>?_;obtain⟨μ,h,env,R0,re,r,h',e,k⟩:=q0;simp only[zab,zat,zac] at e;obtain⟨x,h1,e1,d1,h1',e0,y,h2,e2,dx,h3,e3,dy,h4,e4,z,h5,⟨e5,rfl⟩,rfl,rfl⟩:=e;refine⟨μ,h,env,R0,re,x,h1,e1,λμ1 H1 v s1 R1 q1=>?_⟩;obtain⟨rfl,_⟩:=zaU R1 q1 e0
 have hd:∃xs,dx=.tup xs:=by
  cases dx with
  |tup xs=>exact⟨xs,rfl⟩
  |_=>rcases hm with rfl | rfl<;>exact zad e5
 obtain⟨xs,rfl⟩:=hd
 have ty:tyV X.K "tuple" v H1:=by
  cases x with|loc l=>obtain⟨o1,ho1,il1,z1,_⟩:=zez e3;cases z1|d d0=>simp only[rd,zac] at e3;obtain⟨rfl,rfl⟩:=e3;simp only[RepR,RepD] at q1;obtain⟨a,ws,rfl,sq,zz⟩:=q1;exact .inr (.inl ⟨rfl,ws,sq⟩)
 refine⟨ty,μ1,_,env,R1,re.stp s1 R0,y,h2,e2,λμ2 H2 w s2 R2 q2=>?_⟩;have q1':=RepR.stp s2 R1 q1;obtain⟨rfl,zx⟩:=zaU R2 q1' e3;obtain⟨rfl,zy⟩:=zaU R2 q2 e4;exact⟨μ2,_,xs,dy,w,z,R2,zx,rfl,zy,e5,λu qu=>k μ2 H2 u (s1.trans s2) R2 qu⟩
theorem zo9(hu:X.A.units+64<cLine)(ho:IE X o f)(he:IE X e g)(hname:name=lmS .countT)
  (hbase:Yz o name X.env (eval o X.env)=eval o X.env)
  (hfew:((backTo cpos (ZT [e] X.env)).all (λx=>!x.1)&&(WO cpos (XT [] X.env)).all (λx=>x.1.isSome)
   && decide ([e].length+([]:List X5).length+(if([]:List X5).isEmpty then 0 else 1)<30))=true)
  (hline:(apos.endLine==cpos.line)=true) (hs:ZT [e] X.env=[(false,eval e X.env)]) (hplain:(backTo cpos (ZT [] X.env)).any (·.1)=false):
  IE X (.Call (.Attribute o name apos) [e] [] cpos) (λσ=>bnd (f σ) λx=>bnd (rd x) λ_=>bnd (g σ) λy=>bnd (rd x) λx=>bnd (rd y) λy=>bnd (opt (lmD .countT x y)) λz=>ok (.d z)):=
 zm9 (by subst hname;exact PySem.F.slot_tuple_count) PySem.F.type_tuple_count (zpU hu) (.inl rfl) ho he hbase hfew hline hs hplain
theorem zqP(hu:X.A.units+64<cLine):MtR X "tuple.index" (λx vs H Q=>∃μ h xs d v z,Rep X.K μ h H/\RdD X.K (Live μ h) H (.tup xs) x/\vs=[v]/\RdD X.K (Live μ h) H d v/\lmD .indexT (.tup xs) d=some z/\(∀w,RepD X.K (Live μ h) H z w->Q w H)):=by
 intro pins s σ H x vs v us Q I rx rs q;obtain⟨μ,h,xs,d,vd,z,R0,qx,rfl,qd,e,k⟩:=q;simp only[RdD,RepD] at qx;obtain⟨p,ws,rfl,sq,zz⟩:=qx;cases rx;obtain⟨u,rfl,ru⟩:=rs.one;obtain⟨its,ri,pt,hz⟩:=I.tuple sq;obtain⟨⟨cls,dd,data,sl⟩,e1,hc,n,hdd⟩:=id pt;simp only at hc hdd;subst hc hdd
 have hlen:xs.length=its.length:=by rw[zz.length,ri.length]
 change (if _=true then _ else _)=some _ at e
 split at e
 ·rename_i hd
  cases hj:xs.findIdx? (λy=>y.eqb d) with
  |none=>rw[hj] at e;cases e
  | some j=>
   rw[hj] at e;cases e;obtain⟨f,f1,f2⟩:=zgA hu I qd ru (of_decide_eq_true hd) zz ri;obtain⟨jl,j1,j2⟩:=Yu.mp hj
   have fa:∀(i:Nat) (hi:i<its.toArray.size),f its.toArray[i]=(xs[i]'(by rw[hlen];simpa using hi)).eqb d:=by
    intro i hi
    have hi2:i<its.length:=by simpa using hi
    exact f2 i _ _ (Z4 (by rw[hlen];exact hi2)) (by simp)
   refine YD F.slot_tuple_index ⟨_,e1,rfl⟩ F.entry_tuple_index (F.args_tuple_index_2 _ _) (zje p its.toArray n dd sl u f j (by simp;omega) ?_ ?_) ⟨e1,f1,?_⟩
   ·rw[fa];exact j1
   ·intro i hi hij
    rw[fa]
    simpa using j2 i hij
   ·exact⟨.int _,H,I.tok _,⟨_,rfl⟩,k _ (by simp only[RepD])⟩
 ·cases e
theorem zqS(hu:X.A.units+64<cLine)(ho:IE X o f)(he:IE X e g)(hname:name=lmS .indexT)
  (hbase:Yz o name X.env (eval o X.env)=eval o X.env)
  (hfew:((backTo cpos (ZT [e] X.env)).all (λx=>!x.1)&&(WO cpos (XT [] X.env)).all (λx=>x.1.isSome)
   && decide ([e].length+([]:List X5).length+(if([]:List X5).isEmpty then 0 else 1)<30))=true)
  (hline:(apos.endLine==cpos.line)=true) (hs:ZT [e] X.env=[(false,eval e X.env)]) (hplain:(backTo cpos (ZT [] X.env)).any (·.1)=false):
  IE X (.Call (.Attribute o name apos) [e] [] cpos) (λσ=>bnd (f σ) λx=>bnd (rd x) λ_=>bnd (g σ) λy=>bnd (rd x) λx=>bnd (rd y) λy=>bnd (opt (lmD .indexT x y)) λz=>ok (.d z)):=
 zm9 (by subst hname;exact PySem.F.slot_tuple_index) PySem.F.type_tuple_index (zqP hu) (.inr rfl) ho he hbase hfew hline hs hplain
end
end IT
namespace PySem
open Sem (wp)
open Builtin
section
variable {prog:ZB}{w:World}{A:Around}{E:Value->Shared->Prop}{s:Shared}
end
section
variable {prog:ZB}{w:World}{K:Type}[DecidableEq K]{knd:KeyKind prog w K}{A:Around}{E:Value->Shared->Prop}{R:Result->Shared->Prop}
end
end PySem
namespace IT
open PySem PySem.Spec L2
section
variable {X:Cx}
end
end IT
namespace IT
open PySem PySem.Spec L2
section
variable {X:Cx}
structure zpx(X:Cx)(n:Nat)(c m:Str)(np:Nat)(mm:List R->M R):Prop where
 ex:∃C f fd ps,ZS X.K mainGlobals c=some (some (.ref C))/\Cls X.K C/\Meth X.K C m f/\FnOk X.prog X.w X.K X.mg X.base CX0 n f fd ps (spF X.K np mm)/\zcm X.K fd ps []
 len:∀rs h p,mm rs h=some p->rs.length=np
structure zpe(X:Cx)(n:Nat)(c:Str)(np:Nat)(mm:List R->M R):Prop where
 ex:∃C f fd ps,X.mg c=some (.ref C)/\ZS X.K mainGlobals c=some (some (.ref C))/\Cls X.K C/\Mk X.K C f/\FnOk X.prog X.w X.K X.mg X.base CX0 n f fd ps (spF X.K np mm)/\zcm X.K fd ps []
 len:∀rs h p,mm rs h=some p->rs.length=np
end
end IT
namespace IT
open PySem
def rise:List Nat->Bool
 | []=>true
 |a::r=>(match r with
  | []=>true
  |b::_=>decide (a<b))&&rise r
def okP(P:List Nat):Bool:=decide (P.length<=4)&&(P.all λj=>decide (j<8))&&rise P
def forP(f:List Nat->Bool):Bool:=f []&&((ZA 8).all λa=>f [a]&&((ZA 8).all λb=>f [a,b]&&((ZA 8).all λc=>f [a,b,c]&&(ZA 8).all λd=>f [a,b,c,d])))
theorem zcL{f:List Nat->Bool}(h:forP f=true){P:List Nat}(o:okP P=true):f P=true:=by
 simp only[okP,Z8,ZQ,decide_eq_true_eq] at o;obtain⟨⟨h4,h8⟩,_⟩:=o;simp only[forP,Z8,ZQ,YM] at h;obtain⟨h0,h1⟩:=h
 match P,h4,h8 with| [],_,_=>exact h0| [a],_,h8=>exact(h1 a (h8 a (by simp))).1| [a,b],_,h8=>exact((h1 a (h8 a (by simp))).2 b (h8 b (by simp))).1| [a,b,c],_,h8=>exact(((h1 a (h8 a (by simp))).2 b (h8 b (by simp))).2 c (h8 c (by simp))).1| [a,b,c,d],_,h8=>exact(((h1 a (h8 a (by simp))).2 b (h8 b (by simp))).2 c (h8 c (by simp))).2 d (h8 d (by simp))|_::_::_::_::_::_,h4,_=>simp at h4
def znP(P:List Nat)(j:Nat):Zt.Slot:=if P.toArray[ZM P.toArray j]?==some j then .live (ZM P.toArray j) else .empty
def zgK(P:List Nat)(j:Nat):Zt.Slot:=match P.findIdx? (·==j) with|some i=>.live i|none=>.empty
theorem zsd:forP (λP=>!okP P||(ZA 8).all λj=>decide (znP P j=zgK P j))=true:=by decide +kernel
theorem zrO:forP (λP=>!okP P||(ZA 8).all λj=>P.length==4||P.contains j||(okP (P.take (ZM P.toArray j)++j::P.drop (ZM P.toArray j))&&decide (ZM P.toArray j<=P.length)))=true:=by decide +kernel
theorem zrI:forP (λP=>!okP P||(ZA (P.length+1)).all λi=>ZM P.toArray (if i=0 then 0 else P.getD (i-1) 0+1)==i)=true:=by decide +kernel
def itr:Nat->Nat->Nat|0,j=>j|m+1,j=>(itr m j*5+1)%8
theorem zri:forP (λP=>!okP P||(ZA 8).all λj=>(ZA 8).any λm=>!P.contains (itr m j))=true:=by decide +kernel
theorem zrJ:forP (λP=>!okP P||(ZA P.length).all λi=>P.findIdx? (·==P.getD i 0)==some i)=true:=by decide +kernel
section
variable {P:List Nat}(o:okP P=true)
include o
theorem zom{j:Nat}(hj:j<8):znP P j=zgK P j:=by have h:=zcL zsd o;simp only[o,YW,Yt,ZQ,YM,decide_eq_true_eq] at h;exact h j hj
theorem zqA{j:Nat}(hj:j<8)(h4:P.length<4)(hn:j∉P):okP (P.take (ZM P.toArray j)++j::P.drop (ZM P.toArray j))=true/\ZM P.toArray j<=P.length:=by
 have h:=zcL zrO o;simp only[o,YW,Yt,ZQ,YM] at h;have h:=h j hj
 have e1:(P.length==4)=false:=by simp;omega
 have e2:P.contains j=false:=by simp[hn]
 rw[e1,e2,Yt,Yt,Z8,decide_eq_true_eq] at h;exact h
theorem zoD{i:Nat}(hi:i<=P.length):ZM P.toArray (if i=0 then 0 else P.getD (i-1) 0+1)=i:=by have h:=zcL zrI o;simp only[o,YW,Yt,ZQ,YM,beq_iff_eq] at h;exact h i (by omega)
theorem zpz{j:Nat}(hj:j<8):∃m,m<8/\itr m j∉P:=by have h:=zcL zri o;simp only[o,YW,Yt,ZQ,YM,Wb] at h;obtain⟨m,hm,h⟩:=h j hj;exact⟨m,hm,by simpa using h⟩
theorem zqg{i j:Nat}(hi:P[i]?=some j):P.findIdx? (·==j)=some i:=by
 have h:=zcL zrJ o;simp only[o,YW,Yt,ZQ,YM,beq_iff_eq] at h;obtain⟨h1,h2⟩:=Z2.mp hi
 have:=h i h1
 rw[Zy,hi] at this;exact this
theorem zgW:P.length<=4:=by simp only[okP,Z8,decide_eq_true_eq] at o;exact o.1.1
end
def pth(h:Int):Nat->Nat×Nat|0=>(Y5 h%8,Y5 h)|k+1=>W8 7 (pth h k).1 (pth h k).2
theorem zgk(h:Int):∀k,(pth h k).1<8|0=>UN _ (by omega)|k+1=>UN _ (by omega)
theorem zoJ(h:Int):Y5 h<2^64:=by unfold Y5;have h1:=VA h (b:=2^64) (by omega);have h2:=UG h (b:=2^64) (by omega);omega
theorem zhP(h:Int):∀k,(pth h k).2=Y5 h / 32^k|0=>by simp[pth]|k+1=>by show(pth h k).2 / 32=_;rw[zhP h k,Nat.div_div_eq_div_mul,Nat.pow_succ]
theorem zo2(h:Int):(pth h 13).2=0:=by
 rw[zhP]
 have:=zoJ h
 exact Nat.div_eq_of_lt (by omega)
theorem zkK(h:Int):∀m,pth h (13+m)=(itr m (pth h 13).1,0)|0=>by show pth h 13=((pth h 13).1,0);rw[<-zo2 h]|m+1=>by show W8 7 (pth h (13+m)).1 (pth h (13+m)).2=_;rw[zkK h m];simp[W8,itr]
theorem zr4{p:Nat->Prop}[DecidablePred p]:∀n,p n->∃m,m<=n/\p m/\∀k,k<m->¬p k
 |0,h=>⟨0,ZZ _,h,λk hk=>absurd hk (Nat.not_lt_zero _)⟩
 | n + 1,h=>by
  by_cases e:∃k,k<=n/\p k
  ·obtain ⟨k,hk,hp⟩:=e
   have:∀j,j<=n->p j->∃m,m<=j/\p m/\∀k,k<m->¬p k:=by
    intro j
    induction j using Nat.strongRecOn with
    | ind j ih=>
     intro hj hp
     by_cases e2:∃i,i<j/\p i
     ·obtain ⟨i,hi,hpi⟩:=e2
      obtain⟨m,h1,h2⟩:=ih i hi (by omega) hpi;exact⟨m,by omega,h2⟩
     ·exact⟨j,ZZ _,hp,λk hk hpk=>e2 ⟨k,hk,hpk⟩⟩
   obtain⟨m,h1,h2⟩:=this k hk hp;exact⟨m,by omega,h2⟩
  ·exact⟨n+1,ZZ _,h,λk hk hpk=>e ⟨k,by omega,hpk⟩⟩
theorem gap{P:List Nat}(o:okP P=true)(h:Int):∃N,N<=20/\(pth h N).1∉P/\∀k,k<N->(pth h k).1∈P:=by
 obtain⟨m,hm,hn⟩:=zpz o (zgk h 13)
 obtain⟨N,h1,h2,h3⟩:=zr4 (p:=λk=>(pth h k).1∉P) (13+m) (by rw[zkK];exact hn)
 exact⟨N,by omega,h2,λk hk=>Decidable.not_not.mp (h3 k hk)⟩
structure zdI(t:Zt)(P:List Nat):Prop where
 mask:t.mask=7
 dum:t.dummies=#[]
 pl:t.place.toList=P
 ok:okP P=true
def stp(h:Int)(k:Nat):Uy:={j:=(pth h k).1,more:=0,i:=(pth h k).1,perturb:=(pth h k).2,dummy:=none}
section
variable {t:Zt}{P:List Nat}(T:zdI t P)
include T
theorem zdI.arr:t.place=P.toArray:=by rw[<-T.pl]
theorem zdI.slot{j:Nat}(hj:j<8):t.slot j=zgK P j:=by rw[<-zom T.ok hj];unfold Zt.slot znP;rw[T.dum,T.arr];rfl
theorem zdI.start(h:Int):t.probeStart h=stp h 0:=by
 unfold Zt.probeStart stp;rw[T.mask]
 have e:Yl 7 (Y5 h%(7+1))=Y5 h%(7+1):=by unfold Yl;rw[if_neg (by omega)]
 dsimp only;rw[e,UM];rfl
theorem zdI.adv(h:Int)(k:Nat):t.advance (stp h k)=stp h (k+1):=by
 unfold Zt.advance
 rw[if_neg (by show ¬(0>0);omega),T.mask]
 show({j:=(pth h (k+1)).1,more:=Yl 7 (pth h (k+1)).1-(pth h (k+1)).1,i:=(pth h (k+1)).1,perturb:=(pth h (k+1)).2,dummy:=none}:Uy)=_
 have e:Yl 7 (pth h (k+1)).1=(pth h (k+1)).1:=by unfold Yl;rw[if_neg (by omega)]
 rw[e,UM];rfl
theorem zdI.go{hashAt:Nat->Int}{h:Int}{N:Nat}(hN:(pth h N).1∉P)(hb:∀k,k<N->(pth h k).1∈P):∀(m k fuel:Nat),N-k=m->k<=N->m<fuel →
  ∃ k1,k<=k1/\k1<=N/\(∀k',k<=k'->k'<k1->∀i,P.findIdx? (·==(pth h k').1)=some i->hashAt i≠h) ∧
   ((k1=N/\Ve t hashAt h fuel (stp h k)=some (.empty (pth h N).1 none))\/
    (k1<N/\∃i,P.findIdx? (·==(pth h k1).1)=some i/\hashAt i=h/\Ve t hashAt h fuel (stp h k)=some (.candidate (pth h k1).1 i (stp h (k1+1)))))
 |m,k,0,hm,hk,hf=>by omega
 | m, k,fuel+1,hm,hk,hf=>by
  unfold Ve;have es:t.slot (stp h k).j=zgK P (pth h k).1:=T.slot (zgk h k);rw[es]
  by_cases e:k=N
  ·subst e
   have:P.findIdx? (·==(pth h k).1)=none:=by rw[List.findIdx?_eq_none_iff];intro x hx;simp only[beq_eq_false_iff_ne];exact λz=>hN (z▸hx)
   refine⟨k,ZZ _,ZZ _,λk' h1 h2=>by omega,.inl ⟨rfl,?_⟩⟩;simp only[zgK,this];rfl
  ·have hlt:k<N:=by omega
   obtain⟨j,hj⟩:=XB (hb k hlt);have hi:=zqg T.ok hj;simp only[zgK,hi]
   by_cases eh:hashAt j=h
   ·refine ⟨k,ZZ _,hk,λk' h1 h2=>by omega,.inr ⟨hlt,j,hi,eh,?_⟩⟩
    rw[if_pos (by rw[eh];exact beq_self_eq_true h),T.adv]
    rfl
   ·obtain ⟨k1,g1,g2,g3,g4⟩:=zdI.go hN hb (N-(k+1)) (k+1) fuel rfl (by omega) (by omega)
    refine⟨k1,by omega,g2,λk' h1 h2 i hi'=>?_,?_⟩
    ·by_cases ek:k'=k
     ·subst ek
      rw[hi] at hi';cases hi';exact eh
     ·exact g3 k' (by omega) h2 i hi'
    ·rw [if_neg (by simp[eh]),T.adv]
     exact g4
theorem zdI.probe{hashAt:Nat->Int}{h:Int}{N:Nat}(hN:(pth h N).1∉P)(hb:∀k,k<N->(pth h k).1∈P)(h20:N<=20)(k:Nat)(hk:k<=N):
  ∃ k1,k<=k1/\k1<=N/\(∀k',k<=k'->k'<k1->∀i,P.findIdx? (·==(pth h k').1)=some i->hashAt i≠h) ∧
   ((k1=N/\t.probe hashAt h (stp h k)=some (.empty (pth h N).1 none))\/
    (k1<N/\∃i,P.findIdx? (·==(pth h k1).1)=some i/\hashAt i=h/\t.probe hashAt h (stp h k)=some (.candidate (pth h k1).1 i (stp h (k1+1))))):=by
 unfold Uk;rw[T.mask]
 exact T.go hN hb (N-k) k _ rfl hk (by show N-k<10*(7+15);omega)
end
end IT
namespace IT
open PySem
def byTx(w:World):Bool:=w.params.followText "set-order"
theorem zbd{k:D}(h:zaG k=true):k.dep<=8:=by
 cases k with
 |tup xs=>
  rw[zaG,Z8] at h
  have:=of_decide_eq_true h.2
  simp only[D.dep];omega
 |_=>cases h
structure za7(w:World)(h:Heap)(a:Addr)(rs:List (D×Addr))(es:Array (Int×Value))(ep:Nat)(t:Zt)(P:List Nat):Prop where
 get:h.get? a=some {cls:=.type "set",dict:=none,data:=.set es ep t,slots:=#[]}
 tab:zdI t P
 len:P.length=rs.length
 led:t.led=!byTx w
 ents:es.toList=rs.map λr=>(zaj w r.1,ZD r.2)
 key:∀r∈rs,zaG r.1=true/\KAt h r.1 (.ref r.2)
 nd:(rs.map (·.1)).Nodup
 way:∀z∈P.zip rs,∃k,(pth (zaj w z.2.1) k).1=z.1/\∀k',k'<k->(pth (zaj w z.2.1) k').1∈P
section
variable {w:World}{h:Heap}{a:Addr}{rs:List (D×Addr)}{es:Array (Int×Value)}{ep:Nat}{t:Zt}{P:List Nat}
theorem za7.size(S:za7 w h a rs es ep t P):es.size=rs.length:=by rw[<-ZG,S.ents,ZR]
theorem za7.psize(S:za7 w h a rs es ep t P):t.place.size=rs.length:=by rw[<-ZG,S.tab.pl,S.len]
theorem za7.le4(S:za7 w h a rs es ep t P):rs.length<=4:=by rw[<-S.len];exact zgW S.tab.ok
theorem za7.fits(S:za7 w h a rs es ep t P):t.fits es.size=true:=by
 have:=S.le4
 simp only[Zt.fits,V3,S.psize,S.size,S.tab.dum,S.tab.mask,beq_self_eq_true,XR,decide_eq_true_eq];show rs.length+0<=7;omega
theorem za7.at(S:za7 w h a rs es ep t P){i:Nat}{r:D×Addr}(e:rs[i]?=some r):es[i]?=some (zaj w r.1,ZD r.2):=by rw[<-Zl,S.ents,Zp,e];rfl
theorem za7.mono{h':Heap}(S:za7 w h a rs es ep t P)(k:∀o,h.get? a=some o->h'.get? a=some o)(kt:∀b its,h.IsTuple b its->h'.IsTuple b its):za7 w h' a rs es ep t P:=⟨k _ S.get,S.tab,S.len,S.led,S.ents,λr hr=>⟨(S.key r hr).1,KAt.keep kt _ _ (S.key r hr).2⟩,S.nd,S.way⟩
end
section
variable {prog:ZB}{w:World}{A:Around}{E:Value->Shared->Prop}{s:Shared}
theorem zkG:∀(n:Nat) (x:D) (A:Around) (s:Shared) (u:Value) (Q:Bool->Shared->Prop),x.dep<=n->KAt s.heap x u->Q false s->wpAny (model prog w) A (ofAClassStatement n u) Q E s
 |n,.int a,A,s,u,Q,hn,p,q=>by
  simp only[KAt] at p;obtain⟨t,rfl⟩:=p
  cases n<;>exact Z6 q
 |n,.str a,A,s,u,Q,hn,p,q=>by
  simp only[KAt] at p;obtain⟨t,rfl⟩:=p
  cases n<;>exact Z6 q
 |0,.tup a,A,s,u,Q,hn,p,q=>by simp only[D.dep] at hn;omega
 | n + 1,.tup a,A,s,u,Q,hn,p,q=>by
  simp only[KAt] at p;obtain⟨c,its,rfl,t,r⟩:=p;have T:=zaO t;obtain⟨o,ho,_,m,hd⟩:=t
  have hdep:D.deps a<=n:=by simp only[D.dep] at hn;omega
  unfold ofAClassStatement;refine Z9 (Wn T ?_);show wpAny _ _ (if("tuple"=="tuple")=true then _ else _) _ _ _;rw[if_pos (by decide)];refine Z9 (Z6 ?_);show wpAny _ _ (V8 (.ref c) >>= _) _ _ _;unfold V8;refine Z9 (Z9 (Wd ho ?_));rw[hd];refine Z6 (Z9 ?_);rw[<-WD];refine Xq _ (λrest r s1=>r.1=none/\s1=s/\∃left,D.deps left<=n/\KAts s.heap left rest) _ ?_ ?_ _ _ ⟨rfl,rfl,a,hdep,r⟩
  ·rintro v rest r s1 ⟨hr,rfl,left,hl,hk⟩
   cases left with|nil=>simp only[KAts] at hk;cases hk|cons k ks=>simp only[KAts] at hk;obtain⟨v',rest',ez,k1,k2⟩:=hk;cases ez;simp only[D.deps] at hl;refine Z9 (zkG n k A _ v _ (by omega) k1 ?_);simp only[Z1,if_false];exact Z6 ⟨rfl,rfl,ks,by omega,k2⟩
  ·rintro⟨r1,r2⟩ s1 ⟨hr,rfl,_⟩
   simp only at hr;subst hr;exact Z6 q
 |_,.non,_,_,_,_,_,p,_=>by simp only[KAt] at p|_,.bl _,_,_,_,_,_,p,_=>by simp only[KAt] at p|_,.lst _,_,_,_,_,_,p,_=>by simp only[KAt] at p
theorem zjL:∀(n:Nat) (x:D) (s:Shared) (u:Value) (Q:Bool->Shared->Prop),KAt s.heap x u->(∀b,Q b s)->wpAny (model prog w) A (hashByValue n u) Q E s
 |n,.int a,s,u,Q,p,q=>by
  simp only[KAt] at p;obtain⟨t,rfl⟩:=p
  cases n<;>exact Z6 (q _)
 |n,.str a,s,u,Q,p,q=>by
  simp only[KAt] at p;obtain⟨t,rfl⟩:=p
  cases n<;>exact Z6 (q _)
 |0,.tup a,s,u,Q,p,q=>by simp only[KAt] at p;obtain⟨c,its,rfl,t,r⟩:=p;exact Z6 (q _)
 | n + 1,.tup a,s,u,Q,p,q=>by
  simp only[KAt] at p;obtain⟨c,its,rfl,t,r⟩:=p;have T:=zaO t;obtain⟨o,ho,_,m,hd⟩:=t;unfold hashByValue;refine Z9 (WL T W7.lookup ?_);show wpAny _ _ (V8 (.ref c) >>= _) _ _ _;unfold V8;refine Z9 (Z9 (Wd ho ?_));rw[hd];refine Z6 (Z9 ?_);show wpAny _ _ (forIn its _ _) _ _ _;rw[<-WD];refine Xq _ (λrest r s1=>r.1=none/\s1=s/\∃left,KAts s.heap left rest) _ ?_ ?_ _ _ ⟨rfl,rfl,a,r⟩
  ·rintro v rest r s1 ⟨hr,rfl,left,hk⟩
   cases left with
   |nil=>simp only[KAts] at hk;cases hk
   | cons k ks=>
    simp only[KAts] at hk;obtain⟨v',rest',ez,k1,k2⟩:=hk;cases ez;refine Z9 (zjL n k _ v _ k1 λb=>?_)
    cases b with|false=>simp only[Vz,if_true];exact Z6 (Z6 (q _))|true=>simp only[YW,Z1,if_false];exact Z6 ⟨rfl,rfl,ks,k2⟩
  ·rintro⟨r1,r2⟩ s1 ⟨hr,rfl,_⟩
   simp only at hr;subst hr;exact Z6 (q _)
 |_,.non,_,_,_,p,_=>by simp only[KAt] at p|_,.bl _,_,_,_,p,_=>by simp only[KAt] at p|_,.lst _,_,_,_,p,_=>by simp only[KAt] at p
theorem znr{d:D}{b:Addr}{st:List Value}{Q:Bool->Shared->Prop}(hd:zaG d=true)(hk:KAt s.heap d (.ref b))(hst:∀v∈st,∃d' b',v=.ref b'/\zaG d'=true/\KAt s.heap d' (.ref b'))(q:Q false s):wpAny (model prog w) A (searchCouldBeSeen (.ref b) st) Q E s:=by
 unfold searchCouldBeSeen;refine Z9 ?_;refine Xq _ (λrest r s1=>r.1=none/\s1=s/\∀v∈rest,v∈st) _ ?_ ?_ _ _ ⟨rfl,rfl,λv hv=>hv⟩
 ·rintro v rest r s1 ⟨hr,rfl,hm⟩
  obtain⟨d',b',rfl,h1,h2⟩:=hst v (hm v ZK);refine Xa (λ_=>Z6 ⟨rfl,rfl,λv hv=>hm v (ZU _ hv)⟩) (λ_=>?_);refine Z9 (zh1 8 d A _ _ _ (zbd hd) hk ?_);simp only[YW,Z1,if_false];refine Z9 (zh1 8 d' A _ _ _ (zbd h1) h2 ?_);simp only[YW,Z1,if_false];refine Z9 (zkG 8 d A _ _ _ (zbd hd) hk ?_);simp only[Z1,if_false];refine Z9 (zkG 8 d' A _ _ _ (zbd h1) h2 ?_);simp only[Z1,if_false];exact Z6 ⟨rfl,rfl,λv hv=>hm v (ZU _ hv)⟩
 ·rintro⟨r1,r2⟩ s1 ⟨hr,rfl,_⟩
  simp only at hr;subst hr;exact Z6 q
variable {a:Addr}{rs:List (D×Addr)}{es:Array (Int×Value)}{ep:Nat}{t:Zt}{P:List Nat}
theorem zfI{d:D}{b:Addr}{N:Nat}{Q:SetFound->Shared->Prop}(S:za7 w s.heap a rs es ep t P)(hd:zaG d=true)(hk:KAt s.heap d (.ref b))(hu:A.units+8<cLine)
  (hN:(pth (zaj w d) N).1∉P) (hb:∀k,k<N->(pth (zaj w d) k).1∈P) (h20:N<=20)
  (q1:d∈rs.map (·.1)->Q (.there none) s) (q2:d∉rs.map (·.1)->Q (.free (pth (zaj w d) N).1 false) s):∀(m k fuel:Nat) (stand:Option Uy),N-k=m->k<=N->m<fuel->stand.getD (t.probeStart (zaj w d))=stp (zaj w d) k →
  (∀k',k'<k->∀i r,P.findIdx? (·==(pth (zaj w d) k').1)=some i->rs[i]?=some r->r.1≠d)->wpAny (model prog w) A (U5 a (.ref b) (zaj w d) true fuel stand) Q E s:=by
 intro m
 induction m using Nat.strongRecOn with
 | ind m ih=>
  intro k fuel stand hm hkN hf hst hpast
  match fuel,hf with
  | fuel + 1,hf=>
   unfold U5;refine Z9 (Zj S.get rfl S.fits ?_);dsimp only
   have hg:t.gaveWay=false:=by unfold Zt.gaveWay;rw[S.tab.mask];decide
   rw[hg,hst];simp only[Z1,if_false];obtain⟨k1,g1,g2,g3,g4⟩:=S.tab.probe (hashAt:=λi=>(es[i]?.map (·.1)).getD 0) hN hb h20 k hkN
   have hpast1:∀k',k'<k1->∀i r,P.findIdx? (·==(pth (zaj w d) k').1)=some i->rs[i]?=some r->r.1≠d:=by
    intro k' hk' i r hi hr e
    by_cases hlt:k'<k
    ·exact hpast k' hlt i r hi hr e
    ·refine g3 k' (by omega) hk' i hi ?_
     simp only[S.at hr,WE,Option.getD_some,e]
   generalize hp:Uk t _ (zaj w d) (stp (zaj w d) k)=mt
   rcases g4 with⟨e1,e2⟩|⟨e1,i,e2,e3,e4⟩
   ·have emt:=hp.symm.trans e2
    subst emt;refine Z6 (q2 λhm=>?_);obtain⟨r,hr,er⟩:=X9.mp hm;obtain⟨i,hi⟩:=XB hr;have hil:i<rs.length:=(Z2.mp hi).1
    have hiP:i<P.length:=by rw[S.len];exact hil
    obtain⟨k0,w1,w2⟩:=S.way (P[i],r) (YU (i:=i) (by rw[List.getElem?_zip_eq_some];exact⟨Z4 hiP,hi⟩))
    simp only at w1 w2;rw[er] at w1 w2
    have hk0:k0<N:=by
     rcases Nat.lt_or_ge k0 N with h | h
     ·exact h
     ·rcases Vy h with h | h
      ·exact absurd (w2 N h) hN
      ·subst h
       rw[w1] at hN;exact absurd (Zn hiP) hN
    refine hpast1 k0 (by omega) i r (zqg S.tab.ok ?_) hi er;rw[w1];exact Z4 hiP
   ·have emt:=hp.symm.trans e4
    subst emt;dsimp only
    have hiP:i<P.length:=by rw[List.findIdx?_eq_some_iff_findIdx_eq] at e2;exact e2.1
    have hir:i<rs.length:=by rw[<-S.len];exact hiP
    have hi:=Z4 hir;have ei:=S.at hi;obtain⟨hk1,hk2⟩:=S.key rs[i] (Zn ..)
    have rest:wpAny (model prog w) A (do
      let some (_,y):=es[i]? | unsupported "internal:set-entry"
      let equal<-holding [y] (eqBool y (.ref b))
      let (es',_,t')<-setState a
      if true&&equal then return .there none
      let some same:=t'.sameMemory t.moves t.mask | unsupported "set.changed-during-lookup:is-the-new-block-at-the-old-address"
      let still<-match (if same then t'.slot (pth (zaj w d) k1).1 else .empty) with
       |.live i'=>match es'[i']? with
        |some (_,y')=>do pure (if<-isSame y' y then some i' else none)
        |none=>pure none
       |_=>pure none
      match still with
      |none=>rule "set.search.anew";U5 a (.ref b) (zaj w d) true fuel none
      |some i'=>if equal then return .there (some i') else U5 a (.ref b) (zaj w d) true fuel (some (stp (zaj w d) (k1+1)))) Q E s:=by
     rw[ei];dsimp only;refine Z9 (Y6 (kEq 8 rs[i].1 d A _ _ (zbd hk1) hk2 hk hu prog w _ _ ?_));refine Z9 (Zj S.get rfl S.fits ?_);dsimp only
     cases hs:rs[i].1.same d with
     |true=>simp only[Bool.and_self,if_true];exact Z6 (q1 (X9.mpr ⟨rs[i],Zn ..,D.same_eq _ _ hs⟩))
     | false=>
      simp only[W3,Z1,if_false]
      have hsm:t.sameMemory t.moves t.mask=some true:=by unfold Zt.sameMemory;rw[if_pos (beq_self_eq_true _)]
      rw[hsm];dsimp only;rw[if_pos rfl,S.tab.slot (zgk _ _)];simp only[zgK,e2];rw[ei];dsimp only;refine Z9 (wpAny_isSame_ref_self (Z9 (Z6 ?_)));refine ih (N-(k1+1)) (by omega) (k1+1) fuel _ rfl (by omega) (by omega) rfl λk' hk' i' r hi' hr=>?_
      by_cases ek:k'=k1
      ·subst ek
       rw[e2] at hi';cases hi';rw[hi] at hr;cases hr
       exact λz=>by rw[z,D.same_refl] at hs;cases hs
      ·exact hpast1 k' (by omega) i' r hi' hr
    cases hl:t.led with
    |true=>simp only[YW,Z1,if_false];exact rest
    | false=>
     simp only[Vz,if_true];refine Z9 (znr hd hk (λv hv=>?_) ?_)
     ·obtain ⟨e,he,rfl⟩:=X9.mp hv
      rw[Array.toList_filter,WJ,S.ents] at he;obtain⟨r,hr,rfl⟩:=X9.mp he.1;exact⟨r.1,r.2,rfl,S.key r hr⟩
     ·simp only[Z1,if_false]
      exact rest
theorem zim(j:Nat):Zt.has #[] j=false:=rfl
theorem zqj{d:D}{b:Addr}{Q:Bool->Shared->Prop}(S:za7 w s.heap a rs es ep t P)(hd:zaG d=true)(hk:KAt s.heap d (.ref b))(hu:A.units+8<cLine)(h4:d∉rs.map (·.1)->rs.length<4)
  (q:∀c h' rs' es' ep' t' P',za7 w h' a rs' es' ep' t' P'->Yc a s.heap h'->(∀y,y∈rs'.map (·.1)↔y=d\/y∈rs.map (·.1))->(∀r∈rs',r∈rs\/r=(d,b))->Q c {s with heap:=h'}):
  wpAny (model prog w) A (UL a (.ref b) (zaj w d)) Q E s:=by
 unfold UL;refine Y6 ?_;rw[show(100000:Nat)=99999+1 from rfl];unfold setAddHashedIn;refine Z9 (Zj S.get rfl S.fits ?_);dsimp only;rw[if_neg (by simp[byScan,Value.scannable])];obtain⟨N,h20,hN,hb⟩:=gap S.tab.ok (zaj w d);unfold setSearch;refine Z9 (zfI S hd hk hu hN hb h20 (λhm=>?_) (λhm=>?_) N 0 100000 none (by omega) (Y3 _) (by omega) (S.tab.start _) (λk' hk'=>by omega))
 ·dsimp only
  exact Z6 (q _ s.heap rs es ep t P S (Yc.refl _ _) (λy=>⟨.inr,λh=>h.elim (λe=>e▸hm) id⟩) λr hr=>.inl hr)
 ·dsimp only
  refine Z9 (Zj S.get rfl S.fits ?_);dsimp only;have hj:=zgk (zaj w d) N;have h4':=h4 hm
  obtain⟨ok',hp⟩:=zqA S.tab.ok hj (by rw[S.len];exact h4') hN
  have ebl:ZM t.place (pth (zaj w d) N).1=ZM P.toArray (pth (zaj w d) N).1:=by rw[S.tab.arr]
  have fin:∀t':Zt,t'.mask=7->t'.dummies=#[]->t'.place=Zk t.place (ZM t.place (pth (zaj w d) N).1) (pth (zaj w d) N).1->t'.led=t.led->wpAny (model prog w) A (do
    storeSet a (Zk es (ZM t.place (pth (zaj w d) N).1) (zaj w d,.ref b)) t'
    if !false&&t'.tooFull then setRelay a (Zt.grown (es.size+1))
    return true) Q E s:=by
   intro t' e1 e2 e3 e4
   have hsz:(Zk es (ZM t.place (pth (zaj w d) N).1) (zaj w d,ZD b)).toList=(rs.take (ZM P.toArray (pth (zaj w d) N).1)++(d,b)::rs.drop (ZM P.toArray (pth (zaj w d) N).1)).map λr=>(zaj w r.1,ZD r.2):=by rw[Xu,S.ents,ebl];simp[List.map_take,List.map_drop]
   have hpl:t'.place.toList=P.take (ZM P.toArray (pth (zaj w d) N).1)++(pth (zaj w d) N).1::P.drop (ZM P.toArray (pth (zaj w d) N).1):=by rw[e3,Xu,S.tab.pl,ebl]
   have hlen:(P.take (ZM P.toArray (pth (zaj w d) N).1)++(pth (zaj w d) N).1::P.drop (ZM P.toArray (pth (zaj w d) N).1)).length=P.length+1:=by simp only[Zw,Ze,ZP,YN];omega
   have htf:t'.tooFull=false:=by
    unfold Zt.tooFull V3;rw[e1,e2]
    have:t'.place.size=P.length+1:=by rw[<-ZG,hpl,hlen]
    rw[this]
    have:=S.len
    simp;omega
   generalize ZM P.toArray (pth (zaj w d) N).1=p at *;rw[ebl] at hsz⊢
   have hz:(Zk es p (zaj w d,ZD b)).size<=sizeLine:=by
    rw[<-ZG,hsz,ZR];simp only[Zw,Ze,ZP,YN]
    rw[Zg];omega
   refine Z9 (Vd S.get rfl ?_ hz);rw[htf];simp only[W3,Z1,if_false];have sb:=VT s.heap a (Vx (Zk es p (zaj w d,ZD b)) t')
   refine Z6 (q true _ (rs.take p++(d,b)::rs.drop p) (Zk es p (zaj w d,ZD b)) (ep+1) t' (P.take p++(pth (zaj w d) N).1::P.drop p) ⟨?_,⟨e1,e2,hpl,ok'⟩,?_,by rw[e4];exact S.led,hsz,λr hr=>?_,?_,λz hz=>?_⟩ sb (λy=>?_) λr hr=>?_)
   ·exact Zi _ S.get rfl
   ·rw [hlen]
    simp only[Zw,Ze,ZP,YN]
    have:=S.len
    omega
   ·have kt:∀c its,s.heap.IsTuple c its->(s.heap.update a (Vx (Zk es p (zaj w d,ZD b)) t')).IsTuple c its:=λc its ⟨o,e,cc,r⟩=>by
     have ne:c≠a:=λz=>by subst z;rw[S.get] at e;cases e;injection cc with z;exact absurd z (by decide)
     exact⟨o,(sb.2 c ne).trans e,cc,r⟩
    have hr':r∈rs\/r=(d,b):=by
     rcases Zd.mp hr with h | h
     ·exact .inl (Xz h)
     ·rcases ZJ.mp h with h | h
      ·exact .inr h
      ·exact .inl (W2 h)
    rcases hr' with h | rfl
    ·exact⟨(S.key r h).1,KAt.keep kt _ _ (S.key r h).2⟩
    ·exact⟨hd,KAt.keep kt _ _ hk⟩
   ·have e0:(rs.take p++(d,b)::rs.drop p).Perm ((d,b)::rs):=by
     refine List.perm_middle.trans ?_;rw[Yk]
    rw[(e0.map (·.1)).nodup_iff,Zz,YR];exact⟨hm,S.nd⟩
   ·have ez:(P.take p++(pth (zaj w d) N).1::P.drop p).zip (rs.take p++(d,b)::rs.drop p)=(P.take p).zip (rs.take p)++((pth (zaj w d) N).1,(d,b))::(P.drop p).zip (rs.drop p):=by
     rw[List.zip_append (by rw[Ze,Ze,S.len]),Wz]
    rw[ez] at hz
    have sub:∀j,j∈P->j∈P.take p++(pth (zaj w d) N).1::P.drop p:=λj hj=>by
     rw[<-Yk p P] at hj
     rcases Zd.mp hj with h | h
     ·exact VZ _ h
     ·exact Zx _ (ZU _ h)
    have old:z∈P.zip rs->∃k,(pth (zaj w z.2.1) k).1=z.1/\∀k',k'<k->(pth (zaj w z.2.1) k').1∈P.take p++(pth (zaj w d) N).1::P.drop p:=λh=>by obtain⟨k,g1,g2⟩:=S.way z h;exact⟨k,g1,λk' hk'=>sub _ (g2 k' hk')⟩
    rcases Zd.mp hz with h | h
    ·rw [List.zip,<-List.take_zipWith] at h
     exact old (Xz h)
    ·rcases ZJ.mp h with h | h
     ·subst h
      exact⟨N,rfl,λk' hk'=>sub _ (hb k' hk')⟩
     ·rw [List.zip,<-List.drop_zipWith] at h
      exact old (W2 h)
   ·simp only[XF,Zz,Zd,ZJ]
    rw[<-Yk p rs];simp only[XF,Zd]
    have et:(rs.take p++rs.drop p).take p=rs.take p:=by rw[Yk]
    have ed:(rs.take p++rs.drop p).drop p=rs.drop p:=by rw[Yk]
    rw[et,ed];constructor
    ·rintro(h | h | h)
     ·exact .inr (.inl h)
     ·exact .inl h
     ·exact .inr (.inr h)
    ·rintro(h | h | h)
     ·exact .inr (.inl h)
     ·exact .inl h
     ·exact .inr (.inr h)
   ·rcases Zd.mp hr with h | h
    ·exact .inl (Xz h)
    ·rcases ZJ.mp h with h | h
     ·exact .inr h
     ·exact .inl (W2 h)
  unfold Zt.put;dsimp only;rw[S.tab.dum,zim];simp only[Z1,if_false]
  cases hpl:t.plain with
  | true=>
   simp only[if_true];refine Z9 (zjL 8 d _ _ _ hk λbv=>?_)
   cases bv with|true=>simp only[if_true];exact fin _ S.tab.mask rfl rfl rfl|false=>simp only[Z1,if_false];exact fin _ S.tab.mask rfl rfl rfl
  |false=>simp only[Z1,if_false];refine Z9 (Z6 ?_);simp only[if_true];exact fin _ S.tab.mask rfl rfl rfl
end
end IT
namespace IT
open PySem
def lp:Nat->Nat×Nat->Nat×Nat|0,z=>z|n+1,z=>lp n (W8 31 z.1 z.2)
theorem zfl:∀n z,lp (n+1) z=W8 31 (lp n z).1 (lp n z).2|0,_=>rfl|n+1,z=>zfl n (W8 31 z.1 z.2)
theorem znl:∀n z,(lp n z).2=z.2 / 32^n|0,z=>by simp[lp]|n+1,z=>by rw[zfl];show(lp n z).2 / 32=_;rw[znl n z,Nat.div_div_eq_div_mul,Nat.pow_succ]
def it32:Nat->Nat->Nat|0,j=>j|m+1,j=>(it32 m j*5+1)%32
theorem zpG(z:Nat×Nat)(n:Nat)(e:(lp n z).2=0):∀m,lp (n+m) z=(it32 m (lp n z).1,0)|0=>Prod.ext rfl e|m+1=>by rw[<-Va,zfl,zpG z n e m];simp[W8,it32]
theorem zlS:∀j:Fin 32,∃m:Fin 32,it32 m j<=22:=by decide +kernel
theorem zqs{i p:Nat}(hp:p<2^64):∃n,n<46/\(lp n (i,p)).1<=22:=by
 have e:(lp 13 (i,p)).2=0:=by rw[znl];exact Nat.div_eq_of_lt (ZE hp (by decide))
 have hl:(lp 13 (i,p)).1<32:=by rw[zfl];exact UN _ (by decide)
 obtain⟨m,hm⟩:=zlS ⟨_,hl⟩;refine⟨13+m.1,by omega,?_⟩;rw[zpG _ _ e];exact hm
section
variable {owner:Array (Option Nat)}
theorem zlN(hs:owner.size=32)(hc:owner.toList.countP Xt<=4){i:Nat}(hi:i<=22):∃k,((ZA (Yl 31 i+1-i)).find? λk=>(owner.getD (i+k) (some 0)).isNone)=some k:=by
 rw[<-Yb,List.find?_isSome];refine Classical.byContradiction λhn=>?_
 have hr:Yl 31 i+1-i=10:=by unfold Yl;rw[if_pos (by omega)];omega
 rw[hr] at hn
 have ha:∀x∈(owner.toList.drop i).take 10,Xt x=true:=by
  intro x hx;obtain⟨k,hk⟩:=XB hx;rw[List.getElem?_take] at hk
  by_cases h10:k<10
  ·rw [if_pos h10,List.getElem?_drop] at hk
   have hn':¬(owner.getD (i+k) (some 0)).isNone=true:=λz=>hn ⟨k,YM.mpr h10,z⟩;rw[Zl] at hk;rw[XW,hk] at hn'
   cases x with|none=>simp at hn'|some _=>rfl
  ·rw [if_neg h10] at hk
   cases hk
 have hl:((owner.toList.drop i).take 10).length=10:=by rw[Ze,YN,ZG,hs];omega
 have h1:((owner.toList.drop i).take 10).countP Xt=10:=by rw[List.countP_eq_length.mpr ha,hl]
 have h2:((owner.toList.drop i).take 10).countP Xt<=owner.toList.countP Xt:=List.Sublist.countP_le ((List.take_sublist _ _).trans (List.drop_sublist _ _))
 omega
theorem zi6(hs:owner.size=32)(hc:owner.toList.countP Xt<=4):∀(n fuel i p:Nat),(lp n (i,p)).1<=22->n<fuel->∃j,XV 31 owner fuel i p=some j/\(owner.getD j (some 0)).isNone=true
 |_,0,_,_,_,hf=>by omega
 | n, fuel+1,i,p,hl,hf=>by
  unfold XV
  cases e:(ZA (Yl 31 i+1-i)).find? λk=>(owner.getD (i+k) (some 0)).isNone with
  |some k=>exact⟨i+k,rfl,List.find?_some (p:=λk=>(owner.getD (i+k) (some 0)).isNone) e⟩
  | none=>
   cases n with|zero=>have hl:i<=22:=hl;obtain⟨k,hk⟩:=zlN hs hc hl;rw[hk] at e;cases e|succ n=>exact zi6 hs hc n fuel _ _ hl (by omega)
theorem zkc(hs:owner.size=32)(hc:owner.toList.countP Xt<=4)(h:Int):∃j,XV 31 owner (Vv 31) (Y5 h%(31+1)) (Y5 h)=some j/\j<32/\owner.toList[j]?=some none:=by
 have hb:Y5 h<2^64:=by
  unfold Y5
  have:=VA h (show(0:Int)<2^64 by decide)
  have:=UG h (show(2^64:Int)≠0 by decide)
  omega
 obtain⟨n,hn,hl⟩:=zqs (i:=Y5 h%(31+1)) hb
 obtain⟨j,e,hj⟩:=zi6 hs hc n (Vv 31) _ _ hl (by show n<31+15;omega)
 refine⟨j,e,?_⟩;rw[XW] at hj
 cases e2:owner[j]? with
 |none=>rw[e2] at hj;cases hj
 |some x=>
  rw[e2] at hj
  have hx:x=none:=by simpa using hj
  subst hx
  have:=(Array.getElem?_eq_some_iff.mp e2).1
  exact⟨by omega,by rw[Zl];exact e2⟩
end
theorem zch{k:Nat}:∀{l:List (Option Nat)} {j:Nat},l[j]?=some none->((l.set j (some k)).filterMap id).Perm (k::l.filterMap id)
 | [],_,h=>by cases h|x::r,0,h=>by simp only[YX,Z3] at h;subst h;exact XL _
 | x::r,j+1,h=>by
  have:=zch (k:=k) (l:=r) (j:=j) (by simpa using h)
  cases x with|none=>simpa using this|some y=>simp only[List.set_cons_succ,X8 (f:=id) (a:=some y) rfl];exact(this.cons y).trans (Vu ..)
theorem zcK:∀l:List (Option Nat),l.countP Xt=(l.filterMap id).length| []=>rfl|none::r=>by simp[zcK r]|some y::r=>by simp[zcK r]
theorem zqB(hs:List Int)(h5:hs.length<=5):∃owner,Uo 31 hs.toArray=some owner/\owner.size=32/\(owner.toList.filterMap id).Perm (ZA hs.length):=by
 unfold Uo;rw[List.foldl_toArray]
 have key:∀(ys:List Int) (owner:Array (Option Nat)) (k:Nat),k+ys.length<=5->owner.size=32->(owner.toList.filterMap id).Perm (ZA k) →
   ∃ owner',ys.foldl (init:=some (owner,k)) (λacc h=>do
    let (owner,k)<-acc
    let j<-XV 31 owner (Vv 31) (Y5 h%(31+1)) (Y5 h)
    pure (owner.setIfInBounds j (some k),k+1))=some (owner',k+ys.length)/\owner'.size=32/\(owner'.toList.filterMap id).Perm (ZA (k+ys.length)):=by
  intro ys
  induction ys with
  |nil=>exact λowner k _ h1 h2=>⟨owner,rfl,h1,h2⟩
  | cons y ys ih=>
   intro owner k hk h1 h2;simp only[ZP] at hk
   obtain⟨j,e,hj,hn⟩:=zkc (owner:=owner) h1 (by rw[zcK,h2.length_eq,Wh];omega) y
   obtain ⟨o',e2,h3,h4⟩:=ih (owner.setIfInBounds j (some k)) (k+1) (by omega) (by rw[Array.size_setIfInBounds];exact h1) (by
    rw[Array.toList_setIfInBounds,List.range_succ]
    exact(zch hn).trans ((h2.cons k).trans (List.perm_append_singleton k _).symm))
   refine⟨o',?_,h3,by rw[ZP,show k+(ys.length+1)=k+1+ys.length by omega];exact h4⟩
   rw[WF,ZP,show k+(ys.length+1)=k+1+ys.length by omega,<-e2]
   congr 1
   show(do let j<-XV 31 owner (Vv 31) (Y5 y%(31+1)) (Y5 y);pure (owner.setIfInBounds j (some k),k+1))=_
   rw[e];rfl
 obtain⟨o',e,h1,h2⟩:=key hs (Array.replicate (31+1) none) 0 (by omega) (by simp) (by simp);rw[e];exact⟨o',rfl,h1,by simpa using h2⟩
theorem zeU{α β:Type}{f g:α->Option β}:∀{l:List α},(∀x∈l,f x=g x)->l.filterMap f=l.filterMap g| [],_=>rfl|x::r,h=>by rw[YE,YE,h x (ZK ..),zeU λy hy=>h y (ZU _ hy)]
theorem zeO:∀(l:List (Option Nat)) (b:Nat),(((Uz b l.length).filterMap λj=>(l.getD (j-b) none).map (Ul j)).map (·.2))=l.filterMap id
 | [],_=>rfl
 | x::r,b=>by
  have e:((Uz (b+1) r.length).filterMap λj=>((x::r).getD (j-b) none).map (Ul j))=((Uz (b+1) r.length).filterMap λj=>(r.getD (j-(b+1)) none).map (Ul j)):=by
   refine zeU λj hj=>?_
   have:=(List.mem_range'_1.mp hj).1
   rw[show j-b=(j-(b+1))+1 by omega];rfl
  rw[ZP,List.range'_succ]
  cases x with|none=>rw[WM (by simp),WM (by rfl),e];exact zeO r (b+1)|some y=>rw[X8 (b:=(b,y)) (by simp),X8 (b:=y) (by rfl),Zz,e,zeO r (b+1)]
theorem zde{g:Nat->Option Nat}:∀l:List Nat,((l.filterMap λj=>(g j).map (Ul j)).map (·.1)).Sublist l
 | []=>List.Sublist.refl _
 |x::r=>by
  cases e:g x with|none=>rw[WM (by rw[e];rfl)];exact(zde r).cons x|some y=>rw[X8 (b:=(x,y)) (by rw[e];rfl)];exact(zde r).cons₂ x
theorem zon(hs:List Int)(h5:hs.length<=5)(fg mv:Nat)(ld pn:Bool):∃(P o:List Nat),Zt.laid 31 fg mv ld pn hs.toArray=some ({mask:=31,place:=P.toArray,dummies:=#[],finger:=fg,led:=ld,moves:=mv,plain:=pn},o.toArray)/\P.Pairwise (·<·)/\(∀j∈P,j<32)/\o.Perm (ZA hs.length)/\P.length=hs.length:=by
 obtain⟨ow,e,h1,h2⟩:=zqB hs h5
 refine⟨_,_,by unfold Zt.laid;rw[e];rfl,?_,λj hj=>?_,?_,?_⟩
 ·exact List.Pairwise.sublist (zde _) List.pairwise_lt_range
 ·exact YM.mp ((zde _).mem hj)
 all_goals
  have e2:(((ZA (31+1)).filterMap λj=>(ow.getD j none).map (Ul j)).map (·.2))=ow.toList.filterMap id:=by
   rw[<-zeO ow.toList 0,ZG,h1,<-List.range_eq_range']
   congr 1
   refine zeU λj _=>?_;rw[XW,Zy,Zl];rfl
 ·rw[e2];exact h2
 ·have:=h2.length_eq
  rw[<-e2] at this
  simpa using this
end IT
namespace IT
open PySem PyProof.Rows
theorem zeR{xs:Array Nat}{j:Nat}(hr:∀a b,(hab:a<b)->(hb:b<xs.size)->xs[a]'(Xd hab hb)<xs[b]):∀(fuel lo hi:Nat),hi<=xs.size->lo<=hi->hi-lo<=fuel->(∀a,(h:a<xs.size)->a<lo->xs[a]<j)->(∀a,(h:a<xs.size)->hi<=a->j<=xs[a]) →
  Xy xs j fuel lo hi<=xs.size/\(∀a,(h:a<xs.size)->a<Xy xs j fuel lo hi->xs[a]<j)/\∀a,(h:a<xs.size)->Xy xs j fuel lo hi<=a->j<=xs[a]
 |0,lo,hi,h1,h2,h3,h4,h5=>by
  have e:lo=hi:=by omega
  subst e;exact⟨h1,h4,h5⟩
 | fuel+1,lo,hi,h1,h2,h3,h4,h5=>by
  unfold Xy
  by_cases hl:lo<hi
  ·rw [if_pos hl]
   have hm:(lo+hi) / 2<xs.size:=by omega
   have eg:xs.getD ((lo+hi) / 2) j=xs[(lo+hi) / 2]:=by rw[XW,WS hm];rfl
   dsimp only;rw[eg]
   by_cases hc:xs[(lo+hi) / 2]<j
   ·rw [if_pos hc]
    refine zeR hr fuel _ hi h1 (by omega) (by omega) (λa h ha=>?_) h5
    rcases Vy (Nat.le_of_lt_succ ha) with z | z
    ·exact Xd (hr a _ z hm) hc
    ·subst z;exact hc
   ·rw [if_neg hc]
    refine zeR hr fuel lo _ (by omega) (by omega) (by omega) h4 (λa h ha=>?_)
    rcases Vy ha with z | z
    ·exact Zf (Xk hc) (Xi (hr _ a z h))
    ·subst z;exact Xk hc
  ·rw [if_neg hl]
   have e:lo=hi:=by omega
   subst e;exact⟨h1,h4,h5⟩
theorem ziy{P:List Nat}(hp:P.Pairwise (·<·))(i:Nat)(hi:i<=P.length):ZM P.toArray (if i=0 then 0 else P.getD (i-1) 0+1)=i:=by
 have hr:∀a b,(hab:a<b)->(hb:b<P.toArray.size)->P.toArray[a]'(Xd hab hb)<P.toArray[b]:=λa b h hb=>by
  simp only[List.getElem_toArray]
  exact Vp.mp hp a b (by simp at hb;omega) (by simpa using hb) h
 obtain⟨g1,g2,g3⟩:=zeR (xs:=P.toArray) (j:=if i=0 then 0 else P.getD (i-1) 0+1) hr P.toArray.size 0 P.toArray.size (ZZ _) (Y3 _) (by omega) (λa _ h=>by omega) (λa h1 h2=>by omega);show Xy _ _ _ _ _=i;generalize Xy P.toArray (if i=0 then 0 else P.getD (i-1) 0+1) P.toArray.size 0 P.toArray.size=r at g1 g2 g3
 have g1:r<=P.length:=by simpa using g1
 have g2:∀a,(h:a<P.length)->a<r->P[a]<(if i=0 then 0 else P.getD (i-1) 0+1):=λa h z=>g2 a (by simpa using h) z;have g3:∀a,(h:a<P.length)->r<=a->(if i=0 then 0 else P.getD (i-1) 0+1)<=P[a]:=λa h z=>g3 a (by simpa using h) z
 by_cases e0:i=0
 ·subst e0
  rcases Nat.eq_zero_or_pos r with z | z
  ·exact z
  ·have:=g2 0 (by omega) z
   simp at this
 ·have ei:P.getD (i-1) 0=P[i-1]'(by omega):=by rw[Zy,Z4 (by omega)];rfl
  rw[if_neg e0,ei] at g2 g3
  rcases Nat.lt_trichotomy r i with z | z | z
  ·have:=g3 (i-1) (by omega) (by omega)
   omega
  ·exact z
  ·have:=g2 i (by omega) z
   have:=Vp.mp hp (i-1) i (by omega) (by omega) (by omega)
   omega
structure TabW(t:Zt)(P:List Nat):Prop where
 fit:P.length<=t.mask
 few:P.length<=5
 dum:t.dummies=#[]
 pl:t.place.toList=P
 walk:∀i,i<=P.length->ZM P.toArray (if i=0 then 0 else P.getD (i-1) 0+1)=i
theorem TabW.arr{t:Zt}{P:List Nat}(T:TabW t P):t.place=P.toArray:=by rw[<-T.pl]
theorem zdI.toW{t:Zt}{P:List Nat}(T:zdI t P):TabW t P:=⟨by have:=zgW T.ok;rw[T.mask];omega,by have:=zgW T.ok;omega,T.dum,T.pl,λi hi=>zoD T.ok hi⟩
structure SetW(w:World)(h:Heap)(a:Addr)(rs:List (D×Addr))(es:Array (Int×Value))(ep:Nat)(t:Zt)(P:List Nat):Prop where
 get:h.get? a=some {cls:=.type "set",dict:=none,data:=.set es ep t,slots:=#[]}
 tab:TabW t P
 len:P.length=rs.length
 led:t.led=!byTx w
 ents:es.toList=rs.map λr=>(zaj w r.1,ZD r.2)
 key:∀r∈rs,zaG r.1=true/\KAt h r.1 (.ref r.2)
 nd:(rs.map (·.1)).Nodup
theorem za7.toW{w:World}{h:Heap}{a:Addr}{rs:List (D×Addr)}{es:Array (Int×Value)}{ep:Nat}{t:Zt}{P:List Nat}(S:za7 w h a rs es ep t P):SetW w h a rs es ep t P:=⟨S.get,S.tab.toW,S.len,S.led,S.ents,S.key,S.nd⟩
section
variable {w:World}{h:Heap}{a:Addr}{rs:List (D×Addr)}{es:Array (Int×Value)}{ep:Nat}{t:Zt}{P:List Nat}
theorem SetW.size(S:SetW w h a rs es ep t P):es.size=rs.length:=by rw[<-ZG,S.ents,ZR]
theorem SetW.psize(S:SetW w h a rs es ep t P):t.place.size=rs.length:=by rw[<-ZG,S.tab.pl,S.len]
theorem SetW.le5(S:SetW w h a rs es ep t P):rs.length<=5:=by rw[<-S.len];exact S.tab.few
theorem SetW.fits(S:SetW w h a rs es ep t P):t.fits es.size=true:=by
 have:=S.tab.fit
 have:=S.len
 simp only[Zt.fits,V3,S.psize,S.size,S.tab.dum,beq_self_eq_true,XR,decide_eq_true_eq];show rs.length+0<=t.mask;omega
theorem SetW.mono{h':Heap}(S:SetW w h a rs es ep t P)(k:∀o,h.get? a=some o->h'.get? a=some o)(kt:∀b its,h.IsTuple b its->h'.IsTuple b its):SetW w h' a rs es ep t P:=⟨k _ S.get,S.tab,S.len,S.led,S.ents,λr hr=>⟨(S.key r hr).1,KAt.keep kt _ _ (S.key r hr).2⟩,S.nd⟩
end
section
variable {prog:ZB}{w:World}{A:Around}{E:Value->Shared->Prop}{s:Shared}
theorem zl9{α:Type}(l:List α){o:List Nat}(p:o.Perm (ZA l.length)):(o.filterMap λi=>l[i]?).Perm l:=by
 have e:∀(l:List α),((ZA l.length).filterMap λi=>l[i]?)=l:=by
  intro l
  induction l with|nil=>rfl|cons x r ih=>rw[ZP,List.range_succ_eq_map,X8 (f:=λi=>(x::r)[i]?) (a:=0) (b:=x) rfl,List.filterMap_map];exact congrArg _ ih
 exact(p.filterMap _).trans (by rw[e l])
variable {a:Addr}{rs:List (D×Addr)}{es:Array (Int×Value)}{ep:Nat}{t:Zt}{P:List Nat}
theorem zlI{rs:List (D×Addr)}{es:Array (Int×Value)}{ep:Nat}{t:Zt}{Q:Unit->Shared->Prop}(hg:s.heap.get? a=some {cls:=.type "set",dict:=none,data:=.set es ep t,slots:=#[]})(hf:t.fits es.size=true)(h5:rs.length=5)(hl:t.led=!byTx w)(he:es.toList=rs.map λr=>(zaj w r.1,ZD r.2))(hkey:∀r∈rs,zaG r.1=true/\KAt s.heap r.1 (.ref r.2))(hnd:(rs.map (·.1)).Nodup)
  (q:∀h' rs' es' t' P',SetW w h' a rs' es' (ep+1) t' P'->Yc a s.heap h'->rs'.Perm rs->Q () {s with heap:=h'}):wpAny (model prog w) A (setRelay a 20) Q E s:=by
 unfold setRelay;refine Z9 (Zj hg rfl hf ?_);dsimp only
 have hz:es.size=5:=by rw[<-ZG,he,ZR,h5]
 have hsl:¬Zt.sizeAbove 20>sizeLine:=by rw[Zg];decide
 rw[if_neg hsl]
 obtain⟨P',o,e,p1,p2,p3,p4⟩:=zon (es.toList.map (·.1)) (by rw[ZR,ZG,hz];omega) t.finger (t.movedTo 31) t.led t.plain
 have e':t.relaid (es.map (·.1)) 20=some ({mask:=31,place:=P'.toArray,dummies:=#[],finger:=t.finger,led:=t.led,moves:=t.movedTo 31,plain:=t.plain},o.toArray):=by rw[<-e,show(es.toList.map (·.1)).toArray=es.map (·.1) by rw[<-Array.toList_map]];rfl
 rw[e']
 have hzl:(es.toList.map (·.1)).length=5:=by rw[ZR,ZG,hz]
 rw[hzl] at p3 p4
 have p5:(o.filterMap λi=>rs[i]?).Perm rs:=zl9 rs (by rw[h5];exact p3)
 have ez:(o.toArray.filterMap (es[·]?)).toList=(o.filterMap λi=>rs[i]?).map λr=>(zaj w r.1,ZD r.2):=by
  rw[Array.toList_filterMap,List.map_filterMap]
  congr 1
  funext i
  rw[<-Zl,he,Zp]
 have esz:(o.toArray.filterMap (es[·]?)).size=5:=by rw[<-ZG,ez,ZR,p5.length_eq,h5]
 refine Z9 ?_;show wpAny _ _ (if(o.toArray.filterMap (es[·]?)).size != es.size then _ else _) _ _ _
 rw[if_neg (by rw[esz,hz];decide)]
 refine Z6 (Vd hg rfl ?_ (by rw[esz,Zg];decide))
 have sb:=VT s.heap a (Vx (o.toArray.filterMap (es[·]?)) {mask:=31,place:=P'.toArray,dummies:=#[],finger:=t.finger,led:=t.led,moves:=t.movedTo 31,plain:=t.plain})
 refine q _ (o.filterMap λi=>rs[i]?) _ _ P' ⟨Zi _ hg rfl,⟨by rw[p4];show 5<=31;decide,by omega,rfl,rfl,ziy p1⟩,by rw[p4,p5.length_eq,h5],hl,ez,λr hr=>?_,((p5.map (·.1)).nodup_iff).mpr hnd⟩ sb p5
 have hr:=p5.mem_iff.mp hr
 exact ⟨(hkey r hr).1,KAt.keep (λc its ⟨o,e,cc,r⟩=>by
  have ne:c≠a:=λz=>by subst z;rw[hg] at e;cases e;injection cc with z;exact absurd z (by decide)
  exact⟨o,(sb.2 c ne).trans e,cc,r⟩) _ _ (hkey r hr).2⟩
theorem zsi:forP (λP=>!okP P||(ZA 8).all λj=>decide (ZM P.toArray j<=P.length))=true:=by decide +kernel
theorem zme{P:List Nat}(o:okP P=true){j:Nat}(hj:j<8):ZM P.toArray j<=P.length:=by have h:=zcL zsi o;simp only[o,YW,Yt,ZQ,YM,decide_eq_true_eq] at h;exact h j hj
theorem zoE{d:D}{b:Addr}{Q:Bool->Shared->Prop}(S:za7 w s.heap a rs es ep t P)(hd:zaG d=true)(hk:KAt s.heap d (.ref b))(hu:A.units+8<cLine)(hm:d∉rs.map (·.1))(h4:rs.length=4)
  (q:∀c h' rs' es' ep' t' P',SetW w h' a rs' es' ep' t' P'->Yc a s.heap h'->rs'.Perm ((d,b)::rs)->Q c {s with heap:=h'}):
  wpAny (model prog w) A (UL a (.ref b) (zaj w d)) Q E s:=by
 unfold UL;refine Y6 ?_;rw[show(100000:Nat)=99999+1 from rfl];unfold setAddHashedIn;refine Z9 (Zj S.get rfl S.fits ?_);dsimp only;rw[if_neg (by simp[byScan,Value.scannable])];obtain⟨N,h20,hN,hb⟩:=gap S.tab.ok (zaj w d);unfold setSearch;refine Z9 (zfI S hd hk hu hN hb h20 (λz=>absurd z hm) (λ_=>?_) N 0 100000 none (by omega) (Y3 _) (by omega) (S.tab.start _) (λk' hk'=>by omega));dsimp only;refine Z9 (Zj S.get rfl S.fits ?_);dsimp only;have hj:=zgk (zaj w d) N;have hp:=zme S.tab.ok hj
 have ebl:ZM t.place (pth (zaj w d) N).1=ZM P.toArray (pth (zaj w d) N).1:=by rw[S.tab.arr]
 have fin:∀t':Zt,t'.mask=7->t'.dummies=#[]->t'.place=Zk t.place (ZM t.place (pth (zaj w d) N).1) (pth (zaj w d) N).1->t'.led=t.led->wpAny (model prog w) A (do
   storeSet a (Zk es (ZM t.place (pth (zaj w d) N).1) (zaj w d,.ref b)) t'
   if !false&&t'.tooFull then setRelay a (Zt.grown (es.size+1))
   return true) Q E s:=by
  intro t' e1 e2 e3 e4
  have hsz:(Zk es (ZM t.place (pth (zaj w d) N).1) (zaj w d,ZD b)).toList=(rs.take (ZM P.toArray (pth (zaj w d) N).1)++(d,b)::rs.drop (ZM P.toArray (pth (zaj w d) N).1)).map λr=>(zaj w r.1,ZD r.2):=by rw[Xu,S.ents,ebl];simp[List.map_take,List.map_drop]
  have hpl:t'.place.toList=P.take (ZM P.toArray (pth (zaj w d) N).1)++(pth (zaj w d) N).1::P.drop (ZM P.toArray (pth (zaj w d) N).1):=by rw[e3,Xu,S.tab.pl,ebl]
  have h5:t'.place.size=5:=by
   rw[<-ZG,hpl]
   have:=S.len
   simp only[Zw,Ze,ZP,YN];omega
  have htf:t'.tooFull=true:=by unfold Zt.tooFull V3;rw[e1,e2,h5];rfl
  generalize ZM P.toArray (pth (zaj w d) N).1=p at *;rw[ebl] at hsz⊢;have pm:(rs.take p++(d,b)::rs.drop p).Perm ((d,b)::rs):=List.perm_middle.trans (by rw[Yk])
  have hz5:(Zk es p (zaj w d,ZD b)).size=5:=by rw[<-ZG,hsz,ZR,pm.length_eq,ZP,h4]
  have hz:(Zk es p (zaj w d,ZD b)).size<=sizeLine:=by rw[hz5,Zg];decide
  refine Z9 (Vd S.get rfl ?_ hz);rw[htf,show es.size=4 by rw[S.size,h4]];simp only[Bool.and_self,Vz,if_true];have sb:=VT s.heap a (Vx (Zk es p (zaj w d,ZD b)) t')
  have kt:∀c its,s.heap.IsTuple c its->(s.heap.update a (Vx (Zk es p (zaj w d,ZD b)) t')).IsTuple c its:=λc its ⟨o,e,cc,r⟩=>by
   have ne:c≠a:=λz=>by subst z;rw[S.get] at e;cases e;injection cc with z;exact absurd z (by decide)
   exact⟨o,(sb.2 c ne).trans e,cc,r⟩
  refine Z9 (zlI (rs:=rs.take p++(d,b)::rs.drop p) (s:={s with heap:=s.heap.update a (Vx (Zk es p (zaj w d,ZD b)) t')}) (Zi _ S.get rfl) ?_ (by rw[pm.length_eq,ZP,h4]) (by rw[e4];exact S.led) hsz (λr hr=>?_) ?_ λh' rs' es' t2 P2 S2 sb2 pm2=>?_)
  ·simp only[Zt.fits,V3,hz5,h5,e1,e2]
   rfl
  ·rcases ZJ.mp (pm.mem_iff.mp hr) with h | h
   ·rw[h];exact⟨hd,KAt.keep kt _ _ hk⟩
   ·exact⟨(S.key r h).1,KAt.keep kt _ _ (S.key r h).2⟩
  ·rw [(pm.map (·.1)).nodup_iff,Zz,YR]
   exact⟨hm,S.nd⟩
  ·exact Z6 (q true _ rs' es' _ t2 P2 S2 (sb.trans sb2) (pm2.trans pm))
 unfold Zt.put;dsimp only;rw[S.tab.dum,zim];simp only[Z1,if_false]
 cases hpl:t.plain with
 | true=>
  simp only[if_true];refine Z9 (zjL 8 d _ _ _ hk λbv=>?_)
  cases bv with|true=>simp only[if_true];exact fin _ S.tab.mask rfl rfl rfl|false=>simp only[Z1,if_false];exact fin _ S.tab.mask rfl rfl rfl
 |false=>simp only[Z1,if_false];refine Z9 (Z6 ?_);simp only[if_true];exact fin _ S.tab.mask rfl rfl rfl
end
end IT
namespace IT
open PySem PyProof.Rows
theorem zhl{α:Type}[DecidableEq α]:∀{l m:List α},l.Nodup->(∀x∈l,x∈m)->l.length<=m.length
 | [],m,_,_=>Y3 _
 |x::l,m,n,h=>by
  rw[YR] at n;have hx:=h x ZK
  have:=zhl (l:=l) (m:=m.erase x) n.2 λy hy=>(List.mem_erase_of_ne (a:=y) (b:=x) (λe=>n.1 (by rw[<-e];exact hy))).mpr (h y (ZU _ hy))
  rw[List.length_erase_of_mem hx] at this;have hp:0<m.length:=List.length_pos_of_mem hx;simp only[ZP];omega
section
variable {prog:ZB}{w:World}{A:Around}{E:Value->Shared->Prop}{R:Result->Shared->Prop}{I l S:Addr}{items:Array Value}{vals:List (D×Addr)}
theorem zk1(hA:A.in1.handled=none)(hlI:l≠I)(hSI:S≠I)(hv:items.toList=vals.map λr=>ZD r.2){s:Shared}{rs:List (D×Addr)}{es:Array (Int×Value)}{ep:Nat}{t:Zt}{P:List Nat}(hit:s.heap.IsListIter I l items.size)(hl:s.heap.IsList l items)(hS:SetW w s.heap S rs es ep t P)
  (hmem:∀y,y∈rs.map (·.1)↔y∈vals.map (·.1)) (hsub:∀r∈rs,r∈vals)
  (hR:∀h' tk rs' es' ep' t' P',SetW w h' S rs' es' ep' t' P'->(∀y,y∈rs'.map (·.1)↔y∈vals.map (·.1))->(∀r∈rs',r∈vals)->(∀b o,b≠S->b≠I->s.heap.get? b=some o->h'.get? b=some o)->R (.ok (.ret .none)) {s with heap:=h',toks:=tk}):
  Xs (model prog w) A (.builtin "set.update.loop" ⟨[.ref S,.ref I],[]⟩) R s:=by
 have W:=Walks.list (prog:=prog) (w:=w) (A:=A.in1) hA I l hlI items;refine YQ F.entry_set_update_loop ?_
 rw[YT Xj _];show wpAny _ A.in1 (pyNext (.ref I) >>= _) _ _ s
 refine Z9 (W.done s _ _ ⟨hit,hl⟩ λh' tk hk'=>?_);have kb:∀b o,b≠I->s.heap.get? b=some o->h'.get? b=some o:=λb o hb e=>hk' b o (by simpa using hb) e;refine Z6 (hR h' tk rs es ep t P (hS.mono (λo e=>kb S o hSI e) λb its tt=>?_) hmem hsub λb o _ hb e=>kb b o hb e)
 have ne:b≠I:=λz=>by obtain⟨o,e,c,_⟩:=hit;obtain⟨o',e',c',_⟩:=tt;rw[z,e] at e';cases e';rw[c] at c';injection c' with z;exact absurd z (by decide)
 obtain⟨o,e,r⟩:=tt;exact⟨o,kb b o ne e,r⟩
theorem zly(hA:A.in1.handled=none)(hu:A.units+16<cLine)(hlI:l≠I)(hSI:S≠I)(hSl:S≠l)(hv:items.toList=vals.map λr=>ZD r.2)(mx:List D)(h4:mx.length<=4\/vals.length<=5)(hmx:∀r∈vals,r.1∈mx):
  ∀(k i:Nat) (s:Shared) (rs:List (D×Addr)) (es:Array (Int×Value)) (ep:Nat) (t:Zt) (P:List Nat),items.size-i=k->i<=items.size->s.heap.IsListIter I l i->s.heap.IsList l items->za7 w s.heap S rs es ep t P →
  (∀r∈vals,zaG r.1=true/\KAt s.heap r.1 (.ref r.2))->(∀y,y∈rs.map (·.1)↔y∈(vals.take i).map (·.1))->(∀r∈rs,r∈vals) →
  (∀h' tk rs' es' ep' t' P',SetW w h' S rs' es' ep' t' P'->(∀y,y∈rs'.map (·.1)↔y∈vals.map (·.1))->(∀r∈rs',r∈vals)->(∀b o,b≠S->b≠I->s.heap.get? b=some o->h'.get? b=some o)->R (.ok (.ret .none)) {s with heap:=h',toks:=tk}) →
  Xs (model prog w) A (.builtin "set.update.loop" ⟨[.ref S,.ref I],[]⟩) R s:=by
 have W:=Walks.list (prog:=prog) (w:=w) (A:=A.in1) hA I l hlI items
 have iter_no:∀(h:Heap) i its,h.IsListIter I l i->¬h.IsTuple I its:=λh i its ⟨o,e,c,_⟩ ⟨o',e',c',_⟩=>by rw[e] at e';cases e';rw[c] at c';injection c' with z;exact absurd z (by decide)
 have hlen:vals.length=items.size:=by rw[<-ZG,hv,ZR]
 intro k
 induction k with
 |zero=>
  intro i s rs es ep t P hk hi hit hl hS hkey hmem hsub hR
  have hin:i=items.size:=by omega
  subst hin;exact zk1 hA hlI hSI hv hit hl hS.toW (λy=>by rw[hmem y,YF (by omega)]) hsub hR
 | succ k ih=>
  intro i s rs es ep t P hk hi hit hl hS hkey hmem hsub hR
  have hlt:i<items.size:=by omega
  refine YQ F.entry_set_update_loop ?_
  rw[YT Xj _];show wpAny _ A.in1 (pyNext (.ref I) >>= _) _ _ s
  refine Z9 (W.item i s _ _ hlt ⟨hit,hl⟩ λv h' tk hP hst' hk'=>?_);have kb:∀b o,b≠I->s.heap.get? b=some o->h'.get? b=some o:=λb o hb e=>hk' b o (by simpa using hb) e
  have kt:∀b its,s.heap.IsTuple b its->h'.IsTuple b its:=λb its tt=>by have ne:b≠I:=λz=>iter_no _ _ its hit (z▸tt);obtain⟨o,e,r⟩:=tt;exact⟨o,kb b o ne e,r⟩
  have hiv:i<vals.length:=by omega
  have ev:v=.ref (vals[i]).2:=by rw[<-Zl,hv,Zp,Z4 hiv] at hP;exact(ZY hP).symm
  subst ev;obtain⟨hk1,hk2⟩:=hkey vals[i] (Zn ..);have hS1:=hS.mono (λo e=>kb S o hSI e) kt;have hk3:=KAt.keep kt _ _ hk2;show wpAny _ A.in1 (holding [ZD (vals[i]).2] (setAdd S (.ref (vals[i]).2)) >>= _) _ _ {s with heap:=h',toks:=tk};refine Z9 (Y6 ?_);unfold setAdd
  refine Y6 (Z9 (zfj 8 (vals[i]).1 A.in1 {s with heap:=h',toks:=tk} _ _ (zbd hk1) hk3 (by show A.units+1+8<cLine;omega) ?_))
  by_cases h5:(vals[i]).1∉rs.map (·.1)/\rs.length=4
  ·have hrl:rs.length<=i:=by
    have:=zhl (l:=rs.map (·.1)) (m:=(vals.take i).map (·.1)) hS.nd λx hx=>(hmem x).mp hx
    simp only[ZR,Ze] at this;omega
   have h4':vals.length<=5:=by
    rcases h4 with h4 | h4
    ·have:=zhl (l:=(vals[i]).1::rs.map (·.1)) (m:=mx) (YR.mpr ⟨h5.1,hS.nd⟩) λx hx=>by
      rcases ZJ.mp hx with rfl | hx
      ·exact hmx _ (Zn ..)
      ·obtain ⟨r,hr,rfl⟩:=X9.mp hx
       exact hmx r (hsub r hr)
     simp only[ZP,ZR] at this;omega
    ·exact h4
   refine zoE (s:={s with heap:=h',toks:=tk+zdN (vals[i]).1}) hS1 hk1 hk3 (by show A.units+1+8<cLine;omega) h5.1 h5.2 λc h2 rs' es' ep' t' P' S2 sb pm=>?_
   have ei:i+1=items.size:=by omega
   refine Z6 ⟨XQ Xj _,zk1 hA hlI hSI hv ?_ ?_ S2 (λy=>?_) (λr hr=>?_) λh3 tk3 rs3 es3 ep3 t3 P3 g1 g2 g3 g4=>?_⟩
   ·obtain ⟨o,e,r⟩:=hst'.1
    rw[<-ei];exact⟨o,(sb.2 I (Za hSI)).trans e,r⟩
   ·obtain ⟨o,e,r⟩:=hst'.2
    exact⟨o,(sb.2 l (Za hSl)).trans e,r⟩
   ·have e1:vals=vals.take i++[vals[i]]:=by rw[<-Xx hiv,YF (by omega)]
    rw[(pm.map (·.1)).mem_iff,Zz,ZJ,hmem y]
    conv=>rhs;rw[e1]
    rw[XF,Zd,Zz,UQ,Yx];exact⟨λh=>h.symm,λh=>h.symm⟩
   ·rcases ZJ.mp (pm.mem_iff.mp hr) with h | h
    ·rw[h];exact Zn ..
    ·exact hsub r h
   ·exact hR h3 tk3 rs3 es3 ep3 t3 P3 g1 g2 g3 λb o hb1 hb2 e=>g4 b o hb1 hb2 ((sb.2 b hb1).trans (kb b o hb2 e))
  refine zqj (s:={s with heap:=h',toks:=tk+zdN (vals[i]).1}) hS1 hk1 hk3 (by show A.units+1+8<cLine;omega) (λhn=>?_) λc h2 rs' es' ep' t' P' S2 sb hm2 hs2=>?_
  ·have:=hS.le4
   exact Nat.lt_of_le_of_ne this λz=>h5 ⟨hn,z⟩
  ·have kt2:∀b its,h'.IsTuple b its->h2.IsTuple b its:=λb its ⟨o,e,c,r⟩=>by
    have ne:b≠S:=λz=>by subst z;rw[hS1.get] at e;cases e;injection c with z;exact absurd z (by decide)
    exact⟨o,(sb.2 b ne).trans e,c,r⟩
   refine Z6 ⟨XQ Xj _,ih (i+1) _ rs' es' ep' t' P' (by omega) hlt ?_ ?_ S2 (λr hr=>⟨(hkey r hr).1,KAt.keep kt2 _ _ (KAt.keep kt _ _ (hkey r hr).2)⟩) (λy=>?_) (λr hr=>?_) λh3 tk3 rs3 es3 ep3 t3 P3 g1 g2 g3 g4=>?_⟩
   ·obtain ⟨o,e,r⟩:=hst'.1
    exact⟨o,(sb.2 I (Za hSI)).trans e,r⟩
   ·obtain ⟨o,e,r⟩:=hst'.2
    exact⟨o,(sb.2 l (Za hSl)).trans e,r⟩
   ·rw [hm2 y,hmem y,Xx hiv,XF,Zd]
    simp only[Zz,UQ,Yx];exact⟨λh=>h.symm,λh=>h.symm⟩
   ·rcases hs2 r hr with h | h
    ·exact hsub r h
    ·rw[h];exact Zn ..
   ·exact hR h3 tk3 rs3 es3 ep3 t3 P3 g1 g2 g3 λb o hb1 hb2 e=>g4 b o hb1 hb2 ((sb.2 b hb1).trans (kb b o hb2 e))
end
section
variable {prog:ZB}{w:World}{A:Around}{E:Value->Shared->Prop}{s:Shared}
abbrev set0(w:World):Obj:={cls:=.type "set",dict:=none,data:=.set #[] 0 (.fresh 0 0 (!byTx w))}
theorem zmR(a:Value){Q₁:Value->Shared->Prop}(h:Q₁ (.ref s.heap.objs.size) {s with heap:=s.heap.push (set0 w)}):
  Xs (model prog w) A (.call (.builtin "set.__new__") ⟨[.type "set",a],[]⟩) (wants Q₁ E) s:=by
 refine UF ?_;show wpAny _ A.in1 (do UX "set.__new__" ⟨[.type "set",a],[]⟩;again (.builtin "set.__new__" ⟨[.type "set",a],[]⟩)) _ _ s
 refine Z9 (wpAny_of_eq (F.newCall_set_1 a) (Z6 ⟨XQ PySem.F.plain_set_new _,YQ PySem.F.entry_set_new ?_⟩))
 rw[YT PySem.F.plain_set_new _];unfold Zb.«set.__new__» Zb.Frozenset.newClass
 have hsub:=sub_set_self;obtain⟨hp,g,d,tk,os⟩:=s;dsimp only
 wp_walk
 refine UW (Z6 ?_)
 dsimp only;simp only[newObj]
 exact Z9 (wpAny_alloc (Z6 (Z6 h)))
theorem zo7{h:Heap}{a:Addr}(e:h.get? a=some (set0 w)):za7 w h a [] #[] 0 (.fresh 0 0 (!byTx w)) []:=⟨e,⟨rfl,rfl,rfl,rfl⟩,rfl,rfl,rfl,(λr hr=>nomatch hr),List.nodup_nil,(λz hz=>nomatch hz)⟩
theorem zfm{l:Addr}{items:Array Value}{vals:List (D×Addr)}{mx:List D}{Q:Value->Shared->Prop}(hh:A.handled=none)(hu:A.units+32<cLine)(hl:s.heap.IsList l items)(hv:items.toList=vals.map λr=>ZD r.2)
  (hkey:∀r∈vals,zaG r.1=true/\KAt s.heap r.1 (.ref r.2)) (h4:mx.length<=4\/vals.length<=5) (hmx:∀r∈vals,r.1∈mx)
  (h:∀h' tk rs es ep t P,SetW w h' s.heap.objs.size rs es ep t P->(∀y,y∈rs.map (·.1)↔y∈vals.map (·.1))->(∀r∈rs,r∈vals)->(∀b o,s.heap.get? b=some o->h'.get? b=some o)->Q (.ref s.heap.objs.size) {s with heap:=h',toks:=tk}):
  wpAny (model prog w) A (call (.type "set") [.ref l]) Q E s:=by
 obtain⟨c,tl,hmro⟩:=Yw.mro;have hmade:=Yw.made;have hsub:=Yw.sub
 refine Wc (UF ?_);show wpAny _ _ (callAny (.type "set") _) _ _ _
 refine Z6 ⟨Wy _ (by decide +kernel),YQ PySem.F.entry_type_call ?_⟩;rw[Around.under_plain (weight_type_call_type "set" [.ref l] []) rfl]
 have h1:=Yw.notType;have h2:=Yw.canCreate;have hct:=PySem.F.typeCall_set_1 (.ref l)
 repeat(any_goals (first | assumption | wp_step))
 refine XC (zmR (.ref l) (E:=E) (Q₁:=λobj s₁=>obj=.ref s.heap.objs.size/\s₁={s with heap:=s.heap.push (set0 w)}) ⟨rfl,rfl⟩) λr s₁ hr=>?_
 cases r with
 |error e=>exact hr
 | ok fl=>
  cases fl with
  | ret obj=>
   obtain⟨rfl,rfl⟩:=hr;have hS:(s.heap.push (set0 w)).get? s.heap.objs.size=some (set0 w):=ZH _ rfl;have hT:Shared.TypeIs {s with heap:=s.heap.push (set0 w)} (.ref s.heap.objs.size) "set":=⟨_,hS,rfl⟩;have hli:=Yw.init.lookup;have hbi:=Yw.init.bind (.ref s.heap.objs.size)
   repeat(any_goals (first | assumption | wp_step))
   refine XC (Xw (R:=wants (λr s₂=>r=.none/\∃h' tk rs es ep t P,s₂={s with heap:=h',toks:=tk}/\SetW w h' s.heap.objs.size rs es ep t P/\(∀y,y∈rs.map (·.1)↔y∈vals.map (·.1))/\(∀r∈rs,r∈vals)/\(∀b o,s.heap.get? b=some o->h'.get? b=some o)) E)
    Yw.init.plain PySem.F.entry_set_init (check_set_init_1 hT ?_)) λr₂ s₂ hr₂=>?_
   ·obtain ⟨⟨ocls,odict,odata,oslots⟩,hol,hcl,nl,hdl⟩:=hl
    simp only at hcl hdl
    subst hcl;subst hdl
    have hol':(s.heap.push (set0 w)).get? l=some {cls:=.type "list",dict:=odict,data:=.seq items nl,slots:=oslots}:=Z5 _ hol;have hsls:=PySem.F.sub_list_set;have hslf:=PySem.F.sub_list_frozenset
    have hne:(Yi "list"==Yi "dict")=false:=by decide
    have hl1:(s.heap.push (set0 w)).IsList l items:=⟨_,hol',rfl,nl,rfl⟩;unfold Zb.«set.__init__» noKeywords Zb.Frozenset.updateFrom;generalize hPI:pyIter=PI
    wp_walk
    subst hPI;refine Wj hl1 ?_;refine Z9 (wpAny_runValue ?_);have hlS:l<s.heap.objs.size:=ZW hol;have sz1:(s.heap.push (set0 w)).objs.size=s.heap.objs.size+1:=Xo ..;have keep:∀b its,s.heap.IsTuple b its->((s.heap.push (set0 w)).push {cls:=.type "list_iterator",data:=.fields #[.ref l,.int 0 0]}).IsTuple b its:=λb its ⟨o,e,r⟩=>⟨o,Z5 _ (Z5 _ e),r⟩
    refine zly (mx:=mx) (vals:=vals) (items:=items) (l:=l) (by simp[hh]) (by show A.units+1+1+16<cLine;omega) ?_ ?_ (Xf hlS) hv h4 hmx items.size 0 _ [] #[] 0 _ [] (by omega) (Y3 _) ⟨_,ZH _ rfl,rfl,rfl⟩ (hl1.push _) (zo7 (Z5 _ hS)) (λr hr=>⟨(hkey r hr).1,KAt.keep keep _ _ (hkey r hr).2⟩) (λy=>by simp) (λr hr=>nomatch hr) ?_
    ·rw[sz1];exact ZI (YB hlS)
    ·rw[sz1];exact ZI (WX _)
    ·intro h' tk rs es ep t P g1 g2 g3 g4
     refine Z6 ?_;show wpAny _ _ (ret X3) _ _ _;refine Z6 ⟨rfl,h',tk,rs,es,ep,t,P,rfl,g1,g2,g3,λb o e=>g4 b o (ZI (ZW e)) ?_ (Z5 _ (Z5 _ e))⟩
     rw[sz1];exact ZI (YB (ZW e))
   ·cases r₂ with
    |error e=>exact hr₂
    | ok fl₂=>
     cases fl₂ with
     |ret r=>
      obtain⟨rfl,h',tk,rs,es,ep,t,P,rfl,g1,g2,g3,g4⟩:=hr₂
      repeat(any_goals (first | assumption | wp_step))
      exact h _ _ _ _ _ _ _ g1 g2 g3 g4
     |_=>exact hr₂.elim
  |_=>exact hr.elim
end
end IT
namespace IT
open PySem PyProof.Rows
theorem zaM:Slot "set_iterator" "__next__" "set_iterator.__next__":=.of (owner:="set_iterator") (n:="__next__") (by rw[typeLookup_type,builtinLookup_eq_fast];kernel_rfl) (by decide +kernel) (by decide +kernel) (by decide +kernel) (by first | exact .inl (by decide +kernel) | exact .inr (by decide +kernel)) (by rw[isSubtype_type];kernel_rfl)
theorem zb6:entryFor table "set_iterator.__next__"=some Zb.«set_iterator.__next__»:=entryFor_of_tree (by kernel_rfl)
theorem zcZ(a:Value):argsOk "set_iterator.__next__" ⟨[a],[]⟩:=by unfold argsOk;kernel_rfl
theorem zfs:entryFor table "set.__iter__"=some Zb.«frozenset.__iter__»:=entryFor_alias (id':="frozenset.__iter__") (by kernel_rfl) rfl (by decide +kernel) (by kernel_rfl)
abbrev sitO(f:Value)(i:Nat)(v:Addr)(n ep:Nat):Obj:={cls:=.type "set_iterator",dict:=none,data:=.fields #[f,.int i 0,.ref v,.int n 0,.int ep 0],slots:=#[]}
inductive Mode(w:World)(v:Addr)(es:Array (Int×Value))(ep:Nat)(t:Zt)(P:List Nat)(fs:Nat->Value)(vs:List (Int×Value))(h:Heap):Prop where|drawn (T:Addr) (p:List Nat) (hf:fs=λ_=>.ref T) (hT:h.get? T=some {cls:=.type "tuple",data:=.seq (p.map λi:Nat=>rawInt (i:Int)).toArray 0}) (hp:p.length=es.size) (hv:∀(i j:Nat),p[i]?=some j->∃e,es[j]?=some e/\vs[i]?=some e)|text (hb:byTx w=true) (hf:fs=λ_=>rawInt 0) (hv:(Us (w.params.setOrder v ep) es).toList=vs)|slots (hb:byTx w=false) (hd:t.plain=true\/es.size<=1) (hf:fs=λi=>rawInt ((if i=0 then 0 else P.getD (i-1) 0+1:Nat):Int)) (hv:vs=es.toList)
theorem Mode.keep{w:World}{v:Addr}{es:Array (Int×Value)}{ep:Nat}{t:Zt}{P:List Nat}{fs:Nat->Value}{vs:List (Int×Value)}{h h':Heap}{b:Addr}(m:Mode w v es ep t P fs vs h)(k:∀c o,c≠b->h.get? c=some o->h'.get? c=some o)(hb:∀o,h.get? b=some o->o.cls≠.type "tuple"):Mode w v es ep t P fs vs h':=by
 cases m with|drawn T p hf hT hp hv=>exact .drawn T p hf (k T _ (λe=>by subst e;exact hb _ hT rfl) hT) hp hv|text hb hf hv=>exact .text hb hf hv|slots hb hd hf hv=>exact .slots hb hd hf hv
theorem zcE{α:Type}:∀{l:List α} {i:Nat} (hi:i<l.length),(l[i]::l.eraseIdx i).Perm l| [],i,hi=>by simp at hi|x::l,0,hi=>by simp|x::l,i+1,hi=>by simp only[Wm,List.eraseIdx_cons_succ];exact(Vu _ _ _).trans (W0 _ (zcE (by simpa using hi)))
section
variable {prog:ZB}{w:World}{A:Around}{E:Value->Shared->Prop}{s:Shared}
theorem za9{Q:Bool->Shared->Prop}(q:Q (byTx w) s):wpAny (model prog w) A setsByText Q E s:=by unfold setsByText;exact Z9 (UW (Z6 q))
theorem zjb{M:Model}{src:Source}{n:Nat}{Q:Nat->Shared->Prop}(h0:n≠0)(q:∀i,i<n->Q i {s with drawn:=s.drawn.bump src}):wpAny M A (choose src n) Q E s:=by intro p _ p1;simp only[choose,Sem.wp_choose,Sem.wp_pure];exact⟨h0,q _ (UN _ (Nat.pos_of_ne_zero h0))⟩
theorem zkt{M:Model}{α:Type}:∀(n:Nat) (xs:List α) (s:Shared) (Q:List α->Shared->Prop),xs.length=n->(∀ys d,ys.Perm xs->Q ys {s with drawn:=d})->wpAny M A (drawOrder n xs) Q E s
 |0,xs,s,Q,hl,q=>by
  cases xs with|nil=>exact Z6 (q [] s.drawn (XL _))|cons x xs=>simp at hl
 | n+1,xs,s,Q,hl,q=>by
  cases xs with
  |nil=>simp at hl
  |cons x xs=>
   unfold drawOrder;refine Z9 (zjb (by simp) λi hi=>?_);rw[Z4 hi]
   refine Z9 (zkt n _ _ _ (by rw[Vt hi];omega) λys d hp=>?_)
   refine Z6 (q _ d ?_);exact(W0 _ hp).trans (zcE hi)
theorem zf7{α:Type}(nx:Nat->Nat):∀(fuel k:Nat) (left:List α) (out:Array α),left.length=fuel->(Us.go nx fuel k left out).toList.Perm (out.toList++left)
 |0,k,left,out,hl=>by
  cases left with|nil=>simp[Us.go]|cons x xs=>simp at hl
 |fuel+1,k,left,out,hl=>by
  have hi:nx k%left.length<left.length:=UN _ (by omega);unfold Us.go;rw[Z4 hi];dsimp only
  refine(zf7 nx fuel (k+1) _ _ (by rw[Vt hi];omega)).trans ?_
  rw[Array.toList_push,XA];exact List.Perm.append_left _ (zcE hi)
variable {I v:Addr}{rs:List (D×Addr)}{es:Array (Int×Value)}{ep:Nat}{t:Zt}{P:List Nat}{fs:Nat->Value}{vs:List (Int×Value)}{i:Nat}
theorem zk0{Q:Array (Int×Value)->Shared->Prop}(S:SetW w s.heap v rs es ep t P)(hb:byTx w=true)(q:Q (Us (w.params.setOrder v ep) es) s):wpAny (model prog w) A (setWalk v) Q E s:=by unfold setWalk;refine Z9 (Zj S.get rfl S.fits ?_);dsimp only;refine Z9 (za9 ?_);rw[hb,if_pos rfl];exact Z9 (UW (Z6 q))
theorem zn5{e:Int×Value}{Q:Option Value->Shared->Prop}(S:SetW w s.heap v rs es ep t P)(m:Mode w v es ep t P fs vs s.heap)(hit:s.heap.get? I=some (sitO (fs i) i v es.size ep))(hi:i<es.size)(he:vs[i]?=some e)
  (q:∀h',h'.get? I=some (sitO (fs (i+1)) (i+1) v es.size ep)->Yc I s.heap h'->Q (some e.2) {s with heap:=h'}):wpAny (model prog w) A (pyNext (.ref I)) Q E s:=by
 have hT:s.TypeIs (.ref I) "set_iterator":=⟨_,hit,rfl⟩;unfold pyNext;refine Z9 (wpAny_attempt (Xl (name:=YG "__next__") hT zaM (Yj zaM hT zb6 ?_ (zcZ _))));show wpAny _ _ (fieldsOf (.ref I) >>= _) _ _ _;refine Z9 (wpAny_fieldsOf hit rfl ?_);dsimp only;refine Z9 (VS S.get rfl S.fits ?_);rw[if_neg (by simp)]
 have ei:((i+1:Nat):Int)=(i:Int)+1:=by omega
 cases m with
 | drawn T p hf hTu hp hv=>
  subst hf
  have hip:i<p.length:=by omega
  obtain⟨e',g1,g2⟩:=hv i p[i] (Z4 hip);rw[he] at g2;cases g2;show wpAny _ _ (V8 (.ref T) >>= _) _ _ _;unfold V8;refine Z9 (Z9 (Wd hTu (Z6 ?_)));dsimp only
  have eg:(p.map λi:Nat=>rawInt (i:Int)).toArray[(i:Int).toNat]?=some (.int (p[i]:Nat) 0):=by rw[YV];simp[hip,rawInt]
  rw[eg];dsimp only;unfold setNextDrawn;refine Z9 (Z9 (Zj S.get rfl S.fits ?_));dsimp only;rw[if_neg (by simp)];rw[YV,g1];refine Z6 (Z9 (YI hit (by simp) λh1 he1 hs1=>Z6 ⟨_,rfl,Z6 (q h1 ?_ hs1)⟩));rw[he1];simp[sitO,rawInt,ei]
 |text hb hf hv=>subst hf;show wpAny _ _ (UK v (0:Int).toNat (i:Int).toNat (ep:Int).toNat >>= _) _ _ _;unfold UK;refine Z9 (Z9 (Zj S.get rfl S.fits ?_));dsimp only;refine Z9 (za9 ?_);rw[hb,if_pos rfl,YV,YV];rw[if_neg (by simp)];refine Z9 (zk0 S hb ?_);rw[<-Zl,hv,he];refine Z6 ?_;dsimp only[WE];refine Z9 (YI hit (by simp) λh1 he1 hs1=>Z9 (YI he1 (by simp) λh2 he2 hs2=>Z6 ⟨_,rfl,Z6 (q h2 ?_ (hs1.trans hs2))⟩));rw[he2];simp[sitO,rawInt,ei]
 | slots hb hd hf hv=>
  subst hf hv;show wpAny _ _ (UK v ((if i=0 then 0 else P.getD (i-1) 0+1:Nat):Int).toNat (i:Int).toNat (ep:Int).toNat >>= _) _ _ _;unfold UK;refine Z9 (Z9 (Zj S.get rfl S.fits ?_));dsimp only;refine Z9 (za9 ?_);rw[hb,if_neg (by decide),YV];refine Xa (λhab=>?_) (λ_=>?_)
  ·exfalso
   have hab':(!t.plain&&decide (es.size>1))=true:=hab;simp only[Z8,Zu,decide_eq_true_eq] at hab'
   rcases hd with z | z
   ·rw[z] at hab';exact absurd hab'.1 (by decide)
   ·omega
  ·refine Z9 (m:=_) ?_
   have hl:t.led=true:=by rw[S.led,hb];rfl
   show wpAny _ _ (if(!t.led&&!es.isEmpty)=true then _ else _) _ _ _
   rw[if_neg (by rw[hl];simp)]
   refine Z6 (Z6 ?_)
   have hiP:i<P.length:=by rw[S.len,<-S.size];exact hi
   have eb:ZM t.place (if i=0 then 0 else P.getD (i-1) 0+1)=i:=by rw[S.tab.arr];exact S.tab.walk _ (Xi hiP)
   have e1:es[i]?=some e:=by rw[<-Zl];exact he
   have e2:t.place[i]?=some P[i]:=by rw[<-Zl,S.tab.pl];exact Z4 hiP
   try dsimp only
   rw[eb,e1,e2];dsimp only;refine Z9 (YI hit (by simp) λh1 he1 hs1=>Z9 (YI he1 (by simp) λh2 he2 hs2=>Z6 ⟨_,rfl,Z6 (q h2 ?_ (hs1.trans hs2))⟩));rw[he2]
   have e3:P.getD i 0=P[i]:=by simp[hiP]
   simp[sitO,rawInt,ei,hiP]
theorem zgX{α:Type}{Q':α->Shared->Prop}{E':Value->Shared->Prop}{h1:Heap}(hh:A.handled=none)(hs1:Yc I s.heap h1)
  (q:∀h2 x,(∀b o,b≠I->s.heap.get? b=some o->h2.get? b=some o)->({s with heap:=h2}:Shared).TypeIs x "StopIteration"->E' x {s with heap:=h2}):wpAny (model prog w) A.in1 (do raiseNew (<-newExc (.type "StopIteration") [])) Q' E' {s with heap:=h1}:=by
 refine Z9 ?_;simp only[newExc,newTuple]
 refine Z9 (Yq ?_ (by size_fits))
 refine Z9 (m:=firstArgMember _ _) (wpAny_of_eq (a:=X3) (by first | rfl | (simp only[firstArgMember];rfl)) ?_);refine Yq ?_ (by size_fits)
 simp only[raiseNew];refine Z9 (wpAny_handled ?_)
 rw[show A.in1.handled=none from hh];refine Z9 (Z6 (wpAny_throw ?_));exact q _ _ ((hs1.extBut.push _).push _) ⟨_,ZH _ rfl,rfl⟩
theorem zp9{Q:Option Value->Shared->Prop}(hh:A.handled=none)(S:SetW w s.heap v rs es ep t P)(m:Mode w v es ep t P fs vs s.heap)(hl:vs.length=es.size)(hit:s.heap.get? I=some (sitO (fs es.size) es.size v es.size ep))
  (q:∀h',(∀b o,b≠I->s.heap.get? b=some o->h'.get? b=some o)->Q none {s with heap:=h'}):wpAny (model prog w) A (pyNext (.ref I)) Q E s:=by
 have hT:s.TypeIs (.ref I) "set_iterator":=⟨_,hit,rfl⟩;unfold pyNext;refine Z9 (wpAny_attempt (Xl (name:=YG "__next__") hT zaM (Yj zaM hT zb6 ?_ (zcZ _))));show wpAny _ _ (fieldsOf (.ref I) >>= _) _ _ _;refine Z9 (wpAny_fieldsOf hit rfl ?_);dsimp only;refine Z9 (VS S.get rfl S.fits ?_);rw[if_neg (by simp)]
 cases m with
 | drawn T p hf hTu hp hv=>
  subst hf;show wpAny _ _ (V8 (.ref T) >>= _) _ _ _;unfold V8;refine Z9 (Z9 (Wd hTu (Z6 ?_)));dsimp only
  have eg:(p.map λi:Nat=>rawInt (i:Int)).toArray[(es.size:Int).toNat]?=none:=by rw[YV];simp[hp]
  rw[eg];dsimp only;exact Z9 (YI hit (by simp) λh1 he1 hs1=>Z9 (YI he1 (by simp) λh2 he2 hs2=>zgX (s:=s) hh (hs1.trans hs2) λh3 x k2 ty=>Z9 (Xp (b:=true) ty Ux (Z6 (q h3 k2)))))
 |text hb hf hv=>subst hf;show wpAny _ _ (UK v (0:Int).toNat (es.size:Int).toNat (ep:Int).toNat >>= _) _ _ _;unfold UK;refine Z9 (Z9 (Zj S.get rfl S.fits ?_));dsimp only;refine Z9 (za9 ?_);rw[hb,if_pos rfl,YV,YV];rw[if_neg (by simp)];refine Z9 (zk0 S hb ?_);rw[<-Zl,hv,YA (by omega)];refine Z6 ?_;dsimp only[Option.map_none];exact Z9 (YI hit (by simp) λh1 he1 hs1=>zgX (s:=s) hh hs1 λh3 x k2 ty=>Z9 (Xp (b:=true) ty Ux (Z6 (q h3 k2))))
 | slots hb hd hf hv=>
  subst hf hv;show wpAny _ _ (UK v ((if es.size=0 then 0 else P.getD (es.size-1) 0+1:Nat):Int).toNat (es.size:Int).toNat (ep:Int).toNat >>= _) _ _ _;unfold UK;refine Z9 (Z9 (Zj S.get rfl S.fits ?_));dsimp only;refine Z9 (za9 ?_);rw[hb,if_neg (by decide),YV];refine Xa (λhab=>?_) (λ_=>?_)
  ·exfalso
   have hab':(!t.plain&&decide (es.size>1))=true:=hab;simp only[Z8,Zu,decide_eq_true_eq] at hab'
   rcases hd with z | z
   ·rw[z] at hab';exact absurd hab'.1 (by decide)
   ·omega
  ·refine Z9 (m:=_) ?_
   have hl:t.led=true:=by rw[S.led,hb];rfl
   show wpAny _ _ (if(!t.led&&!es.isEmpty)=true then _ else _) _ _ _
   rw[if_neg (by rw[hl];simp)]
   refine Z6 (Z6 ?_)
   have eb:ZM t.place (if es.size=0 then 0 else P.getD (es.size-1) 0+1)=es.size:=by
    rw[S.tab.arr]
    exact S.tab.walk _ (by rw[S.len,<-S.size];exact ZZ _)
   have e1:es[es.size]?=none:=by simp
   try dsimp only
   rw[eb,e1];dsimp only;exact Z9 (YI hit (by simp) λh1 he1 hs1=>zgX (s:=s) hh hs1 λh3 x k2 ty=>Z9 (Xp (b:=true) ty Ux (Z6 (q h3 k2))))
end
end IT
namespace IT
open PySem PySem.W PyProof.Rows
theorem zhT:∀x y:List Nat,ltS x y=decide (x<y)
 | [],[]=>by simp[ltS]| [],_::_=>by simp[ltS]|_::_,[]=>by simp[ltS]
 |a::r,b::t=>by
  have ih:=zhT r t;simp only[ltS,List.cons_lt_cons_iff]
  by_cases h:a=b
  ·subst h;simp[ih]
  ·simp[h]
theorem znR(h1:ltS x y=false)(h2:ltS y x=false):x=y:=by rw[zhT,decide_eq_false_iff_not] at h1 h2;exact List.le_antisymm (List.not_lt.mp h2) (List.not_lt.mp h1)
mutual
theorem zjI:∀x y:D,D.lt x y=some false->D.lt y x=some false->x=y
 |.int a,y,h1,h2=>by
  cases y<;>simp[D.lt] at h1 h2
  rw[Int.le_antisymm h2 h1]
 |.str a,y,h1,h2=>by
  cases y<;>simp[D.lt] at h1 h2
  rw[znR h1 h2]
 |.tup a,y,h1,h2=>by
  cases y<;>simp[D.lt] at h1 h2
  rw[lts_tot a _ h1 h2]
 |.non,_,h1,_=>by simp[D.lt] at h1|.bl _,_,h1,_=>by simp[D.lt] at h1|.lst _,_,h1,_=>by simp[D.lt] at h1
theorem lts_tot:∀x y:List D,D.lts x y=some false->D.lts y x=some false->x=y
 | [],[],_,_=>rfl| [],_::_,h1,_=>by simp[D.lts] at h1|_::_,[],_,h2=>by simp[D.lts] at h2
 | a::r,b::t,h1,h2=>by
  simp only[D.lts] at h1 h2
  by_cases h:a=b
  ·subst h
   rw[if_pos (D.same_refl a)] at h1 h2;rw[lts_tot r t h1 h2]
  ·rw [if_neg (by rw[zb5 h];exact Zc)] at h1
   rw[if_neg (by rw[zb5 (Za h)];exact Zc)] at h2
   exact absurd (zjI a b h1 h2) h
end
section
variable {prog:ZB}{w:World}{E:Value->Shared->Prop}
theorem kLt:∀(n:Nat) (x y:D) (c:Bool) (A:Around) (s:Shared) (u v:Value) (Q:Value->Shared->Prop),x.dep<=n->KAt s.heap x u->KAt s.heap y v->D.lt x y=some c->A.units+n<cLine->Q (.bool c) s->wpAny (model prog w) A (richCompare .Lt u v) Q E s
 | n,.int a,y,c,A,s,u,v,Q,hn,p,q,e,hu,k=>by
  simp only[KAt] at p;obtain⟨t,rfl⟩:=p
  cases y with|int b=>simp only[KAt] at q;obtain⟨t',rfl⟩:=q;simp only[D.lt,Z3] at e;subst e;exact P.lt_int k|_=>simp[D.lt] at e
 | n,.str a,y,c,A,s,u,v,Q,hn,p,q,e,hu,k=>by
  simp only[KAt] at p;obtain⟨t,rfl⟩:=p
  cases y with|str b=>simp only[KAt] at q;obtain⟨t',rfl⟩:=q;simp only[D.lt,Z3,zhT] at e;subst e;exact P.lt_str k|_=>simp[D.lt] at e
 |0,.tup a,y,c,A,s,u,v,Q,hn,p,q,e,hu,k=>by simp only[D.dep] at hn;omega
 | n + 1,.tup a,y,c,A,s,u,v,Q,hn,p,q,e,hu,k=>by
  simp only[KAt] at p;obtain⟨l,its,rfl,t,r⟩:=p
  cases y with
  | tup b=>
   simp only[KAt] at q;obtain⟨l',its',rfl,t',r'⟩:=q;simp only[D.lt] at e;have T:=zaO t;have T':=zaO t';obtain⟨o,ho,_,m,hd⟩:=t;obtain⟨o',ho',_,m',hd'⟩:=t'
   have hdep:D.deps a<=n:=by simp only[D.dep] at hn;omega
   refine wpAny_richCompare_same_room T T' F.slot_tuple_lt (Yj F.slot_tuple_lt T F.entry_tuple_lt ?_ (F.args_tuple_lt_2 _ _)) (by omega);show wpAny _ A.in1 (UT (.ref l') (.type "tuple") >>= _) _ _ _;refine Z9 (Xp T' isSubtype_tuple_tuple ?_);simp only[YW,Z1,if_false];refine Z9 (VL ho hd (Z9 (VL ho' hd' (Z9 ?_))));refine Xq _ (λrest r s1=>r.1=none/\s1=s/\∃xs ys us vs,rest=List.zip us vs/\KAts s.heap xs us/\KAts s.heap ys vs/\D.deps xs<=n/\D.lts xs ys=some c/\decide (us.length<vs.length)=decide (its.size<its'.size)) _ ?_ ?_ _ _ ⟨rfl,rfl,a,b,_,_,rfl,r,r',hdep,e,by simp⟩
   ·rintro ⟨p,q⟩ rest r s1 ⟨hr,rfl,xs,ys,us,vs,hz,r1,r2,hd1,e1,hl⟩
    cases xs with
    |nil=>simp only[KAts] at r1;subst r1;cases hz
    | cons x xs=>
     cases ys with
     |nil=>simp only[KAts] at r2;subst r2;rw[List.zip_nil_right] at hz;cases hz
     | cons y ys=>
      simp only[KAts] at r1 r2;obtain⟨u1,us1,rfl,k1,k2⟩:=r1;obtain⟨v1,vs1,rfl,k3,k4⟩:=r2;simp only[Wz,UE,ZO] at hz;obtain⟨⟨rfl,rfl⟩,rfl⟩:=hz;simp only[D.deps] at hd1;simp only[D.lts] at e1
      refine Z9 (kEq n x y A.in1 _ _ (by omega) k1 k3 (by show A.units+1+n<cLine;omega) prog w _ _ ?_)
      cases hs:x.same y with
      |true=>rw[hs] at e1;simp only[YW,Z1,if_false];exact Z6 ⟨rfl,rfl,xs,ys,us1,vs1,rfl,k2,k4,by omega,by simpa using e1,by simpa using hl⟩
      |false=>
       rw[hs] at e1;simp only[Vz,if_true]
       refine Z9 (Xg (Z9 (kLt n x y c A.in1 _ _ _ _ (by omega) k1 k3 (by simpa using e1) (by show A.units+1+n<cLine;omega) ?_)))
       exact Z9 (Z6 (Z6 (Z6 ⟨_,rfl,(λx=>nomatch x),k⟩)))
   ·rintro ⟨r1,r2⟩ s1 ⟨hr,rfl,xs,ys,us,vs,hz,k1,k2,hd1,e1,hl⟩
    simp only at hr;subst hr
    have ec:decide (its.size<its'.size)=c:=by
     rw[<-hl];have l1:=k1.length;have l2:=k2.length;have l3:=congrArg Ww hz;simp only[List.length_zip,YH] at l3
     cases xs with
     | nil=>
      cases ys with
      |nil=>
       simp only[D.lts,Z3] at e1;simp only[YH] at l1 l2
       subst e1;exact decide_eq_false (by omega)
      |cons y ys=>
       simp only[D.lts,Z3] at e1;simp only[YH,ZP] at l1 l2
       subst e1;exact decide_eq_true (by omega)
     | cons x xs=>
      cases ys with
      |nil=>
       simp only[D.lts,Z3] at e1;simp only[YH,ZP] at l1 l2
       subst e1;exact decide_eq_false (by omega)
      |cons y ys=>simp only[ZP] at l1 l2;omega
    refine Z6 ⟨_,rfl,(λx=>nomatch x),?_⟩;rw[<-ec] at k;exact k
  |_=>simp[D.lt] at e
 |_,.non,_,_,_,_,_,_,_,_,p,_,_,_,_=>by simp only[KAt] at p|_,.bl _,_,_,_,_,_,_,_,_,p,_,_,_,_=>by simp only[KAt] at p|_,.lst _,_,_,_,_,_,_,_,_,p,_,_,_,_=>by simp only[KAt] at p
theorem zpR{b fin c:Bool}(hu:A.units+n<cLine):∀(xs ys:List D) (us vs:List Value) (i:Nat),KAts s.heap xs us->KAts s.heap ys vs->D.deps xs<=n->D.lts xs ys=some c->fin=decide (us.length<vs.length) →
  (b=true->i=0->∀x r,xs=x::r->∃z,x=.str z)->Q c s->KatLex prog w A b fin Q (us.zip vs) i s
 | [],[],us,vs,i,r1,r2,hd,e,hf,hb,k=>by simp only[KAts] at r1 r2;subst r1 r2;simp only[D.lts,Z3] at e;subst e;subst hf;exact kat_nil (by simpa using k)| [],y::ys,us,vs,i,r1,r2,hd,e,hf,hb,k=>by simp only[KAts] at r1 r2;obtain⟨_,_,rfl,_,_⟩:=r2;subst r1;simp only[D.lts,Z3] at e;subst e;subst hf;exact kat_nil (by simpa using k)|x::xs,[],us,vs,i,r1,r2,hd,e,hf,hb,k=>by simp only[KAts] at r1 r2;obtain⟨_,_,rfl,_,_⟩:=r1;subst r2;simp only[D.lts,Z3] at e;subst e;subst hf;rw[List.zip_nil_right];exact kat_nil (by simpa using k)
 | x :: xs,y::ys,us,vs,i,r1,r2,hd,e,hf,hb,k=>by
  simp only[KAts] at r1 r2;obtain⟨u,us,rfl,k1,k2⟩:=r1;obtain⟨v,vs,rfl,k3,k4⟩:=r2;simp only[D.deps] at hd;simp only[D.lts] at e;rw[Wz];refine kat_cons (kEq n x y A _ _ (by omega) k1 k3 hu prog w _ _ ?_)
  cases hs:x.same y with
  |true=>rw[hs] at e;exact kat_yes (zpR hu xs ys us vs (i+1) k2 k4 (by omega) (by simpa using e) (by simpa using hf) (λ_ h=>by omega) k)
  | false=>
   rw[hs] at e
   replace e:D.lt x y=some c:=by simpa using e
   refine kat_no ?_
   by_cases hbi:b=true/\i=0
   ·obtain ⟨rfl,rfl⟩:=hbi
    obtain⟨z,rfl⟩:=hb rfl rfl x xs rfl
    cases y with|str z'=>simp only[KAt] at k1 k3;obtain⟨t,rfl⟩:=k1;obtain⟨t',rfl⟩:=k3;simp only[D.lt,Z3,zhT] at e;subst e;exact oneLt_str k|_=>simp[D.lt] at e
   ·have e0:(b&&i==0)=false:=by
     cases b with
     |false=>rfl
     |true=>simp only[XR,beq_eq_false_iff_ne];exact λh=>hbi ⟨rfl,h⟩
    rw[e0];exact kat_one _ _ (kLt n x y c A _ _ _ _ (by omega) k1 k3 e hu k)
end
def runK{α:Type}(f:Nat->Nat->Bool):KasT α->α|.ret a=>a|.ask i j k=>runK f (k (f i j))
def inK{α:Type}(n:Nat)(f:Nat->Nat->Bool):KasT α->Bool|.ret _=>true|.ask i j k=>decide (i<n)&&decide (j<n)&&inK n f (k (f i j))
theorem zm5{α:Type}{n:Nat}{cmp:Nat->Nat->(Bool->Shared->Prop)->Shared->Prop}{f:Nat->Nat->Bool}{s:Shared}{Q:α->Shared->Prop}(h:∀i j,i<n->j<n->∀C:Bool->Shared->Prop,C (f i j) s->cmp i j C s):∀t:KasT α,inK n f t=true->Q (runK f t) s->t.kasWp cmp Q s|.ret a,_,q=>q|.ask i j k,g,q=>by simp only[inK,Z8,decide_eq_true_eq] at g;exact h i j g.1.1 g.1.2 _ (zm5 h (k (f i j)) g.2 q)
def insN(f:Nat->Nat->Bool)(x:Nat):List Nat->List Nat| []=>[x]|y::r=>if f y x then y::insN f x r else x::y::r
def zcV(f:Nat->Nat->Bool):List Nat->List Nat| []=>[]|x::r=>insN f x (zcV f r)
theorem zif(h:∀i j,f i j=ltT (g i) (g j))(x:Nat):∀l,insD (g x) (l.map g)=(insN f x l).map g
 | []=>rfl
 |y::r=>by
  simp only[Zz,insD,insN,h]
  split
  ·rw[Zz,zif h x r]
  ·rfl
theorem zeE(h:∀i j,f i j=ltT (g i) (g j)):∀l,zd8 (l.map g)=(zcV f l).map g| []=>rfl|x::r=>by simp only[Zz,zd8,zcV,zeE h r,zif h]
def fR(rs:List Nat)(i j:Nat):Bool:=decide (i<rs.length)&&decide (j<rs.length)&&decide (rs.getD i 0<rs.getD j 0)
def ziJ(n:Nat)(rs:List Nat):Bool:=inK n (fR rs) (kas_sort n)&&((runK (fR rs) (kas_sort n)).toList==zcV (fR rs) (ZA n))
theorem zru:∀a b:Fin 5,a≠b->ziJ 2 [a,b]=true:=by decide +kernel
theorem zrF:∀a b c:Fin 5,a≠b->a≠c->b≠c->ziJ 3 [a,b,c]=true:=by decide +kernel
set_option synthInstance.maxSize 4000 in
theorem zr3:∀a b c d:Fin 5,a≠b->a≠c->a≠d->b≠c->b≠d->c≠d->ziJ 4 [a,b,c,d]=true:=by decide +kernel
set_option synthInstance.maxSize 8000 in
set_option synthInstance.maxHeartbeats 400000 in
theorem zrt:∀a b c d e:Fin 5,a≠b->a≠c->a≠d->a≠e->b≠c->b≠d->b≠e->c≠d->c≠e->d≠e->ziJ 5 [a,b,c,d,e]=true:=by decide +kernel
theorem zij:∀{l:List Nat},i∈insN f x l->i=x\/i∈l
 | [],h=>by simp only[insN,Yx] at h;exact .inl h
 | y::r,h=>by
  simp only[insN] at h
  split at h
  ·rcases ZJ.mp h with e | h
   ·exact .inr (e▸ZK)
   ·exact(zij h).imp id (ZU _)
  ·exact ZJ.mp h
theorem zej:∀{l:List Nat},i∈zcV f l->i∈l
 | [],h=>h
 |x::r,h=>by
  rcases zij h with e | h
  ·exact e▸ZK
  ·exact ZU _ (zej h)
theorem zhZ:∀l:List Nat,(insN f x l).length=l.length+1
 | []=>rfl
 |y::r=>by
  simp only[insN]
  split
  ·rw[ZP,zhZ r,ZP]
  ·rfl
theorem zem:∀l:List Nat,(zcV f l).length=l.length| []=>rfl|x::r=>by rw[zcV,zhZ,zem r,ZP]
theorem znt(x:D):ltT x .non=false:=by cases x<;>simp[ltT,D.lt]
theorem zic{xs:List D}(h:¬i<xs.length):xs.getD i .non=.non:=by simp[Xk h]
theorem zbA{xs:List D}(h:i<xs.length):xs.getD i .non=xs[i]:=by simp[h]
structure Srt(xs ys:List D)(p:List Nat):Prop where
 len:xs.length<=5
 key:∀x∈xs,zaG x=true
 fst:(∀x∈xs,fstK x=1)\/∀x∈xs,fstK x=2
 lt:∀i j,i<xs.length->j<xs.length->D.lt (xs.getD i .non) (xs.getD j .non)=some (fR (xs.map (rnk xs)) i j)
 mem:∀i∈p,i<xs.length
 plen:p.length=xs.length
 out:ys=p.map λi=>xs.getD i .non
 few:xs.length<2->p=ZA xs.length
 run:2<=xs.length->inK xs.length (fR (xs.map (rnk xs))) (kas_sort xs.length)=true/\(runK (fR (xs.map (rnk xs))) (kas_sort xs.length)).toList=p
theorem zil:∀{xs:List D},apart xs=true->∀i j (hi:i<j) (hj:j<xs.length),xs[i]'(by omega)≠xs[j]
 | [],_,i,j,_,hj=>by simp at hj
 | x::r,h,i,j,hi,hj=>by
  simp only[apart,Z8,ZQ] at h
  match i,j,hi,hj with
  |0,j+1,_,hj=>
   simp only[ZP] at hj
   have:=h.1 (r[j]'(by omega)) (Zn ..)
   intro e;simp only[List.getElem_cons_zero,Wm] at e;rw[<-e,D.same_refl] at this;cases this
  |i+1,j+1,hi,hj=>
   simp only[ZP] at hj
   simpa using zil h.2 i j (by omega) (by omega)
theorem zmD{xs ys:List D}(h:zhi xs=some ys):∃p,Srt xs ys p:=by
 unfold zhi at h
 split at h
 ·rename_i hc
  simp only[Z8,Zh,ZQ,decide_eq_true_eq,beq_iff_eq] at hc;obtain⟨⟨⟨⟨h4,hk⟩,ha⟩,hr⟩,hf⟩:=hc;simp only[Z3] at h;unfold rkOk at hr;simp only[ZQ,Z8,beq_iff_eq] at hr
  have hlt:∀i j (hi:i<xs.length) (hj:j<xs.length),D.lt xs[i] xs[j]=some (decide (rnk xs xs[i]<rnk xs xs[j])):=by intro i j hi hj;obtain⟨h1,h2⟩:=hr xs[i] (Zn ..) xs[j] (Zn ..);obtain⟨t,et⟩:=Yb.mp h1;rw[et,<-h2];simp only[ltT,et]
  have hf2:∀i j (hi:i<xs.length) (hj:j<xs.length),fR (xs.map (rnk xs)) i j=decide (rnk xs xs[i]<rnk xs xs[j]):=by intro i j hi hj;simp[fR,hi,hj]
  have feq:∀i j,fR (xs.map (rnk xs)) i j=ltT (xs.getD i .non) (xs.getD j .non):=by
   intro i j
   by_cases hi:i<xs.length
   ·by_cases hj:j<xs.length
    ·rw[hf2 i j hi hj,zbA hi,zbA hj,ltT,hlt i j hi hj]
    ·rw [zic hj,znt]
     simp[fR,hj]
   ·rw [zic hi]
    simp[fR,hi,ltT,D.lt]
  have ne:∀i j (hi:i<j) (hj:j<xs.length),rnk xs (xs[i]'(by omega))≠rnk xs xs[j]:=by intro i j hi hj e;have e1:=hlt i j (by omega) hj;have e2:=hlt j i hj (by omega);rw[e,decide_eq_false (YO _)] at e1 e2;exact zil ha i j hi hj (zjI _ _ e1 e2)
  have le:∀i (hi:i<xs.length),rnk xs xs[i]<5:=by
   intro i hi
   have h0:ltT xs[i] xs[i]=false:=by rw[ltT,hlt i i hi hi];exact decide_eq_false (YO _)
   have:rnk xs xs[i]<xs.length:=Nat.lt_of_le_of_ne List.countP_le_length λz=>by
    have:=List.countP_eq_length.mp z xs[i] (Zn ..)
    rw[h0] at this;cases this
   omega
  have ex:xs=(ZA xs.length).map λi=>xs.getD i .non:=by refine List.ext_getElem (by simp) λi h1 h2=>?_;simp[h1]
  refine⟨zcV (fR (xs.map (rnk xs))) (ZA xs.length),h4,hk,hf,λi j hi hj=>?_,λi hi=>YM.mp (zej hi),by rw[zem,Wh],?_,λh2=>?_,λh2=>?_⟩
  ·rw[zbA hi,zbA hj,hlt i j hi hj,hf2 i j hi hj]
  ·rw [<-h]
   conv=>lhs;rw[ex]
   exact zeE feq _
  ·match xs,h2 with| [],_=>rfl| [x],_=>rfl
  ·have g:ziJ xs.length (xs.map (rnk xs))=true:=by
    match xs,h2,h4,ne,le with
    | [x,y],_,_,ne,le=>exact zru ⟨_,le 0 (by simp)⟩ ⟨_,le 1 (by simp)⟩ λe=>ne 0 1 (by omega) (by simp) (congrArg XU e)
    | [x,y,z],_,_,ne,le=>exact zrF ⟨_,le 0 (by simp)⟩ ⟨_,le 1 (by simp)⟩ ⟨_,le 2 (by simp)⟩ (λe=>ne 0 1 (by omega) (by simp) (congrArg XU e)) (λe=>ne 0 2 (by omega) (by simp) (congrArg XU e)) (λe=>ne 1 2 (by omega) (by simp) (congrArg XU e))| [x,y,z,t],_,_,ne,le=>exact zr3 ⟨_,le 0 (by simp)⟩ ⟨_,le 1 (by simp)⟩ ⟨_,le 2 (by simp)⟩ ⟨_,le 3 (by simp)⟩ (λe=>ne 0 1 (by omega) (by simp) (congrArg XU e)) (λe=>ne 0 2 (by omega) (by simp) (congrArg XU e)) (λe=>ne 0 3 (by omega) (by simp) (congrArg XU e)) (λe=>ne 1 2 (by omega) (by simp) (congrArg XU e)) (λe=>ne 1 3 (by omega) (by simp) (congrArg XU e)) (λe=>ne 2 3 (by omega) (by simp) (congrArg XU e))| [_],h2,_,_,_=>simp at h2| [],h2,_,_,_=>simp at h2| [x,y,z,t,u],_,_,ne,le=>exact zrt ⟨_,le 0 (by simp)⟩ ⟨_,le 1 (by simp)⟩ ⟨_,le 2 (by simp)⟩ ⟨_,le 3 (by simp)⟩ ⟨_,le 4 (by simp)⟩ (λe=>ne 0 1 (by omega) (by simp) (congrArg XU e)) (λe=>ne 0 2 (by omega) (by simp) (congrArg XU e)) (λe=>ne 0 3 (by omega) (by simp) (congrArg XU e)) (λe=>ne 0 4 (by omega) (by simp) (congrArg XU e)) (λe=>ne 1 2 (by omega) (by simp) (congrArg XU e)) (λe=>ne 1 3 (by omega) (by simp) (congrArg XU e)) (λe=>ne 1 4 (by omega) (by simp) (congrArg XU e)) (λe=>ne 2 3 (by omega) (by simp) (congrArg XU e)) (λe=>ne 2 4 (by omega) (by simp) (congrArg XU e)) (λe=>ne 3 4 (by omega) (by simp) (congrArg XU e))|_::_::_::_::_::_::_,_,h4,_,_=>simp at h4
   simp only[ziJ,Z8,beq_iff_eq] at g;exact g
 ·cases h
section
variable {prog:ZB}{w:World}{A:Around}{E:Value->Shared->Prop}{s:Shared}{a:Addr}{vs:List Value}{xs ys:List D}
theorem KAts.getD{h:Heap}(k:KAts h xs vs)(hi:i<xs.length):KAt h (xs.getD i .non) (vs.getD i .none):=by
 obtain⟨v,e,q⟩:=k.at i _ (Z4 hi);rw[zbA hi]
 have:vs.getD i .none=v:=by rw[Zy,e];rfl
 rw[this];exact q
theorem zfk(hn:n=1\/n=2):∀(xs:List D) (vs:List Value),KAts h xs vs->(∀x∈xs,fstK x=n)->∃fs,KatTups h vs fs/\fs.length=xs.length/\∀v∈fs,if n=1 then ∃z t,v=.str z t else ∃b its,v=.ref b/\h.IsTuple b its
 | [],vs,k,_=>by simp only[KAts] at k;subst k;exact⟨[],KatTups.nil,rfl,λv hv=>nomatch hv⟩
 | x :: xs,vs,k,hx=>by
  simp only[KAts] at k;obtain⟨v,vs,rfl,k1,k2⟩:=k;obtain⟨fs,t,l,hf⟩:=zfk hn xs vs k2 λy hy=>hx y (ZU _ hy);have h1:=hx x ZK
  cases x with
  | tup ds=>
   simp only[KAt] at k1;obtain⟨b,its,rfl,⟨o,ho,hc,m,hd⟩,r⟩:=k1
   cases ds with
   |nil=>simp[fstK] at h1;omega
   | cons d ds=>
    simp only[KAts] at r;obtain⟨u,us,e,r1,r2⟩:=r
    refine⟨u::fs,KatTups.cons ho hc hd (by rw[<-Zl,e];rfl) t,by simp[l],λv hv=>?_⟩
    rcases ZJ.mp hv with rfl | hv
    ·cases d with|str z=>simp[fstK] at h1;rw[if_pos h1.symm];simp only[KAt] at r1;exact⟨_,r1⟩|tup z=>simp[fstK] at h1;rw[if_neg (by omega)];simp only[KAt] at r1;obtain⟨b,its,e,t,_⟩:=r1;exact⟨b,its,e,t⟩|_=>simp[fstK] at h1;omega
    ·exact hf v hv
  |_=>simp[fstK] at h1;omega
theorem zjh{Q:SortKind->Shared->Prop}(k:KAts s.heap xs vs)(h2:2<=xs.length)(hf:(∀x∈xs,fstK x=1)\/∀x∈xs,fstK x=2)(q1:(∀x∈xs,fstK x=1)->Q (tuples' true) s)(q2:Q (tuples' false) s):wpAny (model prog w) A (keyKind' vs.toArray) Q E s:=by
 rcases hf with hf | hf
 ·obtain ⟨fs,t,l,hv⟩:=zfk (.inl rfl) xs vs k hf
  exact kat_kind (T:=.type "str") t (by omega) (λv hm=>by obtain⟨z,t,rfl⟩:=hv v hm;exact .now) (by decide) (q1 hf)
 ·obtain ⟨fs,t,l,hv⟩:=zfk (.inr rfl) xs vs k hf
  exact kat_kind (T:=.type "tuple") t (by omega) (λv hm=>by
   obtain⟨b,its,rfl,o,ho,hc,_⟩:=hv v hm;rw[<-hc]
   exact(Looks.ld ho).andThen .now) (by decide) q2
theorem zo3{Q:Bool->Shared->Prop}(hu:A.units+8<cLine)(k1:KAt s.heap x u)(k2:KAt s.heap y v)(hx:zaG x=true)(hy:zaG y=true)(hb:b=true->fstK x=1)(e:D.lt x y=some c)(q:Q c s):wpAny (model prog w) A (keyLt' (tuples' b) u v) Q E s:=by
 cases x with
 | tup xs=>
  cases y with
  |tup ys=>
   simp only[KAt] at k1 k2;obtain⟨p,i1,rfl,⟨o1,g1,_,n1,d1⟩,r1⟩:=k1;obtain⟨p2,i2,rfl,⟨o2,g2,_,n2,d2⟩,r2⟩:=k2;simp only[zaG,Z8,decide_eq_true_eq] at hx;refine kat_lt g1 d1 g2 d2 (zpR (n:=8) hu xs ys _ _ 0 r1 r2 (by omega) (by simpa[D.lt] using e) (by simp) (λhb' _ z r ez=>?_) q)
   have:=hb hb'
   subst ez
   cases z with|str z=>exact⟨z,rfl⟩|_=>simp[fstK] at this
  |_=>cases hy
 |_=>cases hx
theorem zea{n0:Nat}(ho:s.heap.get? a=some (seqObj "list" vs.toArray n0))(hk:KAts s.heap xs vs)(S:Srt xs ys p)(hu:A.units+8<cLine)
  (q:∀h' c,(∀b o,b≠a->s.heap.get? b=some o->h'.get? b=some o)->h'.get? a=some (seqObj "list" (WV (p.map λi=>vs.getD i .none)) c)->P (.done (.ret .none)) {s with heap:=h'}):
  wpAny (model prog w) A (Zb.«list.sort» ⟨[.ref a],[]⟩) P E s:=by
 have hl:=hk.length;have h4:=S.len;have ha:a<s.heap.objs.size:=ZW ho;obtain⟨e1,ho1⟩:∃e1,(s.heap.update a (YY λ_=>(#[]:Array Value))).get? a=some (seqObj "list" #[] e1):=⟨_,get?_update_seq ho λ_=>#[]⟩
 have kp:∀b o,b≠a->s.heap.get? b=some o->(((s.heap.update a (YY λ_=>(#[]:Array Value))).push (seqObj "tuple" vs.toArray 0)).push (seqObj "list" #[] 0)).get? b=some o:=λb o hb e=>Z5 _ (Z5 _ ((Zo _ _ (Za hb)).trans e))
 have ho3:(((s.heap.update a (YY λ_=>(#[]:Array Value))).push (seqObj "tuple" vs.toArray 0)).push (seqObj "list" #[] 0)).get? a=some (seqObj "list" #[] e1):=Z5 _ (Z5 _ ho1);rw[list_sort_plain];refine Z9 (listItems_at ho rfl ?_)
 refine Z9 (listUpdate_at ho rfl ?_ (by rw[ZV,Zg];omega) (Y3 _))
 refine Z9 (seqEpoch_at ho1 rfl ?_)
 refine Z9 (wpAny_newTuple ?_ (by show vs.length<=_;rw[Zg];omega))
 refine Z9 (wpAny_newList ?_ (Y3 _));refine Y6 ?_;show wpAny (model prog w) A _ P E {s with heap:=((s.heap.update a (YY λ_=>(#[]:Array Value))).push (seqObj "tuple" vs.toArray 0)).push (seqObj "list" #[] 0)};generalize ((s.heap.update a (YY λ_=>(#[]:Array Value))).push (seqObj "tuple" vs.toArray 0)).push (seqObj "list" #[] 0)=h3 at kp ho3⊢
 have hk3:KAts h3 xs vs:=KAts.keep (λb its t=>by
  obtain⟨o,e,c,n,d⟩:=t;refine⟨o,kp b o (λz=>?_) e,c,n,d⟩;subst z
  rw[ho] at e;cases e
  injection c with c'
  exact absurd c' (by decide)) xs vs hk
 have fin:∀st':SortSt,(arrOf st').map (·.2)=WV (p.map λi=>vs.getD i .none)->Um st'=none->wpAny (model prog w) A (do
   let touched:=(<-seqEpoch a) != e1
   Zb.List.listUpdate (.ref a) λ_=>(arrOf st').map (·.2)
   if let some e:=Um st' then rule "list.sort.comparison-raised";throw e
   if touched then rule "list.sort.modified";raiseError "ValueError" "list modified during sort"
   ret .none) P E {s with heap:=h3}:=by
  intro st' hout hf
  have hz:p.length<=5:=by rw[S.plen];exact h4
  rw[hout];refine Z9 (seqEpoch_at ho3 rfl ?_)
  refine Z9 (listUpdate_at ho3 rfl ?_ (Y3 _) (by show(WV (p.map λi=>vs.getD i X3)).size<=sizeLine+1;rw[ZV,ZR,Zg];omega))
  rw[hf];simp only[bne_self_eq_false,Z1,if_false];refine Z6 (q _ _ (λb o hb e=>(Zo _ _ (Za hb)).trans (kp b o hb e)) (get?_update_seq ho3 λ_=>WV (p.map λi=>vs.getD i .none)))
 dsimp only
 by_cases h2:xs.length<2
 ·have hn2:vs.toArray.size<2:=by rw[ZV];omega
  rw[if_pos hn2,if_pos hn2];refine Z9 (Z6 ?_);rw[StateT.run_pure];refine Z9 (Z6 (fin _ ?_ rfl));show(vs.toArray.zip vs.toArray).map (·.2)=_;rw[S.few h2]
  match xs,vs,hl,h2 with| [],[],_,_=>simp| [x],[v],_,_=>simp| [],_::_,hl,_=>simp at hl| [x],[],hl,_=>simp at hl| [x],_::_::_,hl,_=>simp at hl
 ·have hn2:¬vs.toArray.size<2:=by rw[ZV];omega
  rw[if_neg hn2,if_neg hn2];obtain⟨hin,hrun⟩:=S.run (by omega)
  have go:∀b,(b=true->∀x∈xs,fstK x=1)->wpAny (model prog w) A ((sortRuns').run (SortSt.mk' (tuples' b) (vs.toArray.zip vs.toArray) #[] 7 none)) (λr s'=>s'={s with heap:=h3}/\(arrOf r.2).map (·.2)=WV (p.map λi=>vs.getD i .none)/\Um r.2=none) E {s with heap:=h3}:=by
   intro b hb;refine kat_run (Q:=λst' s'=>s'={s with heap:=h3}/\(arrOf st').map (·.2)=WV (p.map λi=>vs.getD i .none)/\Um st'=none) (G:=λr s'=>s'={s with heap:=h3}/\r.toList=p) rfl (by omega) (by omega) (λr st' s' g1 g2 g3 g4=>⟨g4.1,by rw[kat_snds rfl g2,g4.2],g3⟩) ?_;rw[<-hl];refine zm5 (n:=xs.length) (f:=fR (xs.map (rnk xs))) (λi j hi hj C hC=>?_) _ hin ⟨rfl,hrun⟩;refine zo3 hu (hk3.getD hi) (hk3.getD hj) (S.key _ ?_) (S.key _ ?_) (λhb'=>hb hb' _ ?_) (S.lt i j hi hj) hC
   all_goals(first | (rw[zbA hi];exact Zn ..) | (rw[zbA hj];exact Zn ..))
  have rest:∀b,(b=true->∀x∈xs,fstK x=1)->wpAny (model prog w) A (do
    let ((),s)<-(sortRuns').run (SortSt.mk' (tuples' b) (vs.toArray.zip vs.toArray) #[] 7 none)
    let sorted:=(arrOf s).map (·.2)
    let touched:=(<-seqEpoch a) != e1
    Zb.List.listUpdate (.ref a) λ_=>sorted
    if let some e:=Um s then rule "list.sort.comparison-raised";throw e
    if touched then rule "list.sort.modified";raiseError "ValueError" "list modified during sort"
    ret .none) P E {s with heap:=h3}:=by
   intro b hb;refine Z9 (ZC (go b hb) ?_ λ_ _ x=>x)
   rintro⟨⟨⟩,st'⟩ s' ⟨rfl,hout,hf⟩
   exact fin st' hout hf
  refine Z9 (zjh (s:={s with heap:=h3}) hk3 (by omega) S.fst (λh=>rest true λ_=>h) (rest false (by intro z;cases z)))
end
end IT
namespace IT
open PySem
section
variable {prog:ZB}{w:World}{A:Around}{E:Value->Shared->Prop}{s:Shared}{it d:Addr}{od:Obj}{es:Array DictEntry}{ep i:Nat}
end
end IT
namespace IT
open PySem
section
variable {prog:ZB}{w:World}{A:Around}{E:Value->Shared->Prop}{s:Shared}
end
end IT
namespace IT
open PySem PyProof.Rows
section
variable {prog:ZB}{w:World}{A:Around}{E:Value->Shared->Prop}{s:Shared}{it d:Addr}{od:Obj}{es:Array DictEntry}{ep i:Nat}
end
end IT
namespace IT
open PySem PyProof.Rows
section
variable {prog:ZB}{w:World}{A:Around}{E:Value->Shared->Prop}{s:Shared}{I v:Addr}{rs:List (D×Addr)}{es:Array (Int×Value)}{ep:Nat}{t:Zt}{P:List Nat}
theorem zk9(l:List (Int×Value)):((ZA l.length).map λj=>l.getD j (0,.none))=l:=by refine List.ext_getElem (by simp) λi h1 h2=>?_;simp[h2]
theorem zoT{Q:Value->Shared->Prop}(S:SetW w s.heap v rs es ep t P)
  (q:∀h' d fs vs,h'.get? (h'.objs.size-1)=some (sitO (fs 0) 0 v es.size ep)->(∀b o,s.heap.get? b=some o->h'.get? b=some o)->s.heap.objs.size<=h'.objs.size-1->Mode w v es ep t P fs vs h'->vs.Perm es.toList->Q (.ref (h'.objs.size-1)) {s with heap:=h',drawn:=d}):wpAny (model prog w) A (pyIter (.ref v)) Q E s:=by
 have hT:s.TypeIs (.ref v) "set":=⟨_,S.get,rfl⟩;have hz:=S.size;have h4:=S.le5;refine wpAny_pyIter_slot hT F.slot_set_iter (Yj F.slot_set_iter hT zfs ?_ (F.args_set_iter_1 _));show wpAny _ _ (Zb.Frozenset.sizeOf v >>= _) _ _ _;unfold Zb.Frozenset.sizeOf;refine Z9 (Z9 (VS S.get rfl S.fits (Z6 ?_)));unfold setDrawn;refine Z9 (Z9 (Zj S.get rfl S.fits ?_));dsimp only;refine Z9 (za9 (Z6 ?_))
 have fin:∀(h1:Heap) (d:Drawn) (f:Value),(∀b o,s.heap.get? b=some o->h1.get? b=some o)->s.heap.objs.size<=h1.objs.size->(∀fs vs,fs 0=f->(∀h2,(∀b o,h1.get? b=some o->h2.get? b=some o)->Mode w v es ep t P fs vs h2)->vs.Perm es.toList->True) →
   (∃fs vs,fs 0=f/\(∀h2,(∀b o,h1.get? b=some o->h2.get? b=some o)->Mode w v es ep t P fs vs h2)/\vs.Perm es.toList) →
   wpAny (model prog w) A.in1 (do ret (<-newFields "set_iterator" [f,rawInt 0,.ref v,rawInt es.size,rawInt (<-setEpoch v)])) (λfl s'=>∃a,fl=.done (.ret a)/\∃T r,s'.TypeIs a T/\typeLookup (.type T) (YG "__next__")=pure (some r)/\Q a s') E {s with heap:=h1,drawn:=d}:=by
  intro h1 d f k1 sz1 _ ⟨fs,vs,e0,hm,hp⟩;refine Z9 (wpAny_setEpoch_of (s:={s with heap:=h1,drawn:=d}) (k1 _ _ S.get) rfl S.fits ?_);refine Z9 (Yq (Z6 ⟨_,rfl,"set_iterator",_,⟨_,ZH _ rfl,rfl⟩,zaM.lookup,?_⟩) (by size_fits))
  have e1:(h1.push (sitO f 0 v es.size ep)).objs.size-1=h1.objs.size:=by rw[Xo];rfl
  have:=q (h1.push (sitO f 0 v es.size ep)) d fs vs (by rw[e1,e0];exact ZH _ rfl) (λb o e=>Z5 _ (k1 b o e)) (by rw[e1];exact sz1) (hm _ λb o e=>Z5 _ e) hp
  rw[e1] at this;exact this
 by_cases hb:byTx w=true
 ·have e0:(!byTx w&&(!t.plain&&decide (es.size>1)))=false:=by rw[hb];rfl
  show wpAny _ _ (if(!byTx w&&(!t.plain&&decide (es.size>1)))=true then _ else _) _ _ _;rw[e0];simp only[Z1,if_false];refine Z9 (Z6 ?_)
  exact fin s.heap s.drawn (rawInt 0) (λ_ _ e=>e) (ZZ _) (λ_ _ _ _ _=>trivial) ⟨λ_=>rawInt 0,_,rfl,λh2 _=>.text hb rfl rfl,by have:=zf7 (w.params.setOrder v ep) es.size 0 es.toList #[] (by simp);rw[UI] at this;exact this⟩
 ·have hb':byTx w=false:=by simpa using hb
  by_cases hd:(!t.plain&&decide (es.size>1))=true
  ·have e0:(!byTx w&&(!t.plain&&decide (es.size>1)))=true:=by rw[hb',hd];rfl
   show wpAny _ _ (if(!byTx w&&(!t.plain&&decide (es.size>1)))=true then _ else _) _ _ _;rw[e0];simp only[if_true];refine Z9 (zkt es.size (ZA es.size) s _ (by simp) λys d hp=>?_)
   refine Z9 (wpAny_newTuple ?_ (by rw[ZR,hp.length_eq,Wh,Zg];omega))
   refine fin (s.heap.push {cls:=.type "tuple",data:=.seq (ys.map λi:Nat=>rawInt (i:Int)).toArray 0}) d (.ref s.heap.objs.size) (λb o e=>Z5 _ e) (by rw[Xo];exact Ws _) (λ_ _ _ _ _=>trivial) ⟨λ_=>.ref s.heap.objs.size,ys.map λj=>es.toList.getD j (0,.none),rfl,λh2 k2=>.drawn s.heap.objs.size ys rfl (k2 _ _ (ZH _ rfl)) (by rw[hp.length_eq,Wh]) λi j e=>?_,?_⟩
   ·have hj:j<es.toList.length:=by
     have:=(hp.mem_iff).mp (YU e)
     simpa using this
    refine⟨es.toList[j],by rw[<-Zl];exact Z4 hj,?_⟩
    rw[Zp,e];simp only[WE,Zy,Z4 hj,Option.getD_some]
   ·have:=(hp.map λj=>es.toList.getD j (0,X3))
    rw[<-ZG,zk9] at this;exact this
  ·have e0:(!byTx w&&(!t.plain&&decide (es.size>1)))=false:=by rw[hb'];simpa using hd
   show wpAny _ _ (if(!byTx w&&(!t.plain&&decide (es.size>1)))=true then _ else _) _ _ _;rw[e0];simp only[Z1,if_false];refine Z9 (Z6 ?_);refine fin s.heap s.drawn (rawInt 0) (λ_ _ e=>e) (ZZ _) (λ_ _ _ _ _=>trivial) ⟨λi=>rawInt ((if i=0 then 0 else P.getD (i-1) 0+1:Nat):Int),es.toList,rfl,λh2 _=>.slots hb' ?_ rfl rfl,XL _⟩;simp only[Z8,Zu,decide_eq_true_eq,not_and] at hd
   by_cases hpn:t.plain=true
   ·exact .inl hpn
   ·exact .inr (Xk (hd (by simpa using hpn)))
theorem zn8{R:Result->Shared->Prop}{L:Addr}{res:Value}{fs:Nat->Value}{vs:List (Int×Value)}(hh:A.handled=none)(hLI:L≠I)(hLv:L≠v)(hvI:v≠I)(hl:vs.length=es.size):
  ∀(k i:Nat) (s:Shared) (acc:Array Value) (c:Nat),es.size-i=k->i<=es.size->SetW w s.heap v rs es ep t P->Mode w v es ep t P fs vs s.heap->s.heap.get? I=some (sitO (fs i) i v es.size ep)->s.heap.get? L=some {cls:=.type "list",dict:=none,data:=.seq acc c,slots:=#[]}->acc.toList=(vs.take i).map (·.2) →
  (∀h' acc' c',(∀b o,b≠L->b≠I->s.heap.get? b=some o->h'.get? b=some o)->h'.get? L=some {cls:=.type "list",dict:=none,data:=.seq acc' c',slots:=#[]}->acc'.toList=vs.map (·.2)->R (.ok (.ret res)) {s with heap:=h'}) →
  Xs (model prog w) A (.builtin "list.extend.loop" ⟨[.ref L,.ref I,res],[]⟩) R s:=by
 intro k
 induction k with
 |zero=>
  intro i s acc c hk hi S m hit hL hacc hR
  have hin:i=es.size:=by omega
  subst hin;refine YQ F.entry_extend_loop ?_
  rw[YT WQ _];show wpAny _ A.in1 (pyNext (.ref I) >>= _) _ _ s
  exact Z9 (zp9 (A:=A.in1) hh S m hl hit λh' he=>Z6 (hR h' acc c (λb o _ hb e=>he b o hb e) (he L _ hLI hL) (by rw[hacc,YF (by omega)])))
 | succ k ih=>
  intro i s acc c hk hi S m hit hL hacc hR
  have hlt:i<es.size:=by omega
  have hiv:i<vs.length:=by omega
  refine YQ F.entry_extend_loop ?_
  rw[YT WQ _];show wpAny _ A.in1 (pyNext (.ref I) >>= _) _ _ s
  refine Z9 (zn5 (A:=A.in1) S m hit hlt (Z4 hiv) λh1 hit1 hs1=>?_);have hL1:=hs1.extBut L _ hLI hL
  have sz:acc.size=i:=by rw[<-ZG,hacc,ZR,Ze];omega
  have h4:=S.le5;have hz:=S.size;show wpAny _ A.in1 (updateSeq L (·.push (vs[i]).2) >>= _) _ _ _
  refine Z9 (UD hL1 rfl (Z6 ⟨XQ WQ _,?_⟩) (by rw[sz,Zg];omega) (by show(acc.push _).size<=sizeLine+1;rw[Array.size_push,sz,Zg];omega))
  have oth:∀b o,b≠L->h1.get? b=some o->(h1.update L (YY (·.push (vs[i]).2))).get? b=some o:=λb o hb e=>(Zo _ _ (Za hb)).trans e
  have kIL:∀b its,s.heap.IsTuple b its->(h1.update L (YY (·.push (vs[i]).2))).IsTuple b its:=λb its ⟨o,e,cc,r⟩=>by
   have n1:b≠I:=λz=>by subst z;rw[hit] at e;cases e;injection cc with z;exact absurd z (by decide)
   have n2:b≠L:=λz=>by subst z;rw[hL] at e;cases e;injection cc with z;exact absurd z (by decide)
   exact⟨o,oth b o n2 (hs1.extBut b o n1 e),cc,r⟩
  have m1:Mode w v es ep t P fs vs h1:=m.keep (b:=I) (λc o hc e=>hs1.extBut c o hc e) λo e z=>by rw[hit] at e;cases e;injection z with z;exact absurd z (by decide)
  refine ih (i+1) _ (acc.push (vs[i]).2) _ (by omega) hlt (S.mono (λo e=>oth v o (Za hLv) (hs1.extBut v o hvI e)) kIL) (m1.keep (b:=L) oth λo e z=>?_) (oth I _ (Za hLI) hit1) (Zi _ hL1 rfl) ?_ λh' acc' c' hk' hL' hacc'=>?_
  ·rw[hL1] at e;cases e;injection z with z;exact absurd z (by decide)
  ·rw[Array.toList_push,hacc,Xx hiv,XF];rfl
  ·exact hR h' acc' c' (λb o h1' h2' e=>hk' b o h1' h2' (oth b o h1' (hs1.extBut b o h2' e))) hL' hacc'
theorem ziO:isSubtype (.type "set") (.type "set")=pure true:=by rw[isSubtype_type];kernel_rfl
theorem zlA{prog:ZB}{w:World}{A:Around}{E:Value->Shared->Prop}{s:Shared}{d:Addr}{Q:Bool->Shared->Prop}(hT:s.TypeIs (.ref d) "set")(q:Q false s):wpAny (model prog w) A (VP (.ref d)) Q E s:=by
 unfold VP;generalize hi : "set.__len__"=id
 have e:splitId id=some ("set", "__len__"):=by subst hi;decide +kernel
 refine Z9 (WL hT (hi▸F.slot_set_len.lookup) ?_)
 wp_delta
 rw[e];subst hi;refine Z9 (Xp hT ziO (Xa (λz=>absurd z (by decide)) λ_=>Xa (λ_=>Z9 (Wn hT (Z6 q))) λz=>absurd (by decide +kernel) z))
theorem zhn{Q:List Value->Shared->Prop}(hh:A.handled=none)(S:SetW w s.heap v rs es ep t P)
  (q:∀(h':Heap) (d:Drawn) (vs:List (Int×Value)),(∀b o,s.heap.get? b=some o->h'.get? b=some o)->s.heap.objs.size<=h'.objs.size->vs.Perm es.toList->Q (vs.map (·.2)) {s with heap:=h',drawn:=d}):wpAny (model prog w) A (collect (.ref v)) Q E s:=by
 have vlt:v<s.heap.objs.size:=ZW S.get;unfold collect;refine Z9 (wpAny_runValue (YQ entry_proto_collect' ?_));show wpAny _ _ (do again (.builtin "list.__iadd__" ⟨[<-newList [],.ref v],[]⟩)) _ _ s;refine Z9 (wpAny_newList (Z6 ⟨Wy _ (by decide +kernel),YQ entry_list_iadd' ?_⟩));have hS:(s.heap.push (seqObj "list" #[] 0)).get? s.heap.objs.size=some {cls:=.type "list",data:=.seq #[]}:=ZH _ rfl;show wpAny _ _ (VO (.ref s.heap.objs.size) (.ref v) (.ref s.heap.objs.size)) _ _ {s with heap:=s.heap.push (seqObj "list" #[] 0)};have S1:SetW w (s.heap.push (seqObj "list" #[] 0)) v rs es ep t P:=S.mono (λo e=>Z5 _ e) λb its ⟨o,e,r⟩=>⟨o,Z5 _ e,r⟩;have sz0:(s.heap.push (seqObj "list" #[] 0)).objs.size=s.heap.objs.size+1:=Xo ..;have kp:∀b o,s.heap.get? b=some o->(s.heap.push (seqObj "list" #[] 0)).get? b=some o:=λb o e=>Z5 _ e;generalize s.heap.push (seqObj "list" #[] 0)=h1 at hS S1 sz0 kp⊢;have hT:({s with heap:=h1}:Shared).TypeIs (.ref v) "set":=⟨_,S1.get,rfl⟩;unfold VO;refine Z9 (Wn hT ?_)
 have e1:Zb.List.listSameRef (.ref s.heap.objs.size) (.ref v)=false:=by simp[Zb.List.listSameRef,Xf vlt]
 have n1:(Yi "set"==Yi "list")=false:=by decide
 have n2:(Yi "set"==Yi "tuple")=false:=by decide
 simp only[e1,n1,n2,Bool.or_false,Z1,if_false];refine Z9 (zoT (s:={s with heap:=h1}) S1 λh2 d fs vs hit k2 hI m hp=>?_)
 have hI':s.heap.objs.size+1<=h2.objs.size-1:=by rw[<-sz0];exact hI
 have hT1:({s with heap:=h2,drawn:=d}:Shared).TypeIs (.ref v) "set":=⟨_,k2 _ _ S1.get,rfl⟩;refine Z9 (Y6 (zlA hT1 ?_));have hS1:=k2 _ _ hS;have S2:SetW w h2 v rs es ep t P:=S1.mono (λo e=>k2 v o e) λb its ⟨o,e,r⟩=>⟨o,k2 b o e,r⟩;generalize hIe:h2.objs.size-1=I at hit hI'⊢;show wpAny _ _ (if(_||_)=true then _ else _) _ _ _;refine Xa (λ_=>?_) (λhab=>absurd (by decide) hab);refine Z9 (Xg (Z9 ?_));show wpAny _ _ (updateSeq s.heap.objs.size (·.push .none) >>= λ_=>updateSeq s.heap.objs.size (·.pop)) _ _ _;refine Z9 (UD hS1 rfl ?_);have hS2:=Zi (YY (·.push X3)) hS1 rfl;refine UD (hz:=by seq_fits) hS2 rfl ?_;have hS3:=Zi (YY (·.pop)) hS2 rfl
 have oth:∀b o,b≠s.heap.objs.size->h2.get? b=some o->((h2.update s.heap.objs.size (YY (·.push X3))).update s.heap.objs.size (YY (·.pop))).get? b=some o:=λb o hb e=>(Zo _ _ (Za hb)).trans ((Zo _ _ (Za hb)).trans e)
 have notT:∀b its,h2.IsTuple b its->b≠s.heap.objs.size:=λb its ⟨o,e,cc,_⟩ z=>by
  subst z
  rw[hS1] at e;cases e;injection cc with z;exact absurd z (by decide)
 refine Z6 ⟨XQ WQ _,?_⟩;refine zn8 (I:=I) (v:=v) hh (ZI hI') (Xf vlt) (ZI (Xd vlt hI')) (by rw[hp.length_eq,ZG]) es.size 0 _ #[] _ (by omega) (Y3 _) (S2.mono (λo e=>oth v o (ZI vlt) e) λb its tt=>?_) (m.keep (b:=s.heap.objs.size) oth λo e z=>?_) (oth I _ (Xf hI') hit) hS3 (by simp) λh' acc c' hk hL' hacc=>?_
 ·have:=notT b its tt
  obtain⟨o,e,r⟩:=tt;exact⟨o,oth b o this e,r⟩
 ·rw[hS1] at e;cases e;injection z with z;exact absurd z (by decide)
 ·show wpAny (model prog w) A (do
   let o<-load s.heap.objs.size
   match o.data with
   |.seq xs _=>pure xs.toList
   |_=>unsupported "internal:collect") _ _ _
  refine Z9 (Wd hL' ?_);have key:=q h' d vs (λb o e=>hk b o (ZI (ZW e)) (ZI (Xd (ZW e) hI')) (oth b o (ZI (ZW e)) (k2 b o (kp b o e)))) (Xi (ZW hL')) hp;rw[<-hacc] at key;exact Z6 key
end
end IT
namespace IT
open PySem PySem.Spec L2
section
variable {X:Cx}{A0:Addr->Prop}{H:Hp}{s:Shared}
mutual
theorem zgl(S:zaY X s H):∀(x:D) (v:V) (u:Value),D.hk x=true->RepD X.K A0 H x v->RelV v u->KAt s.heap x u
 |.int i,v,u,_,q,r=>by
  simp only[RepD] at q;subst q
  simp only[KAt];exact r
 |.str x,v,u,_,q,r=>by
  simp only[RepD] at q;subst q
  simp only[KAt];exact r
 |.tup xs,v,u,hk,q,r=>by simp only[RepD] at q;obtain⟨a,vs,rfl,sq,zs⟩:=q;cases r;obtain⟨its,ri,p⟩:=S.tup a vs sq;simp only[KAt];exact⟨a,its.toArray,rfl,p,by simpa using kAts_of S xs vs its hk zs ri⟩|.non,_,_,hk,_,_=>by cases hk|.bl _,_,_,hk,_,_=>by cases hk|.lst _,_,_,hk,_,_=>by cases hk
theorem kAts_of(S:zaY X s H):∀(x:List D) (v:List V) (u:List Value),D.hks x=true->RepDs X.K A0 H x v->Vals v u->KAts s.heap x u
 | [],v,u,_,q,r=>by
  simp only[RepDs] at q;subst q
  cases r;simp only[KAts]
 | x::xs,v,u,hk,q,r=>by
  simp only[RepDs] at q;obtain⟨w,ws,rfl,q1,q2⟩:=q
  cases r with|cons r1 r2=>rw[D.hks,Z8] at hk;simp only[KAts];exact⟨_,_,rfl,zgl S x w _ hk.1 q1 r1,kAts_of S xs ws _ hk.2 q2 r2⟩
end
theorem zce(h:zaG k=true):D.hk k=true/\k.dep<=8:=by
 cases k with
 |tup xs=>
  rw[zaG,Z8] at h
  have:=of_decide_eq_true h.2
  exact⟨h.1,by simp only[D.dep];omega⟩
 |_=>cases h
theorem zpQ(S:zaY X s H)(h:zaG k=true)(q:RepD X.K A0 H k (.ref b)):(zpl X.prog X.w).is s.heap k b:=⟨(zce h).2,zgl S k (.ref b) (.ref b) (zce h).1 q rfl⟩
end
section
variable {X:Cx}{pins:List (Addr×Obj)}{σ:St}{H:Hp}{s:Shared}{μ:List Addr}{h:Sto}{l:Nat}{a:Addr}{kvs:List (D×D)}
end
section
variable {X:Cx}{a b e:Expr}{pos:Pos}{f g:IT.Env->M R}
end
section
variable {X:Cx}
end
end IT
namespace IT
open PySem PySem.Spec L2 PyProof.Rows
section
variable {K:Z7}{μ:List Addr}{h:Sto}{H:Hp}
end
section
variable {X:Cx}{pins:List (Addr×Obj)}{σ:L2.St}{H H':Hp}{s:Shared}{h':Heap}
end
theorem zjt:∀{xs:List D} {vs:List Value},xs.length=vs.length->(∀(j:Nat) (x:D) (v:Value),xs[j]?=some x->vs[j]?=some v->KAt h x v)->KAts h xs vs| [],[],_,_=>by simp only[KAts]| [],_::_,l,_=>by simp at l|_::_,[],l,_=>by simp at l|x::xs,v::vs,l,k=>by simp only[KAts];exact⟨v,vs,rfl,k 0 x v rfl rfl,zjt (by simpa using l) λj x v e1 e2=>k (j+1) x v (by simpa using e1) (by simpa using e2)⟩
theorem ze7{K:Z7}:∀{xs:List D} {vs:List V},xs.length=vs.length->(∀(j:Nat) (x:D) (v:V),xs[j]?=some x->vs[j]?=some v->RepD K A H x v)->RepDs K A H xs vs| [],[],_,_=>RepDs.nil| [],_::_,l,_=>by simp at l|_::_,[],l,_=>by simp at l|x::xs,v::vs,l,k=>.cons (k 0 x v rfl rfl) (ze7 (by simpa using l) λj x v e1 e2=>k (j+1) x v (by simpa using e1) (by simpa using e2))
theorem zg0:∀{xs:List V} {vs:List Value},xs.length=vs.length->(∀(j:Nat) (x:V) (v:Value),xs[j]?=some x->vs[j]?=some v->RelV x v)->Vals xs vs| [],[],_,_=>.nil| [],_::_,l,_=>by simp at l|_::_,[],l,_=>by simp at l|x::xs,v::vs,l,k=>.cons (k 0 x v rfl rfl) (zg0 (by simpa using l) λj x v e1 e2=>k (j+1) x v (by simpa using e1) (by simpa using e2))
theorem zgu{α β:Type}{F:α->β->Prop}:∀{xs:List α} {ys:List β},Paired F xs ys->∀(i:Nat) (x:α),xs[i]?=some x->∃y,ys[i]?=some y/\F x y|_,_,.nil,i,x,e=>by simp at e|_,_,.cons (b:=y) f fs,0,x,e=>by simp at e;subst e;exact⟨y,rfl,f⟩|_,_,.cons f fs,i+1,x,e=>by simp at e;simpa using zgu fs i x e
theorem zj0{K:Z7}(q:RepDs K A H xs ws){p:List Nat}(hp:∀i∈p,i<xs.length):RepDs K A H (p.map λi=>xs.getD i .non) (p.map λi=>ws.getD i .non):=by
 refine ze7 (by simp) λj x v e1 e2=>?_;rw[Zp] at e1 e2
 cases e:p[j]? with|none=>rw[e] at e1;cases e1|some i=>rw[e] at e1 e2;simp only[WE,Z3] at e1 e2;have hi:=hp i (YU e);obtain⟨w,ew,qw⟩:=q.get (Z4 hi);rw[<-e1,<-e2,zbA hi,Zy,ew];exact qw
theorem zmk{ws:List V}{vs:List Value}(q:Vals ws vs){p:List Nat}(hp:∀i∈p,i<ws.length):Vals (p.map λi=>ws.getD i .non) (p.map λi=>vs.getD i .none):=by
 refine zg0 (by simp) λj x v e1 e2=>?_;rw[Zp] at e1 e2
 cases e:p[j]? with|none=>rw[e] at e1;cases e1|some i=>rw[e] at e1 e2;simp only[WE,Z3] at e1 e2;have hi:=hp i (YU e);obtain⟨w,ew,qw⟩:=zgu q i _ (Z4 hi);rw[<-e1,<-e2,Zy,Zy,ew,Z4 hi];exact qw
section
variable {prog:ZB}{w:World}{A:Around}{E:Value->Shared->Prop}{s:Shared}
theorem zjF{G:List Value->Shared->Prop}(hu:A.units+16<cLine)(hc:∀(Q':List Value->Shared->Prop) (E:Value->Shared->Prop),(∀vs s',G vs s'->Q' vs s')->wpAny (model prog w) A.in1 (collect v) Q' E s)
  (h:∀vs s',G vs s'->∃xs ys p,KAts s'.heap xs vs/\Srt xs ys p/\∀h' c,(∀b o,s'.heap.get? b=some o->h'.get? b=some o)->h'.get? s'.heap.objs.size=some (seqObj "list" (WV (p.map λi=>vs.getD i .none)) c)->Q (.ref s'.heap.objs.size) {s' with heap:=h'}):
  wpAny (model prog w) A (call (.builtin "sorted") [v]) Q E s:=by
 refine Calls.call_function_entry kind_sorted plain_sorted entry_sorted (args_sorted1 _) ?_;unfold Zb.«sorted»;refine Z9 (m:=checkCount "sorted" 1 1 _) (Z6 ?_);refine Z9 (hc _ _ λvs s' g=>?_);obtain⟨xs,ys,p,hk,S,q⟩:=h vs s' g;have hl:=hk.length;have h4:=S.len
 refine Z9 (wpAny_newList ?_ (by rw[Zg];omega))
 have hoL:(s'.heap.push (seqObj "list" vs.toArray 0)).get? s'.heap.objs.size=some (seqObj "list" vs.toArray 0):=ZH _ rfl;show wpAny _ _ _ _ _ {s' with heap:=s'.heap.push (seqObj "list" vs.toArray 0)};refine Z9 (Y6 (Yj slot_list_sort ⟨_,hoL,rfl⟩ entry_list_sort ?_ (args_list_sort _)))
 refine zea (s:={s' with heap:=s'.heap.push (seqObj "list" vs.toArray 0)}) (a:=s'.heap.objs.size) hoL (KAts.keep (λb its t=>let ⟨o,e,r⟩:=t;⟨o,Z5 _ e,r⟩) xs vs hk) S (by show A.units+1+1+8<cLine;omega) λh' c k g'=>?_
 exact⟨_,rfl,Z6 ⟨_,rfl,q h' c (λb o e=>k b o (ZI (ZW e)) (Z5 _ e)) g'⟩⟩
end
section
variable {X:Cx}
end
end IT
namespace IT
open PySem PySem.Spec L2
section
variable {prog:ZB}{w:World}{A:Around}{E:Value->Shared->Prop}{R:Result->Shared->Prop}
end
section
variable {X:Cx}
theorem rows_at(I:Inv X pins σ H s):∀rs:List (Addr×D×Addr×D×V),(∀r∈rs,SqT X.K H r.1 [.ref r.2.2.1,r.2.2.2.2]/\(zaG r.2.1=true/\RepD X.K A0 H r.2.1 (.ref r.2.2.1))/\RepD X.K A0 H r.2.2.2.1 r.2.2.2.2) →
  ∃us:List (Addr×D×Addr×Value),us.map (·.1)=rs.map (·.1)/\Paired (λr u=>r.2.1=u.2.1/\r.2.2.1=u.2.2.1/\RelV r.2.2.2.2 u.2.2.2) rs us/\∀u∈us,s.heap.IsTuple u.1 #[.ref u.2.2.1,u.2.2.2]/\(zpl X.prog X.w).is s.heap u.2.1 u.2.2.1
 | [],_=>⟨[],rfl,.nil,by simp⟩
 |r::rs,h=>by
  obtain⟨us,e1,e2,e3⟩:=rows_at I rs λq hq=>h q (ZU _ hq);obtain⟨h1,h2,h3⟩:=h r ZK;obtain⟨its,rv,pt,_⟩:=I.tuple h1;obtain⟨u,w',rfl,ru,rw'⟩:=zrj rv;cases ru;refine⟨(r.1,r.2.1,r.2.2.1,w')::us,by simp[e1],.cons ⟨rfl,rfl,rw'⟩ e2,λu hu=>?_⟩
  rcases ZJ.mp hu with rfl | hu
  ·exact⟨pt,zpQ (zaV I) h2.1 h2.2⟩
  ·exact e3 u hu
end
end IT
namespace IT
open PySem PySem.Spec L2
section
variable {X:Cx}{tg:Expr}
end
end IT
namespace IT
open PySem PySem.Spec L2
section
variable {X:Cx}
end
end IT
namespace IT
open PySem PySem.Spec L2
theorem zdj(x:D):∀l:List D,(insD x l).Perm (x::l)
 | []=>XL _
 |y::r=>by
  simp only[insD]
  split
  ·exact(W0 y (zdj x r)).trans (Vu x y r)
  ·exact XL _
theorem zbc:∀l:List D,(zd8 l).Perm l| []=>XL _|x::r=>(zdj x (zd8 r)).trans (W0 x (zbc r))
theorem zh6{f:D->Nat}(x:D):∀l:List D,(∀y∈l,ltT y x=decide (f y<f x))->(∀y∈l,f y≠f x)->l.Pairwise (λa b=>f a<f b)->(insD x l).Pairwise (λa b=>f a<f b)
 | [],_,_,_=>by simp[insD]
 | y::r,h,hn,hp=>by
  rw[Ye] at hp;simp only[insD];rw[h y ZK];have ny:=hn y ZK
  by_cases e:f y<f x
  ·rw [decide_eq_true e,if_pos rfl,Ye]
   refine⟨λz hz=>?_,zh6 x r (λz hz=>h z (ZU _ hz)) (λz hz=>hn z (ZU _ hz)) hp.2⟩
   rcases ZJ.mp ((zdj x r).mem_iff.mp hz) with rfl | hz
   ·exact e
   ·exact hp.1 z hz
  ·rw [decide_eq_false e,if_neg Zc,Ye,Ye]
   refine⟨λz hz=>?_,hp⟩
   rcases ZJ.mp hz with rfl | hz
   ·omega
   ·have:=hp.1 z hz;omega
theorem zdP{f:D->Nat}:∀l:List D,(∀y∈l,∀x∈l,ltT y x=decide (f y<f x))->l.Pairwise (λa b=>f a≠f b)->(zd8 l).Pairwise (λa b=>f a<f b)| [],_,_=>Vi|x::r,h,hn=>by rw[Ye] at hn;refine zh6 x (zd8 r) (λy hy=>h y (ZU _ ((zbc r).mem_iff.mp hy)) x ZK) (λy hy=>Za (hn.1 y ((zbc r).mem_iff.mp hy))) (zdP r (λy hy z hz=>h y (ZU _ hy) z (ZU _ hz)) hn.2)
theorem zhS{f:D->Nat}:∀{l m:List D},l.Perm m->l.Pairwise (λa b=>f a<f b)->m.Pairwise (λa b=>f a<f b)->l=m
 | [],m,p,_,_=>(List.Perm.nil_eq p)|x::l,[],p,_,_=>by simp at p
 | x :: l,y::m,p,h1,h2=>by
  rw[Ye] at h1 h2
  have e:x=y:=by
   rcases ZJ.mp (p.mem_iff.mp ZK) with e | hx
   ·exact e
   ·rcases ZJ.mp (p.mem_iff.mpr ZK) with e | hy
    ·exact e.symm
    ·have:=h1.1 y hy
     have:=h2.1 x hx
     omega
  subst e;rw[zhS (List.Perm.cons_inv p) h1.2 h2.2]
theorem zft:∀{l:List D},apart l=true↔l.Nodup
 | []=>by simp[apart]
 | x::r=>by
  simp only[apart,Z8,YR,ZQ,zft (l:=r)];refine⟨λh=>⟨λhx=>?_,h.2⟩,λh=>⟨λy hy=>?_,h.2⟩⟩
  ·have:=h.1 x hx
   rw[D.same_refl] at this;cases this
  ·rw[zb5 (x:=x) (y:=y) λe=>h.1 (by rw[e];exact hy)];rfl
theorem ziD{xs ys zs:List D}(p:ys.Perm xs)(h:zhi xs=some zs):zhi ys=some zs:=by
 unfold zhi at h⊢
 split at h
 ·rename_i hc
  simp only[Z3] at h;simp only[Z8,Zh,ZQ,decide_eq_true_eq,beq_iff_eq] at hc;obtain⟨⟨⟨⟨h4,hk⟩,ha⟩,hr⟩,hf⟩:=hc;have er:∀x,rnk ys x=rnk xs x:=λx=>p.countP_eq _;have hr':=hr;unfold rkOk at hr';simp only[ZQ,Z8,beq_iff_eq] at hr'
  have hrk:rkOk ys=true:=by unfold rkOk;simp only[ZQ,Z8,beq_iff_eq,er];exact λx hx y hy=>hr' x (p.mem_iff.mp hx) y (p.mem_iff.mp hy)
  have hlt:∀x∈xs,∀y∈xs,ltT x y=decide (rnk xs x<rnk xs y):=λx hx y hy=>(hr' x hx y hy).2
  have hne:∀l:List D,l.Nodup->(∀x∈l,x∈xs)->l.Pairwise (λa b=>rnk xs a≠rnk xs b):=λl hn hs=>by
   induction l with|nil=>exact Vi|cons x r ih=>rw[YR] at hn;refine Ye.mpr ⟨λy hy e=>?_,ih hn.2 λz hz=>hs z (ZU _ hz)⟩;have hx:=hs x ZK;have hy':=hs y (ZU _ hy);obtain⟨t1,e1⟩:=Yb.mp (hr' x hx y hy').1;obtain⟨t2,e2⟩:=Yb.mp (hr' y hy' x hx).1;have f1:=(hr' x hx y hy').2;have f2:=(hr' y hy' x hx).2;simp only[ltT,e1,e2,e,YO,decide_false] at f1 f2;subst f1 f2;exact hn.1 (zjI x y e1 e2▸hy)
  have nx:=zft.mp ha;have ny:ys.Nodup:=p.nodup_iff.mpr nx;have es:zd8 ys=zd8 xs:=zhS (f:=rnk xs) ((zbc ys).trans (p.trans (zbc xs).symm)) (zdP ys (λx hx y hy=>hlt x (p.mem_iff.mp hx) y (p.mem_iff.mp hy)) (hne ys ny λx hx=>p.mem_iff.mp hx)) (zdP xs hlt (hne xs nx λ_ h=>h));rw[if_pos,es,h];simp only[Z8,Zh,ZQ,decide_eq_true_eq,beq_iff_eq]
  refine⟨⟨⟨⟨by rw[p.length_eq];exact h4,λx hx=>hk x (p.mem_iff.mp hx)⟩,zft.mpr ny⟩,hrk⟩,hf.imp (λg x hx=>g x (p.mem_iff.mp hx)) λg x hx=>g x (p.mem_iff.mp hx)⟩
 ·cases h
theorem zfq{x:D}:∀{l:List D},x∈once l↔x∈l
 | []=>by simp[once]
 | y :: r=>by
  simp only[once,ZJ,WJ,zfq (l:=r)];constructor
  ·rintro(h | h)
   ·exact .inl h
   ·exact .inr h.1
  ·rintro (h | h)
   ·exact .inl h
   ·by_cases e:x=y
    ·exact .inl e
    ·exact .inr ⟨h,by rw[zb5 (Za e)];rfl⟩
theorem zjA:∀l:List D,(once l).Nodup
 | []=>List.nodup_nil
 |y::r=>by
  rw[once,YR];refine⟨λh=>?_,(zjA r).filter _⟩
  have:=(WJ.mp h).2
  rw[D.same_refl] at this;cases this
theorem zk8:∀{l m:List D},l.Nodup->m.Nodup->(∀x,x∈l↔x∈m)->l.Perm m
 | [],m,_,_,h=>by
  cases m with|nil=>exact XL _|cons y m=>exact absurd ((h y).mpr ZK) (by simp)
 | x::l,m,n1,n2,h=>by
  rw[YR] at n1;have hx:=(h x).mp ZK;refine(W0 x (zk8 n1.2 (n2.erase x) λy=>?_)).trans (List.perm_cons_erase hx).symm;rw[n2.mem_erase_iff];constructor
  ·exact λhy=>⟨λe=>n1.1 (e▸hy),(h y).mp (ZU _ hy)⟩
  ·rintro⟨hne,hy⟩
   rcases ZJ.mp ((h y).mpr hy) with e | hy
   ·exact absurd e hne
   ·exact hy
theorem zmw{α β:Type}{f:α->β}:∀{l m:List β},l.Perm m->∀rs:List α,m=rs.map f->∃rs':List α,rs'.Perm rs/\l=rs'.map f:=by
 intro l m p
 induction p with
 |nil=>intro rs e;exact⟨rs,XL _,e⟩
 | cons x p ih=>
  intro rs e
  cases rs with|nil=>cases e|cons r rs=>simp only[Zz,UE] at e;obtain⟨rs',h1,h2⟩:=ih rs e.2;exact⟨r::rs',W0 r h1,by rw[Zz,e.1,h2]⟩
 | swap x y l=>
  intro rs e
  match rs,e with| [],e=>cases e| [_],e=>simp at e|r1::r2::rs,e=>simp only[Zz,UE] at e;exact⟨r2::r1::rs,Vu _ _ _,by simp only[Zz,e.1,e.2.1,e.2.2]⟩
 |trans p1 p2 ih1 ih2=>intro rs e;obtain⟨rs1,h1,h2⟩:=ih2 rs e;obtain⟨rs2,h3,h4⟩:=ih1 rs1 h2;exact⟨rs2,h3.trans h1,h4⟩
structure SetF(w:World)(rs:List (D×Addr))(es:Array (Int×Value))(t:Zt)(P:List Nat):Prop where
 tab:TabW t P
 len:P.length=rs.length
 led:t.led=!byTx w
 ents:es.toList=rs.map λr=>(zaj w r.1,ZD r.2)
 nd:(rs.map (·.1)).Nodup
abbrev ziQ(es:Array (Int×Value))(ep:Nat)(t:Zt):Obj:={cls:=.type "set",dict:=none,data:=.set es ep t,slots:=#[]}
def setO(v:Addr)(o:Obj):HO:=.ext λh=>h.get? v=some o
theorem zjg{X:Cx}{pins:List (Addr×Obj)}{σ:St}{H:Hp}{s:Shared}(I:Inv X pins σ H s)(d:Drawn):Inv X pins σ H {s with drawn:=d}:=⟨I.ok,I.os,I.bare,I.base,I.loc,I.cell,I.free,I.freeC,I.pin,I.hok,I.len⟩
theorem zgr{K:Z7}{A0:Addr->Prop}{H:Hp}:∀{xs:List D} {ws:List V},RepDs K A0 H xs ws->(∀x∈xs,zaG x=true)->∃vals:List (D×Addr),vals.map (·.1)=xs/\ws=vals.map (λr=>V.ref r.2)/\∀r∈vals,zaG r.1=true/\RepD K A0 H r.1 (.ref r.2)
 | [],ws,q,_=>by simp only[RepDs] at q;subst q;exact⟨[],rfl,rfl,λr hr=>nomatch hr⟩
 | x::xs,ws,q,h=>by
  simp only[RepDs] at q;obtain⟨v,r,rfl,q1,q2⟩:=q;obtain⟨vals,e1,e2,e3⟩:=zgr q2 λy hy=>h y (ZU _ hy);have hx:=h x ZK
  have hb:∃b,v=.ref b:=by
   cases x with|tup ys=>simp only[RepD] at q1;obtain⟨b,_,e,_⟩:=q1;exact⟨b,e⟩|_=>cases hx
  obtain⟨b,rfl⟩:=hb;refine⟨(x,b)::vals,by rw[Zz,e1],by rw[Zz,e2],λr hr=>?_⟩
  rcases ZJ.mp hr with rfl | hr
  ·exact⟨hx,q1⟩
  ·exact e3 r hr
theorem zkJ:∀{vals:List (D×Addr)} {us:List Value},Vals (vals.map λr=>V.ref r.2) us->us=vals.map λr=>ZD r.2
 | [],us,q=>by cases q;rfl
 | r::vals,us,q=>by
  cases q with|cons h t=>cases h;rw[Zz,zkJ t]
section
variable {X:Cx}
theorem zfU(hc:X.calm=true)(hu:X.A.units+64<cLine):zcs X (.type "set") (λus H Q=>∃(A0:Addr->Prop) (l:Addr) (ws:List V) (xs:List D),us=[.ref l]/\SqL X.K H l ws/\RepDs X.K A0 H xs ws/\(∀x∈xs,zaG x=true)/\((once xs).length<=4\/xs.length<=5) ∧
  ∀(v:Addr) (rs:List (D×Addr)) (es:Array (Int×Value)) (ep:Nat) (t:Zt) (P:List Nat),SetF X.w rs es t P->(∀y,y∈rs.map (·.1)↔y∈xs)->(∀r∈rs,zaG r.1=true/\RepD X.K A0 H r.1 (.ref r.2))->H v=none->Q (.ref v) (upd H v (setO v (ziQ es ep t)))):=by
 intro pins s σ H us vs Q I rv q;obtain⟨A0,l,ws,xs,rfl,hq,zs,hk,h4,k⟩:=q;obtain⟨u,rfl,ru⟩:=rv.one;cases ru;obtain⟨its,rv,pl,hz⟩:=I.list hq;obtain⟨vals,e1,rfl,e3⟩:=zgr zs hk;have eu:=zkJ rv;have SA:=zaV I
 refine zfm (vals:=vals) (mx:=once xs) (I.ok.hd hc) (by omega) pl.isList (by simpa using eu) (λr hr=>⟨(e3 r hr).1,zgl SA r.1 (.ref r.2) (.ref r.2) (zce (e3 r hr).1).1 (e3 r hr).2 rfl⟩) (h4.imp id λz=>by rw[<-e1,ZR] at z;exact z) (λr hr=>zfq.mpr (by rw[<-e1];exact X9.mpr ⟨r,hr,rfl⟩)) λh' tk rs es ep t P S g2 g3 g4=>?_
 refine⟨.ref s.heap.objs.size,upd H s.heap.objs.size (setO s.heap.objs.size (ziQ es ep t)),I.laid (t':=tk) g4 (ZZ _) ⟨S.get,⟨_,S.get⟩,λh1 h2 e kp=>kp _ e⟩,rfl,k _ rs es ep t P ⟨S.tab,S.len,S.led,S.ents,S.nd⟩ (λy=>by rw[g2 y,e1]) (λr hr=>e3 r (g3 r hr)) I.fresh⟩
theorem zdK(hc:X.calm=true)(hu:X.A.units+64<cLine):zcs X (.builtin "sorted") (λus H Q=>∃(μ:List Addr) (h:Sto) (v:Addr) (rs:List (D×Addr)) (es:Array (Int×Value)) (ep:Nat) (t:Zt) (P:List Nat) (xs zs:List D),us=[.ref v]/\H v=some (setO v (ziQ es ep t))/\SetF X.w rs es t P/\(∀y,y∈rs.map (·.1)↔y∈xs) ∧
  (∀r∈rs,zaG r.1=true/\RepD X.K (Live μ h) H r.1 (.ref r.2))/\zhi (once xs)=some zs/\∀p ws,RepDs X.K (Live μ h) H zs ws->H p=none->Q (.ref p) (upd H p (.lst ws))):=by
 intro pins s σ H us vs Q I rv q;obtain⟨μ,h,v,rs,es,ep,t,P,xs,zs,rfl,hv,F,hm,hk,hz,k⟩:=q;obtain⟨u,rfl,ru⟩:=rv.one;cases ru;have SA:=zaV I;have hget:s.heap.get? v=some (ziQ es ep t):=(show zaI X.prog X.w H s.heap v (setO v (ziQ es ep t)) from I.hok v _ hv).1;have S:SetW X.w s.heap v rs es ep t P:=⟨hget,F.tab,F.len,F.led,F.ents,λr hr=>⟨(hk r hr).1,zgl SA r.1 (.ref r.2) (.ref r.2) (zce (hk r hr).1).1 (hk r hr).2 rfl⟩,F.nd⟩
 refine zjF (G:=λvs s'=>∃(h':Heap) (d:Drawn) (rs':List (D×Addr)),s'={s with heap:=h',drawn:=d}/\(∀b o,s.heap.get? b=some o->h'.get? b=some o)/\s.heap.objs.size<=h'.objs.size/\rs'.Perm rs/\vs=rs'.map λr=>ZD r.2) (by omega)
  (λQ' E hQ=>zhn (A:=X.A.in1) (I.ok.hd hc) S λh' d vs0 g1 g2 g3=>hQ _ _ ?_) λvs s' ⟨h',d,rs',e1,g1,g2,g3,e2⟩=>?_
 ·rw [S.ents] at g3
  obtain⟨rs',p1,p2⟩:=zmw g3 rs rfl
  exact⟨h',d,rs',rfl,g1,g2,p1,by rw[p2,List.map_map];rfl⟩
 ·subst e1
  have pm:(rs'.map (·.1)).Perm (once xs):=(g3.map _).trans (zk8 S.nd (zjA xs) λy=>by rw[hm y,zfq]);obtain⟨p,Sp⟩:=zmD (ziD pm hz);have hk':∀r∈rs',zaG r.1=true/\RepD X.K (Live μ h) H r.1 (.ref r.2):=λr hr=>hk r (g3.mem_iff.mp hr)
  have KA:KAts h' (rs'.map (·.1)) vs:=by rw[e2];refine zjt (by simp) λj x u e3 e4=>?_;rw[Zp,YS] at e3 e4;obtain⟨r,e5,rfl⟩:=e3;obtain⟨r',e6,rfl⟩:=e4;rw[e5] at e6;cases e6;have hr:=YU e5;exact KAt.keep (λc its ⟨o,e,y⟩=>⟨o,g1 c o e,y⟩) _ _ (zgl SA r.1 (.ref r.2) (.ref r.2) (zce (hk' r hr).1).1 (hk' r hr).2 rfl)
  refine⟨rs'.map (·.1),zs,p,KA,Sp,λh2 c hk2 hL=>?_⟩
  have RD:RepDs X.K (Live μ h) H (rs'.map (·.1)) (rs'.map λr=>V.ref r.2):=by refine ze7 (by simp) λj x u e3 e4=>?_;rw[Zp,YS] at e3 e4;obtain⟨r,e5,rfl⟩:=e3;obtain⟨r',e6,rfl⟩:=e4;rw[e5] at e6;cases e6;exact(hk' r (YU e5)).2
  have V1:Vals (rs'.map λr=>V.ref r.2) vs:=by rw[e2];refine zg0 (by simp) λj x u e3 e4=>?_;rw[Zp,YS] at e3 e4;obtain⟨r,e5,rfl⟩:=e3;obtain⟨r',e6,rfl⟩:=e4;rw[e5] at e6;cases e6;rfl
  refine⟨.ref h'.objs.size,upd H h'.objs.size (.lst (p.map λi=>(rs'.map λr=>V.ref r.2).getD i .non)),zjg (I.laid (h':=h2) (t':=s.toks) (o:=.lst (p.map λi=>(rs'.map λr=>V.ref r.2).getD i .non)) (λb o e=>hk2 b o (g1 b o e)) g2 ⟨?_,_,c,zmk V1 (λi hi=>by have:=Sp.mem i hi;simpa using this),hL⟩) d,rfl,k _ _ (by rw[Sp.out];exact zj0 RD Sp.mem) (I.hok.fresh g2)⟩
  rw[ZR,Sp.plen,Zg]
  have:=Sp.len
  omega
theorem zpw{e:Expr}{p p2 pos2 pos:Pos}{f:IT.Env->M R}(hu:X.A.units+64<cLine)(hc:X.calm=true)(hg:Gl X "sorted")(hm:X.mg "sorted"=none)(hg2:Gl X "set")(hm2:X.mg "set"=none)(he:IE X e f)(hs:ZT [e] X.env=[(false,eval e X.env)])
  (hs2:ZT [.Call (.Name "set" p2) [e] [] pos2] X.env=[(false,eval (.Call (.Name "set" p2) [e] [] pos2) X.env)]):
  IL X (.Call (.Name "sorted" p) [.Call (.Name "set" p2) [e] [] pos2] [] pos) (λσ=>bnd (f σ) λr=>bnd (rd r) λd=>opt (zdl d)):=by
 refine PE.imp (zbE (zdK hc hu) hg hm PyProof.Rows.boot_sorted (zax (zbq (zfU hc hu) hg2 hm2 PyProof.Rows.boot_set (zax he za1 hs) (by decide) (by decide) hs rfl) za1 hs2) (by decide) (by decide) hs2 rfl) λσ H Q q0=>?_;obtain⟨μ,h,env,R0,re,zs,h',e,k⟩:=q0;simp only[zab,zat] at e;obtain⟨r,h1,e1,d,h2,e2,e3,rfl⟩:=e;refine⟨μ,h,env,R0,re,r,h1,e1,λμ1 H1 v s1 R1 q1=>?_⟩;obtain⟨rfl,z⟩:=zaU R1 q1 e2
 cases d with
 | lst xs=>
  obtain⟨a,vs,rfl,q,zs'⟩:=z;simp only[zdl] at e3
  split at e3
  ·rename_i hb
   simp only[Z8,Zh,ZQ] at hb;refine⟨Live μ1 h2,a,vs,xs,rfl,q,zs',hb.1.2,hb.2.imp of_decide_eq_true of_decide_eq_true,λv rs es ep t P F hmem hkey hv=>?_⟩;have sF:=Stp.fresh (μ:=μ1) (h:=h2) (o:=setO v (ziQ es ep t)) hv;refine⟨μ1,h2,v,rs,es,ep,t,P,xs,zs,rfl,zak,F,hmem,λr hr=>⟨(hkey r hr).1,RepD.stp sF R1 (hkey r hr).2⟩,e3,λp ws q2 hp=>?_⟩;exact k μ1 _ p ws (s1.trans sF) (R1.fresh hv) q2 hp
  ·cases e3
 |_=>simp[zdl] at e3
end
end IT
namespace IT
open PySem PySem.Spec L2
section
variable {K:Z7}{w:World}{prog:ZB}
end
section
variable {X:Cx}
end
section
variable {X:Cx}{pos:Pos}
end
end IT
open PySem.AutoSeq1 (wpAny_loadPart')
namespace PySem
section
variable {prog:ZB}{w:World}{A:Around}{E:Value->Shared->Prop}{s:Shared}{h0:Heap}{e it l:Addr}{i n k:Nat}{vs items:Array Value}{x:Value}
end
section
variable {prog:ZB}{w:World}{A:Around}{E:Value->Shared->Prop}{s:Shared}
theorem zsk{M:Model}{c:Code}{P:Value->Shared->Prop}{R:Result->Shared->Prop}(h:Xs M A c (wants P E) s)(k:∀v t,P v t->R (.ok (.ret v)) t)(ke:∀e t,E e t->R (.error e) t):Xs M A c R s:=
 XC h λr t z=>match r,z with|.ok (.ret v),z=>k v t z|.error e,z=>ke e t z
end
end PySem
namespace IT
open PySem PySem.Spec L2
section
variable {X:Cx}
end
end IT
namespace PySem
section
variable {M:Model}{A:Around}{E:Value->Shared->Prop}{s:Shared}{env:Env}
end
end PySem
namespace IT
open PySem PySem.Spec L2
section
variable {X:Cx}
end
end IT
namespace IT
open PySem PyProof.Rows
section
variable {prog:ZB}{w:World}{A:Around}{E:Value->Shared->Prop}{R:Result->Shared->Prop}{I l S:Addr}{items:Array Value}{ts:List (List Nat)}
variable {s:Shared}
end
open PySem PySem.Spec L2
section
variable {X:Cx}
end
end IT
namespace IT
open PySem PySem.Sem
def KD{α:Type}:Sem α->Prop|.pure _=>True|.raise _=>True|.unsupported _=>True|.finish _=>True|.rule _ k=>KD (k ())|.at _ k=>KD (k ())|.load _ _ k=>∀o,KD (k o)|.update _ _ f k=>(∀o,(f o).dict=o.dict/\(o.isFreed=false->(f o).isFreed=false))/\KD (k ())|.alloc _ k=>∀a,KD (k a)|.loadIfAlive _ k=>∀o,KD (k o)|.point _ k=>KD (k ())|.fresh k=>∀t,KD (k t)|.ask k=>∀x,KD (k x)|.handled _ k=>∀x,KD (k x)|.stack k=>∀x,KD (k x)|.thread k=>∀x,KD (k x)|_=>False
def DN(e:Addr)(dd:Option Addr)(s:Shared):Prop:=∃o,s.heap.get? e=some o/\o.dict=dd
theorem zrN{α:Type}{M:Model}{Γ:Ctx}{e:Addr}{dd:Option Addr}{Q:α->Pos->Shared->Prop}{E:Value->Pos->Shared->Prop}:∀(m:Sem α) (p:Pos) (s:Shared),KD m->DN e dd s->wp M Γ m Q E p s->wp M Γ m (λa p s=>Q a p s/\DN e dd s) (λa p s=>E a p s/\DN e dd s) p s:=by
 intro m
 induction m with
 |pure a=>intro p s _ d h;exact⟨h,d⟩|raise v=>intro p s _ d h;exact⟨h,d⟩|unsupported w=>intro p s _ d h;exact h|finish w=>intro p s _ d h;exact h|rule t k ih=>intro p s hk d h;exact ih () p s hk d h|«at» t k ih=>intro p s hk d h;exact ih () t s hk d h|load a q k ih=>intro p s hk d h;obtain⟨o,e1,h⟩:=h;exact⟨o,e1,ih o p s (hk o) d h⟩
 | update a q f k ih=>
  intro p s hk d h;refine⟨h.1,ih () p _ hk.2 ?_ h.2⟩;obtain⟨o,e1,e2⟩:=d
  by_cases z:a=e
  ·subst z
   exact⟨f o,Zi f e1 ((hk.1 o).2 (Heap.get?_some_iff.mp e1).2),((hk.1 o).1).trans e2⟩
  ·exact⟨o,(Zo _ _ z).trans e1,e2⟩
 |alloc o k ih=>intro p s hk d h;obtain⟨u,e1,e2⟩:=d;exact ih _ p _ (hk _) ⟨u,Z5 _ e1,e2⟩ h|loadIfAlive a k ih=>intro p s hk d h;exact ih _ p s (hk _) d h|point l k ih=>intro p s hk d h;exact ih () p s hk d h|register a k ih=>intro p s hk d h;exact h|fresh k ih=>intro p s hk d h;exact ih _ p _ (hk _) d h|ask k ih=>intro p s hk d h;exact ih _ p s (hk _) d h|handled o k ih=>intro p s hk d h;exact ih _ p s (hk _) d h|stack k ih=>intro p s hk d h;exact ih _ p s (hk _) d h|thread k ih=>intro p s hk d h;exact ih _ p s (hk _) d h|_=>intro p s hk d h;exact hk.elim
theorem zei{α:Type}{M:Model}{A:Around}{e:Addr}{dd:Option Addr}{s:Shared}{m:Sem α}{Q:α->Shared->Prop}{E:Value->Shared->Prop}(hk:KD m)(d:DN e dd s)(h:wpAny M A m Q E s):wpAny M A m (λa s'=>Q a s'/\DN e dd s') (λa s'=>E a s'/\DN e dd s') s:=fun Γ p hΓ=>zrN m p s hk d (h Γ p hΓ)
theorem zan{α β:Type}{f:α->Sem β}:∀{m:Sem α},KD m->(∀a,KD (f a))->KD (m >>= f):=by
 intro m;show KD m->_->KD (Sem.bind m f)
 induction m with|pure a=>intro _ h;exact h a|raise v=>intro _ h;exact trivial|unsupported w=>intro _ h;exact trivial|finish w=>intro _ h;exact trivial|rule t k ih=>intro q h;exact ih () q h|«at» t k ih=>intro q h;exact ih () q h|load a z k ih=>intro q h o;exact ih o (q o) h|update a z g k ih=>intro q h;exact⟨q.1,ih () q.2 h⟩|alloc o k ih=>intro q h a;exact ih a (q a) h|loadIfAlive a k ih=>intro q h o;exact ih o (q o) h|point l k ih=>intro q h;exact ih () q h|fresh k ih=>intro q h o;exact ih o (q o) h|ask k ih=>intro q h o;exact ih o (q o) h|handled z k ih=>intro q h o;exact ih o (q o) h|stack k ih=>intro q h o;exact ih o (q o) h|thread k ih=>intro q h o;exact ih o (q o) h|_=>intro q h;exact q.elim
theorem zkx{g:Array Value->Array Value}(o:Obj):(Obj.mapFields g o).dict=o.dict/\(o.isFreed=false->(Obj.mapFields g o).isFreed=false):=by
 obtain⟨c,d,dt,sl⟩:=o
 cases dt<;>first | exact⟨rfl,λh=>h⟩|exact⟨rfl,λ_=>rfl⟩
theorem zgV{a:Addr}:KD (PySem.load a):=λ_=>trivial
theorem zhm{v:Value}:KD (fieldsOf v):=by
 unfold fieldsOf
 split
 ·refine zan zgV λo=>?_
  split<;>trivial
 ·trivial
theorem zdf{v:Value}{i:Nat}:KD (field v i):=by
 unfold field;refine zan zhm λo=>?_
 split<;>trivial
theorem zd7{a:Addr}{i:Nat}{v:Value}:KD (updateField a i v):=by
 unfold updateField;refine zan zgV λo=>?_
 split
 ·split
  ·exact⟨λo=>zkx o,trivial⟩
  ·trivial
 ·trivial
theorem zbg{v x:Value}{i:Nat}:KD (setField v i x):=by
 unfold setField
 split
 ·exact zd7
 ·trivial
theorem zbx{e:Value}{f:Option Addr}:KD (Ur e f):=by
 unfold Ur;refine zan zdf λtb=>?_
 split
 ·exact zbg
 ·trivial
theorem ze5:KD stack:=λ_=>trivial
theorem zgn:KD frameEnvs:=by unfold frameEnvs;exact zan ze5 λ_=>trivial
theorem zcC{env:Yv}{outer:List Yv}:KD (behindIsImport env outer):=by
 unfold behindIsImport
 split
 ·trivial
 ·split
  ·trivial
  ·exact zan zdf λ_=>trivial
theorem zlX:KD underTheClaimsCaller:=by unfold underTheClaimsCaller;exact zan ze5 λ_=>trivial
theorem zgO{env:Yv}{i:Bool}:∀{l:List Yv},KD (keptBack env i l)
 | []=>by
  show KD (if(env.scope.isGenerator||env.scope.isCoroutine)=true then Pure.pure X3 else(do return if<-underTheClaimsCaller then .notImplemented else .none))
  split
  ·trivial
  ·exact zan zlX λ_=>trivial
 |_::_=>trivial
theorem zbM:∀{l:List Yv},KD (readyFrames l)
 | []=>by unfold readyFrames;trivial
 | env::outer=>by
  unfold readyFrames
  split
  ·refine zan zgV λo=>?_
   split
   ·trivial
   ·refine zan zcC λ_=>zan zgO λ_=>zan ?_ λ_=>zbM
    exact⟨λo=>⟨rfl,λh=>by obtain⟨c,d,dt,sl⟩:=o;cases dt<;>exact h⟩,trivial⟩
  ·trivial
theorem zd3:∀{l:List Yv},KD (frameObject l)
 | []=>by unfold frameObject;trivial
 |env::outer=>by unfold frameObject;exact zan zbM λ_=>trivial
theorem zek{env:Yv}:KD (frameOf env):=by
 unfold frameOf;refine zan zgn λl=>zan zd3 λo=>?_
 split<;>trivial
theorem zby{f:Addr}{b:Bool}:KD (entryPlaceOf f b):=by
 unfold entryPlaceOf;refine zan ze5 λl=>?_
 split<;>trivial
theorem zf1{ty:String}{vs:List Value}:KD (newFields ty vs):=by
 unfold newFields newObj;dsimp only
 split
 ·trivial
 ·unfold newObjAsIs
  exact zan (m:=PySem.alloc _) (λ_=>trivial) λ_=>trivial
theorem zdT{a b c d e:Value}{l:List Value}:KD (EntryCells.newEntry a b c d e l):=zf1
theorem zc2{e:Value}{env:Yv}:KD (Ut e env):=by
 unfold Ut
 split
 ·refine zan zdf λhead=>?_
  split
  ·refine zan zdf λx=>?_
   split
   ·trivial
   ·exact zan zbg λ_=>zan zek λ_=>zan zby λ_=>zan zdT λ_=>zbg
  ·exact zan zek λ_=>zan zby λ_=>zan zdT λ_=>zbg
 ·trivial
theorem zcF{e:Value}{env:Yv}:KD (leaving env e):=by unfold leaving;exact zan zc2 λ_=>zbx
end IT
namespace IT
open PySem PySem.Spec L2
theorem zkB{P:ZB}{w:World}{H:Hp}{h:Heap}{a:Addr}{o:HO}(x:zaI P w H h a o):∃u,h.get? a=some u:=by
 cases o with|lst xs=>obtain⟨_,_,_,_,e⟩:=x;exact⟨_,e⟩|tup xs=>obtain⟨_,_,_,⟨_,e,_⟩,_⟩:=x;exact⟨_,e⟩|dK kvs=>obtain⟨_,_,_,_,o,_,_,e,_⟩:=x;exact⟨_,e⟩|set S n=>obtain⟨o,_,_,_,e,_⟩:=x;exact⟨_,e⟩|ins C dx fs=>obtain⟨_,_,_,e,_⟩:=x;exact⟨_,e⟩|own y=>obtain⟨_,e⟩:=x;exact⟨_,e⟩|xd fs=>obtain⟨_,⟨_,_,_,e,_⟩,_⟩:=x;exact⟨_,e⟩|rng lo hi=>obtain⟨_,_,_,e⟩:=x;exact⟨_,e⟩|frz ob u=>obtain⟨e,_⟩:=x;exact⟨_,e⟩|tbl ps=>exact⟨_,(show h.get? a=some _ from x)⟩|met f y=>exact⟨_,(show h.get? a=some _ from x)⟩|ext φ=>obtain⟨_,⟨_,e⟩,_⟩:=x;exact⟨_,e⟩
theorem zdb{fs:List Addr}{H0 H1:Hp}{h0 h h':Heap}(u:Un fs [] H0 H1 h0 h)(kp:∀b o,h0.get? b=some o->b∉fs->∀o',h.get? b=some o'->h'.get? b=some o')
  (sl:∀b o,h0.get? b=some o->b∈fs->∀o',h.get? b=some o'->∃s,h'.get? b=some {o' with slots:=s}):Un fs [] H0 H1 h0 h' where
 keep:=λb o q n hb hx=>kp b o q hb o (u.keep b o q n hb hx)
 slot:=λb o q n hb hx=>by obtain⟨s,e⟩:=u.slot b o q n hb hx;obtain⟨s',e'⟩:=sl b o q hb _ e;exact⟨s',e'⟩
 free:=u.free
 there:=λb o q hx=>by
  obtain⟨o',e⟩:=u.there b o q hx
  by_cases hb:b∈fs
  ·obtain ⟨s',e'⟩:=sl b o q hb _ e
   exact⟨_,e'⟩
  ·exact⟨o',kp b o q hb o' e⟩
 tups:=u.tups
 frzs:=u.frzs
 tbls:=u.tbls
theorem zcn{P:ZB}{w:World}{H:Hp}{h h':Heap}(x:HOk P w H h)(k:∀b,(∃o,H b=some o)->∀u,h.get? b=some u->h'.get? b=some u):HOk P w H h':=λa o e=>(x a o e).stay (λb u hb q=>k b (hb.elim (λz=>⟨o,z▸e⟩) λz=>⟨_,z⟩) u q) (λ_ q=>q) λ_ _ q=>q
structure Fly(P:ZB)(w:World)(outer:List Yv)(H:Hp)(s:Shared)(C:Value)(a:Addr)(H':Hp)(s':Shared):Prop where
 os:s'.os=s.os
 bare:PyProof.Rows.AllBare s'.gens
 un:Un (frs outer) [] H H' s.heap s'.heap
 hok:HOk P w H' s'.heap
 fly:∃(B:Heap) (t:Value),Heap.FlyingW B outer a C t s'.heap/\(∀b o,s.heap.get? b=some o->b∉frs outer->∃u,B.get? b=some u)/\∀b o,H' b=some o->∃u,B.get? b=some u
def CXk(P:ZB)(w:World):CXT:=λouter H s E e s'=>∃a C od H',e=.ref a/\Fly P w outer H s C a H' s'/\DN a od s'/\E C od H'
section
variable {X:Cx}{pins:List (Addr×Obj)}{σ:St}{H:Hp}{s s':Shared}{E:XK}{EE:Value->Shared->Prop}
structure zd2(X:Cx):Prop where
 ex:X.ex=[]
 st:X.stack=X.env::X.outer
 fr:X.env.frame=some X.env.locals
theorem ziA(hd:zd2 X)(I:Inv X pins σ H s){b:Addr}{o:Obj}(e:X.s₀.heap.get? b=some o)(hb:b∉X.fs):b∉frs X.stack:=λz=>by
 rcases ZJ.mp (I.stkSub b z) with q | q
 ·exact absurd (ZE (ZW e) I.ok.above) (by rw[q];exact YO _)
 ·exact hb q
theorem zoM(hd:zd2 X){b:Addr}(hb:b∈X.fs):b∈frs X.stack:=by rw[hd.st];unfold frs;rw[YE,hd.fr];exact ZU _ hb
theorem zmJ(hd:zd2 X)(I:Inv X pins σ H s){h':Heap}{e:Addr}{C:Value}{vs:List Value}(m:Vs s.heap h' e C vs)(q:E C none H):
  wpAny (model X.prog X.w) X.A (leaving X.env (.ref e)) (λ_ s''=>CXk X.prog X.w X.outer X.H₀ X.s₀ E (.ref e) s'') EE {s with heap:=h'}:=by
 have hd0:DN e none {s with heap:=h'}:=let ⟨t,e1,_⟩:=m.there;⟨_,e1,rfl⟩
 refine ZC (zei zcF hd0 (Q:=λ_ s''=>∃a C H',ZD e=.ref a/\Fly X.prog X.w X.outer X.H₀ X.s₀ C a H' s''/\E C none H') (E:=EE) ?_) (λ_ s'' z=>let ⟨⟨a,C',H',ea,f,q⟩,d⟩:=z;⟨a,C',none,H',ea,f,by cases ea;exact d,q⟩) (λ_ _ z=>z.1)
 have hst:=I.stack
 refine wpAny_leaves_madeW (base:=VY s.heap (frs X.stack)) (h:=s.heap) (L:=X.env.locals) (outer:=X.outer) (by rw[I.ok.frames,hd.st]) hd.fr (λb o q=>VJ _ q)
  (by rw[<-hd.st];exact PySem.W.funFrames_hide hst λenv he a hf=>WB.mpr ⟨env,he,hf⟩) m λh2 t fl tup tn up=>?_
 have kp:∀b o,s.heap.get? b=some o->b∉frs X.stack->h2.get? b=some o:=λb o e hb=>fl.1 b o (Yo _ e hb)
 have sl:∀b o,b∈frs X.stack->s.heap.get? b=some o->∃z,h2.get? b=some {o with slots:=z}:=λb o hb e=>by obtain⟨_,o',e',hn⟩:=hst.mem hb;rw[e] at e';cases e';exact up b o (m.keeps b o e) hn
 have b0:=I.base;rw[hd.ex] at b0
 refine ⟨e,C,H,rfl,⟨I.os,I.bare,zdb b0 (λb o e hb o' e'=>kp b o' e' (ziA hd I e hb)) (λb o e hb o' e'=>sl b o' (zoM hd hb) e'),zcn I.hok (λb ⟨o,ho⟩ u e'=>kp b u e' λz=>by rw[I.stkFree b z] at ho;cases ho),_,_,fl,λb o e hb=>?_,λb o ho=>?_⟩,q⟩
 ·obtain ⟨o',e'⟩:=b0.there b o e (by simp)
  exact⟨o',Yo _ e' (ziA hd I e hb)⟩
 ·obtain ⟨u,e'⟩:=zkB (I.hok b o ho)
  exact⟨u,Yo _ e' λz=>by rw[I.stkFree b z] at ho;cases ho⟩
theorem zmW(hd:zd2 X)(I:Inv X pins σ H s){e:Value}(c:CXk X.prog X.w X.stack H s E e s'):
  wpAny (model X.prog X.w) X.A (leaving X.env e) (λ_ s''=>CXk X.prog X.w X.outer X.H₀ X.s₀ E e s'') EE s':=by
 obtain⟨a,C,od,H',rfl,⟨os,bare,un,hok,B,t,fl,k3,k2⟩,dn,q⟩:=c
 refine ZC (zei zcF dn (Q:=λ_ s''=>∃a' C H',ZD a=.ref a'/\Fly X.prog X.w X.outer X.H₀ X.s₀ C a' H' s''/\E C od H') (E:=EE) ?_) (λ_ s'' z=>let ⟨⟨a',C',H',ea,f,q⟩,d⟩:=z;⟨a',C',od,H',ea,f,by cases ea;exact d,q⟩) (λ_ _ z=>z.1)
 have I':Inv X pins σ H' s':=I.call' os un hok bare (by simp);have b0:=I.base;have b1:=I'.base;rw[hd.ex] at b0 b1;have fl':=fl;rw[hd.st] at fl';refine wpAny_leaves_onW (by rw[I.ok.frames,hd.st]) hd.fr fl' λh2 fl2 up=>?_;have kp:∀b u,B.get? b=some u->s'.heap.get? b=some u/\h2.get? b=some u:=λb u e=>⟨fl.1 b u e,fl2.1 b u e⟩;refine⟨a,C,H',rfl,⟨I'.os,I'.bare,zdb b1 (λb o e hb o' e'=>?_) (λb o e hb o' e'=>?_),zcn hok (λb ⟨o,ho⟩ u e'=>?_),B,t,fl2,λb o e hb=>?_,k2⟩,q⟩
 ·obtain ⟨o1,e1⟩:=b0.there b o e (by simp)
  obtain⟨u,eu⟩:=k3 b o1 e1 (ziA hd I e hb);obtain⟨z1,z2⟩:=kp b u eu;rw[e'] at z1;cases z1;exact z2
 ·obtain ⟨_,o2,e2,hn⟩:=fl.2.2.1.mem (zoM hd hb)
  rw[e'] at e2;cases e2;exact up b o' e' hn
 ·obtain ⟨u',eu⟩:=k2 b o ho
  obtain⟨z1,z2⟩:=kp b u' eu;rw[e'] at z1;cases z1;exact z2
 ·obtain ⟨o1,e1⟩:=b0.there b o e (by simp)
  exact k3 b o1 e1 (ziA hd I e hb)
def Cx.caught(X:Cx)(e:Addr)(E:Value->Shared->Prop):Cx:={X with A:=X.A.mark (some (.ref e)),calm:=false,xe:=E}
theorem Inv.caught(I:Inv X pins σ H s)(e:Addr)(E:Value->Shared->Prop):Inv (Cx.caught X e E) pins σ H s:=
 ⟨⟨I.ok.mod,I.ok.kind,I.ok.glob,I.ok.blt,I.ok.above,I.ok.inj,I.ok.has,I.ok.cab,λz=>(by cases z),I.ok.frames,I.ok.stk,I.ok.exf,I.ok.bs,I.ok.bsz,I.ok.noex,I.ok.exfs,I.ok.funs,I.ok.frf⟩,
  I.os,I.bare,I.base,I.loc,I.cell,I.free,I.freeC,I.pin,I.hok,I.len⟩
theorem Inv.uncaught{e:Addr}{E:Value->Shared->Prop}(I:Inv X pins σ H s){σ':St}{H':Hp}{s':Shared}(J:Inv (Cx.caught X e E) pins σ' H' s'):Inv X pins σ' H' s':=⟨I.ok,J.os,J.bare,J.base,J.loc,J.cell,J.free,J.freeC,J.pin,J.hok,J.len⟩
end
end IT
namespace IT
open PySem PySem.Spec L2
section
variable {X:Cx}
theorem zdx{es:List Expr}{t:TA}(h:PA X.nox es t):PA X es t:=λpos pins s σ H Q I q=>ZC (h pos pins s σ H Q (I.wish _) q) (λ_ _ ⟨vs,H',I',r,q⟩=>⟨vs,H',I'.unwish,r,q⟩) λ_ _ z=>Yh z
theorem zng{tg:Expr}{t:TG}(h:PG X.nox tg t):PG X tg t:=λpins s σ H v u Q I r q=>ZC (h pins s σ H v u Q (I.wish _) r q) (λ_ _ ⟨σ',H',I',q⟩=>⟨σ',H',I'.unwish,q⟩) λ_ _ z=>Yh z
theorem zqd{tg iter:Expr}{t:TI}(h:PI X.nox tg iter t):PI X tg iter t:=λpins s σ H Q I q=>ZC (h pins s σ H Q (I.wish _) q) (λv s1 z=>ZC z (λitv s2 ⟨it,fp,tn,J,H',e,I',T,t0,f,q⟩=>⟨it,fp,tn,J,H',e,I'.unwish,T,t0,f,q⟩) λ_ _ z=>Yh z) λ_ _ z=>Yh z
theorem zpB{st:Stmt}{t:TS}(h:PS X.nox st t):PS X st t:=λpins s σ H D I hw=>ZC (h pins s σ H D (I.wish _) hw) (λ_ _ q=>q.unwish) λ_ _ z=>Yh z
end
inductive RX(K:Z7)(m:IT.Env->M R)(E:R->Hp->Prop)(σ:St)(H:Hp):Prop where|mk (μ:List Addr) (h:Sto) (env:IT.Env) (R0:Rep K μ h H) (re:RepE K μ h H env σ) (r:R) (h':Sto) (e:m env h=some (r,h')) (k:∀μ' H',Stp μ h H μ' h' H'->Rep K μ' h' H'->E r H')
def XS(X:Cx)(E:R->Hp->Prop)(st:Stmt)(m:IT.Env->M R):Prop:=∀(pins:List (Addr×Obj)) (s:Shared) (σ:St) (H:Hp),Inv X pins σ H s->RX X.K m E σ H->wpAny (model X.prog X.w) X.A (exec st X.env) (λ_ _=>False) X.xe s
def XSs(X:Cx)(E:R->Hp->Prop)(sts:List Stmt)(m:IT.Env->M R):Prop:=∀(pins:List (Addr×Obj)) (s:Shared) (σ:St) (H:Hp),Inv X pins σ H s->RX X.K m E σ H->wpAny (model X.prog X.w) X.A (execs sts X.env) (λ_ _=>False) X.xe s
def znw:Ends:={nx:=λ_ _=>False,rt:=λ_ _=>False}
section
variable {X:Cx}{E:R->Hp->Prop}
theorem zlo{pins:List (Addr×Obj)}{f:Flow}{s:Shared}(h:SP X pins znw f s):False:=by
 cases f with|next=>obtain⟨_,_,_,z⟩:=h;exact z|brk=>obtain⟨_,_,_,z⟩:=h;exact z|cont=>obtain⟨_,_,_,z⟩:=h;exact z|ret u=>obtain⟨_,_,_,_,_,z⟩:=h;exact z
theorem zkl{st:Stmt}{t:TS}{m:IT.Env->M R}(h:PS X st t)(i:∀σ H,RX X.K m E σ H->t znw σ H):XS X E st m:=λpins s σ H I q=>ZC (h pins s σ H znw I (i σ H q)) (λ_ _ z=>zlo z) λ_ _ z=>z
theorem zbl{st:Stmt}:XS X E st (λ_ _=>none):=λpins s σ H I ⟨_,_,_,_,_,_,_,e,_⟩=>by cases e
theorem zof:XSs X E [] (λ_ _=>none):=λpins s σ H I ⟨_,_,_,_,_,_,_,e,_⟩=>by cases e
theorem zms{st:Stmt}{sts:List Stmt}{f:IT.Env->M (Fl×IT.Env)}{m ms:IT.Env->M R}(h1:PS X st (tS X.K f))(x1:XS X E st m)(h2:XSs X E sts ms):
  XSs X E (st::sts) (λσ h=>match f σ h with
   |some ((fl,σ1),h1)=>match fl with
    |.nx=>ms σ1 h1|_=>none
   |none=>m σ h):=by
 intro pins s σ H I ⟨μ,h,env,R0,re,r,h',e,k⟩
 (try dsimp only at e)
 cases ef:f env h with
 |none=>rw[ef] at e;exact WY (ZC (x1 pins s σ H I ⟨μ,h,env,R0,re,r,h',e,k⟩) (λ_ _ z=>z.elim) λ_ _ z=>z)
 | some p=>
  obtain⟨⟨fl,env1⟩,h1'⟩:=p;rw[ef] at e
  cases fl with
  |nx=>
   refine WY (thn (h1 pins s σ H {nx:=λσ1 H1=>RX X.K ms E σ1 H1,rt:=λ_ _=>False} I ⟨μ,h,env,R0,re,.nx,env1,h1',ef,λμ1 H1 σ1 s1 R1 re1=>⟨μ1,h1',env1,R1,re1,r,h',e,λμ2 H2 s2 R2=>k μ2 H2 (s1.trans s2) R2⟩⟩) λf s1 q=>?_)
   cases f with|next=>obtain⟨σ1,H1,I1,q⟩:=q;exact h2 pins s1 σ1 H1 I1 q|brk=>obtain⟨_,_,_,z⟩:=q;exact z|cont=>obtain⟨_,_,_,z⟩:=q;exact z|ret u=>obtain⟨_,_,_,_,_,z⟩:=q;exact z
  |brk=>cases e|cnt=>cases e|ret _=>cases e
theorem zrd{c:Expr}{a b:List Stmt}{pos:Pos}{ft:IT.Env->M Bool}{fa fb:IT.Env->M R}(hc:IT' X c ft)(ha:XSs X E a fa)(hb:XSs X E b fb):
  XS X E (.If c a b pos) (λσ=>bnd (ft σ) λt=>if t then fa σ else fb σ):=by
 intro pins s σ H I ⟨μ,h,env,R0,re,r,h',e,k⟩;simp only[zab] at e;obtain⟨t,h1,e1,e2⟩:=e;refine wpAny_If (thn (hc pins s σ H (λb H1=>b=t/\RX X.K (if t=true then fa else fb) E σ H1) I ⟨μ,h,env,R0,re,t,h1,e1,λμ1 H1 v s1 R1 hv=>?_⟩) λd s1 ⟨H1,I1,q1⟩=>?_)
 ·subst hv
  refine⟨rfl,μ1,h1,env,R1,re.stp s1 R0,r,h',?_,λμ2 H2 s2 R2=>k μ2 H2 (s1.trans s2) R2⟩
  cases t<;>exact e2
 ·obtain ⟨rfl,q⟩:=q1
  cases d with|true=>exact ha pins s1 σ H1 I1 q|false=>exact hb pins s1 σ H1 I1 q
def tB(K:Z7)(E:R->Hp->Prop)(f:IT.Env->M (Fl×IT.Env))(m:IT.Env->M R):TS:=λD σ H=>tS K f D σ H\/RX K m E σ H
theorem zl5{sts:List Stmt}{f:IT.Env->M (Fl×IT.Env)}{m:IT.Env->M R}(h:PSs X sts (tS X.K f))(x:XSs X E sts m):PSs X sts (tB X.K E f m):=λpins s σ H D I q=>by
 rcases q with q | q
 ·exact h pins s σ H D I q
 ·exact ZC (x pins s σ H I q) (λ_ _ z=>z.elim) λ_ _ z=>z
theorem zp5{tg iter:Expr}{body:List Stmt}{pos:Pos}{t:Tg}{fi:IT.Env->M Wk}{fb:IT.Env->M (Fl×IT.Env)}{fx:IT.Env->M R}(hp:U3 (model X.prog X.w) X.A X.env X.xe)(hc:X.calm=true)(hi:PI X tg iter (tI X.K fi))(hg:PG X tg (tGI X.K t))(hb:PSs X body (tS X.K fb))(hx:XSs X E body fx)
  (hs:∀x,Ys iter X.env x=pure x) (hwl:∀σ h w h',fi σ h=some (w,h')->WlOk w h'):
  XS X E (.For tg iter body [] pos) (λσ=>bnd (fi σ) λw=>zgU w.l (λx σ=>bnd (zaq t x σ) λσ'=>fb σ') (λx σ=>bnd (zaq t x σ) λσ'=>fx σ') w.xs σ):=by
 refine zkl (zmV hp hc hi hg (zl5 hb hx) hs) λσ H q0=>?_;obtain⟨μ,h,env,R0,re,r,h',e,k⟩:=q0;simp only[zab] at e;obtain⟨w,h1,e1,e2⟩:=e;refine⟨μ,h,env,R0,re,w,h1,e1,λμ1 H1 J s1 R1 W1 _=>?_⟩
 refine ⟨λi m σ2 H2=>∃μ2 h2 env2,Stp μ1 h1 H1 μ2 h2 H2/\zaA w.l h1 h2=true/\Rep X.K μ2 h2 H2/\RepE X.K μ2 h2 H2 env2 σ2/\i+m=w.xs.length ∧
   zgU w.l (λx σ=>bnd (zaq t x σ) λσ'=>fb σ') (λx σ=>bnd (zaq t x σ) λσ'=>fx σ') (w.xs.drop i) env2 h2=some (r,h'),⟨w.xs.length,μ1,h1,env,Stp.refl,zcI _ _ (hwl _ _ _ _ e1),R1,re.stp s1 R0,by omega,by rw[XM];exact e2⟩,?_⟩
 rintro i m σ2 H2 ⟨μ2,h2,env2,s2,sy2,R2,re2,him,el⟩
 cases hx':w.xs[i]? with
 |none=>
  have hi':w.xs.length<=i:=by simpa using hx'
  rw[XX hi'] at el;cases el
 | some x=>
  have hil:i<w.xs.length:=(Z2.mp hx').1
  have hdrop:w.xs.drop i=x::w.xs.drop (i+1):=by rw[XG hil,(Z2.mp hx').2]
  rw[hdrop] at el;unfold zgU at el;obtain⟨go,yld⟩:=W1.go μ2 h2 H2 i x s2 R2 sy2 hx'
  refine .inr ⟨go,λσ' H'=>∃m',m'<m/\∃μ5 h5 env5,Stp μ1 h1 H1 μ5 h5 H'/\zaA w.l h1 h5=true/\Rep X.K μ5 h5 H'/\RepE X.K μ5 h5 H' env5 σ'/\(i+1)+m'=w.xs.length ∧
    zgU w.l (λx σ=>bnd (zaq t x σ) λσ'=>fb σ') (λx σ=>bnd (zaq t x σ) λσ'=>fx σ') (w.xs.drop (i+1)) env5 h5=some (r,h'),λσ' H' hN=>hN,λv H' hy=>?_⟩
  obtain⟨sy,Ry,zx⟩:=yld v H' hy
  cases ef:bnd (zaq t x env2) (λσ'=>fb σ') h2 with
  |none=>
   rw[ef] at el;have el:bnd (zaq t x env2) (λσ'=>fx σ') h2=some (r,h'):=el;simp only[zab] at el;obtain⟨env4,h4,e4,e5⟩:=el
   have:=zcr e4
   subst this;exact⟨μ2,_,env2,x,env4,Ry,re2.stp sy R2,zx,e4,λσ4 re4=>.inr ⟨μ2,_,env4,Ry,re4,r,h',e5,λμ5 H5 s5 R5=>k μ5 H5 ((s1.trans s2).trans (sy.trans s5)) R5⟩⟩
  | some p=>
   obtain⟨⟨fl3,env3⟩,h3⟩:=p;rw[ef] at el;simp only[zab] at ef;obtain⟨env4,h4,e4,e5⟩:=ef
   have:=zcr e4
   subst this;refine⟨μ2,_,env2,x,env4,Ry,re2.stp sy R2,zx,e4,λσ4 re4=>.inl ⟨μ2,_,env4,Ry,re4,fl3,env3,h3,e5,λμ5 H5 σ5 s5' R5 re5=>?_⟩⟩;have s5:=sy.trans s5'
   cases fl3 with
   | nx=>
    simp only at el
    split at el
    ·rename_i sy5
     exact⟨m-1,by omega,μ5,h3,env3,s2.trans s5,zaK sy2 sy5,R5,re5,by omega,el⟩
    ·cases el
   | cnt=>
    simp only at el
    split at el
    ·rename_i sy5
     exact⟨m-1,by omega,μ5,h3,env3,s2.trans s5,zaK sy2 sy5,R5,re5,by omega,el⟩
    ·cases el
   |brk=>cases el|ret r=>cases el
end
abbrev ClsV:=R->Option Value
def OdOk(r:R)(od:Option Addr)(H:Hp):Prop:=match r with|.d (.tup [_,.int k])=>∃dx,od=some dx/\H dx=some (.xd [("number",.int k)])|_=>od=none
def spX(K:Z7)(cv:ClsV)(np:Nat)(m:List R->M R):Sp:=λvs H _ E=>vs.length=np/\∃μ h rs r h' C,Rep K μ h H/\zaL K μ h H rs vs/\m rs h=some (r,h')/\cv r=some C/\∀μ' H' od,Stp μ h H μ' h' H'->Rep K μ' h' H'->OdOk r od H'->E C od H'
structure FunX(X:Cx)(cv:ClsV)(n:Nat)(x:Str)(np:Nat)(dfl:List D)(m:List R->M R):Prop where
 ex:∃f fd ps dvs,FnOk X.prog X.w X.K X.mg X.base (CXk X.prog X.w) n f fd ps (spX X.K cv np m)/\X.mg x=some (.ref f)/\Y0 X.K (.ref f)=true/\(∀A H,RepDs X.K A H dfl dvs)/\(∀j,j<=dfl.length->∃ds,zcm X.K fd ps ds/\Vals (dvs.drop j) ds)
 fill:∀rs,m rs=m (zao np dfl rs)
 len:∀rs h p,m rs h=some p->(zao np dfl rs).length=np
 cls:∀rs h r h',m rs h=some (r,h')->∃C,cv r=some C
section
variable {X:Cx}{E:R->Hp->Prop}{cv:ClsV}
def wX(cv:ClsV)(E:R->Hp->Prop):XK:=λC od H=>∃r,cv r=some C/\OdOk r od H/\E r H
theorem zg9{n np:Nat}{x:Str}{dfl:List D}{m:List R->M R}{e:Expr}{es:List Expr}{p pos:Pos}{fs:IT.Env->M (List R)}(hF:FunX X cv n x np dfl m)(hr:Room n X.A)(hg:Gl X x)(hx:zc4 (CXk X.prog X.w) X (wX cv E))(ha:IA X (e::es) fs)(hf:∀σ h rs h',fs σ h=some (rs,h')->rs.length=(e::es).length)
  (hdb:(x==("__debug__":Str))=false) (he:ZT (e::es) X.env=(false,eval e X.env)::ZT es X.env) (hpl:(backTo pos (ZT es X.env)).any (·.1)=false):
  PE X (.Call (.Name x p) (e::es) [] pos) (λσ H _=>RX X.K (λσ=>bnd (fs σ) λrs=>m rs) E σ H):=by
 obtain⟨f,fd,ps,dvs,F,hm,hk,hd,hb⟩:=hF.ex
 by_cases hj:(e::es).length+dfl.length-np<=dfl.length/\¬(e::es).length+dfl.length<np
 ·obtain ⟨hj,hj2⟩:=hj
  obtain⟨ds,hb,hv⟩:=hb _ hj;refine PE.imp (ze3 F hr hg hm hk hb hv hx ha hdb he hpl) λσ H Q q0=>?_;obtain⟨μ,h,env,R0,re,r,h',ee,k⟩:=q0;simp only[zab] at ee;obtain⟨rs,h1,e1,e2⟩:=ee;refine⟨μ,h,env,R0,re,rs,h1,e1,λμ1 H1 vs s1 R1 q1=>?_⟩;have hlen:=hF.len _ _ _ e2;obtain⟨C,hC⟩:=hF.cls _ _ _ _ e2;rw[hF.fill rs] at e2
  have qq:zaL X.K μ1 h1 H1 (zao np dfl rs) (vs++dvs.drop ((e::es).length+dfl.length-np)):=by
   rw[zaF (by rw[hf _ _ _ _ e1];exact hj2),hf _ _ _ _ e1]
   exact q1.app (RepDs.drop _ (hd _ _)).rs
  exact⟨by rw[<-qq.length];exact hlen,μ1,h1,zao np dfl rs,r,h',C,R1,qq,e2,hC,λμ2 H2 od s2 R2 o2=>⟨r,hC,o2,k μ2 H2 (s1.trans s2) R2⟩⟩
 ·intro pins s σ H Q I q0
  exfalso
  obtain⟨μ,h,env,R0,re,r,h',ee,k⟩:=q0;simp only[zab] at ee;obtain⟨rs,h1,e1,e2⟩:=ee;have hlen:=hF.len _ _ _ e2;have hrs:=hf _ _ _ _ e1
  by_cases hs:rs.length+dfl.length<np
  ·rw [zaP hs] at hlen
   omega
  ·rw [zaF hs] at hlen
   simp only[Zw,ZR,YN] at hlen;omega
end
abbrev veM:List Value:=[.type "ValueError",.type "Exception",.type "BaseException",.type "object"]
structure ExcK(K:Z7)(C:Addr):Prop where
 ex:∃nm q N bs bm hdct sn sub ab col dd k0 k1 k2 k3 k5,K.lookup C=some (Wr nm q C N bs bm hdct sn sub ab col dd k0 k1 k2 k3 k5 "ValueError.__new__")/\Uw K N=true/\ZS K N "__init__"=some none/\∀h,K.In h->UJ h veM bm
theorem zmQ{K:Z7}{h:Heap}{A:Addr}{c0:Value}{dd:Option Addr}{cd:ClassData}{sl:Array (Option Value)}(X:K.In h)(l:K.lookup A=some ⟨c0,dd,.cls cd,sl⟩)(ok:Uw K cd.ns=true)(ni:ZS K cd.ns "__init__"=some none){bm:List Value}(t:UJ h veM bm):UJ h veM (.ref A::bm):=.own (X _ _ l) (.of_isNs (PySem.W.isNs_of_in X ok)) (PySem.W.nsMap_none_of_in X ok ni) t
section
variable {X:Cx}{E:R->Hp->Prop}{cv:ClsV}
end
end IT
namespace IT
open PySem PySem.Spec L2
section
variable {X:Cx}{pins:List (Addr×Obj)}{σ:St}{H:Hp}{s:Shared}
theorem zdc{E:Value->Shared->Prop}(h:X.xe=λ_ _=>False):(X.wish E).nox=X:=by cases X;simp only at h;subst h;rfl
theorem znL{CX:CXT}{n:Nat}{f:Addr}{fd:FuncData}{ps:List Str}{sp:Sp}{dvs:List V}{ds:List Value}{E:XK}{Q:VK}{us:List Value}{vs:List V}(F:FnOk X.prog X.w X.K X.mg X.base CX n f fd ps sp)(hr:Room n X.A)(hb:zcm X.K fd ps ds)(hd:Vals dvs ds)
  (hx:∀e s',CX X.stack H s E e s'->X.xe e s') (I:Inv X pins σ H s) (r:Vals vs us) (h:sp (vs++dvs) H Q E):wpAny (model X.prog X.w) X.A (call (.ref f) us) (EP X pins σ Q) X.xe s:=by
 have hv:Vals (vs++dvs) (us++ds):=r.append hd;refine Wc (XC (F.run X.A X.stack s H ⟨us,[]⟩ _ _ Q E hr I.env0 (hb s us I.kIn (by rw[<-hv.length,F.len _ _ _ _ h])) hv h) λres s' hq=>?_)
 match res,hq with|.error e,hq=>exact hx e s' hq|.ok (.ret u),hq=>exact I.after hq
theorem zkI{CX:CXT}{n:Nat}{f:Addr}{fd:FuncData}{ps:List Str}{sp:Sp}{dvs:List V}{ds:List Value}{E:XK}{Q:VK}{x:Str}{p pos:Pos}{e:Expr}{es:List Expr}{t:TA}(F:FnOk X.prog X.w X.K X.mg X.base CX n f fd ps sp)(hr:Room n X.A)(hg:Gl X x)(hm:X.mg x=some (.ref f))(hk:Y0 X.K (.ref f)=true)(hb:zcm X.K fd ps ds)(hd:Vals dvs ds)
  (ha:PA X (e::es) t) (hdb:(x==("__debug__":Str))=false) (he:ZT (e::es) X.env=(false,eval e X.env)::ZT es X.env) (hpl:(backTo pos (ZT es X.env)).any (·.1)=false)
  (I:Inv X pins σ H s) (h:t σ H λvs H1=>sp (vs++dvs) H1 Q E) (hx:∀H1 s1 e s',Inv X pins σ H1 s1->CX X.stack H1 s1 E e s'->X.xe e s'):
  wpAny (model X.prog X.w) X.A (eval (.Call (.Name x p) (e::es) [] pos) X.env) (EP X pins σ Q) X.xe s:=
 Yg (zcD I hg hm (VH (h₀:=X.base) I.ok.mod.kin hk (thn (ha pos pins s σ H _ I h) λus s1 ⟨vs,H1,I1,r,q⟩=>⟨I1.kIn,znL F hr hb hd (λe s' c=>hx H1 s1 e s' I1 c) I1 r q⟩) he hpl) hdb)
end
section
variable {X:Cx}{cv:ClsV}
end
end IT
namespace IT
open PySem PySem.Spec L2
section
variable {K:Z7}{μ:List Addr}{h:Sto}{H:Hp}
end
section
variable {X:Cx}{o e:Expr}{g k0:IT.Env->M R}{k:Str}{pos pos':Pos}
inductive tPr(K:Z7)(ks:List Str)(f:IT.Env->M (List R))(σ:St)(H:Hp)(Q:List (V×V)->Hp->Prop):Prop where|mk (μ:List Addr) (h:Sto) (env:IT.Env) (R0:Rep K μ h H) (re:RepE K μ h H env σ) (p:Post K μ h H (zaL K) (f env h) (λvs H'=>Q (List.zipWith (λk v=>(V.str k,v)) ks vs) H'))
def IP(X:Cx)(pos:Pos)(ks:List Str)(keys:List (Option Expr))(vals:List Expr)(f:IT.Env->M (List R)):Prop:=
 ∀ (pins:List (Addr×Obj)) (s:Shared) (σ:St) (H:Hp) (Q:List (V×V)->Hp->Prop),Inv X pins σ H s->tPr X.K ks f σ H Q →
  wpAny (model X.prog X.w) X.A (evalPairs (pairTrees keys vals X.env pos)) (λvs s'=>∃ps H',Inv X pins σ H' s'/\VV ps vs/\Q ps H') X.xe s
theorem zqG:IP X pos [] [] [] (λ_=>ok []):=by intro pins s σ H Q I q;obtain⟨μ,h,env,R0,re,r,h',e,k⟩:=q;obtain⟨rfl,rfl⟩:=zac.mp e;exact pairTrees_nil_walk ⟨[],H,I,.nil,k μ H [] Stp.refl R0 .nil⟩
theorem zno{ks:List Str}{keys:List (Option Expr)}{vals:List Expr}{fs:IT.Env->M (List R)}{j:Nat}{p:Pos}(he:IE X e g)(hr:IP X pos ks keys vals fs):
  IP X pos (k::ks) (some (.Constant (.str k) j p)::keys) (e::vals) (λσ=>bnd (g σ) λr=>bnd (fs σ) λrs=>ok (r::rs)):=by
 intro pins s σ H Q I q;obtain⟨μ,h,env,R0,re,r,h',ee,kk⟩:=q;simp only[zab,zac] at ee;obtain⟨x,h1,e1,xs,h2,e2,rfl,rfl⟩:=ee;refine pairTrees_cons_walk (thn (zhL (X:=X) (x:=k) (j:=j) (pos:=p) pins s σ H (λv H1=>v=.str k/\H1=H) I ⟨rfl,rfl⟩) λu s1 q_=>?_);obtain⟨y,H1,I1,ry,ey,eH⟩:=q_;subst ey eH;refine thn (he pins s1 σ H1 _ I1 ⟨μ,h,env,R0,re,x,h1,e1,λμ1 H2 v s2 R1 q1=>(⟨s2,R1,q1⟩:Stp μ h H1 μ1 h1 H2/\Rep X.K μ1 h1 H2/\RepR X.K μ1 h1 H2 x v) |> λz=>(show(∃μ1,Stp μ h H1 μ1 h1 H2/\Rep X.K μ1 h1 H2/\RepR X.K μ1 h1 H2 x v) from⟨μ1,z⟩)⟩) λw s2 q_=>?_;obtain⟨v,H2,I2,rv,μ1,st1,R1,q1⟩:=q_;exact thn (hr pins s2 σ H2 (λps H3=>Q ((.str k,v)::ps) H3) I2 ⟨μ1,h1,env,R1,re.stp st1 R0,xs,h2,e2,λμ2 H3 vs s3 R2 q2=>kk μ2 H3 (v::vs) (st1.trans s3) R2 (.cons (q1.stp s3 R1) q2)⟩) λws s3 ⟨ps,H3,I3,rel,q3⟩=>⟨(.str k,v)::ps,H3,I3,.cons ⟨ry,rv⟩ rel,q3⟩
end
end IT
namespace IT
open PySem PySem.W
section
variable {K:Frag}{prog:ZB}{w:World}{A:Around}{E:Value->Shared->Prop}{s:Shared}{x D:Addr}{ox:Obj}{odo:Option Obj}
structure zfC(K:Frag)(D:Addr):Prop where
 ga:findIn K (.ref D) "__getattribute__"=some (some (.builtin "BaseException.__getattribute__"))
 gt:findIn K (.ref D) "__getattr__"=some none
 cl:findIn K (.ref D) "__class__"=some (some (.builtin "object.__class__"))
 be:mroIn K D (.type "BaseException")=some true
 ob:mroIn K D (.type "object")=some true
theorem zhY{M:Model}{nameV:Value}{Q:Unit->Shared->Prop}(X:K.In s.heap)(I:InstAt s.heap x ox D odo)(c:zfC K D)(hq:Q () s):
  wpAny M A (UX "BaseException.__getattribute__" ⟨[.ref x,nameV],[]⟩) Q E s:=by
 have L0:=I.type (M:=M);have L1:=looks_mroIn (M:=M) X c.be;have ha:=F.args_bexc_ga (.ref x) nameV
 have hk:builtinKind "BaseException.__getattribute__"=some .slot:=by decide +kernel
 have hsplit:splitId "BaseException.__getattribute__"=some ("BaseException", "__getattribute__"):=by decide +kernel
 obtain⟨hh,gg,d,t,os⟩:=s;simp only[UX,hk,hsplit];unfold UT
 repeat lk
 exact hq
theorem zjk{tk:Tok}{Q:Fin->Shared->Prop}(X:K.In s.heap)(I:InstAt s.heap x ox D odo)(c:zfC K D)(hq:Q (.done (.ret (.ref D))) s):
  wpAny (model prog w) A (Zb.«object.__getattribute__» ⟨[.ref x,.str "__class__" tk],[]⟩) Q E s:=by
 have L0:=I.type (M:=model prog w);have L1:=looks_findIn (M:=model prog w) X c.cl;obtain⟨hh,gg,d,t,os⟩:=s;have hT5:(⟨hh,gg,d,t,os⟩:Shared).TypeIs (.builtin "object.__class__") "getset_descriptor":=F.typeOf_object_class;have f5:=F.typeOf_object_class;have f6:=F.slot_gs_get.lookup;have f7:=F.slot_gs_set.lookup
 repeat(any_goals (first | assumption | with_reducible refine L0.at ?_ | with_reducible refine L1.at ?_ | wp_step))
 refine class_get (ox:=ox) (od:=odo) X I c.ob ?_
 repeat(any_goals (first | assumption | wp_step))
theorem zlY{Q:Option Value->Shared->Prop}(X:K.In s.heap)(I:InstAt s.heap x ox D odo)(c:zfC K D)(h:Q (some (.ref D)) {s with toks:=s.toks+1}):wpAny (model prog w) A (getAttr? (.ref x) "__class__") Q E s:=by
 have L0:=I.type (M:=model prog w);have L1:=looks_findIn (M:=model prog w) X c.ga;have L2:=looks_findIn (M:=model prog w) X c.gt;obtain⟨hh,gg,d,t,os⟩:=s;have f3:=Wg.ga.bind (.ref x)
 have two:∀b:Bool,(b&&Yd "BaseException.__getattribute__"==Yd "object.__getattribute__")=false:=λb=>by
  cases b
  ·rfl
  ·decide +kernel
 have hx1:=two (onTheHeap (.ref D));have hx2:(Yd "BaseException.__getattribute__"==Yd "object.__getattribute__")=false:=two true;unfold getAttr? getAttrBy? getAttrBy
 repeat(any_goals (first | assumption | with_reducible refine L0.at ?_ | with_reducible refine L1.at ?_ | with_reducible refine L2.at ?_ | wp_step))
 refine Xw Wg.ga.plain F.entry_bexc_ga (zhY (s:=⟨hh,gg,d,t+1,os⟩) X I c (zjk (s:=⟨hh,gg,d,t+1,os⟩) X I c ?_))
 repeat(any_goals (first | assumption | wp_step))
end
end IT
namespace IT
open PySem PySem.Spec L2
section
variable {X:Cx}{pins:List (Addr×Obj)}{σ:St}{H:Hp}{s s':Shared}{E:XK}{EE:Value->Shared->Prop}
theorem Inv.known{a:Addr}{ob:Obj}{vs:Array Value}(I:Inv X pins σ H s)(h1:s.heap.get? a=some ob)(hd:ob.data=.fields vs)(na:H a=none)(n0:X.s₀.heap.get? a=none)(np:∀p∈X.pn++pins,p.1≠a):Inv X pins σ (upd H a (.frz ob (.own a))) s:=by
 have nL:X.env.locals≠a:=λz=>by obtain⟨m,⟨o,es,ep,e,d,_⟩,_⟩:=I.loc;rw[z,h1] at e;cases e;rw[hd] at d;cases d
 have nC:∀x c,X.env.cells.lookup x=some c->c≠a:=λx c e z=>by obtain⟨v,o,e1,d⟩:=I.cell x c e;rw[z,h1] at e1;cases e1;rw[hd] at d;cases d
 refine⟨I.ok,I.os,I.bare,⟨I.base.keep,I.base.slot,λb o e n hx=>?_,I.base.there,λb xs e=>?_,λb o u e=>?_,λb ps e=>?_⟩,I.loc,I.cell,?_,λx c e=>?_,λp hp=>⟨(I.pin p hp).1,?_,(I.pin p hp).2.2⟩,λb u e=>?_,I.len⟩
 ·rw[zah (λz=>by rw[z,n0] at e;cases e)];exact I.base.free b o e n hx
 ·have z:=I.base.tups b xs e;rw[zah (zai z na)];exact z
 ·have z:=I.base.frzs b o u e;rw[zah (zai z na)];exact z
 ·obtain⟨more,z⟩:=I.base.tbls b ps e;exact⟨more,by rw[zah (zai z na)];exact z⟩
 ·rw[zah nL];exact I.free
 ·rw[zah (nC x c e)];exact I.freeC x c e
 ·rw[zah (np p hp)];exact(I.pin p hp).2.1
 ·by_cases hb:b=a
  ·subst hb;rw[zak] at e;cases e;exact⟨h1,ob,h1⟩
  ·rw [zah hb] at e
   exact(I.hok b u e).stay (λ_ _ _ q=>q) (λc q=>by rw[zah (zai q na)];exact q) λc xs q=>by rw[zah (zai q na)];exact q
theorem zoU{M:Model}{A:Around}{j:Nat}{n:Str}{pos:Pos}{Q:Unit->Shared->Prop}(I:Inv X pins σ H s)(hN:X.N.Nodup)(hj:X.N[j]?=some n)(hk:X.env.scope.names.lookup n=some .local)
    (h:∀s',Inv X pins (σ.set j none) H s'->Q () s'):wpAny M A (do bindName X.env n .none;unbindBehindTheSuite X.env n pos) Q EE s:=by
  obtain⟨m,hn,hl⟩:=id I.loc
  have hcls:(X.env.scope.kind==.class||(X.env.scope.kind==.module&&X.env.locals != X.env.globals))=false:=by rw[I.ok.kind];rfl
  refine wpAny_nameGoes_keeps hk hn hcls λh' v hn' hs=>h _ ?_;have ne:∀b o,X.s₀.heap.get? b=some o->b≠X.env.locals:=λb o e=>ZI (ZE (ZW e) I.ok.above);obtain⟨oL,_,_,hoL,_⟩:=id hn;refine⟨I.ok,I.os,I.bare,⟨λb o e n hb hx=>?_,λb o e n hb hx=>?_,I.base.free,λb o e hx=>?_,I.base.tups,I.base.frzs,I.base.tbls⟩,⟨_,hn',λi y v' e1 e2 e3=>?_⟩,λy c e=>?_,I.free,I.freeC,λp hp=>?_,λb ob e=>?_,by simpa using I.len⟩
  · exact(hs.2 b (ne b o e)).trans (I.base.keep b o e n hb hx)
  · obtain ⟨sl,e1⟩:=I.base.slot b o e n hb hx
    exact⟨sl,(hs.2 b (ne b o e)).trans e1⟩
  · obtain ⟨o',e1⟩:=I.base.there b o e hx
    exact⟨o',(hs.2 b (ne b o e)).trans e1⟩
  · by_cases hi:i=j
    · subst hi
      by_cases hz:i<σ.length
      · rw[Zs hz] at e2;cases e2
      · rw[YA (by simpa using Xk hz)] at e2;cases e2
    · rw [Zr (Za hi)] at e2
      obtain⟨u',r',q⟩:=hl i y v' e1 e2 e3;refine⟨u',r',?_⟩
      rcases q with⟨k,e⟩|⟨k,c,e,z⟩
      · refine .inl ⟨k,?_⟩
        have:y≠n:=λe=>hi (zeW hN e1 (e▸hj))
        simp[this,e]
      · exact .inr ⟨k,c,e,z.sameBut hs (I.cne y c e)⟩
  · obtain ⟨w',z⟩:=I.cell y c e
    exact⟨w',z.sameBut hs (I.cne y c e)⟩
  · obtain ⟨p1,p2,p3,p4⟩:=I.pin p hp
    exact⟨(hs.2 _ p3).trans p1,p2,p3,p4⟩
  · refine (I.hok b ob e).stay (λc w' hc q=>(hs.2 c ?_).trans q) (λ_ q=>q) λ_ _ q=>q
    rintro rfl
    rcases hc with rfl | hc
    · rw[I.free] at e;cases e
    · rw[I.free] at hc;cases hc
theorem zeS(hd:zd2 X)(I:Inv X pins σ H s){e:Value}(c:CXk X.prog X.w X.stack H s E e s'){x n:Str}{j:Nat}{np pos:Pos}{b0:Stmt}{suite:List Stmt}{Ca:Addr}{Q:Flow->Shared->Prop}
  (hg:Gl X x) (hm:X.mg x=some (.ref Ca)) (hdb:(x==("__debug__":Str))=false) (hN:X.N.Nodup) (hj:X.N[j]?=some n) (hk:X.env.scope.names.lookup n=some .local)
  (hx:∀C od H',E C od H'->WZ X.K C (.ref Ca)=some true)
  (k:∀a C od H' ob s6 EE',E C od H'->ob.cls=C->ob.dict=od->(∃vs,ob.data=.fields vs)->H' a=none->Inv X pins (σ.set j (some (.ref a))) (upd H' a (.frz ob (.own a))) s6 →
   wpAny (model X.prog X.w) (X.A.mark (some (.ref a))) (execs (b0::suite) X.env) (λf s7=>wpAny (model X.prog X.w) X.A (do bindName X.env n .none;unbindBehindTheSuite X.env n pos) (λ_ s8=>Q f s8) EE s7) EE' s6):
  wpAny (model X.prog X.w) X.A (Ut e X.env) (λ_ s₂=>wpAny (model X.prog X.w) X.A (Ur e none) (λ_ s₃=>wpAny (model X.prog X.w) X.A (handleBy e X.env [.ExceptHandler (some (.Name x np)) (some n) (b0::suite) pos]) Q EE s₃) EE s₂) EE s':=by
 obtain⟨a,C,od,H',rfl,⟨os,bare,un,hok,B,t,fl,k3,k2⟩,dn,q⟩:=c;have fl':=fl;rw[hd.st] at fl'
 have fin:∀(h:Heap),B.StaysIn h->s'.heap.UpToSlots h->Inv X pins σ H' {s' with heap:=h}:=λh hB up=>by
  have kp:∀b u,B.get? b=some u->s'.heap.get? b=some u/\h.get? b=some u:=λb u e=>⟨fl.1 b u e,hB b u e⟩;refine I.call' (ch:=[]) os (zdb un (λb o e hb o' e'=>?_) (λb o e hb o' e'=>?_)) (zcn hok (λb ⟨o,ho⟩ u e'=>?_)) bare (by simp)
  ·obtain ⟨u,eu⟩:=k3 b o e hb
   obtain⟨z1,z2⟩:=kp b u eu;rw[e'] at z1;cases z1;exact z2
  ·obtain ⟨_,o2,e2,hn⟩:=fl.2.2.1.mem hb
   rw[e'] at e2;cases e2;exact up b o' e' hn
  ·obtain ⟨u',eu⟩:=k2 b o ho
   obtain⟨z1,z2⟩:=kp b u' eu;rw[e'] at z1;cases z1;exact z2
 have nB:B.get? a=none:=fl.2.1;refine ZC (zei zc2 dn (Q:=λ_ s₂=>DN a od s₂->wpAny (model X.prog X.w) X.A (Ur (.ref a) none) (λ_ s₃=>wpAny (model X.prog X.w) X.A (handleBy (.ref a) X.env [.ExceptHandler (some (.Name x np)) (some n) (b0::suite) pos]) Q EE s₃) EE s₂) (E:=EE) ?_) (λ_ _ z=>z.1 z.2) (λ_ _ z=>z.1);refine wpAny_looks_onW (by rw[I.ok.frames,hd.st]) hd.fr fl' λh4 held4 up4 dn4=>?_;refine ZC (zei zbx dn4 (Q:=λ_ s₃=>DN a od s₃->wpAny (model X.prog X.w) X.A (handleBy (.ref a) X.env [.ExceptHandler (some (.Name x np)) (some n) (b0::suite) pos]) Q EE s₃) (E:=EE) ?_) (λ_ _ z=>z.1 z.2) (λ_ _ z=>z.1);refine wpAny_landsW held4 λh5 fl5 up5 dn5=>?_;have I5:Inv X pins σ H' {s' with heap:=h5}:=fin h5 fl5.1 (up4.trans up5);obtain⟨ob,hob,hcls⟩:=fl5.there
 refine wpAny_handleBy_cons (codeAny_handlers_test ?_) (by intro z;cases z)
 refine W4 (Q:=_) I5.ok.kind hg (Calls.loadGlobal_global (by rw[I5.ok.glob];exact I5.mod.glob.keeps I5.bk) hm ?_) hdb
 have LT:PySem.W.Looks (model X.prog X.w) h5 (typeOf (.ref a)) C:=by subst hcls;exact(PySem.W.Looks.ld hob).andThen .now
 refine PySem.W.exm_one (K:=X.K) I5.kIn LT (hx C od H' q) _ _ _ _ (λ_ _ z=>z) ?_;show Xs _ _ _ _ _;refine codeAny_handlers_suite_as ?_;refine ZC (zei (zbx (e:=.ref a) (f:=none)) (s:={s' with heap:=h5}) dn5 (Q:=λ_ s₁=>DN a od s₁->_) ?_) (λ_ _ z=>z.1 z.2) (λ_ _ z=>z.1);refine PyProof.Rows.lands_againW fl5 λh6 fl6 up6 dn6=>?_;have I6:Inv X pins σ H' {s' with heap:=h6}:=fin h6 fl6.1 ((up4.trans up5).trans up6);obtain⟨oe,vs,T,oT,ts,he,⟨hc,_⟩,hdat,_⟩:=fl6.2.2.2;obtain⟨o',he',hdn⟩:=dn6;have eo:oe=o':=ZY (he.symm.trans he');subst eo
 have na:H' a=none:=by
  cases z:H' a with|none=>rfl|some o=>obtain⟨u,eu⟩:=k2 a o z;rw[nB] at eu;cases eu
 have nf:a∉frs X.stack:=λz=>by
  obtain⟨_,o2,e2,hn⟩:=fl6.2.2.1.mem (by rw[hd.st] at z;exact z)
  have:oe=o2:=ZY (he.symm.trans e2)
  subst this;exact hn vs hdat
 have n0:X.s₀.heap.get? a=none:=by
  cases z:X.s₀.heap.get? a with
  |none=>rfl
  |some o=>
   obtain⟨o1,e1⟩:=I.base.there a o z (by rw[hd.ex];simp)
   obtain⟨u,eu⟩:=k3 a o1 e1 nf;rw[nB] at eu;cases eu
 have np':∀p∈X.pn++pins,p.1≠a:=λp hp z=>by
  obtain⟨u,eu⟩:=k3 p.1 p.2 (I.pin p hp).1 (by rw[z];exact nf)
  rw[z,nB] at eu;cases eu
 have I7:=Inv.known I6 he hdat na n0 np';exact zfp I7 hN hj (.inl hk) (v:=.ref a) rfl (λs7 I8=>k a C od H' oe s7 _ q hc hdn ⟨vs,hdat⟩ na I8) (.inr hk)
end
end IT
namespace IT
open PySem PySem.Spec L2
structure zcg where
 name:Str
 hs:List Str:=[]
 isx:List (Str×Bool):=[]
 num:Bool:=false
structure ExcI(K:Z7)(D:Addr):Prop where
 cls:zfC K D
 dict:Vj K D=true
 obj:∃c d cd sl,K.lookup D=some ⟨c,d,.cls cd,sl⟩
theorem zlw{K:Z7}{x D:Addr}{ox:Obj}{odo:Option Obj}(c:ExcI K D):PySem.W.KitX K (.ref x) (.ref D) (λh=>PySem.W.InstAt h x ox D odo) where
 ty:=λ_ _ _ I=>I.type
 it:=λM h Y _ A' Q' E' s' k q=>PySem.W.mc_isType (s:=s') (λa o e=>k _ _ (Y a o e)) c.dict A' Q' E' s' (λ_ _ z=>z) q
 ne:=λh tp dd its n sl Y htp=>by refine Bool.eq_false_iff.mpr λq=>?_;have e:D=tp:=ZD.inj (beq_iff_eq.mp q);subst e;obtain⟨c',d',cd',sl',ho⟩:=c.obj;have z:=(Y _ _ ho).symm.trans htp;cases z
 ca:=λY I k=>zlY Y I c.cls k
inductive zfJ(K:Z7)(mg:Str->Option Value)(D:Addr)(y:Str)(b:Bool):Prop where|own (Cy:Addr) (hm:mg y=some (.ref Cy)) (e:Y7 K (.ref D) (.ref Cy)=some b)|blt (T:String) (hm:mg y=none) (hb:XD y=some (.type T)) (hn:y ≠ "__name__") (e:Y7 K (.ref D) (.type T)=some b)
structure XOk(K:Z7)(mg:Str->Option Value)(Ca:Addr)(u:zcg):Prop where
 hs:∀y∈u.hs,∃Cy,mg y=some (.ref Cy)/\WZ K (.ref Ca) (.ref Cy)=some true
 cls:u.isx=[]\/ExcI K Ca
 isx:∀p∈u.isx,zfJ K mg Ca p.1 p.2
section
variable {X:Cx}{Dc:Addr}
end
section
variable {X:Cx}{cv:ClsV}
end
end IT
namespace IT
open PySem PySem.Spec
section
variable {prog:ZB}{w:World}{A:Around}{E:Value->Shared->Prop}{h:Heap}{g:Array GenState}{d:Drawn}{t:Nat}{os:OsState}
variable {nm q:Str}{C N:Addr}{bs bm bmB:List Value}{hdct:Bool}{sn:List Str}{sub:List Value}{ab:Bool}{col:Option Bool}{dd:Option Addr}{k0 k1 k2 k3 k5:Option Value}{B newId initId:String}
theorem ziB(F:ExcBaseFacts B newId initId bmB)(T:UJ h bmB bm){K:Z7}{rest:List Value}{fI:Addr}{Q:Value->Shared->Prop}(X:K.In h)
  (hC:h.get? C=some (Wr nm q C N bs bm hdct sn sub ab col dd k0 k1 k2 k3 k5 newId)) (hi:Y8 K (.ref C) "__init__"=some (some (.ref fI))) (hf:Vr K (.ref fI)=some (.type "function")) (hrest:rest.length<=sizeLine)
  (hq:∀h' e,Vs h h' e (.ref C) rest->h.objs.size<=e->wpAny (model prog w) (A.under (.builtin "type.__call__" ⟨.ref C::rest,[]⟩)) (call (.ref fI) (.ref e::rest)) (λr s'=>r=.none/\Q (.ref e) s') E ⟨h',g,d,t,os⟩):
  wpAny (model prog w) A (call (.ref C) rest) Q E ⟨h,g,d,t,os⟩:=by
 have f1:=tc_lookup;have f2:=tc_bind (.ref C);have hT:(⟨h,g,d,t,os⟩:Shared).TypeIs (.ref C) "type":=⟨_,hC,rfl⟩;refine Wc (UF ?_);show wpAny _ _ (callAny (.ref C) _) _ _ _
 repeat(any_goals (first | assumption | with_reducible refine W6 hC ?_ | wp_step))
 refine⟨rfl,?_⟩;refine codeAny_call_builtin_at (Wy _ (by decide +kernel)) entry_typeCall (wpAny_check_type_call_sub hC ?_)
 repeat(first | with_reducible refine W6 hC ?_ | with_reducible refine wpAny_madeBy_exc hC ?_ | wp_step)
 refine codeAny_call_builtin_code (Wy _ F.quiet) (wpAny_check_new_subT F T hC ?_);refine codeAny_exc_new_subT F T hC ?_ hrest;show wpAny _ _ _ _ _ (⟨((h.push {cls:=.type "tuple",data:=.seq rest.toArray}).push {cls:=.ref C,data:=.fields #[.ref h.objs.size,.none,.none,.none,.bool false,.none]}),g,d,t,os⟩:Shared);generalize hh1:((h.push {cls:=.type "tuple",data:=.seq rest.toArray}).push {cls:=.ref C,data:=.fields #[.ref h.objs.size,.none,.none,.none,.bool false,.none]})=h1
 have kp:∀b o,h.get? b=some o->h1.get? b=some o:=λb o e=>by subst hh1;exact Z5 _ (Z5 _ e)
 have hget:h1.get? (h.objs.size+1)=some {cls:=.ref C,data:=.fields #[.ref h.objs.size,.none,.none,.none,.bool false,.none]}:=by subst hh1;heap_get
 have hm:Vs h h1 (h.objs.size+1) (.ref C) rest:=⟨kp,V0 (Ws _),h.objs.size,hget,V0 (ZZ _),by subst hh1;exact Z5 _ (Heap.get?_push_at rfl rfl)⟩
 have hC₁:=kp _ _ hC
 have hcC:(ZD C::bm).contains (.ref C)=true:=by simp
 unfold UT
 repeat(first | with_reducible refine W6 hget ?_ | (with_reducible refine wpAny_isSubtype_exc hC₁ ?_;rw[hcC]) | wp_step)
 show wpAny _ _ (typeLookup (.ref C) _) _ _ _;have X1:K.In h1:=X.keeps kp;refine(PySem.W.looks_findIn X1 hi).here ?_;refine Y6 (Z9 ((PySem.W.bind_fn X1 _ hf).here ?_));refine Z9 (ZC (hq _ _ hm (Ws _)) (λr s' hr=>?_) λ_ _ x=>x);obtain⟨rfl,hQ⟩:=hr
 wp_walk
 exact hQ
end
end IT
namespace IT
open PySem PySem.Spec PySem.W PySem.Builtin PySem.Builtin.ObjectAttr
theorem zg8(self:Value){h:Heap}{l:List Value}(T:UJ h veM l):refuseLoop self "__setattr__" l=pure ():=by
 induction T with|base=>kernel_rfl|own _ _ _ _ ih=>rw[refuseLoop_ref];exact ih
section
variable {prog:ZB}{w:World}{A:Around}{E:Value->Shared->Prop}{s:Shared}{K:Frag}{C e:Addr}{vs:Array Value}
variable {nm q:Str}{N:Addr}{bs bm:List Value}{sn:List Str}{sub:List Value}{ab:Bool}{col:Option Bool}{dd:Option Addr}{k0 k1 k2 k3 k5:Option Value}{newId:String}
theorem zoC{name:Str}{v:Value}{Q:Unit->Shared->Prop}(X:K.In s.heap)(hC:K.lookup C=some (Wr nm q C N bs bm true sn sub ab col dd k0 k1 k2 k3 k5 newId))(T:UJ s.heap veM bm)
  (hs:findIn K (.ref C) "__setattr__"=some (some (.builtin "object.__setattr__"))) (ht:takerIn K C name=some none) (he:s.heap.get? e=some ⟨.ref C,none,.fields vs,#[]⟩)
  (hq:∀h',h'.get? e=some ⟨.ref C,some s.heap.objs.size,.fields vs,#[]⟩->h'.Ns1 s.heap.objs.size (λy=>if y=name then some v else none)->(∀b o,b≠e->s.heap.get? b=some o->h'.get? b=some o)->Q () {s with heap:=h',toks:=s.toks+2}):
  wpAny (model prog w) A (setAttr (.ref e) name v) Q E s:=by
 have J:InstAt s.heap e ⟨.ref C,none,.fields vs,#[]⟩ C none:=⟨he,rfl,rfl,trivial⟩;have hCh:=X _ _ hC;have SF:=PySem.F.store_object;refine set_plain X J hs ?_
 have hob:(ZD C::bm).contains (.type "object")=true:=by rw[List.contains_cons,T.hasType (X:="object") (b:=true) (by decide),Bool.or_true]
 obtain⟨cd,hcl,hmro,hhd⟩:∃cd,clsIn K C=some cd/\cd.mro=.ref C::bm/\cd.hasDict=true:=⟨_,by unfold clsIn;rw[hC],rfl,rfl⟩
 have hm:Looks (model prog w) s.heap (mroOf (.ref C)) (.ref C::bm):=by rw[<-hmro];exact(looks_clsIn X hcl).andThen .now
 have sub':Looks (model prog w) s.heap (UT (.ref e) (.type "object")) true:=J.type.andThen (looks_mroIn X (by unfold mroIn;rw[hcl,Option.bind_some,hmro,if_neg (by simp),hob]))
 refine Xw SF.slot.plain SF.entry (@check_slot (model prog w) _ _ {s with toks:=s.toks+1} "object.__setattr__" "object" "__setattr__" (.ref e) [.str name s.toks,v] [] _ SF.kind SF.split sub' (SF.args (.ref e) (.str name s.toks) v) ?_);obtain⟨attr,ha,hr⟩:=Option.bind_eq_some_iff.mp ht
 have L3:Looks (model prog w) s.heap (storeTaker? attr) none:=by
  cases attr with
  |none=>exact .now
  |some a=>
   obtain⟨b,hb,hr⟩:=YS.mp hr;refine(looks_takesIn X hb).andThen ?_;cases b
   ·exact .now
   ·cases hr
 rw[osa_eq,refuse_eq];generalize hs2:({s with toks:=s.toks+1}:Shared)=s2
 have hh2:s2.heap=s.heap:=by rw[<-hs2]
 rw[<-hh2] at J hm L3 X he;refine Z9 (Z9 (J.type.here (Z9 (hm.here ?_))));rw[refuseLoop_ref,zg8 _ T];refine Z6 (Z9 (J.type.here (Z9 ((looks_findIn X ha).here (Z9 (L3.here ?_))))));refine Z9 (Z6 (Z9 (Z9 (wpAny_loadPart he (Z9 ((looks_clsIn X hcl).here ?_))))));rw[hhd]
 show wpAny _ _ (do
  let d<-PySem.alloc {cls:=Yi "dict",data:=Data.dict #[]}
  update e λo=>{cls:=o.cls,dict:=some d,data:=o.data,slots:=o.slots}
  dictMade (.ref C) e d) _ _ _
 have he1:(s2.heap.push {cls:=Yi "dict",data:=Data.dict #[]}).get? e=some ⟨.ref C,none,.fields vs,#[]⟩:=Z5 _ he;refine Z9 (wpAny_alloc (Z9 (wpAny_update he1 ?_)));generalize hh3:Heap.update _ _ _=h3
 have e3:h3.get? e=some ⟨.ref C,some s2.heap.objs.size,.fields vs,#[]⟩:=by rw[<-hh3,Zi _ he1 rfl]
 have o3:∀b,b≠e->h3.get? b=(s2.heap.push {cls:=Yi "dict",data:=Data.dict #[]}).get? b:=λb hb=>by rw[<-hh3,Zo _ _ (Za hb)]
 have ne:s2.heap.objs.size≠e:=Za (ZI (ZW he));have n3:h3.Ns s2.heap.objs.size (λ_=>none):=⟨{cls:=Yi "dict",data:=Data.dict #[]},#[],_,(o3 _ ne).trans (ZH _ rfl),rfl,(λe he=>absurd he (by simp)),λ_=>rfl⟩;refine Z6 (a:=some s2.heap.objs.size) (Z9 (Z6 (Z9 ?_)));refine wpAny_nsSet1 (Heap.Ns1.of_empty n3) λh' hn2 hs2'=>?_;obtain⟨oD,esD,epD,hoD,hdD,hcD⟩:=hn2.count (PySem.Within.cons name v (ns:=[]) (m:=λ_=>none) λy hy=>absurd rfl hy)
 refine Z9 (wpAny_lookBehind hoD (by rw[hdD];exact pastItsLine_dict (Zf hcD (by show 1<=sizeLine+1;omega))) ?_)
 subst hs2
 exact Z6 (hq h' ((hs2'.2 _ (Za ne)).trans e3) hn2 λb o hb q=>by
  rw[hs2'.2 b (ZI (ZW q)),o3 b hb]
  exact Z5 _ q)
theorem zlb{t:Addr}{x:Value}{Q:Value->Shared->Prop}(hC:s.heap.get? C=some (Wr nm q C N bs bm true sn sub ab col dd k0 k1 k2 k3 k5 "ValueError.__new__"))(T:UJ s.heap veM bm)
  (he:s.heap.get? e=some ⟨.ref C,none,.fields #[.ref t,.none,.none,.none,.bool false,.none],#[]⟩)
  (hq:∀h' t',(∀b o,b≠e->s.heap.get? b=some o->h'.get? b=some o)->h'.get? e=some ⟨.ref C,none,.fields #[.ref t',.none,.none,.none,.bool false,.none],#[]⟩->Q .none {s with heap:=h'}):
  wpAny (model prog w) A (call (.builtin "ValueError.__init__") [.ref e,x]) Q E s:=by
 have F:=Vq;obtain⟨hh,g,d,tk,os⟩:=s;refine Wc (Xw F.init.plain F.initEntry (wpAny_check_init_subT F T hC he rfl ?_))
 wp_walk
 refine hq _ hh.objs.size (λb o hb q=>?_) ?_
 ·rw [Zo _ _ (Za hb)]
  exact Z5 _ q
 ·rw [Zi _ (Z5 _ he) rfl]
  rfl
end
end IT
namespace IT
open PySem PySem.Spec L2
def XO(C e:Addr)(od:Option Addr):HO:=.ext λh=>∃t,h.get? e=some ⟨.ref C,od,.fields #[.ref t,.none,.none,.none,.bool false,.none],#[]⟩
theorem XO.ok{P:ZB}{w:World}{H:Hp}{h:Heap}{C e t:Addr}{od:Option Addr}(x:h.get? e=some ⟨.ref C,od,.fields #[.ref t,.none,.none,.none,.bool false,.none],#[]⟩):zaI P w H h e (XO C e od):=⟨⟨t,x⟩,⟨_,x⟩,λ_ _ ⟨t,y⟩ k=>⟨t,k _ y⟩⟩
structure ExcN(K:Z7)(C:Addr):Prop where
 ex:∃nm q N bs bm sn sub ab col dd k0 k1 k2 k3 k5,K.lookup C=some (Wr nm q C N bs bm true sn sub ab col dd k0 k1 k2 k3 k5 "ValueError.__new__")/\∀h,K.In h->UJ h veM bm
 sa:Y8 K (.ref C) "__setattr__"=some (some (.builtin "object.__setattr__"))
 tk:PySem.W.takerIn K C "number"=some none
 kp:Y0 K (.ref C)=true
structure zqO(K:Z7)(B:Addr):Prop where
 sp:PySem.W.specialIn K (.ref B) "__getattribute__"=some (some (.builtin "type.__getattribute__"))
 rd:PySem.W.readsIn K B (.type "type")=true
 fc:PySem.W.findCls K (.ref B) (.type "type") "__init__"=some (.val (.builtin "ValueError.__init__"))
section
variable {X:Cx}
theorem zoN{a b:Str}{n:Str}{j:Nat}{k1 k2:Nat}{p1 p2 p3 p4 pos:Pos}(ha:a.length<=1000)(hb:b.length<=1000)(hj:X.N[j]?=some n)(hv:Vis X.env.scope n)(hd:(n==("__debug__":Str))=false)(hc:(n==("__classdict__":Str))=false):
  PE X (.JoinedStr [.Constant (.str a) k1 p1,.FormattedValue (.Name n p2) (-1) none p3,.Constant (.str b) k2 p4] pos) (λσ H Q=>∃k:Int,σ[j]?=some (some (.int k))/\k.natAbs<2^200/\∀x,Q (.str x) H):=by
 intro pins s σ H Q I ⟨k,e,hk,q⟩
 have hlog:k.natAbs.log2<1920:=by
  rcases Nat.eq_zero_or_pos k.natAbs with z | z
  ·rw[z];decide
  ·exact ZE ((Nat.log2_lt (Xf z)).mpr hk) (by decide)
 have hlen:(YG (UB k)).length<=2000:=by
  have e:=int_text_length_le (k:=1920) (by decide) hlog
  rw[ofString_length];omega
 refine wpAny_JoinedStr ?_;refine thn (zhL (x:=a) pins s σ H (λv H1=>v=.str a/\H1=H) I ⟨rfl,rfl⟩) λu s1 q_=>?_;obtain⟨v,H1,I1,r1,e1,e2⟩:=q_;subst e1 e2;obtain⟨t1,rfl⟩:=r1;refine⟨a,t1,rfl,?_,?_⟩
 ·rw[Zg];simp only[UV];omega
 refine wpAny_FormattedValue_plain (thn (zbO hj hv hd hc pins s1 σ H1 (λv H2=>v=.int k/\H2=H1) I1 ⟨.int k,e,rfl,rfl⟩) λu s2 q_=>?_);obtain⟨v,H2,I2,r2,e1,e2⟩:=q_;subst e1 e2;obtain⟨t2,rfl⟩:=r2;refine wpAny_formatField_int hlog ?_;refine⟨YG (UB k),_,rfl,?_,?_⟩
 ·rw[Zg,Vc,UV];omega
 refine thn (zhL (x:=b) pins _ σ H2 (λv H1=>v=.str b/\H1=H2) (I2.tok _) ⟨rfl,rfl⟩) λu s3 q_=>?_;obtain⟨v,H3,I3,r3,e1,e2⟩:=q_;subst e1 e2;obtain⟨t3,rfl⟩:=r3
 have hz:(Str.empty++a++YG (UB k)++b).length<=sizeLine:=by rw[Zg,Vc,Vc,UV];omega
 exact⟨b,t3,rfl,hz,hz,.str _,H3,I3.tok _,⟨_,rfl⟩,q _⟩
theorem znX{cx:Str}{B:Addr}{a0 a1:Expr}{t:TA}{p apos pos:Pos}{pl:Sem Bool}(hb:zqO X.K B)(hg:Gl X cx)(hm:X.mg cx=some (.ref B))(hdb:(cx==("__debug__":Str))=false)(ha:PA X [a0,a1] t)
  (hst:ZT [a0,a1] X.env=[(false,eval a0 X.env),(false,eval a1 X.env)])
  (ht:eval (.Call (.Attribute (.Name cx p) "__init__" apos) [a0,a1] [] pos) X.env=(do
   let ov<-eval (.Name cx p) X.env
   Vk apos.atName
   let (f,first)<-holding [ov] (getMethod ov "__init__" pl)
   callWith pos f first (backTo pos (ZT [a0,a1] X.env)) (WO pos (XT [] X.env)))):
  PE X (.Call (.Attribute (.Name cx p) "__init__" apos) [a0,a1] [] pos) (λσ H Q=>t σ H λvs H1=>∃e C x,vs=[.ref e,x]/\ExcN X.K C/\H1 e=some (XO C e none)/\Q .non (upd H1 e (XO C e none))):=by
 intro pins s σ H Q I h;refine PySem.W.methodCall_KW (pl:=pl) (zcD I hg hm ?_ hdb) ht;refine PySem.W.method_cls I.kIn hb.sp (PySem.W.cls_value I.kIn hb.rd hb.fc rfl ?_);have hA:=ha pos pins _ σ H _ (I.tok (s.toks+1)) h;rw[hst] at hA⊢;refine Calls.callWith_builtin rfl (Calls.evalArgs_plain ?_);refine thn hA λus s2 q_=>?_;obtain⟨vs,H2,I2,r2,e,C,x,ev,xc,eH,q⟩:=q_;subst ev
 cases r2 with
 | cons r0 r2=>
  cases r2 with
  |cons r1 r2=>
   cases r2
   cases (show _=ZD e from r0)
   obtain⟨nm,q',N,bs,bm,sn,sub,ab,col,dd,k0,k1,k2,k3,k5,lk,tl⟩:=xc.ex;obtain⟨⟨t,he⟩,_⟩:=(show zaI X.prog X.w H2 s2.heap e (XO C e none) from I2.hok e _ eH);refine zlb (I2.kIn _ _ lk) (tl _ I2.kIn) he λh' t' kp he'=>?_
   have I3:=I2.write (x:=e) (e:=e) (o:=XO C e none) (h':=h') (t':=s2.toks) (by rw[eH];exact WA) (.inl rfl) (λb u hb z=>kp b u hb z) ⟨_,he'⟩ (XO.ok he')
   exact⟨.non,_,I3,rfl,q⟩
theorem zp0{value o:Expr}{ta tv:TE}{pos pos':Pos}(ha:PE X o ta)(hv:PE X value tv)(hs:Wx value (some (.Attribute o "number" pos')) pos.line X.env=pure false):
  PS X (.Assign [.Attribute o "number" pos'] value pos) (λD σ H=>tv σ H λy H1=>ta σ H1 λx H2=>∃e C,x=.ref e/\ExcN X.K C/\H2 e=some (XO C e none)/\∀dx,H2 dx=none->D.nx σ (upd (upd H2 dx (.xd [("number",y)])) e (XO C e (some dx)))):=by
 intro pins s σ H D I h;refine plainObj_wpAny_Assign_Attribute (thn (hv pins s σ H _ I h) λu s1 ⟨y,H1,I1,ry,q⟩=>thn (ha pins s1 σ H1 _ I1 q) λov s2 q_=>?_) hs;obtain⟨x,H2,I2,rx,e,C,ex,xc,eH,q2⟩:=q_;subst ex;obtain rfl:ov=ZD e:=rx;obtain⟨nm,q',N,bs,bm,sn,sub,ab,col,dd,k0,k1,k2,k3,k5,lk,tl⟩:=xc.ex;obtain⟨⟨t,he⟩,_⟩:=(show zaI X.prog X.w H2 s2.heap e (XO C e none) from I2.hok e _ eH);refine zoC I2.kIn lk (tl _ I2.kIn) xc.sa xc.tk he λh' he' hn kp=>?_;have hn':=hn;obtain⟨o,es,ep,eo,r⟩:=hn;have ne:e≠s2.heap.objs.size:=ZI (ZW he)
 have em:(s2.heap.push o).get? s2.heap.objs.size=some o:=ZH _ (by obtain⟨c1,c2,c3,c4⟩:=o;have:=r.1;simp only at this;subst this;rfl)
 have hf:H2 s2.heap.objs.size=none:=I2.hok.fresh (ZZ _)
 have Im:=I2.laid (a:=s2.heap.objs.size) (o:=.xd [("number",y)]) (h':=s2.heap.push o) (t':=s2.toks) (λb u z=>Z5 _ z) (ZZ _) ⟨_,⟨o,es,ep,em,r⟩,λf=>by
  show RelO (List.lookup f [(("number":Str),y)]) (if f="number" then some u else none)
  by_cases hz:f="number"
  ·subst hz
   simp only[List.lookup,beq_self_eq_true,if_true];exact ry
  ·rw [if_neg hz]
   have:(f==("number":Str))=false:=by simpa using hz
   simp only[List.lookup,this]
   trivial⟩
 have Iw:=Im.write (x:=e) (e:=e) (o:=XO C e (some s2.heap.objs.size)) (h':=h') (t':=s2.toks+2) (by rw[zah ne,eH];exact WA) (.inl rfl) (λb u hb z=>by
  by_cases hd:b=s2.heap.objs.size
  ·subst hd
   rw[em] at z;cases z;exact eo
  ·exact kp b u hb (by
    have z':=z;rw[Heap.get?_push_ne _ _ _ hd] at z'
    exact z')) ⟨_,he'⟩ (XO.ok he')
 exact⟨σ,_,Iw,q2 _ hf⟩
end
end IT
namespace IT
open PySem PySem.Spec L2
def zmz(C:Addr):Sp:=λvs H Q _=>∃e k,vs=[.ref e,.int k]/\k.natAbs<2^200/\H e=some (XO C e none)/\∀dx,H dx=none->dx≠e->Q .non (upd (upd H dx (.xd [("number",.int k)])) e (XO C e (some dx)))
section
variable {P:ZB}{w:World}{K:Z7}{mg:Str->Option Value}{base:Heap}
theorem zlG{x qual:Str}{st:Stmt}{f:Addr}{fd:FuncData}{k:Nat}{C B:Addr}{cx a b:Str}{k1 k2:Nat}{p1 p2 p3 p4 p5 p6 p7 p8 p9 p10 q1 q2 q3 q4:Pos}(F:Fun K x qual st f fd)(S:zaR ["self", "number"] ["self", "number"] (zaf st))
  (hb:zau st=[.Expr (.Call (.Attribute (.Name cx p1) "__init__" p2) [.Name "self" p3,.JoinedStr [.Constant (.str a) k1 p4,.FormattedValue (.Name "number" p5) (-1) none p6,.Constant (.str b) k2 p7] p8] [] p9) q1,.Assign [.Attribute (.Name "self" q2) "number" q3] (.Name "number" q4) p10])
  (ha:a.length<=1000) (hb':b.length<=1000) (hgl:(zaf st).names.lookup cx=some .globalImplicit) (hdb:(cx==("__debug__":Str))=false) (hm:mg cx=some (.ref B)) (bi:zqO K B) (xc:ExcN K C) {pl:Yv->Sem Bool}
  (ht:∀env,eval (.Call (.Attribute (.Name cx p1) "__init__" p2) [.Name "self" p3,.JoinedStr [.Constant (.str a) k1 p4,.FormattedValue (.Name "number" p5) (-1) none p6,.Constant (.str b) k2 p7] p8] [] p9) env=(do
   let ov<-eval (.Name cx p1) env
   Vk p2.atName
   let (f,first)<-holding [ov] (getMethod ov "__init__" (pl env))
   callWith p9 f first (backTo p9 (ZT [.Name "self" p3,.JoinedStr [.Constant (.str a) k1 p4,.FormattedValue (.Name "number" p5) (-1) none p6,.Constant (.str b) k2 p7] p8] env)) (WO p9 (XT [] env)))):
  FnOk P w K mg base CX0 (k+1) f fd ["self", "number"] (zmz C):=by
 refine F.ok S (λvs H Q E ⟨e,k,z,_⟩=>by rw[z];rfl) λcdv A outer s H vs Q E hr q_=>?_
 obtain⟨e,k,ev,hk,eH,q⟩:=q_;rw[hb];have vis:∀y∈(["self", "number"]:List Str),Vis (zaf st) y:=λy hy=>(S.par y hy).elim .inl λz=>.inr (.inl z);have v0:=vis "self" (by simp);have v1:=vis "number" (by simp);refine⟨_,zdd (zgZ (znX (pl:=pl _) bi hgl hm hdb (zax (pv 0 rfl v0) (zax (zoN (j:=1) ha hb' rfl v1 rfl rfl) za1 rfl) rfl) rfl (ht _))) (zfn (zp0 (pv 0 rfl v0) (pv 1 rfl v1) rfl)),?_⟩;subst ev;refine⟨.ref e,rfl,k,rfl,hk,λx=>⟨e,C,.str x,rfl,xc,eH,.int k,rfl,.ref e,rfl,e,C,rfl,xc,zak,λdx hdx=>?_⟩⟩
 have ne:dx≠e:=λz=>by rw[z,zak] at hdx;cases hdx
 rw[zah ne] at hdx;have hq:=q dx hdx ne
 rwa [show upd (upd (upd H e (XO C e none)) dx (HO.xd [("number",V.int k)])) e (XO C e (some dx))=upd (upd H dx (HO.xd [("number",V.int k)])) e (XO C e (some dx)) from by
  funext b
  unfold upd
  split
  ·rfl
  ·split<;>rfl]
end
end IT
namespace IT
open PySem PySem.Spec L2
section
variable {X:Cx}{pins:List (Addr×Obj)}{σ:St}{H:Hp}{s s':Shared}{E:XK}{EE:Value->Shared->Prop}
theorem zjZ(hd:zd2 X)(I:Inv X pins σ H s){e t dx C:Addr}(he:s.heap.get? e=some ⟨.ref C,some dx,.fields #[.ref t,.none,.none,.none,.bool false,.none],#[]⟩)(ne:H e=none)(n0:X.s₀.heap.get? e=none)(q:E (.ref C) (some dx) H):
  wpAny (model X.prog X.w) X.A (leaving X.env (.ref e)) (λ_ s''=>CXk X.prog X.w X.outer X.H₀ X.s₀ E (.ref e) s'') EE s:=by
 have hd0:DN e (some dx) s:=⟨_,he,rfl⟩;refine ZC (zei zcF hd0 (Q:=λ_ s''=>Fly X.prog X.w X.outer X.H₀ X.s₀ (.ref C) e H s'') (E:=EE) ?_) (λ_ s'' z=>⟨e,.ref C,some dx,H,rfl,z.1,z.2,q⟩) (λ_ _ z=>z.1);have hst:=I.stack
 have nf:e∉frs X.stack:=λz=>by obtain⟨_,o2,e2,hn⟩:=hst.mem z;rw[he] at e2;cases e2;exact hn _ rfl
 refine wpAny_leaving_firstW (base:=VY s.heap (e::frs X.stack)) (L:=X.env.locals) (outer:=X.outer) (a0:=.ref t) (by rw[I.ok.frames,hd.st]) (by rw[<-hd.st];exact PySem.W.funFrames_hide hst λenv he a hf=>.tail _ (WB.mpr ⟨env,he,hf⟩)) hd.fr he (λb o q=>VJ _ q) (V2 _ (.head _)) rfl rfl rfl λh2 hL=>?_
 obtain⟨k1,⟨_,_,k2'⟩,k3,up⟩:=hL;have kp:∀b o,s.heap.get? b=some o->b≠e->b∉frs X.stack->h2.get? b=some o:=λb o e1 hb hb'=>k1 b o (Yo _ e1 λz=>(ZJ.mp z).elim hb hb')
 have sl:∀b o,b∈frs X.stack->s.heap.get? b=some o->∃z,h2.get? b=some {o with slots:=z}:=λb o hb e=>by obtain⟨_,o',e',hn⟩:=hst.mem hb;rw[e] at e';cases e';exact up b o e hn
 have b0:=I.base;rw[hd.ex] at b0
 have ne0:∀b o,X.s₀.heap.get? b=some o->b≠e:=λb o q z=>by rw[z,n0] at q;cases q
 have neH:∀b o,H b=some o->b≠e:=λb o q z=>by rw[z,ne] at q;cases q
 refine ⟨I.os,I.bare,zdb b0 (λb o e1 hb o' e'=>kp b o' e' (ne0 b o e1) (ziA hd I e1 hb)) (λb o e1 hb o' e'=>sl b o' (zoM hd hb) e'),zcn I.hok (λb ⟨o,ho⟩ u e'=>kp b u e' (neH b o ho) λz=>by rw[I.stkFree b z] at ho;cases ho),VY s.heap (e::frs X.stack),.ref t,⟨k1,V2 _ (.head _),k2',k3⟩,λb o e1 hb=>?_,λb o ho=>?_⟩
 ·obtain ⟨o',e'⟩:=b0.there b o e1 (by simp)
  exact⟨o',Yo _ e' λz=>(ZJ.mp z).elim (ne0 b o e1) (ziA hd I e1 hb)⟩
 ·obtain ⟨u,e'⟩:=zkB (I.hok b o ho)
  exact⟨u,Yo _ e' λz=>(ZJ.mp z).elim (neH b o ho) λz=>by rw[I.stkFree b z] at ho;cases ho⟩
end
end IT
namespace IT
open PySem PySem.Spec L2
section
variable {X:Cx}{pins:List (Addr×Obj)}{σ:St}{H H':Hp}{s:Shared}
theorem Inv.drop{e:Addr}{φ:Heap->Prop}(I:Inv X pins σ H s)(n0:X.s₀.heap.get? e=none)(eH:H e=some (.ext φ))(e1:H' e=none)(e2:∀b,b≠e->H' b=H b):Inv X pins σ H' s:=by
 have ne:∀{b:Addr} {o:HO},H b=some o->o≠.ext φ->b≠e:=λq d z=>by subst z;rw[eH] at q;exact d (ZY q).symm
 have nn:∀{b:Addr},H b=none->H' b=none:=λ{b} q=>by
  by_cases z:b=e
  ·rw[z];exact e1
  ·rw[e2 b z];exact q
 refine⟨I.ok,I.os,I.bare,⟨I.base.keep,I.base.slot,λb o q n hx=>nn (I.base.free b o q n hx),I.base.there,λb xs q=>?_,λb o u q=>?_,λb ps q=>?_⟩,I.loc,I.cell,nn I.free,λx c q=>nn (I.freeC x c q),λp hp=>⟨(I.pin p hp).1,nn (I.pin p hp).2.1,(I.pin p hp).2.2⟩,λb o q=>?_,I.len⟩
 ·have z:=I.base.tups b xs q;rw[e2 b (ne z (by intro w;cases w))];exact z
 ·have z:=I.base.frzs b o u q;rw[e2 b (ne z (by intro w;cases w))];exact z
 ·obtain⟨more,z⟩:=I.base.tbls b ps q;exact⟨more,by rw[e2 b (ne z (by intro w;cases w))];exact z⟩
 ·have hb:b≠e:=λz=>by rw[z,e1] at q;cases q
  rw[e2 b hb] at q
  exact(I.hok b o q).stay (λ_ _ _ z=>z) (λc z=>by rw[e2 c (ne z (by intro w;cases w))];exact z) λc xs z=>by rw[e2 c (ne z (by intro w;cases w))];exact z
end
section
variable {M:Model}{A:Around}{E:Value->Shared->Prop}{env:Yv}
variable {nm q:Str}{C N:Addr}{bs bm:List Value}{hdct:Bool}{sn:List Str}{sub:List Value}{ab:Bool}{col:Option Bool}{dd:Option Addr}{k0 k1 k2 k3 k5:Option Value}{newId:String}
theorem zkH{s:Shared}{x:Expr}{pos:Pos}{Q:Flow->Shared->Prop}{K:Z7}(lk:K.lookup C=some (Wr nm q C N bs bm hdct sn sub ab col dd k0 k1 k2 k3 k5 newId))(hbase:bm.contains (.type "BaseException")=true)(hh:A.handled=none)
  (h:wpAny M A (eval x env) (λv s₁=>∃e od t,v=.ref e/\K.In s₁.heap/\s₁.heap.get? e=some ⟨.ref C,od,.fields #[.ref t,.none,.none,.none,.bool false,.none],#[]⟩/\E (.ref e) s₁) E s):
  wpAny M A (exec (.Raise (some x) none pos) env) Q E s:=by
 have hcB:(ZD C::bm).contains (.type "BaseException")=true:=by rw[List.contains_cons,hbase,Bool.or_true]
 rw[arm_exec_Raise];refine Z9 (V6 ?_);simp only[evalOpt,Option.map];unfold raiseStmt;refine Z9 (Z9 (ZC h (λv s₁ h₁=>Z9 (V6 (Z6 ?_))) λ_ _ x=>x));obtain⟨e,od,t,rfl,kin,he,hE⟩:=h₁;have hC:=kin _ _ lk;obtain⟨hp,g,d,tk,os⟩:=s₁
 repeat(first | with_reducible refine W6 he ?_ | with_reducible refine W6 hC ?_ | (with_reducible refine wpAny_isSubtype_exc hC ?_;rw[hcB]) | wp_step)
 exact wpAny_raiseNew_none hh hE
end
inductive znj(X:Cx)(n:Nat)(C:Addr):Prop where|mk (fI:Addr) (fd:FuncData) (hi:Y8 X.K (.ref C) "__init__"=some (some (.ref fI))) (hf:Vr X.K (.ref fI)=some (.type "function")) (F:FnOk X.prog X.w X.K X.mg X.base CX0 n fI fd ["self", "number"] (zmz C)) (b:zcm X.K fd ["self", "number"] [])
section
variable {X:Cx}{E:R->Hp->Prop}{cv:ClsV}
theorem zj2{x:Str}{Ca:Addr}{n c:Nat}{np cpos pos:Pos}{a:Expr}{fe:IT.Env->M R}(hd:zd2 X)(hc:X.calm=true)(xc:ExcN X.K Ca)(hin:znj X n Ca)(hr:Room (n+1) X.A)(hg:Gl X x)(hm:X.mg x=some (.ref Ca))(hcv:∀k,cv (.d (.tup [.int c,.int k]))=some (.ref Ca))(ha:IE X a fe)
  (hdb:(x==("__debug__":Str))=false) (hst:ZT [a] X.env=[(false,eval a X.env)])
  (thr:∀pins σ H s e t dx,Inv X pins σ H s->s.heap.get? e=some ⟨.ref Ca,some dx,.fields #[.ref t,.none,.none,.none,.bool false,.none],#[]⟩->H e=none->X.s₀.heap.get? e=none->wX cv E (.ref Ca) (some dx) H->X.xe (.ref e) s):
  XS X E (.Raise (some (.Call (.Name x np) [a] [] cpos)) none pos) (λσ=>bnd (fe σ) λr=>raN c r):=by
 intro pins s σ H I ⟨μ,h,env,R0,re,r',h',ee,k⟩;simp only[zab] at ee;obtain⟨r,h1,e1,e2⟩:=ee
 obtain ⟨kn,rfl,hk,e3⟩:∃kn:Int,r=.d (.int kn)/\kn.natAbs<2^200/\ok (.d (.tup [.int c,.int kn])) h1=some (r',h'):=by
  unfold raN at e2
  split at e2
  ·rename_i kn
   split at e2
   ·rename_i z;exact⟨kn,rfl,z,e2⟩
   ·cases e2
  ·cases e2
 simp only[zac] at e3;obtain⟨rfl,rfl⟩:=e3;obtain⟨nm,q,N,bs,bm,sn,sub,ab,col,dd,k0,k1,k2,k3,k5,lk,tl⟩:=xc.ex;obtain⟨fI,fd,hi,hf,F,hb⟩:=hin;have FB:=Vq;refine zkH lk ((tl _ I.kIn).hasType FB.hasBase) (I.ok.hd hc) ?_;refine Yg (zcD I hg hm ?_ hdb);refine VH (h₀:=X.base) I.ok.mod.kin xc.kp (thn (zax ha za1 hst cpos pins s σ H (λvs H1=>vs=[.int kn]/\E (.d (.tup [.int c,.int kn])) H1/\∀dx,H1 dx=none->E (.d (.tup [.int c,.int kn])) (upd H1 dx (.xd [("number",.int kn)]))) I ⟨μ,h,env,R0,re,_,h1,e1,λμ1 H1 v s1 R1 q1=>?_⟩) λus s1 ⟨vs,H1,I1,rv,ev,qe,qd⟩=>⟨I1.kIn,?_⟩) hst rfl
 ·have q1:v=.int kn:=by simpa only[RepR,RepD] using q1
  subst q1;exact⟨rfl,k μ1 H1 s1 R1,λdx hn=>k μ1 _ (s1.trans (Stp.fresh hn)) (R1.fresh hn)⟩
 subst ev;have hul:us.length=1:=rv.length.symm;obtain⟨hh,g,d,tk,os⟩:=s1
 refine ziB FB (tl _ I1.kIn) I1.kIn (I1.kIn _ _ lk) hi hf (by show us.length<=_;rw[hul];decide) λh' e m hsz=>?_
 obtain⟨t,he,_⟩:=m.there;have eF:H1 e=none:=I1.hok.fresh hsz
 have n0:X.s₀.heap.get? e=none:=by
  cases z:X.s₀.heap.get? e with
  |none=>rfl
  |some o=>
   obtain⟨o1,e1⟩:=I1.base.there e o z (by rw[hd.ex];simp)
   rw[m.new] at e1;cases e1
 have I2:=I1.laid (a:=e) (o:=XO Ca e none) (h':=h') (t':=tk) m.keeps hsz (XO.ok he);have r2:Vals [V.ref e,V.int kn] (ZD e::us):=.cons rfl rv
 have hsp:zmz Ca [V.ref e,V.int kn] (upd H1 e (XO Ca e none)) (λv H3=>v=.non/\∃dx,dx≠e/\H1 dx=none/\H3=upd (upd (upd H1 e (XO Ca e none)) dx (.xd [("number",.int kn)])) e (XO Ca e (some dx))) E0:=⟨e,kn,rfl,hk,zak,λdx hdx hne=>⟨rfl,dx,hne,by rw[zah hne] at hdx;exact hdx,rfl⟩⟩
 refine Wc (XC (F.run _ X.stack _ _ ⟨ZD e::us,[]⟩ (ZD e::us) _ _ E0 (hr.make Ca us []) (I2.env0.make Ca us []) (by have:=hb _ (ZD e::us) I2.kIn (by simp[hul]);rwa [Ym] at this) r2 hsp) λres s' hq'=>?_)
 match res,hq' with
 |.error _,hq'=>exact hq'.elim
 | .ok (.ret u),hq'=>
  obtain⟨v,H3,I3,ru,ev,dx,hne,hdx,e3⟩:=I2.after hq';subst ev;have eu:u=X3:=ru;subst eu;subst e3;obtain⟨⟨t3,he3⟩,_⟩:=(show zaI X.prog X.w _ s'.heap e (XO Ca e (some dx)) from I3.hok e _ zak)
  have I4:Inv X pins σ (upd H1 dx (.xd [("number",.int kn)])) s':=Inv.drop I3 n0 zak (by rw[zah (Za hne)];exact eF) λb hb'=>by
   rw[zah hb'];unfold upd
   split
   ·rfl
   ·first | rfl | rw[if_neg hb']
  exact⟨rfl,e,some dx,t3,rfl,I3.kIn,he3,thr pins σ _ s' e t3 dx I4 he3 (by rw[zah (Za hne)];exact eF) n0 ⟨.d (.tup [.int c,.int kn]),hcv kn,⟨dx,rfl,zak⟩,qd dx hdx⟩⟩
end
end IT
namespace IT
open PySem PySem.W
section
variable {K:Frag}{prog:ZB}{w:World}{A:Around}{E:Value->Shared->Prop}{s:Shared}{x D dx:Addr}{ox:Obj}{odo:Option Obj}{mA:Str->Option Value}{v:Value}
theorem zlf{tk:Tok}{vs:Array Value}{sl:Array (Option Value)}{Q:Fin->Shared->Prop}(X:K.In s.heap)(he:s.heap.get? x=some ⟨.ref D,some dx,.fields vs,sl⟩)(hdc:hasDictIn K D=true)(hn:findIn K (.ref D) "number"=some none)(hm:s.heap.Ns dx mA)(hv:mA "number"=some v)(hq:Q (.done (.ret v)) s):
  wpAny (model prog w) A (Zb.«object.__getattribute__» ⟨[.ref x,.str "number" tk],[]⟩) Q E s:=by
 have L0:Looks (model prog w) s.heap (typeOf (.ref x)) (.ref D):=(Looks.ld he).andThen .now;have L1:=looks_findIn (M:=model prog w) X hn;obtain⟨cd,hc,hd'⟩:=any_some hdc;obtain⟨hh,gg,d,t,os⟩:=s
 repeat(any_goals (first | assumption | with_reducible refine L0.at ?_ | with_reducible refine L1.at ?_ | wp_step))
 obtain ⟨o1,o2,o3,hD⟩:∃o1 o2 o3,hh.get? D=some ⟨o1,o2,.cls cd,o3⟩:=by
  unfold clsIn at hc
  split at hc
  ·rename_i q;cases hc;exact⟨_,_,_,X _ _ q⟩
  ·cases hc
 refine Wd hD (Z6 ?_);rw[hd'];refine Z6 (a:=some dx) ?_;refine wpAny_nsGet hm ?_;rw[hv]
 repeat(any_goals (first | assumption | wp_step))
theorem zlT{vs:Array Value}{sl:Array (Option Value)}{b:Bool}{Q:Value->Shared->Prop}(X:K.In s.heap)(he:s.heap.get? x=some ⟨.ref D,some dx,.fields vs,sl⟩)(c:zfC K D)(hdc:hasDictIn K D=true)(hn:findIn K (.ref D) "number"=some none)(hm:s.heap.Ns dx mA)(hv:mA "number"=some v)(hh:handedIn v=true)(h:Q v {s with toks:=s.toks+1}):
  wpAny (model prog w) A (getAttr (.ref x) "number" b) Q E s:=by
 have hm':=hm;obtain⟨oD,_,_,hoD,_⟩:=hm';have I:InstAt s.heap x ⟨.ref D,some dx,.fields vs,sl⟩ D (some oD):=⟨he,rfl,rfl,hoD⟩;have L0:=I.type (M:=model prog w);have L1:=looks_findIn (M:=model prog w) X c.ga;have L2:=looks_findIn (M:=model prog w) X c.gt;obtain⟨hp,gg,d,t,os⟩:=s;have f3:=Wg.ga.bind (.ref x)
 have two:∀b:Bool,(b&&Yd "BaseException.__getattribute__"==Yd "object.__getattribute__")=false:=λb=>by
  cases b
  ·rfl
  ·decide +kernel
 have hx1:=two (onTheHeap (.ref D));have hx2:(Yd "BaseException.__getattribute__"==Yd "object.__getattribute__")=false:=two true;unfold getAttr getAttrBy
 repeat(any_goals (first | assumption | with_reducible refine L0.at ?_ | with_reducible refine L1.at ?_ | with_reducible refine L2.at ?_ | wp_step))
 rw[show(b&&onTheHeap (Yd "BaseException.__getattribute__"))=false from W3 _,if_neg (by decide)];unfold boundAndCalled
 repeat(any_goals (first | assumption | wp_step))
 refine Xw Wg.ga.plain F.entry_bexc_ga (zhY (s:=⟨hp,gg,d,t+1,os⟩) X I c (zlf (s:=⟨hp,gg,d,t+1,os⟩) X he hdc hn hm hv ?_));show wpAny _ _ (handedOut v) _ _ _;exact handed_on hh h
end
end IT
namespace IT
open PySem PySem.Spec L2
def zgg(Dc:Addr)(k:Int)(j:Nat)(σ:St)(H:Hp):Prop:=∃a c sl dx vs,σ[j]?=some (some (.ref a))/\H a=some (.frz ⟨.ref Dc,some dx,.fields vs,sl⟩ (.own a))/\H dx=some (.xd [("number",.int k)])/\c=()
structure ExcJ(K:Z7)(D:Addr):Prop where
 i:ExcI K D
 no:Y8 K (.ref D) "number"=some none
section
variable {X:Cx}{Dc:Addr}{k num:Int}{j o m:Nat}{nn oo mm:Str}
theorem zjD{cv:V}{cu:Value}{b:Bool}(ec:ExcI X.K Dc)(hcu:∀u,RelV cv u->u=cu)(e:Y7 X.K (.ref Dc) cu=some b):
  zcs X (.builtin "isinstance") (λvs H Q=>∃a sl dx fs,vs=[.ref a,cv]/\(H a=some (.frz ⟨.ref Dc,some dx,.fields fs,sl⟩ (.own a))/\H dx=some (.xd [("number",.int k)]))/\Q (.bl b) H):=by
 intro pins s σ H xs us Q I rs q;obtain⟨a,sl,dx,fs,rfl,⟨eH,eD⟩,q⟩:=q
 cases rs with
 | cons r1 r2=>
  cases r2 with
  |cons r2 r3=>
   cases r3;have e2:=hcu _ r2;subst e2
   cases (show _=ZD a from r1)
   obtain⟨h1,_⟩:=(show zaI X.prog X.w H s.heap a (.frz _ (.own a)) from I.hok a _ eH);obtain⟨oD,hoD⟩:=zkB (I.hok dx _ eD);have J:PySem.W.InstAt s.heap a ⟨.ref Dc,some dx,.fields fs,sl⟩ Dc (some oD):=⟨h1,rfl,rfl,hoD⟩;exact XE (zlw ec) I.kIn J e (λz=>nomatch z) λtk=>⟨.bl b,H,I.tok tk,rfl,q⟩
theorem zoB{n y:Str}{b:Bool}{p p1 p2 pos:Pos}(ec:ExcI X.K Dc)(io:zfJ X.K X.mg Dc y b)(hg:Gl X "isinstance")(hm:X.mg "isinstance"=none)(hgy:Gl X y)(hdy:(y==("__debug__":Str))=false)
  (hj:X.N[j]?=some n) (hv:Vis X.env.scope n) (hdn:(n==("__debug__":Str))=false) (hcn:(n==("__classdict__":Str))=false):
  PE X (.Call (.Name "isinstance" p) [.Name n p1,.Name y p2] [] pos) (λσ H Q=>zgg Dc k j σ H/\Q (.bl b) H):=by
 have fin:∀{cv:V} {cu:Value},(∀u,RelV cv u->u=cu)->Y7 X.K (.ref Dc) cu=some b->PE X (.Name y p2) (tC cv)->PE X (.Call (.Name "isinstance" p) [.Name n p1,.Name y p2] [] pos) (λσ H Q=>zgg Dc k j σ H/\Q (.bl b) H):=λh1 h2 h3=>by refine PE.imp (zbE (zjD (k:=k) ec h1 h2) hg hm Xb (zax (zbO hj hv hdn hcn) (zax h3 za1 rfl) rfl) (by decide) (by decide) rfl rfl) λσ H Q q=>?_;obtain⟨⟨a,_,sl,dx,fs,e1,e2,e3,_⟩,q⟩:=q;exact⟨.ref a,e1,a,sl,dx,fs,rfl,⟨e2,e3⟩,q⟩
 cases io with|own Cy hm2 e=>exact fin (cv:=.ref Cy) (λu r=>r) e (zkg hgy hm2 rfl hdy)|blt T hm2 hb hn e=>exact fin (cv:=.ty T) (λu r=>r) e (zgP hgy hm2 hb rfl hn hdy)
theorem zny{n:Str}{p pos:Pos}(ec:ExcJ X.K Dc)(hj:X.N[j]?=some n)(hv:Vis X.env.scope n)(hdn:(n==("__debug__":Str))=false)(hcn:(n==("__classdict__":Str))=false):
  PE X (.Attribute (.Name n p) "number" pos) (λσ H Q=>zgg Dc k j σ H/\Q (.int k) H):=by
 intro pins s σ H Q I ⟨⟨a,_,sl,dx,fs,e1,eH,eD,_⟩,q⟩;refine zoQ rfl (thn (zbO hj hv hdn hcn pins s σ H (λv H1=>v=.ref a/\H1=H) I ⟨.ref a,e1,rfl,rfl⟩) λu s1 q_=>?_);obtain⟨x,H1,I1,rx,ex,eh⟩:=q_;subst ex eh;obtain rfl:u=ZD a:=rx;obtain⟨h1,_⟩:=(show zaI X.prog X.w H1 s1.heap a (.frz _ (.own a)) from I1.hok a _ eH);obtain⟨mA,hn,r⟩:=(show zaI X.prog X.w H1 s1.heap dx (.xd _) from I1.hok dx _ eD)
 obtain⟨v,hv',rv⟩:=RelO.some_of (v:=.int k) (o:=mA "number") (by have:=r "number";simpa using this)
 exact zlT I1.kIn h1 ec.i.cls ec.i.dict ec.no hn.ns hv' (zjT rv) ⟨.int k,H1,I1.tok _,rv,q⟩
end
end IT
namespace IT
open PySem PySem.Spec L2
structure HnN(X:Cx)(Dc:Addr)(j o m:Nat)(nn oo mm z1 z2 z3 y:Str):Prop where
 ec:ExcJ X.K Dc
 i1:zfJ X.K X.mg Dc z1 false
 i2:zfJ X.K X.mg Dc z2 false
 i3:zfJ X.K X.mg Dc z3 false
 iy:zfJ X.K X.mg Dc y true
 iv:zfJ X.K X.mg Dc "ValueError" true
 gi:Gl X "isinstance"
 mi:X.mg "isinstance"=none
 gb:Gl X "bool"
 mb:X.mg "bool"=none
 gl:∀x∈[z1,z2,z3,y,("ValueError":Str)],Gl X x/\(x==("__debug__":Str))=false
 nd:X.N.Nodup
 nj:X.N[j]?=some nn
 no:X.N[o]?=some oo
 nm:X.N[m]?=some mm
 vj:Vis X.env.scope nn
 lo:Loc X.env.scope oo
 vm:Vis X.env.scope mm
 fo:X.fn oo=true\/X.env.scope.names.lookup oo=some .local
 pl:∀x∈[nn,oo,mm],(x==("__debug__":Str))=false/\(x==("__classdict__":Str))=false
 jo:j≠o
 mo:m≠o
section
variable {X:Cx}{Dc:Addr}{k num:Int}{j o m:Nat}{nn oo mm z1 z2 z3 y:Str}
theorem Vis.of(h:Loc X.env.scope oo):Vis X.env.scope oo:=h.elim .inl λz=>.inr (.inl z)
theorem zpa{a1 a2 a3 a4 a5 a6 a7 a8 a9 b1 b2 b3 b4 b5 b6 b7 b8 b9 c1 c2 c3 c4 c5 c6 c7 c8 c9 d1 d2 d3 d4 d5 d6 d7 d8 d9 e1 e2 e3 e4 e5 e6 e7 e8:Pos}{kk:Nat}(h:HnN X Dc j o m nn oo mm z1 z2 z3 y):
  PSs X [.Assign [.Name oo a1] (.BoolOp .Or [.Call (.Name "isinstance" a2) [.Name nn a3,.Name z1 a4] [] a5,.Call (.Name "isinstance" a6) [.Name nn a7,.Name z2 a8] [] a9,.Call (.Name "isinstance" b1) [.Name nn b2,.Name z3 b3] [] b4] b5) b6,
   .If (.BoolOp .Or [.Name oo b7,.UnaryOp .Not (.Call (.Name "isinstance" b8) [.Name nn b9,.Name y c1] [] c2) c3,.UnaryOp .Not (.Call (.Name "isinstance" c4) [.Name nn c5,.Name "ValueError" c6] [] c7) c8] c9) [.Return (some (.Constant (.bool false) kk d1)) d2] [] d3,
   .Return (some (.BoolOp .And [.Compare (.Attribute (.Name nn d4) "number" d5) [.Eq] [.Name mm d6] d7,.UnaryOp .Not (.Call (.Name "isinstance" d8) [.Attribute (.Name nn d9) "number" e1,.Name "bool" e2] [] e3) e4] e5)) e6]
   (λD σ H=>zgg Dc k j σ H/\σ[m]?=some (some (.int num))/\o<σ.length/\D.rt (.bl (k==num)) H):=by
 have hp:=h.pl;have pj:=hp nn (by simp);have po:=hp oo (by simp);have pm:=hp mm (by simp)
 have isx:∀{X':Cx} {x:Str} {b:Bool} {p p1 p2 pos:Pos},X'=X->zfJ X.K X.mg Dc x b->x∈[z1,z2,z3,y,("ValueError":Str)]->PE X (.Call (.Name "isinstance" p) [.Name nn p1,.Name x p2] [] pos) (λσ H Q=>zgg Dc k j σ H/\Q (.bl b) H):=λ_ io hx=>zoB h.ec.i io h.gi h.mi (h.gl _ hx).1 (h.gl _ hx).2 h.nj h.vj pj.1 pj.2
 have hnum:∀{p pos:Pos},PE X (.Attribute (.Name nn p) "number" pos) (λσ H Q=>zgg Dc k j σ H/\Q (.int k) H):=zny h.ec h.nj h.vj pj.1 pj.2;have hbool:∀{p2:Pos},PE X (.Name "bool" p2) (tC (.ty "bool")):=zgP (x:="bool") h.gb h.mb (zjm .bool) rfl (by decide) rfl;have s1:=zqu (X:=X) (pos:=b6) (pos':=a1) (i:=o) h.nd h.no h.lo (znY (pos:=b5) (isx (p:=a2) (p1:=a3) (p2:=a4) (pos:=a5) rfl h.i1 (by simp)) (znY (isx (p:=a6) (p1:=a7) (p2:=a8) (pos:=a9) rfl h.i2 (by simp)) (zhE (isx (p:=b1) (p1:=b2) (p2:=b3) (pos:=b4) rfl h.i3 (by simp))))) rfl h.fo
 have t2:PT X (.BoolOp .Or [.Name oo b7,.UnaryOp .Not (.Call (.Name "isinstance" b8) [.Name nn b9,.Name y c1] [] c2) c3,.UnaryOp .Not (.Call (.Name "isinstance" c4) [.Name nn c5,.Name "ValueError" c6] [] c7) c8] c9) _:=(zn0 (zkE (zbO (pos:=b7) h.no (Vis.of h.lo) po.1 po.2)) (zn0 (zkr (zkE (isx (p:=b8) (p1:=b9) (p2:=c1) (pos:=c2) rfl h.iy (by simp)))) (zmX (zkr (zkE (isx (p:=c4) (p1:=c5) (p2:=c6) (pos:=c7) rfl h.iv (by simp))))))).pt
 have s2:=zpc (pos:=d3) t2 (zfn (zeG (pos:=d2) (zqK (X:=X) (b:=false) (j:=kk) (pos:=d1)))) zku;have hisb:PE X (.Call (.Name "isinstance" d8) [.Attribute (.Name nn d9) "number" e1,.Name "bool" e2] [] e3) _:=zbE (zhQ .bool) h.gi h.mi Xb (zax hnum (zax hbool za1 rfl) rfl) (by decide) (by decide) rfl rfl;have s3:=zeG (pos:=e6) (znd (pos:=e5) (zkq (pos:=d7) zrR (hnum (p:=d4) (pos:=d5)) (zbO (pos:=d6) h.nm h.vm pm.1 pm.2) (zqo _)) (zhE (zq3 (pos:=e4) hisb)));refine PSs.imp (zdd s1 (zdd s2 (zfn s3))) λD σ H q=>?_;obtain⟨hH,hmn,hol,q⟩:=q
 have hH1:zgg Dc k j (σ.set o (some (.bl false))) H:=by
  obtain⟨a,c,sl,dx,vs,e1,r⟩:=hH
  exact⟨a,c,sl,dx,vs,by rw[Zr (Za h.jo)];exact e1,r⟩
 have hm1:(σ.set o (some (V.bl false)))[m]?=some (some (.int num)):=by rw[Zr (Za h.mo)];exact hmn
 refine⟨hH,false,rfl,iteF ⟨hH,false,rfl,iteF ⟨hH,?_⟩⟩⟩;refine⟨.bl false,Zs hol,false,rfl,iteF ⟨hH1,true,rfl,iteF ⟨hH1,true,rfl,iteF ?_⟩⟩⟩;refine⟨hH1,.int num,hm1,rfl,decide (V.int k=V.int num),rfl,?_⟩;rw[zjM]
 cases e:(k==num) with|false=>rw[e] at q;exact iteF q|true=>rw[e] at q;exact iteT ⟨hH1,(λ_=>False),.int k,.int k,by simp only[RdD,RepD],rfl,false,rfl,q⟩
end
end IT
namespace IT
open PySem PySem.Spec L2
theorem zkj{c:Nat}{r:R}{k:Int}(h:numE c r=some k):r=.d (.tup [.int c,.int k]):=by
 unfold numE at h
 split at h
 ·split at h
  ·rename_i z;cases h;rw[z]
  ·cases h
 ·cases h
structure zl6(X:Cx)(cv:ClsV)(ce:Expr)(f g:IT.Env->M R):Prop where
 ok:∀E',IE (X.wish E') ce f
 rs:∀(E':Value->Shared->Prop) (E:R->Hp->Prop) (pins:List (Addr×Obj)) (σ:St) (H:Hp) (s:Shared),Inv (X.wish E') pins σ H s->RX X.K g E σ H->(∀H1 s1 e s',Inv (X.wish E') pins σ H1 s1->CXk X.prog X.w X.stack H1 s1 (wX cv E) e s'->E' e s')->wpAny (model X.prog X.w) X.A (eval ce X.env) (λ_ _=>False) E' s
section
variable {X:Cx}{cv:ClsV}
theorem zpT{n np:Nat}{fx:Str}{dfl:List D}{m mX:List R->M R}{e:Expr}{es:List Expr}{p cpos:Pos}{fs:IT.Env->M (List R)}(hnx:X.xe=λ_ _=>False)(hF:zeN X n fx np dfl m)(hX:FunX X cv n fx np dfl mX)(hr:Room n X.A)(hg:Gl X fx)(ha:IA X (e::es) fs)(hf:∀σ h rs h',fs σ h=some (rs,h')->rs.length=(e::es).length)
  (hdb:(fx==("__debug__":Str))=false) (he:ZT (e::es) X.env=(false,eval e X.env)::ZT es X.env) (hpl:(backTo cpos (ZT es X.env)).any (·.1)=false):
  zl6 X cv (.Call (.Name fx p) (e::es) [] cpos) (λσ=>bnd (fs σ) λrs=>m rs) (λσ=>bnd (fs σ) λrs=>mX rs) where
 ok:=λE'=>zhx (X:=X.wish E') (pos:=cpos) (p:=p) ⟨hF.ex,hF.fill,hF.len⟩ hr hg (zdx (X:=X.wish E') (by rw[zdc hnx];exact ha)) hf hdb he hpl
 rs := λE' E pins σ H s I q hx=>by
  have ha':IA (X.wish E') (e::es) fs:=zdx (X:=X.wish E') (by rw[zdc hnx];exact ha)
  obtain⟨μ,h,env,R0,re,r,h',ee,k⟩:=q;simp only[zab] at ee;obtain⟨rs,h1,e1,ex⟩:=ee;obtain⟨f,fd,ps,dvs,F,hm,hk',hdd,hb⟩:=hX.ex;have hrs:=hf _ _ _ _ e1;have hlen:=hX.len _ _ _ ex;obtain⟨C,hC⟩:=hX.cls _ _ _ _ ex
  have hnot:¬(e::es).length+dfl.length<np:=λz=>by
   rw[zaP (by rw[hrs];exact z),hrs] at hlen
   omega
  have hjj:(e::es).length+dfl.length-np<=dfl.length:=by
   rw[zaF (by rw[hrs];exact hnot)] at hlen
   simp only[Zw,ZR,YN] at hlen;omega
  obtain⟨ds,hb,hv⟩:=hb _ hjj;refine ZC (zkI (X:=X.wish E') (Q:=λ_ _=>False) (E:=wX cv E) (t:=tAs X.K fs) F hr hg hm hk' hb hv ha' hdb he hpl I ⟨μ,h,env,R0,re,rs,h1,e1,λμ1 H1 vs s1 R1 q1=>?_⟩ hx) (λ_ _ ⟨_,_,_,_,z⟩=>z) λ_ _ z=>z
  have qq:zaL X.K μ1 h1 H1 (zao np dfl rs) (vs++dvs.drop ((e::es).length+dfl.length-np)):=by
   rw[zaF (by rw[hrs];exact hnot),hrs]
   exact q1.app (RepDs.drop _ (hdd _ _)).rs
  rw[hX.fill rs] at ex
  exact⟨by rw[<-qq.length];exact hlen,μ1,h1,zao np dfl rs,_,h',C,R1,qq,ex,hC,λμ2 H2 od s2 R2 o2=>⟨r,hC,o2,k μ2 H2 (s1.trans s2) R2⟩⟩
theorem znA{ci m j o:Nat}{cx nn:Str}{ce:Expr}{f g:IT.Env->M R}{b0:Stmt}{suite:List Stmt}{p1 np' hpos pos:Pos}{Ca Cr:Addr}
  (hnx:X.xe=λ_ _=>False) (hd:zd2 X) (hc:zl6 X cv ce f g) (hsw:Wx ce none p1.line X.env=pure false)
  (hgc:Gl X cx) (hmc:X.mg cx=some (.ref Ca)) (hdc:(cx==("__debug__":Str))=false) (hcv:∀k,cv (.d (.tup [.int ci,.int k]))=some (.ref Cr)) (hxm:WZ X.K (.ref Cr) (.ref Ca)=some true)
  (hN:X.N.Nodup) (hj:X.N[j]?=some nn) (hk:X.env.scope.names.lookup nn=some .local) (ho:o<X.N.length) (hjm:j≠m)
  (hs:∀(a:Addr) (EE':Value->Shared->Prop) (k num:Int),PSs (Cx.caught X a EE') (b0::suite) (λD σ H=>zgg Cr k j σ H/\σ[m]?=some (some (.int num))/\o<σ.length/\D.rt (.bl (k==num)) H)):
  PS X (.Try [.Expr ce p1] [.ExceptHandler (some (.Name cx np')) (some nn) (b0::suite) hpos] [] [] pos) (tS X.K (tryN ci m f g)):=by
 intro pins s σ H D I q0;obtain⟨μ,h,env,R0,re,fl,env',h',ee,k⟩:=q0;unfold tryN at ee;refine wpAny_Try_except ?_;generalize hE:(λ(e:Value) (s₁:Shared)=>wpAny (model X.prog X.w) X.A (Ut e X.env) (λ_ s₂=>wpAny (model X.prog X.w) X.A (Ur e none) (λ_ s₃=>wpAny (model X.prog X.w) X.A (handleBy e X.env [.ExceptHandler (some (.Name cx np')) (some nn) (b0::suite) hpos]) (SP X pins D) X.xe s₃) X.xe s₂) X.xe s₁)=E';have I':Inv (X.wish E') pins σ H s:=I.wish E'
 cases em:f env h with
 |some pr=>
  obtain⟨r,h2⟩:=pr;rw[em] at ee;simp only[Z3,ZO] at ee;obtain⟨⟨rfl,rfl⟩,rfl⟩:=ee;have hb:=zfn (zgZ (X:=X.wish E') (pos:=p1) (hc.ok E') hsw);refine ZC (hb pins s σ H D I' ⟨μ,h,env,R0,re,r,h2,em,λμ1 H1 v s1 R1 q1=>k μ1 H1 σ s1 R1 (re.stp s1 R0)⟩) (λf s1 q=>?_) λ_ _ z=>z;have q:=q.unwish
  cases f with|next=>exact VX q|brk=>exact q|cont=>exact q|ret u=>exact q
 | none=>
  rw[em] at ee;simp only at ee
  cases ex:g env h with
  |none=>rw[ex] at ee;cases ee
  | some pr=>
   obtain⟨r,h2⟩:=pr;rw[ex] at ee;simp only at ee
   cases en:numE ci r with
   |none=>rw[en] at ee;cases ee
   | some kk=>
    rw[en] at ee;simp only at ee
    split at ee
    case h_2=>cases ee
    rename_i num hm;simp only[Z3,ZO] at ee;obtain⟨⟨rfl,rfl⟩,rfl⟩:=ee;have hr:=zkj en;subst hr;refine WY (wpAny_Expr_any (ZC (hc.rs E' (λr H'=>r=.d (.tup [.int ci,.int kk])/\∃μ',Stp μ h H μ' h2 H'/\Rep X.K μ' h2 H') pins σ H s I' ⟨μ,h,env,R0,re,_,h2,ex,λμ1 H1 s1 R1=>⟨rfl,μ1,s1,R1⟩⟩ λH1 s1 e s' I1 c=>?_) (λ_ _ z=>z.elim) λ_ _ z=>z) I.quiet hsw);rw[<-hE];refine zeS hd I1.unwish c hgc hmc hdc hN hj hk (λC od H' z=>?_) λa C od H' ob s6 EE' z hcl hdn hfl na I6=>?_
    ·obtain ⟨r,e1,_,rfl,_⟩:=z
     rw[hcv] at e1;cases e1;exact hxm
    obtain⟨r,e1,e2,rfl,μ',st,R'⟩:=z;rw[hcv] at e1;cases e1;obtain⟨dx,rfl,eD⟩:=e2;obtain⟨vs,hvs⟩:=hfl;obtain⟨oc,od,odt,osl⟩:=ob;simp only at hcl hdn hvs;subst hcl hdn hvs
    have hjl:j<σ.length:=by rw[I.len];exact(Z2.mp hj).1
    have I7:=Inv.caught I6 a EE'
    have nd:dx≠a:=λz=>by rw[z,na] at eD;cases eD
    obtain⟨vm,em1,em2⟩:=re.get m _ hm
    have em2:vm=.int num:=by simpa only[RepR,RepD] using em2
    subst em2
    refine ZC (hs a EE' kk num pins s6 _ _ ⟨λ_ _=>False,λv H9=>D.rt v H9,λ_ _=>False,λ_ _=>False⟩ I7 ⟨⟨a,(),osl,dx,vs,Zs hjl,zak,by rw[zah nd];exact eD,rfl⟩,by rw[Zr hjm];exact em1,by rw[List.length_set,I.len];exact ho,?_⟩) (λf s7 q=>?_) λ_ _ z=>z
    ·have s2:=Stp.fresh (μ:=μ') (h:=h2) (o:=HO.frz ⟨ZD Cr,some dx,Data.fields vs,osl⟩ (.own a)) na
     have R2:=R'.fresh (o:=HO.frz ⟨ZD Cr,some dx,Data.fields vs,osl⟩ (.own a)) na;exact k μ' _ σ (st.trans s2) R2 (re.stp (st.trans s2) R0) _ (by simp only[RepR,RepD])
    ·cases f with
     |next=>obtain⟨σ',H9,J,q⟩:=q;exact q.elim|brk=>obtain⟨σ',H9,J,q⟩:=q;exact q.elim|cont=>obtain⟨σ',H9,J,q⟩:=q;exact q.elim
     |ret u=>obtain⟨v',σ',H9,J,r,q⟩:=q;exact zoU (Inv.uncaught I6 J) hN hj hk λs8 I8=>⟨v',_,H9,I8,r,q⟩
end
end IT
namespace IT
open PySem PySem.Spec L2
def zmp(P:ZB)(w:World)(K:Z7)(mg:Str->Option Value)(base:Heap)(CX:CXT)(n:Nat)(q:Str)(params:Arguments)(body:Expr)(scope:Scope)(sp:Sp):Prop:=∀(f:Addr) (A:Around) (outer:List Yv) (s:Shared) (H:Hp) (us:List Value) (vs:List V) (Q:VK) (E:XK),
 Room n A->Env0 P w K mg base A outer s H->zef H q params body scope f->Vals vs us->sp vs H Q E->Xs (model P w) A (.call (.ref f) ⟨us,[]⟩) (L2.CR CX outer P w H s Q E) s
theorem zm1{CX:CXT}{P:ZB}{w:World}{K:Z7}{mg:Str->Option Value}{base:Heap}{k:Nat}{q:Str}{params:Arguments}{body:Expr}{scope:Scope}{N ps:List Str}{sp:Sp}(S:zaR N ps scope)
  (len:∀vs H Q E,sp vs H Q E->vs.length=ps.length)
  (hbind:∀pm cd ctv us,us.length=ps.length->UA (VE "<lambda>" q params body scope [] pm cd ctv) ⟨us,[]⟩=pure (ps.zip us))
  (hbody:∀(f:Addr) (cdv:Value) (A:Around) (outer:List Yv) (s:Shared) (H:Hp) (vs:List V) (Q:VK) (E:XK),Room k (A.deeper (PyProof.Rows.envOfC q scope s.heap.objs.size f cdv))->sp vs H Q E →
   ∃t,PE (cxOf CX P w K mg base N q scope f cdv A outer s H E) body t/\t (start N vs) H Q):
  zmp P w K mg base CX (k+1) q params body scope sp:=by
 intro f A outer s H us vs Q E hr e0 hlam r hsp;have hl:=len _ _ _ _ hsp;obtain⟨pm,cd,ctv,eH,c',oc,vs',t',ec,eC,hd,hq⟩:=hlam;have hf:s.heap.get? f=some _:=(show zaI P w H s.heap f (.frz _ _) from e0.hok f _ eH).1;have hc:s.heap.get? c'=some oc:=(show zaI P w H s.heap c' (.frz _ _) from e0.hok c' _ eC).1;have lim:s.heap.NoLimit:=e0.mod.nolimit.keeps λb o e=>(e0.bs b o e).1
 have hkind:∀y∈ps.zip us,scope.names.lookup y.1=some .local\/(scope.names.lookup y.1=some .cell/\((cellsFrom (s.heap.objs.size+1) scope.names []).lookup y.1).isSome=true):=λ⟨n,v⟩ hy=>by
  rcases S.par n (VW hy).1 with q | q
  ·exact .inl q
  ·exact .inr ⟨q,Wp _ _ _ (.inl q)⟩
 refine PySem.W.kla_callFunE hr.depth hf rfl S.co S.gen rfl ⟨c',oc,vs',t',ec,hc,hd,hq⟩ ?_
 rw[hbind pm cd ctv us (by rw[<-r.length];exact hl)]
 refine Z6 ?_;refine VG S.kind hkind λenv he s1 x=>?_;subst he;refine⟨lim.keeps x.toInCall.keep,PySem.W.kla_codeExpr ?_⟩;obtain⟨t,ht,hq⟩:=hbody f cd A outer s H vs Q E (hr.deeper _) hsp;have I:Inv (cxOf CX P w K mg base N q scope f cd A outer s H E) [] (start N vs) H s1:=zf5 S hr.hd e0 hl r x;refine ZC (ht [] s1 (start N vs) H _ I hq) (λu s' q_=>?_) λe s' hs=>hs;obtain⟨v,H',J,rv,q⟩:=q_;exact⟨v,H',J.os,J.bare,J.base,J.hok,rv,q⟩
section
variable {X:Cx}{pins:List (Addr×Obj)}{σ:St}{H:Hp}{s:Shared}
theorem zcv{CX:CXT}{n i:Nat}{q:Str}{params:Arguments}{body:Expr}{scope:Scope}{sp:Sp}{E:XK}{Q:VK}{x:Str}{p pos:Pos}{e:Expr}{es:List Expr}{t:TA}{f:Addr}(F:zmp X.prog X.w X.K X.mg X.base CX n q params body scope sp)(hr:Room n X.A)
  (hi:X.N[i]?=some x) (hv:Vis X.env.scope x) (hdb:(x==("__debug__":Str))=false) (hcn:(x==("__classdict__":Str))=false) (ha:PA X (e::es) t)
  (he:ZT (e::es) X.env=(false,eval e X.env)::ZT es X.env) (hpl:(backTo pos (ZT es X.env)).any (·.1)=false)
  (I:Inv X pins σ H s) (ef:σ[i]?=some (some (.ref f))) (hl:zef H q params body scope f) (h:t σ H λvs H1=>zef H1 q params body scope f/\sp vs H1 Q E) (hx:∀H1 s1 e s',Inv X pins σ H1 s1->CX X.stack H1 s1 E e s'->X.xe e s'):
  wpAny (model X.prog X.w) X.A (eval (.Call (.Name x p) (e::es) [] pos) X.env) (EP X pins σ Q) X.xe s:=by
 have fnAt:∀{H2:Hp} {s2:Shared},Inv X pins σ H2 s2->zef H2 q params body scope f->PySem.W.FnAt f s2.heap:=λI2 ⟨_,_,_,eH,_⟩=>by have hf:=(show zaI X.prog X.w _ _ f (.frz _ _) from I2.hok f _ eH).1;exact⟨_,_,_,_,hf⟩
 refine Yg (thn (zbO (pos:=p) hi hv hdb hcn pins s σ H (λv H1=>v=.ref f/\H1=H) I ⟨.ref f,ef,rfl,rfl⟩) λu s1 q_=>?_);obtain⟨v,H1,I1,ru,ev,eh⟩:=q_;subst ev eh;obtain rfl:u=ZD f:=ru;refine PySem.W.callWith_F (fnAt I1 hl) (thn (ha pos pins s1 σ H1 _ I1 h) λus s2 ⟨vs,H2,I2,r,l2,q2⟩=>⟨fnAt I2 l2,?_⟩) he hpl;refine Wc (XC (F f X.A X.stack s2 H2 us vs Q E hr I2.env0 l2 r q2) λres s' hq=>?_)
 match res,hq with|.error e,hq=>exact hx H2 s2 e s' I2 hq|.ok (.ret u),hq=>exact I2.after hq
end
end IT
namespace IT
open PySem PySem.Spec L2
def BtAt(mg:Str->Option Value)(base:Heap):Prop:=∃bm o,mg "__builtins__"=some (.ref bm)/\bm≠VI/\base.get? bm=some o/\o.cls=.type "module"/\o.dict=some VI/\o.data=.plain
structure LamX(X:Cx)(Pt:Addr):Prop where
 code:∃c,X.env.code=.ref c/\Yf X.K c Pt=true
 bt:BtAt X.mg X.base
structure zqe(Pt:Addr)(q:Str)(params:Arguments)(body:Expr)(scope:Scope)(H:Hp)(f:Addr)(H':Hp):Prop where
 keep:∀b o,b≠Pt->H b=some o->H' b=some o
 tab:∃ps,H' Pt=some (.tbl ps)/\zcP H' q ps
 lam:zef H' q params body scope f
 new:H f=none
theorem ziU{pos pos':Pos}{c d:Value}(l:List Value)(h:VN l)(hn:VM pos l=none)(e:VM pos' (l++[rawInt pos.line,rawInt pos.col,c])=some d):VM pos' l=some d\/d=c:=by
 fun_induction VN l with
 |case1=>simp[VM,rawInt] at e;exact .inr e.2.symm
 | case2 i t j u x rest ih=>
  simp only[XN,VM] at e hn⊢
  split at e
  ·rename_i z;rw[if_pos z];exact .inl e
  ·rename_i z
   rw[if_neg z]
   split at hn
   ·cases hn
   ·exact ih h hn e
 |case3=>exact h.elim
theorem zgh{pos:Pos}{c:Value}(l:List Value)(h:VN l):VN (l++[rawInt pos.line,rawInt pos.col,c]):=by
 fun_induction VN l with|case1=>simp[VN,rawInt]|case2 i t j u x rest ih=>exact ih h|case3=>exact h.elim
section
variable {X:Cx}{Pt:Addr}{params:Arguments}{body:Expr}{scope:Scope}{pos:Pos}
theorem zpZ(L:LamX X Pt)(hdef:defaultsOf params X.env=([],[]))(hcl:UO scope X.env=pure []):
  PE X (.Lambda params body scope pos) (λσ H Q=>∃ps,H Pt=some (.tbl ps)/\zcP H (X.env.qual++"<lambda>") ps/\∀f H',zqe Pt (X.env.qual++"<lambda>") params body scope H f H'->Q (.ref f) H'):=by
 intro pins s σ H Q I ⟨ps,eP,⟨tr,tg⟩,q⟩;obtain⟨c,ec,hcd⟩:=L.code;obtain⟨bm,ob,b1,b2,b4,b5,b6,b7⟩:=L.bt;have hP:s.heap.get? Pt=some (XJ ps):=(show zaI X.prog X.w H s.heap Pt (.tbl ps) from I.hok Pt _ eP);have hgs:s.heap.Ns mainGlobals X.mg:=I.mod.glob.keeps I.bk;have hbo:=I.bk _ _ b4
 have b3:bm≠mainGlobals:=λz=>by
  obtain⟨o,es,ep,e,hd,_⟩:=hgs
  rw[<-z,hbo] at e;cases e;rw[b7] at hd;cases hd
 have hgP:mainGlobals≠Pt:=λz=>by
  obtain⟨o,es,ep,e,hd,_⟩:=hgs
  rw[z,hP] at e;cases e;cases hd
 have hbP:bm≠Pt:=λz=>by rw[z,hP] at hbo;cases hbo;cases b7
 have hb:s.heap.BuiltinsAt X.mg Pt:=⟨bm,ob,b1,b2,b3,hbP,hbo,b5,b6,b7⟩;have C:=PySem.W.codeHd_of_K I.kIn hcd;refine PySem.W.kla_eval hdef ?_
 cases hca:VM pos ps.toList with
 |some cv=>
  refine PySem.W.kla_makeFunctionHit (mg:=X.mg) hcl I.ok.glob hgs ec C hP tr hca hb λctv h' tk kp hsz=>?_;generalize ho:(⟨.type "function",none,.func (VE "<lambda>" (X.env.qual++"<lambda>") params body scope [] ((X.mg "__name__").getD .none) cv ctv),#[]⟩:Obj)=o;have hfr:H h'.objs.size=none:=I.hok.fresh hsz
  have hob:(h'.push o).get? h'.objs.size=some o:=ZH _ (by rw[<-ho];rfl)
  have I2:=I.laid (a:=h'.objs.size) (o:=.frz o (.own h'.objs.size)) (h':=h'.push o) (t':=tk) (λb u z=>Z5 _ (kp b u z)) hsz ⟨hob,⟨o,hob⟩⟩
  have kk:∀b u,H b=some u->upd H h'.objs.size (.frz o (.own h'.objs.size)) b=some u:=λb u e=>by rw[zah (zai e hfr)];exact e
  refine⟨.ref h'.objs.size,_,I2,rfl,q _ _ ⟨λb u _ e=>kk b u e,⟨ps,kk _ _ eP,tr,λp c' e=>(tg p c' e).keep λb o u e=>kk _ _ e⟩,⟨_,cv,ctv,by rw[zak,<-ho],(tg _ _ hca).keep λb o u e=>kk _ _ e⟩,hfr⟩⟩
 | none =>
  refine PySem.W.kla_makeFunction (mg:=X.mg) hcl I.ok.glob hgs ec C hP tr hca hgP hb λc' ctv h' tk hx hge hlt hrec htb=>?_;obtain⟨c2,oc,vs,t,ecc,hoc,hdat,hv1⟩:=hrec;cases ecc;generalize ho:PySem.W.kla_obj "<lambda>" (X.env.qual++"<lambda>") params body scope [] ((X.mg "__name__").getD .none) c' ctv=o;generalize hps:ps++#[rawInt pos.line,rawInt pos.col,ZD c']=ps2 at htb;have hHc:H c'=none:=I.hok.fresh hge;have hHf:H h'.objs.size=none:=I.hok.fresh (Xi (Nat.lt_of_le_of_lt hge hlt));have nPc:Pt≠c':=zai eP hHc;have nPf:Pt≠h'.objs.size:=zai eP hHf;have nfc:c'≠h'.objs.size:=ZI hlt
  have hof:(h'.push o).get? h'.objs.size=some o:=ZH _ (by rw[<-ho];rfl)
  have hop:(h'.push o).get? Pt=some (XJ ps2):=Z5 _ htb;have hocp:(h'.push o).get? c'=some oc:=Z5 _ hoc;have kp:∀b u,b≠Pt->s.heap.get? b=some u->(h'.push o).get? b=some u:=λb u hb z=>Z5 _ (hx b u hb z);generalize hH2:upd (upd (upd H Pt (.tbl ps2)) c' (.frz oc (.own c'))) h'.objs.size (.frz o (.own h'.objs.size))=H2
  have old:∀b u,b≠Pt->H b=some u->H2 b=some u:=λb u hb e=>by rw[<-hH2,zah (zai e hHf),zah (zai e hHc),zah hb];exact e
  have eP2:H2 Pt=some (.tbl ps2):=by rw[<-hH2,zah nPf,zah nPc,zak]
  have ec2:H2 c'=some (.frz oc (.own c')):=by rw[<-hH2,zah nfc,zak]
  have ef2:H2 h'.objs.size=some (.frz o (.own h'.objs.size)):=by rw[<-hH2,zak]
  have non:∀b u,s.heap.get? b=some u->H b=none->H2 b=none:=λb u z n=>by
   have hb:=ZW z
   rw[<-hH2,zah (ZI (Xd (ZE hb hge) hlt)),zah (ZI (ZE hb hge)),zah (λw=>by rw[w,eP] at n;cases n)];exact n
  have nP:∀{b:Addr} {u:HO},H b=some u->(∀z,u≠.tbl z)->b≠Pt:=λ{b u} e d w=>by rw[w,eP] at e;exact d _ (ZY e).symm
  have nP0:∀{b:Addr},H b=none->b≠Pt:=λn w=>by rw[w,eP] at n;cases n
  have I2:Inv X pins σ H2 {s with heap:=h'.push o,toks:=tk}:=by
   refine I.un (h':=h'.push o) (t':=tk) ⟨λb u z n _ _=>kp b u (nP0 n) z,λb u z n _ _=>⟨u.slots,kp b u (nP0 n) z⟩,λb u z n _=>non b u z n,λb u z _=>?_,λb xs e=>old b _ (nP e (by intro _ w;cases w)) e,λb u v e=>old b _ (nP e (by intro _ w;cases w)) e,λb p e=>?_⟩ λa u e=>?_
   ·by_cases hb:b=Pt
    ·exact⟨_,by rw[hb];exact hop⟩
    ·exact⟨u,kp b u hb z⟩
   ·by_cases hb:b=Pt
    ·subst hb
     rw[eP] at e;cases e;exact⟨_,by rw[eP2,<-hps]⟩
    ·exact⟨#[],by rw[old b _ hb e];simp⟩
   ·by_cases h1:a=h'.objs.size
    ·subst h1;rw[ef2] at e;cases e;exact⟨hof,o,hof⟩
    ·by_cases h2:a=c'
     ·subst h2;rw[ec2] at e;cases e;exact⟨hocp,oc,hocp⟩
     ·by_cases h3:a=Pt
      ·subst h3;rw[eP2] at e;cases e;exact hop
      ·rw [<-hH2,zah h1,zah h2,zah h3] at e
       refine(I.hok a u e).stay (λb v hb z=>kp b v ?_ z) (λb z=>old b _ (nP z (by intro _ w;cases w)) z) λb xs z=>old b _ (nP z (by intro _ w;cases w)) z
       rcases hb with rfl | hb
       ·exact h3
       ·exact nP hb (by intro _ w;cases w)
  have kf:∀b o u,H b=some (.frz o u)->H2 b=some (.frz o u):=λb o u e=>old b _ (nP e (by intro _ w;cases w)) e
  have hcH:zir H2 (X.env.qual++"<lambda>") (.ref c'):=⟨c',oc,vs,t,rfl,ec2,hdat,hv1⟩
  have htl:ps2.toList=ps.toList++[rawInt pos.line,rawInt pos.col,ZD c']:=by rw[<-hps];simp
  refine⟨.ref h'.objs.size,H2,I2,rfl,q _ _ ⟨old,⟨ps2,eP2,by rw[htl];exact zgh _ tr,λp d e=>?_⟩,⟨_,.ref c',ctv,by rw[ef2,<-ho],hcH⟩,hHf⟩⟩
  rw[htl] at e
  rcases ziU _ tr hca e with z | z
  ·exact(tg p d z).keep kf
  ·rw[z];exact hcH
end
end IT
namespace IT
open PySem PySem.Spec L2
structure LamG(X:Cx):Prop where
 code:∃c,X.env.code=.ref c/\za6 X.K=some c
 qual:X.env.qual++"<lambda>"=lamQ
 bt:BtAt X.mg X.base
section
variable {X:Cx}{params:Arguments}{body:Expr}{scope:Scope}{pos:Pos}{x:Str}
theorem zpM(L:LamG X)(fm:ziS x params body scope)(hdef:defaultsOf params X.env=([],[]))(hcl:UO scope X.env=pure []):IE X (.Lambda params body scope pos) (λ_=>newF x):=by
 intro pins s σ H Q I q;obtain⟨μ,h,env,R0,re,r,h',e,k⟩:=q;unfold newF at e
 split at e
 case h_2=>cases e
 rename_i h0;simp only[Z3,ZO] at e;obtain⟨rfl,rfl⟩:=e
 have hlt:0<μ.length:=by rw[R0.len];exact(Z2.mp h0).1
 obtain⟨a,ea⟩:∃a,μ[0]?=some a:=⟨_,Z4 hlt⟩;obtain⟨ps,eP,tg,c',lc,hd⟩:=R0.obj 0 a _ ea h0;obtain⟨c,ec,lc'⟩:=L.code;rw[lc] at lc';cases lc';have hl:Live μ h a:=⟨0,.tab,ea,h0,rfl⟩
 refine zpZ (Pt:=a) ⟨⟨_,ec,hd⟩,L.bt⟩ hdef hcl pins s σ H Q I ⟨ps,eP,by rw[L.qual];exact tg,λf H' N=>?_⟩
 rw[L.qual] at N
 have fr:∀i b,μ[i]?=some b->b≠f:=λi b e z=>by
  have hi:i<h.length:=by rw[<-R0.len];exact(Z2.mp e).1
  obtain⟨u,q⟩:=(R0.obj i b _ e (Z4 hi)).some;rw[z,N.new] at q;cases q
 have st:Stp μ h H (μ++[f]) (h++[.fnc x]) H':=⟨λi b e=>by rw[ZF (Z2.mp e).1];exact e,λb o n e=>N.keep b o (λz=>n (z▸hl)) e,λb l=>by
  rcases(zfa R0.len).mp l with z|⟨_,z⟩
  ·exact .inl z
  ·cases z⟩
 have nd:(μ++[f]).Nodup:=by
  rw[Vh];refine⟨R0.nd,by simp,λb hb d hd z=>?_⟩;obtain⟨i,hi⟩:=XB hb
  have:d=f:=by simpa using hd
  exact fr i b hi (z.trans this)
 have R1:Rep X.K (μ++[f]) (h++[.fnc x]) H':=by
  refine⟨by simp[R0.len],nd,λi b o e1 e2=>?_⟩
  by_cases hi:i<μ.length
  ·rw [ZF hi] at e1
   rw[ZF (by rw[<-R0.len];exact hi)] at e2
   by_cases hb:b=a
   ·subst hb
    have hi0:i=0:=zc9 R0.nd e1 ea;subst hi0;rw[h0] at e2;cases e2;obtain⟨ps',e',g'⟩:=N.tab;exact⟨ps',e',g',_,lc,hd⟩
   ·obtain ⟨u,eu⟩:=(R0.obj i b o e1 e2).some
    exact RepO.stp st R0 ((N.keep b u hb eu).trans eu.symm) (R0.obj i b o e1 e2)
  ·have hi2:i=μ.length:=by
    have:=(Z2.mp e1).1
    simp at this;omega
   subst hi2;rw[R0.len] at e2;simp at e1 e2;subst e1 e2;exact⟨params,body,scope,fm,N.lam⟩
 refine k (μ++[f]) H' (.ref f) st R1 ⟨f,?_,rfl⟩;rw[<-R0.len];simp
end
section
variable {X:Cx}{n:Nat}{y:Str}{m mX:List R->M R}{params:Arguments}{body:Expr}{scope:Scope}{cv:ClsV}
theorem env1{K:Z7}{μ:List Addr}{h:Sto}{H:Hp}{r:R}{v:V}{t:Str}(q:RepR K μ h H r v):RepE K μ h H [some r] (L2.start [t] [v]):=by
 refine⟨rfl,λi r' e=>?_⟩
 cases i with|zero=>cases e;exact⟨v,rfl,q⟩|succ i=>cases e
theorem zmY{K:Z7}{μ:List Addr}{h:Sto}{H:Hp}{rs:List R}{vs:List V}(q:zaL K μ h H rs vs)(hl:vs.length=1):∃r v,rs=[r]/\vs=[v]/\RepR K μ h H r v:=by
 cases q with
 |nil=>cases hl
 |cons q1 q2=>
  cases q2 with|nil=>exact⟨_,_,rfl,rfl,q1⟩|cons _ _=>simp at hl
theorem arg1(i:Nat)(σ:IT.Env)(h:Sto)(rs:List R)(h':Sto)(e:(bnd (λh=>match σ[i]? with | some (some r)=>some (r,h) | _=>none) λr=>bnd (ok []) λrs=>ok (r::rs)) h=some (rs,h')):rs.length=1:=by simp only[zab,zac] at e;obtain⟨r,h1,e1,_,_,⟨rfl,rfl⟩,rfl,rfl⟩:=e;rfl
theorem zqC(fm:ziS y params body scope)(hF:zeN X n y 1 [] m):zmp X.prog X.w X.K X.mg X.base CX0 (n+1) lamQ params body scope (spF X.K 1 m):=by
 obtain⟨t,p1,p2,p3,rfl,S,hx,pt,px,bind⟩:=fm;refine zm1 (N:=[t]) (ps:=[t]) S (λvs H Q E h=>h.1) (λpm cd ctv us hl=>bind lamQ pm cd ctv us hl) λf cdv A outer s H vs Q E hr h=>?_;have v0:Vis scope t:=(S.par t (by simp)).elim .inl λz=>.inr (.inl z);refine⟨_,zhx (X:=cxOf CX0 X.prog X.w X.K X.mg X.base [t] lamQ scope f cdv A outer s H E) (n:=n) ⟨hF.ex,hF.fill,hF.len⟩ hr hx (zg6 (zjf (i:=0) (zbO rfl v0 pt.1 pt.2)) zjo rfl) (arg1 0) px rfl rfl,?_⟩
 ·obtain ⟨hv,μ,h0,rs,R0,qr,r,h',e,k⟩:=h
  obtain⟨r1,v1,rfl,rfl,q1⟩:=zmY qr hv;exact⟨μ,h0,[some r1],R0,env1 q1,r,h',e,k⟩
theorem zkn(fm:ziS y params body scope)(hX:FunX X cv n y 1 [] mX):zmp X.prog X.w X.K X.mg X.base (CXk X.prog X.w) (n+1) lamQ params body scope (spX X.K cv 1 mX):=by
 obtain⟨t,p1,p2,p3,rfl,S,hx,pt,px,bind⟩:=fm;refine zm1 (N:=[t]) (ps:=[t]) S (λvs H Q E h=>h.1) (λpm cd ctv us hl=>bind lamQ pm cd ctv us hl) λf cdv A outer s H vs Q E hr h=>?_;have v0:Vis scope t:=(S.par t (by simp)).elim .inl λz=>.inr (.inl z);have dc:zd2 (cxOf (CXk X.prog X.w) X.prog X.w X.K X.mg X.base [t] lamQ scope f cdv A outer s H E):=⟨rfl,rfl,rfl⟩
 have pass:zc4 (CXk X.prog X.w) (cxOf (CXk X.prog X.w) X.prog X.w X.K X.mg X.base [t] lamQ scope f cdv A outer s H E) (wX cv λr H'=>∀C od,cv r=some C->OdOk r od H'->E C od H'):=λpins σ H1 s1 e s' I c=>ZC (zmW dc I c) (λ_ s'' z=>let ⟨a,C,od,H',e1,f1,d,r,e2,o,q⟩:=z;⟨a,C,od,H',e1,f1,d,q C od e2 o⟩) λ_ _ z=>z
 refine⟨_,zg9 (X:=cxOf (CXk X.prog X.w) X.prog X.w X.K X.mg X.base [t] lamQ scope f cdv A outer s H E) (n:=n) (E:=λr H'=>∀C od,cv r=some C->OdOk r od H'->E C od H') ⟨hX.ex,hX.fill,hX.len,hX.cls⟩ hr hx pass (zg6 (zjf (i:=0) (zbO rfl v0 pt.1 pt.2)) zjo rfl) (arg1 0) px rfl rfl,?_⟩;obtain⟨hv,μ,h0,rs,r,h',C,R0,qr,e,hC,k⟩:=h;obtain⟨r1,v1,rfl,rfl,q1⟩:=zmY qr hv
 exact⟨μ,h0,[some r1],R0,env1 q1,r,h',e,λμ' H' st R' C' od e2 o=>by rw[hC] at e2;cases e2;exact k μ' H' od st R' o⟩
end
def cvM(Γ:Calls)(xo:Nat->Nat)(i:Nat)(tb:List (Str×Nat))(fs:IT.Env->M (List R)):IT.Env->M R:=λσ=>bnd (varM σ i) λx=>bnd (fnOf x) λy=>bnd (opt (tb.lookup y)) λf=>bnd (fs σ) λrs=>Γ (xo f) rs
theorem zeX{Γ:Calls}{xo:Nat->Nat}{i:Nat}{tb:List (Str×Nat)}{fs:IT.Env->M (List R)}{env:IT.Env}{h:Sto}{r:R}{h':Sto}(e:cvM Γ xo i tb fs env h=some (r,h')):
  ∃l y f rs h1,env[i]?=some (some (.loc l))/\h[l]?=some (.fnc y)/\tb.lookup y=some f/\fs env h=some (rs,h1)/\Γ (xo f) rs h1=some (r,h'):=by
 unfold cvM at e;simp only[zab] at e;obtain⟨x,h1,e1,y,h2,e2,f,h3,e3,rs,h4,e4,e5⟩:=e;unfold varM at e1
 split at e1
 case h_2=>cases e1
 rename_i r0 er;simp only[Z3,ZO] at e1;obtain⟨rfl,rfl⟩:=e1;unfold fnOf at e2
 split at e2
 case h_2=>cases e2
 rename_i l
 split at e2
 case h_2=>cases e2
 rename_i y' ey;simp only[Z3,ZO] at e2;obtain⟨rfl,rfl⟩:=e2;unfold opt at e3
 split at e3
 case h_2=>cases e3
 rename_i f' ef;simp only[Z3,ZO] at e3;obtain⟨rfl,rfl⟩:=e3;exact⟨l,y',f',rs,h4,er,ey,ef,e4,e5⟩
section
variable {X:Cx}{Γ:Calls}{n i:Nat}{x:Str}{tb:List (Str×Nat)}{fs:IT.Env->M (List R)}{e:Expr}{p pos:Pos}{cv:ClsV}
theorem ze4{μ:List Addr}{h:Sto}{H:Hp}{env:IT.Env}{σ:St}{l:Nat}{y:Str}(R0:Rep X.K μ h H)(re:RepE X.K μ h H env σ)(er:env[i]?=some (some (.loc l)))(ey:h[l]?=some (.fnc y)):
  ∃f params body scope,σ[i]?=some (some (.ref f))/\ziS y params body scope/\zef H lamQ params body scope f:=by
 obtain⟨v,e1,a,ea,rfl⟩:=re.get i _ er;obtain⟨params,body,scope,fm,l⟩:=R0.obj _ a _ ea ey;exact⟨a,params,body,scope,e1,fm,l⟩
theorem zpO(hf:∀y f,tb.lookup y=some f->zeN X n y 1 [] (Γ f))(hr:Room (n+1) X.A)(hi:X.N[i]?=some x)(hv:Vis X.env.scope x)(hdb:(x==("__debug__":Str))=false)(hcn:(x==("__classdict__":Str))=false)
  (ha:IA X [e] fs) (hfl:∀σ h rs h',fs σ h=some (rs,h')->rs.length=1) (he:ZT [e] X.env=[(false,eval e X.env)]):IE X (.Call (.Name x p) [e] [] pos) (cvM Γ id i tb fs):=by
 intro pins s σ H Q I q;obtain⟨μ,h,env,R0,re,r,h',ee,k⟩:=q;obtain⟨l,y,f,rs,h1,er,ey,ef,e1,e2⟩:=zeX ee;obtain⟨fa,params,body,scope,es,fm,hl⟩:=ze4 R0 re er ey
 refine zcv (X:=X) (E:=E0) (zqC fm (hf y f ef)) hr hi hv hdb hcn ha he rfl I es hl ⟨μ,h,env,R0,re,rs,h1,e1,λμ1 H1 vs s1 R1 q1=>⟨hl.keep (s1.frz R0),by rw[<-q1.length];exact hfl _ _ _ _ e1,μ1,h1,rs,R1,q1,r,h',e2,λμ2 H2 v s2 R2 q2=>k μ2 H2 v (s1.trans s2) R2 q2⟩⟩ λ_ _ _ _ _ z=>z.elim
theorem zq5(hnx:X.xe=λ_ _=>False)(hf:∀y f,tb.lookup y=some f->zeN X n y 1 [] (Γ f))(hX:∀y f,tb.lookup y=some f->FunX X cv n y 1 [] (Γ (xof f)))(hr:Room (n+1) X.A)(hi:X.N[i]?=some x)(hv:Vis X.env.scope x)(hdb:(x==("__debug__":Str))=false)(hcn:(x==("__classdict__":Str))=false)
  (ha:IA X [e] fs) (hfl:∀σ h rs h',fs σ h=some (rs,h')->rs.length=1) (he:ZT [e] X.env=[(false,eval e X.env)]):zl6 X cv (.Call (.Name x p) [e] [] pos) (cvM Γ id i tb fs) (cvM Γ xof i tb fs) where
 ok:=λE'=>zpO (X:=X.wish E') (λy f z=>⟨(hf y f z).ex,(hf y f z).fill,(hf y f z).len⟩) hr hi hv hdb hcn (zdx (X:=X.wish E') (by rw[zdc hnx];exact ha)) hfl he
 rs:=λE' E pins σ H s I q hx=>by
  have ha':IA (X.wish E') [e] fs:=zdx (X:=X.wish E') (by rw[zdc hnx];exact ha)
  obtain⟨μ,h,env,R0,re,r,h',ee,k⟩:=q;obtain⟨l,y,f,rs,h1,er,ey,ef,e1,e2⟩:=zeX ee;obtain⟨fa,params,body,scope,es,fm,hl⟩:=ze4 R0 re er ey;obtain⟨C,hC⟩:=(hX y f ef).cls _ _ _ _ e2
  refine ZC (zcv (X:=X.wish E') (Q:=λ_ _=>False) (E:=wX cv E) (zkn (X:=X) fm (hX y f ef)) hr hi hv hdb hcn ha' he rfl I es hl ⟨μ,h,env,R0,re,rs,h1,e1,λμ1 H1 vs s1 R1 q1=>⟨hl.keep (s1.frz R0),by rw[<-q1.length];exact hfl _ _ _ _ e1,μ1,h1,rs,r,h',C,R1,q1,e2,hC,λμ2 H2 od s2 R2 o2=>⟨r,hC,o2,k μ2 H2 (s1.trans s2) R2⟩⟩⟩ hx) (λ_ _ ⟨_,_,_,_,z⟩=>z) λ_ _ z=>z
end
end IT
namespace IT
open PySem PySem.Spec L2
section
variable {X:Cx}{E:R->Hp->Prop}{g:IT.Env->M R}
theorem zhK{scope:Scope}{N':List Str}{own:List Nat}{elt tg iter:Expr}{ifs:List Expr}{pos:Pos}(K:zfP X scope N' own)(hi:PE X iter (λσ H _=>RX X.K g E σ H))(hs:∀x,Ys iter X.env x=pure x):
  PE X (.ListComp elt [⟨tg,iter,ifs,0⟩] scope pos) (λσ H _=>RX X.K g E σ H):=by
 intro pins s σ H Q I q;obtain⟨cl,hclos,_,_⟩:=zbf (scope:=scope) (env:=X.env) (λx hx hf=>I.ok.has x.1 (K.free x hx hf));rw[eval_ListComp];exact WN (use:=none) rfl hs hclos K.kind K.names (ZC (hi pins s σ H (λ_ _=>False) I q) (λ_ _ ⟨_,_,_,_,z⟩=>z.elim) λ_ _ z=>z)
theorem zkS{n np:Nat}{x:Str}{dfl:List D}{m:List R->M R}{e:Expr}{p pos:Pos}(hF:zeN X n x np dfl m)(hr:Room n X.A)(hg:Gl X x)(he:PE X e (λσ H _=>RX X.K g E σ H))(hdb:(x==("__debug__":Str))=false)(hst:ZT [e] X.env=[(false,eval e X.env)]):
  PE X (.Call (.Name x p) [e] [] pos) (λσ H _=>RX X.K g E σ H):=by
 obtain⟨f,fd,ps,dvs,F,hm,hk,hd,hb⟩:=hF.ex;obtain⟨ds,hb,hv⟩:=hb dfl.length (ZZ _);exact PE.imp (ze3 F hr hg hm hk hb hv zlc (zax he za1 hst) hdb hst rfl) λσ H Q q=>q
end
end IT
namespace IT
open PySem PySem.Spec L2
theorem noT{P:Prop}(h:false=true):P:=by cases h
theorem noF{P:Prop}(h:true=false):P:=by cases h
structure zkk where
 name:Str
 init:Nat
 fields:List Str
 meths:List (Str×Nat)
structure Cst where
 N:List Str
 names:List (Str×Xn)
 fns:List (Str×Nat×List D)
 globs:List (Str×D)
 top:Bool
 cls:List zkk
 gds:List (Str×List (List Nat×D))
 exs:List zcg:=[]
 lm:Bool:=false
def zam:Expr->Bool|.Starred _ _=>false|_=>true
def visB(C:Cst)(x:Str):Bool:=match C.names.lookup x with|some .local=>true|some .cell=>true|some .free=>true|_=>false
def locB(C:Cst)(x:Str):Bool:=match C.names.lookup x with|some .local=>true|some .cell=>C.top|_=>false
def zcp(C:Cst)(x:Str):Bool:=match C.names.lookup x with|some .globalImplicit=>true|_=>false
def zaw(x:Str):Bool:=!(x==("__debug__":Str))&&!(x==("__classdict__":Str))
def conB:D->Const->Bool|.non,.none=>true|.bl b,.bool c=>b==c|.int i,.int j=>i==j|.str x,.str y=>zaa x==y|_,_=>false
def strB(c:Const)(k:Str):Bool:=match c with|.str x=>x==k|_=>false
theorem zos{c:Const}{k:Str}(h:strB c k=true):c=.str k:=by
 unfold strB at h
 split at h
 ·rw[ZX h]
 ·cases h
def boB:Bo->U2->Bool|.add,.Add=>true|.sub,.Sub=>true|.mul,.Mult=>true|.fdiv,.FloorDiv=>true|.mod,.Mod=>true|.pow,.Pow=>true|.band,.BitAnd=>true|.bor,.BitOr=>true|_,_=>false
def coB:Co->CmpOp->Bool|.eq,.Eq=>true|.ne,.NotEq=>true|.lt,.Lt=>true|.le,.LtE=>true|.gt,.Gt=>true|.ge,.GtE=>true|.isin,.In=>true|.notin,.NotIn=>true|.isN,.Is=>true|.isnotN,.IsNot=>true|_,_=>false
def biS:Bi->Str|.len=>"len"|.sum=>"sum"|.tuple=>"tuple"|.int=>"int"|.all=>"all"|.any=>"any"|.max=>"max"|.min=>"min"|.str=>"str"
def meS:Me->Str|.append=>"append"|.pop=>"pop"|.popAt=>"pop"|.clear=>"clear"|.extend=>"extend"
def biOn:Bi->Bool|.len=>true|.sum=>false|.tuple=>true|.int=>true|.all=>true|.any=>false|.max=>false|.min=>false|.str=>true
def meOn:Me->Bool|.append=>true|.pop=>false|.popAt=>false|.clear=>false|.extend=>false
def zlE:Expr->Bool|.Call _ [] _ _=>false|_=>true
def me0:Me->Bool|.pop=>true|.clear=>true|_=>false
def zgE:Expr->Bool|.Name _ _=>true|_=>false
def zk2:Expr->Bool|.Set _ _ _=>true|_=>false
def zeI:Expr->Bool|.Slice _ _ _ _=>true|_=>false
def zc7:E->Bool|.con .non=>true|_=>false
def zdz:Expr->Bool|.UnaryOp .Not _ _=>false|.BoolOp _ _ _=>false|.IfExp _ _ _ _=>false|.Compare _ _ _ _=>false|_=>true
def zkW:Expr->Bool|.Compare _ _ _ _=>true|_=>false
def zqJ(x:Str):Str:=("?":Str)++x
def relN(outer names:List (Str×Xn)):List (Str×Xn):=names.map λ(n,k)=>if(k==V4&&outer.lookup n==some .cell) then(n,.cell) else(n,k)
mutual
noncomputable def zcz:Tg->Expr->List (Nat×Str)
 |.name i,e=>match e with
  |.Name x _=>[(i,x)]|_=>[]
 |.tup ts,e=>match e with
  |.Tuple xs _ _=>tgNamess ts xs|_=>[]
noncomputable def tgNamess:List Tg->List Expr->List (Nat×Str)
 | [],_=>[]
 |t::ts,es=>match es with
  |e::es=>zcz t e++tgNamess ts es| []=>[]
end
def blkN(N:List Str)(own:List (Nat×Str)):List Str:=own.foldl (λM p=>M.set p.1 p.2) (N.map λx=>if own.any (λp=>p.2==x) then zqJ x else x)
def blkC(C:Cst)(sc:Scope)(own:List (Nat×Str)):Cst:={N:=blkN C.N own,names:=relN C.names sc.names,fns:=C.fns,globs:=C.globs,top:=false,cls:=C.cls,gds:=C.gds}
def zpo(C:Cst)(C':Cst)(own:List Nat)(i:Nat)(x:Str):Bool:=match C'.names.lookup x with
 |some .local=>own.contains i
 |some .cell | some .free=>own.contains i||(C.N[i]?==some x&&(C.names.lookup x==some .cell||C.names.lookup x==some .free))
 |_=>true
def zkX(C:Cst)(sc:Scope)(C':Cst)(own:List Nat):Bool:=
 sc.kind==.function&&sc.names.all (λy=>y.2 != .cell)&&sc.names.all (λx=>x.2 != .local||sc.names.lookup x.1==some .local)
 && sc.names.all (λx=>x.2 != .free||C.names.lookup x.1==some .cell||C.names.lookup x.1==some .free)
 && (ZA C'.N.length).all (λi=>match C'.N[i]? with | some x=>zpo C C' own i x | none=>true)
 && C'.N.length==C.N.length&&decide C'.N.Nodup
mutual
noncomputable def zdm(C:Cst):Tg->Expr->Bool
 |.name i,e=>match e with
  |.Name x _=>C.N[i]?==some x&&locB C x|_=>false
 |.tup ts,e=>match e with
  |.Tuple xs _ _=>chkTgs C ts xs|_=>false
noncomputable def chkTgs(C:Cst):List Tg->List Expr->Bool
 | [],es=>match es with
  | []=>true|_=>false
 |t::ts,es=>match es with
  |e::es=>zam e&&zdm C t e&&chkTgs C ts es| []=>false
end
def enuB:I->Expr->Bool|_,_=>true
theorem andT{a b:Bool}(h:(a&&b)=true):a=true/\b=true:=by simpa using h
def kNil(l:List α)(b:Bool):Bool:=match l with| []=>b|_::_=>false
inductive JNil(b:Bool):List α->Prop|mk (h:b=true):JNil b []
theorem zfW(h:kNil l b=true):JNil b l:=by
 cases l with|nil=>exact⟨h⟩|cons _ _=>exact noT h
def zbG(l:List α)(k:α->List α->Bool):Bool:=match l with| []=>false|v::vs=>k v vs
inductive zpq(k:α->List α->Bool):List α->Prop|mk (v:α) (vs:List α) (h:k v vs=true):zpq k (v::vs)
theorem zaC(h:zbG l k=true):zpq k l:=by
 cases l with|nil=>exact noT h|cons _ _=>exact⟨_,_,h⟩
def kOne(l:List α)(k:α->Bool):Bool:=zbG l λv vs=>kNil vs (k v)
inductive JOne(k:α->Bool):List α->Prop|mk (v:α) (h:k v=true):JOne k [v]
theorem za5(h:kOne l k=true):JOne k l:=by obtain⟨v,vs,h⟩:=zaC h;obtain⟨h⟩:=zfW h;exact⟨_,h⟩
def zoV(o:Option α)(b:Bool):Bool:=match o with|none=>b|some _=>false
inductive zpt(b:Bool):Option α->Prop|mk (h:b=true):zpt b none
theorem zm4(h:zoV o b=true):zpt b o:=by
 cases o with|none=>exact⟨h⟩|some _=>exact noT h
def zlC(o:Option α)(k:α->Bool):Bool:=match o with|none=>false|some v=>k v
inductive zqF(k:α->Bool):Option α->Prop|mk (v:α) (h:k v=true):zqF k (some v)
theorem zio(h:zlC o k=true):zqF k o:=by
 cases o with|none=>exact noT h|some _=>exact⟨_,h⟩
def kNm(e:Expr)(k:Str->Pos->Bool):Bool:=if h:e.ctorIdx=23 then @Expr.Name.elim (λ_=>Bool) e h k else false
inductive JNm(k:Str->Pos->Bool):Expr->Prop|mk a0 a1 (h:k a0 a1=true):JNm k (.Name a0 a1)
theorem ofNm(h:kNm e k=true):JNm k e:=by
 by_cases g:e.ctorIdx=23
 ·exact @Expr.Name.elim (λe=>kNm e k=true->JNm k e) e g (λa0 a1 h=>⟨_,_,h⟩) h
 ·exact noT ((dif_neg g).symm.trans h)
def kAt(e:Expr)(k:Expr->Str->Pos->Bool):Bool:=if h:e.ctorIdx=20 then @Expr.Attribute.elim (λ_=>Bool) e h k else false
inductive JAt(k:Expr->Str->Pos->Bool):Expr->Prop|mk a0 a1 a2 (h:k a0 a1 a2=true):JAt k (.Attribute a0 a1 a2)
theorem ofAt(h:kAt e k=true):JAt k e:=by
 by_cases g:e.ctorIdx=20
 ·exact @Expr.Attribute.elim (λe=>kAt e k=true->JAt k e) e g (λa0 a1 a2 h=>⟨_,_,_,h⟩) h
 ·exact noT ((dif_neg g).symm.trans h)
def zmv(e:Expr)(k:Expr->(List Expr)->(List X5)->Pos->Bool):Bool:=if h:e.ctorIdx=16 then @Expr.Call.elim (λ_=>Bool) e h k else false
inductive zoR(k:Expr->(List Expr)->(List X5)->Pos->Bool):Expr->Prop|mk a0 a1 a2 a3 (h:k a0 a1 a2 a3=true):zoR k (.Call a0 a1 a2 a3)
theorem znh(h:zmv e k=true):zoR k e:=by
 by_cases g:e.ctorIdx=16
 ·exact @Expr.Call.elim (λe=>zmv e k=true->zoR k e) e g (λa0 a1 a2 a3 h=>⟨_,_,_,_,h⟩) h
 ·exact noT ((dif_neg g).symm.trans h)
def kCN(e:Expr)(k:Str->Pos->(List Expr)->Pos->Bool):Bool:=zmv e λf vs ks p=>kNm f λx q=>kNil ks (k x q vs p)
inductive JCN(k:Str->Pos->(List Expr)->Pos->Bool):Expr->Prop|mk a0 a1 a2 a3 (h:k a0 a1 a2 a3=true):JCN k (.Call (.Name a0 a1) a2 [] a3)
theorem ofCN(h:kCN e k=true):JCN k e:=by obtain⟨f,vs,ks,p,g⟩:=znh h;obtain⟨x,q,i⟩:=ofNm g;obtain⟨j⟩:=zfW i;exact⟨_,_,_,_,j⟩
def kCA(e:Expr)(k:Expr->Str->Pos->(List Expr)->Pos->Bool):Bool:=zmv e λf vs ks p=>kAt f λo x q=>kNil ks (k o x q vs p)
inductive JCA(k:Expr->Str->Pos->(List Expr)->Pos->Bool):Expr->Prop|mk a0 a1 a2 a3 a4 (h:k a0 a1 a2 a3 a4=true):JCA k (.Call (.Attribute a0 a1 a2) a3 [] a4)
theorem ofCA(h:kCA e k=true):JCA k e:=by obtain⟨f,vs,ks,p,g⟩:=znh h;obtain⟨o,x,q,i⟩:=ofAt g;obtain⟨j⟩:=zfW i;exact⟨_,_,_,_,_,j⟩
def kCo(e:Expr)(k:Const->Nat->Pos->Bool):Bool:=if h:e.ctorIdx=19 then @Expr.Constant.elim (λ_=>Bool) e h k else false
inductive JCo(k:Const->Nat->Pos->Bool):Expr->Prop|mk a0 a1 a2 (h:k a0 a1 a2=true):JCo k (.Constant a0 a1 a2)
theorem ofCo(h:kCo e k=true):JCo k e:=by
 by_cases g:e.ctorIdx=19
 ·exact @Expr.Constant.elim (λe=>kCo e k=true->JCo k e) e g (λa0 a1 a2 h=>⟨_,_,_,h⟩) h
 ·exact noT ((dif_neg g).symm.trans h)
def kBi(e:Expr)(k:Expr->U2->Expr->Pos->Bool):Bool:=if h:e.ctorIdx=2 then @Expr.BinOp.elim (λ_=>Bool) e h k else false
inductive JBi(k:Expr->U2->Expr->Pos->Bool):Expr->Prop|mk a0 a1 a2 a3 (h:k a0 a1 a2 a3=true):JBi k (.BinOp a0 a1 a2 a3)
theorem ofBi(h:kBi e k=true):JBi k e:=by
 by_cases g:e.ctorIdx=2
 ·exact @Expr.BinOp.elim (λe=>kBi e k=true->JBi k e) e g (λa0 a1 a2 a3 h=>⟨_,_,_,_,h⟩) h
 ·exact noT ((dif_neg g).symm.trans h)
def kUn(e:Expr)(k:U4->Expr->Pos->Bool):Bool:=if h:e.ctorIdx=3 then @Expr.UnaryOp.elim (λ_=>Bool) e h k else false
inductive JUn(k:U4->Expr->Pos->Bool):Expr->Prop|mk a0 a1 a2 (h:k a0 a1 a2=true):JUn k (.UnaryOp a0 a1 a2)
theorem ofUn(h:kUn e k=true):JUn k e:=by
 by_cases g:e.ctorIdx=3
 ·exact @Expr.UnaryOp.elim (λe=>kUn e k=true->JUn k e) e g (λa0 a1 a2 h=>⟨_,_,_,h⟩) h
 ·exact noT ((dif_neg g).symm.trans h)
def kCm(e:Expr)(k:Expr->(List CmpOp)->(List Expr)->Pos->Bool):Bool:=if h:e.ctorIdx=15 then @Expr.Compare.elim (λ_=>Bool) e h k else false
inductive JCm(k:Expr->(List CmpOp)->(List Expr)->Pos->Bool):Expr->Prop|mk a0 a1 a2 a3 (h:k a0 a1 a2 a3=true):JCm k (.Compare a0 a1 a2 a3)
theorem ofCm(h:kCm e k=true):JCm k e:=by
 by_cases g:e.ctorIdx=15
 ·exact @Expr.Compare.elim (λe=>kCm e k=true->JCm k e) e g (λa0 a1 a2 a3 h=>⟨_,_,_,_,h⟩) h
 ·exact noT ((dif_neg g).symm.trans h)
def kLm(e:Expr)(k:Arguments->Expr->Scope->Pos->Bool):Bool:=if h:e.ctorIdx=4 then @Expr.Lambda.elim (λ_=>Bool) e h k else false
inductive JLm(k:Arguments->Expr->Scope->Pos->Bool):Expr->Prop|mk a0 a1 a2 a3 (h:k a0 a1 a2 a3=true):JLm k (.Lambda a0 a1 a2 a3)
theorem ofLm(h:kLm e k=true):JLm k e:=by
 by_cases g:e.ctorIdx=4
 ·exact @Expr.Lambda.elim (λe=>kLm e k=true->JLm k e) e g (λa0 a1 a2 a3 h=>⟨_,_,_,_,h⟩) h
 ·exact noT ((dif_neg g).symm.trans h)
def kBo(e:Expr)(k:Wf->(List Expr)->Pos->Bool):Bool:=if h:e.ctorIdx=0 then @Expr.BoolOp.elim (λ_=>Bool) e h k else false
inductive JBo(k:Wf->(List Expr)->Pos->Bool):Expr->Prop|mk a0 a1 a2 (h:k a0 a1 a2=true):JBo k (.BoolOp a0 a1 a2)
theorem ofBo(h:kBo e k=true):JBo k e:=by
 by_cases g:e.ctorIdx=0
 ·exact @Expr.BoolOp.elim (λe=>kBo e k=true->JBo k e) e g (λa0 a1 a2 h=>⟨_,_,_,h⟩) h
 ·exact noT ((dif_neg g).symm.trans h)
def kIf(e:Expr)(k:Expr->Expr->Expr->Pos->Bool):Bool:=if h:e.ctorIdx=5 then @Expr.IfExp.elim (λ_=>Bool) e h k else false
inductive JIf(k:Expr->Expr->Expr->Pos->Bool):Expr->Prop|mk a0 a1 a2 a3 (h:k a0 a1 a2 a3=true):JIf k (.IfExp a0 a1 a2 a3)
theorem ofIf(h:kIf e k=true):JIf k e:=by
 by_cases g:e.ctorIdx=5
 ·exact @Expr.IfExp.elim (λe=>kIf e k=true->JIf k e) e g (λa0 a1 a2 a3 h=>⟨_,_,_,_,h⟩) h
 ·exact noT ((dif_neg g).symm.trans h)
def kTu(e:Expr)(k:(List Expr)->Nat->Pos->Bool):Bool:=if h:e.ctorIdx=25 then @Expr.Tuple.elim (λ_=>Bool) e h k else false
inductive JTu(k:(List Expr)->Nat->Pos->Bool):Expr->Prop|mk a0 a1 a2 (h:k a0 a1 a2=true):JTu k (.Tuple a0 a1 a2)
theorem ofTu(h:kTu e k=true):JTu k e:=by
 by_cases g:e.ctorIdx=25
 ·exact @Expr.Tuple.elim (λe=>kTu e k=true->JTu k e) e g (λa0 a1 a2 h=>⟨_,_,_,h⟩) h
 ·exact noT ((dif_neg g).symm.trans h)
def kSu(e:Expr)(k:Expr->Expr->Pos->Bool):Bool:=if h:e.ctorIdx=21 then @Expr.Subscript.elim (λ_=>Bool) e h k else false
inductive JSu(k:Expr->Expr->Pos->Bool):Expr->Prop|mk a0 a1 a2 (h:k a0 a1 a2=true):JSu k (.Subscript a0 a1 a2)
theorem ofSu(h:kSu e k=true):JSu k e:=by
 by_cases g:e.ctorIdx=21
 ·exact @Expr.Subscript.elim (λe=>kSu e k=true->JSu k e) e g (λa0 a1 a2 h=>⟨_,_,_,h⟩) h
 ·exact noT ((dif_neg g).symm.trans h)
def kSl(e:Expr)(k:(Option Expr)->(Option Expr)->(Option Expr)->Pos->Bool):Bool:=if h:e.ctorIdx=26 then @Expr.Slice.elim (λ_=>Bool) e h k else false
inductive JSl(k:(Option Expr)->(Option Expr)->(Option Expr)->Pos->Bool):Expr->Prop|mk a0 a1 a2 a3 (h:k a0 a1 a2 a3=true):JSl k (.Slice a0 a1 a2 a3)
theorem ofSl(h:kSl e k=true):JSl k e:=by
 by_cases g:e.ctorIdx=26
 ·exact @Expr.Slice.elim (λe=>kSl e k=true->JSl k e) e g (λa0 a1 a2 a3 h=>⟨_,_,_,_,h⟩) h
 ·exact noT ((dif_neg g).symm.trans h)
def kLC(e:Expr)(k:Expr->(List Comprehension)->Scope->Pos->Bool):Bool:=if h:e.ctorIdx=8 then @Expr.ListComp.elim (λ_=>Bool) e h k else false
inductive JLC(k:Expr->(List Comprehension)->Scope->Pos->Bool):Expr->Prop|mk a0 a1 a2 a3 (h:k a0 a1 a2 a3=true):JLC k (.ListComp a0 a1 a2 a3)
theorem ofLC(h:kLC e k=true):JLC k e:=by
 by_cases g:e.ctorIdx=8
 ·exact @Expr.ListComp.elim (λe=>kLC e k=true->JLC k e) e g (λa0 a1 a2 a3 h=>⟨_,_,_,_,h⟩) h
 ·exact noT ((dif_neg g).symm.trans h)
def kLi(e:Expr)(k:(List Expr)->Pos->Bool):Bool:=if h:e.ctorIdx=24 then @Expr.List.elim (λ_=>Bool) e h k else false
inductive JLi(k:(List Expr)->Pos->Bool):Expr->Prop|mk a0 a1 (h:k a0 a1=true):JLi k (.List a0 a1)
theorem ofLi(h:kLi e k=true):JLi k e:=by
 by_cases g:e.ctorIdx=24
 ·exact @Expr.List.elim (λe=>kLi e k=true->JLi k e) e g (λa0 a1 h=>⟨_,_,h⟩) h
 ·exact noT ((dif_neg g).symm.trans h)
def kAs(e:Stmt)(k:(List Expr)->Expr->Pos->Bool):Bool:=if h:e.ctorIdx=5 then @Stmt.Assign.elim (λ_=>Bool) e h k else false
inductive JAs(k:(List Expr)->Expr->Pos->Bool):Stmt->Prop|mk a0 a1 a2 (h:k a0 a1 a2=true):JAs k (.Assign a0 a1 a2)
theorem ofAs(h:kAs e k=true):JAs k e:=by
 by_cases g:e.ctorIdx=5
 ·exact @Stmt.Assign.elim (λe=>kAs e k=true->JAs k e) e g (λa0 a1 a2 h=>⟨_,_,_,h⟩) h
 ·exact noT ((dif_neg g).symm.trans h)
def kEx(e:Stmt)(k:Expr->Pos->Bool):Bool:=if h:e.ctorIdx=24 then @Stmt.Expr.elim (λ_=>Bool) e h k else false
inductive JEx(k:Expr->Pos->Bool):Stmt->Prop|mk a0 a1 (h:k a0 a1=true):JEx k (.Expr a0 a1)
theorem ofEx(h:kEx e k=true):JEx k e:=by
 by_cases g:e.ctorIdx=24
 ·exact @Stmt.Expr.elim (λe=>kEx e k=true->JEx k e) e g (λa0 a1 h=>⟨_,_,h⟩) h
 ·exact noT ((dif_neg g).symm.trans h)
def kIfS(e:Stmt)(k:Expr->(List Stmt)->(List Stmt)->Pos->Bool):Bool:=if h:e.ctorIdx=12 then @Stmt.If.elim (λ_=>Bool) e h k else false
inductive JIfS(k:Expr->(List Stmt)->(List Stmt)->Pos->Bool):Stmt->Prop|mk a0 a1 a2 a3 (h:k a0 a1 a2 a3=true):JIfS k (.If a0 a1 a2 a3)
theorem zpC(h:kIfS e k=true):JIfS k e:=by
 by_cases g:e.ctorIdx=12
 ·exact @Stmt.If.elim (λe=>kIfS e k=true->JIfS k e) e g (λa0 a1 a2 a3 h=>⟨_,_,_,_,h⟩) h
 ·exact noT ((dif_neg g).symm.trans h)
def kFo(e:Stmt)(k:Expr->Expr->(List Stmt)->(List Stmt)->Pos->Bool):Bool:=if h:e.ctorIdx=9 then @Stmt.For.elim (λ_=>Bool) e h k else false
inductive JFo(k:Expr->Expr->(List Stmt)->(List Stmt)->Pos->Bool):Stmt->Prop|mk a0 a1 a2 a3 a4 (h:k a0 a1 a2 a3 a4=true):JFo k (.For a0 a1 a2 a3 a4)
theorem ofFo(h:kFo e k=true):JFo k e:=by
 by_cases g:e.ctorIdx=9
 ·exact @Stmt.For.elim (λe=>kFo e k=true->JFo k e) e g (λa0 a1 a2 a3 a4 h=>⟨_,_,_,_,_,h⟩) h
 ·exact noT ((dif_neg g).symm.trans h)
def kRe(e:Stmt)(k:(Option Expr)->Pos->Bool):Bool:=if h:e.ctorIdx=3 then @Stmt.Return.elim (λ_=>Bool) e h k else false
inductive JRe(k:(Option Expr)->Pos->Bool):Stmt->Prop|mk a0 a1 (h:k a0 a1=true):JRe k (.Return a0 a1)
theorem ofRe(h:kRe e k=true):JRe k e:=by
 by_cases g:e.ctorIdx=3
 ·exact @Stmt.Return.elim (λe=>kRe e k=true->JRe k e) e g (λa0 a1 h=>⟨_,_,h⟩) h
 ·exact noT ((dif_neg g).symm.trans h)
def kRa(e:Stmt)(k:(Option Expr)->(Option Expr)->Pos->Bool):Bool:=if h:e.ctorIdx=16 then @Stmt.Raise.elim (λ_=>Bool) e h k else false
inductive JRa(k:(Option Expr)->(Option Expr)->Pos->Bool):Stmt->Prop|mk a0 a1 a2 (h:k a0 a1 a2=true):JRa k (.Raise a0 a1 a2)
theorem ofRa(h:kRa e k=true):JRa k e:=by
 by_cases g:e.ctorIdx=16
 ·exact @Stmt.Raise.elim (λe=>kRa e k=true->JRa k e) e g (λa0 a1 a2 h=>⟨_,_,_,h⟩) h
 ·exact noT ((dif_neg g).symm.trans h)
def kNo(e:U4)(k:Bool):Bool:=match e with|.Not=>k|_=>false
inductive JNo(k:Bool):U4->Prop|mk  (h:k=true):JNo k .Not
theorem ofNo(h:kNo e k=true):JNo k e:=by cases e<;>first | exact noT h | exact⟨h⟩
def kAn(e:Wf)(k:Bool):Bool:=match e with|.And=>k|_=>false
inductive JAn(k:Bool):Wf->Prop|mk  (h:k=true):JAn k .And
theorem ofAn(h:kAn e k=true):JAn k e:=by cases e<;>first | exact noT h | exact⟨h⟩
def kOr(e:Wf)(k:Bool):Bool:=match e with|.Or=>k|_=>false
inductive JOr(k:Bool):Wf->Prop|mk  (h:k=true):JOr k .Or
theorem ofOr(h:kOr e k=true):JOr k e:=by cases e<;>first | exact noT h | exact⟨h⟩
def kAd(e:U2)(k:Bool):Bool:=match e with|.Add=>k|_=>false
inductive JAd(k:Bool):U2->Prop|mk  (h:k=true):JAd k .Add
theorem ofAd(h:kAd e k=true):JAd k e:=by cases e<;>first | exact noT h | exact⟨h⟩
def lclB(C:Cst)(x:Str):Bool:=match C.names.lookup x with|some .local=>true|_=>false
def lamB(x t:Str)(ps:Arguments)(sc:Scope):Bool:=ps.posonlyargs.isEmpty&&(match ps.args with | [a]=>a.arg==t | _=>false)&&ps.vararg.isNone&&ps.kwonlyargs.isEmpty&&ps.kw_defaults.isEmpty&&ps.kwarg.isNone&&ps.defaults.isEmpty &&
 sc.kind==.function&&!sc.isCoroutine&&!sc.isGenerator&&sc.names.lookup t==some .local&&(sc.names.all λp=>p.2 != .free)&&sc.names.lookup x==some .globalImplicit&&zaw t&&zaw x&&t==("_law_text":Str)
mutual
noncomputable def chkE:E->Cst->Expr->Bool
 |.con d,_,e=>kCo e λc _ _=>(conB d c)
 |.var i,C,e=>kNm e λx _=>(C.N[i]?==some x&&visB C x&&zaw x)
 |.bin o a b,C,e=>kBi e λl op r _=>(boB o op&&chkE a C l&&chkE b C r)
 |.cmp o a b,C,e=>kCm e λl z2 z4 _=>kOne z2 λop=>kOne z4 λr=>(coB o op&&chkE a C l&&chkE b C r&&!zk2 r)
 |.and a b,C,e=>kBo e λz2 z3 pos=>kAn z2 (zbG z3 λv z4=>zbG z4 λw rest=>(chkE a C v&&(match rest with | []=>chkE b C w | y::ys=>chkE b C (.BoolOp .And (w::y::ys) pos))))
 |.or a b,C,e=>kBo e λz2 z3 pos=>kOr z2 (zbG z3 λv z4=>zbG z4 λw rest=>(chkE a C v&&(match rest with | []=>chkE b C w | y::ys=>chkE b C (.BoolOp .Or (w::y::ys) pos))))
 |.not a,C,e=>kUn e λz2 x _=>kNo z2 ((chkE a C x))
 |.ife c a b,C,e=>kIf e λt x y _=>(chkT c C t&&chkE a C x&&chkE b C y)
 |.tup es,C,e=>kTu e λxs _ _=>(chkEs es C xs&&decide (xs.length<=1000))
 |.lst _ l,C,e=>chkL l C e
 |.idx a i,C,e=>kSu e λx y _=>(chkE a C x&&chkE i C y&&!zeI y)
 |.sli a lo hi,C,e=>kSu e λx z2 _=>kSl z2 λl u z3 _=>zoV z3 ((chkE a C x&&(match l with | none=>zc7 lo | some y=>chkE lo C y)&&(match u with | none=>zc7 hi | some y=>chkE hi C y)))
 |.call f es,C,e=>kCN e λx _ z3 _=>zbG z3 λv vs=>((match C.fns[f]? with | some p=>p.1==x | none=>false)&&zcp C x&&zaw x&&chkEs es C (v::vs))
 |.bi b es,C,e=>kCN e λx _ z3 _=>zbG z3 λv vs=>((biOn b&&x==biS b)&&zcp C x&&chkEs es C (v::vs))
 |.me m o es,C,e=>kCA e λov name apos vs cpos=>(match vs with
  |v::vs=>(!me0 m&&meOn m)&&name==meS m&&zgE ov&&chkE o C ov&&chkEs es C (v::vs)&&apos.endLine==cpos.line&&decide ((v::vs).length<20)
  | []=>(me0 m&&meOn m)&&name==meS m&&zgE ov&&chkE o C ov&&chkEs es C []&&apos.endLine==cpos.line)
 |.glo d,C,e=>kNm e λx _=>((match C.globs.lookup x with | some d'=>D.same d d' | none=>false)&&zcp C x&&zaw x)
 |.isi t a,C,e=>kCN e λx _ z3 _=>zbG z3 λv z4=>kOne z4 λz5=>kNm z5 λy _=>(x==("isinstance":Str)&&zcp C x&&zam v&&chkE a C v&&y==YG (tyS t)&&zcp C y)
 |.tm m o es,C,e=>kCA e λov name apos z3 cpos=>zbG z3 λv vs=>(name==tmS m&&zlE ov&&chkE o C ov&&chkEs es C (v::vs)&&apos.endLine==cpos.line&&decide ((v::vs).length<20))
 |.lm m o a,C,e=>kCA e λov name apos z3 cpos=>kOne z3 λv=>(name==lmS m&&zlE ov&&chkE o C ov&&zam v&&chkE a C v&&apos.endLine==cpos.line)
 |.lstO tg it cs el,C,e=>false
 |.call0 f,C,e=>kCN e λx _ z3 _=>kNil z3 (((match C.fns[f]? with | some p=>p.1==x | none=>false)&&zcp C x&&zaw x))
 |.lam x,C,e=>kLm e λps b sc _=>kCN b λy _ z3 _=>kOne z3 λv=>kNm v λt _=>(C.lm&&y==x&&lamB x t ps sc)
 |.cv i tb es,C,e=>kCN e λx _ z3 _=>kOne z3 λv=>(C.N[i]?==some x&&visB C x&&zaw x&&(tb.all λp=>match C.fns[p.2]? with | some q=>q.1==p.1&&q.2.1==1&&q.2.2.isEmpty | none=>false)&&chkEs es C [v])
 |.stuck,_,_=>true
noncomputable def chkEs:List E->Cst->List Expr->Bool
 | [],_,es=>match es with
  | []=>true|_=>false
 |a::as,C,es=>match es with
  |e::es=>zam e&&chkE a C e&&chkEs as C es| []=>false
noncomputable def chkT:T->Cst->Expr->Bool
 |.val a,C,e=>chkE a C e&&(zdz e||zkW e)
 |.and a b,C,e=>kBo e λz2 z3 pos=>kAn z2 (zbG z3 λv z4=>zbG z4 λw rest=>(chkT a C v&&(match rest with | []=>chkT b C w | y::ys=>chkT b C (.BoolOp .And (w::y::ys) pos))))
 |.or a b,C,e=>kBo e λz2 z3 pos=>kOr z2 (zbG z3 λv z4=>zbG z4 λw rest=>(chkT a C v&&(match rest with | []=>chkT b C w | y::ys=>chkT b C (.BoolOp .Or (w::y::ys) pos))))
 |.not a,C,e=>kUn e λz2 x _=>kNo z2 ((chkT a C x))
noncomputable def chkP:List E->List Str->Cst->List (Option Expr)->List Expr->Bool
 | [],ks,_,keys,vals=>match ks with
  | []=>kNil keys (kNil vals true)|_::_=>false
 |a::as,ks,C,keys,vals=>match ks with
  |k::ks=>zbG keys λo r=>zlC o λe=>kCo e λc _ _=>zbG vals λv vs=>(strB c k&&chkE a C v&&chkP as ks C r vs)
  | []=>false
noncomputable def zmh:List T->Cst->List Expr->Bool
 | [],_,es=>match es with
  | []=>true|_=>false
 |t::ts,C,es=>match es with
  |e::es=>chkT t C e&&zmh ts C es&&es.isEmpty| []=>false
noncomputable def chkL:L->Cst->Expr->Bool
 |.disp es,C,e=>kLi e λxs _=>(chkEs es C xs&&decide (xs.length<=1000))
 | .comp tg it cs el,C,e=>kLC e λelt z2 sc _=>kOne z2 λg=>(g.is_async==0&&!zk2 g.iter&&zkX C sc (blkC C sc (zcz tg g.target)) tg.slots&&(zdm (blkC C sc (zcz tg g.target)) tg g.target&&enuB it g.target)&&chkI it C g.iter
    && zmh cs (blkC C sc (zcz tg g.target)) g.ifs&&chkE el (blkC C sc (zcz tg g.target)) elt)
 |.of a,C,e=>kCN e λx _ z3 _=>kOne z3 λv=>(x==("list":Str)&&zcp C x&&zam v&&chkE a C v)
 |.spl a b,C,e=>kCA e λov name apos z3 cpos=>kOne z3 λv=>(name==("split":Str)&&zlE ov&&chkE a C ov&&zam v&&chkE b C v&&apos.endLine==cpos.line)
 |.cat a b,C,e=>kBi e λl z2 r _=>kAd z2 ((chkE a C l&&chkE b C r))
 |.sst a,C,e=>kCN e λx _ z3 _=>kOne z3 λz4=>kCN z4 λy _ z6 _=>kOne z6 λv=>(x==("sorted":Str)&&zcp C x&&y==("set":Str)&&zcp C y&&zam v&&chkE a C v)
noncomputable def chkI:I->Cst->Expr->Bool
 |.seq a,C,e=>chkE a C e
 |.rng a,C,e=>kCN e λx _ z3 _=>kOne z3 λv=>(x==("range":Str)&&zcp C x&&zam v&&chkE a C v)
end
def zdv:Expr->Bool|.ListComp _ _ _ _=>true|.SetComp _ _ _ _=>true|.DictComp _ _ _ _ _=>true|_=>false
def zcx:Expr->Bool|.Tuple _ _ _=>true|.List _ _=>true|_=>false
mutual
noncomputable def chkS:S->Cst->Stmt->Bool
 |.asg tg a,C,st=>kAs st λz2 v pos=>kOne z2 λt=>(zdm C tg t&&zam t&&chkE a C v&&!(zcx t&&zcx v)&&(!zdv v||(zdv v&&zgE t)))
 |.setI o i a,C,st=>kAs st λz2 v _=>kOne z2 λz3=>kSu z3 λov iv _=>(chkE a C v&&chkE o C ov&&chkE i C iv&&!zdv v&&!zeI iv)
 |.exp a,C,st=>kEx st λv _=>(chkE a C v&&!zdv v)
 |.ife c a b,C,st=>kIfS st λt x y _=>(chkT c C t&&chkSs a C x&&chkSs b C y)
 |.for tg it body,C,st=>kFo st λt iter b z2 _=>kNil z2 (((zdm C tg t&&enuB it t)&&chkI it C iter&&chkSs body C b&&!zk2 iter))
 |.ret a,C,st=>kRe st λz2 _=>zlC z2 λv=>(chkE a C v)
 |.brk,_,st=>false|.cnt,_,st=>false
 |.raiN c a,C,st=>kRa st λz2 z7 _=>zlC z2 λz3=>kCN z3 λx _ z5 _=>kOne z5 λv=>zoV z7 (((match C.exs[c]? with | some y=>y.name==x&&y.num | none=>false)&&zcp C x&&zaw x&&zam v&&chkE a C v&&C.top))
 |.tryb _ _ _ _ _,_,_=>false|.stuck,_,_=>true
noncomputable def chkSs:List S->Cst->List Stmt->Bool
 | [],_,sts=>match sts with
  | []=>true|_=>false
 |s::ss,C,sts=>match sts with
  |st::sts=>chkS s C st&&chkSs ss C sts| []=>false
end
end IT
namespace IT
open PySem PySem.Spec L2
def zco:List Str:=["len", "sum", "tuple", "int", "range", "all", "any", "max", "min", "list", "isinstance", "str", "bool", "dict", "enumerate", "sorted", "set"]
structure Excs(Γ:Calls)(n:Nat)(C:Cst)(X:Cx)(cv:ClsV):Prop where
 num:∀(c:Nat) (x:zcg),C.exs[c]?=some x->x.num=true->∃Ca,X.mg x.name=some (.ref Ca)/\(∀k,cv (.d (.tup [.int c,.int k]))=some (.ref Ca))/\ExcN X.K Ca/\znj X n Ca/\ExcJ X.K Ca/\XOk X.K X.mg Ca x
 cls:∀(c:Nat) (x:zcg),C.exs[c]?=some x->x.num=false->∃Ca,X.mg x.name=some (.ref Ca)/\cv (.d (.int c))=some (.ref Ca)/\ExcK X.K Ca/\WZ X.K (.ref Ca) (.ref Ca)=some true/\XOk X.K X.mg Ca x
 funs:∀(f:Nat) (p:Str×Nat×List D),C.fns[f]?=some p->FunX X cv n p.1 p.2.1 p.2.2 (Γ (xof f))
structure Good(Γ:Calls)(n:Nat)(C:Cst)(X:Cx):Prop where
 nox:X.xe=λ_ _=>False
 calm:X.calm=true
 room:Room n X.A
 room1:Room (n+1) X.A
 kind:X.env.scope.kind=.function
 N:X.N=C.N
 nd:X.N.Nodup
 names:X.env.scope.names=C.names
 fn:C.top=true->∀x,X.fn x=true
 funs:∀(f:Nat) (p:Str×Nat×List D),C.fns[f]?=some p->zeN X n p.1 p.2.1 p.2.2 (Γ f)
 blt:∀x∈zco,X.mg x=none
 glob:∀(x:Str) (d:D),C.globs.lookup x=some d->∃u v,X.mg x=some u/\RelV v u/\∀A H,RepD X.K A H d v
 makes:∀i∈C.cls,∃np,zpe X n i.name np (Γ i.init)
 meths:∀i∈C.cls,∀p∈i.meths,∃np,zpx X n i.name p.1 np (Γ p.2)
 attrs:∀i∈C.cls,∀f∈i.fields,∀A,ZS X.K mainGlobals i.name=some (some (.ref A))->zjc X.K A f
 defc:C.top=true->zd2 X
 excs:∃cv,Excs Γ n C X cv
 lam:C.lm=true->LamG X
theorem zal(h:zam e=true):ZT (e::es) env=(false,eval e env)::ZT es env:=by cases e<;>first | rfl | (first | exact noT h | exact noF h)
theorem zay:∀{as:List E} {C:Cst} {es:List Expr},chkEs as C es=true->as.length=es.length| [],C,[],_=>rfl| [],C,_::_,h=>noT h|a::as,C,[],h=>noT h|a::as,C,e::es,h=>by change ((zam _&&chkE _ _ _)&&chkEs _ _ _)=true at h;simp only[Z8] at h;simp[zay h.2]
theorem zar:∀{as:List E} {C:Cst} {es:List Expr},chkEs as C es=true->∀e∈es,zam e=true
 | [],C,[],_,e,he=>by simp at he| [],C,_::_,h,_,_=>noT h|a::as,C,[],h,_,_=>noT h
 |a::as,C,e::es,h,x,hx=>by
  change ((zam _&&chkE _ _ _)&&chkEs _ _ _)=true at h;simp only[Z8] at h
  rcases ZJ.mp hx with rfl | hx
  ·exact h.1.1
  ·exact zar h.2 x hx
theorem za0:∀{es:List Expr},(∀e∈es,zam e=true)->(backTo pos (ZT es env)).any (·.1)=false| [],_=>rfl| e::es,h=>by rw[zal (h e (by simp))];show(false||(backTo pos (ZT es env)).any (·.1))=false;rw[za0 λx hx=>h x (by simp[hx])];rfl
theorem zh0:∀{es:List Expr},(∀e∈es,zam e=true)->(backTo pos (ZT es env)).all (λx=>!x.1)=true| [],_=>rfl|e::es,h=>by rw[zal (h e (by simp))];show(true&&(backTo pos (ZT es env)).all (λx=>!x.1))=true;rw[zh0 λx hx=>h x (by simp[hx])];rfl
theorem za2:∀{es:List E} {σ:IT.Env} {h h':Sto} {rs:List R},evs Γ es σ h=some (rs,h')->rs.length=es.length
 | [],σ,h,h',rs,e=>by
  simp only[evs,zac] at e
  rw[<-e.1];rfl
 |a::as,σ,h,h',rs,e=>by simp only[evs,zab,zac] at e;obtain⟨r,h1,e1,rs',h2,e2,rfl,rfl⟩:=e;simp[za2 e2]
section
variable {Γ:Calls}{n:Nat}{C:Cst}{X:Cx}{x:Str}
theorem zfH(G:Good Γ n C X)(h:visB C x=true):Vis X.env.scope x:=by
 unfold visB at h;unfold Vis;rw[G.names]
 split at h
 ·rename_i e;exact .inl e
 ·rename_i e;exact .inr (.inl e)
 ·rename_i e;exact .inr (.inr e)
 ·cases h
theorem zib(G:Good Γ n C X)(h:locB C x=true):Loc X.env.scope x/\(X.fn x=true\/X.env.scope.names.lookup x=some .local):=by
 unfold locB at h;unfold L2.Loc;rw[G.names]
 split at h
 ·rename_i e;exact⟨.inl e,.inr e⟩
 ·rename_i e;exact⟨.inr e,.inl (G.fn h x)⟩
 ·cases h
theorem zbt(G:Good Γ n C X)(h:zcp C x=true):Gl X x:=by
 unfold zcp at h;show X.env.scope.names.lookup x=_;rw[G.names]
 split at h
 ·rename_i e;exact e
 ·cases h
theorem zap(h:zaw x=true):(x==("__debug__":Str))=false/\(x==("__classdict__":Str))=false:=by
 unfold zaw at h
 simpa using h
end
theorem opB(h:boB o op=true):OpD X (YL op) (bop o):=by cases o<;>cases op<;>first | (exact noT h) | exact zn3 | exact znx | exact zns | exact zlt | exact zn9 | exact zo4 | exact zlP | exact zoe
theorem coBe(hu:X.A.units+64<cLine)(h:coB o op=true):OpD X (Y1 op) (cop o):=by cases o<;>cases op<;>first | (exact noT h) | exact zqb hu | exact zp4 hu | exact zpW | exact zqw | exact zq6 | exact zqZ | exact zls hu | exact zjz hu | exact zot | exact zi1
theorem zqE(h:cop o x y=some z):∃t,z=.bl t:=by
 cases o with
 |eq=>(change (if _ then _ else _)=_ at h;split at h;exact⟨_,(ZY h).symm⟩;exact zad h)|ne=>(change (if _ then _ else _)=_ at h;split at h;exact⟨_,(ZY h).symm⟩;exact zad h)
 |isin=>
  (delta cop at h;dsimp only at h)
  cases e:items y with|none=>rw[e] at h;dsimp only at h;split at h;exact⟨_,(ZY h).symm⟩;exact zad h|some xs=>rw[e] at h;dsimp only at h;split at h;exact⟨_,(ZY h).symm⟩;exact zad h
 |notin=>
  (delta cop at h;dsimp only at h)
  cases e:items y with|none=>rw[e] at h;dsimp only at h;split at h;exact⟨_,(ZY h).symm⟩;exact zad h|some xs=>rw[e] at h;dsimp only at h;split at h;exact⟨_,(ZY h).symm⟩;exact zad h
 |_=>cases x<;>cases y<;>first | exact zad h | exact⟨_,(ZY h).symm⟩
theorem zrM(e:mD (cop o) x y h=some (r,h')):∃t,r=.d (.bl t):=by simp only[mD,zab,zac,zat] at e;obtain⟨dx,h1,e1,dy,h2,e2,z,h3,⟨e3,_⟩,rfl,_⟩:=e;obtain⟨t,rfl⟩:=zqE e3;exact⟨t,rfl⟩
section
variable {X:Cx}{o o':Co}{f g k:IT.Env->M R}{a b c:Expr}{pos:Pos}{op op':CmpOp}
end
theorem zi0(h:zdz e=true):∀whole,isTrue e env whole=(do let v<-whole;Vk e.pos;holding [v] (truthy v)):=by
 intro whole
 cases e with
 |UnaryOp op x p=>cases op<;>first | rfl | (first | exact noT h | exact noF h)
 |BoolOp _ _ _=>first | exact noT h | exact noF h
 |IfExp _ _ _ _=>first | exact noT h | exact noF h
 |Compare _ _ _ _=>first | exact noT h | exact noF h
 |_=>rfl
theorem zdy(h:zlE o=true):Yz o name env (eval o env)=eval o env:=by
 unfold Yz
 split
 ·cases h
 ·rfl
theorem zju(h:zgE o=true):Yz o name env (eval o env)=eval o env:=by cases o<;>first | rfl | (first | exact noT h | exact noF h)
theorem zlQ(h:zeI e=false):zhz e:=by
 intro o i
 cases e<;>first | rfl | (first | exact noT h | exact noF h)
theorem zdw(h:zk2 e=false):∀x,Ys e env x=pure x:=by
 intro x
 cases e<;>first | rfl | (first | exact noT h | exact noF h)
theorem zkU(h:zk2 e=false):W9 op e=false:=by cases e<;>first | rfl | (first | exact noT h | exact noF h)
theorem zhq(h:zdv v=false):U9 [t] v l env=pure false:=by cases v<;>first | rfl | (first | exact noT h | exact noF h)
theorem zlB(h:zdv v=false):Wx v none l env=pure false:=by cases v<;>first | rfl | (first | exact noT h | exact noF h)
theorem zcj(h:(zcx t&&zcx v)=false):U8 [t] v env=pure none:=by
 cases t with
 |Tuple a b c=>cases v<;>first | rfl | (first | exact noT h | exact noF h)
 |List a b=>cases v<;>first | rfl | (first | exact noT h | exact noF h)
 |_=>rfl
theorem zeL(h:zam t=true):(Y9 [t] env).map (·.2)=[assign t env]:=by cases t<;>first | rfl | (first | exact noT h | exact noF h)
theorem zdh(h:zam t=true):Y9 (t::ts) env=(false,assign t env)::Y9 ts env:=by cases t<;>first | rfl | (first | exact noT h | exact noF h)
theorem zhC:∀{ts:List Expr},(∀e∈ts,zam e=true)->(Y9 ts env).length=ts.length/\(Y9 ts env).findIdx? (·.1)=none
 | [],_=>⟨rfl,rfl⟩
 |t::ts,h=>by obtain⟨h1,h2⟩:=zhC (env:=env) (ts:=ts) λx hx=>h x (by simp[hx]);rw[zdh (h t (by simp))];refine⟨by simp[h1],?_⟩;rw[List.findIdx?_cons];simp[h2]
theorem znH(h:zeI i=false)(v:Value):assign (.Subscript o i p) env v=(do let ov<-holding [v] (eval o env);let iv<-holding [v,ov] (eval i env);Vk p;holding [v,ov,iv] (setItem ov iv v);release [v,ov,iv] []):=by cases i<;>first | rfl | (first | exact noT h | exact noF h)
theorem zm6(h:conB d c=true):IE X (.Constant c k pos) (λ_=>ok (.d d)):=by
 cases d with
 |non=>cases c<;>first | (exact noT h) | exact zgj zqX (by intro _ _;simp only[RepD])
 |bl b=>
  cases c with|bool c=>obtain rfl:=ZX h;exact zgj zqK (by intro _ _;simp only[RepD])|_=>exact noT h
 |int b=>
  cases c with|int c=>obtain rfl:=ZX h;exact zgj zqN (by intro _ _;simp only[RepD])|_=>exact noT h
 |str b=>
  cases c with|str c=>obtain rfl:=ZX h;exact zgj zhL (by intro _ _;simp only[RepD])|_=>exact noT h
 |_=>cases c<;>exact noT h
theorem zhw:∀{ts:List Tg} {es:List Expr},chkTgs C ts es=true->(∀e∈es,zam e=true)/\es.length=ts.length
 | [],[],_=>⟨by simp,rfl⟩| [],_::_,h=>noT h|_::_,[],h=>noT h
 |t::ts,e::es,h=>by
  change ((zam _&&zdm _ _ _)&&chkTgs _ _ _)=true at h;simp only[Z8] at h;obtain⟨h1,h2⟩:=zhw h.2;refine⟨λx hx=>?_,by simp[h2]⟩
  rcases ZJ.mp hx with rfl | hx
  ·exact h.1.1
  ·exact h1 x hx
mutual
theorem okTg{n:Nat}(G:Good Γ n C X):∀(t:Tg) (e:Expr),zdm C t e=true->PG X e (tG X.K t)
 | .name i,e,h=>by
  cases e with
  |Name x pos=>
   change (_&&locB C _)=true at h;simp only[Z8] at h;obtain⟨h1,h2⟩:=zib G h.2
   exact znK G.nd (by rw[G.N];exact ZX h.1) h1 h2
  |_=>exact noT h
 | .tup ts,e,h=>by
  cases e with|Tuple xs k pos=>have h:chkTgs C ts xs=true:=h;obtain⟨h1,h2⟩:=zhw h;obtain⟨h3,h4⟩:=zhC (env:=X.env) h1;exact zqp G.calm (okTgs G ts xs h) h2 h3 h4|_=>exact noT h
theorem okTgs(G:Good Γ n C X):∀(ts:List Tg) (es:List Expr),chkTgs C ts es=true->PGs X es (tGs X.K ts)
 | [],es,h=>by
  cases es with|nil=>exact znB|cons _ _=>exact noT h
 | t::ts,es,h=>by
  cases es with
  |nil=>exact noT h
  |cons e es=>
   change ((zam _&&zdm _ _ _)&&chkTgs _ _ _)=true at h;simp only[Z8] at h
   exact zlk (okTg G t e h.1.2) (okTgs G ts es h.2) (by rw[zdh h.1.1];rfl)
end
theorem znW{n:Nat}(G:Good Γ n C X)(t:Tg)(e:Expr)(h:zdm C t e=true):PG X e (tGI X.K t):=by
 cases t with
 |name i=>exact zl7 (okTg G _ _ h)
 | tup ts=>
  by_cases hl:ts.length=2
  ·match ts,hl,h with
   | [a,b],_,h=>
    cases e with
    | Tuple xs k pos=>
     have h:chkTgs C [a,b] xs=true:=h
     match xs,h with
     | [x,y],h=>
      obtain⟨h1,h2⟩:=zhw h;obtain⟨h3,h4⟩:=zhC (env:=X.env) h1;have hs:=okTgs G [a,b] [x,y] h;change (((zam _&&zdm _ _ _)&&((zam _&&zdm _ _ _)&&_))=true) at h;simp only[Z8] at h
      exact zoF G.calm hs (zrw (okTg G a x h.1.2) (okTg G b y h.2.1.2) (by rw[zdh h.1.1];rfl) (by rw[zdh h.2.1.1];rfl)) h3 h4
     | [],h=>exact noT h| [_],h=>exact noT (andT h).2|_::_::_::_,h=>exact noT (andT (andT h).2).2
    |_=>exact noT h
  ·exact zoa hl (okTg G _ _ h)
theorem zjP(e:wkAny r h=some (w,h')):WlOk w h':=by
 (delta wkAny at e;simp only[zab] at e)
 obtain⟨o,h1,e1,e2⟩:=e;obtain⟨rfl,ho⟩:=zeH e1
 cases o with
 |some ls=>obtain⟨l,rfl,ho⟩:=ho;simp only[zac] at e2;obtain⟨rfl,rfl⟩:=e2;intro i hi;cases hi;exact⟨_,ho,λc fs z=>by cases z⟩
 | none=>
  simp only[zab] at e2;obtain⟨d,h2,e3,e4⟩:=e2
  cases r with
  |loc l=>
   obtain⟨o,ho,il,rfl,rfl⟩:=zez e3
   (delta wkOf items at e4;(try dsimp only at e4);simp only[zac] at e4)
   obtain⟨rfl,rfl⟩:=e4;intro i hi;cases hi
   exact⟨o,ho,λc fs z=>by rw[z] at il;cases il⟩
  | d x=>
   have:w.l=none:=by
    (delta wkOf at e4;(try dsimp only at e4))
    cases hi:items d with
    | none=>
     rw[hi] at e4;simp only at e4
     split at e4
     ·split at e4
      ·obtain⟨rfl,rfl⟩:=zac.mp e4;rfl
      ·cases e4
     ·cases e4
    |some xs=>rw[hi] at e4;obtain⟨rfl,rfl⟩:=zac.mp e4;rfl
   intro i hi;rw[this] at hi;cases hi
theorem zeP(e:evI Γ it σ h=some (w,h')):WlOk w h':=by
 cases it with
 |seq a=>simp only[evI,zab] at e;obtain⟨r,h1,e1,e2⟩:=e;exact zjP e2
 | rng a=>
  simp only[evI,zab] at e;obtain⟨r,h1,e1,e2⟩:=e
  (delta rngOf at e2;(try dsimp only at e2))
  intro i el
  split at e2
  ·split at e2
   ·obtain⟨rfl,rfl⟩:=zac.mp e2;cases el
   ·cases e2
  ·cases e2
theorem zm3{Γ:Calls}{n:Nat}{C:Cst}{X:Cx}{x:Str}(G:Good Γ n C X)(h:lclB C x=true):X.env.scope.names.lookup x=some .local:=by
 unfold lclB at h;rw[G.names]
 split at h
 ·assumption
 ·cases h
end IT
namespace IT
open PySem PySem.Spec L2
section
variable {Γ:Calls}{n:Nat}{C:Cst}{X:Cx}
theorem zgH(G:Good Γ n C X)(sc:Scope):(relabel sc X.env).names=relN C.names sc.names:=by
 unfold relabel relN;show sc.names.map _=sc.names.map _;refine List.map_congr_left λp _=>?_;obtain⟨m,k⟩:=p
 have e1:X.env.kindOf m=C.names.lookup m:=by show X.env.scope.names.lookup m=_;rw[G.names]
 simp only[G.kind,e1];have e2:(ScopeKind.function==ScopeKind.function)=true:=rfl;rw[e2,V5]
theorem Good.blk(G:Good Γ n C X){os:List Nat}(h:zkX C sc (blkC C sc own) os=true)(cl:List (Str×Addr))(pins:List (Addr×Obj))(s₂:Shared)(H₂:Hp)(Cc:Addr)(fp:List Addr):
  Good Γ n (blkC C sc own) (blk X (blkC C sc own).N s₂ H₂ (YJ sc cl Cc X.env) fp pins):=by
 unfold zkX at h;simp only[Z8] at h;obtain⟨⟨⟨⟨⟨⟨hk,_⟩,_⟩,_⟩,_⟩,_⟩,hnd⟩:=h
 refine⟨G.nox,G.calm,G.room,G.room1,?_,rfl,of_decide_eq_true hnd,zgH G sc,λz=>absurd z (by show ¬(false=true);decide),λf x e=>⟨(G.funs f x e).ex,(G.funs f x e).fill,(G.funs f x e).len⟩,G.blt,G.glob,λi hi=>let ⟨np,z⟩:=G.makes i hi;⟨np,z.ex,z.len⟩,λi hi p hp=>let ⟨np,z⟩:=G.meths i hi p hp;⟨np,z.ex,z.len⟩,G.attrs,λz=>absurd z (by show ¬(false=true);decide),let ⟨cv,Ex⟩:=G.excs;⟨cv,λc x e=>(by cases (show([]:List zcg)[c]?=some x from e)),λc x e=>(by cases (show([]:List zcg)[c]?=some x from e)),λf p e=>⟨(Ex.funs f p e).ex,(Ex.funs f p e).fill,(Ex.funs f p e).len,(Ex.funs f p e).cls⟩⟩,λz=>absurd z (by show ¬(false=true);decide)⟩
 show(relabel sc X.env).kind=_
 have:sc.kind=.function:=by cases e:sc.kind<;>rw[e] at hk<;>first | rfl | (exact absurd hk (by decide))
 exact this
theorem zhd(G:Good Γ n C X){os:List Nat}(h:zkX C sc (blkC C sc own) os=true):zfP X sc (blkC C sc own).N os:=by
 unfold zkX at h;simp only[Z8] at h;obtain⟨⟨⟨⟨⟨⟨hk,hc⟩,hn⟩,hf⟩,hs⟩,hl⟩,hnd⟩:=h
 have ke:∀m,X.env.kindOf m=C.names.lookup m:=λm=>by show X.env.scope.names.lookup m=_;rw[G.names]
 refine⟨?_,?_,?_,?_,?_,?_⟩
 ·cases e:sc.kind<;>rw[e] at hk<;>first | rfl | (exact absurd hk (by decide))
 ·intro y hy z
  have:=ZQ.mp hc y hy
  rw[z] at this;exact absurd this (by decide)
 ·intro x hx z
  have:=ZQ.mp hn x hx
  rw[z] at this
  have e2:(Xn.local != Xn.local)=false:=by decide
  rw[e2,Yt] at this;exact ZX this
 ·intro x hx z
  have:=ZQ.mp hf x hx
  rw[z] at this
  have e2:(V4 != V4)=false:=by decide
  rw[e2,Yt,Zh] at this;rw[ke]
  rcases this with q | q
  ·exact .inl (ZX q)
  ·exact .inr (ZX q)
 ·intro i x e v
  have hi:i<(blkC C sc own).N.length:=(Z2.mp e).1
  have:=ZQ.mp hs i (by simpa using hi)
  rw[e] at this;simp only[zpo] at this;unfold Vis at v;rw[zgH G sc] at v⊢;have en:(blkC C sc own).names=relN C.names sc.names:=rfl;rw[en] at this;rw[G.N,ke]
  rcases v with v | v | v
  ·rw [v] at this
   exact .inl (by simpa using this)
  ·rw [v] at this
   simp only[Zh,Z8] at this
   rcases this with q|⟨q,q2⟩
   ·exact .inl (by simpa using q)
   ·refine .inr ⟨ZX q,?_,by rw[v];decide⟩
    rcases q2 with q2 | q2
    ·exact .inl (ZX q2)
    ·exact .inr (ZX q2)
  ·rw [v] at this
   simp only[Zh,Z8] at this
   rcases this with q|⟨q,q2⟩
   ·exact .inl (by simpa using q)
   ·refine .inr ⟨ZX q,?_,by rw[v];decide⟩
    rcases q2 with q2 | q2
    ·exact .inl (ZX q2)
    ·exact .inr (ZX q2)
 ·rw [G.N]
  exact ZX hl
end
def zbb(Γ:Calls)(X:Cx)(tg:Tg)(it:I)(cs:List T)(el:E)(e:Expr):Prop:=
 ∃ elt gt gi gifs sc pos N',e=.ListComp elt [⟨gt,gi,gifs,0⟩] sc pos/\zfP X sc N' tg.slots/\PI X gt gi (tI X.K (evI Γ it)) ∧
  (∀cl pins s₂ H₂ C fp,PG (blk X N' s₂ H₂ (YJ sc cl C X.env) fp pins) gt (tGI X.K tg)/\PTs (blk X N' s₂ H₂ (YJ sc cl C X.env) fp pins) gifs (tTv X.K (tvs Γ cs))/\PE (blk X N' s₂ H₂ (YJ sc cl C X.env) fp pins) elt (tE X.K (ev Γ el))) ∧
  ∀x,Ys gi X.env x=pure x
theorem zbb.read(q:tLs K (evL Γ (.comp tg it cs el)) σ H Q):zhe (tI K (evI Γ it)) tg.slots (tGI K tg) (tTv K (tvs Γ cs)) (tE K (ev Γ el)) σ H Q:=by
 have e:evL Γ (.comp tg it cs el)=λσ=>bnd (evI Γ it σ) λw=>turns w.l (zpk tg (tvs Γ cs) (ev Γ el) σ) w.xs:=by
  funext σ
  rfl
 rw[e] at q;exact zjN (λσ h w h' e=>zeP e) q
theorem zbb.il(hx:X.xe=λ_ _=>False)(hc:X.calm=true)(h:zbb Γ X tg it cs el e):IL X e (evL Γ (.comp tg it cs el)):=by obtain⟨elt,gt,gi,gifs,sc,pos,N',rfl,ok,hi,hB,hs⟩:=h;exact PE.imp (zjQ hx hc ok hi hB hs) λσ H Q q=>zbb.read q
theorem zbb.readO{X:Cx}(q0:tE X.K (ev Γ (.lstO tg it cs el)) σ H Q):zhe (tI X.K (evI Γ it)) tg.slots (tGI X.K tg) (tTv X.K (tvs Γ cs)) (tE X.K (ev Γ el)) σ H Q:=by refine zeg (zrg X.K) (λσ h w h' e=>zeP e) ?_;obtain⟨μ,h,env,R0,re,r,h',e,k⟩:=q0;replace e:(bnd (evI Γ it env) λw=>bnd (turns w.l (λx=>bnd (zaq tg x (clr tg.slots env)) λσ'=>bnd (tvs Γ cs σ') λt=>if t then bnd (ev Γ el σ') λr=>bnd (zcO r) λd=>IT.ok (some d) else IT.ok none) w.xs) λls=>allocO ls) h=some (r,h'):=e;simp only[zab,allocO,Z3,ZO] at e;obtain⟨w,h1,e1,ls,h2,e2,rfl,rfl⟩:=e;refine⟨μ,h,env,R0,re,ls,h2,zab.mpr ⟨w,h1,e1,e2⟩,λμ1 H1 a vs s1 R1 z ha=>?_⟩;have st:Stp μ1 h2 H1 (μ1++[a]) (h2++[.ols ls]) (upd H1 a (.lst vs)):=Stp.allocO R1 ha;refine k (μ1++[a]) _ (.ref a) (s1.trans st) (R1.allocO ha ⟨vs,zak,L2.Paired.mapP z λl v ⟨b,eb,ev⟩=>⟨b,st.pre l b eb,ev⟩⟩) ⟨a,?_,rfl⟩;rw[<-R1.len];simp
theorem zbb.io(hx:X.xe=λ_ _=>False)(hc:X.calm=true)(h:zbb Γ X tg it cs el e):IE X e (ev Γ (.lstO tg it cs el)):=by obtain⟨elt,gt,gi,gifs,sc,pos,N',rfl,ok,hi,hB,hs⟩:=h;exact PE.imp (zjQ hx hc ok hi hB hs) λσ H Q q=>zbb.readO q
theorem tE.post(q:tE K f σ H Q)(i:∀v H,Q v H->Q' v H):tE K f σ H Q':=by obtain⟨μ,h,env,R0,re,r,h',e,k⟩:=q;exact⟨μ,h,env,R0,re,r,h',e,λμ' H' v s1 R1 q1=>i _ _ (k μ' H' v s1 R1 q1)⟩
theorem zmI{m:Bool}(q:tE K (λσ=>bnd (fl σ) λxs=>if m then alloc xs else ok (.d (.lst xs))) σ H Q):tLs K fl σ H Q:=by
 obtain⟨μ,h,env,R0,re,r,h',e,k⟩:=q;simp only[zab] at e;obtain⟨xs,h1,e1,e2⟩:=e;refine⟨μ,h,env,R0,re,xs,h1,e1,λμ1 H1 a vs s1 R1 q1 ha=>?_⟩
 cases m with
 |true=>simp only[if_true,alloc,Z3,ZO] at e2;obtain⟨rfl,rfl⟩:=e2;refine k (μ1++[a]) _ (.ref a) (s1.trans (Stp.alloc R1 ha)) (R1.alloc ha q1) ⟨a,?_,rfl⟩;rw[<-R1.len];simp
 |false=>
  simp only[Z1,if_false] at e2;obtain⟨rfl,rfl⟩:=zac.mp e2;have s2:Stp μ1 h1 H1 μ1 h1 (upd H1 a (.lst vs)):=Stp.fresh ha;refine k μ1 _ (.ref a) (s1.trans s2) (R1.fresh ha) ?_;simp only[RepR,RepD];refine⟨a,vs,rfl,.inl ⟨λl=>?_,.inl zak⟩,RepDs.stp s2 R1 q1⟩;obtain⟨ws,z,_⟩:=R1.liveAt l
  rw[ha] at z;cases z
theorem tLs.imp(q:tLs K fl σ H Q)(i:∀v H,Q v H->Q' v H):tLs K fl σ H Q':=by obtain⟨μ,h,env,R0,re,xs,h',e,k⟩:=q;exact⟨μ,h,env,R0,re,xs,h',e,λμ' H' a vs s1 R1 q1 ha=>i _ _ (k μ' H' a vs s1 R1 q1 ha)⟩
theorem zes(q:tG K (.name i) v σ H Q):zjv i v σ H Q:=by obtain⟨μ,h,env,r,env',R0,re,qr,e,k⟩:=q;simp only[bindT,zac] at e;obtain⟨rfl,_⟩:=e;exact k _ (re.set i qr)
theorem ziq{D:Ends}(q:tS K (λσ=>bnd (f σ) λr=>bnd (bindT t r σ) λσ'=>ok (.nx,σ')) D σ H):tE K f σ H λx H1=>tG K t x σ H1 D.nx:=by
 obtain⟨μ,h,env,R0,re,fl,env',h',e,k⟩:=q;simp only[zab,zac,ZO] at e;obtain⟨r,h1,e1,env1,h2,e2,⟨rfl,rfl⟩,rfl⟩:=e
 have:=zaS _ _ _ _ _ _ e2
 subst this;exact⟨μ,h,env,R0,re,r,_,e1,λμ1 H1 v s1 R1 q1=>⟨μ1,_,env,r,env1,R1,re.stp s1 R0,q1,e2,λσ' re'=>k μ1 H1 σ' s1 R1 re'⟩⟩
def znm:Expr->Bool|.BoolOp _ _ _=>true|_=>false
theorem zsj(G:Good Γ n C X)(ho:biOn b=true)(hx:x=biS b)(hg:Gl X x)(ha:IA X (e::es) fs)
  (he:ZT (e::es) X.env=(false,eval e X.env)::ZT es X.env) (hpl:(backTo pos (ZT es X.env)).any (·.1)=false):IE X (.Call (.Name x p) (e::es) [] pos) (λσ=>bnd (fs σ) λrs=>bnd (rds rs) λds=>bnd (opt (biD b ds)) λz=>ok (.d z)):=by
 subst hx
 cases b with
 |len=>exact PE.imp (zbE zjJ hg (G.blt _ (by decide)) PySem.boot_len ha (by decide) (by decide) he hpl) λσ H Q q=>zdB q
 |sum=>exact noT ho
 |tuple=>exact PE.imp (zbq zgQ hg (G.blt _ (by decide)) PyProof.Rows.boot_tuple ha (by decide) (by decide) he hpl) λσ H Q q=>zdB q
 |all=>exact PE.imp (zbE (zho G.calm true) hg (G.blt _ (by decide)) PyProof.Rows.boot_all ha (by decide) (by decide) he hpl) λσ H Q q=>zdB q
 |any=>exact noT ho|max=>exact noT ho|min=>exact noT ho
 |int=>exact PE.imp (zbq zjd hg (G.blt _ (by decide)) PyProof.Rows.boot_int ha (by decide) (by decide) he hpl) λσ H Q q=>zdB q
 |str=>exact PE.imp (zbq zjX hg (G.blt _ (by decide)) PyProof.Rows.boot_str ha (by decide) (by decide) he hpl) λσ H Q q=>zdB q
theorem zk4{a:E}{C:Cst}{e:Expr}(h:chkT (.val a) C e=true):chkE a C e=true:=by change (_&&_)=true at h;rw[Z8] at h;exact h.1
theorem zfY{Γ:Calls}{a:E}{C:Cst}{e:Expr}{X:Cx}(k:IE X e (ev Γ a))(h:chkT (.val a) C e=true)(hn:∀l ops rs pos,e≠.Compare l ops rs pos):IT' X e (tv Γ (.val a))/\(znm e=true->PW X e (tTv X.K (tv Γ (.val a)))):=by
 change (_&&(_||_))=true at h;rw[Z8,Zh] at h
 have hp:zdz e=true:=by
  rcases h.2 with z | z
  ·exact z
  ·cases e<;>first | (exact noT z) | exact absurd rfl (hn _ _ _ _)
 refine⟨zpS k (zi0 hp),λz=>?_⟩
 cases e<;>first | (exact noT z) | (first | exact noT hp | exact noF hp)
theorem zhD{vs:List Expr}{env:Yv}{cpos:Pos}(st:∀y∈vs,zam y=true)(hl:vs.length<20):((backTo cpos (ZT vs env)).all (λx=>!x.1)&&(WO cpos (XT [] env)).all (λx=>x.1.isSome)&&decide (vs.length+([]:List X5).length+(if([]:List X5).isEmpty then 0 else 1)<30))=true:=by rw[zh0 st];simp only[YH,List.isEmpty_nil,if_true,XR,Z8];exact⟨rfl,decide_eq_true (by omega)⟩
theorem zhB{fns:List (Str×Nat×List D)}{tb:List (Str×Nat)}(h:(tb.all λp=>match fns[p.2]? with | some q=>q.1==p.1&&q.2.1==1&&q.2.2.isEmpty | none=>false)=true){y:Str}{f:Nat}(e:tb.lookup y=some f):fns[f]?=some (y,1,[]):=by
 have hm:=XY e
 have:=ZQ.mp h _ hm
 simp only at this
 split at this
 ·rename_i q hq
  simp only[Z8,UU] at this;obtain⟨⟨a1,a2⟩,a3⟩:=this;obtain⟨q1,q2,q3⟩:=q;have b1:=ZX a1;have b2:=ZX a2;simp only at b1 b2 a3;rw[hq,b1,b2,a3]
 ·cases this
theorem zjR{Γ:Calls}{n:Nat}{C:Cst}{X:Cx}{tb:List (Str×Nat)}(G:Good Γ n C X)(h:(tb.all λp=>match C.fns[p.2]? with | some q=>q.1==p.1&&q.2.1==1&&q.2.2.isEmpty | none=>false)=true)(y:Str)(f:Nat)(e:tb.lookup y=some f):zeN X n y 1 [] (Γ f):=G.funs f _ (zhB h e)
theorem znQ{x t:Str}{ps:Arguments}{sc:Scope}{p1 p2 p3:Pos}(h:lamB x t ps sc=true):ziS x ps (.Call (.Name x p1) [.Name t p2] [] p3) sc/\∀env,defaultsOf ps env=([],[])/\UO sc env=pure []:=by
 unfold lamB at h;simp only[Z8,Zu,UU,Vo] at h;obtain⟨⟨⟨⟨⟨⟨⟨⟨⟨⟨⟨⟨⟨⟨⟨h1,h2⟩,h3⟩,h4⟩,h5⟩,h6⟩,h7⟩,h8⟩,h9⟩,h10⟩,h11⟩,h12⟩,h13⟩,h14⟩,h15⟩,h16⟩:=h;obtain⟨po,ar,va,kwo,kwd,kwa,df⟩:=ps;simp only at h1 h2 h3 h4 h5 h6 h7;subst h1 h3 h4 h5 h6 h7
 split at h2
 case h_2=>cases h2
 rename_i a;have ht:=ZX h2;subst ht
 have hk:sc.kind=.function:=by cases e:sc.kind<;>rw[e] at h8<;>first | rfl | (exact absurd h8 (by decide))
 have hnf:∀y∈sc.names,y.2≠.free:=λy hy z=>by have:=ZQ.mp h12 y hy;rw[z] at this;exact absurd this (by decide)
 refine⟨⟨a.arg,p1,p2,p3,rfl,⟨hk,h9,h10,by simp,rfl,λy hy=>?_,hnf⟩,ZX h13,zap h14,(zap h15).1,λq pm cd ctv us hl=>?_⟩,λenv=>⟨rfl,?_⟩⟩
 ·have:y=a.arg:=by simpa using hy
  subst this;exact .inl (ZX h11)
 ·obtain ⟨an,aa,ap⟩:=a
  have ha:an=("_law_text":Str):=ZX h16;subst ha
  match us,hl with| [u],_=>rfl
 ·exact closureFor_none hnf
mutual
theorem okE{Γ:Calls}{n:Nat}:∀(a:E) (C:Cst) (e:Expr) (X:Cx),chkE a C e=true->Good Γ n C X->IE X e (ev Γ a)
 |.con d,C,e,X,h,G=>by replace h:=ofCo h;obtain⟨c,k,pos,h⟩:=h;exact zm6 (d:=d) h
 |.var i,C,e,X,h,G=>by
  replace h:=ofNm h;obtain⟨x,pos,h⟩:=h;simp only[Z8] at h;obtain⟨h1,h2⟩:=zap h.2
  exact zjf (zbO (by rw[G.N];exact ZX h.1.1) (zfH G h.1.2) h1 h2)
 |.lam x,C,e,X,h,G=>by replace h:=ofLm h;obtain⟨ps,b,sc,pos,h⟩:=h;replace h:=ofCN h;obtain⟨y,p1,z3,p3,h⟩:=h;replace h:=za5 h;obtain⟨v,h⟩:=h;replace h:=ofNm h;obtain⟨t,p2,h⟩:=h;simp only[Z8] at h;have hy:=ZX h.1.2;subst hy;obtain⟨fm,hd⟩:=znQ (p1:=p1) (p2:=p2) (p3:=p3) h.2;exact zpM (G.lam h.1.1) fm (hd _).1 (hd _).2
 |.cv i tb es,C,e,X,h,G=>by
  replace h:=ofCN h;obtain⟨x,p,z3,pos,h⟩:=h;replace h:=za5 h;obtain⟨v,h⟩:=h;simp only[Z8] at h;obtain⟨⟨⟨⟨h1,h2⟩,h3⟩,h4⟩,h5⟩:=h;obtain⟨q1,q2⟩:=zap h3
  exact zpO (n:=n) (zjR G h4) G.room1 (by rw[G.N];exact ZX h1) (zfH G h2) q1 q2 (okEs es C _ X h5 G) (λσ h0 rs h' e=>by rw[za2 e];exact zay h5) (zal (zar h5 v (by simp)))
 |.bin o a b,C,e,X,h,G=>by replace h:=ofBi h;obtain⟨l,op,r,pos,h⟩:=h;simp only[Z8] at h;exact zpm (m:=mD (bop o)) (OpD.opI (opB h.1.1)) (okE a C l X h.1.2 G) (okE b C r X h.2 G)|.cmp o a b,C,e,X,h,G=>by replace h:=ofCm h;obtain⟨l,z2,z4,_,h⟩:=h;replace h:=za5 h;obtain⟨op,h⟩:=h;replace h:=za5 h;obtain⟨r,h⟩:=h;simp only[Z8,Zu] at h;exact zqm (m:=mD (cop o)) (OpD.opI (coBe G.room.units h.1.1.1)) (okE a C _ X h.1.1.2 G) (okE b C _ X h.1.2 G) (zkU h.2)
 |.and a b,C,e,X,h,G=>by
  replace h:=ofBo h;obtain⟨z2,z3,pos,h⟩:=h;replace h:=ofAn h;obtain⟨h⟩:=h;replace h:=zaC h;obtain⟨v,z4,h⟩:=h;replace h:=zaC h;obtain⟨w,rest,h⟩:=h;simp only[Z8] at h
  cases rest with|nil=>exact zm2 (okE a C v X h.1 G) (zhE (okE b C w X h.2 G))|cons y ys=>exact zm2 (okE a C v X h.1 G) (okE b C _ X h.2 G)
 |.or a b,C,e,X,h,G=>by
  replace h:=ofBo h;obtain⟨z2,z3,pos,h⟩:=h;replace h:=ofOr h;obtain⟨h⟩:=h;replace h:=zaC h;obtain⟨v,z4,h⟩:=h;replace h:=zaC h;obtain⟨w,rest,h⟩:=h;simp only[Z8] at h
  cases rest with|nil=>exact zrb (okE a C v X h.1 G) (zhE (okE b C w X h.2 G))|cons y ys=>exact zrb (okE a C v X h.1 G) (okE b C _ X h.2 G)
 |.not a,C,e,X,h,G=>by replace h:=ofUn h;obtain⟨z2,x,_,h⟩:=h;replace h:=ofNo h;obtain⟨h⟩:=h;exact zqv (okE a C _ X h G)|.ife c a b,C,e,X,h,G=>by replace h:=ofIf h;obtain⟨t,x,y,_,h⟩:=h;simp only[Z8] at h;exact zqT (okT c C _ X h.1.1 G).1 (okE a C _ X h.1.2 G) (okE b C _ X h.2 G)
 |.tup es,C,e,X,h,G=>by
  replace h:=ofTu h;obtain⟨xs,_,_,h⟩:=h;simp only[Z8] at h
  exact zp2 (okEs es C _ X h.1 G) (of_decide_eq_true h.2) (λσ h0 rs h' e=>by rw[za2 e];exact zay h.1)
 |.lst m l,C,e,X,h,G=>by
  cases l with|disp es=>exact zeF m (okL (.disp es) C e X h G)|comp tg it cs el=>exact zeF m (zbb.il G.nox G.calm (okL (.comp tg it cs el) C e X h G))|of a=>exact zeF m (okL (.of a) C e X h G)|cat a b=>exact zeF m (okL (.cat a b) C e X h G)|spl a b=>exact zeF m (okL (.spl a b) C e X h G)|sst a=>exact zeF m (okL (.sst a) C e X h G)
 |.idx a i,C,e,X,h,G=>by replace h:=ofSu h;obtain⟨x,y,_,h⟩:=h;simp only[Z8,Zu] at h;exact zqq (okE a C _ X h.1.1 G) (okE i C _ X h.1.2 G) (zlQ h.2)
 | .sli a lo hi,C,e,X,h,G=>by
  replace h:=ofSu h;obtain⟨x,z2,pos,h⟩:=h;replace h:=ofSl h;obtain⟨l,u,z3,p2,h⟩:=h;replace h:=zm4 h;obtain⟨h⟩:=h;simp only[Z8] at h
  have non:∀{z:E},zc7 z=true->PO X none (tO X.K (ev Γ z)):=by
   intro z hz;unfold zc7 at hz
   split at hz
   ·exact zog
   ·cases hz
  have hl:PO X l (tO X.K (ev Γ lo)):=by
   cases l with|none=>exact non h.1.2|some y=>exact zk7 (okE lo C y X h.1.2 G)
  have hu:PO X u (tO X.K (ev Γ hi)):=by
   cases u with|none=>exact non h.2|some y=>exact zk7 (okE hi C y X h.2 G)
  exact zqf (okE a C x X h.1.1 G) hl hu
 | .call f es,C,e,X,h,G=>by
  replace h:=ofCN h;obtain⟨x,p,z3,pos,h⟩:=h;replace h:=zaC h;obtain⟨v,vs,h⟩:=h;simp only[Z8] at h;have st:=zar h.2
  cases hp:C.fns[f]? with
  |none=>rw[hp] at h;simp at h
  |some q=>
   rw[hp] at h;have hx:=ZX h.1.1.1;subst hx
   exact zhx (G.funs f q hp) G.room (zbt G h.1.1.2) (okEs es C _ X h.2 G) (λσ h0 rs h' e=>by rw[za2 e];exact zay h.2) (zap h.1.2).1 (zal (st v (by simp))) (za0 λy hy=>st y (by simp[hy]))
 |.bi b es,C,e,X,h,G=>by replace h:=ofCN h;obtain⟨x,p,z3,pos,h⟩:=h;replace h:=zaC h;obtain⟨v,vs,h⟩:=h;simp only[Z8] at h;have st:=zar h.2;exact zsj G h.1.1.1 (ZX h.1.1.2) (zbt G h.1.2) (okEs es C _ X h.2 G) (zal (st v (by simp))) (za0 λy hy=>st y (by simp[hy]))
 | .me m o es,C,e,X,h,G=>by
  replace h:=ofCA h;obtain⟨ov,name,apos,vs,cpos,h⟩:=h
  cases vs with
  |cons v vs=>
   simp only[Z8] at h;obtain⟨⟨⟨⟨⟨⟨h0,h1⟩,h2⟩,h3⟩,h4⟩,h5⟩,h6⟩:=h;have st:=zar h4;have h7:(v::vs).length<20:=of_decide_eq_true h6;have few:=zhD (env:=X.env) (cpos:=cpos) st (by assumption)
   cases m with|append=>exact zj5 (okE o C ov X h3 G) (okEs es C _ X h4 G) (ZX h1) (zju h2) few h5 (zal (st v (by simp))) (za0 λy hy=>st y (by simp[hy]))|extend=>simp[meOn] at h0|popAt=>simp[meOn] at h0|pop=>exact noT h0.1|clear=>exact noT h0.1
  | nil=>
   simp only[Z8] at h;obtain⟨⟨⟨⟨⟨h0,h1⟩,h2⟩,h3⟩,h4⟩,h5⟩:=h
   cases es with
   |cons _ _=>exact noT h4
   |nil=>
    cases m with|append=>exact noT h0.1|popAt=>exact noT h0.1|extend=>exact noT h0.1|pop=>simp[meOn] at h0|clear=>simp[meOn] at h0
 | .glo d,C,e,X,h,G=>by
  replace h:=ofNm h;obtain⟨x,pos,h⟩:=h;simp only[Z8] at h;obtain⟨⟨h1,h2⟩,h3⟩:=h
  cases hd:C.globs.lookup x with|none=>rw[hd] at h1;cases h1|some d'=>rw[hd] at h1;have e:=D.same_eq _ _ h1;subst e;obtain⟨u,v,e1,e2,e3⟩:=G.glob x d hd;exact zgj (zkg (zbt G h2) e1 e2 (zap h3).1) e3
 |.isi t a,C,e,X,h,G=>by
  replace h:=ofCN h;obtain⟨x,p,z3,pos,h⟩:=h;replace h:=zaC h;obtain⟨v,z4,h⟩:=h;replace h:=za5 h;obtain⟨z5,h⟩:=h;replace h:=ofNm h;obtain⟨y,p2,h⟩:=h;simp only[Z8] at h;obtain⟨⟨⟨⟨⟨h1,h2⟩,h3⟩,h4⟩,h5⟩,h6⟩:=h;have hx:=ZX h1;subst hx;have hy:=ZX h5
  have hb:y∈zco:=by rw[hy];cases t<;>decide
  exact zpY (zbt G h2) (G.blt _ (by decide)) (okE a C v X h4 G) hy (zbt G h6) (G.blt _ hb) (by rw[zal h3];rfl)
 |.tm m o es,C,e,X,h,G=>by replace h:=ofCA h;obtain⟨ov,name,apos,z3,cpos,h⟩:=h;replace h:=zaC h;obtain⟨v,vs,h⟩:=h;simp only[Z8] at h;obtain⟨⟨⟨⟨⟨h1,h2⟩,h3⟩,h4⟩,h5⟩,h6⟩:=h;have st:=zar h4;have hl:(v::vs).length<20:=of_decide_eq_true h6;have few:=zhD (env:=X.env) (cpos:=cpos) st (by assumption);exact zrS (okE o C ov X h3 G) (okEs es C _ X h4 G) (ZX h1) (zdy h2) few h5 (zal (st v (by simp))) (za0 λy hy=>st y (by simp[hy]))
 | .lm m o a,C,e,X,h,G=>by
  replace h:=ofCA h;obtain⟨ov,name,apos,z3,cpos,h⟩:=h;replace h:=za5 h;obtain⟨v,h⟩:=h;simp only[Z8] at h;obtain⟨⟨⟨⟨⟨h1,h2⟩,h3⟩,h4⟩,h5⟩,h6⟩:=h
  have st:∀y∈[v],zam y=true:=by intro y hy;simp at hy;rw[hy];exact h4
  have few:=zhD (env:=X.env) (cpos:=cpos) st (by simp)
  by_cases hm:m=.countT
  ·subst hm
   exact zo9 G.room.units (okE o C ov X h3 G) (okE a C v X h5 G) (ZX h1) (zdy h2) few h6 (zal h4) rfl
  ·by_cases hn:m=.indexT
   ·subst hn
    exact zqS G.room.units (okE o C ov X h3 G) (okE a C v X h5 G) (ZX h1) (zdy h2) few h6 (zal h4) rfl
   ·exact zrV G.room.units hm hn (okE o C ov X h3 G) (okE a C v X h5 G) (ZX h1) (zdy h2) few h6 (zal h4) rfl
 |.lstO tg it cs el,C,e,X,h,G=>noT h
 | .call0 f,C,e,X,h,G=>by
  replace h:=ofCN h;obtain⟨x,p,z3,pos,h⟩:=h;replace h:=zfW h;obtain⟨h⟩:=h;simp only[Z8] at h
  cases hp:C.fns[f]? with|none=>rw[hp] at h;simp at h|some q=>rw[hp] at h;have hx:=ZX h.1.1;subst hx;exact zmr (G.funs f q hp) G.room (zbt G h.1.2) (zap h.2).1
 |.stuck,C,e,X,h,G=>zlL
theorem okEs{Γ:Calls}{n:Nat}:∀(as:List E) (C:Cst) (es:List Expr) (X:Cx),chkEs as C es=true->Good Γ n C X->IA X es (evs Γ as)
 | [],C,es,X,h,G=>by
  cases es with|nil=>exact zjo|cons _ _=>exact noT h
 | a::as,C,es,X,h,G=>by
  cases es with|nil=>exact noT h|cons e es=>change ((zam _&&chkE _ _ _)&&chkEs _ _ _)=true at h;simp only[Z8] at h;exact zg6 (okE a C e X h.1.2 G) (okEs as C es X h.2 G) (zal h.1.1)
theorem okPs{Γ:Calls}{n:Nat}:∀(as:List E) (ks:List Str) (C:Cst) (keys:List (Option Expr)) (vals:List Expr) (X:Cx) (pos:Pos),chkP as ks C keys vals=true->Good Γ n C X->IP X pos ks keys vals (evs Γ as)/\keys.all (·.isSome)=true/\keys.length=vals.length/\ks.length=keys.length
 | [],ks,C,keys,vals,X,pos,h,G=>by
  cases ks with|nil=>replace h:=zfW h;obtain⟨h⟩:=h;replace h:=zfW h;obtain⟨_⟩:=h;exact⟨zqG,rfl,rfl,rfl⟩|cons _ _=>exact noT h
 | a::as,ks,C,keys,vals,X,pos,h,G=>by
  cases ks with|nil=>exact noT h|cons k ks=>replace h:=zaC h;obtain⟨o,r,h⟩:=h;replace h:=zio h;obtain⟨e,h⟩:=h;replace h:=ofCo h;obtain⟨c,j,p,h⟩:=h;replace h:=zaC h;obtain⟨v,vs,h⟩:=h;simp only[Z8] at h;have hc:=zos h.1.1;subst hc;obtain⟨a1,a2,a3,a4⟩:=okPs as ks C r vs X pos h.2 G;exact⟨zno (okE a C v X h.1.2 G) a1,by simpa using a2,by simp[a3],by simp[a4]⟩
theorem okT{Γ:Calls}{n:Nat}:∀(t:T) (C:Cst) (e:Expr) (X:Cx),chkT t C e=true->Good Γ n C X->IT' X e (tv Γ t)/\(znm e=true->PW X e (tTv X.K (tv Γ t)))
 | .val q,C,e,X,h,G=>by
  cases q with
  |cmp o a b=>replace h:=zk4 h;replace h:=ofCm h;obtain⟨l,z2,z4,_,h⟩:=h;replace h:=za5 h;obtain⟨op,h⟩:=h;replace h:=za5 h;obtain⟨r,h⟩:=h;simp only[Z8,Zu] at h;exact⟨zpd (m:=mD (cop o)) (OpD.opI (coBe G.room.units h.1.1.1)) (okE a C _ X h.1.1.2 G) (okE b C _ X h.1.2 G) (zkU h.2) (λx y h0 r h1 e=>zrM e),λz=>by first | exact noT z | exact noF z⟩
  | stuck=>
   refine⟨λpins s σ H Q I q=>?_,λ_ whole pins s σ H Q I q=>?_⟩
   ·obtain ⟨μ,h,env,R0,re,t,h',e,k⟩:=q
    cases e
   ·obtain ⟨μ,h,env,R0,re,t,h',e,k⟩:=q
    cases e
  |lst m l=>exact zfY (okE (.lst m l) C e X (zk4 h) G) h (by intro _ ops rs pos z;subst z;cases l<;>exact noT (zk4 h))|_=>exact zfY (okE _ C e X (zk4 h) G) h (by intro l ops rs pos z;subst z;exact noT (zk4 h))
 | .and a b,C,e,X,h,G=>by
  replace h:=ofBo h;obtain⟨z2,z3,pos,h⟩:=h;replace h:=ofAn h;obtain⟨h⟩:=h;replace h:=zaC h;obtain⟨v,z4,h⟩:=h;replace h:=zaC h;obtain⟨w,rest,h⟩:=h;simp only[Z8] at h
  have key:PW X (.BoolOp .And (v::w::rest) pos) (tTv X.K (tv Γ (.and a b))):=by
   cases rest with|nil=>exact zni (tb:=λ_ _ _=>True) (okT a C v X h.1 G).1 (zo1 (okT b C w X h.2 G).1)|cons y ys=>exact zni (tb:=λ_ _ _=>True) (okT a C v X h.1 G).1 ((okT b C _ X h.2 G).2 rfl)
  exact⟨key.pt,λ_=>key⟩
 | .or a b,C,e,X,h,G=>by
  replace h:=ofBo h;obtain⟨z2,z3,pos,h⟩:=h;replace h:=ofOr h;obtain⟨h⟩:=h;replace h:=zaC h;obtain⟨v,z4,h⟩:=h;replace h:=zaC h;obtain⟨w,rest,h⟩:=h;simp only[Z8] at h
  have key:PW X (.BoolOp .Or (v::w::rest) pos) (tTv X.K (tv Γ (.or a b))):=by
   cases rest with|nil=>exact zpH (okT a C v X h.1 G).1 (zmX (okT b C w X h.2 G).1)|cons y ys=>exact zpH (okT a C v X h.1 G).1 ((okT b C _ X h.2 G).2 rfl)
  exact⟨key.pt,λ_=>key⟩
 |.not a,C,e,X,h,G=>by replace h:=ofUn h;obtain⟨z2,x,_,h⟩:=h;replace h:=ofNo h;obtain⟨h⟩:=h;exact⟨zpI (okT a C _ X h G).1,λz=>by first | exact noT z | exact noF z⟩
theorem okTs{Γ:Calls}{n:Nat}:∀(ts:List T) (C:Cst) (es:List Expr) (X:Cx),zmh ts C es=true->Good Γ n C X->PTs X es (tTv X.K (tvs Γ ts))
 | [],C,es,X,h,G=>by
  cases es with|nil=>intro pins s σ H Q I ⟨μ,h0,env,R0,re,t,h',e,k⟩;simp only[tvs,zac] at e;obtain⟨rfl,rfl⟩:=e;exact zok pins s σ H Q I (k μ H true Stp.refl R0 rfl)|cons _ _=>exact noT h
 | t :: ts,C,es,X,h,G=>by
  cases es with
  |nil=>exact noT h
  | cons e es=>
   change ((chkT _ _ _&&zmh _ _ _)&&List.isEmpty _)=true at h;simp only[Z8] at h;obtain⟨⟨h1,h2⟩,h3⟩:=h
   cases es with
   |cons _ _=>simp at h3
   | nil=>
    cases ts with
    |cons _ _=>exact noT h2
    | nil=>
     intro pins s σ H Q I ⟨μ,h0,env,R0,re,t',h',e,k⟩;simp only[tvs,zab] at e;obtain⟨t1,h1',e1,e2⟩:=e;refine zow (okT t C _ X h1 G).1 pins s σ H Q I ⟨μ,h0,env,R0,re,t1,h1',e1,λμ1 H1 b s1 R1 hb=>?_⟩;subst hb
     cases t1 with|true=>simp only[if_true,zac] at e2;obtain⟨rfl,rfl⟩:=e2;exact k μ1 H1 _ s1 R1 rfl|false=>simp only[Z1,if_false,zac] at e2;obtain⟨rfl,rfl⟩:=e2;exact k μ1 H1 _ s1 R1 rfl
theorem okL{Γ:Calls}{n:Nat}:∀(l:L) (C:Cst) (e:Expr) (X:Cx),chkL l C e=true->Good Γ n C X->match l with|.disp es=>IL X e (evL Γ (.disp es))|.comp tg it cs el=>zbb Γ X tg it cs el e|.of a=>IL X e (evL Γ (.of a))|.cat a b=>IL X e (evL Γ (.cat a b))|.spl a b=>IL X e (evL Γ (.spl a b))|.sst a=>IL X e (evL Γ (.sst a))
 |.disp es,C,e,X,h,G=>by
  replace h:=ofLi h;obtain⟨xs,_,h⟩:=h;simp only[Z8] at h
  exact zn1 (okEs es C _ X h.1 G) (of_decide_eq_true h.2) (λσ h0 rs h' e=>by rw[za2 e];exact zay h.1)
 |.comp tg it cs el,C,e,X,h,G=>by
  replace h:=ofLC h;obtain⟨elt,z2,sc,pos,h⟩:=h;replace h:=za5 h;obtain⟨g,h⟩:=h;obtain⟨gt,gi,gifs,ga⟩:=g;simp only[Z8,Zu] at h;obtain⟨⟨⟨⟨⟨⟨h1,h2⟩,h3⟩,h4,h4'⟩,h5⟩,h6⟩,h7⟩:=h
  have ea:ga=0:=by simpa using h1
  subst ea;refine⟨elt,gt,gi,gifs,sc,pos,(blkC C sc (zcz tg gt)).N,rfl,zhd G h3,okI it C gi X h5 G gt h4',λcl pins s₂ H₂ Cc fp=>?_,zdw h2⟩;have G':=G.blk h3 cl pins s₂ H₂ Cc fp;exact⟨znW G' tg gt h4,okTs cs _ gifs _ h6 G',okE el _ elt _ h7 G'⟩
 |.of a,C,e,X,h,G=>by replace h:=ofCN h;obtain⟨x,_,z3,_,h⟩:=h;replace h:=za5 h;obtain⟨v,h⟩:=h;simp only[Z8] at h;obtain⟨⟨⟨h1,h2⟩,h3⟩,h4⟩:=h;have hx:=ZX h1;subst hx;exact zr7 (zbt G h2) (G.blt _ (by decide)) (okE a C _ X h4 G) (zal h3)
 |.spl a b,C,e,X,h,G=>by
  replace h:=ofCA h;obtain⟨ov,name,apos,z3,cpos,h⟩:=h;replace h:=za5 h;obtain⟨v,h⟩:=h;simp only[Z8] at h;obtain⟨⟨⟨⟨⟨h1,h2⟩,h3⟩,h4⟩,h5⟩,h6⟩:=h
  have st:∀y∈[v],zam y=true:=by intro y hy;simp at hy;rw[hy];exact h4
  have few:=zhD (env:=X.env) (cpos:=cpos) st (by simp);exact zqQ (okE a C ov X h3 G) (okE b C v X h5 G) (ZX h1) (zdy h2) few h6 (zal h4) rfl
 |.cat a b,C,e,X,h,G=>by replace h:=ofBi h;obtain⟨l,z2,r,_,h⟩:=h;replace h:=ofAd h;obtain⟨h⟩:=h;simp only[Z8] at h;exact zq4 (okE a C _ X h.1 G) (okE b C _ X h.2 G)|.sst a,C,e,X,h,G=>by replace h:=ofCN h;obtain⟨x,_,z3,_,h⟩:=h;replace h:=za5 h;obtain⟨z4,h⟩:=h;replace h:=ofCN h;obtain⟨y,_,z6,_,h⟩:=h;replace h:=za5 h;obtain⟨v,h⟩:=h;simp only[Z8] at h;obtain⟨⟨⟨⟨⟨h1,h2⟩,h3⟩,h4⟩,h5⟩,h6⟩:=h;have hx:=ZX h1;have hy:=ZX h3;subst hx hy;exact zpw G.room.units G.calm (zbt G h2) (G.blt _ (by decide)) (zbt G h4) (G.blt _ (by decide)) (okE a C _ X h6 G) (zal h5) rfl
theorem okI{Γ:Calls}{n:Nat}:∀(it:I) (C:Cst) (e:Expr) (X:Cx),chkI it C e=true->Good Γ n C X->∀tg,enuB it tg=true->PI X tg e (tI X.K (evI Γ it))|.seq a,C,e,X,h,G,tg,_=>zpX (okE a C e X h G)|.rng a,C,e,X,h,G,tg,_=>by replace h:=ofCN h;obtain⟨x,p,z3,pos,h⟩:=h;replace h:=za5 h;obtain⟨v,h⟩:=h;simp only[Z8] at h;have hx:=ZX h.1.1.1;subst hx;exact zqW (zbt G h.1.1.2) (G.blt _ (by decide)) (okE a C v X h.2 G) (zal h.1.2)
end
theorem okO{Γ:Calls}{n:Nat}{tg:Tg}{it:I}{cs:List T}{el:E}{C:Cst}{e:Expr}{X:Cx}(h:chkE (.lstO tg it cs el) C e=true)(G:Good Γ n C X):zbb Γ X tg it cs el e:=noT h
theorem zmd{C:Cst}{a:E}{x1:Expr}{x2:_}{x3:_}{x4:_}(h:chkE a C (.SetComp x1 x2 x3 x4)=true):a=.stuck:=by
 cases a with|stuck=>rfl|lst m l=>cases l<;>exact noT h|_=>exact noT h
theorem zlO{C:Cst}{a:E}{x0 x1:Expr}{x2:_}{x3:_}{x4:_}(h:chkE a C (.DictComp x0 x1 x2 x3 x4)=true):a=.stuck:=by
 cases a with|stuck=>rfl|lst m l=>cases l<;>exact noT h|_=>exact noT h
theorem zmf{C:Cst}{a:E}{x1:Expr}{x2:_}{x3:_}{x4:_}(h:chkE a C (.ListComp x1 x2 x3 x4)=true):a=.stuck\/(∃m tg it cs el,a=.lst m (.comp tg it cs el))\/∃tg it cs el,a=.lstO tg it cs el:=by
 cases a with
 |stuck=>exact .inl rfl
 |lst m l=>
  cases l with|comp tg it cs el=>exact .inr (.inl ⟨m,tg,it,cs,el,rfl⟩)|_=>exact noT h
 |lstO tg it cs el=>exact .inr (.inr ⟨tg,it,cs,el,rfl⟩)|_=>exact noT h
theorem zmO{Γ:Calls}{n:Nat}{C:Cst}{X:Cx}(G:Good Γ n C X){tg:Tg}{a:E}{t v:Expr}{pos:Pos}(h1:zdm C tg t=true)(h3:chkE a C v=true)(h2:zam t=true)(h4:(zcx t&&zcx v)=false)(hc:zdv v=true)(hn:zgE t=true):
  PS X (.Assign [t] v pos) (tS X.K λσ=>bnd (ev Γ a σ) λr=>bnd (bindT tg r σ) λσ'=>ok (.nx,σ')):=by
 have g:=okTg G tg t h1
 cases t with
 | Name y py=>
  cases tg with
  |tup ts=>exact noT h1
  | name iy=>
   cases v with
   | ListComp elt gens sc cpos=>
    have hb:∃b,Wx (.ListComp elt gens sc cpos) (some (.Name y py)) pos.line X.env=pure b:=⟨_,rfl⟩;obtain⟨b,hb⟩:=hb
    cases b with
    |false=>exact zmU (okE a C _ X h3 G) g hb (zcj h4) (zeL h2)
    | true=>
     rcases zmf h3 with rfl|⟨m,tg2,it,cs,el,rfl⟩|⟨tg2,it,cs,el,rfl⟩
     ·exact λpins s σ H D I ⟨μ,h,env,R0,re,fl,env',h',e,k⟩=>by cases e
     ·obtain ⟨elt',gt,gi,gifs,sc',pos',N',e,ok,hi,hB,hs⟩:=okL (Γ:=Γ) (n:=n) (.comp tg2 it cs el) C _ X h3 G
      cases e;change (_&&locB C _)=true at h1;simp only[Z8] at h1;obtain⟨l1,l2⟩:=zib G h1.2
      refine PS.imp (zdM G.nox G.calm ok hi hB hs hb (zhb G.nd (by rw[G.N];exact ZX h1.1) l1 l2)) λD σ H q=>?_
      have q1:=ziq q;have q2:=zmI (fl:=evL Γ (.comp tg2 it cs el)) (m:=m) q1;exact zbb.read (q2.imp λv H1 z=>zes z)
     ·obtain ⟨elt',gt,gi,gifs,sc',pos',N',e,ok,hi,hB,hs⟩:=okO (Γ:=Γ) (n:=n) h3 G
      cases e;change (_&&locB C _)=true at h1;simp only[Z8] at h1;obtain⟨l1,l2⟩:=zib G h1.2
      refine PS.imp (zdM G.nox G.calm ok hi hB hs hb (zhb G.nd (by rw[G.N];exact ZX h1.1) l1 l2)) λD σ H q=>?_
      exact zbb.readO ((ziq q).post λv H1 z=>zes z)
   |SetComp _ _ _ _=>
    obtain rfl:=zmd h3
    exact λpins s σ H D I ⟨μ,h,env,R0,re,fl,env',h',e,k⟩=>by cases e
   |DictComp _ _ _ _ _=>
    obtain rfl:=zlO h3
    exact λpins s σ H D I ⟨μ,h,env,R0,re,fl,env',h',e,k⟩=>by cases e
   |_=>first | exact noT hc | exact noF hc
 |_=>first | exact noT hn | exact noF hn
mutual
theorem okS{Γ:Calls}{n:Nat}:∀(s:S) (C:Cst) (st:Stmt) (X:Cx),chkS s C st=true->Good Γ n C X->PS X st (tS X.K (ex Γ s))
 |.asg tg a,C,st,X,h,G=>by
  replace h:=ofAs h;obtain⟨z2,v,pos,h⟩:=h;replace h:=za5 h;obtain⟨t,h⟩:=h;simp only[Z8,Zu,Zh] at h;obtain⟨⟨⟨⟨h1,h2⟩,h3⟩,h4⟩,h5⟩:=h
  rcases h5 with h5 | h5
  ·exact zmU (okE a C v X h3 G) (okTg G tg t h1) (zhq h5) (zcj h4) (zeL h2)
  ·exact zmO G h1 h3 h2 h4 h5.1 h5.2
 |.setI o i a,C,st,X,h,G=>by replace h:=ofAs h;obtain⟨z2,v,pos,h⟩:=h;replace h:=za5 h;obtain⟨z3,h⟩:=h;replace h:=ofSu h;obtain⟨ov,iv,p2,h⟩:=h;simp only[Z8,Zu] at h;obtain⟨⟨⟨⟨h1,h2⟩,h3⟩,h4⟩,h5⟩:=h;exact znN (okE a C v X h1 G) (okE o C ov X h2 G) (okE i C iv X h3 G) (znH h5) (zhq h4) (zcj (by rfl)) (zeL rfl)|.exp a,C,st,X,h,G=>by replace h:=ofEx h;obtain⟨v,_,h⟩:=h;simp only[Z8,Zu] at h;exact zqc (okE a C _ X h.1 G) (zlB h.2)|.ife c a b,C,st,X,h,G=>by replace h:=zpC h;obtain⟨t,x,y,_,h⟩:=h;simp only[Z8] at h;exact zrv (okT c C _ X h.1.1 G).1 (okSs a C _ X h.1.2 G) (okSs b C _ X h.2 G)
 |.for tg it body,C,st,X,h,G=>by
  replace h:=ofFo h;obtain⟨t,iter,b,z2,_,h⟩:=h;replace h:=zfW h;obtain⟨h⟩:=h;simp only[Z8,Zu] at h;obtain⟨⟨⟨⟨h1,h1'⟩,h2⟩,h3⟩,h4⟩:=h
  exact zqk (by rw[G.nox];exact U3.never) G.calm (okI it C _ X h2 G _ h1') (znW G tg _ h1) (okSs body C _ X h3 G) (zdw h4) (λσ h w h' e=>zeP e)
 |.ret a,C,st,X,h,G=>by replace h:=ofRe h;obtain⟨z2,_,h⟩:=h;replace h:=zio h;obtain⟨v,h⟩:=h;exact znn (okE a C _ X h G)|.brk,C,st,X,h,G=>noT h|.cnt,C,st,X,h,G=>noT h|.raiN c a,C,st,X,h,G=>zhW|.tryb _ _ _ _ _,C,st,X,h,G=>noT h|.stuck,C,st,X,h,G=>zhW
theorem okSs{Γ:Calls}{n:Nat}:∀(ss:List S) (C:Cst) (sts:List Stmt) (X:Cx),chkSs ss C sts=true->Good Γ n C X->PSs X sts (tS X.K (exs Γ ss))
 | [],C,sts,X,h,G=>by
  cases sts with|nil=>exact zla|cons _ _=>exact noT h
 | s::ss,C,sts,X,h,G=>by
  cases sts with|nil=>exact noT h|cons st sts=>change (chkS _ _ _&&chkSs _ _ _)=true at h;simp only[Z8] at h;exact zeY (okS s C st X h.1 G) (okSs ss C sts X h.2 G)
end
end IT
namespace IT
open PySem PySem.Spec L2
structure Thr(X:Cx)(cv:ClsV)(E:R->Hp->Prop):Prop where
 own:U3 (model X.prog X.w) X.A X.env X.xe
 pass:zc4 (CXk X.prog X.w) X (wX cv E)
 madeN:∀pins σ H s e t dx C,Inv X pins σ H s->s.heap.get? e=some ⟨.ref C,some dx,.fields #[.ref t,.none,.none,.none,.bool false,.none],#[]⟩->H e=none->X.s₀.heap.get? e=none->wX cv E (.ref C) (some dx) H->X.xe (.ref e) s
 made:∀pins σ H s h' a C vs,Inv X pins σ H s->Vs s.heap h' a C vs->wX cv E C none H->X.xe (.ref a) {s with heap:=h'}
theorem zsg{X:Cx}{Γ:Calls}{n i:Nat}{x:Str}{tb:List (Str×Nat)}{fs:IT.Env->M (List R)}{e:Expr}{p pos:Pos}{cv:ClsV}{E:R->Hp->Prop}(hX:∀y f,tb.lookup y=some f->FunX X cv n y 1 [] (Γ (xof f)))(hr:Room (n+1) X.A)(hp:zc4 (CXk X.prog X.w) X (wX cv E))(hi:X.N[i]?=some x)(hv:Vis X.env.scope x)(hdb:(x==("__debug__":Str))=false)(hcn:(x==("__classdict__":Str))=false)
  (ha:IA X [e] fs) (hfl:∀σ h rs h',fs σ h=some (rs,h')->rs.length=1) (he:ZT [e] X.env=[(false,eval e X.env)]):PE X (.Call (.Name x p) [e] [] pos) (λσ H _=>RX X.K (cvM Γ xof i tb fs) E σ H):=by
 intro pins s σ H Q I q;obtain⟨μ,h,env,R0,re,r,h',ee,k⟩:=q;obtain⟨l,y,f,rs,h1,er,ey,ef,e1,e2⟩:=zeX ee;obtain⟨fa,params,body,scope,es,fm,hl⟩:=ze4 R0 re er ey;obtain⟨C,hC⟩:=(hX y f ef).cls _ _ _ _ e2
 exact zcv (X:=X) (E:=wX cv E) (zkn (X:=X) fm (hX y f ef)) hr hi hv hdb hcn ha he rfl I es hl ⟨μ,h,env,R0,re,rs,h1,e1,λμ1 H1 vs s1 R1 q1=>⟨hl.keep (s1.frz R0),by rw[<-q1.length];exact hfl _ _ _ _ e1,μ1,h1,rs,r,h',C,R1,q1,e2,hC,λμ2 H2 od s2 R2 o2=>⟨r,hC,o2,k μ2 H2 (s1.trans s2) R2⟩⟩⟩ (λH1 s1 e s' I1 c=>hp pins σ H1 s1 e s' I1 c)
theorem zpj{Γ:Calls}{n:Nat}{cv:ClsV}{E:R->Hp->Prop}{f:Nat}{es:List IT.E}{C:Cst}{X:Cx}{v:Expr}{rp:Pos}(h:chkE (.call f es) C v=true)(G:Good Γ n C X.nox)(Ex:Excs Γ n C X cv)(T:Thr X cv E):XS X E (.Return (some v) rp) (evX Γ (.call f es)):=by
 have callX:∀{f:Nat} {es:List IT.E} {v:Expr},chkE (.call f es) C v=true->PE X v (λσ H _=>RX X.K (λσ=>bnd (evs Γ es σ) λrs=>Γ (xof f) rs) E σ H):=λ{f es v} h=>by
  replace h:=ofCN h;obtain⟨x,p,z3,pos,h⟩:=h;replace h:=zaC h;obtain⟨v,vs,h⟩:=h;simp only[Z8] at h;have st:=zar h.2
  cases hp:C.fns[f]? with
  |none=>rw[hp] at h;simp at h
  |some q=>
   rw[hp] at h;have hx:=ZX h.1.1.1;subst hx
   exact zg9 (X:=X) (E:=E) (p:=p) (pos:=pos) (Ex.funs f q hp) G.room (show Gl X _ from zbt (X:=X.nox) G h.1.1.2) T.pass (zdx (okEs es C _ X.nox h.2 G)) (λσ h0 rs h' e=>by rw[za2 e];exact zay h.2) (zap h.1.2).1 (zal (st v (by simp))) (za0 λy hy=>st y (by simp[hy]))
 intro pins s σ H I q;obtain⟨μ,h0,env,R0,re,r,h',e,k⟩:=q;unfold evX at e;simp only at e
 cases ev:evs Γ es env h0 with
 |some pr=>
  obtain⟨rs,h1⟩:=pr;rw[ev] at e
  exact zkl (zeG (callX h)) (λσ H q=>q) pins s σ H I ⟨μ,h0,env,R0,re,r,h',by simp only[bnd,ev];exact e,k⟩
 | none=>
  rw[ev] at e;simp only at e
  split at e
  case h_2=>cases e
  rename_i mm tg a cs el;replace h:=ofCN h;obtain⟨x,p,z3,pos,h⟩:=h;replace h:=zaC h;obtain⟨v,vs,h⟩:=h;simp only[Z8] at h;obtain⟨⟨⟨h1,h2⟩,h3⟩,h4⟩:=h
  have hvs:vs=[]:=by
   have:=zay h4
   simp at this;exact this
  subst hvs;change ((zam v&&chkE (.lst mm (.comp tg (.seq a) cs el)) C v)&&chkEs [] C [])=true at h4;simp only[Z8] at h4;obtain⟨⟨h4,h5⟩,_⟩:=h4;change chkL (.comp tg (.seq a) cs el) C v=true at h5;replace h5:=ofLC h5;obtain⟨elt,z2,sc,lpos,h5⟩:=h5;replace h5:=za5 h5;obtain⟨g,h5⟩:=h5;obtain⟨gt,gi,gifs,ga⟩:=g;simp only[Z8,Zu] at h5;obtain⟨⟨⟨⟨⟨⟨i1,i2⟩,i3⟩,_⟩,i5⟩,_⟩,_⟩:=h5
  have ea:ga=0:=by simpa using i1
  subst ea;change chkE a C gi=true at i5;unfold evC at e
  split at e
  ·rename_i g as _
   cases hp:C.fns[f]? with
   |none=>rw[hp] at h1;cases h1
   |some q=>
    rw[hp] at h1;have hx:=ZX h1;subst hx;have fa:=G.funs f q hp
    exact zkl (zeG (zkS (X:=X) (p:=p) (pos:=pos) ⟨fa.ex,fa.fill,fa.len⟩ G.room (show Gl X _ from zbt (X:=X.nox) G h2) (zhK (X:=X) (pos:=lpos) (elt:=elt) (ifs:=gifs) (tg:=gt) (let c:=zhd G i3;⟨c.kind,c.cell,c.names,c.free,c.slots,c.len⟩) (callX i5) (zdw i2)) (zap h3).1 (zal h4))) (λσ H q=>q) pins s σ H I ⟨μ,h0,env,R0,re,r,h',e,k⟩
  ·rename_i i tb as _
   replace i5:=ofCN i5;obtain⟨y,p',z3,pos',i5⟩:=i5;replace i5:=za5 i5;obtain⟨w,i5⟩:=i5;simp only[Z8] at i5;obtain⟨⟨⟨⟨j1,j2⟩,j3⟩,j4⟩,j5⟩:=i5;obtain⟨q1,q2⟩:=zap j3
   have hcv:=zsg (X:=X) (Γ:=Γ) (cv:=cv) (E:=E) (n:=n) (tb:=tb) (p:=p') (pos:=pos') (λy f z=>Ex.funs f _ (zhB j4 z)) G.room1 T.pass (show X.N[i]?=some y by rw[show X.N=C.N from G.N];exact ZX j1) (zfH (X:=X.nox) G j2) q1 q2 (zdx (okEs as C _ X.nox j5 G)) (λσ h0 rs h' e=>by rw[za2 e];exact zay j5) (zal (zar j5 w (by simp)))
   cases hp:C.fns[f]? with
   |none=>rw[hp] at h1;cases h1
   |some q=>
    rw[hp] at h1;have hx:=ZX h1;subst hx;have fa:=G.funs f q hp
    exact zkl (zeG (zkS (X:=X) (p:=p) (pos:=pos) ⟨fa.ex,fa.fill,fa.len⟩ G.room (show Gl X _ from zbt (X:=X.nox) G h2) (zhK (X:=X) (pos:=lpos) (elt:=elt) (ifs:=gifs) (tg:=gt) (let c:=zhd G i3;⟨c.kind,c.cell,c.names,c.free,c.slots,c.len⟩) hcv (zdw i2)) (zap h3).1 (zal h4))) (λσ H q=>q) pins s σ H I ⟨μ,h0,env,R0,re,r,h',e,k⟩
  ·cases e
mutual
theorem okX{Γ:Calls}{n:Nat}{cv:ClsV}{E:R->Hp->Prop}:∀(s:S) (C:Cst) (st:Stmt) (X:Cx),chkS s C st=true->Good Γ n C X.nox->Excs Γ n C X cv->Thr X cv E->XS X E st (exX Γ s)
 | .asg tg a,C,st,X,h,G,Ex,T=>by
  cases a with
  | call f es=>
   replace h:=ofAs h;obtain⟨z2,v,pos,h⟩:=h;replace h:=za5 h;obtain⟨t,h⟩:=h;simp only[Z8,Zu,Zh] at h;obtain⟨⟨⟨⟨h1,h2⟩,h3⟩,h4⟩,h5⟩:=h;replace h3:=ofCN h3;obtain⟨x,p,z3,cpos,h3⟩:=h3;replace h3:=zaC h3;obtain⟨v,vs,h3⟩:=h3;simp only[Z8] at h3;have st:=zar h3.2
   cases hp:C.fns[f]? with
   |none=>rw[hp] at h3;simp at h3
   |some q=>
    rw[hp] at h3;have hx:=ZX h3.1.1.1;subst hx
    have hpe:=zg9 (X:=X) (E:=E) (p:=p) (pos:=cpos) (Ex.funs f q hp) G.room (show Gl X _ from zbt (X:=X.nox) G h3.1.1.2) T.pass (zdx (okEs es C _ X.nox h3.2 G)) (λσ h0 rs h' e=>by rw[za2 e];exact zay h3.2) (zap h3.1.2).1 (zal (st v (by simp))) (za0 λy hy=>st y (by simp[hy]))
    refine zkl (zli (pos:=pos) hpe (zng (okTg G tg t h1)) (zhq (by rfl)) (zcj h4) (zeL h2)) λσ H q=>?_;exact q
  |_=>exact zbl
 |.ife c a b,C,st,X,h,G,Ex,T=>by replace h:=zpC h;obtain⟨t,x,y,_,h⟩:=h;simp only[Z8] at h;exact zrd (PT.nox (okT c C _ X.nox h.1.1 G).1) (okXs a C _ X h.1.2 G Ex T) (okXs b C _ X h.2 G Ex T)|.for tg it body,C,st,X,h,G,Ex,T=>by replace h:=ofFo h;obtain⟨t,iter,b,z2,_,h⟩:=h;replace h:=zfW h;obtain⟨h⟩:=h;simp only[Z8,Zu] at h;obtain⟨⟨⟨⟨h1,h1'⟩,h2⟩,h3⟩,h4⟩:=h;exact zp5 T.own G.calm (zqd (okI it C _ X.nox h2 G _ h1')) (zng (znW G tg _ h1)) (PSs.nox (okSs body C _ X.nox h3 G)) (okXs body C _ X h3 G Ex T) (zdw h4) (λσ h w h' e=>zeP e)|.setI _ _ _,C,st,X,h,G,Ex,T=>zbl|.exp _,C,st,X,h,G,Ex,T=>zbl
 | .ret a,C,st,X,h,G,Ex,T=>by
  cases a with
  |call f es=>replace h:=ofRe h;obtain⟨z2,rp,h⟩:=h;replace h:=zio h;obtain⟨v,h⟩:=h;exact zpj h G Ex T
  |_=>exact λpins s σ H I ⟨_,_,_,_,_,_,_,e,_⟩=>by cases e
 |.brk,C,st,X,h,G,Ex,T=>zbl|.cnt,C,st,X,h,G,Ex,T=>zbl|.tryb _ _ _ _ _,C,st,X,h,G,Ex,T=>zbl
 | .raiN c a,C,st,X,h,G,Ex,T=>by
  replace h:=ofRa h;obtain⟨z2,z7,_,h⟩:=h;replace h:=zio h;obtain⟨z3,h⟩:=h;replace h:=ofCN h;obtain⟨x,_,z5,_,h⟩:=h;replace h:=za5 h;obtain⟨v,h⟩:=h;replace h:=zm4 h;obtain⟨h⟩:=h;simp only[Z8] at h;obtain⟨⟨⟨⟨⟨h1,h2⟩,h3⟩,h4⟩,h5⟩,h6⟩:=h
  cases hc:C.exs[c]? with|none=>rw[hc] at h1;cases h1|some u=>rw[hc] at h1;simp only[Z8] at h1;have hu:=ZX h1.1;subst hu;obtain⟨Ca,e1,e2,e3,e4,e5,_⟩:=Ex.num c _ hc h1.2;have dc:=G.defc h6;exact zj2 (X:=X) (cv:=cv) (E:=E) (n:=n) ⟨dc.ex,dc.st,dc.fr⟩ G.calm e3 e4 G.room1 (show Gl X _ from zbt (X:=X.nox) G h2) e1 e2 (PE.nox (okE a C _ X.nox h5 G)) (zap h3).1 (zal h4) (λpins σ H s e t dx I he he2 he3 w=>T.madeN pins σ H s e t dx _ I he he2 he3 w)
 |.stuck,C,st,X,h,G,Ex,T=>zbl
theorem okXs{Γ:Calls}{n:Nat}{cv:ClsV}{E:R->Hp->Prop}:∀(ss:List S) (C:Cst) (sts:List Stmt) (X:Cx),chkSs ss C sts=true->Good Γ n C X.nox->Excs Γ n C X cv->Thr X cv E->XSs X E sts (exXs Γ ss)
 | [],C,sts,X,h,G,Ex,T=>by
  cases sts with|nil=>exact zof|cons _ _=>exact noT h
 | s::ss,C,sts,X,h,G,Ex,T=>by
  cases sts with|nil=>exact noT h|cons st sts=>change (chkS _ _ _&&chkSs _ _ _)=true at h;simp only[Z8] at h;exact zms (zpB (okS s C st X.nox h.1 G)) (okX s C st X h.1 G Ex T) (okXs ss C sts X h.2 G Ex T)
end
end IT
namespace IT
open PySem PySem.Spec L2
def zlh:E->Bool|.call _ _=>true|.cv _ _ _=>true|_=>false
def tryC(C:Cst)(u:zcg)(e:E)(j o m:Nat)(cx nn oo mm z1 z2 z3 y:Str):Bool:=u.num&&zlh e&&C.top&&u.hs.contains cx&&u.isx.contains (z1,false)&&u.isx.contains (z2,false)&&u.isx.contains (z3,false)&&u.isx.contains (y,true)&&u.isx.contains ("ValueError",true) &&
 ([cx,z1,z2,z3,y, "ValueError", "isinstance", "bool"].all λx=>zcp C x&&zaw x)&&C.N[j]?==some nn&&C.N[o]?==some oo&&C.N[m]?==some mm&&lclB C nn&&locB C oo&&visB C mm&&([nn,oo,mm].all zaw)&&j != o&&m != o&&j != m
inductive zh2(C:Cst)(B:F)(body:List Stmt):Prop where
 | mk {a1 a2 a3 a4 a5 a6 a7 a8 a9 b1 b2 b3 b4 b5 b6 b7 b8 b9 c1 c2 c3 c4 c5 c6 c7 c8 c9 d1 d2 d3 d4 d5 d6 d7 d8 d9 e1 e2 e3 e4 e5 e6 f1 f2 f3 f4 f5 f6:Pos} {kk k2:Nat} (e:E) (c j o m:Nat) (ce:Expr) (cx nn oo mm z1 z2 z3 y:Str) (u:zcg)
   (hb:body=[.Try [.Expr ce f1] [.ExceptHandler (some (.Name cx f2)) (some nn) [.Assign [.Name oo a1] (.BoolOp .Or [.Call (.Name "isinstance" a2) [.Name nn a3,.Name z1 a4] [] a5,.Call (.Name "isinstance" a6) [.Name nn a7,.Name z2 a8] [] a9,.Call (.Name "isinstance" b1) [.Name nn b2,.Name z3 b3] [] b4] b5) b6,
    .If (.BoolOp .Or [.Name oo b7,.UnaryOp .Not (.Call (.Name "isinstance" b8) [.Name nn b9,.Name y c1] [] c2) c3,.UnaryOp .Not (.Call (.Name "isinstance" c4) [.Name nn c5,.Name "ValueError" c6] [] c7) c8] c9) [.Return (some (.Constant (.bool false) kk d1)) d2] [] d3,
    .Return (some (.BoolOp .And [.Compare (.Attribute (.Name nn d4) "number" d5) [.Eq] [.Name mm d6] d7,.UnaryOp .Not (.Call (.Name "isinstance" d8) [.Attribute (.Name nn d9) "number" e1,.Name "bool" e2] [] e3) e4] e5)) e6] f3] [] [] f4,.Return (some (.Constant (.bool false) k2 f5)) f6])
   (hB:B.body=[.tryb e c j o m,.ret (.con (.bl false))]) (hc:chkE e C ce=true) (hu:C.exs[c]?=some u) (cond:tryC C u e j o m cx nn oo mm z1 z2 z3 y=true)
theorem znp{Γ:Calls}{n:Nat}{C:Cst}{X:Cx}{cv:ClsV}{e:E}{ce:Expr}(G:Good Γ n C X)(Ex:Excs Γ n C X cv)(h:chkE e C ce=true)(hc:zlh e=true):zl6 X cv ce (ev Γ e) (evC Γ e)/\∀line,Wx ce none line X.env=pure false:=by
 cases e with
 | call f es=>
  replace h:=ofCN h;obtain⟨x,p,z3,pos,h⟩:=h;replace h:=zaC h;obtain⟨v,vs,h⟩:=h;simp only[Z8] at h;have st:=zar h.2
  cases hp:C.fns[f]? with
  |none=>rw[hp] at h;simp at h
  |some q=>
   rw[hp] at h;have hx:=ZX h.1.1.1;subst hx
   exact⟨zpT G.nox (G.funs f q hp) (Ex.funs f q hp) G.room (zbt G h.1.1.2) (okEs es C _ X h.2 G) (λσ h0 rs h' e=>by rw[za2 e];exact zay h.2) (zap h.1.2).1 (zal (st v (by simp))) (za0 λy hy=>st y (by simp[hy])),λ_=>rfl⟩
 |cv i tb es=>
  replace h:=ofCN h;obtain⟨x,p,z3,pos,h⟩:=h;replace h:=za5 h;obtain⟨v,h⟩:=h;simp only[Z8] at h;obtain⟨⟨⟨⟨h1,h2⟩,h3⟩,h4⟩,h5⟩:=h;obtain⟨q1,q2⟩:=zap h3
  exact⟨zq5 G.nox (zjR G h4) (λy f z=>Ex.funs f _ (zhB h4 z)) G.room1 (by rw[G.N];exact ZX h1) (zfH G h2) q1 q2 (okEs es C _ X h5 G) (λσ h0 rs h' e=>by rw[za2 e];exact zay h5) (zal (zar h5 v (by simp))),λ_=>rfl⟩
 |_=>cases hc
theorem zpn{Γ:Calls}{n:Nat}{C:Cst}{X:Cx}{B:F}{body:List Stmt}(G:Good Γ n C X)(D:zh2 C B body):PSs X body (tS X.K (exs Γ B.body)):=by
 obtain⟨e,c,j,o,m,ce,cx,nn,oo,mm,z1,z2,z3,y,u,rfl,hB,hc,hu,cond⟩:=D;rw[hB];unfold tryC at cond;simp only[Z8,List.contains_iff_mem,bne_iff_ne,beq_iff_eq,ZQ] at cond;obtain⟨⟨⟨⟨⟨⟨⟨⟨⟨⟨⟨⟨⟨⟨⟨⟨⟨⟨⟨g1,g2⟩,g3⟩,g4⟩,g5⟩,g6⟩,g7⟩,g8⟩,g9⟩,g10⟩,g11⟩,g12⟩,g13⟩,g14⟩,g15⟩,g16⟩,g17⟩,g18⟩,g19⟩,g20⟩:=cond;obtain⟨cv,Ex⟩:=G.excs;obtain⟨Ca,x1,x2,x3,x4,x5,xo⟩:=Ex.num c u hu g1;obtain⟨Cy,m1,m2⟩:=xo.hs cx g4;obtain⟨hcall,hsw⟩:=znp G Ex hc g2;have hgl:∀x∈[cx,z1,z2,z3,y, "ValueError", "isinstance", "bool"],Gl X x/\(x==("__debug__":Str))=false:=λx hx=>⟨zbt G (g10 x hx).1,(zap (g10 x hx).2).1⟩;have hpl:∀x∈[nn,oo,mm],(x==("__debug__":Str))=false/\(x==("__classdict__":Str))=false:=λx hx=>zap (g17 x hx);obtain⟨l1,l2⟩:=zib G g15;have hcx:=hgl cx (by simp)
 refine zeY (znA (X:=X) (cv:=cv) G.nox (G.defc g3) hcall (hsw _) hcx.1 m1 hcx.2 x2 m2 G.nd (by rw[G.N];exact g11) (zm3 G g14) (by rw[G.N];exact(Z2.mp g12).1) g20 λa EE' k num=>zpa (e7:=⟨0,0,0,0⟩) (e8:=⟨0,0,0,0⟩) ?_) (zeY (znn (zm6 (d:=.bl false) rfl)) zla)
 exact⟨x5,xo.isx _ g5,xo.isx _ g6,xo.isx _ g7,xo.isx _ g8,xo.isx _ g9,(hgl "isinstance" (by simp)).1,G.blt _ (by decide),(hgl "bool" (by simp)).1,G.blt _ (by decide),λx hx=>hgl x (by simp only[ZJ,WU,or_false] at hx⊢;rcases hx with h | h | h | h | h<;>simp[h]),G.nd,by show X.N[j]?=_;rw[G.N];exact g11,by show X.N[o]?=_;rw[G.N];exact g12,by show X.N[m]?=_;rw[G.N];exact g13,(show Vis X.env.scope nn from .inl (zm3 G g14)),l1,(show Vis X.env.scope mm from zfH G g16),l2,hpl,g18,g19⟩
end IT
namespace IT
open PySem PySem.Spec L2
section
variable {K:Z7}{μ μ':List Addr}{h h':Sto}{H H':Hp}
theorem RepDs.less(i:∀a,A' a->A a)(q:RepDs K A H x v):RepDs K A' H x v:=RepDs.mono (λ_ _ z=>z) (λ_ _ n z=>⟨λl=>n (i _ l),z⟩) x v q
theorem RepD.less(i:∀a,A' a->A a)(q:RepD K A H x v):RepD K A' H x v:=RepD.mono (λ_ _ z=>z) (λ_ _ n z=>⟨λl=>n (i _ l),z⟩) x v q
theorem zda(st:Stp μ h H μ' h' H')(R0:Rep K μ h H):μ'.take h.length=μ:=by
 have hl:=R0.len;refine List.ext_getElem? λi=>?_
 by_cases hi:i<μ.length
 ·rw[Yy (by omega),st.pre i μ[i] (Z4 hi),Z4 hi]
 ·rw[YA (by simp;omega),YA (by omega)]
theorem zfD:∀a,Live (μ'.take n) (h'.take n) a->Live μ' h' a:=by
 rintro a ⟨i,o,e1,e2,e3⟩
 have hi:i<n:=by
  have:=(Z2.mp e1).1
  simp at this;omega
 rw[Yy hi] at e1 e2;exact⟨i,o,e1,e2,e3⟩
def R.locs:R->List Nat|.d _=>[]|.loc l=>[l]
def Ob.locs:Ob->List Nat|.lst _=>[]|.fro _=>[]|.ols ls=>ls|.fnc _=>[]|.tab=>[]|.ins _ fs=>(fs.map λp=>R.locs p.2).flatten
theorem zcB{α β:Type}{F:α->β->Prop}:∀{xs:List α} {ys:List β} {x:α},Paired F xs ys->x∈xs->∃y,F x y
 |_,_,_,.nil,h=>by simp at h
 |_,_,x,.cons r t,h=>by
  rcases ZJ.mp h with rfl | h
  ·exact⟨_,r⟩
  ·exact zcB t h
theorem zdY{α β:Type}{F G:α->β->Prop}:∀{xs:List α} {ys:List β},Paired F xs ys->(∀x∈xs,∀y,F x y->G x y)->Paired G xs ys|_,_,.nil,_=>.nil|_,_,.cons r t,f=>.cons (f _ (by simp) _ r) (zdY t λx hx=>f x (by simp[hx]))
theorem zjW{a:Addr}{o:Ob}(q:RepO K μ h H a o):∀l∈o.locs,l<μ.length:=by
 intro l hl
 cases o with
 |lst _=>simp[Ob.locs] at hl|fro _=>simp[Ob.locs] at hl|fnc _=>simp[Ob.locs] at hl|tab=>simp[Ob.locs] at hl|ols ls=>obtain⟨vs,_,z⟩:=q;obtain⟨v,b,eb,_⟩:=zcB z hl;exact(Z2.mp eb).1
 | ins c fs=>
  obtain⟨C,dx,fs',_,_,z⟩:=q;simp only[Ob.locs,List.mem_flatten,X9] at hl;obtain⟨_,⟨p,hp,rfl⟩,hl⟩:=hl;obtain⟨q',_,qr⟩:=zcB z hp
  cases hr:p.2 with|d x=>rw[hr] at hl;simp[R.locs] at hl|loc k=>rw[hr] at hl qr;simp[R.locs] at hl;subst hl;obtain⟨b,eb,_⟩:=qr;exact(Z2.mp eb).1
theorem zfZ{μ2:List Addr}{h2:Sto}{a:Addr}(q:RepO K μ' h' H' a o)(lv:∀b,Live μ2 h2 b->Live μ' h' b)(cl:∀l∈o.locs,∀b,μ'[l]?=some b->μ2[l]?=some b):RepO K μ2 h2 H' a o:=by
 cases o with
 |lst xs=>obtain⟨vs,e,z⟩:=q;exact⟨vs,e,z.less lv⟩|fro xs=>obtain⟨vs,e,z⟩:=q;exact⟨vs,e,z.less lv⟩|ols ls=>obtain⟨vs,e,z⟩:=q;exact⟨vs,e,zdY z λl hl v ⟨b,eb,ev⟩=>⟨b,cl l hl b eb,ev⟩⟩|fnc _=>exact q|tab=>exact q
 | ins c fs=>
  obtain⟨C,dx,fs',hC,e,z⟩:=q;refine⟨C,dx,fs',hC,e,zdY z λp hp q' ⟨e1,qr⟩=>⟨e1,?_⟩⟩
  cases hr:p.2 with
  |d x=>rw[hr] at qr;exact RepD.less lv qr
  |loc k=>
   rw[hr] at qr;obtain⟨b,eb,ev⟩:=qr;refine⟨b,cl k ?_ b eb,ev⟩;simp only[Ob.locs,List.mem_flatten,X9]
   exact⟨_,⟨p,hp,rfl⟩,by rw[hr];simp[R.locs]⟩
theorem R.same_eq{x y:R}(e:x.same y=true):x=y:=by
 cases x with
 |d x=>
  cases y with|d y=>rw[D.same_eq x y e]|loc _=>cases e
 |loc l=>
  cases y with|d _=>cases e|loc k=>simp only[R.same] at e;rw[ZX e]
theorem zgx:∀{fs gs:List (Str×R)},zca fs gs=true->fs=gs| [],[],_=>rfl| [],_::_,e=>by simp[zca] at e|(f,x)::r,[],e=>by simp[zca] at e| (f,x)::r,(g,y)::t,e=>by simp only[zca,Z8] at e;obtain⟨⟨e1,e2⟩,e3⟩:=e;rw[ZX e1,R.same_eq e2,zgx e3]
theorem zgz:∀{h h1:Sto} {i:Nat} {o1:Ob},objs h h1=true->h1[i]?=some o1->i<h.length->∃o,h[i]?=some o/\o1.locs=o.locs
 | [],_,_,_,_,_,hi=>by simp at hi|o::h,[],_,_,e,_,_=>by simp[objs] at e
 | o::h,o1::t,0,x,e,ex,_=>by
  simp only[YX,Z3] at ex;subst ex;refine⟨o,rfl,?_⟩;simp only[objs,Z8] at e;have e:=e.1
  cases o<;>cases o1<;>simp only[Z1] at e<;>try rfl
  ·simp only[Z8] at e
   rw[zgx e.2];rfl
  ·simp only[Ob.locs]
   rw[ZX e]
 |o::h,o1::t,i+1,x,e,ex,hi=>by simp only[objs,Z8] at e;obtain⟨o',e1,e2⟩:=zgz (i:=i) e.2 (by simpa using ex) (by simpa using hi);exact⟨o',by simpa using e1,e2⟩
theorem zlm(st:Stp μ h H μ' h' H')(R0:Rep K μ h H)(R1:Rep K μ' h' H'):Stp μ h H μ (h'.take h.length) H':=by refine⟨λ_ _ e=>e,st.keep,λa l=>st.live a (zfD (n:=h.length) a ?_)⟩;rw[zda st R0];exact l
theorem znJ(st:Stp μ h H μ' h' H')(R0:Rep K μ h H)(R1:Rep K μ' h' H')(ob:objs h h'=true)(q:RepR K μ' h' H' r v)(e:fin0 h.length keep r h'=some (r2,h2)):
  ∃μ2,Stp μ h H μ2 h2 H'/\Rep K μ2 h2 H'/\RepR K μ2 h2 H' r2 v:=by
 have st1:=zlm st R0 R1
 have lv:∀a,Live μ (h'.take h.length) a->Live μ' h' a:=λa l=>zfD (n:=h.length) a (by rw[zda st R0];exact l)
 have hlen:=R0.len
 have at1:∀(l:Nat) (b:Addr),l<h.length->μ'[l]?=some b->μ[l]?=some b:=λl b hl eb=>by rw[<-zda st R0,Yy hl];exact eb
 have small:∀(i:Nat) (o:Ob),i<h.length->h'[i]?=some o->∀l∈o.locs,l<h.length:=by
  intro i o hi ho l hl;obtain⟨o0,e0,el⟩:=zgz ob ho hi;rw[el] at hl
  have hi':i<μ.length:=by omega
  have:=zjW (R0.obj i μ[i] o0 (Z4 hi') e0) l hl
  omega
 have R2:Rep K μ (h'.take h.length) H':=by
  have hl':(h'.take h.length).length=h.length:=by
   have:=R1.len
   have h3:μ.length<=μ'.length:=by rw[<-zda st R0,Ze];exact U1 _ _
   simp;omega
  refine⟨by rw[hl'];exact hlen,R0.nd,λi a o e1 e2=>?_⟩
  have hi:i<h.length:=by rw[<-hlen];exact(Z2.mp e1).1
  rw[Yy hi] at e2;exact zfZ (R1.obj i a o (st.pre i a e1) e2) lv λl hl b eb=>at1 l b (small i o hi e2 l hl) eb
 cases r with
 |d x=>simp only[fin0,Z3,ZO] at e;obtain⟨rfl,rfl⟩:=e;exact⟨μ,st1,R2,RepD.less lv q⟩
 | loc l =>
  obtain⟨a,ea,rfl⟩:=q;simp only[fin0] at e
  by_cases hl:l<h.length
  ·rw [if_pos hl] at e
   simp only[Z3,ZO] at e;obtain⟨rfl,rfl⟩:=e;exact⟨μ,st1,R2,a,at1 l a hl ea,rfl⟩
  ·rw [if_neg hl] at e
   obtain⟨o,ho⟩:=R1.placeO ea;rw[ho] at e
   have apart:a∉μ:=by
    intro hm;obtain⟨i,hi,ei⟩:=Xr hm
    have:=zc9 R1.nd (st.pre i a (by rw[Z4 hi,ei])) ea
    omega
   have data:∀xs,o.isL=true->o.items=xs->∃μ2,Stp μ h H μ2 (h'.take h.length) H'/\Rep K μ2 (h'.take h.length) H'/\RepR K μ2 (h'.take h.length) H' (.d (.lst xs)) (.ref a):=by
    rintro xs il rfl
    obtain⟨vs,hH,z⟩:=R1.placeL ea ho il;refine⟨μ,st1,R2,?_⟩;simp only[RepR,RepD];refine⟨a,vs,rfl,.inl ⟨?_,.inl hH⟩,z.less lv⟩
    rintro⟨i,ys,e1,e2,_⟩
    exact apart (YU e1)
   cases o with
   |ins _ _=>cases e|ols _=>cases e|fnc _=>cases e|tab=>cases e|fro xs=>simp only[Z3,ZO] at e;obtain⟨rfl,rfl⟩:=e;exact data xs rfl rfl
   | lst xs=>
    cases keep with
    |false=>simp only[Z1,if_false,Z3,ZO] at e;obtain⟨rfl,rfl⟩:=e;exact data xs rfl rfl
    | true=>
     simp only[if_true,Z3,ZO] at e;obtain⟨rfl,rfl⟩:=e;obtain⟨vs,hH,z⟩:=R1.placeL ea ho rfl
     have hl2:(h'.take h.length).length=μ.length:=by rw[<-R2.len]
     have lv2:∀b,Live (μ++[a]) (h'.take h.length++[.lst xs]) b->Live μ' h' b:=by
      intro b l2
      rcases(zfa R2.len).mp l2 with w|⟨rfl,_⟩
      ·exact lv b w
      ·exact⟨l,_,ea,ho,rfl⟩
     refine⟨μ++[a],⟨λi b e=>?_,st.keep,λb l2=>st.live b (lv2 b l2)⟩,⟨by simp[hl2],?_,λi b o e1 e2=>?_⟩,a,?_,rfl⟩
     ·rw[ZF (Z2.mp e).1];exact e
     ·rw [Vh]
      refine⟨R0.nd,by simp,λb hb c hc=>?_⟩;simp at hc;subst hc
      rintro rfl
      exact apart hb
     ·by_cases hi:i<μ.length
      ·rw [ZF hi] at e1
       rw[ZF (by omega)] at e2
       have hi2:i<h.length:=by omega
       rw[Yy hi2] at e2;refine zfZ (R1.obj i b o (st.pre i b e1) e2) lv2 λk hk c ec=>?_;have hk2:=small i o hi2 e2 k hk;rw[ZF (by omega)];exact at1 k c hk2 ec
      ·rw [YZ (by omega)] at e1
       rw[YZ (by omega)] at e2
       have hz:i-μ.length=0:=by
        cases hk:i-μ.length with|zero=>rfl|succ k=>rw[hk] at e1;simp at e1
       rw[hl2,hz] at e2;rw[hz] at e1;simp at e1 e2;subst e1 e2;exact⟨vs,hH,z.less lv2⟩
     ·rw [hlen.symm]
      simp
theorem zih(st:Stp μ h H μ' h' H')(R0:Rep K μ h H)(R1:Rep K μ' h' H')(q:RepR K μ' h' H' r v)(e:fin h all keep r h'=some (r2,h2)):
  ∃μ2,Stp μ h H μ2 h2 H'/\Rep K μ2 h2 H'/\RepR K μ2 h2 H' r2 v:=by
 unfold fin at e
 cases all with
 |true=>simp only[if_true,Z3,ZO] at e;obtain⟨rfl,rfl⟩:=e;exact⟨μ',st,R1,q⟩
 | false=>
  simp only[Z1,if_false] at e
  split at e
  ·rename_i ob
   exact znJ st R0 R1 ob q e
  ·cases e
end
structure Fun2(K:Z7)(x qual:Str)(st:Stmt)(f:Addr)(fd:FuncData):Prop where
 ex:∃(oc:Value) (od:Option Addr) (dV kV doc pm:Value) (an:Option Addr) (cdv ct:Value) (osl:Array (Option Value)),
  fd=Ya x qual (zbk st) (zau st) (zaf st) dV kV doc pm an cdv ct/\K.lookup f=some ⟨oc,od,.func fd,osl⟩/\Xm K cdv qual=true
 kp:Y0 K (.ref f)=true
section
variable {P:ZB}{w:World}{K:Z7}{mg:Str->Option Value}{base:Heap}
theorem zkp{dV kV doc pm cdv ct:Value}(l:K.lookup f=some ⟨oc,od,.func (Ya x qual (zbk st) (zau st) (zaf st) dV kV doc pm an cdv ct),osl⟩)
  (c:Xm K cdv qual=true) (k:Y0 K (.ref f)=true):Fun2 K x qual st f (Ya x qual (zbk st) (zau st) (zaf st) dV kV doc pm an cdv ct):=⟨⟨oc,od,dV,kV,doc,pm,an,cdv,ct,osl,rfl,l,c⟩,k⟩
end
structure zdR(K:Z7)(fns:List (Str×Nat×List D))(cls:List zkk)(Pr:List F)(globs:List (Str×D))(gds:List (Str×List (List Nat×D)))(exs:List zcg)(fi:Nat)(x qual:Str)(st:Stmt)(f:Addr)(fd:FuncData)(N ps:List Str)(B:F):Prop where
 at':Pr[fi]?=some B
 fn:Fun2 K x qual st f fd
 sc:zaR N ps (zaf st)
 np:B.np=ps.length
 ns:B.ns=N.length
 bi:∃dvs,(∀A H,RepDs K A H B.dfl dvs)/\∀j,j<=B.dfl.length->∃ds,zcm K fd ps ds/\Vals (dvs.drop j) ds
 chk:chkSs B.body ⟨N,(zaf st).names,fns,globs,true,cls,gds,exs,B.lam⟩ (zau st)=true\/zh2 ⟨N,(zaf st).names,fns,globs,true,cls,gds,exs,B.lam⟩ B (zau st)
 lamq:B.lam=true->qual="law"
def cvOf(exA:List Addr):ClsV:=λr=>some (match r with
 |.d (.int i)=>.ref (exA.getD i.toNat 0)|.d (.tup [.int i,.int _])=>.ref (exA.getD i.toNat 0)
 |_=>.none)
structure Txt(w:World)(K:Z7)(mg:Str->Option Value)(fns:List (Str×Nat×List D))(cls:List zkk)(Pr:List F)(globs:List (Str×D))(gds:List (Str×List (List Nat×D)))(exs:List zcg)(exA:List Addr)(addr:Nat->Addr)(fdOf:Nat->FuncData)(psOf:Nat->List Str):Prop where
 defs:∀fi B,Pr[fi]?=some B->∃x qual st N,zdR K fns cls Pr globs gds exs fi x qual st (addr fi) (fdOf fi) N (psOf fi) B
 blt:∀x∈zco,mg x=none
 glob:∀(x:Str) (d:D),globs.lookup x=some d->∃u v,mg x=some u/\RelV v u/\∀A H,RepD K A H d v
 funs:∀fi p,fns[fi]?=some p->mg p.1=some (.ref (addr fi))/\∃B,Pr[fi]?=some B/\B.np=p.2.1/\B.dfl=p.2.2
 makes:∀i∈cls,∃C B,mg i.name=some (.ref C)/\ZS K mainGlobals i.name=some (some (.ref C))/\Cls K C/\Mk K C (addr i.init)/\Pr[i.init]?=some B/\B.dfl=[]
 meths:∀i∈cls,∀p∈i.meths,∃C B,ZS K mainGlobals i.name=some (some (.ref C))/\Cls K C/\Meth K C p.1 (addr p.2)/\Pr[p.2]?=some B/\B.dfl=[]
 attrs:∀i∈cls,∀f∈i.fields,∀A,ZS K mainGlobals i.name=some (some (.ref A))->zjc K A f
 lam:∀fi B,Pr[fi]?=some B->B.lam=true->ZS K mainGlobals "law"=some (some (.ref (addr fi)))
 excN:∀(c:Nat) (x:zcg),exs[c]?=some x->x.num=true->∃Ca,mg x.name=some (.ref Ca)/\exA.getD c 0=Ca/\ExcN K Ca/\ExcJ K Ca/\XOk K mg Ca x/\∃fI fd,Y8 K (.ref Ca) "__init__"=some (some (.ref fI))/\Vr K (.ref fI)=some (.type "function")/\(∀P base,FnOk P w K mg base CX0 1 fI fd ["self", "number"] (zmz Ca))/\zcm K fd ["self", "number"] []
 excs:∀(c:Nat) (x:zcg),exs[c]?=some x->x.num=false->∃Ca,mg x.name=some (.ref Ca)/\exA.getD c 0=Ca/\ExcK K Ca/\WZ K (.ref Ca) (.ref Ca)=some true/\XOk K mg Ca x
 few:Pr.length<=1000
section
variable {P:ZB}{w:World}{K:Z7}{mg:Str->Option Value}{base:Heap}{fns:List (Str×Nat×List D)}{cls:List zkk}{Pr:List F}{globs:List (Str×D)}{gds:List (Str×List (List Nat×D))}{exs:List zcg}{exA:List Addr}{addr:Nat->Addr}{fdOf:Nat->FuncData}{psOf:Nat->List Str}
theorem zdp(h:np<=rs.length):zao np dfl rs=rs:=by rw[zaF (by omega),List.drop_eq_nil_of_le (by omega)];simp
theorem zgG:zao np dfl (zao np dfl rs)=zao np dfl rs:=by
 by_cases hs:rs.length+dfl.length<np
 ·rw[zaP hs,zaP hs]
 ·refine zdp ?_
  rw[zaF hs];simp only[Zw,ZR,YN];omega
theorem ziv(e0:Pr[fi]?=some B)(rs:List R):zae Pr m fi rs=zae Pr m fi (zao B.np B.dfl rs):=by
 cases m with
 |zero=>rfl
 |succ m=>
  funext h
  rw[zaJ,zaJ];simp only[e0];rw[zgG]
theorem zgd(e0:Pr[fi]?=some B)(e:zae Pr (m+1) fi rs h=some p):(zao B.np B.dfl rs).length=B.np:=by
 rw[zaJ] at e;simp only[e0] at e
 split at e
 ·assumption
 ·cases e
theorem zaL.env(q:zaL K μ h H rs vs)(i:Nat)(r:R)(e:(rs.map some)[i]?=some (some r)):∃v,(vs.map some)[i]?=some (some v)/\RepR K μ h H r v:=by
 induction q generalizing i with
 |nil=>simp at e
 | @cons r' v rs vs q1 _ ih=>
  cases i with|zero=>simp at e;subst e;exact⟨v,rfl,q1⟩|succ i=>simp only[Zz,X4] at e⊢;exact ih i e
theorem zeB(e0:Pr[fi]?=some B)(ed:B.dfl=[])(e:zae Pr m fi rs h=some p):rs.length=B.np:=by
 cases m with
 |zero=>cases e
 | succ m=>
  have:=zgd e0 e
  rw[ed] at this
  have ef:zao B.np [] rs=rs:=by
   unfold zao
   split
   ·rfl
   ·simp
  rwa [ef] at this
theorem ziH(e0:Pr[fi]?=some B)(e:zae Pr m fi rs h=some p):(zao B.np B.dfl rs).length=B.np:=by
 cases m with|zero=>cases e|succ m=>exact zgd e0 e
theorem ziW(T:Txt w K mg fns cls Pr globs gds exs exA addr fdOf psOf)(e0:Pr[fi]?=some B)(rs:List R):zae Pr m (xof fi) rs=zae Pr m (xof fi) (zao B.np B.dfl rs):=by
 cases m with
 |zero=>rfl
 |succ m=>
  funext h
  rw[zfr T.few e0,zfr T.few e0,zgG]
theorem zj6(T:Txt w K mg fns cls Pr globs gds exs exA addr fdOf psOf)(e0:Pr[fi]?=some B)(e:zae Pr m (xof fi) rs h=some p):(zao B.np B.dfl rs).length=B.np:=by
 cases m with
 |zero=>cases e
 |succ m=>
  rw[zfr T.few e0] at e
  split at e
  ·assumption
  ·cases e
theorem zke(T:Txt w K mg fns cls Pr globs gds exs exA addr fdOf psOf)(bt:BtAt mg base)(Dd:zdR K fns cls Pr globs gds exs fi x qual st f fd N ps B)
  (ih:∀g B,Pr[g]?=some B->FnOk P w K mg base CX0 (2*m+1) (addr g) (fdOf g) (psOf g) (spF K (psOf g).length (zae Pr m g)))
  (ihx:∀g B,Pr[g]?=some B->FnOk P w K mg base (CXk P w) (2*m+1) (addr g) (fdOf g) (psOf g) (spX K (cvOf exA) (psOf g).length (zae Pr m (xof g))))
  {CX:CXT} {cdv:Value} (hcd:B.lam=true->∃c,cdv=.ref c/\za6 K=some c) {A:Around} {outer:List Yv} {s:Shared} {H:Hp} {E:XK} (hr:Room (2*m+2) (A.deeper (PyProof.Rows.envOfC qual (zaf st) s.heap.objs.size f cdv))):
  Good (zae Pr m) (2*m+1) ⟨N,(zaf st).names,fns,globs,true,cls,gds,exs,B.lam⟩ (cxOf CX P w K mg base N qual (zaf st) f cdv A outer s H E).nox/\Excs (zae Pr m) (2*m+1) ⟨N,(zaf st).names,fns,globs,true,cls,gds,exs,B.lam⟩ (cxOf CX P w K mg base N qual (zaf st) f cdv A outer s H E) (cvOf exA):=by
 have Ex:Excs (zae Pr m) (2*m+1) ⟨N,(zaf st).names,fns,globs,true,cls,gds,exs,B.lam⟩ (cxOf CX P w K mg base N qual (zaf st) f cdv A outer s H E) (cvOf exA):=by
  refine⟨λc x e hn=>?_,λc x e hn=>?_,λg y e=>?_⟩
  ·obtain ⟨Ca,e1,e2,e3,e4,e5,fI,fd,i1,i2,i3,i4⟩:=T.excN c x e hn
   exact⟨Ca,e1,λk=>by show some (ZD (exA.getD (Int.toNat (c:Int)) 0))=_;rw[YV,e2],e3,⟨fI,fd,i1,i2,(i3 _ _).mono (by omega),i4⟩,e4,e5⟩
  ·obtain ⟨Ca,e1,e2,e3,e4,e5⟩:=T.excs c x e hn
   exact⟨Ca,e1,by show some (ZD (exA.getD (Int.toNat (c:Int)) 0))=_;rw[YV,e2],e3,e4,e5⟩
  ·obtain ⟨e1,B',e2,e3,e4⟩:=T.funs g y e
   obtain⟨x',q',st',N',d'⟩:=T.defs g B' e2;obtain⟨dvs,b1,b2⟩:=d'.bi;rw[<-e3,<-e4]
   have:=ihx g B' e2
   rw[<-d'.np] at this;exact⟨⟨addr g,fdOf g,psOf g,dvs,this,e1,d'.fn.kp,b1,b2⟩,ziW T d'.at',λrs h p e=>zj6 T d'.at' e,λrs h r h' _=>⟨_,rfl⟩⟩
 refine⟨⟨rfl,rfl,hr.mono (by omega),hr,Dd.sc.kind,rfl,Dd.sc.nd,rfl,λ_ _=>rfl,λg y e=>?_,T.blt,T.glob,λi hi=>?_,λi hi p hp=>?_,T.attrs,λ_=>⟨rfl,rfl,rfl⟩,⟨cvOf exA,λc x e hn=>let ⟨Ca,a1,a2,a3,⟨fI,fd,b1,b2,b3,b4⟩,a5⟩:=Ex.num c x e hn;⟨Ca,a1,a2,a3,⟨fI,fd,b1,b2,b3,b4⟩,a5⟩,Ex.cls,λg y e=>⟨(Ex.funs g y e).ex,(Ex.funs g y e).fill,(Ex.funs g y e).len,(Ex.funs g y e).cls⟩⟩,λhl=>?_⟩,Ex⟩
 ·obtain ⟨e1,B',e2,e3,e4⟩:=T.funs g y e
  obtain⟨x',q',st',N',d'⟩:=T.defs g B' e2;obtain⟨dvs,b1,b2⟩:=d'.bi;rw[<-e3,<-e4]
  have:=ih g B' e2
  rw[<-d'.np] at this;exact⟨⟨addr g,fdOf g,psOf g,dvs,this,e1,d'.fn.kp,b1,b2⟩,ziv d'.at',λrs h p e=>ziH d'.at' e⟩
 ·obtain ⟨C,B',e1,e2,e3,e4,e5,e6⟩:=T.makes i hi
  obtain⟨x',q',st',N',d'⟩:=T.defs _ B' e5;obtain⟨dvs,b1,b2⟩:=d'.bi
  have:=ih _ B' e5
  rw[<-d'.np] at this;obtain⟨ds,c1,c2⟩:=b2 0 (Y3 _)
  have hd:ds=[]:=by
   have hv:dvs=[]:=by
    have:=b1 (λ_=>False) (λ_=>none)
    rw[e6] at this
    simpa[RepDs] using this
   rw[hv] at c2;cases c2;rfl
  subst hd;exact⟨B'.np,⟨C,addr i.init,fdOf i.init,psOf i.init,e1,e2,e3,e4,this,c1⟩,λrs h p e=>zeB d'.at' e6 e⟩
 ·obtain ⟨C,B',e2,e3,e4,e5,e6⟩:=T.meths i hi p hp
  obtain⟨x',q',st',N',d'⟩:=T.defs _ B' e5;obtain⟨dvs,b1,b2⟩:=d'.bi
  have:=ih _ B' e5
  rw[<-d'.np] at this;obtain⟨ds,c1,c2⟩:=b2 0 (Y3 _)
  have hd:ds=[]:=by
   have hv:dvs=[]:=by
    have:=b1 (λ_=>False) (λ_=>none)
    rw[e6] at this
    simpa[RepDs] using this
   rw[hv] at c2;cases c2;rfl
  subst hd;exact⟨B'.np,⟨C,addr p.2,fdOf p.2,psOf p.2,e2,e3,e4,this,c1⟩,λrs h p e=>zeB d'.at' e6 e⟩
 ·obtain ⟨c,h1,h2⟩:=hcd hl
  refine⟨⟨c,h1,h2⟩,?_,bt⟩
  have:=Dd.lamq hl
  subst this;show((("law":Str)++(".<locals>.":Str))++("<lambda>":Str))=lamQ
  decide +kernel
theorem znk(Dd:zdR K fns cls Pr globs gds exs fi x qual st f fd N ps B){μ:List Addr}{h0:Sto}{H:Hp}{rs:List R}{vs:List V}(qr:zaL K μ h0 H rs vs)(hv0:vs.length=ps.length)(hl0:rs.length=B.np):RepE K μ h0 H (rs.map some++ZN (B.ns-B.np) none) (L2.start N vs):=by
 have hpl:ps.length<=N.length:=by have:=congrArg Ww Dd.sc.pre;rw[Ze] at this;omega
 have re:RepE K μ h0 H (rs.map some++ZN (B.ns-B.np) none) (L2.start N vs):=by
  have hv:=qr.length;have h1:=Dd.np;have h2:=Dd.ns;refine⟨?_,λi r e=>?_⟩
  ·unfold L2.start
   simp;omega
  ·by_cases hi:i<rs.length
   ·rw [ZF (by simpa using hi)] at e
    obtain⟨v,e1,z⟩:=qr.env i r e;refine⟨v,?_,z⟩;unfold L2.start
    rw[ZF (by simp;omega)]
    exact e1
   ·rw [YZ (by simpa using hi),List.getElem?_replicate] at e
    split at e<;>cases e
 exact re
theorem zhR(T:Txt w K mg fns cls Pr globs gds exs exA addr fdOf psOf){dV kV doc pm cdv ct oc:Value}{an od:Option Addr}{osl:Array (Option Value)}(Dd:zdR K fns cls Pr globs gds exs fi x qual st (addr fi) fd N ps B)(lk:K.lookup (addr fi)=some ⟨oc,od,.func (Ya x qual (zbk st) (zau st) (zaf st) dV kV doc pm an cdv ct),osl⟩)(hcd:Xm K cdv qual=true)(hl:B.lam=true):∃c,cdv=.ref c/\za6 K=some c:=by
 have h1:=T.lam fi B Dd.at' hl
 cases cdv with|ref c=>refine⟨c,rfl,?_⟩;unfold za6;rw[h1];simp only[lk]|_=>exact noT hcd
theorem zpy(T:Txt w K mg fns cls Pr globs gds exs exA addr fdOf psOf)(bt:BtAt mg base)(Dd:zdR K fns cls Pr globs gds exs fi x qual st (addr fi) fd N ps B)
  (ih:∀g B,Pr[g]?=some B->FnOk P w K mg base CX0 (2*m+1) (addr g) (fdOf g) (psOf g) (spF K (psOf g).length (zae Pr m g)))
  (ihx:∀g B,Pr[g]?=some B->FnOk P w K mg base (CXk P w) (2*m+1) (addr g) (fdOf g) (psOf g) (spX K (cvOf exA) (psOf g).length (zae Pr m (xof g)))):FnOk P w K mg base CX0 (2*m+3) (addr fi) fd ps (spF K ps.length (zae Pr (m+1) fi)):=by
 obtain⟨oc,od,dV,kV,doc,pm,an,cdv,ct,osl,rfl,lk,hcd⟩:=Dd.fn.ex;refine znv (k:=2*m+2) lk hcd Dd.sc (λvs H Q E h=>h.1) λA outer s H vs Q E hr h=>?_
 ·have G:=(zke (CX:=CX0) (cdv:=cdv) (outer:=outer) (s:=s) (H:=H) (E:=E) T bt Dd ih ihx (zhR T Dd lk hcd) hr).1
  refine⟨_,PSs.nox (Dd.chk.elim (λz=>okSs B.body _ (zau st) _ z G) (zpn G)),?_⟩;obtain⟨hv0,μ,h0,rs,R0,qr,r,h',e,k⟩:=h
  have hl0:rs.length=B.np:=by rw[qr.length,hv0,Dd.np]
  have ef:zao B.np B.dfl rs=rs:=zdp (by omega);rw[zaJ] at e;simp only[Dd.at'] at e;rw[ef,if_pos hl0] at e;have re:=znk Dd qr hv0 hl0
  cases eb:IT.exs (zae Pr m) B.body (rs.map some++ZN (B.ns-B.np) none) h0 with
  |none=>rw[eb] at e;cases e
  | some p=>
   obtain⟨⟨fl,env'⟩,h1⟩:=p;rw[eb] at e;refine⟨μ,h0,_,R0,re,fl,env',h1,eb,λμ' H' σ' st1 R1 _=>?_⟩
   cases fl with|ret r1=>intro v qv;obtain⟨μ2,st2,R2,q2⟩:=zih st1 R0 R1 qv e;exact k μ2 H' v st2 R2 q2|nx=>obtain⟨μ2,st2,R2,q2⟩:=zih (v:=.non) st1 R0 R1 (by simp only[RepR,RepD]) e;exact k μ2 H' .non st2 R2 q2|brk=>cases e|cnt=>cases e
theorem zoP{outer:List Yv}{H:Hp}{s s':Shared}{E E':XK}{e:Value}(h:CXk P w outer H s E e s')(i:∀C od H,E C od H->E' C od H):CXk P w outer H s E' e s':=by obtain⟨a,C,od,H',e1,f,d,q⟩:=h;exact⟨a,C,od,H',e1,f,d,i C od H' q⟩
theorem ziV{Γ:Calls}{e:IT.E}{c j o m:Nat}(env:IT.Env)(h:Sto)(p:R×Sto):exXs Γ [.tryb e c j o m,.ret (.con (.bl false))] env h≠some p:=by
 intro z
 have:exXs Γ [.tryb e c j o m,.ret (.con (.bl false))] env h=none:=by
  show (match ex Γ (.tryb e c j o m) env h with
   |some ((fl,σ1),h1)=>match fl with
    |.nx=>exXs Γ [.ret (.con (.bl false))] σ1 h1|_=>none
   |none=>exX Γ (.tryb e c j o m) env h)=none
  cases ex Γ (.tryb e c j o m) env h with
  |none=>rfl
  |some q=>
   obtain⟨⟨fl,σ1⟩,h1⟩:=q
   cases fl<;>rfl
 rw[this] at z;cases z
theorem zo6(T:Txt w K mg fns cls Pr globs gds exs exA addr fdOf psOf)(bt:BtAt mg base)(Dd:zdR K fns cls Pr globs gds exs fi x qual st (addr fi) fd N ps B)
  (ih:∀g B,Pr[g]?=some B->FnOk P w K mg base CX0 (2*m+1) (addr g) (fdOf g) (psOf g) (spF K (psOf g).length (zae Pr m g)))
  (ihx:∀g B,Pr[g]?=some B->FnOk P w K mg base (CXk P w) (2*m+1) (addr g) (fdOf g) (psOf g) (spX K (cvOf exA) (psOf g).length (zae Pr m (xof g)))):FnOk P w K mg base (CXk P w) (2*m+3) (addr fi) fd ps (spX K (cvOf exA) ps.length (zae Pr (m+1) (xof fi))):=by
 obtain⟨oc,od,dV,kV,doc,pm,an,cdv,ct,osl,rfl,lk,hcd⟩:=Dd.fn.ex;refine znv (k:=2*m+2) lk hcd Dd.sc (λvs H Q E h=>h.1) λA outer s H vs Q E hr h=>?_;obtain⟨G,Ex⟩:=zke (CX:=CXk P w) (cdv:=cdv) (outer:=outer) (s:=s) (H:=H) (E:=E) T bt Dd ih ihx (zhR T Dd lk hcd) hr;have dc:zd2 (cxOf (CXk P w) P w K mg base N qual (zaf st) (addr fi) cdv A outer s H E):=⟨rfl,rfl,rfl⟩;have wE:∀C od H,wX (cvOf exA) (λr H'=>∀C od,cvOf exA r=some C->OdOk r od H'->E C od H') C od H->E C od H:=λC od H ⟨r,e1,o,q⟩=>q C od e1 o
 have Th:Thr (cxOf (CXk P w) P w K mg base N qual (zaf st) (addr fi) cdv A outer s H E) (cvOf exA) (λr H'=>∀C od,cvOf exA r=some C->OdOk r od H'->E C od H'):=by
  refine⟨U3.leaving,λpins σ H1 s1 e s' I c=>?_,λpins σ H1 s1 e t dx C I he ne n0 q=>?_,λpins σ H1 s1 h' a C vs I m q=>?_⟩
  ·exact ZC (zmW dc I c) (λ_ s'' z=>zoP z wE) λ_ _ z=>z
  ·exact zjZ dc I he ne n0 (wE _ _ _ q)
  ·exact zmJ dc I m (wE _ _ _ q)
 have hx:XSs (cxOf (CXk P w) P w K mg base N qual (zaf st) (addr fi) cdv A outer s H E) (λr H'=>∀C od,cvOf exA r=some C->OdOk r od H'->E C od H') (zau st) (exXs (zae Pr m) B.body):=by
  rcases Dd.chk with z | z
  ·exact okXs B.body _ (zau st) _ z G Ex Th
  ·obtain ⟨e,c,j,o,m',ce,cx,nn,oo,mm,z1,z2,z3,y,u,_,hB,_⟩:=z
   rw[hB];intro pins s σ H I ⟨_,_,_,_,_,_,_,e,_⟩;exact absurd e (ziV _ _ _)
 refine⟨λD σ H=>RX K (exXs (zae Pr m) B.body) (λr H'=>∀C od,cvOf exA r=some C->OdOk r od H'->E C od H') σ H,λpins s σ H D I q=>ZC (hx pins s σ H I q) (λ_ _ z=>z.elim) λ_ _ z=>z,?_⟩;obtain⟨hv0,μ,h0,rs,r,h',C,R0,qr,e,hC,k⟩:=h
 have hl0:rs.length=B.np:=by rw[qr.length,hv0,Dd.np]
 have ef:zao B.np B.dfl rs=rs:=zdp (by omega);rw[zfr T.few Dd.at',ef,if_pos hl0] at e;have re:=znk Dd qr hv0 hl0
 cases eb:exXs (zae Pr m) B.body (rs.map some++ZN (B.ns-B.np) none) h0 with
 |none=>rw[eb] at e;cases e
 | some p=>
  obtain⟨r1,h1⟩:=p;rw[eb] at e;simp only at e;refine⟨μ,h0,_,R0,re,r1,h1,eb,λμ1 H1 st1 R1=>?_⟩;unfold finX at e
  split at e
  ·rename_i c
   obtain⟨μ2,st2,R2,q2⟩:=zih (v:=.int c) st1 R0 R1 (by simp only[RepR,RepD]) e
   have er:r=.d (.int c):=by
    unfold fin at e
    split at e
    ·cases e;rfl
    ·split at e
     ·cases e;rfl
     ·cases e
   subst er;intro C' od e2 o2;rw[hC] at e2;cases e2;exact k μ2 H1 od st2 R2 o2
  ·rename_i c kk
   cases ef:fin h0 B.all B.keep (.d (.int c)) h1 with|none=>rw[ef] at e;cases e|some pr=>obtain⟨r2,h2⟩:=pr;rw[ef] at e;simp only[Z3,ZO] at e;obtain⟨rfl,rfl⟩:=e;obtain⟨μ2,st2,R2,q2⟩:=zih (v:=.int c) st1 R0 R1 (by simp only[RepR,RepD]) ef;intro C' od e2 o2;rw[hC] at e2;cases e2;exact k μ2 H1 od st2 R2 o2
  ·cases e
theorem ziY:FnOk P w K mg base (CXk P w) 1 f fd ps (spX K cv np (zae Pr 0 fi)):=by
 refine⟨λvs H Q E h=>?_,λA outer s H args us vs Q E hr e0 hb r h=>?_⟩
 ·obtain ⟨_,μ,h0,rs,r,h',C,R0,qr,e,_⟩:=h
  cases e
 ·obtain ⟨_,μ,h0,rs,r,h',C,R0,qr,e,_⟩:=h
  cases e
theorem zjp:FnOk P w K mg base CX0 1 f fd ps (spF K np (zae Pr 0 fi)):=by
 refine⟨λvs H Q E h=>?_,λA outer s H args us vs Q E hr e0 hb r h=>?_⟩
 ·obtain ⟨_,μ,h0,rs,R0,qr,r,h',e,k⟩:=h
  cases e
 ·obtain ⟨_,μ,h0,rs,R0,qr,r,h',e,k⟩:=h
  cases e
theorem zfd(T:Txt w K mg fns cls Pr globs gds exs exA addr fdOf psOf)(bt:BtAt mg base):∀m fi B,Pr[fi]?=some B->FnOk P w K mg base CX0 (2*m+1) (addr fi) (fdOf fi) (psOf fi) (spF K (psOf fi).length (zae Pr m fi))/\FnOk P w K mg base (CXk P w) (2*m+1) (addr fi) (fdOf fi) (psOf fi) (spX K (cvOf exA) (psOf fi).length (zae Pr m (xof fi)))
 |0,fi,B,e=>⟨zjp,ziY⟩
 |m+1,fi,B,e=>by obtain⟨x,q,st,N,d⟩:=T.defs fi B e;have a:=λg B' e'=>(zfd T bt m g B' e').1;have b:=λg B' e'=>(zfd T bt m g B' e').2;exact⟨zpy T bt d a b,zo6 T bt d a b⟩
theorem zor(T:Txt w K mg fns cls Pr globs gds exs exA addr fdOf psOf)(bt:BtAt mg base)(m fi:Nat)(B:F)(e:Pr[fi]?=some B):FnOk P w K mg base CX0 (2*m+1) (addr fi) (fdOf fi) (psOf fi) (spF K (psOf fi).length (zae Pr m fi)):=(zfd T bt m fi B e).1
end
theorem zia:∀ns:List Int,RepDs K A H (ns.map D.int) (ns.map V.int)| []=>.nil|n::r=>.cons (by simp only[RepD]) (zia r)
theorem us0{P:List Value->Prop}(h:P []):∀us:List Value,us.length=0->P us:=λus hl=>by
 cases us with|nil=>exact h|cons=>cases hl
theorem usS{P:List Value->Prop}{n:Nat}(h:∀a,∀us:List Value,us.length=n->P (a::us)):∀us:List Value,us.length=n+1->P us:=λus hl=>by
 cases us with|nil=>cases hl|cons a r=>exact h a r (Nat.succ.inj hl)
theorem us1{P:List Value->Prop}(h:∀a0,P [a0]):∀us:List Value,us.length=1->P us:=usS λa=>us0 (h a)
theorem us2{P:List Value->Prop}(h:∀a0 a1,P [a0,a1]):∀us:List Value,us.length=2->P us:=usS λa=>us1 (h a)
theorem us3{P:List Value->Prop}(h:∀a0 a1 a2,P [a0,a1,a2]):∀us:List Value,us.length=3->P us:=usS λa=>us2 (h a)
theorem us4{P:List Value->Prop}(h:∀a0 a1 a2 a3,P [a0,a1,a2,a3]):∀us:List Value,us.length=4->P us:=usS λa=>us3 (h a)
end IT
namespace IT
open PySem PySem.Spec L2 PyProof.Rows
structure Sta(K:Z7)(Pt a:Addr)(oa:Obj)(H:Hp):Prop where
 tab:H Pt=some (.tbl #[])
 oth:∀b,b≠Pt->H b=none\/b=a/\K.lookup a=none/\∃xs,H b=some (.frz oa (.lst xs))
section
variable {P:ZB}{w:World}{K:Z7}{mg mb:Str->Option Value}{k:Nat}{fa a Pt c:Addr}{fd:FuncData}{x:Str}{sp:Sp}{s₁:Shared}{vs:List Value}{ns:List Int}{H:Hp}
theorem Sta.non(S:Sta K Pt a {cls:=.type "list",data:=.seq vs.toArray} H)(hP:s₁.heap.get? Pt=some (XJ #[]))(ha:s₁.heap.get? a=some {cls:=.type "list",data:=.seq vs.toArray}){b:Addr}{o:Obj}{es:Array DictEntry}{ep:Nat}(e:s₁.heap.get? b=some o)(d:o.data=.dict es ep):H b=none:=by
 have n1:b≠Pt:=λz=>by
  subst z
  cases hP.symm.trans e
  cases d
 rcases S.oth b n1 with z|⟨z,_⟩
 ·exact z
 ·subst z
  cases ha.symm.trans e
  cases d
theorem zrf(S:Sta K Pt a {cls:=.type "list",data:=.seq vs.toArray} H)(ok:HOk P w H s₁.heap)(KX:K.In s₁.heap)(hns:s₁.heap.Ns mainGlobals mg)(hb:s₁.heap.Ns VI mb)(hbb:∀x:Str,x ≠ "__name__"->mb x=XD x)(hlim:s₁.heap.NoLimit)(hg:s₁.gens=#[])
  (ha:s₁.heap.get? a=some {cls:=.type "list",data:=.seq vs.toArray}) (hP:s₁.heap.get? Pt=some (XJ #[])) (hKP:K.lookup Pt=none) (hcd:Yf K c Pt=true) (hr:Room k UP) (hbm:BtAt mg s₁.heap)
  (F:∀base:Heap,K.In base->base.Ns mainGlobals mg->BtAt mg base->FnOk P w K mg base CX0 k fa fd [x] sp) (hbind:∀(s:Shared) (u:Value),Uv s fd ⟨[u],[]⟩ [(x,u)])
  (hsp:sp [.ref a] H (λv _=>v=.bl true) λ_ _ _=>False):
  Xs (model P w) UP (.call (.ref fa) ⟨[.ref a],[]⟩) (λr s'=>r=.ok (.ret (.bool true))/\OldK s₁.heap s'.heap/\s'.os=s₁.os/\Vl s'.gens) s₁:=by
 have nsK:∀{b:Addr} {m:Str->Option Value},s₁.heap.Ns b m->(hidT s₁.heap H).Ns b m:=λ{b m} n=>by obtain⟨o,es,ep,e,d,r⟩:=n;exact⟨o,es,ep,zeT e (S.non hP ha e d),d,r⟩
 have inK:K.In (hidT s₁.heap H):=λb o e=>zeT (KX b o e) (by
  rcases S.oth b (λz=>by rw[z,hKP] at e;cases e) with z|⟨z,n,_⟩
  ·exact z
  ·rw[z,n] at e;cases e)
 have nS:Pt≠cStatics:=λz=>by obtain⟨_,⟨o,es,ep,e,d,_⟩,_⟩:=hlim;rw[<-z,hP] at e;cases e;cases d
 have bt:BtAt mg (hidT s₁.heap H):=by
  obtain⟨bm,o,e1,e2,e3,e4,e5,e6⟩:=hbm;refine⟨bm,o,e1,e2,zeT e3 ?_,e4,e5,e6⟩
  rcases S.oth bm (λz=>by rw[z,hP] at e3;cases e3;cases e6) with z|⟨z,_⟩
  ·exact z
  ·rw [z,ha] at e3
   cases e3;cases e6
 have no:∀b:Addr,b∉([]:List Addr):=λb z=>by cases z
 have e0:Env0 P w K mg (hidT s₁.heap H) UP [] s₁ H:=by refine⟨rfl,⟨inK,nsK hns,⟨mb,nsK hb,hbb⟩,?_⟩,λb o e=>zn7 e,Nat.le_of_eq (zkP _ _),trivial,λb z=>(no b z).elim,ok,.of_eq hg⟩;obtain⟨mc,h1,h2⟩:=hlim;exact⟨mc,nsK h1,h2⟩
 refine XC ((F _ inK (nsK hns) bt).run UP [] s₁ H ⟨[.ref a],[]⟩ [.ref a] [.ref a] _ _ hr e0 (hbind s₁ (.ref a)) (.cons rfl .nil) hsp) λr s' h=>?_
 rcases r with _ | fl
 ·exact h.elim
 cases fl with
 | ret u=>
  obtain⟨v,H',os,bare,un,hok',r',q⟩:=h
  cases (show v=.bl true from q)
  cases (show u=WC true from r')
  have kept:Heap.ExtBut Pt s₁.heap s'.heap:=λb o n e=>by
   rcases S.oth b n with z|⟨_,_,xs,z⟩
   ·exact un.keep b o e z (no b) (no b)
   ·have e1:=(ok b _ z).1
    cases e.symm.trans e1
    exact(hok' b _ (un.frzs b _ _ z)).1
  obtain⟨more,z⟩:=un.tbls Pt _ S.tab;have hP':s'.heap.get? Pt=some (XJ (#[]++more)):=hok' Pt _ z;have C:=PySem.W.codeHd_of_K KX hcd
  have C':PySem.W.CodeHd s'.heap c Pt:=by obtain⟨o,vs',file,tf,fl,tg,inF,tx,tt,e,r⟩:=C;exact⟨o,vs',file,tf,fl,tg,inF,tx,tt,kept _ _ r.2.2.2.2.2.2.2.2 e,r⟩
  exact⟨rfl,(OldK.refl _).step_table (C.tab hP) (C.tab hP) (C'.tab hP') kept nS,os,bare⟩
 |next=>exact h.elim|brk=>exact h.elim|cont=>exact h.elim
def staH(K:Z7)(Pt a:Addr)(vs:List Value)(ns:List Int):Hp:=λb=>if b=Pt then some (.tbl #[]) else if b=a/\K.lookup a=none then some (.frz {cls:=.type "list",data:=.seq vs.toArray} (.lst (ns.map V.int))) else none
theorem zoY:Sta K Pt a {cls:=.type "list",data:=.seq vs.toArray} (staH K Pt a vs ns):=by
 refine⟨if_pos rfl,λb n=>?_⟩;unfold staH;rw[if_neg n]
 by_cases z:b=a/\K.lookup a=none
 ·rw[if_pos z];exact .inr ⟨z.1,z.2,_,rfl⟩
 ·rw[if_neg z];exact .inl rfl
theorem zkQ(KX:K.In s₁.heap)(hns:s₁.heap.Ns mainGlobals mg)(hb:s₁.heap.Ns VI mb)(hbb:∀x:Str,x ≠ "__name__"->mb x=XD x)(hlim:s₁.heap.NoLimit)(hg:s₁.gens=#[])
  (ha:s₁.heap.get? a=some {cls:=.type "list",data:=.seq vs.toArray}) (hi:IntsAre vs ns) (hl:ns.length<=sizeLine) (hP:s₁.heap.get? Pt=some (XJ #[])) (hKP:K.lookup Pt=none) (hcd:Yf K c Pt=true) (hr:Room k UP) (hbm:BtAt mg s₁.heap)
  (F:∀base:Heap,K.In base->base.Ns mainGlobals mg->BtAt mg base->FnOk P w K mg base CX0 k fa fd [x] sp) (hbind:∀(s:Shared) (u:Value),Uv s fd ⟨[u],[]⟩ [(x,u)])
  (hsp:∀H:Hp,H Pt=some (.tbl #[])->SqL K H a (ns.map V.int)->sp [.ref a] H (λv _=>v=.bl true) λ_ _ _=>False):
  Xs (model P w) UP (.call (.ref fa) ⟨[.ref a],[]⟩) (λr s'=>r=.ok (.ret (.bool true))/\OldK s₁.heap s'.heap/\s'.os=s₁.os/\Vl s'.gens) s₁:=by
 have S:Sta K Pt a {cls:=.type "list",data:=.seq vs.toArray} (staH K Pt a vs ns):=zoY;have rv:=zfF hi;have lv:=hi.length
 have nP:a≠Pt:=λz=>by rw[z,hP] at ha;cases ha
 refine zrf S (λb u z=>?_) KX hns hb hbb hlim hg ha hP hKP hcd hr hbm F hbind (hsp _ S.tab ?_)
 ·unfold staH at z
  by_cases e:b=Pt
  ·rw [if_pos e] at z
   cases z;exact e▸hP
  ·rw [if_neg e] at z
   by_cases e2:b=a/\K.lookup a=none
   ·rw [if_pos e2] at z
    cases z;rw[e2.1]
    exact⟨ha,by rw[ZR];exact hl,vs,_,rv,ha⟩
   ·rw [if_neg e2] at z
    cases z
 ·cases hk:K.lookup a with
  |none=>exact .inl (.inr ⟨{cls:=.type "list",data:=.seq vs.toArray},by unfold staH;rw[if_neg nP,if_pos ⟨rfl,hk⟩]⟩)
  |some o=>
   have e:=KX a o hk;rw[ha] at e;cases e
   exact .inr ⟨_,vs.toArray,_,hk,rfl,rfl,rfl,by rw[ZV,lv];exact hl,by simpa using rv⟩
theorem zi4{ns:List Int}{E:XK}{m:List R->M R}(hT:H Pt=some (.tbl #[]))(hc:za6 K=some c)(hcd:Yf K c Pt=true)(hS:SqL K H a (ns.map V.int))(e:m [.d (.lst (ns.map .int))] [.tab]=some (.d (.bl true),[.tab])):spF K 1 m [.ref a] H (λv _=>v=.bl true) E:=by
 have nl:∀b,Live [Pt] [.tab] b->b=Pt:=by
  rintro b ⟨i,o,e1,e2,e3⟩
  cases i with|zero=>cases e1;rfl|succ i=>simp at e1
 have R0:Rep K [Pt] [.tab] H:=by
  refine⟨rfl,by simp,λi b o e1 e2=>?_⟩
  cases i with|zero=>cases e1;cases e2;exact⟨#[],hT,⟨trivial,λp d e=>by cases e⟩,c,hc,hcd⟩|succ i=>simp at e1
 refine⟨rfl,[Pt],[.tab],[.d (.lst (ns.map .int))],R0,.cons ?_ .nil,_,_,e,λμ' H' v st R1 q=>?_⟩
 ·simp only[RepR,RepD]
  refine⟨a,ns.map V.int,rfl,?_,zia ns⟩
  rcases hS with z | z
  ·refine .inl ⟨λl=>?_,z⟩
   rw[nl a l] at z
   rcases z with z|⟨_,z⟩<;>cases hT.symm.trans z
  ·exact .inr z
 ·simpa only[RepR,RepD] using q
end
theorem zsb{l:UC}{n k:Nat}{q:ZB}{loose:List Str}{XP:(Str->Option Value)->Heap->Prop}{YP:World->Heap->Prop}{d:DefRec}{K:Params->Z7}{sp:World->Sp}{x:Str}{Pt:Addr}
  (hn:l.most=some n) (hn2:n<=sizeLine) (hdf:d.params.defaults=[]) (hr:Room k UP)
  (hY:∀(w:World) (h:Heap),YP w h->(K w.params).In h/\h.get? Pt=some (XJ #[]))
  (hKP:∀w:World,(K w.params).lookup Pt=none)
  (hcd:∀w:World,∃c,za6 (K w.params)=some c/\Yf (K w.params) c Pt=true)
  (F : ∀(w:World) (mg:Str->Option Value) (fa:Addr) (h:Heap),(K w.params).In h->h.Ns mainGlobals mg->mg d.name=some (.ref fa) →
   ∃ fd:FuncData,(∀(s:Shared) (u:Value),Uv s fd ⟨[u],[]⟩ [(x,u)]) ∧
    ∀base:Heap,(K w.params).In base->base.Ns mainGlobals mg->BtAt mg base->FnOk l.prog w (K w.params) mg base CX0 k fa fd [x] (sp w))
  (hsp:∀(w:World) (H:Hp) (a:Addr) (ns:List Int),ns.length<=n->H Pt=some (.tbl #[])->SqL (K w.params) H a (ns.map V.int)->sp w [.ref a] H (λv _=>v=.bl true) λ_ _ _=>False):
  PySem.W.WalkO q loose XP YP l.row.toRowW d [] (λf vs=>PySem.call f vs):=by
 refine Att.attach_call hn hdf λw s₀ s₁ mg mb fa o pm cd doc a vs ns G Y ho hd hcd' hmg hobj hints hlen hg=>?_;obtain⟨KX,hP⟩:=hY w _ Y;obtain⟨fd,hb,hF⟩:=F w mg fa _ KX G.T.g hmg;obtain⟨c,_,hc⟩:=hcd w;exact zkQ KX G.T.g G.T.b G.T.builtins G.T.nolimit hg hobj hints (Zf hlen hn2) hP (hKP w) hc hr G.T.bmain hF hb λH hT hS=>hsp w H a ns hlen hT hS
end IT
namespace IT
inductive Ok{α:Type}(m:Option (α×Sto))(Q:α->Sto->Prop):Prop where|mk (a:α) (h':Sto) (e:m=some (a,h')) (q:Q a h')
section
variable {α β:Type}{Q:α->Sto->Prop}{R:β->Sto->Prop}{h:Sto}
theorem Ok.mono(k:Ok m Q)(i:∀a h,Q a h->Q' a h):Ok m Q':=by obtain⟨a,h',e,q⟩:=k;exact⟨a,h',e,i a h' q⟩
@[simp] theorem ok_bnd{x:M α}{f:α->M β}:Ok (bnd x f h) R↔Ok (x h) λa h1=>Ok (f a h1) R:=by
 unfold bnd;constructor
 ·rintro⟨b,h',e,q⟩
  cases ex:x h with|none=>rw[ex] at e;cases e|some p=>rw[ex] at e;exact⟨p.1,p.2,rfl,b,h',e,q⟩
 ·rintro⟨a,h1,e,b,h',e',q⟩
  rw[e];exact⟨b,h',e',q⟩
@[simp] theorem ok_some'{a:α}:Ok (some (a,h)) Q↔Q a h:=by
 constructor
 ·rintro⟨b,h',e,q⟩;cases e;exact q
 ·intro q;exact⟨a,h,rfl,q⟩
@[simp] theorem ok_ok{a:α}:Ok (ok a h) Q↔Q a h:=ok_some'
@[simp] theorem ok_none:Ok (none:Option (α×Sto)) Q↔False:=by
 constructor
 ·rintro⟨b,h',e,q⟩;cases e
 ·intro z;exact z.elim
@[simp] theorem ok_opt{o:Option α}:Ok (opt o h) Q↔∃a,o=some a/\Q a h:=by
 unfold opt
 cases o with|none=>simp|some a=>simp
@[simp] theorem ok_rd_d{x:D}{Q:D->Sto->Prop}:Ok (rd (.d x) h) Q↔Q x h:=ok_some'
@[simp] theorem ok_fz_d{x:D}{Q:D->Sto->Prop}:Ok (fz (.d x) h) Q↔Q x h:=ok_some'
end
theorem zl3(I:Nat->Env->Sto->Prop)
  (step:∀i x σ h,xs[i]?=some x->I i σ h->Ok (f x σ h) λp h1=>match p.1 with
   |.ret r=>Q (.ret r,p.2) h1|.brk=>Q (.nx,p.2) h1
   |_=>zaA l h h1=true/\I (i+1) p.2 h1)
  (fin:∀σ h,I xs.length σ h->Q (.nx,σ) h) {σ:Env} {h:Sto} (h0:I 0 σ h):Ok (loop l f xs σ h) Q:=by
 have gen:∀(ys:List Ite) (i:Nat) (σ:Env) (h:Sto),xs.drop i=ys->i<=xs.length->I i σ h->Ok (loop l f ys σ h) Q:=by
  intro ys
  induction ys with
  | nil=>
   intro i σ h e hi hI
   have:i=xs.length:=by
    have:=congrArg Ww e
    simp at this;omega
   subst this;exact⟨_,_,rfl,fin σ h hI⟩
  | cons y ys ih=>
   intro i σ h e hi hI
   have hil:i<xs.length:=by
    have:=congrArg Ww e
    simp at this;omega
   have hy:xs[i]?=some y:=by
    have:=congrArg (λz=>z[0]?) e
    simpa using this
   have hd:xs.drop (i+1)=ys:=by
    have:=congrArg List.tail e
    simpa using this
   obtain⟨⟨fl,σ1⟩,h1,ef,q⟩:=step i y σ h hy hI;simp only[loop,ef]
   cases fl with|ret r=>exact⟨_,_,rfl,q⟩|brk=>exact⟨_,_,rfl,q⟩|nx=>simp only at q⊢;rw[if_pos q.1];exact ih (i+1) σ1 h1 hd (by omega) q.2|cnt=>simp only at q⊢;rw[if_pos q.1];exact ih (i+1) σ1 h1 hd (by omega) q.2
 exact gen xs 0 σ h (by simp) (by omega) h0
theorem zlZ{α:Type}{g:α->Ite}{l:Option Nat}{f:Ite->Env->M (Fl×Env)}{xs:List α}{Q:Fl×Env->Sto->Prop}(I:Nat->Env->Sto->Prop)
  (step:∀i x σ h,xs[i]?=some x->I i σ h->Ok (f (g x) σ h) λp h1=>match p.1 with
   |.ret r=>Q (.ret r,p.2) h1|.brk=>Q (.nx,p.2) h1
   |_=>zaA l h h1=true/\I (i+1) p.2 h1)
  (fin:∀σ h,I xs.length σ h->Q (.nx,σ) h) {σ:Env} {h:Sto} (h0:I 0 σ h):Ok (loop l f (xs.map g) σ h) Q:=by
 refine zl3 I (λi x σ h hx hI=>?_) (λσ h hI=>fin σ h (by simpa using hI)) h0;rw[Zp,YS] at hx;obtain⟨y,hy,rfl⟩:=hx;exact step i y σ h hy hI
theorem zkR{α β:Type}{g:β->Ite}{l:Option Nat}{f:Ite->M (Option α)}{xs:List β}{Q:List α->Sto->Prop}(I:Nat->List α->Sto->Prop)
  (step:∀i x ys h,xs[i]?=some x->I i ys h->Ok (f (g x) h) λo h1=>zaA l h h1=true/\I (i+1) (match o with | some y=>ys++[y] | none=>ys) h1)
  (fin:∀ys h,I xs.length ys h->Q ys h) {h:Sto} (h0:I 0 [] h):Ok (turns l f (xs.map g) h) Q:=by
 have gen:∀(zs:List β) (i:Nat) (ys:List α) (h:Sto),xs.drop i=zs->i<=xs.length->I i ys h->Ok (turns l f (zs.map g) h) λr h1=>Q (ys++r) h1:=by
  intro zs
  induction zs with
  | nil=>
   intro i ys h e hi hI
   have:i=xs.length:=by
    have:=congrArg Ww e
    simp at this;omega
   subst this
   exact⟨_,_,rfl,by show Q (ys++[]) h;rw[Ym];exact fin ys h hI⟩
  | cons y zs ih=>
   intro i ys h e hi hI
   have hil:i<xs.length:=by
    have:=congrArg Ww e
    simp at this;omega
   have hy:xs[i]?=some y:=by
    have:=congrArg (λz=>z[0]?) e
    simpa using this
   have hd:xs.drop (i+1)=zs:=by
    have:=congrArg List.tail e
    simpa using this
   obtain⟨o,h1,ef,st,q⟩:=step i y ys h hy hI;simp only[Zz,turns,ef];rw[if_pos st,ok_bnd];refine(ih (i+1) _ h1 hd (by omega) q).mono λr h2 hq=>?_;rw[ok_ok]
   cases o with|none=>exact hq|some z=>simpa using hq
 have:=gen xs 0 [] h (by simp) (by omega) h0
 simpa using this
theorem zmA{α:Type}{l:Option Nat}{f:Ite->M (Option α)}{xs:List D}{Q:List α->Sto->Prop}(I:Nat->List α->Sto->Prop)
  (step:∀i x ys h,xs[i]?=some x->I i ys h->Ok (f (dI x) h) λo h1=>zaA l h h1=true/\I (i+1) (match o with | some y=>ys++[y] | none=>ys) h1)
  (fin:∀ys h,I xs.length ys h->Q ys h) {h:Sto} (h0:I 0 [] h):Ok (turns l f (xs.map dI) h) Q:=zkR I step fin h0
theorem zet{α β:Type}{d:β->Ite}{l:Option Nat}{f:Ite->M (Option α)}{g:β->Option α}{h:Sto}:∀{xs:List β},(∀x∈xs,f (d x) h=some (g x,h))->zaA l h h=true->turns l f (xs.map d) h=some (xs.filterMap g,h)
 | [],_,_=>rfl
 |x::xs,e,s=>by
  simp only[Zz,turns,e x (by simp),if_pos s];unfold bnd;rw[zet (λy hy=>e y (by simp[hy])) s];simp only[ok,YE]
  cases g x<;>rfl
theorem zqt(Γ:Calls)(i:_)(σ:Env):ev Γ (.var i) σ=(λh=>match σ[i]? with
  |some (some r)=>some (r,h)
  |_=>none):=rfl
theorem zqU(Γ:Calls)(a:_)(b:_)(σ:Env):ev Γ (.and a b) σ=(bnd (ev Γ a σ) λx=>match x with
  |.d (.bl c)=>if c then ev Γ b σ else ok (.d (.bl false))
  |_=>λ_=>none):=rfl
theorem zrL(Γ:Calls)(a:_)(b:_)(σ:Env):ev Γ (.or a b) σ=(bnd (ev Γ a σ) λx=>match x with
  |.d (.bl c)=>if c then ok (.d (.bl true)) else ev Γ b σ
  |_=>λ_=>none):=rfl
theorem zr0(Γ:Calls)(m:_)(o:_)(es:_)(σ:Env):ev Γ (.me m o es) σ=(bnd (ev Γ o σ) λx=>bnd (zed x) λ_=>bnd (evs Γ es σ) λrs=>meth m x rs):=rfl
theorem znF(Γ:Calls)(tg:_)(it:_)(c:_)(el:_)(σ:Env):ev Γ (.lstO tg it c el) σ=(bnd (evI Γ it σ) λw=>bnd (turns w.l (λx=>bnd (zaq tg x (clr tg.slots σ)) λσ'=>bnd (tvs Γ c σ') λt=>if t then bnd (ev Γ el σ') λr=>bnd (zcO r) λd=>ok (some d) else ok none) w.xs) λls=>allocO ls):=rfl
theorem zma(Γ:Calls)(f:_)(σ:Env):ev Γ (.call0 f) σ=(Γ f []):=rfl
theorem zl0(Γ:Calls) (σ:Env):ev Γ .stuck σ=(λ_=>none):=rfl
theorem zov(Γ:Calls)(e:_)(σ:Env):evI Γ (.rng e) σ=(bnd (ev Γ e σ) λr=>rngOf r):=rfl
theorem znS:fzs []=(ok []):=rfl
theorem zlF(r:_)(rs:_):fzs (r::rs)=(bnd (fz r) λd=>bnd (fzs rs) λds=>ok (d::ds)):=rfl
theorem znq:rds []=(ok []):=rfl
theorem zlW(r:_)(rs:_):rds (r::rs)=(bnd (rd r) λd=>bnd (rds rs) λds=>ok (d::ds)):=rfl
theorem znu(Γ:Calls)(o:_)(i:_)(e:_)(σ:Env):ex Γ (.setI o i e) σ=(bnd (ev Γ e σ) λr=>bnd (ev Γ o σ) λx=>bnd (ev Γ i σ) λy=>bnd (fz r) λd=>bnd (rd y) λy=>bnd (zd6 x y d) λ_=>ok (.nx,σ)):=rfl
theorem zmT(Γ:Calls) (σ:Env):ex Γ .stuck σ=(λ_=>none):=rfl
theorem zlr(Γ:Calls)(s:_)(r:_)(σ:Env):exs Γ (s::r) σ=(bnd (ex Γ s σ) λp=>match p.1 with
  |.nx=>exs Γ r p.2
  |_=>ok p):=rfl
theorem zhc:meth .append (.loc l) [r] h=(bnd (fz r) λd h=>match h[l]? with
  |some (.lst xs)=>if decide (xs.length<big) then some (.d .non,h.set l (.lst (xs++[d]))) else none
  |_=>none) h:=rfl
theorem zmF:meth .pop (.loc l) [] h=(λh=>match h[l]? with
  |some (.lst xs)=>match xs[xs.length-1]? with
   |some y=>some (.d y,h.set l (.lst xs.dropLast))|none=>none
  |_=>none) h:=rfl
theorem ziE:meth .clear (.loc l) [] h=(λh=>match h[l]? with
  |some (.lst xs)=>some (.d .non,h.set l (.lst []))
  |_=>none) h:=rfl
theorem zhr:meth .extend (.loc l) [r] h=(bnd (rd r) λd h=>match d with
  |.lst ys=>match h[l]? with
   |some (.lst xs)=>if fit (xs.length+ys.length) then some (.d .non,h.set l (.lst (xs++ys))) else none|_=>none
  |_=>none) h:=rfl
section
variable {Γ:Calls}{σ:Env}{h:Sto}
section
variable {Q:Fl×Env->Sto->Prop}
theorem ziX:Ok (exs Γ (s::r) σ h) Q↔Ok (ex Γ s σ h) λp h1=>match p.1 with | .nx=>Ok (exs Γ r p.2 h1) Q | .ret r=>Q (.ret r,p.2) h1 | .brk=>Q (.brk,p.2) h1 | .cnt=>Q (.cnt,p.2) h1:=by
 rw[zlr,ok_bnd];constructor
 ·intro k
  refine k.mono λp h1 q=>?_;obtain⟨fl,e⟩:=p
  cases fl<;>simpa using q
 ·intro k
  refine k.mono λp h1 q=>?_;obtain⟨fl,e⟩:=p
  cases fl<;>simpa using q
theorem zpV:Ok (ex Γ (.setI o i e) σ h) Q↔Ok (ev Γ e σ h) λr h1=>Ok (ev Γ o σ h1) λx h2=>Ok (ev Γ i σ h2) λy h3=>Ok (fz r h3) λd h4=>Ok (rd y h4) λy h5=>Ok (zd6 x y d h5) λ_ h6=>Q (.nx,σ) h6:=by rw[znu];simp only[ok_bnd,ok_ok]
end
section
variable {Q:Env->Sto->Prop}
theorem zoc:Ok (bindT (.name i) r σ h) Q↔Q (σ.set i (some r)) h:=by rw[bindT];exact ok_ok
theorem zpu:Ok (bindT (.tup ts) r σ h) Q↔Ok (rd r h) λd h1=>∃xs,d=.tup xs/\Ok (bindTs ts xs σ h1) Q:=by
 rw[bindT,ok_bnd]
 constructor<;>intro k<;>refine k.mono λd h1 q=>?_
 ·cases d<;>first | (exact⟨_,rfl,q⟩) | (simp at q)
 ·obtain⟨xs,rfl,q⟩:=q;exact q
theorem zkM:Ok (bindTs [] [] σ h) Q↔Q σ h:=by simp only[bindTs,ok_ok]
theorem ziP:Ok (bindTs (t::ts) (x::xs) σ h) Q↔Ok (bindT t (.d x) σ h) λσ' h1=>Ok (bindTs ts xs σ' h1) Q:=by simp only[bindTs,ok_bnd]
end
theorem w_bI:Ok (zaq tg (.r x) σ h) Q↔Ok (bindT tg x σ h) Q:=by rw[zaq]
theorem zse:Ok (zaq (.tup [a,b]) (.en i x) σ h) Q↔Ok (bindT a (.d (.int i)) σ h) λσ' h1=>Ok (bindT b x σ' h1) Q:=by rw[zaq];simp only[ok_bnd]
section
variable {Q:R->Sto->Prop}
theorem zsa:Ok (ev Γ (.var i) σ h) Q↔∃r,σ[i]?=some (some r)/\Q r h:=by
 rw[zqt]
 cases e:σ[i]? with|none=>simp|some o=>cases o<;>simp
theorem zrD:Ok (ev Γ (.and a b) σ h) Q↔Ok (ev Γ a σ h) λx h1=>∃c,x=.d (.bl c)/\(c=true->Ok (ev Γ b σ h1) Q)/\(c=false->Q (.d (.bl false)) h1):=by
 rw[zqU,ok_bnd]
 constructor<;>intro k<;>refine k.mono λx h1 q=>?_
 ·cases x with
  |loc l=>simp at q
  |d d=>cases d<;>first | (rename_i c;refine⟨c,rfl,?_⟩;cases c<;>simpa using q) | (simp at q)
 ·obtain⟨c,rfl,q⟩:=q;cases c<;>simpa using q
theorem w_or:Ok (ev Γ (.or a b) σ h) Q↔Ok (ev Γ a σ h) λx h1=>∃c,x=.d (.bl c)/\(c=false->Ok (ev Γ b σ h1) Q)/\(c=true->Q (.d (.bl true)) h1):=by
 rw[zrL,ok_bnd]
 constructor<;>intro k<;>refine k.mono λx h1 q=>?_
 ·cases x with
  |loc l=>simp at q
  |d d=>cases d<;>first | (rename_i c;refine⟨c,rfl,?_⟩;cases c<;>simpa using q) | (simp at q)
 ·obtain⟨c,rfl,q⟩:=q;cases c<;>simpa using q
theorem w_me:Ok (ev Γ (.me m o es) σ h) Q↔Ok (ev Γ o σ h) λx h1=>Ok (zed x h1) λ_ h2=>Ok (evs Γ es σ h2) λrs h3=>Ok (meth m x rs h3) Q:=by rw[zr0];simp only[ok_bnd]
end
theorem zjG:Ok (fzs [] h) Q↔Q [] h:=by rw[znS];exact ok_ok
theorem ziK:Ok (fzs (r::rs) h) Q↔Ok (fz r h) λd h1=>Ok (fzs rs h1) λds h2=>Q (d::ds) h2:=by rw[zlF];simp only[ok_bnd,ok_ok]
theorem zjj:Ok (rds [] h) Q↔Q [] h:=by rw[znq];exact ok_ok
theorem ziN:Ok (rds (r::rs) h) Q↔Ok (rd r h) λd h1=>Ok (rds rs h1) λds h2=>Q (d::ds) h2:=by rw[zlW];simp only[ok_bnd,ok_ok]
section
variable {Q:Bool->Sto->Prop}
end
section
variable {Q:List D->Sto->Prop}
def zmb(Γ:Calls)(tg:Tg)(c:List T)(el:E)(σ:Env)(x:Ite):M (Option D):=bnd (zaq tg x (clr tg.slots σ)) λσ'=>bnd (tvs Γ c σ') λt=>if t then bnd (ev Γ el σ') λr=>bnd (fz r) λd=>ok (some d) else ok none
end
theorem zoO:Ok (zmb Γ tg c el σ x h) Q↔Ok (zaq tg x (clr tg.slots σ) h) λσ' h1=>Ok (tvs Γ c σ' h1) λt h2=>(t=true->Ok (ev Γ el σ' h2) λr h3=>Ok (fz r h3) λd h4=>Q (some d) h4)/\(t=false->Q none h2):=by
 unfold zmb;simp only[ok_bnd]
 constructor<;>intro k<;>refine k.mono λσ' h1 q=>?_<;>refine q.mono λt h2 q=>?_<;>cases t<;>simpa using q
def zq8(Γ:Calls)(tg:Tg)(c:List T)(el:E)(σ:Env)(x:Ite):M (Option Nat):=bnd (zaq tg x (clr tg.slots σ)) λσ'=>bnd (tvs Γ c σ') λt=>if t then bnd (ev Γ el σ') λr=>bnd (zcO r) λd=>ok (some d) else ok none
theorem zqy:Ok (ev Γ (.lstO tg it c el) σ h) Q↔Ok (evI Γ it σ h) λw h1=>Ok (turns w.l (zq8 Γ tg c el σ) w.xs h1) λls h2=>Q (.loc h2.length) (h2++[.ols ls]):=by rw[znF];simp only[ok_bnd,allocO,ok_some'];rfl
section
variable {Q:Wk->Sto->Prop}
theorem zmn:Ok (wkAny (.d (.tup xs)) h) Q↔Q ⟨xs.map dI,none⟩ h:=by simp only[wkAny,zcH,ok_bnd,ok_some',ok_rd_d,wkOf,items,ok_ok]
theorem zmP:Ok (wkAny (.d (.lst xs)) h) Q↔Q ⟨xs.map dI,none⟩ h:=by simp only[wkAny,zcH,ok_bnd,ok_some',ok_rd_d,wkOf,items,ok_ok]
theorem zl1:Ok (wkAny (.loc l) h) Q↔∃o,h[l]?=some o/\match o with
  |.lst xs=>Q ⟨xs.map dI,some l⟩ h|.fro xs=>Q ⟨xs.map dI,some l⟩ h|.ols ls=>Q ⟨ls.map λl=>.r (.loc l),some l⟩ h|.ins _ _=>False|.fnc _=>False
  |.tab=>False:=by
 simp only[wkAny,zcH,ok_bnd]
 cases e:h[l]? with|none=>simp[rd,e]|some o=>cases o<;>simp[rd,e,Ob.isL,Ob.items,wkOf,items]
theorem zrp:Ok (evI Γ (.rng e) σ h) Q↔Ok (ev Γ e σ h) λr h1=>Ok (rngOf r h1) Q:=by rw[zov];simp only[ok_bnd]
theorem znM:Ok (rngOf (.d (.int n)) h) Q↔(-(2^62)<=n/\n<=16777216)/\Q ⟨(zbT 0 n.toNat).map dI,none⟩ h:=by
 simp only[rngOf]
 by_cases c:-(2^62)<=n/\n<=16777216
 ·rw [if_pos (by rw[Z8];exact⟨decide_eq_true c.1,decide_eq_true c.2⟩),ok_ok]
  exact⟨λq=>⟨c,q⟩,λq=>q.2⟩
 ·rw [if_neg (by rw[Z8];exact λz=>c ⟨of_decide_eq_true z.1,of_decide_eq_true z.2⟩)]
  simp only[ok_none,false_iff];exact λz=>c z.1
end
theorem zl2:Ok (rd (.loc l) h) Q↔∃o,h[l]?=some o/\o.isL=true/\Q (.lst o.items) h:=by
 simp only[rd]
 cases h[l]? with|none=>simp|some o=>cases o<;>simp[Ob.isL]
theorem zl8:Ok (fz (.loc l) h) Q↔∃o,h[l]?=some o/\o.isL=true/\Q (.lst o.items) (h.set l (.fro o.items)):=by
 simp only[fz]
 cases h[l]? with|none=>simp|some o=>cases o<;>simp[Ob.isL]
theorem zn4:Ok (zed (.loc l) h) Q↔∃o,h[l]?=some o/\o.isL=true/\Q () h:=by
 simp only[zed]
 cases h[l]? with|none=>simp|some o=>cases o<;>simp[Ob.isL]
theorem zlU:Ok (ev Γ (.call0 f) σ h) Q↔Ok (Γ f [] h) Q:=by rw[zma]
theorem zmj:Ok (meth .append (.loc l) [r] h) Q↔Ok (fz r h) λd h1=>∃xs,h1[l]?=some (.lst xs)/\xs.length<big/\Q (.d .non) (h1.set l (.lst (xs++[d]))):=by
 rw[zhc,ok_bnd]
 constructor<;>intro k<;>refine k.mono λd h1 q=>?_
 ·cases e:h1[l]? with
  |none=>rw[e] at q;simp at q
  | some o=>
   rw[e] at q
   cases o with
   |fro xs=>simp at q|ins _ _=>simp at q|ols _=>simp at q|fnc _=>simp at q|tab=>simp at q
   |lst xs=>
    simp only at q
    by_cases c:xs.length<big
    ·rw[if_pos (decide_eq_true c)] at q;exact⟨xs,rfl,c,by simpa using q⟩
    ·rw[if_neg (by simpa using c)] at q;simp at q
 ·obtain ⟨xs,e,c,q⟩:=q
  rw[e];simp only;rw[if_pos (decide_eq_true c)]
  simpa using q
theorem zox:Ok (zd6 (.loc l) (.int k) d h) Q↔∃xs,h[l]?=some (.lst xs)/\∃j,ixn xs.length k=some j/\Q () (h.set l (.lst (xs.set j d))):=by
 simp only[zd6]
 cases e:h[l]? with
 |none=>simp
 | some o=>
  cases o with
  |fro xs=>simp|ins _ _=>simp|ols _=>simp|fnc _=>simp|tab=>simp
  |lst xs=>
   simp only[Z3,Ob.lst.injEq,exists_eq_left']
   cases c:ixn xs.length k with|none=>simp|some j=>simp
theorem zsh:Ok (ex Γ .stuck σ h) Q↔False:=by rw[zmT];exact ok_none
theorem zre:Ok (ev Γ .stuck σ h) Q↔False:=by rw[zl0];exact ok_none
theorem zlp:Ok (meth .extend (.loc l) [r] h) Q↔Ok (rd r h) λd h1=>∃ys xs,d=.lst ys/\h1[l]?=some (.lst xs)/\fit (xs.length+ys.length)=true/\Q (.d .non) (h1.set l (.lst (xs++ys))):=by
 rw[zhr,ok_bnd];refine iff_of_eq (congrArg (Ok (rd r h)) (funext λd=>funext λh1=>propext ?_))
 cases d with
 | lst ys=>
  simp only[D.lst.injEq,exists_eq_left']
  cases e:h1[l]? with
  |none=>simp
  | some o=>
   cases o with
   |fro xs=>simp|ins _ _=>simp|ols _=>simp|fnc _=>simp|tab=>simp
   |lst xs=>
    simp only[Z3,Ob.lst.injEq,exists_eq_left',and_assoc]
    cases c:fit (xs.length+ys.length)<;>simp[c]
 |_=>simp
theorem zrW:Ok (meth .pop (.loc l) [] h) Q↔∃xs,h[l]?=some (.lst xs)/\∃y,xs[xs.length-1]?=some y/\Q (.d y) (h.set l (.lst xs.dropLast)):=by
 rw[zmF];dsimp only
 cases e:h[l]? with
 |none=>simp
 | some o=>
  cases o with
  |fro xs=>simp|ins _ _=>simp|ols _=>simp|fnc _=>simp|tab=>simp
  |lst xs=>
   simp only[Z3,Ob.lst.injEq,exists_eq_left']
   cases c:xs[xs.length-1]? with|none=>simp|some y=>simp
theorem znD:Ok (meth .clear (.loc l) [] h) Q↔∃xs,h[l]?=some (.lst xs)/\Q (.d .non) (h.set l (.lst [])):=by
 rw[ziE];dsimp only
 cases e:h[l]? with|none=>simp|some o=>cases o<;>simp
end
class Cont(α:Type) where
 q:α->Sto->Prop
structure Ask{α:Type}(m:Option (α×Sto))[c:Cont α]:Prop where
 ok:Ok m c.q
theorem ask{α:Type}{m:Option (α×Sto)}{Q:α->Sto->Prop}(k:Ok m Q):@Ask α m ⟨Q⟩:=@Ask.mk α m ⟨Q⟩ k
theorem zpL{α:Type}{m:Option (α×Sto)}{Q:α->Sto->Prop}:Ok m Q↔@Ask α m ⟨Q⟩:=⟨λk=>@Ask.mk α m ⟨Q⟩ k,λk=>@Ask.ok α m ⟨Q⟩ k⟩
theorem zoG(c:(zha a||zha b)=true):bop .mul (.int a) (.int b)=some (.int (a*b)):=if_pos c
theorem zi8(c:0<b):bop .mod (.int a) (.int b)=some (.int (a%b)):=if_pos (decide_eq_true c)
theorem zlV(c:-(2^64)<a)(c2:a<2^64):zha a=true:=zdk.mpr ⟨c,c2⟩
theorem zkA{n:Nat}{i:Int}(c:0<=i)(c2:i<n):ixn n i=some i.toNat:=by unfold ixn;rw[if_pos c,if_pos c2]
theorem zrh{α:Type}{xs:List α}{i:Int}{x:α}(c:0<=i)(e:xs[i.toNat]?=some x):at' xs i=some x:=by
 have:=(Z2.mp e).1
 unfold at';rw[zkA c (by omega)];exact e
theorem zoj{xs:List D}{x:D}(c:0<=i)(e:xs[i.toNat]?=some x):idxD (.lst xs) (.int i)=some x:=zrh c e
theorem zhM:∀l:List (List Nat),txts (l.map D.str)=some l| []=>rfl|x::l=>by simp only[Zz,txts,zhM l]
theorem zmu(c:txts xs=some l)(c2:fit (l.map λy=>y.length+z.length).sum=true):tmD .join (.str z) [.lst xs]=some (.str (catS z l)):=by simp only[tmD,items,c,c2,if_true]
theorem zlH(c:y≠[])(c2:fit (x.length+1)=true)(c3:fit (splS y x.length x).length=true):splD (.str x) (.str y)=some ((splS y x.length x).map D.str):=by
 cases y with|nil=>exact absurd rfl c|cons a y=>simp only[splD,List.isEmpty_cons,c2,c3,YW,Bool.or_self];rfl
theorem zlK(c:fit xs.length=true):Ok (wkAny (.d (.str xs)) h) Q↔Q ⟨(xs.map λc=>D.str [c]).map dI,none⟩ h:=by simp only[wkAny,zcH,ok_bnd,ok_some',ok_rd_d,wkOf,items,c,if_true,ok_ok]
theorem zpg{α:Type}{xs:List α}{a:Int}(c:0<=a):cut xs none (some a)=xs.take a.toNat:=by
 unfold cut sIx;simp only[if_neg (show ¬a<0 by omega),XM,Nat.sub_zero]
 rcases Nat.le_total a.toNat xs.length with k | k
 ·rw[Nat.min_eq_left k]
 ·rw[Nat.min_eq_right k,U0,YF k]
theorem zjy(c:0<=i)(c2:i<xs.length):∃x∈xs,idxD (.lst xs) (.int i)=some x:=by
 have hl:i.toNat<xs.length:=by omega
 exact⟨xs[i.toNat],Zn hl,zoj c (Z4 hl)⟩
theorem zas:(h++(x::t))[h.length]?=some x:=by rw[YZ (ZZ _),UM];rfl
theorem zcA:(h++(x::t)).set h.length y=h++(y::t):=by rw[List.set_append_right _ _ (ZZ _),UM];rfl
theorem zh9{h t:Sto}:(h++t).take h.length=h:=by simp
theorem zcu:zaA none h h'=true:=rfl
theorem cutN{α:Type}{xs:List α}{n:Nat}:cut xs none (some (n:Int))=xs.take n:=by rw[zpg (by omega)];rfl
mutual
theorem D.eqb_rfl:∀x:D,x.eqb x=true|.non=>rfl|.bl a=>by simp[D.eqb]|.int a=>by simp[D.eqb]|.str a=>by simp[D.eqb]|.tup a=>by simp only[D.eqb];exact D.eqbs_rfl a|.lst a=>by simp only[D.eqb];exact D.eqbs_rfl a
theorem D.eqbs_rfl:∀x:List D,D.eqbs x x=true| []=>rfl|a::r=>by simp only[D.eqbs,Z8];exact⟨D.eqb_rfl a,D.eqbs_rfl r⟩
end
theorem Ok.eq{α:Type}{m:Option (α×Sto)}{a:α}{h:Sto}(k:Ok m λb h1=>b=a/\h1=h):m=some (a,h):=by obtain⟨b,h1,e,rfl,rfl⟩:=k;exact e
theorem zhf{α β:Type}{d:β->Ite}{l:Option Nat}{f:Ite->M (Option α)}{g:β->Option α}{h:Sto}{xs:List β}{Q:List α->Sto->Prop}(e:∀x∈xs,Ok (f (d x) h) λo h1=>o=g x/\h1=h)(s:zaA l h h=true)(q:Q (xs.filterMap g) h):Ok (turns l f (xs.map d) h) Q:=⟨_,_,zet (λx hx=>(e x hx).eq) s,q⟩
theorem R.same_self:∀x:R,x.same x=true|.d x=>D.same_refl x|.loc l=>by simp[R.same]
theorem zbR:∀fs:List (V7×R),zca fs fs=true| []=>rfl|(f,x)::r=>by simp[zca,R.same_self,zbR r]
theorem zbP:∀kvs:List (D×D),zks kvs kvs=true| []=>rfl|p::r=>by simp[zks,D.same_refl,zbP r]
theorem zdQ(o:Ob)(h:Sto)(o1:Ob)(t:Sto):objs (o::h) (o1::t)=((match o,o1 with
   |.ins c fs,.ins c1 fs1=>c==c1&&zca fs fs1|.ols a,.ols b=>a==b|.fnc a,.fnc b=>a==b|.tab,.tab=>true|.lst _,.lst _=>true|.lst _,.fro _=>true|.fro _,.lst _=>true|.fro _,.fro _=>true
   |_,_=>false)&&objs h t):=rfl
theorem zci:∀{h t:Sto},objs h (h++t)=true
 | [],_=>rfl
 |o::h,t=>by
  rw[XN,zdQ,zci,V5]
  cases o<;>simp[zbR,zbP]
theorem zga{h:Sto}:objs h h=true:=by
 have:=zci (h:=h) (t:=[])
 rwa [Ym] at this
theorem zdH:∀{h t:Sto} {l:Nat} {xs ys:List D},h[l]?=some (.lst xs)->objs h (h.set l (.lst ys)++t)=true
 | [],_,_,_,_,e=>by simp at e|o::h,t,0,xs,ys,e=>by simp at e;subst e;rw[List.set_cons_zero,XN,zdQ,zci,V5]
 |o::h,t,l+1,xs,ys,e=>by
  have:=zdH (h:=h) (t:=t) (l:=l) (xs:=xs) (ys:=ys) (by simpa using e)
  rw[List.set_cons_succ,XN,zdQ,this,V5]
  cases o<;>simp[zbR,zbP]
theorem zmE{h:Sto}(e:h[l]?=some (.lst xs)):objs h (h.set l (.lst ys))=true:=by
 have:=zdH (t:=[]) (ys:=ys) e
 rwa [Ym] at this
theorem zoz{α β:Type}{f:α->β}{xs:List α}{a b:Option Int}:cut (xs.map f) a b=(cut xs a b).map f:=by unfold cut;rw[ZR,List.map_take,List.map_drop]
theorem zey:∀(n:Nat) (lo:Int),(zbT lo n).length=n|0,_=>rfl|n+1,lo=>by simp[zbT,zey n]
theorem zoq{P:List F}{F:IT.F}(e:P[f]?=some F)(er:zao F.np F.dfl rs=rs')(el:rs'.length=F.np)
  (k:Ok (exs (zae P n) F.body (rs'.map some++ZN (F.ns-F.np) none) h) λp h1=>match p.1 with
   |.ret r=>Ok (fin h F.all F.keep r h1) Q|.nx=>Ok (fin h F.all F.keep (.d .non) h1) Q
   |_=>False):Ok (zae P (n+1) f rs h) Q:=by
 obtain⟨⟨fl,σ⟩,h1,ee,q⟩:=k;rw[zaJ];simp only[e,er];rw[if_pos el,ee]
 cases fl with|ret r=>exact q|nx=>exact q|brk=>exact q.elim|cnt=>exact q.elim
theorem zrQ:zao np [] rs=rs:=by
 unfold zao
 split
 ·rfl
 ·simp
theorem zoi{P:List F}{F:IT.F}(e:P[f]?=some F)(ed:F.dfl=[])(el:rs.length=F.np)
  (k:Ok (exs (zae P n) F.body (rs.map some++ZN (F.ns-F.np) none) h) λp h1=>match p.1 with
   |.ret r=>Ok (fin h F.all F.keep r h1) Q|.nx=>Ok (fin h F.all F.keep (.d .non) h1) Q
   |_=>False):Ok (zae P (n+1) f rs h) Q:=zoq e (by rw[ed];exact zrQ) el k
theorem fin_d:Ok (fin h false k (.d x) h1) Q↔objs h h1=true/\Q (.d x) (h1.take h.length):=by
 simp only[fin,Z1,if_false]
 by_cases c:objs h h1=true
 ·rw[if_pos c];simp[fin0,c]
 ·rw[if_neg c];simp[c]
theorem zlM{xs:List D}(q:Q (.loc h.length) (h++[.lst xs])):Ok (fin h false true (.loc h.length) (h++.lst xs::t)) Q:=by simp only[fin,Z1,if_false,zci,if_true,fin0,zas,YO,zh9,ok_some'];exact q
end IT
namespace IT
open PySem (Str)
def wO{α:Type}(o:Option α)(Q:α->Prop):Prop:=match o with|some a=>Q a|none=>False
def wB(t:Bool)(A B:Prop):Prop:=match t with|true=>A|false=>B
def wLs(o:Ob)(Q:List D->Prop):Prop:=match o with|.lst xs=>Q xs|.fro xs=>Q xs|.ins _ _=>False|.ols _=>False|.fnc _=>False|.tab=>False
def wLw(o:Ob)(Q:List D->Prop):Prop:=match o with|.lst xs=>Q xs|.fro _=>False|.ins _ _=>False|.ols _=>False|.fnc _=>False|.tab=>False
def wFn(o:Ob)(Q:Str->Prop):Prop:=match o with|.fnc x=>Q x|.lst _=>False|.fro _=>False|.ins _ _=>False|.ols _=>False|.tab=>False
def wTb(o:Ob)(Q:Prop):Prop:=match o with|.tab=>Q|.fnc _=>False|.lst _=>False|.fro _=>False|.ins _ _=>False|.ols _=>False
def wRd(r:R)(h:Sto)(Q:D->Sto->Prop):Prop:=match r with
 |.d x=>Q x h
 |.loc l=>wO h[l]? λo=>wLs o λxs=>Q (.lst xs) h
def wFz(r:R)(h:Sto)(Q:D->Sto->Prop):Prop:=match r with
 |.d x=>Q x h
 |.loc l=>wO h[l]? λo=>wLs o λxs=>Q (.lst xs) (h.set l (.fro xs))
def wRds:List R->Sto->(List D->Sto->Prop)->Prop
 | [],h,Q=>Q [] h
 |r::rs,h,Q=>wRd r h λd h1=>wRds rs h1 λds h2=>Q (d::ds) h2
def wFzs:List R->Sto->(List D->Sto->Prop)->Prop
 | [],h,Q=>Q [] h
 |r::rs,h,Q=>wFz r h λd h1=>wFzs rs h1 λds h2=>Q (d::ds) h2
def wBl(r:R)(Q:Bool->Prop):Prop:=match r with|.d (.bl b)=>Q b|_=>False
def wInt(r:R)(Q:Int->Prop):Prop:=match r with|.d (.int b)=>Q b|_=>False
def wPl(r:R)(Q:Nat->Prop):Prop:=match r with|.loc l=>Q l|.d _=>False
def wTup(d:D)(Q:List D->Prop):Prop:=match d with|.tup xs=>Q xs|_=>False
mutual
noncomputable def wT:Tg->R->Env->Sto->(Env->Sto->Prop)->Prop
 |.name i,r,σ,h,Q=>Q (σ.set i (some r)) h
 |.tup ts,r,σ,h,Q=>wRd r h λd h1=>wTup d λxs=>wTs ts xs σ h1 Q
noncomputable def wTs:List Tg->List D->Env->Sto->(Env->Sto->Prop)->Prop
 | [],xs,σ,h,Q=>match xs with
  | []=>Q σ h|_::_=>False
 |t::ts,xs,σ,h,Q=>match xs with
  |x::xs=>wT t (.d x) σ h λσ' h1=>wTs ts xs σ' h1 Q
  | []=>False
end
def wBI(tg:Tg)(x:Ite)(σ:Env)(h:Sto)(Q:Env->Sto->Prop):Prop:=match x with
 |.r x=>wT tg x σ h Q
 |.en i x=>match tg with
  |.tup [a,b]=>wT a (.d (.int i)) σ h λσ' h1=>wT b x σ' h1 Q
  |_=>False
def wWk(r:R)(h:Sto)(Q:Wk->Sto->Prop):Prop:=match r with
 |.d (.tup xs)=>Q ⟨xs.map dI,none⟩ h|.d (.lst xs)=>Q ⟨xs.map dI,none⟩ h|.d (.str x)=>wB (fit x.length) (Q ⟨(x.map λc=>D.str [c]).map dI,none⟩ h) False|.d _=>False
 |.loc l=>wO h[l]? λo=>match o with
  |.lst xs=>Q ⟨xs.map dI,some l⟩ h|.fro xs=>Q ⟨xs.map dI,some l⟩ h|.ols ls=>Q ⟨ls.map λl=>.r (.loc l),some l⟩ h|.ins _ _=>False|.fnc _=>False|.tab=>False
def wMe(m:Me)(x:R)(rs:List R)(h:Sto)(Q:R->Sto->Prop):Prop:=match m,rs with
 |.append,[r]=>wPl x λl=>wFz r h λd h1=>wO h1[l]? λo=>wLw o λxs=>xs.length<big/\Q (.d .non) (h1.set l (.lst (xs++[d])))
 |.pop,[]=>wPl x λl=>wO h[l]? λo=>wLw o λxs=>wO xs[xs.length-1]? λy=>Q (.d y) (h.set l (.lst xs.dropLast))
 |.clear,[]=>wPl x λl=>wO h[l]? λo=>wLw o λ_=>Q (.d .non) (h.set l (.lst []))
 |.extend,[r]=>wPl x λl=>wRd r h λd h1=>wO (match d with | .lst ys=>some ys | _=>none) λys=>wO h1[l]? λo=>wLw o λxs=>fit (xs.length+ys.length)=true/\Q (.d .non) (h1.set l (.lst (xs++ys)))
 |m,rs=>Ok (meth m x rs h) Q
mutual
noncomputable def wE(Γ:Calls):E->Env->Sto->(R->Sto->Prop)->Prop
 |.con d,_,h,Q=>Q (.d d) h
 |.var i,σ,h,Q=>wO σ[i]? λo=>wO o λr=>Q r h
 |.bin o a b,σ,h,Q=>wE Γ a σ h λx h1=>wE Γ b σ h1 λy h2=>wRd x h2 λx h3=>wRd y h3 λy h4=>wO (bop o x y) λz=>Q (.d z) h4
 |.cmp o a b,σ,h,Q=>wE Γ a σ h λx h1=>wE Γ b σ h1 λy h2=>wRd x h2 λx h3=>wRd y h3 λy h4=>wO (cop o x y) λz=>Q (.d z) h4
 |.and a b,σ,h,Q=>wE Γ a σ h λx h1=>wBl x λc=>wB c (wE Γ b σ h1 Q) (Q (.d (.bl false)) h1)
 |.or a b,σ,h,Q=>wE Γ a σ h λx h1=>wBl x λc=>wB c (Q (.d (.bl true)) h1) (wE Γ b σ h1 Q)
 |.not a,σ,h,Q=>wE Γ a σ h λx h1=>wRd x h1 λd h2=>wO (tru d) λb=>Q (.d (.bl (!b))) h2
 |.ife c a b,σ,h,Q=>wC Γ c σ h λt h1=>wB t (wE Γ a σ h1 Q) (wE Γ b σ h1 Q)
 |.tup es,σ,h,Q=>wEs Γ es σ h λrs h1=>wFzs rs h1 λds h2=>Q (.d (.tup ds)) h2
 |.lst m l,σ,h,Q=>wL Γ l σ h λxs h1=>match m with
  |true=>Q (.loc h1.length) (h1++[.lst xs])|false=>Q (.d (.lst xs)) h1
 |.idx a i,σ,h,Q=>wE Γ a σ h λx h1=>wE Γ i σ h1 λy h2=>wRd x h2 λx h3=>wRd y h3 λy h4=>wO (idxD x y) λz=>Q (.d z) h4
 |.sli a lo hi,σ,h,Q=>wE Γ a σ h λx h1=>wE Γ lo σ h1 λl h2=>wE Γ hi σ h2 λu h3=>wRd x h3 λx h4=>wRd l h4 λl h5=>wRd u h5 λu h6=>wO (sliD x l u) λz=>Q (.d z) h6
 |.call f es,σ,h,Q=>wEs Γ es σ h λrs h1=>@Ask _ (Γ f rs h1) ⟨Q⟩
 |.bi b es,σ,h,Q=>wEs Γ es σ h λrs h1=>wRds rs h1 λds h2=>wO (biD b ds) λz=>Q (.d z) h2
 |.me m o es,σ,h,Q=>wE Γ o σ h λx h1=>wPl x λl=>wO h1[l]? λo=>wLs o λ_=>wEs Γ es σ h1 λrs h3=>wMe m (.loc l) rs h3 Q
 |.glo d,_,h,Q=>Q (.d d) h
 |.isi t e,σ,h,Q=>wE Γ e σ h λr h1=>wRd r h1 λd h2=>Q (.d (.bl (isiD t d))) h2
 |.tm m o es,σ,h,Q=>wE Γ o σ h λx h1=>wEs Γ es σ h1 λrs h2=>wRd x h2 λd h3=>wRds rs h3 λds h4=>wO (tmD m d ds) λz=>Q (.d z) h4
 |.lm m o a,σ,h,Q=>wE Γ o σ h λx h0=>wRd x h0 λ_ h1=>wE Γ a σ h1 λy h2=>wRd x h2 λx h3=>wRd y h3 λy h4=>wO (lmD m x y) λz=>Q (.d z) h4
 |.lstO tg it c el,σ,h,Q=>wI Γ it σ h λw h1=>@Ask _ (turns w.l (zq8 Γ tg c el σ) w.xs h1) ⟨λls h2=>Q (.loc h2.length) (h2++[.ols ls])⟩
 |.call0 f,_,h,Q=>@Ask _ (Γ f [] h) ⟨Q⟩
 |.lam x,_,h,Q=>wO h[0]? λo=>wTb o (Q (.loc h.length) (h++[.fnc x]))
 |.cv i tb es,σ,h,Q=>wO σ[i]? λo=>wO o λr=>wPl r λl=>wO h[l]? λob=>wFn ob λy=>wO (tb.lookup y) λf=>wEs Γ es σ h λrs h1=>@Ask _ (Γ f rs h1) ⟨Q⟩
 |.stuck,_,_,_=>False
noncomputable def wEs(Γ:Calls):List E->Env->Sto->(List R->Sto->Prop)->Prop
 | [],_,h,Q=>Q [] h
 |e::es,σ,h,Q=>wE Γ e σ h λr h1=>wEs Γ es σ h1 λrs h2=>Q (r::rs) h2
noncomputable def wC(Γ:Calls):T->Env->Sto->(Bool->Sto->Prop)->Prop
 |.val e,σ,h,Q=>wE Γ e σ h λr h1=>wRd r h1 λd h2=>wO (tru d) λt=>Q t h2
 |.and a b,σ,h,Q=>wC Γ a σ h λt h1=>wB t (wC Γ b σ h1 Q) (Q false h1)
 |.or a b,σ,h,Q=>wC Γ a σ h λt h1=>wB t (Q true h1) (wC Γ b σ h1 Q)
 |.not a,σ,h,Q=>wC Γ a σ h λt h1=>Q (!t) h1
noncomputable def wCs(Γ:Calls):List T->Env->Sto->(Bool->Sto->Prop)->Prop
 | [],_,h,Q=>Q true h
 |c::cs,σ,h,Q=>wC Γ c σ h λt h1=>wB t (wCs Γ cs σ h1 Q) (Q false h1)
noncomputable def wL(Γ:Calls):L->Env->Sto->(List D->Sto->Prop)->Prop
 |.disp es,σ,h,Q=>wEs Γ es σ h λrs h1=>wFzs rs h1 Q
 |.comp tg it c el,σ,h,Q=>wI Γ it σ h λw h1=>@Ask _ (turns w.l (zmb Γ tg c el σ) w.xs h1) ⟨Q⟩
 |.of e,σ,h,Q=>wE Γ e σ h λr h1=>wRd r h1 λd h2=>wO (items d) λxs=>Q xs h2
 |.spl a b,σ,h,Q=>wE Γ a σ h λx h1=>wE Γ b σ h1 λy h2=>wRd x h2 λx h3=>wRd y h3 λy h4=>wO (splD x y) λxs=>Q xs h4
 |.cat a b,σ,h,Q=>wE Γ a σ h λx h1=>wE Γ b σ h1 λy h2=>wRd x h2 λx h3=>wRd y h3 λy h4=>wO (catD x y) λxs=>Q xs h4
 |.sst e,σ,h,Q=>wE Γ e σ h λr h1=>wRd r h1 λd h2=>wO (zdl d) λxs=>Q xs h2
noncomputable def wI(Γ:Calls):I->Env->Sto->(Wk->Sto->Prop)->Prop
 |.seq e,σ,h,Q=>wE Γ e σ h λr h1=>wWk r h1 Q
 |.rng e,σ,h,Q=>wE Γ e σ h λr h1=>wInt r λn=>(-(2^62)<=n/\n<=16777216)/\Q ⟨(zbT 0 n.toNat).map dI,none⟩ h1
end
mutual
noncomputable def wS(Γ:Calls):S->Env->Sto->(Fl×Env->Sto->Prop)->Prop
 |.asg tg e,σ,h,Q=>wE Γ e σ h λr h1=>wT tg r σ h1 λσ' h2=>Q (.nx,σ') h2
 |.setI o i e,σ,h,Q=>wE Γ e σ h λr h1=>wE Γ o σ h1 λx h2=>wE Γ i σ h2 λy h3=>wFz r h3 λd h4=>wInt y λk=>wPl x λl=>wO h4[l]? λo=>wLw o λxs=>wO (ixn xs.length k) λj=>Q (.nx,σ) (h4.set l (.lst (xs.set j d)))
 |.exp e,σ,h,Q=>wE Γ e σ h λ_ h1=>Q (.nx,σ) h1
 |.ife c a b,σ,h,Q=>wC Γ c σ h λt h1=>wB t (wSs Γ a σ h1 Q) (wSs Γ b σ h1 Q)
 |.for tg it b,σ,h,Q=>wI Γ it σ h λw h1=>@Ask _ (loop w.l (λx σ=>bnd (zaq tg x σ) λσ'=>exs Γ b σ') w.xs σ h1) ⟨Q⟩
 |.ret e,σ,h,Q=>wE Γ e σ h λr h1=>Q (.ret r,σ) h1
 |.brk,σ,h,Q=>Q (.brk,σ) h|.cnt,σ,h,Q=>Q (.cnt,σ) h|.raiN _ _,_,_,_=>False|.tryb e c _ _ m,σ,h,Q=>Ok (tryN c m (ev Γ e) (evC Γ e) σ h) Q|.stuck,_,_,_=>False
noncomputable def wSs(Γ:Calls):List S->Env->Sto->(Fl×Env->Sto->Prop)->Prop
 | [],σ,h,Q=>Q (.nx,σ) h
 |s::r,σ,h,Q=>wS Γ s σ h λp h1=>match p.1 with
  |.nx=>wSs Γ r p.2 h1 Q|.ret r=>Q (.ret r,p.2) h1|.brk=>Q (.brk,p.2) h1|.cnt=>Q (.cnt,p.2) h1
end
theorem zg7{α:Type}{o:Option α}{Q:α->Prop}:(∃a,o=some a/\Q a)=wO o Q:=by cases o<;>simp[wO]
theorem znf:((t=true->A)/\(t=false->B))=wB t A B:=by cases t<;>simp[wB]
theorem znO:((t=false->B)/\(t=true->A))=wB t A B:=by cases t<;>simp[wB]
section
variable {h:Sto}
theorem qRd{r:R}{Q:D->Sto->Prop}:Ok (rd r h) Q=wRd r h Q:=by
 cases r with
 |d x=>exact propext ok_rd_d
 |loc l=>
  rw[propext zl2];simp only[wRd,<-zg7]
  congr;funext o;congr;cases o<;>simp[wLs,Ob.isL,Ob.items]
theorem qFz{r:R}{Q:D->Sto->Prop}:Ok (fz r h) Q=wFz r h Q:=by
 cases r with
 |d x=>exact propext ok_fz_d
 |loc l=>
  rw[propext zl8];simp only[wFz,<-zg7]
  congr;funext o;congr;cases o<;>simp[wLs,Ob.isL,Ob.items]
theorem qRds:∀{rs:List R} {h:Sto} {Q:List D->Sto->Prop},Ok (rds rs h) Q=wRds rs h Q| [],h,Q=>propext zjj|r::rs,h,Q=>by rw[propext ziN,wRds,qRd];simp only[qRds]
theorem qFzs:∀{rs:List R} {h:Sto} {Q:List D->Sto->Prop},Ok (fzs rs h) Q=wFzs rs h Q| [],h,Q=>propext zjG|r::rs,h,Q=>by rw[propext ziK,wFzs,qFz];simp only[qFzs]
mutual
theorem qT:∀(tg:Tg) (r:R) (σ:Env) (h:Sto) (Q:Env->Sto->Prop),Ok (bindT tg r σ h) Q=wT tg r σ h Q
 |.name i,r,σ,h,Q=>by rw[propext zoc,wT]
 |.tup ts,r,σ,h,Q=>by
  rw[propext zpu,wT,qRd]
  congr;funext d h1
  cases d<;>simp[wTup,qTs ts]
theorem qTs:∀(ts:List Tg) (xs:List D) (σ:Env) (h:Sto) (Q:Env->Sto->Prop),Ok (bindTs ts xs σ h) Q=wTs ts xs σ h Q| [],[],σ,h,Q=>by rw[propext zkM,wTs]| [],_::_,σ,h,Q=>by simp[bindTs,wTs]|t::ts,[],σ,h,Q=>by simp[bindTs,wTs]|t::ts,x::xs,σ,h,Q=>by rw[propext ziP,qT t];simp only[qTs ts,wTs]
end
theorem qBI:Ok (zaq tg x σ h) Q=wBI tg x σ h Q:=by
 cases x with
 |r x=>rw[propext w_bI,qT];rfl
 |en i x=>
  match tg with|.tup [a,b]=>rw[propext zse,qT];simp only[qT];rfl|.name _=>simp[zaq,wBI]|.tup []=>simp[zaq,wBI]|.tup [_]=>simp[zaq,wBI]|.tup (_::_::_::_)=>simp[zaq,wBI]
theorem qWk{r:R}{Q:Wk->Sto->Prop}:Ok (wkAny r h) Q=wWk r h Q:=by
 match r with
 |.d (.tup xs)=>exact propext zmn|.d (.lst xs)=>exact propext zmP
 |.d (.str x)=>
  simp only[wWk]
  cases c:fit x.length with|true=>rw[propext (zlK c)];rfl|false=>simp[wkAny,zcH,wkOf,items,c,wB]
 |.d .non=>simp[wkAny,zcH,wkOf,items,wWk]|.d (.bl _)=>simp[wkAny,zcH,wkOf,items,wWk]|.d (.int _)=>simp[wkAny,zcH,wkOf,items,wWk]|.loc l=>rw[propext zl1,zg7];rfl
theorem zkv{l:Nat}:(∃xs,h[l]?=some (.lst xs)/\p xs)=wO h[l]? λo=>wLw o p:=by
 cases h[l]? with|none=>simp[wO]|some o=>cases o<;>simp[wO,wLw]
theorem qMe{m:Me}{l:Nat}:Ok (meth m (.loc l) rs h) Q=wMe m (.loc l) rs h Q:=by
 unfold wMe
 split
 ·rw[propext zmj,qFz];simp only[wPl,zkv]
 ·rw[propext zrW];simp only[wPl,zkv,zg7]
 ·rw[propext znD];simp only[wPl,zkv]
 ·rw [propext zlp,qRd]
  simp only[wPl]
  congr;funext d h1
  cases d with|lst ys=>simp only[D.lst.injEq,exists_and_left,exists_eq_left',zkv,wO]|_=>simp[wO]
 ·rfl
end
theorem zpN{x:R}{p:Bool->Prop}:(∃i,x=.d (.bl i)/\p i)=wBl x p:=by
 match x with|.d (.bl i)=>simp[wBl]|.loc _ | .d .non | .d (.int _) | .d (.str _) | .d (.tup _) | .d (.lst _)=>simp[wBl]
theorem zro{x:V7}{h:Sto}{Q:R->Sto->Prop}:Ok (newF x h) Q=wO h[0]? λo=>wTb o (Q (.loc h.length) (h++[.fnc x])):=by
 unfold newF
 cases h[0]? with|none=>simp[wO]|some o=>cases o<;>simp[wO,wTb]
theorem zr9{σ:Env}{i:Nat}{h:Sto}{Q:R->Sto->Prop}:Ok (varM σ i h) Q=wO σ[i]? λo=>wO o λr=>Q r h:=by
 unfold varM
 cases σ[i]? with|none=>simp[wO]|some o=>cases o<;>simp[wO]
theorem zrE{x:R}{h:Sto}{Q:V7->Sto->Prop}:Ok (fnOf x h) Q=wPl x λl=>wO h[l]? λo=>wFn o λy=>Q y h:=by
 cases x with
 |d x=>simp[fnOf,wPl]
 |loc l=>
  simp only[fnOf,wPl]
  cases h[l]? with|none=>simp[wO]|some o=>cases o<;>simp[wO,wFn]
theorem zp7{x:R}{h:Sto}{Q:Unit->Sto->Prop}:Ok (zed x h) Q=wPl x λl=>wO h[l]? λo=>wLs o λ_=>Q () h:=by
 cases x with
 |d x=>simp[zed,wPl]
 |loc l=>
  rw[propext zn4];simp only[wPl,<-zg7]
  congr;funext o;congr;cases o<;>simp[wLs,Ob.isL]
theorem zpF{x:R}{k:D}{d:D}{h:Sto}{Q:Unit->Sto->Prop}:Ok (zd6 x k d h) Q=wInt (.d k) λk=>wPl x λl=>wO h[l]? λo=>wLw o λxs=>wO (ixn xs.length k) λj=>Q () (h.set l (.lst (xs.set j d))):=by
 cases x with
 |d x=>cases k<;>simp[zd6,wPl,wInt]
 |loc l=>
  cases k with|int k=>rw[propext zox];simp only[zg7];rw[zkv];rfl|_=>simp[zd6,wInt]
theorem qOpt{α:Type}{o:Option α}{h:Sto}{Q:α->Sto->Prop}:Ok (opt o h) Q=wO o λa=>Q a h:=by rw[propext ok_opt,zg7]
theorem zol{y:R}{h:Sto}{p:Int->Sto->Prop}:(wRd y h λd h1=>wInt (.d d) λk=>p k h1)=wInt y λk=>p k h:=by
 match y with
 |.d (.int i)=>rfl|.d .non | .d (.bl _) | .d (.str _) | .d (.tup _) | .d (.lst _)=>rfl
 |.loc l=>
  simp only[wRd,wInt]
  cases h[l]? with|none=>rfl|some o=>cases o<;>rfl
theorem qMe'{m:Me}{x:R}{Γ:Calls}{h:Sto}{W:Sto->(List R->Sto->Prop)->Prop}{Q:R->Sto->Prop}:(wPl x λl=>wO h[l]? λo=>wLs o λ_=>W h λrs h3=>Ok (meth m x rs h3) Q)=(wPl x λl=>wO h[l]? λo=>wLs o λ_=>W h λrs h3=>wMe m (.loc l) rs h3 Q):=by
 cases x with|d x=>rfl|loc l=>simp only[wPl,qMe]
theorem zel{α:Type}{m:Option (α×Sto)}{Q:α->Sto->Prop}:Ok m Q=@Ask α m ⟨Q⟩:=propext zpL
theorem qIf{α:Type}{t:Bool}{x y:M α}{h:Sto}{Q:α->Sto->Prop}:Ok ((if t=true then x else y) h) Q=wB t (Ok (x h) Q) (Ok (y h) Q):=by cases t<;>rfl
mutual
theorem qE(Γ:Calls):∀(e:E) (σ:Env) (h:Sto) (Q:R->Sto->Prop),Ok (ev Γ e σ h) Q=wE Γ e σ h Q
 |.con d,σ,h,Q=>propext ok_ok
 |.var i,σ,h,Q=>by
  refine(propext zsa).trans ?_;show _=wO σ[i]? λo=>wO o λr=>Q r h
  cases σ[i]? with|none=>simp[wO]|some o=>cases o<;>simp[wO]
 |.bin o a b,σ,h,Q=>(propext ok_bnd).trans (by simp only[ok_bnd,qE Γ a,qE Γ b,qRd,qOpt,ok_ok];rfl)|.cmp o a b,σ,h,Q=>(propext ok_bnd).trans (by simp only[ok_bnd,qE Γ a,qE Γ b,qRd,qOpt,ok_ok];rfl)|.and a b,σ,h,Q=>by rw[propext zrD,qE Γ a];simp only[qE Γ b,zpN,znf];rfl|.or a b,σ,h,Q=>by rw[propext w_or,qE Γ a];simp only[qE Γ b,zpN,znO];rfl|.not a,σ,h,Q=>(propext ok_bnd).trans (by simp only[ok_bnd,qE Γ a,qRd,qOpt,ok_ok];rfl)|.ife c a b,σ,h,Q=>(propext ok_bnd).trans (by simp only[qC Γ c,qIf,qE Γ a,qE Γ b];rfl)|.tup es,σ,h,Q=>(propext ok_bnd).trans (by simp only[ok_bnd,qEs Γ es,qFzs,ok_ok];rfl)|.lst true l,σ,h,Q=>(propext ok_bnd).trans (by simp only[qL Γ l,if_true,alloc,ok_some'];rfl)|.lst false l,σ,h,Q=>(propext ok_bnd).trans (by simp only[qL Γ l,Z1,if_false,ok_ok];rfl)|.idx a b,σ,h,Q=>(propext ok_bnd).trans (by simp only[ok_bnd,qE Γ a,qE Γ b,qRd,qOpt,ok_ok];rfl)|.sli a b c,σ,h,Q=>(propext ok_bnd).trans (by simp only[ok_bnd,qE Γ a,qE Γ b,qE Γ c,qRd,qOpt,ok_ok];rfl)|.call f es,σ,h,Q=>(propext ok_bnd).trans (by simp only[ok_bnd,qEs Γ es,zel,ok_ok];rfl)|.bi b es,σ,h,Q=>(propext ok_bnd).trans (by simp only[ok_bnd,qEs Γ es,qRds,qOpt,ok_ok];rfl)|.me m o es,σ,h,Q=>by rw[propext w_me,qE Γ o];simp only[zp7,qEs Γ es,qMe' (Γ:=Γ) (W:=λh Q=>wEs Γ es σ h Q)];rfl|.glo d,σ,h,Q=>propext ok_ok|.isi t e,σ,h,Q=>(propext ok_bnd).trans (by simp only[ok_bnd,qE Γ e,qRd,ok_ok];rfl)|.tm m o es,σ,h,Q=>(propext ok_bnd).trans (by simp only[ok_bnd,qE Γ o,qEs Γ es,qRd,qRds,qOpt,ok_ok];rfl)|.lm m o a,σ,h,Q=>(propext ok_bnd).trans (by simp only[ok_bnd,qE Γ o,qE Γ a,qRd,qOpt,ok_ok];rfl)|.lam x,σ,h,Q=>zro|.cv i tb es,σ,h,Q=>(propext ok_bnd).trans (by rw[zr9];simp only[ok_bnd,zrE,qOpt,qEs Γ es];simp only[zel];rfl)|.lstO tg it c el,σ,h,Q=>by rw[propext zqy,qI Γ it];simp only[zel];rfl|.call0 f,σ,h,Q=>by rw[propext zlU,zel];rfl|.stuck,σ,h,Q=>by rw[propext zre];rfl
theorem qEs(Γ:Calls):∀(es:List E) (σ:Env) (h:Sto) (Q:List R->Sto->Prop),Ok (evs Γ es σ h) Q=wEs Γ es σ h Q| [],σ,h,Q=>propext ok_ok|e::es,σ,h,Q=>(propext ok_bnd).trans (by simp only[ok_bnd,qE Γ e,qEs Γ es,ok_ok];rfl)
theorem qC(Γ:Calls):∀(e:T) (σ:Env) (h:Sto) (Q:Bool->Sto->Prop),Ok (tv Γ e σ h) Q=wC Γ e σ h Q|.val e,σ,h,Q=>(propext ok_bnd).trans (by simp only[ok_bnd,qE Γ e,qRd,qOpt,ok_ok];rfl)|.and a b,σ,h,Q=>(propext ok_bnd).trans (by simp only[qC Γ a,qIf,qC Γ b,ok_ok];rfl)|.or a b,σ,h,Q=>(propext ok_bnd).trans (by simp only[qC Γ a,qIf,qC Γ b,ok_ok];rfl)|.not a,σ,h,Q=>(propext ok_bnd).trans (by simp only[ok_bnd,qC Γ a,ok_ok];rfl)
theorem qCs(Γ:Calls):∀(es:List T) (σ:Env) (h:Sto) (Q:Bool->Sto->Prop),Ok (tvs Γ es σ h) Q=wCs Γ es σ h Q| [],σ,h,Q=>propext ok_ok|e::es,σ,h,Q=>(propext ok_bnd).trans (by simp only[qC Γ e,qIf,qCs Γ es,ok_ok];rfl)
theorem qL(Γ:Calls):∀(e:L) (σ:Env) (h:Sto) (Q:List D->Sto->Prop),Ok (evL Γ e σ h) Q=wL Γ e σ h Q|.disp es,σ,h,Q=>(propext ok_bnd).trans (by simp only[ok_bnd,qEs Γ es,qFzs,ok_ok];rfl)|.comp tg it c el,σ,h,Q=>(propext ok_bnd).trans (by simp only[ok_bnd,qI Γ it,zel,ok_ok];rfl)|.of e,σ,h,Q=>(propext ok_bnd).trans (by simp only[ok_bnd,qE Γ e,qRd,qOpt,ok_ok];rfl)|.spl a b,σ,h,Q=>(propext ok_bnd).trans (by simp only[ok_bnd,qE Γ a,qE Γ b,qRd,qOpt,ok_ok];rfl)|.cat a b,σ,h,Q=>(propext ok_bnd).trans (by simp only[ok_bnd,qE Γ a,qE Γ b,qRd,qOpt,ok_ok];rfl)|.sst e,σ,h,Q=>(propext ok_bnd).trans (by simp only[ok_bnd,qE Γ e,qRd,qOpt];rfl)
theorem qI(Γ:Calls):∀(e:I) (σ:Env) (h:Sto) (Q:Wk->Sto->Prop),Ok (evI Γ e σ h) Q=wI Γ e σ h Q
 |.seq e,σ,h,Q=>(propext ok_bnd).trans (by simp only[ok_bnd,qE Γ e,qWk,ok_ok];rfl)
 |.rng e,σ,h,Q=>by
  rw[propext zrp,qE Γ e]
  congr;funext r h1
  match r with|.d (.int n)=>exact propext znM|.loc _ | .d .non | .d (.bl _) | .d (.str _) | .d (.tup _) | .d (.lst _)=>simp[rngOf,wInt]
end
mutual
theorem qS(Γ:Calls):∀(s:S) (σ:Env) (h:Sto) (Q:Fl×Env->Sto->Prop),Ok (ex Γ s σ h) Q=wS Γ s σ h Q|.asg tg e,σ,h,Q=>(propext ok_bnd).trans (by simp only[ok_bnd,qE Γ e,qT,ok_ok];rfl)|.setI o i e,σ,h,Q=>by rw[propext zpV,qE Γ e];simp only[qE Γ o,qE Γ i,qFz,qRd,zpF,zol (p:=λk h5=>wPl _ λl=>wO h5[l]? λo=>wLw o λxs=>wO (ixn xs.length k) λj=>Q (.nx,σ) (h5.set l (.lst (xs.set j _))))];rfl|.exp e,σ,h,Q=>(propext ok_bnd).trans (by simp only[ok_bnd,qE Γ e,ok_ok];rfl)|.ife c a b,σ,h,Q=>(propext ok_bnd).trans (by simp only[qC Γ c,qIf,qSs Γ a,qSs Γ b];rfl)|.for tg it b,σ,h,Q=>(propext ok_bnd).trans (by simp only[ok_bnd,qI Γ it,zel,ok_ok];rfl)|.ret e,σ,h,Q=>(propext ok_bnd).trans (by simp only[ok_bnd,qE Γ e,ok_ok];rfl)|.brk,σ,h,Q=>propext ok_ok|.cnt,σ,h,Q=>propext ok_ok|.raiN c e,σ,h,Q=>by rw[show ex Γ (.raiN c e) σ h=none from rfl];exact propext ok_none|.tryb e c j o m,σ,h,Q=>rfl|.stuck,σ,h,Q=>by rw[propext zsh];rfl
theorem qSs(Γ:Calls):∀(s:List S) (σ:Env) (h:Sto) (Q:Fl×Env->Sto->Prop),Ok (exs Γ s σ h) Q=wSs Γ s σ h Q
 | [],σ,h,Q=>propext ok_ok
 |s::r,σ,h,Q=>by 
  rw[propext ziX,qS Γ s];simp only[qSs Γ r]
  try congr
end
theorem st{α:Type}{o:Option α}{a:α}{Q:α->Prop}(e:o=some a)(k:Q a):wO o Q:=by rw[e];exact k
theorem br{t:Bool}{A B:Prop}(a:t=true->A)(b:t=false->B):wB t A B:=by cases t;exact b rfl;exact a rfl
theorem bf{t:Bool}{A B:Prop}(e:t=false)(k:B):wB t A B:=by rw[e];exact k
theorem bt{t:Bool}{A B:Prop}(e:t=true)(k:A):wB t A B:=by rw[e];exact k
theorem gs{Γ:Calls}{s:List S}{σ:Env}{h:Sto}{Q:Fl×Env->Sto->Prop}(k:wSs Γ s σ h Q):Ok (exs Γ s σ h) Q:=(qSs Γ s σ h Q).mpr k
theorem ge{Γ:Calls}{e:E}{σ:Env}{h:Sto}{Q:R->Sto->Prop}(k:wE Γ e σ h Q):Ok (ev Γ e σ h) Q:=(qE Γ e σ h Q).mpr k
theorem gb{Γ:Calls}{tg:Tg}{x:Ite}{b:List S}{σ:Env}{h:Sto}{Q:Fl×Env->Sto->Prop}(k:wBI tg x σ h λσ' h1=>wSs Γ b σ' h1 Q):Ok (bnd (zaq tg x σ) (λσ'=>exs Γ b σ') h) Q:=by rw[propext ok_bnd,qBI];simp only[qSs];exact k
theorem gc{Γ:Calls}{tg:Tg}{c:List T}{el:E}{x:Ite}{σ:Env}{h:Sto}{Q:Option D->Sto->Prop}(k:wBI tg x (clr tg.slots σ) h λσ' h1=>wCs Γ c σ' h1 λt h2=>wB t (wE Γ el σ' h2 λr h3=>wFz r h3 λd h4=>Q (some d) h4) (Q none h2)):Ok (zmb Γ tg c el σ x h) Q:=by rw[propext zoO,qBI];simp only[qCs,qE,qFz,znf];exact k
theorem fd{k:Bool}{x:D}{h h1:Sto}{Q:R->Sto->Prop}(o:objs h h1=true)(q:Q (.d x) (h1.take h.length)):Ok (fin h false k (.d x) h1) Q:=fin_d.mpr ⟨o,q⟩
theorem f0{k:Bool}{x:D}{h:Sto}{Q:R->Sto->Prop}(q:Q (.d x) h):Ok (fin h false k (.d x) h) Q:=fin_d.mpr ⟨zga,by rw[U0];exact q⟩
theorem fa{k:Bool}{x:D}{h t:Sto}{Q:R->Sto->Prop}(q:Q (.d x) h):Ok (fin h false k (.d x) (h++t)) Q:=fin_d.mpr ⟨zci,by rw[zh9];exact q⟩
theorem zqL{α:Type}{g:α->Ite}{l:Option Nat}{f:Ite->Env->M (Fl×Env)}{xs:List α}{Q:Fl×Env->Sto->Prop}(I:Nat->Env->Sto->Prop)
  (step:∀i x σ h,xs[i]?=some x->I i σ h->Ok (f (g x) σ h) λp h1=>p.1=.nx/\zaA l h h1=true/\I (i+1) p.2 h1)
  (fin:∀σ h,I xs.length σ h->Q (.nx,σ) h) {σ:Env} {h:Sto} (h0:I 0 σ h):Ok (loop l f (xs.map g) σ h) Q:=
 zlZ I (λi x σ h e q=>(step i x σ h e q).mono λp h1 z=>by rw[z.1];exact z.2) fin h0
def kF(h:Sto)(all keep:Bool)(Q:R->Sto->Prop)(p:Fl×Env)(h1:Sto):Prop:=match p.1 with|.ret r=>Ok (fin h all keep r h1) Q|.nx=>Ok (fin h all keep (.d .non) h1) Q|_=>False
theorem cl{P:List F}{n f:Nat}{rs:List R}{h:Sto}{Q:R->Sto->Prop}{F:IT.F}(e:P[f]?=some F)(ed:F.dfl=[])(el:rs.length=F.np)
  (k:wSs (zae P n) F.body (rs.map some++ZN (F.ns-F.np) none) h (kF h F.all F.keep Q)):Ok (zae P (n+1) f rs h) Q:=zoi e ed el (gs k)
end IT
namespace IT
def U{α:Type}(D:α->Prop)(m:M α):Prop:=∀a h1,m []=some (a,h1)->h1=[]/\D a/\∀h,m h=some (a,h)
def isD:R->Prop|.d _=>True|.loc _=>False
def EnvD(σ:Env):Prop:=∀(i:Nat) (r:R),σ[i]?=some (some r)->isD r
def AllD(rs:List R):Prop:=∀r∈rs,isD r
theorem U.ok{α:Type}{D:α->Prop}{a:α}(h:D a):U D (ok a):=λb h1 e=>by cases e;exact⟨rfl,h,λ_=>rfl⟩
theorem U.no{α:Type}{D:α->Prop}:U D (λ_=>none:M α):=λb h1 e=>by cases e
theorem U.opt{α:Type}{D:α->Prop}{o:Option α}(h:∀a,o=some a->D a):U D (opt o):=by
 cases o with|none=>exact U.no|some a=>exact U.ok (h a rfl)
theorem U.bnd{α β:Type}{D:α->Prop}{D':β->Prop}{m:M α}{f:α->M β}(h:U D m)(k:∀a,D a->U D' (f a)):U D' (bnd m f):=λb h1 e=>by
 unfold IT.bnd at e
 cases em:m [] with
 |none=>rw[em] at e;cases e
 |some p=>
  obtain⟨a,h2⟩:=p;rw[em] at e;obtain⟨z,da,q⟩:=h a h2 em;subst z;obtain⟨z,db,q'⟩:=k a da b h1 e
  exact⟨z,db,λh=>by unfold IT.bnd;rw[q h];exact q' h⟩
theorem U.ite{α:Type}{D:α->Prop}{t:Bool}{m m':M α}(h:U D m)(h':U D m'):U D (if t then m else m'):=by
 cases t with|true=>exact h|false=>exact h'
abbrev Tr{α:Type}:α->Prop:=λ_=>True
theorem U.rd{r:R}(h:isD r):U Tr (rd r):=by
 cases r with|d x=>exact U.ok trivial|loc l=>exact h.elim
theorem U.fz{r:R}(h:isD r):U Tr (fz r):=by
 cases r with|d x=>exact U.ok trivial|loc l=>exact h.elim
theorem U.rds:∀{rs:List R},AllD rs->U Tr (rds rs)
 | [],_=>U.ok trivial
 |r::rs,h=>U.bnd (U.rd (h r (by simp))) λ_ _=>U.bnd (U.rds λx hx=>h x (by simp[hx])) λ_ _=>U.ok trivial
theorem U.fzs:∀{rs:List R},AllD rs->U Tr (fzs rs)
 | [],_=>U.ok trivial
 |r::rs,h=>U.bnd (U.fz (h r (by simp))) λ_ _=>U.bnd (U.fzs λx hx=>h x (by simp[hx])) λ_ _=>U.ok trivial
theorem EnvD.set{σ:Env}(h:EnvD σ){i:Nat}{r:R}(hr:isD r):EnvD (σ.set i (some r)):=λj x e=>by
 rw[Wi] at e
 split at e
 ·split at e
  ·cases e;exact hr
  ·cases e
 ·exact h j x e
theorem EnvD.clr:∀{l:List Nat} {σ:Env},EnvD σ->EnvD (clr l σ)
 | [],_,h=>h
 | i::l,σ,h=>EnvD.clr (l:=l) λj x e=>by
  rw[Wi] at e
  split at e
  ·split at e
   ·cases e
   ·cases e
  ·exact h j x e
mutual
theorem U.bindT:∀(t:Tg) {r:R} {σ:Env},isD r->EnvD σ->U EnvD (bindT t r σ)
 |.name i,r,σ,hr,hs=>U.ok (hs.set hr)
 |.tup ts,r,σ,hr,hs=>U.bnd (U.rd hr) λd _=>by
  cases d with|tup xs=>exact U.bindTs ts xs hs|_=>exact U.no
theorem U.bindTs:∀(ts:List Tg) (xs:List D) {σ:Env},EnvD σ->U EnvD (bindTs ts xs σ)
 | [],[],σ,hs=>U.ok hs| [],_::_,σ,hs=>U.no|t::ts,[],σ,hs=>U.no
 |t::ts,x::xs,σ,hs=>U.bnd (U.bindT t (r:=.d x) trivial hs) λ_ h=>U.bindTs ts xs h
end
def WkD(w:Wk):Prop:=w.l=none/\∃xs:List D,w.xs=xs.map dI
theorem U.wkOf{x y:D}:U WkD (wkOf (.d x) y):=by
 unfold IT.wkOf
 split
 ·exact U.ok ⟨rfl,_,rfl⟩
 ·split
  ·exact U.ite (U.ok ⟨rfl,_,rfl⟩) U.no
  ·exact U.no
theorem U.wkAny{r:R}(h:isD r):U WkD (wkAny r):=by
 cases r with
 |loc l=>exact h.elim
 |d x=>refine U.bnd (D:=λo=>o=none) (m:=zcH (.d x)) (U.ok rfl) λo e=>?_;subst e;exact U.bnd (U.rd trivial) λd _=>U.wkOf
theorem U.rngOf{r:R}(h:isD r):U WkD (rngOf r):=by
 unfold IT.rngOf
 split
 ·exact U.ite (U.ok ⟨rfl,_,rfl⟩) U.no
 ·exact U.no
theorem U.turns{α:Type}{f:Ite->M (Option α)}(h:∀x:D,U Tr (f (dI x))):∀xs:List D,U Tr (turns none f (xs.map dI))
 | []=>U.ok trivial
 | x::xs=>λa h1 e=>by
  have k:∀o:Option α,U Tr (IT.bnd (IT.turns none f (xs.map dI)) (λys=>IT.ok (match o with | some y=>y::ys | none=>ys))):=λo=>U.bnd (U.turns h xs) λ_ _=>U.ok trivial
  have e':(match f (dI x) [] with
   |some (o,h2)=>if zaA none [] h2 then IT.bnd (IT.turns none f (xs.map dI)) (λys=>IT.ok (match o with | some y=>y::ys | none=>ys)) h2 else none
   |none=>none)=some (a,h1):=e
  cases ef:f (dI x) [] with
  |none=>rw[ef] at e';cases e'
  |some p=>
   obtain⟨o,h2⟩:=p;rw[ef] at e';obtain⟨z,_,q⟩:=h x o h2 ef;subst z;obtain⟨z,_,q'⟩:=k o a h1 e';refine⟨z,trivial,λg=>?_⟩
   show(match f (dI x) g with
   |some (o,h2)=>if zaA none g h2 then IT.bnd (IT.turns none f (xs.map dI)) (λys=>IT.ok (match o with | some y=>y::ys | none=>ys)) h2 else none
   |none=>none)=_
   rw[q g];exact q' g
mutual
noncomputable def puE(pf:Nat->Bool):E->Bool|.con _=>true|.var _=>true|.bin _ a b=>puE pf a&&puE pf b|.cmp _ a b=>puE pf a&&puE pf b|.and a b=>puE pf a&&puE pf b|.or a b=>puE pf a&&puE pf b|.not a=>puE pf a|.ife c a b=>puT pf c&&(puE pf a&&puE pf b)|.tup es=>puEs pf es|.lst m l=>!m&&puL pf l|.idx a b=>puE pf a&&puE pf b|.sli a b c=>puE pf a&&(puE pf b&&puE pf c)|.call f es=>pf f&&puEs pf es|.bi _ es=>puEs pf es|.glo _=>true|.isi _ e=>puE pf e|.tm _ o es=>puE pf o&&puEs pf es|.lm _ o a=>puE pf o&&puE pf a|_=>false
noncomputable def puEs(pf:Nat->Bool):List E->Bool| []=>true|e::es=>puE pf e&&puEs pf es
noncomputable def puT(pf:Nat->Bool):T->Bool|.val e=>puE pf e|.and a b=>puT pf a&&puT pf b|.or a b=>puT pf a&&puT pf b|.not a=>puT pf a
noncomputable def puTs(pf:Nat->Bool):List T->Bool| []=>true|c::cs=>puT pf c&&puTs pf cs
noncomputable def puL(pf:Nat->Bool):L->Bool|.disp es=>puEs pf es|.comp _ it c el=>puI pf it&&(puTs pf c&&puE pf el)|.of e=>puE pf e|.spl a b=>puE pf a&&puE pf b|.sst e=>puE pf e|_=>false
noncomputable def puI(pf:Nat->Bool):I->Bool|.seq e=>puE pf e|.rng e=>puE pf e
end
theorem an{a b:Bool}(h:(a&&b)=true):a=true/\b=true:=by simpa using h
section
variable {pf:Nat->Bool}{Γ:Calls}(hΓ:∀f rs,pf f=true->AllD rs->U isD (Γ f rs))
theorem U.two{a b:M R}{o:D->D->Option D}(ha:U isD a)(hb:U isD b):U isD (IT.bnd a λx=>IT.bnd b λy=>IT.bnd (IT.rd x) λx=>IT.bnd (IT.rd y) λy=>IT.bnd (IT.opt (o x y)) λz=>IT.ok (.d z)):=U.bnd ha λ_ dx=>U.bnd hb λ_ dy=>U.bnd (U.rd dx) λ_ _=>U.bnd (U.rd dy) λ_ _=>U.bnd (U.opt (D:=Tr) λ_ _=>trivial) λ_ _=>U.ok trivial
include hΓ
mutual
theorem uE:∀(e:E) (σ:Env),puE pf e=true->EnvD σ->U isD (ev Γ e σ)
 |.con d,σ,h,s=>U.ok trivial
 | .var i,σ,h,s=>λa h1 e=>by
  have e':(match σ[i]? with | some (some r)=>some (r,([]:Sto)) | _=>none)=some (a,h1):=e
  split at e'
  ·rename_i r er
   cases e'
   exact⟨rfl,s i _ er,λg=>by show(match σ[i]? with | some (some r)=>some (r,g) | _=>none)=_;rw[er]⟩
  ·cases e'
 |.bin o a b,σ,h,s=>U.two (o:=bop o) (uE a σ (an h).1 s) (uE b σ (an h).2 s)|.cmp o a b,σ,h,s=>U.two (o:=cop o) (uE a σ (an h).1 s) (uE b σ (an h).2 s)
 |.and a b,σ,h,s=>U.bnd (uE a σ (an h).1 s) λx dx=>by
  split
  ·exact U.ite (uE b σ (an h).2 s) (U.ok trivial)
  ·exact U.no
 |.or a b,σ,h,s=>U.bnd (uE a σ (an h).1 s) λx dx=>by
  split
  ·exact U.ite (U.ok trivial) (uE b σ (an h).2 s)
  ·exact U.no
 |.not a,σ,h,s=>U.bnd (uE a σ h s) λx dx=>U.bnd (U.rd dx) λ_ _=>U.bnd (U.opt (D:=Tr) λ_ _=>trivial) λ_ _=>U.ok trivial
 |.ife c a b,σ,h,s=>U.bnd (uT c σ (an h).1 s) λt _=>U.ite (uE a σ (an (an h).2).1 s) (uE b σ (an (an h).2).2 s)
 |.tup es,σ,h,s=>U.bnd (uEs es σ h s) λrs dr=>U.bnd (U.fzs dr) λ_ _=>U.ok trivial
 |.lst true l,σ,h,s=>by cases h
 |.lst false l,σ,h,s=>U.bnd (uL l σ h s) λxs _=>U.ok trivial
 |.idx a b,σ,h,s=>U.two (o:=idxD) (uE a σ (an h).1 s) (uE b σ (an h).2 s)
 |.sli a b c,σ,h,s=>U.bnd (uE a σ (an h).1 s) λ_ d1=>U.bnd (uE b σ (an (an h).2).1 s) λ_ d2=>U.bnd (uE c σ (an (an h).2).2 s) λ_ d3=>U.bnd (U.rd d1) λ_ _=>U.bnd (U.rd d2) λ_ _=>U.bnd (U.rd d3) λ_ _=>U.bnd (U.opt (D:=Tr) λ_ _=>trivial) λ_ _=>U.ok trivial
 |.call f es,σ,h,s=>U.bnd (uEs es σ (an h).2 s) λrs dr=>hΓ f rs (an h).1 dr
 |.bi b es,σ,h,s=>U.bnd (uEs es σ h s) λrs dr=>U.bnd (U.rds dr) λ_ _=>U.bnd (U.opt (D:=Tr) λ_ _=>trivial) λ_ _=>U.ok trivial
 |.glo d,σ,h,s=>U.ok trivial
 |.isi t e,σ,h,s=>U.bnd (uE e σ h s) λ_ d=>U.bnd (U.rd d) λ_ _=>U.ok trivial
 |.tm m o es,σ,h,s=>U.bnd (uE o σ (an h).1 s) λ_ d=>U.bnd (uEs es σ (an h).2 s) λrs dr=>U.bnd (U.rd d) λ_ _=>U.bnd (U.rds dr) λ_ _=>U.bnd (U.opt (D:=Tr) λ_ _=>trivial) λ_ _=>U.ok trivial
 |.lm m o a,σ,h,s=>U.bnd (uE o σ (an h).1 s) λ_ d=>U.bnd (U.rd d) λ_ _=>U.bnd (uE a σ (an h).2 s) λ_ d2=>U.bnd (U.rd d) λ_ _=>U.bnd (U.rd d2) λ_ _=>U.bnd (U.opt (D:=Tr) λ_ _=>trivial) λ_ _=>U.ok trivial
 |.me _ _ _,_,h,_=>by cases h|.lstO _ _ _ _,_,h,_=>by cases h|.call0 _,_,h,_=>by cases h|.lam _,_,h,_=>by cases h|.cv _ _ _,_,h,_=>by cases h|.stuck,_,h,_=>by cases h
theorem uEs:∀(es:List E) (σ:Env),puEs pf es=true->EnvD σ->U AllD (evs Γ es σ)
 | [],σ,h,s=>U.ok λ_ z=>by cases z
 |e::es,σ,h,s=>U.bnd (uE e σ (an h).1 s) λr d=>U.bnd (uEs es σ (an h).2 s) λrs dr=>U.ok λx hx=>by
  rcases ZJ.mp hx with z | z
  ·exact z▸d
  ·exact dr x z
theorem uT:∀(c:T) (σ:Env),puT pf c=true->EnvD σ->U Tr (tv Γ c σ)
 |.val e,σ,h,s=>U.bnd (uE e σ h s) λ_ d=>U.bnd (U.rd d) λ_ _=>U.opt λ_ _=>trivial
 |.and a b,σ,h,s=>U.bnd (uT a σ (an h).1 s) λ_ _=>U.ite (uT b σ (an h).2 s) (U.ok trivial)
 |.or a b,σ,h,s=>U.bnd (uT a σ (an h).1 s) λ_ _=>U.ite (U.ok trivial) (uT b σ (an h).2 s)
 |.not a,σ,h,s=>U.bnd (uT a σ h s) λ_ _=>U.ok trivial
theorem uTs:∀(cs:List T) (σ:Env),puTs pf cs=true->EnvD σ->U Tr (tvs Γ cs σ)
 | [],σ,h,s=>U.ok trivial
 |c::cs,σ,h,s=>U.bnd (uT c σ (an h).1 s) λ_ _=>U.ite (uTs cs σ (an h).2 s) (U.ok trivial)
theorem uL:∀(l:L) (σ:Env),puL pf l=true->EnvD σ->U Tr (evL Γ l σ)
 |.disp es,σ,h,s=>U.bnd (uEs es σ h s) λ_ dr=>U.fzs dr
 |.comp tg it c el,σ,h,s=>U.bnd (uI it σ (an h).1 s) λw hw=>by obtain⟨l0,xs,ex⟩:=hw;rw[l0,ex];exact U.turns (λx=>U.bnd (U.bindT tg (r:=.d x) trivial s.clr) λσ' s'=>U.bnd (uTs c σ' (an (an h).2).1 s') λt _=>U.ite (U.bnd (uE el σ' (an (an h).2).2 s') λ_ d=>U.bnd (U.fz d) λ_ _=>U.ok trivial) (U.ok trivial)) xs
 |.of e,σ,h,s=>U.bnd (uE e σ h s) λ_ d=>U.bnd (U.rd d) λ_ _=>U.opt λ_ _=>trivial
 |.spl a b,σ,h,s=>U.bnd (uE a σ (an h).1 s) λ_ d=>U.bnd (uE b σ (an h).2 s) λ_ d2=>U.bnd (U.rd d) λ_ _=>U.bnd (U.rd d2) λ_ _=>U.opt λ_ _=>trivial
 |.sst e,σ,h,s=>U.bnd (uE e σ h s) λ_ d=>U.bnd (U.rd d) λ_ _=>U.opt λ_ _=>trivial
 |.cat _ _,_,h,_=>by cases h
theorem uI:∀(i:I) (σ:Env),puI pf i=true->EnvD σ->U WkD (evI Γ i σ)
 |.seq e,σ,h,s=>U.bnd (uE e σ h s) λ_ d=>U.wkAny d
 |.rng e,σ,h,s=>U.bnd (uE e σ h s) λ_ d=>U.rngOf d
end
end
mutual
noncomputable def puS(pf:Nat->Bool):S->Bool|.asg _ e=>puE pf e|.ife c a b=>puT pf c&&(puSs pf a&&puSs pf b)|.ret e=>puE pf e|.raiN _ _=>true|_=>false
noncomputable def puSs(pf:Nat->Bool):List S->Bool| []=>true|s::r=>puS pf s&&puSs pf r
end
def FlD(p:Fl×Env):Prop:=EnvD p.2/\∀r,p.1=.ret r->isD r
section
variable {pf:Nat->Bool}{Γ:Calls}(hΓ:∀f rs,pf f=true->AllD rs->U isD (Γ f rs))
include hΓ
mutual
theorem uS:∀(x:S) (σ:Env),puS pf x=true->EnvD σ->U FlD (ex Γ x σ)
 |.asg t e,σ,h,s=>U.bnd (uE hΓ e σ h s) λ_ d=>U.bnd (U.bindT t d s) λ_ s'=>U.ok ⟨s',λ_ z=>by cases z⟩
 |.ife c a b,σ,h,s=>U.bnd (uT hΓ c σ (an h).1 s) λ_ _=>U.ite (uSs a σ (an (an h).2).1 s) (uSs b σ (an (an h).2).2 s)
 |.ret e,σ,h,s=>U.bnd (uE hΓ e σ h s) λr d=>U.ok ⟨s,λ_ z=>by cases z;exact d⟩
 |.raiN _ _,_,h,_=>U.no|.setI _ _ _,_,h,_=>by cases h|.exp _,_,h,_=>by cases h|.for _ _ _,_,h,_=>by cases h|.brk,_,h,_=>by cases h|.cnt,_,h,_=>by cases h|.tryb _ _ _ _ _,_,h,_=>by cases h|.stuck,_,h,_=>by cases h
theorem uSs:∀(x:List S) (σ:Env),puSs pf x=true->EnvD σ->U FlD (exs Γ x σ)
 | [],σ,h,s=>U.ok ⟨s,λ_ z=>by cases z⟩
 |x::r,σ,h,s=>U.bnd (uS x σ (an h).1 s) λp hp=>by
  split
  ·exact uSs r p.2 (an h).2 hp.1
  ·exact U.ok hp
end
end
theorem zcq{h:Sto}{k:Bool}{x:D}:fin h false k (.d x) h=some (.d x,h):=by unfold fin;rw[if_neg (by simp),zga,if_pos rfl];unfold fin0;simp
def puP(pf:Nat->Bool)(P:List F):Bool:=(ZA P.length).all λf=>!pf f||match P[f]? with|some F=>puSs pf F.body&&!F.all&&F.dfl.isEmpty|none=>false
theorem uF{pf:Nat->Bool}{P:List F}(hP:puP pf P=true)(hpf:∀f,pf f=true->f<P.length):∀n f rs,pf f=true->AllD rs->U isD (zae P n f rs)
 |0,f,rs,h,d=>U.no
 | n + 1,f,rs,h,d=>by
  have hf:=ZQ.mp hP f (YM.mpr (hpf f h));rw[h] at hf
  cases eF:P[f]? with
  |none=>rw[eF] at hf;cases hf
  | some F=>
   rw[eF] at hf;obtain⟨h1,h3⟩:=an (show(puSs pf F.body&&!F.all&&F.dfl.isEmpty)=true from hf);obtain⟨h1,h2⟩:=an h1;have e0:F.dfl=[]:=UU.mp h3
   have a0:F.all=false:=by simpa using h2
   have key:∀h,zae P (n+1) f rs h=if(zao F.np F.dfl rs).length=F.np then match exs (zae P n) F.body ((zao F.np F.dfl rs).map some++ZN (F.ns-F.np) none) h with|some ((.ret r,_),h1)=>fin h F.all F.keep r h1|some ((.nx,_),h1)=>fin h F.all F.keep (.d .non) h1|_=>none
   else none:=λh=>by rw[zaJ,eF]<;>rfl
   have fd:zao F.np F.dfl rs=rs:=by
    unfold zao;rw[e0]
    split
    ·rfl
    ·simp
   rw[fd,a0] at key
   have s0:EnvD (rs.map some++ZN (F.ns-F.np) none):=λi r e=>by
    rcases Zd.mp (YU e) with z | z
    ·obtain ⟨y,hy,ey⟩:=X9.mp z
     cases ey;exact d _ hy
    ·cases (List.eq_of_mem_replicate z)
   intro a g e;rw[key] at e
   split at e
   case isFalse=>cases e
   rename_i hl;have run:=uSs (uF hP hpf n) F.body _ h1 s0
   have fin_d:∀{x:R},isD x->fin [] false F.keep x []=some (a,g)->g=[]/\isD a/\∀h,fin h false F.keep x h=some (a,h):=λ{x} dx e=>by
    cases x with|loc l=>exact dx.elim|d x=>rw[zcq] at e;cases e;exact⟨rfl,trivial,λ_=>zcq⟩
   cases er:exs (zae P n) F.body (rs.map some++ZN (F.ns-F.np) none) [] with
   |none=>rw[er] at e;cases e
   | some p=>
    obtain⟨⟨fl,σ1⟩,g1⟩:=p;obtain⟨z,hd,q⟩:=run _ _ er;subst z;rw[er] at e
    cases fl with
    |ret r=>
     obtain⟨z1,z2,z3⟩:=fin_d (hd.2 r rfl) e
     exact⟨z1,z2,λh=>by rw[key,if_pos hl,q h];exact z3 h⟩
    |nx=>
     obtain⟨z1,z2,z3⟩:=fin_d (x:=.d .non) trivial e
     exact⟨z1,z2,λh=>by rw[key,if_pos hl,q h];exact z3 h⟩
    |brk=>cases e|cnt=>cases e
end IT
namespace K82
open IT
variable {Q:R->Sto->Prop}
abbrev eV(i:Nat):E:=.var i
abbrev eJ(i:Int):E:=.con (.int i)
abbrev eS(x:List Nat):E:=.con (.str x)
abbrev eX(a:Nat)(i:Int):E:=.idx (.var a) (.con (.int i))
/- is_number (0): 0 word,1 most,2 ?1?sign -/
def zdC:List S:=[
 .ife (.or (.val (.cmp .lt (.bi .len [(eV 0)]) (eJ 1))) (.val (.cmp .gt (.bi .len [(eV 0)]) (eV 1)))) [.ret (.con (.bl false))] [],
 .ife (.not (.val (.bi .all [(.lst false (.comp (.name 2) (.seq (eV 0)) [] (.cmp .isin (eV 2) (.glo (.str [48,49,50,51,52,53,54,55,56,57])))))]))) [.ret (.con (.bl false))] [],
 .ret (.or (.cmp .eq (eV 0) (eS [48])) (.cmp .ne (eX 0 0) (eS [48])))]
/- is_signed_number (1): 0 word,1 most -/
def zaW:List S:=[
 .ife (.val (.tm .starts (eV 0) [(eS [45])])) [.ret (.and (.cmp .ne (eV 0) (eS [45,48])) (.call 0 [(.sli (eV 0) (eJ 1) (.con .non)),(eV 1)]))] [],
 .ret (.call 0 [(eV 0),(eV 1)])]
/- is_word (2): 0 text,1 ?1?sign -/
def zgc:List S:=[
 .ife (.or (.val (.cmp .lt (.bi .len [(eV 0)]) (eJ 1))) (.val (.cmp .gt (.bi .len [(eV 0)]) (.glo (.int 8))))) [.ret (.con (.bl false))] [],
 .ret (.bi .all [(.lst false (.comp (.name 1) (.seq (eV 0)) [] (.cmp .isin (eV 1) (.glo (.str [97,98,99,100,101,102,103,104,105,106,107,108,109,110,111,112,113,114,115,116,117,118,119,120,121,122])))))])]
/- is_kind (3): 0 text -/
def zfV:List S:=[
 .ret (.and (.call 2 [(eV 0)]) (.cmp .notin (eV 0) (.glo (.tup [(.str [114,101,97,100]),(.str [119,114,105,116,101]),(.str [100,114,111,112])]))))]
/- paper_text (4): 0 paper,1 ?1?shape -/
def zc5:List S:=[
 .ret (.tm .join (eS [10]) [(.lst false (.comp (.name 1) (.seq (eV 0)) [] (.call 5 [(eV 1)])))])]
/- shape_text (5): 0 shape,1 head,2 lines,3 ?1?config,4 ?1?count -/
def zc1:List S:=[
 .asg (.name 1) (.call 9 [(.sli (eV 0) (.con .non) (eJ 2))]),
 .asg (.name 2) (.lst false (.comp (.tup [(.name 3),(.name 4)]) (.seq (eX 0 2)) [] (.call 9 [(.tup [(.call 6 [(eV 3)]),(eV 4)])]))),
 .ife (.not (.val (eV 2))) [.ret (eV 1)] [],
 .ret (.bin .add (.bin .add (eV 1) (eS [58,32])) (.tm .join (eS [59,32]) [(eV 2)]))]
/- config_text (6): 0 config -/
def zcd:List S:=[
 .ret (.call 9 [(.tup [(eX 0 0),(eX 0 1),(.call 7 [(eX 0 2)]),(.call 7 [(eX 0 3)]),(.idx (.glo (.tup [(.str [45]),(.str [115]),(.str [111]),(.str [115,111])])) (eX 0 4))])])]
/- way_text (7): 0 way,1 ?1?letter -/
def zer:List S:=[
 .ife (.not (.val (eV 0))) [.ret (.glo (.str [45]))] [],
 .ret (.tm .join (eS [43]) [(.lst false (.comp (.name 1) (.seq (eV 0)) [] (.tm .join (eS [46]) [(eV 1)])))])]
/- deeds_text (8): 0 deeds,1 ?1?deed -/
def zc3:List S:=[
 .ret (.tm .join (eS [10]) [(.lst false (.comp (.name 1) (.seq (eV 0)) [] (.call 9 [(eV 1)])))])]
/- spaced (9): 0 parts,1 ?1?part -/
def zid:List S:=[
 .ret (.tm .join (eS [32]) [(.lst false (.comp (.name 1) (.seq (eV 0)) [] (.bi .str [(eV 1)])))])]
/- read_paper (10): 0 text,1 ?1?row -/
def zc6:List S:=[
 .ret (.call 13 [(.lst false (.comp (.name 1) (.seq (.call 12 [(eV 0)])) [] (.call 14 [(eV 1)])))])]
/- read_deeds (11): 0 text,1 ?1?row -/
def zcY:List S:=[
 .ret (.call 13 [(.lst false (.comp (.name 1) (.seq (.call 12 [(eV 0)])) [] (.call 20 [(eV 1)])))])]
/- rows_of (12): 0 text -/
def zaD:List S:=[
 .ife (.not (.val (.isi .str (eV 0)))) [.raiN 0 (eJ 0)] [],
 .ret (.ife (.val (eV 0)) (.lst false (.spl (eV 0) (eS [10]))) (.lst false (.disp [])))]
/- all_good (13): 0 things -/
def zaz:List S:=[
 .ife (.val (.cmp .isin (.con .non) (eV 0))) [.raiN 0 (.lm .index (eV 0) (.con .non))] [],
 .ret (eV 0)]
/- read_shape (14): 0 row,1 halves,2 head,3 lines,4 ?1?part,5 ?2?line -/
def zcW:List S:=[
 .asg (.name 1) (.tm .parti (eV 0) [(eS [58,32])]),
 .asg (.name 2) (.lst false (.spl (eX 1 0) (eS [32]))),
 .asg (.name 3) (.ife (.val (eX 1 1)) (.lst false (.comp (.name 4) (.seq (.lst false (.spl (eX 1 2) (eS [59,32])))) [] (.call 16 [(eV 4)]))) (.lst false (.disp []))),
 .ife (.or (.val (.cmp .ne (.bi .len [(eV 2)]) (eJ 2))) (.or (.not (.val (.call 2 [(eX 2 0)]))) (.val (.cmp .notin (eX 2 1) (.glo (.tup [(.str [110,111,110,101]),(.str [108,97,115,116]),(.str [111,108,100])])))))) [.ret (.con .non)] [],
 .ife (.or (.val (.cmp .isin (.con .non) (eV 3))) (.not (.val (.call 15 [(.lst false (.comp (.name 5) (.seq (eV 3)) [] (eX 5 0)))])))) [.ret (.con .non)] [],
 .ret (.tup [(eX 2 0),(eX 2 1),(.bi .tuple [(eV 3)])])]
/- are_in_order (15): 0 configs -/
def zbK:List S:=[
 .ret (.cmp .eq (eV 0) (.lst false (.sst (eV 0))))]
/- read_line (16): 0 part,1 words,2 config -/
def zdV:List S:=[
 .asg (.name 1) (.lst false (.spl (eV 0) (eS [32]))),
 .ife (.or (.val (.cmp .ne (.bi .len [(eV 1)]) (eJ 6))) (.val (.cmp .notin (eX 1 5) (.glo (.tup [(.str [111,110,101]),(.str [115,111,109,101]),(.str [97,110,121])]))))) [.ret (.con .non)] [],
 .asg (.name 2) (.call 17 [(eV 1)]),
 .ret (.ife (.val (.cmp .isN (eV 2) (.con .non))) (.con .non) (.tup [(eV 2),(eX 1 5)]))]
/- read_config (17): 0 words,1 to,2 back -/
def zck:List S:=[
 .asg (.name 1) (.call 18 [(eX 0 2)]),
 .asg (.name 2) (.call 18 [(eX 0 3)]),
 .ife (.or (.not (.val (.call 2 [(eX 0 0)]))) (.or (.val (.cmp .notin (eX 0 1) (.glo (.tup [(.str [110,111,110,101]),(.str [108,97,115,116]),(.str [111,108,100])])))) (.val (.cmp .notin (eX 0 4) (.glo (.tup [(.str [45]),(.str [115]),(.str [111]),(.str [115,111])])))))) [.ret (.con .non)] [],
 .ife (.or (.val (.cmp .isN (eV 1) (.con .non))) (.val (.cmp .isN (eV 2) (.con .non)))) [.ret (.con .non)] [],
 .ret (.tup [(eX 0 0),(eX 0 1),(eV 1),(eV 2),(.lm .indexT (.glo (.tup [(.str [45]),(.str [115]),(.str [111]),(.str [115,111])])) (eX 0 4))])]
/- read_way (18): 0 word,1 letters,2 ?1?part,3 ?2?letter -/
def zeA:List S:=[
 .ife (.val (.cmp .eq (eV 0) (.glo (.str [45])))) [.ret (.tup [])] [],
 .asg (.name 1) (.lst false (.comp (.name 2) (.seq (.lst false (.spl (eV 0) (eS [43])))) [] (.bi .tuple [(.lst false (.spl (eV 2) (eS [46])))]))),
 .ife (.or (.val (.cmp .gt (.bi .len [(eV 1)]) (.glo (.int 2)))) (.not (.val (.bi .all [(.lst false (.comp (.name 3) (.seq (eV 1)) [] (.call 19 [(eV 3)])))])))) [.ret (.con .non)] [],
 .ret (.bi .tuple [(eV 1)])]
/- is_letter (19): 0 letter -/
def zdt:List S:=[
 .ret (.and (.cmp .eq (.bi .len [(eV 0)]) (eJ 2)) (.and (.call 3 [(eX 0 0)]) (.cmp .isin (eX 0 1) (.glo (.tup [(.str [98,97,114,101]),(.str [108,97,115,116]),(.str [111,108,100])])))))]
/- read_deed (20): 0 row,1 words,2 hand -/
def zdX:List S:=[
 .asg (.name 1) (.lst false (.spl (eV 0) (eS [32]))),
 .ife (.or (.val (.cmp .lt (.bi .len [(eV 1)]) (eJ 3))) (.not (.val (.call 0 [(eX 1 1),(.glo (.int 2))])))) [.ret (.con .non)] [],
 .asg (.name 2) (.bi .int [(eX 1 1)]),
 .ife (.val (.cmp .eq (eX 1 0) (eS [97,115,107]))) [.ret (.call 21 [(eV 2),(.sli (eV 1) (eJ 2) (.con .non))])] [],
 .ife (.or (.val (.cmp .notin (eX 1 0) (.tup [(eS [116,97,107,101]),(eS [103,101,116])]))) (.val (.cmp .ne (.bi .len [(eV 1)]) (eJ 3)))) [.ret (.con .non)] [],
 .ret (.ife (.val (.call 0 [(eX 1 2),(.glo (.int 2))])) (.tup [(eX 1 0),(eV 2),(.bi .int [(eX 1 2)])]) (.con .non))]
/- read_ask (21): 0 hand,1 words -/
def zeD:List S:=[
 .ife (.or (.val (.cmp .eq (eV 1) (.lst false (.disp [(eS [114,101,97,100])])))) (.val (.cmp .eq (eV 1) (.lst false (.disp [(eS [100,114,111,112])]))))) [.ret (.tup [(eS [97,115,107]),(eV 0),(eX 1 0)])] [],
 .ife (.and (.val (.cmp .eq (.bi .len [(eV 1)]) (eJ 2))) (.and (.val (.cmp .eq (eX 1 0) (eS [119,114,105,116,101]))) (.val (.call 1 [(eX 1 1),(.glo (.int 40))])))) [.ret (.tup [(eS [97,115,107]),(eV 0),(eS [119,114,105,116,101]),(.bi .int [(eX 1 1)])])] [],
 .ret (.con .non)]
/- _law_draw (22): 0 _law_cell -/
def zeV:List S:=[
 .ret (.lst true (.disp [(.bin .mul (.bin .fdiv (eV 0) (eJ 2)) (.bin .sub (eJ 1) (.bin .mod (eV 0) (eJ 2)))),(eV 0)]))]
/- _law_next (23): 0 _law_draw_here,1 _law_size,2 _law_digit,3 _law_number -/
def zeM:List S:=[
 .setI (eV 0) (eJ 1) (.bin .mod (.bin .add (.bin .mul (eX 0 1) (eJ 48271)) (eJ 11)) (eJ 2147483647)),
 .ife (.val (.cmp .gt (eX 0 0) (eJ 0))) [.asg (.name 2) (.bin .mod (eX 0 0) (eV 1)),.setI (eV 0) (eJ 0) (.bin .fdiv (eX 0 0) (eV 1)),.ret (eV 2)] [],
 .asg (.name 3) (.bin .mod (.bin .mul (eX 0 1) (.bin .add (.bin .fdiv (eX 0 1) (eJ 1009)) (eJ 69621))) (eJ 2147483647)),
 .ret (.bin .mod (.bin .mod (.bin .mul (eV 3) (.bin .add (.bin .fdiv (eV 3) (eJ 757)) (eJ 16807))) (eJ 2147483629)) (eV 1))]
/- _law_good_shapes (24): 0 _law_some,1 _law_line -/
def zaT:List S:=[
 .asg (.name 0) (.lst true (.disp [(eS [104,111,109,101,32,108,97,115,116]),(eS [104,111,109,101,32,110,111,110,101,58,32,105,100,108,101,32,110,111,110,101,32,45,32,45,32,45,32,97,110,121])])),
 .asg (.name 0) (.lst true (.cat (eV 0) (.lst false (.disp [(eS [111,117,116,32,111,108,100,58,32,105,100,108,101,32,110,111,110,101,32,45,32,103,101,116,46,98,97,114,101,32,45,32,115,111,109,101,59,32,109,105,110,101,32,108,97,115,116,32,45,32,45,32,111,32,111,110,101])])))),
 .asg (.name 1) (eS [97,32,111,108,100,32,103,105,118,101,46,111,108,100,43,99,97,108,108,46,108,97,115,116,32,45,32,115,111,32,97,110,121]),
 .exp (.me .append (eV 0) [(.bin .add (.bin .add (eS [99,97,108,108,115,32,111,108,100,58,32,97,32,111,108,100,32,103,105,118,101,46,111,108,100,43,99,97,108,108,46,98,97,114,101,32,45,32,115,111,32,97,110,121,59,32]) (eV 1)) (eS [59,32,98,32,110,111,110,101,32,45,32,45,32,115,32,111,110,101]))]),
 .asg (.name 0) (.lst true (.cat (eV 0) (.lst false (.disp [(eS [104,32,108,97,115,116,58,32,105,100,108,101,32,108,97,115,116,32,45,32,45,32,45,32,111,110,101,59,32,105,100,108,101,32,108,97,115,116,32,45,32,45,32,115,32,111,110,101,59,32,105,100,108,101,32,108,97,115,116,32,45,32,97,46,98,97,114,101,32,45,32,111,110,101])])))),
 .ret (.bin .add (eV 0) (.lst false (.disp [(eS [101,105,103,104,116,108,101,116,32,110,111,110,101])])))]
/- _law_bad_shapes (25): 0 _law_line,1 _law_some -/
def zbN:List S:=[
 .asg (.name 0) (eS [105,100,108,101,32,110,111,110,101,32,45,32,45,32,45,32,97,110,121]),
 .asg (.name 1) (.lst false (.disp [(eS []),(eS [104,111,109,101]),(eS [104,111,109,101,32]),(eS [32,104,111,109,101,32,108,97,115,116]),(eS [104,111,109,101,32,108,97,115,116,32]),(eS [104,111,109,101,32,108,97,115,116,58]),(eS [104,111,109,101,32,108,97,115,116,58,32])])),
 .asg (.name 1) (.bin .add (eV 1) (.lst false (.disp [(eS [104,111,109,101,32,98,97,114,101]),(eS [72,111,109,101,32,108,97,115,116])]))),
 .asg (.name 1) (.bin .add (eV 1) (.lst false (.disp [(eS [104,111,109,101,32,108,97,115,116,32,120]),(.bin .add (eS [104,111,109,101,32,108,97,115,116,58]) (eV 0)),(.bin .add (eS [104,111,109,101,32,108,97,115,116,32,58,32]) (eV 0)),(eS [110,105,110,101,108,101,116,116,101,32,108,97,115,116])]))),
 .asg (.name 1) (.bin .add (eV 1) (.lst false (.disp [(eS [104,49,32,108,97,115,116]),(eS [104,111,109,101,32,76,97,115,116])]))),
 .asg (.name 1) (.bin .add (eV 1) (.lst false (.disp [(eS [104,111,109,101,32,108,97,115,116,58,32,105,100,108,101,32,110,111,110,101,32,45,32,45,32,97,110,121]),(eS [104,111,109,101,32,108,97,115,116,58,32,105,100,108,101,32,110,111,110,101,32,45,32,45,32,45,32,45,32,97,110,121])]))),
 .asg (.name 1) (.bin .add (eV 1) (.lst false (.disp [(.bin .add (.bin .add (eS [104,111,109,101,32,108,97,115,116,58,32]) (eV 0)) (eS [59]))]))),
 .asg (.name 1) (.bin .add (eV 1) (.lst false (.disp [(.bin .add (.bin .add (eS [104,111,109,101,32,108,97,115,116,58,32]) (eV 0)) (eS [59,32])),(.bin .add (.bin .add (.bin .add (eS [104,111,109,101,32,108,97,115,116,58,32]) (eV 0)) (eS [59])) (eV 0))]))),
 .asg (.name 1) (.bin .add (eV 1) (.lst false (.disp [(.bin .add (.bin .add (.bin .add (eS [104,111,109,101,32,108,97,115,116,58,32]) (eV 0)) (eS [59,32])) (eV 0))]))),
 .asg (.name 1) (.bin .add (eV 1) (.lst false (.disp [(.bin .add (.bin .add (eS [104,111,109,101,32,108,97,115,116,58,32]) (eV 0)) (eS [59,32,105,100,108,101,32,110,111,110,101,32,45,32,45,32,45,32,111,110,101]))]))),
 .asg (.name 1) (.bin .add (eV 1) (.lst false (.disp [(eS [104,111,109,101,32,108,97,115,116,58,32,98,32,110,111,110,101,32,45,32,45,32,45,32,97,110,121,59,32,97,32,110,111,110,101,32,45,32,45,32,45,32,97,110,121])]))),
 .asg (.name 1) (.bin .add (eV 1) (.lst false (.disp [(eS [104,111,109,101,32,108,97,115,116,58,32,105,100,108,101,32,98,97,114,101,32,45,32,45,32,45,32,97,110,121]),(eS [104,111,109,101,32,108,97,115,116,58,32,105,100,108,101,32,110,111,110,101,32,45,32,45,32,120,32,97,110,121])]))),
 .asg (.name 1) (.bin .add (eV 1) (.lst false (.disp [(eS [104,111,109,101,32,108,97,115,116,58,32,105,100,108,101,32,110,111,110,101,32,45,32,45,32,111,115,32,97,110,121])]))),
 .asg (.name 1) (.bin .add (eV 1) (.lst false (.disp [(eS [104,111,109,101,32,108,97,115,116,58,32,105,100,108,101,32,110,111,110,101,32,45,32,45,32,45,32,116,119,111]),(eS [104,111,109,101,32,108,97,115,116,58,32,105,100,108,101,32,110,111,110,101,32,45,32,45,32,45,32,49])]))),
 .asg (.name 1) (.bin .add (eV 1) (.lst false (.disp [(eS [104,111,109,101,32,108,97,115,116,58,32,105,100,108,101,32,110,111,110,101,32,32,45,32,45,32,45,32,97,110,121])]))),
 .asg (.name 1) (.bin .add (eV 1) (.lst false (.disp [(eS [104,111,109,101,32,108,97,115,116,58,32,105,100,108,101,32,110,111,110,101,32,97,46,98,97,114,101,43,98,46,98,97,114,101,43,99,46,98,97,114,101,32,45,32,45,32,97,110,121])]))),
 .asg (.name 1) (.bin .add (eV 1) (.lst false (.disp [(eS [104,111,109,101,32,108,97,115,116,58,32,105,100,108,101,32,110,111,110,101,32,97,32,45,32,45,32,97,110,121])]))),
 .asg (.name 1) (.bin .add (eV 1) (.lst false (.disp [(eS [104,111,109,101,32,108,97,115,116,58,32,105,100,108,101,32,110,111,110,101,32,97,46,110,111,110,101,32,45,32,45,32,97,110,121])]))),
 .asg (.name 1) (.bin .add (eV 1) (.lst false (.disp [(eS [104,111,109,101,32,108,97,115,116,58,32,105,100,108,101,32,110,111,110,101,32,114,101,97,100,46,98,97,114,101,32,45,32,45,32,97,110,121])]))),
 .asg (.name 1) (.bin .add (eV 1) (.lst false (.disp [(eS [104,111,109,101,32,108,97,115,116,58,32,105,100,108,101,32,110,111,110,101,32,45,32,119,114,105,116,101,46,108,97,115,116,32,45,32,97,110,121])]))),
 .asg (.name 1) (.bin .add (eV 1) (.lst false (.disp [(eS [104,111,109,101,32,108,97,115,116,58,32,105,100,108,101,32,110,111,110,101,32,97,46,98,97,114,101,43,32,45,32,45,32,97,110,121])]))),
 .asg (.name 1) (.bin .add (eV 1) (.lst false (.disp [(eS [104,111,109,101,32,108,97,115,116,58,32,105,100,108,101,32,110,111,110,101,32,43,97,46,98,97,114,101,32,45,32,45,32,97,110,121])]))),
 .asg (.name 1) (.bin .add (eV 1) (.lst false (.disp [(eS [104,111,109,101,32,108,97,115,116,58,32,105,100,108,101,32,110,111,110,101,32,97,46,98,97,114,101,43,45,32,45,32,45,32,97,110,121]),(eS [104,111,109,101,32,108,97,115,116,58,32,73,100,108,101,32,110,111,110,101,32,45,32,45,32,45,32,97,110,121])]))),
 .asg (.name 1) (.bin .add (eV 1) (.lst false (.disp [(eS [104,111,109,101,32,108,97,115,116,58,32,105,100,108,101,32,110,111,110,101,32,45,45,32,45,32,45,32,97,110,121])]))),
 .ret (.bin .add (eV 1) (.lst false (.disp [(eS [104,111,109,101,32,108,97,115,116,58,32,105,100,108,101,32,110,111,110,101,32,97,46,98,97,114,101,44,98,46,98,97,114,101,32,45,32,45,32,97,110,121]),(.bin .add (eS [104,111,109,101,32,108,97,115,116,44,32]) (eV 0))])))]
/- _law_good_deeds (26): 0 _law_some -/
def zbI:List S:=[
 .asg (.name 0) (.lst false (.disp [(eS [97,115,107,32,48,32,114,101,97,100]),(eS [97,115,107,32,49,50,32,100,114,111,112]),(eS [97,115,107,32,51,32,119,114,105,116,101,32,48]),(eS [97,115,107,32,48,32,119,114,105,116,101,32,45,55])])),
 .asg (.name 0) (.bin .add (eV 0) (.lst false (.disp [(.bin .add (eS [97,115,107,32,49,32,119,114,105,116,101,32]) (.bin .mul (eS [57]) (eJ 40))),(eS [116,97,107,101,32,48,32,48])]))),
 .ret (.bin .add (eV 0) (.lst false (.disp [(eS [103,101,116,32,53,32,49]),(eS [116,97,107,101,32,57,57,32,49,50]),(eS [103,101,116,32,48,32,48]),(.bin .add (eS [97,115,107,32,55,32,119,114,105,116,101,32,45]) (.bin .mul (eS [49]) (eJ 40)))])))]
/- _law_bad_deeds (27): 0 _law_some -/
def zb4:List S:=[
 .asg (.name 0) (.lst false (.disp [(eS []),(eS [97,115,107]),(eS [97,115,107,32,48]),(eS [97,115,107,32,48,32]),(eS [97,115,107,32,48,32,119,114,105,116,101]),(eS [97,115,107,32,48,32,119,114,105,116,101,32]),(eS [97,115,107,32,48,32,114,101,97,100,32,49])])),
 .asg (.name 0) (.bin .add (eV 0) (.lst false (.disp [(eS [97,115,107,32,48,48,32,114,101,97,100]),(eS [97,115,107,32,45,49,32,114,101,97,100])]))),
 .asg (.name 0) (.bin .add (eV 0) (.lst false (.disp [(eS [97,115,107,32,49,48,48,32,114,101,97,100]),(eS [97,115,107,32,48,32,82,101,97,100]),(eS [97,115,107,32,48,32,111,119,110]),(eS [97,115,107,32,120,32,114,101,97,100]),(eS [97,115,107,32,48,32,119,114,105,116,101,32,48,55])]))),
 .asg (.name 0) (.bin .add (eV 0) (.lst false (.disp [(eS [97,115,107,32,48,32,119,114,105,116,101,32,45,48]),(eS [97,115,107,32,48,32,119,114,105,116,101,32,43,49])]))),
 .asg (.name 0) (.bin .add (eV 0) (.lst false (.disp [(.bin .add (eS [97,115,107,32,48,32,119,114,105,116,101,32]) (.bin .mul (eS [49]) (eJ 41))),(.bin .add (eS [97,115,107,32,48,32,119,114,105,116,101,32,45]) (.bin .mul (eS [49]) (eJ 41))),(eS [97,115,107,32,48,32,119,114,105,116,101,32,49,32,50])]))),
 .asg (.name 0) (.bin .add (eV 0) (.lst false (.disp [(eS [97,115,107,32,32,48,32,114,101,97,100]),(eS [32,97,115,107,32,48,32,114,101,97,100])]))),
 .asg (.name 0) (.bin .add (eV 0) (.lst false (.disp [(eS [97,115,107,32,48,32,114,101,97,100,32]),(eS [116,97,107,101,32,48]),(eS [116,97,107,101,32,48,32]),(eS [116,97,107,101,32,48,32,48,49]),(eS [116,97,107,101,32,48,32,45,49]),(eS [116,97,107,101,32,48,32,49,48,48])]))),
 .asg (.name 0) (.bin .add (eV 0) (.lst false (.disp [(eS [116,97,107,101,32,48,32,120]),(eS [116,97,107,101,32,48,32,48,32,48]),(eS [103,101,116,32,48])]))),
 .asg (.name 0) (.bin .add (eV 0) (.lst false (.disp [(eS [103,101,116,32,48,48,32,48]),(eS [103,101,116,32,48,32,49,46]),(eS [112,117,116,32,48,32,48]),(eS [84,97,107,101,32,48,32,48]),(eS [116,97,107,101,44,48,44,48]),(eS [103,101,116,32,48,32,119,114,105,116,101])]))),
 .ret (.bin .add (eV 0) (.lst false (.disp [(eS [119,114,111,116,101,32,48,32,49])])))]
/- _law_refused (28): 0 _law_reads,1 _law_text,2 _law_number,3 e,4 _law_other -/
def zbm:List S:=[
 .tryb (.cv 0 [("read_paper",10),("read_deeds",11)] [(eV 1)]) 0 3 4 2,
 .ret (.con (.bl false))]
/- _law_spoiled (29): 0 _law_draw_here,1 _law_reads,2 _law_good,3 _law_bad,4 _law_rows,5 _law_at,6 _law_later,7 _law_worse,8 ?1?_law_k -/
def zbU:List S:=[
 .asg (.name 4) (.lst false (.comp (.name 8) (.rng (.bin .add (eJ 1) (.call 23 [(eV 0),(eJ 6)]))) [] (.idx (eV 2) (.call 23 [(eV 0),(.bi .len [(eV 2)])])))),
 .ife (.val (.cmp .ne (.bi .len [(.cv 1 [("read_paper",10),("read_deeds",11)] [(.tm .join (eS [10]) [(eV 4)])])]) (.bi .len [(eV 4)]))) [.ret (.con (.bl false))] [],
 .asg (.name 5) (.call 23 [(eV 0),(.bi .len [(eV 4)])]),
 .asg (.name 6) (.call 23 [(eV 0),(.bi .len [(eV 4)])]),
 .asg (.name 7) (.lst true (.of (eV 4))),
 .setI (eV 7) (eV 5) (.idx (eV 3) (.call 23 [(eV 0),(.bi .len [(eV 3)])])),
 .ife (.val (.cmp .gt (eV 6) (eV 5))) [.setI (eV 7) (eV 6) (.idx (eV 3) (.call 23 [(eV 0),(.bi .len [(eV 3)])]))] [],
 .ife (.val (.cmp .eq (eV 7) (.lst false (.disp [(eS [])])))) [.ret (.cmp .eq (.cv 1 [("read_paper",10),("read_deeds",11)] [(eS [])]) (.lst false (.disp [])))] [],
 .ret (.call 28 [(eV 1),(.tm .join (eS [10]) [(eV 7)]),(eV 5)])]
/- law (30): 0 _law_script,1 _law_cell,2 _law_draw_here,3 _law_shapes,4 _law_deeds,5 _law_other -/
def zo0:List S:=[
 .for (.name 1) (.seq (.sli (eV 0) (.con .non) (eJ 24))) [.asg (.name 2) (.call 22 [(eV 1)]),.asg (.name 3) (.call0 24),.ife (.not (.val (.call 29 [(eV 2),(.lam "read_paper"),(eV 3),(.call0 25)]))) [.ret (.con (.bl false))] [],.asg (.name 4) (.call0 26),.ife (.not (.val (.call 29 [(eV 2),(.lam "read_deeds"),(eV 4),(.call0 27)]))) [.ret (.con (.bl false))] [],.asg (.name 5) (.idx (.lst false (.disp [(.con .non),(eJ 5),(.lst false (.disp [(eS [104,111,109,101,32,108,97,115,116])])),(.tup [(eS [97,115,107]),(eJ 0),(eS [114,101,97,100])])])) (.bin .mod (eV 1) (eJ 4))),.ife (.not (.val (.call 28 [(.lam "read_paper"),(eV 5),(eJ 0)]))) [.ret (.con (.bl false))] [],.ife (.not (.val (.call 28 [(.lam "read_deeds"),(eV 5),(eJ 0)]))) [.ret (.con (.bl false))] []],
 .asg (.name 3) (.tm .join (eS [10]) [(.call0 24)]),
 .asg (.name 4) (.tm .join (eS [10]) [(.call0 26)]),
 .ret (.and (.cmp .eq (.call 4 [(.call 10 [(eV 3)])]) (eV 3)) (.cmp .eq (.call 8 [(.call 11 [(eV 4)])]) (eV 4)))]
def P:List F:=[⟨2,3,zdC,false,[],false,false⟩,⟨2,2,zaW,false,[],false,false⟩,⟨1,2,zgc,false,[],false,false⟩,⟨1,1,zfV,false,[],false,false⟩,⟨1,2,zc5,false,[],false,false⟩,⟨1,5,zc1,false,[],false,false⟩,⟨1,1,zcd,false,[],false,false⟩,⟨1,2,zer,false,[],false,false⟩,⟨1,2,zc3,false,[],false,false⟩,⟨1,2,zid,false,[],false,false⟩,⟨1,2,zc6,false,[],false,false⟩,⟨1,2,zcY,false,[],false,false⟩,⟨1,1,zaD,false,[],false,false⟩,⟨1,1,zaz,false,[],false,false⟩,⟨1,6,zcW,false,[],false,false⟩,⟨1,1,zbK,false,[],false,false⟩,⟨1,3,zdV,false,[],false,false⟩,⟨1,3,zck,false,[],false,false⟩,⟨1,4,zeA,false,[],false,false⟩,⟨1,1,zdt,false,[],false,false⟩,⟨1,3,zdX,false,[],false,false⟩,⟨2,2,zeD,false,[],false,false⟩,⟨1,1,zeV,true,[],false,false⟩,⟨2,4,zeM,false,[],false,false⟩,⟨0,2,zaT,false,[],false,false⟩,⟨0,2,zbN,false,[],false,false⟩,⟨0,1,zbI,false,[],false,false⟩,⟨0,1,zb4,false,[],false,false⟩,⟨3,5,zbm,false,[],false,false⟩,⟨4,9,zbU,false,[],false,false⟩,⟨1,6,zo0,false,[],false,true⟩]
variable {Q:R->Sto->Prop}
abbrev W:=List Nat
theorem zod{c:Nat}{y r:W}(h:c∉r):(c::y).isPrefixOf r=false:=by
 cases r with
 |nil=>rfl
 |cons d r=>
  have:(c==d)=false:=by simp;rintro rfl;exact h ZK
  simp[List.isPrefixOf,this]
theorem fnd_none{c:Nat}{y:W}:∀{x:W},c∉x->fnd (c::y) x=none| [],_=>rfl|d::x,h=>by rw[fnd,zod h,fnd_none λq=>h (ZU _ q)];rfl
theorem zmZ{c:Nat}{y r:W}:∀{x:W},c∉x->fnd (c::y) (x++((c::y)++r))=some x.length
 | [],_=>by
  show fnd (c::y) (c::(y++r))=some 0
  have:(c::y).isPrefixOf (c::(y++r))=true:=by rw[YK];exact⟨r,rfl⟩
  rw[fnd,this];rfl
 |d::x,h=>by
  have hd:(c==d)=false:=by simp;rintro rfl;exact h ZK
  have e:(c::y).isPrefixOf (d::(x++((c::y)++r)))=false:=by simp[List.isPrefixOf,hd]
  show fnd (c::y) (d::(x++((c::y)++r)))=_;rw[fnd,e,zmZ λq=>h (ZU _ q)];rfl
theorem zc8{z x:W}{y:W}{l:List W}:catS z (x::y::l)=x++(z++catS z (y::l)):=by simp[catS]
theorem zkb{c:Nat}{y:W}:∀(l:List W) (x:W) (n:Nat),(∀w∈x::l,c∉w)->l.length<=n->splS (c::y) n (catS (c::y) (x::l))=x::l
 | [],x,n,h,_=>by
  have e:catS (c::y) [x]=x:=by simp[catS]
  rw[e]
  cases n with|zero=>rfl|succ n=>rw[splS,fnd_none (h x ZK)]
 | x'::l,x,n,h,hn=>by
  cases n with|zero=>simp at hn|succ n=>rw[zc8,splS,zmZ (h x ZK)];simp only;rw[List.take_left,<-XA,show x.length+(c::y).length=(x++(c::y)).length by simp,List.drop_left,zkb l x' n (λw hw=>h w (ZU _ hw)) (by simpa using hn)]
theorem cat_len{z:W}:∀(l:List W) (x:W),l.length<=(catS z (x::l)).length+0\/z=[]
 | [],x=>.inl (by simp)
 | y :: l,x=>by
  rcases cat_len (z:=z) l y with h | h
  ·by_cases hz:z=[]
   ·exact .inr hz
   ·refine .inl ?_
    rw[zc8,Zw,Zw,ZP]
    have:0<z.length:=WR.mpr hz
    omega
  ·exact .inr h
theorem zh4{n:Nat}(h:n<=16777216):fit n=true:=by unfold fit big;exact decide_eq_true h
theorem zlj{α β:Type}{g:α->β}:∀xs:List α,xs.filterMap (λx=>some (g x))=xs.map g| []=>rfl|x::xs=>by rw[YE,Zz,zlj xs]
theorem zkY{α:Type}{l:Option Nat}{f:Ite->M (Option D)}{dD:α->D}{g:α->D}{h:Sto}{xs:List α}{Q:List D->Sto->Prop}(e:∀x∈xs,Ok (f (dI (dD x)) h) λo h1=>o=some (g x)/\h1=h)(s:zaA l h h=true)(q:Q (xs.map g) h):Ok (turns l f ((xs.map dD).map dI) h) Q:=by rw[List.map_map];refine zhf (d:=dI∘dD) (g:=λx=>some (g x)) e s ?_;rw[zlj];exact q
theorem znc{α:Type}{f:α->Nat}{B:Nat}:∀l:List α,(∀x∈l,f x<=B)->(l.map f).sum<=l.length*B
 | [],_=>by simp
 |x::l,h=>by
  rw[Zz,List.sum_cons,ZP,Nat.succ_mul]
  have:=znc l λy hy=>h y (ZU _ hy)
  have:=h x ZK
  omega
theorem zle{z:W}{B:Nat}:∀l:List W,(∀x∈l,x.length<=B)->(catS z l).length<=l.length*(B+z.length)
 | [],_=>by simp[catS]
 | [x],h=>by
  have:=h x ZK
  simp[catS];omega
 |x::y::l,h=>by
  have ih:=zle (z:=z) (y::l) λw hw=>h w (ZU _ hw)
  have:=h x ZK
  rw[zc8,Zw,Zw,ZP,Nat.succ_mul];omega
theorem zmi{z:W}{l:List W}(B:Nat)(hl:∀x∈l,x.length<=B)(hb:l.length*(B+z.length)<=16777216):tmD .join (.str z) [.lst (l.map D.str)]=some (.str (catS z l)):=zmu (zhM l) (zh4 (Zf (znc l λx hx=>Nat.add_le_add_right (hl x hx) _) hb))
theorem splJ{c:Nat}{y x:W}{l:List W}(h:∀w∈x::l,c∉w)(hb:(catS (c::y) (x::l)).length<=1000000):splD (.str (catS (c::y) (x::l))) (.str (c::y))=some ((x::l).map D.str):=by
 have hl:l.length<=(catS (c::y) (x::l)).length:=by
  rcases cat_len (z:=c::y) l x with h | h
  ·simpa using h
  ·cases h
 have e:=zkb (y:=y) l x _ h hl
 rw[zlH (by simp) (zh4 (by omega)) (by rw[e];exact zh4 (by rw[ZP];omega)),e]
theorem zr2{h t:Sto}{xs ys:List D}:objs (h++.lst xs::t) (h++.lst ys::t)=true:=by
 have:=zmE (h:=h++.lst xs::t) (l:=h.length) (xs:=xs) (ys:=ys) zas
 rwa [zcA] at this
theorem f1{k:Bool}{x:D}{xs ys:List D}{h t:Sto}{Q:R->Sto->Prop}(q:Q (.d x) (h++.lst ys::t)):Ok (fin (h++.lst xs::t) false k (.d x) (h++.lst ys::t)) Q:=fd zr2 (by rw[YF (by simp)];exact q)
theorem md(x:Int){m:Int}(h:0<m):0<=x%m/\x%m<m:=⟨UG _ (by omega),VA _ h⟩
theorem bmul(x:Int){c:Int}(h1:-(2^64)<c)(h2:c<2^64):bop .mul (.int x) (.int c)=some (.int (x*c)):=zoG (by rw[zlV h1 h2];simp)
theorem bfd{a z:Int}(z0:0<z)(z1:z<wide):bop .fdiv (.int a) (.int z)=some (.int (a / z)):=by show(if(decide (0<z)&&decide (z<wide))=true then some (D.int (a / z)) else none)=_;rw[if_pos (by simp[z0,z1])]
abbrev dr(a b:Int):Ob:=.lst [.int a,.int b]
theorem zba(n:Nat){h t:Sto}{a b z:Int}(z0:0<z)(wz:z<wide)(k:∀r a' b',0<=r->r<z->Q (.d (.int r)) (h++dr a' b'::t)):Ok (zae P (n+1) 23 [.loc h.length,.d (.int z)] (h++dr a b::t)) Q:=by
 refine cl (F:=⟨2,4,zeM,false,[],false,false⟩) rfl rfl rfl ?_;refine st zas ?_;refine st (bmul _ (by decide) (by decide)) ?_;refine st zas ?_;ac_rfl;rw[zcA];have m:=md (b*48271+11) (m:=2147483647) (by decide);generalize (b*48271+11)%2147483647=y at m⊢;refine st zas ?_;refine br (λc=>?_) (λc=>?_)
 ·ac_rfl
  refine st zas ?_;refine st (zi8 z0) ?_;refine st zas ?_;refine st (bfd z0 wz) ?_;ac_rfl;refine st zas ?_;ac_rfl;rw[zcA];have m2:=md a z0;exact f1 (k _ _ _ m2.1 m2.2)
 ·ac_rfl
  refine st zas ?_;refine st zas ?_;refine st (bmul _ (by omega) (by omega)) ?_;ac_rfl;have m2:=md (y*(y / 1009+69621)) (m:=2147483647) (by decide);generalize y*(y / 1009+69621)%2147483647=w at m2⊢;refine st (bmul _ (by omega) (by omega)) ?_;refine st (zi8 z0) ?_;have m3:=md (w*(w / 757+16807)%2147483629) z0;exact f1 (k _ _ _ m3.1 m3.2)
theorem zjU(n:Nat){h:Sto}{c:Int}(k:∀a b,Q (.loc h.length) (h++[dr a b])):Ok (zae P (n+1) 22 [.d (.int c)] h) Q:=by refine cl (F:=⟨1,1,zeV,true,[],false,false⟩) rfl rfl rfl ?_;have m:=md c (m:=2) (by decide);refine st (bmul _ (by omega) (by omega)) ?_;exact zlM (k _ _)
theorem zjs{l:List W}{i:Int}(h0:0<=i)(h1:i<l.length):∃w∈l,idxD (.lst (l.map D.str)) (.int i)=some (.str w):=by
 obtain⟨x,hx,e⟩:=zjy (xs:=l.map D.str) h0 (by rw[ZR];exact h1)
 obtain⟨w,hw,rfl⟩:=X9.mp hx;exact⟨w,hw,e⟩
theorem zdg{h t:Sto}{x y o:Ob}:(h++x::(t++[o]))[(h++y::t).length]?=some o:=by
 have:h++x::(t++[o])=(h++x::t)++[o]:=by simp
 rw[this,show(h++y::t).length=(h++x::t).length by simp];exact zas
theorem zh5{h t:Sto}{x y o o':Ob}:(h++x::(t++[o])).set (h++y::t).length o'=h++x::(t++[o']):=by
 have:h++x::(t++[o])=(h++x::t)++[o]:=by simp
 rw[this,show(h++y::t).length=(h++x::t).length by simp,zcA];simp
theorem f4{k:Bool}{x:D}{xs ys:List D}{h t u:Sto}{Q:R->Sto->Prop}(q:Q (.d x) (h++.lst ys::t)):Ok (fin (h++.lst xs::t) false k (.d x) (h++.lst ys::(t++u))) Q:=by
 have e:=zdH (h:=h++.lst xs::t) (t:=u) (l:=h.length) (xs:=xs) (ys:=ys) zas;rw[zcA] at e
 have e2:h++Ob.lst ys::(t++u)=(h++Ob.lst ys::t)++u:=by simp
 rw[e2];refine fd e ?_;rw[List.take_left' (by simp)];exact q
variable {Q:R->Sto->Prop}
def pf(f:Nat):Bool:=decide (f<22)||(decide (25<=f)&&decide (f<28))
theorem zrY{f:Nat}(h:pf f=true):f<P.length:=by simp only[pf,Zh,Z8,decide_eq_true_eq] at h;show f<31;omega
theorem zrH:puP pf P=true:=by decide +kernel
def valD(o:Option (R×Sto)):D:=match o with|some (.d x,_)=>x|_=>.non
def okB(o:Option (R×Sto)):Bool:=match o with|some (.d _,_)=>true|_=>false
theorem run_pure{n f:Nat}{rs:List R}(hp:pf f=true)(hr:AllD rs)(hb:okB (zae P n f rs [])=true)(h:Sto):zae P n f rs h=some (.d (valD (zae P n f rs [])),h):=by
 cases e:zae P n f rs [] with
 |none=>rw[e] at hb;cases hb
 |some p=>
  obtain⟨a,g⟩:=p;obtain⟨z,d,q⟩:=uF zrH (λ_=>zrY) n f rs hp hr a g e
  cases a with|loc l=>exact d.elim|d x=>exact q h
theorem all1{x:D}:AllD [.d x]:=λr hr=>by
 cases Yx.mp hr
 trivial
def wsOf(d:D):List W:=match d with
 |.lst xs=>xs.map λx=>match x with | .str w=>w | _=>[]
 |_=>[]
def gS:List W:=wsOf (valD (zae P 3 24 [] []))
def bS:List W:=wsOf (valD (zae P 3 25 [] []))
def gD:List W:=wsOf (valD (zae P 3 26 [] []))
def bD:List W:=wsOf (valD (zae P 3 27 [] []))
structure Row(m g:Nat)(bad:Bool)(w:W):Prop where
 no:10∉w
 len:w.length<=1000
 run:∃d:D,d.eqb .non=bad/\∀h,zae P m g [.d (.str w)] h=some (.d d,h)
 ne:bad=false->w≠[]
def rowB(m g:Nat)(bad:Bool)(w:W):Bool:=!w.contains 10&&decide (w.length<=1000)&&okB (zae P m g [.d (.str w)] [])&&((valD (zae P m g [.d (.str w)] [])).eqb .non==bad)&&(bad||!w.isEmpty)
theorem zev{m g:Nat}{bad:Bool}{w:W}(hp:pf g=true)(h:rowB m g bad w=true):Row m g bad w:=by
 simp only[rowB,Z8] at h;obtain⟨⟨⟨⟨h1,h2⟩,h3⟩,h4⟩,h5⟩:=h;refine⟨by simpa using h1,of_decide_eq_true h2,⟨_,ZX h4,run_pure hp all1 h3⟩,λe=>?_⟩;subst e
 simpa using h5
theorem zra:(gS.all λw=>rowB 8 14 false w&&rowB 9 14 false w)=true:=by decide +kernel
theorem zpi:(bS.all λw=>rowB 8 14 true w)=true:=by decide +kernel
theorem zp1:(gD.all λw=>rowB 8 20 false w&&rowB 9 20 false w)=true:=by decide +kernel
theorem zqY:(bD.all λw=>rowB 8 20 true w)=true:=by decide +kernel
variable {Q:R->Sto->Prop}
theorem rows_at(n:Nat){h:Sto}{ws:List W}(hn:∀w∈ws,10∉w/\w.length<=1000)(hl:ws.length<=12)(h0:catS [10] ws≠[]):zae P (n+1) 12 [.d (.str (catS [10] ws))] h=some (.d (.lst (ws.map D.str)),h):=by
 refine Ok.eq (cl (F:=⟨1,1,zaD,false,[],false,false⟩) rfl rfl rfl ?_);have hb:=zle (z:=[10]) (B:=1000) ws λy hy=>(hn y hy).2
 have hb2:(catS [10] ws).length<=1000000:=by refine Zf hb ?_;simp only[ZP,YH];omega
 cases ws with
 |nil=>exact absurd rfl h0
 | cons x l=>
  have et:tru (.str (catS [10] (x::l)))=some true:=by
   show(if fit _ then some _ else none)=_;rw[if_pos (zh4 (by omega))]
   simpa using h0
  refine st et ?_;refine st (splJ (c:=10) (y:=[]) (x:=x) (l:=l) (λy hy=>(hn y hy).1) hb2) ?_;exact f0 ⟨rfl,rfl⟩
theorem zoX(n:Nat){h:Sto}{xs:List D}(hx:xs.any (λy=>y.eqb .non)=false):zae P (n+1) 13 [.d (.lst xs)] h=some (.d (.lst xs),h):=by refine Ok.eq (cl (F:=⟨1,1,zaz,false,[],false,false⟩) rfl rfl rfl ?_);refine bf hx ?_;exact f0 ⟨rfl,rfl⟩
theorem zpr{Γ:Calls}{h:Sto}{xs:List D}:tv Γ (.val (.cmp .isin (.con .non) (.var 0))) [some (.d (.lst xs))] h=some (xs.any (λy=>y.eqb .non),h):=rfl
theorem ze6{h:Sto}{c k:Int}:finX h false false (.d (.tup [.int c,.int k])) h=some (.d (.tup [.int c,.int k]),h):=by unfold finX;simp only[zcq]
theorem zpA(n:Nat){h:Sto}{xs:List D}{k:Nat}(hx:xs.findIdx? (λy=>y.eqb .non)=some k)(hk:k<100):zae P (n+1) 13 [.d (.lst xs)] h=none/\zae P (n+1) (xof 13) [.d (.lst xs)] h=some (.d (.tup [.int 0,.int k]),h):=by
 have ha:xs.any (λy=>y.eqb .non)=true:=by rw[Wb];obtain⟨h1,h2,_⟩:=Yu.mp hx;exact⟨_,Zn h1,h2⟩
 have e0:tv (zae P n) (.val (.cmp .isin (.con .non) (.var 0))) [some (.d (.lst xs))] h=some (true,h):=by rw[zpr,ha]
 have e1:exs (zae P n) zaz [some (.d (.lst xs))] h=none:=by simp only[zaz,exs,ex,bnd,e0,if_true]
 have e2:exXs (zae P n) zaz [some (.d (.lst xs))] h=some (.d (.tup [.int 0,.int k]),h):=by
  have e3:ev (zae P n) (.lm .index (.var 0) (.con .non)) [some (.d (.lst xs))] h=some (.d (.int k),h):=by
   have hl:lmD .index (.lst xs) .non=some (.int k):=by show(if decide (D.non.dep<=60)=true then(match xs.findIdx? λy=>y.eqb .non with | some j=>some (D.int j) | none=>none) else none)=_;rw[hx,if_pos (by decide)]
   show bnd (opt (lmD .index (.lst xs) .non)) (λz=>ok (R.d z)) h=_;rw[hl];rfl
  have e4:raN 0 (.d (.int (k:Int))) h=some (.d (.tup [.int 0,.int k]),h):=by show(if(k:Int).natAbs<2^200 then ok (R.d (.tup [.int ((0:Nat):Int),.int k])) else λ_=>none) h=_;rw[if_pos (ZE (show(k:Int).natAbs<100 by omega) (by decide))];rfl
  simp only[zaz,exXs,exX,ex,exs,bnd,e0,if_true,e3,e4]
 constructor
 ·show (match exs (zae P n) zaz [some (.d (.lst xs))] h with
    |some ((.ret r,_),h1)=>fin h false false r h1|some ((.nx,_),h1)=>fin h false false (.d .non) h1
    |_=>none)=none
  rw[e1]
 ·show (match exXs (zae P n) zaz [some (.d (.lst xs))] h with
     |some (r,h1)=>finX h false false r h1
     |none=>none)=_
  rw[e2];exact ze6
variable {Q:R->Sto->Prop}
def Rdr(f g:Nat):Prop:=(f=10/\g=14)\/(f=11/\g=20)
def aR(g:Nat):E:=.lst false (.comp (.name 1) (.seq (.call 12 [.var 0])) [] (.call g [.var 1]))
def bR(g:Nat):List S:=[.ret (.call 13 [aR g])]
theorem zhs{f g n:Nat}{x:R}{h:Sto}(hf:Rdr f g):zae P (n+1) f [x] h=match exs (zae P n) (bR g) [some x,none] h with
    |some ((.ret r,_),h1)=>fin h false false r h1|some ((.nx,_),h1)=>fin h false false (.d .non) h1
    |_=>none:=by
 rcases hf with⟨rfl,rfl⟩|⟨rfl,rfl⟩<;>rfl
theorem zhH{f g n:Nat}{x:R}{h:Sto}(hf:Rdr f g):zae P (n+1) (xof f) [x] h=match exXs (zae P n) (bR g) [some x,none] h with
     |some (r,h1)=>finX h false false r h1
     |none=>none:=by
 rcases hf with⟨rfl,rfl⟩|⟨rfl,rfl⟩<;>rfl
theorem ofE{α:Type}{m:Option (α×Sto)}{a:α}{h:Sto}{Q:α->Sto->Prop}(e:m=some (a,h))(q:Q a h):Ok m Q:=by rw[e];exact ok_some'.mpr q
theorem zhV{g m:Nat}{h:Sto}{ws:List W}{v:W->D}(hn:∀w∈ws,10∉w/\w.length<=1000)(hl:ws.length<=12)(h0:catS [10] ws≠[])(hv:∀w∈ws,zae P (m+1) g [.d (.str w)] h=some (.d (v w),h)):
  ev (zae P (m+1)) (aR g) [some (.d (.str (catS [10] ws))),none] h=some (.d (.lst (ws.map v)),h):=by
 refine Ok.eq (ge ?_);refine ask (ofE (rows_at m hn hl h0) ?_);refine ask (zkY (dD:=D.str) (g:=v) (xs:=ws) (λw hw=>?_) zcu ?_)
 ·refine gc ?_
  exact ask (ofE (hv w hw) ⟨rfl,rfl⟩)
 exact⟨rfl,rfl⟩
section
variable {f g m:Nat}{h:Sto}{ws:List W}{v:W->D}
theorem zkL(hf:Rdr f g)(hn:∀w∈ws,10∉w/\w.length<=1000)(hl:ws.length<=12)(h0:catS [10] ws≠[])(hv:∀w∈ws,zae P (m+1) g [.d (.str w)] h=some (.d (v w),h))(hg:∀w∈ws,(v w).eqb .non=false):
  zae P (m+2) f [.d (.str (catS [10] ws))] h=some (.d (.lst (ws.map v)),h):=by
 have e1:=zhV hn hl h0 hv
 have e2:=zoX m (h:=h) (xs:=ws.map v) (by
  rw[List.any_eq_false];intro x hx;obtain⟨w,hw,rfl⟩:=X9.mp hx;rw[hg w hw]
  simp)
 have e3:exs (zae P (m+1)) (bR g) [some (.d (.str (catS [10] ws))),none] h=some ((.ret (.d (.lst (ws.map v))),[some (.d (.str (catS [10] ws))),none]),h):=by simp only[bR,exs,ex,ev,evs,bnd,e1,e2,ok]
 rw[zhs hf,e3];exact zcq
theorem zmx{k:Nat}(hf:Rdr f g)(hn:∀w∈ws,10∉w/\w.length<=1000)(hl:ws.length<=12)(h0:catS [10] ws≠[])(hv:∀w∈ws,zae P (m+1) g [.d (.str w)] h=some (.d (v w),h))(hk:(ws.map v).findIdx? (λy=>y.eqb .non)=some k)(hk2:k<100):
  zae P (m+2) f [.d (.str (catS [10] ws))] h=none/\zae P (m+2) (xof f) [.d (.str (catS [10] ws))] h=some (.d (.tup [.int 0,.int k]),h):=by
 have e1:=zhV hn hl h0 hv;obtain⟨e2,e3⟩:=zpA m (h:=h) hk hk2
 have e4:exs (zae P (m+1)) (bR g) [some (.d (.str (catS [10] ws))),none] h=none:=by simp only[bR,exs,ex,ev,evs,bnd,e1,e2,ok]
 have e5:exXs (zae P (m+1)) (bR g) [some (.d (.str (catS [10] ws))),none] h=some (.d (.tup [.int 0,.int k]),h):=by simp only[bR,exXs,exX,evX,ex,ev,evs,bnd,e1,e2,e3,ok]
 refine⟨?_,?_⟩
 ·rw[zhs hf,e4]
 ·rw [zhH hf,e5]
  exact ze6
theorem zfT{x:D}(hf:Rdr f g)(hx:isiD .str x=false):zae P (m+2) f [.d x] h=none/\zae P (m+2) (xof f) [.d x] h=some (.d (.tup [.int 0,.int 0]),h):=by
 have e0:tv (zae P m) (.not (.val (.isi .str (.var 0)))) [some (.d x)] h=some (true,h):=by show some (!(isiD .str x),h)=_;rw[hx];rfl
 have e1:zae P (m+1) 12 [.d x] h=none:=by
  show (match exs (zae P m) zaD [some (.d x)] h with
    |some ((.ret r,_),h1)=>fin h false false r h1|some ((.nx,_),h1)=>fin h false false (.d .non) h1
    |_=>none)=none
  have:exs (zae P m) zaD [some (.d x)] h=none:=by simp only[zaD,exs,ex,bnd,e0,if_true]
  rw[this]
 have e2:zae P (m+1) (xof 12) [.d x] h=some (.d (.tup [.int 0,.int 0]),h):=by
  show (match exXs (zae P m) zaD [some (.d x)] h with
     |some (r,h1)=>finX h false false r h1
     |none=>none)=_
  have r0:raN 0 (.d (.int 0)) h=some (.d (.tup [.int 0,.int 0]),h):=rfl
  have:exXs (zae P m) zaD [some (.d x)] h=some (.d (.tup [.int 0,.int 0]),h):=by simp only[zaD,exXs,exX,ex,exs,ev,ok,bnd,e0,if_true,r0]
  rw[this];exact ze6
 have e3:ev (zae P (m+1)) (aR g) [some (.d x),none] h=none:=by simp only[aR,ev,evL,evI,evs,bnd,ok,YX,e1]
 have e4:exs (zae P (m+1)) (bR g) [some (.d x),none] h=none:=by simp only[bR,exs,ex,ev,evs,bnd,e3]
 have e5:exXs (zae P (m+1)) (bR g) [some (.d x),none] h=some (.d (.tup [.int 0,.int 0]),h):=by
  have e6:evs (zae P (m+1)) [aR g] [some (.d x),none] h=none:=by simp only[evs,bnd,e3]
  have e7:evC (zae P (m+1)) (.call 12 [.var 0]) [some (.d x),none] h=some (.d (.tup [.int 0,.int 0]),h):=by simp only[evC,ev,evs,bnd,ok,YX,e2]
  have e8:evX (zae P (m+1)) (.call 13 [aR g]) [some (.d x),none] h=some (.d (.tup [.int 0,.int 0]),h):=by unfold evX;simp only[e6];exact e7
  have e9:ex (zae P (m+1)) (.ret (.call 13 [aR g])) [some (.d x),none] h=none:=by simp only[ex,ev,evs,bnd,e3]
  simp only[bR,exXs,exX,e8,e9]
 refine⟨?_,?_⟩
 ·rw[zhs hf,e4]
 ·rw [zhH hf,e5]
  exact ze6
end
variable {Q:R->Sto->Prop}
def tbL:List (V7×Nat):=[("read_paper",10),("read_deeds",11)]
theorem zcN{f m l:Nat}{x:V7}{h:Sto}{t:D}{k j:Int}(hx:tbL.lookup x=some f)(hl:h[l]?=some (.fnc x))(e1:zae P m f [.d t] h=none)(e2:zae P m (xof f) [.d t] h=some (.d (.tup [.int 0,.int j]),h)):
  zae P (m+1) 28 [.loc l,.d t,.d (.int k)] h=some (.d (.bl (j==k)),h):=by
 show (match exs (zae P m) zbm [some (.loc l),some (.d t),some (.d (.int k)),none,none] h with
    |some ((.ret r,_),h1)=>fin h false false r h1|some ((.nx,_),h1)=>fin h false false (.d .non) h1
    |_=>none)=_
 have ef:fnOf (.loc l) h=some (x,h):=by unfold fnOf;simp only[hl]
 have a1:ev (zae P m) (.cv 0 tbL [.var 1]) [some (.loc l),some (.d t),some (.d (.int k)),none,none] h=none:=by simp only[ev,evs,varM,bnd,ef,hx,opt,ok,YX,X4,e1]
 have a2:evC (zae P m) (.cv 0 tbL [.var 1]) [some (.loc l),some (.d t),some (.d (.int k)),none,none] h=some (.d (.tup [.int 0,.int j]),h):=by simp only[evC,ev,evs,varM,bnd,ef,hx,opt,ok,YX,X4,e2]
 have a3:tryN 0 2 (ev (zae P m) (.cv 0 tbL [.var 1])) (evC (zae P m) (.cv 0 tbL [.var 1])) [some (.loc l),some (.d t),some (.d (.int k)),none,none] h=some ((.ret (.d (.bl (j==k))),[some (.loc l),some (.d t),some (.d (.int k)),none,none]),h):=by simp only[tryN,a1,a2];rfl
 have a4:exs (zae P m) zbm [some (.loc l),some (.d t),some (.d (.int k)),none,none] h=some ((.ret (.d (.bl (j==k))),[some (.loc l),some (.d t),some (.d (.int k)),none,none]),h):=by show bnd (tryN 0 2 (ev (zae P m) (.cv 0 tbL [.var 1])) (evC (zae P m) (.cv 0 tbL [.var 1])) [some (.loc l),some (.d t),some (.d (.int k)),none,none]) _ h=_;simp only[bnd,a3,ok]
 rw[a4];exact zcq
variable {Q:R->Sto->Prop}
def vv(m g:Nat)(w:W):D:=valD (zae P m g [.d (.str w)] [])
theorem Row.val{m g:Nat}{bad:Bool}{w:W}(r:Row m g bad w):(∀h,zae P m g [.d (.str w)] h=some (.d (vv m g w),h))/\(vv m g w).eqb .non=bad:=by
 obtain⟨d,e,q⟩:=r.run
 have:vv m g w=d:=by unfold vv;rw[q []];rfl
 rw[this];exact⟨q,e⟩
theorem zjB:∀{ws:List W},ws≠[]->ws≠[[]]->catS [10] ws≠[]
 | [],h,_=>absurd rfl h
 | [x],_,h=>by
  intro e
  have:catS [10] [x]=x:=by simp[catS]
  rw[this] at e;exact h (by rw[e])
 |x::y::l,_,_=>by
  rw[zc8];intro e
  have:=(List.append_eq_nil_iff.mp (List.append_eq_nil_iff.mp e).2).1
  cases this
structure Tab(f g:Nat)(x:V7)(gw bw:List W):Prop where
 rdr:Rdr f g
 look:tbL.lookup x=some f
 good:∀w∈gw,Row 8 g false w/\Row 9 g false w
 bad:∀w∈bw,Row 8 g true w
 ng:0<gw.length/\gw.length<1000
 nb:0<bw.length/\bw.length<1000
 emp:∀h,zae P 10 f [.d (.str [])] h=some (.d (.lst []),h)
def zsf:List S:=[.ife (.val (.cmp .eq (.var 7) (.lst false (.disp [(.con (.str []))])))) [.ret (.cmp .eq (.cv 1 tbL [(.con (.str []))]) (.lst false (.disp [])))] [],.ret (.call 28 [(.var 1),(.tm .join (.con (.str [10])) [(.var 7)]),(.var 5)])]
theorem wnil{Γ:Calls}{σ:Env}{h:Sto}{Q:Fl×Env->Sto->Prop}(k:Q (.nx,σ) h):wSs Γ [] σ h Q:=k
theorem eqs1:∀ws:List W,D.eqb (.lst (ws.map D.str)) (.lst [.str []])=(ws==[[]])
 | []=>rfl
 | [x]=>by
  show((x==[])&&true)=_
  cases x<;>rfl
 |x::y::l=>by
  show((x==[])&&false)=_;rw[W3]
  cases x<;>rfl
theorem zkz{f g l L:Nat}{x:V7}{gw bw ws:List W}{h t H:Sto}{a b a0 b0 a1 b1 i:Int}{v2 v3 v4 v6 v8:Option R}{Q:R->Sto->Prop}(T:Tab f g x gw bw)(hx:∀a b u,(h++dr a b::(t++u))[l]?=some (.fnc x))(eH:H=h++dr a b::(t++[.lst (ws.map D.str)]))(eL:L=(h++dr a0 b0::t).length)
  (h6:ws.length<=6) (hm:∀v∈ws,v∈gw\/v∈bw) (i0:0<=i) (hb:∃v∈bw,ws[i.toNat]?=some v) (ht:∀v∈ws.take i.toNat,v∈gw) (k:∀a b,Q (.d (.bl true)) (h++dr a b::t)):
  wSs (zae P 10) zsf [some (.loc h.length),some (.loc l),v2,v3,v4,some (.d (.int i)),v6,some (.loc L),v8] H (kF (h++dr a1 b1::t) false false Q):=by
 subst eH eL;obtain⟨v,hv,ev⟩:=hb;have hrow:∀w∈ws,10∉w/\w.length<=1000:=λw hw=>(hm w hw).elim (λz=>⟨(T.good w z).1.no,(T.good w z).1.len⟩) λz=>⟨(T.bad w z).no,(T.bad w z).len⟩;have hrun:∀h,∀w∈ws,zae P 8 g [.d (.str w)] h=some (.d (vv 8 g w),h):=λh w hw=>(hm w hw).elim (λz=>(T.good w z).1.val.1 h) λz=>(T.bad w z).val.1 h;have il:i.toNat<ws.length:=(Z2.mp ev).1
 have hk:(ws.map (vv 8 g)).findIdx? (λy=>y.eqb .non)=some i.toNat:=by
  rw[Yu];refine⟨by simpa using il,?_,λj hj=>?_⟩
  ·rw [List.getElem_map,(Z2.mp ev).2]
   exact(T.bad v hv).val.2
  ·rw [List.getElem_map]
   have:ws[j]∈ws.take i.toNat:=List.mem_take_iff_getElem.mpr ⟨j,by omega,rfl⟩
   rw[(T.good _ (ht _ this)).1.val.2];simp
 ac_rfl;refine st zdg ?_;refine st (show cop .eq (.lst (ws.map D.str)) (.lst [.str []])=some (.bl (ws==[[]])) from ?_) ?_
 ·rw [<-eqs1]
  exact if_pos (decide_eq_true (Zf (U1 _ _) (by decide)))
 refine br (λc=>?_) (λc=>?_)
 ·ac_rfl
  refine st (hx _ _ _) ?_;refine st T.look ?_;refine ask (ofE (T.emp _) ?_);exact f4 (k _ _)
 ·have hne:catS [10] ws≠[]:=zjB (λe=>by rw[e] at il;simp at il) λe=>by rw[e] at c;simp at c
  refine wnil ?_;ac_rfl;refine st zdg ?_
  refine st (zmi (z:=[10]) 1000 (λw hw=>(hrow w hw).2) (by simp only[ZP,YH];omega)) ?_
  obtain⟨e1,e2⟩:=zmx (m:=7) (h:=h++dr a b::(t++[.lst (ws.map D.str)])) T.rdr hrow (by omega) hne (hrun _) hk (by omega);refine ask (ofE (zcN (m:=9) T.look (hx _ _ _) e1 e2) ?_)
  rw[show(((i.toNat:Nat):Int)==i)=true by simp;omega]
  exact f4 (k _ _)
theorem zcX{f g l:Nat}{x:V7}{gw bw:List W}{h t:Sto}{a b:Int}(T:Tab f g x gw bw)(hx:∀a b u,(h++dr a b::(t++u))[l]?=some (.fnc x))(k:∀a b,Q (.d (.bl true)) (h++dr a b::t)):
  Ok (zae P 11 29 [.loc h.length,.loc l,.d (.lst (gw.map D.str)),.d (.lst (bw.map D.str))] (h++dr a b::t)) Q:=by
 refine cl (F:=⟨4,9,zbU,false,[],false,false⟩) rfl rfl rfl ?_;refine ask (zba 9 (by decide) (by decide) λr a1 b1 r0 r1=>?_);refine⟨⟨by omega,by omega⟩,?_⟩;refine ask (zmA (λi ys h'=>∃(ws:List W) (a b:Int),ys=ws.map D.str/\ws.length=i/\(∀w∈ws,w∈gw)/\h'=h++dr a b::t) ?_ ?_ ?_)
 ·rintro i y ys h' hy ⟨ws,a2,b2,rfl,hl,hg,rfl⟩
  refine gc ?_
  refine ask (zba 9 (z:=((gw.map D.str).length:Int)) (by have:=T.ng;simp;omega) (by have:=T.ng;simp[wide];omega) λq a3 b3 q0 q1=>?_)
  obtain⟨w,hw,e⟩:=zjs (l:=gw) q0 (by simpa using q1);refine st e ?_;refine⟨zcu,ws++[w],a3,b3,by simp,by simp[hl],λv hv=>?_,rfl⟩
  rcases Zd.mp hv with z | z
  ·exact hg v z
  ·rw[Yx.mp z];exact hw
 ·rintro ys h' ⟨ws,a2,b2,rfl,hl,hg,rfl⟩
  rw[zey] at hl
  have h1:1<=ws.length:=by omega
  have h6:ws.length<=6:=by omega
  have hrow:∀w∈ws,10∉w/\w.length<=1000:=λw hw=>⟨(T.good w (hg w hw)).1.no,(T.good w (hg w hw)).1.len⟩
  have hne:catS [10] ws≠[]:=by
   refine zjB (λe=>by rw[e] at h1;simp at h1) λe=>?_
   rw[e] at hg;exact(T.good [] (hg [] (by simp))).1.ne rfl rfl
  have hx0:∀a b,(h++dr a b::t)[l]?=some (.fnc x):=λa b=>by
   have:=hx a b []
   rwa [Ym] at this
  refine st (hx0 a2 b2) ?_;refine st T.look ?_
  refine st (zmi (z:=[10]) 1000 (λw hw=>(hrow w hw).2) (by simp only[ZP,YH];omega)) ?_
  refine ask (ofE (zkL T.rdr hrow (by omega) hne (λw hw=>(T.good w (hg w hw)).2.val.1 _) (λw hw=>(T.good w (hg w hw)).2.val.2)) ?_);refine bf (by simp[D.eqb]) ?_
  have zl:((ws.map D.str).length:Int)=ws.length:=by simp
  refine ask (zba 9 (z:=((ws.map D.str).length:Int)) (by omega) (by simp[wide];omega) λi a3 b3 i0 i1=>?_)
  refine ask (zba 9 (z:=((ws.map D.str).length:Int)) (by omega) (by simp[wide];omega) λj a4 b4 j0 j1=>?_)
  ac_rfl;rw[show h++dr a4 b4::t++[Ob.lst (ws.map D.str)]=h++dr a4 b4::(t++[.lst (ws.map D.str)]) by simp]
  refine ask (zba 9 (z:=((bw.map D.str).length:Int)) (by have:=T.nb;simp;omega) (by have:=T.nb;simp[wide];omega) λq a5 b5 q0 q1=>?_)
  obtain⟨w,hw,e⟩:=zjs (l:=bw) q0 (by simpa using q1);refine st e ?_;have bad1:=(T.bad w hw).val
  have im:i.toNat<ws.length:=by omega
  ac_rfl;refine st zdg ?_;refine st (zkA i0 i1) ?_;ac_rfl;rw[zh5,<-List.map_set]
  have hset:∀v∈ws.set i.toNat w,v∈gw\/v∈bw:=λv hv=>by
   rcases Vn hv with z | z
   ·exact .inl (hg v z)
   ·exact .inr (z▸hw)
  refine br (λc=>?_) (λc=>?_)
  ·ac_rfl
   refine ask (zba 9 (z:=((bw.map D.str).length:Int)) (by have:=T.nb;simp;omega) (by have:=T.nb;simp[wide];omega) λq2 a6 b6 q20 q21=>?_)
   obtain⟨w2,hw2,e2⟩:=zjs (l:=bw) q20 (by simpa using q21);have c':=of_decide_eq_true c;refine st e2 ?_;ac_rfl;refine st zdg ?_;refine st (zkA j0 (by simpa using j1)) ?_
   refine zkz (ws:=(ws.set i.toNat w).set j.toNat w2) (a:=a6) (b:=b6) T hx (by rw[zh5];simp only[List.map_set]) rfl (by simpa using h6) (λv hv=>?_) i0 ⟨w,hw,?_⟩ (λv hv=>?_) k
   ·rcases Vn hv with z | z
    ·exact hset v z
    ·exact .inr (z▸hw2)
   ·rw[Zr (by omega),Zs im]
   ·rw [VR (by omega),VR (by omega)] at hv
    exact hg v (Xz hv)
  ·refine wnil ?_
   refine zkz (ws:=ws.set i.toNat w) T hx rfl rfl (by simpa using h6) hset i0 ⟨w,hw,?_⟩ (λv hv=>?_) k
   ·rw[Zs im]
   ·rw [VR (by omega)] at hv
    exact hg v (Xz hv)
 ·exact⟨[],a1,b1,rfl,rfl,λ_ z=>(by cases z),rfl⟩
variable {Q:R->Sto->Prop}
theorem fa3{k:Bool}{x y:D}{h t1 t2 t3:Sto}(e:x.same y=true):Ok (fin h false k (.d x) (h++t1++t2++t3)) λb h1=>b=.d y/\h1=h:=by rw[XA,XA,D.same_eq _ _ e];exact fa ⟨rfl,rfl⟩
theorem zqV(n:Nat){h:Sto}:zae P (n+1) 24 [] h=some (.d (.lst (gS.map D.str)),h):=by have e:D.lst (gS.map D.str)=valD (zae P 3 24 [] []):=D.same_eq _ _ (by decide +kernel);rw[e];refine Ok.eq (cl (F:=⟨0,2,zaT,false,[],false,false⟩) rfl rfl rfl ?_);refine st zas ?_;ac_rfl;refine st zas ?_;ac_rfl;refine st zas ⟨by decide,?_⟩;rw[zcA];ac_rfl;refine st zas ?_;ac_rfl;refine st zas ?_;exact fa3 (by decide +kernel)
theorem zbi{n f:Nat}{rs:List R}{d:D}(hp:pf f=true)(hr:AllD rs)(hb:okB (zae P n f rs [])=true)(hd:(valD (zae P n f rs [])).same d=true)(h:Sto):zae P n f rs h=some (.d d,h):=by rw[run_pure hp hr hb h,D.same_eq _ _ hd]
theorem all0:AllD []:=λr hr=>by cases hr
theorem zrT{h:Sto}:zae P 11 25 [] h=some (.d (.lst (bS.map D.str)),h):=zbi rfl all0 (by decide +kernel) (by decide +kernel) h
theorem zpf{h:Sto}:zae P 11 26 [] h=some (.d (.lst (gD.map D.str)),h):=zbi rfl all0 (by decide +kernel) (by decide +kernel) h
theorem zr8{h:Sto}:zae P 11 27 [] h=some (.d (.lst (bD.map D.str)),h):=zbi rfl all0 (by decide +kernel) (by decide +kernel) h
theorem tabS:Tab 10 14 "read_paper" gS bS:=by have g:=ZQ.mp zra;have b:=ZQ.mp zpi;exact⟨.inl ⟨rfl,rfl⟩,by decide +kernel,λw hw=>⟨zev rfl (an (g w hw)).1,zev rfl (an (g w hw)).2⟩,λw hw=>zev rfl (b w hw),by decide +kernel,by decide +kernel,zbi rfl all1 (by decide +kernel) (by decide +kernel)⟩
theorem tabD:Tab 11 20 "read_deeds" gD bD:=by have g:=ZQ.mp zp1;have b:=ZQ.mp zqY;exact⟨.inr ⟨rfl,rfl⟩,by decide +kernel,λw hw=>⟨zev rfl (an (g w hw)).1,zev rfl (an (g w hw)).2⟩,λw hw=>zev rfl (b w hw),by decide +kernel,by decide +kernel,zbi rfl all1 (by decide +kernel) (by decide +kernel)⟩
theorem zrq{ns:List Int}:cut (ns.map D.int) none (some 24)=(ns.take 24).map D.int:=by rw[zoz];exact congrArg _ (cutN (n:=24))
theorem hxs{h t u:Sto}{a b a' b':Int}{o:Ob}:(h++dr a' b'::(t++[o]++u))[(h++dr a b::t).length]?=some o:=by
 have:h++dr a' b'::(t++[o]++u)=(h++dr a' b'::t)++o::u:=by simp
 rw[this,show(h++dr a b::t).length=(h++dr a' b'::t).length by simp];exact zas
theorem zie{w:W}:(D.str w).eqb (.str w)=true:=beq_self_eq_true w
def sg(ns:List Int)(v1 v2 v3 v4 v5:Option R):Env:=[some (.d (.lst (ns.map D.int))),v1,v2,v3,v4,v5]
theorem zlz{ns:List Int}(kq:Q (.d (.bl true)) [.tab]):Ok (zae P 12 30 [.d (.lst (ns.map D.int))] [.tab]) Q:=by
 refine cl (F:=⟨1,6,zo0,false,[],false,true⟩) rfl rfl rfl ?_;ac_rfl;rw[zrq,List.map_map];refine ask (zqL (g:=dI∘D.int) (xs:=ns.take 24) (λj σ h'=>∃g:Sto,h'=.tab::g/\∃v1 v2 v3 v4 v5,σ=sg ns v1 v2 v3 v4 v5) ?_ ?_ ?_)
 ·rintro j c σ h' hc ⟨g,rfl,v1,v2,v3,v4,v5,rfl⟩
  refine gb ?_;refine ask (zjU 10 λa b=>?_);refine ask (ofE (zqV 10) ?_);refine st rfl ?_;refine ask (ofE zrT ?_);rw[show Ob.tab::g++[dr a b]++[Ob.fnc "read_paper"]=(.tab::g)++dr a b::([]++[.fnc "read_paper"]) by simp];refine ask (zcX tabS (λ_ _ _=>hxs) λa1 b1=>?_);refine ask (ofE zpf ?_);refine st rfl ?_;refine ask (ofE zr8 ?_);rw[show(Ob.tab::g)++dr a1 b1::([]++[.fnc "read_paper"])++[Ob.fnc "read_deeds"]=(.tab::g)++dr a1 b1::(([]++[.fnc "read_paper"])++[.fnc "read_deeds"]) by simp];refine ask (zcX tabD (λ_ _ _=>hxs) λa2 b2=>?_);have mc:=md c (m:=4) (by decide);obtain⟨y,hy,ey⟩:=zjy (xs:=[D.non,.int 5,.lst [.str [104,111,109,101,32,108,97,115,116]],.tup [.str [97,115,107],.int 0,.str [114,101,97,100]]]) mc.1 mc.2
  have hs:isiD .str y=false:=by
   simp only[ZJ,WU,or_false] at hy
   rcases hy with rfl | rfl | rfl | rfl<;>rfl
  refine st ey ?_;refine st rfl ?_;obtain⟨e1,e2⟩:=zfT (m:=8) (h:=((Ob.tab::g)++dr a2 b2::(([]++[.fnc "read_paper"])++[.fnc "read_deeds"]))++[.fnc "read_paper"]) tabS.rdr hs;refine ask (ofE (zcN (m:=10) tabS.look zas e1 e2) ?_);refine st rfl ?_;obtain⟨e3,e4⟩:=zfT (m:=8) (h:=(((Ob.tab::g)++dr a2 b2::(([]++[.fnc "read_paper"])++[.fnc "read_deeds"]))++[.fnc "read_paper"])++[.fnc "read_deeds"]) tabD.rdr hs;refine ask (ofE (zcN (m:=10) tabD.look zas e3 e4) ?_);exact⟨rfl,zcu,_,rfl,_,_,_,_,_,rfl⟩
 ·rintro σ h' ⟨g,rfl,v1,v2,v3,v4,v5,rfl⟩
  have a1:∀h,zae P 11 24 [] h=some (.d (.lst (gS.map D.str)),h):=λh=>zqV 10;have a2:∀h,zae P 11 26 [] h=some (.d (.lst (gD.map D.str)),h):=λh=>zpf;have l1:∀w∈gS,w.length<=1000:=λw hw=>(tabS.good w hw).1.len;have l2:∀w∈gD,w.length<=1000:=λw hw=>(tabD.good w hw).1.len
  have n1:gS.length*(1000+([10]:W).length)<=16777216:=by decide +kernel
  have n2:gD.length*(1000+([10]:W).length)<=16777216:=by decide +kernel
  have c1:∃X,(∀h,zae P 11 10 [.d (.str (catS [10] gS))] h=some (.d X,h))/\∀h,zae P 11 4 [.d X] h=some (.d (.str (catS [10] gS)),h):=⟨_,run_pure rfl all1 (by decide +kernel),zbi rfl all1 (by decide +kernel) (by decide +kernel)⟩;have c2:∃X,(∀h,zae P 11 11 [.d (.str (catS [10] gD))] h=some (.d X,h))/\∀h,zae P 11 8 [.d X] h=some (.d (.str (catS [10] gD)),h):=⟨_,run_pure rfl all1 (by decide +kernel),zbi rfl all1 (by decide +kernel) (by decide +kernel)⟩;generalize gS=wS at a1 l1 n1 c1;generalize gD=wD at a2 l2 n2 c2;obtain⟨X,c1,d1⟩:=c1;obtain⟨Y,c2,d2⟩:=c2;refine ask (ofE (a1 _) ?_);refine st (zmi (z:=[10]) 1000 l1 n1) ?_;refine ask (ofE (a2 _) ?_);refine st (zmi (z:=[10]) 1000 l2 n2) ?_;refine ask (ofE (c1 _) ?_);refine ask (ofE (d1 _) ?_);ac_rfl;refine bt zie ?_;refine ask (ofE (c2 _) ?_);refine ask (ofE (d2 _) ?_);ac_rfl;rw[zie];exact fa (h:=[.tab]) (t:=g) kq
 ·exact⟨[],rfl,_,_,_,_,_,rfl⟩
theorem zmG{ns:List Int}(hl:ns.length<=63):zae P 12 30 [.d (.lst (ns.map .int))] [.tab]=some (.d (.bl true),[.tab]):=by obtain⟨r,h,e,rfl,rfl⟩:=zlz (Q:=λr h=>r=.d (.bl true)/\h=[.tab]) (ns:=ns) ⟨rfl,rfl⟩;exact e
open PySem PySem.Spec L2 IT
def fns:List (Str×Nat×List D):=[(("is_number",2,[]):Str×Nat×List D),(("is_signed_number",2,[]):Str×Nat×List D),(("is_word",1,[]):Str×Nat×List D),(("is_kind",1,[]):Str×Nat×List D),(("paper_text",1,[]):Str×Nat×List D),(("shape_text",1,[]):Str×Nat×List D),(("config_text",1,[]):Str×Nat×List D),(("way_text",1,[]):Str×Nat×List D),(("deeds_text",1,[]):Str×Nat×List D),(("spaced",1,[]):Str×Nat×List D),(("read_paper",1,[]):Str×Nat×List D),(("read_deeds",1,[]):Str×Nat×List D),(("rows_of",1,[]):Str×Nat×List D),(("all_good",1,[]):Str×Nat×List D),(("read_shape",1,[]):Str×Nat×List D),(("are_in_order",1,[]):Str×Nat×List D),(("read_line",1,[]):Str×Nat×List D),(("read_config",1,[]):Str×Nat×List D),(("read_way",1,[]):Str×Nat×List D),(("is_letter",1,[]):Str×Nat×List D),(("read_deed",1,[]):Str×Nat×List D),(("read_ask",2,[]):Str×Nat×List D),(("_law_draw",1,[]):Str×Nat×List D),(("_law_next",2,[]):Str×Nat×List D),(("_law_good_shapes",0,[]):Str×Nat×List D),(("_law_bad_shapes",0,[]):Str×Nat×List D),(("_law_good_deeds",0,[]):Str×Nat×List D),(("_law_bad_deeds",0,[]):Str×Nat×List D),(("_law_refused",3,[]):Str×Nat×List D),(("_law_spoiled",4,[]):Str×Nat×List D),(("law",1,[]):Str×Nat×List D)]
def cls:List zkk:=[]
def globs:List (Str×D):=[("ASKS",(.tup [(.str [114,101,97,100]),(.str [119,114,105,116,101]),(.str [100,114,111,112])])),("COUNTS",(.tup [(.str [111,110,101]),(.str [115,111,109,101]),(.str [97,110,121])])),("FIGURES",(.str [48,49,50,51,52,53,54,55,56,57])),("FIGURES_OF_NUMBER",(.int 40)),("FIGURES_OF_PLACE",(.int 2)),("FLAGS",(.tup [(.str [45]),(.str [115]),(.str [111]),(.str [115,111])])),("LETTER_MARKS",(.tup [(.str [98,97,114,101]),(.str [108,97,115,116]),(.str [111,108,100])])),("MARKS",(.tup [(.str [110,111,110,101]),(.str [108,97,115,116]),(.str [111,108,100])])),("MOST_LETTERS",(.int 8)),("NO_LETTERS",(.str [45])),("SMALL_LETTERS",(.str [97,98,99,100,101,102,103,104,105,106,107,108,109,110,111,112,113,114,115,116,117,118,119,120,121,122])),("WAY_HOLDS",(.int 2))]
def exs:List zcg:=[⟨"BadPaper",["CopyError"],[("BadTable",false),("NoDeed",false),("NoRow",false),("BadPaper",true),("ValueError",true)],true⟩]
def gds:List (Str×List (List Nat×D)):=[]
def bd(n:Nat):Stmt:=PySem.Challenge.pw_copyclerk_k82_rows_that_are_no_shapes.main.body.getD n (.Pass ⟨0,0,0,0⟩)
abbrev Cd(b:List S)(n p:List Str)(s:Stmt)(lm:Bool):Prop:=n.Nodup/\(∀x∈p,(zaf s).names.lookup x=some .local\/(zaf s).names.lookup x=some .cell)/\(∀y∈(zaf s).names,y.2≠.free)/\chkSs b ⟨n,(zaf s).names,fns,globs,true,cls,gds,exs,lm⟩ (zau s)=true
theorem Cd.sc{b:List S}{n p:List Str}{s:Stmt}{lm:Bool}(c:Cd b n p s lm)(h1:(zaf s).kind=.function)(h2:(zaf s).isCoroutine=false)(h3:(zaf s).isGenerator=false)(h4:n.take p.length=p):zaR n p (zaf s):=⟨h1,h2,h3,c.1,h4,c.2.1,c.2.2.1⟩
def zdS:Stmt:=bd 8
def zg1:List Str:=["word", "most", "?1?sign"]
def zbW:List Str:=["word", "most"]
theorem zhg:Cd zdC zg1 zbW zdS false:=by decide +kernel
def zaZ:Stmt:=bd 9
def zb8:List Str:=["word", "most"]
def zaE:List Str:=["word", "most"]
theorem zcb:Cd zaW zb8 zaE zaZ false:=by decide +kernel
def zgp:Stmt:=bd 14
def zkw:List Str:=["text", "?1?sign"]
def zdL:List Str:=["text"]
theorem zi9:Cd zgc zkw zdL zgp false:=by decide +kernel
def zfL:Stmt:=bd 15
def zkC:List Str:=["text"]
def zdn:List Str:=["text"]
theorem zkf:Cd zfV zkC zdn zfL false:=by decide +kernel
def zcT:Stmt:=bd 25
def zgJ:List Str:=["paper", "?1?shape"]
def zbr:List Str:=["paper"]
theorem zge:Cd zc5 zgJ zbr zcT false:=by decide +kernel
def zcR:Stmt:=bd 26
def zgy:List Str:=["shape", "head", "lines", "?1?config", "?1?count"]
def zbv:List Str:=["shape"]
theorem zfQ:Cd zc1 zgy zbv zcR false:=by decide +kernel
def zb7:Stmt:=bd 27
def zfw:List Str:=["config"]
def zbe:List Str:=["config"]
theorem ze0:Cd zcd zfw zbe zb7 false:=by decide +kernel
def zeC:Stmt:=bd 28
def ziM:List Str:=["way", "?1?letter"]
def zcw:List Str:=["way"]
theorem ziu:Cd zer ziM zcw zeC false:=by decide +kernel
def zcQ:Stmt:=bd 29
def zgC:List Str:=["deeds", "?1?deed"]
def zbs:List Str:=["deeds"]
theorem zf6:Cd zc3 zgC zbs zcQ false:=by decide +kernel
def zhO:Stmt:=bd 30
def zlD:List Str:=["parts", "?1?part"]
def ze8:List Str:=["parts"]
theorem zln:Cd zid zlD ze8 zhO false:=by decide +kernel
def zc0:Stmt:=bd 31
def zgD:List Str:=["text", "?1?row"]
def zbu:List Str:=["text"]
theorem zgm:Cd zc6 zgD zbu zc0 false:=by decide +kernel
def zcS:Stmt:=bd 32
def zgt:List Str:=["text", "?1?row"]
def zbB:List Str:=["text"]
theorem zgb:Cd zcY zgt zbB zcS false:=by decide +kernel
def zfG:Stmt:=bd 33
def zjS:List Str:=["text"]
def zdW:List Str:=["text"]
theorem zkd:Cd zaD zjS zdW zfG false:=by decide +kernel
def zep:Stmt:=bd 34
def zi2:List Str:=["things"]
def zcJ:List Str:=["things"]
theorem zis:Cd zaz zi2 zcJ zep false:=by decide +kernel
def zcU:Stmt:=bd 35
def zf2:List Str:=["row", "halves", "head", "lines", "?1?part", "?2?line"]
def zbz:List Str:=["row"]
theorem zf9:Cd zcW zf2 zbz zcU false:=by decide +kernel
def zbH:Stmt:=bd 36
def zee:List Str:=["configs"]
def za3:List Str:=["configs"]
theorem zd5:Cd zbK zee za3 zbH false:=by decide +kernel
def zd0:Stmt:=bd 37
def zgT:List Str:=["part", "words", "config"]
def zbV:List Str:=["part"]
theorem zgM:Cd zdV zgT zbV zd0 false:=by decide +kernel
def zb3:Stmt:=bd 38
def zeQ:List Str:=["words", "to", "back"]
def zbj:List Str:=["words"]
theorem zfc:Cd zck zeQ zbj zb3 false:=by decide +kernel
def zeu:Stmt:=bd 39
def zit:List Str:=["word", "letters", "?1?part", "?2?letter"]
def zcM:List Str:=["word"]
theorem ziL:Cd zeA zit zcM zeu false:=by decide +kernel
def zdu:Stmt:=bd 40
def zg4:List Str:=["letter"]
def zbS:List Str:=["letter"]
theorem zhv:Cd zdt zg4 zbS zdu false:=by decide +kernel
def zds:Stmt:=bd 41
def zgY:List Str:=["row", "words", "hand"]
def zbZ:List Str:=["row"]
theorem zhy:Cd zdX zgY zbZ zds false:=by decide +kernel
def zew:Stmt:=bd 42
def ziG:List Str:=["hand", "words"]
def zcG:List Str:=["hand", "words"]
theorem ziZ:Cd zeD ziG zcG zew false:=by decide +kernel
def zh3:Stmt:=bd 44
def zmS:List Str:=["_law_cell"]
def zfi:List Str:=["_law_cell"]
theorem zlv:Cd zeV zmS zfi zh3 false:=by decide +kernel
def zhU:Stmt:=bd 45
def zmM:List Str:=["_law_draw_here", "_law_size", "_law_digit", "_law_number"]
def zfx:List Str:=["_law_draw_here", "_law_size"]
theorem zmm:Cd zeM zmM zfx zhU false:=by decide +kernel
def zbw:Stmt:=bd 46
def zdA:List Str:=["_law_some", "_law_line"]
def zaQ:List Str:=[]
theorem zdG:Cd zaT zdA zaQ zbw false:=by decide +kernel
def zbL:Stmt:=bd 47
def zd4:List Str:=["_law_line", "_law_some"]
def za4:List Str:=[]
theorem zd9:Cd zbN zd4 za4 zbL false:=by decide +kernel
def zbJ:Stmt:=bd 48
def zec:List Str:=["_law_some"]
def za8:List Str:=[]
theorem zeb:Cd zbI zec za8 zbJ false:=by decide +kernel
def zcf:Stmt:=bd 49
def zeK:List Str:=["_law_some"]
def zbh:List Str:=[]
theorem ze1:Cd zb4 zeK zbh zcf false:=by decide +kernel
def zbn:Stmt:=bd 50
def zdr:List Str:=["_law_reads", "_law_text", "_law_number", "e", "_law_other"]
def zbX:List Str:=["_law_reads", "_law_text", "_law_number"]
theorem zhj:zh2 ⟨zdr,(zaf zbn).names,fns,globs,true,cls,gds,exs,false⟩ ⟨3,5,zbm,false,[],false,false⟩ (zau zbn):=by refine⟨(.cv 0 [("read_paper",10),("read_deeds",11)] [(.var 1)]),0,3,4,2,_, "CopyError", "e", "_law_other", "_law_number", "BadTable", "NoDeed", "NoRow", "BadPaper",_,rfl,rfl,?_,(rfl:exs[0]?=some _),?_⟩<;>decide +kernel
theorem zhA:zaR zdr zbX (zaf zbn):=⟨rfl,rfl,rfl,by decide +kernel,rfl,by decide +kernel,by decide +kernel⟩
def zdi:Stmt:=bd 51
def zg2:List Str:=["_law_draw_here", "_law_reads", "_law_good", "_law_bad", "_law_rows", "_law_at", "_law_later", "_law_worse", "?1?_law_k"]
def zbQ:List Str:=["_law_draw_here", "_law_reads", "_law_good", "_law_bad"]
theorem zhk:Cd zbU zg2 zbQ zdi false:=by decide +kernel
def zq7:Stmt:=bd 52
def zrG:List Str:=["_law_script", "_law_cell", "_law_draw_here", "_law_shapes", "_law_deeds", "_law_other"]
def zoH:List Str:=["_law_script"]
theorem zsc:Cd zo0 zrG zoH zq7 true:=by decide +kernel
def zaX:Stmt:=zo8 (bd 3) 0
theorem zf8:zaR ["self", "number"] ["self", "number"] (zaf zaX):=⟨rfl,rfl,rfl,by decide +kernel,rfl,by decide +kernel,by decide +kernel⟩
inductive DI(K:Z7)(n:Str)(s:Stmt)(dV:Value)(f:Addr)(v:FuncData):Prop|mk {oc kV dc pm cd ct:Value} {od an:Option Addr} {sl:Array (Option Value)} (a:ZS K mainGlobals n=some (some (.ref f))) (l:K.lookup f=some ⟨oc,od,.func v,sl⟩) (e:v=Ya n n (zbk s) (zau s) (zaf s) dV kV dc pm an cd ct) (c:Xm K cd n=true) (k:Y0 K (.ref f)=true)
section
variable {K:Z7}{n q:Str}{s:Stmt}{dV:Value}{f C:Addr}{v:FuncData}{N ps:List Str}{i:Nat}{B:F}(h5:(zaf s).kind=.function)(h6:(zaf s).isCoroutine=false)(h7:(zaf s).isGenerator=false)(h8:N.take ps.length=ps)(e:P[i]?=some B)(h1:B.np=ps.length)(h2:B.ns=N.length)(h3:B.dfl=[])(c:Cd B.body N ps s B.lam)
include h5 h6 h7 h8 e h1 h2 h3 c
theorem dat0(hq:B.lam=true->q="law")(F:Fun2 K n q s f v)(h:∀us:List Value,us.length=ps.length->UA v ⟨us,[]⟩=pure (ps.zip us)):zdR K fns cls P globs gds exs i n q s f v N ps B:=
 ⟨e, F,c.sc h5 h6 h7 h8,h1,h2,by
  rw[h3]
  exact ⟨[],λ_ _=>.nil,λj hj=>by
   obtain rfl:j=0:=Nat.le_zero.mp hj
   exact⟨[],.all h,.nil⟩⟩,.inl c.2.2.2,hq⟩
theorem DI.dat(hq:B.lam=true->n="law")(D:DI K n s .none f v)(h:∀kV dc pm an cd ct,∀us:List Value,us.length=ps.length->UA (Ya n n (zbk s) (zau s) (zaf s) .none kV dc pm an cd ct) ⟨us,[]⟩=pure (ps.zip us)):zdR K fns cls P globs gds exs i n n s f v N ps B:=by obtain⟨_,l,E,c',k⟩:=D;subst E;exact dat0 h5 h6 h7 h8 e h1 h2 h3 c hq (zkp l c' k) (h _ _ _ _ _ _)
end
section
variable {K:Z7}{n q:Str}{s:Stmt}{dV:Value}{f C:Addr}{v:FuncData}
theorem DI.datT{N ps:List Str}{i:Nat}{B:F}(e:P[i]?=some B)(h1:B.np=ps.length)(h2:B.ns=N.length)(h3:B.dfl=[])(sc:zaR N ps (zaf s))(y:zh2 ⟨N,(zaf s).names,fns,globs,true,cls,gds,exs,B.lam⟩ B (zau s))(hq:B.lam=true->n="law")(D:DI K n s .none f v)(h:∀kV dc pm an cd ct,∀us:List Value,us.length=ps.length->UA (Ya n n (zbk s) (zau s) (zaf s) .none kV dc pm an cd ct) ⟨us,[]⟩=pure (ps.zip us)):zdR K fns cls P globs gds exs i n n s f v N ps B:=by
 obtain⟨_,l,E,c',k⟩:=D;subst E
 exact ⟨e,zkp l c' k,sc,h1,h2,by
  rw[h3]
  exact ⟨[],λ_ _=>.nil,λj hj=>by
   obtain rfl:j=0:=Nat.le_zero.mp hj
   exact⟨[],.all (h _ _ _ _ _ _),.nil⟩⟩,.inr y,hq⟩
theorem DI.a(D:DI K n s dV f v):ZS K mainGlobals n=some (some (.ref f)):=by obtain⟨a,_,_,_,_⟩:=D;exact a
theorem DI.mg{mg:Str->Option Value}{h:Heap}(D:DI K n s dV f v)(X:K.In h)(G:h.Ns mainGlobals mg):mg n=some (.ref f):=by obtain⟨a,_,_,_,_⟩:=D;exact Zm X G a
end
inductive DL(K:Z7):Nat->List F->List Addr->List FuncData->List (List Str)->Prop|nil (i:Nat):DL K i [] [] [] []|cons {i:Nat} {B:F} {Bs:List F} {f:Addr} {fs:List Addr} {v:FuncData} {vs:List FuncData} {p:List Str} {ps:List (List Str)} {x q:Str} {st:Stmt} {N:List Str} (d:zdR K fns cls P globs gds exs i x q st f v N p B) (r:DL K (i+1) Bs fs vs ps):DL K i (B::Bs) (f::fs) (v::vs) (p::ps)
theorem DL.get{K:Z7}{v0:FuncData}{B:F}{i:Nat}{Bs:List F}{fs:List Addr}{vs:List FuncData}{ps:List (List Str)}(L:DL K i Bs fs vs ps):∀j,Bs[j]?=some B->∃x q st N,zdR K fns cls P globs gds exs (i+j) x q st (fs.getD j 0) (vs.getD j v0) N (ps.getD j []) B:=by
 induction L with
 |nil i=>intro j e;simp at e
 | cons d r ih=>
  intro j e
  cases j with|zero=>cases e;exact⟨_,_,_,_,d⟩|succ j=>obtain⟨x,q,st,N,z⟩:=ih j (by simpa using e);rw[Nat.add_right_comm] at z;exact⟨x,q,st,N,z⟩
inductive FL(mg:Str->Option Value):List (Str×Nat×List D)->List Addr->List F->Prop|nil (fs:List Addr) (Bs:List F):FL mg [] fs Bs|cons {p:Str×Nat×List D} {ps:List (Str×Nat×List D)} {f:Addr} {fs:List Addr} {B:F} {Bs:List F} (h:mg p.1=some (.ref f)) (h1:B.np=p.2.1) (h2:B.dfl=p.2.2) (r:FL mg ps fs Bs):FL mg (p::ps) (f::fs) (B::Bs)
theorem FL.get{mg:Str->Option Value}{p:Str×Nat×List D}{ps:List (Str×Nat×List D)}{fs:List Addr}{Bs:List F}(L:FL mg ps fs Bs):∀j,ps[j]?=some p->mg p.1=some (.ref (fs.getD j 0))/\∃B,Bs[j]?=some B/\B.np=p.2.1/\B.dfl=p.2.2:=by
 induction L with
 |nil=>intro j e;simp at e
 |cons h h1 h2 r ih=>
  intro j e
  cases j with|zero=>cases e;exact⟨h,_,rfl,h1,h2⟩|succ j=>exact ih j (by simpa using e)
theorem all_mk{l:UC}{w:World}{K:Z7}{h:Heap}{mg:Str->Option Value}{fa f1 f2 f3 f4 f5 f6 f7 f8 f9 f10 f11 f12 f13 f14 f15 f16 f17 f18 f19 f20 f21 f22 f23 f24 f25 f26 f27 f28 f29 f30 f31 ga0 ga1 ga2 ga3 ga4:Addr}(X:K.In h)(G:h.Ns mainGlobals mg)(hfa:mg "law"=some (.ref fa))
  {gs1 gs2 gs3 gs4 gs5:Array (Option Value)} {v1 v2 v3 v4 v5 v6 v7 v8 v9 v10 v11 v12 v13 v14 v15 v16 v17 v18 v19 v20 v21 v22 v23 v24 v25 v26 v27 v28 v29 v30 v31:FuncData}
  {Qd Qc Qe Qi Qj xN_BadPaper:Addr}
  {xnm_BadPaper xq_BadPaper:Str} {xbs_BadPaper xsub_BadPaper:List Value} {xab_BadPaper:Bool} {xsn_BadPaper:List Str} {xcol_BadPaper:Option Bool} {xdd_BadPaper:Option Addr} {xk0_BadPaper xk1_BadPaper xk2_BadPaper xk3_BadPaper xk5_BadPaper:Option Value}
  {yc_CopyError:Value} {yd_CopyError:Option Addr} {ycd_CopyError:ClassData} {ys_CopyError:Array (Option Value)}
  {fI_BadPaper:Addr} {odI anI:Option Addr} {ocI kVI dcI pmI cdI ctI:Value} {slI:Array (Option Value)}
  {tk0 tk1 tk2 tk3 tk4 tk5 tk6 tk7 tk8 tk9 tk10 tk11 tk12 tk13 tk14 tk15 tk16 tk17 tk18 tk19 tk20 tk21 tk22:Tok}
  {gn1 gn2 gn3 gn4 gn5:Nat}
  (D1:DI K "is_number" zdS .none f1 v1)
  (D2:DI K "is_signed_number" zaZ .none f2 v2)
  (D3:DI K "is_word" zgp .none f3 v3)
  (D4:DI K "is_kind" zfL .none f4 v4)
  (D5:DI K "paper_text" zcT .none f5 v5)
  (D6:DI K "shape_text" zcR .none f6 v6)
  (D7:DI K "config_text" zb7 .none f7 v7)
  (D8:DI K "way_text" zeC .none f8 v8)
  (D9:DI K "deeds_text" zcQ .none f9 v9)
  (D10:DI K "spaced" zhO .none f10 v10)
  (D11:DI K "read_paper" zc0 .none f11 v11)
  (D12:DI K "read_deeds" zcS .none f12 v12)
  (D13:DI K "rows_of" zfG .none f13 v13)
  (D14:DI K "all_good" zep .none f14 v14)
  (D15:DI K "read_shape" zcU .none f15 v15)
  (D16:DI K "are_in_order" zbH .none f16 v16)
  (D17:DI K "read_line" zd0 .none f17 v17)
  (D18:DI K "read_config" zb3 .none f18 v18)
  (D19:DI K "read_way" zeu .none f19 v19)
  (D20:DI K "is_letter" zdu .none f20 v20)
  (D21:DI K "read_deed" zds .none f21 v21)
  (D22:DI K "read_ask" zew .none f22 v22)
  (D23:DI K "_law_draw" zh3 .none f23 v23)
  (D24:DI K "_law_next" zhU .none f24 v24)
  (D25:DI K "_law_good_shapes" zbw .none f25 v25)
  (D26:DI K "_law_bad_shapes" zbL .none f26 v26)
  (D27:DI K "_law_good_deeds" zbJ .none f27 v27)
  (D28:DI K "_law_bad_deeds" zcf .none f28 v28)
  (D29:DI K "_law_refused" zbn .none f29 v29)
  (D30:DI K "_law_spoiled" zdi .none f30 v30)
  (D31:DI K "law" zq7 .none f31 v31)
  (y1:K.lookup ga0=some ⟨.type "tuple",none,.seq #[(.str (Z0 "read") tk0),(.str (Z0 "write") tk1),(.str (Z0 "drop") tk2)] gn1,gs1⟩)
  (x0:ZS K mainGlobals "ASKS"=some (some (.ref ga0)))
  (y2:K.lookup ga1=some ⟨.type "tuple",none,.seq #[(.str (Z0 "one") tk3),(.str (Z0 "some") tk4),(.str (Z0 "any") tk5)] gn2,gs2⟩)
  (x1:ZS K mainGlobals "COUNTS"=some (some (.ref ga1)))
  (x2:ZS K mainGlobals "FIGURES"=some (some (.str (Z0 "0123456789") tk6)))
  (x3:ZS K mainGlobals "FIGURES_OF_NUMBER"=some (some (.int 40 tk7)))
  (x4:ZS K mainGlobals "FIGURES_OF_PLACE"=some (some (.int 2 tk8)))
  (y3:K.lookup ga2=some ⟨.type "tuple",none,.seq #[(.str (Z0 "-") tk9),(.str (Z0 "s") tk10),(.str (Z0 "o") tk11),(.str (Z0 "so") tk12)] gn3,gs3⟩)
  (x5:ZS K mainGlobals "FLAGS"=some (some (.ref ga2)))
  (y4:K.lookup ga3=some ⟨.type "tuple",none,.seq #[(.str (Z0 "bare") tk13),(.str (Z0 "last") tk14),(.str (Z0 "old") tk15)] gn4,gs4⟩)
  (x6:ZS K mainGlobals "LETTER_MARKS"=some (some (.ref ga3)))
  (y5:K.lookup ga4=some ⟨.type "tuple",none,.seq #[(.str (Z0 "none") tk16),(.str (Z0 "last") tk17),(.str (Z0 "old") tk18)] gn5,gs5⟩)
  (x7:ZS K mainGlobals "MARKS"=some (some (.ref ga4)))
  (x8:ZS K mainGlobals "MOST_LETTERS"=some (some (.int 8 tk19)))
  (x9:ZS K mainGlobals "NO_LETTERS"=some (some (.str (Z0 "-") tk20)))
  (x10:ZS K mainGlobals "SMALL_LETTERS"=some (some (.str (Z0 "abcdefghijklmnopqrstuvwxyz") tk21)))
  (x11:ZS K mainGlobals "WAY_HOLDS"=some (some (.int 2 tk22)))
  (Qf:ZS K mainGlobals "BadPaper"=some (some (.ref Qd)))
  (q1_BadPaper:K.lookup Qd=some (Wr xnm_BadPaper xq_BadPaper Qd xN_BadPaper xbs_BadPaper (.ref Qc::veM) true xsn_BadPaper xsub_BadPaper xab_BadPaper xcol_BadPaper xdd_BadPaper xk0_BadPaper xk1_BadPaper xk2_BadPaper xk3_BadPaper xk5_BadPaper "ValueError.__new__"))
  (Qb:Y8 K (.ref Qd) "__setattr__"=some (some (.builtin "object.__setattr__"))) (tk_BadPaper:PySem.W.takerIn K Qd "number"=some none) (kp_BadPaper:Y0 K (.ref Qd)=true) (no_BadPaper:Y8 K (.ref Qd) "number"=some none) (fi_BadPaper:Y8 K (.ref Qd) "__init__"=some (some (.ref fI_BadPaper))) (ti_BadPaper:Vr K (.ref fI_BadPaper)=some (.type "function"))
  (lI_BadPaper:K.lookup fI_BadPaper=some ⟨ocI,odI,.func (Ya "__init__" "BadPaper.__init__" (zbk zaX) (zau zaX) (zaf zaX) .none kVI dcI pmI anI cdI ctI),slI⟩) (cI_BadPaper:Xm K cdI "BadPaper.__init__"=true) (kI_BadPaper:Y0 K (.ref fI_BadPaper)=true)
  (b1_CopyError:PySem.W.specialIn K (.ref Qc) "__getattribute__"=some (some (.builtin "type.__getattribute__"))) (b2_CopyError:PySem.W.readsIn K Qc (.type "type")=true) (b3_CopyError:PySem.W.findCls K (.ref Qc) (.type "type") "__init__"=some (.val (.builtin "ValueError.__init__")))
  (q4_CopyError:K.lookup Qc=some ⟨yc_CopyError,yd_CopyError,.cls ycd_CopyError,ys_CopyError⟩) (q5_CopyError:Uw K ycd_CopyError.ns=true) (q6_CopyError:ZS K ycd_CopyError.ns "__init__"=some none)
  (Qa:ZS K mainGlobals "CopyError"=some (some (.ref Qc)))
  (Qg:ZS K mainGlobals "BadTable"=some (some (.ref Qe)))
  (Qh:ZS K mainGlobals "NoDeed"=some (some (.ref Qi)))
  (Qk:ZS K mainGlobals "NoRow"=some (some (.ref Qj)))
  (qz_ValueError:ZS K mainGlobals "ValueError"=some none)
  (q8_BadPaper_CopyError:WZ K (.ref Qd) (.ref Qc)=some true)
  (qk_BadPaper_BadTable:Y7 K (.ref Qd) (.ref Qe)=some false)
  (qk_BadPaper_NoDeed:Y7 K (.ref Qd) (.ref Qi)=some false)
  (qk_BadPaper_NoRow:Y7 K (.ref Qd) (.ref Qj)=some false)
  (qk_BadPaper_BadPaper:Y7 K (.ref Qd) (.ref Qd)=some true)
  (qk_BadPaper_ValueError:Y7 K (.ref Qd) (.type "ValueError")=some true)
  (qa_BadPaper:Y8 K (.ref Qd) "__getattribute__"=some (some (.builtin "BaseException.__getattribute__"))) (qb_BadPaper:Y8 K (.ref Qd) "__getattr__"=some none) (qc_BadPaper:Y8 K (.ref Qd) "__class__"=some (some (.builtin "object.__class__"))) (qd_BadPaper:PySem.W.mroIn K Qd (.type "BaseException")=some true) (qe_BadPaper:PySem.W.mroIn K Qd (.type "object")=some true) (qf_BadPaper:Vj K Qd=true)
  (z1:ZS K mainGlobals "len"=some none)
  (z2:ZS K mainGlobals "sum"=some none)
  (z3:ZS K mainGlobals "tuple"=some none)
  (z4:ZS K mainGlobals "int"=some none)
  (z5:ZS K mainGlobals "range"=some none)
  (z6:ZS K mainGlobals "all"=some none)
  (z7:ZS K mainGlobals "any"=some none)
  (z8:ZS K mainGlobals "max"=some none)
  (z9:ZS K mainGlobals "min"=some none)
  (z10:ZS K mainGlobals "list"=some none)
  (z11:ZS K mainGlobals "isinstance"=some none)
  (z12:ZS K mainGlobals "str"=some none)
  (z13:ZS K mainGlobals "bool"=some none)
  (z14:ZS K mainGlobals "dict"=some none)
  (z15:ZS K mainGlobals "enumerate"=some none)
  (z16:ZS K mainGlobals "sorted"=some none)
  (z17:ZS K mainGlobals "set"=some none)
  : ∃fd:FuncData,(∀(s:Shared) (v:Value),Uv s fd ⟨[v],[]⟩ [("_law_script",v)])/\∀base:Heap,K.In base->base.Ns mainGlobals mg->BtAt mg base->FnOk l.prog w K mg base CX0 25 fa fd ["_law_script"] (spF K 1 (zae P 12 30)):=by
 have e:=hfa.symm.trans (D31.mg X G);cases e
 have blt:∀x∈zco,mg x=none:=by
  intro x hx;simp only[zco,ZJ,WU,or_false] at hx
  rcases hx with rfl | rfl | rfl | rfl | rfl | rfl | rfl | rfl | rfl | rfl | rfl | rfl | rfl | rfl | rfl | rfl | rfl
  ·exact Zv X G z1
  ·exact Zv X G z2
  ·exact Zv X G z3
  ·exact Zv X G z4
  ·exact Zv X G z5
  ·exact Zv X G z6
  ·exact Zv X G z7
  ·exact Zv X G z8
  ·exact Zv X G z9
  ·exact Zv X G z10
  ·exact Zv X G z11
  ·exact Zv X G z12
  ·exact Zv X G z13
  ·exact Zv X G z14
  ·exact Zv X G z15
  ·exact Zv X G z16
  ·exact Zv X G z17
 have gl:∀(x:Str) (d:D),globs.lookup x=some d->∃u v,mg x=some u/\RelV v u/\∀A H,RepD K A H d v:=by
  intro x d e;unfold globs at e;rw[Zq] at e
  split at e
  ·rename_i hx
   have hx:=ZX hx;subst hx;cases e
   exact⟨_,(V.ref ga0),Zm X G x0,rfl,λA H=>by simp only[RepD];exact⟨ga0,[(V.str (Z0 "read")),(V.str (Z0 "write")),(V.str (Z0 "drop"))],rfl,.inr ⟨_,_,_,y1,rfl,rfl,rfl,by show 3<=sizeLine;decide,(.cons ⟨_,rfl⟩ (.cons ⟨_,rfl⟩ (.cons ⟨_,rfl⟩ .nil)))⟩,(.cons (by simp only[RepD];rfl) (.cons (by simp only[RepD];rfl) (.cons (by simp only[RepD];rfl) .nil)))⟩⟩
  rw[Zq] at e
  split at e
  ·rename_i hx
   have hx:=ZX hx;subst hx;cases e
   exact⟨_,(V.ref ga1),Zm X G x1,rfl,λA H=>by simp only[RepD];exact⟨ga1,[(V.str (Z0 "one")),(V.str (Z0 "some")),(V.str (Z0 "any"))],rfl,.inr ⟨_,_,_,y2,rfl,rfl,rfl,by show 3<=sizeLine;decide,(.cons ⟨_,rfl⟩ (.cons ⟨_,rfl⟩ (.cons ⟨_,rfl⟩ .nil)))⟩,(.cons (by simp only[RepD];rfl) (.cons (by simp only[RepD];rfl) (.cons (by simp only[RepD];rfl) .nil)))⟩⟩
  rw[Zq] at e
  split at e
  ·rename_i hx
   have hx:=ZX hx;subst hx;cases e
   exact⟨_,(V.str (Z0 "0123456789")),Zm X G x2,⟨_,rfl⟩,λA H=>by simp only[RepD];rfl⟩
  rw[Zq] at e
  split at e
  ·rename_i hx
   have hx:=ZX hx;subst hx;cases e;exact⟨_,(V.int 40),Zm X G x3,⟨_,rfl⟩,λA H=>by simp only[RepD]⟩
  rw[Zq] at e
  split at e
  ·rename_i hx
   have hx:=ZX hx;subst hx;cases e;exact⟨_,(V.int 2),Zm X G x4,⟨_,rfl⟩,λA H=>by simp only[RepD]⟩
  rw[Zq] at e
  split at e
  ·rename_i hx
   have hx:=ZX hx;subst hx;cases e
   exact⟨_,(V.ref ga2),Zm X G x5,rfl,λA H=>by simp only[RepD];exact⟨ga2,[(V.str (Z0 "-")),(V.str (Z0 "s")),(V.str (Z0 "o")),(V.str (Z0 "so"))],rfl,.inr ⟨_,_,_,y3,rfl,rfl,rfl,by show 4<=sizeLine;decide,(.cons ⟨_,rfl⟩ (.cons ⟨_,rfl⟩ (.cons ⟨_,rfl⟩ (.cons ⟨_,rfl⟩ .nil))))⟩,(.cons (by simp only[RepD];rfl) (.cons (by simp only[RepD];rfl) (.cons (by simp only[RepD];rfl) (.cons (by simp only[RepD];rfl) .nil))))⟩⟩
  rw[Zq] at e
  split at e
  ·rename_i hx
   have hx:=ZX hx;subst hx;cases e
   exact⟨_,(V.ref ga3),Zm X G x6,rfl,λA H=>by simp only[RepD];exact⟨ga3,[(V.str (Z0 "bare")),(V.str (Z0 "last")),(V.str (Z0 "old"))],rfl,.inr ⟨_,_,_,y4,rfl,rfl,rfl,by show 3<=sizeLine;decide,(.cons ⟨_,rfl⟩ (.cons ⟨_,rfl⟩ (.cons ⟨_,rfl⟩ .nil)))⟩,(.cons (by simp only[RepD];rfl) (.cons (by simp only[RepD];rfl) (.cons (by simp only[RepD];rfl) .nil)))⟩⟩
  rw[Zq] at e
  split at e
  ·rename_i hx
   have hx:=ZX hx;subst hx;cases e
   exact⟨_,(V.ref ga4),Zm X G x7,rfl,λA H=>by simp only[RepD];exact⟨ga4,[(V.str (Z0 "none")),(V.str (Z0 "last")),(V.str (Z0 "old"))],rfl,.inr ⟨_,_,_,y5,rfl,rfl,rfl,by show 3<=sizeLine;decide,(.cons ⟨_,rfl⟩ (.cons ⟨_,rfl⟩ (.cons ⟨_,rfl⟩ .nil)))⟩,(.cons (by simp only[RepD];rfl) (.cons (by simp only[RepD];rfl) (.cons (by simp only[RepD];rfl) .nil)))⟩⟩
  rw[Zq] at e
  split at e
  ·rename_i hx
   have hx:=ZX hx;subst hx;cases e;exact⟨_,(V.int 8),Zm X G x8,⟨_,rfl⟩,λA H=>by simp only[RepD]⟩
  rw[Zq] at e
  split at e
  ·rename_i hx
   have hx:=ZX hx;subst hx;cases e
   exact⟨_,(V.str (Z0 "-")),Zm X G x9,⟨_,rfl⟩,λA H=>by simp only[RepD];rfl⟩
  rw[Zq] at e
  split at e
  ·rename_i hx
   have hx:=ZX hx;subst hx;cases e
   exact⟨_,(V.str (Z0 "abcdefghijklmnopqrstuvwxyz")),Zm X G x10,⟨_,rfl⟩,λA H=>by simp only[RepD];rfl⟩
  rw[Zq] at e
  split at e
  ·rename_i hx
   have hx:=ZX hx;subst hx;cases e;exact⟨_,(V.int 2),Zm X G x11,⟨_,rfl⟩,λA H=>by simp only[RepD]⟩
  cases e
 let exA:List Addr:=[Qd]
 let addr:Nat->Addr:=λn=>[f1,f2,f3,f4,f5,f6,f7,f8,f9,f10,f11,f12,f13,f14,f15,f16,f17,f18,f19,f20,f21,f22,f23,f24,f25,f26,f27,f28,f29,f30,fa].getD n 0
 let psOf:Nat->List Str:=λn=>[zbW,zaE,zdL,zdn,zbr,zbv,zbe,zcw,zbs,ze8,zbu,zbB,zdW,zcJ,zbz,za3,zbV,zbj,zcM,zbS,zbZ,zcG,zfi,zfx,zaQ,za4,za8,zbh,zbX,zbQ,zoH].getD n []
 let fdOf:Nat->FuncData:=λn=>[v1,v2,v3,v4,v5,v6,v7,v8,v9,v10,v11,v12,v13,v14,v15,v16,v17,v18,v19,v20,v21,v22,v23,v24,v25,v26,v27,v28,v29,v30,v31].getD n v1
 have T:Txt w K mg fns cls P globs gds exs exA addr fdOf psOf:=by
  refine⟨λfi B e=>?_,blt,gl,λfi p e=>?_,?_,?_,?_,λfi B e hl=>?_,λc x e hn=>?_,λc x e hn=>?_,by decide⟩
  ·have L:DL K 0 P [f1,f2,f3,f4,f5,f6,f7,f8,f9,f10,f11,f12,f13,f14,f15,f16,f17,f18,f19,f20,f21,f22,f23,f24,f25,f26,f27,f28,f29,f30,fa] [v1,v2,v3,v4,v5,v6,v7,v8,v9,v10,v11,v12,v13,v14,v15,v16,v17,v18,v19,v20,v21,v22,v23,v24,v25,v26,v27,v28,v29,v30,v31] [zbW,zaE,zdL,zdn,zbr,zbv,zbe,zcw,zbs,ze8,zbu,zbB,zdW,zcJ,zbz,za3,zbV,zbj,zcM,zbS,zbZ,zcG,zfi,zfx,zaQ,za4,za8,zbh,zbX,zbQ,zoH]:=.cons (DI.dat rfl rfl rfl rfl rfl rfl rfl rfl zhg (λz=>by cases z) D1 λ_ _ _ _ _ _=>us2 λ_ _=>rfl) (.cons (DI.dat rfl rfl rfl rfl rfl rfl rfl rfl zcb (λz=>by cases z) D2 λ_ _ _ _ _ _=>us2 λ_ _=>rfl) (.cons (DI.dat rfl rfl rfl rfl rfl rfl rfl rfl zi9 (λz=>by cases z) D3 λ_ _ _ _ _ _=>us1 λ_=>rfl) (.cons (DI.dat rfl rfl rfl rfl rfl rfl rfl rfl zkf (λz=>by cases z) D4 λ_ _ _ _ _ _=>us1 λ_=>rfl) (.cons (DI.dat rfl rfl rfl rfl rfl rfl rfl rfl zge (λz=>by cases z) D5 λ_ _ _ _ _ _=>us1 λ_=>rfl) (.cons (DI.dat rfl rfl rfl rfl rfl rfl rfl rfl zfQ (λz=>by cases z) D6 λ_ _ _ _ _ _=>us1 λ_=>rfl) (.cons (DI.dat rfl rfl rfl rfl rfl rfl rfl rfl ze0 (λz=>by cases z) D7 λ_ _ _ _ _ _=>us1 λ_=>rfl) (.cons (DI.dat rfl rfl rfl rfl rfl rfl rfl rfl ziu (λz=>by cases z) D8 λ_ _ _ _ _ _=>us1 λ_=>rfl) (.cons (DI.dat rfl rfl rfl rfl rfl rfl rfl rfl zf6 (λz=>by cases z) D9 λ_ _ _ _ _ _=>us1 λ_=>rfl) (.cons (DI.dat rfl rfl rfl rfl rfl rfl rfl rfl zln (λz=>by cases z) D10 λ_ _ _ _ _ _=>us1 λ_=>rfl) (.cons (DI.dat rfl rfl rfl rfl rfl rfl rfl rfl zgm (λz=>by cases z) D11 λ_ _ _ _ _ _=>us1 λ_=>rfl) (.cons (DI.dat rfl rfl rfl rfl rfl rfl rfl rfl zgb (λz=>by cases z) D12 λ_ _ _ _ _ _=>us1 λ_=>rfl) (.cons (DI.dat rfl rfl rfl rfl rfl rfl rfl rfl zkd (λz=>by cases z) D13 λ_ _ _ _ _ _=>us1 λ_=>rfl) (.cons (DI.dat rfl rfl rfl rfl rfl rfl rfl rfl zis (λz=>by cases z) D14 λ_ _ _ _ _ _=>us1 λ_=>rfl) (.cons (DI.dat rfl rfl rfl rfl rfl rfl rfl rfl zf9 (λz=>by cases z) D15 λ_ _ _ _ _ _=>us1 λ_=>rfl) (.cons (DI.dat rfl rfl rfl rfl rfl rfl rfl rfl zd5 (λz=>by cases z) D16 λ_ _ _ _ _ _=>us1 λ_=>rfl) (.cons (DI.dat rfl rfl rfl rfl rfl rfl rfl rfl zgM (λz=>by cases z) D17 λ_ _ _ _ _ _=>us1 λ_=>rfl) (.cons (DI.dat rfl rfl rfl rfl rfl rfl rfl rfl zfc (λz=>by cases z) D18 λ_ _ _ _ _ _=>us1 λ_=>rfl) (.cons (DI.dat rfl rfl rfl rfl rfl rfl rfl rfl ziL (λz=>by cases z) D19 λ_ _ _ _ _ _=>us1 λ_=>rfl) (.cons (DI.dat rfl rfl rfl rfl rfl rfl rfl rfl zhv (λz=>by cases z) D20 λ_ _ _ _ _ _=>us1 λ_=>rfl) (.cons (DI.dat rfl rfl rfl rfl rfl rfl rfl rfl zhy (λz=>by cases z) D21 λ_ _ _ _ _ _=>us1 λ_=>rfl) (.cons (DI.dat rfl rfl rfl rfl rfl rfl rfl rfl ziZ (λz=>by cases z) D22 λ_ _ _ _ _ _=>us2 λ_ _=>rfl) (.cons (DI.dat rfl rfl rfl rfl rfl rfl rfl rfl zlv (λz=>by cases z) D23 λ_ _ _ _ _ _=>us1 λ_=>rfl) (.cons (DI.dat rfl rfl rfl rfl rfl rfl rfl rfl zmm (λz=>by cases z) D24 λ_ _ _ _ _ _=>us2 λ_ _=>rfl) (.cons (DI.dat rfl rfl rfl rfl rfl rfl rfl rfl zdG (λz=>by cases z) D25 λ_ _ _ _ _ _=>us0 rfl) (.cons (DI.dat rfl rfl rfl rfl rfl rfl rfl rfl zd9 (λz=>by cases z) D26 λ_ _ _ _ _ _=>us0 rfl) (.cons (DI.dat rfl rfl rfl rfl rfl rfl rfl rfl zeb (λz=>by cases z) D27 λ_ _ _ _ _ _=>us0 rfl) (.cons (DI.dat rfl rfl rfl rfl rfl rfl rfl rfl ze1 (λz=>by cases z) D28 λ_ _ _ _ _ _=>us0 rfl) (.cons (DI.datT rfl rfl rfl rfl zhA zhj (λz=>by cases z) D29 λ_ _ _ _ _ _=>us3 λ_ _ _=>rfl) (.cons (DI.dat rfl rfl rfl rfl rfl rfl rfl rfl zhk (λz=>by cases z) D30 λ_ _ _ _ _ _=>us4 λ_ _ _ _=>rfl) (.cons (DI.dat rfl rfl rfl rfl rfl rfl rfl rfl zsc (λ_=>rfl) D31 λ_ _ _ _ _ _=>us1 λ_=>rfl) (.nil _)))))))))))))))))))))))))))))))
   have z:=DL.get (v0:=v1) L fi e;rw[Nat.zero_add] at z;exact z
  ·exact FL.get (show FL mg fns [f1,f2,f3,f4,f5,f6,f7,f8,f9,f10,f11,f12,f13,f14,f15,f16,f17,f18,f19,f20,f21,f22,f23,f24,f25,f26,f27,f28,f29,f30,fa] P from .cons (D1.mg X G) rfl rfl (.cons (D2.mg X G) rfl rfl (.cons (D3.mg X G) rfl rfl (.cons (D4.mg X G) rfl rfl (.cons (D5.mg X G) rfl rfl (.cons (D6.mg X G) rfl rfl (.cons (D7.mg X G) rfl rfl (.cons (D8.mg X G) rfl rfl (.cons (D9.mg X G) rfl rfl (.cons (D10.mg X G) rfl rfl (.cons (D11.mg X G) rfl rfl (.cons (D12.mg X G) rfl rfl (.cons (D13.mg X G) rfl rfl (.cons (D14.mg X G) rfl rfl (.cons (D15.mg X G) rfl rfl (.cons (D16.mg X G) rfl rfl (.cons (D17.mg X G) rfl rfl (.cons (D18.mg X G) rfl rfl (.cons (D19.mg X G) rfl rfl (.cons (D20.mg X G) rfl rfl (.cons (D21.mg X G) rfl rfl (.cons (D22.mg X G) rfl rfl (.cons (D23.mg X G) rfl rfl (.cons (D24.mg X G) rfl rfl (.cons (D25.mg X G) rfl rfl (.cons (D26.mg X G) rfl rfl (.cons (D27.mg X G) rfl rfl (.cons (D28.mg X G) rfl rfl (.cons (D29.mg X G) rfl rfl (.cons (D30.mg X G) rfl rfl (.cons (D31.mg X G) rfl rfl (.nil _ _)))))))))))))))))))))))))))))))) fi e
  ·intro ci hc
   unfold cls at hc;simp at hc
  ·intro ci hc
   unfold cls at hc;simp at hc
  ·intro ci hc
   unfold cls at hc;simp at hc
  ·match fi,e with|0,e=>cases e;cases hl|1,e=>cases e;cases hl|2,e=>cases e;cases hl|3,e=>cases e;cases hl|4,e=>cases e;cases hl|5,e=>cases e;cases hl|6,e=>cases e;cases hl|7,e=>cases e;cases hl|8,e=>cases e;cases hl|9,e=>cases e;cases hl|10,e=>cases e;cases hl|11,e=>cases e;cases hl|12,e=>cases e;cases hl|13,e=>cases e;cases hl|14,e=>cases e;cases hl|15,e=>cases e;cases hl|16,e=>cases e;cases hl|17,e=>cases e;cases hl|18,e=>cases e;cases hl|19,e=>cases e;cases hl|20,e=>cases e;cases hl|21,e=>cases e;cases hl|22,e=>cases e;cases hl|23,e=>cases e;cases hl|24,e=>cases e;cases hl|25,e=>cases e;cases hl|26,e=>cases e;cases hl|27,e=>cases e;cases hl|28,e=>cases e;cases hl|29,e=>cases e;cases hl|30,e=>cases e;exact D31.a|n+31,e=>exact absurd (Z2.mp e).1 (by show ¬(n+31<31);omega)
  ·unfold exs at e
   match c,e with
   | 0,e=>
    cases e;have xn:ExcN K Qd:=⟨⟨_,_,_,_,_,_,_,_,_,_,_,_,_,_,_,q1_BadPaper,λh Xh=>(zmQ Xh q4_CopyError q5_CopyError q6_CopyError .base)⟩,Qb,tk_BadPaper,kp_BadPaper⟩
    exact ⟨Qd,Zm X G Qf,rfl,xn,⟨⟨⟨qa_BadPaper,qb_BadPaper,qc_BadPaper,qd_BadPaper,qe_BadPaper⟩,qf_BadPaper,⟨_,_,_,_,q1_BadPaper⟩⟩,no_BadPaper⟩,⟨(λy hy=>by
     simp only[ZJ,WU,or_false] at hy
     rcases hy with rfl
     ·exact⟨Qc,Zm X G Qa,q8_BadPaper_CopyError⟩),
    .inr ⟨⟨qa_BadPaper,qb_BadPaper,qc_BadPaper,qd_BadPaper,qe_BadPaper⟩,qf_BadPaper,⟨_,_,_,_,q1_BadPaper⟩⟩,
    (fun p hp=>by
     simp only[ZJ,WU,or_false] at hp
     rcases hp with rfl | rfl | rfl | rfl | rfl
     ·exact .own Qe (Zm X G Qg) qk_BadPaper_BadTable
     ·exact .own Qi (Zm X G Qh) qk_BadPaper_NoDeed
     ·exact .own Qj (Zm X G Qk) qk_BadPaper_NoRow
     ·exact .own Qd (Zm X G Qf) qk_BadPaper_BadPaper
     ·exact .blt "ValueError" (Zv X G qz_ValueError) (by decide +kernel) (by decide) qk_BadPaper_ValueError)⟩,
     fI_BadPaper,_,fi_BadPaper,ti_BadPaper,λP base=>zlG (k:=0) (F:=⟨⟨_,_,_,_,_,_,_,_,_,rfl,lI_BadPaper,cI_BadPaper⟩,kI_BadPaper⟩) zf8 rfl (by decide) (by decide) rfl rfl (Zm X G Qa) ⟨b1_CopyError,b2_CopyError,b3_CopyError⟩ xn (λenv=>rfl),.all (us2 λ_ _=>rfl)⟩
   |n+1,e=>exact absurd (Z2.mp e).1 (by show ¬(n+1<1);omega)
  ·unfold exs at e
   match c,e with|0,e=>cases e;cases hn|n+1,e=>exact absurd (Z2.mp e).1 (by show ¬(n+1<1);omega)
 obtain⟨_,_,E,_,_⟩:=D31;subst E;exact⟨_,λs v=>.of_eq rfl,λbase _ _ bt=>zor T bt 12 30 _ rfl⟩
def zn6(K:Z7)(Pt:Addr):Bool:=match za6 K with|some c=>Yf K c Pt&&(K.lookup Pt).isNone|none=>false
theorem zkD{K:Z7}{Pt:Addr}(h:zn6 K Pt=true):K.lookup Pt=none/\∃c,za6 K=some c/\Yf K c Pt=true:=by
 unfold zn6 at h
 cases e:za6 K with|none=>rw[e] at h;cases h|some c=>rw[e] at h;simp only[Z8,Vo] at h;exact⟨h.2,c,rfl,h.1⟩
theorem walk{l:UC}{q:ZB}{loose:List Str}{XP:(Str->Option Value)->Heap->Prop}{YP:World->Heap->Prop}{d:DefRec}{K:Params->Z7}{Pt:Addr}(hn:l.most=some 63)(hdf:d.params.defaults=[])
  (hY:∀(w:World) (h:Heap),YP w h->(K w.params).In h/\h.get? Pt=some (XJ #[])) (hT:∀w:World,zn6 (K w.params) Pt=true)
  (F:∀(w:World) (mg:Str->Option Value) (fa:Addr) (h:Heap),(K w.params).In h->h.Ns mainGlobals mg->mg d.name=some (.ref fa) →
   ∃fd:FuncData,(∀(s:Shared) (u:Value),Uv s fd ⟨[u],[]⟩ [("_law_script",u)])/\∀base:Heap,(K w.params).In base->base.Ns mainGlobals mg->BtAt mg base->FnOk l.prog w (K w.params) mg base CX0 25 fa fd ["_law_script"] (spF (K w.params) 1 (zae P 12 30))):
  PySem.W.WalkO q loose XP YP l.row.toRowW d [] (λf vs=>PySem.call f vs):=
 zsb (n:=63) (k:=25) (x:="_law_script") (Pt:=Pt) (sp:=λw=>spF (K w.params) 1 (zae P 12 30)) hn (by decide) hdf ⟨rfl,by decide,by decide⟩ hY (λw=>(zkD (hT w)).1) (λw=>(zkD (hT w)).2) F
  fun w _ _ ns hl hH hS=>let ⟨_,_,hc,hd⟩:=zkD (hT w);zi4 hH hc hd hS (zmG hl)
end K82
open PySem PySem.W PyProof.Rows
inductive PySem.W.Fast:Prop|tw9466927203914280098|tw16143945117422462630|tw1980986609302613343|tw13630666606735020970|tw7678455348570573685|tw12777936680245093659|tw10385450761709089075|tw8955463980595826136|tw15803314440089937775|tw5343225144159979070|tw17656485356754440851|tw1854019339815544980|tw16869339263990238478|tw16588161094986827743|tw9479357200336285359|tw8225238462687854773|tw8940784226823425883|tw16427125947315532311|tw16144209891995291104|tw9462831994647768922|tw11308159935473400262|tw11410361583633897895|tw5594353491347600211|tw7853098306302768887|tw9913025980552735305|tw12652600324604511507|tw8541728654880173925|tw2545531624777578646|tw3101060045955068543|tw4015748034282564074|tw10238856700030949276|tw15372443862056364077|tw1485449384043802059|tw489862914549717953|tw15766203629948077413|tw5068950109346184231|tw9575240959333945811|tw17178441958146049047|tw5416141605754276935|tw5506071093512484952|tw7742343658482608157|tw8975294993726065238|tw14948538492434010024|tw3377577405279734807|tw7505699260375739647|tw17798238137446516409|tw11939746965557036448|tw8733974380641684208|tw16897797774129613567|tw16938811667266075499|tw11500622095028355449|tw3514903812504241258|tw10232207207554386332|tw8628083572094439266|tw6429510721565905154|tw2963390456929891395|tw15492120532024949318|tw3821731620551273193|tw11493288089302985221|tw10877109130727992302|tw11369232685652532410|tw12708426158588800231|tw374851046997227963|tw15981168982530550143|tw2609435876579100916|tw2551916701171099382|tw4663685549536854110|tw14225637650042083305|tw9382775004765128347|tw9258956130241905271|tw11309550286836842245|tw305026723565955887|tw16478757301036235812|tw10929261869012136746|tw6704261175794940953|tw10208246536496058015|tw3761216286804348291|tw3648956867621275799|tw12081632317693106922|tw8050955102887287009|tw7352091987570921211|tw2392449242204799052|tw8779450769248195377|tw7396949056669571646|tw16983441439797455928|tw2584800034079044924|tw9332299204382089557|tw13180747530833234366|tw7001026585171820925|tw9708129653745318590|tw14990111824868060527|tw1980174998558264272|tw2505476280233301460|tw11482663694307113525|tw12394592151812911966|tw17985855722624076256|tw10435246224774616612|tw16240424190317946028|tw3926140490242639741|tw7004270328735393237|tw12593833806607079466|tw2296848049985398086|tw12182494811495053610|tw12139898089653035902|tw10557137784654534340|tw7479558453169652680|tw940672455870364248|tw2965035997251603108|tw18146804430527795716|tw1177539565912548739|tw21530039817090365|tw9306838121031696567|tw15144735539187136744|tw16024856822793983709|tw7674566970766766608|tw12140699187767166927|tw1068556607749969334|tw15911940911003135943|tw6936091583452859904|tw12752784160674400873|tw4205637193654929064|tw5401207145481292472|tw12584251079852452292|tw5568455644170289127|tw18156159899101340659|tw12221202199943722470|tw2994132186214961351|tw12070530274571908639|tw679826288795854613|tw7016511302286715414|tw6304733060208314067|tw6385123927945984150|tw5073339061477603069|tw9888644507304793332|tw13926991004195074325|tw8497762340824830859|tw10412791282847700414|tw14890408762465588235|tw16206797754368431020|tw11809056496625490662|tw18286856857994935622|tw6138423525071138892|tw115726843376488855|tw3788733860973094136|tw4657417395272405184|tw13351240826752457922|tw11684266378917890782|tw8517405947315383930|tw1378522448655503759|tw13682952118528542606|tw3842114007344333286|tw4176100287493360184|tw947768162733686637|tw9315590508187692131|tw6482540181601140684|tw8398427667696339093|tw13607731292487662903|tw10329704939584173322|tw3117863683182495011|tw6542894060234903612|tw11886533207384746223|tw16681086438800235763|tw1609832953014049181|tw1136518587096353823|tw4665258584160350672|tw12620518189772434248|tw6884014702210927169|tw1540032747583338135|tw7233010643096785737|tw303626935034503391|tw17063888214996878316|tw14209153588367261452|tw2730271394305397311|tw9719970839452075989|tw6662176144040037663|tw9282015989154976271|tw12351134591833988669|tw9512361414419877804|tw7918324981085961758|tw9622504063987820483|tw9833814731270126531|tw11635942954771605497|tw10904559855268013417|tw2868483990843705499|tw11476004997886186452|tw16750257801885848013|tw7608286003949374183|tw10984296432026638632|tw17429992245532725948|tw2034214774036613638|tw1907793414492587937|tw30729451070033482|tw17635562644897370258|tw7748253506235375553|tw9433488031383734891|tw17948711595841238161|tw500746742425655775|tw11791688303567076408|tw7641145278640080650|tw2899202043022895696|tw1378752133159458637|tw7527049697772181967|tw12892798949201068528|tw6475149994398916976|tw9107632907074364132|tw2213280206652531238|tw1140993872847241863|tw16200568913325798232|tw14262278989686616800|tw9699700051908118750|tw4581590006495235889|tw16755130810571482532|tw3515228132810872329|tw4875976735624244408|tw18146469343975534627|tw7726662615951349187|tw8411981672806280382|tw8676735192331501971|tw8715306191090669977|tw14720823326981156794|tw6168102166104414282|tw3625238477420113680|tw4254017515431649054|tw18212999321094251606|tw13005895012182542937|tw4720041048020655980|tw12334036280809276821|tw11567123168048114853|tw4303832033060072505|tw13222874235957995363|tw13189409326706383008|tw7427363943508733629|tw17995246132774523792|tw3556606247698206800|tw333788547792252243|tw1407722052893022382|tw11384984697580232372|tw4714467272764885136|tw14185637979234288847|tw1157958591572321052|tw10947569448298246946|tw12662713484244588055|tw17533300989512322003|tw9718324099114825382|tw2097680855973133145|tw14073637959620703281|tw150112429839615747|tw3024450992305845155|tw18163529650718591262|tw17381530081202688571|tw7683510372139500730|tw11752126619573116436|tw12101675153083822707|tw12360046894646688457|tw7685412263778708317|tw6916156210612707650|tw6895354573818181723|tw11622235824814678814|tw9180286135862193390|tw14857422800727692128|tw8521644082838551365|tw406212362414355516|tw183193197098360012|tw14313216111230399671|tw9774750606974202076|tw15817596366168152725|tw8787681551667772049|tw3316774522003669901|tw12631151262341750878|tw14527433907128186382|tw15684043756783563950|tw879593370757336551|tw7313981569880019701|tw8074209799634651649
set_option maxRecDepth 100000 in
set_option maxHeartbeats 0 in
theorem PySem.Challenge.cw_copyclerk_k82_rows_that_are_no_shapes_holds : PySem.Challenge.rw_copyclerk_k82_rows_that_are_no_shapes.Holds := by
 w_on;o_law;km_head;(case hw=>w_witness2)
 k_fill
 refine K82.walk (l:=X7) rfl rfl (λw h Y=>⟨km_in_of Y,km_tabs_of Y _ (ZK ..)⟩) (λw=>by kernel_rfl) ?F
 case F=>
  intro w mg fa h KX G hmg
  refine' K82.all_mk KX G hmg ?D1 ?D2 ?D3 ?D4 ?D5 ?D6 ?D7 ?D8 ?D9 ?D10 ?D11 ?D12 ?D13 ?D14 ?D15 ?D16 ?D17 ?D18 ?D19 ?D20 ?D21 ?D22 ?D23 ?D24 ?D25 ?D26 ?D27 ?D28 ?D29 ?D30 ?D31 ?y1 ?x0 ?y2 ?x1 ?x2 ?x3 ?x4 ?y3 ?x5 ?y4 ?x6 ?y5 ?x7 ?x8 ?x9 ?x10 ?x11 ?Qf ?q1_BadPaper ?Qb ?tk_BadPaper ?kp_BadPaper ?no_BadPaper ?fi_BadPaper ?ti_BadPaper ?lI_BadPaper ?cI_BadPaper ?kI_BadPaper ?b1_CopyError ?b2_CopyError ?b3_CopyError ?q4_CopyError ?q5_CopyError ?q6_CopyError ?Qa ?Qg ?Qh ?Qk ?qz_ValueError ?q8_BadPaper_CopyError ?qk_BadPaper_BadTable ?qk_BadPaper_NoDeed ?qk_BadPaper_NoRow ?qk_BadPaper_BadPaper ?qk_BadPaper_ValueError ?qa_BadPaper ?qb_BadPaper ?qc_BadPaper ?qd_BadPaper ?qe_BadPaper ?qf_BadPaper ?z1 ?z2 ?z3 ?z4 ?z5 ?z6 ?z7 ?z8 ?z9 ?z10 ?z11 ?z12 ?z13 ?z14 ?z15 ?z16 ?z17
  (case Qf=>k_is)
  (case Qa=>k_is)
  (case Qg=>k_is)
  (case Qh=>k_is)
  (case Qk=>k_is)
  all_goals(try(apply K82.DI.mk (e:=rfl)<;>k_is))
  (case q1_BadPaper=>k_is)
  (case Qb=>(first | k_is | kernel_rfl))
  (case tk_BadPaper=>(first | k_is | kernel_rfl))
  (case kp_BadPaper=>(first | k_is | kernel_rfl))
  (case no_BadPaper=>(first | k_is | kernel_rfl))
  (case fi_BadPaper=>(first | k_is | kernel_rfl))
  (case ti_BadPaper=>(first | k_is | kernel_rfl))
  (case lI_BadPaper=>k_is)
  (case cI_BadPaper=>(first | k_is | kernel_rfl))
  (case kI_BadPaper=>(first | k_is | kernel_rfl))
  (case b1_CopyError=>(first | k_is | kernel_rfl))
  (case b2_CopyError=>(first | k_is | kernel_rfl))
  (case b3_CopyError=>(first | k_is | kernel_rfl))
  (case q4_CopyError=>k_is)
  (case q5_CopyError=>kernel_rfl)
  (case q6_CopyError=>k_is)
  (case qz_ValueError=>(first | k_is | kernel_rfl))
  (case q8_BadPaper_CopyError=>(first | k_is | kernel_rfl))
  (case qk_BadPaper_BadTable=>(first | k_is | kernel_rfl))
  (case qk_BadPaper_NoDeed=>(first | k_is | kernel_rfl))
  (case qk_BadPaper_NoRow=>(first | k_is | kernel_rfl))
  (case qk_BadPaper_BadPaper=>(first | k_is | kernel_rfl))
  (case qk_BadPaper_ValueError=>(first | k_is | kernel_rfl))
  (case qa_BadPaper=>(first | k_is | kernel_rfl))
  (case qb_BadPaper=>(first | k_is | kernel_rfl))
  (case qc_BadPaper=>(first | k_is | kernel_rfl))
  (case qd_BadPaper=>(first | k_is | kernel_rfl))
  (case qe_BadPaper=>(first | k_is | kernel_rfl))
  (case qf_BadPaper=>(first | k_is | kernel_rfl))
  (case x0=>k_is)
  (case y1=>k_is)
  (case x1=>k_is)
  (case y2=>k_is)
  (case x2=>k_is)
  (case x3=>k_is)
  (case x4=>k_is)
  (case x5=>k_is)
  (case y3=>k_is)
  (case x6=>k_is)
  (case y4=>k_is)
  (case x7=>k_is)
  (case y5=>k_is)
  (case x8=>k_is)
  (case x9=>k_is)
  (case x10=>k_is)
  (case x11=>k_is)
  (case z1=>k_is)
  (case z2=>k_is)
  (case z3=>k_is)
  (case z4=>k_is)
  (case z5=>k_is)
  (case z6=>k_is)
  (case z7=>k_is)
  (case z8=>k_is)
  (case z9=>k_is)
  (case z10=>k_is)
  (case z11=>k_is)
  (case z12=>k_is)
  (case z13=>k_is)
  (case z14=>k_is)
  (case z15=>k_is)
  (case z16=>k_is)
  (case z17=>k_is)
