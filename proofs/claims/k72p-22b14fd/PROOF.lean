import PyProof.Rows.All
import Wide.All
import OpenK.AllK
import Wide.FinOn
import Lean
import PyProof.EqAt
import PyProof.EqKinds
import PyProof.TupleCall
import PyProof.Rows.TupTab
import PyProof.DictRoadsH
import PyProof.MeetsStr2
import PyProof.StrLawsTight
import PyProof.StrBlockI
import KE.KIntText
import PyProof.StrWalks
import PyProof.EnumMake
import KE.KIsAll
import KE.KRevSl
import PyProof.Rows.FactsN_isinstance
import KE.KDictOf
import PyProof.AttrMiss
import PyProof.WalksMore
import PyProof.FactsAll.tuple
import PyProof.ListRange
import PyProof.Rows.TupDisplay
import PyProof.DictDisplay
import KE.KRevIter
import KE.KDictList
import PyProof.Rows.FactsT2
import PySem.Challenge.RW_copyclerk_k72_runs_that_break_found
set_option Elab.async false
set_option autoImplicit true
set_option relaxedAutoImplicit true
set_option linter.all false
set_option genSizeOfSpec false
set_option maxHeartbeats 8000000
set_option maxRecDepth 100000
local macro_rules | `(tactic|ac_rfl)=>`(tactic|conv=>whnf)
local macro_rules | `(tactic|omega)=>`(tactic|with_reducible first|assumption|exact Nat.succ_le_of_lt (by assumption)|exact Nat.le_of_lt (by assumption)|exact Nat.zero_le _|exact Nat.lt_of_lt_of_le (by assumption) (by assumption)|exact Nat.le_trans (by assumption) (by assumption)|exact Nat.succ_le_succ (by assumption)|fail)
local macro_rules |`(def $i:declId $s:optDeclSig $v:declVal)=>`(noncomputable def $i:declId $s:optDeclSig $v:declVal)
local macro_rules |`(abbrev $i:declId $s:optDeclSig $v:declVal)=>`(noncomputable abbrev $i:declId $s:optDeclSig $v:declVal)
open Array renaming length_toList->Yz,getElem?_eq_getElem->Ww
open Bool renaming and_eq_true->Z8,false_eq_true->ZN,not_eq_true'->ZC,true_and->Za,false_and->Y1,or_eq_true->YY,false_ne_true->Yo,and_false->X6,and_true->Wj,eq_iff_iff->V0
open False renaming elim->YW
open ForInStep renaming yield->YD
open Int renaming toNat_natCast->ZD,emod_lt_of_pos->Zt,emod_nonneg->Zm,toNat_of_nonneg->XE,min_eq_left->V3,le_refl->VX
open LawfulBEq renaming eq_of_beq->ZV
open List renaming getElem?_eq_some_iff->Z9,getElem?_eq_getElem->Z6,length_map->Z3,size_toArray->ZX,replicate->ZU,length_append->ZS,getElem?_append_left->ZR,mem_cons->ZP,append_assoc->ZO,mem_of_getElem?->ZM,getElem?_append_right->ZK,getElem?_map->ZF,mem_append_right->ZE,map_cons->ZB,lookup_cons->ZA,range->Zy,drop_eq_getElem_cons->Zv,length_cons->Zu,mem_cons_of_mem->Zr,not_mem_nil->Zq,map_append->Zp,getElem?_set_self->Zl,getElem?_eq_none->Zh,getElem?_set_ne->Zf,append_nil->Zc,replicate_succ->Y8,map_map->Y7,getElem?_cons_succ->Y6,flatten_cons->Y2,getElem?_take_of_lt->Y0,mem_append->YZ,all_eq_true->YS,drop_of_length_le->YO,getD_eq_getElem?_getD->YN,mem_cons_self->YL,mem_singleton->YJ,find?_cons->YC,filterMap_cons->YA,getElem_of_mem->Yx,drop_eq_nil_of_le->Yu,cons_append->Yr,length_take->Yq,take_length->Yp,set_append_right->Yl,mem_append_left->Yh,mem_map->Yf,getElem?_range->Ya,drop_zero->X5,any_eq_true->X4,mem_filter->X0,drop_length->XH,mem_of_find?_eq_some->XF,nodup_cons->Xx,length_nil->Xv,lookup->Xp,length->Xo,any_map->Xc,reverse_cons->Xa,take_add_one->W8,contains_iff_mem->W6,length_drop->W2,getElem_mem->W0,length_set->WP,foldl_cons->WO,mem_or_eq_of_mem_set->Wv,ext_getElem?->Wq,length_range->Wn,all_cons->Wm,mem_flatten->Wf,filter_cons->We,isEmpty_map->Wd,of_mem_zip->V4,forIn_cons->VZ
open Nat renaming le_refl->Z2,lt_of_lt_of_le->ZL,le_trans->ZJ,ne_of_lt->ZH,zero_le->Zz,succ_le_succ->YU,lt_succ_self->YK,lt_irrefl->YI,lt_succ_of_lt->YF,le_succ->Ys,min_le_right->X7,ne_of_gt->X3,lt_of_le_of_lt->X1,le_of_ble_eq_true->XX,le_succ_of_le->XR,le_of_lt->Xl,lt_trans->Xb,sub_self->WG,min_eq_right->Wg,min_eq_left->V2
open Nat.succ renaming inj->WH
open Ne renaming symm->Yw
open Option renaming map_eq_some_iff->Zk,isSome_iff_exists->XC,isNone_iff_eq_none->Wx
open Option.some renaming injEq->Z5,inj->ZZ
open Prod.mk renaming injEq->Z1
open PyProof.Rows renaming slot_tuple_getitem->Zi,callWith_type1->YR,boot_isinstance->WM,AllBare->Ws
open PySem renaming wpAny_bind->Z4,wpAny_pure->ZY,starEach->ZW,mainGlobals->ZQ,Program->Zs,Spec->Zo,assignEach->Zn,compareOp->Zg,keywordEach->Y9,compEnvC->Y5,wpAny_mono->YX,wpAny_Call_Name_kw->YV,binaryOp->YT,attributeBase->YQ,Builtin->YG,backToKw->Yy,behindInMarks->Yt,wpAny_passesOwn->Yi,foldedSetIterable->Yg,wpAny_holding->Ye,mem_of_lookup->Yb,NameKind->X8,wpAny_callSpecialIfBoundUnlessNone?_slot->XY,wpAny_truthy_bool->XW,Keyword->XU,wpAny_newObj_type->XT,sizeLine_eq->XN,bootBuiltins->XJ,UnaryOp->XA,wpAny_specialOf->Xz,standAt->Xy,wpAny_loadPart'->Xw,wpAny_rule->Xu,call_meets->Xr,swapsWith->Xq,codeAny->Xg,BoolOp->W9,wpAny_call_entry->W4,wpAny_standAt->WX,swapsWithSole->WW,swappedStores->WV,plainId_quiet->WT,callSpecialIfBoundUnlessNone?->WS,letOwnedTupleGo->WR,codeAny_builtin->WN,codeAny_mono->WJ,getMethod->WF,Str->WE,eqIsQuiet_byValue->Wu,wpAny_pyIter_list->Wo,PassesOwn->Wi,Operator->Wh,sysModules->Wa,Within->V9,BindsTo->V8,wpAny_typeOf->V7,wpAny_execs_nil->V6,getItem->VW,callerA->VV,typeLookup->VU,callWith->VT
open PySem.Around renaming under_plainId->XM
open PySem.BindsTo renaming of_defaults->Y4
open PySem.Builtin renaming bitAnd->Xi,bitOr->Wl
open PySem.Builtin.List renaming listTooLong->Yc,listExtendWith->XS,listLengthHint->WI
open PySem.Builtin.Slice renaming slicePlaces->Yj,sliceAdjust->XG,sliceApplied->Wz
open PySem.Builtin.Tuple renaming tupleHashOf->Yk,tupleExact->Yd,tupleItemsOf->XO
open PySem.Calls renaming Name_function_global->WD,spliced_cons->WB,spliced_nil->Wr
open PySem.Challenge renaming rw_copyclerk_k72_runs_that_break_found->YB
open PySem.F renaming slot_NoneType_hash->XQ,slot_tuple_mul->XI,args_tuple_add_2->XB,entry_tuple_add->Xn,plainAttrs_list->Xm,slot_tuple_hash->Xk,slot_tuple_add->Xe,plain_any_loop->WZ,plain_all_loop->WY,args_tuple_mul_2->Wy,entry_tuple_mul->Wp
open PySem.Heap renaming get?_push_of_some->Z0,lt_size->ZT,get?_push_size->Zw,get?_update_other->Yv,SameBut->Xj,get?_update_self->W7,size_push->VY
open PySem.NameKind renaming free->WU
open PySem.Obj renaming mapSeq->Ym
open PySem.Paired renaming length->XD
open PySem.SeqAt renaming EqAt->Yn,RcAt->X2,RcNeAt->Xd
open PySem.Str renaming ofString->Ze,ofString->YH
open PySem.Value renaming ref->YM,bool->Xt,type->Xs,none->W5
open PySem.W renaming Frag->Z7,nsIn->ZI,findIn->ZG,fnOf->Zx,mg_of->Zj,mg_none_of->Zd,keepIn->Zb,emptyDict->Y3,instObj->YE,plainGet->X9,kia_one->XZ,hasDictIn->XV,kitOne->XL,plainOver->Xh,codeIn->Xf,makesIn->WQ,plainGet_of->WL,isFn->WK,lookIn->WC,callWith_K->WA,methodObj->Wt,takerIn->V5,OpenLaw->V1
open Sum renaming inl->Wc,inr->Wb
open True renaming intro->W3
namespace IT
open PySem
inductive D where|non|bl (b:Bool)|int (i:Int)|str (x:List Nat)|tup (xs:List D)|lst (xs:List D)
mutual
noncomputable def D.eqb:D->D->Bool
 |.non,y=>match y with | .non=>true | _=>false
 |.bl a,y=>match y with | .bl b=>a==b | .int b=>(if a then 1 else 0)==b | _=>false
 |.int a,y=>match y with | .int b=>a==b | .bl b=>a==(if b then 1 else 0) | _=>false
 |.str a,y=>match y with | .str b=>a==b | _=>false
 |.tup a,y=>match y with | .tup b=>D.eqbs a b | _=>false
 |.lst a,y=>match y with | .lst b=>D.eqbs a b | _=>false
noncomputable def D.eqbs:List D->List D->Bool
 | [],ys=>match ys with | []=>true | _=>false
 |a::r,ys=>match ys with | b::t=>D.eqb a b&&D.eqbs r t | _=>false
end
mutual
noncomputable def D.dep:D->Nat|.tup xs=>D.deps xs+1|.lst xs=>D.deps xs+1|.non | .bl _ | .int _ | .str _=>0
noncomputable def D.deps:List D->Nat| []=>0|x::xs=>max (D.dep x) (D.deps xs)
end
def zf2(a b:D):Bool:=decide (min a.dep b.dep<=60)
inductive R where|d (x:D)|loc (l:Nat)
inductive Ob where|lst (xs:List D)|fro (xs:List D)|ins (c:Str) (fs:List (Str×R))|ols (ls:List Nat)|dic (kvs:List (D×D))|tpl (x:D) (l:Nat) (z:D)
def Ob.items:Ob->List D|.lst xs=>xs|.fro xs=>xs|.ins _ _=>[]|.ols _=>[]|.dic _=>[]|.tpl _ _ _=>[]
def Ob.isL:Ob->Bool|.lst _=>true|.fro _=>true|_=>false
inductive Ite where|r (x:R)|en (i:Int) (x:R)
abbrev dI(x:D):Ite:=.r (.d x)
abbrev Sto:=List Ob
abbrev M(α:Type):=Sto->Option (α×Sto)
def ok{α:Type}(a:α):M α:=λh=>some (a,h)
def bnd{α β:Type}(x:M α)(f:α->M β):M β:=λh=>match x h with|some (a,h1)=>f a h1|none=>none
theorem zae{α:Type}{z:α}{P:Prop}(e:none=some z):P:=by cases e
def rd:R->M D
 |.d x=>ok x
 |.loc l=>λh=>match h[l]? with
  |some o=>if o.isL then some (.lst o.items,h) else none|none=>none
def fz:R->M D
 |.d x=>ok x
 |.loc l=>λh=>match h[l]? with
  |some o=>if o.isL then some (.lst o.items,h.set l (.fro o.items)) else none|none=>none
inductive Bo where|add | sub | mul | fdiv | mod | band | bor
inductive Co where|eq | ne | lt | le | gt | ge | isin | notin | isN | isnotN
inductive Bi where|len | tuple | int | all | any
inductive Me where|append | extend
inductive Ty where|list | tuple
inductive Lm where|count
inductive Tg where|name (i:Nat)|tup (ts:List Tg)
set_option genInjectivity false
mutual
inductive E where|con (d:D)|var (i:Nat)|bin (o:Bo) (a b:E)|neg (a:E)|cmp (o:Co) (a b:E)|and (a b:E)|or (a b:E)|not (a:E)|ife (c:T) (a b:E)|tup (es:List E)|lst (m:Bool) (l:L)|idx (a i:E)|sli (a lo hi:E)|call (f:Nat) (es:List E)|bi (b:Bi) (es:List E)|me (m:Me) (o:E) (es:List E)|glo (d:D)|isi (t:Ty) (e:E)|lm (m:Lm) (o a:E)|fld (o:E) (f:Str)|make (c:Str) (f:Nat) (es:List E)|mc (c m:Str) (f:Nat) (o:E) (es:List E)|lstO (tg:Tg) (it:I) (c:List T) (el:E)|oix (a i:E)|olen (a:E)|call0 (f:Nat)|din (neg:Bool) (k d:E)|ddx (d k:E)|dn1 (k v:E)|tpl (a b c:E)|tix (a:E) (k:Nat)|ist (e:E)|tne (a b:E)|callk (f:Nat) (es:List E) (k:E) (d:D)|stuck
inductive T where|val (e:E)|and (a b:T)|or (a b:T)|not (a:T)
inductive L where|disp (es:List E)|comp (tg:Tg) (it:I) (c:List T) (el:E)|of (e:E)|cat (a b:E)|rvd (e:E)
inductive I where|seq (e:E)|rng (e:E)|enu (e:E)
end
set_option genInjectivity true
def big:Nat:=16777216
def fit(n:Nat):Bool:=decide (n<=big)
def zjB(i:Int):Bool:=decide (-(2^64)<i)&&decide (i<2^64)
def wide:Int:=1000000000000000000000000000000000000000000000000000000000000
def bop:Bo->D->D->Option D
 |.add,.int a,.int b=>some (.int (a+b))|.sub,.int a,.int b=>some (.int (a-b))
 |.mul,.int a,.int b=>if zjB a||zjB b then some (.int (a*b)) else none
 |.fdiv,.int a,.int b=>if decide (0<b)&&decide (b<wide) then some (.int (a / b)) else none|.mod,.int a,.int b=>if decide (0<b) then some (.int (a%b)) else none|.band,.int a,.int b=>if decide (0<=a)&&decide (0<=b) then some (.int (a.toNat &&& b.toNat:Nat)) else none|.bor,.int a,.int b=>if decide (0<=a)&&decide (0<=b) then some (.int (a.toNat ||| b.toNat:Nat)) else none|.add,.lst a,.lst b=>if fit (a.length+b.length) then some (.lst (a++b)) else none|.add,.tup a,.tup b=>if fit (a.length+b.length) then some (.tup (a++b)) else none
 |.mul,.tup a,.int b=>if a.isEmpty||decide (b<0)||decide (2^24<b)||!fit (a.length*b.toNat) then none else some (.tup (ZU b.toNat a).flatten)
 |_,_,_=>none
def zar:D->Bool|.non=>true|_=>false
def items:D->Option (List D)|.tup xs=>some xs|.lst xs=>some xs|_=>none
def cop:Co->D->D->Option D
 |.eq,a,b=>if zf2 a b then some (.bl (a.eqb b)) else none|.ne,a,b=>if zf2 a b then some (.bl (!a.eqb b)) else none|.lt,.int a,.int b=>some (.bl (decide (a<b)))|.le,.int a,.int b=>some (.bl (decide (a<=b)))|.gt,.int a,.int b=>some (.bl (decide (b<a)))|.ge,.int a,.int b=>some (.bl (decide (b<=a)))
 |.isin,a,b=>match items b with
  |some xs=>if decide (a.dep<=60) then some (.bl (xs.any λy=>y.eqb a)) else none|none=>none
 |.notin,a,b=>match items b with
  |some xs=>if decide (a.dep<=60) then some (.bl (!(xs.any λy=>y.eqb a))) else none|none=>none
 |.isN,a,.non=>some (.bl (zar a))|.isnotN,a,.non=>some (.bl (!zar a))|.isN,.bl a,.bl b=>some (.bl (a==b))|.isnotN,.bl a,.bl b=>some (.bl (a != b))|_,_,_=>none
def ixn(n:Nat)(i:Int):Option Nat:=if 0<=i then(if i<n then some i.toNat else none) else if -(n:Int)<=i then some (i+n).toNat else none
def at'{α:Type}(xs:List α)(i:Int):Option α:=match ixn xs.length i with|some j=>xs[j]?|none=>none
def idxD:D->D->Option D|.tup xs,.int i=>at' xs i|.lst xs,.int i=>at' xs i|_,_=>none
def revD:D->Option (List D)|.lst a=>some a.reverse|_=>none
def catD:D->D->Option (List D)|.lst a,.lst b=>if fit (a.length+b.length) then some (a++b) else none|_,_=>none
def sIx(n d:Nat):Option Int->Nat|none=>d|some v=>if v<0 then(v+(n:Int)).toNat else min v.toNat n
def cut{α:Type}(xs:List α)(lo hi:Option Int):List α:=(xs.drop (sIx xs.length 0 lo)).take (sIx xs.length xs.length hi-sIx xs.length 0 lo)
def part:D->Option (Option Int)|.non=>some none|.int i=>some (some i)|_=>none
def cutD(x:D)(lo hi:Option Int):Option D:=match x with|.tup xs=>some (.tup (cut xs lo hi))|.lst xs=>some (.lst (cut xs lo hi))|_=>none
def sliD(x l u:D):Option D:=match part l,part u with|some lo,some hi=>cutD x lo hi|_,_=>none
def tru:D->Option Bool|.non=>some false|.bl b=>some b|.int i=>some (i != 0)|.str x=>if fit x.length then some (!x.isEmpty) else none|.tup xs=>some (!xs.isEmpty)|.lst xs=>some (!xs.isEmpty)
def zaK:List D->Option (List Bool)
 | []=>some []
 | d::r=>match tru d with
  |some b=>match zaK r with
   |some s=>some (b::s)|none=>none
  |none=>none
def isiD:Ty->D->Bool|.list,.lst _=>true|.tuple,.tup _=>true|_,_=>false
def biD:Bi->List D->Option D
 |.len,[.tup xs]=>some (.int xs.length)|.len,[.lst xs]=>some (.int xs.length)|.tuple,[.lst xs]=>some (.tup xs)|.tuple,[.tup xs]=>some (.tup xs)|.int,[.bl b]=>some (.int (if b then 1 else 0))|.int,[.int i]=>some (.int i)
 |.all,[.lst xs]=>match zaK xs with
  |some bs=>some (.bl (bs.all id))|none=>none
 |.any,[.lst xs]=>match zaK xs with
  |some bs=>some (.bl (bs.any id))|none=>none
 |_,_=>none
def lmD:Lm->D->D->Option D|.count,.lst xs,d=>if decide (d.dep<=60) then some (.int (xs.countP λy=>y.eqb d)) else none|_,_,_=>none
abbrev Env:=List (Option R)
mutual
noncomputable def zaY:Tg->R->Env->M Env
 |.name i,r,σ=>ok (σ.set i (some r))
 |.tup ts,r,σ=>bnd (rd r) λd=>match d with
  |.tup xs=>bindTs ts xs σ
  |_=>λ_=>none
noncomputable def bindTs:List Tg->List D->Env->M Env
 | [],xs,σ=>match xs with
  | []=>ok σ
  |_=>λ_=>none
 |t::ts,xs,σ=>match xs with
  |x::xs=>bnd (zaY t (.d x) σ) λσ'=>bindTs ts xs σ'
  |_=>λ_=>none
end
def zaw:Tg->Ite->Env->M Env
 |tg,.r x,σ=>zaY tg x σ
 |.tup [a,b],.en i x,σ=>bnd (zaY a (.d (.int i)) σ) λσ'=>zaY b x σ'
 |_,_,_=>λ_=>none
mutual
noncomputable def D.same:D->D->Bool
 |.non,y=>match y with | .non=>true | _=>false
 |.bl a,y=>match y with | .bl b=>a==b | _=>false
 |.int a,y=>match y with | .int b=>a==b | _=>false
 |.str a,y=>match y with | .str b=>a==b | _=>false
 |.tup a,y=>match y with | .tup b=>D.sames a b | _=>false
 |.lst a,y=>match y with | .lst b=>D.sames a b | _=>false
noncomputable def D.sames:List D->List D->Bool
 | [],ys=>match ys with | []=>true | _=>false
 |a::r,ys=>match ys with | b::t=>D.same a b&&D.sames r t | _=>false
end
mutual
theorem D.same_eq:∀x y:D,D.same x y=true->x=y|.non,.non,_=>rfl|.bl a,.bl b,h=>by simp[D.same] at h;rw[h]|.int a,.int b,h=>by simp[D.same] at h;rw[h]|.str a,.str b,h=>by simp[D.same] at h;rw[h]|.tup a,.tup b,h=>by simp[D.same] at h;rw[D.sames_eq a b h]|.lst a,.lst b,h=>by simp[D.same] at h;rw[D.sames_eq a b h]|.non,.bl _,h | .non,.int _,h | .non,.str _,h | .non,.tup _,h | .non,.lst _,h=>by simp[D.same] at h|.bl _,.non,h | .bl _,.int _,h | .bl _,.str _,h | .bl _,.tup _,h | .bl _,.lst _,h=>by simp[D.same] at h|.int _,.non,h | .int _,.bl _,h | .int _,.str _,h | .int _,.tup _,h | .int _,.lst _,h=>by simp[D.same] at h|.str _,.non,h | .str _,.bl _,h | .str _,.int _,h | .str _,.tup _,h | .str _,.lst _,h=>by simp[D.same] at h|.tup _,.non,h | .tup _,.bl _,h | .tup _,.int _,h | .tup _,.str _,h | .tup _,.lst _,h=>by simp[D.same] at h|.lst _,.non,h | .lst _,.bl _,h | .lst _,.int _,h | .lst _,.str _,h | .lst _,.tup _,h=>by simp[D.same] at h
theorem D.sames_eq:∀x y:List D,D.sames x y=true->x=y| [],[],_=>rfl|a::r,b::t,h=>by simp[D.sames] at h;rw[D.same_eq a b h.1,D.sames_eq r t h.2]| [],_::_,h=>by simp[D.sames] at h|_::_,[],h=>by simp[D.sames] at h
end
mutual
theorem D.same_refl:∀x:D,D.same x x=true|.non=>rfl|.bl a=>by simp[D.same]|.int a=>by simp[D.same]|.str a=>by simp[D.same]|.tup a=>by simp[D.same];exact D.sames_refl a|.lst a=>by simp[D.same];exact D.sames_refl a
theorem D.sames_refl:∀x:List D,D.sames x x=true| []=>rfl|a::r=>by simp[D.sames];exact⟨D.same_refl a,D.sames_refl r⟩
end
mutual
noncomputable def D.hk:D->Bool|.int _=>true|.str _=>true|.tup xs=>D.hks xs|.non=>true|.bl _ | .lst _=>false
noncomputable def D.hks:List D->Bool| []=>true|x::r=>D.hk x&&D.hks r
end
def zcM:D->Bool|.tup xs=>D.hks xs&&decide (D.deps xs<=6)|_=>false
def dGet(k:D):List (D×D)->Option D| []=>none|p::r=>if p.1.same k then some p.2 else dGet k r
def dPut(k v:D):List (D×D)->List (D×D)| []=>[(k,v)]|p::r=>if p.1.same k then(p.1,v)::r else p::dPut k v r
def Ob.same:Ob->Ob->Bool
 |.dic _,o=>match o with
  |.dic _=>true|_=>false
 |.ols a,o=>match o with
  |.ols b=>a==b|_=>false
 |.ins _ _,_=>false
 |.tpl _ _ _,o=>match o with
  |.tpl _ _ _=>true|_=>false
 |.lst a,o=>o.isL&&D.sames a o.items|.fro a,o=>o.isL&&D.sames a o.items
def zaX(l:Option Nat)(h h':Sto):Bool:=match l with
 |none=>true
 |some l=>match h[l]?,h'[l]? with
  |some o,some o'=>o.same o'|_,_=>false
def zbz{α:Type}(l:Option Nat)(f:Ite->M (Option α)):List Ite->M (List α)
 | []=>ok []
 |x::xs=>λh=>match f x h with
  |some (o,h1)=>if zaX l h h1 then bnd (zbz l f xs) (λys=>ok (match o with | some y=>y::ys | none=>ys)) h1 else none|none=>none
def zb5(lo:Int):Nat->List D|0=>[]|n+1=>.int lo::zb5 (lo+1) n
def opt{α:Type}(o:Option α):M α:=λh=>match o with|some a=>some (a,h)|none=>none
def alloc(xs:List D):M R:=λh=>some (.loc h.length,h++[.lst xs])
structure Wk where
 xs:List Ite
 l:Option Nat
def wkOf(r:R)(d:D):M Wk:=match items d with
 |some xs=>ok ⟨xs.map dI,match r with | .loc l=>some l | .d _=>none⟩
 |none=>λ_=>none
def zbH(r:R):M (Option (List Nat)):=λh=>match r with
 |.loc l=>match h[l]? with
  |some (.ols ls)=>some (some ls,h)|_=>some (none,h)
 |.d _=>some (none,h)
def zbu(r:R):M Wk:=bnd (zbH r) λo=>match o with
 |some ls=>ok ⟨ls.map λl=>.r (.loc l),match r with | .loc l=>some l | .d _=>none⟩
 |none=>bnd (rd r) λd=>wkOf r d
def zat(i:Int):List Ite->Option (List Ite)
 | []=>some []
 |.r x::t=>match zat (i+1) t with
  |some l=>some (.en i x::l)|none=>none
 |.en _ _::_=>none
def isLs:R->Bool|.loc _=>true|.d (.lst _)=>true|_=>false
def zlF(r:R):M Wk:=if isLs r then bnd (zbu r) λw=>match zat 0 w.xs with
  |some l=>ok ⟨l,w.l⟩
  |none=>λ_=>none
 else λ_=>none
def zhi(r:R):M Wk:=match r with
 |.d (.int n)=>if decide (-(2^62)<=n)&&decide (n<=16777216) then ok ⟨(zb5 0 n.toNat).map dI,none⟩ else λ_=>none
 |_=>λ_=>none
mutual
noncomputable def Tg.slots:Tg->List Nat|.name i=>[i]|.tup ts=>Tg.slotss ts
noncomputable def Tg.slotss:List Tg->List Nat| []=>[]|t::ts=>t.slots++Tg.slotss ts
end
def clr:List Nat->Env->Env| [],σ=>σ|i::r,σ=>clr r (σ.set i none)
abbrev Calls:=Nat->List R->M R
def zfq(x:R):M Unit:=λh=>match x with
 |.loc l=>match h[l]? with
  |some o=>if o.isL then some ((),h) else none|none=>none
 |.d _=>none
def dRd(x:R):M (List (D×D)):=λh=>match x with
 |.loc l=>match h[l]? with
  |some (.dic kvs)=>some (kvs,h)|_=>none
 |.d _=>none
def dNew:M R:=λh=>some (.loc h.length,h++[.dic []])
def kRd(x:R):M D:=λh=>match x with|.d k=>if zcM k then some (k,h) else none|.loc _=>none
def dSet(x:R)(k v:D):M Unit:=λh=>match x with
 |.loc l=>match h[l]? with
  |some (.dic kvs)=>if decide (kvs.length<big) then some ((),h.set l (.dic (dPut k v kvs))) else none|_=>none
 |.d _=>none
def putF(f:Str)(v:R):List (Str×R)->List (Str×R)| []=>[(f,v)]|(g,x)::r=>if g=f then(g,v)::r else(g,x)::putF f v r
def getA(x:R)(f:Str):M R:=λh=>match x with
 | .loc l=>match h[l]? with
  |some (.ins _ fs)=>match fs.lookup f with
   |some r=>some (r,h)|none=>none
  |_=>none
 |.d _=>none
def setA(x:R)(f:Str)(v:R):M Unit:=λh=>match x with
 |.loc l=>match h[l]? with
  |some (.ins c fs)=>if(fs.lookup f).isSome=true/\fs.length<900 then some ((),h.set l (.ins c (putF f v fs))) else none|_=>none
 |.d _=>none
def setN(x:R)(c f:Str)(v:R):M Unit:=λh=>match x with
 |.loc l=>match h[l]? with
  |some (.ins c' fs)=>if c'=c/\fs.length<900 then some ((),h.set l (.ins c' (putF f v fs))) else none|_=>none
 |.d _=>none
def isA(x:R)(c m:Str):M Unit:=λh=>match x with
 |.loc l=>match h[l]? with
  |some (.ins c' fs)=>if c'=c/\(fs.lookup m).isNone then some ((),h) else none|_=>none
 |.d _=>none
def newA(c:Str):M R:=λh=>some (.loc h.length,h++[.ins c []])
def zbm(x:R):M Nat:=λh=>match x with
 |.loc l=>match h[l]? with
  |some (.ins _ _)=>some (l,h)|_=>none
 |.d _=>none
def allocO(ls:List Nat):M R:=λh=>some (.loc h.length,h++[.ols ls])
def tNew(x y z:R):M R:=λh=>match x,y,z with|.d x,.loc l,.d z=>some (.loc h.length,h++[.tpl x l z])|_,_,_=>none
def rdT(r:R):M D:=λh=>match r with
 |.d x=>some (x,h)
 | .loc l=>match h[l]? with
  |some (.tpl x m z)=>match h[m]? with
   |some o=>if o.isL then some (.tup [x,.lst o.items,z],h) else none|none=>none
  |_=>none
def tIx(r:R)(k:Nat):M R:=λh=>match r with
 |.d x=>match idxD x (.int k) with
  |some y=>some (.d y,h)|none=>none
 | .loc l=>match h[l]? with
  |some (.tpl x m z)=>match k with
   |0=>some (.d x,h)|1=>some (.loc m,h)|2=>some (.d z,h)|_=>none
  |_=>none
def meth:Me->R->List R->M R
 |.append,.loc l,[r]=>bnd (fz r) λd h=>match h[l]? with
  |some (.lst xs)=>if decide (xs.length<big) then some (.d .non,h.set l (.lst (xs++[d]))) else none|_=>none
 | .extend,.loc l,[r]=>bnd (rd r) λd h=>match d with
  |.lst ys=>match h[l]? with
   |some (.lst xs)=>if fit (xs.length+ys.length) then some (.d .non,h.set l (.lst (xs++ys))) else none|_=>none
  |_=>none
 |_,_,_=>λ_=>none
mutual
noncomputable def ev(Γ:Calls):E->Env->M R
 |.con d,_=>ok (.d d)
 |.var i,σ=>λh=>match σ[i]? with
  |some (some r)=>some (r,h)|_=>none
 |.bin o a b,σ=>bnd (ev Γ a σ) λx=>bnd (ev Γ b σ) λy=>bnd (rd x) λx=>bnd (rd y) λy=>bnd (opt (bop o x y)) λz=>ok (.d z)
 |.neg a,σ=>bnd (ev Γ a σ) λx=>match x with
  |.d (.int i)=>ok (.d (.int (-i)))
  |_=>λ_=>none
 |.cmp o a b,σ=>bnd (ev Γ a σ) λx=>bnd (ev Γ b σ) λy=>bnd (rd x) λx=>bnd (rd y) λy=>bnd (opt (cop o x y)) λz=>ok (.d z)
 |.and a b,σ=>bnd (ev Γ a σ) λx=>match x with
  |.d (.bl c)=>if c then ev Γ b σ else ok (.d (.bl false))
  |_=>λ_=>none
 |.or a b,σ=>bnd (ev Γ a σ) λx=>match x with
  |.d (.bl c)=>if c then ok (.d (.bl true)) else ev Γ b σ
  |_=>λ_=>none
 |.not a,σ=>bnd (ev Γ a σ) λx=>bnd (rd x) λd=>bnd (opt (tru d)) λt=>ok (.d (.bl (!t)))
 |.ife c a b,σ=>bnd (tv Γ c σ) λt=>if t then ev Γ a σ else ev Γ b σ
 |.tup es,σ=>bnd (evs Γ es σ) λrs=>bnd (fzs rs) λds=>ok (.d (.tup ds))
 |.lst m l,σ=>bnd (evL Γ l σ) λxs=>if m then alloc xs else ok (.d (.lst xs))
 |.idx a i,σ=>bnd (ev Γ a σ) λx=>bnd (ev Γ i σ) λy=>bnd (rd x) λx=>bnd (rd y) λy=>bnd (opt (idxD x y)) λz=>ok (.d z)
 |.sli a lo hi,σ=>bnd (ev Γ a σ) λx=>bnd (ev Γ lo σ) λl=>bnd (ev Γ hi σ) λu=>bnd (rd x) λx=>bnd (rd l) λl=>bnd (rd u) λu=>bnd (opt (sliD x l u)) λz=>ok (.d z)
 |.call f es,σ=>bnd (evs Γ es σ) λrs=>Γ f rs
 |.bi b es,σ=>bnd (evs Γ es σ) λrs=>bnd (rds rs) λds=>bnd (opt (biD b ds)) λz=>ok (.d z)
 |.me m o es,σ=>bnd (ev Γ o σ) λx=>bnd (zfq x) λ_=>bnd (evs Γ es σ) λrs=>meth m x rs
 |.glo d,_=>ok (.d d)
 |.isi t e,σ=>bnd (ev Γ e σ) λr=>bnd (rd r) λd=>ok (.d (.bl (isiD t d)))
 |.lm m o a,σ=>bnd (ev Γ o σ) λx=>bnd (rd x) λ_=>bnd (ev Γ a σ) λy=>bnd (rd x) λx=>bnd (rd y) λy=>bnd (opt (lmD m x y)) λz=>ok (.d z)
 |.fld o f,σ=>bnd (ev Γ o σ) λx=>getA x f
 |.make c f es,σ=>bnd (evs Γ es σ) λrs=>bnd (newA c) λx=>bnd (Γ f (x::rs)) λr=>match r with
  |.d .non=>ok x
  |_=>λ_=>none
 |.mc c m f o es,σ=>bnd (ev Γ o σ) λx=>bnd (isA x c m) λ_=>bnd (evs Γ es σ) λrs=>Γ f (x::rs)
 |.lstO tg it c el,σ=>bnd (evI Γ it σ) λw=>bnd (zbz w.l (λx=>bnd (zaw tg x (clr tg.slots σ)) λσ'=>bnd (tvs Γ c σ') λt=>if t then bnd (ev Γ el σ') λr=>bnd (zbm r) λd=>ok (some d) else ok none) w.xs) λls=>allocO ls
 | .oix a i,σ=>bnd (ev Γ a σ) λx=>bnd (ev Γ i σ) λy=>bnd (zbH x) λo=>match o,y with
  |some ls,.d (.int k)=>match at' ls k with
   |some l=>ok (.loc l)
   |none=>λ_=>none
  |_,_=>λ_=>none
 |.olen a,σ=>bnd (ev Γ a σ) λx=>bnd (zbH x) λo=>match o with
  |some ls=>ok (.d (.int ls.length))
  |none=>λ_=>none
 |.call0 f,_=>Γ f []
 |.din neg k d,σ=>bnd (ev Γ k σ) λy=>bnd (ev Γ d σ) λx=>bnd (dRd x) λkvs=>bnd (kRd y) λk=>ok (.d (.bl (if neg then !(dGet k kvs).isSome else(dGet k kvs).isSome)))
 |.ddx d k,σ=>bnd (ev Γ d σ) λx=>bnd (ev Γ k σ) λy=>bnd (dRd x) λkvs=>bnd (kRd y) λk=>bnd (opt (dGet k kvs)) λv=>ok (.d v)
 |.dn1 k v,σ=>bnd dNew λx=>bnd (ev Γ k σ) λy=>bnd (ev Γ v σ) λr=>bnd (fz r) λd=>bnd (kRd y) λk=>bnd (dSet x k d) λ_=>ok x
 |.tpl a b c,σ=>bnd (ev Γ a σ) λx=>bnd (ev Γ b σ) λy=>bnd (ev Γ c σ) λz=>tNew x y z
 |.tix a k,σ=>bnd (ev Γ a σ) λx=>tIx x k
 |.ist e,σ=>bnd (ev Γ e σ) λr=>bnd (rdT r) λd=>ok (.d (.bl (isiD .tuple d)))
 |.tne a b,σ=>bnd (ev Γ a σ) λx=>bnd (ev Γ b σ) λy=>bnd (rdT x) λx=>bnd (rdT y) λy=>bnd (opt (cop .ne x y)) λz=>ok (.d z)
 |.callk f es k d,σ=>bnd (evs Γ es σ) λrs=>bnd (ev Γ k σ) λr=>Γ f (rs++[.d d,r])
 |.stuck,_=>λ_=>none
noncomputable def evs(Γ:Calls):List E->Env->M (List R)
 | [],_=>ok []
 |e::es,σ=>bnd (ev Γ e σ) λr=>bnd (evs Γ es σ) λrs=>ok (r::rs)
noncomputable def tv(Γ:Calls):T->Env->M Bool
 |.val e,σ=>bnd (ev Γ e σ) λr=>bnd (rd r) λd=>opt (tru d)
 |.and a b,σ=>bnd (tv Γ a σ) λt=>if t then tv Γ b σ else ok false
 |.or a b,σ=>bnd (tv Γ a σ) λt=>if t then ok true else tv Γ b σ
 |.not a,σ=>bnd (tv Γ a σ) λt=>ok (!t)
noncomputable def tvs(Γ:Calls):List T->Env->M Bool
 | [],_=>ok true
 |c::cs,σ=>bnd (tv Γ c σ) λt=>if t then tvs Γ cs σ else ok false
noncomputable def evL(Γ:Calls):L->Env->M (List D)
 |.disp es,σ=>bnd (evs Γ es σ) λrs=>fzs rs
 |.comp tg it c el,σ=>bnd (evI Γ it σ) λw=>zbz w.l (λx=>bnd (zaw tg x (clr tg.slots σ)) λσ'=>bnd (tvs Γ c σ') λt=>if t then bnd (ev Γ el σ') λr=>bnd (fz r) λd=>ok (some d) else ok none) w.xs
 |.of e,σ=>bnd (ev Γ e σ) λr=>bnd (rd r) λd=>opt (items d)
 |.cat a b,σ=>bnd (ev Γ a σ) λx=>bnd (ev Γ b σ) λy=>bnd (rd x) λx=>bnd (rd y) λy=>opt (catD x y)
 |.rvd e,σ=>bnd (ev Γ e σ) λr=>bnd (rd r) λd=>opt (revD d)
noncomputable def evI(Γ:Calls):I->Env->M Wk
 |.seq e,σ=>bnd (ev Γ e σ) λr=>zbu r
 |.rng e,σ=>bnd (ev Γ e σ) λr=>zhi r
 |.enu e,σ=>bnd (ev Γ e σ) λr=>zlF r
noncomputable def fzs:List R->M (List D)
 | []=>ok []
 |r::rs=>bnd (fz r) λd=>bnd (fzs rs) λds=>ok (d::ds)
noncomputable def rds:List R->M (List D)
 | []=>ok []
 |r::rs=>bnd (rd r) λd=>bnd (rds rs) λds=>ok (d::ds)
end
set_option genInjectivity false in
inductive S where|asg (tg:Tg) (e:E)|setI (o i e:E)|setF (o:E) (f:Str) (e:E)|setN (c:Str) (o:E) (f:Str) (e:E)|exp (e:E)|ife (c:T) (a b:List S)|for (tg:Tg) (it:I) (body:List S)|ret (e:E)|retN|brk|cnt|whl (c:T) (body:List S)|setD (o k e:E)|stuck
inductive Fl where|nx | ret (r:R) | brk | cnt
def zf4(x:R)(i:D)(d:D):M Unit:=λh=>match x,i with
 | .loc l,.int k=>match h[l]? with
  |some (.lst xs)=>match ixn xs.length k with
   |some j=>some ((),h.set l (.lst (xs.set j d)))|none=>none
  |_=>none
 |_,_=>none
def loop(l:Option Nat)(f:Ite->Env->M (Fl×Env)):List Ite->Env->M (Fl×Env)
 | [],σ=>ok (.nx,σ)
 | x::xs,σ=>λh=>match f x σ h with
  |some ((fl,σ1),h1)=>match fl with
   |.ret r=>some ((.ret r,σ1),h1)|.brk=>some ((.nx,σ1),h1)|_=>if zaX l h h1 then loop l f xs σ1 h1 else none
  |none=>none
def zcO(c:Env->M Bool)(f:Env->M (Fl×Env)):Nat->Env->M (Fl×Env)
 |0,_=>λ_=>none
 | n+1,σ=>bnd (c σ) λt=>if t then bnd (f σ) λp=>match p.1 with
   |.ret r=>ok (.ret r,p.2)|.brk=>ok (.nx,p.2)|_=>zcO c f n p.2
  else ok (.nx,σ)
def zaM:Nat:=1000000
mutual
noncomputable def ex(Γ:Calls):S->Env->M (Fl×Env)
 |.asg tg e,σ=>bnd (ev Γ e σ) λr=>bnd (zaY tg r σ) λσ'=>ok (.nx,σ')
 |.setI o i e,σ=>bnd (ev Γ e σ) λr=>bnd (ev Γ o σ) λx=>bnd (ev Γ i σ) λy=>bnd (fz r) λd=>bnd (rd y) λy=>bnd (zf4 x y d) λ_=>ok (.nx,σ)
 |.setF o f e,σ=>bnd (ev Γ e σ) λr=>bnd (ev Γ o σ) λx=>bnd (setA x f r) λ_=>ok (.nx,σ)
 |.setN c o f e,σ=>bnd (ev Γ e σ) λr=>bnd (ev Γ o σ) λx=>bnd (setN x c f r) λ_=>ok (.nx,σ)
 |.exp e,σ=>bnd (ev Γ e σ) λ_=>ok (.nx,σ)
 |.ife c a b,σ=>bnd (tv Γ c σ) λt=>if t then exs Γ a σ else exs Γ b σ
 |.for tg it body,σ=>bnd (evI Γ it σ) λw=>loop w.l (λx σ=>bnd (zaw tg x σ) λσ'=>exs Γ body σ') w.xs σ
 |.ret e,σ=>bnd (ev Γ e σ) λr=>ok (.ret r,σ)
 |.retN,σ=>ok (.ret (.d .non),σ)|.brk,σ=>ok (.brk,σ)|.cnt,σ=>ok (.cnt,σ)|.whl c b,σ=>zcO (tv Γ c) (exs Γ b) zaM σ
 |.setD o k e,σ=>bnd (ev Γ e σ) λr=>bnd (ev Γ o σ) λx=>bnd (ev Γ k σ) λy=>bnd (fz r) λd=>bnd (kRd y) λk=>bnd (dSet x k d) λ_=>ok (.nx,σ)
 |.stuck,_=>λ_=>none
noncomputable def exs(Γ:Calls):List S->Env->M (Fl×Env)
 | [],σ=>ok (.nx,σ)
 |s::r,σ=>bnd (ex Γ s σ) λp=>match p.1 with
  |.nx=>exs Γ r p.2|_=>ok p
end
structure F where
 np:Nat
 ns:Nat
 body:List S
 keep:Bool
 dfl:List D
 all:Bool:=false
def zaW(np:Nat)(dfl:List D)(rs:List R):List R:=if rs.length+dfl.length<np then rs else rs++(dfl.drop (rs.length+dfl.length-np)).map R.d
def R.locs:R->List Nat|.d _=>[]|.loc l=>[l]
def Ob.locs:Ob->List Nat|.lst _=>[]|.fro _=>[]|.ols ls=>ls|.dic _=>[]|.tpl _ l _=>[l]|.ins _ fs=>(fs.map λp=>R.locs p.2).flatten
def objs:Sto->Sto->Bool
 | [],_=>true
 |o::h,h1=>match h1 with
  | []=>false|o1::t=>o1.locs==o.locs&&objs h t
def fin0(n0:Nat)(keep:Bool)(r:R)(h1:Sto):Option (R×Sto):=match r with
 |.d x=>some (.d x,h1.take n0)
 |.loc l=>if l<n0 then some (.loc l,h1.take n0) else match h1[l]? with
  |some (.lst xs)=>if keep then some (.loc n0,h1.take n0++[.lst xs]) else some (.d (.lst xs),h1.take n0)|some (.fro xs)=>some (.d (.lst xs),h1.take n0)|_=>none
def fin(h:Sto)(all keep:Bool)(r:R)(h1:Sto):Option (R×Sto):=if all then some (r,h1) else if objs h h1 then fin0 h.length keep r h1 else none
def zaf(P:List F):Nat->Calls
 |0,_,_=>λ_=>none
 | n + 1,f,rs=>λh=>match P[f]? with
  | some F=>if(zaW F.np F.dfl rs).length=F.np then match exs (zaf P n) F.body ((zaW F.np F.dfl rs).map some++ZU (F.ns-F.np) none) h with
    |some ((.ret r,_),h1)=>fin h F.all F.keep r h1|some ((.nx,_),h1)=>fin h F.all F.keep (.d .non) h1|_=>none
   else none
  |none=>none
theorem zbY(P:List F)(n f:Nat)(rs:List R)(h:Sto):zaf P (n+1) f rs h=match P[f]? with
  | some F=>if(zaW F.np F.dfl rs).length=F.np then match exs (zaf P n) F.body ((zaW F.np F.dfl rs).map some++ZU (F.ns-F.np) none) h with
    |some ((.ret r,_),h1)=>fin h F.all F.keep r h1|some ((.nx,_),h1)=>fin h F.all F.keep (.d .non) h1|_=>none
   else none
  |none=>none:=rfl
end IT
namespace IT
open PySem
def zbj(x:List Nat):Str:=⟨x.toArray⟩
theorem zdw(x:List Nat):(zbj x).length=x.length:=by simp[zbj,Str.length]
theorem zdJ(h:zbj x=zbj y):x=y:=by
 have:=congrArg (λs:Str=>s.cps.toList) h
 simpa[zbj] using this
mutual
noncomputable def KAt(h:Heap):D->Value->Prop|.int i,u=>∃t,u=.int i t|.str x,u=>∃t,u=.str (zbj x) t|.tup xs,u=>∃a its,u=.ref a/\h.IsTuple a its/\KAts h xs its.toList|.non,u=>u=.none|.bl _,_=>False|.lst _,_=>False
noncomputable def KAts(h:Heap):List D->List Value->Prop| [],us=>us=[]|x::xs,us=>∃u r,us=u::r/\KAt h x u/\KAts h xs r
end
mutual
noncomputable def zmB(w:World):D->Int|.int i=>hashInt i|.str x=>hashStr w (zbj x)|.tup xs=>reduceHash (Yk (kHashs w xs))|.non=>0xFCA86420|.bl _=>0|.lst _=>0
noncomputable def kHashs(w:World):List D->List Int| []=>[]|x::xs=>zmB w x::kHashs w xs
end
mutual
noncomputable def ziU:D->Nat|.tup xs=>kDrawss xs+1|.int _=>1|.str _=>1|.non=>1|.bl _=>1|.lst _=>1
noncomputable def kDrawss:List D->Nat| []=>0|x::xs=>ziU x+kDrawss xs
end
theorem zfd:∀xs ys:List D,kDrawss (xs++ys)=kDrawss xs+kDrawss ys| [],ys=>by simp[kDrawss]|x::xs,ys=>by simp only[Yr,kDrawss,zfd xs ys];omega
theorem zgA(w:World):∀xs ys:List D,kHashs w (xs++ys)=kHashs w xs++kHashs w ys| [],ys=>rfl|x::xs,ys=>by simp only[Yr,kHashs,zgA w xs ys]
mutual
theorem KAt.keep(k:∀a its,h.IsTuple a its->h'.IsTuple a its):∀(x:D) (u:Value),KAt h x u->KAt h' x u|.int _,_,q=>by simp only[KAt] at q⊢;exact q|.str _,_,q=>by simp only[KAt] at q⊢;exact q|.tup xs,_,q=>by simp only[KAt] at q⊢;obtain⟨a,its,e,t,r⟩:=q;exact⟨a,its,e,k a its t,KAts.keep k xs _ r⟩|.non,_,q=>by simp only[KAt] at q⊢;exact q|.bl _,_,q=>by simp only[KAt] at q|.lst _,_,q=>by simp only[KAt] at q
theorem KAts.keep(k:∀a its,h.IsTuple a its->h'.IsTuple a its):∀(x:List D) (u:List Value),KAts h x u->KAts h' x u| [],_,q=>by simp only[KAts] at q⊢;exact q|x::xs,_,q=>by simp only[KAts] at q⊢;obtain⟨u,r,e,q1,q2⟩:=q;exact⟨u,r,e,KAt.keep k x u q1,KAts.keep k xs r q2⟩
end
theorem zgi{h:Heap}(p:h.IsTuple a xs)(q:h.IsTuple a ys):xs=ys:=by
 obtain⟨o,e,_,n,d⟩:=p;obtain⟨o',e',_,n',d'⟩:=q
 rw[e] at e';cases e';rw[d] at d';cases d';rfl
mutual
theorem KAt.inj{h:Heap}:∀(x y:D) (u:Value),KAt h x u->KAt h y u->x=y
 |.int a,y,u,p,q=>by
  simp only[KAt] at p;obtain⟨t,rfl⟩:=p
  cases y<;>simp[KAt] at q
  rw[q]
 |.str a,y,u,p,q=>by
  simp only[KAt] at p;obtain⟨t,rfl⟩:=p
  cases y<;>simp[KAt] at q
  rw[zdJ q]
 | .tup a,y,u,p,q=>by
  simp only[KAt] at p;obtain⟨c,its,rfl,t,r⟩:=p
  cases y with
  |tup b=>
   simp only[KAt] at q;obtain⟨c',its',e,t',r'⟩:=q;cases e
   have:=zgi t t'
   subst this;rw[KAts.inj a b _ r r']
  |_=>simp[KAt] at q
 |.non,y,u,p,q=>by
  simp only[KAt] at p;subst p
  cases y<;>simp[KAt] at q
  rfl
 |.bl _,_,_,p,_=>by simp only[KAt] at p|.lst _,_,_,p,_=>by simp only[KAt] at p
theorem KAts.inj:∀(x y:List D) (u:List Value),KAts h x u->KAts h y u->x=y| [],[],_,_,_=>rfl| [],_::_,_,p,q=>by simp only[KAts] at p q;subst p;obtain⟨_,_,e,_⟩:=q;cases e|_::_,[],_,p,q=>by simp only[KAts] at p q;subst q;obtain⟨_,_,e,_⟩:=p;cases e|x::xs,y::ys,_,p,q=>by simp only[KAts] at p q;obtain⟨u,r,rfl,p1,p2⟩:=p;obtain⟨u',r',e,q1,q2⟩:=q;cases e;rw[KAt.inj x y u p1 q1,KAts.inj xs ys r p2 q2]
end
theorem KAts.length:∀{x:List D} {u:List Value},KAts h x u->x.length=u.length| [],_,q=>by simp only[KAts] at q;subst q;rfl|x::xs,_,q=>by simp only[KAts] at q;obtain⟨u,r,rfl,_,q⟩:=q;simp only[Zu,KAts.length q]
theorem KAts.at:∀{x:List D} {u:List Value},KAts h x u->∀(j:Nat) (d:D),x[j]?=some d->∃v,u[j]?=some v/\KAt h d v
 | [],_,_,j,d,e=>by simp at e
 |x::xs,_,q,j,d,e=>by
  simp only[KAts] at q;obtain⟨u,r,rfl,q1,q2⟩:=q
  cases j with|zero=>simp at e;subst e;exact⟨u,rfl,q1⟩|succ j=>simp at e;simpa using KAts.at q2 j d e
theorem zjp:∀{xs:List D} {x:D} {i:Nat},xs[i]?=some x->x.dep<=D.deps xs
 | [],x,i,e=>by simp at e
 |y::xs,x,i,e=>by
  cases i with|zero=>simp at e;subst e;simp only[D.deps];omega|succ i=>simp at e;have:=zjp e;simp only[D.deps];omega
def zfL(xs ys:List D)(j:Nat):Bool:=match xs[j]?,ys[j]? with|some x,some y=>x.same y|_,_=>false
theorem zhC:∀xs ys:List D,((Zy (min xs.length ys.length)).all (zfL xs ys)&&xs.length==ys.length)=D.sames xs ys
 | [],[]=>rfl| [],_::_=>by simp[D.sames]|_::_,[]=>by simp[D.sames]
 |x::xs,y::ys=>by
  have ih:=zhC xs ys
  have e:min (x::xs).length (y::ys).length=min xs.length ys.length+1:=by simp only[Zu];omega
  rw[e,List.range_succ_eq_map,Wm,List.all_map,D.sames,<-ih]
  have e2:(zfL (x::xs) (y::ys)∘Nat.succ)=zfL xs ys:=by funext j;rfl
  rw[e2];show(x.same y&&_&&_)=_;rw[Bool.and_assoc]
  congr 2
  simp
theorem zp0{x y:D}(h:x≠y):x.same y=false:=by
 cases e:x.same y
 ·rfl
 ·exact absurd (D.same_eq x y e) h
open SeqAt in
theorem kEq{s:Shared}:∀(n:Nat) (x y:D) (A:Around) (u v:Value),x.dep<=n->KAt s.heap x u->KAt s.heap y v->A.units+n<cLine->EqAt A s u v (x.same y)
 |n,.int a,y,A,u,v,hn,p,q,hu=>by
  simp only[KAt] at p;obtain⟨t,rfl⟩:=p
  cases y with|int b=>simp only[KAt] at q;obtain⟨t',rfl⟩:=q;exact EqAt.int_int a t b t'|str b=>simp only[KAt] at q;obtain⟨t',rfl⟩:=q;exact EqAt.int_str a t _ t'|tup b=>simp only[KAt] at q;obtain⟨c,its,rfl,t',_⟩:=q;exact EqAt.int_tuple a t t' (by omega)|non=>simp only[KAt] at q;subst q;exact EqAt.int_none a t|_=>simp[KAt] at q
 | n, .str a,y,A,u,v,hn,p,q,hu=>by
  simp only[KAt] at p;obtain⟨t,rfl⟩:=p
  cases y with
  |int b=>simp only[KAt] at q;obtain⟨t',rfl⟩:=q;exact EqAt.str_int _ t b t'
  | str b=>
   simp only[KAt] at q;obtain⟨t',rfl⟩:=q
   have z:=EqAt.str_str (A:=A) (s:=s) (zbj a) t (zbj b) t'
   have e:(zbj a==zbj b)=(D.str a).same (D.str b):=by
    show _=(a==b)
    by_cases h:a=b
    ·subst h;simp
    ·rw[beq_eq_false_iff_ne.mpr h,beq_eq_false_iff_ne.mpr λz=>h (zdJ z)]
   rw[e] at z;exact z
  |tup b=>simp only[KAt] at q;obtain⟨c,its,rfl,t',_⟩:=q;exact EqAt.str_tuple _ t t' (by omega)|non=>simp only[KAt] at q;subst q;exact EqAt.str_none _ t|_=>simp[KAt] at q
 | n, .tup a,y,A,u,v,hn,p,q,hu=>by
  simp only[KAt] at p;obtain⟨c,its,rfl,t,r⟩:=p
  cases y with
  |int b=>simp only[KAt] at q;obtain⟨t',rfl⟩:=q;exact EqAt.tuple_int b t' t (by omega)|str b=>simp only[KAt] at q;obtain⟨t',rfl⟩:=q;exact EqAt.tuple_str _ t' t (by omega)|non=>simp only[KAt] at q;subst q;exact EqAt.tuple_none t (by omega)
  | tup b=>
   simp only[KAt] at q;obtain⟨c',its',rfl,t',r'⟩:=q
   by_cases hc:c=c'
   ·subst hc
    have e1:=zgi t t';subst e1;have e2:=KAts.inj a b _ r r';subst e2;exact(show D.same (.tup a) (.tup a)=true from D.same_refl _)▸EqAt.same _
   ·refine EqAt.of_refs hc ?_
    match n,hn with
    |0,hn=>simp only[D.dep] at hn;omega
    | n + 1,hn=>
     have l1:=r.length;have l2:=r'.length
     have z:=RcAt.tuples (A:=A) (e:=zfL a b) t t' (by omega) (λj h1 h2=>by
      have j1:j<a.length:=by rw[l1];simpa using h1
      have j2:j<b.length:=by rw[l2];simpa using h2
      obtain⟨w,e3,k3⟩:=r.at j _ (Z6 j1);obtain⟨w',e4,k4⟩:=r'.at j _ (Z6 j2);have hd:=zjp (Z6 j1)
      have ih:=kEq n (a[j]) (b[j]) A.in1 w w' (by simp only[D.dep] at hn;omega) k3 k4 (by show A.units+1+n<cLine;omega)
      have e5:zfL a b j=(a[j]).same (b[j]):=by simp[zfL,Z6 j1,Z6 j2]
      rw[e5]
      have e6:its[j]=w:=by
       have:=Z9.mp e3
       obtain⟨_,e⟩:=this
       simpa using e
      have e7:its'[j]=w':=by
       obtain⟨_,e⟩:=Z9.mp e4
       simpa using e
      rw[e6,e7]
      exact ih)
     have e8:((Zy (min its.size its'.size)).all (zfL a b)&&its.size==its'.size)=D.sames a b:=by rw[<-zhC,l1,l2];simp
     rw[e8] at z;exact z
  |_=>simp[KAt] at q
 |n,.non,y,A,u,v,hn,p,q,hu=>by
  simp only[KAt] at p;subst p
  cases y with|non=>simp only[KAt] at q;subst q;exact EqAt.same _|int b=>simp only[KAt] at q;obtain⟨t',rfl⟩:=q;exact EqAt.none_int b t'|str b=>simp only[KAt] at q;obtain⟨t',rfl⟩:=q;exact EqAt.none_str _ t'|tup b=>simp only[KAt] at q;obtain⟨c,its,rfl,t',_⟩:=q;exact EqAt.none_tuple t' (by omega)|_=>simp[KAt] at q
 |_,.bl _,_,_,_,_,_,p,_,_=>by simp only[KAt] at p|_,.lst _,_,_,_,_,_,p,_,_=>by simp only[KAt] at p
theorem zgh{s:Shared}(t:s.heap.IsTuple a its):s.TypeIs (.ref a) "tuple":=let ⟨o,e,c,_⟩:=t;⟨o,e,c⟩
section
variable {prog:Zs}{w:World}{E:Value->Shared->Prop}
theorem znd{A:Around}{s:Shared}{Q:Int->Shared->Prop}(h:Q 0xFCA86420 {s with toks:=s.toks+1}):wpAny (model prog w) A (pyHash .none) Q E s:=by
 unfold pyHash;refine Z4 ?_
 rw[cRoomFor,if_neg (by decide)];refine ZY ?_
 refine Z4 (Xz (show s.TypeIs .none "NoneType" from rfl) XQ.lookup ?_);show wpAny _ _ (if(some (Value.builtin "NoneType.__hash__")==some W5)=true then _ else _) Q E s
 rw[if_neg (by rw[beq_builtin_none];exact Yo)]
 refine Z4 (Xz (show s.TypeIs .none "NoneType" from rfl) XQ.lookup ?_);show wpAny _ _ (WS .none "__hash__" _ >>= _) Q E s
 refine Z4 (XY (show s.TypeIs .none "NoneType" from rfl) XQ
  (W4 XQ (show s.TypeIs .none "NoneType" from rfl) F.entry_NoneType_hash
   (show wpAny _ _ (do ret (<-mkInt 0xFCA86420)) _ _ s from wpAny_ret_mkInt ?_) (F.args_NoneType_hash_1 _)))
 exact ZY h
theorem zj0:∀(n:Nat) (x:D) (A:Around) (s:Shared) (u:Value) (Q:Int->Shared->Prop),x.dep<=n->KAt s.heap x u->A.units+n<cLine->Q (zmB w x) {s with toks:=s.toks+ziU x} →
  wpAny (model prog w) A (pyHash u) Q E s
 |n,.int a,A,s,u,Q,hn,p,hu,q=>by simp only[KAt] at p;obtain⟨t,rfl⟩:=p;exact wpAny_pyHash_int q|n,.str a,A,s,u,Q,hn,p,hu,q=>by simp only[KAt] at p;obtain⟨t,rfl⟩:=p;exact wpAny_pyHash_str q|0,.tup a,A,s,u,Q,hn,p,hu,q=>by simp only[D.dep] at hn;omega
 | n + 1,.tup a,A,s,u,Q,hn,p,hu,q=>by
  simp only[KAt] at p;obtain⟨c,its,rfl,t,r⟩:=p;have T:=zgh t;obtain⟨o,ho,_,m,hd⟩:=t
  have hdep:D.deps a<=n:=by simp only[D.dep] at hn;omega
  unfold pyHash
  first | unfold pyHashByItsType | skip
  first | refine Z4 (wpAny_cRoomFor_or (.inr (show A.units<cLine by omega)) ?_) | skip
  refine Z4 (Xz T Xk.lookup ?_);show wpAny _ _ (if(some (Value.builtin "tuple.__hash__")==some W5)=true then _ else _) Q E _
  rw[if_neg (by rw[beq_builtin_none];exact Yo)]
  refine Z4 (Xz T Xk.lookup ?_);show wpAny _ _ (WS (.ref c) "__hash__" _ >>= _) Q E _;refine Z4 (XY T Xk (W4 Xk T F.entry_tuple_hash ?_ (F.args_tuple_hash_1 _)));show wpAny _ A.in1 (XO (.ref c) >>= _) _ _ _;refine Z4 (wpAny_tupleItemsOf ho hd (Z4 ?_));rw[<-Array.forIn_toList];refine wpAny_forIn_list _ (λrest (b:Array Int) s1=>∃done left,a=done++left/\KAts s.heap left rest/\b.toList=kHashs w done/\s1={s with toks:=s.toks+kDrawss done}) _ ?_ ?_ _ _ ⟨[],a,rfl,r,rfl,rfl⟩
  ·rintro v rest b s1 ⟨done,left,rfl,hl,hb,rfl⟩
   cases left with
   |nil=>simp only[KAts] at hl;cases hl
   | cons k ks=>
    simp only[KAts] at hl;obtain⟨v',rest',ez,k1,k2⟩:=hl;cases ez
    have hk:k.dep<=n:=by
     have:=zjp (xs:=done++k::ks) (x:=k) (i:=done.length) (by simp)
     omega
    refine Z4 (zj0 n k A.in1 _ v _ hk k1 (by show A.units+1+n<cLine;omega) ?_)
    have fin:∃d2 l2,done++k::ks=d2++l2/\KAts s.heap l2 rest/\(b.push (zmB w k)).toList=kHashs w d2/\({s with toks:=s.toks+kDrawss done+ziU k}:Shared)={s with toks:=s.toks+kDrawss d2}:=⟨done++[k],ks,by simp,k2,by simp[hb,zgA,kHashs],by simp[zfd,kDrawss,Nat.add_assoc]⟩
    first | exact ZY fin | exact Z4 (ZY (ZY fin))
  ·rintro b s1 ⟨done,left,rfl,hl,hb,rfl⟩
   cases left with
   |cons k ks=>simp only[KAts] at hl;obtain⟨_,_,ez,_⟩:=hl;cases ez
   | nil=>
    rw[Zc] at q;show wpAny _ _ (retInt (Yk b.toList)) _ _ _;rw[hb];refine wpAny_ret_mkInt ?_
    have q2:Q (reduceHash (Yk (kHashs w done))) {s with toks:=s.toks+(kDrawss done+1)}:=by simp only[zmB,ziU] at q;exact q
    clear q;unfold reduceHash at q2;generalize Yk (kHashs w done)=z at q2⊢;show wpAny _ _ (if(decide (-(2:Int)^63<=z)&&decide (z<2^63))=true then _ else _) Q E _
    by_cases hr:(decide (-(2:Int)^63<=z)&&decide (z<2^63))=true
    ·rw [if_pos hr] at q2⊢
     exact ZY (by simpa[Nat.add_assoc] using q2)
    ·rw [if_neg hr] at q2⊢
     exact Z4 (Xu (ZY (by simpa[Nat.add_assoc] using q2)))
 |n,.non,A,s,u,Q,hn,p,hu,q=>by simp only[KAt] at p;subst p;exact znd q|_,.bl _,_,_,_,_,_,p,_,_=>by simp only[KAt] at p|_,.lst _,_,_,_,_,_,p,_,_=>by simp only[KAt] at p
theorem zqG:∀(n:Nat) (x:D) (A:Around) (s:Shared) (u:Value) (Q:Bool->Shared->Prop),x.dep<=n->KAt s.heap x u->Q true s->wpAny (model prog w) A (eqIsQuiet n u) Q E s
 |n,.int a,A,s,u,Q,hn,p,q=>by simp only[KAt] at p;obtain⟨t,rfl⟩:=p;rw[Wu n rfl];exact ZY q|n,.str a,A,s,u,Q,hn,p,q=>by simp only[KAt] at p;obtain⟨t,rfl⟩:=p;rw[Wu n rfl];exact ZY q|0,.tup a,A,s,u,Q,hn,p,q=>by simp only[D.dep] at hn;omega
 | n + 1,.tup a,A,s,u,Q,hn,p,q=>by
  simp only[KAt] at p;obtain⟨c,its,rfl,t,r⟩:=p;have T:=zgh t;obtain⟨o,ho,_,m,hd⟩:=t
  have hdep:D.deps a<=n:=by simp only[D.dep] at hn;omega
  unfold eqIsQuiet;refine Z4 (Xz T F.slot_tuple_eq.lookup ?_);show wpAny _ _ (isInstance (.ref c) (.type "tuple") >>= _) _ _ _;refine Z4 (wpAny_isInstance T isSubtype_tuple_tuple ?_);simp only[Bool.not_true,ZN,if_false];refine Z4 (wpAny_seqItems ho hd (Z4 ?_));show wpAny _ _ (forIn its _ _) _ _ _;rw[<-Array.forIn_toList];refine wpAny_forIn_list _ (λrest r s1=>r.1=none/\s1=s/\∃left,D.deps left<=n/\KAts s.heap left rest) _ ?_ ?_ _ _ ⟨rfl,rfl,a,hdep,r⟩
  ·rintro v rest r s1 ⟨hr,rfl,left,hl,hk⟩
   cases left with|nil=>simp only[KAts] at hk;cases hk|cons k ks=>simp only[KAts] at hk;obtain⟨v',rest',ez,k1,k2⟩:=hk;cases ez;simp only[D.deps] at hl;refine Z4 (zqG n k A _ v _ (by omega) k1 ?_);simp only[Bool.not_true,ZN,if_false];exact ZY ⟨rfl,rfl,ks,by omega,k2⟩
  ·rintro⟨r1,r2⟩ s1 ⟨hr,rfl,_⟩
   simp only at hr;subst hr;exact ZY q
 |n,.non,A,s,u,Q,hn,p,q=>by simp only[KAt] at p;subst p;rw[Wu n rfl];exact ZY q|_,.bl _,_,_,_,_,_,p,_=>by simp only[KAt] at p|_,.lst _,_,_,_,_,_,p,_=>by simp only[KAt] at p
end
noncomputable instance:DecidableEq D:=λx y=>if h:x.same y=true then isTrue (D.same_eq x y h) else isFalse λe=>h (e▸D.same_refl x)
theorem zdk(x y:D):x.same y=decide (x=y):=by
 by_cases h:x=y
 ·subst h;rw[D.same_refl,decide_eq_true rfl]
 ·rw[zp0 h,decide_eq_false h]
theorem zlY(ho:h.get? d=some o)(hd:o.data=.dict es ep)(hs:Xj d h h')(a:Addr)(its:Array Value)(t:h.IsTuple a its):h'.IsTuple a its:=by
 obtain⟨o',e,c,n,dt⟩:=t
 have ne:a≠d:=by
  rintro rfl
  rw[ho] at e;cases e
  rw[hd] at dt;cases dt
 exact⟨o',(hs.2 a ne).trans e,c,n,dt⟩
def dKind(prog:Zs)(w:World):HeapKind prog w D where
 is:=λh x a=>x.dep<=8/\KAt h x (.ref a)
 hash:=zmB w
 draws:=ziU
 room:=λA=>A.units+8<cLine
 inj:=λhx hy=>KAt.inj _ _ _ hx.2 hy.2
 keeps:=λx ho hd hs=>⟨x.1,KAt.keep (zlY ho hd hs) _ _ x.2⟩
 pyHash:=λhu hk q=>zj0 8 _ _ _ _ _ hk.1 hk.2 hu q
 eqBool:=λhu hx hy q=>kEq 8 _ _ _ _ _ hx.1 hx.2 hy.2 hu _ _ _ _ (by rw[zdk];exact q)
 quiet:=λhk q=>zqG 8 _ _ _ _ _ hk.1 hk.2 q
end IT
namespace L2
open PySem PySem.Spec PyProof.Rows
abbrev Key:=Sum Int Str
def zs6:Key->Value->Bool|.inl k,v=>Value.isInt k v|.inr x,v=>Value.isStrOf x v
def keyH(w:World):Key->Int|.inl k=>hashInt k|.inr x=>hashStr w x
theorem zaA:∀{k:Key} {v:Value},zs6 k v=true->(∃i t,k=Wc i/\v=Value.int i t)\/(∃x t,k=Wb x/\v=Value.str x t)|.inl i,v,h=>by obtain⟨t,e⟩:=Value.isInt_shape (k:=i) (v:=v) h;exact .inl ⟨i,t,rfl,e⟩|.inr x,v,h=>by obtain⟨t,e⟩:=Value.isStrOf_shape (x:=x) (v:=v) h;exact .inr ⟨x,t,rfl,e⟩
theorem zut(a b:Int):decide ((Wc a:Key)=Wc b)=(a==b):=by
 by_cases e:a=b
 ·subst e;simp
 ·have h:¬(Wc a:Key)=Wc b:=λq=>e (Wc.inj q)
  rw[decide_eq_false h];exact(beq_eq_false_iff_ne.mpr e).symm
theorem zuw(a b:Str):decide ((Wb a:Key)=Wb b)=decide (a=b):=by
 by_cases e:a=b
 ·subst e;simp
 ·have h:¬(Wb a:Key)=Wb b:=λq=>e (Wb.inj q)
  rw[decide_eq_false h,decide_eq_false e]
theorem zuW(a:Int)(b:Str):decide ((Wc a:Key)=Wb b)=false:=decide_eq_false (λq=>nomatch q)
theorem zuY(a:Str)(b:Int):decide ((Wb a:Key)=Wc b)=false:=decide_eq_false (λq=>nomatch q)
def zmH(prog:Zs)(w:World):PySem.KeyKind prog w Key where
 is:=zs6
 hash:=keyH w
 inj:=λv a b ha hb=>by
  rcases zaA ha with⟨i,t,rfl,rfl⟩|⟨x,t,rfl,rfl⟩
  ·rcases zaA hb with⟨j,u,rfl,e⟩|⟨y,u,rfl,e⟩
   ·injection e with e1 _;rw[e1]
   ·exact nomatch e
  ·rcases zaA hb with⟨j,u,rfl,e⟩|⟨y,u,rfl,e⟩
   ·exact nomatch e
   ·injection e with e1 _;rw[e1]
 byValue:=λk v h=>by rcases zaA h with⟨i,t,rfl,rfl⟩|⟨x,t,rfl,rfl⟩<;>rfl
 pyHash:=λhv h=>by
  rcases zaA hv with⟨i,t,rfl,rfl⟩|⟨x,t,rfl,rfl⟩
  ·exact wpAny_pyHash_int h
  ·exact wpAny_pyHash_str h
 eqBool:=λhu hv h=>by
  rcases zaA hu with⟨i,t,rfl,rfl⟩|⟨x,t,rfl,rfl⟩
  ·rcases zaA hv with⟨j,u,rfl,rfl⟩|⟨y,u,rfl,rfl⟩
   ·rw[zut] at h;exact wpAny_eqBool_int h
   ·rw[zuW] at h;exact Yn.int_str i t y u _ _ _ _ h
  ·rcases zaA hv with⟨j,u,rfl,rfl⟩|⟨y,u,rfl,rfl⟩
   ·rw[zuY] at h;exact Yn.str_int x t j u _ _ _ _ h
   ·rw[zuw] at h;exact wpAny_eqBool_str h
 «strs»:=λk x t v h=>by
  rcases zaA h with⟨i,u,rfl,e⟩|⟨y,u,rfl,e⟩
  ·exact nomatch e
  ·injection e with e1 _
   subst e1
   cases v<;>rfl
inductive V where|non | bl (b:Bool) | int (i:Int) | str (x:Str) | byt (b:Array UInt8) | flt (b:UInt64) | ref (a:Addr) | ty (n:String)
 deriving DecidableEq
def RelV:V->Value->Prop|.non,u=>u=W5|.bl b,u=>u=Xt b|.int i,u=>∃t,u=Value.int i t|.str x,u=>∃t,u=Value.str x t|.byt b,u=>∃t,u=Value.bytes b t|.flt b,u=>∃t,u=Value.float b t|.ref a,u=>u=YM a|.ty n,u=>u=Xs n
abbrev Vals:List V->List Value->Prop:=Paired RelV
theorem Vals.length{xs:List V}{us:List Value}(r:Vals xs us):xs.length=us.length:=XD r
theorem Vals.get:∀{xs:List V} {us:List Value} {i:Nat} {x:V},Vals xs us->xs[i]?=some x->∃u,us[i]?=some u/\RelV x u|_,_,_,_,.nil,e=>by simp at e|_,_,0,_,.cons r _,e=>by simp at e;subst e;exact⟨_,rfl,r⟩|_,_,i+1,x,.cons _ t,e=>by obtain⟨u,h1,h2⟩:=Vals.get (i:=i) (x:=x) t (by simpa using e);exact⟨u,by simpa using h1,h2⟩
theorem Vals.set{x:V}{u:Value}(r:RelV x u):∀{xs:List V} {us:List Value} (i:Nat),Vals xs us->Vals (xs.set i x) (us.set i u)|_,_,_,.nil=>.nil|_,_,0,.cons _ t=>.cons r t|_,_,i+1,.cons q t=>.cons q (Vals.set r i t)
theorem Vals.append:∀{xs ys:List V} {us ws:List Value},Vals xs us->Vals ys ws->Vals (xs++ys) (us++ws)|_,_,_,_,.nil,s=>s|_,_,_,_,.cons r t,s=>.cons r (Vals.append t s)
theorem Vals.take:∀{xs:List V} {us:List Value} (n:Nat),Vals xs us->Vals (xs.take n) (us.take n)|_,_,0,_=>.nil|_,_,_+1,.nil=>.nil|_,_,n+1,.cons r t=>.cons r (Vals.take n t)
theorem Vals.drop:∀{xs:List V} {us:List Value} (n:Nat),Vals xs us->Vals (xs.drop n) (us.drop n)|_,_,0,r=>r|_,_,_+1,.nil=>.nil|_,_,n+1,.cons _ t=>Vals.drop n t
def RelO:Option V->Option Value->Prop|some v,some u=>RelV v u|none,none=>True|_,_=>False
def KV{κ:Type}:List (κ×V)->List (κ×Value)->Prop:=Paired λ(p:κ×V) (q:κ×Value)=>p.1=q.1/\RelV p.2 q.2
inductive HO where|lst (xs:List V)|tup (xs:List V)|dK (kvs:List (Key×V)) | dT (kvs:List (IT.D×Addr×V))|set (S:Int->Bool) (n:Nat)|ins (C dx:Addr) (fs:List (Str×V))|own (x:Addr)|xd (fs:List (Str×V))|met (f x:Addr)|rng (lo hi:Int)|frz (o:Obj) (u:HO)|tbl (ps:Array Value)|ext (φ:Heap->Prop)
abbrev Hp:=Addr->Option HO
def upd(H:Hp)(a:Addr)(o:HO):Hp:=λb=>if b=a then some o else H b
theorem zam{H:Hp}{a:Addr}{o:HO}:upd H a o a=some o:=by unfold upd;rw[if_pos rfl]
theorem zao{H:Hp}{a b:Addr}{o:HO}(h:b≠a):upd H a o b=H b:=by unfold upd;rw[if_neg h]
theorem zas{H:Hp}{a b:Addr}{o:HO}(h:H a=some o)(h':H b=none):a≠b:=by intro e;subst e;rw[h] at h';cases h'
section
variable (P:Zs)(w:World)
def zdy(h:Heap)(a:Addr)(items:Array Value):Prop:=IsTup h a items/\∀o,h.get? a=some o->o.dict=none
theorem zdy.new(h:Heap)(items:Array Value):zdy (h.push {cls:=.type "tuple",data:=.seq items}) h.objs.size items:=⟨IsTup.new h items,λo e=>by rw[Zw _ rfl] at e;cases e;rfl⟩
def zcj(H:Hp)(h:Heap)(a:Addr):HO->Prop
 |.lst xs=>xs.length<=sizeLine/\∃(its:List Value) (n:Nat),Vals xs its/\h.get? a=some {cls:=.type "list",data:=.seq its.toArray n}|.tup xs=>xs.length<=sizeLine/\∃its:List Value,Vals xs its/\zdy h a its.toArray|.dK kvs=>kvs.length<=sizeLine/\(a==Wa)=false/\∃vs,KV kvs vs/\h.DictOf (zmH P w) a vs
 | .dT kvs=>kvs.length<=sizeLine/\(a==Wa)=false/\∃xs:List (IT.D×Addr×Value),Paired (λ(p:IT.D×Addr×V) (q:IT.D×Addr×Value)=>p.1=q.1/\p.2.1=q.2.1/\RelV p.2.2 q.2.2) kvs xs ∧
   ∃o es ep,h.get? a=some o/\o.ExactDict/\o.data=.dict es ep/\es.toList=xs.map (entryOfKey (IT.dKind P w))/\(xs.map (·.1)).Nodup
 |.set S n=>h.SetOf (intKind P w) a S n
 | .ins C dx fs=>H dx=some (.own a)/\fs.length<=1000/\dx≠a/\h.get? a=some (YE C dx) ∧
   ∃mA,h.Ns1 dx mA/\(∀f,RelO (fs.lookup f) (mA f))/\V9 mA (fs.map (·.1))
 |.own _=>∃o,h.get? a=some o|.xd fs=>∃mA,h.Ns1 a mA/\∀f,RelO (fs.lookup f) (mA f)|.rng lo hi=>∃t u v,h.get? a=some {cls:=.type "range",data:=.fields #[.int lo t,.int hi u,.int 1 v]}|.frz o u=>h.get? a=some o/\zcj H h a u|.tbl ps=>h.get? a=some {cls:=.none,data:=.fields ps}|.met f x=>h.get? a=some (Wt (.ref f) (.ref x))|.ext φ=>φ h/\(∃o,h.get? a=some o)/\∀h1 h2:Heap,φ h1->(∀o,h1.get? a=some o->h2.get? a=some o)->φ h2
def HOk(H:Hp)(h:Heap):Prop:=∀a o,H a=some o->zcj P w H h a o
end
section
variable {P:Zs}{w:World}{H H':Hp}{h h':Heap}{a:Addr}{o:HO}
theorem zcj.lt(x:zcj P w H h a o):a<h.objs.size:=by
 cases o with|lst xs=>obtain⟨_,_,_,_,e⟩:=x;exact ZT e|tup xs=>obtain⟨_,_,_,p⟩:=x;exact p.1.lt|dK kvs=>obtain⟨_,_,_,_,o,_,_,e,_⟩:=x;exact ZT e|dT kvs=>obtain⟨_,_,_,_,o,_,_,e,_⟩:=x;exact ZT e|set S n=>obtain⟨o,_,_,_,e,_⟩:=x;exact ZT e|ins C dx fs=>obtain⟨_,_,_,e,_⟩:=x;exact ZT e|own y=>obtain⟨_,e⟩:=x;exact ZT e|xd fs=>obtain⟨_,⟨_,_,_,e,_⟩,_⟩:=x;exact ZT e|rng lo hi=>obtain⟨_,_,_,e⟩:=x;exact ZT e|frz ob u=>obtain⟨e,_⟩:=x;exact ZT e|tbl ps=>exact ZT (show h.get? a=some _ from x)|met f y=>exact ZT (show h.get? a=some _ from x)|ext φ=>obtain⟨_,⟨_,e⟩,_⟩:=x;exact ZT e
theorem Paired.mapP{α β:Type}{F G:α->β->Prop}:∀{l₁:List α} {l₂:List β},Paired F l₁ l₂->(∀a b,F a b->G a b)->Paired G l₁ l₂|_,_,.nil,_=>.nil|_,_,.cons r t,f=>.cons (f _ _ r) (Paired.mapP t f)
theorem zcj.stay(x:zcj P w H h a o)(k:∀b u,(b=a\/H b=some (.own a))->h.get? b=some u->h'.get? b=some u)
  (ho:∀b,H b=some (.own a)->H' b=some (.own a)) (ht:∀b xs,H b=some (.tup xs)->H' b=some (.tup xs)):zcj P w H' h' a o:=by
 induction o with|lst xs=>obtain⟨z,its,n,r,e⟩:=x;exact⟨z,its,n,r,k _ _ (.inl rfl) e⟩|tup xs=>obtain⟨z,its,r,⟨ob,e,c⟩,dd⟩:=x;exact⟨z,its,r,⟨ob,k _ _ (.inl rfl) e,c⟩,λo2 e2=>by rw[k _ _ (.inl rfl) e] at e2;cases e2;exact dd _ e⟩|dK kvs=>obtain⟨z,y,vs,r,ob,es,ep,e,c⟩:=x;exact⟨z,y,vs,r,ob,es,ep,k _ _ (.inl rfl) e,c⟩|dT kvs=>obtain⟨z,y,xs,r,ob,es,ep,e,c⟩:=x;exact⟨z,y,xs,r,ob,es,ep,k _ _ (.inl rfl) e,c⟩|set S n=>obtain⟨ob,es,ep,t,e,c⟩:=x;exact⟨ob,es,ep,t,k _ _ (.inl rfl) e,c⟩|ins C dx fs=>obtain⟨d,z,ne,e,mA,⟨od,es,ep,e2,c⟩,r⟩:=x;exact⟨ho _ d,z,ne,k _ _ (.inl rfl) e,mA,⟨od,es,ep,k _ _ (.inr d) e2,c⟩,r⟩|own y=>obtain⟨ob,e⟩:=x;exact⟨ob,k _ _ (.inl rfl) e⟩|xd fs=>obtain⟨mA,⟨od,es,ep,e,c⟩,r⟩:=x;exact⟨mA,⟨od,es,ep,k _ _ (.inl rfl) e,c⟩,r⟩|rng lo hi=>obtain⟨t,u,v,e⟩:=x;exact⟨t,u,v,k _ _ (.inl rfl) e⟩|frz ob u ih=>obtain⟨e,q⟩:=x;exact⟨k _ _ (.inl rfl) e,ih q⟩|tbl ps=>have e:h.get? a=some {cls:=.none,data:=.fields ps}:=x;show h'.get? a=some {cls:=.none,data:=.fields ps};exact k a _ (.inl rfl) e|met f y=>have e:h.get? a=some (Wt (.ref f) (.ref y)):=x;show h'.get? a=some (Wt (.ref f) (.ref y));exact k a _ (.inl rfl) e|ext φ=>obtain⟨p,⟨o,e⟩,st⟩:=x;exact⟨st _ _ p λo q=>k _ _ (.inl rfl) q,⟨o,k _ _ (.inl rfl) e⟩,st⟩
theorem HOk.lt(x:HOk P w H h)(e:H a=some o):a<h.objs.size:=(x a o e).lt
theorem HOk.fresh(x:HOk P w H h)(e:h.objs.size<=a):H a=none:=by
 cases q:H a with|none=>rfl|some u=>exact absurd (ZL (x.lt q) e) (YI _)
theorem HOk.kept(x:HOk P w H h)(k:∀b u,h.get? b=some u->h'.get? b=some u):HOk P w H h':=λa o e=>(x a o e).stay (λb u _ q=>k b u q) (λ_ q=>q) λ_ _ q=>q
theorem HOk.laid(x:HOk P w H h)(k:∀b u,h.get? b=some u->h'.get? b=some u)(hp:h.objs.size<=a)(new:zcj P w (upd H a o) h' a o):HOk P w (upd H a o) h':=λb u e=>by
 have hn:=x.fresh hp
 by_cases hb:b=a
 ·subst hb;rw[zam] at e;cases e;exact new
 ·rw [zao hb] at e
  exact(x b u e).stay (λc v _ q=>k c v q) (λc q=>by rw[zao (zas q hn)];exact q) λc xs q=>by rw[zao (zas q hn)];exact q
end
def Rd(H:Hp)(a:Addr)(u:HO):Prop:=H a=some u\/∃o,H a=some (.frz o u)
theorem Rd.ok{P:Zs}{w:World}{H:Hp}{h:Heap}{a:Addr}{u:HO}(r:Rd H a u)(x:HOk P w H h):zcj P w H h a u:=by
 rcases r with r|⟨o,r⟩
 ·exact x a u r
 ·obtain ⟨_,q⟩:=x a _ r
  exact q
def Mut:Option HO->Prop|some (.lst _)=>True|some (.dK _)=>True|some (.dT _)=>True|some (.set _ _)=>True|some (.ins _ _ _)=>True|some (.ext _)=>True|_=>False
section
variable {P:Zs}{w:World}{H:Hp}{h h':Heap}{x e:Addr}{o':HO}
theorem HOk.write(ok:HOk P w H h)(mu:Mut (H x))(he:e=x\/H e=some (.own x))(k:∀b u,b≠e->h.get? b=some u->h'.get? b=some u)(heo:∃u,h'.get? e=some u)
  (new:zcj P w (upd H x o') h' x o'):HOk P w (upd H x o') h':=λb u q=>by
 have nown:∀c y,H c=some (.own y)->c≠x:=λc y r z=>by subst z;rw[r] at mu;exact mu
 have ntup:∀c xs,H c=some (.tup xs)->c≠x:=λc xs r z=>by subst z;rw[r] at mu;exact mu
 by_cases hb:b=x
 ·subst hb;rw[zam] at q;cases q;exact new
 ·rw [zao hb] at q
  by_cases hbe:b=e
  ·have q':H b=some (.own x):=by
    rcases he with z | z
    ·exact absurd (hbe.trans z) hb
    ·rw[hbe];exact z
   rw[q] at q';cases q'
   obtain⟨v,hv⟩:=heo
   exact⟨v,by rw[hbe];exact hv⟩
  ·refine (ok b u q).stay (λc v hc r=>k c v ?_ r) (λc r=>by rw[zao (nown c b r)];exact r) λc xs r=>by rw[zao (ntup c xs r)];exact r
   rcases hc with rfl | hc
   ·exact hbe
   ·rintro rfl
    rcases he with z | z
    ·exact nown c b hc z
    ·rw[hc] at z;cases z;exact hb rfl
end
structure Un(fs ex:List Addr)(H H':Hp)(h h':Heap):Prop where
 keep:∀b o,h.get? b=some o->H b=none->b∉fs->b∉ex->h'.get? b=some o
 slot:∀b o,h.get? b=some o->H b=none->b∈fs->b∉ex->∃sl,h'.get? b=some {o with slots:=sl}
 free:∀b o,h.get? b=some o->H b=none->b∉ex->H' b=none
 there:∀b o,h.get? b=some o->b∉ex->∃o',h'.get? b=some o'
 tups:∀b xs,H b=some (.tup xs)->H' b=some (.tup xs)
 frzs:∀b o u,H b=some (.frz o u)->H' b=some (.frz o u)
 tbls:∀b ps,H b=some (.tbl ps)->∃more,H' b=some (.tbl (ps++more))
section
variable {fs fs' ex ex':List Addr}{H H1 H2:Hp}{h h1 h2 h':Heap}{a x e:Addr}{o:HO}
theorem Un.any(u:Un fs ex H H1 h h1){b:Addr}{ob:Obj}(q:h.get? b=some ob)(n:H b=none)(hx:b∉ex):∃sl,h1.get? b=some {ob with slots:=sl}:=by
 by_cases hb:b∈fs
 ·exact u.slot b ob q n hb hx
 ·exact⟨ob.slots,u.keep b ob q n hb hx⟩
theorem Un.kept(k:∀b u,h.get? b=some u->h'.get? b=some u):Un fs ex H H h h':=⟨λb ob q _ _ _=>k b ob q,λb ob q _ _ _=>⟨ob.slots,k b ob q⟩,λ_ _ _ n _=>n,λb ob q _=>⟨ob,k b ob q⟩,λ_ _ q=>q,λ_ _ _ q=>q,λ_ ps q=>⟨#[],by rw[q];simp⟩⟩
theorem Un.refl:Un fs ex H H h h:=Un.kept λ_ _ q=>q
theorem Un.laid(k:∀b u,h.get? b=some u->h'.get? b=some u)(hp:h.objs.size<=a)(hn:H a=none):Un fs ex H (upd H a o) h h' where
 keep:=λb u q _ _ _=>k b u q
 slot:=λb u q _ _ _=>⟨u.slots,k b u q⟩
 free:=λb u q n _=>by rw[zao (ZH (ZL (ZT q) hp))];exact n
 there:=λb u q _=>⟨u,k b u q⟩
 tups:=λb xs q=>by rw[zao (zas q hn)];exact q
 frzs:=λb u xs q=>by rw[zao (zas q hn)];exact q
 tbls:=λb ps q=>⟨#[],by rw[zao (zas q hn),q];simp⟩
theorem Un.write(mu:Mut (H x))(he:e=x\/H e=some (.own x))(k:∀b u,b≠e->h.get? b=some u->h'.get? b=some u)(heo:∃u,h'.get? e=some u):Un fs ex H (upd H x o) h h':=by
 have hx:∀b,H b=none->b≠x:=λb n z=>by subst z;rw[n] at mu;exact mu
 have hb:∀b,H b=none->b≠e:=λb n z=>by
  subst z
  rcases he with r | r
  ·exact hx b n r
  ·rw[n] at r;cases r
 have hm:∀b u,H b=some u->¬Mut (some u)->b≠x:=λb u q nm z=>by subst z;rw[q] at mu;exact nm mu
 refine ⟨λb u q n _ _=>k b u (hb b n) q,λb u q n _ _=>⟨u.slots,k b u (hb b n) q⟩,λb u q n _=>by rw[zao (hx b n)];exact n,λb u q _=>?_,
  fun b xs q=>by rw[zao (hm b _ q λz=>z)];exact q,λb u xs q=>by rw[zao (hm b _ q λz=>z)];exact q,λb ps q=>⟨#[],by rw[zao (hm b _ q λz=>z),q];simp⟩⟩
 by_cases hbe:b=e
 ·subst hbe;exact heo
 ·exact⟨u,k b u hbe q⟩
end
def trk(h:Heap)(H:Hp):List Addr:=(Zy h.objs.size).filter λa=>(H a).isSome
def hidT(h:Heap)(H:Hp):Heap:=PySem.W.hideAll h (trk h H)
theorem zmm(h:Heap)(H:Hp):(hidT h H).objs.size=h.objs.size:=PySem.W.hideAll_size _ _
theorem zp7{h:Heap}{H:Hp}{b:Addr}{o:Obj}(e:h.get? b=some o)(n:H b=none):(hidT h H).get? b=some o:=
 PySem.W.hideAll_get _ e λhm=>by
  have q:(H b).isSome=true:=(X0.mp hm).2
  rw[n] at q;simp at q
theorem zrS{h:Heap}{H:Hp}{b:Addr}{o:Obj}(e:(hidT h H).get? b=some o):h.get? b=some o/\H b=none:=by
 have e':h.get? b=some o:=PySem.W.of_hideAll (trk h H) e;refine⟨e',?_⟩
 cases q:H b with
 |none=>rfl
 |some x=>
  have hm:b∈trk h H:=X0.mpr ⟨List.mem_range.mpr (ZT e'),by simp[q]⟩;have z:(hidT h H).get? b=none:=PySem.W.hideAll_none (trk h H) hm
  rw[z] at e;cases e
structure Mod(K:Z7)(mg:Str->Option Value)(base:Heap):Prop where
 kin:K.In base
 glob:base.Ns ZQ mg
 blt:∃mb,base.Ns builtinsNs mb/\∀x:Str,x ≠ "__name__"->mb x=XJ x
 nolimit:base.NoLimit
structure Cx where
 prog:Zs
 w:World
 K:Z7
 mg:Str->Option Value
 base:Heap
 A:Around
 N:List Str
 s₀:Shared
 H₀:Hp
 env:Env
 outer:List Env
 stack:List Env
 ex:List Addr
 fn:Str->Bool
 calm:Bool
 pn:List (Addr×Obj)
 xe:Value->Shared->Prop
def frs(l:List Env):List Addr:=l.filterMap (·.frame)
abbrev Cx.fs(X:Cx):List Addr:=frs X.outer
def Vis(sc:Scope)(x:Str):Prop:=sc.names.lookup x=some .local\/sc.names.lookup x=some .cell\/sc.names.lookup x=some .free
def Loc(sc:Scope)(x:Str):Prop:=sc.names.lookup x=some .local\/sc.names.lookup x=some .cell
def Look(env:Env)(h:Heap)(m:Str->Option Value)(x:Str)(u:Value):Prop:=(env.kindOf x=some .local/\m x=some u)\/((env.kindOf x=some .cell\/env.kindOf x=some .free)/\∃c,env.cells.lookup x=some c/\h.IsCell c (some u))
structure Cx.Ok(X:Cx):Prop where
 mod:Mod X.K X.mg X.base
 kind:X.env.scope.kind=.function
 glob:X.env.globals=ZQ
 blt:X.env.builtins=builtinsNs
 above:X.s₀.heap.objs.size<=X.env.locals
 inj:∀x y c,X.env.cells.lookup x=some c->X.env.cells.lookup y=some c->x=y
 has:∀x,(X.env.kindOf x=some .cell\/X.env.kindOf x=some .free)->∃c,X.env.cells.lookup x=some c
 cab:∀x c,X.fn x=true->X.env.cells.lookup x=some c->X.s₀.heap.objs.size<=c
 hd:X.calm=true->X.A.handled=none
 frames:X.A.frames=some X.stack
 stk:X.stack=X.outer\/(X.stack=X.env::X.outer/\X.env.frame=some X.env.locals)
 exf:∀b∈X.ex,b≠X.env.locals/\∀x c,X.env.cells.lookup x=some c->c≠b
 bs:∀b o,X.base.get? b=some o->X.s₀.heap.get? b=some o/\X.H₀ b=none
 bsz:X.base.objs.size<=X.s₀.heap.objs.size
 noex:∀b o,X.base.get? b=some o->b∉X.ex
 exfs:∀b∈X.ex,b∉X.fs
 funs:X.s₀.heap.FunFrames X.base X.outer
 frf:∀b∈X.fs,X.H₀ b=none
structure Inv(X:Cx)(pins:List (Addr×Obj))(σ:List (Option V))(H:Hp)(s:Shared):Prop where
 ok:X.Ok
 os:s.os=X.s₀.os
 bare:Ws s.gens
 base:Un X.fs X.ex X.H₀ H X.s₀.heap s.heap
 loc:∃m,s.heap.Ns X.env.locals m/\∀(i:Nat) (x:Str) (v:V),X.N[i]?=some x->σ[i]?=some (some v)->Vis X.env.scope x->∃u,RelV v u/\Look X.env s.heap m x u
 cell:∀x c,X.env.cells.lookup x=some c->∃v,s.heap.IsCell c v
 free:H X.env.locals=none
 freeC:∀x c,X.env.cells.lookup x=some c->H c=none
 pin:∀p∈X.pn++pins,s.heap.get? p.1=some p.2/\H p.1=none/\p.1≠X.env.locals/\p.1∉X.fs/\∀v,p.2.data≠.cell v
 hok:HOk X.prog X.w H s.heap
 len:σ.length=X.N.length
section
variable {X:Cx}{pins:List (Addr×Obj)}{σ:List (Option V)}{H H':Hp}{s:Shared}{h':Heap}
theorem Cx.Ok.nofr(ok:X.Ok){b:Addr}{o:Obj}(e:X.base.get? b=some o):b∉X.fs:=λhb=>by
 have:=(ok.funs.mem hb).1
 rw[e] at this;cases this
theorem Inv.bs(I:Inv X pins σ H s):∀b o,X.base.get? b=some o->s.heap.get? b=some o/\H b=none:=λb o e=>⟨I.base.keep b o (I.ok.bs b o e).1 (I.ok.bs b o e).2 (I.ok.nofr e) (I.ok.noex b o e),I.base.free b o (I.ok.bs b o e).1 (I.ok.bs b o e).2 (I.ok.noex b o e)⟩
theorem Inv.bk(I:Inv X pins σ H s):∀b o,X.base.get? b=some o->s.heap.get? b=some o:=λb o e=>(I.bs b o e).1
theorem Inv.mod(I:Inv X pins σ H s):Mod X.K X.mg X.base:=I.ok.mod
theorem Inv.kIn(I:Inv X pins σ H s):X.K.In s.heap:=I.ok.mod.kin.keeps I.bk
theorem Inv.lt(I:Inv X pins σ H s):X.env.locals<s.heap.objs.size:=let ⟨_,hn,_⟩:=I.loc;hn.lt
theorem Inv.sz(I:Inv X pins σ H s):X.s₀.heap.objs.size<=s.heap.objs.size:=ZJ I.ok.above (Xl I.lt)
theorem Inv.nofs(I:Inv X pins σ H s){a:Addr}(h:s.heap.objs.size<=a):a∉X.fs:=λhb=>by obtain⟨_,o,ho,_⟩:=I.ok.funs.mem hb;exact absurd (ZL (ZT ho) (ZJ I.sz h)) (YI _)
theorem Inv.cne(I:Inv X pins σ H s):∀x c,X.env.cells.lookup x=some c->c≠X.env.locals:=λx c e z=>by
 obtain⟨v,o,ho,hd⟩:=I.cell x c e;obtain⟨m,⟨o',es,ep,ho',hd',_⟩,_⟩:=I.loc
 rw[z,ho'] at ho;cases ho;rw[hd'] at hd;cases hd
theorem Inv.funs(I:Inv X pins σ H s):s.heap.FunFrames X.base X.outer:=by
 have all:∀(l:List Env),(∀b∈frs l,b∈X.fs)->X.s₀.heap.FunFrames X.base l->s.heap.FunFrames X.base l:=by
  intro l
  induction l with
  |nil=>intro _ _;trivial
  |cons env r ih=>
   intro hs hl;obtain⟨hk,⟨L,o,hf,hn,ho,hd⟩,hr⟩:=hl
   have hL:L∈X.fs:=hs L (by unfold frs;rw[YA,hf];exact YL)
   obtain⟨sl,e⟩:=I.base.slot L o ho (I.ok.frf L hL) hL λz=>I.ok.exfs L z hL
   exact⟨hk,⟨L,_,hf,hn,e,hd⟩,ih (λb hb=>hs b (by unfold frs;rw[YA,hf];exact Zr _ hb)) hr⟩
 exact all X.outer (λ_ hb=>hb) I.ok.funs
theorem Inv.stack(I:Inv X pins σ H s):s.heap.FunFrames X.base X.stack:=by
 rcases I.ok.stk with e|⟨e,hf⟩
 ·rw[e];exact I.funs
 ·rw [e]
  obtain⟨m,hn,_⟩:=I.loc
  refine .cons (by rw[I.ok.kind];decide) hf hn ?_ I.funs
  exact Heap.get?_none_of_le (ZJ I.ok.bsz I.ok.above)
theorem Inv.stkSub(I:Inv X pins σ H s):∀b∈frs X.stack,b∈X.env.locals::X.fs:=λb hb=>by
 rcases I.ok.stk with e|⟨e,hf⟩
 ·rw[e] at hb;exact Zr _ hb
 ·rw [e] at hb
  unfold frs at hb;rw[YA,hf] at hb;exact hb
theorem Inv.stkFree(I:Inv X pins σ H s):∀b∈frs X.stack,H b=none:=λb hb=>by
 rcases ZP.mp (I.stkSub b hb) with e | hb
 ·rw[e];exact I.free
 ·obtain ⟨_,o,ho,_⟩:=I.ok.funs.mem hb
  exact I.base.free b o ho (I.ok.frf b hb) λz=>I.ok.exfs b z hb
theorem Inv.step{g':Array GenState}{t':Nat}{d':Drawn}{ch:List Addr}(I:Inv X pins σ H s)
  (hch:∀b∈ch,(b∈X.ex\/X.s₀.heap.objs.size<=b)/\b≠X.env.locals/\(∀x c,X.env.cells.lookup x=some c->c≠b)/\∀p∈X.pn++pins,p.1≠b)
  (keep:∀b o,b≠X.env.locals->b∉X.fs->b∉ch->s.heap.get? b=some o->H b=none->h'.get? b=some o)
  (slot:∀b o,b≠X.env.locals->b∈X.fs->b∉ch->s.heap.get? b=some o->H b=none->∃sl,h'.get? b=some {o with slots:=sl}) (free:∀b o,b∉ch->s.heap.get? b=some o->H b=none->H' b=none)
  (there:∀b o,b∉ch->s.heap.get? b=some o->∃o',h'.get? b=some o')
  (tups:∀b xs,H b=some (.tup xs)->H' b=some (.tup xs)) (frzs:∀b o u,H b=some (.frz o u)->H' b=some (.frz o u)) (tbls:∀b ps,H b=some (.tbl ps)->∃more,H' b=some (.tbl (ps++more)))
  (ns:∀m,s.heap.Ns X.env.locals m->h'.Ns X.env.locals m) (hok:HOk X.prog X.w H' h') (hg:Ws g'):
  Inv X pins σ H' {s with heap:=h',gens:=g',drawn:=d',toks:=t'}:=by
 have neL:∀b o,X.s₀.heap.get? b=some o->b≠X.env.locals:=λb o e=>ZH (ZL (ZT e) I.ok.above)
 have neC:∀b o,X.s₀.heap.get? b=some o->b∉X.ex->b∉ch:=λb o e hx hb=>by
  rcases(hch b hb).1 with z | z
  ·exact hx z
  ·exact absurd (ZL (ZT e) z) (YI _)
 have cellK:∀x c,X.env.cells.lookup x=some c->∀v,s.heap.IsCell c v->h'.IsCell c v:=λx c e v ⟨o,ho,hd⟩=>by
  have nch:c∉ch:=λz=>(hch c z).2.2.1 x c e rfl
  by_cases hc:c∈X.fs
  ·obtain ⟨sl,q⟩:=slot c o (I.cne x c e) hc nch ho (I.freeC x c e)
   exact⟨_,q,hd⟩
  ·exact⟨o,keep c o (I.cne x c e) hc nch ho (I.freeC x c e),hd⟩
 refine⟨I.ok,I.os,hg,⟨λb o e n hb hx=>?_,λb o e n hb hx=>?_,λb o e n hx=>?_,λb o e hx=>?_,λb xs e=>tups b xs (I.base.tups b xs e),λb o xs e=>frzs b o xs (I.base.frzs b o xs e),λb ps e=>?_⟩,?_,λx c e=>?_,?_,λx c e=>?_,λp hp=>?_,hok,I.len⟩
 ·exact keep b o (neL b o e) hb (neC b o e hx) (I.base.keep b o e n hb hx) (I.base.free b o e n hx)
 ·obtain ⟨sl,e1⟩:=I.base.slot b o e n hb hx
  obtain⟨sl',e2⟩:=slot b _ (neL b o e) hb (neC b o e hx) e1 (I.base.free b o e n hx);exact⟨sl',e2⟩
 ·obtain ⟨o',e1⟩:=I.base.there b o e hx
  exact free b o' (neC b o e hx) e1 (I.base.free b o e n hx)
 ·obtain ⟨o',e1⟩:=I.base.there b o e hx
  exact there b o' (neC b o e hx) e1
 ·obtain ⟨m1,e1⟩:=I.base.tbls b ps e
  obtain⟨m2,e2⟩:=tbls b _ e1;exact⟨m1++m2,by rw[e2,Array.append_assoc]⟩
 ·obtain ⟨m,hn,hl⟩:=I.loc
  refine⟨m,ns m hn,λi x v e1 e2 e3=>?_⟩;obtain⟨u,r,l⟩:=hl i x v e1 e2 e3;refine⟨u,r,?_⟩
  rcases l with l|⟨k,c,e,z⟩
  ·exact .inl l
  ·exact .inr ⟨k,c,e,cellK x c e _ z⟩
 ·obtain ⟨v,z⟩:=I.cell x c e
  exact⟨v,cellK x c e v z⟩
 ·obtain ⟨m,⟨o,_,_,ho,_⟩,_⟩:=I.loc
  exact free _ o (λz=>(hch _ z).2.1 rfl) ho I.free
 ·obtain ⟨v,o,ho,hd⟩:=I.cell x c e
  exact free c o (λz=>(hch c z).2.2.1 x c e rfl) ho (I.freeC x c e)
 ·obtain ⟨e,n,ne,nf,d⟩:=I.pin p hp
  have nch:p.1∉ch:=λz=>(hch p.1 z).2.2.2 p hp rfl;exact⟨keep p.1 p.2 ne nf nch e n,free p.1 p.2 nch e n,ne,nf,d⟩
theorem Inv.un{t':Nat}(I:Inv X pins σ H s)(u:Un X.fs [] H H' s.heap h')(hok:HOk X.prog X.w H' h'):Inv X pins σ H' {s with heap:=h',toks:=t'}:=by
 obtain⟨m,⟨o,es,ep,ho,r⟩,_⟩:=id I.loc;obtain⟨sl,hL⟩:=u.any ho I.free (by simp)
 exact I.step (g':=s.gens) (d':=s.drawn) (ch:=[]) (λ_ z=>nomatch z) (λb o _ hb _ e n=>u.keep b o e n hb (by simp)) (λb o _ hb _ e n=>u.slot b o e n hb (by simp)) (λb o _ e n=>u.free b o e n (by simp)) (λb o _ e=>u.there b o e (by simp)) u.tups u.frzs u.tbls (λm' hm=>by
  obtain⟨o',es',ep',ho',r'⟩:=hm
  rw[ho] at ho';cases ho'
  exact⟨_,es',ep',hL,r'⟩) hok I.bare
theorem Inv.call{g':Array GenState}{t':Nat}{d':Drawn}{ch:List Addr}(I:Inv X pins σ H s)(u:Un (frs X.stack) ch H H' s.heap h')(hok:HOk X.prog X.w H' h')(hg:Ws g')
  (hch:∀b∈ch,(b∈X.ex\/X.s₀.heap.objs.size<=b)/\b≠X.env.locals/\(∀x c,X.env.cells.lookup x=some c->c≠b)/\∀p∈X.pn++pins,p.1≠b):
  Inv X pins σ H' {s with heap:=h',gens:=g',drawn:=d',toks:=t'}:=by
 obtain⟨m,⟨o,es,ep,ho,r⟩,_⟩:=id I.loc;obtain⟨sl,hL⟩:=u.any ho I.free λz=>(hch _ z).2.1 rfl
 exact I.step (ch:=ch) hch (λb o hL hb hc e n=>u.keep b o e n (λz=>(ZP.mp (I.stkSub b z)).elim hL hb) hc) (λb o _ _ hc e n=>u.any e n hc) (λb o hc e n=>u.free b o e n hc) (λb o hc e=>u.there b o e hc) u.tups u.frzs u.tbls (λm' hm=>by
  obtain⟨o',es',ep',ho',r'⟩:=hm
  rw[ho] at ho';cases ho'
  exact⟨_,es',ep',hL,r'⟩) hok hg
theorem Inv.turned{t':Nat}{it:Addr}(I:Inv X pins σ H s)(k:∀b o,b≠it->s.heap.get? b=some o->h'.get? b=some o)(hn:H it=none)(hL:it≠X.env.locals)
  (h1:it∈X.ex\/X.s₀.heap.objs.size<=it) (h2:∀x c,X.env.cells.lookup x=some c->c≠it) (h3:∀p∈X.pn++pins,p.1≠it):Inv X pins σ H {s with heap:=h',toks:=t'}:=by
 have nit:∀b u,H b=some u->b≠it:=λb u e z=>by rw[z,hn] at e;cases e
 refine I.step (g':=s.gens) (d':=s.drawn) (ch:=[it]) (λb hb=>?_) (λb o _ _ hc e _=>k b o (λz=>hc (by simp[z])) e) (λb o _ _ hc e _=>⟨o.slots,k b o (λz=>hc (by simp[z])) e⟩) (λ_ _ _ _ n=>n)
  (λb o hc e=>⟨o,k b o (λz=>hc (by simp[z])) e⟩) (λ_ _ e=>e) (λ_ _ _ e=>e) (λb ps e=>⟨#[],by rw[e];simp⟩) (λm hm=>?_) (λb u e=>?_) I.bare
 ·have e:b=it:=by simpa using hb
  subst e;exact⟨h1,hL,h2,h3⟩
 ·obtain ⟨o,es,ep,ho,r⟩:=hm
  exact⟨o,es,ep,k _ o (Yw hL) ho,r⟩
 ·refine (I.hok b u e).stay (λc v hc q=>k c v ?_ q) (λ_ q=>q) λ_ _ q=>q
  rcases hc with z | z
  ·rw[z];exact nit b u e
  ·exact nit c _ z
theorem Inv.tok(I:Inv X pins σ H s)(t:Nat):Inv X pins σ H {s with toks:=t}:=I.un (h':=s.heap) (t':=t) Un.refl I.hok
theorem Inv.kept{t':Nat}(I:Inv X pins σ H s)(k:∀b u,s.heap.get? b=some u->h'.get? b=some u):Inv X pins σ H {s with heap:=h',toks:=t'}:=I.un (Un.kept k) (I.hok.kept k)
theorem Inv.laid{a:Addr}{o:HO}{t':Nat}(I:Inv X pins σ H s)(k:∀b u,s.heap.get? b=some u->h'.get? b=some u)(hp:s.heap.objs.size<=a)(new:zcj X.prog X.w (upd H a o) h' a o):
  Inv X pins σ (upd H a o) {s with heap:=h',toks:=t'}:=I.un (Un.laid k hp (I.hok.fresh hp)) (I.hok.laid k hp new)
theorem Inv.write{x e:Addr}{o:HO}{t':Nat}(I:Inv X pins σ H s)(mu:Mut (H x))(he:e=x\/H e=some (.own x))(k:∀b u,b≠e->s.heap.get? b=some u->h'.get? b=some u)(heo:∃u,h'.get? e=some u)
  (new:zcj X.prog X.w (upd H x o) h' x o):Inv X pins σ (upd H x o) {s with heap:=h',toks:=t'}:=I.un (Un.write mu he k heo) (I.hok.write mu he k heo new)
theorem Inv.pins_of{pins':List (Addr×Obj)}(I:Inv X pins σ H s)(h:∀p∈pins',s.heap.get? p.1=some p.2/\H p.1=none/\p.1≠X.env.locals/\p.1∉X.fs/\∀v,p.2.data≠.cell v):Inv X pins' σ H s:=⟨I.ok,I.os,I.bare,I.base,I.loc,I.cell,I.free,I.freeC,λp hp=>(YZ.mp hp).elim (λz=>I.pin p (Yh _ z)) (h p),I.hok,I.len⟩
theorem zkH{N:List Str}(hN:N.Nodup){i j:Nat}{x:Str}(a:N[i]?=some x)(b:N[j]?=some x):i=j:=by obtain⟨h1,e1⟩:=Z9.mp a;obtain⟨h2,e2⟩:=Z9.mp b;exact(List.getElem_inj hN).mp (e1.trans e2.symm)
theorem zm0{M:Model}{A:Around}{E:Value->Shared->Prop}{i:Nat}{x:Str}{v:V}{u:Value}{Q:Unit->Shared->Prop}(I:Inv X pins σ H s)(hN:X.N.Nodup)(hi:X.N[i]?=some x)(hx:Loc X.env.scope x)(r:RelV v u)
    (h:∀s',Inv X pins (σ.set i (some v)) H s'->(∃a,Xj a s.heap s'.heap/\(a=X.env.locals\/X.env.cells.lookup x=some a))->Q () s') (hf:X.fn x=true\/X.env.scope.names.lookup x=some .local:=by first | exact .inl rfl | exact .inr rfl | assumption):wpAny M A (storeName X.env x u) Q E s:=by
  obtain⟨m,hn,hl⟩:=id I.loc
  have hcls:(X.env.scope.kind==.class||(X.env.scope.kind==.module&&X.env.locals != X.env.globals))=false:=by rw[I.ok.kind];rfl
  have hiσ:i<σ.length:=by rw[I.len];exact(Z9.mp hi).1
  have cne:=I.cne
  have tracked:∀{a:Addr} {h':Heap},(∃o,s.heap.get? a=some o/\H a=none)->Xj a s.heap h'->HOk X.prog X.w H h':=λ{a h'} ha hs b ob e=>by
    obtain⟨_,_,hfree⟩:=ha;refine(I.hok b ob e).stay (λc w' hc q=>(hs.2 c ?_).trans q) (λ_ q=>q) λ_ _ q=>q
    rintro rfl
    rcases hc with rfl | hc
    · rw[hfree] at e;cases e
    · rw[hfree] at hc;cases hc
  rcases hx with hk | hk
  · refine wpAny_storeName_local hk hn (λh' hn' hs=>?_) hcls
    obtain⟨oL,_,_,hoL,_⟩:=id hn;refine h _ ⟨I.ok,I.os,I.bare,⟨λb o e n hb hx=>?_,λb o e n hb hx=>?_,I.base.free,λb o e hx=>?_,I.base.tups,I.base.frzs,I.base.tbls⟩,⟨_,hn',λj y v' e1 e2 e3=>?_⟩,λy c e=>?_,I.free,I.freeC,λp hp=>?_,tracked ⟨oL,hoL,I.free⟩ hs,by simpa using I.len⟩ ⟨_,hs,.inl rfl⟩
    · exact(hs.2 b (ZH (ZL (ZT e) I.ok.above))).trans (I.base.keep b o e n hb hx)
    · obtain ⟨sl,e1⟩:=I.base.slot b o e n hb hx
      exact⟨sl,(hs.2 b (ZH (ZL (ZT e) I.ok.above))).trans e1⟩
    · obtain ⟨o',e1⟩:=I.base.there b o e hx
      exact⟨o',(hs.2 b (ZH (ZL (ZT e) I.ok.above))).trans e1⟩
    · by_cases hj:j=i
      · subst hj
        rw[hi] at e1;cases e1
        rw[Zl hiσ] at e2;cases e2;exact⟨u,r,.inl ⟨hk,by simp⟩⟩
      · rw [Zf (Yw hj)] at e2
        obtain⟨u',r',q⟩:=hl j y v' e1 e2 e3;refine⟨u',r',?_⟩
        rcases q with⟨k,e⟩|⟨k,c,e,z⟩
        · refine .inl ⟨k,?_⟩
          have:y≠x:=λe=>hj (zkH hN e1 (e▸hi))
          simp[this,e]
        · exact .inr ⟨k,c,e,z.sameBut hs (cne y c e)⟩
    · obtain ⟨w',z⟩:=I.cell y c e
      exact⟨w',z.sameBut hs (cne y c e)⟩
    · obtain ⟨e,n,ne,nf,d⟩:=I.pin p hp
      exact⟨(hs.2 p.1 ne).trans e,n,ne,nf,d⟩
  · have hfn:X.fn x=true:=by
      rcases hf with z | z
      · exact z
      · rw[z] at hk;cases hk
    obtain⟨c,hc⟩:=I.ok.has x (.inl hk);obtain⟨w',z⟩:=I.cell x c hc;refine wpAny_storeName_cell I.ok.kind hk hc z (λh' hc' hs=>?_);obtain⟨oc,hoc,hocd⟩:=id z;refine h {s with heap:=h'} ⟨I.ok,I.os,I.bare,⟨λb o e n hb hx=>?_,λb o e n hb hx=>?_,I.base.free,λb o e hx=>?_,I.base.tups,I.base.frzs,I.base.tbls⟩,⟨m,hn.sameBut hs (Yw (cne x c hc)),λj y v' e1 e2 e3=>?_⟩,λy c' e=>?_,I.free,I.freeC,λp hp=>?_,tracked ⟨oc,hoc,I.freeC x c hc⟩ hs,by simpa using I.len⟩ ⟨c,hs,.inr hc⟩
    · exact(hs.2 b (ZH (ZL (ZT e) (I.ok.cab x c hfn hc)))).trans (I.base.keep b o e n hb hx)
    · obtain ⟨sl,e1⟩:=I.base.slot b o e n hb hx
      exact⟨sl,(hs.2 b (ZH (ZL (ZT e) (I.ok.cab x c hfn hc)))).trans e1⟩
    · obtain ⟨o',e1⟩:=I.base.there b o e hx
      exact⟨o',(hs.2 b (ZH (ZL (ZT e) (I.ok.cab x c hfn hc)))).trans e1⟩
    · by_cases hj:j=i
      · subst hj
        rw[hi] at e1;cases e1
        rw[Zl hiσ] at e2;cases e2;exact⟨u,r,.inr ⟨.inl hk,c,hc,hc'⟩⟩
      · rw [Zf (Yw hj)] at e2
        obtain⟨u',r',q⟩:=hl j y v' e1 e2 e3;refine⟨u',r',?_⟩
        rcases q with q|⟨k,c',e,z'⟩
        · exact .inl q
        · refine .inr ⟨k,c',e,z'.sameBut hs ?_⟩
          rintro rfl
          exact hj (zkH hN e1 (I.ok.inj _ _ _ e hc▸hi))
    · by_cases hcc:c'=c
      · subst hcc;exact⟨_,hc'⟩
      · obtain ⟨w2,z2⟩:=I.cell y c' e
        exact⟨w2,z2.sameBut hs hcc⟩
    · obtain ⟨e,n,ne,nf,d⟩:=I.pin p hp
      refine⟨(hs.2 p.1 ?_).trans e,n,ne,nf,d⟩;intro q;rw[q,hoc] at e;have q':oc=p.2:=ZZ e
      exact d w' (by rw[<-q'];exact hocd)
theorem zoS{M:Model}{A:Around}{E:Value->Shared->Prop}{i:Nat}{x:Str}{v:V}{u:Value}{Q:Unit->Shared->Prop}(I:Inv X pins σ H s)(hN:X.N.Nodup)(hi:X.N[i]?=some x)(hx:Loc X.env.scope x)(r:RelV v u)
  (h:∀s',Inv X pins (σ.set i (some v)) H s'->Q () s') (hf:X.fn x=true\/X.env.scope.names.lookup x=some .local:=by first | exact .inl rfl | exact .inr rfl | assumption):wpAny M A (storeName X.env x u) Q E s:=
 zm0 I hN hi hx r (λs' I' _=>h s' I') hf
theorem Inv.call'{s':Shared}{ch:List Addr}(I:Inv X pins σ H s)(ho:s'.os=s.os)(u:Un (frs X.stack) ch H H' s.heap s'.heap)(hok:HOk X.prog X.w H' s'.heap)(hg:Ws s'.gens)
  (hch:∀b∈ch,(b∈X.ex\/X.s₀.heap.objs.size<=b)/\b≠X.env.locals/\(∀x c,X.env.cells.lookup x=some c->c≠b)/\∀p∈X.pn++pins,p.1≠b):Inv X pins σ H' s':=by
 obtain⟨h',g',d',t',o'⟩:=s';have e:o'=s.os:=ho;subst e;exact I.call (g':=g') (t':=t') (d':=d') u hok hg hch
end
abbrev XK:=Value->Option Addr->Hp->Prop
abbrev St:=List (Option V)
abbrev VK:=V->Hp->Prop
abbrev TE:=St->Hp->VK->Prop
abbrev TT:=St->Hp->(Bool->Hp->Prop)->Prop
abbrev TA:=St->Hp->(List V->Hp->Prop)->Prop
structure Ends where
 nx:St->Hp->Prop
 rt:VK
 bk:St->Hp->Prop:=λ_ _=>False
 ct:St->Hp->Prop:=λ_ _=>False
abbrev TS:=Ends->St->Hp->Prop
inductive EP(X:Cx)(pins:List (Addr×Obj))(σ:St)(Q:VK)(u:Value)(s':Shared):Prop where|mk (v:V) (H':Hp) (I:Inv X pins σ H' s') (r:RelV v u) (q:Q v H')
inductive TP(X:Cx)(pins:List (Addr×Obj))(σ:St)(Q:Bool->Hp->Prop)(b:Bool)(s':Shared):Prop where|mk (H':Hp) (I:Inv X pins σ H' s') (q:Q b H')
inductive AP(X:Cx)(pins:List (Addr×Obj))(σ:St)(Q:List V->Hp->Prop)(us:List Value)(s':Shared):Prop where|mk (vs:List V) (H':Hp) (I:Inv X pins σ H' s') (r:Vals vs us) (q:Q vs H')
def SP(X:Cx)(pins:List (Addr×Obj))(D:Ends)(f:Flow)(s':Shared):Prop:=
 match f with|.next=>∃σ' H',Inv X pins σ' H' s'/\D.nx σ' H'|.brk=>∃σ' H',Inv X pins σ' H' s'/\D.bk σ' H'|.cont=>∃σ' H',Inv X pins σ' H' s'/\D.ct σ' H'|.ret u=>∃v σ' H',Inv X pins σ' H' s'/\RelV v u/\D.rt v H'
def PE(X:Cx)(e:Expr)(t:TE):Prop:=∀(pins:List (Addr×Obj)) (s:Shared) (σ:St) (H:Hp) (Q:VK),Inv X pins σ H s->t σ H Q->wpAny (model X.prog X.w) X.A (eval e X.env) (EP X pins σ Q) X.xe s
def PT(X:Cx)(e:Expr)(t:TT):Prop:=∀(pins:List (Addr×Obj)) (s:Shared) (σ:St) (H:Hp) (Q:Bool->Hp->Prop),Inv X pins σ H s->t σ H Q->wpAny (model X.prog X.w) X.A (isTrue e X.env (eval e X.env)) (TP X pins σ Q) X.xe s
def PW(X:Cx)(e:Expr)(t:TT):Prop:=∀(whole:Sem Value) (pins:List (Addr×Obj)) (s:Shared) (σ:St) (H:Hp) (Q:Bool->Hp->Prop),Inv X pins σ H s->t σ H Q->wpAny (model X.prog X.w) X.A (isTrue e X.env whole) (TP X pins σ Q) X.xe s
theorem PW.pt{X:Cx}{e:Expr}{t:TT}(h:PW X e t):PT X e t:=h _
def PA(X:Cx)(es:List Expr)(t:TA):Prop:=∀(pos:Pos) (pins:List (Addr×Obj)) (s:Shared) (σ:St) (H:Hp) (Q:List V->Hp->Prop),Inv X pins σ H s->t σ H Q->wpAny (model X.prog X.w) X.A (spliced (backTo pos (ZW es X.env))) (AP X pins σ Q) X.xe s
def PS(X:Cx)(st:Stmt)(t:TS):Prop:=∀(pins:List (Addr×Obj)) (s:Shared) (σ:St) (H:Hp) (D:Ends),Inv X pins σ H s->t D σ H->wpAny (model X.prog X.w) X.A (exec st X.env) (SP X pins D) X.xe s
def PSs(X:Cx)(st:List Stmt)(t:TS):Prop:=∀(pins:List (Addr×Obj)) (s:Shared) (σ:St) (H:Hp) (D:Ends),Inv X pins σ H s->t D σ H->wpAny (model X.prog X.w) X.A (execs st X.env) (SP X pins D) X.xe s
theorem thn{α:Type}{t:Sem α}{Q Q':α->Shared->Prop}{M:Model}{A:Around}{E:Value->Shared->Prop}{s:Shared}(h:wpAny M A t Q E s)(hQ:∀a s,Q a s->Q' a s):wpAny M A t Q' E s:=YX h hQ λ_ _ x=>x
section
variable {X:Cx}
def tVar(i:Nat):TE:=λσ H Q=>∃v,σ[i]?=some (some v)/\Q v H
def tC(v:V):TE:=λ_ H Q=>Q v H
theorem zuk{i:Nat}{x:Str}{pos:Pos}(hN:X.N[i]?=some x)(hv:Vis X.env.scope x)(hd:(x==("__debug__":Str))=false:=by decide)(hcd:(x==("__classdict__":Str))=false:=by decide):PE X (.Name x pos) (tVar i):=by
 intro pins s σ H Q I h;obtain⟨v,e,h⟩:=h;obtain⟨m,hn,hl⟩:=I.loc;obtain⟨u,r,l⟩:=hl i x v hN e hv;have fin:EP X pins σ Q u s:=⟨v,H,I,r,h⟩
 rcases l with⟨hk,hm⟩|⟨hk,c,hc,hcell⟩
 ·exact wpAny_Name (wpAny_loadName_local I.ok.kind hk hn hm fin) hd
 ·rcases hk with hk | hk
  ·exact wpAny_Name (wpAny_loadName_cell I.ok.kind hk hc hcell fin) hd
  ·exact wpAny_Name (wpAny_loadName_free I.ok.kind hk hc hcell fin hcd) hd
theorem zt6{i j pos}:PE X (.Constant (.int i) j pos) (tC (.int i)):=λ_ _ _ H _ I h=>wpAny_Constant_int ⟨.int i,H,I.tok _,⟨_,rfl⟩,h⟩
theorem zww{b j pos}:PE X (.Constant (.bool b) j pos) (tC (.bl b)):=λ_ _ _ H _ I h=>Constant_bool ⟨.bl b,H,I,rfl,h⟩
theorem zti{j pos}:PE X (.Constant .none j pos) (tC .non):=λ_ _ _ H _ I h=>Constant_none ⟨.non,H,I,rfl,h⟩
theorem zuq{x j pos}:PE X (.Constant (.str x) j pos) (tC (.str x)):=λ_ _ _ H _ I h=>Calls.Constant_str ⟨.str x,H,I.tok _,⟨_,rfl⟩,h⟩
def Gl(X:Cx)(x:Str):Prop:=X.env.kindOf x=some .globalImplicit
theorem ze7{E:Value->Shared->Prop}{pins:List (Addr×Obj)}{s:Shared}{σ:St}{H:Hp}{x:Str}{u:Value}{pos:Pos}{Q:Value->Shared->Prop}(I:Inv X pins σ H s)(hg:Gl X x)(hm:X.mg x=some u)(h:Q u s)
  (hd:(x==("__debug__":Str))=false:=by decide):wpAny (model X.prog X.w) X.A (eval (.Name x pos) X.env) Q E s:=
 WD I.ok.kind hg (Calls.loadGlobal_global (by rw[I.ok.glob];exact I.mod.glob.keeps I.bk) hm h) hd
theorem zeQ{E:Value->Shared->Prop}{pins:List (Addr×Obj)}{s:Shared}{σ:St}{H:Hp}{x:Str}{u:Value}{pos:Pos}{Q:Value->Shared->Prop}(I:Inv X pins σ H s)(hg:Gl X x)(hm:X.mg x=none)(hv:XJ x=some u)(h:Q u s)
  (hn:x ≠ "__name__":=by decide) (hd:(x==("__debug__":Str))=false:=by decide):wpAny (model X.prog X.w) X.A (eval (.Name x pos) X.env) Q E s:=by
 obtain⟨mb,h1,h2⟩:=I.mod.blt
 exact WD I.ok.kind hg (Calls.loadGlobal_builtin (by rw[I.ok.glob];exact I.mod.glob.keeps I.bk) hm (by rw[I.ok.blt];exact h1.keeps I.bk) ((h2 x hn).trans hv) h) hd
theorem zrF{x:Str}{v:V}{u:Value}{pos:Pos}(hg:Gl X x)(hm:X.mg x=some u)(r:RelV v u)(hd:(x==("__debug__":Str))=false:=by decide):PE X (.Name x pos) (tC v):=fun _ _ _ H _ I h=>ze7 I hg hm ⟨v,H,I,r,h⟩ hd
theorem zmf{x:Str}{v:V}{u:Value}{pos:Pos}(hg:Gl X x)(hm:X.mg x=none)(hv:XJ x=some u)(r:RelV v u)(hn:x ≠ "__name__":=by decide)(hd:(x==("__debug__":Str))=false:=by decide):PE X (.Name x pos) (tC v):=fun _ _ _ H _ I h=>zeQ I hg hm hv ⟨v,H,I,r,h⟩ hn hd
variable {a b:Expr}{ta tb:TE}{pos:Pos}
variable {tA tB':TT}{rest:List Expr}
def tAnd(t u:TT):TT:=λσ H Q=>t σ H λc H1=>if c=true then u σ H1 Q else Q false H1
def tOr(t u:TT):TT:=λσ H Q=>t σ H λc H1=>if c=true then Q true H1 else u σ H1 Q
def tNot(t:TT):TT:=λσ H Q=>t σ H λc H1=>Q (!c) H1
theorem zrK(ha:PT X a tA):PW X (.BoolOp .And [a] pos) tA:=by
 intro wh pins s σ H Q I h;refine isTrue_and (thn (ha pins s σ H Q I h) λc s1 e=>?_)
 cases c with|true=>exact isTrue_and_nil e|false=>exact e
theorem ztC(ha:PT X a tA):PW X (.BoolOp .Or [a] pos) tA:=by
 intro wh pins s σ H Q I h;refine isTrue_or (thn (ha pins s σ H Q I h) λc s1 e=>?_)
 cases c with|false=>exact isTrue_or_nil e|true=>exact e
theorem zux(ha:PT X a tA)(hb:PW X (.BoolOp .And (b::rest) pos) tB'):PW X (.BoolOp .And (a::b::rest) pos) (tAnd tA tB'):=by
 intro wh pins s σ H Q I h;refine isTrue_and (thn (ha pins s σ H _ I h) λc s1 q_=>?_);obtain⟨H1,I1,q1⟩:=q_
 cases c with|true=>exact hb wh pins s1 σ H1 Q I1 q1|false=>exact⟨H1,I1,q1⟩
theorem zvA(ha:PT X a tA)(hb:PW X (.BoolOp .Or (b::rest) pos) tB'):PW X (.BoolOp .Or (a::b::rest) pos) (tOr tA tB'):=by
 intro wh pins s σ H Q I h;refine isTrue_or (thn (ha pins s σ H _ I h) λc s1 q_=>?_);obtain⟨H1,I1,q1⟩:=q_
 cases c with|true=>exact⟨H1,I1,q1⟩|false=>exact hb wh pins s1 σ H1 Q I1 q1
theorem zvt(ha:PT X a tA):PT X (.UnaryOp .Not a pos) (tNot tA):=by intro pins s σ H Q I h;exact isTrue_not (thn (ha pins s σ H (λc H1=>Q (!c) H1) I h) λ_ _ ⟨H1,I1,q1⟩=>⟨H1,I1,q1⟩)
def zvD(ta tb:TE):TE:=λσ H Q=>ta σ H λx H1=>∃c,x=.bl c/\if c=true then tb σ H1 Q else Q (.bl false) H1
def tOrV(ta tb:TE):TE:=λσ H Q=>ta σ H λx H1=>∃c,x=.bl c/\if c=true then Q (.bl true) H1 else tb σ H1 Q
theorem zqJ{op}{t:TE}(h:PE X a t):PE X (.BoolOp op [a] pos) t:=λpins s σ H Q I hw=>BoolOp_one (h pins s σ H Q I hw)
theorem ztI(ha:PE X a ta)(hb:PE X (.BoolOp .And (b::rest) pos) tb):PE X (.BoolOp .And (a::b::rest) pos) (zvD ta tb):=by
 intro pins s σ H Q I h;refine BoolOp_and (thn (ha pins s σ H _ I h) λv s1 q_=>?_);obtain⟨x,H1,I1,r1,q1⟩:=q_;obtain⟨c,rfl,q1⟩:=q1;cases r1;refine XW ?_
 cases c with|true=>exact hb pins s1 σ H1 Q I1 q1|false=>exact⟨.bl false,H1,I1,rfl,q1⟩
theorem zvR(ha:PE X a ta)(hb:PE X (.BoolOp .Or (b::rest) pos) tb):PE X (.BoolOp .Or (a::b::rest) pos) (tOrV ta tb):=by
 intro pins s σ H Q I h;refine BoolOp_or (thn (ha pins s σ H _ I h) λv s1 q_=>?_);obtain⟨x,H1,I1,r1,q1⟩:=q_;obtain⟨c,rfl,q1⟩:=q1;cases r1;refine XW ?_
 cases c with|false=>exact hb pins s1 σ H1 Q I1 q1|true=>exact⟨.bl true,H1,I1,rfl,q1⟩
def tIf(t:TT)(ta tb:TE):TE:=λσ H Q=>t σ H λc H1=>if c=true then ta σ H1 Q else tb σ H1 Q
theorem zo0{c:Expr}(hc:PT X c tA)(ha:PE X a ta)(hb:PE X b tb):PE X (.IfExp c a b pos) (tIf tA ta tb):=by
 intro pins s σ H Q I h;refine wpAny_IfExp (thn (hc pins s σ H _ I h) λd s1 q_=>?_);obtain⟨H1,I1,q1⟩:=q_
 cases d with|true=>exact ha pins s1 σ H1 Q I1 q1|false=>exact hb pins s1 σ H1 Q I1 q1
end
def SqL(K:Z7)(H:Hp)(a:Addr)(xs:List V):Prop:=
 Rd H a (.lst xs)\/
  ∃(o:Obj) (its:Array Value) (n:Nat),K.lookup a=some o/\o.cls=.type "list"/\o.dict=none/\o.data=.seq its n/\its.size<=sizeLine/\Vals xs its.toList
def SqT(K:Z7)(H:Hp)(a:Addr)(xs:List V):Prop:=
 Rd H a (.tup xs)\/
  ∃(o:Obj) (its:Array Value) (n:Nat),K.lookup a=some o/\o.cls=.type "tuple"/\o.dict=none/\o.data=.seq its n/\its.size<=sizeLine/\Vals xs its.toList
def absV:Value->Option V|.none=>some .non|.bool b=>some (.bl b)|.int i _=>some (.int i)|.str x _=>some (.str x)|.bytes b _=>some (.byt b)|.float b _=>some (.flt b)|.ref a=>some (.ref a)|.type n=>some (.ty n)|_=>none
theorem RelV.abs{x:V}{u:Value}(r:RelV x u):absV u=some x:=by
 cases x with|non=>cases r;rfl|bl _=>cases r;rfl|int _=>obtain⟨t,rfl⟩:=r;rfl|str _=>obtain⟨t,rfl⟩:=r;rfl|byt _=>obtain⟨t,rfl⟩:=r;rfl|flt _=>obtain⟨t,rfl⟩:=r;rfl|ref _=>cases r;rfl|ty _=>cases r;rfl
theorem RelV.inj{x y:V}{u:Value}(r:RelV x u)(q:RelV y u):x=y:=ZZ (r.abs.symm.trans q.abs)
theorem Vals.inj:∀{xs ys:List V} {us:List Value},Vals xs us->Vals ys us->xs=ys|_,_,_,.nil,.nil=>rfl|_,_,_,.cons r t,.cons r' t'=>by rw[r.inj r',Vals.inj t t']
section
variable {X:Cx}{pins:List (Addr×Obj)}{σ:St}{H:Hp}{s:Shared}{a:Addr}{xs ys:List V}
theorem SqT.of{K:Z7}(h:H a=some (.tup xs)):SqT K H a xs:=.inl (.inl h)
theorem Inv.list(I:Inv X pins σ H s)(h:SqL X.K H a xs):∃its:List Value,Vals xs its/\PlainL s.heap a its.toArray/\xs.length<=sizeLine:=by
 rcases h with h|⟨o,its,n,hk,hc,hd,hs,hz,r⟩
 ·obtain ⟨z,its,n,r,e⟩:=h.ok I.hok
  exact⟨its,r,⟨_,n,e,rfl,rfl,rfl⟩,z⟩
 ·refine ⟨its.toList,r,⟨o,n,I.kIn a o hk,hc,hd,by simpa using hs⟩,?_⟩
  have e:=r.length;simp only[Yz] at e;omega
theorem Inv.tuple(I:Inv X pins σ H s)(h:SqT X.K H a xs):∃its:List Value,Vals xs its/\IsTup s.heap a its.toArray/\xs.length<=sizeLine:=by
 rcases h with h|⟨o,its,n,hk,hc,_,hs,hz,r⟩
 ·obtain ⟨z,its,r,p⟩:=h.ok I.hok
  exact⟨its,r,p.1,z⟩
 ·refine ⟨its.toList,r,⟨o,I.kIn a o hk,hc,n,by simpa using hs⟩,?_⟩
  have e:=r.length;simp only[Yz] at e;omega
theorem Inv.tupleB(I:Inv X pins σ H s)(h:SqT X.K H a xs):∀o,s.heap.get? a=some o->o.dict=none:=by
 rcases h with h|⟨o,its,n,hk,hc,hd,hs,hz,r⟩
 ·obtain ⟨z,its,r,p⟩:=h.ok I.hok
  exact p.2
 ·intro o2 e2
  rw[I.kIn a o hk] at e2;cases e2;exact hd
theorem Inv.list_inj(I:Inv X pins σ H s)(h:SqL X.K H a xs)(h':SqL X.K H a ys):xs=ys:=by
 obtain⟨its,r,⟨o,n,e,_,_,d⟩,_⟩:=I.list h;obtain⟨its',r',⟨o',n',e',_,_,d'⟩,_⟩:=I.list h'
 rw[e] at e';cases e'
 rw[d] at d';injection d' with d1 _
 have:its=its':=by simpa using congrArg Array.toList d1
 subst this;exact r.inj r'
theorem Inv.tuple_inj(I:Inv X pins σ H s)(h:SqT X.K H a xs)(h':SqT X.K H a ys):xs=ys:=by
 obtain⟨its,r,⟨o,e,_,n,d⟩,_⟩:=I.tuple h;obtain⟨its',r',⟨o',e',_,n',d'⟩,_⟩:=I.tuple h'
 rw[e] at e';cases e'
 rw[d] at d';injection d' with d1 _
 have:its=its':=by simpa using congrArg Array.toList d1
 subst this;exact r.inj r'
end
abbrev Cx.wish(X:Cx)(E:Value->Shared->Prop):Cx:={X with xe:=E}
abbrev Cx.nox(X:Cx):Cx:=X.wish λ_ _=>False
theorem Cx.Ok.wish{X:Cx}(ok:X.Ok)(E:Value->Shared->Prop):(X.wish E).Ok:=⟨ok.mod,ok.kind,ok.glob,ok.blt,ok.above,ok.inj,ok.has,ok.cab,ok.hd,ok.frames,ok.stk,ok.exf,ok.bs,ok.bsz,ok.noex,ok.exfs,ok.funs,ok.frf⟩
theorem Cx.Ok.unwish{X:Cx}{E:Value->Shared->Prop}(ok:(X.wish E).Ok):X.Ok:=⟨ok.mod,ok.kind,ok.glob,ok.blt,ok.above,ok.inj,ok.has,ok.cab,ok.hd,ok.frames,ok.stk,ok.exf,ok.bs,ok.bsz,ok.noex,ok.exfs,ok.funs,ok.frf⟩
section
variable {X:Cx}{pins:List (Addr×Obj)}{σ:St}{H:Hp}{s:Shared}{E:Value->Shared->Prop}
theorem Inv.wish(I:Inv X pins σ H s)(E:Value->Shared->Prop):Inv (X.wish E) pins σ H s:=⟨I.ok.wish E,I.os,I.bare,I.base,I.loc,I.cell,I.free,I.freeC,I.pin,I.hok,I.len⟩
theorem Inv.unwish(I:Inv (X.wish E) pins σ H s):Inv X pins σ H s:=⟨I.ok.unwish,I.os,I.bare,I.base,I.loc,I.cell,I.free,I.freeC,I.pin,I.hok,I.len⟩
theorem SP.unwish{D:Ends}{f:Flow}{s':Shared}(h:SP (X.wish E) pins D f s'):SP X pins D f s':=by
 cases f with|next=>obtain⟨σ',H',I,q⟩:=h;exact⟨σ',H',I.unwish,q⟩|brk=>obtain⟨σ',H',I,q⟩:=h;exact⟨σ',H',I.unwish,q⟩|cont=>obtain⟨σ',H',I,q⟩:=h;exact⟨σ',H',I.unwish,q⟩|ret u=>obtain⟨v,σ',H',I,r,q⟩:=h;exact⟨v,σ',H',I.unwish,r,q⟩
theorem PSs.nox{st:List Stmt}{t:TS}(h:PSs X.nox st t):PSs X st t:=λpins s σ H D I hw=>YX (h pins s σ H D (I.wish _) hw) (λ_ _ q=>q.unwish) λ_ _ z=>YW z
end
section
variable {X:Cx}{st:Stmt}{rest:List Stmt}{t u:TS}{e:Expr}{te:TE}{pos:Pos}
def zvF:TS:=λD σ H=>D.nx σ H
def tSeq(t u:TS):TS:=λD σ H=>t {D with nx:=u D} σ H
theorem zrn:PSs X [] zvF:=λ_ _ σ H _ I h=>V6 ⟨σ,H,I,h⟩
theorem zpn(h1:PS X st t)(h2:PSs X rest u):PSs X (st::rest) (tSeq t u):=by
 intro pins s σ H D I h;refine wpAny_execs_cons (thn (h1 pins s σ H {D with nx:=u D} I h) λf s1 q=>?_)
 cases f with|next=>obtain⟨σ',H',I',q⟩:=q;exact h2 pins s1 σ' H' D I' q|ret v=>exact q|brk=>exact q|cont=>exact q
def zuU:TS:=λD σ H=>D.bk σ H
def zvP:TS:=λD σ H=>D.ct σ H
theorem zo2:PS X (.Break pos) zuU:=λ_ _ σ H _ I h=>wpAny_Break ⟨σ,H,I,h⟩
theorem ziX:PS X (.Continue pos) zvP:=λ_ _ σ H _ I h=>wpAny_Continue ⟨σ,H,I,h⟩
theorem Inv.quiet{pins:List (Addr×Obj)}{σ:St}{H:Hp}{s:Shared}(I:Inv X pins σ H s):interactive X.env=false:=by simp[interactive,I.ok.kind]
def zwe(te:TE):TS:=λD σ H=>te σ H λ_ H1=>D.nx σ H1
theorem zrY(he:PE X e te)(hs:Xq e none pos.line X.env=pure false:=by rfl):PS X (.Expr e pos) (zwe te):=by intro pins s σ H D I h;exact wpAny_Expr_any (thn (he pins s σ H _ I h) λv s1 ⟨x,H1,I1,r1,q1⟩=>⟨σ,H1,I1,q1⟩) I.quiet hs
def tRet(te:TE):TS:=λD σ H=>te σ H D.rt
theorem zvv(he:PE X e te):PS X (.Return (some e) pos) (tRet te):=by intro pins s σ H D I h;exact wpAny_Return_some (thn (he pins s σ H _ I h) λv s1 ⟨x,H1,I1,r1,q1⟩=>⟨x,σ,H1,I1,r1,q1⟩)
def zv1:TS:=λD _ H=>D.rt .non H
theorem zsU:PS X (.Return none pos) zv1:=λ_ _ σ H _ I h=>wpAny_Return_none ⟨.non,σ,H,I,rfl,h⟩
def tIfS(c:TT)(t u:TS):TS:=λD σ H=>c σ H λb H1=>if b=true then t D σ H1 else u D σ H1
theorem zvJ{c:Expr}{a b:List Stmt}{tc:TT}(hc:PT X c tc)(ha:PSs X a t)(hb:PSs X b u):PS X (.If c a b pos) (tIfS tc t u):=by
 intro pins s σ H D I h;refine wpAny_If (thn (hc pins s σ H _ I h) λd s1 q_=>?_);obtain⟨H1,I1,q1⟩:=q_
 cases d with|true=>exact ha pins s1 σ H1 D I1 q1|false=>exact hb pins s1 σ H1 D I1 q1
end
abbrev TG:=V->St->Hp->(St->Hp->Prop)->Prop
abbrev TGs:=List V->St->Hp->(St->Hp->Prop)->Prop
def PG(X:Cx)(target:Expr)(t:TG):Prop:=
 ∀ (pins:List (Addr×Obj)) (s:Shared) (σ:St) (H:Hp) (v:V) (u:Value) (Q:St->Hp->Prop),Inv X pins σ H s->RelV v u->t v σ H Q →
  wpAny (model X.prog X.w) X.A (assign target X.env u) (λ_ s'=>∃σ' H',Inv X pins σ' H' s'/\Q σ' H') X.xe s
def PGs(X:Cx)(ts:List Expr)(t:TGs):Prop:=
 ∀ (pins:List (Addr×Obj)) (s:Shared) (σ:St) (H:Hp) (vs:List V) (us:List Value) (Q:St->Hp->Prop),Inv X pins σ H s->Vals vs us->t vs σ H Q →
  wpAny (model X.prog X.w) X.A (assignInOrder ((Zn ts X.env).map (·.2)) us) (λ_ s'=>∃σ' H',Inv X pins σ' H' s'/\Q σ' H') X.xe s
abbrev TSet:=V->V->V->Hp->(Hp->Prop)->Prop
def PSet(X:Cx)(t:TSet):Prop:=
 ∀ (pins:List (Addr×Obj)) (s:Shared) (σ:St) (H:Hp) (o i v:V) (ov iv u:Value) (Q:Hp->Prop),Inv X pins σ H s->RelV o ov->RelV i iv->RelV v u->t o i v H Q →
  wpAny (model X.prog X.w) X.A (setItem ov iv u) (λ_ s'=>∃H',Inv X pins σ H' s'/\Q H') X.xe s
section
variable {X:Cx}{pos:Pos}
def zqa(i:Nat):TG:=λv σ H Q=>Q (σ.set i (some v)) H
theorem zmK{i:Nat}{x:Str}(hN:X.N.Nodup)(hi:X.N[i]?=some x)(hx:Loc X.env.scope x)(hf:X.fn x=true\/X.env.scope.names.lookup x=some .local:=by first | exact .inl rfl | exact .inr rfl | assumption):PG X (.Name x pos) (zqa i):=by intro pins s σ H v u Q I r h;exact wpAny_assign_Name (zoS I hN hi hx r (λs' I'=>⟨_,H,I',h⟩) hf)
def gNil:TGs:=λvs σ H Q=>vs=[]/\Q σ H
def zvC(t:TG)(u:TGs):TGs:=λvs σ H Q=>∃v r,vs=v::r/\t v σ H λσ' H'=>u r σ' H' Q
theorem zma:PGs X [] gNil:=by intro pins s σ H vs us Q I r h;obtain⟨e,h⟩:=h;subst e;cases r;exact assignInOrder_nil ⟨σ,H,I,h⟩
theorem zgS{e:Expr}{es:List Expr}{t:TG}{u:TGs}(h1:PG X e t)(h2:PGs X es u)
  (hs:(Zn (e::es) X.env).map (·.2)=assign e X.env::(Zn es X.env).map (·.2):=by rfl):PGs X (e::es) (zvC t u):=by
 intro pins s σ H vs us Q I r h;obtain⟨v,vr,e1,h⟩:=h;subst e1
 cases r with|cons r rr=>rw[hs];refine assignInOrder_cons (thn (h1 pins s σ H _ _ _ I r h) λ_ s1 q_=>?_);obtain⟨σ1,H1,I1,q1⟩:=q_;exact h2 pins s1 σ1 H1 _ _ Q I1 rr q1
def gTup(K:Z7)(n:Nat)(t:TGs):TG:=λv σ H Q=>∃a xs,v=.ref a/\SqT K H a xs/\xs.length=n/\t xs σ H Q
theorem zqP{es:List Expr}{k:Nat}{t:TGs}{n:Nat}(hc:X.calm=true)(h:PGs X es t)
  (hn:(Zn es X.env).length=n:=by rfl) (hst:(Zn es X.env).findIdx? (·.1)=none:=by rfl):PG X (.Tuple es k pos) (gTup X.K n t):=by
 intro pins s σ H v u Q I r hw;obtain⟨a,xs,e1,hq,hl,hw⟩:=hw;subst e1;cases r;obtain⟨its,rv,ht,hz⟩:=I.tuple hq;refine assign_Tuple_tuple (I.ok.hd hc) ht (by simp[hn,<-hl,rv.length]) hst λh' hx=>?_;have I1:Inv X pins σ H {s with heap:=h'}:=I.kept (t':=s.toks) λb o e=>hx b o (ZH (ZT e)) e;exact h pins _ σ H xs _ Q I1 (by simpa using rv) hw
def gSub(to ti:TE)(t:TSet):TG:=λv σ H Q=>to σ H λo H1=>ti σ H1 λi H2=>t o i v H2 λH3=>Q σ H3
theorem zqO{o i:Expr}{to ti:TE}{t:TSet}(ho:PE X o to)(hi:PE X i ti)(hs:PSet X t)
  (ha:∀v,assign (.Subscript o i pos) X.env v=(do
   let ov<-holding [v] (eval o X.env)
   let iv<-holding [v,ov] (eval i X.env)
   Xy pos
   holding [v,ov,iv] (setItem ov iv v)
   release [v,ov,iv] []):=by intro _;rfl):PG X (.Subscript o i pos) (gSub to ti t):=by
 intro pins s σ H v u Q I r h;rw[ha];refine Z4 (Ye (thn (ho pins s σ H _ I h) λov s1 q_=>?_));obtain⟨x,H1,I1,r1,q1⟩:=q_;refine Z4 (Ye (thn (hi pins s1 σ H1 _ I1 q1) λiv s2 q_=>?_));obtain⟨y,H2,I2,r2,q2⟩:=q_;refine Z4 (WX (Z4 (Ye (thn (hs pins s2 σ H2 x y v ov iv u _ I2 r1 r2 r q2) λ_ s3 q_=>?_))));obtain⟨H3,I3,q3⟩:=q_;exact wpAny_release ⟨σ,H3,I3,q3⟩
def tAsg(te:TE)(g:TG):TS:=λD σ H=>te σ H λx H1=>g x σ H1 D.nx
theorem zmd{tg e:Expr}{te:TE}{g:TG}(he:PE X e te)(hg:PG X tg g)(hs:WW [tg] e pos.line X.env=pure false:=by rfl)(hw:WV [tg] e X.env=pure none:=by rfl)
  (h1:(Zn [tg] X.env).map (·.2)=[assign tg X.env]:=by rfl):PS X (.Assign [tg] e pos) (tAsg te g):=by
 intro pins s σ H D I h;refine wpAny_Assign_stores (thn (he pins s σ H _ I h) λv s1 q_=>?_) hs hw;obtain⟨x,H1,I1,r1,q1⟩:=q_;rw[h1];exact thn (hg pins s1 σ H1 x v _ I1 r1 q1) λ_ s2 q=>q
end
section
variable {X:Cx}{pos:Pos}
def ztS(c:TT)(tb:TS):TS:=λD σ H=>∃W:Nat->St->Hp->Prop,(∃m,W m σ H)/\∀m σ H,W m σ H →
 c σ H λb H1=>if b=true then ∃N:St->Hp->Prop,(∀σ' H',N σ' H'->∃m',m'<m/\W m' σ' H')/\tb {D with nx:=N,ct:=N,bk:=D.nx} σ H1 else D.nx σ H1
theorem zpy{c:Expr}{body:List Stmt}{tc:TT}{tb:TS}(hp:Wi (model X.prog X.w) X.A X.env X.xe)(hc:PT X c tc)(hb:PSs X body tb):PS X (.While c body [] pos) (ztS tc tb):=by
 intro pins s σ H D I h;obtain⟨W,⟨m0,w0⟩,turn⟩:=h;refine wpAny_While (codeAny_whileLoop (λn s'=>∃σ' H',Inv X pins σ' H' s'/\W n σ' H') ?_ m0 ⟨σ,H,I,w0⟩)
 rintro n s1 ⟨σ1,H1,I1,w1⟩
 refine Yi hp (thn (hc pins s1 σ1 H1 _ I1 (turn n σ1 H1 w1)) λb s2 q_=>?_);obtain⟨H2,I2,q2⟩:=q_
 cases b with
 | true=>
  obtain⟨N,hN,q2⟩:=q2;rw[if_pos rfl];refine Yi hp (thn (hb pins s2 σ1 H2 _ I2 q2) λf s3 q3=>?_)
  cases f with|next=>obtain⟨σ3,H3,I3,n3⟩:=q3;obtain⟨m',hm,w3⟩:=hN σ3 H3 n3;exact⟨m',hm,σ3,H3,I3,w3⟩|cont=>obtain⟨σ3,H3,I3,n3⟩:=q3;obtain⟨m',hm,w3⟩:=hN σ3 H3 n3;exact⟨m',hm,σ3,H3,I3,w3⟩|brk=>exact q3|ret v=>exact q3
 |false=>rw[if_neg Yo];exact V6 ⟨σ1,H2,I2,q2⟩
end
structure It where
 go:Nat->Hp->Prop
 yld:Nat->Hp->V->Hp->Prop
 stop:Nat->Hp->Prop
def FpOk(X:Cx)(pins:List (Addr×Obj))(H:Hp)(b:Addr):Prop:=H b=none/\b≠X.env.locals/\b∉X.fs/\(b∈X.ex\/X.s₀.heap.objs.size<=b)/\(∀x c,X.env.cells.lookup x=some c->c≠b)/\∀p∈X.pn++pins,p.1≠b
theorem Inv.fpOk{X:Cx}{pins:List (Addr×Obj)}{σ:St}{H H':Hp}{s:Shared}{b:Addr}(I:Inv X pins σ H s)(hb:s.heap.objs.size<=b)(hn:H' b=none):FpOk X pins H' b:=by
 refine⟨hn,X3 (ZL I.lt hb),I.nofs hb,.inr (ZJ I.sz hb),λx c e z=>?_,λp hp z=>?_⟩
 ·obtain ⟨v,q⟩:=I.cell x c e
  exact absurd (ZL q.lt (by rw[z];exact hb)) (YI _)
 ·exact absurd (ZL (ZT (I.pin p hp).1) (by rw[z];exact hb)) (YI _)
structure Turn(P:Zs)(w:World)(K:Z7)(tg:Expr)(J:It)(fp:List Addr)(it:Addr)(tn:Nat->Heap->Prop):Prop where
 mem:it∈fp
 obj:∀i h,tn i h->∀b∈fp,∃o,h.get? b=some o/\∀v,o.data≠.cell v
 keep:∀i h h',tn i h->(∀b∈fp,∀o,h.get? b=some o->h'.get? b=some o)->tn i h'
 item:∀(X:Cx),X.prog=P->X.w=w->X.K=K->X.calm=true->∀(i:Nat) (pins:List (Addr×Obj)) (s:Shared) (σ:St) (H:Hp) (E:Value->Shared->Prop),Inv X pins σ H s->(∀b∈fp,FpOk X pins H b)->tn i s.heap->J.go i H →
  wpAny (model P w) X.A (pyNext (.ref it)) (λr s1=>∃u,r=some u ∧
   wpAny (model P w) X.A (WR tg (.ref it) u) (λ_ s2=>∃x H',Inv X pins σ H' s2/\RelV x u/\J.yld i H x H'/\tn (i+1) s2.heap/\∀b∈fp,H' b=none) E s1) E s
 done:∀(X:Cx),X.prog=P->X.w=w->X.K=K->X.calm=true->∀(i:Nat) (pins:List (Addr×Obj)) (s:Shared) (σ:St) (H:Hp) (E:Value->Shared->Prop),Inv X pins σ H s->(∀b∈fp,FpOk X pins H b)->tn i s.heap->J.stop i H →
  wpAny (model P w) X.A (pyNext (.ref it)) (λr s1=>r=none/\Inv X pins σ H s1) E s
 self:∀(A:Around) (i:Nat) (s:Shared) (Q:Value->Shared->Prop) (E:Value->Shared->Prop),tn i s.heap->Q (.ref it) s->wpAny (model P w) A (pyIter (.ref it)) Q E s
abbrev TI:=St->Hp->(It->Hp->Prop)->Prop
def PIE(X:Cx)(pins:List (Addr×Obj))(σ:St)(tg:Expr)(R:It->Hp->Prop)(itv:Value)(s2:Shared):Prop:=∃(it:Addr) (fp:List Addr) (tn:Nat->Heap->Prop) (J:It) (H':Hp),itv=.ref it/\Inv X pins σ H' s2/\Turn X.prog X.w X.K tg J fp it tn/\tn 0 s2.heap/\(∀b∈fp,FpOk X pins H' b)/\R J H'
def PI(X:Cx)(tg iter:Expr)(wi:TI):Prop:=
 ∀ (pins:List (Addr×Obj)) (s:Shared) (σ:St) (H:Hp) (R:It->Hp->Prop),Inv X pins σ H s->wi σ H R →
  wpAny (model X.prog X.w) X.A (eval iter X.env) (λv s1=>wpAny (model X.prog X.w) X.A (pyIter v) (PIE X pins σ tg R) X.xe s1) X.xe s
theorem zr4{M:Model}{A:Around}{E:Value->Shared->Prop}{s:Shared}{tg:Expr}{it:Addr}{u:Value}{o:Obj}{n:String}{vs:Array Value}{Q:Unit->Shared->Prop}(ho:s.heap.get? it=some o)(hc:o.cls=.type n)(hd:o.data=.fields vs)
    (hn:["enumerate", "zip", "dict_itemiterator", "dict_reverseitemiterator", "odict_iterator", "itertools.zip_longest", "itertools.pairwise"].contains n=false) (hQ:Q () s):wpAny M A (WR tg (.ref it) u) Q E s:=by
  unfold WR
  cases tg <;> first
    |exact ZY hQ
    | (cases u<;>first
        |exact ZY hQ
        | (refine Z4 (wpAny_load ho ?_)
           rw[hc,hd];show wpAny M A (if(["enumerate", "zip", "dict_itemiterator", "dict_reverseitemiterator", "odict_iterator", "itertools.zip_longest", "itertools.pairwise"].contains n&&vs[0]?==some (rawInt _))=true then _ else _) Q E s
           rw[if_neg (by intro h;rw[hn,Y1] at h;cases h)]
           exact ZY hQ))
def Itl(K:Z7)(a:Addr):It:=⟨λi H=>∃xs x,SqL K H a xs/\xs[i]?=some x,λi H x H'=>H'=H/\∀xs,SqL K H a xs->xs[i]?=some x,λi H=>∃xs,SqL K H a xs/\xs.length<=i⟩
def Itt(K:Z7)(a:Addr):It:=⟨λi H=>∃xs x,SqT K H a xs/\xs[i]?=some x,λi H x H'=>H'=H/\∀xs,SqT K H a xs->xs[i]?=some x,λi H=>∃xs,SqT K H a xs/\xs.length<=i⟩
def Itr(lo:Int)(n:Nat):It:=⟨λi _=>i<n,λi H x H'=>H'=H/\x=.int (lo+i),λi _=>n<=i⟩
theorem zn6{P:Zs}{w:World}{K:Z7}{tg:Expr}(a it:Addr):Turn P w K tg (Itl K a) [it] it (λi h=>h.IsListIter it a i) where
 mem:=by simp
 obj:=λi h st b hb=>by
  have e:b=it:=by simpa using hb
  subst e;obtain⟨o,e,c,d⟩:=st
  exact⟨o,e,λv z=>by rw[d] at z;cases z⟩
 keep:=λi h h' st k=>st.at λo e=>k it (by simp) o e
 item:=by
  intro X hP hw hK hc i pins s σ H E I hf st hg;subst hP hw hK;obtain⟨xs,x,hq,hx⟩:=hg;obtain⟨its,rv,p,hz⟩:=I.list hq;obtain⟨u,hu,ru⟩:=rv.get hx;obtain⟨f0,f1,f2,f3,f4,f5⟩:=hf it (by simp);refine wpAny_pyNext_list_item st p.isList (x:=u) (by simpa using hu) λh' st' sb=>?_;have I1:Inv X pins σ H {s with heap:=h'}:=I.turned (t':=s.toks) (λb o hb e=>(sb.2 b hb).trans e) f0 f1 f3 f4 f5;obtain⟨o,e,c,d⟩:=id st'
  exact⟨u,rfl,zr4 (s:={s with heap:=h'}) e c d (by decide) ⟨x,H,I1,ru,⟨rfl,λys hy=>by rw[I.list_inj hy hq];exact hx⟩,st',λb hb=>(hf b hb).1⟩⟩
 done:=by
  intro X hP hw hK hc i pins s σ H E I hf st hg;subst hP hw hK;obtain⟨xs,hq,hx⟩:=hg;obtain⟨its,rv,p,hz⟩:=I.list hq;obtain⟨f0,f1,f2,f3,f4,f5⟩:=hf it (by simp);have hl:=rv.length
  exact wpAny_pyNext_list_end (I.ok.hd hc) st p.isList (by simp;omega) λh' eb=>⟨rfl,I.turned (t':=s.toks) (λb o hb e=>eb b o hb e) f0 f1 f3 f4 f5⟩
 self:=λ_ _ _ _ _ st h=>wpAny_pyIter_listiter st h
theorem zkV{P:Zs}{w:World}{K:Z7}{tg:Expr}(a it:Addr):Turn P w K tg (Itt K a) [it] it (λi h=>h.IsTupleIter it a i) where
 mem:=by simp
 obj:=λi h st b hb=>by
  have e:b=it:=by simpa using hb
  subst e;obtain⟨o,e,c,d⟩:=st
  exact⟨o,e,λv z=>by rw[d] at z;cases z⟩
 keep:=λi h h' st k=>st.at λo e=>k it (by simp) o e
 item:=by
  intro X hP hw hK hc i pins s σ H E I hf st hg;subst hP hw hK;obtain⟨xs,x,hq,hx⟩:=hg;obtain⟨its,rv,p,hz⟩:=I.tuple hq;obtain⟨u,hu,ru⟩:=rv.get hx;obtain⟨f0,f1,f2,f3,f4,f5⟩:=hf it (by simp);refine wpAny_pyNext_tuple_item st (show s.heap.IsTuple a its.toArray from p) (x:=u) (by simpa using hu) λh' st' sb=>?_;have I1:Inv X pins σ H {s with heap:=h'}:=I.turned (t':=s.toks) (λb o hb e=>(sb.2 b hb).trans e) f0 f1 f3 f4 f5;obtain⟨o,e,c,d⟩:=id st'
  exact⟨u,rfl,zr4 (s:={s with heap:=h'}) e c d (by decide) ⟨x,H,I1,ru,⟨rfl,λys hy=>by rw[I.tuple_inj hy hq];exact hx⟩,st',λb hb=>(hf b hb).1⟩⟩
 done:=by
  intro X hP hw hK hc i pins s σ H E I hf st hg;subst hP hw hK;obtain⟨xs,hq,hx⟩:=hg;obtain⟨its,rv,p,hz⟩:=I.tuple hq;obtain⟨f0,f1,f2,f3,f4,f5⟩:=hf it (by simp);have hl:=rv.length
  exact wpAny_pyNext_tuple_end (I.ok.hd hc) st (show s.heap.IsTuple a its.toArray from p) (by simp;omega) λh' eb=>⟨rfl,I.turned (t':=s.toks) (λb o hb e=>eb b o hb e) f0 f1 f3 f4 f5⟩
 self:=λ_ _ _ _ _ st h=>wpAny_pyIter_tupleiter st h
theorem zk2{P:Zs}{w:World}{K:Z7}{tg:Expr}(it:Addr)(lo:Int)(n:Nat):Turn P w K tg (Itr lo n) [it] it (λi h=>IsRangeIter h it (lo+(i:Nat)*1) ((n:Int)-(i:Nat)) 1) where
 mem:=by simp
 obj:=λi h st b hb=>by
  have e:b=it:=by simpa using hb
  subst e
  exact ⟨_,st,λv z=>by
   have z':Data.fields _=Data.cell v:=z
   cases z'⟩
 keep:=λi h h' st k=>k it (by simp) _ st
 item:=by intro X hP hw hK hc i pins s σ H E I hf st hg;subst hP hw hK;obtain⟨f0,f1,f2,f3,f4,f5⟩:=hf it (by simp);have W:=Walks.range (prog:=X.prog) (w:=X.w) (I.ok.hd hc) it lo 1 n;refine W.item i s _ _ hg st λv h' tk hv st' kk=>?_;obtain⟨t,rfl⟩:=hv;have I1:Inv X pins σ H {s with heap:=h',toks:=tk}:=I.turned (λb o hb e=>kk b o (by simpa using hb) e) f0 f1 f3 f4 f5;refine⟨_,rfl,zr4 (s:={s with heap:=h',toks:=tk}) (n:="range_iterator") st' rfl rfl (by decide) ⟨.int (lo+i),H,I1,⟨t,?_⟩,⟨rfl,rfl⟩,st',λb hb=>(hf b hb).1⟩⟩;rw[Int.mul_one]
 done:=by
  intro X hP hw hK hc i pins s σ H E I hf st hg;subst hP hw hK;obtain⟨f0,f1,f2,f3,f4,f5⟩:=hf it (by simp)
  exact wpAny_pyNext_range_end (I.ok.hd hc) st (by have:n<=i:=hg;omega) λh' eb=>⟨rfl,I.turned (t':=s.toks) (λb o hb e=>eb b o hb e) f0 f1 f3 f4 f5⟩
 self:=λ_ _ _ _ _ st h=>wpAny_pyIter_rangeiter st h
section
variable {X:Cx}{tg:Expr}
theorem zpj{pins:List (Addr×Obj)}{σ:St}{H:Hp}{s:Shared}{R:It->Hp->Prop}{E:Value->Shared->Prop}{lo hi:Int}{t u v:Tok}{tk:Nat}(I:Inv X pins σ H s)(h1:-(2^62)<=lo)(h2:lo<2^62)(h3:-(2^62)<=hi)(h4:hi<2^62)
  (q:R (Itr lo (hi-lo).toNat) H):wpAny (model X.prog X.w) X.A (pyIter (.ref s.heap.objs.size)) (PIE X pins σ tg R) E {s with heap:=s.heap.push {cls:=.type "range",data:=.fields #[.int lo t,.int hi u,.int 1 v]},toks:=tk}:=by
 refine wpAny_pyIter_range (IsRange.new ..) (small_one h1 h2 h3 h4) ?_;have I1:Inv X pins σ H {s with heap:=s.heap.push {cls:=.type "range",data:=.fields #[.int lo t,.int hi u,.int 1 v]},toks:=tk}:=I.kept λb o e=>Z0 _ e
 refine ⟨(s.heap.push {cls:=.type "range",data:=.fields #[.int lo t,.int hi u,.int 1 v]}).objs.size,[(s.heap.push {cls:=.type "range",data:=.fields #[.int lo t,.int hi u,.int 1 v]}).objs.size],_,_,H,rfl,
  I1.kept (t':=tk) λb o e=>Z0 _ e,zk2 _ lo (hi-lo).toNat,?_,λb hb=>?_,q⟩
 ·have e1:lo+((0:Nat):Int)*1=lo:=by simp
  have e2:(((hi-lo).toNat:Nat):Int)-((0:Nat):Int)=YG.Range.rangeSize lo hi 1:=by rw[rangeSize_one];split<;>omega
  show IsRangeIter _ _ (lo+((0:Nat):Int)*1) ((((hi-lo).toNat:Nat):Int)-((0:Nat):Int)) 1;rw[e1,e2];exact Zw _ rfl
 ·have e:b=(s.heap.push {cls:=.type "range",data:=.fields #[.int lo t,.int hi u,.int 1 v]}).objs.size:=by simpa using hb
  subst e;exact I1.fpOk (Z2 _) (I1.hok.fresh (Z2 _))
def zvH(ta:TA):TI:=λσ H R=>ta σ H λvs H1=>∃j:Int,vs=[.int j]/\-(2^62)<=j/\j<2^62/\R (Itr 0 j.toNat) H1
theorem zl8{a:Expr}{ta:TA}{p pos:Pos}(hg:Gl X "range")(hm:X.mg "range"=none)(ha:PA X [a] ta)(hs:ZW [a] X.env=[(false,eval a X.env)]:=by rfl):PI X tg (.Call (.Name "range" p) [a] [] pos) (zvH ta):=by
 intro pins s σ H R I h;refine Call_ (zeQ I hg hm boot_range (YR (thn (ha pos pins s σ H _ I h) λus s1 q_=>?_) hs rfl));obtain⟨vs,H1,I1,r1,q1⟩:=q_;obtain⟨j,e,q1,q2,q⟩:=q1;subst e
 cases r1 with|cons r rr=>cases rr;obtain⟨t,rfl⟩:=r;exact call_range_1 (zpj I1 (by omega) (by omega) q1 q2 (by simpa using q))
def tFor(wi:TI)(g:TG)(tb:TS):TS:=λD σ H=>wi σ H λJ H1=>∃W:Nat->Nat->St->Hp->Prop,(∃m,W 0 m σ H1)/\∀i m σ H,W i m σ H →
 (J.stop i H/\D.nx σ H)\/(J.go i H/\∃N:St->Hp->Prop,(∀σ' H',N σ' H'->∃m',m'<m/\W (i+1) m' σ' H')/\∀x H',J.yld i H x H'->g x σ H' λσ2 H2=>tb {D with nx:=N,ct:=N,bk:=D.nx} σ2 H2)
def zh1(fp:List Addr)(h:Heap):List (Addr×Obj):=fp.filterMap λb=>(h.get? b).map λo=>(b,o)
theorem zcJ{fp:List Addr}{h:Heap}{b:Addr}{o:Obj}(hb:b∈fp)(e:h.get? b=some o):(b,o)∈zh1 fp h:=List.mem_filterMap.mpr ⟨b,hb,by rw[e];rfl⟩
theorem zol{fp:List Addr}{h:Heap}{p:Addr×Obj}(hp:p∈zh1 fp h):p.1∈fp/\h.get? p.1=some p.2:=by
 obtain⟨b,hb,e⟩:=List.mem_filterMap.mp hp
 cases q:h.get? b with|none=>rw[q] at e;cases e|some o=>rw[q] at e;have e':(b,o)=p:=ZZ e;subst e';exact⟨hb,q⟩
theorem Inv.pinned{pins:List (Addr×Obj)}{σ:St}{H:Hp}{s:Shared}{fp:List Addr}(I:Inv X pins σ H s)(hf:∀b∈fp,FpOk X pins H b)(ho:∀b∈fp,∃o,s.heap.get? b=some o/\∀v,o.data≠.cell v):Inv X (pins++zh1 fp s.heap) σ H s:=
 I.pins_of λp hp=>(YZ.mp hp).elim (λz=>I.pin p (ZE _ z)) λz=>by
  obtain⟨hb,e⟩:=zol z;obtain⟨f0,f1,f2,_⟩:=hf p.1 hb;obtain⟨o,e',d⟩:=ho p.1 hb
  rw[e] at e';cases e'
  exact⟨e,f0,f1,f2,d⟩
theorem Inv.unpinned{pins pl:List (Addr×Obj)}{σ:St}{H:Hp}{s:Shared}(I:Inv X (pins++pl) σ H s):Inv X pins σ H s:=I.pins_of λp hp=>I.pin p (ZE _ (Yh _ hp))
theorem zt4{iter:Expr}{body:List Stmt}{wi:TI}{g:TG}{tb:TS}{pos:Pos}(hp:Wi (model X.prog X.w) X.A X.env X.xe)(hc:X.calm=true)(hi:PI X tg iter wi)(hg:PG X tg g)(hb:PSs X body tb)
  (hs:∀x,Yg iter X.env x=pure x:=by intro _;rfl):PS X (.For tg iter body [] pos) (tFor wi g tb):=by
 intro pins s σ H D I h;refine wpAny_For (thn (hi pins s σ H _ I h) λv s1 h1=>thn h1 λitv s2 h2=>?_) hs;obtain⟨it,fp,tn,J,H2,e,I2,T,st2,f2,W,⟨m0,w0⟩,turn⟩:=h2;subst e;have stat:∀{H':Hp},(∀b∈fp,H' b=none)->∀b∈fp,FpOk X pins H' b:=λhn b hb=>⟨hn b hb,(f2 b hb).2⟩;refine codeAny_forLoop_any (λn s'=>∃i σ' H',Inv X pins σ' H' s'/\tn i s'.heap/\(∀b∈fp,H' b=none)/\W i n σ' H') ?_ m0 ⟨0,σ,H2,I2,st2,λb hb=>(f2 b hb).1,w0⟩
 rintro n s3 ⟨i,σ3,H3,I3,st3,fr3,w3⟩
 rcases turn i n σ3 H3 w3 with⟨stop,qn⟩|⟨go,N,hN,step⟩
 ·refine Yi hp (thn (T.done X rfl rfl rfl hc i pins s3 σ3 H3 X.xe I3 (stat fr3) st3 stop) λr s4 q_=>?_)
  obtain⟨hr,I4⟩:=q_;subst hr;exact V6 ⟨σ3,H3,I4,qn⟩
 ·refine Yi hp (thn (T.item X rfl rfl rfl hc i pins s3 σ3 H3 X.xe I3 (stat fr3) st3 go) λr s4 q_=>?_)
  obtain⟨u,hr,h4⟩:=q_;subst hr;refine Yi hp (thn h4 λ_ s5 q_=>?_);obtain⟨x,H5,I5,r5,y5,st5,fr5⟩:=q_;have I5':=I5.pinned (stat fr5) (T.obj _ _ st5);refine Yi hp (thn (hg _ s5 σ3 H5 x u _ I5' r5 (step x H5 y5)) λ_ s6 q_=>?_);obtain⟨σ6,H6,I6,q6⟩:=q_;refine Yi hp (thn (hb _ s6 σ6 H6 _ I6 q6) λf s7 q7=>?_)
  have again:∀{σ7:St} {H7:Hp},Inv X (pins++zh1 fp s5.heap) σ7 H7 s7->N σ7 H7->∃m,m<n/\∃i σ' H',Inv X pins σ' H' s7/\tn i s7.heap/\(∀b∈fp,H' b=none)/\W i m σ' H':=λ{σ7 H7} I7 n7=>by obtain⟨m',hm,w7⟩:=hN σ7 H7 n7;refine⟨m',hm,i+1,σ7,H7,I7.unpinned,T.keep _ _ _ st5 λb hb o e=>(I7.pin (b,o) (ZE _ (ZE _ (zcJ hb e)))).1,λb hb=>?_,w7⟩;obtain⟨o,e,d⟩:=T.obj _ _ st5 b hb;exact(I7.pin (b,o) (ZE _ (ZE _ (zcJ hb e)))).2.1
  cases f with|next=>obtain⟨σ7,H7,I7,n7⟩:=q7;exact again I7 n7|cont=>obtain⟨σ7,H7,I7,n7⟩:=q7;exact again I7 n7|brk=>obtain⟨σ7,H7,I7,q7⟩:=q7;exact⟨σ7,H7,I7.unpinned,q7⟩|ret v=>obtain⟨x7,σ7,H7,I7,r7,q7⟩:=q7;exact⟨x7,σ7,H7,I7.unpinned,r7,q7⟩
end
abbrev R2:=V->V->Hp->VK->Prop
def OpR(X:Cx)(f:Value->Value->Sem Value)(r:R2):Prop:=
 ∀ (pins:List (Addr×Obj)) (s:Shared) (σ:St) (H:Hp) (x y:V) (v u:Value) (Q:VK),Inv X pins σ H s->RelV x v->RelV y u->r x y H Q →
  wpAny (model X.prog X.w) X.A (f v u) (EP X pins σ Q) X.xe s
def UnR(X:Cx)(f:Value->Sem Value)(r:V->Hp->VK->Prop):Prop:=
 ∀ (pins:List (Addr×Obj)) (s:Shared) (σ:St) (H:Hp) (x:V) (v:Value) (Q:VK),Inv X pins σ H s->RelV x v->r x H Q →
  wpAny (model X.prog X.w) X.A (f v) (EP X pins σ Q) X.xe s
def zhJ(X:Cx)(f:Value)(r:List V->Hp->VK->Prop):Prop:=
 ∀ (pins:List (Addr×Obj)) (s:Shared) (σ:St) (H:Hp) (xs:List V) (us:List Value) (Q:VK),Inv X pins σ H s->Vals xs us->r xs H Q →
  wpAny (model X.prog X.w) X.A (call f us) (EP X pins σ Q) X.xe s
def TruR(X:Cx)(r:V->Hp->(Bool->Hp->Prop)->Prop):Prop:=
 ∀ (pins:List (Addr×Obj)) (s:Shared) (σ:St) (H:Hp) (x:V) (v:Value) (Q:Bool->Hp->Prop),Inv X pins σ H s->RelV x v->r x H Q →
  wpAny (model X.prog X.w) X.A (truthy v) (TP X pins σ Q) X.xe s
def tOp(r:R2)(ta tb:TE):TE:=λσ H Q=>ta σ H λx H1=>tb σ H1 λy H2=>r x y H2 Q
def tUn(r:V->Hp->VK->Prop)(ta:TE):TE:=λσ H Q=>ta σ H λx H1=>r x H1 Q
def rI(C:Int->Int->Prop)(g:Int->Int->V):R2:=λx y H Q=>∃i j,x=.int i/\y=.int j/\C i j/\Q (g i j) H
def rI0(g:Int->Int->V):R2:=λx y H Q=>∃i j,x=.int i/\y=.int j/\Q (g i j) H
def rU(g:Int->V):V->Hp->VK->Prop:=λx H Q=>∃i,x=.int i/\Q (g i) H
section
variable {X:Cx}{a b c:Expr}{ta tb tc:TE}{pos:Pos}
theorem binT(ha:PE X a ta)(hb:PE X b tb){pins:List (Addr×Obj)}{s:Shared}{σ:St}{H:Hp}{R:V->V->Hp->Prop}(I:Inv X pins σ H s)
  (h:ta σ H λx H1=>tb σ H1 λy H2=>R x y H2) {Q:Value->Shared->Prop} {f:Value->Value->Sem Value}
  (hf:∀v u s2 x y H2,Inv X pins σ H2 s2->RelV x v->RelV y u->R x y H2->wpAny (model X.prog X.w) X.A (f v u) Q X.xe s2):
  wpAny (model X.prog X.w) X.A (eval a X.env) (λv s₁=>wpAny (model X.prog X.w) X.A (eval b X.env) (λu s₂=>wpAny (model X.prog X.w) X.A (f v u) Q X.xe s₂) X.xe s₁) X.xe s:=by
 refine thn (ha pins s σ H _ I h) λv s1 q_=>?_;obtain⟨x,H1,I1,r1,q1⟩:=q_;refine thn (hb pins s1 σ H1 _ I1 q1) λu s2 q_=>?_;obtain⟨y,H2,I2,r2,q2⟩:=q_;exact hf v u s2 x y H2 I2 r1 r2 q2
theorem zu2{op:Wh}{r:R2}(ho:OpR X (YT op) r)(ha:PE X a ta)(hb:PE X b tb):PE X (.BinOp a op b pos) (tOp r ta tb):=by intro pins s σ H Q I h;exact wpAny_BinOp (binT ha hb I h λv u s2 x y H2 I2 rx ry q=>ho pins s2 σ H2 x y v u Q I2 rx ry q)
theorem zwk{op:UnaryOp}{r:V->Hp->VK->Prop}(ho:UnR X (unaryOp op) r)(ha:PE X a ta):PE X (.UnaryOp op a pos) (tUn r ta):=by intro pins s σ H Q I h;exact UnaryOp_ (thn (ha pins s σ H _ I h) λv s1 ⟨x,H1,I1,r1,q1⟩=>ho pins s1 σ H1 x v Q I1 r1 q1)
theorem opI{f:Value->Value->Sem Value}{C:Int->Int->Prop}{g:Int->Int->Int}
  (rule:∀(i j:Int) (t u:Tok) (s:Shared) (Q:Value->Shared->Prop) (E:Value->Shared->Prop),C i j->Q (.int (g i j) s.toks) {s with toks:=s.toks+1}->wpAny (model X.prog X.w) X.A (f (.int i t) (.int j u)) Q E s):
  OpR X f (rI C λi j=>.int (g i j)):=by
 intro pins s σ H x y v u Q I rx ry h;obtain⟨i,j,rfl,rfl,hc,q⟩:=h;obtain⟨t,rfl⟩:=rx;obtain⟨t',rfl⟩:=ry;exact rule i j t t' s _ _ hc ⟨.int (g i j),H,I.tok _,⟨_,rfl⟩,q⟩
theorem opI0{f:Value->Value->Sem Value}{g:Int->Int->Int}
  (rule:∀(i j:Int) (t u:Tok) (s:Shared) (Q:Value->Shared->Prop) (E:Value->Shared->Prop),Q (.int (g i j) s.toks) {s with toks:=s.toks+1}->wpAny (model X.prog X.w) X.A (f (.int i t) (.int j u)) Q E s):
  OpR X f (rI0 λi j=>.int (g i j)):=by
 intro pins s σ H x y v u Q I rx ry h;obtain⟨i,j,rfl,rfl,q⟩:=h;obtain⟨t,rfl⟩:=rx;obtain⟨t',rfl⟩:=ry;exact rule i j t t' s _ _ ⟨.int (g i j),H,I.tok _,⟨_,rfl⟩,q⟩
theorem opB0{f:Value->Value->Sem Value}{g:Int->Int->Bool}
  (rule:∀(i j:Int) (t u:Tok) (s:Shared) (Q:Value->Shared->Prop) (E:Value->Shared->Prop),Q (.bool (g i j)) s->wpAny (model X.prog X.w) X.A (f (.int i t) (.int j u)) Q E s):
  OpR X f (rI0 λi j=>.bl (g i j)):=by
 intro pins s σ H x y v u Q I rx ry h;obtain⟨i,j,rfl,rfl,q⟩:=h;obtain⟨t,rfl⟩:=rx;obtain⟨t',rfl⟩:=ry;exact rule i j t t' s _ _ ⟨.bl (g i j),H,I,rfl,q⟩
def CMul(i j:Int):Prop:=(-(2^64)<i/\i<2^64)\/(-(2^64)<j/\j<2^64)
theorem CMul.ok{i j:Int}(h:CMul i j):IntMulOk i j:=by
 rcases h with⟨h1,h2⟩|⟨h1,h2⟩
 ·exact .of_left (intBits_le_64 h1 h2)
 ·exact .of_right (intBits_le_64 h1 h2)
theorem ztO:OpR X (YT .Add) (rI0 λi j=>.int (i+j)):=opI0 λ_ _ _ _ _ _ _ q=>add_int q
theorem zuL:OpR X (YT .Sub) (rI0 λi j=>.int (i-j)):=opI0 λ_ _ _ _ _ _ _ q=>sub_int q
theorem zuT:OpR X (YT .Mult) (rI CMul λi j=>.int (i*j)):=opI λ_ _ _ _ _ _ _ hc q=>mul_int q hc.ok
theorem zvk:OpR X (YT .Mod) (rI (λ_ j=>0<j) λi j=>.int (i%j)):=opI λi j _ _ _ _ _ hc q=>by
 have h1:(0:Int)<j:=hc
 exact mod_int' (by omega) (by rw[Int.fmod_eq_emod_of_nonneg i (by omega)];exact q)
theorem zuQ:OpR X (YT .BitAnd) (rI0 λi j=>.int (Xi i j)):=opI0 λ_ _ _ _ _ _ _ q=>and_int q
theorem zwb:OpR X (YT .BitOr) (rI0 λi j=>.int (Wl i j)):=opI0 λ_ _ _ _ _ _ _ q=>or_int q
theorem unI{f:Value->Sem Value}{g:Int->Int}
  (rule:∀(i:Int) (t:Tok) (s:Shared) (Q:Value->Shared->Prop) (E:Value->Shared->Prop),Q (.int (g i) s.toks) {s with toks:=s.toks+1}->wpAny (model X.prog X.w) X.A (f (.int i t)) Q E s):
  UnR X f (rU λi=>.int (g i)):=by
 intro pins s σ H x v Q I rx h;obtain⟨i,rfl,q⟩:=h;obtain⟨t,rfl⟩:=rx;exact rule i t s _ _ ⟨.int (g i),H,I.tok _,⟨_,rfl⟩,q⟩
theorem zuM:UnR X (unaryOp .USub) (rU λi=>.int (-i)):=unI λ_ _ _ _ _ q=>neg_int q
end
section
variable {X:Cx}{a b c:Expr}{ta tb tc:TE}{pos:Pos}
theorem zqV{pins:List (Addr×Obj)}{σ:St}{H:Hp}{s:Shared}{Q:VK}{k k':Bool}(I:Inv X pins σ H s)(q:Q (.bl k) H)(e:k=k'):EP X pins σ Q (.bool k') s:=by subst e;exact⟨.bl k,H,I,rfl,q⟩
theorem zvW:OpR X (Zg .Lt) (rI0 λi j=>.bl (decide (i<j))):=opB0 λ_ _ _ _ _ _ _ q=>lt_int q
theorem zwr:OpR X (Zg .LtE) (rI0 λi j=>.bl (decide (i<=j))):=opB0 λ_ _ _ _ _ _ _ q=>le_int q
theorem zwj:OpR X (Zg .Gt) (rI0 λi j=>.bl (decide (j<i))):=opB0 λ_ _ _ _ _ _ _ q=>gt_int q
theorem zvM:OpR X (Zg .GtE) (rI0 λi j=>.bl (decide (j<=i))):=opB0 λ_ _ _ _ _ _ _ q=>ge_int q
theorem ztc:OpR X (Zg .Is) (λx y H Q=>y=.non/\Q (.bl (decide (x=.non))) H):=by
 intro pins s σ H x y v u Q I rx ry h;obtain⟨rfl,q⟩:=h;cases ry;refine is_none_gen (zqV I q ?_)
 cases x<;>first|(cases rx;rfl)|(obtain⟨t,rfl⟩:=rx;rfl)
theorem zsw:OpR X (Zg .IsNot) (λx y H Q=>y=.non/\Q (.bl (!decide (x=.non))) H):=by
 intro pins s σ H x y v u Q I rx ry h;obtain⟨rfl,q⟩:=h;cases ry;refine isnot_none_gen (zqV I q ?_)
 cases x<;>first|(cases rx;rfl)|(obtain⟨t,rfl⟩:=rx;rfl)
theorem zrr{op:CmpOp}{r:R2}(ho:OpR X (Zg op) r)(ha:PE X a ta)(hb:PE X b tb)(hm:Yt op b=false):PE X (.Compare a [op] [b] pos) (tOp r ta tb):=by intro pins s σ H Q I h;exact wpAny_Compare1 (binT ha hb I h λv u s2 x y H2 I2 rx ry q=>ho pins s2 σ H2 x y v u Q I2 rx ry q) hm
def zvB(t:TE):TT:=λσ H Q=>t σ H λx H'=>∃k,x=.bl k/\Q k H'
theorem zrp{op:CmpOp}{r:R2}(ho:OpR X (Zg op) r)(ha:PE X a ta)(hb:PE X b tb)(hm:Yt op b=false):PT X (.Compare a [op] [b] pos) (zvB (tOp r ta tb)):=by
 intro pins s σ H Q I h
 refine wpAny_isTrue_Compare1 (thn (ha pins s σ H _ I h) λv s1 ⟨x,H1,I1,r1,q1⟩=>thn (hb pins s1 σ H1 _ I1 q1) λu s2 ⟨y,H2,I2,r2,q2⟩=>thn (ho pins s2 σ H2 x y v u _ I2 r1 r2 q2) λc s3 ⟨z,H3,I3,r3,k,e,q3⟩=>?_) hm
 subst e;cases r3;exact XW ⟨H3,I3,q3⟩
def TruV(K:Z7)(x:V)(H:Hp)(k:Bool):Prop:=
 match x with|.non=>k=false|.bl b=>k=b|.int i=>k=(i != 0)|.str y=>y.length<=sizeLine/\k=((y.length:Int) != 0)|.byt y=>y.size<=sizeLine/\k=((y.size:Int) != 0)|.ref p=>(∃xs,SqL K H p xs/\k=!xs.isEmpty)\/(∃xs,SqT K H p xs/\k=!xs.isEmpty)\/∃kvs,H p=some (.dK kvs)/\k=!kvs.isEmpty|_=>False
theorem zk3{κ:Type}{kvs:List (κ×V)}{vs:List (κ×Value)}(r:KV kvs vs):(!vs.isEmpty)=!kvs.isEmpty:=by cases r<;>rfl
theorem zcI{xs:List V}{its:List Value}(r:Vals xs its):(!its.toArray.isEmpty)=!xs.isEmpty:=by cases r<;>simp
theorem zgE:(sizeLine:Nat)<2^63:=by rw[XN];decide
theorem zvx:TruR X (λx H Q=>∃k,TruV X.K x H k/\Q k H):=by
 intro pins s σ H x v Q I rx h;obtain⟨k,e,q⟩:=h;have hl:=zgE;have hs:sizeLine=16777216:=XN
 cases x with
 |non=>cases rx;have e':k=false:=e;subst e';exact truthy_none ⟨H,I,q⟩|bl b=>cases rx;have e':k=b:=e;subst e';exact XW ⟨H,I,q⟩|int i=>obtain⟨t,rfl⟩:=rx;have e':k=(i != 0):=e;subst e';exact PySem.P.truthy_int ⟨H,I,q⟩|str y=>obtain⟨t,rfl⟩:=rx;obtain⟨hy,e'⟩:y.length<=sizeLine/\k=((y.length:Int) != 0):=e;subst e';exact PySem.P.truthy_str (by omega) ⟨H,I.tok _,q⟩|byt y=>obtain⟨t,rfl⟩:=rx;obtain⟨hy,e'⟩:y.size<=sizeLine/\k=((y.size:Int) != 0):=e;subst e';exact PySem.W.truthy_bytes (by omega) ⟨H,I.tok _,q⟩
 | ref p=>
  cases rx;have e':(∃xs,SqL X.K H p xs/\k=!xs.isEmpty)\/(∃xs,SqT X.K H p xs/\k=!xs.isEmpty)\/∃kvs,H p=some (.dK kvs)/\k=!kvs.isEmpty:=e
  rcases e' with⟨xs,hx,e'⟩|⟨xs,hx,e'⟩|⟨kvs,hx,e'⟩
  ·subst e'
   obtain⟨its,r,pl,hz⟩:=I.list hx;have hlen:=r.length
   exact wpAny_truthy_list pl.isList (by simp only[ZX];omega) ⟨H,I.tok _,by rw[zcI r];exact q⟩
  ·subst e'
   obtain⟨its,r,pl,hz⟩:=I.tuple hx;have hlen:=r.length
   exact truthy_tuple pl (by simp only[ZX];omega) ⟨H,I.tok _,by rw[zcI r];exact q⟩
  ·subst e'
   obtain⟨hz,hS,vs,r,m⟩:kvs.length<=sizeLine/\(p==Wa)=false/\∃vs,KV kvs vs/\s.heap.DictOf (zmH X.prog X.w) p vs:=I.hok p _ hx;have hlen:kvs.length=vs.length:=XD r
   exact wpAny_truthy_dict hS m (by omega) ⟨H,I.tok _,by rw[zk3 r];exact q⟩
 |_=>exact(show False from e).elim
theorem zpK(ha:PE X a ta)(he:∀whole,isTrue a X.env whole=(do let v<-whole;Xy a.pos;holding [v] (truthy v))):
  PT X a (λσ H Q=>ta σ H λx H'=>∃k,TruV X.K x H' k/\Q k H'):=by
 intro pins s σ H Q I h;exact isTrue_plain (thn (ha pins s σ H _ I h) λv s1 ⟨x,H1,I1,r1,q1⟩=>zvx pins s1 σ H1 x v Q I1 r1 q1) (he _)
theorem zjx{x:V}{us:List Value}(r:Vals [x] us):∃u,us=[u]/\RelV x u:=by
 cases r with|cons r1 r2=>cases r2;exact⟨_,rfl,r1⟩
theorem ziF:zhJ X (.type "int") (λxs H Q=>(∃i,xs=[.int i]/\Q (.int i) H)\/∃k,xs=[.bl k]/\Q (.int (if k then 1 else 0)) H):=by
 intro pins s σ H xs us Q I r h
 rcases h with⟨i,rfl,q⟩|⟨k,rfl,q⟩
 ·obtain ⟨u,rfl,t,rfl⟩:=zjx r
  exact call_int_int ⟨.int i,H,I,⟨_,rfl⟩,q⟩
 ·obtain ⟨u,rfl,r1⟩:=zjx r
  cases r1;exact call_int_bool ⟨.int (if k then 1 else 0),H,I.tok _,⟨_,rfl⟩,q⟩
def LenV(K:Z7)(x:V)(H:Hp)(n:Nat):Prop:=
 match x with|.str y=>y.length<=sizeLine/\n=y.length|.byt y=>y.size<=sizeLine/\n=y.size|.ref p=>(∃xs,SqL K H p xs/\n=xs.length)\/∃xs,SqT K H p xs/\n=xs.length|_=>False
theorem zg5:zhJ X (.builtin "len") (λxs H Q=>∃x n,xs=[x]/\LenV X.K x H n/\Q (.int n) H):=by
 intro pins s σ H xs us Q I r h;obtain⟨x,n,rfl,e,q⟩:=h;obtain⟨u,rfl,rx⟩:=zjx r;have hl:=zgE;have hs:sizeLine=16777216:=XN
 cases x with
 |str y=>obtain⟨t,rfl⟩:=rx;obtain⟨hy,e'⟩:y.length<=sizeLine/\n=y.length:=e;subst e';exact len_str (by omega) ⟨.int _,H,I.tok _,⟨_,rfl⟩,q⟩|byt y=>obtain⟨t,rfl⟩:=rx;obtain⟨hy,e'⟩:y.size<=sizeLine/\n=y.size:=e;subst e';exact PySem.W.len_bytes (by omega) ⟨.int _,H,I.tok _,⟨_,rfl⟩,q⟩
 | ref p=>
  cases rx;have e':(∃xs,SqL X.K H p xs/\n=xs.length)\/∃xs,SqT X.K H p xs/\n=xs.length:=e
  rcases e' with⟨xs,hx,e'⟩|⟨xs,hx,e'⟩
  ·subst e'
   obtain⟨its,r',pl,hz⟩:=I.list hx;have hlen:=r'.length
   exact Calls.call_len_list pl.isList (by simp only[ZX];omega) ⟨.int xs.length,H,I.tok _,⟨_,by simp only[ZX];rw[hlen]⟩,q⟩
  ·subst e'
   obtain⟨its,r',pl,hz⟩:=I.tuple hx;have hlen:=r'.length
   exact len_tuple pl (by simp only[ZX];omega) ⟨.int xs.length,H,I.tok _,⟨_,by simp only[ZX];rw[hlen]⟩,q⟩
 |_=>exact(show False from e).elim
end
structure ObjM(h:Heap)(x dx C:Addr)(mA:Str->Option Value):Prop where
 obj:h.get? x=some (YE C dx)
 ns:h.Ns1 dx mA
 ne:dx≠x
theorem znc{h:Heap}{dx:Addr}{mA:Str->Option Value}(n:h.Ns1 dx mA):∃od,h.get? dx=some od/\∀name,WC name od=some (mA name):=by
 obtain⟨o,es,ep,ho,hd,hk,_,hm⟩:=n;refine⟨o,ho,λname=>?_⟩;have e:=hm name;unfold nsFind findBy at e;rw[<-Array.find?_toList] at e;unfold WC;rw[hd];dsimp only
 split
 ·rename_i y q
  rw[q] at e;exact congrArg some e
 ·rename_i q
  rw[q] at e
  have a:es.toList.any (·.refKey)=false:=by rw[List.any_eq_false];intro y hy;obtain⟨z,t,hkey⟩:=hk y (Array.mem_toList_iff.mp hy);simp[DictEntry.refKey,hkey]
  have a':¬es.toList.any (·.refKey)=true:=by rw[a];exact Yo
  rw[if_neg a'];exact congrArg some e
theorem ObjM.look{h:Heap}{x dx C:Addr}{mA:Str->Option Value}(I:ObjM h x dx C mA):∃od,PySem.W.InstAt h x (YE C dx) C (some od)/\∀name,WC name od=some (mA name):=
 let ⟨od,ho,hl⟩:=znc I.ns
 ⟨od,⟨I.obj,rfl,rfl,ho⟩,hl⟩
section
variable {prog:Zs}{w:World}{A:Around}{E:Value->Shared->Prop}{s:Shared}{K:Z7}{x dx C f:Addr}{mA:Str->Option Value}{name:Str}{v:Value}
theorem zrC{expr:Bool}{Q:Value->Shared->Prop}(X:K.In s.heap)(I:ObjM s.heap x dx C mA)(hg:X9 K C name=true)(hh:XV K C=true)
  (ha:ZG K (.ref C) name=some none) (hv:mA name=some v) (hv':PySem.W.handedIn v=true) (h:Q v {s with toks:=s.toks+1}):
  wpAny (model prog w) A (getAttr (.ref x) name expr) Q E s:=by
 obtain⟨od,J,hl⟩:=I.look;exact PySem.W.get_value X J (WL hg).1 (PySem.W.findObj_own hh ha rfl (by rw[hl,hv])) hv' h
theorem zpN{pl:Sem Bool}{Q:Value×List Value->Shared->Prop}(X:K.In s.heap)(I:ObjM s.heap x dx C mA)(hg:X9 K C name=true)
  (hf:ZG K (.ref C) name=some (some (.ref f))) (ht:WK K (.ref f)=true) (hv:mA name=none) (h:Q (.ref f,[.ref x]) s):
  wpAny (model prog w) A (WF (.ref x) name pl) Q E s:=by
 obtain⟨od,J,hl⟩:=I.look
 exact PySem.W.method_fn X J (WL hg).1 (WL hg).2 hf (beq_iff_eq.mp ht) (by show(WC name od).map (·.isSome)=some false;rw[hl,hv];rfl) h
theorem zrl{ns:List Str}{Q:Unit->Shared->Prop}(X:K.In s.heap)(I:ObjM s.heap x dx C mA)
  (hs:ZG K (.ref C) "__setattr__"=some (some (.builtin "object.__setattr__"))) (hp:Xh K C=true) (ht:V5 K C name=some none) (hh:XV K C=true)
  (hw:V9 mA ns) (hsz:ns.length<=sizeLine)
  (h:∀h',ObjM h' x dx C (λy=>if y=name then some v else mA y)->Xj dx s.heap h'->Q () {s with heap:=h',toks:=s.toks+2}):
  wpAny (model prog w) A (setAttr (.ref x) name v) Q E s:=by
 obtain⟨od,J,hl⟩:=I.look;refine PySem.W.set_plain X J hs (PySem.W.osa_open (s:={s with toks:=s.toks+1}) (r:=none) X J hp ht λb=>?_);obtain⟨cd,hc,hd'⟩:=PySem.W.any_some hh;have hx:s.heap.get? x=some ⟨.ref C,some dx,.plain,#[]⟩:=I.obj;refine Z4 (ZY (Z4 (Z4 (wpAny_loadPart hx (Z4 (PySem.W.Looks.here (s:={s with toks:=s.toks+1}) (PySem.W.looks_clsIn X hc) ?_))))));rw[hd'];refine ZY (a:=some dx) (Z4 (ZY (Z4 ?_)));refine wpAny_nsSet1 (s:={s with toks:=s.toks+1}) I.ns λh' hn2 hs2=>?_;obtain⟨oD,esD,epD,hoD,hdD,hcD⟩:=hn2.count (V9.cons name v hw)
 refine Z4 (wpAny_lookBehind hoD (by rw[hdD];exact pastItsLine_dict (ZJ hcD (by rw[Zu];omega))) ?_)
 exact ZY (h _ ⟨(hs2.2 _ (Yw I.ne)).trans I.obj,hn2,I.ne⟩ hs2)
theorem zpX{R:Result->Shared->Prop}{vs:List Value}{kw:List (Str×Value)}(X:K.In s.heap)(hm:WQ K C=true)
  (hi:ZG K (.ref C) "__init__"=some (some (.ref f))) (hf:PySem.W.typeIn K (.ref f)=some (.type "function"))
  (h:Xg (model prog w) (A.under (.builtin "type.__call__" ⟨.ref C::vs,kw⟩)) (.call (.ref f) ⟨.ref (s.heap.objs.size+1)::vs,kw⟩) (PySem.W.InitBack (s.heap.objs.size+1) R)
   {s with heap:=(s.heap.push Y3).push (YE C s.heap.objs.size)}):
  Xg (model prog w) A (.call (.ref C) ⟨vs,kw⟩) R s:=by
 obtain⟨hh,g,d,t,os⟩:=s;exact PySem.W.make_core (PySem.W.makes_of X hm) (PySem.W.looks_findIn X hi) (λself=>PySem.W.bind_fn X self hf) (.inl rfl) h
end
def putF(f:Str)(v:V):List (Str×V)->List (Str×V)| []=>[(f,v)]|(g,x)::r=>if g=f then(g,v)::r else(g,x)::putF f v r
theorem zfE(f g:Str)(v:V):∀fs:List (Str×V),(putF f v fs).lookup g=if g=f then some v else fs.lookup g
  | [] => by
    show Xp g [(f,v)]=_
    by_cases h:g=f
    · have hb:(g==f)=true:=beq_iff_eq.mpr h
      simp only[Xp,hb,if_pos h]
    · have hb:(g==f)=false:=beq_eq_false_iff_ne.mpr h
      simp only[Xp,hb,if_neg h]
  | (k, x)::r=>by
    have ih:=zfE f g v r;rw[show putF f v ((k,x)::r)=(if k=f then(k,v)::r else(k,x)::putF f v r) from rfl]
    by_cases hk:k=f
    · rw [if_pos hk]
      by_cases h:g=k
      · have hb:(g==k)=true:=beq_iff_eq.mpr h
        simp only[Xp,hb,if_pos (h.trans hk)]
      · have hb:(g==k)=false:=beq_eq_false_iff_ne.mpr h
        simp only[Xp,hb,if_neg (λe:g=f=>h (e.trans hk.symm))]
    · rw [if_neg hk]
      by_cases h:g=k
      · have hb:(g==k)=true:=beq_iff_eq.mpr h
        simp only[Xp,hb,if_neg (λe:g=f=>hk (h.symm.trans e))]
      · have hb:(g==k)=false:=beq_eq_false_iff_ne.mpr h
        simp only[Xp,hb];exact ih
theorem zfN(f:Str)(v:V):∀fs:List (Str×V),f∈(putF f v fs).map (·.1)/\∀g,g∈fs.map (·.1)->g∈(putF f v fs).map (·.1)
  | []=>⟨by simp[putF],λg h=>by simp at h⟩
  | (k, x)::r=>by
    obtain⟨i1,i2⟩:=zfN f v r;rw[show putF f v ((k,x)::r)=(if k=f then(k,v)::r else(k,x)::putF f v r) from rfl]
    by_cases hk:k=f
    · rw [if_pos hk]
      subst hk;exact⟨by simp,λg h=>by simpa using h⟩
    · rw [if_neg hk]
      refine⟨?_,λg h=>?_⟩
      · rw [ZB]
        exact Zr _ i1
      · rw [ZB] at h⊢
        rcases ZP.mp h with e | e
        · exact ZP.mpr (.inl e)
        · exact Zr _ (i2 g e)
theorem zfh(f:Str)(v:V):∀fs:List (Str×V),(putF f v fs).length<=fs.length+1
  | []=>by simp[putF]
  | (k,x)::r=>by
    have ih:=zfh f v r;rw[show putF f v ((k,x)::r)=(if k=f then(k,v)::r else(k,x)::putF f v r) from rfl]
    by_cases hk:k=f
    · rw[if_pos hk,Zu,Zu];omega
    · rw[if_neg hk,Zu,Zu];omega
theorem RelO.some_of{v:V}{o:Option Value}(r:RelO (some v) o):∃u,o=some u/\RelV v u:=by
 cases o with|none=>exact(show False from r).elim|some u=>exact⟨u,rfl,r⟩
theorem RelO.none_of{o:Option Value}(r:RelO none o):o=none:=by
 cases o with|none=>rfl|some u=>exact(show False from r).elim
theorem znX{v:V}{u:Value}(r:RelV v u):PySem.W.handedIn u=true:=by
 cases v with|non=>cases (show u=W5 from r);rfl|bl b=>cases (show u=Xt b from r);rfl|int i=>obtain⟨t,e⟩:=(show ∃t,u=Value.int i t from r);cases e;rfl|str x=>obtain⟨t,e⟩:=(show ∃t,u=Value.str x t from r);cases e;rfl|byt b=>obtain⟨t,e⟩:=(show ∃t,u=Value.bytes b t from r);cases e;rfl|flt b=>obtain⟨t,e⟩:=(show ∃t,u=Value.float b t from r);cases e;rfl|ref a=>cases (show u=YM a from r);rfl|ty n=>cases (show u=Xs n from r);rfl
section
variable {P:Zs}{w:World}{H H':Hp}{h h':Heap}{a C dx:Addr}{fs fs':List (Str×V)}
theorem zjm(hok:HOk P w H h)(e:H a=some (.ins C dx fs)):∃mA,ObjM h a dx C mA/\(∀f,RelO (fs.lookup f) (mA f))/\V9 mA (fs.map (·.1))/\fs.length<=1000/\H dx=some (.own a):=by obtain⟨d,z,ne,ob,mA,n,r,q⟩:=(show zcj P w H h a (.ins C dx fs) from hok a _ e);exact⟨mA,⟨ob,n,ne⟩,r,q,z,d⟩
end
structure Cls(K:Z7)(C:Addr):Prop where
 pg:X9 K C Str.empty=true
 hd:XV K C=true
 po:Xh K C=true
 sa:ZG K (.ref C) "__setattr__"=some (some (.builtin "object.__setattr__"))
theorem Cls.get{K:Z7}{C:Addr}(c:Cls K C)(f:Str):X9 K C f=true:=c.pg
def zbX(K:Z7)(C:Addr)(f:Str):Prop:=ZG K (.ref C) f=some none
theorem zbX.taker{K:Z7}{C:Addr}{f:Str}(n:zbX K C f):V5 K C f=some none:=by unfold V5;rw[show ZG K (.ref C) f=some none from n];rfl
structure Meth(K:Z7)(C:Addr)(m:Str)(f:Addr):Prop where
 at_:ZG K (.ref C) m=some (some (.ref f))
 fn:WK K (.ref f)=true
 kp:Zb K (.ref f)=true
section
variable {X:Cx}{pins:List (Addr×Obj)}{σ:St}{H:Hp}{s:Shared}{a C dx:Addr}{fs:List (Str×V)}{f:Str}{v:V}{A:Around}{E:Value->Shared->Prop}
theorem zlJ{b:Bool}{Q:Value->Shared->Prop}(I:Inv X pins σ H s)(e:H a=some (.ins C dx fs))(c:Cls X.K C)(n:zbX X.K C f)(l:fs.lookup f=some v)
  (h:∀u s',Inv X pins σ H s'->RelV v u->Q u s'):wpAny (model X.prog X.w) A (getAttr (.ref a) f b) Q E s:=by
 obtain⟨mA,O,r,_,_,_⟩:=zjm I.hok e
 obtain⟨u,hu,ru⟩:=RelO.some_of (v:=v) (o:=mA f) (by rw[<-l];exact r f)
 exact zrC I.kIn O (c.get f) c.hd n hu (znX ru) (h u _ (I.tok _) ru)
theorem zgv{m:Str}{g:Addr}{pl:Sem Bool}{Q:Value×List Value->Shared->Prop}(I:Inv X pins σ H s)(e:H a=some (.ins C dx fs))(c:Cls X.K C)(k:Meth X.K C m g)(l:fs.lookup m=none)
  (h:Q (.ref g,[.ref a]) s):wpAny (model X.prog X.w) A (WF (.ref a) m pl) Q E s:=by
 obtain⟨mA,O,r,_,_,_⟩:=zjm I.hok e
 have hn:mA m=none:=RelO.none_of (by rw[<-l];exact r m)
 exact zpN I.kIn O (c.get m) k.at_ k.fn hn h
theorem zk5{y:V}{u:Value}{Q:Unit->Shared->Prop}(I:Inv X pins σ H s)(e:H a=some (.ins C dx fs))(c:Cls X.K C)(n:zbX X.K C f)(hl:fs.length<1000)(ry:RelV y u)
  (h:∀s',Inv X pins σ (upd H a (.ins C dx (putF f y fs))) s'->Q () s'):wpAny (model X.prog X.w) A (setAttr (.ref a) f u) Q E s:=by
 obtain⟨mA,O,r,wi,_,ho⟩:=zjm I.hok e
 have hz:(fs.map (·.1)).length<=sizeLine:=by rw[Z3,XN];omega
 refine zrl I.kIn O c.sa c.po n.taker c.hd wi hz λh' O' sb=>h _ ?_
 have hd:∃o,h'.get? dx=some o:=let ⟨o,_,_,e',_⟩:=O'.ns;⟨o,e'⟩
 refine I.write (x:=a) (e:=dx) (by rw[e];exact W3) (.inr ho) (λb q hb z=>(sb.2 b hb).trans z) hd ?_
 refine⟨by rw[zao O.ne];exact ho,?_,O.ne,O'.obj,_,O'.ns,λg=>?_,λg hg=>?_⟩
 ·have:=zfh f y fs;omega
 ·show RelO ((putF f y fs).lookup g) (if g=f then some u else mA g)
  rw[zfE]
  by_cases q:g=f
  ·rw[if_pos q,if_pos q];exact ry
  ·rw[if_neg q,if_neg q];exact r g
 ·by_cases q:g=f
  ·rw[q];exact(zfN f y fs).1
  ·refine (zfN f y fs).2 g (wi g λz=>hg ?_)
   show(if g=f then some u else mA g)=none
   rw[if_neg q];exact z
theorem Inv.made(I:Inv X pins σ H s):Inv X pins σ (upd (upd H s.heap.objs.size (.own (s.heap.objs.size+1))) (s.heap.objs.size+1) (.ins C s.heap.objs.size []))
  {s with heap:=(s.heap.push Y3).push (YE C s.heap.objs.size)}:=by
 have e1:(s.heap.push Y3).get? s.heap.objs.size=some Y3:=Zw s.heap rfl
 have e2:((s.heap.push Y3).push (YE C s.heap.objs.size)).get? (s.heap.objs.size+1)=some (YE C s.heap.objs.size):=by
  have:=Zw (s.heap.push Y3) (o:=YE C s.heap.objs.size) rfl
  rwa [VY] at this
 have e3:(s.heap.push Y3).Ns s.heap.objs.size (λ_=>none):=⟨Y3,#[],_,e1,rfl,(λe he=>absurd he (by simp)),λ_=>rfl⟩;have I1:=I.laid (a:=s.heap.objs.size) (o:=.own (s.heap.objs.size+1)) (h':=s.heap.push Y3) (t':=s.toks) (λb u q=>Z0 _ q) (Z2 _) ⟨_,e1⟩;refine I1.laid (a:=s.heap.objs.size+1) (o:=.ins C s.heap.objs.size []) (t':=s.toks) (λb u q=>Z0 _ q) (Nat.le_of_eq (VY _ _)) ?_;have ne:s.heap.objs.size≠s.heap.objs.size+1:=ZH (YK _);refine⟨by rw[zao ne,zam],Zz _,ne,e2,λ_=>none,(Heap.Ns1.of_empty e3).at λo q=>Z0 _ q,λ_=>W3,λy hy=>absurd rfl hy⟩
theorem zrD{prog:Zs}{w:World}{env:Env}{e:Expr}{f:Str}{pos:Pos}{s:Shared}{Q:Value->Shared->Prop}(hb:YQ e f env (eval e env)=eval e env)
  (h:wpAny (model prog w) A (eval e env) (λo s₁=>wpAny (model prog w) A (getAttr o f true) Q E s₁) E s):wpAny (model prog w) A (eval (.Attribute e f pos) env) Q E s:=
 Attribute_any_ h (by rw[arm_eval_Attribute,hb])
end
def tFld(K:Z7)(ta:TE)(f:Str):TE:=λσ H Q=>ta σ H λx H1=>∃a C dx fs v,x=.ref a/\H1 a=some (.ins C dx fs)/\Cls K C/\zbX K C f/\fs.lookup f=some v/\Q v H1
def sFld(K:Z7)(ta tv:TE)(f:Str):TS:=λD σ H=>tv σ H λy H1=>ta σ H1 λx H2=>∃a C dx fs,x=.ref a/\H2 a=some (.ins C dx fs)/\Cls K C/\zbX K C f/\fs.length<1000 ∧
 D.nx σ (upd H2 a (.ins C dx (putF f y fs)))
section
variable {X:Cx}{o e value:Expr}{f:Str}{pos pos' tpos:Pos}{ta tv:TE}
theorem zs3(he:PE X e ta)(hb:YQ e f X.env (eval e X.env)=eval e X.env):PE X (.Attribute e f pos) (tFld X.K ta f):=by intro pins s σ H Q I h;refine zrD hb (thn (he pins s σ H _ I h) λu s1 q_=>?_);obtain⟨x,H1,I1,rx,a,C,dx,fs,v,ex,ea,c,n,l,q⟩:=q_;subst ex;obtain rfl:u=YM a:=rx;exact zlJ I1 ea c n l λu' s2 I2 ru=>⟨v,H1,I2,ru,q⟩
theorem zq2(ha:PE X o ta)(hv:PE X value tv)(hs:Xq value (some (.Attribute o f pos')) pos.line X.env=pure false):PS X (.Assign [.Attribute o f pos'] value pos) (sFld X.K ta tv f):=by intro pins s σ H D I h;refine plainObj_wpAny_Assign_Attribute (thn (hv pins s σ H _ I h) λu s1 ⟨y,H1,I1,ry,q⟩=>thn (ha pins s1 σ H1 _ I1 q) λov s2 q_=>?_) hs;obtain⟨x,H2,I2,rx,a,C,dx,fs,ex,ea,c,n,l,q2⟩:=q_;subst ex;obtain rfl:ov=YM a:=rx;exact zk5 I2 ea c n l ry λs3 I3=>⟨σ,_,I3,q2⟩
end
section
variable {X:Cx}{pins:List (Addr×Obj)}{σ:St}{H:Hp}{s:Shared}{A:Around}{E:Value->Shared->Prop}{Q:Value->Shared->Prop}{c:Value}{b:Bool}
end
structure Room(k:Nat)(A:Around):Prop where
 hd:A.handled=none
 dp:A.depth+3*k+5<recursionLimit
 un:A.units+16*k+200<cLine
theorem Room.mono{j k:Nat}{A:Around}(r:Room k A)(h:j<=k):Room j A:=⟨r.hd,by have:=r.dp;omega,by have:=r.un;omega⟩
theorem Room.deeper{k:Nat}{A:Around}(r:Room (k+1) A)(env:Env):Room k (A.deeper env):=⟨r.hd,by have:=r.dp;show A.depth+1+3*k+5<_;omega,by have:=r.un;show A.units+3+16*k+200<_;omega⟩
theorem zk7{A:Around}{C:Addr}{us:List Value}{kw:List (Str×Value)}:(A.under (.builtin "type.__call__" ⟨.ref C::us,kw⟩)).depth=A.depth+1:=by first | rfl | simp[Around.under,Code.weight,Code.isCreation,Code.isGuard,Code.isCaller,Code.frames,Code.isFrame,guardIds]
theorem zk9{A:Around}{C:Addr}{us:List Value}{kw:List (Str×Value)}:(A.under (.builtin "type.__call__" ⟨.ref C::us,kw⟩)).units=A.units+1:=by first | rfl | simp[Around.under,Code.cUnits,Code.frames,Code.isFrame]
theorem Room.make{k:Nat}{A:Around}(r:Room (k+1) A)(C:Addr)(us:List Value)(kw:List (Str×Value)):Room k (A.under (.builtin "type.__call__" ⟨.ref C::us,kw⟩)):=⟨r.hd,by have:=r.dp;rw[zk7];omega,by have:=r.un;rw[zk9];omega⟩
theorem Room.depth{k:Nat}{A:Around}(r:Room k A):A.depth<recursionLimit:=by have:=r.dp;omega
theorem Room.units{k:Nat}{A:Around}(r:Room k A):A.units+64<cLine:=by have:=r.un;omega
def tNil:TA:=λ_ H Q=>Q [] H
def ztt(ta:TE)(tr:TA):TA:=λσ H Q=>ta σ H λx H1=>tr σ H1 λxs H2=>Q (x::xs) H2
section
variable {X:Cx}{e:Expr}{es:List Expr}{te:TE}{t:TA}{pos:Pos}
theorem zeA:PA X [] tNil:=λ_ _ _ _ H Q I h=>Wr ⟨[],H,I,.nil,h⟩
theorem zbG(ha:PE X e te)(hr:PA X es t)(hs:ZW (e::es) X.env=(false,eval e X.env)::ZW es X.env:=by rfl):PA X (e::es) (ztt te t):=by intro pos pins s σ H Q I h;rw[hs];show wpAny _ _ (spliced ((false,eval e X.env)::backTo pos (ZW es X.env))) _ _ s;refine WB (thn (ha pins s σ H _ I h) λu s1 q_=>?_);obtain⟨x,H1,I1,r1,q1⟩:=q_;exact thn (hr pos pins s1 σ H1 _ I1 q1) λus s2 ⟨xs,H2,I2,r2,q2⟩=>⟨x::xs,H2,I2,.cons r1 r2,q2⟩
def tTup(t:TA):TE:=λσ H Q=>t σ H λxs H1=>xs.length<=sizeLine/\∀p,H1 p=none->Q (.ref p) (upd H1 p (.tup xs))
def tLst(t:TA):TE:=λσ H Q=>t σ H λxs H1=>xs.length<=sizeLine/\∀p,H1 p=none->Q (.ref p) (upd H1 p (.lst xs))
theorem zqn{x1}(h:PA X es t):PE X (.Tuple es x1 pos) (tTup t):=by
 intro pins s σ H Q I hq
 refine wpAny_Tuple_spliced (thn (h pos pins s σ H _ I hq) λus s1 ⟨xs,H1,I1,r,z,q⟩=>⟨by rw[<-r.length];exact z,?_⟩)
 have hf:H1 s1.heap.objs.size=none:=I1.hok.fresh (Z2 _);refine⟨.ref s1.heap.objs.size,upd H1 s1.heap.objs.size (.tup xs),I1.laid (t':=s1.toks) (λb u e=>Z0 _ e) (Z2 _) ?_,rfl,q _ hf⟩;exact⟨z,us,r,zdy.new _ _⟩
theorem ztm(h:PA X es t):PE X (.List es pos) (tLst t):=by
 intro pins s σ H Q I hq
 refine wpAny_List_spliced (thn (h pos pins s σ H _ I hq) λus s1 ⟨xs,H1,I1,r,z,q⟩=>⟨by rw[<-r.length];exact z,?_⟩)
 have hf:H1 s1.heap.objs.size=none:=I1.hok.fresh (Z2 _);refine⟨.ref s1.heap.objs.size,upd H1 s1.heap.objs.size (.lst xs),I1.laid (t':=s1.toks) (λb u e=>Z0 _ e) (Z2 _) ?_,rfl,q _ hf⟩;exact⟨z,us,0,r,Zw _ rfl⟩
end
abbrev Sp:=List V->Hp->VK->XK->Prop
abbrev CXT:=List Env->Hp->Shared->XK->Value->Shared->Prop
structure Env0(P:Zs)(w:World)(K:Z7)(mg:Str->Option Value)(base:Heap)(A:Around)(outer:List Env)(s:Shared)(H:Hp):Prop where
 frames:A.frames=some outer
 mod:Mod K mg base
 bs:∀b o,base.get? b=some o->s.heap.get? b=some o/\H b=none
 bsz:base.objs.size<=s.heap.objs.size
 funs:s.heap.FunFrames base outer
 frf:∀b∈frs outer,H b=none
 hok:HOk P w H s.heap
 bare:Ws s.gens
def CE(outer:List Env)(P:Zs)(w:World)(H:Hp)(s:Shared)(Q:VK)(u:Value)(s':Shared):Prop:=∃v H',s'.os=s.os/\Ws s'.gens/\Un (frs outer) [] H H' s.heap s'.heap/\HOk P w H' s'.heap/\RelV v u/\Q v H'
def CR(CX:CXT)(outer:List Env)(P:Zs)(w:World)(H:Hp)(s:Shared)(Q:VK)(E:XK)(r:Result)(s':Shared):Prop:=
 match r with|.ok (.ret u)=>CE outer P w H s Q u s'|.ok _=>False|.error e=>CX outer H s E e s'
structure FnOk(P:Zs)(w:World)(K:Z7)(mg:Str->Option Value)(base:Heap)(CX:CXT)(k:Nat)(f:Addr)(fd:FuncData)(ps:List Str)(sp:Sp):Prop where
 len:∀vs H Q E,sp vs H Q E->vs.length=ps.length
 run:∀(A:Around) (outer:List Env) (s:Shared) (H:Hp) (args:Args) (us:List Value) (vs:List V) (Q:VK) (E:XK),Room k A->Env0 P w K mg base A outer s H->V8 s fd args (ps.zip us)->Vals vs us->sp vs H Q E →
  Xg (model P w) A (.call (.ref f) args) (CR CX outer P w H s Q E) s
theorem Env0.make{P:Zs}{w:World}{K:Z7}{mg:Str->Option Value}{base:Heap}{A:Around}{outer:List Env}{s:Shared}{H:Hp}(e:Env0 P w K mg base A outer s H)(C:Addr)(us:List Value)(kw:List (Str×Value)):
    Env0 P w K mg base (A.under (.builtin "type.__call__" ⟨.ref C::us,kw⟩)) outer s H:=⟨by first | exact e.frames | (simpa[Around.under,Code.envs,Code.isFrame,pushEnvs] using e.frames),e.mod,e.bs,e.bsz,e.funs,e.frf,e.hok,e.bare⟩
section
variable {X:Cx}{pins:List (Addr×Obj)}{σ:St}{H:Hp}{s s':Shared}
theorem Inv.env0(I:Inv X pins σ H s):Env0 X.prog X.w X.K X.mg X.base X.A X.stack s H:=⟨I.ok.frames,I.ok.mod,I.bs,ZJ I.ok.bsz I.sz,I.stack,I.stkFree,I.hok,I.bare⟩
theorem Inv.after{Q:VK}{u:Value}(I:Inv X pins σ H s)(h:CE X.stack X.prog X.w H s Q u s'):EP X pins σ Q u s':=by obtain⟨v,H',os,bare,un,hok,r,q⟩:=h;obtain⟨hh,g,d,t,os'⟩:=s';obtain rfl:os'=s.os:=os;exact⟨v,H',I.call (h':=hh) (g':=g) (d':=d) (t':=t) (ch:=[]) un hok bare (λb z=>absurd z (by simp)),r,q⟩
end
def zs8(sp:Sp)(dvs:List V)(E:XK)(t:TA):TE:=λσ H Q=>t σ H λvs H1=>sp (vs++dvs) H1 Q E
def zui(C:Addr)(m:Str)(sp:Sp)(dvs:List V)(E:XK)(ta:TE)(t:TA):TE:=λσ H Q=>ta σ H λx H1=>∃a dx fs,x=.ref a/\H1 a=some (.ins C dx fs)/\fs.lookup m=none ∧
 t σ H1 λvs H2=>sp (x::(vs++dvs)) H2 Q E
def zv7(C:Addr)(sp:Sp)(dvs:List V)(E:XK)(t:TA):TE:=λσ H Q=>t σ H λvs H1=>∀x dx,H1 x=none->H1 dx=none->dx≠x →
 sp (.ref x::(vs++dvs)) (upd (upd H1 dx (.own x)) x (.ins C dx [])) (λv H2=>v=.non/\Q (.ref x) H2) E
def zcU(K:Z7)(fd:FuncData)(ps:List Str)(ds:List Value):Prop:=∀(s:Shared) (us:List Value),K.In s.heap->(us++ds).length=ps.length->V8 s fd ⟨us,[]⟩ (ps.zip (us++ds))
theorem zcU.all{K:Z7}{fd:FuncData}{ps:List Str}(h:∀us:List Value,us.length=ps.length->bindArgs fd ⟨us,[]⟩=pure (ps.zip us)):zcU K fd ps []:=λs us _ hl=>by rw[Zc] at hl⊢;exact .of_eq (h us hl)
def zc1(CX:CXT)(X:Cx)(E:XK):Prop:=∀(pins:List (Addr×Obj)) (σ:St) (H:Hp) (s:Shared) (e:Value) (s':Shared),Inv X pins σ H s->CX X.stack H s E e s'->X.xe e s'
section
variable {X:Cx}{CX:CXT}{k:Nat}{f C:Addr}{fd:FuncData}{ps:List Str}{sp:Sp}{dvs:List V}{ds:List Value}{E:XK}{x m:Str}{p pos apos:Pos}{e o:Expr}{es:List Expr}{ta:TE}{t:TA}
theorem zki{pins:List (Addr×Obj)}{σ:St}{H:Hp}{s:Shared}{Q:VK}{us:List Value}{vs:List V}(F:FnOk X.prog X.w X.K X.mg X.base CX k f fd ps sp)(hr:Room k X.A)(hb:zcU X.K fd ps ds)(hd:Vals dvs ds)(hx:zc1 CX X E)
  (I:Inv X pins σ H s) (r:Vals vs us) (h:sp (vs++dvs) H Q E):wpAny (model X.prog X.w) X.A (call (.ref f) us) (EP X pins σ Q) X.xe s:=by
 have r2:Vals (vs++dvs) (us++ds):=r.append hd
 have hl:(us++ds).length=ps.length:=by rw[<-r2.length];exact F.len _ _ _ _ h
 refine wpAny_call (WJ (F.run X.A X.stack s H ⟨us,[]⟩ (us++ds) (vs++dvs) Q E hr I.env0 (hb s us I.kIn hl) r2 h) λr s' hq=>?_)
 cases r with
 |error e=>exact hx pins σ H s e s' I hq
 |ok fl=>
  cases fl with|ret u=>exact I.after hq|next=>exact YW hq|brk=>exact YW hq|cont=>exact YW hq
theorem zmr(F:FnOk X.prog X.w X.K X.mg X.base CX k f fd ps sp)(hr:Room k X.A)(hg:Gl X x)(hm:X.mg x=some (.ref f))(hk:Zb X.K (.ref f)=true)(hb:zcU X.K fd ps ds)(hd:Vals dvs ds)(hx:zc1 CX X E)
  (ha:PA X (e::es) t) (hdb:(x==("__debug__":Str))=false:=by decide) (he:ZW (e::es) X.env=(false,eval e X.env)::ZW es X.env:=by rfl) (hpl:(backTo pos (ZW es X.env)).any (·.1)=false:=by rfl):
  PE X (.Call (.Name x p) (e::es) [] pos) (zs8 sp dvs E t):=by
 intro pins s σ H Q I h;refine YV (ze7 I hg hm ?_ hdb);refine WA (h₀:=X.base) I.ok.mod.kin hk (thn (ha pos pins s σ H _ I h) λus s1 ⟨vs,H1,I1,r,q⟩=>⟨I1.kIn,?_⟩) he hpl;exact zki F hr hb hd hx I1 r q
theorem zkB(F:FnOk X.prog X.w X.K X.mg X.base CX k f fd ps sp)(hr:Room k X.A)(hg:Gl X x)(hm:X.mg x=some (.ref f))(hk:Zb X.K (.ref f)=true)(hb:zcU X.K fd ps ds)(hd:Vals dvs ds)(hx:zc1 CX X E)
  (hdb:(x==("__debug__":Str))=false:=by decide):PE X (.Call (.Name x p) [] [] pos) (zs8 sp dvs E tNil):=by
 intro pins s σ H Q I h;refine YV (ze7 I hg hm ?_ hdb);exact PySem.W.callWith_K0 I.kIn hk (zki (us:=[]) F hr hb hd hx I .nil h)
theorem zrR{pl:Sem Bool}(he:PE X o ta)(c:Cls X.K C)(hm:Meth X.K C m f)(F:FnOk X.prog X.w X.K X.mg X.base CX k f fd ps sp)(hr:Room k X.A)(hb:zcU X.K fd ps ds)(hd:Vals dvs ds)(hx:zc1 CX X E)(ha:PA X (e::es) t)
  (hst:ZW (e::es) X.env=(false,eval e X.env)::ZW es X.env:=by rfl) (hpl:(backTo pos (ZW es X.env)).any (·.1)=false:=by rfl)
  (ht:eval (.Call (.Attribute o m apos) (e::es) [] pos) X.env=(do
   let ov<-eval o X.env
   Xy apos.atName
   let (f,first)<-holding [ov] (WF ov m pl)
   VT pos f first (backTo pos (ZW (e::es) X.env)) (Yy pos (Y9 [] X.env))):=by rfl):
  PE X (.Call (.Attribute o m apos) (e::es) [] pos) (zui C m sp dvs E ta t):=by
 intro pins s σ H Q I h;refine PySem.W.methodCall_KW (pl:=pl) (thn (he pins s σ H _ I h) λu s1 q_=>?_) ht;obtain⟨x,H1,I1,rx,a,dx,fs,ex,ea,l,q⟩:=q_;subst ex;obtain rfl:u=YM a:=rx;refine zgv I1 ea c hm l ?_;refine WA (first:=[.ref a]) (h₀:=X.base) I.ok.mod.kin hm.kp (thn (ha pos pins s1 σ H1 _ I1 q) λus s2 ⟨vs,H2,I2,r,q2⟩=>⟨I2.kIn,?_⟩) hst hpl;exact zki (us:=.ref a::us) (vs:=.ref a::vs) F hr hb hd hx I2 (.cons rfl r) q2
theorem zpB{pl:Sem Bool}(he:PE X o ta)(c:Cls X.K C)(hm:Meth X.K C m f)(F:FnOk X.prog X.w X.K X.mg X.base CX k f fd ps sp)(hr:Room k X.A)(hb:zcU X.K fd ps ds)(hd:Vals dvs ds)(hx:zc1 CX X E)
  (ht:eval (.Call (.Attribute o m apos) [] [] pos) X.env=(do
   let ov<-eval o X.env
   Xy apos.atName
   let (f,first)<-holding [ov] (WF ov m pl)
   VT pos f first (backTo pos (ZW [] X.env)) (Yy pos (Y9 [] X.env))):=by rfl):
  PE X (.Call (.Attribute o m apos) [] [] pos) (zui C m sp dvs E ta tNil):=by
 intro pins s σ H Q I h;refine PySem.W.methodCall_KW (pl:=pl) (thn (he pins s σ H _ I h) λu s1 q_=>?_) ht;obtain⟨x,H1,I1,rx,a,dx,fs,ex,ea,l,q⟩:=q_;subst ex;obtain rfl:u=YM a:=rx;refine zgv I1 ea c hm l ?_;exact PySem.W.callWith_K0 (first:=[.ref a]) I1.kIn hm.kp (zki (us:=[.ref a]) (vs:=[.ref a]) F hr hb hd hx I1 (.cons rfl .nil) q)
structure Mk(K:Z7)(C f:Addr):Prop where
 makes:WQ K C=true
 init:ZG K (.ref C) "__init__"=some (some (.ref f))
 fn:WK K (.ref f)=true
 kp:Zb K (.ref C)=true
theorem zps{pins:List (Addr×Obj)}{σ:St}{H:Hp}{s:Shared}{Q:VK}{us:List Value}{vs:List V}(M:Mk X.K C f)(F:FnOk X.prog X.w X.K X.mg X.base CX k f fd ps sp)(hr:Room (k+1) X.A)(hb:zcU X.K fd ps ds)(hd:Vals dvs ds)
  (hx:zc1 CX X E) (I:Inv X pins σ H s) (r:Vals vs us)
  (h:∀x dx,H x=none->H dx=none->dx≠x->sp (.ref x::(vs++dvs)) (upd (upd H dx (.own x)) x (.ins C dx [])) (λv H2=>v=.non/\Q (.ref x) H2) E):
  wpAny (model X.prog X.w) X.A (call (.ref C) us) (EP X pins σ Q) X.xe s:=by
 have hq:=h (s.heap.objs.size+1) s.heap.objs.size (I.hok.fresh (Ys _)) (I.hok.fresh (Z2 _)) (ZH (YK _));have I2:=Inv.made (C:=C) I;have r2:Vals (V.ref (s.heap.objs.size+1)::(vs++dvs)) (YM (s.heap.objs.size+1)::(us++ds)):=.cons rfl (r.append hd)
 have hl:(YM (s.heap.objs.size+1)::us++ds).length=ps.length:=by have e:=r2.length;rw[F.len _ _ _ _ hq] at e;exact e.symm
 refine wpAny_call (zpX (f:=f) I.kIn M.makes M.init (beq_iff_eq.mp M.fn) (WJ (F.run _ X.stack _ _ ⟨YM (s.heap.objs.size+1)::us,[]⟩ (YM (s.heap.objs.size+1)::(us++ds)) _ _ E (hr.make C us [])
  (I2.env0.make C us []) (hb _ (YM (s.heap.objs.size+1)::us) I2.kIn hl) r2 hq) λr s' hq'=>?_))
 cases r with
 |error e=>exact hx pins σ _ _ e s' I2 hq'
 | ok fl=>
  cases fl with|ret u=>obtain⟨v,H',I3,rv,ev,q3⟩:=I2.after hq';subst ev;exact⟨rv,⟨V.ref (s.heap.objs.size+1),H',I3,rfl,q3⟩⟩|next=>exact YW hq'|brk=>exact YW hq'|cont=>exact YW hq'
theorem zsp(M:Mk X.K C f)(F:FnOk X.prog X.w X.K X.mg X.base CX k f fd ps sp)(hr:Room (k+1) X.A)(hg:Gl X x)(hm:X.mg x=some (.ref C))(hb:zcU X.K fd ps ds)(hd:Vals dvs ds)(hx:zc1 CX X E)
  (ha:PA X (e::es) t) (hdb:(x==("__debug__":Str))=false:=by decide) (he:ZW (e::es) X.env=(false,eval e X.env)::ZW es X.env:=by rfl) (hpl:(backTo pos (ZW es X.env)).any (·.1)=false:=by rfl):
  PE X (.Call (.Name x p) (e::es) [] pos) (zv7 C sp dvs E t):=by
 intro pins s σ H Q I h;refine YV (ze7 I hg hm ?_ hdb);refine WA (h₀:=X.base) I.ok.mod.kin M.kp (thn (ha pos pins s σ H _ I h) λus s1 ⟨vs,H1,I1,r,q⟩=>⟨I1.kIn,?_⟩) he hpl;exact zps M F hr hb hd hx I1 r q
end
def PK(X:Cx)(kws:List XU)(t:TA):Prop:=∀(pos:Pos) (pins:List (Addr×Obj)) (s:Shared) (σ:St) (H:Hp) (Q:List V->Hp->Prop),Inv X pins σ H s->t σ H Q->wpAny (model X.prog X.w) X.A (evalAll ((Yy pos (Y9 kws X.env)).map (·.2))) (AP X pins σ Q) X.xe s
section
variable {X:Cx}{CX:CXT}{k:Nat}{f C:Addr}{fd:FuncData}{ps ks:List Str}{sp:Sp}{E:XK}{x m:Str}{p pos apos kpos:Pos}{e o:Expr}{es:List Expr}{kws:List XU}{te ta:TE}{t tk:TA}{nm:Option Str}
theorem zts:PK X [] tNil:=λ_ _ _ _ H Q I h=>wpAny_evalAll_nil ⟨[],H,I,.nil,h⟩
theorem zrW(ha:PE X e te)(hr:PK X kws t):PK X (⟨nm,e,kpos⟩::kws) (ztt te t):=by
 intro pos pins s σ H Q I h
 show wpAny _ _ (evalAll ((do let v<-eval e X.env;Xy pos;pure v)::(Yy pos (Y9 kws X.env)).map (·.2))) _ _ s
 refine wpAny_evalAll_cons (Z4 (thn (ha pins s σ H _ I h) λu s1 ⟨x,H1,I1,r1,q1⟩=>Z4 (WX (ZY ?_))));exact thn (hr pos pins s1 σ H1 _ I1 q1) λus s2 ⟨xs,H2,I2,r2,q2⟩=>⟨x::xs,H2,I2,.cons r1 r2,q2⟩
structure zka(K:Z7)(fd:FuncData)(ps ks:List Str)(g:List Value->List Value->List Value)(gV:List V->List V->List V):Prop where
 to:∀(s:Shared) (us ws:List Value),K.In s.heap->(g us ws).length=ps.length->V8 s fd ⟨us,ks.zip ws⟩ (ps.zip (g us ws))
 rel:∀{vs:List V} {us:List Value} {zs:List V} {ws:List Value},Vals vs us->Vals zs ws->Vals (gV vs zs) (g us ws)
def zvb(sp:Sp)(gV:List V->List V->List V)(E:XK)(t tk:TA):TE:=λσ H Q=>t σ H λvs H1=>tk σ H1 λzs H2=>sp (gV vs zs) H2 Q E
variable {g:List Value->List Value->List Value}{gV:List V->List V->List V}
theorem zsQ{pins:List (Addr×Obj)}{σ:St}{H:Hp}{s:Shared}{Q:VK}{us ws:List Value}{vs zs:List V}(F:FnOk X.prog X.w X.K X.mg X.base CX k f fd ps sp)(hr:Room k X.A)(hb:zka X.K fd ps ks g gV)(hx:zc1 CX X E)
  (I:Inv X pins σ H s) (r:Vals vs us) (rz:Vals zs ws) (h:sp (gV vs zs) H Q E):wpAny (model X.prog X.w) X.A (call (.ref f) us (ks.zip ws)) (EP X pins σ Q) X.xe s:=by
 have r2:=hb.rel r rz
 have hl:(g us ws).length=ps.length:=by rw[<-r2.length];exact F.len _ _ _ _ h
 refine wpAny_call (WJ (F.run X.A X.stack s H ⟨us,ks.zip ws⟩ (g us ws) (gV vs zs) Q E hr I.env0 (hb.to s us ws I.kIn hl) r2 h) λr s' hq=>?_)
 cases r with
 |error e=>exact hx pins σ H s e s' I hq
 |ok fl=>
  cases fl with|ret u=>exact I.after hq|next=>exact YW hq|brk=>exact YW hq|cont=>exact YW hq
theorem zo9(F:FnOk X.prog X.w X.K X.mg X.base CX k f fd ps sp)(hr:Room k X.A)(hg:Gl X x)(hm:X.mg x=some (.ref f))(hk:Zb X.K (.ref f)=true)(hb:zka X.K fd ps ks g gV)(hx:zc1 CX X E)
    (ha:PA X (e::es) t) (hkw:PK X kws tk) (hall:(Yy pos (Y9 kws X.env)).all (·.1.isSome)=true:=by rfl) (hks:(Yy pos (Y9 kws X.env)).filterMap (·.1)=ks:=by rfl)
    (hdb:(x==("__debug__":Str))=false:=by decide) (he:ZW (e::es) X.env=(false,eval e X.env)::ZW es X.env:=by rfl)
    (hpl:((backTo pos (ZW (e::es) X.env)).any (·.1)||(Yy pos (Y9 kws X.env)).any (·.1.isNone))=false:=by rfl):
    PE X (.Call (.Name x p) (e::es) kws pos) (zvb sp gV E t tk):=by
  intro pins s σ H Q I h;refine YV (ze7 I hg hm ?_ hdb);refine PySem.W.callWith_KW (h₀:=X.base) I.ok.mod.kin hk hall (thn (ha pos pins s σ H _ I h) λus s1 q_=>?_) hpl he;obtain⟨vs,H1,I1,r,q⟩:=q_;refine thn (hkw pos pins s1 σ H1 _ I1 q) λws s2 ⟨zs,H2,I2,rz,q2⟩=>⟨I2.kIn,?_⟩;rw[hks];exact zsQ F hr hb hx I2 r rz q2
end
structure ze8(N P:List Str)(sc:Scope):Prop where
 kind:sc.kind=.function
 co:sc.isCoroutine=false
 gen:sc.isGenerator=false
 nd:N.Nodup
 pre:N.take P.length=P
 par:∀x∈P,sc.names.lookup x=some .local\/sc.names.lookup x=some .cell
 nofree:∀y∈sc.names,y.2≠.free
theorem zim{kindOf:Str->Option X8}{x:Str}:∀{binds:List (Str×Value)} {m:Str->Option Value},(∀v,(x,v)∉binds)->bindL kindOf binds m x=m x
  | [],_,_=>rfl
  | (n, v)::r,m,h=>by
    unfold bindL;rw[zim λw hw=>h w (Zr _ hw)]
    split
    · have:x≠n:=by rintro rfl;exact h v YL
      simp[this]
    · rfl
theorem ziH{kindOf:Str->Option X8}{x:Str}:∀{binds:List (Str×Value)} {m:Str->Option Value},(∀v,(x,v)∉binds)->bindC kindOf binds m x=m x
  | [],_,_=>rfl
  | (n, v)::r,m,h=>by
    unfold bindC;rw[ziH λw hw=>h w (Zr _ hw)]
    split
    · rfl
    · have:x≠n:=by rintro rfl;exact h v YL
      simp[this]
theorem zhU{kindOf:Str->Option X8}{x:Str}{v:Value}:∀{P:List Str} {vs:List Value} {i:Nat} {m:Str->Option Value},P.Nodup->P[i]?=some x->vs[i]?=some v->kindOf x=some .local →
  bindL kindOf (P.zip vs) m x=some v
 | [],_,_,_,_,h,_,_=>by simp at h|_::_,[],_,_,_,_,h,_=>by simp at h
 |p::P,w::vs,0,m,nd,h1,h2,hk=>by
  simp at h1 h2;subst h1;subst h2
  show bindL kindOf ((p,w)::P.zip vs) m p=_;unfold bindL;rw[zim λv hv=>(Xx.mp nd).1 (V4 hv).1,if_pos hk];simp
 |p::P,w::vs,i+1,m,nd,h1,h2,hk=>by show bindL kindOf ((p,w)::P.zip vs) m x=_;unfold bindL;exact zhU (i:=i) (Xx.mp nd).2 (by simpa using h1) (by simpa using h2) hk
theorem zij{kindOf:Str->Option X8}{x:Str}{v:Value}:∀{P:List Str} {vs:List Value} {i:Nat} {m:Str->Option Value},P.Nodup->P[i]?=some x->vs[i]?=some v->kindOf x≠some .local →
  bindC kindOf (P.zip vs) m x=some v
 | [],_,_,_,_,h,_,_=>by simp at h|_::_,[],_,_,_,_,h,_=>by simp at h
 |p::P,w::vs,0,m,nd,h1,h2,hk=>by
  simp at h1 h2;subst h1;subst h2
  show bindC kindOf ((p,w)::P.zip vs) m p=_;unfold bindC;rw[ziH λv hv=>(Xx.mp nd).1 (V4 hv).1,if_neg hk];simp
 |p::P,w::vs,i+1,m,nd,h1,h2,hk=>by show bindC kindOf ((p,w)::P.zip vs) m x=_;unfold bindC;exact zij (i:=i) (Xx.mp nd).2 (by simpa using h1) (by simpa using h2) hk
def start(N:List Str)(vs:List V):St:=vs.map some++ZU (N.length-vs.length) none
def cxOf(CX:CXT)(P:Zs)(w:World)(K:Z7)(mg:Str->Option Value)(base:Heap)(N:List Str)(qual:Str)(scope:Scope)(f:Addr)(cd:Value)(A:Around)(outer:List Env)(s:Shared)(H:Hp)(E:XK):Cx where
 prog:=P
 w:=w
 K:=K
 mg:=mg
 base:=base
 A:=A.deeper (envOfC qual scope s.heap.objs.size f cd)
 N:=N
 s₀:=s
 H₀:=H
 env:=envOfC qual scope s.heap.objs.size f cd
 outer:=outer
 stack:=envOfC qual scope s.heap.objs.size f cd::outer
 ex:=[]
 calm:=true
 fn:=λ_=>true
 pn:=[]
 xe:=λe s'=>wpAny (model P w) (A.deeper (envOfC qual scope s.heap.objs.size f cd)) (leaving (envOfC qual scope s.heap.objs.size f cd) e) (λ_ s''=>CX outer H s E e s'') (λe' s''=>CX outer H s E e' s'') s'
theorem zkL{sc:Scope}{n:Nat}{x:Str}(h:sc.names.lookup x=some .cell):∃c,(cellsFrom n sc.names []).lookup x=some c:=by have q:=PySem.W.cellsFrom_some sc.names n [] (.inl h);exact XC.mp q
theorem zm3{CX:CXT}{P:Zs}{w:World}{K:Z7}{mg:Str->Option Value}{base:Heap}{N ps:List Str}{qual:Str}{scope:Scope}{f:Addr}{cd:Value}{A:Around}{outer:List Env}{s s1:Shared}{H:Hp}{E:XK}{us:List Value}{vs:List V}
  (S:ze8 N ps scope) (hd:A.handled=none) (e0:Env0 P w K mg base A outer s H) (hl:vs.length=ps.length) (r:Vals vs us)
  (x:InCallC s s.heap.objs.size (bindL (envOfC qual scope s.heap.objs.size f cd).kindOf (ps.zip us) λ_=>none) (cellsFrom (s.heap.objs.size+1) scope.names []) (bindC (envOfC qual scope s.heap.objs.size f cd).kindOf (ps.zip us) λ_=>none) s1):
  Inv (cxOf CX P w K mg base N qual scope f cd A outer s H E) [] (start N vs) H s1:=by
 have hpl:ps.length<=N.length:=by have:=congrArg Xo S.pre;rw[Yq] at this;omega
 obtain⟨h1,tk,rfl,hk⟩:=x.done;have noA:∀b:Addr,b∉(cxOf CX P w K mg base N qual scope f cd A outer s H E).ex:=λb z=>absurd (show b∈([]:List Addr) from z) (by simp)
 refine ⟨⟨e0.mod,S.kind,rfl,rfl,Z2 _,λy z c h1 h2=>?_,λy hy=>?_,λy c _ h=>?_,λ_=>hd,Around.frames_deeper e0.frames,.inr ⟨rfl,rfl⟩,λb z=>absurd z (noA b),e0.bs,e0.bsz,λb _ _=>noA b,λb z=>absurd z (noA b),e0.funs,e0.frf⟩,
  rfl,e0.bare,Un.kept hk,⟨_,x.toInCall.ns,λi y v h1 h2 h3=>?_⟩,λy c h=>⟨_,x.cell y c h⟩,e0.hok.fresh (Z2 _),λy c h=>?_,λp hp=>absurd (show p∈([]:List (Addr×Obj)) from hp) (by simp),e0.hok.kept hk,?_⟩
 ·exact name_of_addr x.apart (Yb h1) (Yb h2)
 ·have hy:scope.names.lookup y=some .cell\/scope.names.lookup y=some .free:=hy
  rcases hy with hy | hy
  ·exact zkL hy
  ·exact absurd rfl (S.nofree _ (Yb hy))
 ·exact Xl (x.above y c (Yb h))
 ·have hi:i<vs.length:=by
   unfold start at h2
   by_cases hi:i<vs.length
   ·exact hi
   ·rw [ZK (by simpa using hi)] at h2
    rw[List.getElem?_replicate] at h2
    split at h2<;>cases h2
  have ha:vs[i]?=some v:=by
   unfold start at h2;rw[ZR (by simpa using hi),ZF] at h2
   cases e:vs[i]? with|none=>rw[e] at h2;cases h2|some a=>rw[e] at h2;cases h2;rfl
  obtain⟨u,hu,rv⟩:=r.get ha
  have hp:ps[i]?=some y:=by rw[<-S.pre,Y0 (by omega)];exact h1
  have ndP:ps.Nodup:=by rw[<-S.pre];exact S.nd.sublist (List.take_sublist _ _)
  refine⟨u,rv,?_⟩
  rcases S.par y (ZM hp) with k | k
  ·exact .inl ⟨k,zhU ndP hp hu k⟩
  ·obtain ⟨c,e⟩:=zkL (n:=s.heap.objs.size+1) k
   refine .inr ⟨.inl k,c,e,?_⟩;have q:=x.cell y c e
   rw[zij ndP hp hu (by show scope.names.lookup y≠_;rw[k];decide)] at q
   exact q
 ·exact e0.hok.fresh (Xl (x.above y c (Yb h)))
 ·unfold start
  show _=N.length;rw[ZS,Z3,List.length_replicate];omega
theorem zwl{CX:CXT}{P:Zs}{w:World}{K:Z7}{mg:Str->Option Value}{base:Heap}{k:Nat}{f:Addr}{name qual:Str}{params:Arguments}{body:List Stmt}{scope:Scope}{dV kV doc pm cdv ct oc:Value}{an od:Option Addr}
  {osl:Array (Option Value)} {N ps:List Str} {sp:Sp} (lk:K.lookup f=some ⟨oc,od,.func (Zx name qual params body scope dV kV doc pm an cdv ct),osl⟩) (hcd:Xf K cdv qual=true) (S:ze8 N ps scope)
  (len:∀vs H Q E,sp vs H Q E->vs.length=ps.length)
  (hbody:∀(A:Around) (outer:List Env) (s:Shared) (H:Hp) (vs:List V) (Q:VK) (E:XK),Room k (A.deeper (envOfC qual scope s.heap.objs.size f cdv))->sp vs H Q E →
   ∃t,PSs (cxOf CX P w K mg base N qual scope f cdv A outer s H E) body t/\t {nx:=λ_ H'=>Q .non H',rt:=Q} (start N vs) H):
  FnOk P w K mg base CX (k+1) f (Zx name qual params body scope dV kV doc pm an cdv ct) ps sp:=by
 refine⟨len,λA outer s H args us vs Q E hr e0 hb r hsp=>?_⟩;have hl:=len _ _ _ _ hsp;have KX:K.In s.heap:=e0.mod.kin.keeps λb o e=>(e0.bs b o e).1;have lim:s.heap.NoLimit:=e0.mod.nolimit.keeps λb o e=>(e0.bs b o e).1
 have hkind:∀y∈ps.zip us,scope.names.lookup y.1=some .local\/(scope.names.lookup y.1=some .cell/\((cellsFrom (s.heap.objs.size+1) scope.names []).lookup y.1).isSome=true):=λ⟨n,v⟩ hy=>by
  rcases S.par n (V4 hy).1 with q | q
  ·exact .inl q
  ·exact .inr ⟨q,PySem.W.cellsFrom_some _ _ _ (.inl q)⟩
 refine codeAny_call_function hr.depth (KX _ _ lk) rfl S.co S.gen rfl (PySem.W.codeRec_of KX hcd) (hb _ _ _ _ ?_);refine wpAny_newFunctionEnv_cells S.kind hkind λenv he s1 x=>?_;subst he;refine⟨lim.keeps x.toInCall.keep,codeAny_func ?_⟩;obtain⟨t,ht,hq⟩:=hbody A outer s H vs Q E (hr.deeper _) hsp;have I:Inv (cxOf CX P w K mg base N qual scope f cdv A outer s H E) [] (start N vs) H s1:=zm3 S hr.hd e0 hl r x;refine YX (ht [] s1 (start N vs) H _ I hq) (λfl s' hs=>?_) λe s' hs=>hs
 have fin:∀{σ':St} {H':Hp} {v:V} {u:Value},Inv (cxOf CX P w K mg base N qual scope f cdv A outer s H E) [] σ' H' s'->RelV v u->Q v H'->CE outer P w H s Q u s':=fun {σ' H' v u} J rv q=>⟨v,H',J.os,J.bare,J.base,J.hok,rv,q⟩
 cases fl with|ret u=>obtain⟨v,σ',H',J,rv,q⟩:=hs;exact fin J rv q|next=>obtain⟨σ',H',J,q⟩:=hs;exact fin (v:=V.non) (u:=W5) J rfl q|brk=>obtain⟨_,_,_,q⟩:=hs;exact YW q|cont=>obtain⟨_,_,_,q⟩:=hs;exact YW q
section
variable {X:Cx}{x:Str}{p pos:Pos}{e:Expr}{es:List Expr}{t:TA}{id T:String}{r:List V->Hp->VK->Prop}
def tCB(r:List V->Hp->VK->Prop)(t:TA):TE:=λσ H Q=>t σ H λvs H1=>r vs H1 Q
theorem zcH(hc:zhJ X (.builtin id) r)(hg:Gl X x)(hm:X.mg x=none)(hv:XJ x=some (.builtin id))(ha:PA X (e::es) t)(hn:x ≠ "__name__":=by decide)(hdb:(x==("__debug__":Str))=false:=by decide)
  (he:ZW (e::es) X.env=(false,eval e X.env)::ZW es X.env:=by rfl) (hpl:(backTo pos (ZW es X.env)).any (·.1)=false:=by rfl):PE X (.Call (.Name x p) (e::es) [] pos) (tCB r t):=by
 intro pins s σ H Q I h;refine YV (zeQ I hg hm hv ?_ hn hdb);exact PyProof.Rows.callWith_builtin1 (thn (ha pos pins s σ H _ I h) λus s1 ⟨vs,H1,I1,r1,q1⟩=>hc pins s1 σ H1 vs us Q I1 r1 q1) he hpl
theorem ze4(hc:zhJ X (.type T) r)(hg:Gl X x)(hm:X.mg x=none)(hv:XJ x=some (.type T))(ha:PA X (e::es) t)(hn:x ≠ "__name__":=by decide)(hdb:(x==("__debug__":Str))=false:=by decide)
  (he:ZW (e::es) X.env=(false,eval e X.env)::ZW es X.env:=by rfl) (hpl:(backTo pos (ZW es X.env)).any (·.1)=false:=by rfl):PE X (.Call (.Name x p) (e::es) [] pos) (tCB r t):=by
 intro pins s σ H Q I h;refine YV (zeQ I hg hm hv ?_ hn hdb);exact YR (thn (ha pos pins s σ H _ I h) λus s1 ⟨vs,H1,I1,r1,q1⟩=>hc pins s1 σ H1 vs us Q I1 r1 q1) he hpl
end
end L2
namespace HT
open PySem PyProof.Rows
section
open PySem.SeqAt
open PySem.AutoSeq1 (wpAny_loadPart')
open PySem.MeetsSeq PySem.MeetsSeq2 PySem.MeetsSeq3
end
section
variable {prog:Zs}{w:World}{A:Around}{E:Value->Shared->Prop}{s:Shared}
theorem cat_tup{t b:Addr}{vs ws:List Value}{Q:Value->Shared->Prop}(ht:IsTup s.heap t vs.toArray)(hb:IsTup s.heap b ws.toArray)(hv:vs≠[])
  (h1:ws=[]->Q (.ref t) s) (h2:ws≠[]->Q (.ref s.heap.objs.size) {s with heap:=s.heap.push {cls:=.type "tuple",data:=.seq (vs++ws).toArray}})
  (hsz:vs.length+ws.length<=sizeLine):wpAny (model prog w) A (YT .Add (.ref t) (.ref b)) Q E s:=by
 obtain⟨⟨cls,dd,data,sl⟩,ho,hc,n,hd⟩:=id ht;obtain⟨⟨cls2,dd2,data2,sl2⟩,ho2,hc2,n2,hd2⟩:=id hb;simp only at hc hd hc2 hd2;subst hc hd hc2 hd2
 have e:vs.toArray++ws.toArray=(vs++ws).toArray:=by simp
 by_cases hw:ws=[]
 ·exact concat_meets ⟨_,ho,rfl⟩ ⟨_,ho2,rfl⟩ noFill_tuple_add seq_tuple_add Xe Xn (XB _ _)
   (tuple_addW1 t b vs.toArray ws.toArray n n2 dd dd2 sl sl2 (by simpa using hv) (by simp[hw])) ⟨ho,ho2,h1 hw⟩
 ·refine concat_meets ⟨_,ho,rfl⟩ ⟨_,ho2,rfl⟩ noFill_tuple_add seq_tuple_add Xe Xn (XB _ _)
   (tuple_addW2 t b vs.toArray ws.toArray n n2 dd dd2 sl sl2 (by simpa using hv) (by simpa using hw) (by rw[ZX,ZX];exact hsz)) ⟨ho,ho2,?_⟩
  rw[e];exact h2 hw
def sIx(n d:Nat):Option Int->Nat|none=>d|some v=>if v<0 then(v+(n:Int)).toNat else min v.toNat n
theorem ztw(n d:Nat)(hd:d<=n)(o:Option Int):sIx n d o<=n:=by
 cases o with
 |none=>exact hd
 |some v=>
  show(if v<0 then(v+(n:Int)).toNat else min v.toNat n)<=n
  by_cases hv:v<0
  ·rw[if_pos hv];omega
  ·rw[if_neg hv];exact X7 _ _
theorem clip_one(i:Int)(n d:Nat):max 0 (min (if i<0 then i+(n:Int) else i) (n:Int))=((sIx n d (some i):Nat):Int):=by
 show _=(((if i<0 then(i+(n:Int)).toNat else min i.toNat n):Nat):Int)
 by_cases h:i<0
 ·rw[if_pos h,if_pos h,Int.toNat_eq_max,Int.max_comm,V3 (by omega)]
 ·have h0:=Int.not_lt.mp h
  rw[if_neg h,if_neg h,Int.max_eq_right (Int.le_min.mpr ⟨h0,Int.natCast_nonneg n⟩)]
  rcases Int.le_total i (n:Int) with q | q
  ·rw[V3 q,V2 (Int.toNat_le.mpr q),XE h0]
  ·rw[Int.min_eq_right q,Wg (Int.ofNat_le.mp (by rw[XE h0];exact q))]
theorem znK(v:Int)(n d:Nat):(if v<0 then max (v+(n:Int)) 0 else min v (n:Int))=((sIx n d (some v):Nat):Int):=by
 rw[<-clip_one v n d]
 by_cases hv:v<0
 ·rw[if_pos hv,if_pos hv,V3 (by omega),Int.max_comm]
 ·rw[if_neg hv,if_neg hv,Int.max_eq_right (Int.le_min.mpr ⟨Int.not_lt.mp hv,Int.natCast_nonneg n⟩)]
theorem zlf(lo hi:Option Int)(n:Nat):XG lo hi 1 (n:Int)=(((sIx n 0 lo:Nat):Int),((sIx n n hi:Nat):Int)):=by
 have h1:¬((1:Int)<0):=by omega
 unfold XG;simp only[h1,if_false];refine Prod.ext ?_ ?_
 ·cases lo with|none=>rfl|some v=>exact znK v n 0
 ·cases hi with|none=>rfl|some v=>exact znK v n n
theorem zlC(i j:Nat):Yj (i:Int) (j:Int) 1=j-i:=by
 unfold Yj
 have h1:(1:Int)>0:=by omega
 simp only[h1,if_true,Int.ediv_one]
 split<;>omega
theorem zgf{v:Value}{o:Option Int}{Q:Option Int->Shared->Prop}(p:IsPart v o)(h:Q o s):wpAny (model prog w) A (YG.Slice.slicePartIndex v) Q E s:=by
 cases p with|none=>exact slicePart_none h|int i t=>exact slicePart_int h
theorem zce{sl:Addr}{vl vu:Value}{lo hi:Option Int}{n:Nat}{Q:Int×Int×Nat->Shared->Prop}(hs:s.heap.IsSliceOf sl vl vu .none)(pl:IsPart vl lo)(pu:IsPart vu hi)
    (h:Q (((sIx n 0 lo:Nat):Int),1,sIx n n hi-sIx n 0 lo) s):wpAny (model prog w) A (Wz (.ref sl) (pure (n:Int))) Q E s:=by
  obtain⟨os,hos,hcs,hds⟩:=id hs;unfold Wz YG.Slice.sliceFields;refine Z4 (Z4 (wpAny_field hos hds (x:=vl) rfl (Z4 (wpAny_field hos hds (x:=vu) rfl (Z4 (wpAny_field hos hds (x:=.none) rfl (ZY ?_)))))));refine Z4 (slicePart_none ?_);show wpAny _ _ (if((1:Int)==0)=true then _ else _) _ _ s;rw[if_neg (by decide)];refine Z4 (zgf pl (Z4 (zgf pu (Z4 (ZY ?_)))));show wpAny _ _ (match XG lo hi 1 (n:Int) with | (lo,hi)=>pure (lo,(1:Int),Yj lo hi 1)) _ _ s;rw[zlf lo hi n];show wpAny _ _ (pure (((sIx n 0 lo:Nat):Int),(1:Int),Yj ((sIx n 0 lo:Nat):Int) ((sIx n n hi:Nat):Int) 1)) _ _ s;rw[zlC];exact ZY h
theorem zp5(xs:Array Value)(i k:Nat):((Zy k).filterMap λ(m:Nat)=>xs[((i:Int)+(m:Int)*1).toNat]?).toArray=((xs.toList.drop i).take k).toArray:=by
 have e:(λ(m:Nat)=>xs[((i:Int)+(m:Int)*1).toNat]?)=λm=>xs[i+m]?:=by
  funext m
  have:((i:Int)+(m:Int)*1).toNat=i+m:=by omega
  rw[this]
 rw[e]
 have:=pick_run xs i k
 rw[List.filterMap_map] at this;have e2:((λx=>xs[x]?)∘λx=>i+x)=λm=>xs[i+m]?:=rfl;rw[e2] at this;rw[this]
theorem getItem_tuple_cut{t sl:Addr}{items:Array Value}{vl vu:Value}{lo hi:Option Int}{Q:Value->Shared->Prop}(ht:IsTup s.heap t items)(hs:s.heap.IsSliceOf sl vl vu .none)(pl:IsPart vl lo)(pu:IsPart vu hi)
  (hw:¬(sIx items.size 0 lo=0/\sIx items.size items.size hi=items.size))
  (h:Q (.ref s.heap.objs.size) {s with heap:=s.heap.push {cls:=.type "tuple",data:=.seq ((items.toList.drop (sIx items.size 0 lo)).take (sIx items.size items.size hi-sIx items.size 0 lo)).toArray}})
  (hsz:items.size<=sizeLine):wpAny (model prog w) A (VW (.ref t) (.ref sl)) Q E s:=by
 have htake:sizeOk (.seq ((items.toList.drop (sIx items.size 0 lo)).take (sIx items.size items.size hi-sIx items.size 0 lo)).toArray):=by show((items.toList.drop (sIx items.size 0 lo)).take (sIx items.size items.size hi-sIx items.size 0 lo)).toArray.size<=sizeLine;rw[ZX,Yq,W2,Yz];omega
 have hj:sIx items.size items.size hi<=items.size:=ztw _ _ (Z2 _) hi;obtain⟨os,hos,hcs,hds⟩:=id hs;have hTs:s.TypeIs (.ref sl) "slice":=⟨os,hos,hcs⟩;unfold VW
 try with_reducible refine Ye ?_
 first | refine Z4 (ZY ?_) | skip
 refine Z4 (wpAny_sequenceKey ht.typeIs (by decide) ?_)
 refine Z4 (wpAny_callSpecial?_slot (name:=YH "__getitem__") ht.typeIs Zi
  (W4 Zi ht.typeIs entry_tuple_getitem ?_ (args_tuple_getitem _ _)))
 show wpAny _ _ (XO (.ref t) >>= _) _ _ s;refine Z4 (tupleItemsOf_ ht ?_);refine Z4 (V7 hTs ?_);rw[if_pos (by decide)];refine Z4 (zce hs pl pu ?_)
 have hno:¬((((sIx items.size 0 lo:Nat):Int)==0&&(1:Int)==1&&(sIx items.size items.size hi-sIx items.size 0 lo)==items.size)=true):=by intro q;rw[Z8,Z8] at q;have q1:((sIx items.size 0 lo:Nat):Int)=0:=ZV q.1.1;have q2:sIx items.size items.size hi-sIx items.size 0 lo=items.size:=ZV q.2;exact hw ⟨by omega,by omega⟩
 show wpAny _ _ (if(((sIx items.size 0 lo:Nat):Int)==0&&(1:Int)==1&&(sIx items.size items.size hi-sIx items.size 0 lo)==items.size)=true then _ else _) _ _ s;rw[if_neg hno,zp5]
 first|exact Z4 (m:=Yd _) (XT (ZY ⟨_,rfl,ZY h⟩) htake)|exact Z4 (m:=Yd _) (XT (Z4 (ZY (ZY ⟨_,rfl,ZY h⟩))) htake)|exact Z4 (Z4 (m:=Yd _) (XT (ZY (ZY ⟨_,rfl,ZY h⟩)) htake))|exact Z4 (Z4 (m:=Yd _) (XT (ZY ⟨_,rfl,ZY h⟩) htake))
end
end HT
namespace L2
open PySem PySem.Spec PyProof.Rows
abbrev TO:=St->Hp->(Option Int->Hp->Prop)->Prop
def PO(X:Cx)(e:Option Expr)(t:TO):Prop:=
 ∀ (pins:List (Addr×Obj)) (s:Shared) (σ:St) (H:Hp) (Q:Option Int->Hp->Prop),Inv X pins σ H s->t σ H Q →
  wpAny (model X.prog X.w) X.A (evalPart e X.env) (λu s'=>∃o H',Inv X pins σ H' s'/\IsPart u o/\Q o H') X.xe s
def zq9:TO:=λ_ H Q=>Q none H
section
variable {X:Cx}{e:Expr}{te:TE}{lo hi:Option Expr}{tl th:TO}{pos p2:Pos}
theorem zrI:PO X none zq9:=by intro pins s σ H Q I h;rw[evalPart_none];exact ZY ⟨none,H,I,.none,h⟩
def SlR(X:Cx)(r:V->Option Int->Option Int->Hp->VK->Prop):Prop:=
 ∀ (pins:List (Addr×Obj)) (s:Shared) (σ:St) (H:Hp) (x:V) (v vl vu:Value) (lo hi:Option Int) (sl:Addr) (Q:VK),Inv X pins σ H s->RelV x v->s.heap.IsSliceOf sl vl vu .none->IsPart vl lo->IsPart vu hi->r x lo hi H Q →
  ∃T id,VU (.type T) "__getitem__"=pure (some (.builtin id))/\s.TypeIs v T/\wpAny (model X.prog X.w) X.A (VW v (.ref sl)) (EP X pins σ Q) X.xe s
def tSl(r:V->Option Int->Option Int->Hp->VK->Prop)(te:TE)(tl th:TO):TE:=λσ H Q=>te σ H λx H1=>tl σ H1 λl H2=>th σ H2 λu H3=>r x l u H3 Q
theorem zqd{r:V->Option Int->Option Int->Hp->VK->Prop}(hr:SlR X r)(he:PE X e te)(hl:PO X lo tl)(hu:PO X hi th):PE X (.Subscript e (.Slice lo hi none p2) pos) (tSl r te tl th):=by intro pins s σ H Q I h;refine Subscript_ (thn (he pins s σ H _ I h) λv s1 q_=>?_);obtain⟨x,H1,I1,r1,q1⟩:=q_;refine wpAny_Slice (thn (hl pins s1 σ H1 _ I1 q1) λvl s2 ⟨l,H2,I2,pl,q2⟩=>thn (hu pins s2 σ H2 _ I2 q2) λvu s3 q_=>?_);obtain⟨u,H3,I3,pu,q3⟩:=q_;rw[evalPart_none];refine ZY ?_;have I4:Inv X pins σ H3 {s3 with heap:=s3.heap.push {cls:=.type "slice",data:=.fields #[vl,vu,.none]}}:=I3.kept (t':=s3.toks) λb ob q=>Z0 _ q;obtain⟨T,id,hT,ht,hg⟩:=hr pins {s3 with heap:=s3.heap.push {cls:=.type "slice",data:=.fields #[vl,vu,.none]}} σ H3 x v vl vu l u s3.heap.objs.size Q I4 r1 (Heap.IsSliceOf.new ..) pl pu q3;show wpAny (model X.prog X.w) X.A (subscriptTail e (.Slice lo hi none p2) v (.ref s3.heap.objs.size)) (EP X pins σ Q) X.xe {s3 with heap:=s3.heap.push {cls:=.type "slice",data:=.fields #[vl,vu,.none]}};exact tail_any (ops:=[.ref s3.heap.objs.size,v]) ht hT hg (by with_unfolding_all rfl)
def cutV(xs:List V)(lo hi:Option Int):List V:=(xs.drop (HT.sIx xs.length 0 lo)).take (HT.sIx xs.length xs.length hi-HT.sIx xs.length 0 lo)
theorem zfP(xs:List V)(lo hi:Option Int):(cutV xs lo hi).length<=xs.length:=by
 unfold cutV
 exact ZJ (List.length_take_le' _ _) (by rw[W2];exact Nat.sub_le _ _)
def rSlT(K:Z7):V->Option Int->Option Int->Hp->VK->Prop:=λx lo hi H Q=>∃a xs,x=.ref a/\SqT K H a xs ∧
 ¬(HT.sIx xs.length 0 lo=0/\HT.sIx xs.length xs.length hi=xs.length)/\∀p,H p=none->Q (.ref p) (upd H p (.tup (cutV xs lo hi)))
theorem ztV:SlR X (rSlT X.K):=by
 intro pins s σ H x v vl vu lo hi sl Q I rx hs pl pu h;obtain⟨a,xs,rfl,hx,hw,q⟩:=h;cases rx;obtain⟨its,r,ht,hz⟩:=I.tuple hx
 have hlen:its.toArray.size=xs.length:=by rw[ZX];exact r.length.symm
 refine⟨"tuple",_,Zi.lookup,ht.typeIs,?_⟩
 refine HT.getItem_tuple_cut ht hs pl pu (by rw[hlen];exact hw) ?_ (by rw[hlen];exact hz)
 rw[hlen];refine⟨.ref s.heap.objs.size,_,I.laid (t':=s.toks) (o:=.tup (cutV xs lo hi)) (λb ob q=>Z0 _ q) (Z2 _) ?_,rfl,q _ (I.hok.fresh (Z2 _))⟩;exact⟨ZJ (zfP xs lo hi) hz,_,(r.drop (HT.sIx xs.length 0 lo)).take (HT.sIx xs.length xs.length hi-HT.sIx xs.length 0 lo),zdy.new _ _⟩
def zwg(K:Z7):R2:=λx y H Q=>∃a b xs ys,x=.ref a/\y=.ref b/\SqT K H a xs/\SqT K H b ys/\xs≠[]/\xs.length+ys.length<=sizeLine ∧
 (ys=[]->Q (.ref a) H)/\(ys≠[]->∀p,H p=none->Q (.ref p) (upd H p (.tup (xs++ys))))
theorem Vals.nil_iff{xs:List V}{us:List Value}(r:Vals xs us):us=[]↔xs=[]:=by
 cases r with|nil=>simp|cons _ _=>simp
theorem zrT:OpR X (YT .Add) (zwg X.K):=by
 intro pins s σ H x y v u Q I rx ry h;obtain⟨a,b,xs,ys,rfl,rfl,ha,hb,hx,hz,q1,q2⟩:=h;cases rx;cases ry;obtain⟨its,r1,p1,_⟩:=I.tuple ha;obtain⟨its2,r2,p2,_⟩:=I.tuple hb
 refine HT.cat_tup p1 p2 (λz=>hx (r1.nil_iff.mp z)) (λz=>⟨.ref a,H,I,rfl,q1 (r2.nil_iff.mp z)⟩) (λz=>?_) (by rw[<-r1.length,<-r2.length];exact hz)
 refine⟨.ref s.heap.objs.size,_,I.laid (t':=s.toks) (o:=.tup (xs++ys)) (λb ob q=>Z0 _ q) (Z2 _) ?_,rfl,q2 (λw=>z (r2.nil_iff.mpr w)) _ (I.hok.fresh (Z2 _))⟩
 exact⟨by rw[ZS];exact hz,_,r1.append r2,zdy.new _ _⟩
end
def ixN(n:Nat)(i:Int):Option Nat:=if 0<=i then(if i<n then some i.toNat else none) else if -(n:Int)<=i then some (i+n).toNat else none
def atI{α:Type}(xs:List α)(i:Int):Option α:=(ixN xs.length i).bind λj=>xs[j]?
theorem zna{n:Nat}{i:Int}{j:Nat}(h:ixN n i=some j):seqIndex? i n=some j/\j<n/\-(n:Int)<=i/\i<n:=by
 unfold ixN at h
 by_cases h0:0<=i
 ·rw [if_pos h0] at h
  by_cases h1:i<n
  ·rw [if_pos h1] at h
   have e:i.toNat=j:=ZZ h;exact⟨by rw[seqIndex_of h0 h1,e],by omega,by omega,h1⟩
  ·rw[if_neg h1] at h;cases h
 ·rw [if_neg h0] at h
  by_cases h1:-(n:Int)<=i
  ·rw [if_pos h1] at h
   have e:(i+n).toNat=j:=ZZ h;exact⟨by rw[seqIndex_neg (by omega) h1,e],by omega,h1,by omega⟩
  ·rw[if_neg h1] at h;cases h
theorem zlT{α:Type}{xs:List α}{i:Int}{v:α}(h:atI xs i=some v):∃j,seqIndex? i xs.length=some j/\xs[j]?=some v/\j<xs.length/\-(xs.length:Int)<=i/\i<xs.length:=by
 unfold atI at h
 cases e:ixN xs.length i with|none=>rw[e] at h;cases h|some j=>rw[e] at h;obtain⟨h1,h2,h3,h4⟩:=zna e;exact⟨j,h1,h,h2,h3,h4⟩
def zd2(b:Expr):Prop:=∀o i,subscripted b false o i=operate [o,i] (VW o i)
def IxR(X:Cx)(r:R2):Prop:=
 ∀ (value slice:Expr) (pins:List (Addr×Obj)) (s:Shared) (σ:St) (H:Hp) (x y:V) (v u:Value) (Q:VK),Inv X pins σ H s->RelV x v->RelV y u->r x y H Q →
  subscripted slice false v u=operate [v,u] (VW v u)->wpAny (model X.prog X.w) X.A (subscriptTail value slice v u) (EP X pins σ Q) X.xe s
def MtR(X:Cx)(id:String)(r:V->List V->Hp->VK->Prop):Prop:=
 ∀ (pins:List (Addr×Obj)) (s:Shared) (σ:St) (H:Hp) (x:V) (xs:List V) (v:Value) (us:List Value) (Q:VK),Inv X pins σ H s->RelV x v->Vals xs us->r x xs H Q →
  wpAny (model X.prog X.w) X.A (call (.builtin id) (v::us)) (EP X pins σ Q) X.xe s
section
variable {X:Cx}{a b:Expr}{ta tb:TE}{pos:Pos}
theorem zov{r:R2}(hr:IxR X r)(ha:PE X a ta)(hb:PE X b tb)(hs:zd2 b):PE X (.Subscript a b pos) (tOp r ta tb):=by intro pins s σ H Q I h;exact Subscript_ (binT ha hb I h λv u s2 x y H2 I2 rx ry q=>hr a b pins s2 σ H2 x y v u Q I2 rx ry q (hs _ _))
def rIxL(K:Z7):R2:=λx y H Q=>∃p xs i v,x=.ref p/\y=.int i/\SqL K H p xs/\atI xs i=some v/\Q v H
def rIxT(K:Z7):R2:=λx y H Q=>∃p xs i v,x=.ref p/\y=.int i/\SqT K H p xs/\atI xs i=some v/\Q v H
theorem zod:IxR X (rIxL X.K):=by
 intro value slice pins s σ H x y v u Q I rx ry h hs;obtain⟨p,xs,i,z,rfl,rfl,hq,he,q⟩:=h;cases rx;obtain⟨t,rfl⟩:=ry;obtain⟨its,r,pl,hz⟩:=I.list hq;obtain⟨j,h1,h2,h3,h4,h5⟩:=zlT he;obtain⟨w,ew,rw'⟩:=r.get h2;have hl:=r.length;have hn:=zgE;have fin:EP X pins σ Q w s:=⟨z,H,I,rw',q⟩
 by_cases h0:0<=i
 ·have hj:i.toNat=j:=by
   rw[seqIndex_of h0 h5] at h1;exact ZZ h1
  exact item_listR pl.isList h0 (by omega) (by rw[hj];simpa using ew) fin hs
 ·have hj:(i+(its.toArray.size:Int)).toNat=j:=by
   rw[seqIndex_neg (by omega) h4] at h1;rw[ZX,<-hl];exact ZZ h1
  exact subscriptTail_builtinR (x:=w) pl.isList.typeIs slot_list_getitem.lookup
   (wpAny_getItem_list_neg (Q:=λr s'=>r=w/\EP X pins σ Q r s') pl.isList (by omega) (by rw[ZX]<;>omega) (by omega) (by rw[hj];simpa using ew) ⟨rfl,fin⟩) hs
theorem zku:IxR X (rIxT X.K):=by
 intro value slice pins s σ H x y v u Q I rx ry h hs;obtain⟨p,xs,i,z,rfl,rfl,hq,he,q⟩:=h;cases rx;obtain⟨t,rfl⟩:=ry;obtain⟨its,r,pl,hz⟩:=I.tuple hq;obtain⟨j,h1,h2,h3,h4,h5⟩:=zlT he;obtain⟨w,ew,rw'⟩:=r.get h2;have hl:=r.length;have hn:=zgE;have fin:EP X pins σ Q w s:=⟨z,H,I,rw',q⟩
 exact subscriptTail_builtinR (x:=w) pl.typeIs slot_tuple_getitem.lookup
  (getItem_tuple (j:=j) (Q:=λr s'=>r=w/\EP X pins σ Q r s') pl (by omega) (by omega) (by rw[ZX,<-hl];exact h1) (by simpa using ew) ⟨rfl,fin⟩) hs
theorem zlr(its:List Value)(n j:Nat)(u:Value):Ym (·.setIfInBounds j u) {cls:=.type "list",data:=.seq its.toArray n}={cls:=.type "list",data:=.seq (its.set j u).toArray n}:=by simp[Ym]
theorem Inv.lst{pins:List (Addr×Obj)}{σ:St}{H:Hp}{s:Shared}{p:Addr}{xs:List V}(I:Inv X pins σ H s)(h:H p=some (.lst xs)):
  ∃(its:List Value) (n:Nat),Vals xs its/\s.heap.get? p=some {cls:=.type "list",data:=.seq its.toArray n}/\xs.length<=sizeLine:=by
 obtain⟨z,its,n,r,e⟩:=I.hok p _ h;exact⟨its,n,r,e,z⟩
theorem Inv.lstUpd{pins:List (Addr×Obj)}{σ:St}{H:Hp}{s:Shared}{p:Addr}{xs ys:List V}{its its':List Value}{n n':Nat}{f:Obj->Obj}(I:Inv X pins σ H s)(h:H p=some (.lst xs))
  (ho:s.heap.get? p=some {cls:=.type "list",data:=.seq its.toArray n}) (hf:f {cls:=.type "list",data:=.seq its.toArray n}={cls:=.type "list",data:=.seq its'.toArray n'}) (r:Vals ys its') (hz:ys.length<=sizeLine) (t:Nat):
  Inv X pins σ (upd H p (.lst ys)) {s with heap:=s.heap.update p f,toks:=t}:=by
 have e:(s.heap.update p f).get? p=some {cls:=.type "list",data:=.seq its'.toArray n'}:=by rw[W7 f ho (by rw[hf]<;>rfl),hf]
 refine I.write (x:=p) (e:=p) (by rw[h];trivial) (.inl rfl) (λb u hb q=>(Yv _ _ (Yw hb)).trans q) ⟨_,e⟩ ?_
 exact⟨hz,its',n',r,e⟩
def zvz:V->V->V->Hp->(Hp->Prop)->Prop:=λo i v H Q=>∃p xs k j,o=.ref p/\i=.int k/\H p=some (.lst xs)/\ixN xs.length k=some j/\Q (upd H p (.lst (xs.set j v)))
theorem zoO:PSet X zvz:=by
 intro pins s σ H o i v ov iv u Q I ro ri rv h;obtain⟨p,xs,k,j,rfl,rfl,hp,hj,q⟩:=h;cases ro;obtain⟨t,rfl⟩:=ri;obtain⟨its,n,r,ho,hz⟩:=I.lst hp;obtain⟨h1,h2,h3,h4⟩:=zna hj;have hl:=r.length;have hn:=zgE
 have I':Inv X pins σ (upd H p (.lst (xs.set j v))) {s with heap:=s.heap.update p (Ym (·.setIfInBounds j u))}:=I.lstUpd hp ho (zlr its n j u) (r.set rv j) (by rw[WP];exact hz) s.toks
 by_cases h0:0<=k
 ·have hk:k.toNat=j:=by
   rw[seqIndex_of h0 h4] at h1;exact ZZ h1
  exact PySem.W.ki_setAt ho h0 (by omega) (by rw[ZX,<-hl];exact h4) (by rw[hk];exact⟨_,I',q⟩)
 ·have hk:(k+(its.toArray.size:Int)).toNat=j:=by
   rw[seqIndex_neg (by omega) h3] at h1;rw[ZX,<-hl];exact ZZ h1
  exact PySem.W.ki_setBack ho (by omega) (by rw[ZX,<-hl];exact h3) (by omega) (by rw[hk];exact⟨_,I',q⟩)
theorem zis(lo hi:Option Int)(n:Nat):(sliceBounds lo hi none n).1=((HT.sIx n 0 lo:Nat):Int)/\(sliceBounds lo hi none n).2.1=((HT.sIx n n hi:Nat):Int)/\(sliceBounds lo hi none n).2.2=1:=by
 refine⟨?_,?_,rfl⟩
 ·cases lo with|none=>rfl|some i=>exact HT.clip_one i n 0
 ·cases hi with|none=>rfl|some i=>exact HT.clip_one i n n
theorem zhp(its:List Value)(lo hi:Option Int):slicePick its.toArray lo hi none=((its.drop (HT.sIx its.length 0 lo)).take (HT.sIx its.length its.length hi-HT.sIx its.length 0 lo)).toArray:=by
 obtain⟨h1,h2,h3⟩:=zis lo hi its.toArray.size;unfold slicePick;rw[h1,h2,h3]
 simp only[sliceRange_one,pick_run,ZX]<;>rfl
def rSlL(K:Z7):V->Option Int->Option Int->Hp->VK->Prop:=λx lo hi H Q=>∃a xs,x=.ref a/\SqL K H a xs/\∀p,H p=none->Q (.ref p) (upd H p (.lst (cutV xs lo hi)))
theorem zrV:SlR X (rSlL X.K):=by
 intro pins s σ H x v vl vu lo hi sl Q I rx hs pl pu h;obtain⟨a,xs,rfl,hx,q⟩:=h;cases rx;obtain⟨its,r,ht,hz⟩:=I.list hx;have hlen:=r.length;refine⟨"list",_,slot_list_getitem.lookup,ht.isList.typeIs,?_⟩
 refine wpAny_getItem_list_slice ht.isList hs pl pu .none (by simp) ?_ (by rw[ZX]<;>omega)
 rw[zhp,<-hlen];refine⟨.ref s.heap.objs.size,_,I.laid (t':=s.toks) (o:=.lst (cutV xs lo hi)) (λb ob q=>Z0 _ q) (Z2 _) ?_,rfl,q _ (I.hok.fresh (Z2 _))⟩;exact⟨ZJ (zfP xs lo hi) hz,_,0,(r.drop (HT.sIx xs.length 0 lo)).take (HT.sIx xs.length xs.length hi-HT.sIx xs.length 0 lo),Zw _ rfl⟩
theorem zhP:zhJ X (.type "list") (λxs H Q=>∃p ys,xs=[.ref p]/\(SqL X.K H p ys\/SqT X.K H p ys)/\∀l,H l=none->Q (.ref l) (upd H l (.lst ys))):=by
 intro pins s σ H xs us Q I r h;obtain⟨p,ys,rfl,hq,q⟩:=h;obtain⟨u,rfl,rx⟩:=zjx r;cases rx
 have fin:∀(its:List Value),Vals ys its->ys.length<=sizeLine->∀(h':Heap) (c':Nat),(∀b o',s.heap.get? b=some o'->h'.get? b=some o') →
   h'.get? s.heap.objs.size=some {cls:=.type "list",dict:=none,data:=.seq its.toArray c',slots:=#[]}->EP X pins σ Q (.ref s.heap.objs.size) {s with heap:=h'}:=λits r' hz h' c' kp e=>
  ⟨.ref s.heap.objs.size,_,I.laid (t':=s.toks) kp (Z2 _) (show zcj X.prog X.w _ h' _ (.lst ys) from⟨hz,its,c',r',e⟩),rfl,q _ (I.hok.fresh (Z2 _))⟩
 rcases hq with hq | hq
 ·obtain ⟨its,r',pl,hz⟩:=I.list hq
  have hlen:=r'.length;obtain⟨o,ho,hc,n,hd⟩:=pl.isList
  exact call_list_seq p (.inl rfl) ho hc hd (λh' c' kp e=>fin its r' hz h' c' kp e) (by simp only[ZX]<;>omega)
 ·obtain ⟨its,r',pl,hz⟩:=I.tuple hq
  have hlen:=r'.length;obtain⟨o,ho,hc,n,hd⟩:=pl
  exact call_list_seq p (.inr rfl) ho hc hd (λh' c' kp e=>fin its r' hz h' c' kp e) (by simp only[ZX]<;>omega)
theorem zdN:zhJ X (.type "tuple") (λxs H Q=>∃p ys,xs=[.ref p]/\((SqL X.K H p ys/\∀l,H l=none->Q (.ref l) (upd H l (.tup ys)))\/(SqT X.K H p ys/\Q (.ref p) H))):=by
 intro pins s σ H xs us Q I r h;obtain⟨p,ys,rfl,h⟩:=h;obtain⟨u,rfl,rx⟩:=zjx r;cases rx
 rcases h with⟨hq,q⟩|⟨hq,q⟩
 ·obtain ⟨its,r',pl,hz⟩:=I.list hq
  have hlen:=r'.length
  refine call_tuple_list pl.isList (λh' kp=>?_) (by simp only[ZX]<;>omega)
  have I1:Inv X pins σ H {s with heap:=h'}:=I.kept (t':=s.toks) kp
  have I2:Inv X pins σ (upd H h'.objs.size (.tup ys)) {s with heap:=h'.push {cls:=.type "tuple",data:=.seq its.toArray}}:=I1.laid (t':=s.toks) (λb o e=>Z0 _ e) (Z2 _) (show zcj X.prog X.w _ _ _ (.tup ys) from⟨hz,its,r',zdy.new _ _⟩)
  exact⟨.ref h'.objs.size,_,I2,rfl,q _ (I1.hok.fresh (Z2 _))⟩
 ·obtain ⟨its,r',pl,hz⟩:=I.tuple hq
  exact call_tuple_same pl ⟨.ref p,H,I,rfl,q⟩
def tyV(K:Z7)(T:String)(x:V)(H:Hp):Prop:=match x with
 |.str _=>T="str"|.int _=>T="int"
 | .ref p=>(T="list"/\∃xs,SqL K H p xs)\/(T="tuple"/\∃xs,SqT K H p xs)\/
   (T="dict"/\((∃kvs,H p=some (.dK kvs))\/∃kvs,Rd H p (.dT kvs)))\/(T="set"/\∃S n,H p=some (.set S n))
 |_=>False
theorem ztj{pins:List (Addr×Obj)}{σ:St}{H:Hp}{s:Shared}{T:String}{x:V}{v:Value}(I:Inv X pins σ H s)(r:RelV x v)(ty:tyV X.K T x H):
  s.TypeIs v T/\∀a,v=.ref a->∃ob,s.heap.get? a=some ob/\ob.dict=none:=by
 cases x with
 |str z=>
  obtain⟨t,rfl⟩:=r
  cases (show T="str" from ty)
  exact⟨typeIs_str s z t,λ_ e=>nomatch e⟩
 |int i=>
  obtain⟨t,rfl⟩:=r
  cases (show T="int" from ty)
  exact⟨typeIs_int s i t,λ_ e=>nomatch e⟩
 | ref p=>
  cases r
  rcases ty with⟨rfl,xs,hq⟩|⟨rfl,xs,hq⟩|⟨rfl,hk⟩|⟨rfl,S,n,hk⟩
  ·obtain ⟨its,_,pl,_⟩:=I.list hq
   refine⟨pl.isList.typeIs,λa e=>?_⟩;cases e;obtain⟨o,n,e,c,hd,_⟩:=pl;exact⟨o,e,hd⟩
  ·obtain ⟨its,_,⟨o,e,c,_⟩,_⟩:=I.tuple hq
   refine⟨⟨o,e,c⟩,λa e2=>?_⟩;cases e2;exact⟨o,e,I.tupleB hq o e⟩
  ·have z:∃o,s.heap.get? p=some o/\o.ExactDict:=by
    rcases hk with⟨kvs,hk⟩|⟨kvs,hk⟩
    ·obtain ⟨_,_,_,_,o,_,_,e,ex,_⟩:=I.hok p _ hk
     exact⟨o,e,ex⟩
    ·obtain ⟨_,_,_,_,o,_,_,e,ex,_⟩:=(show zcj X.prog X.w H s.heap p (.dT kvs) from hk.ok I.hok)
     exact⟨o,e,ex⟩
   obtain⟨o,e,ex⟩:=z;refine⟨⟨o,e,ex.1⟩,λa e2=>?_⟩;cases e2;exact⟨o,e,ex.2.1⟩
  ·obtain ⟨o,_,_,_,e,ex,_⟩:=I.hok p _ hk
   refine⟨⟨o,e,ex.1⟩,λa e2=>?_⟩;cases e2;exact⟨o,e,ex.2.1⟩
 |_=>exact YW ty
def tBM(K:Z7)(T:String)(r:V->List V->Hp->VK->Prop)(to:TE)(t:TA):TE:=λσ H Q=>to σ H λx H1=>tyV K T x H1/\t σ H1 λxs H2=>r x xs H2 Q
variable {o e:Expr}{es:List Expr}{to:TE}{t:TA}{name:Str}{apos cpos:Pos}{T id:String}{r:V->List V->Hp->VK->Prop}
theorem zro(pa:PlainAttrs T)(slot:Slot T name id)(hty:typeOf (.builtin id)=pure (.type "method_descriptor"))(hm:MtR X id r)(ho:PE X o to)(ha:PA X (e::es) t)
  (hbase:YQ o name X.env (eval o X.env)=eval o X.env:=by rfl)
  (hfew:((backTo cpos (ZW (e::es) X.env)).all (λx=>!x.1)&&(Yy cpos (Y9 [] X.env)).all (λx=>x.1.isSome)
   && decide ((e::es).length+([]:List XU).length+(if([]:List XU).isEmpty then 0 else 1)<30))=true:=by rfl)
  (hline:(apos.endLine==cpos.line)=true:=by rfl) (hs:ZW (e::es) X.env=(false,eval e X.env)::ZW es X.env:=by rfl) (hplain:(backTo cpos (ZW es X.env)).any (·.1)=false:=by rfl):
  PE X (.Call (.Attribute o name apos) (e::es) [] cpos) (tBM X.K T r to t):=by
 intro pins s σ H Q I h;refine wpAny_Call_method_late hbase hfew hline rfl (thn (ho pins s σ H _ I h) λv s1 q_=>?_);obtain⟨x,H1,I1,r1,ty,q1⟩:=q_;obtain⟨h1,h2⟩:=ztj I1 r1 ty;refine⟨T,id,pa,slot,hty,h1,h2,?_⟩;have hA:=ha cpos pins s1 σ H1 _ I1 q1;rw[hs] at hA⊢
 refine Calls.callWith_builtin (by show(false||(backTo cpos (ZW es X.env)).any (·.1))=false;rw[hplain]<;>rfl) (Calls.evalArgs_plain ?_)
 exact thn hA λus s2 ⟨vs,H2,I2,r2,q2⟩=>hm pins s2 σ H2 x vs v us Q I2 r1 r2 q2
end
def MtM(X:Cx)(id:String)(r:V->List V->Hp->VK->Prop):Prop:=
 ∀ (pins:List (Addr×Obj)) (s:Shared) (σ:St) (H:Hp) (x:V) (xs:List V) (v:Value) (us:List Value) (Q:VK),Inv X pins σ H s->RelV x v->Vals xs us->r x xs H Q →
  wpAny (model X.prog X.w) X.A (call (.builtin id) (v::us)) (EP X pins σ Q) X.xe s
theorem Vals.one:∀{x:V} {us:List Value},Vals [x] us->∃u,us=[u]/\RelV x u|_,_,.cons r .nil=>⟨_,rfl,r⟩
section
variable {X:Cx}{pins:List (Addr×Obj)}{σ:St}{H:Hp}{s:Shared}{l b:Addr}{xs ys zs:List V}
theorem Inv.lset{its its':List Value}{n:Nat}{f:Array Value->Array Value}{t':Nat}(I:Inv X pins σ H s)(hH:H l=some (.lst xs))
  (e:s.heap.get? l=some {cls:=.type "list",data:=.seq its.toArray n}) (hf:f its.toArray=its'.toArray) (hv:Vals ys its') (hz:ys.length<=sizeLine):
  Inv X pins σ (upd H l (.lst ys)) {s with heap:=s.heap.update l (Ym f),toks:=t'}:=by
 have q:=PySem.IsL.update e f;rw[hf] at q
 refine I.write (x:=l) (e:=l) (by rw[hH];exact trivial) (.inl rfl) (λb' u hb hu=>(Yv s.heap (Ym f) (Yw hb)).trans hu) ⟨_,q⟩ ?_
 exact⟨hz,its',_,hv,q⟩
theorem Inv.lnew{its:List Value}{t':Nat}(I:Inv X pins σ H s)(hv:Vals ys its)(hz:ys.length<=sizeLine):
  Inv X pins σ (upd H s.heap.objs.size (.lst ys)) {s with heap:=s.heap.push {cls:=.type "list",data:=.seq its.toArray},toks:=t'}:=
 I.laid (λ_ _ q=>Z0 _ q) (Z2 _) ⟨hz,its,0,hv,Zw _ rfl⟩
theorem Inv.fresh(I:Inv X pins σ H s):H s.heap.objs.size=none:=I.hok.fresh (Z2 _)
theorem Inv.lstM(I:Inv X pins σ H s)(hH:H l=some (.lst xs)):xs.length<=sizeLine/\∃(its:List Value) (n:Nat),Vals xs its/\xs.length=its.length/\s.heap.get? l=some {cls:=.type "list",data:=.seq its.toArray n}:=by obtain⟨z,its,n,r,e⟩:=I.hok l _ hH;exact⟨z,its,n,r,r.length,e⟩
theorem zpw{n:Nat}(h:n<=sizeLine):Yc n=false:=by unfold Yc;exact decide_eq_false (by omega)
end
section
variable {X:Cx}
def zsi:V->List V->Hp->VK->Prop:=λx vs H Q=>∃l xs y,x=.ref l/\vs=[y]/\H l=some (.lst xs)/\xs.length<sizeLine/\Q .non (upd H l (.lst (xs++[y])))
theorem zoo:MtM X "list.append" zsi:=by
 intro pins s σ H x vs v us Q I rx rv h;obtain⟨l,xs,y,rfl,rfl,hH,hz,q⟩:=h;cases rx;obtain⟨u,rfl,ru⟩:=rv.one;obtain⟨z,its,n,r,hl,e⟩:=I.lstM hH
 refine Xr F.slot_list_append ⟨_,e,rfl⟩ F.entry_list_append (F.args_list_append_2 _ _) (PySem.list_append l its.toArray n u (by rw[ZX];omega)) ⟨e,?_⟩
 refine⟨.non,_,I.lset (its':=its++[u]) hH e (by simp) (r.append (.cons ru .nil)) ?_,rfl,q⟩;rw[ZS,List.length_singleton];omega
end
section
variable {prog:Zs}{w:World}{A:Around}{E:Value->Shared->Prop}{s:Shared}
end
section
variable {X:Cx}
end
end L2
namespace Att
open PySem PySem.W PySem.Calls PyProof.Rows
theorem ze0{P:Params}{h:Heap}:∀(ns:List Int) (vs:List Value),WellAll P h vs (ns.map WData.int)->IntsAre vs ns:=by
 intro ns
 induction ns with
 |nil=>intro vs w;rw[List.map_nil] at w;cases w;exact .nil
 | cons n ns ih=>
  intro vs w;rw[ZB] at w
  cases w with|cons a b=>cases a;exact .cons _ _ (ih _ b)
theorem zm2{l:OpenLaw}{n:Nat}(hn:l.most=some n){P:Params}{h:Heap}{args:List WData}{vals:List Value}
  (hpre:l.row.toRowW.claim.pre args=true) (hwl:WellAll P h vals args):
  ∃a vs ns,vals=[YM a]/\args=[WData.list (ns.map WData.int)]/\h.get? a=some {cls:=.type "list",data:=.seq vs.toArray}/\IntsAre vs ns/\ns.length<=n:=by
 have hsh:WShape.hasAll [] args [.list .int]=true:=(pre_splitW hpre).1;have hc:l.pre.holds [] {args:=args}=true:=(pre_splitW hpre).2;obtain⟨d,r,rfl,h1,h2⟩:=hasAllW_cons hsh;obtain rfl:=hasAllW_nil h2;obtain⟨xs,rfl,h3⟩:=hasW_list h1;obtain⟨ns,rfl⟩:=items_int h3
 have hlen:ns.length<=n:=by
  unfold OpenLaw.pre at hc
  have h4:(WTm.not (.lt (.lit (.int (n:Int))) (.len (.arg 0)))).holds [] {args:=[.list (ns.map .int)]}=true:=by have h4:=(holds_andW hc).1;rw[hn] at h4;exact h4
  have h5:=condW_of h4 (w_not (w_lt w_lit (w_len_list (w_arg rfl))));rw[Z3] at h5;refine Nat.le_of_not_lt λq=>?_
  have q':(n:Int)<((ns.length:Nat):Int):=by omega
  first|(rw[decide_eq_true q'] at h5;exact absurd h5 (by decide))|(simp at h5;omega)
 cases hwl with
 |cons w1 w2=>
  cases w2
  cases w1 with|list ho hall=>exact⟨_,_,ns,rfl,rfl,ho,ze0 ns _ hall,hlen⟩
theorem znw(l:OpenLaw)(args:List WData):l.row.toRowW.claim.post args (.bool true) args=true:=
 postW_of (r:=l.row.toRowW) (X:=(true==true))
  (show WShape.has [] (.bool true) .bool=true by first | rfl | decide | simp[WShape.has,WShape.arms,WShape.armsAll])
  (show(WTm.eq .res (.lit (.bool true))).value [] {args:=args,res:=some (.bool true),after:=args}=some (.bool (true==true)) from w_eq_bool (w_res rfl) w_lit) rfl
theorem attach_call{l:OpenLaw}{n:Nat}{q:Zs}{loose:List Str}{XP:(Str->Option Value)->Heap->Prop}{YP:World->Heap->Prop}{d:DefRec}
  (hn:l.most=some n) (hdf:d.params.defaults=[])
  (call:∀(w:World) (s₀ s₁:Shared) (mg mb:Str->Option Value) (fa:Addr) (o:Obj) (pm cd doc:Value) (a:Addr) (vs:List Value) (ns:List Int),
   Ground q loose [] XP w s₀ mg mb s₁.heap->YP w s₁.heap →
   s₁.heap.get? fa=some o->o.data=.func (docDef d.name d.params d.body d.scope pm cd doc)->s₁.heap.CodeRec cd d.name->mg d.name=some (.ref fa) →
   s₁.heap.get? a=some {cls:=.type "list",data:=.seq vs.toArray}->IntsAre vs ns->ns.length<=n->s₁.gens=#[] →
   Xg (model l.prog w) VV (.call (.ref fa) ⟨[.ref a],[]⟩) (λr s'=>r=.ok (.ret (.bool true))/\OldK s₁.heap s'.heap/\s'.os=s₁.os/\Ws s'.gens) s₁):
  WalkO q loose XP YP l.row.toRowW d [] (λf vs=>PySem.call f vs):=by
 intro w s₀ s₁ mg mb G Y fa o pm cd doc dV kV ho hd hcd hD hmg hg args vals as hpre hlay hrd hwl hlo;obtain rfl:dV=.none:=Dflts.none hD hdf;obtain rfl:kV=.none:=Dflts.noKw hD;obtain⟨a,vs,ns,rfl,rfl,hobj,hints,hlen⟩:=zm2 hn hpre hwl;refine enter_call (WJ (call w s₀ s₁ mg mb fa o pm cd doc a vs ns G Y ho (fd_plain hd) hcd hmg hobj hints hlen hg) λr s' hq=>?_);obtain⟨rfl,h2,h3,h4⟩:=hq;exact⟨.inl ⟨.bool true,.bool true,[],rfl,λ_=>rfl,.bool true,znw l _,λ_=>⟨List.Pairwise.nil,λ_ hm=>(nomatch hm)⟩⟩,h2,h3,h4⟩
section
variable {prog:Zs}{w:World}{A:Around}{E:Value->Shared->Prop}{s:Shared}{K:Frag}
end
end Att
namespace L2
open PySem PySem.Spec PyProof.Rows
theorem ziL:∀{vs:List Value} {ns:List Int},IntsAre vs ns->Vals (ns.map V.int) vs|_,_,.nil=>.nil|_,_,.cons n t h=>.cons ⟨t,rfl⟩ (ziL h)
def Only(H:Hp):Prop:=∀b,H b=none\/∃o xs,H b=some (.frz o (.lst xs))
theorem law_call{P:Zs}{w:World}{K:Z7}{mg mb:Str->Option Value}{CX:CXT}{k:Nat}{fa a:Addr}{fd:FuncData}{x:Str}{sp:Sp}{s₁:Shared}{vs:List Value}{ns:List Int}
  (KX:K.In s₁.heap) (hns:s₁.heap.Ns ZQ mg) (hb:s₁.heap.Ns builtinsNs mb) (hbb:∀x:Str,x ≠ "__name__"->mb x=XJ x) (hlim:s₁.heap.NoLimit) (hg:s₁.gens=#[])
  (ha:s₁.heap.get? a=some {cls:=.type "list",data:=.seq vs.toArray}) (hi:IntsAre vs ns) (hl:ns.length<=sizeLine) (hr:Room k VV)
  (F:∀base:Heap,K.In base->base.Ns ZQ mg->FnOk P w K mg base CX k fa fd [x] sp) (hbind:∀(s:Shared) (u:Value),V8 s fd ⟨[u],[]⟩ [(x,u)])
  (hsp:∀H:Hp,Only H->SqL K H a (ns.map V.int)->sp [.ref a] H (λv _=>v=.bl true) λ_ _ _=>False)
  (hCX:∀H e s',CX [] H s₁ (λ_ _ _=>False) e s'->False):
  Xg (model P w) VV (.call (.ref fa) ⟨[.ref a],[]⟩) (λr s'=>r=.ok (.ret (.bool true))/\OldK s₁.heap s'.heap/\s'.os=s₁.os/\Ws s'.gens) s₁:=by
 have rv:=ziL hi;have lenV:=hi.length
 have core:∀H:Hp,Only H->SqL K H a (ns.map V.int)->HOk P w H s₁.heap->(∀b,H b≠none->b=a)->(H a≠none->K.lookup a=none) →
   Xg (model P w) VV (.call (.ref fa) ⟨[.ref a],[]⟩) (λr s'=>r=.ok (.ret (.bool true))/\OldK s₁.heap s'.heap/\s'.os=s₁.os/\Ws s'.gens) s₁:=by
  intro H hO hS hok hA hK;have base_of:∀{b:Addr} {o:Obj},s₁.heap.get? b=some o->H b=none->(hidT s₁.heap H).get? b=some o:=λe n=>zp7 e n
  have noA:∀{b:Addr} {o:Obj} {es:Array DictEntry} {ep:Nat},s₁.heap.get? b=some o->o.data=.dict es ep->H b=none:=λ{b o es ep} e d=>by
   cases q:H b with
   |none=>rfl
   |some u=>
    have e':b=a:=hA b (by rw[q];simp)
    subst e'
    rw[ha] at e;cases e
    have d':Data.seq vs.toArray _=Data.dict es ep:=d;cases d'
  have nsK:∀{b:Addr} {m:Str->Option Value},s₁.heap.Ns b m->(hidT s₁.heap H).Ns b m:=λ{b m} ⟨o,es,ep,e,d,r⟩=>⟨o,es,ep,base_of e (noA e d),d,r⟩
  have hKb:K.In (hidT s₁.heap H):=λb o e=>base_of (KX b o e) (by
   cases q:H b with
   |none=>rfl
   |some u=>
    have e':b=a:=hA b (by rw[q];simp)
    subst e'
    rw[hK (by rw[q];simp)] at e;cases e)
  have hM:Mod K mg (hidT s₁.heap H):=⟨hKb,nsK hns,⟨mb,nsK hb,hbb⟩,let ⟨mc,h1,h2⟩:=hlim;⟨mc,nsK h1,h2⟩⟩
  have e0:Env0 P w K mg (hidT s₁.heap H) VV [] s₁ H:=⟨rfl,hM,λb o e=>zrS e,Nat.le_of_eq (zmm _ _),trivial,λb hb=>absurd (show b∈([]:List Addr) from hb) (by simp),hok,.of_eq hg⟩;refine WJ ((F _ hKb (nsK hns)).run VV [] s₁ H ⟨[.ref a],[]⟩ [.ref a] [.ref a] _ _ hr e0 (hbind s₁ (.ref a)) (.cons rfl .nil) (hsp H hO hS)) λr s' h=>?_
  cases r with
  |error e=>exact(hCX H e s' h).elim
  | ok fl=>
   cases fl with
   |next=>exact YW h|brk=>exact YW h|cont=>exact YW h
   | ret u=>
    obtain⟨v,H',os,bare,un,hok',r',q⟩:=h;have q':v=.bl true:=q;subst q';obtain rfl:u=Xt true:=r';refine⟨rfl,OldK.of_keep λb o e=>?_,os,bare⟩
    cases q:H b with
    |none=>exact un.keep b o e q (by intro z;exact absurd (show b∈([]:List Addr) from z) (by simp)) (by simp)
    | some u=>
     rcases hO b with z|⟨ob,xs,z⟩
     ·rw[q] at z;cases z
     ·have z2:=un.frzs b ob _ z
      obtain⟨e1,_⟩:=hok b _ z;obtain⟨e2,_⟩:=hok' b _ z2
      rw[e] at e1;cases e1
      exact e2
 cases hk:K.lookup a with
 |some o=>
  have e:=KX a o hk;rw[ha] at e;cases e
  refine core (λ_=>none) (λ_=>.inl rfl) (.inr ⟨_,vs.toArray,_,hk,rfl,rfl,rfl,by rw[ZX,lenV];exact hl,by simpa using rv⟩) (λb u z=>by have z':(none:Option HO)=some u:=z;cases z') (λb z=>absurd rfl z) λz=>absurd rfl z
 | none=>
  refine core (λb=>if b=a then some (.frz {cls:=.type "list",data:=.seq vs.toArray} (.lst (ns.map V.int))) else none) (λb=>?_) (.inl (.inr ⟨{cls:=.type "list",data:=.seq vs.toArray},if_pos rfl⟩)) (λb u z=>?_) (λb z=>?_) λ_=>hk
  ·by_cases hb:b=a
   ·exact .inr ⟨_,_,if_pos hb⟩
   ·exact .inl (if_neg hb)
  ·by_cases hb:b=a
   ·have z':=(if_pos hb).symm.trans z
    cases z';subst hb
    exact⟨ha,by rw[Z3];exact hl,vs,_,rv,ha⟩
   ·have z':=(if_neg hb).symm.trans z
    cases z'
  ·by_cases hb:b=a
   ·exact hb
   ·exact absurd (if_neg hb) z
abbrev KOf{K:Z7}{h:Heap}(_:K.In h):Z7:=K
theorem walk_of{l:V1}{n k:Nat}{q:Zs}{loose:List Str}{XP:(Str->Option Value)->Heap->Prop}{YP:World->Heap->Prop}{d:DefRec}{K:Params->Z7}{CX:World->CXT}{sp:World->Sp}{x:Str}
  (hn:l.most=some n) (hn2:n<=sizeLine) (hdf:d.params.defaults=[]) (hr:Room k VV)
  (hY:∀(w:World) (h:Heap),YP w h->(K w.params).In h)
  (F : ∀(w:World) (mg:Str->Option Value) (fa:Addr) (h:Heap),(K w.params).In h->h.Ns ZQ mg->mg d.name=some (.ref fa) →
   ∃ fd:FuncData,(∀(s:Shared) (u:Value),V8 s fd ⟨[u],[]⟩ [(x,u)]) ∧
    ∀base:Heap,(K w.params).In base->base.Ns ZQ mg->FnOk l.prog w (K w.params) mg base (CX w) k fa fd [x] (sp w))
  (hsp:∀(w:World) (H:Hp) (a:Addr) (ns:List Int),ns.length<=n->Only H->SqL (K w.params) H a (ns.map V.int)->sp w [.ref a] H (λv _=>v=.bl true) λ_ _ _=>False)
  (hCX:∀(w:World) (H:Hp) (s:Shared) (e:Value) (s':Shared),CX w [] H s (λ_ _ _=>False) e s'->False):
  PySem.W.WalkO q loose XP YP l.row.toRowW d [] (λf vs=>PySem.call f vs):=by
 refine Att.attach_call hn hdf λw s₀ s₁ mg mb fa o pm cd doc a vs ns G Y ho hd hcd hmg hobj hints hlen hg=>?_;have KX:=hY w _ Y;obtain⟨fd,hb,hF⟩:=F w mg fa _ KX G.T.g hmg;exact law_call KX G.T.g G.T.b G.T.builtins G.T.nolimit hg hobj hints (ZJ hlen hn2) hr hF hb (λH hO hS=>hsp w H a ns hlen hO hS) λH e s'=>hCX w H s₁ e s'
end L2
/- THE LAST THEOREM (shape;LID,My.* are yours):
   My.Adr: a structure of the addresses that your layer names (classes,functions);My.Txt K t: a structure (Prop) of the equations over K;
   My.txt_mk:{K} {implicit addresses ..} (e1:nsIn K ZQ "law"=some (some (.ref f))) (e2:K.lookup f=some ⟨oc,od,.func (fnOf "law" "law" params body scope dV kV doc pm an cdv ct),sl⟩) (e3:codeIn K cdv "law"=true) ..:∃t,My.Txt K t
set_option maxRecDepth 100000 in
set_option maxHeartbeats 0 in
theorem PySem.Challenge.cw_LID_holds : PySem.Challenge.rw_LID.Holds := by
 w_on;o_law;k_head;(case hw=>w_witness2)
 k_fill
 refine L2.walk_of (l:=PySem.Challenge.rw_LID) (n:=63) (k:=40) (x:="script") (CX:=λw=>..) (sp:=λ_=>My.sp_law) rfl (by decide) rfl ⟨rfl,by decide,by decide⟩ (λw h Y=>PySem.W.kIn_of Y) ?F ?S ?C
 case F=>
  intro w mg fa h KX G hmg
  have T:∃t,My.Txt (L2.KOf KX) t:=by
   dsimp only[L2.KOf]                          -- K must stand as «<heap const> w.params» for k_is
   refine' My.txt_mk ?e1 ?e2 ?e3 ..
   (case e1=>PySem.W.k_is)                    -- in the order: a name->its address->its object->its parts
   (case e2=>PySem.W.k_is)
   ..
  obtain⟨t,T⟩:=T;have e0:=hmg.symm.trans (Zj KX G T.law)
  cases e0                                       -- fa is the law's own address
  exact⟨_,λs u=>.of_eq rfl,λbase kb nb=>My.law_fn T kb nb⟩     -- if «.of_eq rfl» comes too early: refine' ⟨_,?b,λbase kb nb=>My.law_fn T kb nb⟩;exact λs u=>.of_eq rfl
 case S=>exact λw H a ns hl hO hS=>..
 case C=>exact ..
(the tactic k_is has no namespace: write k_is) -/
namespace L2
open PySem PySem.Spec PyProof.Rows
def zbe(s:Stmt)(j:Nat):Stmt:=match s with|.ClassDef _ _ _ body _ _ _ _ _ _ _=>body.getD j (.Pass ⟨0,0,0,0⟩)|_=>.Pass ⟨0,0,0,0⟩
def zau(s:Stmt):Arguments:=match s with|.FunctionDef _ a _ _ _ _ _ _ _ _=>a|_=>{posonlyargs:=[],args:=[],vararg:=none,kwonlyargs:=[],kw_defaults:=[],kwarg:=none,defaults:=[]}
def zaq(s:Stmt):List Stmt:=match s with|.FunctionDef _ _ b _ _ _ _ _ _ _=>b|_=>[]
def zag(s:Stmt):Scope:=match s with|.FunctionDef _ _ _ _ _ _ sc _ _ _=>sc|_=>{kind:=.function,names:=[],isGenerator:=false,isCoroutine:=false}
abbrev CX0:CXT:=λ_ _ _ _ _ _=>False
abbrev E0:XK:=λ_ _ _=>False
theorem zif{X:Cx}:zc1 CX0 X E0:=λ_ _ _ _ _ _ _ h=>h.elim
section
variable {P:Zs}{w:World}{K:Z7}{mg:Str->Option Value}{base:Heap}
end
section
variable {X:Cx}
end
end L2
namespace IT
open PySem PySem.Spec L2
def LsR(K:Z7)(A:Addr->Prop)(H:Hp)(a:Addr)(vs:List V):Prop:=(¬A a/\Rd H a (.lst vs))\/∃(o:Obj) (its:Array Value) (n:Nat),K.lookup a=some o/\o.cls=.type "list"/\o.dict=none/\o.data=.seq its n/\its.size<=sizeLine/\Vals vs its.toList
theorem LsR.sq(q:LsR K A H a vs):SqL K H a vs:=q.imp (λz=>z.2) (λz=>z)
mutual
noncomputable def RepD(K:Z7)(A:Addr->Prop)(H:Hp):D->V->Prop|.non,v=>v=.non|.bl b,v=>v=.bl b|.int i,v=>v=.int i|.str x,v=>v=.str (zbj x)|.tup xs,v=>∃a vs,v=.ref a/\SqT K H a vs/\RepDs K A H xs vs|.lst xs,v=>∃a vs,v=.ref a/\LsR K A H a vs/\RepDs K A H xs vs
noncomputable def RepDs(K:Z7)(A:Addr->Prop)(H:Hp):List D->List V->Prop| [],vs=>vs=[]|x::xs,vs=>∃v r,vs=v::r/\RepD K A H x v/\RepDs K A H xs r
end
section
variable {K:Z7}{A A':Addr->Prop}{H H':Hp}
mutual
theorem RepD.mono(ht:∀a u,Rd H a (.tup u)->Rd H' a (.tup u))(hl:∀a u,¬A a->Rd H a (.lst u)->¬A' a/\Rd H' a (.lst u)):∀(x:D) (v:V),RepD K A H x v->RepD K A' H' x v
 |.non,_,h | .bl _,_,h | .int _,_,h | .str _,_,h=>by
  first
  |(simp only[RepD] at h⊢;exact h)
 |.tup xs,v,h=>by simp only[RepD] at h⊢;obtain⟨a,vs,e,q,r⟩:=h;exact⟨a,vs,e,q.imp (ht a vs) (λz=>z),RepDs.mono ht hl xs vs r⟩|.lst xs,v,h=>by simp only[RepD] at h⊢;obtain⟨a,vs,e,q,r⟩:=h;exact⟨a,vs,e,q.imp (λz=>hl a vs z.1 z.2) (λz=>z),RepDs.mono ht hl xs vs r⟩
theorem RepDs.mono(ht:∀a u,Rd H a (.tup u)->Rd H' a (.tup u))(hl:∀a u,¬A a->Rd H a (.lst u)->¬A' a/\Rd H' a (.lst u)):∀(x:List D) (v:List V),RepDs K A H x v->RepDs K A' H' x v| [],_,h=>by simp only[RepDs] at h⊢;exact h|x::xs,vs,h=>by simp only[RepDs] at h⊢;obtain⟨v,r,e,h1,h2⟩:=h;exact⟨v,r,e,RepD.mono ht hl x v h1,RepDs.mono ht hl xs r h2⟩
end
end
section
variable {K:Z7}{A:Addr->Prop}{H:Hp}
theorem RepDs.length:∀{xs:List D} {vs:List V},RepDs K A H xs vs->xs.length=vs.length| [],vs,h=>by simp only[RepDs] at h;subst h;rfl|x::xs,vs,h=>by simp only[RepDs] at h;obtain⟨v,r,rfl,_,h2⟩:=h;simp only[Zu,h2.length]
theorem RepDs.get:∀{xs:List D} {vs:List V} {i:Nat} {x:D},RepDs K A H xs vs->xs[i]?=some x->∃v,vs[i]?=some v/\RepD K A H x v
 | [],vs,i,x,h,e=>by simp at e
 |y::xs,vs,i,x,h,e=>by
  simp only[RepDs] at h;obtain⟨v,r,rfl,h1,h2⟩:=h
  cases i with|zero=>simp at e;subst e;exact⟨v,rfl,h1⟩|succ i=>simp at e;simpa using h2.get e
theorem RepDs.get':∀{xs:List D} {vs:List V} {i:Nat} {v:V},RepDs K A H xs vs->vs[i]?=some v->∃x,xs[i]?=some x/\RepD K A H x v
 | [],vs,i,v,h,e=>by simp only[RepDs] at h;subst h;simp at e
 |y::xs,vs,i,v,h,e=>by
  simp only[RepDs] at h;obtain⟨w,r,rfl,h1,h2⟩:=h
  cases i with|zero=>simp at e;subst e;exact⟨y,rfl,h1⟩|succ i=>simp at e;simpa using h2.get' e
theorem RepDs.app:∀{xs ys:List D} {vs us:List V},RepDs K A H xs vs->RepDs K A H ys us->RepDs K A H (xs++ys) (vs++us)| [],ys,vs,us,h,h'=>by simp only[RepDs] at h;subst h;simpa using h'|x::xs,ys,vs,us,h,h'=>by simp only[RepDs] at h;obtain⟨v,r,rfl,h1,h2⟩:=h;simp only[Yr,RepDs];exact⟨v,r++us,rfl,h1,h2.app h'⟩
theorem RepDs.nil:RepDs K A H [] []:=by simp only[RepDs]
theorem RepDs.cons(h:RepD K A H x v)(h':RepDs K A H xs vs):RepDs K A H (x::xs) (v::vs):=by simp only[RepDs];exact⟨v,vs,rfl,h,h'⟩
theorem RepDs.one(h:RepD K A H x v):RepDs K A H [x] [v]:=.cons h .nil
theorem RepDs.take:∀{xs:List D} {vs:List V} (n:Nat),RepDs K A H xs vs->RepDs K A H (xs.take n) (vs.take n)
 | [],vs,n,h=>by simp only[RepDs] at h;subst h;simpa using RepDs.nil
 |x::xs,vs,n,h=>by
  simp only[RepDs] at h;obtain⟨v,r,rfl,h1,h2⟩:=h
  cases n with|zero=>simpa using RepDs.nil|succ n=>simpa using RepDs.cons h1 (h2.take n)
theorem RepDs.drop:∀{xs:List D} {vs:List V} (n:Nat),RepDs K A H xs vs->RepDs K A H (xs.drop n) (vs.drop n)
 | [],vs,n,h=>by simp only[RepDs] at h;subst h;simpa using RepDs.nil
 |x::xs,vs,n,h=>by
  simp only[RepDs] at h;obtain⟨v,r,rfl,h1,h2⟩:=h
  cases n with|zero=>simpa using RepDs.cons h1 h2|succ n=>simpa using h2.drop n
theorem RepDs.set(hx:RepD K A H x v):∀{xs:List D} {vs:List V} (n:Nat),RepDs K A H xs vs->RepDs K A H (xs.set n x) (vs.set n v)
 | [],vs,n,h=>by simp only[RepDs] at h;subst h;simpa using RepDs.nil
 |y::xs,vs,n,h=>by
  simp only[RepDs] at h;obtain⟨w,r,rfl,h1,h2⟩:=h
  cases n with|zero=>simpa using RepDs.cons hx h2|succ n=>simpa using RepDs.cons h1 (h2.set hx n)
end
def Ob.mut:Ob->Bool|.lst _=>true|.ins _ _=>true|.dic _=>true|_=>false
def Live(μ:List Addr)(h:Sto)(a:Addr):Prop:=∃(i:Nat) (o:Ob),μ[i]?=some a/\h[i]?=some o/\o.mut=true
def RepR(K:Z7)(μ:List Addr)(h:Sto)(H:Hp):R->V->Prop|.d x,v=>RepD K (Live μ h) H x v|.loc l,v=>∃a,μ[l]?=some a/\v=.ref a
def RepO(K:Z7)(μ:List Addr)(h:Sto)(H:Hp)(a:Addr):Ob->Prop|.lst xs=>∃vs,H a=some (.lst vs)/\RepDs K (Live μ h) H xs vs|.fro xs=>∃vs,H a=some (.lst vs)/\RepDs K (Live μ h) H xs vs|.ols ls=>∃vs,H a=some (.lst vs)/\Paired (λ(l:Nat) (v:V)=>∃b,μ[l]?=some b/\v=.ref b) ls vs|.ins c fs=>∃C dx fs',(ZI K ZQ c=some (some (.ref C))/\Cls K C/\∀p∈fs,zbX K C p.1)/\H a=some (.ins C dx fs')/\Paired (λ(p:Str×R) (q:Str×V)=>p.1=q.1/\RepR K μ h H p.2 q.2) fs fs'|.dic kvs=>∃xs:List (D×Addr×V),H a=some (.dT xs)/\Paired (λ(p:D×D) (q:D×Addr×V)=>p.1=q.1/\(zcM p.1=true/\RepD K (Live μ h) H p.1 (.ref q.2.1))/\RepD K (Live μ h) H p.2 q.2.2) kvs xs|.tpl x l z=>∃u b w,H a=some (.tup [u,.ref b,w])/\μ[l]?=some b/\RepD K (Live μ h) H x u/\RepD K (Live μ h) H z w
structure Rep(K:Z7)(μ:List Addr)(h:Sto)(H:Hp):Prop where
 len:μ.length=h.length
 nd:μ.Nodup
 obj:∀(i:Nat) (a:Addr) (o:Ob),μ[i]?=some a->h[i]?=some o->RepO K μ h H a o
structure Stp(μ:List Addr)(h:Sto)(H:Hp)(μ':List Addr)(h':Sto)(H':Hp):Prop where
 pre:∀(i:Nat) (a:Addr),μ[i]?=some a->μ'[i]?=some a
 keep:∀a o,¬Live μ h a->H a=some o->H' a=some o
 live:∀a,Live μ' h' a->Live μ h a\/H a=none
section
variable {K:Z7}{μ μ' μ2:List Addr}{h h' h2:Sto}{H H' H2:Hp}
theorem RepO.isL(q:RepO K μ h H a o)(l:o.isL=true):∃vs,H a=some (.lst vs)/\RepDs K (Live μ h) H o.items vs:=by
 cases o with|lst xs=>exact q|fro xs=>exact q|ins _ _=>cases l|ols _=>cases l|dic _=>cases l|tpl _ _ _=>cases l
theorem RepO.some(q:RepO K μ h H a o):∃u,H a=some u:=by
 cases o with|lst xs=>obtain⟨vs,e,_⟩:=q;exact⟨_,e⟩|fro xs=>obtain⟨vs,e,_⟩:=q;exact⟨_,e⟩|ins _ _=>obtain⟨C,dx,fs,_,e,_⟩:=q;exact⟨_,e⟩|ols _=>obtain⟨vs,e,_⟩:=q;exact⟨_,e⟩|dic _=>obtain⟨xs,e,_⟩:=q;exact⟨_,e⟩|tpl _ _ _=>obtain⟨u,b,w,e,_⟩:=q;exact⟨_,e⟩
theorem Rep.liveAt(r:Rep K μ h H)(l:Live μ h a):∃u,H a=some u/\((∃vs,u=.lst vs)\/(∃C dx fs,u=.ins C dx fs)\/∃kvs,u=.dT kvs):=by
 obtain⟨i,o,e1,e2,m⟩:=l;have q:=r.obj i a _ e1 e2
 cases o with|lst xs=>obtain⟨vs,e,_⟩:=q;exact⟨_,e,.inl ⟨vs,rfl⟩⟩|fro xs=>cases m|ins _ _=>obtain⟨C,dx,fs,_,e,_⟩:=q;exact⟨_,e,.inr (.inl ⟨C,dx,fs,rfl⟩)⟩|ols _=>cases m|dic _=>obtain⟨xs,e,_⟩:=q;exact⟨_,e,.inr (.inr ⟨xs,rfl⟩)⟩|tpl _ _ _=>cases m
theorem Rep.notLive(r:Rep K μ h H)(e:H a=some o)(n:∀vs,o≠.lst vs)(n2:∀C dx fs,o≠.ins C dx fs:=by intro _ _ _ z;cases z)(n3:∀kvs,o≠.dT kvs:=by intro _ z;cases z):¬Live μ h a:=λl=>by
 obtain⟨u,q,z⟩:=r.liveAt l;rw[e] at q;cases q
 rcases z with⟨vs,z⟩|⟨C,dx,fs,z⟩|⟨kvs,z⟩
 ·exact n vs z
 ·exact n2 C dx fs z
 ·exact n3 kvs z
theorem Stp.refl:Stp μ h H μ h H:=⟨λ_ _ e=>e,λ_ _ _ e=>e,λ_ l=>.inl l⟩
theorem Stp.trans(s:Stp μ h H μ' h' H')(t:Stp μ' h' H' μ2 h2 H2):Stp μ h H μ2 h2 H2:=by
 have nl:∀a o,¬Live μ h a->H a=some o->¬Live μ' h' a:=λa o n e l=>by
  rcases s.live a l with z | z
  ·exact n z
  ·rw[e] at z;cases z
 refine⟨λi a e=>t.pre i a (s.pre i a e),λa o n e=>t.keep a o (nl a o n e) (s.keep a o n e),λa l=>?_⟩
 rcases t.live a l with z | z
 ·exact s.live a z
 ·by_cases n:Live μ h a
  ·exact .inl n
  ·cases e:H a with|none=>exact .inr rfl|some o=>rw[s.keep a o n e] at z;cases z
theorem Stp.rdT(s:Stp μ h H μ' h' H')(r:Rep K μ h H)(a:Addr)(u:List V)(q:Rd H a (.tup u)):Rd H' a (.tup u):=by
 rcases q with e|⟨o,e⟩
 ·exact .inl (s.keep a _ (r.notLive e (by intro vs z;cases z)) e)
 ·exact .inr ⟨o,s.keep a _ (r.notLive e (by intro vs z;cases z)) e⟩
theorem Stp.rdL(s:Stp μ h H μ' h' H')(a:Addr)(u:List V)(n:¬Live μ h a)(q:Rd H a (.lst u)):¬Live μ' h' a/\Rd H' a (.lst u):=by
 have nl:∀o,H a=some o->¬Live μ' h' a:=λo e l=>by
  rcases s.live a l with z | z
  ·exact n z
  ·rw[e] at z;cases z
 rcases q with e|⟨o,e⟩
 ·exact⟨nl _ e,.inl (s.keep a _ n e)⟩
 ·exact⟨nl _ e,.inr ⟨o,s.keep a _ n e⟩⟩
theorem Stp.lsR(s:Stp μ h H μ' h' H')(q:LsR K (Live μ h) H a u):LsR K (Live μ' h') H' a u:=q.imp (λz=>s.rdL a u z.1 z.2) (λz=>z)
theorem RepD.stp(s:Stp μ h H μ' h' H')(r:Rep K μ h H)(q:RepD K (Live μ h) H x v):RepD K (Live μ' h') H' x v:=RepD.mono (s.rdT r) s.rdL x v q
theorem RepDs.stp(s:Stp μ h H μ' h' H')(r:Rep K μ h H)(q:RepDs K (Live μ h) H x v):RepDs K (Live μ' h') H' x v:=RepDs.mono (s.rdT r) s.rdL x v q
theorem RepR.stp(s:Stp μ h H μ' h' H')(r:Rep K μ h H)(q:RepR K μ h H x v):RepR K μ' h' H' x v:=by
 cases x with|d x=>exact RepD.stp s r q|loc l=>obtain⟨a,e,z⟩:=q;exact⟨a,s.pre l a e,z⟩
theorem RepO.stp(s:Stp μ h H μ' h' H')(r:Rep K μ h H)(e:H' a=H a)(q:RepO K μ h H a o):RepO K μ' h' H' a o:=by
 cases o with|lst xs=>obtain⟨vs,e1,z⟩:=q;exact⟨vs,e.trans e1,RepDs.stp s r z⟩|fro xs=>obtain⟨vs,e1,z⟩:=q;exact⟨vs,e.trans e1,RepDs.stp s r z⟩|ols ls=>obtain⟨vs,e1,z⟩:=q;exact⟨vs,e.trans e1,L2.Paired.mapP z λl v ⟨b,eb,ev⟩=>⟨b,s.pre l b eb,ev⟩⟩|tpl x l z=>obtain⟨u,b,w,e1,e2,q1,q2⟩:=q;exact⟨u,b,w,e.trans e1,s.pre l b e2,RepD.stp s r q1,RepD.stp s r q2⟩|dic kvs=>obtain⟨xs,e1,z⟩:=q;exact⟨xs,e.trans e1,L2.Paired.mapP z λp q ⟨ep,ek,ev⟩=>⟨ep,⟨ek.1,RepD.stp s r ek.2⟩,RepD.stp s r ev⟩⟩|ins c fs=>obtain⟨C,dx,fs',ec,e1,z⟩:=q;exact⟨C,dx,fs',ec,e.trans e1,L2.Paired.mapP z λp q ⟨ep,eq⟩=>⟨ep,RepR.stp s r eq⟩⟩
theorem Stp.fresh(n:H p=none):Stp μ h H μ h (upd H p o):=⟨λ_ _ e=>e,λa o' _ e=>by rw[zao (zas e n)];exact e,λ_ l=>.inl l⟩
theorem Rep.ne_fresh(r:Rep K μ h H){i:Nat}(n:H p=none)(e1:μ[i]?=some a)(e2:h[i]?=some o):a≠p:=by obtain⟨u,q⟩:=(r.obj i a o e1 e2).some;exact zas q n
theorem Rep.fresh{o:HO}(r:Rep K μ h H)(n:H p=none):Rep K μ h (upd H p o):=⟨r.len,r.nd,λi a ob e1 e2=>RepO.stp (Stp.fresh n) r (zao (r.ne_fresh n e1 e2)) (r.obj i a ob e1 e2)⟩
theorem zkJ(hl:μ.length=h.length):Live (μ++[p]) (h++[o]) a↔Live μ h a\/(a=p/\o.mut=true):=by
 constructor
 ·rintro ⟨i,o',e1,e2,e3⟩
  by_cases hi:i<μ.length
  ·rw [ZR hi] at e1
   rw[ZR (by omega)] at e2;exact .inl ⟨i,o',e1,e2,e3⟩
  ·rw [ZK (by omega)] at e1 e2
   have hz:i-μ.length=0:=by
    cases hk:i-μ.length with|zero=>rfl|succ k=>rw[hk] at e1;simp at e1
   rw[hz] at e1;rw[<-hl,hz] at e2;simp at e1 e2;subst e1 e2;exact .inr ⟨rfl,e3⟩
 ·rintro (⟨i,o',e1,e2,e3⟩|⟨rfl,e3⟩)
  ·obtain ⟨h1,_⟩:=Z9.mp e1
   exact⟨i,o',by rw[ZR h1];exact e1,by rw[ZR (by omega)];exact e2,e3⟩
  ·exact⟨μ.length,o,by simp,by rw[hl];simp,e3⟩
theorem Stp.allocO(r:Rep K μ h H)(n:H p=none):Stp μ h H (μ++[p]) (h++[ob]) (upd H p o):=
  ⟨fun i a e=>by rw[ZR (Z9.mp e).1];exact e,λa o' _ e=>by rw[zao (zas e n)];exact e,
   fun a l=>by
    rcases(zkJ r.len).mp l with z|⟨rfl,_⟩
    · exact .inl z
    · exact .inr n⟩
theorem Stp.alloc(r:Rep K μ h H)(n:H p=none):Stp μ h H (μ++[p]) (h++[.lst xs]) (upd H p o):=Stp.allocO r n
theorem Rep.allocO{o:Ob}(r:Rep K μ h H)(n:H p=none)(q:RepO K (μ++[p]) (h++[o]) (upd H p u) p o):Rep K (μ++[p]) (h++[o]) (upd H p u):=by
 have st:Stp μ h H (μ++[p]) (h++[o]) (upd H p u):=Stp.allocO r n;refine⟨by simp[r.len],?_,λi a ob e1 e2=>?_⟩
 ·rw [List.nodup_append]
  refine⟨r.nd,by simp,λa ha b hb=>?_⟩;simp at hb;subst hb
  rintro rfl
  obtain⟨i,hi,e⟩:=Yx ha
  have hi':i<h.length:=by rw[<-r.len];exact hi
  exact r.ne_fresh n (by rw[Z6 hi,e]) (Z6 hi') rfl
 ·by_cases hi:i<μ.length
  ·rw [ZR hi] at e1
   rw[ZR (by have:=r.len;omega)] at e2
   exact RepO.stp st r (zao (r.ne_fresh n e1 e2)) (r.obj i a ob e1 e2)
  ·rw [ZK (by omega)] at e1
   have hz:i-μ.length=0:=by
    cases hk:i-μ.length with|zero=>rfl|succ k=>rw[hk] at e1;simp at e1
   rw[hz] at e1;simp at e1;subst e1
   have hi2:i=h.length:=by have:=r.len;have:=(Z9.mp e2).1;simp at this;omega
   subst hi2;simp at e2;subst e2;exact q
theorem Rep.alloc(r:Rep K μ h H)(n:H p=none)(q:RepDs K (Live μ h) H xs vs):Rep K (μ++[p]) (h++[.lst xs]) (upd H p (.lst vs)):=r.allocO n ⟨vs,zam,RepDs.stp (Stp.allocO r n) r q⟩
end
end IT
namespace IT
open PySem PySem.Spec L2
def RdD(K:Z7)(A:Addr->Prop)(H:Hp)(x:D)(v:V):Prop:=match x with|.lst xs=>∃a vs,v=.ref a/\SqL K H a vs/\RepDs K A H xs vs|x=>RepD K A H x v
section
variable {K:Z7}{μ μ':List Addr}{h h':Sto}{H H':Hp}
theorem RdD.of{A:Addr->Prop}(q:RepD K A H x v):RdD K A H x v:=by
 cases x with|lst xs=>simp only[RepD] at q;obtain⟨a,vs,e,r,z⟩:=q;exact⟨a,vs,e,r.sq,z⟩|_=>exact q
theorem zgC(e:rd (.loc l) h=some (d,h')):∃o,h[l]?=some o/\o.isL=true/\d=.lst o.items/\h'=h:=by
 simp only[rd] at e
 cases ho:h[l]? with
 |none=>rw[ho] at e;cases e
 | some o=>
  rw[ho] at e;simp only at e
  split at e
  ·rename_i il
   simp only[Z5,Z1] at e;exact⟨o,rfl,il,e.1.symm,e.2.symm⟩
  ·cases e
theorem zgr(e:zfq x h=some (u,h')):∃l o,x=.loc l/\h[l]?=some o/\o.isL=true/\h'=h:=by
 cases x with
 |d _=>cases e
 | loc l=>
  simp only[zfq] at e
  cases ho:h[l]? with
  |none=>rw[ho] at e;cases e
  | some o=>
   rw[ho] at e;simp only at e
   split at e
   ·rename_i il
    simp only[Z5,Z1] at e;exact⟨l,o,rfl,ho,il,e.2.symm⟩
   ·cases e
theorem zbT{r:R}(R0:Rep K μ h H)(q:RepR K μ h H r v)(e:rd r h=some (d,h')):h'=h/\RdD K (Live μ h) H d v:=by
 cases r with
 |d x=>simp only[rd,ok,Z5,Z1] at e;obtain⟨rfl,rfl⟩:=e;exact⟨rfl,RdD.of q⟩
 | loc l=>
  obtain⟨a,ea,rfl⟩:=q;simp only[rd] at e
  cases ho:h[l]? with
  |none=>rw[ho] at e;cases e
  | some o=>
   rw[ho] at e;simp only at e
   split at e
   ·rename_i il
    simp only[Z5,Z1] at e;obtain⟨rfl,rfl⟩:=e;obtain⟨vs,q1,q2⟩:=(R0.obj l a o ea ho).isL il;exact⟨rfl,a,vs,rfl,.inl (.inl q1),q2⟩
   ·cases e
theorem zgW{l:List Addr}(hn:l.Nodup){i j:Nat}(h1:l[i]?=some a)(h2:l[j]?=some a):i=j:=by obtain⟨p1,e1⟩:=Z9.mp h1;obtain⟨p2,e2⟩:=Z9.mp h2;exact(List.getElem_inj hn).mp (e1.trans e2.symm)
theorem zvf(R0:Rep K μ h H)(ho:h[l]?=some o)(il:o.isL=true):Stp μ h H μ (h.set l (.fro o.items)) H/\Rep K μ (h.set l (.fro o.items)) H:=by
 have hl:l<h.length:=(Z9.mp ho).1
 have lv:∀a,Live μ (h.set l (.fro o.items)) a->Live μ h a:=by
  rintro a ⟨i,xs,e1,e2,e3⟩
  by_cases hi:i=l
  ·subst hi
   rw[Zl hl] at e2;cases e2;cases e3
  ·rw [Zf (Yw hi)] at e2
   exact⟨i,xs,e1,e2,e3⟩
 have st:Stp μ h H μ (h.set l (.fro o.items)) H:=⟨λ_ _ e=>e,λ_ _ _ e=>e,λa z=>.inl (lv a z)⟩;refine⟨st,by simp[R0.len],R0.nd,λi a ob e1 e2=>?_⟩
 by_cases hi:i=l
 ·subst hi
  rw[Zl hl] at e2;cases e2;obtain⟨vs,q1,q2⟩:=(R0.obj i a o e1 ho).isL il;exact⟨vs,q1,RepDs.stp st R0 q2⟩
 ·rw [Zf (Yw hi)] at e2
  exact RepO.stp st R0 rfl (R0.obj i a ob e1 e2)
theorem zlj{r:R}{v:V}(R0:Rep K μ h H)(q:RepR K μ h H r v)(e:fz r h=some (d,h')):Stp μ h H μ h' H/\Rep K μ h' H/\RepD K (Live μ h') H d v:=by
 cases r with
 |d x=>simp only[fz,ok,Z5,Z1] at e;obtain⟨rfl,rfl⟩:=e;exact⟨Stp.refl,R0,q⟩
 | loc l=>
  obtain⟨a,ea,rfl⟩:=q;simp only[fz] at e
  cases ho:h[l]? with
  |none=>rw[ho] at e;cases e
  | some o=>
   rw[ho] at e;simp only at e
   split at e
   ·rename_i il
    simp only[Z5,Z1] at e;obtain⟨rfl,rfl⟩:=e;obtain⟨st,R1⟩:=zvf R0 ho il;have hl:l<h.length:=(Z9.mp ho).1;obtain⟨vs,q1,q2⟩:=(R0.obj l a o ea ho).isL il;refine⟨st,R1,?_⟩;simp only[RepD];refine⟨a,vs,rfl,.inl ⟨?_,.inl q1⟩,RepDs.stp st R0 q2⟩
    rintro⟨i,xs,e1,e2,e3⟩
    have:=zgW R0.nd e1 ea
    subst this;rw[Zl hl] at e2;cases e2;cases e3
   ·cases e
theorem zmV{l:Nat}{a:Addr}(R0:Rep K μ h H)(ea:μ[l]?=some a)(ho:h[l]?=some o)(hm:o.mut=true)
  (q:Stp μ h H μ (h.set l o') (upd H a u)->RepO K μ (h.set l o') (upd H a u) a o'):Stp μ h H μ (h.set l o') (upd H a u)/\Rep K μ (h.set l o') (upd H a u):=by
 have hl:l<h.length:=(Z9.mp ho).1;have hla:Live μ h a:=⟨l,o,ea,ho,hm⟩
 have lv:∀b,Live μ (h.set l o') b->Live μ h b:=by
  rintro b ⟨i,zs,e1,e2,e3⟩
  by_cases hi:i=l
  ·subst hi
   exact⟨i,o,e1,ho,hm⟩
  ·rw [Zf (Yw hi)] at e2
   exact⟨i,zs,e1,e2,e3⟩
 have st:Stp μ h H μ (h.set l o') (upd H a u):=⟨λ_ _ e=>e,λb o n e=>by rw[zao (λz=>n (by rw[z];exact hla))];exact e,λb z=>.inl (lv b z)⟩
 refine⟨st,by simp[R0.len],R0.nd,λi b ob e1 e2=>?_⟩
 by_cases hi:i=l
 ·subst hi
  rw[ea] at e1;cases e1
  rw[Zl hl] at e2;cases e2;exact q st
 ·rw [Zf (Yw hi)] at e2
  exact RepO.stp st R0 (zao (λz:b=a=>hi (zgW R0.nd e1 (by rw[z];exact ea)))) (R0.obj i b ob e1 e2)
theorem write(R0:Rep K μ h H)(ea:μ[l]?=some a)(ho:h[l]?=some (.lst xs))(q:RepDs K (Live μ h) H ys ws):
  Stp μ h H μ (h.set l (.lst ys)) (upd H a (.lst ws))/\Rep K μ (h.set l (.lst ys)) (upd H a (.lst ws)):=
 zmV R0 ea ho rfl λst=>⟨ws,zam,RepDs.stp st R0 q⟩
end
theorem zab{α β:Type}{x:M α}{f:α->M β}{h:Sto}{r:β×Sto}:bnd x f h=some r↔∃a h1,x h=some (a,h1)/\f a h1=some r:=by
 unfold bnd
 cases e:x h with
 |none=>simp
 |some p=>
  obtain⟨a,h1⟩:=p
  exact⟨λq=>⟨a,h1,rfl,q⟩,λ⟨a',h1',e',q⟩=>by cases e';exact q⟩
theorem zac{α:Type}{a b:α}{h h':Sto}:ok a h=some (b,h')↔a=b/\h=h':=by simp[ok]
theorem zay{α:Type}{o:Option α}{b:α}{h h':Sto}:opt o h=some (b,h')↔o=some b/\h=h':=by
 unfold opt
 cases o with|none=>simp|some a=>simp
structure RepE(K:Z7)(μ:List Addr)(h:Sto)(H:Hp)(env:IT.Env)(σ:St):Prop where
 len:env.length=σ.length
 get:∀(i:Nat) (r:R),env[i]?=some (some r)->∃v,σ[i]?=some (some v)/\RepR K μ h H r v
inductive zbk(K:Z7)(μ:List Addr)(h:Sto)(H:Hp):List R->List V->Prop where|nil:zbk K μ h H [] []|cons {r:R} {v:V} {rs:List R} {vs:List V}:RepR K μ h H r v->zbk K μ h H rs vs->zbk K μ h H (r::rs) (v::vs)
section
variable {K:Z7}{μ μ':List Addr}{h h':Sto}{H H':Hp}
theorem RepE.stp(s:Stp μ h H μ' h' H')(R0:Rep K μ h H){env:IT.Env}(q:RepE K μ h H env σ):RepE K μ' h' H' env σ:=⟨q.len,λi r e=>let ⟨v,e',z⟩:=q.get i r e;⟨v,e',z.stp s R0⟩⟩
theorem zbk.stp(s:Stp μ h H μ' h' H')(R0:Rep K μ h H){rs:List R}(q:zbk K μ h H rs vs):zbk K μ' h' H' rs vs:=by
 induction q with|nil=>exact .nil|cons a _ ih=>exact .cons (a.stp s R0) ih
theorem zbk.length{rs:List R}(q:zbk K μ h H rs vs):rs.length=vs.length:=by
 induction q with|nil=>rfl|cons _ _ ih=>simp[ih]
theorem RepE.set(q:RepE K μ h H env σ)(i:Nat)(z:RepR K μ h H r v):RepE K μ h H (env.set i (some r)) (σ.set i (some v)):=by
 refine⟨by simp[q.len],λj r' e=>?_⟩
 by_cases hj:j=i
 ·subst hj
  have hl:j<env.length:=by
   have:=(Z9.mp e).1
   simpa using this
  rw[Zl hl] at e;cases e
  exact⟨v,by rw[Zl (by rw[<-q.len];exact hl)],z⟩
 ·rw [Zf (Yw hj)] at e⊢
  exact q.get j r' e
theorem zqW:∀{rs:List R} {vs:List V} {ds:List D} {h h':Sto},Rep K μ h H->zbk K μ h H rs vs->rds rs h=some (ds,h')->h'=h/\Paired (RdD K (Live μ h) H) ds vs| [],_,ds,h,h',R0,.nil,e=>by simp only[rds,zac] at e;obtain⟨rfl,rfl⟩:=e;exact⟨rfl,.nil⟩|r::rs,_,ds,h,h',R0,.cons q qs,e=>by simp only[rds,zab,zac] at e;obtain⟨d,h1,e1,ds',h2,e2,rfl,rfl⟩:=e;obtain⟨rfl,z⟩:=zbT R0 q e1;obtain⟨rfl,zs⟩:=zqW R0 qs e2;exact⟨rfl,.cons z zs⟩
theorem zmW:∀{rs:List R} {vs:List V} {ds:List D} {h h':Sto},Rep K μ h H->zbk K μ h H rs vs->fzs rs h=some (ds,h')->Stp μ h H μ h' H/\Rep K μ h' H/\RepDs K (Live μ h') H ds vs| [],_,ds,h,h',R0,.nil,e=>by simp only[fzs,zac] at e;obtain⟨rfl,rfl⟩:=e;exact⟨Stp.refl,R0,.nil⟩|r::rs,_,ds,h,h',R0,.cons q qs,e=>by simp only[fzs,zab,zac] at e;obtain⟨d,h1,e1,ds',h2,e2,rfl,rfl⟩:=e;obtain⟨s1,R1,z⟩:=zlj R0 q e1;obtain⟨s2,R2,zs⟩:=zmW R1 (qs.stp s1 R0) e2;exact⟨s1.trans s2,R2,.cons (z.stp s2 R1) zs⟩
end
inductive Post{α β:Type}(K:Z7)(μ:List Addr)(h:Sto)(H:Hp)(Rel:List Addr->Sto->Hp->α->β->Prop)(m:Option (α×Sto))(Q:β->Hp->Prop):Prop where|mk (r:α) (h':Sto) (e:m=some (r,h')) (k:∀μ' H' v,Stp μ h H μ' h' H'->Rep K μ' h' H'->Rel μ' h' H' r v->Q v H')
inductive tE(K:Z7)(f:IT.Env->M R)(σ:St)(H:Hp)(Q:VK):Prop where|mk (μ:List Addr) (h:Sto) (env:IT.Env) (R0:Rep K μ h H) (re:RepE K μ h H env σ) (p:Post K μ h H (RepR K) (f env h) Q)
inductive tTv(K:Z7)(f:IT.Env->M Bool)(σ:St)(H:Hp)(Q:Bool->Hp->Prop):Prop where|mk (μ:List Addr) (h:Sto) (env:IT.Env) (R0:Rep K μ h H) (re:RepE K μ h H env σ) (p:Post K μ h H (λ_ _ _ a b=>a=b) (f env h) Q)
inductive tAs(K:Z7)(f:IT.Env->M (List R))(σ:St)(H:Hp)(Q:List V->Hp->Prop):Prop where|mk (μ:List Addr) (h:Sto) (env:IT.Env) (R0:Rep K μ h H) (re:RepE K μ h H env σ) (p:Post K μ h H (zbk K) (f env h) Q)
inductive tLs(K:Z7)(f:IT.Env->M (List D))(σ:St)(H:Hp)(Q:VK):Prop where|mk (μ:List Addr) (h:Sto) (env:IT.Env) (R0:Rep K μ h H) (re:RepE K μ h H env σ) (xs:List D) (h':Sto) (e:f env h=some (xs,h')) (k:∀μ' H' a vs,Stp μ h H μ' h' H'->Rep K μ' h' H'->RepDs K (Live μ' h') H' xs vs->H' a=none->Q (.ref a) (upd H' a (.lst vs)))
abbrev IE(X:Cx)(e:Expr)(f:IT.Env->M R):Prop:=PE X e (tE X.K f)
abbrev IT'(X:Cx)(e:Expr)(f:IT.Env->M Bool):Prop:=PT X e (tTv X.K f)
abbrev IA(X:Cx)(es:List Expr)(f:IT.Env->M (List R)):Prop:=PA X es (tAs X.K f)
abbrev IL(X:Cx)(e:Expr)(f:IT.Env->M (List D)):Prop:=PE X e (tLs X.K f)
theorem PE.imp{X:Cx}(h:PE X e t)(i:∀σ H Q,t' σ H Q->t σ H Q):PE X e t':=λpins s σ H Q I q=>h pins s σ H Q I (i σ H Q q)
theorem PT.imp{X:Cx}(h:PT X e t)(i:∀σ H Q,t' σ H Q->t σ H Q):PT X e t':=λpins s σ H Q I q=>h pins s σ H Q I (i σ H Q q)
theorem PA.imp{X:Cx}(h:PA X e t)(i:∀σ H Q,t' σ H Q->t σ H Q):PA X e t':=λpos pins s σ H Q I q=>h pos pins s σ H Q I (i σ H Q q)
section
variable {X:Cx}{e a b c:Expr}{es:List Expr}{pos:Pos}{f g k:IT.Env->M R}{ft gt:IT.Env->M Bool}
theorem ziT{v:V}(h:PE X e (tC v))(hd:∀A H,RepD X.K A H d v):IE X e (λ_=>ok (.d d)):=by refine PE.imp h λσ H Q q0=>?_;obtain⟨μ,h,env,R0,re,r,h',e,k⟩:=q0;obtain⟨rfl,rfl⟩:=zac.mp e;exact k μ H v Stp.refl R0 (hd _ _)
theorem ztq{i:Nat}(h:PE X e (tVar i)):IE X e (λσ h=>match σ[i]? with | some (some r)=>some (r,h) | _=>none):=by
 refine PE.imp h λσ H Q q0=>?_;obtain⟨μ,h,env,R0,re,r,h',e,k⟩:=q0
 have e2:env[i]?=some (some r)/\h=h':=by
  (try dsimp only at e)
  cases q:env[i]? with
  |none=>rw[q] at e;cases e
  |some o=>
   cases o with|none=>rw[q] at e;cases e|some r'=>rw[q] at e;simp at e;exact⟨by rw[e.1],e.2⟩
 obtain⟨e3,rfl⟩:=e2;obtain⟨v,e4,z⟩:=re.get i r e3;exact⟨v,e4,k μ H v Stp.refl R0 z⟩
inductive OpIQ(K:Z7)(m:R->R->M R)(v u:V)(H:Hp)(Q:VK):Prop where|mk (μ:List Addr) (h:Sto) (x y:R) (R0:Rep K μ h H) (qx:RepR K μ h H x v) (qy:RepR K μ h H y u) (p:Post K μ h H (RepR K) (m x y h) Q)
def OpI(X:Cx)(F:Value->Value->Sem Value)(m:R->R->M R):Prop:=OpR X F λv u H Q=>OpIQ X.K m v u H Q
theorem two{m:R->R->M R}{σ:St}{Q:VK}(q:tE X.K (λσ=>bnd (f σ) λx=>bnd (g σ) λy=>m x y) σ H Q):
  tE X.K f σ H λv H1=>tE X.K g σ H1 λu H2=>OpIQ X.K m v u H2 Q:=by
 obtain⟨μ,h,env,R0,re,r,h',e,k⟩:=q;simp only[zab] at e;obtain⟨x,h1,e1,y,h2,e2,e3⟩:=e
 exact ⟨μ,h,env,R0,re,x,h1,e1,λμ1 H1 v s1 R1 q1=>⟨μ1,h1,env,R1,re.stp s1 R0,y,h2,e2,λμ2 H2 u s2 R2 q2=>⟨μ2,h2,x,y,R2,q1.stp s2 R1,q2,r,h',e3,λμ3 H3 w s3 R3 q3=>k μ3 H3 w ((s1.trans s2).trans s3) R3 q3⟩⟩⟩
theorem zu3{op:Wh}(ho:OpI X (YT op) m)(ha:IE X a f)(hb:IE X b g):IE X (.BinOp a op b pos) (λσ=>bnd (f σ) λx=>bnd (g σ) λy=>m x y):=PE.imp (zu2 ho ha hb) λσ H Q q=>two q
theorem zkm{op:CmpOp}(ho:OpI X (Zg op) m)(ha:IE X a f)(hb:IE X b g)(hm:Yt op b=false):IE X (.Compare a [op] [b] pos) (λσ=>bnd (f σ) λx=>bnd (g σ) λy=>m x y):=PE.imp (zrr ho ha hb hm) λσ H Q q=>two q
inductive OpDQ(K:Z7)(g:D->D->Option D)(v u:V)(H:Hp)(Q:VK):Prop where|mk (μ:List Addr) (h:Sto) (a b z:D) (R0:Rep K μ h H) (qa:RdD K (Live μ h) H a v) (qb:RdD K (Live μ h) H b u) (e:g a b=some z) (k:∀μ' H' w,Stp μ h H μ' h H'->Rep K μ' h H'->RepD K (Live μ' h) H' z w->Q w H')
def OpD(X:Cx)(F:Value->Value->Sem Value)(g:D->D->Option D):Prop:=OpR X F λv u H Q=>OpDQ X.K g v u H Q
def mD(g:D->D->Option D)(x y:R):M R:=bnd (rd x) λx=>bnd (rd y) λy=>bnd (opt (g x y)) λz=>ok (.d z)
theorem OpD.opI{F:Value->Value->Sem Value}{g:D->D->Option D}(h:OpD X F g):OpI X F (mD g):=by intro pins s σ H v u v' u' Q I rv ru q;obtain⟨μ,h0,x,y,R0,qx,qy,r,h',e,k⟩:=q;simp only[mD,zab,zac,zay] at e;obtain⟨dx,h1,e1,dy,h2,e2,z,h3,⟨e3,rfl⟩,rfl,rfl⟩:=e;obtain⟨rfl,zx⟩:=zbT R0 qx e1;obtain⟨rfl,zy⟩:=zbT R0 qy e2;exact h pins s σ H v u v' u' Q I rv ru ⟨μ,_,dx,dy,z,R0,zx,zy,e3,λμ' H' w st R1 qw=>k μ' H' w st R1 qw⟩
theorem zu8(h:IE X e f)(he:∀whole,isTrue e X.env whole=(do let v<-whole;Xy e.pos;holding [v] (truthy v))):IT' X e (λσ=>bnd (f σ) λr=>bnd (rd r) λd=>opt (tru d)):=by
 refine PT.imp (zpK h he) λσ H Q q0=>?_;obtain⟨μ,h,env,R0,re,t,h',e,k⟩:=q0;simp only[zab,zay] at e;obtain⟨r,h1,e1,d,h2,e2,e3,rfl⟩:=e;refine⟨μ,h,env,R0,re,r,h1,e1,λμ1 H1 v s1 R1 q1=>?_⟩;obtain⟨rfl,z⟩:=zbT R1 q1 e2;refine⟨t,?_,k μ1 H1 t s1 R1 rfl⟩
 cases d with
 |non=>simp only[RdD,RepD] at z;subst z;simp only[tru,Z5] at e3;exact e3.symm|bl b=>simp only[RdD,RepD] at z;subst z;simp only[tru,Z5] at e3;exact e3.symm|int i=>simp only[RdD,RepD] at z;subst z;simp only[tru,Z5] at e3;exact e3.symm
 | str x=>
  simp only[RdD,RepD] at z;subst z;simp only[tru] at e3
  split at e3
  ·rename_i hf
   simp only[Z5] at e3
   refine⟨by rw[zdw];exact of_decide_eq_true hf,?_⟩
   rw[<-e3,zdw]
   cases x<;>simp
   omega
  ·cases e3
 |tup xs=>
  simp only[RdD,RepD] at z;obtain⟨a,vs,rfl,q,zs⟩:=z;simp only[tru,Z5] at e3;refine .inr (.inl ⟨vs,q,?_⟩);rw[<-e3]
  have:=zs.length
  cases xs<;>cases vs<;>simp_all
 |lst xs=>
  obtain⟨a,vs,rfl,q,zs⟩:=z;simp only[tru,Z5] at e3;refine .inl ⟨vs,q,?_⟩;rw[<-e3]
  have:=zs.length
  cases xs<;>cases vs<;>simp_all
theorem zkk{op:CmpOp}{m:R->R->M R}(ho:OpI X (Zg op) m)(ha:IE X a f)(hb:IE X b g)(hm:Yt op b=false)(hbl:∀x y h r h',m x y h=some (r,h')->∃t,r=.d (.bl t)):
  IT' X (.Compare a [op] [b] pos) (λσ=>bnd (bnd (f σ) λx=>bnd (g σ) λy=>m x y) λr=>bnd (rd r) λd=>opt (tru d)):=by
 refine PT.imp (zrp ho ha hb hm) λσ H Q q0=>?_;obtain⟨μ,h,env,R0,re,t,h',e,k⟩:=q0;simp only[zab,zay] at e;obtain⟨r,h1,⟨x,h2,e1,y,h3,e2,e3⟩,d,h4,e4,e5,rfl⟩:=e;obtain⟨t',rfl⟩:=hbl _ _ _ _ _ e3;simp only[rd,zac] at e4;obtain⟨rfl,rfl⟩:=e4;simp only[tru,Z5] at e5;subst e5
 refine two (m:=m) ⟨μ,h,env,R0,re,.d (.bl t'),h1,by simp only[zab];exact⟨x,h2,e1,y,h3,e2,e3⟩,λμ1 H1 v s1 R1 q1=>?_⟩
 simp only[RepR,RepD] at q1;subst q1;exact⟨t',rfl,k μ1 H1 t' s1 R1 rfl⟩
theorem zqR{rest:List Expr}{tb:TT}(ha:IT' X a ft)(hb:PW X (.BoolOp .And (b::rest) pos) (tTv X.K gt)):PW X (.BoolOp .And (a::b::rest) pos) (tTv X.K λσ=>bnd (ft σ) λt=>if t then gt σ else ok false):=by
 intro whole pins s σ H Q I q;refine zux ha hb whole pins s σ H Q I ?_;obtain⟨μ,h,env,R0,re,t,h',e,k⟩:=q;simp only[zab] at e;obtain⟨u,h1,e1,e2⟩:=e;refine⟨μ,h,env,R0,re,u,h1,e1,λμ1 H1 v s1 R1 hv=>?_⟩;subst hv
 cases u with|true=>rw[if_pos rfl] at e2;rw[if_pos rfl];exact⟨μ1,h1,env,R1,re.stp s1 R0,t,h',e2,λμ2 H2 v s2 R2 hv=>k μ2 H2 v (s1.trans s2) R2 hv⟩|false=>rw[if_neg (by decide)] at e2;rw[if_neg (by decide)];obtain⟨rfl,rfl⟩:=zac.mp e2;exact k μ1 H1 _ s1 R1 rfl
theorem zuI{rest:List Expr}(ha:IT' X a ft)(hb:PW X (.BoolOp .Or (b::rest) pos) (tTv X.K gt)):PW X (.BoolOp .Or (a::b::rest) pos) (tTv X.K λσ=>bnd (ft σ) λt=>if t then ok true else gt σ):=by
 intro whole pins s σ H Q I q;refine zvA ha hb whole pins s σ H Q I ?_;obtain⟨μ,h,env,R0,re,t,h',e,k⟩:=q;simp only[zab] at e;obtain⟨u,h1,e1,e2⟩:=e;refine⟨μ,h,env,R0,re,u,h1,e1,λμ1 H1 v s1 R1 hv=>?_⟩;subst hv
 cases u with|false=>rw[if_neg (by decide)] at e2;rw[if_neg (by decide)];exact⟨μ1,h1,env,R1,re.stp s1 R0,t,h',e2,λμ2 H2 v s2 R2 hv=>k μ2 H2 v (s1.trans s2) R2 hv⟩|true=>rw[if_pos rfl] at e2;rw[if_pos rfl];obtain⟨rfl,rfl⟩:=zac.mp e2;exact k μ1 H1 _ s1 R1 rfl
theorem ztR(ha:IT' X a ft):IT' X (.UnaryOp .Not a pos) (λσ=>bnd (ft σ) λt=>ok (!t)):=by refine PT.imp (zvt ha) λσ H Q q0=>?_;obtain⟨μ,h,env,R0,re,t,h',e,k⟩:=q0;simp only[zab,zac] at e;obtain⟨u,h1,e1,rfl,rfl⟩:=e;refine⟨μ,h,env,R0,re,u,h1,e1,λμ1 H1 v s1 R1 hv=>?_⟩;subst hv;exact k μ1 H1 _ s1 R1 rfl
theorem zq3{rest:List Expr}(ha:IE X a f)(hb:IE X (.BoolOp .And (b::rest) pos) g):IE X (.BoolOp .And (a::b::rest) pos) (λσ=>bnd (f σ) λx=>match x with | .d (.bl c)=>if c then g σ else ok (.d (.bl false)) | _=>λ_=>none):=by
 refine PE.imp (ztI ha hb) λσ H Q q0=>?_;obtain⟨μ,h,env,R0,re,r,h',e,k⟩:=q0;simp only[zab] at e;obtain⟨x,h1,e1,e2⟩:=e;refine⟨μ,h,env,R0,re,x,h1,e1,λμ1 H1 v s1 R1 q1=>?_⟩
 cases x with
 |loc l=>cases e2
 | d d=>
  cases d with
  | bl c=>
   simp only[RepR,RepD] at q1;refine⟨c,q1,?_⟩
   cases c with|true=>simp only[if_true] at e2⊢;exact⟨μ1,h1,env,R1,re.stp s1 R0,r,h',e2,λμ2 H2 v s2 R2 hv=>k μ2 H2 v (s1.trans s2) R2 hv⟩|false=>simp only[ZN,if_false] at e2⊢;obtain⟨rfl,rfl⟩:=zac.mp e2;exact k μ1 H1 _ s1 R1 (by simp only[RepR,RepD])
  |_=>cases e2
theorem ztY{rest:List Expr}(ha:IE X a f)(hb:IE X (.BoolOp .Or (b::rest) pos) g):IE X (.BoolOp .Or (a::b::rest) pos) (λσ=>bnd (f σ) λx=>match x with | .d (.bl c)=>if c then ok (.d (.bl true)) else g σ | _=>λ_=>none):=by
 refine PE.imp (zvR ha hb) λσ H Q q0=>?_;obtain⟨μ,h,env,R0,re,r,h',e,k⟩:=q0;simp only[zab] at e;obtain⟨x,h1,e1,e2⟩:=e;refine⟨μ,h,env,R0,re,x,h1,e1,λμ1 H1 v s1 R1 q1=>?_⟩
 cases x with
 |loc l=>cases e2
 | d d=>
  cases d with
  | bl c=>
   simp only[RepR,RepD] at q1;refine⟨c,q1,?_⟩
   cases c with|false=>simp only[ZN,if_false] at e2⊢;exact⟨μ1,h1,env,R1,re.stp s1 R0,r,h',e2,λμ2 H2 v s2 R2 hv=>k μ2 H2 v (s1.trans s2) R2 hv⟩|true=>simp only[if_true] at e2⊢;obtain⟨rfl,rfl⟩:=zac.mp e2;exact k μ1 H1 _ s1 R1 (by simp only[RepR,RepD])
  |_=>cases e2
theorem znz{pins:List (Addr×Obj)}{d:D}{v:V}{u:Value}{b:Bool}{Q:Bool->Shared->Prop}{E:Value->Shared->Prop}(I:Inv X pins σ H s)(q:RdD X.K A0 H d v)(r:RelV v u)(e:tru d=some b)(k:∀tk,Q b {s with toks:=tk}):
  wpAny (model X.prog X.w) A (truthy u) Q E s:=by
 have hl:=zgE;have hs:sizeLine=16777216:=XN
 cases d with
 |non=>
  simp only[RdD,RepD] at q;subst q;cases r
  simp only[tru,Z5] at e;subst e
  exact PyProof.Rows.truthy_none (k s.toks)
 |bl c=>
  simp only[RdD,RepD] at q;subst q;cases r
  simp only[tru,Z5] at e;subst e
  exact XW (k s.toks)
 |int i=>
  simp only[RdD,RepD] at q;subst q
  obtain⟨t,rfl⟩:=r
  simp only[tru,Z5] at e;subst e
  exact PySem.P.truthy_int (k s.toks)
 | str x=>
  simp only[RdD,RepD] at q;subst q
  obtain⟨t,rfl⟩:=r;simp only[tru] at e
  split at e
  ·rename_i hf
   simp only[Z5] at e;have hx:x.length<=big:=of_decide_eq_true hf;unfold big at hx
   refine PySem.P.truthy_str (by rw[zdw];omega) ?_
   have e2:(((zbj x).length:Int) != 0)=b:=by
    rw[<-e,zdw]
    cases x<;>simp
    omega
   rw[e2];exact k _
  ·cases e
 | tup xs=>
  simp only[RdD,RepD] at q;obtain⟨a,vs,rfl,q,zs⟩:=q;cases r;simp only[tru,Z5] at e;obtain⟨its,ri,pl,hz⟩:=I.tuple q;have hlen:=ri.length;have h1:=zs.length
  refine PyProof.Rows.truthy_tuple pl (by simp only[ZX];omega) ?_
  have e2:(!its.toArray.isEmpty)=b:=by
   rw[zcI ri,<-e];clear hlen ri pl q hz
   cases xs<;>cases vs<;>first | rfl | (simp at h1)
  rw[e2];exact k _
 | lst xs=>
  obtain⟨a,vs,rfl,q,zs⟩:=q;cases r;simp only[tru,Z5] at e;obtain⟨its,ri,pl,hz⟩:=I.list q;have hlen:=ri.length;have h1:=zs.length
  refine wpAny_truthy_list pl.isList (by simp only[ZX];omega) ?_
  have e2:(!its.toArray.isEmpty)=b:=by
   rw[zcI ri,<-e];clear hlen ri pl q hz
   cases xs<;>cases vs<;>first | rfl | (simp at h1)
  rw[e2];exact k _
theorem zs9(ha:IE X a f):IE X (.UnaryOp .Not a pos) (λσ=>bnd (f σ) λx=>bnd (rd x) λd=>bnd (opt (tru d)) λt=>ok (.d (.bl (!t)))):=by
 intro pins s σ H Q I q0;obtain⟨μ,h,env,R0,re,r,h',e,k⟩:=q0;simp only[zab,zay,zac] at e;obtain⟨x,h1,e1,d,h2,e2,t,h3,⟨e3,rfl⟩,rfl,rfl⟩:=e
 have z:=ha pins s σ H (λy H1=>∃A0 d,RdD X.K A0 H1 d y/\tru d=some t/\Q (.bl (!t)) H1) I ⟨μ,h,env,R0,re,x,h1,e1,λμ1 H1 v s1 R1 q1=>by
  obtain⟨rfl,z⟩:=zbT R1 q1 e2
  exact⟨_,d,z,e3,k μ1 H1 _ s1 R1 (by simp only[RepR,RepD])⟩⟩
 refine PyProof.Rows.UnaryOp_ (thn z λv s1 ⟨y,H1,I1,r1,A0,d',z1,z2,q1⟩=>PyProof.Rows.not_of ?_);exact znz I1 z1 r1 z2 λtk=>⟨.bl (!t),H1,I1.tok _,rfl,q1⟩
theorem zuD(ha:IE X a f):IE X (.UnaryOp .USub a pos) (λσ=>bnd (f σ) λx=>match x with | .d (.int i)=>ok (.d (.int (-i))) | _=>λ_=>none):=by
 refine PE.imp (zwk zuM ha) λσ H Q q0=>?_;obtain⟨μ,h,env,R0,re,r,h',e,k⟩:=q0;simp only[zab] at e;obtain⟨x,h1,e1,e2⟩:=e;refine⟨μ,h,env,R0,re,x,h1,e1,λμ1 H1 v s1 R1 q1=>?_⟩
 cases x with
 |loc l=>cases e2
 | d d=>
  cases d with|int i=>simp only[RepR,RepD] at q1;obtain⟨rfl,rfl⟩:=zac.mp e2;exact⟨i,q1,k μ1 H1 _ s1 R1 (by simp only[RepR,RepD])⟩|_=>cases e2
theorem ztb(hc:IT' X c ft)(ha:IE X a f)(hb:IE X b g):IE X (.IfExp c a b pos) (λσ=>bnd (ft σ) λt=>if t then f σ else g σ):=by
 refine PE.imp (zo0 hc ha hb) λσ H Q q0=>?_;obtain⟨μ,h,env,R0,re,r,h',e,k⟩:=q0;simp only[zab] at e;obtain⟨t,h1,e1,e2⟩:=e;refine⟨μ,h,env,R0,re,t,h1,e1,λμ1 H1 v s1 R1 hv=>?_⟩;subst hv
 cases t with|true=>simp only[if_true] at e2⊢;exact⟨μ1,h1,env,R1,re.stp s1 R0,r,h',e2,λμ2 H2 v s2 R2 hv=>k μ2 H2 v (s1.trans s2) R2 hv⟩|false=>simp only[ZN,if_false] at e2⊢;exact⟨μ1,h1,env,R1,re.stp s1 R0,r,h',e2,λμ2 H2 v s2 R2 hv=>k μ2 H2 v (s1.trans s2) R2 hv⟩
theorem zqq:IA X [] (λ_=>ok []):=by refine PA.imp zeA λσ H Q q0=>?_;obtain⟨μ,h,env,R0,re,r,h',e,k⟩:=q0;obtain⟨rfl,rfl⟩:=zac.mp e;exact k μ H [] Stp.refl R0 .nil
theorem zhr{fs:IT.Env->M (List R)}(ha:IE X e f)(hr:IA X es fs)(hs:ZW (e::es) X.env=(false,eval e X.env)::ZW es X.env):IA X (e::es) (λσ=>bnd (f σ) λr=>bnd (fs σ) λrs=>ok (r::rs)):=by refine PA.imp (zbG ha hr hs) λσ H Q q0=>?_;obtain⟨μ,h,env,R0,re,r,h',e,k⟩:=q0;simp only[zab,zac] at e;obtain⟨x,h1,e1,xs,h2,e2,rfl,rfl⟩:=e;exact⟨μ,h,env,R0,re,x,h1,e1,λμ1 H1 v s1 R1 q1=>⟨μ1,h1,env,R1,re.stp s1 R0,xs,h2,e2,λμ2 H2 vs s2 R2 q2=>k μ2 H2 (v::vs) (s1.trans s2) R2 (.cons (q1.stp s2 R1) q2)⟩⟩
theorem ztA{n:Nat}{fs:IT.Env->M (List R)}(h:IA X es fs)(hl:es.length<=1000)(hf:∀σ h rs h',fs σ h=some (rs,h')->rs.length=es.length):IE X (.Tuple es n pos) (λσ=>bnd (fs σ) λrs=>bnd (fzs rs) λds=>ok (.d (.tup ds))):=by
 refine PE.imp (zqn h) λσ H Q q0=>?_;obtain⟨μ,h,env,R0,re,r,h',e,k⟩:=q0;simp only[zab,zac] at e;obtain⟨rs,h1,e1,ds,h2,e2,rfl,rfl⟩:=e;refine⟨μ,h,env,R0,re,rs,h1,e1,λμ1 H1 vs s1 R1 q1=>⟨?_,λp hp=>?_⟩⟩
 ·rw [<-q1.length,hf _ _ _ _ e1]
  have:(1000:Nat)<=sizeLine:=by decide
  omega
 ·obtain ⟨s2,R2,q2⟩:=zmW R1 q1 e2
  have s3:Stp μ1 h2 H1 μ1 h2 (upd H1 p (.tup vs)):=Stp.fresh hp;refine k μ1 _ (.ref p) ((s1.trans s2).trans s3) (R2.fresh hp) ?_;simp only[RepR,RepD];exact⟨p,vs,rfl,SqT.of zam,RepDs.stp s3 R2 q2⟩
theorem zsE{fs:IT.Env->M (List R)}(h:IA X es fs)(hl:es.length<=1000)(hf:∀σ h rs h',fs σ h=some (rs,h')->rs.length=es.length):IL X (.List es pos) (λσ=>bnd (fs σ) λrs=>fzs rs):=by
 refine PE.imp (ztm h) λσ H Q q0=>?_;obtain⟨μ,h,env,R0,re,ds,h',e,k⟩:=q0;simp only[zab] at e;obtain⟨rs,h1,e1,e2⟩:=e;refine⟨μ,h,env,R0,re,rs,h1,e1,λμ1 H1 vs s1 R1 q1=>⟨?_,λp hp=>?_⟩⟩
 ·rw [<-q1.length,hf _ _ _ _ e1]
  have:(1000:Nat)<=sizeLine:=by decide
  omega
 ·obtain ⟨s2,R2,q2⟩:=zmW R1 q1 e2
  exact k μ1 H1 p vs (s1.trans s2) R2 q2 hp
theorem ziu{fl:IT.Env->M (List D)}(m:Bool)(h:IL X e fl):IE X e (λσ=>bnd (fl σ) λxs=>if m then alloc xs else ok (.d (.lst xs))):=by
 refine PE.imp h λσ H Q q0=>?_;obtain⟨μ,h,env,R0,re,r,h',e,k⟩:=q0;simp only[zab] at e;obtain⟨xs,h1,e1,e2⟩:=e;refine⟨μ,h,env,R0,re,xs,h1,e1,λμ1 H1 a vs s1 R1 q1 ha=>?_⟩
 cases m with
 |true=>simp only[if_true,alloc,Z5,Z1] at e2;obtain⟨rfl,rfl⟩:=e2;refine k (μ1++[a]) _ (.ref a) (s1.trans (Stp.alloc R1 ha)) (R1.alloc ha q1) ⟨a,?_,rfl⟩;rw[<-R1.len];simp
 |false=>
  simp only[ZN,if_false] at e2;obtain⟨rfl,rfl⟩:=zac.mp e2;have s2:Stp μ1 h1 H1 μ1 h1 (upd H1 a (.lst vs)):=Stp.fresh ha;refine k μ1 _ (.ref a) (s1.trans s2) (R1.fresh ha) ?_;simp only[RepR,RepD];refine⟨a,vs,rfl,.inl ⟨λl=>?_,.inl zam⟩,RepDs.stp s2 R1 q1⟩;obtain⟨ws,z,_⟩:=R1.liveAt l
  rw[ha] at z;cases z
end
end IT
namespace IT
open PySem PySem.Spec L2
section
variable {K:Z7}{A0:Addr->Prop}{H:Hp}
theorem zhe(x y:List Nat):(zbj x==zbj y)=(x==y):=by
 by_cases e:x=y
 ·subst e;simp
 ·rw[beq_eq_false_iff_ne.mpr e,beq_eq_false_iff_ne.mpr (λz=>e (zdJ z))]
structure zbB(X:Cx)(s:Shared)(H:Hp):Prop where
 lst:∀a vs,SqL X.K H a vs->∃its:List Value,Vals vs its/\s.heap.IsList a its.toArray
 tup:∀a vs,SqT X.K H a vs->∃its:List Value,Vals vs its/\s.heap.IsTuple a its.toArray
theorem zaP(I:Inv X pins σ H s):zbB X s H:=⟨λa vs q=>let ⟨its,r,p,_⟩:=I.list q;⟨its,r,p.isList⟩,λa vs q=>let ⟨its,r,p,_⟩:=I.tuple q;⟨its,r,p⟩⟩
theorem zd1{α:Type}(xs ys:List α)(f:α->α->Bool)(hl:xs.length=ys.length)(e:Nat->Bool)(he:∀(j:Nat) (x y:α),xs[j]?=some x->ys[j]?=some y->e j=f x y):
  (Zy xs.length).all e=(xs.zip ys).all λp=>f p.1 p.2:=by
 rw[V0,YS,YS];constructor
 ·intro h p hp
  obtain⟨j,hj,e1⟩:=Yx hp
  have hj':j<xs.length/\j<ys.length:=by simp at hj;omega
  have e2:p=(xs[j]'hj'.1,ys[j]'hj'.2):=by rw[<-e1,List.getElem_zip]
  rw[e2,<-he j _ _ (Z6 hj'.1) (Z6 hj'.2)];exact h j (by simpa using hj'.1)
 ·intro h j hj
  have hj1:j<xs.length:=by simpa using hj
  have hj2:j<ys.length:=by omega
  rw[he j _ _ (Z6 hj1) (Z6 hj2)];refine h (xs[j],ys[j]) ?_;rw[List.mem_iff_getElem]
  exact⟨j,by simp;omega,by simp⟩
theorem zdA:∀xs ys:List D,xs.length=ys.length->D.eqbs xs ys=(xs.zip ys).all λp=>p.1.eqb p.2| [],[],_=>rfl|x::xs,y::ys,h=>by simp only[D.eqbs,List.zip_cons_cons,Wm];rw[zdA xs ys (by simpa using h)]
theorem zdv:∀xs ys:List D,xs.length≠ys.length->D.eqbs xs ys=false| [],[],h=>absurd rfl h| [],_::_,_=>rfl|_::_,[],_=>rfl|x::xs,y::ys,h=>by simp only[D.eqbs];rw[zdv xs ys (by simpa using h),X6]
theorem zoT(r:Vals vs its)(e:vs[j]?=some v)(h:j<its.length):RelV v its[j]:=by obtain⟨u,e1,r1⟩:=r.get e;rw[Z6 h] at e1;cases e1;exact r1
mutual
theorem D.eqb_refl:∀x:D,x.eqb x=true|.non=>rfl|.bl a=>by simp[D.eqb]|.int a=>by simp[D.eqb]|.str a=>by simp[D.eqb]|.tup a=>by simp only[D.eqb];exact D.eqbs_refl a|.lst a=>by simp only[D.eqb];exact D.eqbs_refl a
theorem D.eqbs_refl:∀x:List D,D.eqbs x x=true| []=>rfl|a::r=>by simp only[D.eqbs,Z8];exact⟨D.eqb_refl a,D.eqbs_refl r⟩
end
section
variable {X:Cx}{s:Shared}
theorem znq(S:zbB X s H)(q:SqT X.K H a vs)(q':SqT X.K H a ws):vs=ws:=by
 obtain⟨its,ri,o,h1,_,_,h2⟩:=S.tup a vs q;obtain⟨its',ri',o',h1',_,_,h2'⟩:=S.tup a ws q'
 rw[h1] at h1';cases h1';rw[h2] at h2';cases h2'
 exact Vals.inj ri ri'
theorem zmT(S:zbB X s H)(q:SqL X.K H a vs)(q':SqL X.K H a ws):vs=ws:=by
 obtain⟨its,ri,o,h1,_,_,h2⟩:=S.lst a vs q;obtain⟨its',ri',o',h1',_,_,h2'⟩:=S.lst a ws q'
 rw[h1] at h1';cases h1';rw[h2] at h2';cases h2'
 exact Vals.inj ri ri'
theorem zom(S:zbB X s H)(q:SqL X.K H a vs)(q':SqT X.K H a ws):False:=by obtain⟨its,ri,p⟩:=S.lst a vs q;obtain⟨its',ri',p'⟩:=S.tup a ws q';exact SeqAt.ne_of_list_tuple p p' rfl
mutual
theorem RepD.inj(S:zbB X s H):∀(x y:D) (v:V),RepD X.K A0 H x v->RepD X.K A0 H y v->x=y
 |.non,y,v,qx,qy=>by
  simp only[RepD] at qx;subst qx
  cases y<;>simp_all [RepD]
 |.bl c,y,v,qx,qy=>by
  simp only[RepD] at qx;subst qx
  cases y<;>simp_all [RepD]
 |.int c,y,v,qx,qy=>by
  simp only[RepD] at qx;subst qx
  cases y<;>simp_all [RepD]
 |.str c,y,v,qx,qy=>by
  simp only[RepD] at qx;subst qx
  cases y with|str b=>simp only[RepD,V.str.injEq] at qy;rw[zdJ qy]|_=>simp[RepD] at qy
 | .tup c,y,v,qx,qy=>by
  simp only[RepD] at qx;obtain⟨a,vs,rfl,q,zs⟩:=qx
  cases y with|tup b=>simp only[RepD] at qy;obtain⟨a',vs',e,q',zs'⟩:=qy;cases e;have e2:=znq S q q';subst e2;rw[RepDs.inj S c b vs zs zs']|lst b=>simp only[RepD] at qy;obtain⟨a',vs',e,q',zs'⟩:=qy;cases e;exact(zom S q'.sq q).elim|_=>simp[RepD] at qy
 | .lst c,y,v,qx,qy=>by
  simp only[RepD] at qx;obtain⟨a,vs,rfl,q,zs⟩:=qx
  cases y with|lst b=>simp only[RepD] at qy;obtain⟨a',vs',e,q',zs'⟩:=qy;cases e;have e2:=zmT S q.sq q'.sq;subst e2;rw[RepDs.inj S c b vs zs zs']|tup b=>simp only[RepD] at qy;obtain⟨a',vs',e,q',zs'⟩:=qy;cases e;exact(zom S q.sq q').elim|_=>simp[RepD] at qy
theorem RepDs.inj(S:zbB X s H):∀(x y:List D) (v:List V),RepDs X.K A0 H x v->RepDs X.K A0 H y v->x=y
 | [],y,v,qx,qy=>by
  simp only[RepDs] at qx;subst qx
  cases y with|nil=>rfl|cons _ _=>have:=qy.length;simp at this
 | x::xs,y,v,qx,qy=>by
  simp only[RepDs] at qx;obtain⟨w,ws,rfl,q1,q2⟩:=qx
  cases y with|nil=>have:=qy.length;simp at this|cons y ys=>simp only[RepDs] at qy;obtain⟨w',ws',e,q1',q2'⟩:=qy;cases e;rw[RepD.inj S x y w q1 q1',RepDs.inj S xs ys ws q2 q2']
end
end
def za3(xs ys:List D)(j:Nat):Bool:=match xs[j]?,ys[j]? with|some x,some y=>x.eqb y|_,_=>false
section
variable {X:Cx}{s:Shared}
inductive Vw(X:Cx)(s:Shared)(H:Hp)(A0:Addr->Prop):D->Value->Prop where|non:Vw X s H A0 .non .none|bl (b:Bool):Vw X s H A0 (.bl b) (.bool b)|int (b:Int) (t:Tok):Vw X s H A0 (.int b) (.int b t)|str (b:List Nat) (t:Tok):Vw X s H A0 (.str b) (.str (zbj b) t)|tup (c:List D) (a:Addr) (vs:List V) (its:List Value) (q:SqT X.K H a vs) (zs:RepDs X.K A0 H c vs) (ri:Vals vs its) (p:s.heap.IsTuple a its.toArray):Vw X s H A0 (.tup c) (.ref a)|lst (c:List D) (a:Addr) (vs:List V) (its:List Value) (q:SqL X.K H a vs) (zs:RepDs X.K A0 H c vs) (ri:Vals vs its) (p:s.heap.IsList a its.toArray):Vw X s H A0 (.lst c) (.ref a)
theorem vw(S:zbB X s H)(q:RdD X.K A0 H x v)(r:RelV v u):Vw X s H A0 x u:=by
 cases x with|non=>simp only[RdD,RepD] at q;subst q;cases r;exact .non|bl b=>simp only[RdD,RepD] at q;subst q;cases r;exact .bl b|int b=>simp only[RdD,RepD] at q;subst q;obtain⟨t,rfl⟩:=r;exact .int b t|str b=>simp only[RdD,RepD] at q;subst q;obtain⟨t,rfl⟩:=r;exact .str b t|tup c=>simp only[RdD,RepD] at q;obtain⟨a,vs,rfl,q,zs⟩:=q;cases r;obtain⟨its,ri,p⟩:=S.tup a vs q;exact .tup c a vs its q zs ri p|lst c=>obtain⟨a,vs,rfl,q,zs⟩:=q;cases r;obtain⟨its,ri,p⟩:=S.lst a vs q;exact .lst c a vs its q zs ri p
theorem zhh(zs:RepDs X.K A0 H c vs)(zt:RepDs X.K A0 H b ws)(ri:Vals vs us)(rj:Vals ws ts):((Zy (min us.toArray.size ts.toArray.size)).all (za3 c b)&&us.toArray.size==ts.toArray.size)=D.eqbs c b:=by
 have l1:=zs.length;have l2:=zt.length;have l3:=ri.length;have l4:=rj.length
 by_cases hl:c.length=b.length
 ·have hm:min us.toArray.size ts.toArray.size=c.length:=by simp;omega
  rw[hm,zdA c b hl,zd1 c b (λx y=>x.eqb y) hl (za3 c b) (λj x y h1 h2=>by simp[za3,h1,h2])]
  have:(us.toArray.size==ts.toArray.size)=true:=by simp;omega
  rw[this,Wj]
 ·rw [zdv c b hl]
  have:(us.toArray.size==ts.toArray.size)=false:=by simp;omega
  rw[this,X6]
mutual
theorem zqK(S:zbB X s H):∀(x y:D) (A:Around) (v w:V) (u t:Value),RdD X.K A0 H x v->RdD X.K A0 H y w->RelV v u->RelV w t->A.units+min x.dep y.dep<cLine->Yn A s u t (x.eqb y)
 |.non,y,A,v,w,_,_,qx,qy,ru,rt,hu=>by
  cases vw S qx ru with | non=>
  cases vw S qy rt with|non=>exact .same _|bl b=>exact .none_bool b|int b t=>exact .none_int b t|str b t=>exact .none_str _ t|tup _ _ _ _ _ _ _ p=>exact .none_tuple p (by omega)|lst _ _ _ _ _ _ _ p=>exact .none_list p (by omega)
 |.bl c,y,A,v,w,_,_,qx,qy,ru,rt,hu=>by
  cases vw S qx ru with | bl=>
  cases vw S qy rt with|non=>exact .bool_none c|bl b=>exact .bool_bool c b|int b t=>exact .bool_int c b t|str b t=>exact .bool_str c _ t|tup _ _ _ _ _ _ _ p=>exact .bool_tuple c p (by omega)|lst _ _ _ _ _ _ _ p=>exact .bool_list c p (by omega)
 |.int c,y,A,v,w,_,_,qx,qy,ru,rt,hu=>by
  cases vw S qx ru with | int _ u=>
  cases vw S qy rt with|non=>exact .int_none c u|bl b=>exact .int_bool c u b|int b t=>exact .int_int c u b t|str b t=>exact .int_str c u _ t|tup _ _ _ _ _ _ _ p=>exact .int_tuple c u p (by omega)|lst _ _ _ _ _ _ _ p=>exact .int_list c u p (by omega)
 |.str c,y,A,v,w,_,_,qx,qy,ru,rt,hu=>by
  cases vw S qx ru with | str _ u=>
  cases vw S qy rt with|non=>exact .str_none _ u|bl b=>exact .str_bool _ u b|int b t=>exact .str_int _ u b t|str b t=>have z:=Yn.str_str (A:=A) (s:=s) (zbj c) u (zbj b) t;rw[zhe] at z;exact z|tup _ _ _ _ _ _ _ p=>exact .str_tuple _ u p (by omega)|lst _ _ _ _ _ _ _ p=>exact .str_list _ u p (by omega)
 | .tup c,y,A,v,w,_,_,qx,qy,ru,rt,hu=>by
  have hu0:A.units<cLine:=by omega
  cases vw S qx ru with | tup _ a vs its q zs ri p=>
  cases vw S qy rt with
  |non=>exact .tuple_none p hu0|bl b=>exact .tuple_bool b p hu0|int b t=>exact .tuple_int b t p hu0|str b t=>exact .tuple_str _ t p hu0|lst _ _ _ _ _ _ _ p'=>exact .tuple_list p p' hu0
  | tup b a' vs' its' q' zs' ri' p'=>
   have key:=pairs_D S c b A.in1 vs vs' its its' zs zs' ri ri' (by
    show A.units+1+_<cLine;simp only[D.dep] at hu
    omega)
   by_cases hab:a=a'
   ·subst hab
    have e2:=znq S q q';subst e2;have e1:=RepDs.inj S c b vs zs zs';subst e1;refine(show D.eqb (.tup c) (.tup c)=true from D.eqb_refl _)▸Yn.same _
   ·refine Yn.of_refs hab ?_
    have:=X2.tuples (e:=za3 c b) p p' hu0 (λj h1 h2=>by
     have:=key j (by simpa using h1) (by simpa using h2)
     simpa using this)
    rw[zhh zs zs' ri ri'] at this;exact this
 | .lst c,y,A,v,w,_,_,qx,qy,ru,rt,hu=>by
  have hu0:A.units<cLine:=by omega
  cases vw S qx ru with | lst _ a vs its q zs ri p=>
  cases vw S qy rt with
  |non=>exact .list_none p hu0|bl b=>exact .list_bool b p hu0|int b t=>exact .list_int b t p hu0|str b t=>exact .list_str _ t p hu0|tup _ _ _ _ _ _ _ p'=>exact .list_tuple p p' hu0
  | lst b a' vs' its' q' zs' ri' p'=>
   have key:=pairs_D S c b A.in1 vs vs' its its' zs zs' ri ri' (by
    show A.units+1+_<cLine;simp only[D.dep] at hu
    omega)
   by_cases hab:a=a'
   ·subst hab
    have e2:=zmT S q q';subst e2;have e1:=RepDs.inj S c b vs zs zs';subst e1;refine(show D.eqb (.lst c) (.lst c)=true from D.eqb_refl _)▸Yn.same _
   ·refine Yn.of_refs hab ?_
    show X2 A s _ _ (D.eqbs c b);have l1:=zs.length;have l2:=zs'.length;have l3:=ri.length;have l4:=ri'.length
    by_cases hl:c.length=b.length
    ·have:=X2.lists (e:=za3 c b) p p' (by simp;omega) hu0 (λj h1 h2=>by
      have:=key j (by simpa using h1) (by simpa using h2)
      simpa using this)
     have hm:its.toArray.size=c.length:=by simp;omega
     rw[hm,zd1 c b (λx y=>x.eqb y) hl (za3 c b) (λj x y h1 h2=>by simp[za3,h1,h2]),<-zdA c b hl] at this;exact this
    ·rw [zdv c b hl]
     exact X2.lists_lengths p p' (by simp;omega) hu0
theorem pairs_D(S:zbB X s H):∀(xs ys:List D) (A:Around) (vs ws:List V) (us ts:List Value),RepDs X.K A0 H xs vs->RepDs X.K A0 H ys ws->Vals vs us->Vals ws ts->A.units+min (D.deps xs) (D.deps ys)<cLine →
  ∀(j:Nat) (h1:j<us.length) (h2:j<ts.length),Yn A s us[j] ts[j] (za3 xs ys j)
 | [],ys,A,vs,ws,us,ts,qx,qy,ru,rt,hu,j,h1,h2=>by have l1:=qx.length;have l2:=ru.length;rw[Xv] at l1;omega
 | x :: xs,ys,A,vs,ws,us,ts,qx,qy,ru,rt,hu,j,h1,h2=>by
  rw[RepDs] at qx;obtain⟨v,vs,rfl,qx1,qx2⟩:=qx
  cases ru with
  | cons ru1 ru2=>
   cases ys with
   |nil=>have l1:=qy.length;have l2:=rt.length;rw[Xv] at l1;omega
   | cons y ys=>
    rw[RepDs] at qy;obtain⟨w,ws,rfl,qy1,qy2⟩:=qy
    cases rt with
    | cons rt1 rt2=>
     simp only[D.deps] at hu
     cases j with
     |zero=>simp only[List.getElem_cons_zero,za3,List.getElem?_cons_zero];exact zqK S x y A v w _ _ (RdD.of qx1) (RdD.of qy1) ru1 rt1 (X1 (Nat.add_le_add_left (Nat.le_min.mpr ⟨ZJ (Nat.min_le_left _ _) (Nat.le_max_left _ _),ZJ (X7 _ _) (Nat.le_max_left _ _)⟩) _) hu)
     |succ j=>
      simp only[List.getElem_cons_succ]
      have:=pairs_D S xs ys A vs ws _ _ qx2 qy2 ru2 rt2 (X1 (Nat.add_le_add_left (Nat.le_min.mpr ⟨ZJ (Nat.min_le_left _ _) (Nat.le_max_right _ _),ZJ (X7 _ _) (Nat.le_max_right _ _)⟩) _) hu) j (by simpa using h1) (by simpa using h2)
      simpa only[za3,Y6] using this
end
end
end
end IT
namespace PySem
open Sem (wp)
open Builtin AutoSeq1
theorem zi2(l:Addr)(items:Array Value)(n:Nat)(dd:Option Addr)(sl:Array (Option Value))(b:Addr)(items2:Array Value)(n2:Nat)(dd2:Option Addr)(sl2:Array (Option Value))(hc0:items.size+items2.size<=sizeLine):
  Meets (YG.«list.__add__» ⟨[.ref l,.ref b],[]⟩) (λ_ R s=>s.heap.get? l=some {cls:=.type "list",dict:=dd,data:=.seq items n,slots:=sl}/\s.heap.get? b=some {cls:=.type "list",dict:=dd2,data:=.seq items2 n2,slots:=sl2}/\R (.ok (.ret (YM s.heap.objs.size))) {s with heap:=s.heap.push {cls:=Xs "list",data:=Data.seq (items++items2)}}):=
 .of_wp λprog w A R s h=>by obtain⟨hp,g,d,tk,os⟩:=s;obtain⟨hl,hb,h⟩:=h;have f1:=idx_int;have f2:=sub_tuple_tuple;have f3:=sub_list_list;have f4:=sub_tuple_list;have f5:=sub_list_tuple;wp_walk using Xw hl,Xw hb;exact⟨_,rfl,h⟩
theorem zf9(l:Addr)(items:Array Value)(n:Nat)(b:Addr)(items2:Array Value)(n2:Nat)(dd2:Option Addr)(sl2:Array (Option Value))(hc0:¬(!items.isEmpty&&Yc (items.size+items2.size))=true)(hc1:items.size<=sizeLine)(hs2:items.size+items2.size<=sizeLine+1):
  Meets (YG.«list.extend» ⟨[.ref l,.ref b],[]⟩) (λ_ R s=>s.heap.get? l=some {cls:=.type "list",dict:=none,data:=.seq items n,slots:=#[]}/\s.heap.get? b=some {cls:=.type "list",dict:=dd2,data:=.seq items2 n2,slots:=sl2}/\R (.ok (.ret W5)) {s with heap:=s.heap.update l (Ym λx=>x++items2),toks:=s.toks}):=
 .of_wp λprog w A R s h=>by
  obtain⟨hp,g,d,tk,os⟩:=s;obtain⟨hl,hb,h⟩:=h;have f1:=idx_int;have f2:=sub_tuple_tuple;have f3:=sub_list_list;have f4:=sub_tuple_list;have f5:=sub_list_tuple;
  have hz':(items++items2).size<=sizeLine+1:=by rw[Array.size_append];exact hs2
  wp_walk using(wpAny_updateSeq hl rfl (hz:=hc1) (_hz':=hz')),Xw hl,Xw hb;exact⟨_,rfl,h⟩
end PySem
namespace IT
open PySem PySem.Spec L2
section
variable {X:Cx}
theorem znV:OpR X (YT .Add) (λx y H Q=>∃l b xs zs,x=.ref l/\y=.ref b/\SqL X.K H l xs/\SqL X.K H b zs/\xs.length+zs.length<=sizeLine/\∀p,H p=none->Q (.ref p) (upd H p (.lst (xs++zs)))):=by
 intro pins s σ H x y v u Q I rx ry h;obtain⟨l,b,xs,zs,rfl,rfl,hH,hB,hz,q⟩:=h;cases rx;cases ry;obtain⟨its,r,⟨o,n,e,hc,hd,hs⟩,_⟩:=I.list hH;obtain⟨its2,r2,⟨o2,n2,e2,hc2,hd2,hs2⟩,_⟩:=I.list hB;have hl:=r.length;have hl2:=r2.length;obtain⟨cls,dd,data,sl⟩:=o;obtain⟨cls2,dd2,data2,sl2⟩:=o2;simp only at hc hd hs hc2 hd2 hs2;subst hc hd hs hc2 hd2 hs2
 refine concat_meets ⟨_,e,rfl⟩ ⟨_,e2,rfl⟩ noFill_list_add seq_list_add F.slot_list_add F.entry_list_add (F.args_list_add_2 _ _) (zi2 l its.toArray n none sl b its2.toArray n2 none sl2 (by rw[ZX,ZX];omega)) ⟨e,e2,?_⟩
 have ea:its.toArray++its2.toArray=(its++its2).toArray:=by simp
 rw[ea]
 exact⟨.ref _,_,I.lnew (t':=s.toks) (r.append r2) (by rw[ZS];omega),rfl,q _ I.fresh⟩
theorem zlz:MtM X "list.extend" (λx vs H Q=>∃l b xs zs,x=.ref l/\vs=[.ref b]/\H l=some (.lst xs)/\SqL X.K H b zs/\xs.length+zs.length<=sizeLine/\Q .non (upd H l (.lst (xs++zs)))):=by
 intro pins s σ H x vs v us Q I rx rv h;obtain⟨l,b,xs,zs,rfl,rfl,hH,hB,hz,q⟩:=h;cases rx;obtain⟨u,rfl,ru⟩:=rv.one;cases ru;obtain⟨z,its,n,r,hl,e⟩:=I.lstM hH;obtain⟨its2,r2,⟨o2,n2,e2,hc2,hd2,hs2⟩,_⟩:=I.list hB;have hl2:=r2.length;obtain⟨cls2,dd2,data2,sl2⟩:=o2;simp only at hc2 hd2 hs2;subst hc2 hd2 hs2
 have hsz:its.toArray.size+its2.toArray.size<=sizeLine:=by rw[ZX,ZX];omega
 have hlong:¬(!its.toArray.isEmpty&&Yc (its.toArray.size+its2.toArray.size))=true:=by rw[zpw hsz,X6];exact Yo
 refine Xr F.slot_list_extend ⟨_,e,rfl⟩ F.entry_list_extend (F.args_list_extend_2 _ _)
  (zf9 l its.toArray n b its2.toArray n2 none sl2 hlong (by rw[ZX];omega) (by omega)) ⟨e,e2,?_⟩
 refine⟨.non,_,I.lset (its':=its++its2) hH e (by simp) (r.append r2) ?_,rfl,q⟩;rw[ZS];omega
end
end IT
namespace IT
open PySem PySem.Spec L2
open PySem.StrLaws Builtin.Str
theorem pick_run(x:List Nat)(i:Nat):∀k,i+k<=x.length->(((Zy k).map λm=>i+m).filterMap λj=>x[j]?)=(x.drop i).take k
 |0,_=>by simp
 |k+1,h=>by
  rw[List.range_succ,Zp,List.filterMap_append,pick_run x i k (by omega),List.take_succ]
  congr 1
  have hx:i+k<x.length:=by omega
  simp[Z6 hx]
section
variable {A0:Addr->Prop}{H:Hp}{X:Cx}{s:Shared}
theorem zuz(S:zbB X s H)(x y:D)(A:Around)(v w:V)(u t:Value)(qx:RdD X.K A0 H x v)(qy:RdD X.K A0 H y w)(ru:RelV v u)(rt:RelV w t)(hu:A.units+min x.dep y.dep<cLine):X2 A s u t (x.eqb y):=by
 have hu0:A.units<cLine:=by omega
 cases vw S qx ru with
 |non=>
  cases vw S qy rt with|non=>exact .none_none|bl b=>exact .none_bool b|int b t=>exact .none_int b t|str b t=>exact .none_str _ t|tup _ _ _ _ _ _ _ p=>exact .none_tuple p hu0|lst _ _ _ _ _ _ _ p=>exact .none_list p hu0
 |bl c=>
  cases vw S qy rt with|non=>exact .bool_none c|bl b=>exact .bool_bool c b|int b t=>exact .bool_int c b t|str b t=>exact .bool_str c _ t|tup _ _ _ _ _ _ _ p=>exact .bool_tuple c p hu0|lst _ _ _ _ _ _ _ p=>exact .bool_list c p hu0
 |int c u=>
  cases vw S qy rt with|non=>exact .int_none c u|bl b=>exact .int_bool c u b|int b t=>exact .int_int c u b t|str b t=>exact .int_str c u _ t|tup _ _ _ _ _ _ _ p=>exact .int_tuple c u p hu0|lst _ _ _ _ _ _ _ p=>exact .int_list c u p hu0
 |str c u=>
  cases vw S qy rt with|non=>exact .str_none _ u|bl b=>exact .str_bool _ u b|int b t=>exact .str_int _ u b t|str b t=>have z:=X2.str_str (A:=A) (s:=s) (zbj c) u (zbj b) t;rw[zhe] at z;exact z|tup _ _ _ _ _ _ _ p=>exact .str_tuple _ u p hu0|lst _ _ _ _ _ _ _ p=>exact .str_list _ u p hu0
 | tup c a vs its q zs ri p=>
  cases vw S qy rt with
  |non=>exact .tuple_none p hu0|bl b=>exact .tuple_bool b p hu0|int b t=>exact .tuple_int b t p hu0|str b t=>exact .tuple_str _ t p hu0|lst _ _ _ _ _ _ _ p'=>exact .tuple_list p p' hu0
  |tup b a' vs' its' q' zs' ri' p'=>
   have key:=pairs_D S c b A.in1 vs vs' its its' zs zs' ri ri' (by show A.units+1+_<cLine;simp only[D.dep] at hu;omega)
   have:=X2.tuples (e:=za3 c b) p p' hu0 (λj h1 h2=>by have:=key j (by simpa using h1) (by simpa using h2);simpa using this)
   rw[zhh zs zs' ri ri'] at this;exact this
 | lst c a vs its q zs ri p=>
  cases vw S qy rt with
  |non=>exact .list_none p hu0|bl b=>exact .list_bool b p hu0|int b t=>exact .list_int b t p hu0|str b t=>exact .list_str _ t p hu0|tup _ _ _ _ _ _ _ p'=>exact .list_tuple p p' hu0
  | lst b a' vs' its' q' zs' ri' p'=>
   have key:=pairs_D S c b A.in1 vs vs' its its' zs zs' ri ri' (by show A.units+1+_<cLine;simp only[D.dep] at hu;omega)
   have l1:=zs.length;have l2:=zs'.length;have l3:=ri.length;have l4:=ri'.length
   show X2 A s _ _ (D.eqbs c b)
   by_cases hl:c.length=b.length
   ·have:=X2.lists (e:=za3 c b) p p' (by simp;omega) hu0 (λj h1 h2=>by have:=key j (by simpa using h1) (by simpa using h2);simpa using this)
    have hm:its.toArray.size=c.length:=by simp;omega
    rw[hm,zd1 c b (λx y=>x.eqb y) hl (za3 c b) (λj x y h1 h2=>by simp[za3,h1,h2]),<-zdA c b hl] at this;exact this
   ·rw [zdv c b hl]
    exact X2.lists_lengths p p' (by simp;omega) hu0
theorem zkj(S:zbB X s H)(x y:D)(A:Around)(v w:V)(u t:Value)(qx:RdD X.K A0 H x v)(qy:RdD X.K A0 H y w)(ru:RelV v u)(rt:RelV w t)(hu:A.units+min x.dep y.dep<cLine):Xd A s u t (!x.eqb y):=by
 have hu0:A.units<cLine:=by omega
 cases vw S qx ru with
 |non=>
  cases vw S qy rt with|non=>exact .none_none|bl b=>exact .none_bool b|int b t=>exact .none_int b t|str b t=>exact .none_str _ t|tup _ _ _ _ _ _ _ p=>exact .none_tuple p hu0|lst _ _ _ _ _ _ _ p=>exact .none_list p hu0
 |bl c=>
  cases vw S qy rt with|non=>exact .bool_none c|bl b=>exact .bool_bool c b|int b t=>exact .bool_int c b t|str b t=>exact .bool_str c _ t|tup _ _ _ _ _ _ _ p=>exact .bool_tuple c p hu0|lst _ _ _ _ _ _ _ p=>exact .bool_list c p hu0
 |int c u=>
  cases vw S qy rt with|non=>exact .int_none c u|bl b=>exact .int_bool c u b|int b t=>exact .int_int c u b t|str b t=>exact .int_str c u _ t|tup _ _ _ _ _ _ _ p=>exact .int_tuple c u p hu0|lst _ _ _ _ _ _ _ p=>exact .int_list c u p hu0
 |str c u=>
  cases vw S qy rt with|non=>exact .str_none _ u|bl b=>exact .str_bool _ u b|int b t=>exact .str_int _ u b t|str b t=>have z:=Xd.str_str (A:=A) (s:=s) (zbj c) u (zbj b) t;rw[zhe] at z;exact z|tup _ _ _ _ _ _ _ p=>exact .str_tuple _ u p hu0|lst _ _ _ _ _ _ _ p=>exact .str_list _ u p hu0
 | tup c a vs its q zs ri p=>
  cases vw S qy rt with
  |non=>exact .tuple_none p hu0|bl b=>exact .tuple_bool b p hu0|int b t=>exact .tuple_int b t p hu0|str b t=>exact .tuple_str _ t p hu0|lst _ _ _ _ _ _ _ p'=>exact .tuple_list p p' hu0
  |tup b a' vs' its' q' zs' ri' p'=>
   have key:=pairs_D S c b A.in1 vs vs' its its' zs zs' ri ri' (by show A.units+1+_<cLine;simp only[D.dep] at hu;omega)
   have:=Xd.tuples (e:=za3 c b) p p' hu0 (λj h1 h2=>by have:=key j (by simpa using h1) (by simpa using h2);simpa using this)
   rw[zhh zs zs' ri ri'] at this;exact this
 | lst c a vs its q zs ri p=>
  cases vw S qy rt with
  |non=>exact .list_none p hu0|bl b=>exact .list_bool b p hu0|int b t=>exact .list_int b t p hu0|str b t=>exact .list_str _ t p hu0|tup _ _ _ _ _ _ _ p'=>exact .list_tuple p p' hu0
  | lst b a' vs' its' q' zs' ri' p'=>
   have key:=pairs_D S c b A.in1 vs vs' its its' zs zs' ri ri' (by show A.units+1+_<cLine;simp only[D.dep] at hu;omega)
   have l1:=zs.length;have l2:=zs'.length;have l3:=ri.length;have l4:=ri'.length
   show Xd A s _ _ (!D.eqbs c b)
   by_cases hl:c.length=b.length
   ·have:=Xd.lists (e:=za3 c b) p p' (by simp;omega) hu0 (λj h1 h2=>by have:=key j (by simpa using h1) (by simpa using h2);simpa using this)
    have hm:its.toArray.size=c.length:=by simp;omega
    rw[hm,zd1 c b (λx y=>x.eqb y) hl (za3 c b) (λj x y h1 h2=>by simp[za3,h1,h2]),<-zdA c b hl] at this;exact this
   ·rw [zdv c b hl]
    exact Xd.lists_lengths p p' (by simp;omega) hu0
end
section
variable {X:Cx}
theorem zpI:OpR X (YT .Add) (λx y H Q=>∃a b ys,x=.ref a/\y=.ref b/\SqT X.K H a []/\SqT X.K H b ys/\Q (.ref b) H):=by
 intro pins s σ H x y v u Q I rx ry h;obtain⟨a,b,ys,rfl,rfl,ha,hb,q⟩:=h
 cases rx;cases ry
 obtain⟨its,r1,p1,_⟩:=I.tuple ha;obtain⟨its2,r2,p2,_⟩:=I.tuple hb;have hi:its=[]:=r1.nil_iff.mpr rfl;subst hi;obtain⟨⟨cls,dd,data,sl⟩,ho,hc,n,hd⟩:=id p1;obtain⟨⟨cls2,dd2,data2,sl2⟩,ho2,hc2,n2,hd2⟩:=id p2;simp only at hc hd hc2 hd2;subst hc hd hc2 hd2;refine PySem.concat_meets ⟨_,ho,rfl⟩ ⟨_,ho2,rfl⟩ PySem.noFill_tuple_add PySem.seq_tuple_add Xe Xn (XB _ _) (PyProof.Rows.tuple_addW0 a b _ its2.toArray n n2 dd dd2 sl sl2 ?_) ⟨ho,ho2,?_⟩
 ·rfl
 ·exact⟨.ref b,H,I,rfl,q⟩
theorem zlW(h1:0<=i)(h2:0<=j):Xi i j=((i.toNat &&& j.toNat:Nat):Int):=by unfold Xi;rw[decide_eq_true h1,decide_eq_true h2]
theorem zoN(h1:0<=i)(h2:0<=j):Wl i j=((i.toNat ||| j.toNat:Nat):Int):=by unfold Wl Xi YG.bitNot;rw[decide_eq_false (show ¬0<=-i-1 by omega),decide_eq_false (show ¬0<=-j-1 by omega)];simp only;rw[show-(-i-1)-1=i by omega,show-(-j-1)-1=j by omega];omega
theorem zpk:OpD X (YT .BitAnd) (bop .band):=by
 intro pins s σ H v u v' u' Q I rv ru q;obtain⟨μ,h,a,b,z,R0,qa,qb,e,k⟩:=q
 cases a with
 | int i=>
  cases b with
  | int j=>
   simp only[RdD,RepD] at qa qb
   (change (if _=true then _ else _)=some _ at e;simp only[Z8,decide_eq_true_eq] at e)
   split at e
   ·rename_i hf
    cases e
    exact zuQ pins s σ H v u v' u' Q I rv ru ⟨i,j,qa,qb,by show Q (V.int (Xi i j)) H;rw[zlW hf.1 hf.2];exact k μ H _ Stp.refl R0 (by simp only[RepD])⟩
   ·cases e
  |_=>exact zae e
 |_=>cases b<;>exact zae e
theorem zq8:OpD X (YT .BitOr) (bop .bor):=by
 intro pins s σ H v u v' u' Q I rv ru q;obtain⟨μ,h,a,b,z,R0,qa,qb,e,k⟩:=q
 cases a with
 | int i=>
  cases b with
  | int j=>
   simp only[RdD,RepD] at qa qb
   (change (if _=true then _ else _)=some _ at e;simp only[Z8,decide_eq_true_eq] at e)
   split at e
   ·rename_i hf
    cases e
    exact zwb pins s σ H v u v' u' Q I rv ru ⟨i,j,qa,qb,by show Q (V.int (Wl i j)) H;rw[zoN hf.1 hf.2];exact k μ H _ Stp.refl R0 (by simp only[RepD])⟩
   ·cases e
  |_=>exact zae e
 |_=>cases b<;>exact zae e
theorem zsG:OpD X (YT .Add) (bop .add):=by
 intro pins s σ H v u v' u' Q I rv ru q;obtain⟨μ,h,a,b,z,R0,qa,qb,e,k⟩:=q
 cases a with
 | int i=>
  cases b with|int j=>simp only[RdD,RepD] at qa qb;replace e:=ZZ e;subst e;exact ztO pins s σ H v u v' u' Q I rv ru ⟨i,j,qa,qb,k μ H _ Stp.refl R0 (by simp only[RepD])⟩|_=>exact zae e
 | tup xs=>
  cases b with
  | tup ys=>
   simp only[RdD,RepD] at qa qb;obtain⟨p,vs,rfl,q1,z1⟩:=qa;obtain⟨p',vs',rfl,q2,z2⟩:=qb;change (if _=true then _ else _)=some _ at e
   split at e
   ·rename_i hf
    cases e;have l1:=z1.length;have l2:=z2.length;have hlen:xs.length+ys.length<=sizeLine:=of_decide_eq_true hf
    by_cases hv:vs=[]
    ·subst hv
     have hx:xs=[]:=by cases xs with | nil=>rfl | cons _ _=>simp at l1
     subst hx
     exact zpI pins s σ H _ _ v' u' Q I rv ru ⟨p,p',vs',rfl,rfl,q1,q2,k μ H _ Stp.refl R0 (by simp only[RepD];exact⟨p',vs',rfl,q2,z2⟩)⟩
    refine zrT pins s σ H _ _ v' u' Q I rv ru ⟨p,p',vs,vs',rfl,rfl,q1,q2,hv,by omega,λhn=>?_,λ_ r hr=>?_⟩
    ·subst hn
     cases ys with
     |nil=>
      rw[Zc] at k
      exact k μ H _ Stp.refl R0 (by simp only[RepD];exact⟨p,vs,rfl,q1,z1⟩)
     |cons _ _=>simp at l2
    ·have s2:Stp μ h H μ h (upd H r (.tup (vs++vs'))):=Stp.fresh hr
     refine k μ _ (.ref r) s2 (R0.fresh hr) ?_;simp only[RepD];exact⟨r,vs++vs',rfl,SqT.of zam,RepDs.stp s2 R0 (z1.app z2)⟩
   ·cases e
  |_=>exact zae e
 | lst xs=>
  cases b with
  | lst ys=>
   obtain⟨p,vs,rfl,q1,z1⟩:=qa;obtain⟨p',vs',rfl,q2,z2⟩:=qb;change (if _=true then _ else _)=some _ at e
   split at e
   ·rename_i hf
    cases e;have l1:=z1.length;have l2:=z2.length;have hlen:xs.length+ys.length<=sizeLine:=of_decide_eq_true hf;refine znV pins s σ H _ _ v' u' Q I rv ru ⟨p,p',vs,vs',rfl,rfl,q1,q2,by omega,λr hr=>?_⟩;have s2:Stp μ h H μ h (upd H r (.lst (vs++vs'))):=Stp.fresh hr;refine k μ _ (.ref r) s2 (R0.fresh hr) ?_;simp only[RepD];refine⟨r,vs++vs',rfl,.inl ⟨λl=>?_,.inl zam⟩,RepDs.stp s2 R0 (z1.app z2)⟩;obtain⟨ws,w,_⟩:=R0.liveAt l
    rw[hr] at w;cases w
   ·cases e
  |_=>exact zae e
 |_=>cases b<;>exact zae e
theorem zrh:OpD X (YT .Sub) (bop .sub):=by
 intro pins s σ H v u v' u' Q I rv ru q;obtain⟨μ,h,a,b,z,R0,qa,qb,e,k⟩:=q
 cases a with
 | int i=>
  cases b with|int j=>simp only[RdD,RepD] at qa qb;replace e:=ZZ e;subst e;exact zuL pins s σ H v u v' u' Q I rv ru ⟨i,j,qa,qb,k μ H _ Stp.refl R0 (by simp only[RepD])⟩|_=>exact zae e
 |_=>cases b<;>exact zae e
theorem zpl:OpD X (YT .FloorDiv) (bop .fdiv):=by
 intro pins s σ H v u v' u' Q I rv ru q;obtain⟨μ,h,a,b,z,R0,qa,qb,e,k⟩:=q
 cases a with
 | int i=>
  cases b with
  | int j=>
   simp only[RdD,RepD] at qa qb;change (if _=true then _ else _)=some _ at e
   split at e
   ·rename_i hf
    rw[Z8] at hf;cases e;have h0:(0:Int)<j:=of_decide_eq_true hf.1;have h1:j<1000000000000000000000000000000000000000000000000000000000000:=of_decide_eq_true hf.2;subst qa qb;obtain⟨t1,rfl⟩:=rv;obtain⟨t2,rfl⟩:=ru;refine PyProof.Rows.floordiv_int (by omega) ?_ (.inl (PyProof.noPylong_of_log2 ?_))
    ·have ef:i.fdiv j=i / j:=Int.fdiv_eq_ediv_of_nonneg i (by omega)
     rw[ef];exact⟨.int (i / j),H,I.tok _,⟨_,rfl⟩,k μ H _ Stp.refl R0 (by simp only[RepD])⟩
    ·have hj:j.natAbs<2^200:=by
      omega
     have hj0:j.natAbs≠0:=by omega
     have:=(Nat.log2_lt hj0).mpr hj
     omega
   ·cases e
  |_=>exact zae e
 |_=>cases b<;>exact zae e
theorem zrM:OpD X (YT .Mod) (bop .mod):=by
 intro pins s σ H v u v' u' Q I rv ru q;obtain⟨μ,h,a,b,z,R0,qa,qb,e,k⟩:=q
 cases a with
 | int i=>
  cases b with
  | int j=>
   simp only[RdD,RepD] at qa qb;change (if _=true then _ else _)=some _ at e
   split at e
   ·rename_i hf
    cases e;exact zvk pins s σ H v u v' u' Q I rv ru ⟨i,j,qa,qb,of_decide_eq_true hf,k μ H _ Stp.refl R0 (by simp only[RepD])⟩
   ·cases e
  |_=>exact zae e
 |_=>cases b<;>exact zae e
theorem zve(hu:X.A.units+64<cLine):OpD X (Zg .Eq) (cop .eq):=by
 intro pins s σ H v u v' u' Q I rv ru q;obtain⟨μ,h,a,b,z,R0,qa,qb,e,k⟩:=q
 (delta cop at e;(try dsimp only at e))
 split at e
 ·rename_i hf
  cases e;have hd:min a.dep b.dep<=60:=of_decide_eq_true hf;exact zuz (zaP I) a b X.A v u v' u' qa qb rv ru (by omega) X.prog X.w X.xe _ ⟨.bl _,H,I,rfl,k μ H _ Stp.refl R0 (by simp only[RepD])⟩
 ·cases e
theorem zuv(hu:X.A.units+64<cLine):OpD X (Zg .NotEq) (cop .ne):=by
 intro pins s σ H v u v' u' Q I rv ru q;obtain⟨μ,h,a,b,z,R0,qa,qb,e,k⟩:=q
 (delta cop at e;(try dsimp only at e))
 split at e
 ·rename_i hf
  cases e;have hd:min a.dep b.dep<=60:=of_decide_eq_true hf;exact zkj (zaP I) a b X.A v u v' u' qa qb rv ru (by omega) X.prog X.w X.xe _ ⟨.bl _,H,I,rfl,k μ H _ Stp.refl R0 (by simp only[RepD])⟩
 ·cases e
theorem zto:OpD X (Zg .Lt) (cop .lt):=by
 intro pins s σ H v u v' u' Q I rv ru q;obtain⟨μ,h,a,b,z,R0,qa,qb,e,k⟩:=q
 cases a with
 | int i=>
  cases b with|int j=>simp only[RdD,RepD] at qa qb;replace e:=ZZ e;subst e;exact zvW pins s σ H v u v' u' Q I rv ru ⟨i,j,qa,qb,k μ H _ Stp.refl R0 (by simp only[RepD])⟩|_=>exact zae e
 |_=>cases b<;>exact zae e
theorem zuc:OpD X (Zg .LtE) (cop .le):=by
 intro pins s σ H v u v' u' Q I rv ru q;obtain⟨μ,h,a,b,z,R0,qa,qb,e,k⟩:=q
 cases a with
 | int i=>
  cases b with|int j=>simp only[RdD,RepD] at qa qb;replace e:=ZZ e;subst e;exact zwr pins s σ H v u v' u' Q I rv ru ⟨i,j,qa,qb,k μ H _ Stp.refl R0 (by simp only[RepD])⟩|_=>exact zae e
 |_=>cases b<;>exact zae e
theorem ztQ:OpD X (Zg .Gt) (cop .gt):=by
 intro pins s σ H v u v' u' Q I rv ru q;obtain⟨μ,h,a,b,z,R0,qa,qb,e,k⟩:=q
 cases a with
 | int i=>
  cases b with|int j=>simp only[RdD,RepD] at qa qb;replace e:=ZZ e;subst e;exact zwj pins s σ H v u v' u' Q I rv ru ⟨i,j,qa,qb,k μ H _ Stp.refl R0 (by simp only[RepD])⟩|_=>exact zae e
 |_=>cases b<;>exact zae e
theorem zu9:OpD X (Zg .GtE) (cop .ge):=by
 intro pins s σ H v u v' u' Q I rv ru q;obtain⟨μ,h,a,b,z,R0,qa,qb,e,k⟩:=q
 cases a with
 | int i=>
  cases b with|int j=>simp only[RdD,RepD] at qa qb;replace e:=ZZ e;subst e;exact zvM pins s σ H v u v' u' Q I rv ru ⟨i,j,qa,qb,k μ H _ Stp.refl R0 (by simp only[RepD])⟩|_=>exact zae e
 |_=>cases b<;>exact zae e
theorem zqT(hu:X.A.units+64<cLine)(I:Inv X pins σ H s)(qa:RdD X.K (Live μ h) H a v)(rv:RelV v v')(hd:a.dep<=60)
  {xs:List D} {ws:List V} {its:List Value} (q:RepDs X.K (Live μ h) H xs ws) (r:Vals ws its):
  ∃f:Value->Bool,(∀y,y∈its.toArray->Yn X.A.in1 s y v' (f y))/\∀(j:Nat) (x:D) (y:Value),xs[j]?=some x->its[j]?=some y->f y=x.eqb a:=by
 have S:=zaP I
 classical
 have base:∀(y:Value) (x:D) (w:V),RepD X.K (Live μ h) H x w->RelV w y->Yn X.A.in1 s y v' (x.eqb a):=λy x w qx rx=>zqK S x a X.A.in1 w v y v' (RdD.of qx) qa rx rv (by show X.A.units+1+_<cLine;omega)
 have at':∀(j:Nat) (y:Value),its[j]?=some y->∃x w,xs[j]?=some x/\RepD X.K (Live μ h) H x w/\RelV w y:=by
  intro j y hy;have hj:j<its.length:=(Z9.mp hy).1
  have hj2:j<ws.length:=by rw[r.length];exact hj
  obtain⟨x,hx,qx⟩:=q.get' (Z6 hj2);obtain⟨u,hu',ru⟩:=r.get (Z6 hj2);rw[hy] at hu';cases hu';exact⟨x,_,hx,qx,ru⟩
 refine⟨λy=>decide (∃(x:D) (w:V),RepD X.K (Live μ h) H x w/\RelV w y/\x.eqb a=true),λy hy=>?_,λj x y hx hy=>?_⟩
 ·obtain ⟨j,hj⟩:=List.getElem?_of_mem (show y∈its by simpa using hy)
  obtain⟨x,w,hx,qx,rx⟩:=at' j y hj;dsimp only
  by_cases hx':∃(x:D) (w:V),RepD X.K (Live μ h) H x w/\RelV w y/\x.eqb a=true
  ·rw [decide_eq_true hx']
   obtain⟨x',w',q',r',e'⟩:=hx';rw[<-e'];exact base y x' w' q' r'
  ·rw [decide_eq_false hx']
   cases ex:x.eqb a with|true=>exact absurd ⟨x,_,qx,rx,ex⟩ hx'|false=>rw[<-ex];exact base y x _ qx rx
 ·obtain ⟨x1,w,hx1,qx,rx⟩:=at' j y hy
  rw[hx] at hx1;cases hx1;dsimp only
  cases ex:x.eqb a with
  |true=>exact decide_eq_true ⟨x,w,qx,rx,ex⟩
  |false=>refine decide_eq_false λq_=>?_;obtain⟨x',w',q',r',e'⟩:=q_;have ew:=RelV.inj rx r';rw[RepD.inj S x x' w' (ew▸qx) q'] at ex;rw[ex] at e';cases e'
theorem zht(hu:X.A.units+64<cLine)(I:Inv X pins σ H s)(qa:RdD X.K (Live μ h) H a v)(rv:RelV v v')(hd:a.dep<=60)
  {xs:List D} {ws:List V} {its:List Value} (q:RepDs X.K (Live μ h) H xs ws) (r:Vals ws its):
  ∃f:Value->Bool,(∀y,y∈its.toArray->Yn X.A.in1 s y v' (f y))/\its.toArray.any f=xs.any λy=>y.eqb a:=by
 obtain⟨f,f1,f2⟩:=zqT hu I qa rv hd q r;refine⟨f,f1,?_⟩;have l1:=q.length;have l2:=r.length
 have e:its.map f=xs.map λy=>y.eqb a:=Wq λj=>by
  rw[ZF,ZF]
  by_cases c:j<xs.length
  ·have c2:j<its.length:=by omega
   rw[Z6 c,Z6 c2];exact congrArg some (f2 j _ _ (Z6 c) (Z6 c2))
  ·rw[Zh (by omega),Zh (by omega)];rfl
 have:=congrArg (List.any · id) e
 simpa[Xc] using this
theorem zp8(hu:X.A.units+64<cLine):OpD X (Zg .In) (cop .isin):=by
 intro pins s σ H v u v' u' Q I rv ru q;obtain⟨μ,h,a,b,z,R0,qa,qb,e,k⟩:=q;have S:=zaP I
 (delta cop at e;(try dsimp only at e))
 cases b with
 | tup ys=>
  simp only[items] at e
  split at e
  ·rename_i hf
   cases e;simp only[RdD,RepD] at qb;obtain⟨p,vs,rfl,q1,z1⟩:=qb;cases ru;obtain⟨its,r1,p1⟩:=S.tup p vs q1;obtain⟨f,hf1,hf2⟩:=zht hu I qa rv (of_decide_eq_true hf) z1 r1
   exact SeqAt.in_tupleAt f p1 hf1 ⟨.bl _,H,I,rfl,by rw[hf2];exact k μ H _ Stp.refl R0 (by simp only[RepD])⟩
  ·cases e
 | lst ys=>
  simp only[items] at e
  split at e
  ·rename_i hf
   cases e;obtain⟨p,vs,rfl,q1,z1⟩:=qb;cases ru;obtain⟨its,r1,p1⟩:=S.lst p vs q1;obtain⟨f,hf1,hf2⟩:=zht hu I qa rv (of_decide_eq_true hf) z1 r1
   exact SeqAt.in_listAt f p1 hf1 ⟨.bl _,H,I,rfl,by rw[hf2];exact k μ H _ Stp.refl R0 (by simp only[RepD])⟩
  ·cases e
 |_=>simp[items] at e
theorem zlZ(hu:X.A.units+64<cLine):OpD X (Zg .NotIn) (cop .notin):=by
 intro pins s σ H v u v' u' Q I rv ru q;obtain⟨μ,h,a,b,z,R0,qa,qb,e,k⟩:=q;have S:=zaP I
 (delta cop at e;(try dsimp only at e))
 cases b with
 | tup ys=>
  simp only[items] at e
  split at e
  ·rename_i hf
   cases e;simp only[RdD,RepD] at qb;obtain⟨p,vs,rfl,q1,z1⟩:=qb;cases ru;obtain⟨its,r1,p1⟩:=S.tup p vs q1;obtain⟨f,hf1,hf2⟩:=zht hu I qa rv (of_decide_eq_true hf) z1 r1
   exact SeqAt.notIn_tupleAt f p1 hf1 ⟨.bl _,H,I,rfl,by rw[hf2];exact k μ H _ Stp.refl R0 (by simp only[RepD])⟩
  ·cases e
 | lst ys=>
  simp only[items] at e
  split at e
  ·rename_i hf
   cases e;obtain⟨p,vs,rfl,q1,z1⟩:=qb;cases ru;obtain⟨its,r1,p1⟩:=S.lst p vs q1;obtain⟨f,hf1,hf2⟩:=zht hu I qa rv (of_decide_eq_true hf) z1 r1
   exact SeqAt.notIn_listAt f p1 hf1 ⟨.bl _,H,I,rfl,by rw[hf2];exact k μ H _ Stp.refl R0 (by simp only[RepD])⟩
  ·cases e
 |_=>simp[items] at e
end
end IT
namespace PySem
open Sem (wp)
open Builtin
theorem zdb:fillsNumberSlot (.type "tuple") "mul"=pure false:=fillsNumberSlot_seq (id:="tuple.__mul__") (r:=some (.builtin "tuple.__rmul__")) XI.lookup (by decide +kernel) F.slot_tuple_rmul.lookup (by decide +kernel)
theorem zfc:seqRepeat? (.type "tuple")=pure (some (.builtin "tuple.__mul__")):=by unfold seqRepeat?;rw[seqSlot_of (T:="tuple") (name:="__mul__") (id:="tuple.__mul__") XI.lookup (by decide +kernel),seqSlot_of (T:="tuple") (name:="__rmul__") (id:="tuple.__rmul__") F.slot_tuple_rmul.lookup (by decide +kernel)];rfl
theorem zhy(a:Int)(t:Tok)(l:Addr)(items:Array Value)(n:Nat)(dd:Option Addr)(sl:Array (Option Value)):
  Meets (YG.«int.__rmul__» ⟨[.int a t,.ref l],[]⟩) (λ_ R s=>s.heap.get? l=some {cls:=.type "tuple",dict:=dd,data:=.seq items n,slots:=sl}/\R (.ok (.ret Value.notImplemented)) s):=
 .of_wp λprog w A R s h=>by obtain⟨hp,g,d,tk,os⟩:=s;obtain⟨hl,h⟩:=h;wp_walk;exact⟨_,rfl,h⟩
theorem zhv(t:Tok)(l:Addr)(items:Array Value)(n:Nat)(dd:Option Addr)(sl:Array (Option Value)):
  Meets (YG.«tuple.__mul__» ⟨[.ref l,.int 1 t],[]⟩) (λ_ R s=>s.heap.get? l=some {cls:=.type "tuple",dict:=dd,data:=.seq items n,slots:=sl}/\R (.ok (.ret (.ref l))) s):=
 .of_wp λprog w A R s h=>by obtain⟨hp,g,d,tk,os⟩:=s;obtain⟨hl,h⟩:=h;wp_walk;exact⟨_,rfl,h⟩
theorem zgP(t:Tok)(l:Addr)(items:Array Value)(n:Nat)(dd:Option Addr)(sl:Array (Option Value))(hc:items.isEmpty=false):
  Meets (YG.«tuple.__mul__» ⟨[.ref l,.int 0 t],[]⟩) (λ_ R s=>s.heap.get? l=some {cls:=.type "tuple",dict:=dd,data:=.seq items n,slots:=sl}/\R (.ok (.ret (.ref s.heap.objs.size))) {s with heap:=s.heap.push {cls:=.type "tuple",data:=.seq #[]}}):=
 .of_wp λprog w A R s h=>by obtain⟨hp,g,d,tk,os⟩:=s;obtain⟨hl,h⟩:=h;wp_walk;exact⟨_,rfl,h⟩
theorem zdo(items:Array Value):∀(m:Nat) (acc:Array Value),((ZU m items).foldl (·++·) acc).toList=acc.toList++(ZU m items.toList).flatten|0,acc=>by simp|m+1,acc=>by rw[Y8,WO,zdo items m,Y8,Y2,Array.toList_append,ZO]
theorem zjd(items:Array Value)(m:Nat):((ZU m items).foldl (·++·) #[]).size=items.size*m:=by
 rw[<-Yz,zdo]
 induction m with|zero=>simp|succ m ih=>rw[Y8,Y2,<-ZO];simp only[ZS,List.nil_append] at ih⊢;rw[Yz,Nat.mul_succ];omega
theorem zgI(k:Int)(t:Tok)(l:Addr)(items:Array Value)(n:Nat)(dd:Option Addr)(sl:Array (Option Value))(hc:items.isEmpty=false)(h1:1<k)(h2:k<=16777216)(h3:items.size*k.toNat<=sizeLine):
  Meets (YG.«tuple.__mul__» ⟨[.ref l,.int k t],[]⟩) (λ_ R s=>s.heap.get? l=some {cls:=.type "tuple",dict:=dd,data:=.seq items n,slots:=sl}/\R (.ok (.ret (.ref s.heap.objs.size))) {s with heap:=s.heap.push {cls:=.type "tuple",data:=.seq ((ZU k.toNat items).foldl (·++·) #[])}}):=
 .of_wp λprog w A R s h=>by
  obtain⟨hp,g,d,tk,os⟩:=s;obtain⟨hl,h⟩:=h
  have hk:(items.size:Int)*k=((items.size*k.toNat:Nat):Int):=by rw[Int.natCast_mul,XE (by omega)]
  rw[XN] at h3
  have c1:(decide (k < -(2^63))||decide (k>=2^63))=false:=by simp;omega
  have c2:(items.isEmpty||k==1)=false:=by rw[hc];simp;omega
  have c3:(decide (k<=0)||items.isEmpty)=false:=by rw[hc];simp;omega
  have c4:¬((items.size:Int)*k>(2^63-1) / 8):=by rw[hk];omega
  have c5:Tuple.tupleTooMany ((items.size:Int)*k)=false:=by rw[hk];unfold Tuple.tupleTooMany;rw[XN];exact decide_eq_false (by omega)
  wp_walk
  rw[if_neg (by rw[c1];decide)]
  wp_walk
  dsimp only
  rw[if_neg (by rw[c2];decide)]
  rw[if_neg (by rw[c3];decide)]
  rw[if_neg c4]
  rw[if_neg (by rw[c5];decide)]
  wp_walk
  rw[if_neg (by rw[zjd,XN];omega)]
  wp_walk
  exact⟨_,rfl,h⟩
end PySem
namespace IT
open PySem PySem.Spec L2
section
variable {X:Cx}
theorem Vals.rep(r:Vals xs us):∀m:Nat,Vals (ZU m xs).flatten (ZU m us).flatten|0=>.nil|m+1=>by rw[Y8,Y8,Y2,Y2];exact r.append (Vals.rep r m)
theorem RepDs.rep(q:RepDs K A H xs vs):∀m:Nat,RepDs K A H (ZU m xs).flatten (ZU m vs).flatten|0=>.nil|m+1=>by rw[Y8,Y8,Y2,Y2];exact q.app (RepDs.rep q m)
theorem zog{α:Type}(xs:List α):∀m:Nat,(ZU m xs).flatten.length=xs.length*m|0=>by simp|m+1=>by rw[Y8,Y2,ZS,zog xs m,Nat.mul_succ,Nat.add_comm]
theorem zjw:OpR X (YT .Mult) (λx y H Q=>∃p k xs,x=.ref p/\y=.int k/\SqT X.K H p xs/\xs≠[]/\((k=1/\Q (.ref p) H)\/(k=0/\∀r,H r=none->Q (.ref r) (upd H r (.tup [])))\/
  (1<k/\k<=16777216/\xs.length*k.toNat<=sizeLine/\∀r,H r=none->Q (.ref r) (upd H r (.tup (ZU k.toNat xs).flatten))))):=by
 intro pins s σ H x y v u Q I rx ry q;obtain⟨p,k,xs,rfl,rfl,hq,hn,q⟩:=q;cases rx;obtain⟨t,rfl⟩:=ry;obtain⟨its,r,pt,hz⟩:=I.tuple hq;have hl:=r.length;obtain⟨⟨cls,dd,data,sl⟩,ho,hc,n,hd⟩:=id pt;simp only at hc hd;subst hc hd
 have hne:its.toArray.isEmpty=false:=by
  cases its with
  |nil=>cases xs with
   |nil=>exact absurd rfl hn|cons _ _=>simp at hl
  |cons _ _=>simp
 refine wpAny_binaryOp_repeat_ref (T:="tuple") (U:="int") (by decide) ⟨_,ho,rfl⟩ (λs'=>typeIs_int s' k t) zdb F.fills_int_mul F.slot_int_rmul zfc F.slot_int_index.lookup
  (Xr F.slot_int_rmul (typeIs_int s k t) F.entry_int_rmul (F.args_int_rmul_2 _ _) (zhy k t p its.toArray n dd sl)
   ⟨ho,rfl,⟨_,ho,rfl⟩,?_⟩)
 rcases q with⟨rfl,q⟩|⟨rfl,q⟩|⟨k1,k2,k3,q⟩
 ·exact Xr XI ⟨_,ho,rfl⟩ Wp (Wy _ _) (zhv t p its.toArray n dd sl) ⟨ho,⟨.ref p,H,I,rfl,q⟩⟩
 ·refine Xr XI ⟨_,ho,rfl⟩ Wp (Wy _ _) (zgP t p its.toArray n dd sl hne) ⟨ho,?_⟩
  have hf:H s.heap.objs.size=none:=I.hok.fresh (Z2 _);refine⟨.ref s.heap.objs.size,upd H s.heap.objs.size (.tup []),I.laid (t':=s.toks) (λb u e=>Z0 _ e) (Z2 _) ?_,rfl,q _ hf⟩;exact⟨Zz _,[],.nil,zdy.new _ _⟩
 ·refine Xr XI ⟨_,ho,rfl⟩ Wp (Wy _ _) (zgI k t p its.toArray n dd sl hne k1 k2 (by rw[ZX,<-hl];exact k3)) ⟨ho,?_⟩
  have hf:H s.heap.objs.size=none:=I.hok.fresh (Z2 _)
  have e:(ZU k.toNat its.toArray).foldl (·++·) #[]=((ZU k.toNat its).flatten).toArray:=by apply Array.ext';rw[zdo];simp
  rw[e];refine⟨.ref s.heap.objs.size,upd H s.heap.objs.size (.tup (ZU k.toNat xs).flatten),I.laid (t':=s.toks) (λb u e=>Z0 _ e) (Z2 _) ?_,rfl,q _ hf⟩
  exact⟨by rw[zog];exact k3,_,Vals.rep r _,zdy.new _ _⟩
theorem zsq:OpD X (YT .Mult) (bop .mul):=by
 intro pins s σ H v u v' u' Q I rv ru q;obtain⟨μ,h,a,b,z,R0,qa,qb,e,k⟩:=q
 cases a with
 | int i=>
  cases b with
  | int j=>
   simp only[RdD,RepD] at qa qb;change (if _=true then _ else _)=some _ at e
   split at e
   ·rename_i hf
    cases e;refine zuT pins s σ H v u v' u' Q I rv ru ⟨i,j,qa,qb,?_,k μ H _ Stp.refl R0 (by simp only[RepD])⟩;rw[YY] at hf
    rcases hf with hf | hf
    ·simp only[zjB,Z8] at hf
     exact .inl ⟨of_decide_eq_true hf.1,of_decide_eq_true hf.2⟩
    ·simp only[zjB,Z8] at hf
     exact .inr ⟨of_decide_eq_true hf.1,of_decide_eq_true hf.2⟩
   ·cases e
  |_=>exact zae e
 | tup xs=>
  cases b with
  | int j=>
   simp only[RdD,RepD] at qa qb;obtain⟨p,vs,rfl,q1,z1⟩:=qa;have l1:=z1.length;change (if _=true then _ else _)=some _ at e
   split at e
   ·cases e
   ·rename_i hne
    cases e;simp only[YY,ZC,not_or,decide_eq_true_eq] at hne;obtain⟨⟨⟨n1,n2⟩,n3⟩,n4⟩:=hne
    have n4:fit (xs.length*j.toNat)=true:=by simpa using n4
    have n4:xs.length*j.toNat<=sizeLine:=of_decide_eq_true n4
    have hn:vs≠[]:=by
     rintro rfl
     cases xs with|nil=>simp at n1|cons _ _=>simp at l1
    by_cases h0:j=0
    ·subst h0
     refine zjw pins s σ H _ u v' u' Q I rv ru ⟨p,0,vs,rfl,qb,q1,hn,.inr (.inl ⟨rfl,λr hr=>?_⟩)⟩;have s2:Stp μ h H μ h (upd H r (.tup [])):=Stp.fresh hr;refine k μ _ (.ref r) s2 (R0.fresh hr) ?_;simp only[RepD];exact⟨r,[],rfl,SqT.of zam,.nil⟩
    ·by_cases h1:j=1
     ·subst h1
      refine zjw pins s σ H _ u v' u' Q I rv ru ⟨p,1,vs,rfl,qb,q1,hn,.inl ⟨rfl,k μ H _ Stp.refl R0 ?_⟩⟩;simp only[RepD];rw[show(ZU (1:Int).toNat xs).flatten=xs from by simp];exact⟨p,vs,rfl,q1,z1⟩
     ·refine zjw pins s σ H _ u v' u' Q I rv ru ⟨p,j,vs,rfl,qb,q1,hn,.inr (.inr ⟨by omega,by omega,by rw[<-l1];exact n4,λr hr=>?_⟩)⟩
      have s2:Stp μ h H μ h (upd H r (.tup (ZU j.toNat vs).flatten)):=Stp.fresh hr;refine k μ _ (.ref r) s2 (R0.fresh hr) ?_;simp only[RepD];exact⟨r,_,rfl,SqT.of zam,RepDs.stp s2 R0 (RepDs.rep z1 _)⟩
  |_=>exact zae e
 |_=>cases b<;>exact zae e
theorem zj2(q:RdD K A0 H a v):decide (v=.non)=zar a:=by
 cases a with|non=>simp only[RdD,RepD] at q;subst q;rfl|bl b=>simp only[RdD,RepD] at q;subst q;rfl|int b=>simp only[RdD,RepD] at q;subst q;rfl|str b=>simp only[RdD,RepD] at q;subst q;rfl|tup b=>simp only[RdD,RepD] at q;obtain⟨p,vs,rfl,_⟩:=q;rfl|lst b=>obtain⟨p,vs,rfl,_⟩:=q;rfl
theorem zrA:OpD X (Zg .Is) (cop .isN):=by
 intro pins s σ H v u v' u' Q I rv ru q;obtain⟨μ,h,a,b,z,R0,qa,qb,e,k⟩:=q
 cases b with
 |non=>
  simp only[RdD,RepD] at qb;replace e:=ZZ e;subst e
  exact ztc pins s σ H v u v' u' Q I rv ru ⟨qb,by rw[zj2 qa];exact k μ H _ Stp.refl R0 (by simp only[RepD])⟩
 | bl c=>
  cases a with|bl d=>simp only[RdD,RepD] at qa qb;replace e:=ZZ e;subst e qa qb;have e1:v'=Xt d:=rv;have e2:u'=Xt c:=ru;subst e1 e2;exact PyProof.Rows.is_bool ⟨.bl (d==c),H,I,rfl,k μ H _ Stp.refl R0 (by simp only[RepD])⟩|_=>exact zae e
 |_=>cases a<;>exact zae e
theorem zlx:OpD X (Zg .IsNot) (cop .isnotN):=by
 intro pins s σ H v u v' u' Q I rv ru q;obtain⟨μ,h,a,b,z,R0,qa,qb,e,k⟩:=q
 cases b with
 |non=>
  simp only[RdD,RepD] at qb;replace e:=ZZ e;subst e
  exact zsw pins s σ H v u v' u' Q I rv ru ⟨qb,by rw[zj2 qa];exact k μ H _ Stp.refl R0 (by simp only[RepD])⟩
 | bl c=>
  cases a with|bl d=>simp only[RdD,RepD] at qa qb;replace e:=ZZ e;subst e qa qb;have e1:v'=Xt d:=rv;have e2:u'=Xt c:=ru;subst e1 e2;exact PyProof.Rows.isnot_bool ⟨.bl (d != c),H,I,rfl,k μ H _ Stp.refl R0 (by simp only[RepD])⟩|_=>exact zae e
 |_=>cases a<;>exact zae e
theorem zlR{α:Type}{xs:List α}{i:Int}{x:α}(e:at' xs i=some x):∃j,ixN xs.length i=some j/\xs[j]?=some x:=by
 unfold at' at e
 cases q:ixn xs.length i with|none=>rw[q] at e;cases e|some j=>rw[q] at e;exact⟨j,q,e⟩
theorem ix':IxR X (λv u H Q=>∃μ h a b z,Rep X.K μ h H/\RdD X.K (Live μ h) H a v/\RdD X.K (Live μ h) H b u/\idxD a b=some z/\∀μ' H' w,Stp μ h H μ' h H'->Rep X.K μ' h H'->RepD X.K (Live μ' h) H' z w->Q w H'):=by
 intro value slice pins s σ H v u v' u' Q I rv ru q hs;obtain⟨μ,h,a,b,z,R0,qa,qb,e,k⟩:=q
 cases a with
 | tup xs=>
  cases b with|int i=>simp only[RdD,RepD] at qa qb;obtain⟨p,vs,rfl,q1,z1⟩:=qa;obtain⟨j,e1,e2⟩:=zlR (show at' xs i=some z from e);obtain⟨w,e3,qw⟩:=z1.get e2;refine zku value slice pins s σ H _ u v' u' Q I rv ru ⟨p,vs,i,w,rfl,qb,q1,?_,k μ H w Stp.refl R0 qw⟩ hs;unfold atI;rw[<-z1.length,e1];exact e3|_=>exact zae e
 | lst xs=>
  cases b with|int i=>simp only[RdD,RepD] at qb;obtain⟨p,vs,rfl,q1,z1⟩:=qa;obtain⟨j,e1,e2⟩:=zlR (show at' xs i=some z from e);obtain⟨w,e3,qw⟩:=z1.get e2;refine zod value slice pins s σ H _ u v' u' Q I rv ru ⟨p,vs,i,w,rfl,qb,q1,?_,k μ H w Stp.refl R0 qw⟩ hs;unfold atI;rw[<-z1.length,e1];exact e3|_=>exact zae e
 |_=>exact zae e
theorem zuO(ha:IE X a f)(hb:IE X b g)(hs:zd2 b):IE X (.Subscript a b pos) (λσ=>bnd (f σ) λx=>bnd (g σ) λy=>mD idxD x y):=by refine PE.imp (zov ix' ha hb hs) λσ H Q q=>?_;obtain⟨μ,h,env,R0,re,r,h',e,k⟩:=q;simp only[mD,zab,zac,zay] at e;obtain⟨x,h1,e1,y,h2,e2,dx,h3,e3,dy,h4,e4,z,h5,⟨e5,rfl⟩,rfl,rfl⟩:=e;refine⟨μ,h,env,R0,re,x,h1,e1,λμ1 H1 v s1 R1 q1=>⟨μ1,h1,env,R1,re.stp s1 R0,y,h2,e2,λμ2 H2 u s2 R2 q2=>?_⟩⟩;obtain⟨rfl,zx⟩:=zbT R2 (q1.stp s2 R1) e3;obtain⟨rfl,zy⟩:=zbT R2 q2 e4;exact⟨μ2,_,dx,dy,z,R2,zx,zy,e5,λμ3 H3 w s3 R3 q3=>k μ3 H3 w ((s1.trans s2).trans s3) R3 q3⟩
end
end IT
namespace HT
open PySem PyProof.Rows
section
variable {prog:Zs}{w:World}{A:Around}{E:Value->Shared->Prop}{s:Shared}
theorem getItem_tuple_whole{lo hi:Option Int}(ht:IsTup s.heap t items)(hs:s.heap.IsSliceOf sl vl vu .none)(pl:IsPart vl lo)(pu:IsPart vu hi)
  (hw:sIx items.size 0 lo=0/\sIx items.size items.size hi=items.size) (h:Q (.ref t) s):wpAny (model prog w) A (VW (.ref t) (.ref sl)) Q E s:=by
 obtain⟨os,hos,hcs,hds⟩:=id hs;have hTs:s.TypeIs (.ref sl) "slice":=⟨os,hos,hcs⟩;unfold VW
 try with_reducible refine Ye ?_
 first | refine Z4 (ZY ?_) | skip
 refine Z4 (wpAny_sequenceKey ht.typeIs (by decide) ?_)
 refine Z4 (wpAny_callSpecial?_slot (name:=YH "__getitem__") ht.typeIs Zi
  (W4 Zi ht.typeIs entry_tuple_getitem ?_ (args_tuple_getitem _ _)))
 show wpAny _ _ (XO (.ref t) >>= _) _ _ s;refine Z4 (tupleItemsOf_ ht ?_);refine Z4 (V7 hTs ?_);rw[if_pos (by decide)];refine Z4 (zce hs pl pu ?_)
 have hyes:(((sIx items.size 0 lo:Nat):Int)==0&&(1:Int)==1&&(sIx items.size items.size hi-sIx items.size 0 lo)==items.size)=true:=by rw[hw.1,hw.2];simp
 show wpAny _ _ (if(((sIx items.size 0 lo:Nat):Int)==0&&(1:Int)==1&&(sIx items.size items.size hi-sIx items.size 0 lo)==items.size)=true then _ else _) _ _ s;rw[if_pos hyes];unfold YG.Tuple.tupleIsExact;refine Z4 (Z4 (V7 ht.typeIs (ZY ?_)));rw[if_pos (by decide)]
 first|exact Z4 (Xu (ZY ⟨_,rfl,ZY h⟩))|exact Z4 (Xu (Z4 (ZY (ZY ⟨_,rfl,ZY h⟩))))|exact Z4 (Xu (Z4 (ZY ⟨_,rfl,ZY h⟩)))
end
end HT
namespace IT
open PySem PySem.Spec L2
section
variable {X:Cx}
theorem zrG:SlR X (λx lo hi H Q=>∃a xs,x=.ref a/\SqT X.K H a xs/\(HT.sIx xs.length 0 lo=0/\HT.sIx xs.length xs.length hi=xs.length)/\Q (.ref a) H):=by
 intro pins s σ H x v vl vu lo hi sl Q I rx hs pl pu h;obtain⟨a,xs,rfl,hx,hw,q⟩:=h;cases rx;obtain⟨its,r,ht,hz⟩:=I.tuple hx
 have hlen:its.toArray.size=xs.length:=by rw[ZX];exact r.length.symm
 refine⟨"tuple",_,Zi.lookup,ht.typeIs,?_⟩
 exact HT.getItem_tuple_whole ht hs pl pu (by rw[hlen];exact hw) ⟨.ref a,H,I,rfl,q⟩
theorem zjZ(n d:Nat)(o:Option Int):sIx n d o=HT.sIx n d o:=by cases o<;>rfl
theorem RepDs.cut(q:RepDs K A H xs vs)(lo hi:Option Int):RepDs K A H (IT.cut xs lo hi) (cutV vs lo hi):=by unfold IT.cut cutV;rw[zjZ,zjZ,q.length];exact(q.drop _).take _
theorem sl':SlR X (λv lo hi H Q=>∃μ h a z,Rep X.K μ h H/\RdD X.K (Live μ h) H a v/\cutD a lo hi=some z/\∀μ' H' w,Stp μ h H μ' h H'->Rep X.K μ' h H'->RepD X.K (Live μ' h) H' z w->Q w H'):=by
 intro pins s σ H x v vl vu lo hi sl Q I rx hs pl pu q;obtain⟨μ,h,a,z,R0,qa,e,k⟩:=q
 cases a with
 | tup xs=>
  simp only[RdD,RepD] at qa;obtain⟨p,vs,rfl,q1,z1⟩:=qa;cases e
  by_cases hw:HT.sIx vs.length 0 lo=0/\HT.sIx vs.length vs.length hi=vs.length
  ·refine zrG pins s σ H _ v vl vu lo hi sl Q I rx hs pl pu ⟨p,vs,rfl,q1,hw,k μ H _ Stp.refl R0 ?_⟩
   simp only[RepD];refine⟨p,vs,rfl,q1,?_⟩
   have e2:cut xs lo hi=xs:=by unfold cut;rw[zjZ,zjZ,z1.length,hw.1,hw.2,X5,Nat.sub_zero,<-z1.length,Yp]
   rw[e2];exact z1
  ·refine ztV pins s σ H _ v vl vu lo hi sl Q I rx hs pl pu ⟨p,vs,rfl,q1,hw,λr hr=>?_⟩
   have s2:Stp μ h H μ h (upd H r (.tup (cutV vs lo hi))):=Stp.fresh hr;refine k μ _ (.ref r) s2 (R0.fresh hr) ?_;simp only[RepD];exact⟨r,cutV vs lo hi,rfl,SqT.of zam,RepDs.stp s2 R0 (z1.cut lo hi)⟩
 |lst xs=>
  obtain⟨p,vs,rfl,q1,z1⟩:=qa;cases e;refine zrV pins s σ H _ v vl vu lo hi sl Q I rx hs pl pu ⟨p,vs,rfl,q1,λr hr=>?_⟩;have s2:Stp μ h H μ h (upd H r (.lst (cutV vs lo hi))):=Stp.fresh hr;refine k μ _ (.ref r) s2 (R0.fresh hr) ?_;simp only[RepD];refine⟨r,cutV vs lo hi,rfl,.inl ⟨λl=>?_,.inl zam⟩,RepDs.stp s2 R0 (z1.cut lo hi)⟩;obtain⟨ws,w,_⟩:=R0.liveAt l
  rw[hr] at w;cases w
 |_=>cases e
inductive tO(K:Z7)(f:IT.Env->M R)(σ:St)(H:Hp)(Q:Option Int->Hp->Prop):Prop where|mk (μ:List Addr) (h:Sto) (env:IT.Env) (R0:Rep K μ h H) (re:RepE K μ h H env σ) (d:D) (h':Sto) (o:Option Int) (e:f env h=some (.d d,h')) (ep:part d=some o) (k:∀μ' H',Stp μ h H μ' h' H'->Rep K μ' h' H'->Q o H')
theorem PO.imp(h:PO X oe t)(i:∀σ H Q,t' σ H Q->t σ H Q):PO X oe t':=λpins s σ H Q I q=>h pins s σ H Q I (i σ H Q q)
theorem zrm:PO X none (tO X.K λ_=>ok (.d .non)):=by refine PO.imp zrI λσ H Q q0=>?_;obtain⟨μ,h,env,R0,re,d,h',o,e,ep,k⟩:=q0;simp only[zac,R.d.injEq] at e;obtain⟨rfl,rfl⟩:=e;simp only[part,Z5] at ep;subst ep;exact k μ H Stp.refl R0
theorem zoq(h:IE X e f):PO X (some e) (tO X.K f):=by
 intro pins s σ H Q I ⟨μ,h0,env,R0,re,d,h',o,ef,ep,k⟩;rw[evalPart_some];refine thn (h pins s σ H (λx H1=>(∃i,x=.int i/\Q (some i) H1)\/(x=.non/\Q none H1)) I ⟨μ,h0,env,R0,re,.d d,h',ef,λμ1 H1 v s1 R1 q1=>?_⟩) λu s1 ⟨x,H1,I1,r1,q1⟩=>?_
 ·cases d with|int i=>simp only[RepR,RepD] at q1;simp only[part,Z5] at ep;subst ep;exact .inl ⟨i,q1,k μ1 H1 s1 R1⟩|non=>simp only[RepR,RepD] at q1;simp only[part,Z5] at ep;subst ep;exact .inr ⟨q1,k μ1 H1 s1 R1⟩|_=>simp[part] at ep
 ·rcases q1 with⟨i,rfl,q⟩|⟨rfl,q⟩
  ·obtain ⟨t,rfl⟩:=r1
   exact⟨some i,H1,I1,.int i t,q⟩
  ·cases r1
   exact⟨none,H1,I1,.none,q⟩
theorem zt1(ha:IE X a f)(hl:PO X lo (tO X.K g))(hu:PO X hi (tO X.K k)):IE X (.Subscript a (.Slice lo hi none p2) pos)
  (λσ=>bnd (f σ) λx=>bnd (g σ) λl=>bnd (k σ) λu=>bnd (rd x) λx=>bnd (rd l) λl=>bnd (rd u) λu=>bnd (opt (sliD x l u)) λz=>ok (.d z)):=by
 refine PE.imp (zqd sl' ha hl hu) λσ H Q q0=>?_;obtain⟨μ,h,env,R0,re,r,h',e,kk⟩:=q0;simp only[zab,zac,zay] at e;obtain⟨x,h1,e1,l,h2,e2,u,h3,e3,dx,h4,e4,dl,h5,e5,du,h6,e6,z,h7,⟨e7,rfl⟩,rfl,rfl⟩:=e
 (delta sliD at e7;(try dsimp only at e7))
 have isd:∀(r:R) (d:D) (h h':Sto),rd r h=some (d,h')->∀o,part d=some o->r=.d d/\h'=h:=by
  intro r d h h' e o ep
  cases r with|d x=>simp only[rd,zac] at e;exact⟨by rw[e.1],e.2.symm⟩|loc l=>obtain⟨o,_,_,rfl,_⟩:=zgC e;simp[part] at ep
 cases pl:part dl with
 |none=>rw[pl] at e7;cases e7
 | some lo'=>
  cases pu:part du with|none=>rw[pl,pu] at e7;cases e7|some hi'=>rw[pl,pu] at e7;replace e7:cutD dx lo' hi'=some z:=e7;obtain⟨rfl,hh5⟩:=isd l dl h4 h5 e5 lo' pl;subst hh5;obtain⟨rfl,hh6⟩:=isd u du _ h6 e6 hi' pu;subst hh6;refine⟨μ,h,env,R0,re,x,h1,e1,λμ1 H1 v s1 R1 q1=>⟨μ1,h1,env,R1,re.stp s1 R0,dl,h2,lo',e2,pl,λμ2 H2 s2 R2=>⟨μ2,h2,env,R2,re.stp (s1.trans s2) R0,du,h3,hi',e3,pu,λμ3 H3 s3 R3=>?_⟩⟩⟩;obtain⟨rfl,zx⟩:=zbT R3 ((q1.stp s2 R1).stp s3 R2) e4;exact⟨μ3,_,dx,z,R3,zx,e7,λμ4 H4 w s4 R4 q4=>kk μ4 H4 w (((s1.trans s2).trans s3).trans s4) R4 q4⟩
inductive zqF(K:Z7)(g:List D->Option D)(vs:List V)(H:Hp)(Q:VK):Prop where|mk (μ:List Addr) (h:Sto) (ds:List D) (z:D) (R0:Rep K μ h H) (pr:Paired (RdD K (Live μ h) H) ds vs) (e:g ds=some z) (k:∀μ' H' w,Stp μ h H μ' h H'->Rep K μ' h H'->RepD K (Live μ' h) H' z w->Q w H')
def zoI(X:Cx)(f:Value)(g:List D->Option D):Prop:=zhJ X f λvs H Q=>zqF X.K g vs H Q
theorem zfa
  (q:tE X.K (λσ=>bnd (fs σ) λrs=>bnd (rds rs) λds=>bnd (opt (biD t ds)) λz=>ok (.d z)) σ H Q):
  tAs X.K fs σ H λvs H1=>zqF X.K (biD t) vs H1 Q:=by
 obtain⟨μ,h,env,R0,re,r,h',e,k⟩:=q;simp only[zab,zac,zay] at e;obtain⟨rs,h1,e1,ds,h2,e2,z,h3,⟨e3,rfl⟩,rfl,rfl⟩:=e;refine⟨μ,h,env,R0,re,rs,h1,e1,λμ1 H1 vs s1 R1 q1=>?_⟩;obtain⟨rfl,zs⟩:=zqW R1 q1 e2;exact⟨μ1,_,ds,z,R1,zs,e3,λμ2 H2 w s2 R2 q2=>k μ2 H2 w (s1.trans s2) R2 q2⟩
theorem zlQ:zoI X (.builtin "len") (biD .len):=by
 intro pins s σ H vs us Q I r q;obtain⟨μ,h,ds,z,R0,pr,e,k⟩:=q
 cases pr with
 |nil=>exact zae e
 | @cons d v ds vs qd pr=>
  cases pr with
  |cons _ _=>cases d<;>exact zae e
  | nil=>
   cases d with
   |tup xs=>
    simp only[RdD,RepD] at qd;obtain⟨p,ws,rfl,q1,z1⟩:=qd;replace e:=ZZ e;subst e
    exact zg5 pins s σ H _ us Q I r ⟨.ref p,ws.length,rfl,.inr ⟨ws,q1,rfl⟩,k μ H _ Stp.refl R0 (by simp only[RepD];rw[z1.length])⟩
   |lst xs=>
    obtain⟨p,ws,rfl,q1,z1⟩:=qd;replace e:=ZZ e;subst e
    exact zg5 pins s σ H _ us Q I r ⟨.ref p,ws.length,rfl,.inl ⟨ws,q1,rfl⟩,k μ H _ Stp.refl R0 (by simp only[RepD];rw[z1.length])⟩
   |_=>exact zae e
theorem zjC:zoI X (.type "tuple") (biD .tuple):=by
 intro pins s σ H vs us Q I r q;obtain⟨μ,h,ds,z,R0,pr,e,k⟩:=q
 cases pr with
 |nil=>exact zae e
 | @cons d v ds vs qd pr=>
  cases pr with
  |cons _ _=>cases d<;>exact zae e
  | nil=>
   cases d with
   |tup xs=>
    simp only[RdD,RepD] at qd;obtain⟨p,ws,rfl,q1,z1⟩:=qd;replace e:=ZZ e;subst e
    exact zdN pins s σ H _ us Q I r ⟨p,ws,rfl,.inr ⟨q1,k μ H _ Stp.refl R0 (by simp only[RepD];exact⟨p,ws,rfl,q1,z1⟩)⟩⟩
   |lst xs=>obtain⟨p,ws,rfl,q1,z1⟩:=qd;replace e:=ZZ e;subst e;refine zdN pins s σ H _ us Q I r ⟨p,ws,rfl,.inl ⟨q1,λl hl=>?_⟩⟩;have s2:Stp μ h H μ h (upd H l (.tup ws)):=Stp.fresh hl;refine k μ _ (.ref l) s2 (R0.fresh hl) ?_;simp only[RepD];exact⟨l,ws,rfl,SqT.of zam,RepDs.stp s2 R0 z1⟩|_=>exact zae e
theorem zmE:zoI X (.type "int") (biD .int):=by
 intro pins s σ H vs us Q I r q;obtain⟨μ,h,ds,z,R0,pr,e,k⟩:=q
 cases pr with
 |nil=>exact zae e
 | @cons d v ds vs qd pr=>
  cases pr with
  |cons _ _=>cases d<;>exact zae e
  | nil=>
   cases d with|bl b=>simp only[RdD,RepD] at qd;subst qd;replace e:=ZZ e;subst e;exact ziF pins s σ H _ us Q I r (.inr ⟨b,rfl,k μ H _ Stp.refl R0 (by simp only[RepD])⟩)|int i=>simp only[RdD,RepD] at qd;subst qd;replace e:=ZZ e;subst e;exact ziF pins s σ H _ us Q I r (.inl ⟨i,rfl,k μ H _ Stp.refl R0 (by simp only[RepD])⟩)|_=>exact zae e
end
section
variable {X:Cx}
theorem Rep.placeL(R0:Rep K μ h H){l:Nat}{o:Ob}(e:μ[l]?=some a)(ho:h[l]?=some o)(il:o.isL=true):∃vs,H a=some (.lst vs)/\RepDs K (Live μ h) H o.items vs:=(R0.obj l a o e ho).isL il
theorem Rep.placeO(R0:Rep K μ h H){l:Nat}(e:μ[l]?=some a):∃o,h[l]?=some o:=by
 have hl:l<h.length:=by rw[<-R0.len];exact(Z9.mp e).1
 exact⟨h[l],Z6 hl⟩
theorem znj{f:IT.Env->M R}(ho:IE X o f)(ha:IA X (e::es) fs)(hname:name=("append":Str))
  (hbase:YQ o name X.env (eval o X.env)=eval o X.env)
  (hfew:((backTo cpos (ZW (e::es) X.env)).all (λx=>!x.1)&&(Yy cpos (Y9 [] X.env)).all (λx=>x.1.isSome)
   && decide ((e::es).length+([]:List XU).length+(if([]:List XU).isEmpty then 0 else 1)<30))=true)
  (hline:(apos.endLine==cpos.line)=true) (hs:ZW (e::es) X.env=(false,eval e X.env)::ZW es X.env) (hplain:(backTo cpos (ZW es X.env)).any (·.1)=false):
  IE X (.Call (.Attribute o name apos) (e::es) [] cpos) (λσ=>bnd (f σ) λx=>bnd (zfq x) λ_=>bnd (fs σ) λrs=>meth .append x rs):=by
 subst hname;refine PE.imp (zro Xm PySem.F.slot_list_append PySem.F.type_list_append zoo ho ha hbase hfew hline hs hplain) λσ H Q q0=>?_;obtain⟨μ,h,env,R0,re,r,h',e,k⟩:=q0;simp only[zab] at e;obtain⟨x,h1,e1,_,h1',e0,rs,h2,e2,e3⟩:=e;obtain⟨l,o1,rfl,ho1,il1,rfl⟩:=zgr e0;refine⟨μ,h,env,R0,re,.loc l,_,e1,λμ1 H1 v s1 R1 q1=>?_⟩
 ·skip
  obtain⟨a,ea,rfl⟩:=q1;obtain⟨vs1,hH1,z1⟩:=R1.placeL ea ho1 il1;refine⟨.inl ⟨rfl,vs1,.inl (.inl hH1)⟩,μ1,_,env,R1,re.stp s1 R0,rs,h2,e2,λμ2 H2 ws s2 R2 q2=>?_⟩
  cases q2 with
  |nil=>exact zae e3
  | @cons rr w rs' ws' qr q2=>
   cases q2 with
   |cons _ _=>exact zae e3
   | nil=>
    (delta meth at e3;(try dsimp only at e3);simp only[zab] at e3)
    obtain⟨d,h3,e4,e5⟩:=e3;obtain⟨s3,R3,zd⟩:=zlj R2 qr e4;have ea2:=s2.pre l a ea
    split at e5
    ·rename_i xs hx
     split at e5
     ·rename_i hlen
      simp only[Z5,Z1] at e5;obtain⟨rfl,rfl⟩:=e5;obtain⟨vs3,hH3,z3⟩:=R3.placeL ea2 hx rfl
      have hlen':vs3.length<sizeLine:=by
       have:=z3.length
       have h4:xs.length<big:=of_decide_eq_true hlen;have h5:big=sizeLine:=rfl;simp only[Ob.items] at this;omega
      refine⟨a,vs3,w,rfl,rfl,hH3,hlen',?_⟩;obtain⟨s4,R4⟩:=write R3 ea2 hx (z3.app (RepDs.one zd));exact k μ2 _ .non (((s1.trans s2).trans s3).trans s4) R4 (by simp only[RepR,RepD])
     ·cases e5
    ·cases e5
def spF(K:Z7)(np:Nat)(m:List R->M R):Sp:=λvs H Q _=>vs.length=np/\∃μ h rs,Rep K μ h H/\zbk K μ h H rs vs/\Post K μ h H (RepR K) (m rs h) Q
def kwOf(x:Str):Option (Str×D):=if x=("find_run":Str) then some ("most",.bl true) else none
def kwG{α:Type}(d:α):List α->List α->List α| [a,b],[c]=>[a,b,d,c]|_,_=>[]
def KwAt(K:Z7)(x:Str)(fd:FuncData)(ps:List Str):Prop:=∀y d,kwOf x=some (y,d)->∃du dv,(∀A H,RepD K A H d dv)/\zka K fd ps [y] (kwG du) (kwG dv)
structure zpA(X:Cx)(n:Nat)(x:Str)(np:Nat)(dfl:List D)(m:List R->M R):Prop where
 ex:∃f fd ps dvs,FnOk X.prog X.w X.K X.mg X.base CX0 n f fd ps (spF X.K np m)/\X.mg x=some (.ref f)/\Zb X.K (.ref f)=true/\(∀A H,RepDs X.K A H dfl dvs)/\(∀j,j<=dfl.length->∃ds,zcU X.K fd ps ds/\Vals (dvs.drop j) ds)/\KwAt X.K x fd ps
 fill:∀rs,m rs=m (zaW np dfl rs)
 len:∀rs h p,m rs h=some p->(zaW np dfl rs).length=np
theorem zcK(h:rs.length+dfl.length<np):zaW np dfl rs=rs:=by unfold zaW;rw[if_pos h]
theorem zcu(h:¬rs.length+dfl.length<np):zaW np dfl rs=rs++(dfl.drop (rs.length+dfl.length-np)).map R.d:=by unfold zaW;rw[if_neg h]
theorem zbk.app(a:zbk K μ h H rs vs)(b:zbk K μ h H ss ws):zbk K μ h H (rs++ss) (vs++ws):=by
 induction a with|nil=>exact b|cons q _ ih=>exact .cons q ih
theorem RepDs.rs:∀{ds:List D} {vs:List V},RepDs K (Live μ h) H ds vs->zbk K μ h H (ds.map R.d) vs| [],vs,q=>by simp only[RepDs] at q;subst q;exact .nil|x::xs,vs,q=>by simp only[RepDs] at q;obtain⟨v,r,rfl,h1,h2⟩:=q;exact .cons h1 h2.rs
theorem zsa{p pos:Pos}{fs:IT.Env->M (List R)}(hF:zpA X n x np dfl m)(hr:Room n X.A)(hg:Gl X x)(ha:IA X (e::es) fs)(hf:∀σ h rs h',fs σ h=some (rs,h')->rs.length=(e::es).length)
  (hdb:(x==("__debug__":Str))=false) (he:ZW (e::es) X.env=(false,eval e X.env)::ZW es X.env) (hpl:(backTo pos (ZW es X.env)).any (·.1)=false):
  IE X (.Call (.Name x p) (e::es) [] pos) (λσ=>bnd (fs σ) λrs=>m rs):=by
 obtain⟨f,fd,ps,dvs,F,hm,hk,hd,hb,_⟩:=hF.ex
 by_cases hj:(e::es).length+dfl.length-np<=dfl.length/\¬(e::es).length+dfl.length<np
 ·obtain ⟨hj,hj2⟩:=hj
  obtain⟨ds,hb,hv⟩:=hb _ hj;refine PE.imp (zmr F hr hg hm hk hb hv zif ha hdb he hpl) λσ H Q q0=>?_;obtain⟨μ,h,env,R0,re,r,h',ee,k⟩:=q0;simp only[zab] at ee;obtain⟨rs,h1,e1,e2⟩:=ee;refine⟨μ,h,env,R0,re,rs,h1,e1,λμ1 H1 vs s1 R1 q1=>?_⟩;have hlen:=hF.len _ _ _ e2;rw[hF.fill rs] at e2
  have qq:zbk X.K μ1 h1 H1 (zaW np dfl rs) (vs++dvs.drop ((e::es).length+dfl.length-np)):=by
   rw[zcu (by rw[hf _ _ _ _ e1];exact hj2),hf _ _ _ _ e1]
   exact q1.app (RepDs.drop _ (hd _ _)).rs
  exact⟨by rw[<-qq.length];exact hlen,μ1,h1,zaW np dfl rs,R1,qq,r,h',e2,λμ2 H2 v s2 R2 q2=>k μ2 H2 v (s1.trans s2) R2 q2⟩
 ·obtain ⟨ds,hb,hv⟩:=hb dfl.length (Z2 _)
  refine PE.imp (zmr F hr hg hm hk hb hv zif ha hdb he hpl) λσ H Q q0=>?_;obtain⟨μ,h,env,R0,re,r,h',ee,k⟩:=q0;simp only[zab] at ee;obtain⟨rs,h1,e1,e2⟩:=ee;refine⟨μ,h,env,R0,re,rs,h1,e1,λμ1 H1 vs s1 R1 q1=>?_⟩
  exfalso
  have hlen:=hF.len _ _ _ e2;have hrs:=hf _ _ _ _ e1
  by_cases hs:rs.length+dfl.length<np
  ·rw [zcK hs] at hlen
   omega
  ·rw [zcu hs] at hlen
   simp only[ZS,Z3,W2] at hlen;omega
theorem zoF(hF:zpA X n x np dfl m)(hr:Room n X.A)(hg:Gl X x)(hdb:(x==("__debug__":Str))=false):IE X (.Call (.Name x p) [] [] pos) (λ_=>m []):=by
 obtain⟨f,fd,ps,dvs,F,hm,hk,hd,hb,_⟩:=hF.ex
 by_cases hj:dfl.length-np<=dfl.length/\¬dfl.length<np
 ·obtain ⟨hj,hj2⟩:=hj
  obtain⟨ds,hb,hv⟩:=hb _ hj;refine PE.imp (zkB F hr hg hm hk hb hv zif hdb) λσ H Q q0=>?_;obtain⟨μ,h,env,R0,re,r,h',e2,k⟩:=q0;have hlen:=hF.len _ _ _ e2;rw[hF.fill []] at e2
  have qq:zbk X.K μ h H (zaW np dfl []) ([]++dvs.drop (dfl.length-np)):=by rw[zcu (by simpa using hj2)];simp only[List.nil_append,Xv,Nat.zero_add];exact(RepDs.drop _ (hd _ _)).rs
  exact⟨by rw[<-qq.length];exact hlen,μ,h,zaW np dfl [],R0,qq,r,h',e2,k⟩
 ·obtain ⟨ds,hb,hv⟩:=hb dfl.length (Z2 _)
  refine PE.imp (zkB F hr hg hm hk hb hv zif hdb) λσ H Q q0=>?_;obtain⟨μ,h,env,R0,re,r,h',e2,k⟩:=q0
  exfalso
  have hlen:=hF.len _ _ _ e2
  by_cases hs:([]:List R).length+dfl.length<np
  ·rw [zcK hs] at hlen
   simp at hlen hs;omega
  ·simp at hs
   omega
inductive tG(K:Z7)(t:Tg)(v:V)(σ:St)(H:Hp)(Q:St->Hp->Prop):Prop where|mk (μ:List Addr) (h:Sto) (env:IT.Env) (r:R) (env':IT.Env) (R0:Rep K μ h H) (re:RepE K μ h H env σ) (qr:RepR K μ h H r v) (e:zaY t r env h=some (env',h)) (k:∀σ',RepE K μ h H env' σ'->Q σ' H)
inductive tGs(K:Z7)(ts:List Tg)(vs:List V)(σ:St)(H:Hp)(Q:St->Hp->Prop):Prop where|mk (μ:List Addr) (h:Sto) (env:IT.Env) (xs:List D) (env':IT.Env) (R0:Rep K μ h H) (re:RepE K μ h H env σ) (qr:RepDs K (Live μ h) H xs vs) (e:bindTs ts xs env h=some (env',h)) (k:∀σ',RepE K μ h H env' σ'->Q σ' H)
theorem PG.imp(h:PG X tg t)(i:∀v σ H Q,t' v σ H Q->t v σ H Q):PG X tg t':=λpins s σ H v u Q I r q=>h pins s σ H v u Q I r (i v σ H Q q)
theorem PGs.imp(h:PGs X tg t)(i:∀v σ H Q,t' v σ H Q->t v σ H Q):PGs X tg t':=λpins s σ H v u Q I r q=>h pins s σ H v u Q I r (i v σ H Q q)
theorem zsb(hN:X.N.Nodup)(hi:X.N[i]?=some x)(hx:Loc X.env.scope x)(hf:X.fn x=true\/X.env.scope.names.lookup x=some .local):PG X (.Name x pos) (tG X.K (.name i)):=by refine PG.imp (zmK hN hi hx hf) λv σ H Q q_=>?_;obtain⟨μ,h,env,r,env',R0,re,qr,e,k⟩:=q_;simp only[zaY,zac] at e;obtain⟨rfl,_⟩:=e;exact k _ (re.set i qr)
theorem zss:PGs X [] (tGs X.K []):=by
 refine PGs.imp zma λvs σ H Q q_=>?_;obtain⟨μ,h,env,xs,env',R0,re,qx,e,k⟩:=q_
 cases xs with|nil=>simp only[RepDs] at qx;simp only[bindTs,zac] at e;obtain⟨rfl,_⟩:=e;exact⟨qx,k σ re⟩|cons _ _=>exact zae e
theorem zbn:∀(t:Tg) (r:R) (env env':IT.Env) (h h':Sto),zaY t r env h=some (env',h')->h'=h:=by
 intro t
 refine Tg.rec (motive_1:=λt=>∀(r:R) (env env':IT.Env) (h h':Sto),zaY t r env h=some (env',h')->h'=h)
  (motive_2:=λts=>∀(xs:List D) (env env':IT.Env) (h h':Sto),bindTs ts xs env h=some (env',h')->h'=h) ?_ ?_ ?_ ?_ t
 ·intro i r env env' h h' e
  simp only[zaY,zac] at e;exact e.2.symm
 ·intro ts ih r env env' h h' e
  simp only[zaY,zab] at e;obtain⟨d,h1,e1,e2⟩:=e
  have hh:h1=h:=by
   cases r with|d x=>simp only[rd,zac] at e1;exact e1.2.symm|loc l=>exact(zgC e1).choose_spec.2.2.2
  subst hh
  cases d with|tup xs=>exact ih xs env env' _ h' e2|_=>cases e2
 ·intro xs env env' h h' e
  cases xs with|nil=>simp only[bindTs,zac] at e;exact e.2.symm|cons _ _=>exact zae e
 ·intro t ts iht ihts xs env env' h h' e
  cases xs with
  |nil=>exact zae e
  |cons x xs=>
   simp only[bindTs,zab] at e;obtain⟨env1,h1,e1,e2⟩:=e
   have:=iht _ _ _ _ _ e1
   subst this;exact ihts _ _ _ _ _ e2
theorem zd4:∀(ts:List Tg) (xs:List D) (env env':IT.Env) (h h':Sto),bindTs ts xs env h=some (env',h')->xs.length=ts.length| [],[],_,_,_,_,_=>rfl| [],_::_,_,_,_,_,e=>by exact zae e|_::_,[],_,_,_,_,e=>by exact zae e|t::ts,x::xs,env,env',h,h',e=>by simp only[bindTs,zab] at e;obtain⟨env1,h2,e3,e4⟩:=e;simp only[Zu];rw[zd4 ts xs env1 env' h2 h' e4]
theorem zoR(h1:PG X e (tG X.K t))(h2:PGs X es (tGs X.K ts))(hs:(Zn (e::es) X.env).map (·.2)=assign e X.env::(Zn es X.env).map (·.2)):PGs X (e::es) (tGs X.K (t::ts)):=by
 refine PGs.imp (zgS h1 h2 hs) λvs σ H Q q_=>?_;obtain⟨μ,h,env,xs,env',R0,re,qx,e,k⟩:=q_
 cases xs with
 |nil=>exact zae e
 |cons x xs=>
  simp only[RepDs] at qx;obtain⟨v,r,rfl,q1,q2⟩:=qx;simp only[bindTs,zab] at e;obtain⟨env1,h1',e1,e2⟩:=e
  have:=zbn _ _ _ _ _ _ e1
  subst this;refine⟨v,r,rfl,μ,_,env,.d x,env1,R0,re,q1,e1,λσ1 re1=>⟨μ,_,env1,xs,env',R0,re1,q2,e2,k⟩⟩
theorem zte(hc:X.calm=true)(h:PGs X es (tGs X.K ts))(hl:es.length=ts.length)(hn:(Zn es X.env).length=es.length)(hst:(Zn es X.env).findIdx? (·.1)=none):PG X (.Tuple es n pos) (tG X.K (.tup ts)):=by
 refine PG.imp (zqP (n:=es.length) hc h hn hst) λv σ H Q q_=>?_;obtain⟨μ,h,env,r,env',R0,re,qr,e,k⟩:=q_;simp only[zaY,zab] at e;obtain⟨d,h1,e1,e2⟩:=e;obtain⟨rfl,zd⟩:=zbT R0 qr e1
 cases d with|tup xs=>simp only[RdD,RepD] at zd;obtain⟨a,vs,rfl,q1,z1⟩:=zd;refine⟨a,vs,rfl,q1,?_,μ,_,env,xs,env',R0,re,z1,e2,k⟩;rw[<-z1.length,hl];exact zd4 _ _ _ _ _ _ e2|_=>cases e2
def RepI(K:Z7)(μ:List Addr)(h:Sto)(H:Hp):Ite->V->Prop|.r r,v=>RepR K μ h H r v|.en i r,v=>∃p w,v=.ref p/\H p=some (.tup [.int i,w])/\RepR K μ h H r w
inductive tGI(K:Z7)(t:Tg)(v:V)(σ:St)(H:Hp)(Q:St->Hp->Prop):Prop where|mk (μ:List Addr) (h:Sto) (env:IT.Env) (x:Ite) (env':IT.Env) (R0:Rep K μ h H) (re:RepE K μ h H env σ) (qx:RepI K μ h H x v) (e:zaw t x env h=some (env',h)) (k:∀σ',RepE K μ h H env' σ'->Q σ' H)
inductive tGe(K:Z7)(a b:Tg)(vs:List V)(σ:St)(H:Hp)(Q:St->Hp->Prop):Prop where|mk (μ:List Addr) (h:Sto) (env:IT.Env) (i:Int) (r:R) (w:V) (env1 env':IT.Env) (R0:Rep K μ h H) (re:RepE K μ h H env σ) (ev:vs=[.int i,w]) (qr:RepR K μ h H r w) (e1:zaY a (.d (.int i)) env h=some (env1,h)) (e2:zaY b r env1 h=some (env',h)) (k:∀σ',RepE K μ h H env' σ'->Q σ' H)
theorem zv9(ha:PG X ea (tG X.K a))(hb:PG X eb (tG X.K b))(h1:(Zn [ea,eb] X.env).map (·.2)=assign ea X.env::(Zn [eb] X.env).map (·.2))(h2:(Zn [eb] X.env).map (·.2)=assign eb X.env::(Zn [] X.env).map (·.2)):PGs X [ea,eb] (tGe X.K a b):=by refine PGs.imp (zgS ha (zgS hb zma h2) h1) λvs σ H Q q0=>?_;obtain⟨μ,h,env,i,r,w,env1,env',R0,re,rfl,qr,e1,e2,k⟩:=q0;exact⟨.int i,[w],rfl,μ,h,env,.d (.int i),env1,R0,re,by simp only[RepR,RepD],e1,λσ1 re1=>⟨w,[],rfl,μ,h,env1,r,env',R0,re1,qr,e2,λσ2 re2=>⟨rfl,k σ2 re2⟩⟩⟩
theorem zhB(e:zaw t x env h=some (env',h')):h'=h:=by
 cases x with
 |r r=>rw[zaw] at e;exact zbn _ _ _ _ _ _ e
 | en i r=>
  match t,e with
  |.tup [a,b],e=>
   rw[zaw,zab] at e;obtain⟨env1,h1,e1,e2⟩:=e
   have:=zbn _ _ _ _ _ _ e1
   subst this;exact zbn _ _ _ _ _ _ e2
  |.name _,e=>exact zae e|.tup [],e=>exact zae e|.tup [_],e=>exact zae e|.tup (_::_::_::_),e=>exact zae e
theorem zoV(hg:PG X e (tG X.K (.name i))):PG X e (tGI X.K (.name i)):=by
 refine PG.imp hg λv σ H Q q0=>?_;obtain⟨μ,h,env,x,env',R0,re,qx,eb,k⟩:=q0
 cases x with|r r=>exact⟨μ,h,env,r,env',R0,re,qx,by rw[zaw] at eb;exact eb,k⟩|en i r=>exact zae eb
theorem zrs(hn:ts.length≠2)(hg:PG X e (tG X.K (.tup ts))):PG X e (tGI X.K (.tup ts)):=by
 refine PG.imp hg λv σ H Q q0=>?_;obtain⟨μ,h,env,x,env',R0,re,qx,eb,k⟩:=q0
 cases x with
 |r r=>exact⟨μ,h,env,r,env',R0,re,qx,by rw[zaw] at eb;exact eb,k⟩
 |en i r=>
  match ts,hn,eb with| [],_,eb=>exact zae eb| [_],_,eb=>exact zae eb| [_,_],hn,_=>exact absurd rfl hn|_::_::_::_,_,eb=>exact zae eb
theorem zrw(hc:X.calm=true)(hs:PGs X [ea,eb] (tGs X.K [a,b]))(he:PGs X [ea,eb] (tGe X.K a b))(hn:(Zn [ea,eb] X.env).length=2)(hst:(Zn [ea,eb] X.env).findIdx? (·.1)=none):PG X (.Tuple [ea,eb] n pos) (tGI X.K (.tup [a,b])):=by
 have both:PGs X [ea,eb] (λvs σ H Q=>tGs X.K [a,b] vs σ H Q\/tGe X.K a b vs σ H Q):=λpins s σ H v u Q I r q=>by
  rcases q with q | q
  ·exact hs pins s σ H v u Q I r q
  ·exact he pins s σ H v u Q I r q
 refine PG.imp (zqP (n:=2) hc both hn hst) λv σ H Q q0=>?_;obtain⟨μ,h,env,x,env',R0,re,qx,eb,k⟩:=q0
 cases x with
 | r r=>
  rw[zaw] at eb;simp only[zaY,zab] at eb;obtain⟨d,h1,e1,e2⟩:=eb;obtain⟨rfl,zd⟩:=zbT R0 qx e1
  cases d with|tup xs=>simp only[RdD,RepD] at zd;obtain⟨p,vs,rfl,q1,z1⟩:=zd;refine⟨p,vs,rfl,q1,?_,.inl ⟨μ,_,env,xs,env',R0,re,z1,e2,k⟩⟩;rw[<-z1.length];exact zd4 _ _ _ _ _ _ e2|_=>cases e2
 |en i r=>
  obtain⟨p,w,rfl,hp,qr⟩:=qx;rw[zaw,zab] at eb;obtain⟨env1,h1,e1,e2⟩:=eb
  have:=zbn _ _ _ _ _ _ e1
  subst this;exact⟨p,[.int i,w],rfl,SqT.of hp,rfl,.inr ⟨μ,_,env,i,r,w,env1,env',R0,re,rfl,qr,e1,e2,k⟩⟩
end
structure Wlk(K:Z7)(J:L2.It)(w:Wk)(μ:List Addr)(h:Sto)(H:Hp):Prop where
 go:∀μ1 h1 H1 (i:Nat) x,Stp μ h H μ1 h1 H1->Rep K μ1 h1 H1->zaX w.l h h1=true->w.xs[i]?=some x->J.go i H1/\∀v H',J.yld i H1 v H'->Stp μ1 h1 H1 μ1 h1 H'/\Rep K μ1 h1 H'/\RepI K μ1 h1 H' x v
 stop:∀μ1 h1 H1,Stp μ h H μ1 h1 H1->Rep K μ1 h1 H1->zaX w.l h h1=true->J.stop w.xs.length H1
theorem zkA{xs:List D}{i:Nat}(e:(xs.map dI)[i]?=some x):∃d,xs[i]?=some d/\x=.r (.d d):=by rw[ZF,Zk] at e;obtain⟨d,e1,e2⟩:=e;exact⟨d,e1,e2.symm⟩
section
variable {K:Z7}{μ:List Addr}{h:Sto}{H:Hp}
theorem zkP{a:Addr}{xs:List D}(R0:Rep K μ h H)(q:LsR K (Live μ h) H a vs)(z:RepDs K (Live μ h) H xs vs):Wlk K (Itl K a) ⟨xs.map dI,none⟩ μ h H:=by
 refine⟨λμ1 h1 H1 i x st R1 _ e=>?_,λμ1 h1 H1 st R1 _=>?_⟩
 ·obtain ⟨d,ed,rfl⟩:=zkA e
  have q1:=st.lsR q;have z1:=RepDs.stp st R0 z;obtain⟨v,e1,z2⟩:=z1.get ed;refine⟨⟨vs,v,q1.sq,e1⟩,λv' H' q_=>?_⟩;obtain⟨hH,hv⟩:=q_;subst hH
  have:=hv vs q1.sq
  rw[e1] at this;cases this;exact⟨Stp.refl,R1,z2⟩
 ·exact⟨vs,(st.lsR q).sq,by rw[Z3,<-z.length];exact Z2 _⟩
theorem zsu{a:Addr}{xs:List D}(R0:Rep K μ h H)(q:SqT K H a vs)(z:RepDs K (Live μ h) H xs vs):Wlk K (Itt K a) ⟨xs.map dI,none⟩ μ h H:=by
 have qs:∀μ1 h1 H1,Stp μ h H μ1 h1 H1->SqT K H1 a vs:=λμ1 h1 H1 st=>q.imp (st.rdT R0 a vs) λz=>z;refine⟨λμ1 h1 H1 i x st R1 _ e=>?_,λμ1 h1 H1 st R1 _=>?_⟩
 ·obtain ⟨d,ed,rfl⟩:=zkA e
  have q1:=qs _ _ _ st;have z1:=RepDs.stp st R0 z;obtain⟨v,e1,z2⟩:=z1.get ed;refine⟨⟨vs,v,q1,e1⟩,λv' H' q_=>?_⟩;obtain⟨hH,hv⟩:=q_;subst hH
  have:=hv vs q1
  rw[e1] at this;cases this;exact⟨Stp.refl,R1,z2⟩
 ·exact⟨vs,qs _ _ _ st,by rw[Z3,<-z.length];exact Z2 _⟩
theorem Ob.same_isL{o o':Ob}(s:o.same o'=true)(il:o.isL=true):o'.isL=true/\o'.items=o.items:=by
 cases o with|lst xs=>simp only[Ob.same,Z8] at s;exact⟨s.1,(D.sames_eq _ _ s.2).symm⟩|fro xs=>simp only[Ob.same,Z8] at s;exact⟨s.1,(D.sames_eq _ _ s.2).symm⟩|ins _ _=>cases il|ols _=>cases il|dic _=>cases il|tpl _ _ _=>cases il
theorem zg7(ho:h[l]?=some o)(s:zaX (some l) h h1=true):∃o',h1[l]?=some o'/\o.same o'=true:=by
 simp only[zaX,ho] at s
 cases q:h1[l]? with|none=>rw[q] at s;cases s|some o'=>rw[q] at s;exact⟨o',rfl,s⟩
theorem znM{a:Addr}{l:Nat}(R0:Rep K μ h H)(ea:μ[l]?=some a)(ho:h[l]?=some o)(il:o.isL=true):Wlk K (Itl K a) ⟨o.items.map dI,some l⟩ μ h H:=by
 refine⟨λμ1 h1 H1 i x st R1 sy e=>?_,λμ1 h1 H1 st R1 sy=>?_⟩
 ·obtain ⟨d,ed,rfl⟩:=zkA e
  obtain⟨o',ho',eo⟩:=zg7 ho sy;obtain⟨il',eo⟩:=Ob.same_isL eo il;obtain⟨vs,q1,z1⟩:=R1.placeL (st.pre l a ea) ho' il';rw[eo] at z1;obtain⟨v,e1,z2⟩:=z1.get ed;refine⟨⟨vs,v,.inl (.inl q1),e1⟩,λv' H' q_=>?_⟩;obtain⟨hH,hv⟩:=q_;subst hH
  have:=hv vs (.inl (.inl q1))
  rw[e1] at this;cases this;exact⟨Stp.refl,R1,z2⟩
 ·obtain ⟨o',ho',eo⟩:=zg7 ho sy
  obtain⟨il',eo⟩:=Ob.same_isL eo il;obtain⟨vs,q1,z1⟩:=R1.placeL (st.pre l a ea) ho' il';rw[eo] at z1
  exact⟨vs,.inl (.inl q1),by rw[Z3,<-z1.length];exact Z2 _⟩
theorem zes{α β:Type}{F:α->β->Prop}:∀{xs:List α} {ys:List β} {i:Nat} {x:α},Paired F xs ys->xs[i]?=some x->∃y,ys[i]?=some y/\F x y|_,_,_,_,.nil,e=>by simp at e|_,_,0,_,.cons r _,e=>by simp at e;subst e;exact⟨_,rfl,r⟩|_,_,i+1,x,.cons _ t,e=>by obtain⟨y,h1,h2⟩:=zes (i:=i) (x:=x) t (by simpa using e);exact⟨y,by simpa using h1,h2⟩
theorem zmn{l:Nat}{ls:List Nat}(R0:Rep K μ h H)(ea:μ[l]?=some a)(ho:h[l]?=some (.ols ls)):Wlk K (Itl K a) ⟨ls.map λl=>.r (.loc l),some l⟩ μ h H:=by
 have at1:∀μ1 h1 H1,Stp μ h H μ1 h1 H1->Rep K μ1 h1 H1->zaX (some l) h h1=true->∃vs,H1 a=some (.lst vs)/\Paired (λ(l:Nat) (v:V)=>∃b,μ1[l]?=some b/\v=.ref b) ls vs:=by
  intro μ1 h1 H1 st R1 sy;obtain⟨o',ho',eo⟩:=zg7 ho sy
  cases o' with
  |ols ls'=>
   simp only[Ob.same] at eo
   have:=ZV eo
   subst this;exact R1.obj l a _ (st.pre l a ea) ho'
  |_=>cases eo
 refine⟨λμ1 h1 H1 i x st R1 sy e=>?_,λμ1 h1 H1 st R1 sy=>?_⟩
 ·rw [ZF,Zk] at e
  obtain⟨k,e,rfl⟩:=e;obtain⟨vs,q1,z1⟩:=at1 _ _ _ st R1 sy;obtain⟨v,e1,b,eb,rfl⟩:=zes z1 e;refine⟨⟨vs,.ref b,.inl (.inl q1),e1⟩,λv' H' q_=>?_⟩;obtain⟨hH,hv⟩:=q_;subst hH
  have:=hv vs (.inl (.inl q1))
  rw[e1] at this;cases this;exact⟨Stp.refl,R1,b,eb,rfl⟩
 ·obtain ⟨vs,q1,z1⟩:=at1 _ _ _ st R1 sy
  exact⟨vs,.inl (.inl q1),by rw[Z3,<-z1.length];exact Z2 _⟩
theorem ziy:∀(n:Nat) (lo:Int) (i:Nat) (x:D),(zb5 lo n)[i]?=some x->i<n/\x=.int (lo+i)
 |0,lo,i,x,e=>by simp[zb5] at e
 | n+1,lo,i,x,e=>by
  cases i with
  |zero=>simp[zb5] at e;exact⟨by omega,by rw[<-e];simp⟩
  |succ i=>
   simp only[zb5,Y6] at e;obtain⟨h1,h2⟩:=ziy n (lo+1) i x e;refine⟨by omega,?_⟩;rw[h2]
   congr 1
   push_cast
   omega
theorem zeY:∀(n:Nat) (lo:Int),(zb5 lo n).length=n|0,_=>rfl|n+1,lo=>by simp[zb5,zeY n]
theorem zrP(lo:Int)(n:Nat):Wlk K (Itr lo n) ⟨(zb5 lo n).map dI,none⟩ μ h H:=by
 refine⟨λμ1 h1 H1 i x st R1 _ e=>?_,λμ1 h1 H1 st R1 _=>?_⟩
 ·obtain ⟨d,ed,rfl⟩:=zkA e
  obtain⟨h1',rfl⟩:=ziy n lo i d ed
  exact⟨h1',λv H' ⟨hH,hv⟩=>by subst hH;exact⟨Stp.refl,R1,by rw[hv];simp only[RepI,RepR,RepD]⟩⟩
 ·show n<=((zb5 lo n).map dI).length
  rw[Z3,zeY];exact Z2 _
end
inductive tI(K:Z7)(f:IT.Env->M Wk)(σ:St)(H:Hp)(R:It->Hp->Prop):Prop where|mk (μ:List Addr) (h:Sto) (env:IT.Env) (R0:Rep K μ h H) (re:RepE K μ h H env σ) (w:Wk) (h':Sto) (e:f env h=some (w,h')) (k:∀μ' H' J,Stp μ h H μ' h' H'->Rep K μ' h' H'->Wlk K J w μ' h' H'->w.xs.length<=sizeLine->R J H')
section
variable {X:Cx}{tg:Expr}
theorem PI.imp(h:PI X tg l t)(i:∀σ H R,t' σ H R->t σ H R):PI X tg l t':=λpins s σ H R I q=>h pins s σ H R I (i σ H R q)
theorem zuG(hl:PE X l tl):PI X tg l (λσ H R=>tl σ H λx H1=>(∃a xs,x=.ref a/\SqL X.K H1 a xs/\(xs.length<=sizeLine->R (Itl X.K a) H1))\/(∃a xs,x=.ref a/\SqT X.K H1 a xs/\(xs.length<=sizeLine->R (Itt X.K a) H1))):=by
 intro pins s σ H R I h;refine thn (hl pins s σ H _ I h) λv s1 q_=>?_;obtain⟨x,H1,I1,r1,q1⟩:=q_
 rcases q1 with⟨a,xs,e,hq,q⟩|⟨a,xs,e,hq,q⟩
 ·subst e
  cases r1;obtain⟨its,rv,p,hz⟩:=I1.list hq;refine Wo p.isList ?_;refine⟨s1.heap.objs.size,[s1.heap.objs.size],_,_,H1,rfl,I1.kept (t':=s1.toks) λb o e=>Z0 _ e,zn6 a _,⟨_,Zw _ rfl,rfl,rfl⟩,λb hb=>?_,q hz⟩
  have e:b=s1.heap.objs.size:=by simpa using hb
  subst e;exact I1.fpOk (Z2 _) (I1.hok.fresh (Z2 _))
 ·subst e
  cases r1;obtain⟨its,rv,p,hz⟩:=I1.tuple hq;refine wpAny_pyIter_tuple (show s1.heap.IsTuple a its.toArray from p) ?_;refine⟨s1.heap.objs.size,[s1.heap.objs.size],_,_,H1,rfl,I1.kept (t':=s1.toks) λb o e=>Z0 _ e,zkV a _,⟨_,Zw _ rfl,rfl,rfl⟩,λb hb=>?_,q hz⟩
  have e:b=s1.heap.objs.size:=by simpa using hb
  subst e;exact I1.fpOk (Z2 _) (I1.hok.fresh (Z2 _))
theorem zbW(e:zbH r h=some (o,h')):h'=h/\match o with
  |some ls=>∃l,r=.loc l/\h[l]?=some (.ols ls)
  |none=>True:=by
 cases r with
 |d x=>simp only[zbH,Z5,Z1] at e;obtain⟨rfl,rfl⟩:=e;exact⟨rfl,trivial⟩
 | loc l=>
  (delta zbH at e;(try dsimp only at e))
  split at e
  ·rename_i ls hl
   simp only[Z5,Z1] at e;obtain⟨rfl,rfl⟩:=e;exact⟨rfl,l,rfl,hl⟩
  ·simp only[Z5,Z1] at e
   obtain⟨rfl,rfl⟩:=e;exact⟨rfl,trivial⟩
def WkIs(K:Z7)(v:V)(w:Wk)(μ:List Addr)(h:Sto)(H:Hp):Prop:=(∃a vs,v=.ref a/\SqL K H a vs/\vs.length=w.xs.length/\Wlk K (Itl K a) w μ h H)\/(∃a vs,v=.ref a/\SqT K H a vs/\vs.length=w.xs.length/\Wlk K (Itt K a) w μ h H)
theorem zwc(R1:Rep K μ h H)(q1:RepR K μ h H r v)(e:zbu r h=some (w,h')):h'=h/\WkIs K v w μ h H:=by
 (delta zbu at e;simp only[zab] at e)
 obtain⟨o,h1,e1,e2⟩:=e;obtain⟨rfl,ho⟩:=zbW e1
 cases o with
 |some ls=>
  obtain⟨l,rfl,ho⟩:=ho;obtain⟨a,ea,rfl⟩:=q1;simp only[zac] at e2;obtain⟨rfl,rfl⟩:=e2;obtain⟨vs,q2,z2⟩:=R1.obj l a _ ea ho
  exact⟨rfl,.inl ⟨a,vs,rfl,.inl (.inl q2),by rw[Z3];exact z2.length.symm,zmn R1 ea ho⟩⟩
 | none=>
  simp only[zab] at e2;obtain⟨d,h2,e3,e4⟩:=e2
  cases r with
  |loc l=>
   obtain⟨a,ea,rfl⟩:=q1;obtain⟨o,ho,il,rfl,rfl⟩:=zgC e3;obtain⟨vs,q2,z2⟩:=R1.placeL ea ho il
   (delta wkOf items at e4;(try dsimp only at e4);simp only[zac] at e4)
   obtain⟨rfl,rfl⟩:=e4
   exact⟨rfl,.inl ⟨a,vs,rfl,.inl (.inl q2),by rw[Z3];exact z2.length.symm,znM R1 ea ho il⟩⟩
  | d x=>
   simp only[rd,zac] at e3;obtain⟨rfl,rfl⟩:=e3
   cases x with
   |tup xs=>
    (delta wkOf items at e4;(try dsimp only at e4);simp only[zac] at e4)
    obtain⟨rfl,rfl⟩:=e4;simp only[RepR,RepD] at q1;obtain⟨a,vs,rfl,q2,z2⟩:=q1
    exact⟨rfl,.inr ⟨a,vs,rfl,q2,by rw[Z3];exact z2.length.symm,zsu R1 q2 z2⟩⟩
   |lst xs=>
    (delta wkOf items at e4;(try dsimp only at e4);simp only[zac] at e4)
    obtain⟨rfl,rfl⟩:=e4;simp only[RepR,RepD] at q1;obtain⟨a,vs,rfl,q2,z2⟩:=q1
    exact⟨rfl,.inl ⟨a,vs,rfl,q2.sq,by rw[Z3];exact z2.length.symm,zkP R1 q2 z2⟩⟩
   |_=>exact zae e4
theorem zuE(hl:IE X l f):PI X tg l (tI X.K λσ=>bnd (f σ) λr=>zbu r):=by
 refine PI.imp (zuG hl) λσ H R q0=>?_;obtain⟨μ,h,env,R0,re,w,h',e,k⟩:=q0;simp only[zab] at e;obtain⟨r,h1,e1,e2⟩:=e;refine⟨μ,h,env,R0,re,r,h1,e1,λμ1 H1 v s1 R1 q1=>?_⟩;obtain⟨rfl,W⟩:=zwc R1 q1 e2
 rcases W with⟨a,vs,rfl,q2,hl,W⟩|⟨a,vs,rfl,q2,hl,W⟩
 ·exact .inl ⟨a,vs,rfl,q2,λhz=>k μ1 H1 _ s1 R1 W (by rw[<-hl];exact hz)⟩
 ·exact .inr ⟨a,vs,rfl,q2,λhz=>k μ1 H1 _ s1 R1 W (by rw[<-hl];exact hz)⟩
theorem ztB(hg:Gl X "range")(hm:X.mg "range"=none)(ha:IE X e f)(hs:ZW [e] X.env=[(false,eval e X.env)]):PI X tg (.Call (.Name "range" p) [e] [] pos) (tI X.K λσ=>bnd (f σ) λr=>zhi r):=by
 refine PI.imp (zl8 hg hm (zbG ha zeA hs) hs) λσ H R q0=>?_;obtain⟨μ,h,env,R0,re,w,h',e,k⟩:=q0;simp only[zab] at e;obtain⟨r,h1,e1,e2⟩:=e;refine⟨μ,h,env,R0,re,r,h1,e1,λμ1 H1 v s1 R1 q1=>?_⟩
 (delta zhi at e2;(try dsimp only at e2))
 split at e2
 ·rename_i n
  split at e2
  ·rename_i hb
   rw[Z8] at hb;obtain⟨rfl,rfl⟩:=zac.mp e2;simp only[RepR,RepD] at q1;have h3:n<=16777216:=of_decide_eq_true hb.2
   exact⟨n,by rw[q1],of_decide_eq_true hb.1,by omega,k μ1 H1 _ s1 R1 (zrP 0 n.toNat) (by show((zb5 0 n.toNat).map dI).length<=sizeLine;rw[Z3,zeY];show n.toNat<=16777216;omega)⟩
  ·cases e2
 ·cases e2
def zvL(K:Z7)(μ:List Addr)(h:Sto)(D:Ends)(fl:Fl)(σ:St)(H:Hp):Prop:=match fl with|.nx=>D.nx σ H|.brk=>D.bk σ H|.cnt=>D.ct σ H|.ret r=>∀v,RepR K μ h H r v->D.rt v H
inductive tS(K:Z7)(f:IT.Env->M (Fl×IT.Env))(D:Ends)(σ:St)(H:Hp):Prop where|mk (μ:List Addr) (h:Sto) (env:IT.Env) (R0:Rep K μ h H) (re:RepE K μ h H env σ) (fl:Fl) (env':IT.Env) (h':Sto) (e:f env h=some ((fl,env'),h')) (k:∀μ' H' σ',Stp μ h H μ' h' H'->Rep K μ' h' H'->RepE K μ' h' H' env' σ'->zvL K μ' h' D fl σ' H')
theorem PS.imp(h:PS X st t)(i:∀D σ H,t' D σ H->t D σ H):PS X st t':=λpins s σ H D I q=>h pins s σ H D I (i D σ H q)
theorem PSs.imp(h:PSs X st t)(i:∀D σ H,t' D σ H->t D σ H):PSs X st t':=λpins s σ H D I q=>h pins s σ H D I (i D σ H q)
theorem zvh:PS X (.Break pos) (tS X.K λσ=>ok (.brk,σ)):=by refine PS.imp zo2 λD σ H q0=>?_;obtain⟨μ,h,env,R0,re,fl,env',h',e,k⟩:=q0;simp only[zac,Z1] at e;obtain⟨⟨rfl,rfl⟩,rfl⟩:=e;exact k μ H σ Stp.refl R0 re
theorem zuy:PS X (.Continue pos) (tS X.K λσ=>ok (.cnt,σ)):=by refine PS.imp ziX λD σ H q0=>?_;obtain⟨μ,h,env,R0,re,fl,env',h',e,k⟩:=q0;simp only[zac,Z1] at e;obtain⟨⟨rfl,rfl⟩,rfl⟩:=e;exact k μ H σ Stp.refl R0 re
theorem zse:PS X (.Return none pos) (tS X.K λσ=>ok (.ret (.d .non),σ)):=by refine PS.imp zsU λD σ H q0=>?_;obtain⟨μ,h,env,R0,re,fl,env',h',e,k⟩:=q0;simp only[zac,Z1] at e;obtain⟨⟨rfl,rfl⟩,rfl⟩:=e;exact k μ H σ Stp.refl R0 re .non (by simp only[RepR,RepD])
theorem ztU(he:IE X e f):PS X (.Return (some e) pos) (tS X.K λσ=>bnd (f σ) λr=>ok (.ret r,σ)):=by refine PS.imp (zvv he) λD σ H q0=>?_;obtain⟨μ,h,env,R0,re,fl,env',h',e,k⟩:=q0;simp only[zab,zac,Z1] at e;obtain⟨r,h1,e1,⟨rfl,rfl⟩,rfl⟩:=e;exact⟨μ,h,env,R0,re,r,h1,e1,λμ1 H1 v s1 R1 q1=>k μ1 H1 σ s1 R1 (re.stp s1 R0) v q1⟩
theorem zta(he:IE X e f)(hs:Xq e none pos.line X.env=pure false):PS X (.Expr e pos) (tS X.K λσ=>bnd (f σ) λ_=>ok (.nx,σ)):=by refine PS.imp (zrY he hs) λD σ H q0=>?_;obtain⟨μ,h,env,R0,re,fl,env',h',e,k⟩:=q0;simp only[zab,zac,Z1] at e;obtain⟨r,h1,e1,⟨rfl,rfl⟩,rfl⟩:=e;exact⟨μ,h,env,R0,re,r,h1,e1,λμ1 H1 v s1 R1 q1=>k μ1 H1 σ s1 R1 (re.stp s1 R0)⟩
theorem zqL(he:IE X e f)(hg:PG X tge (tG X.K t))(hs:WW [tge] e pos.line X.env=pure false)(hw:WV [tge] e X.env=pure none)(h1:(Zn [tge] X.env).map (·.2)=[assign tge X.env]):
  PS X (.Assign [tge] e pos) (tS X.K λσ=>bnd (f σ) λr=>bnd (zaY t r σ) λσ'=>ok (.nx,σ')):=by
 refine PS.imp (zmd he hg hs hw h1) λD σ H q0=>?_;obtain⟨μ,h,env,R0,re,fl,env',h',e,k⟩:=q0;simp only[zab,zac,Z1] at e;obtain⟨r,h1,e1,env1,h2,e2,⟨rfl,rfl⟩,rfl⟩:=e
 have:=zbn _ _ _ _ _ _ e2
 subst this;exact⟨μ,h,env,R0,re,r,_,e1,λμ1 H1 v s1 R1 q1=>⟨μ1,_,env,r,env1,R1,re.stp s1 R0,q1,e2,λσ' re'=>k μ1 H1 σ' s1 R1 re'⟩⟩
theorem zru(he:IE X e f)(ho:IE X o g)(hi:IE X i k)
  (ha:∀v,assign (.Subscript o i p2) X.env v=(do let ov<-holding [v] (eval o X.env);let iv<-holding [v,ov] (eval i X.env);Xy p2;holding [v,ov,iv] (setItem ov iv v);release [v,ov,iv] []))
  (hs:WW [.Subscript o i p2] e pos.line X.env=pure false) (hw:WV [.Subscript o i p2] e X.env=pure none) (h1:(Zn [.Subscript o i p2] X.env).map (·.2)=[assign (.Subscript o i p2) X.env]):
  PS X (.Assign [.Subscript o i p2] e pos) (tS X.K λσ=>bnd (f σ) λr=>bnd (g σ) λx=>bnd (k σ) λy=>bnd (fz r) λd=>bnd (rd y) λy=>bnd (zf4 x y d) λ_=>ok (.nx,σ)):=by
 refine PS.imp (zmd he (zqO ho hi zoO ha) hs hw h1) λD σ H q0=>?_;obtain⟨μ,h,env,R0,re,fl,env',h',e,kk⟩:=q0;simp only[zab,zac,Z1] at e;obtain⟨r,h1,e1,x,h2,e2,y,h3,e3,d,h4,e4,dy,h5,e5,_,h6,e6,⟨rfl,rfl⟩,rfl⟩:=e;refine⟨μ,h,env,R0,re,r,h1,e1,λμ1 H1 v s1 R1 q1=>⟨μ1,h1,env,R1,re.stp s1 R0,x,h2,e2,λμ2 H2 u s2 R2 q2=>⟨μ2,h2,env,R2,re.stp (s1.trans s2) R0,y,h3,e3,λμ3 H3 w s3 R3 q3=>?_⟩⟩⟩;obtain⟨s4,R4,zd⟩:=zlj R3 ((q1.stp s2 R1).stp s3 R2) e4;obtain⟨rfl,zy⟩:=zbT R4 (q3.stp s4 R3) e5
 (delta zf4 at e6;(try dsimp only at e6))
 split at e6
 ·rename_i l k'
  obtain⟨a,ea,rfl⟩:=(q2.stp s3 R2).stp s4 R3
  split at e6
  ·rename_i xs hx
   split at e6
   ·rename_i j hj
    simp only[Z5,Z1] at e6;obtain⟨_,rfl⟩:=e6;obtain⟨vs4,hH4,z4⟩:=R4.placeL ea hx rfl;simp only[RdD,RepD] at zy
    refine⟨a,vs4,k',j,rfl,zy,hH4,by rw[<-z4.length];exact hj,?_⟩
    obtain⟨s5,R5⟩:=write R4 ea hx (z4.set zd j);exact kk μ3 _ σ ((((s1.trans s2).trans s3).trans s4).trans s5) R5 (re.stp ((((s1.trans s2).trans s3).trans s4).trans s5) R0)
   ·cases e6
  ·cases e6
 ·cases e6
theorem zvG(hc:IT' X c ft)(ha:PSs X a (tS X.K fa))(hb:PSs X b (tS X.K fb)):
  PS X (.If c a b pos) (tS X.K λσ=>bnd (ft σ) λt=>if t then fa σ else fb σ):=by
 refine PS.imp (zvJ hc ha hb) λD σ H q0=>?_;obtain⟨μ,h,env,R0,re,fl,env',h',e,k⟩:=q0;simp only[zab] at e;obtain⟨t,h1,e1,e2⟩:=e;refine⟨μ,h,env,R0,re,t,h1,e1,λμ1 H1 v s1 R1 hv=>?_⟩;subst hv
 cases t with|true=>simp only[if_true] at e2⊢;exact⟨μ1,h1,env,R1,re.stp s1 R0,fl,env',h',e2,λμ2 H2 σ2 s2 R2 q2=>k μ2 H2 σ2 (s1.trans s2) R2 q2⟩|false=>simp only[ZN,if_false] at e2⊢;exact⟨μ1,h1,env,R1,re.stp s1 R0,fl,env',h',e2,λμ2 H2 σ2 s2 R2 q2=>k μ2 H2 σ2 (s1.trans s2) R2 q2⟩
theorem zsJ:PSs X [] (tS X.K λσ=>ok (.nx,σ)):=by refine PSs.imp zrn λD σ H q0=>?_;obtain⟨μ,h,env,R0,re,fl,env',h',e,k⟩:=q0;simp only[zac,Z1] at e;obtain⟨⟨rfl,rfl⟩,rfl⟩:=e;exact k μ H σ Stp.refl R0 re
theorem zo7(h1:PS X st (tS X.K f))(h2:PSs X sts (tS X.K g)):PSs X (st::sts) (tS X.K λσ=>bnd (f σ) λp=>match p.1 with | .nx=>g p.2 | _=>ok p):=by
 refine PSs.imp (zpn h1 h2) λD σ H q0=>?_;obtain⟨μ,h,env,R0,re,fl,env',h',e,k⟩:=q0;simp only[zab] at e;obtain⟨⟨fl1,env1⟩,h1,e1,e2⟩:=e;refine⟨μ,h,env,R0,re,fl1,env1,h1,e1,λμ1 H1 σ1 s1 R1 q1=>?_⟩
 cases fl1 with|nx=>exact⟨μ1,h1,env1,R1,q1,fl,env',h',e2,λμ2 H2 σ2 s2 R2 q2=>k μ2 H2 σ2 (s1.trans s2) R2 q2⟩|brk=>simp only[zac,Z1] at e2;obtain⟨⟨rfl,rfl⟩,rfl⟩:=e2;exact k μ1 H1 σ1 s1 R1 q1|cnt=>simp only[zac,Z1] at e2;obtain⟨⟨rfl,rfl⟩,rfl⟩:=e2;exact k μ1 H1 σ1 s1 R1 q1|ret r=>simp only[zac,Z1] at e2;obtain⟨⟨rfl,rfl⟩,rfl⟩:=e2;exact k μ1 H1 σ1 s1 R1 q1
theorem Ob.same_refl{o:Ob}(n:∀c fs,o≠.ins c fs):o.same o=true:=by
 cases o with|lst xs=>simp only[Ob.same,Ob.isL,Ob.items,Za];exact D.sames_refl _|fro xs=>simp only[Ob.same,Ob.isL,Ob.items,Za];exact D.sames_refl _|ins c fs=>exact absurd rfl (n c fs)|ols ls=>simp only[Ob.same,beq_self_eq_true]|dic kvs=>rfl|tpl _ _ _=>rfl
theorem Ob.same_trans{a b c:Ob}(h1:a.same b=true)(h2:b.same c=true):a.same c=true:=by
 cases a with
 |ins _ _=>cases h1
 |tpl _ _ _=>
  cases b with|tpl _ _ _=>exact h2|_=>cases h1
 |dic ls=>
  cases b with|dic ls'=>exact h2|_=>cases h1
 |ols ls=>
  cases b with|ols ls'=>simp only[Ob.same] at h1;have:=ZV h1;subst this;exact h2|_=>cases h1
 |lst xs=>obtain⟨i1,e1⟩:=Ob.same_isL h1 rfl;obtain⟨i2,e2⟩:=Ob.same_isL h2 i1;simp only[Ob.same,i2,Za];rw[e2,e1];exact D.sames_refl _|fro xs=>obtain⟨i1,e1⟩:=Ob.same_isL h1 rfl;obtain⟨i2,e2⟩:=Ob.same_isL h2 i1;simp only[Ob.same,i2,Za];rw[e2,e1];exact D.sames_refl _
def WlOk(w:Wk)(h:Sto):Prop:=∀i,w.l=some i->∃o,h[i]?=some o/\∀c fs,o≠.ins c fs
theorem zgD(l:Option Nat)(h:Sto)(hl:∀i,l=some i->∃o,h[i]?=some o/\∀c fs,o≠.ins c fs):zaX l h h=true:=by
 cases l with|none=>rfl|some i=>obtain⟨o,ho,n⟩:=hl i rfl;simp only[zaX,ho];exact Ob.same_refl n
theorem zb2(a:zaX l h h1=true)(b:zaX l h1 h2=true):zaX l h h2=true:=by
 cases l with
 |none=>rfl
 | some i=>
  simp only[zaX] at a b⊢
  cases e0:h[i]? with
  |none=>rw[e0] at a;cases a
  | some o0=>
   cases e1:h1[i]? with
   |none=>rw[e0,e1] at a;cases a
   | some o1=>
    cases e2:h2[i]? with|none=>rw[e1,e2] at b;cases b|some o2=>rw[e0,e1] at a;rw[e1,e2] at b;exact Ob.same_trans a b
theorem zuj(hp:Wi (model X.prog X.w) X.A X.env X.xe)(hc:X.calm=true)(hi:PI X tg iter (tI X.K fi))(hg:PG X tg (tGI X.K t))(hb:PSs X body (tS X.K fb))
  (hs:∀x,Yg iter X.env x=pure x) (hwl:∀σ h w h',fi σ h=some (w,h')->WlOk w h'):
  PS X (.For tg iter body [] pos) (tS X.K λσ=>bnd (fi σ) λw=>loop w.l (λx σ=>bnd (zaw t x σ) λσ'=>fb σ') w.xs σ):=by
 refine PS.imp (zt4 hp hc hi hg hb hs) λD σ H q0=>?_;obtain⟨μ,h,env,R0,re,fl,env',h',e,k⟩:=q0;simp only[zab] at e;obtain⟨w,h1,e1,e2⟩:=e;refine⟨μ,h,env,R0,re,w,h1,e1,λμ1 H1 J s1 R1 W1 _=>?_⟩
 refine ⟨λi m σ2 H2=>∃μ2 h2 env2,Stp μ1 h1 H1 μ2 h2 H2/\zaX w.l h1 h2=true/\Rep X.K μ2 h2 H2/\RepE X.K μ2 h2 H2 env2 σ2/\i+m=w.xs.length ∧
   loop w.l (λx σ=>bnd (zaw t x σ) λσ'=>fb σ') (w.xs.drop i) env2 h2=some ((fl,env'),h'),⟨w.xs.length,μ1,h1,env,Stp.refl,zgD _ _ (hwl _ _ _ _ e1),R1,re.stp s1 R0,by omega,by rw[X5];exact e2⟩,?_⟩
 rintro i m σ2 H2 ⟨μ2,h2,env2,s2,sy2,R2,re2,him,el⟩
 cases hx:w.xs[i]? with
 |none=>
  have hi':w.xs.length<=i:=by simpa using hx
  have hi2:i=w.xs.length:=by omega
  subst hi2;rw[YO (Z2 _)] at el;simp only[loop,zac,Z1] at el;obtain⟨⟨rfl,rfl⟩,rfl⟩:=el;exact .inl ⟨W1.stop μ2 h2 H2 s2 R2 sy2,k μ2 H2 σ2 (s1.trans s2) R2 re2⟩
 | some x=>
  have hil:i<w.xs.length:=(Z9.mp hx).1
  have hdrop:w.xs.drop i=x::w.xs.drop (i+1):=by
   rw[Zv hil]
   have:=(Z9.mp hx).2
   rw[this]
  rw[hdrop] at el;simp only[loop] at el;obtain⟨go,yld⟩:=W1.go μ2 h2 H2 i x s2 R2 sy2 hx
  cases ef:bnd (zaw t x env2) (λσ'=>fb σ') h2 with
  |none=>rw[ef] at el;cases el
  | some p=>
   obtain⟨⟨fl3,env3⟩,h3⟩:=p;rw[ef] at el;simp only[zab] at ef;obtain⟨env4,h4,e4,e5⟩:=ef
   have:=zhB e4
   subst this
   refine .inr ⟨go,λσ' H'=>∃m',m'<m/\∃μ5 h5 env5,Stp μ1 h1 H1 μ5 h5 H'/\zaX w.l h1 h5=true/\Rep X.K μ5 h5 H'/\RepE X.K μ5 h5 H' env5 σ'/\(i+1)+m'=w.xs.length ∧
    loop w.l (λx σ=>bnd (zaw t x σ) λσ'=>fb σ') (w.xs.drop (i+1)) env5 h5=some ((fl,env'),h'),λσ' H' hN=>hN,λv H' hy=>?_⟩
   obtain⟨sy,Ry,zx⟩:=yld v H' hy;refine⟨μ2,_,env2,x,env4,Ry,re2.stp sy R2,zx,e4,λσ4 re4=>⟨μ2,_,env4,Ry,re4,fl3,env3,h3,e5,λμ5 H5 σ5 s5' R5 re5=>?_⟩⟩;have s5:=sy.trans s5'
   cases fl3 with
   | nx=>
    simp only at el
    split at el
    ·rename_i sy5
     exact⟨m-1,by omega,μ5,h3,env3,s2.trans s5,zb2 sy2 sy5,R5,re5,by omega,el⟩
    ·cases el
   | cnt=>
    simp only at el
    split at el
    ·rename_i sy5
     exact⟨m-1,by omega,μ5,h3,env3,s2.trans s5,zb2 sy2 sy5,R5,re5,by omega,el⟩
    ·cases el
   |brk=>simp only[Z5,Z1] at el;obtain⟨⟨rfl,rfl⟩,rfl⟩:=el;exact k μ5 H5 σ5 ((s1.trans s2).trans s5) R5 re5|ret r=>simp only[Z5,Z1] at el;obtain⟨⟨rfl,rfl⟩,rfl⟩:=el;exact k μ5 H5 σ5 ((s1.trans s2).trans s5) R5 re5
end
end IT
namespace PySem
section
variable {prog:Zs}{w:World}{A:Around}{R:Result->Shared->Prop}{s:Shared}
theorem zi7(I:Nat->Shared->Prop)
  (turn : ∀n s,I n s->wpAny (model prog w) A (pyNext it) (λr s₁=>match r with
   |none=>R (.ok .next) s₁
   | some v=>wpAny (model prog w) A (WR target it v) (λ_ s₁'=>wpAny (model prog w) A (assign target env v) (λ_ s₂=>
     wpAny (model prog w) A (forIn ifs true λc r=>if r=true then do let ok<-isTrue c env (eval c env);pure (YD ok) else pure (YD r)) (λok s₃=>
      if ok=true then wpAny (model prog w) A (eval elt env) (λx s₄=>wpAny (model prog w) A (call (.builtin "list.append") [acc,x]) (λ_ s₅=>∃m,m<n/\I m s₅) (λ_ _=>False) s₄) (λ_ _=>False) s₃
      else ∃m,m<n/\I m s₃) (λ_ _=>False) s₂) (λ_ _=>False) s₁') (λ_ _=>False) s₁) (λ_ _=>False) s)
  (n:Nat) (h:I n s):
  Xg (model prog w) A (.compLoop (.ListComp elt [⟨target,iter,ifs,0⟩] scope pos) 0 it acc env) R s:=by
 refine codeAny_loop rfl I (λn s hI=>?_) n h
 show wpAny _ A ((compTurn (.ListComp elt [⟨target,iter,ifs,0⟩] scope pos) 0 it acc env).onRaise (λx=>do noteFrame x env;theTreesLotGoes x)) _ _ s
 refine wpAny_noted ?_;rw[compTurn_list];refine Z4 (WX (Z4 (YX (turn n s hI) (λr s₁ h₁=>?_) λ_ _ h'=>h'.elim)))
 cases r with
 |none=>exact ZY h₁
 | some v=>
  refine Z4 (YX h₁ (λ_ s₁' h₁'=>?_) λ_ _ h'=>h'.elim);refine Z4 (YX h₁' (λ_ s₂ h₂=>Z4 (YX h₂ (λok s₃ h₃=>?_) λ_ _ h'=>h'.elim)) λ_ _ h'=>h'.elim)
  cases ok with|false=>exact ZY ⟨rfl,h₃⟩|true=>exact Z4 (Z4 (YX h₃ (λx s₄ h₄=>Z4 (YX h₄ (λ_ s₅ h₅=>ZY (ZY ⟨rfl,h₅⟩)) λ_ _ h'=>h'.elim)) λ_ _ h'=>h'.elim))
end
theorem zdH(h:∀x∈scope.names,x.2=.free->∃c,env.cells.lookup x.1=some c):
  ∃cl,closureFor scope env=pure cl/\(∀x c,cl.lookup x=some c->env.cells.lookup x=some c)/\∀x∈scope.names,x.2=.free->∃c,cl.lookup x.1=some c:=by
 unfold closureFor
 have gen:∀(l:List (Str×X8)) (cs:List (Str×Addr)),(∀x∈l,x.2=.free->∃c,env.cells.lookup x.1=some c)->(∀x c,cs.lookup x=some c->env.cells.lookup x=some c) →
   ∃ cl,(forIn l cs λ(x:Str×X8) (r:List (Str×Addr))=>(if x.2==.free then do let c<-cellOf env x.1;pure (YD ((x.1,c)::r)) else pure (YD r):Sem (ForInStep (List (Str×Addr)))))=pure cl ∧
    (∀x c,cl.lookup x=some c->env.cells.lookup x=some c)/\(∀x c,cs.lookup x=some c->∃c',cl.lookup x=some c')/\∀x∈l,x.2=.free->∃c,cl.lookup x.1=some c:=by
  intro l
  induction l with
  |nil=>intro cs _ h2;exact⟨cs,rfl,h2,λx c e=>⟨c,e⟩,λx hx=>absurd hx (by simp)⟩
  | cons y l ih=>
   intro cs h1 h2
   by_cases hy:y.2=.free
   ·obtain ⟨c,hc⟩:=h1 y (by simp) hy
    have hcell:cellOf env y.1=pure c:=by unfold cellOf;rw[hc]
    obtain ⟨cl,e,a1,a2,a3⟩:=ih ((y.1,c)::cs) (λx hx=>h1 x (by simp[hx])) (λx c' e=>by
     rw[ZA] at e
     split at e
     ·rename_i hb
      cases e;rw[ZV hb];exact hc
     ·exact h2 x c' e)
    refine⟨cl,?_,a1,λx c' e'=>?_,λx hx hf=>?_⟩
    ·rw [VZ,if_pos (by rw[hy];rfl),hcell]
     exact e
    ·by_cases hb:(x==y.1)=true
     ·exact a2 x c (by rw[ZA,hb])
     ·exact a2 x c' (by rw[ZA];simp only[Bool.not_eq_true] at hb;rw[hb];exact e')
    ·rcases ZP.mp hx with rfl | hx
     ·exact a2 x.1 c (by rw[ZA];simp)
     ·exact a3 x hx hf
   ·obtain ⟨cl,e,a1,a2,a3⟩:=ih cs (λx hx=>h1 x (by simp[hx])) h2
    refine⟨cl,?_,a1,a2,λx hx hf=>?_⟩
    ·rw [VZ,if_neg (by intro z;exact hy (ZV z))]
     exact e
    ·rcases ZP.mp hx with rfl | hx
     ·exact absurd hf hy
     ·exact a3 x hx hf
 obtain⟨cl,e,a1,_,a3⟩:=gen scope.names [] h (λx c e=>by simp at e);refine⟨cl,?_,a1,a3⟩
 show(forIn scope.names ([]:List (Str×Addr)) (λ(x:Str×X8) (r:List (Str×Addr))=>(if x.2==.free then do let c<-cellOf env x.1;pure (YD ((x.1,c)::r)) else pure (YD r):Sem (ForInStep (List (Str×Addr))))) >>= λcs=>pure cs)=pure cl
 rw[e];rfl
end PySem
namespace IT
open PySem PySem.Spec L2
def clrS:List Nat->St->St| [],σ=>σ|i::r,σ=>clrS r (σ.set i none)
theorem zhu:∀(own:List Nat) (σ:St),(clrS own σ).length=σ.length| [],_=>rfl|i::r,σ=>by simp[clrS,zhu r]
theorem zhf:∀(own:List Nat) (σ:St) (i:Nat) (v:V),(clrS own σ)[i]?=some (some v)->σ[i]?=some (some v)/\i∉own
 | [],σ,i,v,e=>⟨e,by simp⟩
 | j::r,σ,i,v,e=>by
  obtain⟨e1,n1⟩:=zhf r (σ.set j none) i v e
  by_cases hij:i=j
  ·subst hij
   rw[List.getElem?_set] at e1;simp only[if_true] at e1
   split at e1<;>cases e1
  ·rw [Zf (Yw hij)] at e1
   exact⟨e1,by simp[hij,n1]⟩
def blk(X:Cx)(N':List Str)(s₂:Shared)(H₂:Hp)(cenv:PySem.Env)(fp:List Addr)(pins:List (Addr×Obj)):Cx:={X with N:=N',s₀:=s₂,H₀:=H₂,env:=cenv,outer:=X.stack,ex:=fp,fn:=λ_=>false,pn:=X.pn++pins}
def PTs(X:Cx)(ifs:List Expr)(t:TT):Prop:=
 ∀ (pins:List (Addr×Obj)) (s:Shared) (σ:St) (H:Hp) (Q:Bool->Hp->Prop),Inv X pins σ H s->t σ H Q →
  wpAny (model X.prog X.w) X.A (forIn ifs true λc r=>if r=true then do let ok<-isTrue c X.env (eval c X.env);pure (YD ok) else pure (YD r)) (TP X pins σ Q) X.xe s
theorem zsx:PTs X [] (λ_ H Q=>Q true H):=λpins s σ H Q I q=>wpAny_tests_nil ⟨H,I,q⟩
theorem zr6(h:PT X c t):PTs X [c] t:=λpins s σ H Q I q=>wpAny_tests_one (h pins s σ H Q I q)
def zlv(wi:TI)(own:List Nat)(g:TG)(tc:TT)(te:TE):TE:=λσ H Q=>wi σ H λJ H1=>∃W:Nat->Nat->List V->Hp->Prop,(∃m,W 0 m [] H1)/\∀i m vs H,W i m vs H →
 (J.stop i H/\vs.length<=sizeLine/\∀a,H a=none->Q (.ref a) (upd H a (.lst vs)))\/
 (J.go i H/\vs.length<sizeLine/\∀x H',J.yld i H x H'->g x (clrS own σ) H' λσ2 H2=>tc σ2 H2 λb H3=>if b=true then te σ2 H3 λv H4=>∃m',m'<m/\W (i+1) m' (vs++[v]) H4 else ∃m',m'<m/\W (i+1) m' vs H3)
section
variable {X:Cx}
theorem zqN{cl:List (Str×Addr)}(hcell:∀y∈scope.names,y.2≠.cell)(hcl2:∀x∈scope.names,x.2=.free->∃c,cl.lookup x.1=some c):∀x,Vis (relabel scope X.env) x->(relabel scope X.env).names.lookup x≠some .local->∃c,cl.lookup x=some c:=by
 intro x hv hnl
 have : ∀(l:List (Str×X8)),(∀y∈l,y.2≠.cell)->(∀y∈l,y.2=.free->∃c,cl.lookup y.1=some c)->∀k,(k=.cell\/k=.free) →
   (l.map λ(n,k)=>if(k==WU&&X.env.scope.kind==.function&&X.env.kindOf n==some .cell) then(n,X8.cell) else(n,k)).lookup x=some k->∃c,cl.lookup x=some c:=by
  intro l
  induction l with
  |nil=>intro _ _ k _ e;simp at e
  | cons y l ih=>
   intro h1 h2 k hkk e;obtain⟨n,kd⟩:=y;rw[ZB] at e
   by_cases hb:(kd==WU&&X.env.scope.kind==.function&&X.env.kindOf n==some .cell)=true
   ·simp only[hb,if_true] at e
    rw[ZA] at e
    split at e
    ·rename_i hx
     rw[ZV hx];refine h2 (n,kd) (by simp) ?_;rw[Z8,Z8] at hb;exact ZV hb.1.1
    ·exact ih (λy hy=>h1 y (by simp[hy])) (λy hy=>h2 y (by simp[hy])) k hkk e
   ·simp only[hb] at e
    rw[ZA] at e
    split at e
    ·rename_i hx
     have e':kd=k:=by simpa using e
     subst e';rw[ZV hx]
     rcases hkk with z | z
     ·exact absurd z (h1 (n,kd) (by simp))
     ·exact h2 (n,kd) (by simp) z
    ·exact ih (λy hy=>h1 y (by simp[hy])) (λy hy=>h2 y (by simp[hy])) k hkk e
 rcases hv with z | z | z
 ·exact absurd z hnl
 ·exact this scope.names hcell hcl2 .cell (.inl rfl) z
 ·exact this scope.names hcell hcl2 .free (.inr rfl) z
theorem zq5{own:List Nat}{H₂:Hp}{s₂:Shared}{fp:List Addr}{h₄:Heap}{tk:Nat}
  (hkind:scope.kind=.function) (hcell:∀y∈scope.names,y.2≠.cell)
  (hN:∀(i:Nat) (x:Str),N'[i]?=some x->Vis (relabel scope X.env) x->i∈own\/(X.N[i]?=some x/\(X.env.kindOf x=some .cell\/X.env.kindOf x=some .free)/\(relabel scope X.env).names.lookup x≠some .local))
  (hlen:N'.length=X.N.length) (hcl1:∀x c,cl.lookup x=some c->X.env.cells.lookup x=some c) (hcl2:∀x∈scope.names,x.2=.free->∃c,cl.lookup x.1=some c)
  (I:Inv X pins σ H₂ s₂) (hf:∀b∈fp,FpOk X pins H₂ b) (hex:∀b∈fp,b<s₂.heap.objs.size)
  (hk:∀b o,s₂.heap.get? b=some o->h₄.get? b=some o) (hns:∃m,h₄.Ns (s₂.heap.objs.size+1) m) (hacc:h₄.get? s₂.heap.objs.size=some {cls:=.type "list",data:=.seq #[]}):
  Inv (blk X N' s₂ H₂ (Y5 scope cl (s₂.heap.objs.size+1) X.env) fp pins) [(s₂.heap.objs.size,{cls:=.type "list",data:=.seq #[]})] (clrS own σ) H₂ {s₂ with heap:=h₄,toks:=tk}:=by
 have fsub:∀b∈frs X.stack,b=X.env.locals\/b∈X.fs:=λb hb=>ZP.mp (I.stkSub b hb);have fresh:∀b,s₂.heap.objs.size<=b->H₂ b=none:=λb hb=>I.hok.fresh hb
 have flt:∀b∈frs X.stack,b<s₂.heap.objs.size:=λb hb=>by obtain⟨_,o,ho,_⟩:=I.stack.mem hb;exact ZT ho
 have vis_free:=zqN (X:=X) hcell hcl2
 refine ⟨⟨I.ok.mod,?_,I.ok.glob,I.ok.blt,Ys _,λx y c e1 e2=>I.ok.inj x y c (hcl1 x c e1) (hcl1 y c e2),λx hx=>?_,λx c e=>absurd (show false=true from e) Yo,I.ok.hd,I.ok.frames,.inl rfl,λb hb=>⟨?_,λx c e=>?_⟩,I.bs,ZJ I.ok.bsz I.sz,λb o e hb=>?_,λb hb hb2=>?_,I.stack,I.stkFree⟩,
  rfl,I.bare,Un.kept hk,?_,λx c e=>?_,fresh _ (Ys _),λx c e=>I.freeC x c (hcl1 x c e),λp hp=>?_,I.hok.kept hk,?_⟩
 ·exact hkind
 ·rcases hx with z | z
  ·exact vis_free x (.inr (.inl z)) (by
    have z':(relabel scope X.env).names.lookup x=some .cell:=z
    rw[z'];decide)
  ·exact vis_free x (.inr (.inr z)) (by
    have z':(relabel scope X.env).names.lookup x=some .free:=z
    rw[z'];decide)
 ·exact ZH (YF (hex b hb))
 ·exact(hf b hb).2.2.2.2.1 x c (hcl1 x c e)
 ·rcases (hf b hb).2.2.2.1 with z | z
  ·exact I.ok.noex b o e z
  ·have h1:b<X.base.objs.size:=ZT e
   have h2:=I.ok.bsz;exact absurd (ZL h1 (ZJ h2 z)) (YI _)
 ·rcases fsub b hb2 with z | z
  ·exact(hf b hb).2.1 z
  ·exact(hf b hb).2.2.1 z
 ·obtain ⟨m,hm⟩:=hns
  obtain⟨mX,_,hl⟩:=I.loc;refine⟨m,hm,λi x v e1 e2 e3=>?_⟩;obtain⟨e2',ni⟩:=zhf own σ i v e2
  rcases hN i x e1 e3 with z|⟨z,zk,nl⟩
  ·exact absurd z ni
  ·have vx:Vis X.env.scope x:=by
    rcases zk with q | q
    ·exact .inr (.inl q)
    ·exact .inr (.inr q)
   obtain⟨u,ru,lk⟩:=hl i x v z e2' vx;refine⟨u,ru,?_⟩
   rcases lk with⟨q,_⟩|⟨_,c,ec,hcv⟩
   ·rcases zk with q' | q'
    ·rw[q] at q';cases q'
    ·rw[q] at q';cases q'
   ·obtain ⟨c',ec'⟩:=vis_free x e3 nl
    have:=hcl1 x c' ec'
    rw[ec] at this;cases this;refine .inr ⟨?_,c,ec',hcv.keeps hk⟩
    rcases e3 with q | q | q
    ·exact absurd q nl
    ·exact .inl q
    ·exact .inr q
 ·obtain ⟨v,q⟩:=I.cell x c (hcl1 x c e)
  exact⟨v,q.keeps hk⟩
 ·rcases YZ.mp hp with z | z
  ·obtain ⟨e1,e2,e3,e4,e5⟩:=I.pin p z
   refine⟨hk _ _ e1,e2,ZH (YF (ZT e1)),λhb=>?_,e5⟩
   rcases fsub p.1 hb with q | q
   ·exact e3 q
   ·exact e4 q
  ·have ep:p=(s₂.heap.objs.size,({cls:=.type "list",data:=.seq #[]}:Obj)):=by simpa using z
   subst ep;exact⟨hacc,fresh _ (Z2 _),ZH (YK _),λhb=>absurd (flt _ hb) (YI _),λv q=>by cases q⟩
 ·show (clrS own σ).length=N'.length
  rw[zhu,hlen];exact I.len
theorem ziD{own:List Nat}{σ σ':St}{H₂ H':Hp}{s₂ s':Shared}{fp:List Addr}
  (hcell:∀y∈scope.names,y.2≠.cell)
  (hN:∀(i:Nat) (x:Str),N'[i]?=some x->Vis (relabel scope X.env) x->i∈own\/(X.N[i]?=some x/\(X.env.kindOf x=some .cell\/X.env.kindOf x=some .free)/\(relabel scope X.env).names.lookup x≠some .local))
  (hlen:N'.length=X.N.length) (hcl1:∀x c,cl.lookup x=some c->X.env.cells.lookup x=some c) (hcl2:∀x∈scope.names,x.2=.free->∃c,cl.lookup x.1=some c)
  (I:Inv X pins σ H₂ s₂) (hf:∀b∈fp,FpOk X pins H₂ b) (J:Inv (blk X N' s₂ H₂ (Y5 scope cl C X.env) fp pins) pl σ' H' s'):Inv (blk X N' s₂ H₂ (Y5 scope cl C X.env) fp pins) pl (clrS own σ) H' s':=by
 refine⟨J.ok,J.os,J.bare,J.base,?_,J.cell,J.free,J.freeC,J.pin,J.hok,?_⟩
 ·obtain ⟨m,hm,_⟩:=J.loc
  obtain⟨mX,_,hl⟩:=I.loc;refine⟨m,hm,λi x v e1 e2 e3=>?_⟩;obtain⟨e2',ni⟩:=zhf own σ i v e2
  rcases hN i x e1 e3 with z|⟨z,zk,nl⟩
  ·exact absurd z ni
  ·have vx:Vis X.env.scope x:=by
    rcases zk with q | q
    ·exact .inr (.inl q)
    ·exact .inr (.inr q)
   obtain⟨u,ru,lk⟩:=hl i x v z e2' vx;refine⟨u,ru,?_⟩
   rcases lk with⟨q,_⟩|⟨_,c,ec,o,ho,hd⟩
   ·rcases zk with q' | q'
    ·rw[q] at q';cases q'
    ·rw[q] at q';cases q'
   ·obtain ⟨c',ec'⟩:=zqN (X:=X) hcell hcl2 x e3 nl
    have:=hcl1 x c' ec'
    rw[ec] at this;cases this
    have hcv:s'.heap.IsCell c (some u):=by obtain⟨sl,q⟩:=J.base.any ho (I.freeC x c ec) λhb=>(hf c hb).2.2.2.2.1 x c ec rfl;exact⟨_,q,hd⟩
    refine .inr ⟨?_,c,ec',hcv⟩
    rcases e3 with q | q | q
    ·exact absurd q nl
    ·exact .inl q
    ·exact .inr q
 ·show (clrS own σ).length=N'.length
  rw[zhu,hlen];exact I.len
theorem zp4
  (I:Inv X pins σ H₂ s₂) (hf:∀b∈fp,FpOk X pins H₂ b) (J:Inv (blk X N' s₂ H₂ cenv fp pins) pl σ' H' s') (hacc:s₂.heap.objs.size<=acc) (hn:H' acc=none)
  (ho:s'.heap.get? acc=some {cls:=.type "list",data:=.seq its.toArray n}) (r:Vals vs its) (hz:vs.length<=sizeLine):Inv X pins σ (upd H' acc (.lst vs)) s':=by
 have lt:∀b o,s₂.heap.get? b=some o->b≠acc:=λb o e z=>absurd (ZL (ZT e) (by rw[z];exact hacc)) (YI _)
 refine I.call' (ch:=fp) J.os ⟨J.base.keep,J.base.slot,λb o e n hx=>?_,J.base.there,λb xs e=>?_,λb o u e=>?_,λb ps e=>?_⟩ (λb u e=>?_) J.bare (λb hb=>?_)
 ·rw [zao (lt b o e)]
  exact J.base.free b o e n hx
 ·have:=J.base.tups b xs e
  rw[zao (zas this hn)];exact this
 ·have:=J.base.frzs b o u e
  rw[zao (zas this hn)];exact this
 ·obtain ⟨more,this⟩:=J.base.tbls b ps e
  refine⟨more,?_⟩;rw[zao (zas this hn)];exact this
 ·by_cases hb:b=acc
  ·subst hb
   rw[zam] at e;cases e;exact⟨hz,its,n,r,ho⟩
  ·rw [zao hb] at e
   exact(J.hok b u e).stay (λc o _ q=>q) (λc q=>by rw[zao (zas q hn)];exact q) λc xs q=>by rw[zao (zas q hn)];exact q
 ·obtain ⟨_,h1,_,h3,h4,h5⟩:=hf b hb
  exact⟨h3,h1,h4,h5⟩
end
section
variable {X:Cx}
structure Gone(X:Cx)(pins:List (Addr×Obj))(H:Hp)(C:Addr)(s:Shared):Prop where
 ns:∃m,s.heap.Ns C m
 free:H C=none
 loc:C≠X.env.locals
 fs:C∉X.fs
 new:X.s₀.heap.objs.size<=C
 cel:∀x c,X.env.cells.lookup x=some c->c≠C
 pin:∀p∈X.pn++pins,p.1≠C
inductive CI(P:List Value->Nat->Hp->Shared->Prop)(tn:Nat->Heap->Prop)(fp:List Addr)(W:Nat->Nat->List V->Hp->Prop)(n:Nat)(s':Shared):Prop|mk (i:Nat) (vs:List V) (H':Hp) (its:List Value) (nn:Nat) (J:P its nn H' s') (st:tn i s'.heap) (fr:∀b∈fp,H' b=none) (rv:Vals vs its) (w:W i n vs H')
theorem ziB
  {cl:List (Str×Addr)} {RR:Value->Addr->Result->Shared->Prop}
  (hx:X.xe=λ_ _=>False) (hc:X.calm=true) (hkind:scope.kind=.function) (hcell:∀y∈scope.names,y.2≠.cell)
  (hN:∀(i:Nat) (x:Str),N'[i]?=some x->Vis (relabel scope X.env) x->i∈own\/(X.N[i]?=some x/\(X.env.kindOf x=some .cell\/X.env.kindOf x=some .free)/\(relabel scope X.env).names.lookup x≠some .local))
  (hlen:N'.length=X.N.length) (hcl1:∀x c,cl.lookup x=some c->X.env.cells.lookup x=some c) (hcl2:∀x∈scope.names,x.2=.free->∃c,cl.lookup x.1=some c)
  (hi:PI X tg iter wi)
  (hB:∀s₂ H₂ C fp,PG (blk X N' s₂ H₂ (Y5 scope cl C X.env) fp pins) tg g/\PTs (blk X N' s₂ H₂ (Y5 scope cl C X.env) fp pins) ifs tc/\PE (blk X N' s₂ H₂ (Y5 scope cl C X.env) fp pins) elt te)
  (I:Inv X pins σ H s) (q:zlv wi own g tc te σ H Q)
  (hRR:∀a C s' H',Inv X pins σ H' s'->Q (.ref a) H'->Gone X pins H' C s'->RR (.ref a) C (.ok .next) s'):
  wpAny (model X.prog X.w) X.A (eval iter X.env) (λx s₁=>wpAny (model X.prog X.w) X.A (pyIter x) (λit s₂=>wpAny (model X.prog X.w) X.A (newList []) (λacc s₃=>
   wpAny (model X.prog X.w) X.A (newFunctionEnv scope X.env.globals cl [] X.env.qual none .none (some X.env)) (λcenv s₄=>
    Xg (model X.prog X.w) X.A (.compStart (.ListComp elt [⟨tg,iter,ifs,0⟩] scope pos) 0 it acc {cenv with scope:=relabel scope X.env}) (RR acc cenv.locals) s₄) X.xe s₃) X.xe s₂) X.xe s₁) X.xe s:=by
 refine thn (hi pins s σ H _ I q) λv s1 h1=>thn h1 λitv s2 h2=>?_;obtain⟨it,fp,tn,J,H2,e,I2,T,st2,f2,W,⟨m0,w0⟩,turn⟩:=h2;subst e
 refine XT (wpAny_newFunctionEnv hcell (by intro y hy;simp at hy) (λh₁ hns₁ hsb₁=>?_) hkind)
 dsimp only at hns₁ hsb₁⊢;generalize hG:s2.heap.push {cls:=.type "list",dict:=none,data:=.seq ([]:List Value).toArray}=G at hns₁ hsb₁⊢
 have hGs:G.objs.size=s2.heap.objs.size+1:=by rw[<-hG,VY]
 rw[hGs] at hns₁ hsb₁⊢;have hold:∀b o,s2.heap.get? b=some o->h₁.get? b=some o:=λb o e=>hsb₁.extBut b o (ZH (YF (ZT e))) (Z0 _ (hG▸Z0 _ e));have hacc:h₁.get? s2.heap.objs.size=some {cls:=.type "list",data:=.seq #[]}:=hsb₁.extBut _ _ (ZH (YK _)) (Z0 _ (hG▸Zw _ rfl))
 have hex:∀b∈fp,b<s2.heap.objs.size:=λb hb=>by obtain⟨o,ho,_⟩:=T.obj _ _ st2 b hb;exact ZT ho
 have J0:=zq5 (X:=X) (own:=own) (tk:=s2.toks+([]:List (Str×Value)).length) hkind hcell hN hlen hcl1 hcl2 I2 f2 hex hold ⟨_,hns₁⟩ hacc;have st4:tn 0 h₁:=T.keep _ _ _ st2 λb hb o e=>hold b o e
 have frame:∀b∈frs X.stack,b≠X.env.locals->b∈X.fs:=λb hb hne=>by
  rcases ZP.mp (I2.stkSub b hb) with z | z
  ·exact absurd z hne
  ·exact z
 have stat:∀{H':Hp} {pl:List (Addr×Obj)},(∀b∈fp,H' b=none)->(∀p∈pl,∀b∈fp,p.1≠b)->∀b∈fp,FpOk (blk X N' s2 H2 (Y5 scope cl (s2.heap.objs.size+1) X.env) fp pins) pl H' b:=by
  intro H' pl hn hp b hb;obtain⟨g0,g1,g2,g3,g4,g5⟩:=f2 b hb;refine⟨hn b hb,ZH (YF (hex b hb)),λhs=>?_,.inl hb,λx c e=>g4 x c (hcl1 x c e),λp hpp=>?_⟩
  ·exact g2 (frame b hs g1)
  ·rcases YZ.mp hpp with z | z
   ·exact g5 p z
   ·exact hp p z b hb
 have accne:∀b∈fp,s2.heap.objs.size≠b:=λb hb z=>absurd (hex b hb) (by rw[<-z];exact YI _)
 have loop:Xg (model X.prog X.w) X.A (.compLoop (.ListComp elt [⟨tg,iter,ifs,0⟩] scope pos) 0 (.ref it) (.ref s2.heap.objs.size) (Y5 scope cl (s2.heap.objs.size+1) X.env)) (RR (.ref s2.heap.objs.size) (s2.heap.objs.size+1))
   {s2 with heap:=h₁,toks:=s2.toks+([]:List (Str×Value)).length}:=by
  refine zi7 (CI (λits nn H' s'=>Inv (blk X N' s2 H2 (Y5 scope cl (s2.heap.objs.size+1) X.env) fp pins) [(s2.heap.objs.size,{cls:=.type "list",data:=.seq its.toArray nn})] (clrS own σ) H' s') tn fp W) ?_ m0 ⟨0,[],H2,[],0,J0,st4,λb hb=>(f2 b hb).1,.nil,w0⟩
  rintro n s3 ⟨i,vs,H3,its,nn,J3,st3,fr3,rv,w3⟩
  have pne:∀p∈[(s2.heap.objs.size,({cls:=.type "list",data:=.seq its.toArray nn}:Obj))],∀b∈fp,p.1≠b:=by
   intro p hp b hb
   have ep:p=(s2.heap.objs.size,({cls:=.type "list",data:=.seq its.toArray nn}:Obj)):=by simpa using hp
   rw[ep];exact accne b hb
  rcases turn i n vs H3 w3 with⟨stop,hz,qn⟩|⟨go,hz,step⟩
  ·refine YX (T.done (blk X N' s2 H2 (Y5 scope cl (s2.heap.objs.size+1) X.env) fp pins) rfl rfl rfl hc i _ s3 _ H3 (λ_ _=>False) J3 (stat fr3 pne) st3 stop) (λr s4 q_=>?_) λ_ _ z=>z
   obtain⟨hr,I4⟩:=q_;subst hr;obtain⟨ea,na,_,_,_⟩:=I4.pin (s2.heap.objs.size,_) (ZE _ (YJ.mpr rfl));have I5:=zp4 (X:=X) I2 f2 I4 (Z2 _) na ea rv hz;obtain⟨m,hm,_⟩:=I4.loc;refine hRR _ _ s4 _ I5 (qn _ na) ⟨⟨m,hm⟩,?_,?_,λhb=>?_,?_,λx c e=>?_,λp hp=>?_⟩
   ·rw [zao (X3 (YK _))]
    exact I4.free
   ·exact X3 (YF I2.lt)
   ·exact I2.nofs (Ys _) hb
   ·exact ZJ I2.sz (Ys _)
   ·obtain ⟨v,z⟩:=I2.cell x c e
    exact ZH (YF z.lt)
   ·exact ZH (YF (ZT (I2.pin p hp).1))
  ·refine YX (T.item (blk X N' s2 H2 (Y5 scope cl (s2.heap.objs.size+1) X.env) fp pins) rfl rfl rfl hc i _ s3 _ H3 (λ_ _=>False) J3 (stat fr3 pne) st3 go) (λr s4 q_=>?_) λ_ _ z=>z
   obtain⟨u,hr,h4⟩:=q_;subst hr;refine YX h4 (λ_ s5 q_=>?_) λ_ _ z=>z;obtain⟨x,H5,I5,r5,y5,st5,fr5⟩:=q_;have I5':=I5.pinned (stat fr5 pne) (T.obj _ _ st5);obtain⟨hg,ht,he⟩:=hB s2 H2 (s2.heap.objs.size+1) fp
   have nx:∀{e:Value} {s:Shared},(blk X N' s2 H2 (Y5 scope cl (s2.heap.objs.size+1) X.env) fp pins).xe e s->False:=λz=>by have z':X.xe _ _:=z;rw[hx] at z';exact z'
   refine YX (hg _ s5 _ H5 x u _ I5' r5 (step x H5 y5)) (λ_ s6 q_=>?_) λ_ _ z=>nx z;obtain⟨σ6,H6,I6,q6⟩:=q_;refine YX (ht _ s6 σ6 H6 _ I6 q6) (λok s7 q_=>?_) λ_ _ z=>nx z;obtain⟨H7,I7,q7⟩:=q_
   have keepIt:∀{σ8:St} {H8:Hp} {s8:Shared},Inv (blk X N' s2 H2 (Y5 scope cl (s2.heap.objs.size+1) X.env) fp pins) ([(s2.heap.objs.size,({cls:=.type "list",data:=.seq its.toArray nn}:Obj))]++zh1 fp s5.heap) σ8 H8 s8 →
     tn (i+1) s8.heap/\∀b∈fp,H8 b=none:=λ{σ8 H8 s8} I8=>by
    refine⟨T.keep _ _ _ st5 λb hb o e=>(I8.pin (b,o) (ZE _ (ZE _ (zcJ hb e)))).1,λb hb=>?_⟩;obtain⟨o,e,d⟩:=T.obj _ _ st5 b hb;exact(I8.pin (b,o) (ZE _ (ZE _ (zcJ hb e)))).2.1
   cases ok with
   |false=>simp only[ZN,if_false] at q7⊢;obtain⟨m',hm',w7⟩:=q7;obtain⟨k1,k2⟩:=keepIt I7;exact⟨m',hm',i+1,vs,H7,its,nn,ziD hcell hN hlen hcl1 hcl2 I2 f2 I7.unpinned,k1,k2,rv,w7⟩
   | true=>
    simp only[if_true] at q7⊢;refine YX (he _ s7 σ6 H7 _ I7 q7) (λy s8 q_=>?_) λ_ _ z=>nx z;obtain⟨vy,H8,I8,r8,m',hm',w8⟩:=q_;obtain⟨k1,k2⟩:=keepIt I8;obtain⟨ea,na,nl,nf,nd⟩:=I8.unpinned.pin (s2.heap.objs.size,_) (ZE _ (YJ.mpr rfl));have hl:=rv.length
    refine Xr F.slot_list_append ⟨_,ea,rfl⟩ F.entry_list_append (F.args_list_append_2 _ _) (PySem.list_append s2.heap.objs.size its.toArray nn y (by rw[ZX];omega)) ⟨ea,?_⟩
    have J8:=ziD hcell hN hlen hcl1 hcl2 I2 f2 (I8.unpinned);have J8':Inv (blk X N' s2 H2 (Y5 scope cl (s2.heap.objs.size+1) X.env) fp pins) [] (clrS own σ) H8 s8:=J8.pins_of λp hp=>absurd hp (by simp);have up:=W7 (Ym λx_1=>x_1.push y) ea rfl;obtain⟨n',en⟩:∃n',Ym (λx_1=>x_1.push y) ({cls:=.type "list",data:=.seq its.toArray nn}:Obj)={cls:=.type "list",data:=.seq (its.toArray.push y) n'}:=⟨_,rfl⟩
    have J9:=J8'.turned (t':=s8.toks) (it:=s2.heap.objs.size) (h':=s8.heap.update s2.heap.objs.size (Ym λx_1=>x_1.push y)) (λb o hb e=>(Yv _ _ (Yw hb)).trans e) na nl (.inr (Z2 _))
     (fun x c e=>by
      obtain⟨v,z⟩:=I2.cell x c (hcl1 x c e)
      exact ZH z.lt)
     (fun p hp=>by
      have hp':p∈X.pn++pins:=by simpa[blk] using hp
      exact ZH (ZT (I2.pin p hp').1))
    refine⟨m',hm',i+1,vs++[vy],H8,its++[y],n',?_,T.keep _ _ _ k1 λb hb o e=>(Yv _ _ (accne b hb)).trans e,k2,rv.append (.cons r8 .nil),w8⟩;refine J9.pins_of λp hp=>?_
    have ep:p=(s2.heap.objs.size,({cls:=.type "list",data:=.seq (its++[y]).toArray n'}:Obj)):=by simpa using hp
    subst ep;refine⟨?_,na,nl,nf,λv q=>by cases q⟩;show(s8.heap.update s2.heap.objs.size (Ym λx_1=>x_1.push y)).get? s2.heap.objs.size=_;rw[up];show some (Ym (λx_1=>x_1.push y) ({cls:=.type "list",data:=.seq its.toArray nn}:Obj))=_;rw[en];simp
 exact codeAny_compStart_list loop (T.self _ 0 _ _ _ st4 loop)
end
section
variable {X:Cx}
structure zkl(X:Cx)(scope:Scope)(N':List Str)(own:List Nat):Prop where
 kind:scope.kind=.function
 cell:∀y∈scope.names,y.2≠.cell
 names:∀x∈scope.names,x.2=.local->scope.names.lookup x.1=some .local
 free:∀x∈scope.names,x.2=.free->X.env.kindOf x.1=some .cell\/X.env.kindOf x.1=some .free
 slots:∀(i:Nat) (x:Str),N'[i]?=some x->Vis (relabel scope X.env) x->i∈own\/(X.N[i]?=some x/\(X.env.kindOf x=some .cell\/X.env.kindOf x=some .free)/\(relabel scope X.env).names.lookup x≠some .local)
 len:N'.length=X.N.length
theorem Gone.turned(g:Gone X pins H C s)(I:Inv X pins σ H s)(sb:Xj C s.heap h'):Inv X pins σ H {s with heap:=h'}:=I.turned (t':=s.toks) (λb o hb e=>(sb.2 b hb).trans e) g.free g.loc (.inr g.new) g.cel g.pin
theorem zm9
  (hx:X.xe=λ_ _=>False) (hc:X.calm=true) (K:zkl X scope N' own) (hi:PI X tg iter wi)
  (hB:∀cl pins s₂ H₂ C fp,PG (blk X N' s₂ H₂ (Y5 scope cl C X.env) fp pins) tg g/\PTs (blk X N' s₂ H₂ (Y5 scope cl C X.env) fp pins) ifs tc/\PE (blk X N' s₂ H₂ (Y5 scope cl C X.env) fp pins) elt te)
  (hs:∀x,Yg iter X.env x=pure x):PE X (.ListComp elt [⟨tg,iter,ifs,0⟩] scope pos) (zlv wi own g tc te):=by
 intro pins s σ H Q I q;obtain⟨cl,hclos,hcl1,hcl2⟩:=zdH (scope:=scope) (env:=X.env) (λx hx hf=>I.ok.has x.1 (K.free x hx hf));rw[eval_ListComp];refine wpAny_comprehension_free (use:=none) rfl hs hclos K.kind K.names (ziB hx hc K.kind K.cell K.slots K.len hcl1 hcl2 hi (hB cl pins) I q ?_);intro a C s' H' I' q' gn;obtain⟨m,hm⟩:=gn.ns;exact⟨m,hm,λh' sb=>⟨.ref a,H',gn.turned I' sb,rfl,q'⟩⟩
theorem zjt
  (hx:X.xe=λ_ _=>False) (hc:X.calm=true) (K:zkl X scope N' own) (hi:PI X tg iter wi)
  (hB:∀cl pins s₂ H₂ C fp,PG (blk X N' s₂ H₂ (Y5 scope cl C X.env) fp pins) tg g/\PTs (blk X N' s₂ H₂ (Y5 scope cl C X.env) fp pins) ifs tc/\PE (blk X N' s₂ H₂ (Y5 scope cl C X.env) fp pins) elt te)
  (hs:∀x,Yg iter X.env x=pure x) (hsw:Xq (.ListComp elt [⟨tg,iter,ifs,0⟩] scope pos) (some (.Name y py)) spos.line X.env=pure true)
  (hg:PG X (.Name y py) (zqa iy)):PS X (.Assign [.Name y py] (.ListComp elt [⟨tg,iter,ifs,0⟩] scope pos) spos) (tAsg (zlv wi own g tc te) (zqa iy)):=by
 intro pins s σ H D I q;obtain⟨cl,hclos,hcl1,hcl2⟩:=zdH (scope:=scope) (env:=X.env) (λx hx hf=>I.ok.has x.1 (K.free x hx hf));rw[exec_Assign_Name_used _ _ _ _ hsw];refine Z4 (WX (Z4 ?_));show wpAny _ X.A (do let _<-comprehension (.ListComp elt [⟨tg,iter,ifs,0⟩] scope pos) scope X.env _ (newList []) false (eval iter X.env) (some (assign (.Name y py) X.env))) _ _ s
 refine Z4 (YX (wpAny_comprehension_free (use:=some (assign (.Name y py) X.env)) (Q:=λ_ s'=>SP X pins D .next s') rfl hs hclos K.kind K.names
  (ziB hx hc K.kind K.cell K.slots K.len hcl1 hcl2 hi (hB cl pins) I q ?_)) (λ_ s' hq=>ZY (ZY hq)) λ_ _ e=>e)
 intro a C s' H' I' q' gn;obtain⟨m,o,es,ep,ho,hd,hr⟩:=id gn.ns
 have Ip:Inv X (pins++[(C,o)]) σ H' s':=I'.pins_of λp hp=>(YZ.mp hp).elim (λz=>I'.pin p (ZE _ z)) λz=>by
  have ep:p=(C,o):=by simpa using z
  subst ep
  exact⟨ho,gn.free,gn.loc,gn.fs,λv z=>by rw[hd] at z;cases z⟩
 refine thn (hg _ s' σ H' (.ref a) (.ref a) _ Ip rfl q') λ_ s'' q_=>?_;obtain⟨σ2,H2,I2,q2⟩:=q_;obtain⟨e1,e2,_,_,_⟩:=I2.pin (C,o) (ZE _ (ZE _ (YJ.mpr rfl)));have gn2:Gone X pins H2 C s'':=⟨⟨m,o,es,ep,e1,hd,hr⟩,e2,gn.loc,gn.fs,gn.new,gn.cel,gn.pin⟩;exact⟨m,⟨o,es,ep,e1,hd,hr⟩,λh' sb=>⟨σ2,H2,gn2.turned I2.unpinned sb,q2⟩⟩
theorem RepE.clr:∀(own:List Nat) {env:IT.Env} {σ:St},RepE K μ h H env σ->RepE K μ h H (clr own env) (clrS own σ)
 | [],env,σ,q=>q
 | i::r,env,σ,q=>by
  refine RepE.clr r ⟨by simp[q.len],λj rr e=>?_⟩
  by_cases hj:j=i
  ·subst hj
   rw[List.getElem?_set] at e;simp only[if_true] at e
   split at e<;>cases e
  ·rw [Zf (Yw hj)] at e⊢
   exact q.get j rr e
structure ElK{α:Type}(K:Z7)(kp:R->M α)(Rel:List Addr->Sto->Hp->α->V->Prop):Prop where
 kp:∀{μ h H r v d h'},Rep K μ h H->RepR K μ h H r v->kp r h=some (d,h')->Stp μ h H μ h' H/\Rep K μ h' H/\Rel μ h' H d v
 stp:∀{μ h H μ' h' H' d v},Stp μ h H μ' h' H'->Rep K μ h H->Rel μ h H d v->Rel μ' h' H' d v
def zhZ{α:Type}(kp:R->M α)(t:Tg)(ft:IT.Env->M Bool)(fe:IT.Env->M R)(σ:IT.Env)(x:Ite):M (Option α):=bnd (zaw t x (clr t.slots σ)) λσ'=>bnd (ft σ') λb=>if b then bnd (fe σ') λr=>bnd (kp r) λd=>ok (some d) else ok none
def tLsG{α:Type}(K:Z7)(Rel:List Addr->Sto->Hp->α->V->Prop)(f:IT.Env->M (List α)):TE:=λσ H Q=>∃μ h env,Rep K μ h H/\RepE K μ h H env σ/\∃xs h',f env h=some (xs,h') ∧
 ∀μ' H' a vs,Stp μ h H μ' h' H'->Rep K μ' h' H'->Paired (Rel μ' h' H') xs vs->H' a=none->Q (.ref a) (upd H' a (.lst vs))
theorem zgu{α β:Type}{F:α->β->Prop}:∀{xs xs':List α} {ys ys':List β},Paired F xs ys->Paired F xs' ys'->Paired F (xs++xs') (ys++ys')|_,_,_,_,.nil,q=>q|_,_,_,_,.cons r t,q=>.cons r (zgu t q)
inductive CR{α:Type}(K:Z7)(Rel:List Addr->Sto->Hp->α->V->Prop)(tr:List Ite->M (List α))(w:Wk)(μ1:List Addr)(h1:Sto)(H1:Hp)(h':Sto)(zs:List α)(i m:Nat)(vs:List V)(H2:Hp):Prop|mk (μ2:List Addr) (h2:Sto) (ys rest:List α) (s2:Stp μ1 h1 H1 μ2 h2 H2) (sy2:zaX w.l h1 h2=true) (R2:Rep K μ2 h2 H2) (zy:Paired (Rel μ2 h2 H2) ys vs) (him:i+m=w.xs.length) (hyl:ys.length<=i) (el':tr (w.xs.drop i) h2=some (rest,h')) (eys:ys++rest=zs)
theorem zgk{α:Type}{K:Z7}{kp:R->M α}{Rel:List Addr->Sto->Hp->α->V->Prop}(el:ElK K kp Rel){t:Tg}{fi:IT.Env->M Wk}{ft:IT.Env->M Bool}{fe:IT.Env->M R}(hwl:∀σ h w h',fi σ h=some (w,h')->WlOk w h'){σ:St}{H:Hp}{Q:VK}
  (q:tLsG K Rel (λσ=>bnd (fi σ) λw=>zbz w.l (zhZ kp t ft fe σ) w.xs) σ H Q):zlv (tI K fi) t.slots (tGI K t) (tTv K ft) (tE K fe) σ H Q:=by
 obtain⟨μ,h,env,R0,re,zs,h',e,k⟩:=q;simp only[zab] at e;obtain⟨w,h1,e1,e2⟩:=e;refine⟨μ,h,env,R0,re,w,h1,e1,λμ1 H1 J s1 R1 W1 hz=>?_⟩
 refine⟨CR K Rel (zbz w.l (zhZ kp t ft fe env)) w μ1 h1 H1 h' zs,⟨w.xs.length,μ1,h1,[],zs,Stp.refl,zgD _ _ (hwl _ _ _ _ e1),R1,.nil,by omega,Z2 _,by rw[X5];exact e2,rfl⟩,?_⟩
 rintro i m vs H2 ⟨μ2,h2,ys,rest,s2,sy2,R2,zy,him,hyl,el',eys⟩
 have hl:=zy.length
 cases hxx:w.xs[i]? with
 |none=>
  have hi':w.xs.length<=i:=by simpa using hxx
  have hi2:i=w.xs.length:=by omega
  subst hi2;rw[YO (Z2 _)] at el';simp only[zbz,zac] at el';obtain⟨rfl,rfl⟩:=el';rw[Zc] at eys;subst eys;exact .inl ⟨W1.stop μ2 h2 H2 s2 R2 sy2,by omega,λa ha=>k μ2 H2 a vs (s1.trans s2) R2 zy ha⟩
 | some x=>
  have hil:i<w.xs.length:=(Z9.mp hxx).1
  have hdrop:w.xs.drop i=x::w.xs.drop (i+1):=by
   rw[Zv hil]
   have:=(Z9.mp hxx).2
   rw[this]
  rw[hdrop] at el';simp only[zbz] at el';obtain⟨go,yld⟩:=W1.go μ2 h2 H2 i x s2 R2 sy2 hxx
  cases ef:zhZ kp t ft fe env x h2 with
  |none=>rw[ef] at el';cases el'
  | some p=>
   obtain⟨od,h3⟩:=p;rw[ef] at el';simp only[zhZ,zab] at ef;obtain⟨env4,h4,e4,tt,h5,e5,e6⟩:=ef
   have:=zhB e4
   subst this;refine .inr ⟨go,by omega,λv H' hy=>?_⟩;obtain⟨sY,RY,zx⟩:=yld v H' hy;refine⟨μ2,_,clr t.slots env,x,env4,RY,RepE.clr _ ((re.stp (s1.trans s2) R0).stp sY R2),zx,e4,λσ4 re4=>⟨μ2,_,env4,RY,re4,tt,h5,e5,λμ5 H5 b s5' R5 hb=>?_⟩⟩;have s5:=sY.trans s5';subst hb;simp only at el'
   split at el'
   ·rename_i sy3
    simp only[zab,zac] at el';obtain⟨rest',h6,el'',er,rfl⟩:=el'
    cases tt with
    |false=>simp only[ZN,if_false,zac] at e6⊢;obtain⟨rfl,rfl⟩:=e6;refine⟨m-1,by omega,μ5,_,ys,rest',s2.trans s5,zb2 sy2 sy3,R5,L2.Paired.mapP zy λd v z=>el.stp s5 R2 z,by omega,by omega,el'',?_⟩;rw[<-eys,<-er]
    |true=>
     simp only[if_true,zab,zac] at e6⊢;obtain⟨r,h7,e7,d,h8,e8,rfl,rfl⟩:=e6;refine⟨μ5,h5,env4,R5,re4.stp s5' RY,r,h7,e7,λμ6 H6 v6 s6 R6 q6=>?_⟩;obtain⟨s7,R7,zd⟩:=el.kp R6 q6 e8
     refine⟨m-1,by omega,μ6,_,ys++[d],rest',((s2.trans s5).trans s6).trans s7,zb2 sy2 sy3,R7,zgu (L2.Paired.mapP zy λd v z=>el.stp s7 R6 (el.stp s6 R5 (el.stp s5 R2 z))) (.cons zd .nil),by omega,by simp;omega,el'',?_⟩
     rw[<-eys,<-er];simp
   ·cases el'
theorem zv2(K:Z7):ElK K fz (λμ h H d v=>RepD K (Live μ h) H d v):=⟨zlj,λs r q=>RepD.stp s r q⟩
theorem zvQ(K:Z7):ElK K zbm (λμ h H l v=>∃b,μ[l]?=some b/\v=.ref b):=by
 refine⟨λ{μ h H r v d h'} R0 q e=>?_,λs r ⟨b,e1,e2⟩=>⟨b,s.pre _ _ e1,e2⟩⟩
 cases r with
 |d x=>cases e
 | loc l=>
  (delta zbm at e;(try dsimp only at e))
  split at e
  ·simp only[Z5,Z1] at e
   obtain⟨rfl,rfl⟩:=e;exact⟨Stp.refl,R0,q⟩
  ·cases e
theorem zkI:∀{K:Z7} {A:Addr->Prop} {H:Hp} {xs:List D} {vs:List V},Paired (RepD K A H) xs vs->RepDs K A H xs vs|_,_,_,_,_,.nil=>.nil|_,_,_,_,_,.cons r t=>.cons r (zkI t)
def zuA(t:Tg)(ft:IT.Env->M Bool)(fe:IT.Env->M R)(σ:IT.Env)(x:Ite):M (Option D):=zhZ fz t ft fe σ x
theorem znQ{t:Tg}{fi:IT.Env->M Wk}(hwl:∀σ h w h',fi σ h=some (w,h')->WlOk w h'){H:Hp}{Q:VK}
  (q:tLs K (λσ=>bnd (fi σ) λw=>zbz w.l (zuA t ft fe σ) w.xs) σ H Q):zlv (tI K fi) t.slots (tGI K t) (tTv K ft) (tE K fe) σ H Q:=by
 refine zgk (zv2 K) hwl ?_;obtain⟨μ,h,env,R0,re,zs,h',e,k⟩:=q;exact⟨μ,h,env,R0,re,zs,h',e,λμ' H' a vs st R1 z ha=>k μ' H' a vs st R1 (zkI z) ha⟩
end
end IT
namespace IT
open PySem PySem.Spec L2
section
variable {X:Cx}
theorem zo3:PS X st (tS X.K λ_ _=>none):=λpins s σ H D I ⟨μ,h,env,R0,re,fl,env',h',e,k⟩=>by cases e
theorem zot:IE X e (λ_ _=>none):=λpins s σ H Q I ⟨μ,h,env,R0,re,r,h',e,k⟩=>by cases e
theorem zqf(hp:Wi (model X.prog X.w) X.A X.env X.xe)(hc:IT' X c ft)(hb:PSs X body (tS X.K fb))(n:Nat):
  PS X (.While c body [] pos) (tS X.K λσ=>zcO ft fb n σ):=by
 refine PS.imp (zpy hp hc hb) λD σ H q0=>?_;obtain⟨μ,h,env,R0,re,fl,env',h',e,k⟩:=q0;refine⟨λm σ2 H2=>∃μ2 h2 env2,Stp μ h H μ2 h2 H2/\Rep X.K μ2 h2 H2/\RepE X.K μ2 h2 H2 env2 σ2/\zcO ft fb m env2 h2=some ((fl,env'),h'),⟨n,μ,h,env,Stp.refl,R0,re,e⟩,?_⟩
 rintro m σ2 H2 ⟨μ2,h2,env2,s2,R2,re2,e2⟩
 cases m with
 |zero=>cases e2
 | succ m=>
  simp only[zcO,zab] at e2;obtain⟨t,h3,e3,e4⟩:=e2;refine⟨μ2,h2,env2,R2,re2,t,h3,e3,λμ3 H3 b s3 R3 hb=>?_⟩;subst hb
  cases t with
  |false=>simp only[ZN,if_false,zac,Z1] at e4⊢;obtain⟨⟨rfl,rfl⟩,rfl⟩:=e4;exact k μ3 H3 σ2 (s2.trans s3) R3 (re2.stp s3 R2)
  | true=>
   simp only[if_true,zab] at e4⊢;obtain⟨⟨fl5,env5⟩,h5,e5,e6⟩:=e4;refine⟨λσ' H'=>∃m',m'<m+1/\∃μ2 h2 env2,Stp μ h H μ2 h2 H'/\Rep X.K μ2 h2 H'/\RepE X.K μ2 h2 H' env2 σ'/\zcO ft fb m' env2 h2=some ((fl,env'),h'),λσ' H' hN=>hN,?_⟩;refine⟨μ3,h3,env2,R3,re2.stp s3 R2,fl5,env5,h5,e5,λμ6 H6 σ6 s6 R6 re6=>?_⟩
   cases fl5 with|nx=>exact⟨m,YK _,μ6,h5,env5,(s2.trans s3).trans s6,R6,re6,e6⟩|cnt=>exact⟨m,YK _,μ6,h5,env5,(s2.trans s3).trans s6,R6,re6,e6⟩|brk=>simp only[zac,Z1] at e6;obtain⟨⟨rfl,rfl⟩,rfl⟩:=e6;exact k μ6 H6 σ6 ((s2.trans s3).trans s6) R6 re6|ret r=>simp only[zac,Z1] at e6;obtain⟨⟨rfl,rfl⟩,rfl⟩:=e6;exact k μ6 H6 σ6 ((s2.trans s3).trans s6) R6 re6
theorem zv5(hg:Gl X "list")(hm:X.mg "list"=none)(he:IE X e f)(hs:ZW [e] X.env=[(false,eval e X.env)]):IL X (.Call (.Name "list" p) [e] [] pos) (λσ=>bnd (f σ) λr=>bnd (rd r) λd=>opt (items d)):=by
 refine PE.imp (ze4 zhP hg hm PyProof.Rows.boot_list (zbG he zeA hs) (by decide) (by decide) hs rfl) λσ H Q q0=>?_;obtain⟨μ,h,env,R0,re,xs,h',e,k⟩:=q0;simp only[zab,zay] at e;obtain⟨r,h1,e1,d,h2,e2,e3,rfl⟩:=e;refine⟨μ,h,env,R0,re,r,h1,e1,λμ1 H1 v s1 R1 q1=>?_⟩;obtain⟨rfl,z⟩:=zbT R1 q1 e2
 cases d with|tup ys=>simp only[RdD,RepD] at z;obtain⟨a,vs,rfl,q,zs⟩:=z;simp only[items,Z5] at e3;subst e3;exact⟨a,vs,rfl,.inr q,λl hl=>k μ1 H1 l vs s1 R1 zs hl⟩|lst ys=>obtain⟨a,vs,rfl,q,zs⟩:=z;simp only[items,Z5] at e3;subst e3;exact⟨a,vs,rfl,.inl q,λl hl=>k μ1 H1 l vs s1 R1 zs hl⟩|_=>simp[items] at e3
theorem zuu(ha:IE X a f)(hb:IE X b g):IL X (.BinOp a .Add b pos) (λσ=>bnd (f σ) λx=>bnd (g σ) λy=>bnd (rd x) λx=>bnd (rd y) λy=>opt (catD x y)):=by
 refine PE.imp (zu2 znV ha hb) λσ H Q q0=>?_;obtain⟨μ,h,env,R0,re,xs,h',e,k⟩:=q0;simp only[zab,zay] at e;obtain⟨x,h1,e1,y,h2,e2,dx,h3,e3,dy,h4,e4,e5,rfl⟩:=e;refine⟨μ,h,env,R0,re,x,h1,e1,λμ1 H1 v s1 R1 q1=>⟨μ1,h1,env,R1,re.stp s1 R0,y,h2,e2,λμ2 H2 u s2 R2 q2=>?_⟩⟩;obtain⟨rfl,zx⟩:=zbT R2 (q1.stp s2 R1) e3;obtain⟨rfl,zy⟩:=zbT R2 q2 e4
 cases dx with
 | lst xs1=>
  cases dy with
  | lst xs2=>
   (delta catD at e5;(try dsimp only at e5))
   split at e5
   ·rename_i hf
    cases e5;obtain⟨p,vs,rfl,q1,z1⟩:=zx;obtain⟨p',vs',rfl,q2,z2⟩:=zy;have l1:=z1.length;have l2:=z2.length;have hlen:xs1.length+xs2.length<=sizeLine:=of_decide_eq_true hf;exact⟨p,p',vs,vs',rfl,rfl,q1,q2,by omega,λr hr=>k μ2 H2 r _ (s1.trans s2) R2 (z1.app z2) hr⟩
   ·cases e5
  |_=>exact zae e5
 |_=>cases dy<;>exact zae e5
theorem zhX:∀{xs:List D} {bs:List Bool},zaK xs=some bs->bs.length=xs.length
 | [],bs,e=>by simp only[zaK,Z5] at e;subst e;rfl
 | x :: xs,bs,e=>by
  simp only[zaK] at e
  split at e
  ·split at e
   ·rename_i es
    simp only[Z5] at e;subst e;simp only[Zu,zhX es]
   ·cases e
  ·cases e
theorem zks:∀{xs:List D} {bs:List Bool} {i:Nat} {d:D},zaK xs=some bs->xs[i]?=some d->∃b,bs[i]?=some b/\tru d=some b
 | [],bs,i,d,e,ed=>by simp at ed
 | x :: xs,bs,i,d,e,ed=>by
  simp only[zaK] at e
  split at e
  ·rename_i b eb
   split at e
   ·rename_i l es
    simp only[Z5] at e;subst e
    cases i with|zero=>simp only[List.getElem?_cons_zero,Z5] at ed;subst ed;exact⟨b,rfl,eb⟩|succ i=>obtain⟨c,e1,e2⟩:=zks (i:=i) (d:=d) es (by simpa using ed);exact⟨c,by simpa using e1,e2⟩
   ·cases e
  ·cases e
theorem zmP(bs:List Bool):(Zy bs.length).all (λi=>bs.getD i false)=bs.all id:=by
 rw[V0,YS,YS];constructor
 ·intro h b hb
  obtain⟨i,hi,e⟩:=Yx hb
  have:=h i (by simpa using hi)
  rw[YN,Z6 hi] at this
  simpa[e] using this
 ·intro h i hi
  have hi':i<bs.length:=by simpa using hi
  rw[YN,Z6 hi'];exact h _ (W0 hi')
theorem zn4(bs:List Bool):(Zy bs.length).any (λi=>bs.getD i false)=bs.any id:=by
 rw[V0,X4,X4];constructor
 ·rintro⟨i,hi,h⟩
  have hi':i<bs.length:=by simpa using hi
  rw[YN,Z6 hi'] at h;exact⟨_,W0 hi',by simpa using h⟩
 ·rintro⟨b,hb,h⟩
  obtain⟨i,hi,e⟩:=Yx hb;refine⟨i,by simpa using hi,?_⟩;rw[YN,Z6 hi]
  simpa[e] using h
def zjc(prog:Zs)(w:World)(A:Around)(Hs:Shared->Prop)(P:Nat->Value->Prop)(tr:Nat->Bool):Prop:=∀i v (t:Shared) (Q:Bool->Shared->Prop) (E:Value->Shared->Prop),P i v->Hs t->(∀tk,Q (tr i) {t with toks:=tk})->wpAny (model prog w) A (truthy v) Q E t
theorem zcL(h:i<n):(Zy n).drop i=i::(Zy n).drop (i+1):=by rw[Zv (by simpa using h)];simp
section
variable {prog:Zs}{w:World}{A:Around}{R:Result->Shared->Prop}{I:Addr}{fp wr:List Addr}{n:Nat}{P:Nat->Value->Prop}{St:Nat->Heap->Prop}{Hs:Shared->Prop}
theorem znl(W:Walks prog w A.in1 I fp wr n P St)(tr:Nat->Bool)(hs:∀t h' tk,Hs t->(∀b o,b∉wr->t.heap.get? b=some o->h'.get? b=some o)->Hs {t with heap:=h',toks:=tk})(htr:zjc prog w A.in1 Hs P tr)(k:Nat):
  ∀ (i:Nat) (t:Shared),n-i=k->i<=n->St i t.heap->Hs t →
   (∀h' tk,(∀b o,b∉wr->t.heap.get? b=some o->h'.get? b=some o)->R (.ok (.ret (.bool (((Zy n).drop i).any tr)))) {t with heap:=h',toks:=tk})->Xg (model prog w) A (.builtin "any.loop" ⟨[.ref I],[]⟩) R t:=by
 induction k with
 |zero=>
  intro i t hk hi st ht hR
  obtain rfl:i=n:=by omega
  refine WN F.entry_any_loop ?_;rw[XM WZ _];refine Z4 (m:=pyNext (.ref I)) (W.done t _ _ st λh' tk e=>Z4 (Xu (ZY ?_)));have z:=hR h' tk e
  rwa [YO (by simp)] at z
 | succ k ih=>
  intro i t hk hi st ht hR
  have hlt:i<n:=by omega
  refine WN F.entry_any_loop ?_;rw[XM WZ _];refine Z4 (m:=pyNext (.ref I)) (W.item i t _ _ hlt st λv h' tk hP st' e=>Z4 (Ye (htr i v _ _ _ hP (hs t h' tk ht e) λtk2=>Z4 (wpAny_letGo ?_))))
  cases hb:tr i with
  |false=>
   simp only[ZN,if_false];refine ZY ⟨WT WZ _,ih (i+1) _ (by omega) hlt st' (hs t h' tk2 ht e) λh2 tk3 e2=>?_⟩;have z:=hR h2 tk3 λb o hbw eb=>e2 b o hbw (e b o hbw eb)
   rwa [zcL hlt,List.any_cons,hb,Bool.false_or] at z
  |true=>
   simp only[if_true];refine Z4 (Xu (ZY ?_));have z:=hR h' tk2 e
   rwa [zcL hlt,List.any_cons,hb,Bool.true_or] at z
theorem zmi(W:Walks prog w A.in1 I fp wr n P St)(tr:Nat->Bool)(hs:∀t h' tk,Hs t->(∀b o,b∉wr->t.heap.get? b=some o->h'.get? b=some o)->Hs {t with heap:=h',toks:=tk})(htr:zjc prog w A.in1 Hs P tr)(k:Nat):
  ∀ (i:Nat) (t:Shared),n-i=k->i<=n->St i t.heap->Hs t →
   (∀h' tk,(∀b o,b∉wr->t.heap.get? b=some o->h'.get? b=some o)->R (.ok (.ret (.bool (((Zy n).drop i).all tr)))) {t with heap:=h',toks:=tk})->Xg (model prog w) A (.builtin "all.loop" ⟨[.ref I],[]⟩) R t:=by
 induction k with
 |zero=>
  intro i t hk hi st ht hR
  obtain rfl:i=n:=by omega
  refine WN F.entry_all_loop ?_;rw[XM WY _];refine Z4 (m:=pyNext (.ref I)) (W.done t _ _ st λh' tk e=>Z4 (Xu (ZY ?_)));have z:=hR h' tk e
  rwa [YO (by simp)] at z
 | succ k ih=>
  intro i t hk hi st ht hR
  have hlt:i<n:=by omega
  refine WN F.entry_all_loop ?_;rw[XM WY _];refine Z4 (m:=pyNext (.ref I)) (W.item i t _ _ hlt st λv h' tk hP st' e=>Z4 (Ye (htr i v _ _ _ hP (hs t h' tk ht e) λtk2=>Z4 (wpAny_letGo ?_))))
  cases hb:tr i with
  |true=>
   simp only[if_true];refine ZY ⟨WT WY _,ih (i+1) _ (by omega) hlt st' (hs t h' tk2 ht e) λh2 tk3 e2=>?_⟩;have z:=hR h2 tk3 λb o hbw eb=>e2 b o hbw (e b o hbw eb)
   rwa [zcL hlt,Wm,hb,Za] at z
  |false=>
   simp only[ZN,if_false];refine Z4 (Xu (ZY ?_));have z:=hR h' tk2 e
   rwa [zcL hlt,Wm,hb,Y1] at z
end
theorem zfw(hc:X.calm=true)(all:Bool):zoI X (.builtin (if all then "all" else "any")) (biD (if all then .all else .any)):=by
 intro pins s σ H vs us Q I r q;obtain⟨μ,h,ds,z,R0,pr,e,k⟩:=q
 cases pr with
 |nil=>cases all<;>exact zae e
 | @cons d v ds vs qd pr=>
  cases pr with
  |cons _ _=>cases all<;>cases d<;>exact zae e
  | nil=>
   cases d with
   | lst xs=>
    obtain⟨p,ws,rfl,q1,z1⟩:=qd
    have eb:∃bs,zaK xs=some bs/\z=.bl (if all then bs.all id else bs.any id):=by
     cases hb:zaK xs with|none=>cases all<;>(change (match zaK xs with | some bs=>_ | none=>_)=_ at e;rw[hb] at e;exact zae e)|some bs=>cases all<;>(change (match zaK xs with | some bs=>_ | none=>_)=_ at e;rw[hb] at e;exact⟨bs,rfl,(ZZ e).symm⟩)
    obtain⟨bs,eb,rfl⟩:=eb;obtain⟨u,rfl,rx⟩:=zjx r;cases rx;obtain⟨its,ri,pl,hz⟩:=I.list q1;have hl1:=z1.length;have hl2:=ri.length;have hl3:=zhX eb
    have hne:p≠s.heap.objs.size:=by obtain⟨o,n,eo,_⟩:=id pl;exact ZH (ZT eo)
    have W:=Walks.list (prog:=X.prog) (w:=X.w) (A:=X.A.in1) (I.ok.hd hc) s.heap.objs.size p hne its.toArray
    let Hs:Shared->Prop:=λt=>∃h' tk,t={s with heap:=h',toks:=tk}/\∀a o,s.heap.get? a=some o->h'.get? a=some o
    have hs:∀t h' tk,Hs t->(∀b o,b∉[s.heap.objs.size]->t.heap.get? b=some o->h'.get? b=some o)->Hs {t with heap:=h',toks:=tk}:=by
     rintro t h' tk ⟨h1,tk1,rfl,e1⟩ e2
     exact⟨h',tk,rfl,λa o ea=>e2 a o (by simp;exact ZH (ZT ea)) (e1 a o ea)⟩
    have htr:zjc X.prog X.w X.A.in1 Hs (λi v=>its.toArray[i]?=some v) (λi=>bs.getD i false):=by
     rintro i v t Q1 E1 ei ⟨h1,tk1,rfl,e1⟩ hq
     have ei':its[i]?=some v:=by simpa using ei
     have hi:i<its.length:=(Z9.mp ei').1;obtain⟨d,ed⟩:∃d,xs[i]?=some d:=⟨xs[i]'(by omega),Z6 _⟩;obtain⟨b,e2,e3⟩:=zks eb ed;obtain⟨v2,e4,e5⟩:=z1.get ed
     have rv:RelV v2 v:=by
      have:=zoT ri e4 hi
      rwa [(Z9.mp ei').2] at this
     have e6:bs.getD i false=b:=by rw[YN,e2];rfl
     simp only[e6] at hq;exact znz (I.kept (t':=tk1) e1) (RdD.of e5) rv e3 hq
    have st0:(s.heap.push {cls:=.type "list_iterator",data:=.fields #[.ref p,.int 0 0]}).IsListIter s.heap.objs.size p 0/\(s.heap.push {cls:=.type "list_iterator",data:=.fields #[.ref p,.int 0 0]}).IsList p its.toArray:=by refine⟨⟨_,Zw _ rfl,rfl,rfl⟩,?_⟩;obtain⟨o,eo,hcl,n,hd⟩:=pl.isList;exact⟨o,Z0 _ eo,hcl,n,hd⟩
    have hs0:Hs {s with heap:=s.heap.push {cls:=.type "list_iterator",data:=.fields #[.ref p,.int 0 0]}}:=⟨_,s.toks,rfl,λa o ea=>Z0 _ ea⟩
    have hsz:its.toArray.size=bs.length:=by simp;omega
    have fin:∀(b:Bool) (h':Heap) (tk:Nat),(∀b o,b∉[s.heap.objs.size]->(s.heap.push {cls:=.type "list_iterator",data:=.fields #[.ref p,.int 0 0]}).get? b=some o->h'.get? b=some o)->Q (.bl b) H->EP X pins σ Q (.bool b) {s with heap:=h',toks:=tk}:=by
     intro b h' tk hk q
     refine⟨.bl b,H,I.kept (t':=tk) λa o ea=>hk a o (by simp;exact ZH (ZT ea)) (Z0 _ ea),rfl,q⟩
    have hq:=k μ H (.bl (if all then bs.all id else bs.any id)) Stp.refl R0 (by simp only[RepD])
    cases all with|true=>refine call_function_tree F.kind_all F.plain_all F.entry_all (F.args_all1 _) ?_;unfold YG.«all»;refine Z4 (m:=oneArg "all" _) (ZY (Z4 (Wo pl.isList (ZY ⟨WT WY _,zmi W _ hs htr _ 0 _ rfl (Zz _) st0 hs0 λh' tk hk=>?_⟩))));rw[X5,hsz,zmP];exact fin _ h' tk hk hq|false=>refine call_function_tree F.kind_any F.plain_any F.entry_any (F.args_any1 _) ?_;unfold YG.«any»;refine Z4 (m:=oneArg "any" _) (ZY (Z4 (Wo pl.isList (ZY ⟨WT WZ _,znl W _ hs htr _ 0 _ rfl (Zz _) st0 hs0 λh' tk hk=>?_⟩))));rw[X5,hsz,zn4];exact fin _ h' tk hk hq
   |_=>cases all<;>exact zae e
end
def tyS:Ty->String|.list=>"list"|.tuple=>"tuple"
section
variable {K:Z7}
theorem zsy(t:Ty):XL K (.type "NoneType") (.type (tyS t))=some (isiD t .non):=by cases t<;>rfl
theorem ztP(t:Ty)(b:Bool):XL K (.type "bool") (.type (tyS t))=some (isiD t (.bl b)):=by cases t<;>rfl
theorem zrN(t:Ty)(i:Int):XL K (.type "int") (.type (tyS t))=some (isiD t (.int i)):=by cases t<;>rfl
theorem zrg(t:Ty)(x:List Nat):XL K (.type "str") (.type (tyS t))=some (isiD t (.str x)):=by cases t<;>rfl
theorem zsD(t:Ty)(x:List D):XL K (.type "tuple") (.type (tyS t))=some (isiD t (.tup x)):=by cases t<;>rfl
theorem zre(t:Ty)(x:List D):XL K (.type "list") (.type (tyS t))=some (isiD t (.lst x)):=by cases t<;>rfl
end
section
variable {X:Cx}
theorem zkK(t:Ty):zhJ X (.builtin "isinstance") (λvs H Q=>∃A d v,RdD X.K A H d v/\vs=[v,.ty (tyS t)]/\Q (.bl (isiD t d)) H):=by
 intro pins s σ H vs us Q I r q;obtain⟨A,d,v,qd,rfl,q⟩:=q
 cases r with
 | cons r1 r=>
  cases r with
  | cons r2 r=>
   cases r;rename_i u1 u2;have e2:u2=Xs (tyS t):=r2;subst e2;have fin:∀tk:Nat,EP X pins σ Q (.bool (isiD t d)) {s with toks:=tk}:=λtk=>⟨.bl (isiD t d),H,I.tok tk,rfl,q⟩
   cases d with
   |non=>
    simp only[RdD,RepD] at qd;subst qd
    have e1:u1=W5:=r1;subst e1;exact XZ PySem.W.kitx_none I.kIn W3 (zsy t) (λz=>nomatch z) fin
   |bl b=>
    simp only[RdD,RepD] at qd;subst qd
    have e1:u1=Xt b:=r1;subst e1;exact XZ PySem.W.kitx_bool I.kIn W3 (ztP t b) (λz=>nomatch z) fin
   |int i=>
    simp only[RdD,RepD] at qd;subst qd
    obtain⟨t',e1⟩:=(show ∃t',u1=Value.int i t' from r1);subst e1;exact XZ PySem.W.kitx_int I.kIn W3 (zrN t i) (λz=>nomatch z) fin
   |str x=>
    simp only[RdD,RepD] at qd;subst qd
    obtain⟨t',e1⟩:=(show ∃t',u1=Value.str (zbj x) t' from r1);subst e1;exact XZ PySem.W.kitx_str I.kIn W3 (zrg t x) (λz=>nomatch z) fin
   |tup xs=>simp only[RdD,RepD] at qd;obtain⟨a,ws,rfl,q1,_⟩:=qd;have e1:u1=YM a:=r1;subst e1;obtain⟨its,ri,⟨o,h1,h2,_⟩,hz⟩:=I.tuple q1;exact XZ PySem.W.kitx_tuple I.kIn ⟨o,h1,h2⟩ (zsD t xs) (λz=>nomatch z) fin|lst xs=>obtain⟨a,ws,rfl,q1,_⟩:=qd;have e1:u1=YM a:=r1;subst e1;obtain⟨its,ri,⟨o,n,h1,h2,_⟩,hz⟩:=I.list q1;exact XZ PySem.W.kitx_list I.kIn ⟨o,h1,h2⟩ (zre t xs) (λz=>nomatch z) fin
theorem zmq(t:Ty):XJ (YH (tyS t))=some (.type (tyS t)):=by cases t<;>decide +kernel
theorem zu4(hg:Gl X "isinstance")(hm:X.mg "isinstance"=none)(he:IE X e f)(hx:x=YH (tyS t))(hg2:Gl X x)(hm2:X.mg x=none)(hs:ZW [e,.Name x p2] X.env=[(false,eval e X.env),(false,eval (.Name x p2) X.env)]):
  IE X (.Call (.Name "isinstance" p) [e,.Name x p2] [] pos) (λσ=>bnd (f σ) λr=>bnd (rd r) λd=>ok (.d (.bl (isiD t d)))):=by
 subst hx
 have hn:YH (tyS t) ≠ "__name__":=by cases t<;>decide
 have hdb:(YH (tyS t)==("__debug__":Str))=false:=by cases t<;>decide
 have h2:PE X (.Name (YH (tyS t)) p2) (tC (.ty (tyS t))):=zmf hg2 hm2 (zmq t) rfl hn hdb;refine PE.imp (zcH (zkK t) hg hm WM (zbG he (zbG h2 zeA rfl) hs) (by decide) (by decide) hs rfl) λσ H Q q0=>?_;obtain⟨μ,h,env,R0,re,r,h',e,k⟩:=q0;simp only[zab,zac] at e;obtain⟨r1,h1,e1,d,h2',e2,rfl,rfl⟩:=e;refine⟨μ,h,env,R0,re,r1,h1,e1,λμ1 H1 v s1 R1 q1=>?_⟩;obtain⟨rfl,z⟩:=zbT R1 q1 e2;exact⟨_,d,v,z,rfl,k μ1 H1 _ s1 R1 (by simp only[RepR,RepD])⟩
end
end IT
namespace IT
open PySem PySem.Spec L2
open PySem.StrLaws Builtin.Str
section
variable {X:Cx}
theorem znr(ho:IE X o f)(ha:IA X (e::es) fs)(hname:name=("extend":Str))
  (hbase:YQ o name X.env (eval o X.env)=eval o X.env)
  (hfew:((backTo cpos (ZW (e::es) X.env)).all (λx=>!x.1)&&(Yy cpos (Y9 [] X.env)).all (λx=>x.1.isSome)
   && decide ((e::es).length+([]:List XU).length+(if([]:List XU).isEmpty then 0 else 1)<30))=true)
  (hline:(apos.endLine==cpos.line)=true) (hs:ZW (e::es) X.env=(false,eval e X.env)::ZW es X.env) (hplain:(backTo cpos (ZW es X.env)).any (·.1)=false):
  IE X (.Call (.Attribute o name apos) (e::es) [] cpos) (λσ=>bnd (f σ) λx=>bnd (zfq x) λ_=>bnd (fs σ) λrs=>meth .extend x rs):=by
 subst hname;refine PE.imp (zro Xm PySem.F.slot_list_extend PySem.F.type_list_extend zlz ho ha hbase hfew hline hs hplain) λσ H Q q0=>?_;obtain⟨μ,h,env,R0,re,r,h',e,k⟩:=q0;simp only[zab] at e;obtain⟨x,h1,e1,_,h1',e0,rs,h2,e2,e3⟩:=e;obtain⟨l,o1,rfl,ho1,il1,rfl⟩:=zgr e0;refine⟨μ,h,env,R0,re,.loc l,_,e1,λμ1 H1 v s1 R1 q1=>?_⟩
 ·skip
  obtain⟨a,ea,rfl⟩:=q1;obtain⟨vs1,hH1,z1⟩:=R1.placeL ea ho1 il1;refine⟨.inl ⟨rfl,vs1,.inl (.inl hH1)⟩,μ1,_,env,R1,re.stp s1 R0,rs,h2,e2,λμ2 H2 ws s2 R2 q2=>?_⟩
  cases q2 with
  |nil=>exact zae e3
  | @cons rr w rs' ws' qr q2=>
   cases q2 with
   |cons _ _=>exact zae e3
   | nil =>
    (delta meth at e3;(try dsimp only at e3);simp only[zab] at e3)
    obtain⟨d,h3,e4,e5⟩:=e3;obtain⟨rfl,zd⟩:=zbT R2 qr e4;have ea2:=s2.pre l a ea
    cases d with
    | lst ys=>
     obtain⟨b,vs2,rfl,sq,zz⟩:=zd;simp only at e5
     split at e5
     ·rename_i xs hx
      split at e5
      ·rename_i hlen
       simp only[Z5,Z1] at e5;obtain⟨rfl,rfl⟩:=e5;obtain⟨vs3,hH3,z3⟩:=R2.placeL ea2 hx rfl
       have hlen':vs3.length+vs2.length<=sizeLine:=by have l3:=z3.length;have l2:=zz.length;have h4:xs.length+ys.length<=big:=of_decide_eq_true hlen;have h5:big=sizeLine:=rfl;simp only[Ob.items] at l3;omega
       refine⟨a,b,vs3,vs2,rfl,rfl,hH3,sq,hlen',?_⟩;obtain⟨s4,R4⟩:=write R2 ea2 hx (z3.app zz);exact k μ2 _ .non ((s1.trans s2).trans s4) R4 (by simp only[RepR,RepD])
      ·cases e5
     ·cases e5
    |_=>cases e5
theorem ziE{α β:Type}{p:α->Bool}{f:β->Bool}:∀{xs:List α} {ys:List β},xs.length=ys.length->(∀(j:Nat) (x:α) (y:β),xs[j]?=some x->ys[j]?=some y->f y=p x)->ys.countP f=xs.countP p| [],[],_,_=>rfl| [],_::_,h,_=>by simp at h|_::_,[],h,_=>by simp at h|x::xs,y::ys,h,k=>by rw[List.countP_cons,List.countP_cons,ziE (xs:=xs) (ys:=ys) (by simpa using h) (λj x y hx hy=>k (j+1) x y (by simpa using hx) (by simpa using hy)),k 0 x y rfl rfl]
def lmI:Lm->String|.count=>"list.count"
theorem zvN(hu:X.A.units+64<cLine)(m:Lm):MtR X (lmI m) (λx vs H Q=>∃μ h xs d v z,Rep X.K μ h H/\RdD X.K (Live μ h) H (.lst xs) x/\vs=[v]/\RdD X.K (Live μ h) H d v/\lmD m (.lst xs) d=some z/\(∀w,RepD X.K (Live μ h) H z w->Q w H)):=by
 intro pins s σ H x vs v us Q I rx rs q;obtain⟨μ,h,xs,d,vd,z,R0,qx,rfl,qd,e,k⟩:=q;obtain⟨p,ws,rfl,sq,zz⟩:=qx;cases rx;obtain⟨u,rfl,ru⟩:=rs.one;obtain⟨its,ri,⟨o,n,e1,hc,hdd,hs⟩,hz⟩:=I.list sq;obtain⟨cls,dd,data,sl⟩:=o;simp only at hc hdd hs;subst hc hdd hs
 have hlen:xs.length=its.length:=by rw[zz.length,ri.length]
 cases m with
 | count=>
  (delta lmD at e;(try dsimp only at e))
  split at e
  ·rename_i hd
   cases e;obtain⟨f,f1,f2⟩:=zqT hu I qd ru (of_decide_eq_true hd) zz ri;refine Xr F.slot_list_count ⟨_,e1,rfl⟩ F.entry_list_count (F.args_list_count_2 _ _) (SeqAt.list_countAt p its.toArray n none sl u f) ⟨e1,f1,?_⟩
   have ec:(its.toArray.toList.countP f:Nat)=xs.countP λy=>y.eqb d:=by simpa using ziE hlen f2
   rw[ec];exact⟨.int _,H,I.tok _,⟨_,rfl⟩,k _ (by simp only[RepD])⟩
  ·cases e
def lmS:Lm->Str|.count=>"count"
theorem zvY(hu:X.A.units+64<cLine)(ho:IE X o f)(he:IE X e g)(hname:name=lmS m)
  (hbase:YQ o name X.env (eval o X.env)=eval o X.env)
  (hfew:((backTo cpos (ZW [e] X.env)).all (λx=>!x.1)&&(Yy cpos (Y9 [] X.env)).all (λx=>x.1.isSome)
   && decide ([e].length+([]:List XU).length+(if([]:List XU).isEmpty then 0 else 1)<30))=true)
  (hline:(apos.endLine==cpos.line)=true) (hs:ZW [e] X.env=[(false,eval e X.env)]) (hplain:(backTo cpos (ZW [] X.env)).any (·.1)=false):
  IE X (.Call (.Attribute o name apos) [e] [] cpos) (λσ=>bnd (f σ) λx=>bnd (rd x) λ_=>bnd (g σ) λy=>bnd (rd x) λx=>bnd (rd y) λy=>bnd (opt (lmD m x y)) λz=>ok (.d z)):=by
 have slot:Slot "list" name (lmI m):=by
  subst hname
  cases m with|count=>exact PySem.F.slot_list_count
 have hty:typeOf (.builtin (lmI m))=pure (.type "method_descriptor"):=by
  cases m with|count=>exact PySem.F.type_list_count
 refine PE.imp (zro Xm slot hty (zvN hu m) ho (zbG he zeA hs) hbase hfew hline hs hplain) λσ H Q q0=>?_;obtain⟨μ,h,env,R0,re,r,h',e,k⟩:=q0;simp only[zab,zay,zac] at e;obtain⟨x,h1,e1,d1,h1',e0,y,h2,e2,dx,h3,e3,dy,h4,e4,z,h5,⟨e5,rfl⟩,rfl,rfl⟩:=e;refine⟨μ,h,env,R0,re,x,h1,e1,λμ1 H1 v s1 R1 q1=>?_⟩;obtain⟨rfl,_⟩:=zbT R1 q1 e0
 have hd:∃xs,dx=.lst xs:=by
  cases dx with|lst xs=>exact⟨xs,rfl⟩|_=>cases m<;>exact zae e5
 obtain⟨xs,rfl⟩:=hd
 have ty:tyV X.K "list" v H1:=by
  cases x with|loc l=>obtain⟨a,ea,rfl⟩:=q1;obtain⟨o1,ho1,il1,_,_⟩:=zgC e0;obtain⟨vs1,hH1,z1⟩:=R1.placeL ea ho1 il1;exact .inl ⟨rfl,vs1,.inl (.inl hH1)⟩|d d0=>simp only[rd,zac] at e3;obtain⟨rfl,rfl⟩:=e3;simp only[RepR,RepD] at q1;obtain⟨a,ws,rfl,sq,zz⟩:=q1;exact .inl ⟨rfl,ws,sq.sq⟩
 refine⟨ty,μ1,_,env,R1,re.stp s1 R0,y,h2,e2,λμ2 H2 w s2 R2 q2=>?_⟩;have q1':=RepR.stp s2 R1 q1;obtain⟨rfl,zx⟩:=zbT R2 q1' e3;obtain⟨rfl,zy⟩:=zbT R2 q2 e4;exact⟨μ2,_,xs,dy,w,z,R2,zx,rfl,zy,e5,λu qu=>k μ2 H2 u (s1.trans s2) R2 qu⟩
end
end IT
namespace PySem
open Sem (wp)
open Builtin
section
variable {prog:Zs}{w:World}{A:Around}{E:Value->Shared->Prop}{s:Shared}
end
section
variable {prog:Zs}{w:World}{K:Type}[DecidableEq K]{knd:KeyKind prog w K}{A:Around}{E:Value->Shared->Prop}{R:Result->Shared->Prop}
end
end PySem
namespace IT
open PySem PySem.Spec L2
section
variable {X:Cx}
theorem zuN{pins:List (Addr×Obj)}{σ:St}{H:Hp}{s:Shared}(I:Inv X pins σ H s):Wa<s.heap.objs.size:=by refine Xb (by decide) ((I.mod.glob.keeps I.bk).lt)
end
end IT
namespace IT
open PySem PySem.Spec L2
section
variable {X:Cx}
abbrev RelF(K:Z7)(μ:List Addr)(h:Sto)(H:Hp):List (Str×R)->List (Str×V)->Prop:=Paired λp q=>p.1=q.1/\RepR K μ h H p.2 q.2
theorem zeS:∀{fs:List (Str×R)} {fs':List (Str×V)} {f:Str} {r:R},RelF K μ h H fs fs'->fs.lookup f=some r->∃v,fs'.lookup f=some v/\RepR K μ h H r v
 |_,_,_,_,.nil,e=>by simp at e
 | _,_,f,r,.cons (a:=a) (b:=b) ⟨q1,q2⟩ t,e=>by
  rw[ZA] at e⊢;rw[<-q1]
  split at e
  ·rename_i hb
   cases e;exact⟨b.2,rfl,q2⟩
  ·exact zeS t e
theorem zeX:∀{fs:List (Str×R)} {fs':List (Str×V)} {f:Str},RelF K μ h H fs fs'->fs.lookup f=none->fs'.lookup f=none
 |_,_,_,.nil,e=>rfl
 |_,_,f,.cons (a:=a) (b:=b) ⟨q1,q2⟩ t,e=>by
  rw[ZA] at e⊢;rw[<-q1]
  split at e
  ·cases e
  ·exact zeX t e
theorem zj5{v:V}(q:RepR K μ h H r v):∀{fs:List (Str×R)} {fs':List (Str×V)},RelF K μ h H fs fs'->RelF K μ h H (IT.putF f r fs) (L2.putF f v fs')
 |_,_,.nil=>.cons ⟨rfl,q⟩ .nil
 |_,_,.cons (a:=a) (b:=b) ⟨q1,q2⟩ t=>by
  obtain⟨g,x⟩:=a;obtain⟨g',y⟩:=b;simp only at q1 q2;subst q1;simp only[IT.putF,L2.putF]
  split
  ·exact .cons ⟨rfl,q⟩ t
  ·exact .cons ⟨rfl,q2⟩ (zj5 q t)
theorem zmZ:∀{fs:List (Str×R)} {p:Str×R},p∈IT.putF f r fs->p.1=f\/p∈fs
  | [],p,h=>by simp[IT.putF] at h;exact .inl (by rw[h])
  | (g, x)::fs,p,h=>by
    simp only[IT.putF] at h
    split at h
    · rename_i e
      rcases ZP.mp h with rfl | h
      · exact .inl e
      · exact .inr (Zr _ h)
    · rcases ZP.mp h with rfl | h
      · exact .inr YL
      · rcases zmZ h with e | e
        · exact .inl e
        · exact .inr (Zr _ e)
theorem zdt:∀{fs:List (Str×R)},fs.lookup f=some r->(f,r)∈fs
 | [],e=>by simp at e
 | p::l,e=>by
  rw[ZA] at e
  split at e
  ·rename_i h
   have h:=ZV h;cases e;rw[h];exact YL
  ·exact Zr _ (zdt e)
theorem ztJ{pos:Pos}(ho:IE X o g)(hb:YQ o f X.env (eval o X.env)=eval o X.env):IE X (.Attribute o f pos) (λσ=>bnd (g σ) λx=>getA x f):=by
 refine PE.imp (zs3 ho hb) λσ H Q q0=>?_;obtain⟨μ,h,env,R0,re,r,h',e,k⟩:=q0;simp only[zab] at e;obtain⟨x,h1,e1,e2⟩:=e;refine⟨μ,h,env,R0,re,x,h1,e1,λμ1 H1 v s1 R1 q1=>?_⟩
 cases x with
 |d d=>cases e2
 | loc l=>
  obtain⟨a,ea,rfl⟩:=q1
  (delta getA at e2;(try dsimp only at e2))
  cases ho1:h1[l]? with
  |none=>rw[ho1] at e2;cases e2
  | some ob=>
   rw[ho1] at e2
   cases ob with
   | ins c fs=>
    simp only at e2
    cases el:fs.lookup f with|none=>rw[el] at e2;cases e2|some r1=>rw[el] at e2;simp only[Z5,Z1] at e2;obtain⟨rfl,rfl⟩:=e2;obtain⟨C,dx,fs',⟨_,cl,na⟩,eH,rel⟩:=R1.obj l a _ ea ho1;obtain⟨w,ew,qw⟩:=zeS rel el;exact⟨a,C,dx,fs',w,rfl,eH,cl,na _ (zdt el),ew,k μ1 H1 w s1 R1 qw⟩
   |_=>cases e2
theorem zkC(q:RelF K μ h H fs fs'):fs.length=fs'.length:=XD q
theorem zqk{c f:Str}{fs:List (Str×R)}{fs':List (Str×V)}{r:R}{v:V}(R0:Rep K μ h H)(ea:μ[l]?=some a)(ho:h[l]?=some (.ins c fs))
  (hC:ZI K ZQ c=some (some (.ref C))/\Cls K C/\∀p∈fs,zbX K C p.1) (hn:zbX K C f) (rel:RelF K μ h H fs fs') (q:RepR K μ h H r v):
  Stp μ h H μ (h.set l (.ins c (IT.putF f r fs))) (upd H a (.ins C dx (L2.putF f v fs')))/\Rep K μ (h.set l (.ins c (IT.putF f r fs))) (upd H a (.ins C dx (L2.putF f v fs'))):=
 zmV R0 ea ho rfl λst=>⟨C,dx,_,⟨hC.1,hC.2.1,λp hp=>by
  rcases zmZ hp with e | e
  ·rw[e];exact hn
  ·exact hC.2.2 p e⟩,zam,L2.Paired.mapP (zj5 q rel) λp q' ⟨z1,z2⟩=>⟨z1,RepR.stp st R0 z2⟩⟩
theorem zst{pos pos':Pos}(he:IE X e g)(ho:IE X o k0)(hs:Xq e (some (.Attribute o f pos')) pos.line X.env=pure false):
  PS X (.Assign [.Attribute o f pos'] e pos) (tS X.K λσ=>bnd (g σ) λr=>bnd (k0 σ) λx=>bnd (setA x f r) λ_=>ok (.nx,σ)):=by
 refine PS.imp (zq2 ho he hs) λD σ H q0=>?_;obtain⟨μ,h,env,R0,re,fl,env',h',e,kk⟩:=q0;simp only[zab,zac,Z1] at e;obtain⟨r,h1,e1,x,h2,e2,_,h3,e3,⟨rfl,rfl⟩,rfl⟩:=e;refine⟨μ,h,env,R0,re,r,h1,e1,λμ1 H1 v s1 R1 q1=>⟨μ1,h1,env,R1,re.stp s1 R0,x,h2,e2,λμ2 H2 u s2 R2 q2=>?_⟩⟩
 cases x with
 |d d=>cases e3
 | loc l=>
  obtain⟨a,ea,rfl⟩:=q2
  (delta setA at e3;(try dsimp only at e3))
  cases ho1:h2[l]? with
  |none=>rw[ho1] at e3;cases e3
  | some ob=>
   rw[ho1] at e3
   cases ob with
   | ins c fs=>
    simp only at e3
    split at e3
    ·rename_i hsome
     simp only[Z5,Z1] at e3;obtain⟨_,rfl⟩:=e3;obtain⟨C,dx,fs',hC,eH,rel⟩:=R2.obj l a _ ea ho1;obtain⟨r0,el⟩:=XC.mp hsome.1;have hn:zbX X.K C f:=hC.2.2 _ (zdt el)
     have hl:fs'.length<1000:=by rw[<-zkC rel];have:=hsome.2;omega
     obtain⟨s3,R3⟩:=zqk (dx:=dx) R2 ea ho1 hC hn rel (q1.stp s2 R1);exact⟨a,C,dx,fs',rfl,eH,hC.2.1,hn,hl,kk μ2 _ σ ((s1.trans s2).trans s3) R3 (re.stp ((s1.trans s2).trans s3) R0)⟩
    ·cases e3
   |_=>cases e3
theorem zrL(he:IE X e g)(ho:IE X o k0)(hs:Xq e (some (.Attribute o f pos')) pos.line X.env=pure false)
  (hn:∀C,ZI X.K ZQ c=some (some (.ref C))->zbX X.K C f):
  PS X (.Assign [.Attribute o f pos'] e pos) (tS X.K λσ=>bnd (g σ) λr=>bnd (k0 σ) λx=>bnd (setN x c f r) λ_=>ok (.nx,σ)):=by
 refine PS.imp (zq2 ho he hs) λD σ H q0=>?_;obtain⟨μ,h,env,R0,re,fl,env',h',e,kk⟩:=q0;simp only[zab,zac,Z1] at e;obtain⟨r,h1,e1,x,h2,e2,_,h3,e3,⟨rfl,rfl⟩,rfl⟩:=e;refine⟨μ,h,env,R0,re,r,h1,e1,λμ1 H1 v s1 R1 q1=>⟨μ1,h1,env,R1,re.stp s1 R0,x,h2,e2,λμ2 H2 u s2 R2 q2=>?_⟩⟩
 cases x with
 |d d=>cases e3
 | loc l=>
  obtain⟨a,ea,rfl⟩:=q2;simp only[setN] at e3
  cases ho1:h2[l]? with
  |none=>rw[ho1] at e3;cases e3
  | some ob=>
   rw[ho1] at e3
   cases ob with
   | ins c' fs=>
    simp only at e3
    split at e3
    ·rename_i hc
     simp only[Z5,Z1] at e3;obtain⟨_,rfl⟩:=e3;obtain⟨rfl,hl⟩:=hc;obtain⟨C,dx,fs',hC,eH,rel⟩:=R2.obj l a _ ea ho1;have hn:=hn C hC.1
     have hl:fs'.length<1000:=by rw[<-zkC rel];omega
     obtain⟨s3,R3⟩:=zqk (dx:=dx) R2 ea ho1 hC hn rel (q1.stp s2 R1);exact⟨a,C,dx,fs',rfl,eH,hC.2.1,hn,hl,kk μ2 _ σ ((s1.trans s2).trans s3) R3 (re.stp ((s1.trans s2).trans s3) R0)⟩
    ·cases e3
   |_=>cases e3
theorem zhF(hbase:YQ o name env (eval o env)=eval o env)
  (hfew:((backTo pos (ZW args env)).all (λx=>!x.1)&&(Yy pos (Y9 [] env)).all (λx=>x.1.isSome)
   && decide (args.length+([]:List XU).length+(if([]:List XU).isEmpty then 0 else 1)<30))=true)
  (hline:(apos.endLine==pos.line)=true):eval (.Call (.Attribute o name apos) args [] pos) env=(do
   let ov<-eval o env
   Xy apos.atName
   let (f,first)<-holding [ov] (WF ov name (do return (<-importBound o env).getD true))
   VT pos f first (backTo pos (ZW args env)) (Yy pos (Y9 [] env))):=by
 rw[arm_eval_Call,hbase];have hform:methodCallForm (args.length+([]:List XU).length) (backTo pos (ZW args env)) (Yy pos (Y9 [] env))=true:=hfew
 have hpos:methodCallPos true o env apos pos=pure pos:=by unfold methodCallPos;simp[hline]
 unfold methodCall;rw[hform];unfold calleeOf;simp only[if_true,hpos];rfl
structure zn3(X:Cx)(n:Nat)(c m:Str)(np:Nat)(mm:List R->M R):Prop where
 ex:∃C f fd ps,ZI X.K ZQ c=some (some (.ref C))/\Cls X.K C/\Meth X.K C m f/\FnOk X.prog X.w X.K X.mg X.base CX0 n f fd ps (spF X.K np mm)/\zcU X.K fd ps []
 len:∀rs h p,mm rs h=some p->rs.length=np
structure zqQ(X:Cx)(n:Nat)(c:Str)(np:Nat)(mm:List R->M R):Prop where
 ex:∃C f fd ps,X.mg c=some (.ref C)/\ZI X.K ZQ c=some (some (.ref C))/\Cls X.K C/\Mk X.K C f/\FnOk X.prog X.w X.K X.mg X.base CX0 n f fd ps (spF X.K np mm)/\zcU X.K fd ps []
 len:∀rs h p,mm rs h=some p->rs.length=np
theorem zkF(e:isA x c m h=some (u,h')):∃l fs,x=.loc l/\h[l]?=some (.ins c fs)/\fs.lookup m=none/\h'=h:=by
 cases x with
 |d _=>cases e
 | loc l=>
  (delta isA at e;(try dsimp only at e))
  cases ho:h[l]? with
  |none=>rw[ho] at e;cases e
  | some ob=>
   rw[ho] at e
   cases ob with
   | ins c' fs=>
    simp only at e
    split at e
    ·rename_i hc
     simp only[Z5,Z1] at e;obtain⟨rfl,hm⟩:=hc;exact⟨l,fs,rfl,ho,Wx.mp hm,e.2.symm⟩
    ·cases e
   |_=>cases e
theorem zws{pl:Sem Bool}{g:IT.Env->M R}{fs:IT.Env->M (List R)}(hM:zn3 X n c m np mm)(hr:Room n X.A)(ho:IE X o g)(ha:IA X (e::es) fs)
  (hst:ZW (e::es) X.env=(false,eval e X.env)::ZW es X.env) (hpl:(backTo pos (ZW es X.env)).any (·.1)=false)
  (ht:eval (.Call (.Attribute o m apos) (e::es) [] pos) X.env=(do
   let ov<-eval o X.env
   Xy apos.atName
   let (f,first)<-holding [ov] (WF ov m pl)
   VT pos f first (backTo pos (ZW (e::es) X.env)) (Yy pos (Y9 [] X.env)))):
  IE X (.Call (.Attribute o m apos) (e::es) [] pos) (λσ=>bnd (g σ) λx=>bnd (isA x c m) λ_=>bnd (fs σ) λrs=>mm (x::rs)):=by
 obtain⟨C,f,fd,ps,hc,cl,hm,F,hb⟩:=hM.ex;refine PE.imp (zrR ho cl hm F hr hb .nil zif ha hst hpl ht) λσ H Q q0=>?_;obtain⟨μ,h,env,R0,re,r,h',ee,k⟩:=q0;simp only[zab] at ee;obtain⟨x,h1,e1,_,h1',e0,rs,h2,e2,e3⟩:=ee;obtain⟨l,fs0,rfl,ho1,hnone,rfl⟩:=zkF e0;refine⟨μ,h,env,R0,re,.loc l,_,e1,λμ1 H1 v s1 R1 q1=>?_⟩;obtain⟨a,ea,rfl⟩:=id q1;obtain⟨C',dx,fs',hC,eH,rel⟩:=R1.obj l a _ ea ho1
 have hCC:C'=C:=by have:=hC.1;rw[hc] at this;cases this;rfl
 subst hCC;refine⟨a,dx,fs',rfl,eH,zeX rel hnone,μ1,_,env,R1,re.stp s1 R0,rs,h2,e2,λμ2 H2 ws s2 R2 q2=>?_⟩;have hlen:=hM.len _ _ _ e3
 have qq:zbk X.K μ2 h2 H2 (.loc l::rs) (.ref a::(ws++[])):=.cons ⟨a,s2.pre l a ea,rfl⟩ (by rw[Zc];exact q2)
 exact⟨by rw[<-qq.length];exact hlen,μ2,h2,.loc l::rs,R2,qq,r,h',e3,λμ3 H3 w s3 R3 q3=>k μ3 H3 w ((s1.trans s2).trans s3) R3 q3⟩
theorem zuR{g:IT.Env->M R}(hM:zn3 X n c m np mm)(hr:Room n X.A)(ho:IE X o g)
  (ht:eval (.Call (.Attribute o m apos) [] [] pos) X.env=(do
   let ov<-eval o X.env
   Xy apos.atName
   let (f,first)<-holding [ov] (WF ov m pl)
   VT pos f first (backTo pos (ZW [] X.env)) (Yy pos (Y9 [] X.env)))):
  IE X (.Call (.Attribute o m apos) [] [] pos) (λσ=>bnd (g σ) λx=>bnd (isA x c m) λ_=>bnd (ok []) λrs=>mm (x::rs)):=by
 obtain⟨C,f,fd,ps,hc,cl,hm,F,hb⟩:=hM.ex;refine PE.imp (zpB ho cl hm F hr hb .nil zif ht) λσ H Q q0=>?_;obtain⟨μ,h,env,R0,re,r,h',ee,k⟩:=q0;simp only[zab,zac] at ee;obtain⟨x,h1,e1,_,h1',e0,rs,h2,⟨rfl,rfl⟩,e3⟩:=ee;obtain⟨l,fs0,rfl,ho1,hnone,rfl⟩:=zkF e0;refine⟨μ,h,env,R0,re,.loc l,_,e1,λμ1 H1 v s1 R1 q1=>?_⟩;obtain⟨a,ea,rfl⟩:=id q1;obtain⟨C',dx,fs',hC,eH,rel⟩:=R1.obj l a _ ea ho1
 have hCC:C'=C:=by have:=hC.1;rw[hc] at this;cases this;rfl
 subst hCC;refine⟨a,dx,fs',rfl,eH,zeX rel hnone,?_⟩;have hlen:=hM.len _ _ _ e3;have qq:zbk X.K μ1 h1' H1 [.loc l] [.ref a]:=.cons ⟨a,ea,rfl⟩ .nil
 exact⟨by rw[<-hlen];rfl,μ1,_,[.loc l],R1,qq,r,h',e3,λμ3 H3 w s3 R3 q3=>k μ3 H3 w (s1.trans s3) R3 q3⟩
theorem zsP(hM:zqQ X n c np mm)(hr:Room (n+1) X.A)(hg:Gl X c)(ha:IA X (e::es) fs)
  (hdb:(c==("__debug__":Str))=false) (hst:ZW (e::es) X.env=(false,eval e X.env)::ZW es X.env) (hpl:(backTo pos (ZW es X.env)).any (·.1)=false):
  IE X (.Call (.Name c p) (e::es) [] pos) (λσ=>bnd (fs σ) λrs=>bnd (newA c) λx=>bnd (mm (x::rs)) λr=>match r with
   |.d .non=>ok x
   |_=>λ_=>none):=by
 obtain⟨C,f,fd,ps,hmg,hc,cl,hm,F,hb⟩:=hM.ex;refine PE.imp (zsp hm F hr hg hmg hb .nil zif ha hdb hst hpl) λσ H Q q0=>?_;obtain⟨μ,h,env,R0,re,r,h',ee,k⟩:=q0;simp only[zab,newA,Z5,Z1] at ee;obtain⟨rs,h1,e1,x,h2,⟨rfl,rfl⟩,r1,h3,e3,e4⟩:=ee;refine⟨μ,h,env,R0,re,rs,h1,e1,λμ1 H1 vs s1 R1 q1 a dx na nd ne=>?_⟩;have hlen:=hM.len _ _ _ e3;have sO:Stp μ1 h1 H1 μ1 h1 (upd H1 dx (.own a)):=Stp.fresh nd;have RO:Rep X.K μ1 h1 (upd H1 dx (.own a)):=R1.fresh nd
 have na':upd H1 dx (.own a) a=none:=by rw[zao (Yw ne)];exact na
 have sA:Stp μ1 h1 (upd H1 dx (.own a)) (μ1++[a]) (h1++[.ins c []]) (upd (upd H1 dx (.own a)) a (.ins C dx [])):=Stp.allocO RO na';have RA:Rep X.K (μ1++[a]) (h1++[.ins c []]) (upd (upd H1 dx (.own a)) a (.ins C dx [])):=RO.allocO na' ⟨C,dx,[],⟨hc,cl,by simp⟩,zam,.nil⟩;have sOA:=sO.trans sA
 have hat:(μ1++[a])[h1.length]?=some a:=by rw[<-R1.len];simp
 have qq:zbk X.K (μ1++[a]) (h1++[.ins c []]) (upd (upd H1 dx (.own a)) a (.ins C dx [])) (.loc h1.length::rs) (.ref a::(vs++[])):=.cons ⟨a,hat,rfl⟩ (by rw[Zc];exact q1.stp sOA R1)
 refine⟨by rw[<-qq.length];exact hlen,_,_,.loc h1.length::rs,RA,qq,r1,h3,e3,λμ3 H3 w s3 R3 q3=>?_⟩
 split at e4
 ·simp only[zac] at e4
  obtain⟨rfl,rfl⟩:=e4;simp only[RepR,RepD] at q3;exact⟨q3,k μ3 H3 (.ref a) (s1.trans (sOA.trans s3)) R3 ⟨a,s3.pre _ _ hat,rfl⟩⟩
 ·cases e4
theorem zsW(I:Inv X pins σ H s)(k:∀b o,b≠e->b≠it->s.heap.get? b=some o->h'.get? b=some o)(fe:FpOk X pins H e)(fi:FpOk X pins H it):Inv X pins σ H {s with heap:=h',toks:=t'}:=by
 obtain⟨e0,e1,e2,e3,e4,e5⟩:=fe;obtain⟨i0,i1,i2,i3,i4,i5⟩:=fi
 have ne:∀b u,H b=some u->b≠e:=λb u q z=>by rw[z,e0] at q;cases q
 have ni:∀b u,H b=some u->b≠it:=λb u q z=>by rw[z,i0] at q;cases q
 have nc:∀b,b∉[e,it]->b≠e/\b≠it:=λb hb=>⟨λz=>hb (by simp[z]),λz=>hb (by simp[z])⟩
 refine I.step (g':=s.gens) (d':=s.drawn) (ch:=[e,it]) (λb hb=>?_) (λb o _ _ hc q _=>k b o (nc b hc).1 (nc b hc).2 q) (λb o _ _ hc q _=>⟨o.slots,k b o (nc b hc).1 (nc b hc).2 q⟩) (λ_ _ _ _ n=>n)
  (λb o hc q=>⟨o,k b o (nc b hc).1 (nc b hc).2 q⟩) (λ_ _ q=>q) (λ_ _ _ q=>q) (λb ps q=>⟨#[],by rw[q];simp⟩) (λm hm=>?_) (λb u q=>?_) I.bare
 ·rcases ZP.mp hb with z | z
  ·subst z;exact⟨e3,e1,e4,e5⟩
  ·have z:b=it:=by simpa using z
   subst z;exact⟨i3,i1,i4,i5⟩
 ·obtain ⟨o,es,ep,ho,r⟩:=hm
  exact⟨o,es,ep,k _ o (Yw e1) (Yw i1) ho,r⟩
 ·refine (I.hok b u q).stay (λc v hc q'=>k c v ?_ ?_ q') (λ_ q=>q) λ_ _ q=>q
  ·rcases hc with z | z
   ·rw[z];exact ne b u q
   ·exact ne c _ z
  ·rcases hc with z | z
   ·rw[z];exact ni b u q
   ·exact ni c _ z
theorem zvT{T:Addr}(I:Inv X pins σ H s)(f:FpOk X pins H T)(new:zcj X.prog X.w (upd H T o) s.heap T o):Inv X pins σ (upd H T o) s:=by
 obtain⟨f0,f1,f2,f3,f4,f5⟩:=f
 have nT:∀b u,H b=some u->b≠T:=λb u q z=>by rw[z,f0] at q;cases q
 refine I.step (g':=s.gens) (d':=s.drawn) (t':=s.toks) (h':=s.heap) (ch:=[T]) (λb hb=>?_) (λb o _ _ hc q _=>q) (λb o _ _ hc q _=>⟨o.slots,q⟩) (λb _ hb _ n=>by rw[zao (λz=>hb (by simp[z]))];exact n)
  (λb o hc q=>⟨o,q⟩) (λb _ q=>by rw[zao (nT b _ q)];exact q) (λb _ _ q=>by rw[zao (nT b _ q)];exact q) (λb ps q=>⟨#[],by rw[zao (nT b _ q),q];simp⟩) (λm hm=>hm) (λb u q=>?_) I.bare
 ·have z:b=T:=by simpa using hb
  subst z;exact⟨f3,f1,f4,f5⟩
 ·by_cases hb:b=T
  ·subst hb;rw[zam] at q;cases q;exact new
  ·rw [zao hb] at q
   exact(I.hok b u q).stay (λc v hc q'=>q') (λc q'=>by rw[zao (nT c _ q')];exact q') λc xs q'=>by rw[zao (nT c _ q')];exact q'
def Ien(K:Z7)(a:Addr):L2.It:=⟨(Itl K a).go,λi H v H'=>∃p x,v=.ref p/\H p=none/\H'=upd H p (.tup [.int i,x])/\∀xs,SqL K H a xs->xs[i]?=some x,(Itl K a).stop⟩
theorem znO(a e it:Addr)(hne:e≠it):Turn P w K (.Tuple elts x1 tpos) (Ien K a) [e,it] e (λi h=>∃old,IsEnum h e it i old/\h.IsListIter it a i) where
 mem:=by simp
 obj:=λi h st b hb=>by
  obtain⟨old,he,hit⟩:=st
  rcases ZP.mp hb with z | z
  ·subst z;exact⟨_,he,λv z=>by cases z⟩
  ·have z:b=it:=by simpa using z
   subst z;obtain⟨o,ho,c,d⟩:=hit
   exact⟨o,ho,λv z=>by rw[d] at z;cases z⟩
 keep:=λi h h' st k=>by obtain⟨old,he,hit⟩:=st;exact⟨old,k e (by simp) _ he,hit.at λo q=>k it (by simp) o q⟩
 item:=by
  intro X hP hw hK hc i pins s σ H E I hf st hg;subst hP hw hK;obtain⟨old,he,hit⟩:=st;obtain⟨xs,x,hq,hx⟩:=hg;obtain⟨its,rv,p,hz⟩:=I.list hq;obtain⟨u,hu,ru⟩:=rv.get hx;have fe:=hf e (by simp);have fi:=hf it (by simp);have fT:FpOk X pins H s.heap.objs.size:=I.fpOk (Z2 _) (I.hok.fresh (Z2 _));have lte:e<s.heap.objs.size:=ZT he
  have lti:it<s.heap.objs.size:=by obtain⟨o,ho,_⟩:=id hit;exact ZT ho
  refine wpAny_pyNext_enum_item he hit p.isList (x:=u) (by simpa using hu) hne λh1 ho1 hit1 hT hsz hk=>?_;refine⟨.ref s.heap.objs.size,rfl,wpAny_letOwnedTupleGo_enum (s:={s with heap:=h1,toks:=s.toks+1}) ho1 λh2 he2 hs2=>?_⟩;have hk2:∀b o,b≠e->b≠it->s.heap.get? b=some o->h2.get? b=some o:=λb o hb1 hb2 q=>(hs2.2 b hb1).trans (hk b o hb1 hb2 q);have I1:Inv X pins σ H {s with heap:=h2,toks:=s.toks+1}:=zsW I hk2 fe fi;have hT2:h2.get? s.heap.objs.size=some {cls:=.type "tuple",data:=.seq #[.int i s.toks,u]}:=(hs2.2 _ (X3 lte)).trans hT
  have I2:Inv X pins σ (upd H s.heap.objs.size (.tup [.int i,x])) {s with heap:=h2,toks:=s.toks+1}:=zvT I1 fT ⟨show 2<=sizeLine by decide,[.int i s.toks,u],.cons ⟨_,rfl⟩ (.cons ru .nil),⟨_,hT2,rfl,_,rfl⟩,λo q=>by
   have q:h2.get? s.heap.objs.size=some o:=q
   rw[hT2] at q;cases q;rfl⟩
  refine⟨.ref s.heap.objs.size,_,I2,rfl,⟨s.heap.objs.size,x,rfl,fT.1,rfl,λys hy=>by rw[I.list_inj hy hq];exact hx⟩,⟨u,by simpa using he2,hit1.at λo q=>(hs2.2 it (Yw hne)).trans q⟩,λb hb=>?_⟩
  have hb':b≠s.heap.objs.size:=by
   rcases ZP.mp hb with z | z
   ·rw[z];exact ZH lte
   ·have z:b=it:=by simpa using z
    rw[z];exact ZH lti
  rw[zao hb'];exact(hf b hb).1
 done:=by
  intro X hP hw hK hc i pins s σ H E I hf st hg;subst hP hw hK;obtain⟨old,he,hit⟩:=st;obtain⟨xs,hq,hx⟩:=hg;obtain⟨its,rv,p,hz⟩:=I.list hq;obtain⟨f0,f1,f2,f3,f4,f5⟩:=hf it (by simp);have hl:=rv.length
  exact wpAny_pyNext_enum_end (I.ok.hd hc) he hit p.isList (by simp;omega) λh' eb=>⟨rfl,I.turned (t':=s.toks) (λb o hb q=>eb b o hb q) f0 f1 f3 f4 f5⟩
 self:=λ_ _ _ _ _ st h=>by obtain⟨old,he,_⟩:=st;exact wpAny_pyIter_enum he h
theorem zmD:∀(xs ys:List Ite) (k:Int) (i:Nat) (x:Ite),zat k xs=some ys->ys[i]?=some x->∃r,xs[i]?=some (.r r)/\x=.en (k+i) r
 | [],ys,k,i,x,e,q=>by simp[zat] at e;subst e;simp at q|.en _ _::_,_,_,_,_,e,_=>by simp[zat] at e
 | .r r::t,ys,k,i,x,e,q=>by
  simp only[zat] at e
  cases et:zat (k+1) t with
  |none=>rw[et] at e;cases e
  | some l=>
   rw[et] at e;simp only[Z5] at e;subst e
   cases i with
   |zero=>simp at q;subst q;exact⟨r,rfl,by simp⟩
   |succ i=>
    obtain⟨r',e1,e2⟩:=zmD t l (k+1) i x et (by simpa using q)
    exact⟨r',by simpa using e1,by rw[e2];congr 1;push_cast;omega⟩
theorem zi8:∀(xs ys:List Ite) (k:Int),zat k xs=some ys->ys.length=xs.length
 | [],ys,k,e=>by simp[zat] at e;subst e;rfl|.en _ _::_,_,_,e=>by simp[zat] at e
 | .r r::t,ys,k,e=>by
  simp only[zat] at e
  cases et:zat (k+1) t with|none=>rw[et] at e;cases e|some l=>rw[et] at e;simp only[Z5] at e;subst e;simp[zi8 t l (k+1) et]
theorem zrj(W:Wlk K (Itl K a) w μ h H)(e:zat 0 w.xs=some ys):Wlk K (Ien K a) ⟨ys,w.l⟩ μ h H:=by
 refine⟨λμ1 h1 H1 i x st R1 sy q=>?_,λμ1 h1 H1 st R1 sy=>?_⟩
 ·obtain ⟨r,e1,rfl⟩:=zmD _ _ _ _ _ e q
  obtain⟨go,yld⟩:=W.go μ1 h1 H1 i _ st R1 sy e1;refine⟨go,λv H' q_=>?_⟩;obtain⟨p,x,hv,hp,hH,hx⟩:=q_;subst hv hH;obtain⟨_,_,zr⟩:=yld x H1 ⟨rfl,hx⟩
  exact⟨Stp.fresh hp,R1.fresh hp,p,x,rfl,by rw[zam];simp,RepR.stp (Stp.fresh hp) R1 zr⟩
 ·show (Itl K a).stop ys.length H1
  rw[zi8 _ _ _ e];exact W.stop μ1 h1 H1 st R1 sy
theorem ztx(hg:Gl X "enumerate")(hm:X.mg "enumerate"=none)(ha:PA X [l] ta)(hs:ZW [l] X.env=[(false,eval l X.env)]):
  PI X (.Tuple elts x1 tpos) (.Call (.Name "enumerate" p) [l] [] pos) (λσ H R=>ta σ H λvs H1=>∃a xs,vs=[.ref a]/\SqL X.K H1 a xs/\(xs.length<=sizeLine->R (Ien X.K a) H1)):=by
 intro pins s σ H R I h;refine PyProof.Rows.Call_ (zeQ I hg hm PyProof.Rows.boot_enumerate (YR (thn (ha pos pins s σ H _ I h) λus s1 q_=>?_) hs rfl));obtain⟨vs,H1,I1,r1,q1⟩:=q_;obtain⟨a,xs,rfl,hq,q⟩:=q1;obtain⟨u,rfl,rx⟩:=zjx r1;cases rx;obtain⟨its,rv,pl,hz⟩:=I1.list hq;refine call_enumerate_list pl.isList λh' he hit hsz hk=>?_;refine wpAny_pyIter_enum (s:={s1 with heap:=h'}) he ?_;have I2:Inv X pins σ H1 {s1 with heap:=h'}:=I1.kept (t':=s1.toks) hk;refine⟨s1.heap.objs.size+1,[s1.heap.objs.size+1,s1.heap.objs.size],_,_,H1,rfl,I2,znO a _ _ (X3 (YK _)),⟨.none,he,hit⟩,λb hb=>?_,q hz⟩
 rcases ZP.mp hb with z | z
 ·subst z;exact I1.fpOk (Ys _) (I1.hok.fresh (Ys _))
 ·have z:b=s1.heap.objs.size:=by simpa using z
  subst z;exact I1.fpOk (Z2 _) (I1.hok.fresh (Z2 _))
theorem zu7(il:isLs r=true)(R1:Rep K μ h H)(q1:RepR K μ h H r v)(e:zbu r h=some (w,h')):h'=h/\∃a vs,v=.ref a/\SqL K H a vs/\vs.length=w.xs.length/\Wlk K (Itl K a) w μ h H:=by
 (delta zbu at e;simp only[zab] at e)
 obtain⟨o,h1,e1,e2⟩:=e;obtain⟨rfl,ho⟩:=zbW e1
 cases o with
 |some ls=>
  obtain⟨l,rfl,ho⟩:=ho;obtain⟨a,ea,rfl⟩:=q1;simp only[zac] at e2;obtain⟨rfl,rfl⟩:=e2;obtain⟨vs,q2,z2⟩:=R1.obj l a _ ea ho
  exact⟨rfl,a,vs,rfl,.inl (.inl q2),by rw[Z3];exact z2.length.symm,zmn R1 ea ho⟩
 | none=>
  simp only[zab] at e2;obtain⟨d,h2,e3,e4⟩:=e2
  cases r with
  |loc l=>
   obtain⟨a,ea,rfl⟩:=q1;obtain⟨o,ho,il,rfl,rfl⟩:=zgC e3;obtain⟨vs,q2,z2⟩:=R1.placeL ea ho il
   (delta wkOf items at e4;(try dsimp only at e4);simp only[zac] at e4)
   obtain⟨rfl,rfl⟩:=e4
   exact⟨rfl,a,vs,rfl,.inl (.inl q2),by rw[Z3];exact z2.length.symm,znM R1 ea ho il⟩
  | d x=>
   simp only[rd,zac] at e3;obtain⟨rfl,rfl⟩:=e3
   cases x with
   |lst xs=>
    (delta wkOf items at e4;(try dsimp only at e4);simp only[zac] at e4)
    obtain⟨rfl,rfl⟩:=e4;simp only[RepR,RepD] at q1;obtain⟨a,vs,rfl,q2,z2⟩:=q1
    exact⟨rfl,a,vs,rfl,q2.sq,by rw[Z3];exact z2.length.symm,zkP R1 q2 z2⟩
   |_=>cases il
theorem ztz(hg:Gl X "enumerate")(hm:X.mg "enumerate"=none)(hl:IE X l f)(hs:ZW [l] X.env=[(false,eval l X.env)]):
  PI X (.Tuple elts x1 tpos) (.Call (.Name "enumerate" p) [l] [] pos) (tI X.K λσ=>bnd (f σ) λr=>zlF r):=by
 refine PI.imp (ztx hg hm (zbG hl zeA hs) hs) λσ H R q0=>?_;obtain⟨μ,h,env,R0,re,w,h',e,k⟩:=q0;simp only[zab] at e;obtain⟨r,h1,e1,e2⟩:=e;refine⟨μ,h,env,R0,re,r,h1,e1,λμ1 H1 v s1 R1 q1=>?_⟩;unfold zlF at e2
 split at e2
 ·rename_i il
  simp only[zab] at e2;obtain⟨w0,h2,e3,e4⟩:=e2;obtain⟨rfl,a,vs,rfl,q2,hl2,W⟩:=zu7 il R1 q1 e3
  cases en:zat 0 w0.xs with
  |none=>rw[en] at e4;cases e4
  |some ys=>
   rw[en] at e4;simp only[zac] at e4;obtain⟨rfl,rfl⟩:=e4
   exact⟨a,vs,rfl,q2,λhz=>k μ1 H1 _ s1 R1 (zrj W en) (by show ys.length<=sizeLine;rw[zi8 _ _ _ en,<-hl2];exact hz)⟩
 ·cases e2
theorem ztZ(ha:IE X a f)(hi:IE X i g)(hs:zd2 i):IE X (.Subscript a i pos) (λσ=>bnd (f σ) λx=>bnd (g σ) λy=>bnd (zbH x) λo=>match o,y with
  |some ls,.d (.int k)=>match at' ls k with
   |some l=>ok (.loc l)
   |none=>λ_=>none
  |_,_=>λ_=>none):=by
 refine PE.imp (zov zod ha hi hs) λσ H Q q0=>?_;obtain⟨μ,h,env,R0,re,r,h',e,k⟩:=q0;simp only[zab] at e;obtain⟨x,h1,e1,y,h2,e2,o,h3,e3,e4⟩:=e;refine⟨μ,h,env,R0,re,x,h1,e1,λμ1 H1 v s1 R1 q1=>⟨μ1,h1,env,R1,re.stp s1 R0,y,h2,e2,λμ2 H2 u s2 R2 q2=>?_⟩⟩;obtain⟨rfl,ho⟩:=zbW e3
 split at e4
 ·rename_i ls kk
  obtain⟨l,rfl,ho⟩:=ho;obtain⟨p,ep,rfl⟩:=q1.stp s2 R1
  cases ea:at' ls kk with|none=>rw[ea] at e4;cases e4|some j=>rw[ea] at e4;simp only[zac] at e4;obtain⟨rfl,rfl⟩:=e4;obtain⟨vs,q3,z3⟩:=R2.obj l p _ ep ho;obtain⟨jj,f1,f2⟩:=zlR ea;obtain⟨w,f3,b,eb,rfl⟩:=zes z3 f2;simp only[RepR,RepD] at q2;refine⟨p,vs,kk,.ref b,rfl,q2,.inl (.inl q3),?_,k μ2 H2 _ (s1.trans s2) R2 ⟨b,eb,rfl⟩⟩;unfold atI;rw[<-z3.length,f1];exact f3
 ·cases e4
theorem zsT(hg:Gl X "len")(hm:X.mg "len"=none)(he:IE X e f)(hs:ZW [e] X.env=[(false,eval e X.env)]):IE X (.Call (.Name "len" p) [e] [] pos) (λσ=>bnd (f σ) λx=>bnd (zbH x) λo=>match o with
  |some ls=>ok (.d (.int ls.length))
  |none=>λ_=>none):=by
 refine PE.imp (zcH zg5 hg hm (by decide +kernel) (zbG he zeA hs) (by decide) (by decide) hs rfl) λσ H Q q0=>?_;obtain⟨μ,h,env,R0,re,r,h',e,k⟩:=q0;simp only[zab] at e;obtain⟨x,h1,e1,o,h2,e2,e3⟩:=e;refine⟨μ,h,env,R0,re,x,h1,e1,λμ1 H1 v s1 R1 q1=>?_⟩;obtain⟨rfl,ho⟩:=zbW e2
 cases o with
 |none=>cases e3
 |some ls=>
  simp only[zac] at e3;obtain⟨rfl,rfl⟩:=e3;obtain⟨l,rfl,ho⟩:=ho;obtain⟨a,ea,rfl⟩:=q1;obtain⟨vs,q3,z3⟩:=R1.obj l a _ ea ho
  exact⟨.ref a,vs.length,rfl,.inl ⟨vs,.inl (.inl q3),rfl⟩,k μ1 H1 _ s1 R1 (by simp only[RepR,RepD];rw[z3.length])⟩
end
end IT
namespace IT
open PySem PySem.Spec L2
section
variable {X:Cx}{A0:Addr->Prop}{H:Hp}{s:Shared}
mutual
theorem zqH(S:zbB X s H):∀(x:D) (v:V) (u:Value),D.hk x=true->RepD X.K A0 H x v->RelV v u->KAt s.heap x u
 |.int i,v,u,_,q,r=>by
  simp only[RepD] at q;subst q
  simp only[KAt];exact r
 |.str x,v,u,_,q,r=>by
  simp only[RepD] at q;subst q
  simp only[KAt];exact r
 |.tup xs,v,u,hk,q,r=>by simp only[RepD] at q;obtain⟨a,vs,rfl,sq,zs⟩:=q;cases r;obtain⟨its,ri,p⟩:=S.tup a vs sq;simp only[KAt];exact⟨a,its.toArray,rfl,p,by simpa using kAts_of S xs vs its hk zs ri⟩
 |.non,v,u,_,q,r=>by
  simp only[RepD] at q;subst q
  simp only[KAt];exact r
 |.bl _,_,_,hk,_,_=>by cases hk|.lst _,_,_,hk,_,_=>by cases hk
theorem kAts_of(S:zbB X s H):∀(x:List D) (v:List V) (u:List Value),D.hks x=true->RepDs X.K A0 H x v->Vals v u->KAts s.heap x u
 | [],v,u,_,q,r=>by
  simp only[RepDs] at q;subst q
  cases r;simp only[KAts]
 | x::xs,v,u,hk,q,r=>by
  simp only[RepDs] at q;obtain⟨w,ws,rfl,q1,q2⟩:=q
  cases r with|cons r1 r2=>rw[D.hks,Z8] at hk;simp only[KAts];exact⟨_,_,rfl,zqH S x w _ hk.1 q1 r1,kAts_of S xs ws _ hk.2 q2 r2⟩
end
theorem zjW(h:zcM k=true):D.hk k=true/\k.dep<=8:=by
 cases k with
 |tup xs=>
  rw[zcM,Z8] at h
  have:=of_decide_eq_true h.2
  exact⟨h.1,by simp only[D.dep];omega⟩
 |_=>cases h
theorem zfK(h:zcM k=true)(q:RepD X.K A0 H k v):∃b,v=.ref b:=by
 cases k with|tup xs=>simp only[RepD] at q;obtain⟨a,_,e,_⟩:=q;exact⟨a,e⟩|_=>cases h
theorem zgn(S:zbB X s H)(h:zcM k=true)(q:RepD X.K A0 H k (.ref b)):(dKind X.prog X.w).is s.heap k b:=⟨(zjW h).2,zqH S k (.ref b) (.ref b) (zjW h).1 q rfl⟩
end
def KvR(K:Z7)(A:Addr->Prop)(H:Hp)(p:D×D)(q:D×Addr×Value):Prop:=p.1=q.1/\(zcM p.1=true/\RepD K A H p.1 (.ref q.2.1))/\∃v,RelV v q.2.2/\RepD K A H p.2 v
theorem zfF{α β γ:Type}{F:α->β->Prop}{G:β->γ->Prop}{T:α->γ->Prop}(k:∀a b c,F a b->G b c->T a c):∀{xs:List α} {ys:List β} {zs:List γ},Paired F xs ys->Paired G ys zs->Paired T xs zs|_,_,_,.nil,.nil=>.nil|_,_,_,.cons f fs,.cons g gs=>.cons (k _ _ _ f g) (zfF k fs gs)
section
variable {X:Cx}{pins:List (Addr×Obj)}{σ:St}{H:Hp}{s:Shared}{μ:List Addr}{h:Sto}{l:Nat}{a:Addr}{kvs:List (D×D)}
structure zwq(X:Cx)(μ:List Addr)(h:Sto)(H:Hp)(s:Shared)(a:Addr)(kvs:List (D×D))(xv:List (D×Addr×Value)):Prop where
 sys:(a==Wa)=false
 len:kvs.length<=sizeLine
 rel:Paired (KvR X.K (Live μ h) H) kvs xv
 dic:s.heap.DictOfH (dKind X.prog X.w) a xv
theorem zkD(I:Inv X pins σ H s)(R0:Rep X.K μ h H)(ea:μ[l]?=some a)(ho:h[l]?=some (.dic kvs)):∃xs xv,(h[l]?=some (.dic kvs)->H a=some (.dT xs))/\Rd H a (.dT xs)/\Paired (λ(p:D×D) (q:D×Addr×V)=>p.1=q.1/\(zcM p.1=true/\RepD X.K (Live μ h) H p.1 (.ref q.2.1))/\RepD X.K (Live μ h) H p.2 q.2.2) kvs xs ∧
  Paired (λ(p:D×Addr×V) (q:D×Addr×Value)=>p.1=q.1/\p.2.1=q.2.1/\RelV p.2.2 q.2.2) xs xv/\zwq X μ h H s a kvs xv:=by
 have zz:∃xs,(h[l]?=some (.dic kvs)->H a=some (.dT xs))/\Rd H a (.dT xs)/\Paired (λ(p:D×D) (q:D×Addr×V)=>p.1=q.1/\(zcM p.1=true/\RepD X.K (Live μ h) H p.1 (.ref q.2.1))/\RepD X.K (Live μ h) H p.2 q.2.2) kvs xs:=by obtain⟨xs,e,z⟩:=R0.obj l a _ ea ho;exact⟨xs,λ_=>e,.inl e,z⟩
 obtain⟨xs,e0,e,z⟩:=zz;obtain⟨hz,hS,xv,r,o,es,ep,h1,h2,h3,h4,h5⟩:=(show zcj X.prog X.w H s.heap a (.dT xs) from e.ok I.hok)
 have rel:Paired (KvR X.K (Live μ h) H) kvs xv:=zfF (λp q t ⟨c1,c2,c3⟩ ⟨d1,d2,d3⟩=>⟨c1.trans d1,⟨c2.1,by rw[<-d2];exact c2.2⟩,q.2.2,d3,c3⟩) z r
 refine⟨xs,xv,e0,e,z,r,hS,by rw[XD z];exact hz,rel,o,es,ep,h1,h2,h3,h4,?_,h5⟩
 have S:=zaP I
 have all:∀{l1:List (D×D)} {l2:List (D×Addr×Value)},Paired (KvR X.K (Live μ h) H) l1 l2->∀x∈l2,(dKind X.prog X.w).is s.heap x.1 x.2.1:=by
  intro l1 l2 q
  induction q with
  |nil=>intro x hx;cases hx
  | @cons p q ps qs hq t ih=>
   intro x hx
   rcases ZP.mp hx with e | hx
   ·subst e
    obtain⟨c1,c2,_⟩:=hq;rw[<-c1];exact zgn S c2.1 c2.2
   ·exact ih x hx
 exact all rel
theorem zdO(k:D):∀{kvs:List (D×D)} {xv:List (D×Addr×Value)},Paired (KvR K A H) kvs xv->(∃d p v,dGet k kvs=some d/\atKey xv k=some p/\RelV v p.2/\RepD K A H d v)\/(dGet k kvs=none/\atKey xv k=none)
 |_,_,.nil=>.inr ⟨rfl,rfl⟩
 | _,_,.cons (a:=p) (b:=q) (l₁:=r) (l₂:=t) hq ht=>by
  obtain⟨c1,c2,v,c3,c4⟩:=hq;have e0:dGet k (p::r)=if p.1.same k then some p.2 else dGet k r:=rfl;rw[e0,zdk]
  by_cases e:p.1=k
  ·refine .inl ⟨p.2,q.2,v,by simp[e],?_,c3,c4⟩
   have:q.1=k:=by rw[<-c1];exact e
   simp[atKey,YC,this]
  ·have e2:¬q.1=k:=λz=>e (c1.trans z)
   have e3:atKey (q::t) k=atKey t k:=by simp[atKey,YC,e2]
   rw[e3,if_neg (by simp[e])];exact zdO k ht
theorem zdF(e:kRd x h=some (k,h')):x=.d k/\zcM k=true/\h'=h:=by
 cases x with
 |loc _=>cases e
 | d d=>
  simp only[kRd] at e
  split at e
  ·rename_i hk
   simp only[Z5,Z1] at e;obtain⟨rfl,rfl⟩:=e;exact⟨rfl,hk,rfl⟩
  ·cases e
theorem zhb(e:dRd x h=some (kvs,h')):∃l,x=.loc l/\h[l]?=some (.dic kvs)/\h'=h:=by
 cases x with
 |d _=>cases e
 | loc l=>
  simp only[dRd] at e
  split at e
  ·rename_i kvs' ho
   simp only[Z5,Z1] at e;obtain⟨rfl,rfl⟩:=e;exact⟨l,rfl,ho,rfl⟩
  ·cases e
end
section
variable {X:Cx}{a b e:Expr}{pos:Pos}{f g:IT.Env->M R}
def mIn(neg:Bool)(y x:R):M R:=bnd (dRd x) λkvs=>bnd (kRd y) λk=>ok (.d (.bl (if neg then !(dGet k kvs).isSome else(dGet k kvs).isSome)))
theorem zpM(hu:X.A.units+64<cLine):(dKind X.prog X.w).room X.A.in1:=by show X.A.units+1+8<cLine;omega
theorem zqZ(hu:X.A.units+64<cLine):OpI X (Zg .In) (mIn false):=by
 intro pins s σ H x y v u Q I rx ry q;obtain⟨μ,h,y1,x1,R0,qy,qx,r,h',e,k⟩:=q;simp only[mIn,zab,zac] at e;obtain⟨kvs,h1,e1,kk,h2,e2,rfl,rfl⟩:=e;obtain⟨l,rfl,ho,rfl⟩:=zhb e1;obtain⟨rfl,hk,rfl⟩:=zdF e2;obtain⟨c,ea,rfl⟩:=qx;cases ry;obtain⟨b,rfl⟩:=zfK hk qy;cases rx;obtain⟨xs,xv,_,_,_,_,D⟩:=zkD I R0 ea ho;refine wpAny_in_heap (zpM hu) (zgn (zaP I) hk qy) D.sys D.dic ?_
 have e3:(atKey xv kk).isSome=(dGet kk kvs).isSome:=by rcases zdO kk D.rel with⟨d,p,v,z1,z2,_⟩|⟨z1,z2⟩<;>rw[z1,z2]<;>rfl
 rw[e3];exact⟨.bl _,H,I.tok _,rfl,k μ H _ Stp.refl R0 (by simp only[RepR,RepD,ZN,if_false])⟩
theorem zh5(hu:X.A.units+64<cLine):OpI X (Zg .NotIn) (mIn true):=by
 intro pins s σ H x y v u Q I rx ry q;obtain⟨μ,h,y1,x1,R0,qy,qx,r,h',e,k⟩:=q;simp only[mIn,zab,zac] at e;obtain⟨kvs,h1,e1,kk,h2,e2,rfl,rfl⟩:=e;obtain⟨l,rfl,ho,rfl⟩:=zhb e1;obtain⟨rfl,hk,rfl⟩:=zdF e2;obtain⟨c,ea,rfl⟩:=qx;cases ry;obtain⟨b,rfl⟩:=zfK hk qy;cases rx;obtain⟨xs,xv,_,_,_,_,D⟩:=zkD I R0 ea ho;refine PyProof.Rows.wpAny_notIn_heap (zpM hu) (zgn (zaP I) hk qy) D.sys D.dic ?_
 have e3:(atKey xv kk).isSome=(dGet kk kvs).isSome:=by rcases zdO kk D.rel with⟨d,p,v,z1,z2,_⟩|⟨z1,z2⟩<;>rw[z1,z2]<;>rfl
 rw[e3];exact⟨.bl _,H,I.tok _,rfl,k μ H _ Stp.refl R0 (by simp only[RepR,RepD,if_true])⟩
theorem zs5(hu:X.A.units+64<cLine)(ho:op=if neg then .NotIn else .In)(ha:IE X a f)(hb:IE X b g)(hm:Yt op b=false):IE X (.Compare a [op] [b] pos) (λσ=>bnd (f σ) λy=>bnd (g σ) λx=>mIn neg y x):=by
 cases neg with|false=>subst ho;exact zkm (zqZ hu) ha hb hm|true=>subst ho;exact zkm (zh5 hu) ha hb hm
theorem zud(hu:X.A.units+64<cLine)(ho:op=if neg then .NotIn else .In)(ha:IE X a f)(hb:IE X b g)(hm:Yt op b=false):IT' X (.Compare a [op] [b] pos) (λσ=>bnd (bnd (f σ) λy=>bnd (g σ) λx=>mIn neg y x) λr=>bnd (rd r) λd=>opt (tru d)):=by
 have hbl:∀x y h r h',mIn neg x y h=some (r,h')->∃t,r=.d (.bl t):=by intro x y h r h' e;simp only[mIn,zab,zac] at e;obtain⟨_,_,_,_,_,_,rfl,_⟩:=e;exact⟨_,rfl⟩
 cases neg with|false=>subst ho;exact zkk (zqZ hu) ha hb hm hbl|true=>subst ho;exact zkk (zh5 hu) ha hb hm hbl
def mDx(x y:R):M R:=bnd (dRd x) λkvs=>bnd (kRd y) λk=>bnd (opt (dGet k kvs)) λv=>ok (.d v)
theorem ztK(hu:X.A.units+64<cLine):IxR X (λv u H Q=>OpIQ X.K mDx v u H Q):=by
 intro value slice pins s σ H x y v u Q I rx ry q hs;obtain⟨μ,h,x1,y1,R0,qx,qy,r,h',e,k⟩:=q;simp only[mDx,zab,zac,zay] at e;obtain⟨kvs,h1,e1,kk,h2,e2,z,h3,⟨e3,rfl⟩,rfl,rfl⟩:=e;obtain⟨l,rfl,ho,rfl⟩:=zhb e1;obtain⟨rfl,hk,rfl⟩:=zdF e2;obtain⟨c,ea,rfl⟩:=qx;cases rx;obtain⟨b,rfl⟩:=zfK hk qy;cases ry;obtain⟨xs,xv,_,_,_,_,D⟩:=zkD I R0 ea ho
 rcases zdO kk D.rel with⟨d,p,w,z1,z2,z3,z4⟩|⟨z1,_⟩
 ·rw [z1] at e3
  cases e3;refine PyProof.Rows.subscriptTail_builtinR (x:=p.2) D.dic.typeIs PySem.slot_dict_getitem.lookup ?_ hs;exact wpAny_getItem_heap (zpM hu) (zgn (zaP I) hk qy) D.dic z2 ⟨rfl,w,H,I.tok _,z3,k μ H _ Stp.refl R0 z4⟩
 ·rw[z1] at e3;cases e3
theorem ztr(hu:X.A.units+64<cLine)(ha:IE X a f)(hb:IE X b g)(hs:zd2 b):IE X (.Subscript a b pos) (λσ=>bnd (f σ) λx=>bnd (g σ) λy=>mDx x y):=PE.imp (zov (ztK hu) ha hb hs) λσ H Q q=>two q
end
def putV{β:Type}(k:D)(b:Addr)(v:β):List (D×Addr×β)->List (D×Addr×β)| []=>[(k,b,v)]|q::r=>if q.1=k then(q.1,q.2.1,v)::r else q::putV k b v r
theorem zkO{β:Type}(k:D)(b:Addr)(v:β):∀xs:List (D×Addr×β),(putV k b v xs).length<=xs.length+1
 | []=>by simp[putV]
 |q::r=>by
  have:=zkO k b v r
  rw[putV]
  split<;>simp<;>omega
theorem zhR:∀{xs:List (D×Addr×Value)},k∉xs.map (·.1)->xs.map (putAt k v)=xs
 | [],_=>rfl
 |x::r,h=>by rw[ZB,ZP,not_or] at h;have e:putAt k v x=x:=if_neg λe=>h.1 e.symm;rw[ZB,e,zhR h.2]
theorem zgj(k:D)(b:Addr)(v:Value):∀{xs:List (D×Addr×Value)},(xs.map (·.1)).Nodup->storedH xs k b v=putV k b v xs
 | [],_=>by simp[storedH,atKey,putV]
 | x::r,n=>by
  rw[ZB,Xx] at n;rw[putV]
  by_cases e:x.1=k
  ·rw [if_pos e]
   have h1:(atKey (x::r) k).isSome=true:=by simp[atKey,YC,e]
   unfold storedH
   rw[if_pos h1,ZB,zhR (by rw[<-e];exact n.1)]
   simp[putAt,e]
  ·rw [if_neg e,<-zgj k b v n.2]
   have h1:atKey (x::r) k=atKey r k:=by simp[atKey,YC,e]
   unfold storedH;rw[h1]
   split
   ·rw[ZB,putAt,if_neg e]
   ·rfl
theorem zj8{α:Type}{F:D×α->D×Addr×V->Prop}{k:D}{d:α}{b:Addr}{v:V}(hF:∀p q,F p q->p.1=q.1)(h1:F (k,d) (k,b,v))(h2:∀p q,F p q->p.1=k->F (p.1,d) (q.1,q.2.1,v))(pt:List (D×α)->List (D×α))
  (p0:pt []=[(k,d)]) (pc:∀p r,pt (p::r)=if p.1.same k then(p.1,d)::r else p::pt r):∀{xs:List (D×α)} {ys:List (D×Addr×V)},Paired F xs ys->Paired F (pt xs) (putV k b v ys)
 |_,_,.nil=>by rw[p0,putV];exact .cons h1 .nil
 | _,_,.cons (a:=p) (b:=q) (l₁:=r) (l₂:=t) hq ht=>by
  rw[pc,putV,zdk]
  by_cases e:p.1=k
  ·rw [if_pos (by simp[e]),if_pos (by rw[<-hF p q hq];exact e)]
   exact .cons (h2 p q hq e) ht
  ·rw [if_neg (by simp[e]),if_neg (by rw[<-hF p q hq];exact e)]
   exact .cons hq (zj8 hF h1 h2 pt p0 pc ht)
theorem zkR(rv:RelV v u):∀{xs:List (D×Addr×V)} {ys:List (D×Addr×Value)},Paired (λ(p:D×Addr×V) (q:D×Addr×Value)=>p.1=q.1/\p.2.1=q.2.1/\RelV p.2.2 q.2.2) xs ys →
  Paired (λ(p:D×Addr×V) (q:D×Addr×Value)=>p.1=q.1/\p.2.1=q.2.1/\RelV p.2.2 q.2.2) (putV k b v xs) (putV k b u ys)
 |_,_,.nil=>.cons ⟨rfl,rfl,rv⟩ .nil
 |_,_,.cons (a:=p) (b:=q) (l₁:=r) (l₂:=t) hq ht=>by
  rw[putV,putV,hq.1]
  split
  ·exact .cons ⟨rfl,hq.2.1,rv⟩ ht
  ·exact .cons hq (zkR rv ht)
section
variable {X:Cx}
def zwd(K:Z7):TSet:=λo i v H Q=>∃μ h l kvs k d,Rep K μ h H/\RepR K μ h H (.loc l) o/\h[l]?=some (.dic kvs)/\zcM k=true/\RepD K (Live μ h) H k i/\RepD K (Live μ h) H d v/\kvs.length<big ∧
 (∀H',Stp μ h H μ (h.set l (.dic (dPut k d kvs))) H'->Rep K μ (h.set l (.dic (dPut k d kvs))) H'->Q H')
theorem zoh{X:Cx}{pins:List (Addr×Obj)}{σ:St}{H:Hp}{s:Shared}{μ:List Addr}{h:Sto}{l:Nat}{a b:Addr}{kvs:List (D×D)}{k d:D}{v:V}{u:Value}{Q:Hp->Prop}(I:Inv X pins σ H s)(R0:Rep X.K μ h H)(ea:μ[l]?=some a)(ho:h[l]?=some (.dic kvs))(hk:zcM k=true)(qk:RepD X.K (Live μ h) H k (.ref b))(qd:RepD X.K (Live μ h) H d v)(rv:RelV v u)(hb:kvs.length<big)
  (q:∀H',Stp μ h H μ (h.set l (.dic (dPut k d kvs))) H'->Rep X.K μ (h.set l (.dic (dPut k d kvs))) H'->Q H'):
  ∃xv,xv.length<=sizeLine/\s.heap.DictOfH (dKind X.prog X.w) a xv/\∀h' tk,h'.DictOfH (dKind X.prog X.w) a (storedH xv k b u)->Xj a s.heap h'->∃H',Inv X pins σ H' {s with heap:=h',toks:=tk}/\Q H':=by
 obtain⟨xs,xv,eH0,_,z,r,DA⟩:=zkD I R0 ea ho;have eH:=eH0 ho;have lx:xs.length=xv.length:=XD r;have lk:kvs.length=xs.length:=XD z;have hbig:big=sizeLine:=rfl;refine⟨xv,by omega,DA.dic,λh' tk dd' hs=>?_⟩;obtain⟨o,es,ep,g1,g2,g3,g4,g5,g6⟩:=dd'
 have nd:(xv.map (·.1)).Nodup:=let ⟨_,_,_,_,_,_,_,_,n⟩:=DA.dic;n
 rw[zgj k b u nd] at g4 g6
 refine⟨upd H a (.dT (putV k b v xs)),I.write (x:=a) (e:=a) (by rw[eH];exact W3) (.inl rfl) (λc w hc e=>(hs.2 c hc).trans e) ⟨o,g1⟩ ⟨by have:=zkO k b v xs;omega,DA.sys,_,zkR rv r,o,es,ep,g1,g2,g3,g4,g6⟩,?_⟩
 obtain ⟨s2,R2⟩:=zmV (o':=.dic (dPut k d kvs)) (u:=.dT (putV k b v xs)) R0 ea ho rfl λst=>⟨putV k b v xs,zam,zj8 (F:=λ(p:D×D) (q:D×Addr×V)=>p.1=q.1/\(zcM p.1=true/\RepD X.K (Live μ (h.set l (.dic (dPut k d kvs)))) (upd H a (.dT (putV k b v xs))) p.1 (.ref q.2.1))/\RepD X.K (Live μ (h.set l (.dic (dPut k d kvs)))) (upd H a (.dT (putV k b v xs))) p.2 q.2.2)
  (λp q z=>z.1) ⟨rfl,⟨hk,RepD.stp st R0 qk⟩,RepD.stp st R0 qd⟩ (λp q z e=>⟨z.1,z.2.1,RepD.stp st R0 qd⟩) (dPut k d) rfl (λp r=>rfl) (L2.Paired.mapP z λp q y=>⟨y.1,⟨y.2.1.1,RepD.stp st R0 y.2.1.2⟩,RepD.stp st R0 y.2.2⟩)⟩
 exact q _ s2 R2
theorem zq4(hu:X.A.units+64<cLine):PSet X (zwd X.K):=by intro pins s σ H o i v ov iv u Q I ro ri rv q;obtain⟨μ,h,l,kvs,k,d,R0,⟨a,ea,rfl⟩,ho,hk,qk,qd,hb,q⟩:=q;cases ro;obtain⟨b,rfl⟩:=zfK hk qk;cases ri;obtain⟨xv,hz,dd,w⟩:=zoh I R0 ea ho hk qk qd rv hb q;exact wpAny_setItem_heap (hsz:=hz) (zpM hu) (zgn (zaP I) hk qk) dd λh' dd' hs=>w h' _ dd' hs
theorem zrJ(hu:X.A.units+64<cLine)(he:IE X e f)(ho:IE X o g)(hi:IE X i k)
  (ha:∀v,assign (.Subscript o i p2) X.env v=(do let ov<-holding [v] (eval o X.env);let iv<-holding [v,ov] (eval i X.env);Xy p2;holding [v,ov,iv] (setItem ov iv v);release [v,ov,iv] []))
  (hs:WW [.Subscript o i p2] e pos.line X.env=pure false) (hw:WV [.Subscript o i p2] e X.env=pure none) (h1:(Zn [.Subscript o i p2] X.env).map (·.2)=[assign (.Subscript o i p2) X.env]):
  PS X (.Assign [.Subscript o i p2] e pos) (tS X.K λσ=>bnd (f σ) λr=>bnd (g σ) λx=>bnd (k σ) λy=>bnd (fz r) λd=>bnd (kRd y) λk=>bnd (dSet x k d) λ_=>ok (.nx,σ)):=by
 refine PS.imp (zmd he (zqO ho hi (zq4 hu) ha) hs hw h1) λD σ H q0=>?_;obtain⟨μ,h,env,R0,re,fl,env',h',e,kk⟩:=q0;simp only[zab,zac,Z1] at e;obtain⟨r,h1,e1,x,h2,e2,y,h3,e3,d,h4,e4,ky,h5,e5,_,h6,e6,⟨rfl,rfl⟩,rfl⟩:=e;refine⟨μ,h,env,R0,re,r,h1,e1,λμ1 H1 v s1 R1 q1=>⟨μ1,h1,env,R1,re.stp s1 R0,x,h2,e2,λμ2 H2 u s2 R2 q2=>⟨μ2,h2,env,R2,re.stp (s1.trans s2) R0,y,h3,e3,λμ3 H3 w s3 R3 q3=>?_⟩⟩⟩;obtain⟨s4,R4,zd⟩:=zlj R3 ((q1.stp s2 R1).stp s3 R2) e4;obtain⟨rfl,hk,rfl⟩:=zdF e5
 cases x with
 |d _=>cases e6
 | loc l=>
  simp only[dSet] at e6
  split at e6
  ·rename_i kvs hx
   split at e6
   ·rename_i hb
    simp only[Z5,Z1] at e6;obtain⟨_,rfl⟩:=e6;refine⟨μ3,_,l,kvs,ky,d,R4,(q2.stp s3 R2).stp s4 R3,hx,hk,(q3.stp s4 R3),zd,of_decide_eq_true hb,λH' s5 R5=>?_⟩;have st:=(((s1.trans s2).trans s3).trans s4).trans s5;exact kk μ3 _ σ st R5 (re.stp st R0)
   ·cases e6
  ·cases e6
end
end IT
namespace IT
open PySem PySem.Spec L2
abbrev noA:Addr->Prop:=λ_=>False
section
variable {K:Z7}{μ:List Addr}{h h':Sto}{H:Hp}
theorem RepD.bare{A:Addr->Prop}(q:RepD K A H x v):RepD K noA H x v:=RepD.mono (λ_ _ z=>z) (λ_ _ _ z=>⟨id,z⟩) x v q
theorem RepDs.bare{A:Addr->Prop}(q:RepDs K A H x v):RepDs K noA H x v:=RepDs.mono (λ_ _ z=>z) (λ_ _ _ z=>⟨id,z⟩) x v q
theorem zn1{r:R}(R0:Rep K μ h H)(q:RepR K μ h H r v)(e:rdT r h=some (d,h')):h'=h/\RdD K noA H d v:=by
 cases r with
 |d x=>replace e:=ZZ e;cases e;exact⟨rfl,RdD.of (RepD.bare q)⟩
 | loc l=>
  obtain⟨a,ea,rfl⟩:=q;simp only[rdT] at e
  split at e
  ·rename_i x m z ho
   split at e
   ·rename_i o hm
    split at e
    ·rename_i il
     replace e:=ZZ e;cases e;obtain⟨u,b,w,e1,e2,q1,q2⟩:=R0.obj l a _ ea ho;obtain⟨vs,e3,q3⟩:=(R0.obj m b o e2 hm).isL il;refine⟨rfl,?_⟩;show RepD K noA H _ _;simp only[RepD];refine⟨a,_,rfl,SqT.of e1,RepDs.cons q1.bare (RepDs.cons ?_ (RepDs.one q2.bare))⟩;simp only[RepD];exact⟨b,vs,rfl,.inl ⟨id,.inl e3⟩,q3.bare⟩
    ·cases e
   ·cases e
  ·cases e
end
section
variable {X:Cx}{a b c e:Expr}{pos:Pos}{f g k:IT.Env->M R}
theorem zuH{n:Nat}(ha:IE X a f)(hb:IE X b g)(hc:IE X c k)(s0:ZW [a,b,c] X.env=(false,eval a X.env)::ZW [b,c] X.env)(s1:ZW [b,c] X.env=(false,eval b X.env)::ZW [c] X.env)(s2:ZW [c] X.env=(false,eval c X.env)::ZW [] X.env):
  IE X (.Tuple [a,b,c] n pos) (λσ=>bnd (f σ) λx=>bnd (g σ) λy=>bnd (k σ) λz=>tNew x y z):=by
 refine PE.imp (zqn (zhr ha (zhr hb (zhr hc zqq s2) s1) s0)) λσ H Q q0=>?_;obtain⟨μ,h,env,R0,re,r,h',e,kk⟩:=q0;simp only[zab] at e;obtain⟨x,h1,e1,y,h2,e2,z,h3,e3,e4⟩:=e;refine⟨μ,h,env,R0,re,[x,y,z],h3,?_,λμ1 H1 vs s1 R1 q1=>⟨?_,λp hp=>?_⟩⟩
 ·simp only[zab,zac]
  exact⟨x,h1,e1,_,h3,⟨y,h2,e2,_,h3,⟨z,h3,e3,_,h3,⟨rfl,rfl⟩,rfl,rfl⟩,rfl,rfl⟩,rfl,rfl⟩
 ·rw [<-q1.length]
  exact XX rfl
 ·cases q1 with
  | @cons _ v1 _ _ qx q1=>
   cases q1 with
   | @cons _ v2 _ _ qy q1=>
    cases q1 with
    | @cons _ v3 _ _ qz q1=>
     cases q1;simp only[tNew] at e4
     split at e4
     ·rename_i x l z
      replace e4:=ZZ e4;cases e4;obtain⟨b,eb,rfl⟩:=qy;have st:Stp μ1 h3 H1 (μ1++[p]) (h3++[.tpl x l z]) (upd H1 p (.tup [v1,.ref b,v3])):=Stp.allocO R1 hp
      exact kk (μ1++[p]) _ (.ref p) (s1.trans st) (R1.allocO hp ⟨_,b,_,zam,st.pre l b eb,RepD.stp st R1 qx,RepD.stp st R1 qz⟩) ⟨p,by rw[<-R1.len];simp,rfl⟩
     ·cases e4
theorem zva:IxR X (λv u H Q=>OpIQ X.K (λx y=>match y with | .d (.int (.ofNat k))=>tIx x k | _=>λ_=>none) v u H Q):=by
 intro value slice pins s σ H v u v' u' Q I rv ru q hs;obtain⟨μ,h,x,y,R0,qx,qy,r,h',e,k⟩:=q
 cases y with
 |loc _=>exact zae e
 | d y =>
  cases y with
  | int i=>
   cases i with
   |negSucc _=>exact zae e
   | ofNat j=>
    cases x with
    | d x=>
     simp only[tIx] at e
     split at e
     ·rename_i z ez
      replace e:=ZZ e;cases e;exact ix' value slice pins s σ H v u v' u' Q I rv ru ⟨μ,h,x,.int j,z,R0,RdD.of qx,RdD.of qy,ez,λμ1 H1 w s1 R1 q1=>k μ1 H1 w s1 R1 q1⟩ hs
     ·cases e
    | loc l=>
     obtain⟨a,ea,rfl⟩:=qx;simp only[RepR,RepD] at qy;simp only[tIx] at e
     split at e
     ·rename_i x m z ho
      obtain⟨w0,b,w2,e1,e2,q1,q2⟩:=R0.obj l a _ ea ho
      split at e
      ·replace e:=ZZ e
       cases e;exact zku value slice pins s σ H _ u v' u' Q I rv ru ⟨a,_,_,w0,rfl,qy,SqT.of e1,rfl,k μ H w0 Stp.refl R0 q1⟩ hs
      ·replace e:=ZZ e
       cases e;exact zku value slice pins s σ H _ u v' u' Q I rv ru ⟨a,_,_,.ref b,rfl,qy,SqT.of e1,rfl,k μ H _ Stp.refl R0 ⟨b,e2,rfl⟩⟩ hs
      ·replace e:=ZZ e
       cases e;exact zku value slice pins s σ H _ u v' u' Q I rv ru ⟨a,_,_,w2,rfl,qy,SqT.of e1,rfl,k μ H w2 Stp.refl R0 q2⟩ hs
      ·cases e
     ·cases e
  |_=>exact zae e
theorem zvn{j:Nat}(ha:IE X a f)(hb:IE X b (λ_=>ok (.d (.int j))))(hs:zd2 b):IE X (.Subscript a b pos) (λσ=>bnd (f σ) λx=>tIx x j):=by refine PE.imp (zov zva ha hb hs) λσ H Q q=>two (m:=λx y=>match y with | .d (.int (.ofNat k))=>tIx x k | _=>λ_=>none) ?_;obtain⟨μ,h,env,R0,re,r,h',e,k⟩:=q;refine⟨μ,h,env,R0,re,r,h',?_,k⟩;simp only[zab,zac] at e⊢;obtain⟨x,h1,e1,e2⟩:=e;exact⟨x,h1,e1,_,h1,⟨rfl,rfl⟩,e2⟩
theorem zvw(hg:Gl X "isinstance")(hm:X.mg "isinstance"=none)(he:IE X e f)(hx:x=YH (tyS .tuple))(hg2:Gl X x)(hm2:X.mg x=none)(hs:ZW [e,.Name x p2] X.env=[(false,eval e X.env),(false,eval (.Name x p2) X.env)]):
  IE X (.Call (.Name "isinstance" p) [e,.Name x p2] [] pos) (λσ=>bnd (f σ) λr=>bnd (rdT r) λd=>ok (.d (.bl (isiD .tuple d)))):=by
 subst hx;have h2:PE X (.Name (YH (tyS .tuple)) p2) (tC (.ty (tyS .tuple))):=zmf hg2 hm2 (zmq .tuple) rfl (by decide) (by decide);refine PE.imp (zcH (zkK .tuple) hg hm WM (zbG he (zbG h2 zeA rfl) hs) (by decide) (by decide) hs rfl) λσ H Q q0=>?_;obtain⟨μ,h,env,R0,re,r,h',e,k⟩:=q0;simp only[zab,zac] at e;obtain⟨r1,h1,e1,d,h2',e2,rfl,rfl⟩:=e;refine⟨μ,h,env,R0,re,r1,h1,e1,λμ1 H1 v s1 R1 q1=>?_⟩;obtain⟨rfl,z⟩:=zn1 R1 q1 e2;exact⟨_,d,v,z,rfl,k μ1 H1 _ s1 R1 (by simp only[RepR,RepD])⟩
def mTne(x y:R):M R:=bnd (rdT x) λx=>bnd (rdT y) λy=>bnd (opt (cop .ne x y)) λz=>ok (.d z)
theorem zqB(hu:X.A.units+64<cLine):OpI X (Zg .NotEq) mTne:=by
 intro pins s σ H v u v' u' Q I rv ru q;obtain⟨μ,h,x,y,R0,qx,qy,r,h',e,k⟩:=q;simp only[mTne,zab,zac,zay] at e;obtain⟨dx,h1,e1,dy,h2,e2,z,h3,⟨e3,rfl⟩,rfl,rfl⟩:=e;obtain⟨rfl,zx⟩:=zn1 R0 qx e1;obtain⟨rfl,zy⟩:=zn1 R0 qy e2
 (delta cop at e3;(try dsimp only at e3))
 split at e3
 ·rename_i hf
  cases e3;have hd:min dx.dep dy.dep<=60:=of_decide_eq_true hf;exact zkj (zaP I) dx dy X.A v u v' u' zx zy rv ru (by omega) X.prog X.w X.xe _ ⟨.bl _,H,I,rfl,k μ H _ Stp.refl R0 (by simp only[RepR,RepD])⟩
 ·cases e3
theorem zt9(hu:X.A.units+64<cLine)(ha:IE X a f)(hb:IE X b g)(hm:Yt .NotEq b=false):IE X (.Compare a [.NotEq] [b] pos) (λσ=>bnd (f σ) λy=>bnd (g σ) λx=>mTne y x):=zkm (zqB hu) ha hb hm
theorem zvs(hu:X.A.units+64<cLine)(ha:IE X a f)(hb:IE X b g)(hm:Yt .NotEq b=false):IT' X (.Compare a [.NotEq] [b] pos) (λσ=>bnd (bnd (f σ) λy=>bnd (g σ) λx=>mTne y x) λr=>bnd (rd r) λd=>opt (tru d)):=by
 refine zkk (zqB hu) ha hb hm λx y h r h' e=>?_;simp only[mTne,zab,zac,zay] at e;obtain⟨dx,h1,e1,dy,h2,e2,z,h3,⟨e3,rfl⟩,rfl,rfl⟩:=e
 (delta cop at e3;(try dsimp only at e3))
 split at e3
 ·cases e3;exact⟨_,rfl⟩
 ·cases e3
theorem zpP{p pos kp:Pos}{fs:IT.Env->M (List R)}(hF:zpA X n x np dfl m)(hr:Room n X.A)(hg:Gl X x)(hy:kwOf x=some (y,d))(hd3:np=4)(ha:IA X [a,b] fs)(hf:∀σ h rs h',fs σ h=some (rs,h')->rs.length=2)(hc:IE X c k)
  (hdb:(x==("__debug__":Str))=false) (he:ZW [a,b] X.env=(false,eval a X.env)::ZW [b] X.env) (hpl:(backTo pos (ZW [a,b] X.env)).any (·.1)=false):
  IE X (.Call (.Name x p) [a,b] [⟨some y,c,kp⟩] pos) (λσ=>bnd (fs σ) λrs=>bnd (k σ) λr=>m (rs++[.d d,r])):=by
 obtain⟨f,fd,ps,dvs,F,hm,hk,_,_,hw⟩:=hF.ex;obtain⟨du,dv,qd,hb⟩:=hw y d hy
 refine PE.imp (zo9 F hr hg hm hk hb zif ha (zrW hc zts) rfl rfl hdb he (by rw[hpl];rfl)) λσ H Q q0=>?_
 obtain⟨μ,h,env,R0,re,r,h',ee,kk⟩:=q0;simp only[zab] at ee;obtain⟨rs,h1,e1,r1,h2,e2,e3⟩:=ee;have hl:=hf _ _ _ _ e1;refine⟨μ,h,env,R0,re,rs,h1,e1,λμ1 H1 vs s1 R1 q1=>⟨μ1,h1,env,R1,re.stp s1 R0,r1,h2,e2,λμ2 H2 w s2 R2 q2=>?_⟩⟩;have q1':=q1.stp s2 R1
 cases q1' with
 |nil=>cases hl
 | @cons ra va rs' vs' qa q1'=>
  cases q1' with
  |nil=>cases hl
  |@cons rb vb rs'' vs'' qb q1'=>
   cases q1' with|cons _ _=>cases hl|nil=>exact⟨by rw[hd3];rfl,μ2,h2,_,R2,.cons qa (.cons qb (.cons (show RepR X.K μ2 h2 H2 (.d d) dv from qd _ _) (.cons q2 .nil))),r,h',e3,λμ3 H3 v s3 R3 q3=>kk μ3 H3 v ((s1.trans s2).trans s3) R3 q3⟩
theorem zue(hu:X.A.units+64<cLine)(ha:IE X a f)(hb:IE X b g):IE X (.Dict [some a] [b] pos) (λσ=>bnd dNew λx=>bnd (f σ) λy=>bnd (g σ) λr=>bnd (fz r) λd=>bnd (kRd y) λk=>bnd (dSet x k d) λ_=>ok x):=by
 intro pins s σ H Q I q;obtain⟨μ,h,env,R0,re,r,h',e,kk⟩:=q;simp only[zab,zac] at e;obtain⟨x,h0,e0,y,h1,e1,r1,h2,e2,d,h3,e3,ky,h4,e4,_,h5,e5,rfl,rfl⟩:=e;replace e0:=ZZ e0;cases e0;have hf:=I.fresh;have I0:Inv X pins σ (upd H s.heap.objs.size (.dT [])) _:=I.laid (t':=s.toks) (h':=s.heap.push {cls:=.type "dict",data:=.dict #[]}) (λ_ _ q=>Z0 _ q) (Z2 _) ⟨Zz _,beq_eq_false_iff_ne.mpr (Yw (ZH (zuN I))),[],.nil,_,#[],0,Zw _ rfl,⟨rfl,rfl,rfl⟩,rfl,rfl,List.nodup_nil⟩;have st0:Stp μ h H (μ++[s.heap.objs.size]) (h++[.dic []]) (upd H s.heap.objs.size (.dT [])):=Stp.allocO R0 hf;have R1:Rep X.K (μ++[s.heap.objs.size]) (h++[.dic []]) (upd H s.heap.objs.size (.dT [])):=R0.allocO hf ⟨[],zam,.nil⟩
 have ea:(μ++[s.heap.objs.size])[h.length]?=some s.heap.objs.size:=by rw[<-R0.len];simp
 refine wpAny_Dict_any rfl rfl (by intro z;cases z) (XX rfl) (evalPairs_cons ?_)
 show wpAny _ _ (eval a X.env) _ _ _;refine thn (ha pins _ σ _ (λv H1=>∃μ1,Stp (μ++[s.heap.objs.size]) (h++[.dic []]) (upd H s.heap.objs.size (.dT [])) μ1 h1 H1/\Rep X.K μ1 h1 H1/\RepR X.K μ1 h1 H1 y v) I0 ⟨_,_,env,R1,re.stp st0 R0,y,h1,e1,λμ1 H1 v s1 R1 q1=>⟨μ1,s1,R1,q1⟩⟩) λkv s1 q_=>?_;obtain⟨v,H1,I1,rk,μ1,st1,R1',qk⟩:=q_;refine Z4 (thn (hb pins s1 σ H1 (λw H2=>∃μ2,Stp μ1 h1 H1 μ2 h2 H2/\Rep X.K μ2 h2 H2/\RepR X.K μ2 h2 H2 r1 w) I1 ⟨_,_,env,R1',(re.stp st0 R0).stp st1 R1,r1,h2,e2,λμ2 H2 w s2 R2 q2=>⟨μ2,s2,R2,q2⟩⟩) λvv s2 q_=>?_);obtain⟨w,H2,I2,rv,μ2,st2,R2,qv⟩:=q_;refine Z4 (WX (ZY (evalPairs_nil ?_)));obtain⟨st3,R3,zd⟩:=zlj R2 qv e3;obtain⟨rfl,hk,rfl⟩:=zdF e4;have ea2:μ2[h.length]?=some s.heap.objs.size:=st2.pre _ _ (st1.pre _ _ ea);have qk2:=(RepR.stp st2 R1' qk).stp st3 R2;obtain⟨b,rfl⟩:=zfK hk qk2;cases rk;simp only[dSet] at e5
 split at e5
 ·rename_i kvs hx
  split at e5
  ·rename_i hb
   replace e5:=ZZ e5;cases e5;obtain⟨xv,hz,dd,w⟩:=zoh (Q:=λH'=>Q (.ref s.heap.objs.size) H') I2 R3 ea2 hx hk qk2 zd rv (of_decide_eq_true hb) λH' s4 R4=>kk μ2 _ _ ((((st0.trans st1).trans st2).trans st3).trans s4) R4 ⟨_,ea2,rfl⟩;show wpAny _ _ (storeAll s.heap.objs.size [(YM b,vv)]) _ _ _;unfold storeAll;rw[VZ];refine Z4 (Z4 (wpAny_dictSet_heap (hsz:=hz) (show(dKind X.prog X.w).room X.A from(show X.A.units+8<cLine by omega)) (zgn (zaP I2) hk qk2) dd λh' dd' hs=>ZY (ZY ?_)));obtain⟨H',I',q'⟩:=w h' _ dd' hs;exact⟨.ref s.heap.objs.size,H',I',rfl,q'⟩
  ·cases e5
 ·cases e5
end
end IT
namespace IT
open PySem PySem.Spec L2
theorem zua:VU (.type "list_reverseiterator") "__len__"=pure none:=by rw[typeLookup_type,builtinLookup_eq_fast];kernel_rfl
theorem zs1:VU (.type "list_reverseiterator") "__length_hint__"=pure (some (.builtin "list_reverseiterator.__length_hint__")):=by rw[typeLookup_type,builtinLookup_eq_fast];kernel_rfl
theorem ztk:isSubtype (.type "list_reverseiterator") (.type "list_reverseiterator")=pure true:=by rw[isSubtype_type];kernel_rfl
section
variable {prog:Zs}{w:World}{A:Around}{E:Value->Shared->Prop}{s:Shared}
theorem zsm{p:Addr}{Q:Bool->Shared->Prop}(ty:s.TypeIs (.ref p) "list_reverseiterator")(q:Q false s):wpAny (model prog w) A (WI (.ref p)) Q E s:=by
 have h1:=zua;have h3:=ztk;obtain⟨i,hi,h2,h4⟩:∃i,i="list_reverseiterator.__length_hint__"/\VU (.type "list_reverseiterator") "__length_hint__"=pure (some (.builtin i))/\splitId i=some ("list_reverseiterator", "__length_hint__"):=⟨_,rfl,zs1,by decide +kernel⟩;delta WI
 wp_walk
 rw[h4]
 wp_walk
 subst hi
 split
 ·split
  ·rename_i z
   exact absurd z (by decide +kernel)
  ·exact ZY q
 ·rename_i z
  exact absurd (by decide +kernel) z
abbrev RvAt(p l:Addr)(its:Array Value)(i:Nat)(h:Heap):Prop:=i<=its.size/\h.IsRevIter p l ((its.size:Int)-1-(i:Int))/\h.IsList l its
abbrev RvIs(its:Array Value)(i:Nat)(v:Value):Prop:=its[its.size-1-i]?=some v
theorem zsO{R:Result->Shared->Prop}{p l S:Addr}{its:Array Value}{c:Nat}{res:Value}(hh:A.handled=none)(at0:RvAt p l its 0 s.heap)(ne:l≠p)(n1:S≠p)(n2:S≠l)(sz:its.size<=sizeLine)(hS:s.heap.get? S=some {cls:=.type "list",data:=.seq #[] c})
  (k:∀s' acc c',(∀b o,b≠S->b≠p->s.heap.get? b=some o->s'.heap.get? b=some o)->{s with heap:=s'.heap,toks:=s'.toks}=s'->s'.heap.get? S=some {cls:=.type "list",dict:=none,data:=.seq acc c',slots:=#[]}->ItemsOf (RvIs its) acc its.size->R (.ok (.ret res)) s'):
  wpAny (model prog w) A.in1 (XS (.ref S) (.ref p) res) (λfin s'=>match fin with | .done f=>R (.ok f) s' | .again c'=>c'.quiet=true/\Xg (model prog w) A c' R s') (λe s'=>R (.error e) s') s:=by
 have ty:=at0.2.1.typeIs;delta XS;refine Z4 (V7 ty ?_)
 have z0:YG.List.listSameRef (.ref S) (.ref p)=false:=by simp[YG.List.listSameRef,n1]
 simp only[z0,show(Xs "list_reverseiterator"==Xs "list")=false by decide,show(Xs "list_reverseiterator"==Xs "tuple")=false by decide,Bool.or_false,ZN,if_false];refine Z4 (wpAny_pyIter_revIter at0.2.1 (Z4 (Ye (zsm ty ?_))));refine wpAny_ite_split (λz=>absurd z (by decide +kernel)) λ_=>?_;refine ZY ⟨WT F.plain_extend_loop _,?_⟩;refine codeAny_extend_loopS (Walks.listRev (prog:=prog) (w:=w) (A:=A.in1) hh p l ne its).toS sz S (by simp[n1,n2]) res its.size 0 s #[] c rfl (Zz _) at0 hS (ItemsOf.nil _) λs' acc c' mv hS' it=>?_;refine k s' acc c' (λb o z1 z2 e=>mv.heap b o (by simp[z1,z2]) e) (Moved.eq_with mv).symm hS' it
theorem ziC{Q:Value->Shared->Prop}{p l:Addr}{its:Array Value}(hh:A.handled=none)(at0:RvAt p l its 0 s.heap)(ne:l≠p)(hp:p<s.heap.objs.size)(hl:l<s.heap.objs.size)(sz:its.size<=sizeLine)
  (k:∀h' tk acc c',(∀b o,b≠p->s.heap.get? b=some o->h'.get? b=some o)->h'.get? s.heap.objs.size=some {cls:=.type "list",dict:=none,data:=.seq acc c',slots:=#[]}->ItemsOf (RvIs its) acc its.size->Q (.ref s.heap.objs.size) {s with heap:=h',toks:=tk}):
  wpAny (model prog w) A (call (.type "list") [.ref p]) Q E s:=by
 refine callType_codes (Q₁:=λx t=>x=.ref s.heap.objs.size/\t={s with heap:=s.heap.push {cls:=.type "list",data:=.seq #[]}}) F.called_list (F.typeCall_list_1 _) F.entry_list_init (code_list_new _ ⟨rfl,rfl⟩) ?_
 rintro _ _ ⟨rfl,rfl⟩
 have g0:(s.heap.push {cls:=.type "list",data:=.seq #[]}).get? s.heap.objs.size=some {cls:=.type "list",data:=.seq #[]}:=Zw _ rfl;refine⟨⟨_,g0,rfl⟩,F.args_list_init_2 _ _,?_⟩;delta YG.«list.__init__»;generalize eX:XS=ext
 wp_walk
 subst eX;have un:∀b o,s.heap.get? b=some o->((s.heap.push {cls:=.type "list",data:=.seq #[]}).update s.heap.objs.size (Ym λ_=>#[])).get? b=some o:=λb o e=>(Yv _ _ (X3 (ZT e))).trans (Z0 _ e);refine zsO (A:=A.in1) hh ⟨at0.1,at0.2.1.at λo e=>un p o e,at0.2.2.at λo e=>un l o e⟩ ne (X3 hp) (X3 hl) sz (W7 _ g0 rfl) λs' acc c' kp eq g it=>⟨rfl,?_⟩;rw[<-eq];exact k s'.heap s'.toks acc c' (λb o z e=>kp b o (ZH (ZT e)) z (un b o e)) g it
end
section
variable {X:Cx}
theorem zkx:∀{vs:List V} {us:List Value},Vals vs us->Vals vs.reverse us.reverse|_,_,.nil=>.nil|_,_,.cons r1 r2=>by rw[Xa,Xa];exact(zkx r2).append (.cons r1 .nil)
theorem zpR{its:List Value}{acc:Array Value}(h:ItemsOf (RvIs its.toArray) acc its.toArray.size):acc.toList=its.reverse:=by
 refine Wq λi=>?_
 by_cases hi:i<its.length
 ·have h1:i<acc.size:=by rw[h.1];simpa using hi
  have e1:=h.2 i acc[i] (Ww h1);rw[List.getElem?_reverse hi,Array.getElem?_toList,Ww h1]
  simpa[RvIs] using e1.symm
 ·rw[Zh (by rw[Yz,h.1];simpa using hi),Zh (by simpa using hi)]
theorem zj7{K:Z7}{A:Addr->Prop}{H:Hp}:∀{xs:List D} {vs:List V},RepDs K A H xs vs->RepDs K A H xs.reverse vs.reverse| [],vs,q=>by simp only[RepDs] at q;subst q;exact .nil|x::xs,vs,q=>by simp only[RepDs] at q;obtain⟨v,r,rfl,h1,h2⟩:=q;rw[Xa,Xa];exact(zj7 h2).app (.one h1)
theorem zup{e:Expr}{p p2 pos2 pos:Pos}{f:IT.Env->M R}(hc:X.calm=true)(hg:Gl X "list")(hm:X.mg "list"=none)(hg2:Gl X "reversed")(hm2:X.mg "reversed"=none)(he:IE X e f)(hs:ZW [e] X.env=[(false,eval e X.env)]):
  IL X (.Call (.Name "list" p) [.Call (.Name "reversed" p2) [e] [] pos2] [] pos) (λσ=>bnd (f σ) λr=>bnd (rd r) λd=>opt (revD d)):=by
 intro pins s σ H Q I q;obtain⟨μ,h,env,R0,re,ds,h',ee,k⟩:=q;simp only[zab,zay] at ee;obtain⟨r,h1,e1,d,h2,e2,e3,rfl⟩:=ee;refine YV (zeQ I hg hm PyProof.Rows.boot_list ?_ (by decide) (by decide));refine YR (rest:=[]) ?_ rfl rfl;show wpAny _ _ (spliced [(false,eval (.Call (.Name "reversed" p2) [e] [] pos2) X.env)]) _ _ s;refine WB (YV (zeQ I hg2 hm2 PyProof.Rows.boot_reversed ?_ (by decide) (by decide)));refine YR ?_ hs rfl;rw[hs];refine WB (thn (he pins s σ H (λv H1=>∃μ1,Stp μ h H μ1 h1 H1/\Rep X.K μ1 h1 H1/\RepR X.K μ1 h1 H1 r v) I ⟨μ,h,env,R0,re,r,h1,e1,λμ1 H1 v s1 R1 q1=>⟨μ1,s1,R1,q1⟩⟩) λu s1 ⟨v,H1,I1,rv,μ1,st1,R1,q1⟩=>Wr ?_);obtain⟨rfl,z⟩:=zbT R1 q1 e2
 cases d with
 |lst xs=>
  replace e3:=ZZ e3;subst e3;obtain⟨a,vs,rfl,sq,zs⟩:=z;cases rv;obtain⟨its,r',pl,hz⟩:=I1.list sq;have hlen:=r'.length;refine call_reversed_list pl.isList (Wr ?_)
  have al:a<s1.heap.objs.size:=let ⟨o,ho,_⟩:=pl.isList;ZT ho
  refine ziC (A:=X.A) (s:={s1 with heap:=s1.heap.push (revObj a ((its.toArray.size:Int)-1))}) (I.ok.hd hc) ⟨Zz _,⟨_,Zw _ rfl,rfl,by simp[revObj]⟩,pl.isList.at λo ho=>Z0 _ ho⟩ (ZH al) (by simp[Heap.push]) (ZL al (by simp[Heap.push])) (by rw[ZX,<-hlen];exact hz) λh' tk acc c' kp g it=>?_
  have sz1:(s1.heap.push (revObj a ((its.toArray.size:Int)-1))).objs.size=s1.heap.objs.size+1:=by simp[Heap.push]
  rw[sz1] at g⊢
  have ev:Vals vs.reverse acc.toList:=by rw[zpR it];exact zkx r'
  refine⟨.ref (s1.heap.objs.size+1),_,I1.laid (t':=tk) (a:=s1.heap.objs.size+1) (o:=.lst vs.reverse) (λb o eo=>kp b o (ZH (ZT eo)) (Z0 _ eo)) (Ys _) ⟨by rw[List.length_reverse];exact hz,acc.toList,c',ev,by simpa using g⟩,rfl,?_⟩
  refine k μ1 H1 _ _ st1 R1 (zj7 zs) (I1.hok.fresh (Ys _))
 |_=>exact zae e3
end
end IT
namespace IT
open PySem PySem.Spec L2
theorem noT{P:Prop}(h:false=true):P:=by cases h
theorem noF{P:Prop}(h:true=false):P:=by cases h
structure zmo where
 name:Str
 init:Nat
 fields:List Str
 meths:List (Str×Nat)
structure Cst where
 N:List Str
 names:List (Str×X8)
 fns:List (Str×Nat×List D)
 globs:List (Str×D)
 top:Bool
 cls:List zmo
def zal:Expr->Bool|.Starred _ _=>false|_=>true
def visB(C:Cst)(x:Str):Bool:=match C.names.lookup x with|some .local=>true|some .cell=>true|some .free=>true|_=>false
def locB(C:Cst)(x:Str):Bool:=match C.names.lookup x with|some .local=>true|some .cell=>C.top|_=>false
def zcp(C:Cst)(x:Str):Bool:=match C.names.lookup x with|some .globalImplicit=>true|_=>false
def zba(x:Str):Bool:=!(x==("__debug__":Str))&&!(x==("__classdict__":Str))
def conB:D->Const->Bool|.non,.none=>true|.bl b,.bool c=>b==c|.int i,.int j=>i==j|.str x,.str y=>zbj x==y|_,_=>false
def boB:Bo->Wh->Bool|.add,.Add=>true|.sub,.Sub=>true|.mul,.Mult=>true|.fdiv,.FloorDiv=>true|.mod,.Mod=>true|.band,.BitAnd=>true|.bor,.BitOr=>true|_,_=>false
def coB:Co->CmpOp->Bool|.eq,.Eq=>true|.ne,.NotEq=>true|.lt,.Lt=>true|.le,.LtE=>true|.gt,.Gt=>true|.ge,.GtE=>true|.isin,.In=>true|.notin,.NotIn=>true|.isN,.Is=>true|.isnotN,.IsNot=>true|_,_=>false
def biS:Bi->Str|.len=>"len"|.tuple=>"tuple"|.int=>"int"|.all=>"all"|.any=>"any"
def meS:Me->Str|.append=>"append"|.extend=>"extend"
def biOn:Bi->Bool|.len=>true|.tuple=>true|.int=>true|.all=>true|.any=>true
def meOn:Me->Bool|.append=>true|.extend=>true
def zrc:Expr->Bool|.Call _ [] _ _=>false|_=>true
def me0:Me->Bool|_=>false
def ziM:Expr->Bool|.Name _ _=>true|_=>false
def znb:Expr->Bool|.Name _ _=>true|.Subscript _ _ _=>true|_=>false
def ziJ:Expr->Bool|.Set _ _ _=>true|_=>false
def zdc:Expr->Bool|.Slice _ _ _ _=>true|_=>false
def zeJ:E->Bool|.con .non=>true|_=>false
def zfe:Expr->Bool|.UnaryOp .Not _ _=>false|.BoolOp _ _ _=>false|.IfExp _ _ _ _=>false|.Compare _ _ _ _=>false|_=>true
def zl0:Expr->Bool|.Compare _ _ _ _=>true|_=>false
def zvu(x:Str):Str:=("?":Str)++x
def relN(outer names:List (Str×X8)):List (Str×X8):=names.map λ(n,k)=>if(k==WU&&outer.lookup n==some .cell) then(n,.cell) else(n,k)
mutual
noncomputable def zbp:Tg->Expr->List (Nat×Str)
 |.name i,e=>match e with
  |.Name x _=>[(i,x)]|_=>[]
 |.tup ts,e=>match e with
  |.Tuple xs _ _=>tgNamess ts xs|_=>[]
noncomputable def tgNamess:List Tg->List Expr->List (Nat×Str)
 | [],_=>[]
 |t::ts,es=>match es with
  |e::es=>zbp t e++tgNamess ts es| []=>[]
end
def blkN(N:List Str)(own:List (Nat×Str)):List Str:=own.foldl (λM p=>M.set p.1 p.2) (N.map λx=>if own.any (λp=>p.2==x) then zvu x else x)
def blkC(C:Cst)(sc:Scope)(own:List (Nat×Str)):Cst:={N:=blkN C.N own,names:=relN C.names sc.names,fns:=C.fns,globs:=C.globs,top:=false,cls:=C.cls}
def zu0(C:Cst)(C':Cst)(own:List Nat)(i:Nat)(x:Str):Bool:=match C'.names.lookup x with
 |some .local=>own.contains i
 |some .cell | some .free=>own.contains i||(C.N[i]?==some x&&(C.names.lookup x==some .cell||C.names.lookup x==some .free))
 |_=>true
def zkY(C:Cst)(sc:Scope)(C':Cst)(own:List Nat):Bool:=
 sc.kind==.function&&sc.names.all (λy=>y.2 != .cell)&&sc.names.all (λx=>x.2 != .local||sc.names.lookup x.1==some .local)
 && sc.names.all (λx=>x.2 != .free||C.names.lookup x.1==some .cell||C.names.lookup x.1==some .free)
 && (Zy C'.N.length).all (λi=>match C'.N[i]? with | some x=>zu0 C C' own i x | none=>true)
 && C'.N.length==C.N.length&&decide C'.N.Nodup
mutual
noncomputable def zeH(C:Cst):Tg->Expr->Bool
 |.name i,e=>match e with
  |.Name x _=>C.N[i]?==some x&&locB C x|_=>false
 |.tup ts,e=>match e with
  |.Tuple xs _ _=>chkTgs C ts xs|_=>false
noncomputable def chkTgs(C:Cst):List Tg->List Expr->Bool
 | [],es=>match es with
  | []=>true|_=>false
 |t::ts,es=>match es with
  |e::es=>zal e&&zeH C t e&&chkTgs C ts es| []=>false
end
def inB:Bool->CmpOp->Bool|false,.In=>true|true,.NotIn=>true|_,_=>false
def enuB:I->Expr->Bool
 |.enu _,e=>match e with
  |.Tuple _ _ _=>true|_=>false
 |_,_=>true
theorem andT{a b:Bool}(h:(a&&b)=true):a=true/\b=true:=by simpa using h
def kCN(e:Expr)(k:Str->Pos->(List Expr)->Pos->Bool):Bool:=match e with|.Call (.Name a0 a1) a2 [] a3=>k a0 a1 a2 a3|_=>false
inductive JCN(k:Str->Pos->(List Expr)->Pos->Bool):Expr->Prop|mk a0 a1 a2 a3 (h:k a0 a1 a2 a3=true):JCN k (.Call (.Name a0 a1) a2 [] a3)
theorem ofCN(h:kCN e k=true):JCN k e:=by
 cases e with
 |Call f as ks p=>cases f<;>cases ks<;>first | exact noT h | exact⟨_,_,_,_,h⟩
 |_=>exact noT h
def kCA(e:Expr)(k:Expr->Str->Pos->(List Expr)->Pos->Bool):Bool:=match e with|.Call (.Attribute a0 a1 a2) a3 [] a4=>k a0 a1 a2 a3 a4|_=>false
inductive JCA(k:Expr->Str->Pos->(List Expr)->Pos->Bool):Expr->Prop|mk a0 a1 a2 a3 a4 (h:k a0 a1 a2 a3 a4=true):JCA k (.Call (.Attribute a0 a1 a2) a3 [] a4)
theorem ofCA(h:kCA e k=true):JCA k e:=by
 cases e with
 |Call f as ks p=>cases f<;>cases ks<;>first | exact noT h | exact⟨_,_,_,_,_,h⟩
 |_=>exact noT h
def kCK(e:Expr)(k:Str->(List Expr)->Str->Expr->Bool):Bool:=match e with|.Call (.Name a0 _) a2 [⟨some y,c,_⟩] _=>k a0 a2 y c|_=>false
inductive JCK(k:Str->(List Expr)->Str->Expr->Bool):Expr->Prop|mk a0 a1 a2 y c kp a3 (h:k a0 a2 y c=true):JCK k (.Call (.Name a0 a1) a2 [⟨some y,c,kp⟩] a3)
theorem ofCK(h:kCK e k=true):JCK k e:=by
 cases e with
 | Call f as ks p=>
  cases f<;>first | exact noT h | skip
  cases ks with
  |nil=>exact noT h
  | cons q r=>
   cases r with
   |cons _ _=>obtain⟨o,_,_⟩:=q;cases o<;>exact noT h
   |nil=>
    obtain⟨o,c,kp⟩:=q
    cases o with|none=>exact noT h|some y=>exact⟨_,_,_,_,_,_,_,h⟩
 |_=>exact noT h
def kNm(e:Expr)(k:Str->Pos->Bool):Bool:=match e with|.Name a0 a1=>k a0 a1|_=>false
inductive JNm(k:Str->Pos->Bool):Expr->Prop|mk a0 a1 (h:k a0 a1=true):JNm k (.Name a0 a1)
theorem ofNm(h:kNm e k=true):JNm k e:=by cases e<;>first | exact noT h | exact⟨_,_,h⟩
def kCo(e:Expr)(k:Const->Nat->Pos->Bool):Bool:=match e with|.Constant a0 a1 a2=>k a0 a1 a2|_=>false
inductive JCo(k:Const->Nat->Pos->Bool):Expr->Prop|mk a0 a1 a2 (h:k a0 a1 a2=true):JCo k (.Constant a0 a1 a2)
theorem ofCo(h:kCo e k=true):JCo k e:=by cases e<;>first | exact noT h | exact⟨_,_,_,h⟩
def kBi(e:Expr)(k:Expr->Wh->Expr->Pos->Bool):Bool:=match e with|.BinOp a0 a1 a2 a3=>k a0 a1 a2 a3|_=>false
inductive JBi(k:Expr->Wh->Expr->Pos->Bool):Expr->Prop|mk a0 a1 a2 a3 (h:k a0 a1 a2 a3=true):JBi k (.BinOp a0 a1 a2 a3)
theorem ofBi(h:kBi e k=true):JBi k e:=by cases e<;>first | exact noT h | exact⟨_,_,_,_,h⟩
def kUn(e:Expr)(k:XA->Expr->Pos->Bool):Bool:=match e with|.UnaryOp a0 a1 a2=>k a0 a1 a2|_=>false
inductive JUn(k:XA->Expr->Pos->Bool):Expr->Prop|mk a0 a1 a2 (h:k a0 a1 a2=true):JUn k (.UnaryOp a0 a1 a2)
theorem ofUn(h:kUn e k=true):JUn k e:=by cases e<;>first | exact noT h | exact⟨_,_,_,h⟩
def kCm(e:Expr)(k:Expr->(List CmpOp)->(List Expr)->Pos->Bool):Bool:=match e with|.Compare a0 a1 a2 a3=>k a0 a1 a2 a3|_=>false
inductive JCm(k:Expr->(List CmpOp)->(List Expr)->Pos->Bool):Expr->Prop|mk a0 a1 a2 a3 (h:k a0 a1 a2 a3=true):JCm k (.Compare a0 a1 a2 a3)
theorem ofCm(h:kCm e k=true):JCm k e:=by cases e<;>first | exact noT h | exact⟨_,_,_,_,h⟩
def kBo(e:Expr)(k:W9->(List Expr)->Pos->Bool):Bool:=match e with|.BoolOp a0 a1 a2=>k a0 a1 a2|_=>false
inductive JBo(k:W9->(List Expr)->Pos->Bool):Expr->Prop|mk a0 a1 a2 (h:k a0 a1 a2=true):JBo k (.BoolOp a0 a1 a2)
theorem ofBo(h:kBo e k=true):JBo k e:=by cases e<;>first | exact noT h | exact⟨_,_,_,h⟩
def kIf(e:Expr)(k:Expr->Expr->Expr->Pos->Bool):Bool:=match e with|.IfExp a0 a1 a2 a3=>k a0 a1 a2 a3|_=>false
inductive JIf(k:Expr->Expr->Expr->Pos->Bool):Expr->Prop|mk a0 a1 a2 a3 (h:k a0 a1 a2 a3=true):JIf k (.IfExp a0 a1 a2 a3)
theorem ofIf(h:kIf e k=true):JIf k e:=by cases e<;>first | exact noT h | exact⟨_,_,_,_,h⟩
def kTu(e:Expr)(k:(List Expr)->Nat->Pos->Bool):Bool:=match e with|.Tuple a0 a1 a2=>k a0 a1 a2|_=>false
inductive JTu(k:(List Expr)->Nat->Pos->Bool):Expr->Prop|mk a0 a1 a2 (h:k a0 a1 a2=true):JTu k (.Tuple a0 a1 a2)
theorem ofTu(h:kTu e k=true):JTu k e:=by cases e<;>first | exact noT h | exact⟨_,_,_,h⟩
def kSu(e:Expr)(k:Expr->Expr->Pos->Bool):Bool:=match e with|.Subscript a0 a1 a2=>k a0 a1 a2|_=>false
inductive JSu(k:Expr->Expr->Pos->Bool):Expr->Prop|mk a0 a1 a2 (h:k a0 a1 a2=true):JSu k (.Subscript a0 a1 a2)
theorem ofSu(h:kSu e k=true):JSu k e:=by cases e<;>first | exact noT h | exact⟨_,_,_,h⟩
def kSl(e:Expr)(k:(Option Expr)->(Option Expr)->(Option Expr)->Pos->Bool):Bool:=match e with|.Slice a0 a1 a2 a3=>k a0 a1 a2 a3|_=>false
inductive JSl(k:(Option Expr)->(Option Expr)->(Option Expr)->Pos->Bool):Expr->Prop|mk a0 a1 a2 a3 (h:k a0 a1 a2 a3=true):JSl k (.Slice a0 a1 a2 a3)
theorem ofSl(h:kSl e k=true):JSl k e:=by cases e<;>first | exact noT h | exact⟨_,_,_,_,h⟩
def kAt(e:Expr)(k:Expr->Str->Pos->Bool):Bool:=match e with|.Attribute a0 a1 a2=>k a0 a1 a2|_=>false
inductive JAt(k:Expr->Str->Pos->Bool):Expr->Prop|mk a0 a1 a2 (h:k a0 a1 a2=true):JAt k (.Attribute a0 a1 a2)
theorem ofAt(h:kAt e k=true):JAt k e:=by cases e<;>first | exact noT h | exact⟨_,_,_,h⟩
def kLC(e:Expr)(k:Expr->(List Comprehension)->Scope->Pos->Bool):Bool:=match e with|.ListComp a0 a1 a2 a3=>k a0 a1 a2 a3|_=>false
inductive JLC(k:Expr->(List Comprehension)->Scope->Pos->Bool):Expr->Prop|mk a0 a1 a2 a3 (h:k a0 a1 a2 a3=true):JLC k (.ListComp a0 a1 a2 a3)
theorem ofLC(h:kLC e k=true):JLC k e:=by cases e<;>first | exact noT h | exact⟨_,_,_,_,h⟩
def kLi(e:Expr)(k:(List Expr)->Pos->Bool):Bool:=match e with|.List a0 a1=>k a0 a1|_=>false
inductive JLi(k:(List Expr)->Pos->Bool):Expr->Prop|mk a0 a1 (h:k a0 a1=true):JLi k (.List a0 a1)
theorem ofLi(h:kLi e k=true):JLi k e:=by cases e<;>first | exact noT h | exact⟨_,_,h⟩
def kDi(e:Expr)(k:(List (Option Expr))->(List Expr)->Pos->Bool):Bool:=match e with|.Dict a0 a1 a2=>k a0 a1 a2|_=>false
inductive JDi(k:(List (Option Expr))->(List Expr)->Pos->Bool):Expr->Prop|mk a0 a1 a2 (h:k a0 a1 a2=true):JDi k (.Dict a0 a1 a2)
theorem ofDi(h:kDi e k=true):JDi k e:=by cases e<;>first | exact noT h | exact⟨_,_,_,h⟩
def kAs(e:Stmt)(k:(List Expr)->Expr->Pos->Bool):Bool:=match e with|.Assign a0 a1 a2=>k a0 a1 a2|_=>false
inductive JAs(k:(List Expr)->Expr->Pos->Bool):Stmt->Prop|mk a0 a1 a2 (h:k a0 a1 a2=true):JAs k (.Assign a0 a1 a2)
theorem ofAs(h:kAs e k=true):JAs k e:=by cases e<;>first | exact noT h | exact⟨_,_,_,h⟩
def kEx(e:Stmt)(k:Expr->Pos->Bool):Bool:=match e with|.Expr a0 a1=>k a0 a1|_=>false
inductive JEx(k:Expr->Pos->Bool):Stmt->Prop|mk a0 a1 (h:k a0 a1=true):JEx k (.Expr a0 a1)
theorem ofEx(h:kEx e k=true):JEx k e:=by cases e<;>first | exact noT h | exact⟨_,_,h⟩
def kIfS(e:Stmt)(k:Expr->(List Stmt)->(List Stmt)->Pos->Bool):Bool:=match e with|.If a0 a1 a2 a3=>k a0 a1 a2 a3|_=>false
inductive JIfS(k:Expr->(List Stmt)->(List Stmt)->Pos->Bool):Stmt->Prop|mk a0 a1 a2 a3 (h:k a0 a1 a2 a3=true):JIfS k (.If a0 a1 a2 a3)
theorem zvV(h:kIfS e k=true):JIfS k e:=by cases e<;>first | exact noT h | exact⟨_,_,_,_,h⟩
def kFo(e:Stmt)(k:Expr->Expr->(List Stmt)->(List Stmt)->Pos->Bool):Bool:=match e with|.For a0 a1 a2 a3 a4=>k a0 a1 a2 a3 a4|_=>false
inductive JFo(k:Expr->Expr->(List Stmt)->(List Stmt)->Pos->Bool):Stmt->Prop|mk a0 a1 a2 a3 a4 (h:k a0 a1 a2 a3 a4=true):JFo k (.For a0 a1 a2 a3 a4)
theorem ofFo(h:kFo e k=true):JFo k e:=by cases e<;>first | exact noT h | exact⟨_,_,_,_,_,h⟩
def kRe(e:Stmt)(k:(Option Expr)->Pos->Bool):Bool:=match e with|.Return a0 a1=>k a0 a1|_=>false
inductive JRe(k:(Option Expr)->Pos->Bool):Stmt->Prop|mk a0 a1 (h:k a0 a1=true):JRe k (.Return a0 a1)
theorem ofRe(h:kRe e k=true):JRe k e:=by cases e<;>first | exact noT h | exact⟨_,_,h⟩
def kWh(e:Stmt)(k:Expr->(List Stmt)->(List Stmt)->Pos->Bool):Bool:=match e with|.While a0 a1 a2 a3=>k a0 a1 a2 a3|_=>false
inductive JWh(k:Expr->(List Stmt)->(List Stmt)->Pos->Bool):Stmt->Prop|mk a0 a1 a2 a3 (h:k a0 a1 a2 a3=true):JWh k (.While a0 a1 a2 a3)
theorem ofWh(h:kWh e k=true):JWh k e:=by cases e<;>first | exact noT h | exact⟨_,_,_,_,h⟩
def kBr(e:Stmt)(k:Pos->Bool):Bool:=match e with|.Break a0=>k a0|_=>false
inductive JBr(k:Pos->Bool):Stmt->Prop|mk a0 (h:k a0=true):JBr k (.Break a0)
theorem ofBr(h:kBr e k=true):JBr k e:=by cases e<;>first | exact noT h | exact⟨_,h⟩
def kCt(e:Stmt)(k:Pos->Bool):Bool:=match e with|.Continue a0=>k a0|_=>false
inductive JCt(k:Pos->Bool):Stmt->Prop|mk a0 (h:k a0=true):JCt k (.Continue a0)
theorem ofCt(h:kCt e k=true):JCt k e:=by cases e<;>first | exact noT h | exact⟨_,h⟩
def kUS(e:XA)(k:Bool):Bool:=match e with|.USub=>k|_=>false
inductive JUS(k:Bool):XA->Prop|mk  (h:k=true):JUS k .USub
theorem ofUS(h:kUS e k=true):JUS k e:=by cases e<;>first | exact noT h | exact⟨h⟩
def kNo(e:XA)(k:Bool):Bool:=match e with|.Not=>k|_=>false
inductive JNo(k:Bool):XA->Prop|mk  (h:k=true):JNo k .Not
theorem ofNo(h:kNo e k=true):JNo k e:=by cases e<;>first | exact noT h | exact⟨h⟩
def kAn(e:W9)(k:Bool):Bool:=match e with|.And=>k|_=>false
inductive JAn(k:Bool):W9->Prop|mk  (h:k=true):JAn k .And
theorem ofAn(h:kAn e k=true):JAn k e:=by cases e<;>first | exact noT h | exact⟨h⟩
def kOr(e:W9)(k:Bool):Bool:=match e with|.Or=>k|_=>false
inductive JOr(k:Bool):W9->Prop|mk  (h:k=true):JOr k .Or
theorem ofOr(h:kOr e k=true):JOr k e:=by cases e<;>first | exact noT h | exact⟨h⟩
def kAd(e:Wh)(k:Bool):Bool:=match e with|.Add=>k|_=>false
inductive JAd(k:Bool):Wh->Prop|mk  (h:k=true):JAd k .Add
theorem ofAd(h:kAd e k=true):JAd k e:=by cases e<;>first | exact noT h | exact⟨h⟩
def kNil{α:Type}(l:List α)(b:Bool):Bool:=match l with| []=>b|_::_=>false
inductive JNil{α:Type}(b:Bool):List α->Prop|mk (h:b=true):JNil b []
theorem zpm(h:kNil l b=true):JNil b l:=by
 cases l with|nil=>exact⟨h⟩|cons _ _=>exact noT h
def zci{α:Type}(l:List α)(k:α->List α->Bool):Bool:=match l with| []=>false|v::vs=>k v vs
inductive zvc{α:Type}(k:α->List α->Bool):List α->Prop|mk (v:α) (vs:List α) (h:k v vs=true):zvc k (v::vs)
theorem zbc(h:zci l k=true):zvc k l:=by
 cases l with|nil=>exact noT h|cons _ _=>exact⟨_,_,h⟩
def kOne{α:Type}(l:List α)(k:α->Bool):Bool:=zci l λv vs=>kNil vs (k v)
inductive JOne{α:Type}(k:α->Bool):List α->Prop|mk (v:α) (h:k v=true):JOne k [v]
theorem zaL(h:kOne l k=true):JOne k l:=by obtain⟨v,vs,h⟩:=zbc h;obtain⟨h⟩:=zpm h;exact⟨_,h⟩
def zsc{α:Type}(o:Option α)(b:Bool):Bool:=match o with|none=>b|some _=>false
inductive zus{α:Type}(b:Bool):Option α->Prop|mk (h:b=true):zus b none
theorem zqI(h:zsc o b=true):zus b o:=by
 cases o with|none=>exact⟨h⟩|some _=>exact noT h
def zsr{α:Type}(o:Option α)(k:α->Bool):Bool:=match o with|none=>false|some v=>k v
inductive ztW{α:Type}(k:α->Bool):Option α->Prop|mk (v:α) (h:k v=true):ztW k (some v)
theorem zqu(h:zsr o k=true):ztW k o:=by
 cases o with|none=>exact noT h|some _=>exact⟨_,h⟩
mutual
noncomputable def chkE:E->Cst->Expr->Bool
 |.con d,_,e=>kCo e λc _ _=>(conB d c)
 |.var i,C,e=>kNm e λx _=>(C.N[i]?==some x&&visB C x&&zba x)
 |.bin o a b,C,e=>kBi e λl op r _=>(boB o op&&chkE a C l&&chkE b C r)
 |.neg a,C,e=>kUn e λz5 x _=>kUS z5 ((chkE a C x))
 |.cmp o a b,C,e=>kCm e λl z7 z9 _=>kOne z7 λop=>kOne z9 λr=>(coB o op&&chkE a C l&&chkE b C r&&!ziJ r)
 |.and a b,C,e=>kBo e λz12 z13 pos=>kAn z12 (zci z13 λv z14=>zci z14 λw rest=>(chkE a C v&&(match rest with | []=>chkE b C w | y::ys=>chkE b C (.BoolOp .And (w::y::ys) pos))))
 |.or a b,C,e=>kBo e λz16 z17 pos=>kOr z16 (zci z17 λv z18=>zci z18 λw rest=>(chkE a C v&&(match rest with | []=>chkE b C w | y::ys=>chkE b C (.BoolOp .Or (w::y::ys) pos))))
 |.not a,C,e=>kUn e λz20 x _=>kNo z20 ((chkE a C x))
 |.ife c a b,C,e=>kIf e λt x y _=>(chkT c C t&&chkE a C x&&chkE b C y)
 |.tup es,C,e=>kTu e λxs _ _=>(chkEs es C xs&&decide (xs.length<=1000))
 |.lst _ l,C,e=>chkL l C e
 |.idx a i,C,e=>kSu e λx y _=>(chkE a C x&&chkE i C y&&!zdc y)
 |.sli a lo hi,C,e=>kSu e λx z25 _=>kSl z25 λl u z26 _=>zsc z26 ((chkE a C x&&(match l with | none=>zeJ lo | some y=>chkE lo C y)&&(match u with | none=>zeJ hi | some y=>chkE hi C y)))
 |.call f es,C,e=>kCN e λx _ z29 _=>zci z29 λv vs=>((match C.fns[f]? with | some p=>p.1==x | none=>false)&&zcp C x&&zba x&&chkEs es C (v::vs))
 |.bi b es,C,e=>kCN e λx _ z33 _=>zci z33 λv vs=>((biOn b&&x==biS b)&&zcp C x&&chkEs es C (v::vs))
 |.me m o es,C,e=>kCA e λov name apos vs cpos=>(match vs with
  |v::vs=>(!me0 m&&meOn m)&&name==meS m&&znb ov&&chkE o C ov&&chkEs es C (v::vs)&&apos.endLine==cpos.line&&decide ((v::vs).length<20)
  | []=>(me0 m&&meOn m)&&name==meS m&&znb ov&&chkE o C ov&&chkEs es C []&&apos.endLine==cpos.line)
 |.glo d,C,e=>kNm e λx _=>((match C.globs.lookup x with | some d'=>D.same d d' | none=>false)&&zcp C x&&zba x)
 |.isi t a,C,e=>kCN e λx _ z48 _=>zci z48 λv z49=>kOne z49 λz50=>kNm z50 λy _=>(x==("isinstance":Str)&&zcp C x&&zal v&&chkE a C v&&y==YH (tyS t)&&zcp C y)
 |.lm m o a,C,e=>kCA e λov name apos z59 cpos=>kOne z59 λv=>(name==lmS m&&zrc ov&&chkE o C ov&&zal v&&chkE a C v&&apos.endLine==cpos.line)
 |.fld o f,C,e=>kAt e λov name _=>(name==f&&zrc ov&&chkE o C ov)
 |.make c f es,C,e=>kCN e λx _ z71 _=>zci z71 λv vs=>(x==c&&(C.cls.any λi=>i.name==c&&i.init==f)&&zcp C x&&zba x&&chkEs es C (v::vs))
 |.mc c m f o es,C,e=>kCA e λov name apos vs cpos=>(match vs with
  |v::vs=>name==m&&(C.cls.any λi=>i.name==c&&i.meths.contains (m,f))&&ziM ov&&chkE o C ov&&chkEs es C (v::vs)&&apos.endLine==cpos.line&&decide ((v::vs).length<20)
  | []=>name==m&&(C.cls.any λi=>i.name==c&&i.meths.contains (m,f))&&ziM ov&&chkE o C ov&&chkEs es C []&&apos.endLine==cpos.line)
 | .lstO tg it cs el,C,e=>kLC e λelt z74 sc _=>kOne z74 λg=>(g.is_async==0&&!ziJ g.iter&&zkY C sc (blkC C sc (zbp tg g.target)) tg.slots&&(zeH (blkC C sc (zbp tg g.target)) tg g.target&&enuB it g.target)&&chkI it C g.iter
    && chkTs cs (blkC C sc (zbp tg g.target)) g.ifs&&chkE el (blkC C sc (zbp tg g.target)) elt)
 |.oix a i,C,e=>kSu e λx y _=>(chkE a C x&&chkE i C y&&!zdc y)
 |.olen a,C,e=>kCN e λx _ z79 _=>kOne z79 λv=>(x==("len":Str)&&zcp C x&&zal v&&chkE a C v)
 |.call0 f,C,e=>kCN e λx _ z84 _=>kNil z84 (((match C.fns[f]? with | some p=>p.1==x | none=>false)&&zcp C x&&zba x))
 |.din neg k d,C,e=>kCm e λl z95 z97 _=>kOne z95 λop=>kOne z97 λr=>(inB neg op&&chkE k C l&&chkE d C r&&!ziJ r)
 |.ddx d k,C,e=>kSu e λx y _=>(chkE d C x&&chkE k C y&&!zdc y)
 |.dn1 k v,C,e=>kDi e λz1 z2 _=>kOne z1 λz3=>zsr z3 λx=>kOne z2 λy=>(chkE k C x&&chkE v C y)
 |.tpl a b c,C,e=>kTu e λz1 _ _=>zci z1 λx z2=>zci z2 λy z3=>kOne z3 λz=>(zal x&&zal y&&zal z&&chkE a C x&&chkE b C y&&chkE c C z)
 |.tix a k,C,e=>kSu e λx y _=>kCo y λc _ _=>(chkE a C x&&conB (.int k) c)
 |.ist a,C,e=>kCN e λx _ z48 _=>zci z48 λv z49=>kOne z49 λz50=>kNm z50 λy _=>(x==("isinstance":Str)&&zcp C x&&zal v&&chkE a C v&&y==YH (tyS .tuple)&&zcp C y)
 |.tne a b,C,e=>kCm e λl z7 z9 _=>kOne z7 λop=>kOne z9 λr=>(coB .ne op&&chkE a C l&&chkE b C r&&!ziJ r)
 |.callk f es k d,C,e=>kCK e λx z1 y c=>zci z1 λv z2=>kOne z2 λu=>((match C.fns[f]? with | some p=>p.1==x&&p.2.1==4 | none=>false)&&(match kwOf x with | some p=>p.1==y&&D.same p.2 d | none=>false)&&zcp C x&&zba x&&chkEs es C [v,u]&&chkE k C c)
 |.stuck,_,_=>true
noncomputable def chkEs:List E->Cst->List Expr->Bool
 | [],_,es=>match es with
  | []=>true|_=>false
 |a::as,C,es=>match es with
  |e::es=>zal e&&chkE a C e&&chkEs as C es| []=>false
noncomputable def chkT:T->Cst->Expr->Bool
 |.val a,C,e=>chkE a C e&&(zfe e||zl0 e)
 |.and a b,C,e=>kBo e λz108 z109 pos=>kAn z108 (zci z109 λv z110=>zci z110 λw rest=>(chkT a C v&&(match rest with | []=>chkT b C w | y::ys=>chkT b C (.BoolOp .And (w::y::ys) pos))))
 |.or a b,C,e=>kBo e λz112 z113 pos=>kOr z112 (zci z113 λv z114=>zci z114 λw rest=>(chkT a C v&&(match rest with | []=>chkT b C w | y::ys=>chkT b C (.BoolOp .Or (w::y::ys) pos))))
 |.not a,C,e=>kUn e λz116 x _=>kNo z116 ((chkT a C x))
noncomputable def chkTs:List T->Cst->List Expr->Bool
 | [],_,es=>match es with
  | []=>true|_=>false
 |t::ts,C,es=>match es with
  |e::es=>chkT t C e&&chkTs ts C es&&es.isEmpty| []=>false
noncomputable def chkL:L->Cst->Expr->Bool
 |.disp es,C,e=>kLi e λxs _=>(chkEs es C xs&&decide (xs.length<=1000))
 | .comp tg it cs el,C,e=>kLC e λelt z119 sc _=>kOne z119 λg=>(g.is_async==0&&!ziJ g.iter&&zkY C sc (blkC C sc (zbp tg g.target)) tg.slots&&(zeH (blkC C sc (zbp tg g.target)) tg g.target&&enuB it g.target)&&chkI it C g.iter
    && chkTs cs (blkC C sc (zbp tg g.target)) g.ifs&&chkE el (blkC C sc (zbp tg g.target)) elt)
 |.of a,C,e=>kCN e λx _ z123 _=>kOne z123 λv=>(x==("list":Str)&&zcp C x&&zal v&&chkE a C v)
 |.cat a b,C,e=>kBi e λl z132 r _=>kAd z132 ((chkE a C l&&chkE b C r))
 |.rvd a,C,e=>kCN e λx _ z123 _=>kOne z123 λv=>kCN v λy _ z124 _=>kOne z124 λu=>(x==("list":Str)&&zcp C x&&y==("reversed":Str)&&zcp C y&&zal u&&chkE a C u)
noncomputable def chkI:I->Cst->Expr->Bool
 |.seq a,C,e=>chkE a C e
 |.rng a,C,e=>kCN e λx _ z169 _=>kOne z169 λv=>(x==("range":Str)&&zcp C x&&zal v&&chkE a C v)
 |.enu a,C,e=>kCN e λx _ z180 _=>kOne z180 λv=>(x==("enumerate":Str)&&zcp C x&&zal v&&chkE a C v)
end
def zez:Expr->Bool|.ListComp _ _ _ _=>true|.SetComp _ _ _ _=>true|.DictComp _ _ _ _ _=>true|_=>false
def zmw:E->Bool|.lstO _ _ _ _=>true|_=>false
def zd7:Expr->Bool|.Tuple _ _ _=>true|.List _ _=>true|_=>false
mutual
noncomputable def chkS:S->Cst->Stmt->Bool
 |.asg tg a,C,st=>kAs st λz184 v pos=>kOne z184 λt=>(zeH C tg t&&zal t&&chkE a C v&&!(zd7 t&&zd7 v)&&(!zez v||(zez v&&ziM t&&!zmw a)))
 |.setI o i a,C,st=>kAs st λz187 v _=>kOne z187 λz188=>kSu z188 λov iv _=>(chkE a C v&&chkE o C ov&&chkE i C iv&&!zez v&&!zdc iv)
 |.setF o f a,C,st=>kAs st λz191 v _=>kOne z191 λz192=>kAt z192 λov name _=>(name==f&&chkE a C v&&chkE o C ov)
 |.setN c o f a,C,st=>kAs st λz195 v _=>kOne z195 λz196=>kAt z196 λov name _=>(name==f&&(C.cls.any λi=>i.name==c&&i.fields.contains f)&&chkE a C v&&chkE o C ov)
 |.exp a,C,st=>kEx st λv _=>(chkE a C v&&!zez v)
 |.ife c a b,C,st=>kIfS st λt x y _=>(chkT c C t&&chkSs a C x&&chkSs b C y)
 |.for tg it body,C,st=>kFo st λt iter b z201 _=>kNil z201 (((zeH C tg t&&enuB it t)&&chkI it C iter&&chkSs body C b&&!ziJ iter))
 |.ret a,C,st=>kRe st λz203 _=>zsr z203 λv=>(chkE a C v)
 |.retN,_,st=>kRe st λz205 _=>zsc z205 ((true))
 |.brk,_,st=>kBr st λ_=>(true)
 |.cnt,_,st=>kCt st λ_=>(true)
 |.whl c b,C,st=>kWh st λt x z210 _=>kNil z210 ((chkT c C t&&chkSs b C x))
 |.setD o i a,C,st=>kAs st λz212 v _=>kOne z212 λz213=>kSu z213 λov iv _=>(chkE a C v&&chkE o C ov&&chkE i C iv&&!zez v&&!zdc iv)
 |.stuck,_,_=>true
noncomputable def chkSs:List S->Cst->List Stmt->Bool
 | [],_,sts=>match sts with
  | []=>true|_=>false
 |s::ss,C,sts=>match sts with
  |st::sts=>chkS s C st&&chkSs ss C sts| []=>false
end
end IT
namespace IT
open PySem PySem.Spec L2
def zcG:List Str:=["len", "tuple", "int", "range", "all", "any", "list", "isinstance", "enumerate", "reversed"]
structure Good(Γ:Calls)(n:Nat)(C:Cst)(X:Cx):Prop where
 nox:X.xe=λ_ _=>False
 calm:X.calm=true
 room:Room n X.A
 room1:Room (n+1) X.A
 kind:X.env.scope.kind=.function
 N:X.N=C.N
 nd:X.N.Nodup
 names:X.env.scope.names=C.names
 fn:C.top=true->∀x,X.fn x=true
 funs:∀(f:Nat) (p:Str×Nat×List D),C.fns[f]?=some p->zpA X n p.1 p.2.1 p.2.2 (Γ f)
 blt:∀x∈zcG,X.mg x=none
 glob:∀(x:Str) (d:D),C.globs.lookup x=some d->∃u v,X.mg x=some u/\RelV v u/\∀A H,RepD X.K A H d v
 makes:∀i∈C.cls,∃np,zqQ X n i.name np (Γ i.init)
 meths:∀i∈C.cls,∀p∈i.meths,∃np,zn3 X n i.name p.1 np (Γ p.2)
 attrs:∀i∈C.cls,∀f∈i.fields,∀A,ZI X.K ZQ i.name=some (some (.ref A))->zbX X.K A f
theorem zak(h:zal e=true):ZW (e::es) env=(false,eval e env)::ZW es env:=by cases e<;>first | rfl | (first | exact noT h | exact noF h)
theorem zcE:∀{as:List E} {C:Cst} {es:List Expr},chkEs as C es=true->as.length=es.length| [],C,[],_=>rfl| [],C,_::_,h=>noT h|a::as,C,[],h=>noT h|a::as,C,e::es,h=>by change ((zal _&&chkE _ _ _)&&chkEs _ _ _)=true at h;simp only[Z8] at h;simp[zcE h.2]
theorem za4:∀{as:List E} {C:Cst} {es:List Expr},chkEs as C es=true->∀e∈es,zal e=true
 | [],C,[],_,e,he=>by simp at he| [],C,_::_,h,_,_=>noT h|a::as,C,[],h,_,_=>noT h
 |a::as,C,e::es,h,x,hx=>by
  change ((zal _&&chkE _ _ _)&&chkEs _ _ _)=true at h;simp only[Z8] at h
  rcases ZP.mp hx with rfl | hx
  ·exact h.1.1
  ·exact za4 h.2 x hx
theorem zbC:∀{es:List Expr},(∀e∈es,zal e=true)->(backTo pos (ZW es env)).any (·.1)=false| [],_=>rfl| e::es,h=>by rw[zak (h e (by simp))];show(false||(backTo pos (ZW es env)).any (·.1))=false;rw[zbC λx hx=>h x (by simp[hx])];rfl
theorem zko:∀{es:List Expr},(∀e∈es,zal e=true)->(backTo pos (ZW es env)).all (λx=>!x.1)=true| [],_=>rfl|e::es,h=>by rw[zak (h e (by simp))];show(true&&(backTo pos (ZW es env)).all (λx=>!x.1))=true;rw[zko λx hx=>h x (by simp[hx])];rfl
theorem zfp:∀{es:List E} {σ:IT.Env} {h h':Sto} {rs:List R},evs Γ es σ h=some (rs,h')->rs.length=es.length
 | [],σ,h,h',rs,e=>by
  simp only[evs,zac] at e
  rw[<-e.1];rfl
 |a::as,σ,h,h',rs,e=>by simp only[evs,zab,zac] at e;obtain⟨r,h1,e1,rs',h2,e2,rfl,rfl⟩:=e;simp[zfp e2]
section
variable {Γ:Calls}{n:Nat}{C:Cst}{X:Cx}{x:Str}
theorem zt3(G:Good Γ n C X)(h:visB C x=true):Vis X.env.scope x:=by
 unfold visB at h;unfold Vis;rw[G.names]
 split at h
 ·rename_i e;exact .inl e
 ·rename_i e;exact .inr (.inl e)
 ·rename_i e;exact .inr (.inr e)
 ·cases h
theorem zqs(G:Good Γ n C X)(h:locB C x=true):Loc X.env.scope x/\(X.fn x=true\/X.env.scope.names.lookup x=some .local):=by
 unfold locB at h;unfold L2.Loc;rw[G.names]
 split at h
 ·rename_i e;exact⟨.inl e,.inr e⟩
 ·rename_i e;exact⟨.inr e,.inl (G.fn h x)⟩
 ·cases h
theorem zcQ(G:Good Γ n C X)(h:zcp C x=true):Gl X x:=by
 unfold zcp at h;show X.env.scope.names.lookup x=_;rw[G.names]
 split at h
 ·rename_i e;exact e
 ·cases h
theorem zcF(h:zba x=true):(x==("__debug__":Str))=false/\(x==("__classdict__":Str))=false:=by
 unfold zba at h
 simpa using h
end
theorem opB(h:boB o op=true):OpD X (YT op) (bop o):=by cases o<;>cases op<;>first | (exact noT h) | exact zsG | exact zrh | exact zsq | exact zpl | exact zrM | exact zpk | exact zq8
theorem coBe(hu:X.A.units+64<cLine)(h:coB o op=true):OpD X (Zg op) (cop o):=by cases o<;>cases op<;>first | (exact noT h) | exact zve hu | exact zuv hu | exact zto | exact zuc | exact ztQ | exact zu9 | exact zp8 hu | exact zlZ hu | exact zrA | exact zlx
theorem zug(h:cop o x y=some z):∃t,z=.bl t:=by
 cases o with
 |eq=>(change (if _ then _ else _)=_ at h;split at h;exact⟨_,(ZZ h).symm⟩;exact zae h)|ne=>(change (if _ then _ else _)=_ at h;split at h;exact⟨_,(ZZ h).symm⟩;exact zae h)
 |isin=>
  (delta cop at h;dsimp only at h)
  cases e:items y with|none=>rw[e] at h;exact zae h|some xs=>rw[e] at h;dsimp only at h;split at h;exact⟨_,(ZZ h).symm⟩;exact zae h
 |notin=>
  (delta cop at h;dsimp only at h)
  cases e:items y with|none=>rw[e] at h;exact zae h|some xs=>rw[e] at h;dsimp only at h;split at h;exact⟨_,(ZZ h).symm⟩;exact zae h
 |_=>cases x<;>cases y<;>first | exact zae h | exact⟨_,(ZZ h).symm⟩
theorem zwn(e:mD (cop o) x y h=some (r,h')):∃t,r=.d (.bl t):=by simp only[mD,zab,zac,zay] at e;obtain⟨dx,h1,e1,dy,h2,e2,z,h3,⟨e3,_⟩,rfl,_⟩:=e;obtain⟨t,rfl⟩:=zug e3;exact⟨t,rfl⟩
theorem zkU(h:zfe e=true):∀whole,isTrue e env whole=(do let v<-whole;Xy e.pos;holding [v] (truthy v)):=by
 intro whole
 cases e with
 |UnaryOp op x p=>cases op<;>first | rfl | (first | exact noT h | exact noF h)
 |BoolOp _ _ _=>first | exact noT h | exact noF h
 |IfExp _ _ _ _=>first | exact noT h | exact noF h
 |Compare _ _ _ _=>first | exact noT h | exact noF h
 |_=>rfl
theorem zm8(h:zrc o=true):YQ o name env (eval o env)=eval o env:=by
 cases o with
 |Call f as ks p=>cases as<;>first | exact noT h | (cases f<;>rfl)
 |_=>rfl
theorem ziA(h:ziM o=true):YQ o name env (eval o env)=eval o env:=by cases o<;>first | rfl | (first | exact noT h | exact noF h)
theorem zop(h:znb o=true):YQ o name env (eval o env)=eval o env:=by cases o<;>first | rfl | (first | exact noT h | exact noF h)
theorem zhc(h:zdc e=false):zd2 e:=by
 intro o i
 cases e<;>first | rfl | (first | exact noT h | exact noF h)
theorem zjI(h:ziJ e=false):∀x,Yg e env x=pure x:=by
 intro x
 cases e<;>first | rfl | (first | exact noT h | exact noF h)
theorem zeb(h:ziJ e=false):Yt op e=false:=by cases e<;>first | rfl | (first | exact noT h | exact noF h)
theorem zjD(h:zez v=false):WW [t] v l env=pure false:=by cases v<;>first | rfl | (first | exact noT h | exact noF h)
theorem zpT(h:zez v=false):Xq v none l env=pure false:=by cases v<;>first | rfl | (first | exact noT h | exact noF h)
theorem zdM(h:(zd7 t&&zd7 v)=false):WV [t] v env=pure none:=by
 cases t with
 |Tuple a b c=>cases v<;>first | rfl | (first | exact noT h | exact noF h)
 |List a b=>cases v<;>first | rfl | (first | exact noT h | exact noF h)
 |_=>rfl
theorem zhq(h:zal t=true):(Zn [t] env).map (·.2)=[assign t env]:=by cases t<;>first | rfl | (first | exact noT h | exact noF h)
theorem zeP(h:zal t=true):Zn (t::ts) env=(false,assign t env)::Zn ts env:=by cases t<;>first | rfl | (first | exact noT h | exact noF h)
theorem zjr:∀{ts:List Expr},(∀e∈ts,zal e=true)->(Zn ts env).length=ts.length/\(Zn ts env).findIdx? (·.1)=none
 | [],_=>⟨rfl,rfl⟩
 |t::ts,h=>by obtain⟨h1,h2⟩:=zjr (env:=env) (ts:=ts) λx hx=>h x (by simp[hx]);rw[zeP (h t (by simp))];refine⟨by simp[h1],?_⟩;rw[List.findIdx?_cons];simp[h2]
theorem znk(h:zdc i=false)(v:Value):assign (.Subscript o i p) env v=(do let ov<-holding [v] (eval o env);let iv<-holding [v,ov] (eval i env);Xy p;holding [v,ov,iv] (setItem ov iv v);release [v,ov,iv] []):=by cases i<;>first | rfl | (first | exact noT h | exact noF h)
theorem zqw(h:conB d c=true):IE X (.Constant c k pos) (λ_=>ok (.d d)):=by
 cases d with
 |non=>cases c<;>first | (exact noT h) | exact ziT zti (by intro _ _;simp only[RepD])
 |bl b=>
  cases c with|bool c=>obtain rfl:=ZV h;exact ziT zww (by intro _ _;simp only[RepD])|_=>exact noT h
 |int b=>
  cases c with|int c=>obtain rfl:=ZV h;exact ziT zt6 (by intro _ _;simp only[RepD])|_=>exact noT h
 |str b=>
  cases c with|str c=>obtain rfl:=ZV h;exact ziT zuq (by intro _ _;simp only[RepD])|_=>exact noT h
 |_=>cases c<;>exact noT h
theorem zjF:∀{ts:List Tg} {es:List Expr},chkTgs C ts es=true->(∀e∈es,zal e=true)/\es.length=ts.length
 | [],[],_=>⟨by simp,rfl⟩| [],_::_,h=>noT h|_::_,[],h=>noT h
 |t::ts,e::es,h=>by
  change ((zal _&&zeH _ _ _)&&chkTgs _ _ _)=true at h;simp only[Z8] at h;obtain⟨h1,h2⟩:=zjF h.2;refine⟨λx hx=>?_,by simp[h2]⟩
  rcases ZP.mp hx with rfl | hx
  ·exact h.1.1
  ·exact h1 x hx
mutual
theorem okTg{n:Nat}(G:Good Γ n C X):∀(t:Tg) (e:Expr),zeH C t e=true->PG X e (tG X.K t)
 | .name i,e,h=>by
  cases e with
  |Name x pos=>
   change (_&&locB C _)=true at h;simp only[Z8] at h;obtain⟨h1,h2⟩:=zqs G h.2
   exact zsb G.nd (by rw[G.N];exact ZV h.1) h1 h2
  |_=>exact noT h
 | .tup ts,e,h=>by
  cases e with|Tuple xs k pos=>have h:chkTgs C ts xs=true:=h;obtain⟨h1,h2⟩:=zjF h;obtain⟨h3,h4⟩:=zjr (env:=X.env) h1;exact zte G.calm (okTgs G ts xs h) h2 h3 h4|_=>exact noT h
theorem okTgs(G:Good Γ n C X):∀(ts:List Tg) (es:List Expr),chkTgs C ts es=true->PGs X es (tGs X.K ts)
 | [],es,h=>by
  cases es with|nil=>exact zss|cons _ _=>exact noT h
 | t::ts,es,h=>by
  cases es with
  |nil=>exact noT h
  |cons e es=>
   change ((zal _&&zeH _ _ _)&&chkTgs _ _ _)=true at h;simp only[Z8] at h
   exact zoR (okTg G t e h.1.2) (okTgs G ts es h.2) (by rw[zeP h.1.1];rfl)
end
theorem zra{n:Nat}(G:Good Γ n C X)(t:Tg)(e:Expr)(h:zeH C t e=true):PG X e (tGI X.K t):=by
 cases t with
 |name i=>exact zoV (okTg G _ _ h)
 | tup ts=>
  by_cases hl:ts.length=2
  ·match ts,hl,h with
   | [a,b],_,h=>
    cases e with
    | Tuple xs k pos=>
     have h:chkTgs C [a,b] xs=true:=h
     match xs,h with
     | [x,y],h=>
      obtain⟨h1,h2⟩:=zjF h;obtain⟨h3,h4⟩:=zjr (env:=X.env) h1;have hs:=okTgs G [a,b] [x,y] h;change (((zal _&&zeH _ _ _)&&((zal _&&zeH _ _ _)&&_))=true) at h;simp only[Z8] at h
      exact zrw G.calm hs (zv9 (okTg G a x h.1.2) (okTg G b y h.2.1.2) (by rw[zeP h.1.1];rfl) (by rw[zeP h.2.1.1];rfl)) h3 h4
     | [],h=>exact noT h| [_],h=>exact noT (andT h).2|_::_::_::_,h=>exact noT (andT (andT h).2).2
    |_=>exact noT h
  ·exact zrs hl (okTg G _ _ h)
theorem zhL(e:zbu r h=some (w,h')):WlOk w h':=by
 (delta zbu at e;simp only[zab] at e)
 obtain⟨o,h1,e1,e2⟩:=e;obtain⟨rfl,ho⟩:=zbW e1
 cases o with
 |some ls=>obtain⟨l,rfl,ho⟩:=ho;simp only[zac] at e2;obtain⟨rfl,rfl⟩:=e2;intro i hi;cases hi;exact⟨_,ho,λc fs z=>by cases z⟩
 | none=>
  simp only[zab] at e2;obtain⟨d,h2,e3,e4⟩:=e2
  cases r with
  |loc l=>
   obtain⟨o,ho,il,rfl,rfl⟩:=zgC e3
   (delta wkOf items at e4;(try dsimp only at e4);simp only[zac] at e4)
   obtain⟨rfl,rfl⟩:=e4;intro i hi;cases hi
   exact⟨o,ho,λc fs z=>by rw[z] at il;cases il⟩
  | d x=>
   have:w.l=none:=by
    (delta wkOf at e4;(try dsimp only at e4))
    cases hi:items d with|none=>rw[hi] at e4;cases e4|some xs=>rw[hi] at e4;obtain⟨rfl,rfl⟩:=zac.mp e4;rfl
   intro i hi;rw[this] at hi;cases hi
theorem zjb(e:evI Γ it σ h=some (w,h')):WlOk w h':=by
 cases it with
 |seq a=>simp only[evI,zab] at e;obtain⟨r,h1,e1,e2⟩:=e;exact zhL e2
 | enu a=>
  simp only[evI,zab] at e;obtain⟨r,h1,e1,e2⟩:=e;unfold zlF at e2
  split at e2
  ·simp only[zab] at e2
   obtain⟨w0,h2,e3,e4⟩:=e2
   have:=zhL e3
   cases en:zat 0 w0.xs with|none=>rw[en] at e4;cases e4|some l=>rw[en] at e4;obtain⟨rfl,rfl⟩:=zac.mp e4;exact this
  ·cases e2
 | rng a=>
  simp only[evI,zab] at e;obtain⟨r,h1,e1,e2⟩:=e
  (delta zhi at e2;(try dsimp only at e2))
  intro i el
  split at e2
  ·split at e2
   ·obtain⟨rfl,rfl⟩:=zac.mp e2;cases el
   ·cases e2
  ·cases e2
end IT
namespace IT
open PySem PySem.Spec L2
section
variable {Γ:Calls}{n:Nat}{C:Cst}{X:Cx}
theorem zh9(G:Good Γ n C X)(sc:Scope):(relabel sc X.env).names=relN C.names sc.names:=by
 unfold relabel relN;show sc.names.map _=sc.names.map _;refine List.map_congr_left λp _=>?_;obtain⟨m,k⟩:=p
 have e1:X.env.kindOf m=C.names.lookup m:=by show X.env.scope.names.lookup m=_;rw[G.names]
 simp only[G.kind,e1];have e2:(ScopeKind.function==ScopeKind.function)=true:=rfl;rw[e2,Wj]
theorem Good.blk(G:Good Γ n C X){os:List Nat}(h:zkY C sc (blkC C sc own) os=true)(cl:List (Str×Addr))(pins:List (Addr×Obj))(s₂:Shared)(H₂:Hp)(Cc:Addr)(fp:List Addr):
  Good Γ n (blkC C sc own) (blk X (blkC C sc own).N s₂ H₂ (Y5 sc cl Cc X.env) fp pins):=by
 unfold zkY at h;simp only[Z8] at h;obtain⟨⟨⟨⟨⟨⟨hk,_⟩,_⟩,_⟩,_⟩,_⟩,hnd⟩:=h
 refine⟨G.nox,G.calm,G.room,G.room1,?_,rfl,of_decide_eq_true hnd,zh9 G sc,λz=>absurd z (by show ¬(false=true);decide),λf x e=>⟨(G.funs f x e).ex,(G.funs f x e).fill,(G.funs f x e).len⟩,G.blt,G.glob,λi hi=>let ⟨np,z⟩:=G.makes i hi;⟨np,z.ex,z.len⟩,λi hi p hp=>let ⟨np,z⟩:=G.meths i hi p hp;⟨np,z.ex,z.len⟩,G.attrs⟩
 show(relabel sc X.env).kind=_
 have:sc.kind=.function:=by cases e:sc.kind<;>rw[e] at hk<;>first | rfl | (exact absurd hk (by decide))
 exact this
theorem zm7(G:Good Γ n C X){os:List Nat}(h:zkY C sc (blkC C sc own) os=true):zkl X sc (blkC C sc own).N os:=by
 unfold zkY at h;simp only[Z8] at h;obtain⟨⟨⟨⟨⟨⟨hk,hc⟩,hn⟩,hf⟩,hs⟩,hl⟩,hnd⟩:=h
 have ke:∀m,X.env.kindOf m=C.names.lookup m:=λm=>by show X.env.scope.names.lookup m=_;rw[G.names]
 refine⟨?_,?_,?_,?_,?_,?_⟩
 ·cases e:sc.kind<;>rw[e] at hk<;>first | rfl | (exact absurd hk (by decide))
 ·intro y hy z
  have:=YS.mp hc y hy
  rw[z] at this;exact absurd this (by decide)
 ·intro x hx z
  have:=YS.mp hn x hx
  rw[z] at this
  have e2:(X8.local != X8.local)=false:=by decide
  rw[e2,Bool.false_or] at this;exact ZV this
 ·intro x hx z
  have:=YS.mp hf x hx
  rw[z] at this
  have e2:(WU != WU)=false:=by decide
  rw[e2,Bool.false_or,YY] at this;rw[ke]
  rcases this with q | q
  ·exact .inl (ZV q)
  ·exact .inr (ZV q)
 ·intro i x e v
  have hi:i<(blkC C sc own).N.length:=(Z9.mp e).1
  have:=YS.mp hs i (by simpa using hi)
  rw[e] at this;simp only[zu0] at this;unfold Vis at v;rw[zh9 G sc] at v⊢;have en:(blkC C sc own).names=relN C.names sc.names:=rfl;rw[en] at this;rw[G.N,ke]
  rcases v with v | v | v
  ·rw [v] at this
   exact .inl (by simpa using this)
  ·rw [v] at this
   simp only[YY,Z8] at this
   rcases this with q|⟨q,q2⟩
   ·exact .inl (by simpa using q)
   ·refine .inr ⟨ZV q,?_,by rw[v];decide⟩
    rcases q2 with q2 | q2
    ·exact .inl (ZV q2)
    ·exact .inr (ZV q2)
  ·rw [v] at this
   simp only[YY,Z8] at this
   rcases this with q|⟨q,q2⟩
   ·exact .inl (by simpa using q)
   ·refine .inr ⟨ZV q,?_,by rw[v];decide⟩
    rcases q2 with q2 | q2
    ·exact .inl (ZV q2)
    ·exact .inr (ZV q2)
 ·rw [G.N]
  exact ZV hl
end
def zc0(Γ:Calls)(X:Cx)(tg:Tg)(it:I)(cs:List T)(el:E)(e:Expr):Prop:=
 ∃ elt gt gi gifs sc pos N',e=.ListComp elt [⟨gt,gi,gifs,0⟩] sc pos/\zkl X sc N' tg.slots/\PI X gt gi (tI X.K (evI Γ it)) ∧
  (∀cl pins s₂ H₂ C fp,PG (blk X N' s₂ H₂ (Y5 sc cl C X.env) fp pins) gt (tGI X.K tg)/\PTs (blk X N' s₂ H₂ (Y5 sc cl C X.env) fp pins) gifs (tTv X.K (tvs Γ cs))/\PE (blk X N' s₂ H₂ (Y5 sc cl C X.env) fp pins) elt (tE X.K (ev Γ el))) ∧
  ∀x,Yg gi X.env x=pure x
theorem zc0.read(q:tLs K (evL Γ (.comp tg it cs el)) σ H Q):zlv (tI K (evI Γ it)) tg.slots (tGI K tg) (tTv K (tvs Γ cs)) (tE K (ev Γ el)) σ H Q:=by
 have e:evL Γ (.comp tg it cs el)=λσ=>bnd (evI Γ it σ) λw=>zbz w.l (zuA tg (tvs Γ cs) (ev Γ el) σ) w.xs:=by
  funext σ
  rfl
 rw[e] at q;exact znQ (λσ h w h' e=>zjb e) q
theorem zc0.il(hx:X.xe=λ_ _=>False)(hc:X.calm=true)(h:zc0 Γ X tg it cs el e):IL X e (evL Γ (.comp tg it cs el)):=by obtain⟨elt,gt,gi,gifs,sc,pos,N',rfl,ok,hi,hB,hs⟩:=h;exact PE.imp (zm9 hx hc ok hi hB hs) λσ H Q q=>zc0.read q
theorem zc0.io(hx:X.xe=λ_ _=>False)(hc:X.calm=true)(h:zc0 Γ X tg it cs el e):IE X e (ev Γ (.lstO tg it cs el)):=by obtain⟨elt,gt,gi,gifs,sc,pos,N',rfl,ok,hi,hB,hs⟩:=h;refine PE.imp (zm9 hx hc ok hi hB hs) λσ H Q q0=>?_;refine zgk (zvQ X.K) (λσ h w h' e=>zjb e) ?_;obtain⟨μ,h,env,R0,re,r,h',e,k⟩:=q0;replace e:(bnd (evI Γ it env) λw=>bnd (zbz w.l (λx=>bnd (zaw tg x (clr tg.slots env)) λσ'=>bnd (tvs Γ cs σ') λt=>if t then bnd (ev Γ el σ') λr=>bnd (zbm r) λd=>IT.ok (some d) else IT.ok none) w.xs) λls=>allocO ls) h=some (r,h'):=e;simp only[zab,allocO,Z5,Z1] at e;obtain⟨w,h1,e1,ls,h2,e2,rfl,rfl⟩:=e;refine⟨μ,h,env,R0,re,ls,h2,zab.mpr ⟨w,h1,e1,e2⟩,λμ1 H1 a vs s1 R1 z ha=>?_⟩;have st:Stp μ1 h2 H1 (μ1++[a]) (h2++[.ols ls]) (upd H1 a (.lst vs)):=Stp.allocO R1 ha;refine k (μ1++[a]) _ (.ref a) (s1.trans st) (R1.allocO ha ⟨vs,zam,L2.Paired.mapP z λl v ⟨b,eb,ev⟩=>⟨b,st.pre l b eb,ev⟩⟩) ⟨a,?_,rfl⟩;rw[<-R1.len];simp
theorem zp2{m:Bool}(q:tE K (λσ=>bnd (fl σ) λxs=>if m then alloc xs else ok (.d (.lst xs))) σ H Q):tLs K fl σ H Q:=by
 obtain⟨μ,h,env,R0,re,r,h',e,k⟩:=q;simp only[zab] at e;obtain⟨xs,h1,e1,e2⟩:=e;refine⟨μ,h,env,R0,re,xs,h1,e1,λμ1 H1 a vs s1 R1 q1 ha=>?_⟩
 cases m with
 |true=>simp only[if_true,alloc,Z5,Z1] at e2;obtain⟨rfl,rfl⟩:=e2;refine k (μ1++[a]) _ (.ref a) (s1.trans (Stp.alloc R1 ha)) (R1.alloc ha q1) ⟨a,?_,rfl⟩;rw[<-R1.len];simp
 |false=>
  simp only[ZN,if_false] at e2;obtain⟨rfl,rfl⟩:=zac.mp e2;have s2:Stp μ1 h1 H1 μ1 h1 (upd H1 a (.lst vs)):=Stp.fresh ha;refine k μ1 _ (.ref a) (s1.trans s2) (R1.fresh ha) ?_;simp only[RepR,RepD];refine⟨a,vs,rfl,.inl ⟨λl=>?_,.inl zam⟩,RepDs.stp s2 R1 q1⟩;obtain⟨ws,z,_⟩:=R1.liveAt l
  rw[ha] at z;cases z
theorem tLs.imp(q:tLs K fl σ H Q)(i:∀v H,Q v H->Q' v H):tLs K fl σ H Q':=by obtain⟨μ,h,env,R0,re,xs,h',e,k⟩:=q;exact⟨μ,h,env,R0,re,xs,h',e,λμ' H' a vs s1 R1 q1 ha=>i _ _ (k μ' H' a vs s1 R1 q1 ha)⟩
theorem zle(q:tG K (.name i) v σ H Q):zqa i v σ H Q:=by obtain⟨μ,h,env,r,env',R0,re,qr,e,k⟩:=q;simp only[zaY,zac] at e;obtain⟨rfl,_⟩:=e;exact k _ (re.set i qr)
theorem zpS{D:Ends}(q:tS K (λσ=>bnd (f σ) λr=>bnd (zaY t r σ) λσ'=>ok (.nx,σ')) D σ H):tE K f σ H λx H1=>tG K t x σ H1 D.nx:=by
 obtain⟨μ,h,env,R0,re,fl,env',h',e,k⟩:=q;simp only[zab,zac,Z1] at e;obtain⟨r,h1,e1,env1,h2,e2,⟨rfl,rfl⟩,rfl⟩:=e
 have:=zbn _ _ _ _ _ _ e2
 subst this;exact⟨μ,h,env,R0,re,r,_,e1,λμ1 H1 v s1 R1 q1=>⟨μ1,_,env,r,env1,R1,re.stp s1 R0,q1,e2,λσ' re'=>k μ1 H1 σ' s1 R1 re'⟩⟩
def zqC:Expr->Bool|.BoolOp _ _ _=>true|_=>false
theorem zwa(G:Good Γ n C X)(ho:biOn b=true)(hx:x=biS b)(hg:Gl X x)(ha:IA X (e::es) fs)
  (he:ZW (e::es) X.env=(false,eval e X.env)::ZW es X.env) (hpl:(backTo pos (ZW es X.env)).any (·.1)=false):IE X (.Call (.Name x p) (e::es) [] pos) (λσ=>bnd (fs σ) λrs=>bnd (rds rs) λds=>bnd (opt (biD b ds)) λz=>ok (.d z)):=by
 subst hx
 cases b with
 |len=>exact PE.imp (zcH zlQ hg (G.blt _ (by decide)) PySem.boot_len ha (by decide) (by decide) he hpl) λσ H Q q=>zfa q
 |tuple=>exact PE.imp (ze4 zjC hg (G.blt _ (by decide)) PyProof.Rows.boot_tuple ha (by decide) (by decide) he hpl) λσ H Q q=>zfa q
 |all=>exact PE.imp (zcH (zfw G.calm true) hg (G.blt _ (by decide)) PyProof.Rows.boot_all ha (by decide) (by decide) he hpl) λσ H Q q=>zfa q
 |any=>exact PE.imp (zcH (zfw G.calm false) hg (G.blt _ (by decide)) PyProof.Rows.boot_any ha (by decide) (by decide) he hpl) λσ H Q q=>zfa q
 |int=>exact PE.imp (ze4 zmE hg (G.blt _ (by decide)) PyProof.Rows.boot_int ha (by decide) (by decide) he hpl) λσ H Q q=>zfa q
theorem zul{neg:Bool}{op:CmpOp}(h:inB neg op=true):op=if neg then .NotIn else .In:=by cases neg<;>cases op<;>first | rfl | exact noT h
theorem zum{op:CmpOp}(h:coB .ne op=true):op=.NotEq:=by cases op<;>first | rfl | exact noT h
theorem zjf{a:E}{C:Cst}{e:Expr}(h:chkT (.val a) C e=true):chkE a C e=true:=by change (_&&_)=true at h;rw[Z8] at h;exact h.1
theorem zhI{Γ:Calls}{a:E}{C:Cst}{e:Expr}{X:Cx}(k:IE X e (ev Γ a))(h:chkT (.val a) C e=true)(hn:∀l ops rs pos,e≠.Compare l ops rs pos):IT' X e (tv Γ (.val a))/\(zqC e=true->PW X e (tTv X.K (tv Γ (.val a)))):=by
 change (_&&(_||_))=true at h;rw[Z8,YY] at h
 have hp:zfe e=true:=by
  rcases h.2 with z | z
  ·exact z
  ·cases e<;>first | (exact noT z) | exact absurd rfl (hn _ _ _ _)
 refine⟨zu8 k (zkU hp),λz=>?_⟩
 cases e<;>first | (exact noT z) | (first | exact noT hp | exact noF hp)
theorem zny{vs:List Expr}{env:PySem.Env}{cpos:Pos}(st:∀y∈vs,zal y=true)(hl:vs.length<20):((backTo cpos (ZW vs env)).all (λx=>!x.1)&&(Yy cpos (Y9 [] env)).all (λx=>x.1.isSome)&&decide (vs.length+([]:List XU).length+(if([]:List XU).isEmpty then 0 else 1)<30))=true:=by rw[zko st];simp only[Xv,List.isEmpty_nil,if_true,Za,Z8];exact⟨rfl,decide_eq_true (by omega)⟩
mutual
theorem okE{Γ:Calls}{n:Nat}:∀(a:E) (C:Cst) (e:Expr) (X:Cx),chkE a C e=true->Good Γ n C X->IE X e (ev Γ a)
 |.con d,C,e,X,h,G=>by replace h:=ofCo h;obtain⟨c,k,pos,h⟩:=h;exact zqw (d:=d) h
 |.var i,C,e,X,h,G=>by
  replace h:=ofNm h;obtain⟨x,pos,h⟩:=h;simp only[Z8] at h;obtain⟨h1,h2⟩:=zcF h.2
  exact ztq (zuk (by rw[G.N];exact ZV h.1.1) (zt3 G h.1.2) h1 h2)
 |.bin o a b,C,e,X,h,G=>by replace h:=ofBi h;obtain⟨l,op,r,pos,h⟩:=h;simp only[Z8] at h;exact zu3 (m:=mD (bop o)) (OpD.opI (opB h.1.1)) (okE a C l X h.1.2 G) (okE b C r X h.2 G)|.neg a,C,e,X,h,G=>by replace h:=ofUn h;obtain⟨z220,x,p1_,h⟩:=h;replace h:=ofUS h;obtain⟨h⟩:=h;exact zuD (okE a C _ X h G)|.cmp o a b,C,e,X,h,G=>by replace h:=ofCm h;obtain⟨l,z222,z224,p3_,h⟩:=h;replace h:=zaL h;obtain⟨op,h⟩:=h;replace h:=zaL h;obtain⟨r,h⟩:=h;simp only[Z8,ZC] at h;exact zkm (m:=mD (cop o)) (OpD.opI (coBe G.room.units h.1.1.1)) (okE a C _ X h.1.1.2 G) (okE b C _ X h.1.2 G) (zeb h.2)
 |.and a b,C,e,X,h,G=>by
  replace h:=ofBo h;obtain⟨z227,z228,pos,h⟩:=h;replace h:=ofAn h;obtain⟨h⟩:=h;replace h:=zbc h;obtain⟨v,z229,h⟩:=h;replace h:=zbc h;obtain⟨w,rest,h⟩:=h;simp only[Z8] at h
  cases rest with|nil=>exact zq3 (okE a C v X h.1 G) (zqJ (okE b C w X h.2 G))|cons y ys=>exact zq3 (okE a C v X h.1 G) (okE b C _ X h.2 G)
 |.or a b,C,e,X,h,G=>by
  replace h:=ofBo h;obtain⟨z231,z232,pos,h⟩:=h;replace h:=ofOr h;obtain⟨h⟩:=h;replace h:=zbc h;obtain⟨v,z233,h⟩:=h;replace h:=zbc h;obtain⟨w,rest,h⟩:=h;simp only[Z8] at h
  cases rest with|nil=>exact ztY (okE a C v X h.1 G) (zqJ (okE b C w X h.2 G))|cons y ys=>exact ztY (okE a C v X h.1 G) (okE b C _ X h.2 G)
 |.not a,C,e,X,h,G=>by replace h:=ofUn h;obtain⟨z235,x,p1_,h⟩:=h;replace h:=ofNo h;obtain⟨h⟩:=h;exact zs9 (okE a C _ X h G)|.ife c a b,C,e,X,h,G=>by replace h:=ofIf h;obtain⟨t,x,y,p3_,h⟩:=h;simp only[Z8] at h;exact ztb (okT c C _ X h.1.1 G).1 (okE a C _ X h.1.2 G) (okE b C _ X h.2 G)
 |.tup es,C,e,X,h,G=>by
  replace h:=ofTu h;obtain⟨xs,p1_,p2_,h⟩:=h;simp only[Z8] at h
  exact ztA (okEs es C _ X h.1 G) (of_decide_eq_true h.2) (λσ h0 rs h' e=>by rw[zfp e];exact zcE h.1)
 |.lst m l,C,e,X,h,G=>by
  cases l with|disp es=>exact ziu m (okL (.disp es) C e X h G)|comp tg it cs el=>exact ziu m (zc0.il G.nox G.calm (okL (.comp tg it cs el) C e X h G))|of a=>exact ziu m (okL (.of a) C e X h G)|cat a b=>exact ziu m (okL (.cat a b) C e X h G)|rvd a=>exact ziu m (okL (.rvd a) C e X h G)
 |.idx a i,C,e,X,h,G=>by replace h:=ofSu h;obtain⟨x,y,p2_,h⟩:=h;simp only[Z8,ZC] at h;exact zuO (okE a C _ X h.1.1 G) (okE i C _ X h.1.2 G) (zhc h.2)
 | .sli a lo hi,C,e,X,h,G=>by
  replace h:=ofSu h;obtain⟨x,z240,pos,h⟩:=h;replace h:=ofSl h;obtain⟨l,u,z241,p2,h⟩:=h;replace h:=zqI h;obtain⟨h⟩:=h;simp only[Z8] at h
  have non:∀{z:E},zeJ z=true->PO X none (tO X.K (ev Γ z)):=by
   intro z hz;unfold zeJ at hz
   split at hz
   ·exact zrm
   ·cases hz
  have hl:PO X l (tO X.K (ev Γ lo)):=by
   cases l with|none=>exact non h.1.2|some y=>exact zoq (okE lo C y X h.1.2 G)
  have hu:PO X u (tO X.K (ev Γ hi)):=by
   cases u with|none=>exact non h.2|some y=>exact zoq (okE hi C y X h.2 G)
  exact zt1 (okE a C x X h.1.1 G) hl hu
 | .call f es,C,e,X,h,G=>by
  replace h:=ofCN h;obtain⟨x,p,z244,pos,h⟩:=h;replace h:=zbc h;obtain⟨v,vs,h⟩:=h;simp only[Z8] at h;have st:=za4 h.2
  cases hp:C.fns[f]? with
  |none=>rw[hp] at h;simp at h
  |some q=>
   rw[hp] at h;have hx:=ZV h.1.1.1;subst hx
   exact zsa (G.funs f q hp) G.room (zcQ G h.1.1.2) (okEs es C _ X h.2 G) (λσ h0 rs h' e=>by rw[zfp e];exact zcE h.2) (zcF h.1.2).1 (zak (st v (by simp))) (zbC λy hy=>st y (by simp[hy]))
 |.bi b es,C,e,X,h,G=>by replace h:=ofCN h;obtain⟨x,p,z248,pos,h⟩:=h;replace h:=zbc h;obtain⟨v,vs,h⟩:=h;simp only[Z8] at h;have st:=za4 h.2;exact zwa G h.1.1.1 (ZV h.1.1.2) (zcQ G h.1.2) (okEs es C _ X h.2 G) (zak (st v (by simp))) (zbC λy hy=>st y (by simp[hy]))
 | .me m o es,C,e,X,h,G=>by
  replace h:=ofCA h;obtain⟨ov,name,apos,vs,cpos,h⟩:=h
  cases vs with
  |cons v vs=>
   simp only[Z8] at h;obtain⟨⟨⟨⟨⟨⟨h0,h1⟩,h2⟩,h3⟩,h4⟩,h5⟩,h6⟩:=h;have st:=za4 h4;have h7:(v::vs).length<20:=of_decide_eq_true h6;have few:=zny (env:=X.env) (cpos:=cpos) st (by assumption)
   cases m with|append=>exact znj (okE o C ov X h3 G) (okEs es C _ X h4 G) (ZV h1) (zop h2) few h5 (zak (st v (by simp))) (zbC λy hy=>st y (by simp[hy]))|extend=>exact znr (okE o C ov X h3 G) (okEs es C _ X h4 G) (ZV h1) (zop h2) few h5 (zak (st v (by simp))) (zbC λy hy=>st y (by simp[hy]))
  | nil=>
   simp only[Z8] at h;obtain⟨⟨⟨⟨⟨h0,h1⟩,h2⟩,h3⟩,h4⟩,h5⟩:=h
   cases es with
   |cons _ _=>exact noT h4
   |nil=>
    cases m with|append=>exact noT h0.1|extend=>exact noT h0.1
 | .glo d,C,e,X,h,G=>by
  replace h:=ofNm h;obtain⟨x,pos,h⟩:=h;simp only[Z8] at h;obtain⟨⟨h1,h2⟩,h3⟩:=h
  cases hd:C.globs.lookup x with|none=>rw[hd] at h1;cases h1|some d'=>rw[hd] at h1;have e:=D.same_eq _ _ h1;subst e;obtain⟨u,v,e1,e2,e3⟩:=G.glob x d hd;exact ziT (zrF (zcQ G h2) e1 e2 (zcF h3).1) e3
 |.isi t a,C,e,X,h,G=>by
  replace h:=ofCN h;obtain⟨x,p,z263,pos,h⟩:=h;replace h:=zbc h;obtain⟨v,z264,h⟩:=h;replace h:=zaL h;obtain⟨z265,h⟩:=h;replace h:=ofNm h;obtain⟨y,p2,h⟩:=h;simp only[Z8] at h;obtain⟨⟨⟨⟨⟨h1,h2⟩,h3⟩,h4⟩,h5⟩,h6⟩:=h;have hx:=ZV h1;subst hx;have hy:=ZV h5
  have hb:y∈zcG:=by rw[hy];cases t<;>decide
  exact zu4 (zcQ G h2) (G.blt _ (by decide)) (okE a C v X h4 G) hy (zcQ G h6) (G.blt _ hb) (by rw[zak h3];rfl)
 |.lm m o a,C,e,X,h,G=>by
  replace h:=ofCA h;obtain⟨ov,name,apos,z274,cpos,h⟩:=h;replace h:=zaL h;obtain⟨v,h⟩:=h;simp only[Z8] at h;obtain⟨⟨⟨⟨⟨h1,h2⟩,h3⟩,h4⟩,h5⟩,h6⟩:=h
  have st:∀y∈[v],zal y=true:=by intro y hy;simp at hy;rw[hy];exact h4
  have few:=zny (env:=X.env) (cpos:=cpos) st (by simp);exact zvY G.room.units (okE o C ov X h3 G) (okE a C v X h5 G) (ZV h1) (zm8 h2) few h6 (zak h4) rfl
 |.fld o f,C,e,X,h,G=>by replace h:=ofAt h;obtain⟨ov,name,p2_,h⟩:=h;simp only[Z8] at h;obtain⟨⟨h1,h2⟩,h3⟩:=h;have hx:=ZV h1;subst hx;exact ztJ (okE o C _ X h3 G) (zm8 h2)|.make c f es,C,e,X,h,G=>by replace h:=ofCN h;obtain⟨x,p,z286,pos,h⟩:=h;replace h:=zbc h;obtain⟨v,vs,h⟩:=h;simp only[Z8,X4] at h;obtain⟨⟨⟨⟨h1,i,hi,h2,h2'⟩,h3⟩,h4⟩,h5⟩:=h;have hx:=ZV h1;subst hx;have hn:=ZV h2;have hf:=ZV h2';obtain⟨np,M⟩:=G.makes i hi;rw[hn,hf] at M;have st:=za4 h5;exact zsP M G.room1 (zcQ G h3) (okEs es C _ X h5 G) (zcF h4).1 (zak (st v (by simp))) (zbC λy hy=>st y (by simp[hy]))
 | .mc c m f o es,C,e,X,h,G=>by
  replace h:=ofCA h;obtain⟨ov,name,apos,vs,cpos,h⟩:=h
  cases vs with
  |cons v vs=>simp only[Z8,X4] at h;obtain⟨⟨⟨⟨⟨⟨h1,i,hi,h2,h2'⟩,h3⟩,h4⟩,h5⟩,h6⟩,h7⟩:=h;have hx:=ZV h1;subst hx;have hn:=ZV h2;obtain⟨np,M⟩:=G.meths i hi _ (W6.mp h2');rw[hn] at M;have st:=za4 h5;have h7:(v::vs).length<20:=of_decide_eq_true h7;have few:=zny (env:=X.env) (cpos:=cpos) st (by assumption);exact zws M G.room (okE o C _ X h4 G) (okEs es C _ X h5 G) (zak (st v (by simp))) (zbC λy hy=>st y (by simp[hy])) (zhF (ziA h3) few h6)
  |nil=>
   simp only[Z8,X4] at h;obtain⟨⟨⟨⟨⟨h1,i,hi,h2,h2'⟩,h3⟩,h4⟩,h5⟩,h6⟩:=h;have hx:=ZV h1;subst hx;have hn:=ZV h2;obtain⟨np,M⟩:=G.meths i hi _ (W6.mp h2');rw[hn] at M
   cases es with|cons _ _=>exact noT h5|nil=>exact zuR M G.room (okE o C _ X h4 G) (zhF (ziA h3) (by rfl) h6)
 |.lstO tg it cs el,C,e,X,h,G=>by
  replace h:=ofLC h;obtain⟨elt,z289,sc,pos,h⟩:=h;replace h:=zaL h;obtain⟨g,h⟩:=h;obtain⟨gt,gi,gifs,ga⟩:=g;simp only[Z8,ZC] at h;obtain⟨⟨⟨⟨⟨⟨h1,h2⟩,h3⟩,h4,h4'⟩,h5⟩,h6⟩,h7⟩:=h
  have ea:ga=0:=by simpa using h1
  subst ea;refine zc0.io G.nox G.calm ⟨elt,gt,gi,gifs,sc,pos,(blkC C sc (zbp tg gt)).N,rfl,zm7 G h3,okI it C gi X h5 G gt h4',λcl pins s₂ H₂ Cc fp=>?_,zjI h2⟩;have G':=G.blk h3 cl pins s₂ H₂ Cc fp;exact⟨zra G' tg gt h4,okTs cs _ gifs _ h6 G',okE el _ elt _ h7 G'⟩
 |.oix a i,C,e,X,h,G=>by replace h:=ofSu h;obtain⟨x,y,p2_,h⟩:=h;simp only[Z8,ZC] at h;exact ztZ (okE a C _ X h.1.1 G) (okE i C _ X h.1.2 G) (zhc h.2)|.olen a,C,e,X,h,G=>by replace h:=ofCN h;obtain⟨x,p,z294,pos,h⟩:=h;replace h:=zaL h;obtain⟨v,h⟩:=h;simp only[Z8] at h;have hx:=ZV h.1.1.1;subst hx;exact zsT (zcQ G h.1.1.2) (G.blt _ (by decide)) (okE a C v X h.2 G) (zak h.1.2)
 | .call0 f,C,e,X,h,G=>by
  replace h:=ofCN h;obtain⟨x,p,z299,pos,h⟩:=h;replace h:=zpm h;obtain⟨h⟩:=h;simp only[Z8] at h
  cases hp:C.fns[f]? with|none=>rw[hp] at h;simp at h|some q=>rw[hp] at h;have hx:=ZV h.1.1;subst hx;exact zoF (G.funs f q hp) G.room (zcQ G h.1.2) (zcF h.2).1
 |.din neg k d,C,e,X,h,G=>by replace h:=ofCm h;obtain⟨l,z310,z312,p3_,h⟩:=h;replace h:=zaL h;obtain⟨op,h⟩:=h;replace h:=zaL h;obtain⟨r,h⟩:=h;simp only[Z8,ZC] at h;exact zs5 G.room.units (zul h.1.1.1) (okE k C _ X h.1.1.2 G) (okE d C _ X h.1.2 G) (zeb h.2)|.ddx d k,C,e,X,h,G=>by replace h:=ofSu h;obtain⟨x,y,p2_,h⟩:=h;simp only[Z8,ZC] at h;exact ztr G.room.units (okE d C _ X h.1.1 G) (okE k C _ X h.1.2 G) (zhc h.2)|.dn1 k v,C,e,X,h,G=>by replace h:=ofDi h;obtain⟨z1,z2,p1_,h⟩:=h;replace h:=zaL h;obtain⟨z3,h⟩:=h;replace h:=zqu h;obtain⟨x,h⟩:=h;replace h:=zaL h;obtain⟨y,h⟩:=h;simp only[Z8] at h;exact zue G.room.units (okE k C _ X h.1 G) (okE v C _ X h.2 G)|.tpl a b c,C,e,X,h,G=>by replace h:=ofTu h;obtain⟨z1,p1_,p2_,h⟩:=h;replace h:=zbc h;obtain⟨x,z2,h⟩:=h;replace h:=zbc h;obtain⟨y,z3,h⟩:=h;replace h:=zaL h;obtain⟨z,h⟩:=h;simp only[Z8] at h;obtain⟨⟨⟨⟨⟨h1,h2⟩,h3⟩,h4⟩,h5⟩,h6⟩:=h;exact zuH (okE a C _ X h4 G) (okE b C _ X h5 G) (okE c C _ X h6 G) (zak h1) (zak h2) (zak h3)|.tix a k,C,e,X,h,G=>by replace h:=ofSu h;obtain⟨x,y,p2_,h⟩:=h;replace h:=ofCo h;obtain⟨c,z1,p3_,h⟩:=h;simp only[Z8] at h;exact zvn (okE a C _ X h.1 G) (zqw (d:=.int k) h.2) (λ_ _=>rfl)
 |.ist a,C,e,X,h,G=>by
  replace h:=ofCN h;obtain⟨x,p,z263,pos,h⟩:=h;replace h:=zbc h;obtain⟨v,z264,h⟩:=h;replace h:=zaL h;obtain⟨z265,h⟩:=h;replace h:=ofNm h;obtain⟨y,p2,h⟩:=h;simp only[Z8] at h;obtain⟨⟨⟨⟨⟨h1,h2⟩,h3⟩,h4⟩,h5⟩,h6⟩:=h;have hx:=ZV h1;subst hx;have hy:=ZV h5
  have hb:y∈zcG:=by rw[hy];decide
  exact zvw (zcQ G h2) (G.blt _ (by decide)) (okE a C v X h4 G) hy (zcQ G h6) (G.blt _ hb) (by rw[zak h3];rfl)
 |.tne a b,C,e,X,h,G=>by replace h:=ofCm h;obtain⟨l,z222,z224,p3_,h⟩:=h;replace h:=zaL h;obtain⟨op,h⟩:=h;replace h:=zaL h;obtain⟨r,h⟩:=h;simp only[Z8,ZC] at h;obtain rfl:=zum h.1.1.1;exact zt9 G.room.units (okE a C _ X h.1.1.2 G) (okE b C _ X h.1.2 G) (zeb h.2)
 | .callk f es k d,C,e,X,h,G=>by
  replace h:=ofCK h;obtain⟨x,p,z1,y,c,kp,pos,h⟩:=h;replace h:=zbc h;obtain⟨v,z2,h⟩:=h;replace h:=zaL h;obtain⟨u,h⟩:=h;simp only[Z8] at h;obtain⟨⟨⟨⟨⟨h1,h2⟩,h3⟩,h4⟩,h5⟩,h6⟩:=h;have st:=za4 h5
  cases hp:C.fns[f]? with
  |none=>rw[hp] at h1;cases h1
  | some q=>
   rw[hp] at h1;simp only[Z8] at h1;have hx:=ZV h1.1;subst hx
   cases hk:kwOf q.1 with
   |none=>rw[hk] at h2;cases h2
   |some w=>
    rw[hk] at h2;simp only[Z8] at h2;have e1:=ZV h2.1;have e2:=D.same_eq _ _ h2.2;subst e1 e2
    exact zpP (G.funs f q hp) G.room (zcQ G h3) hk (ZV h1.2) (okEs es C _ X h5 G) (λσ h0 rs h' e=>by rw[zfp e];exact zcE h5) (okE k C _ X h6 G) (zcF h4).1 (zak (st v (by simp))) (zbC st)
 |.stuck,C,e,X,h,G=>zot
theorem okEs{Γ:Calls}{n:Nat}:∀(as:List E) (C:Cst) (es:List Expr) (X:Cx),chkEs as C es=true->Good Γ n C X->IA X es (evs Γ as)
 | [],C,es,X,h,G=>by
  cases es with|nil=>exact zqq|cons _ _=>exact noT h
 | a::as,C,es,X,h,G=>by
  cases es with|nil=>exact noT h|cons e es=>change ((zal _&&chkE _ _ _)&&chkEs _ _ _)=true at h;simp only[Z8] at h;exact zhr (okE a C e X h.1.2 G) (okEs as C es X h.2 G) (zak h.1.1)
theorem okT{Γ:Calls}{n:Nat}:∀(t:T) (C:Cst) (e:Expr) (X:Cx),chkT t C e=true->Good Γ n C X->IT' X e (tv Γ t)/\(zqC e=true->PW X e (tTv X.K (tv Γ t)))
 | .val q,C,e,X,h,G=>by
  cases q with
  |cmp o a b=>replace h:=zjf h;replace h:=ofCm h;obtain⟨l,z323,z325,p3_,h⟩:=h;replace h:=zaL h;obtain⟨op,h⟩:=h;replace h:=zaL h;obtain⟨r,h⟩:=h;simp only[Z8,ZC] at h;exact⟨zkk (m:=mD (cop o)) (OpD.opI (coBe G.room.units h.1.1.1)) (okE a C _ X h.1.1.2 G) (okE b C _ X h.1.2 G) (zeb h.2) (λx y h0 r h1 e=>zwn e),λz=>by first | exact noT z | exact noF z⟩|din neg k d=>replace h:=zjf h;replace h:=ofCm h;obtain⟨l,z328,z330,p3_,h⟩:=h;replace h:=zaL h;obtain⟨op,h⟩:=h;replace h:=zaL h;obtain⟨r,h⟩:=h;simp only[Z8,ZC] at h;exact⟨zud G.room.units (zul h.1.1.1) (okE k C _ X h.1.1.2 G) (okE d C _ X h.1.2 G) (zeb h.2),λz=>by first | exact noT z | exact noF z⟩|tne a b=>replace h:=zjf h;replace h:=ofCm h;obtain⟨l,z328,z330,p3_,h⟩:=h;replace h:=zaL h;obtain⟨op,h⟩:=h;replace h:=zaL h;obtain⟨r,h⟩:=h;simp only[Z8,ZC] at h;obtain rfl:=zum h.1.1.1;exact⟨zvs G.room.units (okE a C _ X h.1.1.2 G) (okE b C _ X h.1.2 G) (zeb h.2),λz=>by first | exact noT z | exact noF z⟩
  | stuck=>
   refine⟨λpins s σ H Q I q=>?_,λ_ whole pins s σ H Q I q=>?_⟩
   ·obtain ⟨μ,h,env,R0,re,t,h',e,k⟩:=q
    cases e
   ·obtain ⟨μ,h,env,R0,re,t,h',e,k⟩:=q
    cases e
  |lst m l=>exact zhI (okE (.lst m l) C e X (zjf h) G) h (by intro _ ops rs pos z;subst z;cases l<;>exact noT (zjf h))|_=>exact zhI (okE _ C e X (zjf h) G) h (by intro l ops rs pos z;subst z;exact noT (zjf h))
 | .and a b,C,e,X,h,G=>by
  replace h:=ofBo h;obtain⟨z333,z334,pos,h⟩:=h;replace h:=ofAn h;obtain⟨h⟩:=h;replace h:=zbc h;obtain⟨v,z335,h⟩:=h;replace h:=zbc h;obtain⟨w,rest,h⟩:=h;simp only[Z8] at h
  have key:PW X (.BoolOp .And (v::w::rest) pos) (tTv X.K (tv Γ (.and a b))):=by
   cases rest with|nil=>exact zqR (tb:=λ_ _ _=>True) (okT a C v X h.1 G).1 (zrK (okT b C w X h.2 G).1)|cons y ys=>exact zqR (tb:=λ_ _ _=>True) (okT a C v X h.1 G).1 ((okT b C _ X h.2 G).2 rfl)
  exact⟨key.pt,λ_=>key⟩
 | .or a b,C,e,X,h,G=>by
  replace h:=ofBo h;obtain⟨z337,z338,pos,h⟩:=h;replace h:=ofOr h;obtain⟨h⟩:=h;replace h:=zbc h;obtain⟨v,z339,h⟩:=h;replace h:=zbc h;obtain⟨w,rest,h⟩:=h;simp only[Z8] at h
  have key:PW X (.BoolOp .Or (v::w::rest) pos) (tTv X.K (tv Γ (.or a b))):=by
   cases rest with|nil=>exact zuI (okT a C v X h.1 G).1 (ztC (okT b C w X h.2 G).1)|cons y ys=>exact zuI (okT a C v X h.1 G).1 ((okT b C _ X h.2 G).2 rfl)
  exact⟨key.pt,λ_=>key⟩
 |.not a,C,e,X,h,G=>by replace h:=ofUn h;obtain⟨z341,x,p1_,h⟩:=h;replace h:=ofNo h;obtain⟨h⟩:=h;exact⟨ztR (okT a C _ X h G).1,λz=>by first | exact noT z | exact noF z⟩
theorem okTs{Γ:Calls}{n:Nat}:∀(ts:List T) (C:Cst) (es:List Expr) (X:Cx),chkTs ts C es=true->Good Γ n C X->PTs X es (tTv X.K (tvs Γ ts))
 | [],C,es,X,h,G=>by
  cases es with|nil=>intro pins s σ H Q I ⟨μ,h0,env,R0,re,t,h',e,k⟩;simp only[tvs,zac] at e;obtain⟨rfl,rfl⟩:=e;exact zsx pins s σ H Q I (k μ H true Stp.refl R0 rfl)|cons _ _=>exact noT h
 | t :: ts,C,es,X,h,G=>by
  cases es with
  |nil=>exact noT h
  | cons e es=>
   change ((chkT _ _ _&&chkTs _ _ _)&&List.isEmpty _)=true at h;simp only[Z8] at h;obtain⟨⟨h1,h2⟩,h3⟩:=h
   cases es with
   |cons _ _=>simp at h3
   | nil=>
    cases ts with
    |cons _ _=>exact noT h2
    | nil=>
     intro pins s σ H Q I ⟨μ,h0,env,R0,re,t',h',e,k⟩;simp only[tvs,zab] at e;obtain⟨t1,h1',e1,e2⟩:=e;refine zr6 (okT t C _ X h1 G).1 pins s σ H Q I ⟨μ,h0,env,R0,re,t1,h1',e1,λμ1 H1 b s1 R1 hb=>?_⟩;subst hb
     cases t1 with|true=>simp only[if_true,zac] at e2;obtain⟨rfl,rfl⟩:=e2;exact k μ1 H1 _ s1 R1 rfl|false=>simp only[ZN,if_false,zac] at e2;obtain⟨rfl,rfl⟩:=e2;exact k μ1 H1 _ s1 R1 rfl
theorem okL{Γ:Calls}{n:Nat}:∀(l:L) (C:Cst) (e:Expr) (X:Cx),chkL l C e=true->Good Γ n C X->match l with|.disp es=>IL X e (evL Γ (.disp es))|.comp tg it cs el=>zc0 Γ X tg it cs el e|.of a=>IL X e (evL Γ (.of a))|.cat a b=>IL X e (evL Γ (.cat a b))|.rvd a=>IL X e (evL Γ (.rvd a))
 |.disp es,C,e,X,h,G=>by
  replace h:=ofLi h;obtain⟨xs,p1_,h⟩:=h;simp only[Z8] at h
  exact zsE (okEs es C _ X h.1 G) (of_decide_eq_true h.2) (λσ h0 rs h' e=>by rw[zfp e];exact zcE h.1)
 |.comp tg it cs el,C,e,X,h,G=>by
  replace h:=ofLC h;obtain⟨elt,z344,sc,pos,h⟩:=h;replace h:=zaL h;obtain⟨g,h⟩:=h;obtain⟨gt,gi,gifs,ga⟩:=g;simp only[Z8,ZC] at h;obtain⟨⟨⟨⟨⟨⟨h1,h2⟩,h3⟩,h4,h4'⟩,h5⟩,h6⟩,h7⟩:=h
  have ea:ga=0:=by simpa using h1
  subst ea;refine⟨elt,gt,gi,gifs,sc,pos,(blkC C sc (zbp tg gt)).N,rfl,zm7 G h3,okI it C gi X h5 G gt h4',λcl pins s₂ H₂ Cc fp=>?_,zjI h2⟩;have G':=G.blk h3 cl pins s₂ H₂ Cc fp;exact⟨zra G' tg gt h4,okTs cs _ gifs _ h6 G',okE el _ elt _ h7 G'⟩
 |.of a,C,e,X,h,G=>by replace h:=ofCN h;obtain⟨x,p1_,z348,p3_,h⟩:=h;replace h:=zaL h;obtain⟨v,h⟩:=h;simp only[Z8] at h;obtain⟨⟨⟨h1,h2⟩,h3⟩,h4⟩:=h;have hx:=ZV h1;subst hx;exact zv5 (zcQ G h2) (G.blt _ (by decide)) (okE a C _ X h4 G) (zak h3)|.cat a b,C,e,X,h,G=>by replace h:=ofBi h;obtain⟨l,z357,r,p2_,h⟩:=h;replace h:=ofAd h;obtain⟨h⟩:=h;simp only[Z8] at h;exact zuu (okE a C _ X h.1 G) (okE b C _ X h.2 G)|.rvd a,C,e,X,h,G=>by replace h:=ofCN h;obtain⟨x,p1_,z348,p3_,h⟩:=h;replace h:=zaL h;obtain⟨v,h⟩:=h;replace h:=ofCN h;obtain⟨y,p4_,z349,p5_,h⟩:=h;replace h:=zaL h;obtain⟨u,h⟩:=h;simp only[Z8] at h;obtain⟨⟨⟨⟨⟨h1,h2⟩,h3⟩,h4⟩,h5⟩,h6⟩:=h;have hx:=ZV h1;have hy:=ZV h3;subst hx hy;exact zup G.calm (zcQ G h2) (G.blt _ (by decide)) (zcQ G h4) (G.blt _ (by decide)) (okE a C _ X h6 G) (zak h5)
theorem okI{Γ:Calls}{n:Nat}:∀(it:I) (C:Cst) (e:Expr) (X:Cx),chkI it C e=true->Good Γ n C X->∀tg,enuB it tg=true->PI X tg e (tI X.K (evI Γ it))
 |.seq a,C,e,X,h,G,tg,_=>zuE (okE a C e X h G)
 |.enu a,C,e,X,h,G,tg,ht=>by
  replace h:=ofCN h;obtain⟨x,p,z394,pos,h⟩:=h;replace h:=zaL h;obtain⟨v,h⟩:=h;simp only[Z8] at h;obtain⟨⟨⟨h1,h2⟩,h3⟩,h4⟩:=h;have hx:=ZV h1;subst hx
  cases tg with
  |Tuple es k tp=>exact ztz (zcQ G h2) (G.blt _ (by decide)) (okE a C v X h4 G) (zak h3)
  |_=>first | exact noT ht | exact noF ht
 |.rng a,C,e,X,h,G,tg,_=>by replace h:=ofCN h;obtain⟨x,p,z399,pos,h⟩:=h;replace h:=zaL h;obtain⟨v,h⟩:=h;simp only[Z8] at h;have hx:=ZV h.1.1.1;subst hx;exact ztB (zcQ G h.1.1.2) (G.blt _ (by decide)) (okE a C v X h.2 G) (zak h.1.2)
end
theorem zoB{C:Cst}{a:E}{x1:Expr}{x2:_}{x3:_}{x4:_}(h:chkE a C (.SetComp x1 x2 x3 x4)=true):a=.stuck:=by
 cases a with|stuck=>rfl|lst m l=>cases l<;>exact noT h|_=>exact noT h
theorem zpY{C:Cst}{a:E}{x0 x1:Expr}{x2:_}{x3:_}{x4:_}(h:chkE a C (.DictComp x0 x1 x2 x3 x4)=true):a=.stuck:=by
 cases a with|stuck=>rfl|lst m l=>cases l<;>exact noT h|_=>exact noT h
theorem zpq{C:Cst}{a:E}{x1:Expr}{x2:_}{x3:_}{x4:_}(h:chkE a C (.ListComp x1 x2 x3 x4)=true)(hO:zmw a=false):a=.stuck\/∃m tg it cs el,a=.lst m (.comp tg it cs el):=by
 cases a with
 |stuck=>exact .inl rfl
 |lst m l=>
  cases l with|comp tg it cs el=>exact .inr ⟨m,tg,it,cs,el,rfl⟩|_=>exact noT h
 |lstO=>exact noF hO|_=>exact noT h
theorem zpV{Γ:Calls}{n:Nat}{C:Cst}{X:Cx}(G:Good Γ n C X){tg:Tg}{a:E}{t v:Expr}{pos:Pos}(h1:zeH C tg t=true)(h3:chkE a C v=true)(h2:zal t=true)(h4:(zd7 t&&zd7 v)=false)(hc:zez v=true)(hn:ziM t=true)(hO:zmw a=false):
  PS X (.Assign [t] v pos) (tS X.K λσ=>bnd (ev Γ a σ) λr=>bnd (zaY tg r σ) λσ'=>ok (.nx,σ')):=by
 have g:=okTg G tg t h1
 cases t with
 | Name y py=>
  cases tg with
  |tup ts=>exact noT h1
  | name iy=>
   cases v with
   | ListComp elt gens sc cpos=>
    have hb:∃b,Xq (.ListComp elt gens sc cpos) (some (.Name y py)) pos.line X.env=pure b:=⟨_,rfl⟩;obtain⟨b,hb⟩:=hb
    cases b with
    |false=>exact zqL (okE a C _ X h3 G) g hb (zdM h4) (zhq h2)
    | true=>
     rcases zpq h3 hO with rfl|⟨m,tg2,it,cs,el,rfl⟩
     ·exact λpins s σ H D I ⟨μ,h,env,R0,re,fl,env',h',e,k⟩=>by cases e
     ·obtain ⟨elt',gt,gi,gifs,sc',pos',N',e,ok,hi,hB,hs⟩:=okL (Γ:=Γ) (n:=n) (.comp tg2 it cs el) C _ X h3 G
      cases e;change (_&&locB C _)=true at h1;simp only[Z8] at h1;obtain⟨l1,l2⟩:=zqs G h1.2
      refine PS.imp (zjt G.nox G.calm ok hi hB hs hb (zmK G.nd (by rw[G.N];exact ZV h1.1) l1 l2)) λD σ H q=>?_
      have q1:=zpS q;have q2:=zp2 (fl:=evL Γ (.comp tg2 it cs el)) (m:=m) q1;exact zc0.read (q2.imp λv H1 z=>zle z)
   |SetComp _ _ _ _=>
    obtain rfl:=zoB h3
    exact λpins s σ H D I ⟨μ,h,env,R0,re,fl,env',h',e,k⟩=>by cases e
   |DictComp _ _ _ _ _=>
    obtain rfl:=zpY h3
    exact λpins s σ H D I ⟨μ,h,env,R0,re,fl,env',h',e,k⟩=>by cases e
   |_=>first | exact noT hc | exact noF hc
 |_=>first | exact noT hn | exact noF hn
theorem swA{v ov:Expr}{name:Str}{p2:Pos}{l:Nat}{env:PySem.Env}:Xq v (some (.Attribute ov name p2)) l env=pure false:=by cases v<;>rfl
mutual
theorem okS{Γ:Calls}{n:Nat}:∀(s:S) (C:Cst) (st:Stmt) (X:Cx),chkS s C st=true->Good Γ n C X->PS X st (tS X.K (ex Γ s))
 |.asg tg a,C,st,X,h,G=>by
  replace h:=ofAs h;obtain⟨z409,v,pos,h⟩:=h;replace h:=zaL h;obtain⟨t,h⟩:=h;simp only[Z8,ZC,YY] at h;obtain⟨⟨⟨⟨h1,h2⟩,h3⟩,h4⟩,h5⟩:=h
  rcases h5 with h5 | h5
  ·exact zqL (okE a C v X h3 G) (okTg G tg t h1) (zjD h5) (zdM h4) (zhq h2)
  ·exact zpV G h1 h3 h2 h4 h5.1.1 h5.1.2 h5.2
 |.setI o i a,C,st,X,h,G=>by replace h:=ofAs h;obtain⟨z412,v,pos,h⟩:=h;replace h:=zaL h;obtain⟨z413,h⟩:=h;replace h:=ofSu h;obtain⟨ov,iv,p2,h⟩:=h;simp only[Z8,ZC] at h;obtain⟨⟨⟨⟨h1,h2⟩,h3⟩,h4⟩,h5⟩:=h;exact zru (okE a C v X h1 G) (okE o C ov X h2 G) (okE i C iv X h3 G) (znk h5) (zjD h4) (zdM (by rfl)) (zhq rfl)|.setF o f a,C,st,X,h,G=>by replace h:=ofAs h;obtain⟨z416,v,pos,h⟩:=h;replace h:=zaL h;obtain⟨z417,h⟩:=h;replace h:=ofAt h;obtain⟨ov,name,p2,h⟩:=h;simp only[Z8] at h;have hx:=ZV h.1.1;subst hx;exact zst (okE a C v X h.1.2 G) (okE o C ov X h.2 G) (swA)
 |.setN c o f a,C,st,X,h,G=>by
  replace h:=ofAs h;obtain⟨z420,v,pos,h⟩:=h;replace h:=zaL h;obtain⟨z421,h⟩:=h;replace h:=ofAt h;obtain⟨ov,name,p2,h⟩:=h;simp only[Z8,X4] at h;obtain⟨⟨⟨h1,i,hi,h2,h2'⟩,h3⟩,h4⟩:=h;have hx:=ZV h1;subst hx;have hn:=ZV h2
  exact zrL (okE a C v X h3 G) (okE o C ov X h4 G) (swA) λA hA=>G.attrs i hi _ (W6.mp h2') A (by rw[hn];exact hA)
 |.exp a,C,st,X,h,G=>by replace h:=ofEx h;obtain⟨v,p1_,h⟩:=h;simp only[Z8,ZC] at h;exact zta (okE a C _ X h.1 G) (zpT h.2)|.ife c a b,C,st,X,h,G=>by replace h:=zvV h;obtain⟨t,x,y,p3_,h⟩:=h;simp only[Z8] at h;exact zvG (okT c C _ X h.1.1 G).1 (okSs a C _ X h.1.2 G) (okSs b C _ X h.2 G)
 |.for tg it body,C,st,X,h,G=>by
  replace h:=ofFo h;obtain⟨t,iter,b,z426,p3_,h⟩:=h;replace h:=zpm h;obtain⟨h⟩:=h;simp only[Z8,ZC] at h;obtain⟨⟨⟨⟨h1,h1'⟩,h2⟩,h3⟩,h4⟩:=h
  exact zuj (by rw[G.nox];exact Wi.never) G.calm (okI it C _ X h2 G _ h1') (zra G tg _ h1) (okSs body C _ X h3 G) (zjI h4) (λσ h w h' e=>zjb e)
 |.ret a,C,st,X,h,G=>by replace h:=ofRe h;obtain⟨z428,p1_,h⟩:=h;replace h:=zqu h;obtain⟨v,h⟩:=h;exact ztU (okE a C _ X h G)|.retN,C,st,X,h,G=>by replace h:=ofRe h;obtain⟨z430,p0_,h⟩:=h;replace h:=zqI h;obtain⟨h⟩:=h;exact zse|.brk,C,st,X,h,G=>by replace h:=ofBr h;obtain⟨p0_,h⟩:=h;exact zvh|.cnt,C,st,X,h,G=>by replace h:=ofCt h;obtain⟨p0_,h⟩:=h;exact zuy
 |.whl c b,C,st,X,h,G=>by
  replace h:=ofWh h;obtain⟨t,x,z435,p2_,h⟩:=h;replace h:=zpm h;obtain⟨h⟩:=h;simp only[Z8] at h
  exact zqf (by rw[G.nox];exact Wi.never) (okT c C _ X h.1 G).1 (okSs b C _ X h.2 G) zaM
 |.setD o i a,C,st,X,h,G=>by replace h:=ofAs h;obtain⟨z437,v,pos,h⟩:=h;replace h:=zaL h;obtain⟨z438,h⟩:=h;replace h:=ofSu h;obtain⟨ov,iv,p2,h⟩:=h;simp only[Z8,ZC] at h;obtain⟨⟨⟨⟨h1,h2⟩,h3⟩,h4⟩,h5⟩:=h;exact zrJ G.room.units (okE a C v X h1 G) (okE o C ov X h2 G) (okE i C iv X h3 G) (znk h5) (zjD h4) (zdM (by rfl)) (zhq rfl)|.stuck,C,st,X,h,G=>zo3
theorem okSs{Γ:Calls}{n:Nat}:∀(ss:List S) (C:Cst) (sts:List Stmt) (X:Cx),chkSs ss C sts=true->Good Γ n C X->PSs X sts (tS X.K (exs Γ ss))
 | [],C,sts,X,h,G=>by
  cases sts with|nil=>exact zsJ|cons _ _=>exact noT h
 | s::ss,C,sts,X,h,G=>by
  cases sts with|nil=>exact noT h|cons st sts=>change (chkS _ _ _&&chkSs _ _ _)=true at h;simp only[Z8] at h;exact zo7 (okS s C st X h.1 G) (okSs ss C sts X h.2 G)
end
end IT
namespace IT
open PySem PySem.Spec L2
section
variable {K:Z7}{μ μ':List Addr}{h h':Sto}{H H':Hp}
theorem RepDs.less(i:∀a,A' a->A a)(q:RepDs K A H x v):RepDs K A' H x v:=RepDs.mono (λ_ _ z=>z) (λ_ _ n z=>⟨λl=>n (i _ l),z⟩) x v q
theorem RepD.less(i:∀a,A' a->A a)(q:RepD K A H x v):RepD K A' H x v:=RepD.mono (λ_ _ z=>z) (λ_ _ n z=>⟨λl=>n (i _ l),z⟩) x v q
theorem zeO(st:Stp μ h H μ' h' H')(R0:Rep K μ h H):μ'.take h.length=μ:=by
 have hl:=R0.len;refine Wq λi=>?_
 by_cases hi:i<μ.length
 ·rw[Y0 (by omega),st.pre i μ[i] (Z6 hi),Z6 hi]
 ·rw[Zh (by simp;omega),Zh (by omega)]
theorem ziP:∀a,Live (μ'.take n) (h'.take n) a->Live μ' h' a:=by
 rintro a ⟨i,o,e1,e2,e3⟩
 have hi:i<n:=by
  have:=(Z9.mp e1).1
  simp at this;omega
 rw[Y0 hi] at e1 e2;exact⟨i,o,e1,e2,e3⟩
theorem zea{α β:Type}{F:α->β->Prop}:∀{xs:List α} {ys:List β} {x:α},Paired F xs ys->x∈xs->∃y,F x y
 |_,_,_,.nil,h=>by simp at h
 |_,_,x,.cons r t,h=>by
  rcases ZP.mp h with rfl | h
  ·exact⟨_,r⟩
  ·exact zea t h
theorem zdV{α β:Type}{F G:α->β->Prop}:∀{xs:List α} {ys:List β},Paired F xs ys->(∀x∈xs,∀y,F x y->G x y)->Paired G xs ys|_,_,.nil,_=>.nil|_,_,.cons r t,f=>.cons (f _ (by simp) _ r) (zdV t λx hx=>f x (by simp[hx]))
theorem zng{a:Addr}{o:Ob}(q:RepO K μ h H a o):∀l∈o.locs,l<μ.length:=by
 intro l hl
 cases o with
 |lst _=>simp[Ob.locs] at hl|fro _=>simp[Ob.locs] at hl|dic _=>simp[Ob.locs] at hl|tpl x l z=>obtain⟨u,b,w,_,eb,_⟩:=q;simp[Ob.locs] at hl;subst hl;exact(Z9.mp eb).1|ols ls=>obtain⟨vs,_,z⟩:=q;obtain⟨v,b,eb,_⟩:=zea z hl;exact(Z9.mp eb).1
 | ins c fs=>
  obtain⟨C,dx,fs',_,_,z⟩:=q;simp only[Ob.locs,Wf,Yf] at hl;obtain⟨_,⟨p,hp,rfl⟩,hl⟩:=hl;obtain⟨q',_,qr⟩:=zea z hp
  cases hr:p.2 with|d x=>rw[hr] at hl;simp[R.locs] at hl|loc k=>rw[hr] at hl qr;simp[R.locs] at hl;subst hl;obtain⟨b,eb,_⟩:=qr;exact(Z9.mp eb).1
theorem ziz{μ2:List Addr}{h2:Sto}{a:Addr}(q:RepO K μ' h' H' a o)(lv:∀b,Live μ2 h2 b->Live μ' h' b)(cl:∀l∈o.locs,∀b,μ'[l]?=some b->μ2[l]?=some b):RepO K μ2 h2 H' a o:=by
 cases o with
 |lst xs=>obtain⟨vs,e,z⟩:=q;exact⟨vs,e,z.less lv⟩|fro xs=>obtain⟨vs,e,z⟩:=q;exact⟨vs,e,z.less lv⟩|dic kvs=>obtain⟨xs,e,z⟩:=q;exact⟨xs,e,zdV z λp _ r y=>⟨y.1,⟨y.2.1.1,RepD.less lv y.2.1.2⟩,RepD.less lv y.2.2⟩⟩|tpl x l z=>obtain⟨u,b,w,e,eb,q1,q2⟩:=q;exact⟨u,b,w,e,cl l (by simp[Ob.locs]) b eb,RepD.less lv q1,RepD.less lv q2⟩|ols ls=>obtain⟨vs,e,z⟩:=q;exact⟨vs,e,zdV z λl hl v ⟨b,eb,ev⟩=>⟨b,cl l hl b eb,ev⟩⟩
 | ins c fs=>
  obtain⟨C,dx,fs',hC,e,z⟩:=q;refine⟨C,dx,fs',hC,e,zdV z λp hp q' ⟨e1,qr⟩=>⟨e1,?_⟩⟩
  cases hr:p.2 with
  |d x=>rw[hr] at qr;exact RepD.less lv qr
  |loc k=>
   rw[hr] at qr;obtain⟨b,eb,ev⟩:=qr;refine⟨b,cl k ?_ b eb,ev⟩;simp only[Ob.locs,Wf,Yf]
   exact⟨_,⟨p,hp,rfl⟩,by rw[hr];simp[R.locs]⟩
theorem ziv:∀{h h1:Sto} {i:Nat} {o1:Ob},objs h h1=true->h1[i]?=some o1->i<h.length->∃o,h[i]?=some o/\o1.locs=o.locs| [],_,_,_,_,_,hi=>absurd hi (Nat.not_lt_zero _)|o::h,[],_,_,e,_,_=>by cases e|o::h,o1::t,0,x,e,ex,_=>by cases ex;exact⟨o,rfl,ZV (andT e).1⟩|o::h,o1::t,i+1,x,e,ex,hi=>by obtain⟨o',e1,e2⟩:=ziv (i:=i) (andT e).2 ex (Nat.lt_of_succ_lt_succ hi);exact⟨o',e1,e2⟩
theorem zoY(st:Stp μ h H μ' h' H')(R0:Rep K μ h H)(R1:Rep K μ' h' H'):Stp μ h H μ (h'.take h.length) H':=by refine⟨λ_ _ e=>e,st.keep,λa l=>st.live a (ziP (n:=h.length) a ?_)⟩;rw[zeO st R0];exact l
theorem zrE(st:Stp μ h H μ' h' H')(R0:Rep K μ h H)(R1:Rep K μ' h' H')(ob:objs h h'=true)(q:RepR K μ' h' H' r v)(e:fin0 h.length keep r h'=some (r2,h2)):
  ∃μ2,Stp μ h H μ2 h2 H'/\Rep K μ2 h2 H'/\RepR K μ2 h2 H' r2 v:=by
 have st1:=zoY st R0 R1
 have lv:∀a,Live μ (h'.take h.length) a->Live μ' h' a:=λa l=>ziP (n:=h.length) a (by rw[zeO st R0];exact l)
 have hlen:=R0.len
 have at1:∀(l:Nat) (b:Addr),l<h.length->μ'[l]?=some b->μ[l]?=some b:=λl b hl eb=>by rw[<-zeO st R0,Y0 hl];exact eb
 have small:∀(i:Nat) (o:Ob),i<h.length->h'[i]?=some o->∀l∈o.locs,l<h.length:=by
  intro i o hi ho l hl;obtain⟨o0,e0,el⟩:=ziv ob ho hi;rw[el] at hl
  have hi':i<μ.length:=by omega
  have:=zng (R0.obj i μ[i] o0 (Z6 hi') e0) l hl
  omega
 have R2:Rep K μ (h'.take h.length) H':=by
  have hl':(h'.take h.length).length=h.length:=by
   have:=R1.len
   have h3:μ.length<=μ'.length:=by rw[<-zeO st R0,Yq];exact X7 _ _
   simp;omega
  refine⟨by rw[hl'];exact hlen,R0.nd,λi a o e1 e2=>?_⟩
  have hi:i<h.length:=by rw[<-hlen];exact(Z9.mp e1).1
  rw[Y0 hi] at e2;exact ziz (R1.obj i a o (st.pre i a e1) e2) lv λl hl b eb=>at1 l b (small i o hi e2 l hl) eb
 cases r with
 |d x=>simp only[fin0,Z5,Z1] at e;obtain⟨rfl,rfl⟩:=e;exact⟨μ,st1,R2,RepD.less lv q⟩
 | loc l =>
  obtain⟨a,ea,rfl⟩:=q;simp only[fin0] at e
  by_cases hl:l<h.length
  ·rw [if_pos hl] at e
   simp only[Z5,Z1] at e;obtain⟨rfl,rfl⟩:=e;exact⟨μ,st1,R2,a,at1 l a hl ea,rfl⟩
  ·rw [if_neg hl] at e
   obtain⟨o,ho⟩:=R1.placeO ea;rw[ho] at e
   have apart:a∉μ:=by
    intro hm;obtain⟨i,hi,ei⟩:=Yx hm
    have:=zgW R1.nd (st.pre i a (by rw[Z6 hi,ei])) ea
    omega
   have data:∀xs,o.isL=true->o.items=xs->∃μ2,Stp μ h H μ2 (h'.take h.length) H'/\Rep K μ2 (h'.take h.length) H'/\RepR K μ2 (h'.take h.length) H' (.d (.lst xs)) (.ref a):=by
    rintro xs il rfl
    obtain⟨vs,hH,z⟩:=R1.placeL ea ho il;refine⟨μ,st1,R2,?_⟩;simp only[RepR,RepD];refine⟨a,vs,rfl,.inl ⟨?_,.inl hH⟩,z.less lv⟩
    rintro⟨i,ys,e1,e2,_⟩
    exact apart (ZM e1)
   cases o with
   |ins _ _=>cases e|ols _=>cases e|dic _=>cases e|tpl _ _ _=>cases e|fro xs=>simp only[Z5,Z1] at e;obtain⟨rfl,rfl⟩:=e;exact data xs rfl rfl
   | lst xs=>
    cases keep with
    |false=>simp only[ZN,if_false,Z5,Z1] at e;obtain⟨rfl,rfl⟩:=e;exact data xs rfl rfl
    | true=>
     simp only[if_true,Z5,Z1] at e;obtain⟨rfl,rfl⟩:=e;obtain⟨vs,hH,z⟩:=R1.placeL ea ho rfl
     have hl2:(h'.take h.length).length=μ.length:=by rw[<-R2.len]
     have lv2:∀b,Live (μ++[a]) (h'.take h.length++[.lst xs]) b->Live μ' h' b:=by
      intro b l2
      rcases(zkJ R2.len).mp l2 with w|⟨rfl,_⟩
      ·exact lv b w
      ·exact⟨l,_,ea,ho,rfl⟩
     refine⟨μ++[a],⟨λi b e=>?_,st.keep,λb l2=>st.live b (lv2 b l2)⟩,⟨by simp[hl2],?_,λi b o e1 e2=>?_⟩,a,?_,rfl⟩
     ·rw[ZR (Z9.mp e).1];exact e
     ·rw [List.nodup_append]
      refine⟨R0.nd,by simp,λb hb c hc=>?_⟩;simp at hc;subst hc
      rintro rfl
      exact apart hb
     ·by_cases hi:i<μ.length
      ·rw [ZR hi] at e1
       rw[ZR (by omega)] at e2
       have hi2:i<h.length:=by omega
       rw[Y0 hi2] at e2;refine ziz (R1.obj i b o (st.pre i b e1) e2) lv2 λk hk c ec=>?_;have hk2:=small i o hi2 e2 k hk;rw[ZR (by omega)];exact at1 k c hk2 ec
      ·rw [ZK (by omega)] at e1
       rw[ZK (by omega)] at e2
       have hz:i-μ.length=0:=by
        cases hk:i-μ.length with|zero=>rfl|succ k=>rw[hk] at e1;simp at e1
       rw[hl2,hz] at e2;rw[hz] at e1;simp at e1 e2;subst e1 e2;exact⟨vs,hH,z.less lv2⟩
     ·rw [hlen.symm]
      simp
theorem zqp(st:Stp μ h H μ' h' H')(R0:Rep K μ h H)(R1:Rep K μ' h' H')(q:RepR K μ' h' H' r v)(e:fin h all keep r h'=some (r2,h2)):
  ∃μ2,Stp μ h H μ2 h2 H'/\Rep K μ2 h2 H'/\RepR K μ2 h2 H' r2 v:=by
 unfold fin at e
 cases all with
 |true=>simp only[if_true,Z5,Z1] at e;obtain⟨rfl,rfl⟩:=e;exact⟨μ',st,R1,q⟩
 | false=>
  simp only[ZN,if_false] at e
  split at e
  ·rename_i ob
   exact zrE st R0 R1 ob q e
  ·cases e
end
structure Fun2(K:Z7)(x qual:Str)(st:Stmt)(f:Addr)(fd:FuncData):Prop where
 ex:∃(oc:Value) (od:Option Addr) (dV kV doc pm:Value) (an:Option Addr) (cdv ct:Value) (osl:Array (Option Value)),
  fd=Zx x qual (zau st) (zaq st) (zag st) dV kV doc pm an cdv ct/\K.lookup f=some ⟨oc,od,.func fd,osl⟩/\Xf K cdv qual=true
 kp:Zb K (.ref f)=true
section
variable {P:Zs}{w:World}{K:Z7}{mg:Str->Option Value}{base:Heap}
theorem Fun2.ok(F:Fun2 K x qual st f fd)(S:ze8 N ps (zag st))(len:∀vs H Q E,sp vs H Q E->vs.length=ps.length)
  (hbody:∀(cdv:Value) (A:Around) (outer:List PySem.Env) (s:Shared) (H:Hp) (vs:List V) (Q:VK) (E:XK),Room k (A.deeper (PyProof.Rows.envOfC qual (zag st) s.heap.objs.size f cdv))->sp vs H Q E →
   ∃t,PSs (cxOf CX0 P w K mg base N qual (zag st) f cdv A outer s H E).nox (zaq st) t/\t {nx:=λ_ H'=>Q .non H',rt:=Q} (L2.start N vs) H):FnOk P w K mg base CX0 (k+1) f fd ps sp:=by
 obtain⟨oc,od,dV,kV,doc,pm,an,cdv,ct,osl,rfl,lk,hcd⟩:=F.ex;refine zwl lk hcd S len λA outer s H vs Q E hr hsp=>?_;obtain⟨t,h,q⟩:=hbody cdv A outer s H vs Q E hr hsp;exact⟨t,h.nox,q⟩
theorem zfJ{dV kV doc pm cdv ct:Value}(l:K.lookup f=some ⟨oc,od,.func (Zx x qual (zau st) (zaq st) (zag st) dV kV doc pm an cdv ct),osl⟩)
  (c:Xf K cdv qual=true) (k:Zb K (.ref f)=true):Fun2 K x qual st f (Zx x qual (zau st) (zaq st) (zag st) dV kV doc pm an cdv ct):=⟨⟨oc,od,dV,kV,doc,pm,an,cdv,ct,osl,rfl,l,c⟩,k⟩
end
structure zfZ(K:Z7)(fns:List (Str×Nat×List D))(cls:List zmo)(Pr:List F)(globs:List (Str×D))(fi:Nat)(x qual:Str)(st:Stmt)(f:Addr)(fd:FuncData)(N ps:List Str)(B:F):Prop where
 at':Pr[fi]?=some B
 fn:Fun2 K x qual st f fd
 sc:ze8 N ps (zag st)
 np:B.np=ps.length
 ns:B.ns=N.length
 bi:∃dvs,(∀A H,RepDs K A H B.dfl dvs)/\∀j,j<=B.dfl.length->∃ds,zcU K fd ps ds/\Vals (dvs.drop j) ds
 chk:chkSs B.body ⟨N,(zag st).names,fns,globs,true,cls⟩ (zaq st)=true
structure Txt(w:World)(K:Z7)(mg:Str->Option Value)(fns:List (Str×Nat×List D))(cls:List zmo)(Pr:List F)(globs:List (Str×D))(addr:Nat->Addr)(fdOf:Nat->FuncData)(psOf:Nat->List Str):Prop where
 defs:∀fi B,Pr[fi]?=some B->∃x qual st N,zfZ K fns cls Pr globs fi x qual st (addr fi) (fdOf fi) N (psOf fi) B
 blt:∀x∈zcG,mg x=none
 glob:∀(x:Str) (d:D),globs.lookup x=some d->∃u v,mg x=some u/\RelV v u/\∀A H,RepD K A H d v
 funs:∀fi p,fns[fi]?=some p->mg p.1=some (.ref (addr fi))/\∃B,Pr[fi]?=some B/\B.np=p.2.1/\B.dfl=p.2.2
 kws:∀fi p,fns[fi]?=some p->KwAt K p.1 (fdOf fi) (psOf fi)
 makes:∀i∈cls,∃C B,mg i.name=some (.ref C)/\ZI K ZQ i.name=some (some (.ref C))/\Cls K C/\Mk K C (addr i.init)/\Pr[i.init]?=some B/\B.dfl=[]
 meths:∀i∈cls,∀p∈i.meths,∃C B,ZI K ZQ i.name=some (some (.ref C))/\Cls K C/\Meth K C p.1 (addr p.2)/\Pr[p.2]?=some B/\B.dfl=[]
 attrs:∀i∈cls,∀f∈i.fields,∀A,ZI K ZQ i.name=some (some (.ref A))->zbX K A f
section
variable {P:Zs}{w:World}{K:Z7}{mg:Str->Option Value}{base:Heap}{fns:List (Str×Nat×List D)}{cls:List zmo}{Pr:List F}{globs:List (Str×D)}{addr:Nat->Addr}{fdOf:Nat->FuncData}{psOf:Nat->List Str}
theorem ziR(h:np<=rs.length):zaW np dfl rs=rs:=by rw[zcu (by omega),Yu (by omega)];simp
theorem zmb:zaW np dfl (zaW np dfl rs)=zaW np dfl rs:=by
 by_cases hs:rs.length+dfl.length<np
 ·rw[zcK hs,zcK hs]
 ·refine ziR ?_
  rw[zcu hs];simp only[ZS,Z3,W2];omega
theorem zlI(e0:Pr[fi]?=some B)(rs:List R):zaf Pr m fi rs=zaf Pr m fi (zaW B.np B.dfl rs):=by
 cases m with
 |zero=>rfl
 |succ m=>
  funext h
  rw[zbY,zbY];simp only[e0];rw[zmb]
theorem ziQ(e0:Pr[fi]?=some B)(e:zaf Pr (m+1) fi rs h=some p):(zaW B.np B.dfl rs).length=B.np:=by
 rw[zbY] at e;simp only[e0] at e
 split at e
 ·assumption
 ·cases e
theorem zbk.env(q:zbk K μ h H rs vs)(i:Nat)(r:R)(e:(rs.map some)[i]?=some (some r)):∃v,(vs.map some)[i]?=some (some v)/\RepR K μ h H r v:=by
 induction q generalizing i with
 |nil=>simp at e
 | @cons r' v rs vs q1 _ ih=>
  cases i with|zero=>simp at e;subst e;exact⟨v,rfl,q1⟩|succ i=>simp only[ZB,Y6] at e⊢;exact ih i e
theorem zgc(e0:Pr[fi]?=some B)(ed:B.dfl=[])(e:zaf Pr m fi rs h=some p):rs.length=B.np:=by
 cases m with
 |zero=>cases e
 | succ m=>
  have:=ziQ e0 e
  rw[ed] at this
  have ef:zaW B.np [] rs=rs:=by
   unfold zaW
   split
   ·rfl
   ·simp
  rwa [ef] at this
theorem zlc(e0:Pr[fi]?=some B)(e:zaf Pr m fi rs h=some p):(zaW B.np B.dfl rs).length=B.np:=by
 cases m with|zero=>cases e|succ m=>exact ziQ e0 e
theorem zs7(T:Txt w K mg fns cls Pr globs addr fdOf psOf)(Dd:zfZ K fns cls Pr globs fi x qual st f fd N ps B)
  (ih:∀g B,Pr[g]?=some B->FnOk P w K mg base CX0 (2*m) (addr g) (fdOf g) (psOf g) (spF K (psOf g).length (zaf Pr m g))):FnOk P w K mg base CX0 (2*m+2) f fd ps (spF K ps.length (zaf Pr (m+1) fi)):=by
 refine Dd.fn.ok (k:=2*m+1) Dd.sc (λvs H Q E h=>?_) (λcdv A outer s H vs Q E hr h=>?_)
 ·exact h.1
 ·have G:Good (zaf Pr m) (2*m) ⟨N,(zag st).names,fns,globs,true,cls⟩ (cxOf CX0 P w K mg base N qual (zag st) f cdv A outer s H E).nox:=by
   refine⟨rfl,rfl,hr.mono (by omega),hr,Dd.sc.kind,rfl,Dd.sc.nd,rfl,λ_ _=>rfl,λg y e=>?_,T.blt,T.glob,λi hi=>?_,λi hi p hp=>?_,T.attrs⟩
   ·obtain ⟨e1,B',e2,e3,e4⟩:=T.funs g y e
    obtain⟨x',q',st',N',d'⟩:=T.defs g B' e2;obtain⟨dvs,b1,b2⟩:=d'.bi;rw[<-e3,<-e4]
    have:=ih g B' e2
    rw[<-d'.np] at this;exact⟨⟨addr g,fdOf g,psOf g,dvs,this,e1,d'.fn.kp,b1,b2,T.kws g y e⟩,zlI d'.at',λrs h p e=>zlc d'.at' e⟩
   ·obtain ⟨C,B',e1,e2,e3,e4,e5,e6⟩:=T.makes i hi
    obtain⟨x',q',st',N',d'⟩:=T.defs _ B' e5;obtain⟨dvs,b1,b2⟩:=d'.bi
    have:=ih _ B' e5
    rw[<-d'.np] at this;obtain⟨ds,c1,c2⟩:=b2 0 (Zz _)
    have hd:ds=[]:=by
     have hv:dvs=[]:=by
      have:=b1 (λ_=>False) (λ_=>none)
      rw[e6] at this
      simpa[RepDs] using this
     rw[hv] at c2;cases c2;rfl
    subst hd;exact⟨B'.np,⟨C,addr i.init,fdOf i.init,psOf i.init,e1,e2,e3,e4,this,c1⟩,λrs h p e=>zgc d'.at' e6 e⟩
   ·obtain ⟨C,B',e2,e3,e4,e5,e6⟩:=T.meths i hi p hp
    obtain⟨x',q',st',N',d'⟩:=T.defs _ B' e5;obtain⟨dvs,b1,b2⟩:=d'.bi
    have:=ih _ B' e5
    rw[<-d'.np] at this;obtain⟨ds,c1,c2⟩:=b2 0 (Zz _)
    have hd:ds=[]:=by
     have hv:dvs=[]:=by
      have:=b1 (λ_=>False) (λ_=>none)
      rw[e6] at this
      simpa[RepDs] using this
     rw[hv] at c2;cases c2;rfl
    subst hd;exact⟨B'.np,⟨C,addr p.2,fdOf p.2,psOf p.2,e2,e3,e4,this,c1⟩,λrs h p e=>zgc d'.at' e6 e⟩
  refine⟨_,okSs B.body _ (zaq st) _ Dd.chk G,?_⟩;obtain⟨hv0,μ,h0,rs,R0,qr,r,h',e,k⟩:=h
  have hl0:rs.length=B.np:=by rw[qr.length,hv0,Dd.np]
  have ef:zaW B.np B.dfl rs=rs:=ziR (by omega);rw[zbY] at e;simp only[Dd.at'] at e;rw[ef,if_pos hl0] at e
  have hpl:ps.length<=N.length:=by have:=congrArg Xo Dd.sc.pre;rw[Yq] at this;omega
  have re:RepE K μ h0 H (rs.map some++ZU (B.ns-B.np) none) (L2.start N vs):=by
   have hv:=qr.length;have h1:=Dd.np;have h2:=Dd.ns;refine⟨?_,λi r e=>?_⟩
   ·unfold L2.start
    simp;omega
   ·by_cases hi:i<rs.length
    ·rw [ZR (by simpa using hi)] at e
     obtain⟨v,e1,z⟩:=qr.env i r e;refine⟨v,?_,z⟩;unfold L2.start
     rw[ZR (by simp;omega)]
     exact e1
    ·rw [ZK (by simpa using hi),List.getElem?_replicate] at e
     split at e<;>cases e
  cases eb:exs (zaf Pr m) B.body (rs.map some++ZU (B.ns-B.np) none) h0 with
  |none=>rw[eb] at e;cases e
  | some p=>
   obtain⟨⟨fl,env'⟩,h1⟩:=p;rw[eb] at e;refine⟨μ,h0,_,R0,re,fl,env',h1,eb,λμ' H' σ' st1 R1 _=>?_⟩
   cases fl with|ret r1=>intro v qv;obtain⟨μ2,st2,R2,q2⟩:=zqp st1 R0 R1 qv e;exact k μ2 H' v st2 R2 q2|nx=>obtain⟨μ2,st2,R2,q2⟩:=zqp (v:=.non) st1 R0 R1 (by simp only[RepR,RepD]) e;exact k μ2 H' .non st2 R2 q2|brk=>cases e|cnt=>cases e
theorem zn5:FnOk P w K mg base CX0 0 f fd ps (spF K np (zaf Pr 0 fi)):=by
 refine⟨λvs H Q E h=>?_,λA outer s H args us vs Q E hr e0 hb r h=>?_⟩
 ·obtain ⟨_,μ,h0,rs,R0,qr,r,h',e,k⟩:=h
  cases e
 ·obtain ⟨_,μ,h0,rs,R0,qr,r,h',e,k⟩:=h
  cases e
theorem znC(T:Txt w K mg fns cls Pr globs addr fdOf psOf):∀m fi B,Pr[fi]?=some B->FnOk P w K mg base CX0 (2*m) (addr fi) (fdOf fi) (psOf fi) (spF K (psOf fi).length (zaf Pr m fi))
 |0,fi,B,e=>zn5
 |m+1,fi,B,e=>by obtain⟨x,q,st,N,d⟩:=T.defs fi B e;exact zs7 T d λg B' e'=>znC T m g B' e'
end
theorem zke:∀ns:List Int,RepDs K A H (ns.map D.int) (ns.map V.int)| []=>.nil|n::r=>.cons (by simp only[RepD]) (zke r)
theorem zmc{ns:List Int}{E:XK}(hS:SqL K H a (ns.map V.int))(e:m [.d (.lst (ns.map .int))] []=some (.d (.bl true),[])):spF K 1 m [.ref a] H (λv _=>v=.bl true) E:=by
 have nl:∀b,¬Live [] [] b:=by
  rintro b ⟨i,xs,e1,_⟩
  simp at e1
 refine⟨rfl,[],[],[.d (.lst (ns.map .int))],⟨rfl,by simp,λi a o e1 _=>by simp at e1⟩,.cons ?_ .nil,_,_,e,λμ' H' v st R1 q=>?_⟩
 ·simp only[RepR,RepD]
  refine⟨a,ns.map V.int,rfl,?_,zke ns⟩
  rcases hS with z | z
  ·exact .inl ⟨nl a,z⟩
  ·exact .inr z
 ·simpa only[RepR,RepD] using q
theorem us0{P:List Value->Prop}(h:P []):∀us:List Value,us.length=0->P us:=λus hl=>by
 cases us with|nil=>exact h|cons=>cases hl
theorem usS{P:List Value->Prop}{n:Nat}(h:∀a,∀us:List Value,us.length=n->P (a::us)):∀us:List Value,us.length=n+1->P us:=λus hl=>by
 cases us with|nil=>cases hl|cons a r=>exact h a r (WH hl)
theorem us1{P:List Value->Prop}(h:∀a0,P [a0]):∀us:List Value,us.length=1->P us:=usS λa=>us0 (h a)
theorem us2{P:List Value->Prop}(h:∀a0 a1,P [a0,a1]):∀us:List Value,us.length=2->P us:=usS λa=>us1 (h a)
theorem us3{P:List Value->Prop}(h:∀a0 a1 a2,P [a0,a1,a2]):∀us:List Value,us.length=3->P us:=usS λa=>us2 (h a)
theorem us4{P:List Value->Prop}(h:∀a0 a1 a2 a3,P [a0,a1,a2,a3]):∀us:List Value,us.length=4->P us:=usS λa=>us3 (h a)
theorem us5{P:List Value->Prop}(h:∀a0 a1 a2 a3 a4,P [a0,a1,a2,a3,a4]):∀us:List Value,us.length=5->P us:=usS λa=>us4 (h a)
theorem zrZ:kwOf ("find_run":Str)=some (("most":Str),D.bl true):=if_pos rfl
theorem zou{y:Str}{du:Value}{dv:V}(h4:ps.length=4)(hr:RelV dv du)(h:∀(s:Shared) (a b c:Value),K.In s.heap->V8 s fd ⟨[a,b],[(y,c)]⟩ (ps.zip [a,b,du,c])):zka K fd ps [y] (kwG du) (kwG dv):=by
 have sh:∀{α:Type} (d:α) (us ws:List α),(kwG d us ws).length=4->∃a b c,us=[a,b]/\ws=[c]:=by
  intro α d us ws hl
  match us,ws,hl with| [a,b],[c],_=>exact⟨a,b,c,rfl,rfl⟩| [],_,e=>cases e| [_],_,e=>cases e|_::_::_::_,_,e=>cases e| [_,_],[],e=>cases e| [_,_],_::_::_,e=>cases e
 refine⟨λs us ws hK hl=>?_,λ{vs us zs ws} r1 r2=>?_⟩
 ·obtain ⟨a,b,c,rfl,rfl⟩:=sh du us ws (hl.trans h4)
  exact h s a b c hK
 ·cases r1 with
  |nil=>exact .nil
  | cons q1 r1=>
   cases r1 with
   |nil=>exact .nil
   | cons q2 r1=>
    cases r1 with
    |cons _ _=>exact .nil
    | nil=>
     cases r2 with
     |nil=>exact .nil
     |cons q3 r2=>
      cases r2 with|nil=>exact .cons q1 (.cons q2 (.cons hr (.cons q3 .nil)))|cons _ _=>exact .nil
theorem zt0{fns:List (Str×Nat×List D)}{fdOf:Nat->FuncData}{psOf:Nat->List Str}(i:Nat)(h:(Zy fns.length).all (λj=>match fns[j]? with | some p=>p.1 != ("find_run":Str)||j==i | none=>true)=true)(k:KwAt K "find_run" (fdOf i) (psOf i)):∀fi p,fns[fi]?=some p->KwAt K p.1 (fdOf fi) (psOf fi):=by
 intro fi p e
 have:=YS.mp h fi (by simpa using(Z9.mp e).1)
 rw[e] at this;simp only[YY] at this
 by_cases hx:p.1=("find_run":Str)
 ·rw [hx] at this⊢
  rcases this with z | z
  ·simp at z
  ·rw[ZV z];exact k
 ·intro y d z
  rw[show kwOf p.1=none from if_neg hx] at z;cases z
open PySem.W in
theorem toX{r:RowW}{d:DefRec}{kwd:List (Str×Expr)}{run:Value->List Value->Sem Value}(e:∀P,as=(K P).map (·.1))
  (h:WalkO q loose XP (InK K) r d kwd run):WalkX q loose XP (X.obsZ as) (X.valZ K n t) r d kwd run:=by
 intro w s₀ s₁ mg mb G y a o pm cd doc dV kV h1 h2 h3 h4 h5 h6 args vals as' L;exact h w s₀ s₁ mg mb G (InK.keeps w _ _ (X.z_facts e y).2.1 L.keeps) a o pm cd doc dV kV h1 h2 h3 h4 h5 h6 args vals as'
end IT
namespace IT
inductive Ok{α:Type}(m:Option (α×Sto))(Q:α->Sto->Prop):Prop where|mk (a:α) (h':Sto) (e:m=some (a,h')) (q:Q a h')
section
variable {α β:Type}{Q:α->Sto->Prop}{R:β->Sto->Prop}{h:Sto}
theorem Ok.mono(k:Ok m Q)(i:∀a h,Q a h->Q' a h):Ok m Q':=by obtain⟨a,h',e,q⟩:=k;exact⟨a,h',e,i a h' q⟩
@[simp] theorem ok_bnd{x:M α}{f:α->M β}:Ok (bnd x f h) R↔Ok (x h) λa h1=>Ok (f a h1) R:=by
 unfold bnd;constructor
 ·rintro⟨b,h',e,q⟩
  cases ex:x h with|none=>rw[ex] at e;cases e|some p=>rw[ex] at e;exact⟨p.1,p.2,rfl,b,h',e,q⟩
 ·rintro⟨a,h1,e,b,h',e',q⟩
  rw[e];exact⟨b,h',e',q⟩
@[simp] theorem ok_some'{a:α}:Ok (some (a,h)) Q↔Q a h:=by
 constructor
 ·rintro⟨b,h',e,q⟩;cases e;exact q
 ·intro q;exact⟨a,h,rfl,q⟩
@[simp] theorem ok_ok{a:α}:Ok (ok a h) Q↔Q a h:=ok_some'
@[simp] theorem ok_none:Ok (none:Option (α×Sto)) Q↔False:=by
 constructor
 ·rintro⟨b,h',e,q⟩;cases e
 ·intro z;exact z.elim
@[simp] theorem ok_opt{o:Option α}:Ok (opt o h) Q↔∃a,o=some a/\Q a h:=by
 unfold opt
 cases o with|none=>simp|some a=>simp
@[simp] theorem ok_rd_d{x:D}{Q:D->Sto->Prop}:Ok (rd (.d x) h) Q↔Q x h:=ok_some'
@[simp] theorem ok_fz_d{x:D}{Q:D->Sto->Prop}:Ok (fz (.d x) h) Q↔Q x h:=ok_some'
end
theorem zoy(I:Nat->Env->Sto->Prop)
  (step:∀i x σ h,xs[i]?=some x->I i σ h->Ok (f x σ h) λp h1=>match p.1 with
   |.ret r=>Q (.ret r,p.2) h1|.brk=>Q (.nx,p.2) h1
   |_=>zaX l h h1=true/\I (i+1) p.2 h1)
  (fin:∀σ h,I xs.length σ h->Q (.nx,σ) h) {σ:Env} {h:Sto} (h0:I 0 σ h):Ok (loop l f xs σ h) Q:=by
 have gen:∀(ys:List Ite) (i:Nat) (σ:Env) (h:Sto),xs.drop i=ys->i<=xs.length->I i σ h->Ok (loop l f ys σ h) Q:=by
  intro ys
  induction ys with
  | nil=>
   intro i σ h e hi hI
   have:i=xs.length:=by
    have:=congrArg Xo e
    simp at this;omega
   subst this;exact⟨_,_,rfl,fin σ h hI⟩
  | cons y ys ih=>
   intro i σ h e hi hI
   have hil:i<xs.length:=by
    have:=congrArg Xo e
    simp at this;omega
   have hy:xs[i]?=some y:=by
    have:=congrArg (λz=>z[0]?) e
    simpa using this
   have hd:xs.drop (i+1)=ys:=by
    have:=congrArg List.tail e
    simpa using this
   obtain⟨⟨fl,σ1⟩,h1,ef,q⟩:=step i y σ h hy hI;simp only[loop,ef]
   cases fl with|ret r=>exact⟨_,_,rfl,q⟩|brk=>exact⟨_,_,rfl,q⟩|nx=>simp only at q⊢;rw[if_pos q.1];exact ih (i+1) σ1 h1 hd (by omega) q.2|cnt=>simp only at q⊢;rw[if_pos q.1];exact ih (i+1) σ1 h1 hd (by omega) q.2
 exact gen xs 0 σ h (by simp) (by omega) h0
theorem zaV{α:Type}{g:α->Ite}{l:Option Nat}{f:Ite->Env->M (Fl×Env)}{xs:List α}{Q:Fl×Env->Sto->Prop}(I:Nat->Env->Sto->Prop)
  (step:∀i x σ h,xs[i]?=some x->I i σ h->Ok (f (g x) σ h) λp h1=>match p.1 with
   |.ret r=>Q (.ret r,p.2) h1|.brk=>Q (.nx,p.2) h1
   |_=>zaX l h h1=true/\I (i+1) p.2 h1)
  (fin:∀σ h,I xs.length σ h->Q (.nx,σ) h) {σ:Env} {h:Sto} (h0:I 0 σ h):Ok (loop l f (xs.map g) σ h) Q:=by
 refine zoy I (λi x σ h hx hI=>?_) (λσ h hI=>fin σ h (by simpa using hI)) h0;rw[ZF,Zk] at hx;obtain⟨y,hy,rfl⟩:=hx;exact step i y σ h hy hI
theorem zfQ{l:Option Nat}{xs:List D}{Q:Fl×Env->Sto->Prop}(I:Nat->Env->Sto->Prop)
  (step:∀i x σ h,xs[i]?=some x->I i σ h->Ok (f (dI x) σ h) λp h1=>match p.1 with
   |.ret r=>Q (.ret r,p.2) h1|.brk=>Q (.nx,p.2) h1
   |_=>zaX l h h1=true/\I (i+1) p.2 h1)
  (fin:∀σ h,I xs.length σ h->Q (.nx,σ) h) {σ:Env} {h:Sto} (h0:I 0 σ h):Ok (loop l f (xs.map dI) σ h) Q:=zaV I step fin h0
theorem zhV{α β:Type}{g:β->Ite}{l:Option Nat}{f:Ite->M (Option α)}{xs:List β}{Q:List α->Sto->Prop}(I:Nat->List α->Sto->Prop)
  (step:∀i x ys h,xs[i]?=some x->I i ys h->Ok (f (g x) h) λo h1=>zaX l h h1=true/\I (i+1) (match o with | some y=>ys++[y] | none=>ys) h1)
  (fin:∀ys h,I xs.length ys h->Q ys h) {h:Sto} (h0:I 0 [] h):Ok (zbz l f (xs.map g) h) Q:=by
 have gen:∀(zs:List β) (i:Nat) (ys:List α) (h:Sto),xs.drop i=zs->i<=xs.length->I i ys h->Ok (zbz l f (zs.map g) h) λr h1=>Q (ys++r) h1:=by
  intro zs
  induction zs with
  | nil=>
   intro i ys h e hi hI
   have:i=xs.length:=by
    have:=congrArg Xo e
    simp at this;omega
   subst this
   exact⟨_,_,rfl,by show Q (ys++[]) h;rw[Zc];exact fin ys h hI⟩
  | cons y zs ih=>
   intro i ys h e hi hI
   have hil:i<xs.length:=by
    have:=congrArg Xo e
    simp at this;omega
   have hy:xs[i]?=some y:=by
    have:=congrArg (λz=>z[0]?) e
    simpa using this
   have hd:xs.drop (i+1)=zs:=by
    have:=congrArg List.tail e
    simpa using this
   obtain⟨o,h1,ef,st,q⟩:=step i y ys h hy hI;simp only[ZB,zbz,ef];rw[if_pos st,ok_bnd];refine(ih (i+1) _ h1 hd (by omega) q).mono λr h2 hq=>?_;rw[ok_ok]
   cases o with|none=>exact hq|some z=>simpa using hq
 have:=gen xs 0 [] h (by simp) (by omega) h0
 simpa using this
theorem zgH{α β:Type}{d:β->Ite}{l:Option Nat}{f:Ite->M (Option α)}{g:β->Option α}{h:Sto}:∀{xs:List β},(∀x∈xs,f (d x) h=some (g x,h))->zaX l h h=true->zbz l f (xs.map d) h=some (xs.filterMap g,h)
 | [],_,_=>rfl
 |x::xs,e,s=>by
  simp only[ZB,zbz,e x (by simp),if_pos s];unfold bnd;rw[zgH (λy hy=>e y (by simp[hy])) s];simp only[ok,YA]
  cases g x<;>rfl
theorem zuo(Γ:Calls)(i:_)(σ:Env):ev Γ (.var i) σ=(λh=>match σ[i]? with
  |some (some r)=>some (r,h)
  |_=>none):=rfl
theorem ztn(Γ:Calls)(a:_)(σ:Env):ev Γ (.neg a) σ=(bnd (ev Γ a σ) λx=>match x with
  |.d (.int i)=>ok (.d (.int (-i)))
  |_=>λ_=>none):=rfl
theorem zuF(Γ:Calls)(a:_)(b:_)(σ:Env):ev Γ (.and a b) σ=(bnd (ev Γ a σ) λx=>match x with
  |.d (.bl c)=>if c then ev Γ b σ else ok (.d (.bl false))
  |_=>λ_=>none):=rfl
theorem zvI(Γ:Calls)(a:_)(b:_)(σ:Env):ev Γ (.or a b) σ=(bnd (ev Γ a σ) λx=>match x with
  |.d (.bl c)=>if c then ok (.d (.bl true)) else ev Γ b σ
  |_=>λ_=>none):=rfl
theorem zvE(Γ:Calls)(m:_)(o:_)(es:_)(σ:Env):ev Γ (.me m o es) σ=(bnd (ev Γ o σ) λx=>bnd (zfq x) λ_=>bnd (evs Γ es σ) λrs=>meth m x rs):=rfl
theorem zrq(Γ:Calls)(c:_)(f:_)(es:_)(σ:Env):ev Γ (.make c f es) σ=(bnd (evs Γ es σ) λrs=>bnd (newA c) λx=>bnd (Γ f (x::rs)) λr=>match r with
  |.d .non=>ok x
  |_=>λ_=>none):=rfl
theorem zwf(Γ:Calls)(c:_)(m:_)(f:_)(o:_)(es:_)(σ:Env):ev Γ (.mc c m f o es) σ=(bnd (ev Γ o σ) λx=>bnd (isA x c m) λ_=>bnd (evs Γ es σ) λrs=>Γ f (x::rs)):=rfl
theorem zrd(Γ:Calls)(tg:_)(it:_)(c:_)(el:_)(σ:Env):ev Γ (.lstO tg it c el) σ=(bnd (evI Γ it σ) λw=>bnd (zbz w.l (λx=>bnd (zaw tg x (clr tg.slots σ)) λσ'=>bnd (tvs Γ c σ') λt=>if t then bnd (ev Γ el σ') λr=>bnd (zbm r) λd=>ok (some d) else ok none) w.xs) λls=>allocO ls):=rfl
theorem zuC(Γ:Calls)(a:_)(i:_)(σ:Env):ev Γ (.oix a i) σ=(bnd (ev Γ a σ) λx=>bnd (ev Γ i σ) λy=>bnd (zbH x) λo=>match o,y with
  |some ls,.d (.int k)=>match at' ls k with
   |some l=>ok (.loc l)
   |none=>λ_=>none
  |_,_=>λ_=>none):=rfl
theorem zrQ(Γ:Calls)(a:_)(σ:Env):ev Γ (.olen a) σ=(bnd (ev Γ a σ) λx=>bnd (zbH x) λo=>match o with
  |some ls=>ok (.d (.int ls.length))
  |none=>λ_=>none):=rfl
theorem zpL(Γ:Calls)(f:_)(σ:Env):ev Γ (.call0 f) σ=(Γ f []):=rfl
theorem zpi(Γ:Calls) (σ:Env):ev Γ .stuck σ=(λ_=>none):=rfl
theorem zrH(Γ:Calls)(e:_)(σ:Env):evI Γ (.rng e) σ=(bnd (ev Γ e σ) λr=>zhi r):=rfl
theorem zrB(Γ:Calls)(e:_)(σ:Env):evI Γ (.enu e) σ=(bnd (ev Γ e σ) λr=>zlF r):=rfl
theorem zs0:fzs []=(ok []):=rfl
theorem zoP(r:_)(rs:_):fzs (r::rs)=(bnd (fz r) λd=>bnd (fzs rs) λds=>ok (d::ds)):=rfl
theorem zsI:rds []=(ok []):=rfl
theorem zoH(r:_)(rs:_):rds (r::rs)=(bnd (rd r) λd=>bnd (rds rs) λds=>ok (d::ds)):=rfl
theorem zrt(Γ:Calls)(o:_)(i:_)(e:_)(σ:Env):ex Γ (.setI o i e) σ=(bnd (ev Γ e σ) λr=>bnd (ev Γ o σ) λx=>bnd (ev Γ i σ) λy=>bnd (fz r) λd=>bnd (rd y) λy=>bnd (zf4 x y d) λ_=>ok (.nx,σ)):=rfl
theorem zur(Γ:Calls)(c:_)(b:_)(σ:Env):ex Γ (.whl c b) σ=(zcO (tv Γ c) (exs Γ b) zaM σ):=rfl
theorem zp6(Γ:Calls) (σ:Env):ex Γ .stuck σ=(λ_=>none):=rfl
theorem zpC(Γ:Calls)(s:_)(r:_)(σ:Env):exs Γ (s::r) σ=(bnd (ex Γ s σ) λp=>match p.1 with
  |.nx=>exs Γ r p.2
  |_=>ok p):=rfl
theorem zjL:meth .append (.loc l) [r] h=(bnd (fz r) λd h=>match h[l]? with
  |some (.lst xs)=>if decide (xs.length<big) then some (.d .non,h.set l (.lst (xs++[d]))) else none
  |_=>none) h:=rfl
theorem zji:meth .extend (.loc l) [r] h=(bnd (rd r) λd h=>match d with
  |.lst ys=>match h[l]? with
   |some (.lst xs)=>if fit (xs.length+ys.length) then some (.d .non,h.set l (.lst (xs++ys))) else none|_=>none
  |_=>none) h:=rfl
section
variable {Γ:Calls}{σ:Env}{h:Sto}
section
variable {Q:Fl×Env->Sto->Prop}
theorem zls:Ok (exs Γ (s::r) σ h) Q↔Ok (ex Γ s σ h) λp h1=>match p.1 with | .nx=>Ok (exs Γ r p.2 h1) Q | .ret r=>Q (.ret r,p.2) h1 | .brk=>Q (.brk,p.2) h1 | .cnt=>Q (.cnt,p.2) h1:=by
 rw[zpC,ok_bnd];constructor
 ·intro k
  refine k.mono λp h1 q=>?_;obtain⟨fl,e⟩:=p
  cases fl<;>simpa using q
 ·intro k
  refine k.mono λp h1 q=>?_;obtain⟨fl,e⟩:=p
  cases fl<;>simpa using q
theorem zuV:Ok (ex Γ (.setI o i e) σ h) Q↔Ok (ev Γ e σ h) λr h1=>Ok (ev Γ o σ h1) λx h2=>Ok (ev Γ i σ h2) λy h3=>Ok (fz r h3) λd h4=>Ok (rd y h4) λy h5=>Ok (zf4 x y d h5) λ_ h6=>Q (.nx,σ) h6:=by rw[zrt];simp only[ok_bnd,ok_ok]
end
section
variable {Q:Env->Sto->Prop}
theorem zrx:Ok (zaY (.name i) r σ h) Q↔Q (σ.set i (some r)) h:=by rw[zaY];exact ok_ok
theorem zub:Ok (zaY (.tup ts) r σ h) Q↔Ok (rd r h) λd h1=>∃xs,d=.tup xs/\Ok (bindTs ts xs σ h1) Q:=by
 rw[zaY,ok_bnd]
 constructor<;>intro k<;>refine k.mono λd h1 q=>?_
 ·cases d<;>first | (exact⟨_,rfl,q⟩) | (simp at q)
 ·obtain⟨xs,rfl,q⟩:=q;exact q
theorem zof:Ok (bindTs [] [] σ h) Q↔Q σ h:=by simp only[bindTs,ok_ok]
theorem zla:Ok (bindTs (t::ts) (x::xs) σ h) Q↔Ok (zaY t (.d x) σ h) λσ' h1=>Ok (bindTs ts xs σ' h1) Q:=by simp only[bindTs,ok_bnd]
end
theorem w_bI:Ok (zaw tg (.r x) σ h) Q↔Ok (zaY tg x σ h) Q:=by rw[zaw]
theorem zvO:Ok (zaw (.tup [a,b]) (.en i x) σ h) Q↔Ok (zaY a (.d (.int i)) σ h) λσ' h1=>Ok (zaY b x σ' h1) Q:=by rw[zaw];simp only[ok_bnd]
section
variable {Q:R->Sto->Prop}
theorem zvK:Ok (ev Γ (.var i) σ h) Q↔∃r,σ[i]?=some (some r)/\Q r h:=by
 rw[zuo]
 cases e:σ[i]? with|none=>simp|some o=>cases o<;>simp
theorem zwm:Ok (ev Γ (.neg a) σ h) Q↔Ok (ev Γ a σ h) λx h1=>∃i,x=.d (.int i)/\Q (.d (.int (-i))) h1:=by
 rw[ztn,ok_bnd]
 constructor<;>intro k<;>refine k.mono λx h1 q=>?_
 ·cases x with
  |loc l=>simp at q
  |d d=>cases d<;>first | (exact⟨_,rfl,by simpa using q⟩) | (simp at q)
 ·obtain⟨i,rfl,q⟩:=q;simpa using q
theorem zv4:Ok (ev Γ (.and a b) σ h) Q↔Ok (ev Γ a σ h) λx h1=>∃c,x=.d (.bl c)/\(c=true->Ok (ev Γ b σ h1) Q)/\(c=false->Q (.d (.bl false)) h1):=by
 rw[zuF,ok_bnd]
 constructor<;>intro k<;>refine k.mono λx h1 q=>?_
 ·cases x with
  |loc l=>simp at q
  |d d=>cases d<;>first | (rename_i c;refine⟨c,rfl,?_⟩;cases c<;>simpa using q) | (simp at q)
 ·obtain⟨c,rfl,q⟩:=q;cases c<;>simpa using q
theorem w_or:Ok (ev Γ (.or a b) σ h) Q↔Ok (ev Γ a σ h) λx h1=>∃c,x=.d (.bl c)/\(c=false->Ok (ev Γ b σ h1) Q)/\(c=true->Q (.d (.bl true)) h1):=by
 rw[zvI,ok_bnd]
 constructor<;>intro k<;>refine k.mono λx h1 q=>?_
 ·cases x with
  |loc l=>simp at q
  |d d=>cases d<;>first | (rename_i c;refine⟨c,rfl,?_⟩;cases c<;>simpa using q) | (simp at q)
 ·obtain⟨c,rfl,q⟩:=q;cases c<;>simpa using q
theorem w_me:Ok (ev Γ (.me m o es) σ h) Q↔Ok (ev Γ o σ h) λx h1=>Ok (zfq x h1) λ_ h2=>Ok (evs Γ es σ h2) λrs h3=>Ok (meth m x rs h3) Q:=by rw[zvE];simp only[ok_bnd]
end
theorem zmv:Ok (fzs [] h) Q↔Q [] h:=by rw[zs0];exact ok_ok
theorem zlg:Ok (fzs (r::rs) h) Q↔Ok (fz r h) λd h1=>Ok (fzs rs h1) λds h2=>Q (d::ds) h2:=by rw[zoP];simp only[ok_bnd,ok_ok]
theorem zmO:Ok (rds [] h) Q↔Q [] h:=by rw[zsI];exact ok_ok
theorem zlG:Ok (rds (r::rs) h) Q↔Ok (rd r h) λd h1=>Ok (rds rs h1) λds h2=>Q (d::ds) h2:=by rw[zoH];simp only[ok_bnd,ok_ok]
section
variable {Q:Bool->Sto->Prop}
end
section
variable {Q:List D->Sto->Prop}
def zpb(Γ:Calls)(tg:Tg)(c:List T)(el:E)(σ:Env)(x:Ite):M (Option D):=bnd (zaw tg x (clr tg.slots σ)) λσ'=>bnd (tvs Γ c σ') λt=>if t then bnd (ev Γ el σ') λr=>bnd (fz r) λd=>ok (some d) else ok none
end
theorem zs2:Ok (zpb Γ tg c el σ x h) Q↔Ok (zaw tg x (clr tg.slots σ) h) λσ' h1=>Ok (tvs Γ c σ' h1) λt h2=>(t=true->Ok (ev Γ el σ' h2) λr h3=>Ok (fz r h3) λd h4=>Q (some d) h4)/\(t=false->Q none h2):=by
 unfold zpb;simp only[ok_bnd]
 constructor<;>intro k<;>refine k.mono λσ' h1 q=>?_<;>refine q.mono λt h2 q=>?_<;>cases t<;>simpa using q
def zns(Γ:Calls)(tg:Tg)(c:List T)(el:E)(σ:Env)(x:Ite):M (Option Nat):=bnd (zaw tg x (clr tg.slots σ)) λσ'=>bnd (tvs Γ c σ') λt=>if t then bnd (ev Γ el σ') λr=>bnd (zbm r) λd=>ok (some d) else ok none
theorem ztX:Ok (ev Γ (.lstO tg it c el) σ h) Q↔Ok (evI Γ it σ h) λw h1=>Ok (zbz w.l (zns Γ tg c el σ) w.xs h1) λls h2=>Q (.loc h2.length) (h2++[.ols ls]):=by rw[zrd];simp only[ok_bnd,allocO,ok_some'];rfl
theorem zsA:Ok (zns Γ tg c el σ x h) Q↔Ok (zaw tg x (clr tg.slots σ) h) λσ' h1=>Ok (tvs Γ c σ' h1) λt h2=>(t=true->Ok (ev Γ el σ' h2) λr h3=>Ok (zbm r h3) λd h4=>Q (some d) h4)/\(t=false->Q none h2):=by
 unfold zns;simp only[ok_bnd]
 constructor<;>intro k<;>refine k.mono λσ' h1 q=>?_<;>refine q.mono λt h2 q=>?_<;>cases t<;>simpa using q
section
variable {Q:Wk->Sto->Prop}
theorem zv0:Ok (evI Γ (.enu e) σ h) Q↔Ok (ev Γ e σ h) λr h1=>isLs r=true/\Ok (zbu r h1) λw h2=>∃l,zat 0 w.xs=some l/\Q ⟨l,w.l⟩ h2:=by
 rw[zrB];simp only[ok_bnd,zlF]
 refine iff_of_eq (congrArg (Ok (ev Γ e σ h)) (funext λr=>funext λh1=>propext ?_))
 by_cases c:isLs r=true
 ·rw [if_pos c,ok_bnd]
  simp only[c,true_and];refine iff_of_eq (congrArg (Ok (zbu r h1)) (funext λw=>funext λh2=>propext ?_))
  cases zat 0 w.xs<;>simp
 ·rw[if_neg c];simp[c]
def nums{α:Type}(i:Int):List α->List (Int×α)| []=>[]|x::t=>(i,x)::nums (i+1) t
theorem zjK{α:Type}:∀(xs:List α) (i:Int) (j:Nat) (p:Int×α),(nums i xs)[j]?=some p->p.1=i+j/\xs[j]?=some p.2
 | [],_,_,_,e=>by simp[nums] at e|x::xs,i,0,p,e=>by simp[nums] at e;subst e;exact⟨by simp,rfl⟩
 |x::xs,i,j+1,p,e=>by
  simp only[nums,Y6] at e⊢;obtain⟨h1,h2⟩:=zjK xs (i+1) j p e
  exact⟨by rw[h1];push_cast;omega,h2⟩
theorem zpu:Ok (zbu (.d (.tup xs)) h) Q↔Q ⟨xs.map dI,none⟩ h:=by simp only[zbu,zbH,ok_bnd,ok_some',ok_rd_d,wkOf,items,ok_ok]
theorem zpf:Ok (zbu (.d (.lst xs)) h) Q↔Q ⟨xs.map dI,none⟩ h:=by simp only[zbu,zbH,ok_bnd,ok_some',ok_rd_d,wkOf,items,ok_ok]
theorem zpQ:Ok (zbu (.loc l) h) Q↔∃o,h[l]?=some o/\match o with
  |.lst xs=>Q ⟨xs.map dI,some l⟩ h|.fro xs=>Q ⟨xs.map dI,some l⟩ h|.ols ls=>Q ⟨ls.map λl=>.r (.loc l),some l⟩ h|.ins _ _=>False|.dic _=>False
  |.tpl _ _ _=>False:=by
 simp only[zbu,zbH,ok_bnd]
 cases e:h[l]? with|none=>simp[rd,e]|some o=>cases o<;>simp[rd,e,Ob.isL,Ob.items,wkOf,items]
theorem zwt:Ok (evI Γ (.rng e) σ h) Q↔Ok (ev Γ e σ h) λr h1=>Ok (zhi r h1) Q:=by rw[zrH];simp only[ok_bnd]
theorem zsK:Ok (zhi (.d (.int n)) h) Q↔(-(2^62)<=n/\n<=16777216)/\Q ⟨(zb5 0 n.toNat).map dI,none⟩ h:=by
 simp only[zhi]
 by_cases c:-(2^62)<=n/\n<=16777216
 ·rw [if_pos (by rw[Z8];exact⟨decide_eq_true c.1,decide_eq_true c.2⟩),ok_ok]
  exact⟨λq=>⟨c,q⟩,λq=>q.2⟩
 ·rw [if_neg (by rw[Z8];exact λz=>c ⟨of_decide_eq_true z.1,of_decide_eq_true z.2⟩)]
  simp only[ok_none,false_iff];exact λz=>c z.1
end
theorem zpF:Ok (rd (.loc l) h) Q↔∃o,h[l]?=some o/\o.isL=true/\Q (.lst o.items) h:=by
 simp only[rd]
 cases h[l]? with|none=>simp|some o=>cases o<;>simp[Ob.isL]
theorem zoC:Ok (fz (.loc l) h) Q↔∃o,h[l]?=some o/\o.isL=true/\Q (.lst o.items) (h.set l (.fro o.items)):=by
 simp only[fz]
 cases h[l]? with|none=>simp|some o=>cases o<;>simp[Ob.isL]
theorem zr1:Ok (zfq (.loc l) h) Q↔∃o,h[l]?=some o/\o.isL=true/\Q () h:=by
 simp only[zfq]
 cases h[l]? with|none=>simp|some o=>cases o<;>simp[Ob.isL]
theorem zuK:Ok (getA (.loc l) f h) Q↔∃c fs,h[l]?=some (.ins c fs)/\∃r,fs.lookup f=some r/\Q r h:=by
 simp only[getA]
 cases h[l]? with
 |none=>simp
 | some o=>
  cases o with
  | ins c fs=>
   constructor
   ·intro q
    refine⟨c,fs,rfl,?_⟩;simp only at q
    split at q
    ·rename_i r e;exact⟨r,e,by simpa using q⟩
    ·simp at q
   ·rintro⟨c',fs',e,r,e2,q⟩
    cases e;simp only[e2,ok_some'];exact q
  |_=>simp
theorem ztp:Ok (setA (.loc l) f v h) Q↔∃c fs,h[l]?=some (.ins c fs)/\(fs.lookup f).isSome=true/\fs.length<900/\Q () (h.set l (.ins c (putF f v fs))):=by
 simp only[setA]
 cases h[l]? with
 |none=>simp
 | some o=>
  cases o with
  | ins c fs=>
   constructor
   ·intro q
    refine⟨c,fs,rfl,?_⟩;simp only at q
    split at q
    ·rename_i hl;exact⟨hl.1,hl.2,by simpa using q⟩
    ·simp at q
   ·rintro⟨c',fs',e,hl,hl2,q⟩
    cases e;simp only[hl,hl2,and_self,if_true,ok_some'];exact q
  |_=>simp
theorem zvi:Ok (setN (.loc l) c f v h) Q↔∃fs,h[l]?=some (.ins c fs)/\fs.length<900/\Q () (h.set l (.ins c (putF f v fs))):=by
 simp only[setN]
 cases h[l]? with
 |none=>simp
 | some o=>
  cases o with
  | ins c' fs=>
   constructor
   ·intro q
    simp only at q
    split at q
    ·rename_i hl
     obtain⟨rfl,hl⟩:=hl;exact⟨fs,rfl,hl,by simpa using q⟩
    ·simp at q
   ·rintro⟨fs',e,hl,q⟩
    cases e;simp only[hl,and_self,if_true,ok_some'];exact q
  |_=>simp
theorem zty:Ok (ev Γ (.make c f es) σ h) Q↔Ok (evs Γ es σ h) λrs h1=>Ok (Γ f (.loc h1.length::rs) (h1++[.ins c []])) λr h2=>r=.d .non/\Q (.loc h1.length) h2:=by
 rw[zrq];simp only[ok_bnd,newA,ok_some']
 refine iff_of_eq (congrArg (Ok (evs Γ es σ h)) (funext λrs=>funext λh1=>congrArg (Ok _) (funext λr=>funext λh2=>propext ?_)))
 match r with|.d .non=>simp|.loc _=>simp|.d (.bl _) | .d (.int _) | .d (.str _) | .d (.tup _) | .d (.lst _)=>simp
theorem w_mc:Ok (ev Γ (.mc c m f o es) σ h) Q↔Ok (ev Γ o σ h) λx h1=>Ok (isA x c m h1) λ_ h2=>Ok (evs Γ es σ h2) λrs h3=>Ok (Γ f (x::rs) h3) Q:=by rw[zwf];simp only[ok_bnd]
theorem zvU:Ok (isA (.loc l) c m h) Q↔∃fs,h[l]?=some (.ins c fs)/\fs.lookup m=none/\Q () h:=by
 simp only[isA]
 cases h[l]? with
 |none=>simp
 | some o=>
  cases o with
  | ins c' fs=>
   constructor
   ·intro q
    simp only at q
    split at q
    ·rename_i e
     obtain⟨rfl,e2⟩:=e;exact⟨fs,rfl,Wx.mp e2,by simpa using q⟩
    ·simp at q
   ·rintro⟨fs',e,e2,q⟩
    cases e;simp only[e2,Option.isNone_none,and_self,if_true,ok_some'];exact q
  |_=>simp
theorem znI:Ok (zbm (.loc l) h) Q↔∃c fs,h[l]?=some (.ins c fs)/\Q l h:=by
 simp only[zbm]
 cases h[l]? with|none=>simp|some o=>cases o<;>simp
theorem zu1:Ok (ev Γ (.olen a) σ h) Q↔Ok (ev Γ a σ h) λx h1=>∃l ls,x=.loc l/\h1[l]?=some (.ols ls)/\Q (.d (.int ls.length)) h1:=by
 rw[zrQ];simp only[ok_bnd]
 refine iff_of_eq (congrArg (Ok (ev Γ a σ h)) (funext λx=>funext λh1=>propext ?_))
 cases x with
 |d x=>simp[zbH]
 | loc l=>
  simp only[zbH]
  cases e:h1[l]? with
  |none=>simp[e]
  | some o=>
   cases o with
   |ols ls=>
    simp only[ok_some',R.loc.injEq,ok_ok];constructor
    ·intro q;exact⟨l,ls,rfl,e,q⟩
    ·rintro⟨_,ls',rfl,e',q⟩;rw[e] at e';cases e';exact q
   |_=>simp[e]
theorem zqb:Ok (ev Γ (.call0 f) σ h) Q↔Ok (Γ f [] h) Q:=by rw[zpL]
theorem zvX:Ok (ev Γ (.oix a i) σ h) Q↔Ok (ev Γ a σ h) λx h1=>Ok (ev Γ i σ h1) λy h2=>∃l ls k j,x=.loc l/\h2[l]?=some (.ols ls)/\y=.d (.int k)/\at' ls k=some j/\Q (.loc j) h2:=by
 rw[zuC];simp only[ok_bnd]
 refine iff_of_eq (congrArg (Ok (ev Γ a σ h)) (funext λx=>funext λh1=>congrArg (Ok (ev Γ i σ h1)) (funext λy=>funext λh2=>propext ?_)))
 cases x with
 |d x=>simp[zbH]
 | loc l=>
  simp only[zbH]
  cases e:h2[l]? with
  |none=>simp[e]
  | some o=>
   cases o with
   | ols ls=>
    simp only[ok_some',R.loc.injEq]
    match y with
    |.d (.int k)=>
     simp only
     cases ea:at' ls k with|none=>simp[e,ea]|some j=>simp[e,ea]
    |.loc _=>simp|.d .non | .d (.bl _) | .d (.str _) | .d (.tup _) | .d (.lst _)=>simp
   |_=>simp[e]
theorem zoZ:Ok (meth .append (.loc l) [r] h) Q↔Ok (fz r h) λd h1=>∃xs,h1[l]?=some (.lst xs)/\xs.length<big/\Q (.d .non) (h1.set l (.lst (xs++[d]))):=by
 rw[zjL,ok_bnd]
 constructor<;>intro k<;>refine k.mono λd h1 q=>?_
 ·cases e:h1[l]? with
  |none=>rw[e] at q;simp at q
  | some o=>
   rw[e] at q
   cases o with
   |fro xs=>simp at q|ins _ _=>simp at q|ols _=>simp at q|dic _=>simp at q|tpl _ _ _=>simp at q
   |lst xs=>
    simp only at q
    by_cases c:xs.length<big
    ·rw[if_pos (decide_eq_true c)] at q;exact⟨xs,rfl,c,by simpa using q⟩
    ·rw[if_neg (by simpa using c)] at q;simp at q
 ·obtain ⟨xs,e,c,q⟩:=q
  rw[e];simp only;rw[if_pos (decide_eq_true c)]
  simpa using q
theorem zr3:Ok (zf4 (.loc l) (.int k) d h) Q↔∃xs,h[l]?=some (.lst xs)/\∃j,ixn xs.length k=some j/\Q () (h.set l (.lst (xs.set j d))):=by
 simp only[zf4]
 cases e:h[l]? with
 |none=>simp
 | some o=>
  cases o with
  |fro xs=>simp|ins _ _=>simp|ols _=>simp|dic _=>simp|tpl _ _ _=>simp
  |lst xs=>
   simp only[Z5,Ob.lst.injEq,exists_eq_left']
   cases c:ixn xs.length k with|none=>simp|some j=>simp
theorem zwp:Ok (ex Γ (.whl c b) σ h) Q↔Ok (zcO (tv Γ c) (exs Γ b) zaM σ h) Q:=by rw[zur]
theorem zwu:Ok (ex Γ .stuck σ h) Q↔False:=by rw[zp6];exact ok_none
theorem zvy:Ok (ev Γ .stuck σ h) Q↔False:=by rw[zpi];exact ok_none
theorem zpO:Ok (meth .extend (.loc l) [r] h) Q↔Ok (rd r h) λd h1=>∃ys xs,d=.lst ys/\h1[l]?=some (.lst xs)/\fit (xs.length+ys.length)=true/\Q (.d .non) (h1.set l (.lst (xs++ys))):=by
 rw[zji,ok_bnd];refine iff_of_eq (congrArg (Ok (rd r h)) (funext λd=>funext λh1=>propext ?_))
 cases d with
 | lst ys=>
  simp only[D.lst.injEq,exists_eq_left']
  cases e:h1[l]? with
  |none=>simp
  | some o=>
   cases o with
   |fro xs=>simp|ins _ _=>simp|ols _=>simp|dic _=>simp|tpl _ _ _=>simp
   |lst xs=>
    simp only[Z5,Ob.lst.injEq,exists_eq_left',and_assoc]
    cases c:fit (xs.length+ys.length)<;>simp[c]
 |_=>simp
end
class Cont(α:Type) where
 q:α->Sto->Prop
structure Ask{α:Type}(m:Option (α×Sto))[c:Cont α]:Prop where
 ok:Ok m c.q
theorem ask{α:Type}{m:Option (α×Sto)}{Q:α->Sto->Prop}(k:Ok m Q):@Ask α m ⟨Q⟩:=@Ask.mk α m ⟨Q⟩ k
theorem zvg{α:Type}{m:Option (α×Sto)}{Q:α->Sto->Prop}:Ok m Q↔@Ask α m ⟨Q⟩:=⟨λk=>@Ask.mk α m ⟨Q⟩ k,λk=>@Ask.ok α m ⟨Q⟩ k⟩
theorem ztv{n:Nat}{i:Int}(c:0<=i)(c2:i<n):ixn n i=some i.toNat:=by unfold ixn;rw[if_pos c,if_pos c2]
theorem zt7{α:Type}{xs:List α}{i:Int}{x:α}(c:0<=i)(e:xs[i.toNat]?=some x):at' xs i=some x:=by
 have:=(Z9.mp e).1
 unfold at';rw[ztv c (by omega)];exact e
theorem ze6{xs:List D}{x:D}(c:0<=i)(e:xs[i.toNat]?=some x):idxD (.tup xs) (.int i)=some x:=zt7 c e
theorem zeD:idxD (.tup (x::xs)) (.int 0)=some x:=by refine ze6 (by decide) rfl
theorem zkd:idxD (.tup (x::y::xs)) (.int 1)=some y:=by refine ze6 (by decide) rfl
theorem zqA:idxD (.tup (x::y::z::xs)) (.int 2)=some z:=by refine ze6 (by decide) rfl
theorem zjQ(c:zf2 a b=true):cop .eq a b=some (.bl (a.eqb b)):=if_pos c
theorem zmQ(c:zf2 a b=true):cop .ne a b=some (.bl (!a.eqb b)):=if_pos c
theorem ztD{α:Type}{xs:List α}{a:Int}(c:0<=a):cut xs none (some a)=xs.take a.toNat:=by
 unfold cut sIx;simp only[if_neg (show ¬a<0 by omega),X5,Nat.sub_zero]
 rcases Nat.le_total a.toNat xs.length with k | k
 ·rw[V2 k]
 ·rw[Wg k,Yp,List.take_of_length_le k]
theorem zrO{α:Type}{xs:List α}{x:α}:at' (xs++[x]) (-1)=some x:=by
 have:ixn (xs++[x]).length (-1)=some xs.length:=by
  unfold ixn
  rw[if_neg (by decide),if_pos (by simp;omega)]
  congr 1
  simp;omega
 simp only[at',this];simp
theorem zad:(h++(x::t))[h.length]?=some x:=by rw[ZK (Z2 _),WG];rfl
theorem zan:(h++(x::t)).set h.length y=h++(y::t):=by rw[Yl _ _ (Z2 _),WG];rfl
theorem zgJ{h t:Sto}:(h++t).take h.length=h:=by simp
theorem zav:zaX none h h'=true:=rfl
theorem cutN{α:Type}{xs:List α}{n:Nat}:cut xs none (some (n:Int))=xs.take n:=by rw[ztD (by omega)];rfl
theorem znR{a b:D}(c:b.dep<=60):zf2 a b=true:=by unfold zf2;exact decide_eq_true (by omega)
theorem zu6{a b:D}(c:a.dep<=60):zf2 a b=true:=by unfold zf2;exact decide_eq_true (by omega)
theorem Ok.eq{α:Type}{m:Option (α×Sto)}{a:α}{h:Sto}(k:Ok m λb h1=>b=a/\h1=h):m=some (a,h):=by obtain⟨b,h1,e,rfl,rfl⟩:=k;exact e
theorem zb7{α β:Type}{d:β->Ite}{l:Option Nat}{f:Ite->M (Option α)}{g:β->Option α}{h:Sto}{xs:List β}{Q:List α->Sto->Prop}(e:∀x∈xs,Ok (f (d x) h) λo h1=>o=g x/\h1=h)(s:zaX l h h=true)(q:Q (xs.filterMap g) h):Ok (zbz l f (xs.map d) h) Q:=⟨_,_,zgH (λx hx=>(e x hx).eq) s,q⟩
theorem zk8{l:Nat}(e:h[l]?=some (.lst xs)):zaX (some l) h h=true:=by simp only[zaX,e,Ob.same,Ob.isL,Ob.items,Za];exact D.sames_refl _
theorem zdC{l:Nat}(e:h[l]?=some (.ols ls))(e1:h1[l]?=some (.ols ls)):zaX (some l) h h1=true:=by simp only[zaX,e,e1,Ob.same,beq_self_eq_true]
theorem zl4(o:Ob)(h:Sto)(o1:Ob)(t:Sto):objs (o::h) (o1::t)=(o1.locs==o.locs&&objs h t):=rfl
theorem zdz:∀{h t:Sto},objs h (h++t)=true| [],_=>rfl|o::h,t=>by rw[Yr,zl4,zdz,Wj];exact beq_self_eq_true _
theorem zmS{h:Sto}:objs h h=true:=by
 have:=zdz (h:=h) (t:=[])
 rwa [Zc] at this
theorem zax{h:Sto}:(h++(x::y::t))[h.length+1]?=some y:=by rw[ZK (by omega),Nat.add_sub_cancel_left];rfl
theorem zcc{h:Sto}:(h++(x::y::t)).set (h.length+1) z=h++(x::z::t):=by rw[Yl _ _ (by omega),Nat.add_sub_cancel_left];rfl
theorem zmG{P:List F}{F:IT.F}(e:P[f]?=some F)(er:zaW F.np F.dfl rs=rs')(el:rs'.length=F.np)
  (k:Ok (exs (zaf P n) F.body (rs'.map some++ZU (F.ns-F.np) none) h) λp h1=>match p.1 with
   |.ret r=>Ok (fin h F.all F.keep r h1) Q|.nx=>Ok (fin h F.all F.keep (.d .non) h1) Q
   |_=>False):Ok (zaf P (n+1) f rs h) Q:=by
 obtain⟨⟨fl,σ⟩,h1,ee,q⟩:=k;rw[zbY];simp only[e,er];rw[if_pos el,ee]
 cases fl with|ret r=>exact q|nx=>exact q|brk=>exact q.elim|cnt=>exact q.elim
theorem zwv:zaW np [] rs=rs:=by
 unfold zaW
 split
 ·rfl
 ·simp
theorem zsR{P:List F}{F:IT.F}(e:P[f]?=some F)(ed:F.dfl=[])(el:rs.length=F.np)
  (k:Ok (exs (zaf P n) F.body (rs.map some++ZU (F.ns-F.np) none) h) λp h1=>match p.1 with
   |.ret r=>Ok (fin h F.all F.keep r h1) Q|.nx=>Ok (fin h F.all F.keep (.d .non) h1) Q
   |_=>False):Ok (zaf P (n+1) f rs h) Q:=zmG e (by rw[ed];exact zwv) el k
theorem zuh:Ok (fin h false k (.d x) h1) Q↔objs h h1=true/\Q (.d x) (h1.take h.length):=by
 simp only[fin,ZN,if_false]
 by_cases c:objs h h1=true
 ·rw[if_pos c];simp[fin0,c]
 ·rw[if_neg c];simp[c]
theorem zai:Ok (fin h true k r h1) Q↔Q r h1:=by simp only[fin,if_true,ok_some']
theorem zrX{xs:List D}(q:Q (.d (.lst xs)) h):Ok (fin h false false (.loc h.length) (h++.lst xs::t)) Q:=by simp only[fin,ZN,if_false,zdz,if_true,fin0,zad,YI,zgJ,ok_some'];exact q
end IT
namespace IT
open PySem (Str)
def wO{α:Type}(o:Option α)(Q:α->Prop):Prop:=match o with|some a=>Q a|none=>False
def wB(t:Bool)(A B:Prop):Prop:=match t with|true=>A|false=>B
def wLs(o:Ob)(Q:List D->Prop):Prop:=match o with|.lst xs=>Q xs|.fro xs=>Q xs|.ins _ _=>False|.ols _=>False|.dic _=>False|.tpl _ _ _=>False
def wLw(o:Ob)(Q:List D->Prop):Prop:=match o with|.lst xs=>Q xs|.fro _=>False|.ins _ _=>False|.ols _=>False|.dic _=>False|.tpl _ _ _=>False
def wIn(o:Ob)(Q:Str->List (Str×R)->Prop):Prop:=match o with|.ins c fs=>Q c fs|.lst _=>False|.fro _=>False|.ols _=>False|.dic _=>False|.tpl _ _ _=>False
def wOl(o:Ob)(Q:List Nat->Prop):Prop:=match o with|.ols ls=>Q ls|.lst _=>False|.fro _=>False|.ins _ _=>False|.dic _=>False|.tpl _ _ _=>False
def wDc(o:Ob)(Q:List (D×D)->Prop):Prop:=match o with|.dic kvs=>Q kvs|.tpl _ _ _=>False|.lst _=>False|.fro _=>False|.ins _ _=>False|.ols _=>False
def wDw(o:Ob)(Q:List (D×D)->Prop):Prop:=match o with|.dic kvs=>Q kvs|.tpl _ _ _=>False|.lst _=>False|.fro _=>False|.ins _ _=>False|.ols _=>False
def wKey(r:R)(Q:D->Prop):Prop:=match r with|.d k=>wB (zcM k) (Q k) False|.loc _=>False
def wRd(r:R)(h:Sto)(Q:D->Sto->Prop):Prop:=match r with
 |.d x=>Q x h
 |.loc l=>wO h[l]? λo=>wLs o λxs=>Q (.lst xs) h
def wFz(r:R)(h:Sto)(Q:D->Sto->Prop):Prop:=match r with
 |.d x=>Q x h
 |.loc l=>wO h[l]? λo=>wLs o λxs=>Q (.lst xs) (h.set l (.fro xs))
def wRds:List R->Sto->(List D->Sto->Prop)->Prop
 | [],h,Q=>Q [] h
 |r::rs,h,Q=>wRd r h λd h1=>wRds rs h1 λds h2=>Q (d::ds) h2
def wFzs:List R->Sto->(List D->Sto->Prop)->Prop
 | [],h,Q=>Q [] h
 |r::rs,h,Q=>wFz r h λd h1=>wFzs rs h1 λds h2=>Q (d::ds) h2
def wBl(r:R)(Q:Bool->Prop):Prop:=match r with|.d (.bl b)=>Q b|_=>False
def wInt(r:R)(Q:Int->Prop):Prop:=match r with|.d (.int b)=>Q b|_=>False
def wPl(r:R)(Q:Nat->Prop):Prop:=match r with|.loc l=>Q l|.d _=>False
def wTup(d:D)(Q:List D->Prop):Prop:=match d with|.tup xs=>Q xs|_=>False
mutual
noncomputable def wT:Tg->R->Env->Sto->(Env->Sto->Prop)->Prop
 |.name i,r,σ,h,Q=>Q (σ.set i (some r)) h
 |.tup ts,r,σ,h,Q=>wRd r h λd h1=>wTup d λxs=>wTs ts xs σ h1 Q
noncomputable def wTs:List Tg->List D->Env->Sto->(Env->Sto->Prop)->Prop
 | [],xs,σ,h,Q=>match xs with
  | []=>Q σ h|_::_=>False
 |t::ts,xs,σ,h,Q=>match xs with
  |x::xs=>wT t (.d x) σ h λσ' h1=>wTs ts xs σ' h1 Q
  | []=>False
end
def wBI(tg:Tg)(x:Ite)(σ:Env)(h:Sto)(Q:Env->Sto->Prop):Prop:=match x with
 |.r x=>wT tg x σ h Q
 |.en i x=>match tg with
  |.tup [a,b]=>wT a (.d (.int i)) σ h λσ' h1=>wT b x σ' h1 Q
  |_=>False
def wWk(r:R)(h:Sto)(Q:Wk->Sto->Prop):Prop:=match r with
 |.d (.tup xs)=>Q ⟨xs.map dI,none⟩ h|.d (.lst xs)=>Q ⟨xs.map dI,none⟩ h|.d _=>False
 |.loc l=>wO h[l]? λo=>match o with
  |.lst xs=>Q ⟨xs.map dI,some l⟩ h|.fro xs=>Q ⟨xs.map dI,some l⟩ h|.ols ls=>Q ⟨ls.map λl=>.r (.loc l),some l⟩ h|.ins _ _=>False|.dic _=>False|.tpl _ _ _=>False
def wEn(r:R)(h:Sto)(Q:Wk->Sto->Prop):Prop:=match r with
 |.loc l=>wWk (.loc l) h λw h2=>wO (zat 0 w.xs) λl=>Q ⟨l,w.l⟩ h2
 |.d (.lst xs)=>wO (zat 0 (xs.map dI)) λl=>Q ⟨l,none⟩ h
 |.d _=>False
def wMe(m:Me)(x:R)(rs:List R)(h:Sto)(Q:R->Sto->Prop):Prop:=match m,rs with
 |.append,[r]=>wPl x λl=>wFz r h λd h1=>wO h1[l]? λo=>wLw o λxs=>xs.length<big/\Q (.d .non) (h1.set l (.lst (xs++[d])))
 |.extend,[r]=>wPl x λl=>wRd r h λd h1=>wO (match d with | .lst ys=>some ys | _=>none) λys=>wO h1[l]? λo=>wLw o λxs=>fit (xs.length+ys.length)=true/\Q (.d .non) (h1.set l (.lst (xs++ys)))
 |m,rs=>Ok (meth m x rs h) Q
mutual
noncomputable def wE(Γ:Calls):E->Env->Sto->(R->Sto->Prop)->Prop
 |.con d,_,h,Q=>Q (.d d) h
 |.var i,σ,h,Q=>wO σ[i]? λo=>wO o λr=>Q r h
 |.bin o a b,σ,h,Q=>wE Γ a σ h λx h1=>wE Γ b σ h1 λy h2=>wRd x h2 λx h3=>wRd y h3 λy h4=>wO (bop o x y) λz=>Q (.d z) h4
 |.neg a,σ,h,Q=>wE Γ a σ h λx h1=>wInt x λi=>Q (.d (.int (-i))) h1
 |.cmp o a b,σ,h,Q=>wE Γ a σ h λx h1=>wE Γ b σ h1 λy h2=>wRd x h2 λx h3=>wRd y h3 λy h4=>wO (cop o x y) λz=>Q (.d z) h4
 |.and a b,σ,h,Q=>wE Γ a σ h λx h1=>wBl x λc=>wB c (wE Γ b σ h1 Q) (Q (.d (.bl false)) h1)
 |.or a b,σ,h,Q=>wE Γ a σ h λx h1=>wBl x λc=>wB c (Q (.d (.bl true)) h1) (wE Γ b σ h1 Q)
 |.not a,σ,h,Q=>wE Γ a σ h λx h1=>wRd x h1 λd h2=>wO (tru d) λb=>Q (.d (.bl (!b))) h2
 |.ife c a b,σ,h,Q=>wC Γ c σ h λt h1=>wB t (wE Γ a σ h1 Q) (wE Γ b σ h1 Q)
 |.tup es,σ,h,Q=>wEs Γ es σ h λrs h1=>wFzs rs h1 λds h2=>Q (.d (.tup ds)) h2
 |.lst m l,σ,h,Q=>wL Γ l σ h λxs h1=>match m with
  |true=>Q (.loc h1.length) (h1++[.lst xs])|false=>Q (.d (.lst xs)) h1
 |.idx a i,σ,h,Q=>wE Γ a σ h λx h1=>wE Γ i σ h1 λy h2=>wRd x h2 λx h3=>wRd y h3 λy h4=>wO (idxD x y) λz=>Q (.d z) h4
 |.sli a lo hi,σ,h,Q=>wE Γ a σ h λx h1=>wE Γ lo σ h1 λl h2=>wE Γ hi σ h2 λu h3=>wRd x h3 λx h4=>wRd l h4 λl h5=>wRd u h5 λu h6=>wO (sliD x l u) λz=>Q (.d z) h6
 |.call f es,σ,h,Q=>wEs Γ es σ h λrs h1=>@Ask _ (Γ f rs h1) ⟨Q⟩
 |.bi b es,σ,h,Q=>wEs Γ es σ h λrs h1=>wRds rs h1 λds h2=>wO (biD b ds) λz=>Q (.d z) h2
 |.me m o es,σ,h,Q=>wE Γ o σ h λx h1=>wPl x λl=>wO h1[l]? λo=>wLs o λ_=>wEs Γ es σ h1 λrs h3=>wMe m (.loc l) rs h3 Q
 |.glo d,_,h,Q=>Q (.d d) h
 |.isi t e,σ,h,Q=>wE Γ e σ h λr h1=>wRd r h1 λd h2=>Q (.d (.bl (isiD t d))) h2
 |.lm m o a,σ,h,Q=>wE Γ o σ h λx h0=>wRd x h0 λ_ h1=>wE Γ a σ h1 λy h2=>wRd x h2 λx h3=>wRd y h3 λy h4=>wO (lmD m x y) λz=>Q (.d z) h4
 |.fld o f,σ,h,Q=>wE Γ o σ h λx h1=>wPl x λl=>wO h1[l]? λo=>wIn o λ_ fs=>wO (fs.lookup f) λr=>Q r h1
 |.make c f es,σ,h,Q=>wEs Γ es σ h λrs h1=>@Ask _ (Γ f (.loc h1.length::rs) (h1++[.ins c []])) ⟨λr h2=>r=.d .non/\Q (.loc h1.length) h2⟩
 |.mc c m f o es,σ,h,Q=>wE Γ o σ h λx h1=>wPl x λl=>wO h1[l]? λo=>wIn o λc' fs=>c'=c/\fs.lookup m=none/\wEs Γ es σ h1 λrs h3=>@Ask _ (Γ f (.loc l::rs) h3) ⟨Q⟩
 |.lstO tg it c el,σ,h,Q=>wI Γ it σ h λw h1=>@Ask _ (zbz w.l (zns Γ tg c el σ) w.xs h1) ⟨λls h2=>Q (.loc h2.length) (h2++[.ols ls])⟩
 |.oix a i,σ,h,Q=>wE Γ a σ h λx h1=>wE Γ i σ h1 λy h2=>wPl x λl=>wO h2[l]? λo=>wOl o λls=>wInt y λk=>wO (at' ls k) λj=>Q (.loc j) h2
 |.olen a,σ,h,Q=>wE Γ a σ h λx h1=>wPl x λl=>wO h1[l]? λo=>wOl o λls=>Q (.d (.int ls.length)) h1
 |.call0 f,_,h,Q=>@Ask _ (Γ f [] h) ⟨Q⟩
 |.din neg k d,σ,h,Q=>wE Γ k σ h λy h1=>wE Γ d σ h1 λx h2=>wPl x λl=>wO h2[l]? λo=>wDc o λkvs=>wKey y λk=>Q (.d (.bl (if neg then !(dGet k kvs).isSome else(dGet k kvs).isSome))) h2
 |.ddx d k,σ,h,Q=>wE Γ d σ h λx h1=>wE Γ k σ h1 λy h2=>wPl x λl=>wO h2[l]? λo=>wDc o λkvs=>wKey y λk=>wO (dGet k kvs) λv=>Q (.d v) h2
 |.dn1 k v,σ,h,Q=>wE Γ k σ (h++[.dic []]) λy h1=>wE Γ v σ h1 λr h2=>wFz r h2 λd h3=>wKey y λk=>wO h3[h.length]? λo=>wDw o λkvs=>kvs.length<big/\Q (.loc h.length) (h3.set h.length (.dic (dPut k d kvs)))
 |.tpl a b c,σ,h,Q=>wE Γ a σ h λx h1=>wE Γ b σ h1 λy h2=>wE Γ c σ h2 λz h3=>Ok (tNew x y z h3) Q
 |.tix a k,σ,h,Q=>wE Γ a σ h λx h1=>Ok (tIx x k h1) Q
 |.ist e,σ,h,Q=>wE Γ e σ h λr h1=>Ok (rdT r h1) λd h2=>Q (.d (.bl (isiD .tuple d))) h2
 |.tne a b,σ,h,Q=>wE Γ a σ h λx h1=>wE Γ b σ h1 λy h2=>Ok (rdT x h2) λx h3=>Ok (rdT y h3) λy h4=>wO (cop .ne x y) λz=>Q (.d z) h4
 |.callk f es k d,σ,h,Q=>wEs Γ es σ h λrs h1=>wE Γ k σ h1 λr h2=>@Ask _ (Γ f (rs++[.d d,r]) h2) ⟨Q⟩
 |.stuck,_,_,_=>False
noncomputable def wEs(Γ:Calls):List E->Env->Sto->(List R->Sto->Prop)->Prop
 | [],_,h,Q=>Q [] h
 |e::es,σ,h,Q=>wE Γ e σ h λr h1=>wEs Γ es σ h1 λrs h2=>Q (r::rs) h2
noncomputable def wC(Γ:Calls):T->Env->Sto->(Bool->Sto->Prop)->Prop
 |.val e,σ,h,Q=>wE Γ e σ h λr h1=>wRd r h1 λd h2=>wO (tru d) λt=>Q t h2
 |.and a b,σ,h,Q=>wC Γ a σ h λt h1=>wB t (wC Γ b σ h1 Q) (Q false h1)
 |.or a b,σ,h,Q=>wC Γ a σ h λt h1=>wB t (Q true h1) (wC Γ b σ h1 Q)
 |.not a,σ,h,Q=>wC Γ a σ h λt h1=>Q (!t) h1
noncomputable def wCs(Γ:Calls):List T->Env->Sto->(Bool->Sto->Prop)->Prop
 | [],_,h,Q=>Q true h
 |c::cs,σ,h,Q=>wC Γ c σ h λt h1=>wB t (wCs Γ cs σ h1 Q) (Q false h1)
noncomputable def wL(Γ:Calls):L->Env->Sto->(List D->Sto->Prop)->Prop
 |.disp es,σ,h,Q=>wEs Γ es σ h λrs h1=>wFzs rs h1 Q
 |.comp tg it c el,σ,h,Q=>wI Γ it σ h λw h1=>@Ask _ (zbz w.l (zpb Γ tg c el σ) w.xs h1) ⟨Q⟩
 |.of e,σ,h,Q=>wE Γ e σ h λr h1=>wRd r h1 λd h2=>wO (items d) λxs=>Q xs h2
 |.cat a b,σ,h,Q=>wE Γ a σ h λx h1=>wE Γ b σ h1 λy h2=>wRd x h2 λx h3=>wRd y h3 λy h4=>wO (catD x y) λxs=>Q xs h4
 |.rvd e,σ,h,Q=>wE Γ e σ h λr h1=>wRd r h1 λd h2=>wO (revD d) λxs=>Q xs h2
noncomputable def wI(Γ:Calls):I->Env->Sto->(Wk->Sto->Prop)->Prop
 |.seq e,σ,h,Q=>wE Γ e σ h λr h1=>wWk r h1 Q
 |.rng e,σ,h,Q=>wE Γ e σ h λr h1=>wInt r λn=>(-(2^62)<=n/\n<=16777216)/\Q ⟨(zb5 0 n.toNat).map dI,none⟩ h1
 |.enu e,σ,h,Q=>wE Γ e σ h λr h1=>wEn r h1 Q
end
mutual
noncomputable def wS(Γ:Calls):S->Env->Sto->(Fl×Env->Sto->Prop)->Prop
 |.asg tg e,σ,h,Q=>wE Γ e σ h λr h1=>wT tg r σ h1 λσ' h2=>Q (.nx,σ') h2
 |.setI o i e,σ,h,Q=>wE Γ e σ h λr h1=>wE Γ o σ h1 λx h2=>wE Γ i σ h2 λy h3=>wFz r h3 λd h4=>wInt y λk=>wPl x λl=>wO h4[l]? λo=>wLw o λxs=>wO (ixn xs.length k) λj=>Q (.nx,σ) (h4.set l (.lst (xs.set j d)))
 |.setF o f e,σ,h,Q=>wE Γ e σ h λr h1=>wE Γ o σ h1 λx h2=>wPl x λl=>wO h2[l]? λob=>wIn ob λc fs=>(fs.lookup f).isSome=true/\fs.length<900/\Q (.nx,σ) (h2.set l (.ins c (putF f r fs)))
 |.setN c o f e,σ,h,Q=>wE Γ e σ h λr h1=>wE Γ o σ h1 λx h2=>wPl x λl=>wO h2[l]? λob=>wIn ob λc' fs=>c'=c/\fs.length<900/\Q (.nx,σ) (h2.set l (.ins c' (putF f r fs)))
 |.exp e,σ,h,Q=>wE Γ e σ h λ_ h1=>Q (.nx,σ) h1
 |.ife c a b,σ,h,Q=>wC Γ c σ h λt h1=>wB t (wSs Γ a σ h1 Q) (wSs Γ b σ h1 Q)
 |.for tg it b,σ,h,Q=>wI Γ it σ h λw h1=>@Ask _ (loop w.l (λx σ=>bnd (zaw tg x σ) λσ'=>exs Γ b σ') w.xs σ h1) ⟨Q⟩
 |.ret e,σ,h,Q=>wE Γ e σ h λr h1=>Q (.ret r,σ) h1
 |.retN,σ,h,Q=>Q (.ret (.d .non),σ) h|.brk,σ,h,Q=>Q (.brk,σ) h|.cnt,σ,h,Q=>Q (.cnt,σ) h|.whl c b,σ,h,Q=>@Ask _ (zcO (tv Γ c) (exs Γ b) zaM σ h) ⟨Q⟩
 |.setD o k e,σ,h,Q=>wE Γ e σ h λr h1=>wE Γ o σ h1 λx h2=>wE Γ k σ h2 λy h3=>wFz r h3 λd h4=>wKey y λk=>wPl x λl=>wO h4[l]? λob=>wDw ob λkvs=>kvs.length<big/\Q (.nx,σ) (h4.set l (.dic (dPut k d kvs)))
 |.stuck,_,_,_=>False
noncomputable def wSs(Γ:Calls):List S->Env->Sto->(Fl×Env->Sto->Prop)->Prop
 | [],σ,h,Q=>Q (.nx,σ) h
 |s::r,σ,h,Q=>wS Γ s σ h λp h1=>match p.1 with
  |.nx=>wSs Γ r p.2 h1 Q|.ret r=>Q (.ret r,p.2) h1|.brk=>Q (.brk,p.2) h1|.cnt=>Q (.cnt,p.2) h1
end
theorem zhw{α:Type}{o:Option α}{Q:α->Prop}:(∃a,o=some a/\Q a)=wO o Q:=by cases o<;>simp[wO]
theorem zmu:((t=true->A)/\(t=false->B))=wB t A B:=by cases t<;>simp[wB]
theorem zrk:((t=false->B)/\(t=true->A))=wB t A B:=by cases t<;>simp[wB]
section
variable {h:Sto}
theorem qRd{r:R}{Q:D->Sto->Prop}:Ok (rd r h) Q=wRd r h Q:=by
 cases r with
 |d x=>exact propext ok_rd_d
 |loc l=>
  rw[propext zpF];simp only[wRd,<-zhw]
  congr;funext o;congr;cases o<;>simp[wLs,Ob.isL,Ob.items]
theorem qFz{r:R}{Q:D->Sto->Prop}:Ok (fz r h) Q=wFz r h Q:=by
 cases r with
 |d x=>exact propext ok_fz_d
 |loc l=>
  rw[propext zoC];simp only[wFz,<-zhw]
  congr;funext o;congr;cases o<;>simp[wLs,Ob.isL,Ob.items]
theorem qRds:∀{rs:List R} {h:Sto} {Q:List D->Sto->Prop},Ok (rds rs h) Q=wRds rs h Q| [],h,Q=>propext zmO|r::rs,h,Q=>by rw[propext zlG,wRds,qRd];simp only[qRds]
theorem qFzs:∀{rs:List R} {h:Sto} {Q:List D->Sto->Prop},Ok (fzs rs h) Q=wFzs rs h Q| [],h,Q=>propext zmv|r::rs,h,Q=>by rw[propext zlg,wFzs,qFz];simp only[qFzs]
mutual
theorem qT:∀(tg:Tg) (r:R) (σ:Env) (h:Sto) (Q:Env->Sto->Prop),Ok (zaY tg r σ h) Q=wT tg r σ h Q
 |.name i,r,σ,h,Q=>by rw[propext zrx,wT]
 |.tup ts,r,σ,h,Q=>by
  rw[propext zub,wT,qRd]
  congr;funext d h1
  cases d<;>simp[wTup,qTs ts]
theorem qTs:∀(ts:List Tg) (xs:List D) (σ:Env) (h:Sto) (Q:Env->Sto->Prop),Ok (bindTs ts xs σ h) Q=wTs ts xs σ h Q| [],[],σ,h,Q=>by rw[propext zof,wTs]| [],_::_,σ,h,Q=>by simp[bindTs,wTs]|t::ts,[],σ,h,Q=>by simp[bindTs,wTs]|t::ts,x::xs,σ,h,Q=>by rw[propext zla,qT t];simp only[qTs ts,wTs]
end
theorem qBI:Ok (zaw tg x σ h) Q=wBI tg x σ h Q:=by
 cases x with
 |r x=>rw[propext w_bI,qT];rfl
 |en i x=>
  match tg with|.tup [a,b]=>rw[propext zvO,qT];simp only[qT];rfl|.name _=>simp[zaw,wBI]|.tup []=>simp[zaw,wBI]|.tup [_]=>simp[zaw,wBI]|.tup (_::_::_::_)=>simp[zaw,wBI]
theorem qWk{r:R}{Q:Wk->Sto->Prop}:Ok (zbu r h) Q=wWk r h Q:=by
 match r with|.d (.tup xs)=>exact propext zpu|.d (.lst xs)=>exact propext zpf|.d (.str _)=>simp[zbu,zbH,wkOf,items,wWk]|.d .non=>simp[zbu,zbH,wkOf,items,wWk]|.d (.bl _)=>simp[zbu,zbH,wkOf,items,wWk]|.d (.int _)=>simp[zbu,zbH,wkOf,items,wWk]|.loc l=>rw[propext zpQ,zhw];rfl
theorem qEn{r:R}{Q:Wk->Sto->Prop}:(isLs r=true/\Ok (zbu r h) λw h2=>∃l,zat 0 w.xs=some l/\Q ⟨l,w.l⟩ h2)=wEn r h Q:=by
 simp only[qWk,zhw]
 match r with|.loc l=>simp[isLs,wEn]|.d (.lst xs)=>simp[isLs,wEn,wWk]|.d .non=>simp[isLs,wEn]|.d (.bl _)=>simp[isLs,wEn]|.d (.int _)=>simp[isLs,wEn]|.d (.str _)=>simp[isLs,wEn]|.d (.tup _)=>simp[isLs,wEn]
theorem zr9{l:Nat}:(∃xs,h[l]?=some (.lst xs)/\p xs)=wO h[l]? λo=>wLw o p:=by
 cases h[l]? with|none=>simp[wO]|some o=>cases o<;>simp[wO,wLw]
theorem qMe{m:Me}{l:Nat}:Ok (meth m (.loc l) rs h) Q=wMe m (.loc l) rs h Q:=by
 unfold wMe
 split
 ·rw[propext zoZ,qFz];simp only[wPl,zr9]
 ·rw [propext zpO,qRd]
  simp only[wPl]
  congr;funext d h1
  cases d with|lst ys=>simp only[D.lst.injEq,exists_and_left,exists_eq_left',zr9,wO]|_=>simp[wO]
 ·rfl
end
theorem zsv{h:Sto}{l:Nat}{p:Str->List (Str×R)->Prop}:(∃c fs,h[l]?=some (.ins c fs)/\p c fs)=wO h[l]? λo=>wIn o p:=by
 cases h[l]? with
 |none=>simp[wO]
 | some o=>
  cases o with
  |ins c fs=>
   simp only[wO,wIn,eq_iff_iff];constructor
   ·rintro⟨_,_,e,q⟩;cases e;exact q
   ·intro q;exact⟨_,_,rfl,q⟩
  |_=>simp[wO,wIn]
theorem zqY{h:Sto}{l:Nat}{c:Str}{p:List (Str×R)->Prop}:(∃fs,h[l]?=some (.ins c fs)/\p fs)=wO h[l]? λo=>wIn o λc' fs=>c'=c/\p fs:=by
 cases h[l]? with
 |none=>simp[wO]
 | some o=>
  cases o with
  |ins c' fs=>
   simp only[wO,wIn,eq_iff_iff];constructor
   ·rintro⟨_,e,q⟩;cases e;exact⟨rfl,q⟩
   ·rintro⟨rfl,q⟩;exact⟨_,rfl,q⟩
  |_=>simp[wO,wIn]
theorem zqM{x:R}{p:Int->Prop}:(∃i,x=.d (.int i)/\p i)=wInt x p:=by
 match x with|.d (.int i)=>simp[wInt]|.loc _ | .d .non | .d (.bl _) | .d (.str _) | .d (.tup _) | .d (.lst _)=>simp[wInt]
theorem zuJ{x:R}{p:Bool->Prop}:(∃i,x=.d (.bl i)/\p i)=wBl x p:=by
 match x with|.d (.bl i)=>simp[wBl]|.loc _ | .d .non | .d (.int _) | .d (.str _) | .d (.tup _) | .d (.lst _)=>simp[wBl]
theorem zwo{x:R}{f:Str}{h:Sto}{Q:R->Sto->Prop}:Ok (getA x f h) Q=wPl x λl=>wO h[l]? λo=>wIn o λ_ fs=>wO (fs.lookup f) λr=>Q r h:=by
 cases x with|d x=>simp[getA,wPl]|loc l=>rw[propext zuK];simp only[zhw];rw[zsv];rfl
theorem ztf{x:R}{h:Sto}{Q:Unit->Sto->Prop}:Ok (zfq x h) Q=wPl x λl=>wO h[l]? λo=>wLs o λ_=>Q () h:=by
 cases x with
 |d x=>simp[zfq,wPl]
 |loc l=>
  rw[propext zr1];simp only[wPl,<-zhw]
  congr;funext o;congr;cases o<;>simp[wLs,Ob.isL]
theorem qIsA{x:R}{c m:Str}{h:Sto}{Q:Unit->Sto->Prop}:Ok (isA x c m h) Q=wPl x λl=>wO h[l]? λo=>wIn o λc' fs=>c'=c/\fs.lookup m=none/\Q () h:=by
 cases x with|d x=>simp[isA,wPl]|loc l=>rw[propext zvU,zqY];rfl
theorem zvS{x:R}{f:Str}{v:R}{h:Sto}{Q:Unit->Sto->Prop}:Ok (setA x f v h) Q=wPl x λl=>wO h[l]? λo=>wIn o λc fs=>(fs.lookup f).isSome=true/\fs.length<900/\Q () (h.set l (.ins c (putF f v fs))):=by
 cases x with|d x=>simp[setA,wPl]|loc l=>rw[propext ztp,zsv];rfl
theorem zvZ{x:R}{c f:Str}{v:R}{h:Sto}{Q:Unit->Sto->Prop}:Ok (setN x c f v h) Q=wPl x λl=>wO h[l]? λo=>wIn o λc' fs=>c'=c/\fs.length<900/\Q () (h.set l (.ins c' (putF f v fs))):=by
 cases x with
 |d x=>simp[setN,wPl]
 | loc l=>
  rw[propext zvi,zqY];simp only[wPl]
  cases h[l]? with
  |none=>rfl
  | some o=>
   cases o with
   |ins c' fs=>
    simp only[wO,wIn];apply propext;constructor
    ·rintro⟨rfl,q⟩;exact⟨rfl,q⟩
    ·rintro⟨rfl,q⟩;exact⟨rfl,q⟩
   |_=>rfl
theorem ztF{x:R}{k:D}{d:D}{h:Sto}{Q:Unit->Sto->Prop}:Ok (zf4 x k d h) Q=wInt (.d k) λk=>wPl x λl=>wO h[l]? λo=>wLw o λxs=>wO (ixn xs.length k) λj=>Q () (h.set l (.lst (xs.set j d))):=by
 cases x with
 |d x=>cases k<;>simp[zf4,wPl,wInt]
 |loc l=>
  cases k with|int k=>rw[propext zr3];simp only[zhw];rw[zr9];rfl|_=>simp[zf4,wInt]
theorem zq1{h:Sto}{x:R}{p:Nat->List Nat->Prop}:(∃l ls,x=.loc l/\h[l]?=some (.ols ls)/\p l ls)=wPl x λl=>wO h[l]? λo=>wOl o λls=>p l ls:=by
 cases x with
 |d x=>simp[wPl]
 | loc l=>
  simp only[R.loc.injEq,wPl]
  cases e:h[l]? with
  |none=>
   simp only[wO,eq_iff_iff,iff_false]
   rintro⟨_,ls,rfl,e2,_⟩
   rw[e] at e2;cases e2
  | some o=>
   simp only[wO,eq_iff_iff];constructor
   ·rintro⟨_,ls,rfl,e2,q⟩
    rw[e] at e2;cases e2
    exact q
   ·intro q
    cases o with|ols ls=>exact⟨l,ls,rfl,e,q⟩|_=>exact q.elim
theorem qOix{x y:R}{h:Sto}{Q:R->Sto->Prop}:(∃l ls k j,x=.loc l/\h[l]?=some (.ols ls)/\y=.d (.int k)/\at' ls k=some j/\Q (.loc j) h)=wPl x λl=>wO h[l]? λo=>wOl o λls=>wInt y λk=>wO (at' ls k) λj=>Q (.loc j) h:=by
 rw[<-zq1 (p:=λl ls=>wInt y λk=>wO (at' ls k) λj=>Q (.loc j) h)];simp only[<-zqM,<-zhw,eq_iff_iff];constructor
 ·rintro⟨l,ls,k,j,a,b,c,d,q⟩;exact⟨l,ls,a,b,k,c,j,d,q⟩
 ·rintro⟨l,ls,a,b,k,c,j,d,q⟩;exact⟨l,ls,k,j,a,b,c,d,q⟩
theorem qOpt{α:Type}{o:Option α}{h:Sto}{Q:α->Sto->Prop}:Ok (opt o h) Q=wO o λa=>Q a h:=by rw[propext ok_opt,zhw]
theorem zry{y:R}{h:Sto}{p:Int->Sto->Prop}:(wRd y h λd h1=>wInt (.d d) λk=>p k h1)=wInt y λk=>p k h:=by
 match y with
 |.d (.int i)=>rfl|.d .non | .d (.bl _) | .d (.str _) | .d (.tup _) | .d (.lst _)=>rfl
 |.loc l=>
  simp only[wRd,wInt]
  cases h[l]? with|none=>rfl|some o=>cases o<;>rfl
theorem qMe'{m:Me}{x:R}{Γ:Calls}{h:Sto}{W:Sto->(List R->Sto->Prop)->Prop}{Q:R->Sto->Prop}:(wPl x λl=>wO h[l]? λo=>wLs o λ_=>W h λrs h3=>Ok (meth m x rs h3) Q)=(wPl x λl=>wO h[l]? λo=>wLs o λ_=>W h λrs h3=>wMe m (.loc l) rs h3 Q):=by
 cases x with|d x=>rfl|loc l=>simp only[wPl,qMe]
theorem zdx{α:Type}{m:Option (α×Sto)}{Q:α->Sto->Prop}:Ok m Q=@Ask α m ⟨Q⟩:=propext zvg
theorem zt2{c m:Str}{x:R}{f:Nat}{Γ:Calls}{h:Sto}{W:Sto->(List R->Sto->Prop)->Prop}{Q:R->Sto->Prop}:(wPl x λl=>wO h[l]? λo=>wIn o λc' fs=>c'=c/\fs.lookup m=none/\W h λrs h3=>Ok (Γ f (x::rs) h3) Q)=(wPl x λl=>wO h[l]? λo=>wIn o λc' fs=>c'=c/\fs.lookup m=none/\W h λrs h3=>@Ask _ (Γ f (.loc l::rs) h3) ⟨Q⟩):=by
 cases x with|d x=>rfl|loc l=>simp only[wPl,zdx]
theorem qDRd{x:R}{h:Sto}{Q:List (D×D)->Sto->Prop}:Ok (dRd x h) Q=wPl x λl=>wO h[l]? λo=>wDc o λkvs=>Q kvs h:=by
 cases x with
 |d x=>simp[dRd,wPl]
 |loc l=>
  simp only[dRd,wPl]
  cases h[l]? with|none=>simp[wO]|some o=>cases o<;>simp[wO,wDc]
theorem qKRd{x:R}{h:Sto}{Q:D->Sto->Prop}:Ok (kRd x h) Q=wKey x λk=>Q k h:=by
 cases x with
 |loc l=>simp[kRd,wKey]
 |d k=>
  simp only[kRd,wKey]
  cases zcM k<;>simp[wB]
theorem zvl{x:R}{k v:D}{h:Sto}{Q:Unit->Sto->Prop}:Ok (dSet x k v h) Q=wPl x λl=>wO h[l]? λo=>wDw o λkvs=>kvs.length<big/\Q () (h.set l (.dic (dPut k v kvs))):=by
 cases x with
 |d x=>simp[dSet,wPl]
 | loc l=>
  simp only[dSet,wPl]
  cases h[l]? with
  |none=>simp[wO]
  | some o=>
   cases o with
   |dic kvs=>
    simp only[wO,wDw]
    by_cases c:kvs.length<big
    ·simp[c]
    ·simp[c]
   |_=>simp[wO,wDw]
theorem qIf{α:Type}{t:Bool}{x y:M α}{h:Sto}{Q:α->Sto->Prop}:Ok ((if t=true then x else y) h) Q=wB t (Ok (x h) Q) (Ok (y h) Q):=by cases t<;>rfl
mutual
theorem qE(Γ:Calls):∀(e:E) (σ:Env) (h:Sto) (Q:R->Sto->Prop),Ok (ev Γ e σ h) Q=wE Γ e σ h Q
 |.con d,σ,h,Q=>propext ok_ok
 |.var i,σ,h,Q=>by
  refine(propext zvK).trans ?_;show _=wO σ[i]? λo=>wO o λr=>Q r h
  cases σ[i]? with|none=>simp[wO]|some o=>cases o<;>simp[wO]
 |.bin o a b,σ,h,Q=>(propext ok_bnd).trans (by simp only[ok_bnd,qE Γ a,qE Γ b,qRd,qOpt,ok_ok];rfl)|.neg a,σ,h,Q=>by rw[propext zwm,qE Γ a];simp only[zqM];rfl|.cmp o a b,σ,h,Q=>(propext ok_bnd).trans (by simp only[ok_bnd,qE Γ a,qE Γ b,qRd,qOpt,ok_ok];rfl)|.and a b,σ,h,Q=>by rw[propext zv4,qE Γ a];simp only[qE Γ b,zuJ,zmu];rfl|.or a b,σ,h,Q=>by rw[propext w_or,qE Γ a];simp only[qE Γ b,zuJ,zrk];rfl|.not a,σ,h,Q=>(propext ok_bnd).trans (by simp only[ok_bnd,qE Γ a,qRd,qOpt,ok_ok];rfl)|.ife c a b,σ,h,Q=>(propext ok_bnd).trans (by simp only[qC Γ c,qIf,qE Γ a,qE Γ b];rfl)|.tup es,σ,h,Q=>(propext ok_bnd).trans (by simp only[ok_bnd,qEs Γ es,qFzs,ok_ok];rfl)|.lst true l,σ,h,Q=>(propext ok_bnd).trans (by simp only[qL Γ l,if_true,alloc,ok_some'];rfl)|.lst false l,σ,h,Q=>(propext ok_bnd).trans (by simp only[qL Γ l,ZN,if_false,ok_ok];rfl)|.idx a b,σ,h,Q=>(propext ok_bnd).trans (by simp only[ok_bnd,qE Γ a,qE Γ b,qRd,qOpt,ok_ok];rfl)|.sli a b c,σ,h,Q=>(propext ok_bnd).trans (by simp only[ok_bnd,qE Γ a,qE Γ b,qE Γ c,qRd,qOpt,ok_ok];rfl)|.call f es,σ,h,Q=>(propext ok_bnd).trans (by simp only[ok_bnd,qEs Γ es,zdx,ok_ok];rfl)|.bi b es,σ,h,Q=>(propext ok_bnd).trans (by simp only[ok_bnd,qEs Γ es,qRds,qOpt,ok_ok];rfl)|.me m o es,σ,h,Q=>by rw[propext w_me,qE Γ o];simp only[ztf,qEs Γ es,qMe' (Γ:=Γ) (W:=λh Q=>wEs Γ es σ h Q)];rfl|.glo d,σ,h,Q=>propext ok_ok|.isi t e,σ,h,Q=>(propext ok_bnd).trans (by simp only[ok_bnd,qE Γ e,qRd,ok_ok];rfl)|.lm m o a,σ,h,Q=>(propext ok_bnd).trans (by simp only[ok_bnd,qE Γ o,qE Γ a,qRd,qOpt,ok_ok];rfl)|.fld o f,σ,h,Q=>(propext ok_bnd).trans (by simp only[ok_bnd,qE Γ o,zwo,ok_ok];rfl)|.make c f es,σ,h,Q=>by rw[propext zty,qEs Γ es];simp only[zdx];rfl|.mc c m f o es,σ,h,Q=>by rw[propext w_mc,qE Γ o];simp only[qIsA,qEs Γ es,zt2 (Γ:=Γ) (W:=λh Q=>wEs Γ es σ h Q)];rfl|.lstO tg it c el,σ,h,Q=>by rw[propext ztX,qI Γ it];simp only[zdx];rfl|.oix a b,σ,h,Q=>by rw[propext zvX,qE Γ a];simp only[qE Γ b,qOix];rfl|.olen a,σ,h,Q=>by rw[propext zu1,qE Γ a];simp only[zq1];rfl|.call0 f,σ,h,Q=>by rw[propext zqb,zdx];rfl|.din neg k d,σ,h,Q=>(propext ok_bnd).trans (by simp only[ok_bnd,qE Γ k,qE Γ d,qDRd,qKRd,ok_ok];rfl)|.ddx d k,σ,h,Q=>(propext ok_bnd).trans (by simp only[ok_bnd,qE Γ k,qE Γ d,qDRd,qKRd,qOpt,ok_ok];rfl)|.dn1 k v,σ,h,Q=>(propext ok_bnd).trans (by simp only[ok_bnd,dNew,ok_some',qE Γ k,qE Γ v,qFz,qKRd,zvl,wPl,ok_ok];rfl)|.tpl a b c,σ,h,Q=>(propext ok_bnd).trans (by simp only[ok_bnd,qE Γ a,qE Γ b,qE Γ c];rfl)|.tix a k,σ,h,Q=>(propext ok_bnd).trans (by simp only[qE Γ a];rfl)|.ist e,σ,h,Q=>(propext ok_bnd).trans (by simp only[ok_bnd,qE Γ e,ok_ok];rfl)|.tne a b,σ,h,Q=>(propext ok_bnd).trans (by simp only[ok_bnd,qE Γ a,qE Γ b,qOpt,ok_ok];rfl)|.callk f es k d,σ,h,Q=>(propext ok_bnd).trans (by simp only[ok_bnd,qEs Γ es,qE Γ k];simp only[zdx];rfl)|.stuck,σ,h,Q=>by rw[propext zvy];rfl
theorem qEs(Γ:Calls):∀(es:List E) (σ:Env) (h:Sto) (Q:List R->Sto->Prop),Ok (evs Γ es σ h) Q=wEs Γ es σ h Q| [],σ,h,Q=>propext ok_ok|e::es,σ,h,Q=>(propext ok_bnd).trans (by simp only[ok_bnd,qE Γ e,qEs Γ es,ok_ok];rfl)
theorem qC(Γ:Calls):∀(e:T) (σ:Env) (h:Sto) (Q:Bool->Sto->Prop),Ok (tv Γ e σ h) Q=wC Γ e σ h Q|.val e,σ,h,Q=>(propext ok_bnd).trans (by simp only[ok_bnd,qE Γ e,qRd,qOpt,ok_ok];rfl)|.and a b,σ,h,Q=>(propext ok_bnd).trans (by simp only[qC Γ a,qIf,qC Γ b,ok_ok];rfl)|.or a b,σ,h,Q=>(propext ok_bnd).trans (by simp only[qC Γ a,qIf,qC Γ b,ok_ok];rfl)|.not a,σ,h,Q=>(propext ok_bnd).trans (by simp only[ok_bnd,qC Γ a,ok_ok];rfl)
theorem qCs(Γ:Calls):∀(es:List T) (σ:Env) (h:Sto) (Q:Bool->Sto->Prop),Ok (tvs Γ es σ h) Q=wCs Γ es σ h Q| [],σ,h,Q=>propext ok_ok|e::es,σ,h,Q=>(propext ok_bnd).trans (by simp only[qC Γ e,qIf,qCs Γ es,ok_ok];rfl)
theorem qL(Γ:Calls):∀(e:L) (σ:Env) (h:Sto) (Q:List D->Sto->Prop),Ok (evL Γ e σ h) Q=wL Γ e σ h Q|.disp es,σ,h,Q=>(propext ok_bnd).trans (by simp only[ok_bnd,qEs Γ es,qFzs,ok_ok];rfl)|.comp tg it c el,σ,h,Q=>(propext ok_bnd).trans (by simp only[ok_bnd,qI Γ it,zdx,ok_ok];rfl)|.of e,σ,h,Q=>(propext ok_bnd).trans (by simp only[ok_bnd,qE Γ e,qRd,qOpt,ok_ok];rfl)|.cat a b,σ,h,Q=>(propext ok_bnd).trans (by simp only[ok_bnd,qE Γ a,qE Γ b,qRd,qOpt,ok_ok];rfl)|.rvd e,σ,h,Q=>(propext ok_bnd).trans (by simp only[ok_bnd,qE Γ e,qRd,qOpt];rfl)
theorem qI(Γ:Calls):∀(e:I) (σ:Env) (h:Sto) (Q:Wk->Sto->Prop),Ok (evI Γ e σ h) Q=wI Γ e σ h Q
 |.seq e,σ,h,Q=>(propext ok_bnd).trans (by simp only[ok_bnd,qE Γ e,qWk,ok_ok];rfl)
 |.rng e,σ,h,Q=>by
  rw[propext zwt,qE Γ e]
  congr;funext r h1
  match r with|.d (.int n)=>exact propext zsK|.loc _ | .d .non | .d (.bl _) | .d (.str _) | .d (.tup _) | .d (.lst _)=>simp[zhi,wInt]
 |.enu e,σ,h,Q=>by rw[propext zv0,qE Γ e];simp only[qEn];rfl
end
mutual
theorem qS(Γ:Calls):∀(s:S) (σ:Env) (h:Sto) (Q:Fl×Env->Sto->Prop),Ok (ex Γ s σ h) Q=wS Γ s σ h Q|.asg tg e,σ,h,Q=>(propext ok_bnd).trans (by simp only[ok_bnd,qE Γ e,qT,ok_ok];rfl)|.setI o i e,σ,h,Q=>by rw[propext zuV,qE Γ e];simp only[qE Γ o,qE Γ i,qFz,qRd,ztF,zry (p:=λk h5=>wPl _ λl=>wO h5[l]? λo=>wLw o λxs=>wO (ixn xs.length k) λj=>Q (.nx,σ) (h5.set l (.lst (xs.set j _))))];rfl|.setF o f e,σ,h,Q=>(propext ok_bnd).trans (by simp only[ok_bnd,qE Γ e,qE Γ o,zvS,ok_ok];rfl)|.setN c o f e,σ,h,Q=>(propext ok_bnd).trans (by simp only[ok_bnd,qE Γ e,qE Γ o,zvZ,ok_ok];rfl)|.exp e,σ,h,Q=>(propext ok_bnd).trans (by simp only[ok_bnd,qE Γ e,ok_ok];rfl)|.ife c a b,σ,h,Q=>(propext ok_bnd).trans (by simp only[qC Γ c,qIf,qSs Γ a,qSs Γ b];rfl)|.for tg it b,σ,h,Q=>(propext ok_bnd).trans (by simp only[ok_bnd,qI Γ it,zdx,ok_ok];rfl)|.ret e,σ,h,Q=>(propext ok_bnd).trans (by simp only[ok_bnd,qE Γ e,ok_ok];rfl)|.retN,σ,h,Q=>propext ok_ok|.brk,σ,h,Q=>propext ok_ok|.cnt,σ,h,Q=>propext ok_ok|.whl c b,σ,h,Q=>by rw[propext zwp,zdx];rfl|.setD o k e,σ,h,Q=>(propext ok_bnd).trans (by simp only[ok_bnd,qE Γ e,qE Γ o,qE Γ k,qFz,qKRd,zvl,ok_ok];rfl)|.stuck,σ,h,Q=>by rw[propext zwu];rfl
theorem qSs(Γ:Calls):∀(s:List S) (σ:Env) (h:Sto) (Q:Fl×Env->Sto->Prop),Ok (exs Γ s σ h) Q=wSs Γ s σ h Q
 | [],σ,h,Q=>propext ok_ok
 |s::r,σ,h,Q=>by 
  rw[propext zls,qS Γ s];simp only[qSs Γ r]
  try congr
end
theorem st{α:Type}{o:Option α}{a:α}{Q:α->Prop}(e:o=some a)(k:Q a):wO o Q:=by rw[e];exact k
theorem br{t:Bool}{A B:Prop}(a:t=true->A)(b:t=false->B):wB t A B:=by cases t;exact b rfl;exact a rfl
theorem bf{t:Bool}{A B:Prop}(e:t=false)(k:B):wB t A B:=by rw[e];exact k
theorem bt{t:Bool}{A B:Prop}(e:t=true)(k:A):wB t A B:=by rw[e];exact k
theorem gs{Γ:Calls}{s:List S}{σ:Env}{h:Sto}{Q:Fl×Env->Sto->Prop}(k:wSs Γ s σ h Q):Ok (exs Γ s σ h) Q:=(qSs Γ s σ h Q).mpr k
theorem gv{Γ:Calls}{e:T}{σ:Env}{h:Sto}{Q:Bool->Sto->Prop}(k:wC Γ e σ h Q):Ok (tv Γ e σ h) Q:=(qC Γ e σ h Q).mpr k
theorem gb{Γ:Calls}{tg:Tg}{x:Ite}{b:List S}{σ:Env}{h:Sto}{Q:Fl×Env->Sto->Prop}(k:wBI tg x σ h λσ' h1=>wSs Γ b σ' h1 Q):Ok (bnd (zaw tg x σ) (λσ'=>exs Γ b σ') h) Q:=by rw[propext ok_bnd,qBI];simp only[qSs];exact k
theorem gc{Γ:Calls}{tg:Tg}{c:List T}{el:E}{x:Ite}{σ:Env}{h:Sto}{Q:Option D->Sto->Prop}(k:wBI tg x (clr tg.slots σ) h λσ' h1=>wCs Γ c σ' h1 λt h2=>wB t (wE Γ el σ' h2 λr h3=>wFz r h3 λd h4=>Q (some d) h4) (Q none h2)):Ok (zpb Γ tg c el σ x h) Q:=by rw[propext zs2,qBI];simp only[qCs,qE,qFz,zmu];exact k
theorem qPl{x:R}{h:Sto}{Q:Nat->Sto->Prop}:Ok (zbm x h) Q=wPl x λl=>wO h[l]? λo=>wIn o λ_ _=>Q l h:=by
 cases x with|d x=>simp[zbm,wPl]|loc l=>rw[propext znI,zsv];rfl
theorem go{Γ:Calls}{tg:Tg}{c:List T}{el:E}{x:Ite}{σ:Env}{h:Sto}{Q:Option Nat->Sto->Prop}(k:wBI tg x (clr tg.slots σ) h λσ' h1=>wCs Γ c σ' h1 λt h2=>wB t (wE Γ el σ' h2 λr h3=>wPl r λl=>wO h3[l]? λo=>wIn o λ_ _=>Q (some l) h3) (Q none h2)):Ok (zns Γ tg c el σ x h) Q:=by rw[propext zsA,qBI];simp only[qCs,qE,qPl,zmu];exact k
theorem f0{k:Bool}{x:D}{h:Sto}{Q:R->Sto->Prop}(q:Q (.d x) h):Ok (fin h false k (.d x) h) Q:=zuh.mpr ⟨zmS,by rw[Yp];exact q⟩
theorem fa{k:Bool}{x:D}{h t:Sto}{Q:R->Sto->Prop}(q:Q (.d x) h):Ok (fin h false k (.d x) (h++t)) Q:=zuh.mpr ⟨zdz,by rw[zgJ];exact q⟩
def kF(h:Sto)(all keep:Bool)(Q:R->Sto->Prop)(p:Fl×Env)(h1:Sto):Prop:=match p.1 with|.ret r=>Ok (fin h all keep r h1) Q|.nx=>Ok (fin h all keep (.d .non) h1) Q|_=>False
theorem cl{P:List F}{n f:Nat}{rs:List R}{h:Sto}{Q:R->Sto->Prop}{F:IT.F}(e:P[f]?=some F)(ed:F.dfl=[])(el:rs.length=F.np)
  (k:wSs (zaf P n) F.body (rs.map some++ZU (F.ns-F.np) none) h (kF h F.all F.keep Q)):Ok (zaf P (n+1) f rs h) Q:=zsR e ed el (gs k)
theorem cd{P:List F}{n f:Nat}{rs rs':List R}{h:Sto}{Q:R->Sto->Prop}{F:IT.F}(e:P[f]?=some F)(er:zaW F.np F.dfl rs=rs')(el:rs'.length=F.np)
  (k:wSs (zaf P n) F.body (rs'.map some++ZU (F.ns-F.np) none) h (kF h F.all F.keep Q)):Ok (zaf P (n+1) f rs h) Q:=zmG e er el (gs k)
end IT
namespace K72
open IT
variable {Q:R->Sto->Prop}
abbrev eV(i:Nat):E:=.var i
abbrev eJ(i:Int):E:=.con (.int i)
abbrev eS(x:List Nat):E:=.con (.str x)
abbrev eX(a:Nat)(i:Int):E:=.idx (.var a) (.con (.int i))
def zgo:List S:=[
 .for (.tup [(.name 2),(.name 3)]) (.seq (eX 0 0)) [.ife (.val (.cmp .eq (eV 2) (eV 1))) [.ret (eV 3)] []],
 .ret (eS [110,111,110,101])]
def zgB:List S:=[
 .ret (.call 3 [(eV 0),(.tup [(eS [104,97,110,100]),(eV 1),(eV 2)])])]
def zfl:List S:=[
 .asg (.name 4) (.call 3 [(eV 0),(.tup [(eS [104,111,117,115,101]),(eV 1),(eV 2),(eS [97,110,121])])]),
 .ife (.val (.cmp .isN (eV 4) (.con .non))) [.asg (.name 4) (.call 3 [(eV 0),(.tup [(eS [104,111,117,115,101]),(eV 1),(eV 2),(.ife (.val (eV 3)) (eS [108,97,115,116]) (eS [109,111,114,101]))])])] [],
 .ret (eV 4)]
def zib:List S:=[
 .for (.name 2) (.seq (eX 0 2)) [.ife (.val (.cmp .eq (.sli (eV 2) (.con .non) (.bi .len [(eV 1)])) (eV 1))) [.ret (eV 2)] []],
 .ret (.con .non)]
def zik:List S:=[
 .ret (.and (.cmp .isnotN (eV 0) (.con .non)) (.cmp .eq (.idx (eV 0) (.neg (eJ 1))) (.glo (.tup [(.tup [(.str [119,97,105,116])])]))))]
def zn7:List S:=[
 .asg (.name 2) (.tup [(.idx (.idx (eX 0 0) (eJ 0)) (eJ 0)),(.con .non),(eJ 0),(.tup []),(.tup []),(eJ 0)]),
 .ret (.tup [(.idx (eX 0 1) (eJ 0)),(.glo (.tup [(.int 0),(.int 0)])),(.glo (.tup [(.int 0),(.int 0)])),(.bin .mul (.tup [(eV 2)]) (eV 1))])]
def zlV:List S:=[
 .asg (.name 2) (.lst false (.comp (.name 3) (.seq (eX 1 3)) [] (.call 0 [(eV 0),(eX 3 0)]))),
 .ret (.and (.cmp .isin (eS [119,114,105,116,101]) (eV 2)) (.cmp .gt (.bin .sub (.bi .len [(eV 2)]) (.lm .count (eV 2) (eS [110,111,110,101]))) (eJ 1)))]
def ziO:List S:=[
 .asg (.name 1) (eX 0 2),
 .asg (.name 2) (.lst false (.comp (.name 3) (.seq (eX 0 3)) [] (.call 8 [(eV 3),(eV 1)]))),
 .ret (.tup [(eX 0 0),(.call 10 [(eX 0 1),(eV 1)]),(.glo (.tup [(.int 1),(.int 0)])),(.bi .tuple [(eV 2)])])]
def zc4:List S:=[
 .asg (.name 2) (.call 10 [(eX 0 1),(eV 1)]),
 .ret (.tup [(eX 0 0),(eV 2),(eJ 0),(.call 9 [(eX 0 3),(eV 1)]),(.call 9 [(eX 0 4),(eV 1)]),(eX 0 5)])]
def zdK:List S:=[
 .ret (.bi .tuple [(.lst false (.comp (.tup [(.name 2),(.name 3)]) (.seq (eV 0)) [] (.tup [(eV 2),(.call 10 [(eV 3),(eV 1)])])))])]
def zcq:List S:=[
 .ife (.val (.cmp .isN (eV 0) (.con .non))) [.ret (.con .non)] [],
 .ret (.ife (.val (.call 11 [(eV 0),(eV 1)])) (.glo (.tup [(.int 1),(.int 0)])) (.glo (.tup [(.int 0),(.int 0)])))]
def zch:List S:=[
 .ret (.cmp .eq (eX 0 0) (eX 1 0))]
def zkM:List S:=[
 .ret (.ife (.val (eV 1)) (.sli (eV 0) (.con .non) (eJ 1)) (eV 0))]
def zfi:List S:=[
 .ret (.tup [(eV 0),(.ife (.val (.cmp .eq (eV 1) (eS [118,97,108,117,101]))) (eV 2) (.con .non))])]
def zdD:List S:=[
 .ife (.or (.val (.cmp .lt (eX 2 1) (eJ 0))) (.val (.cmp .ge (eX 2 1) (.olen (.fld (eV 1) "lines"))))) [.ret (.con (.bl false))] [],
 .ife (.val (.cmp .eq (eX 2 0) (eS [97,115,107]))) [.ret (.and (.cmp .isin (eX 2 2) (.glo (.tup [(.str [114,101,97,100]),(.str [119,114,105,116,101]),(.str [100,114,111,112])]))) (.cmp .isnotN (.call 16 [(eV 0),(eV 1),(eV 2)]) (.con .non)))] [],
 .ife (.or (.val (.cmp .lt (eX 2 2) (eJ 0))) (.val (.cmp .ge (eX 2 2) (.bi .len [(.call 15 [(eV 1),(eV 2)])])))) [.ret (.con (.bl false))] [],
 .ret (.not (.call 4 [(.call 16 [(eV 0),(eV 1),(eV 2)])]))]
def zkz:List S:=[
 .asg (.name 2) (.oix (.fld (eV 0) "lines") (eX 1 1)),
 .ret (.ife (.val (.cmp .eq (eX 1 0) (eS [116,97,107,101]))) (.fld (eV 2) "to") (.fld (eV 2) "back"))]
def zc8:List S:=[
 .asg (.name 3) (.fld (.oix (.fld (eV 1) "lines") (eX 2 1)) "state"),
 .ife (.val (.cmp .eq (eX 2 0) (eS [97,115,107]))) [.ret (.call 1 [(eV 0),(eV 3),(eX 2 2)])] [],
 .asg (.name 4) (.idx (.idx (.call 15 [(eV 1),(eV 2)]) (eX 2 2)) (eJ 0)),
 .ife (.val (.cmp .eq (eX 2 0) (eS [116,97,107,101]))) [.ret (.call 1 [(eV 0),(eV 3),(eV 4)])] [],
 .ret (.call 2 [(eV 0),(.fld (eV 1) "state"),(eV 4),(.not (.mc "Hall" "other_sharers" 57 (eV 1) [(eX 2 1)]))])]
def zhT:List S:=[
 .asg (.name 3) (.call 16 [(eV 0),(eV 1),(eV 2)]),
 .ife (.val (.cmp .isN (eV 3) (.con .non))) [.setF (eV 1) "broken" (.tup [(eS [110,111,114,111,119])]),.retN] [],
 .ife (.val (.cmp .eq (eX 2 0) (eS [97,115,107]))) [.exp (.call 18 [(eV 1),(eV 2),(eV 3)])] [.ife (.val (.cmp .eq (eX 2 0) (eS [116,97,107,101]))) [.exp (.call 19 [(eV 1),(eV 2),(eV 3)])] [.exp (.call 20 [(eV 1),(eV 2),(eV 3)])]],
 .ife (.and (.val (.cmp .isN (.fld (eV 1) "broken") (.con .non))) (.val (.call 6 [(eV 0),(.mc "Hall" "as_tuple" 50 (eV 1) [])]))) [.setF (eV 1) "broken" (.tup [(eS [99,108,97,115,104])])] []]
def zkp:List S:=[
 .ife (.val (.cmp .eq (eX 1 2) (eS [119,114,105,116,101]))) [.asg (.name 3) (.oix (.fld (eV 0) "lines") (eX 1 1)),.setF (eV 3) "want" (eX 1 3)] [],
 .exp (.call 23 [(eV 0),(eX 1 1),(.con .non),(eV 2)])]
def zh0:List S:=[
 .asg (.name 3) (.oix (.fld (eV 0) "lines") (eX 1 1)),
 .asg (.name 4) (.idx (.idx (.fld (eV 3) "to") (eX 1 2)) (eJ 1)),
 .setF (eV 3) "to" (.call 22 [(.fld (eV 3) "to"),(eX 1 2)]),
 .exp (.call 23 [(eV 0),(eX 1 1),(eV 4),(eV 2)])]
def zj3:List S:=[
 .exp (.call 25 [(eV 0),(eX 1 1),(.call 21 [(eV 0),(eV 1),(eV 2)]),(eV 2)])]
def zfx:List S:=[
 .asg (.name 3) (.oix (.fld (eV 0) "lines") (eX 1 1)),
 .asg (.name 4) (.idx (.idx (.fld (eV 3) "back") (eX 1 2)) (eJ 1)),
 .ife (.val (.cmp .notin (.tup [(eS [115,116,97,121])]) (.idx (eV 2) (.neg (eJ 1))))) [.setF (eV 3) "back" (.call 22 [(.fld (eV 3) "back"),(eX 1 2)])] [],
 .ret (eV 4)]
def zh7:List S:=[
 .ret (.bin .add (.sli (eV 0) (.con .non) (eV 1)) (.sli (eV 0) (.bin .add (eV 1) (eJ 1)) (.con .non)))]
def zb4:List S:=[
 .for (.name 4) (.seq (.idx (eV 3) (.neg (eJ 1)))) [.exp (.call 24 [(eV 0),(eV 1),(eV 2),(eV 4)]),.ife (.val (.cmp .isnotN (.fld (eV 0) "broken") (.con .non))) [.retN] []],
 .asg (.name 5) (.oix (.fld (eV 0) "lines") (eV 1)),
 .setF (eV 5) "state" (.idx (eV 3) (.neg (eJ 2)))]
def zdE:List S:=[
 .asg (.name 4) (.oix (.fld (eV 0) "lines") (eV 1)),
 .ife (.val (.cmp .eq (eX 3 0) (eS [107,101,101,112]))) [.setF (eV 4) "value" (eV 2)] [.ife (.val (.cmp .eq (eX 3 0) (eS [108,111,115,101]))) [.setF (eV 4) "value" (.con .non)] [.ife (.val (.cmp .eq (eX 3 0) (eS [112,117,116]))) [.exp (.mc "Hall" "write_value" 51 (eV 0) [(eV 1)])] [.ife (.val (.cmp .eq (eX 3 0) (eS [116,101,108,108]))) [.exp (.mc "Hall" "tell_value" 52 (eV 0) [(eV 1)])] [.exp (.mc "Hall" "send_to_house" 53 (eV 0) [(eV 1),(eX 3 1),(eX 3 2)])]]]]]
def zbE:List S:=[
 .for (.name 4) (.seq (.idx (eV 3) (.neg (eJ 1)))) [.exp (.call 26 [(eV 0),(eV 1),(eV 2),(eV 4)]),.ife (.val (.cmp .isnotN (.fld (eV 0) "broken") (.con .non))) [.retN] []],
 .setF (eV 0) "state" (.idx (eV 3) (.neg (eJ 2)))]
def zcX:List S:=[
 .asg (.name 4) (.oix (.fld (eV 0) "lines") (eV 1)),
 .ife (.val (.cmp .eq (eX 3 0) (eS [107,101,101,112]))) [.setF (eV 0) "store" (eV 2)] [.ife (.val (.cmp .eq (eX 3 0) (eS [111,119,110]))) [.setF (eV 4) "flags" (.bin .bor (.fld (eV 4) "flags") (.glo (.int 2)))] [.ife (.val (.cmp .eq (eX 3 0) (eS [115,104,97,114,101]))) [.setF (eV 4) "flags" (.bin .bor (.fld (eV 4) "flags") (.glo (.int 1)))] [.ife (.val (.cmp .eq (eX 3 0) (eS [102,111,114,103,101,116]))) [.setF (eV 4) "flags" (eJ 0)] [.ife (.val (.cmp .eq (eX 3 0) (eS [99,108,101,97,114]))) [.exp (.mc "Hall" "forget_all" 58 (eV 0) [])] [.ife (.val (.cmp .ne (eX 3 0) (eS [115,116,97,121]))) [.exp (.call 27 [(eV 0),(eV 1),(eV 3)])] []]]]]]]
def zbP:List S:=[
 .for (.name 3) (.seq (.call 28 [(eV 0),(eV 1),(eX 2 0)])) [.exp (.mc "Hall" "send_to_hand" 54 (eV 0) [(eV 3),(eX 2 1),(eX 2 2)])]]
def zfg:List S:=[
 .ife (.val (.cmp .eq (eV 2) (eS [115,101,110,100]))) [.ret (.lst false (.disp [(eV 1)]))] [],
 .ife (.val (.cmp .eq (eV 2) (eS [111,119,110,101,114]))) [.ret (.mc "Hall" "hands_with" 56 (eV 0) [(.glo (.int 2))])] [],
 .ret (.mc "Hall" "other_sharers" 57 (eV 0) [(eV 1)])]
def zrv:List S:=[
 .asg (.name 3) (.make "Hall" 49 [(eV 1)]),
 .asg (.name 4) (.lst true (.disp [])),
 .for (.tup [(.name 5),(.name 6)]) (.enu (.fld (eV 3) "lines")) [.exp (.me .extend (eV 4) [(.call 30 [(eV 5)])]),.exp (.me .extend (eV 4) [(.call 31 [(eS [116,97,107,101]),(eV 5),(.fld (eV 6) "to"),(eV 2)])]),.exp (.me .extend (eV 4) [(.call 31 [(eS [103,101,116]),(eV 5),(.fld (eV 6) "back"),(eV 2)])])],
 .ret (.lst false (.comp (.name 7) (.seq (eV 4)) [(.val (.call 14 [(eV 0),(eV 3),(eV 7)]))] (eV 7)))]
def zhW:List S:=[
 .ret (.lst false (.disp [(.tup [(eS [97,115,107]),(eV 0),(eS [114,101,97,100])]),(.tup [(eS [97,115,107]),(eV 0),(eS [119,114,105,116,101]),(eJ 0)]),(.tup [(eS [97,115,107]),(eV 0),(eS [100,114,111,112])])]))]
def zeB:List S:=[
 .ret (.lst false (.comp (.name 4) (.rng (.bi .len [(.call 12 [(eV 2),(eV 3)])])) [] (.tup [(eV 0),(eV 1),(eV 4)])))]
def zn2:List S:=[
 .ife (.not (.val (.bi .any [(.lst false (.comp (.name 3) (.seq (eX 1 3)) [] (.bin .add (eX 3 3) (eX 3 4))))]))) [.ret (.con (.bl false))] [],
 .ret (.bi .all [(.lst false (.comp (.name 4) (.seq (.call 29 [(eV 0),(eV 1),(eV 2)])) [] (.cmp .eq (eX 4 0) (eS [97,115,107]))))])]
def zqz:List S:=[
 .asg (.name 3) (.make "Hall" 49 [(eV 1)]),
 .ife (.not (.val (.call 14 [(eV 0),(eV 3),(eV 2)]))) [.stuck] [],
 .exp (.call 17 [(eV 0),(eV 3),(eV 2)]),
 .ife (.val (.cmp .isnotN (.fld (eV 3) "broken") (.con .non))) [.ret (.tup [(eV 1),(.con .non),(.fld (eV 3) "broken")])] [],
 .ret (.tup [(.mc "Hall" "as_tuple" 50 (eV 3) []),(.fld (eV 3) "answer"),(.con .non)])]
def znL:List S:=[
 .asg (.name 3) (.call 5 [(eV 0),(eV 1)]),
 .asg (.name 4) (.lst true (.disp [])),
 .for (.name 5) (.seq (eV 2)) [.asg (.name 6) (.call 33 [(eV 0),(eV 3),(eV 5)]),.ife (.val (.cmp .isnotN (eX 6 2) (.con .non))) [.ret (.tup [(eV 3),(eV 4),(eX 6 2)])] [],.asg (.name 3) (eX 6 0),.ife (.val (.cmp .isnotN (eX 6 1) (.con .non))) [.exp (.me .append (eV 4) [(eX 6 1)])] []],
 .ret (.tup [(eV 3),(eV 4),(.con .non)])]
def zek:List S:=[
 .asg (.name 4) (.lst true (.disp [(.call 7 [(.call 5 [(eV 0),(eV 1)])])])),
 .asg (.name 5) (.dn1 (eX 4 0) (.tup [])),
 .asg (.name 6) (eJ 0),
 .whl (.val (.cmp .lt (eV 6) (.bi .len [(eV 4)]))) [.asg (.name 7) (.idx (eV 4) (eV 6)),.ife (.val (.call 32 [(eV 0),(eV 7),(eV 2)])) [.ret (.tpl (eS [114,117,110]) (.call 36 [(eV 7),(eV 5)]) (.tup [(eS [115,116,117,99,107])]))] [],.for (.name 8) (.seq (.call 29 [(eV 0),(eV 7),(eV 2)])) [.asg (.name 9) (.call 33 [(eV 0),(eV 7),(eV 8)]),.ife (.val (.cmp .isnotN (eX 9 2) (.con .non))) [.ret (.tpl (eS [114,117,110]) (.lst true (.cat (.call 36 [(eV 7),(eV 5)]) (.lst false (.disp [(eV 8)])))) (eX 9 2))] [],.asg (.name 10) (.call 7 [(eX 9 0)]),.ife (.val (.din true (eV 10) (eV 5))) [.setD (eV 5) (eV 10) (.tup [(eV 7),(eV 8)]),.exp (.me .append (eV 4) [(eV 10)])] []],.ife (.val (.cmp .gt (.bi .len [(eV 4)]) (eV 3))) [.ret (.glo (.tup [(.str [103,97,118,101,32,117,112])]))] [],.asg (.name 6) (.bin .add (eV 6) (eJ 1))],
 .ret (.tup [(eS [110,111,110,101]),(.bi .len [(eV 4)])])]
def zge:List S:=[
 .asg (.name 2) (.lst true (.disp [])),
 .whl (.val (.ddx (eV 1) (eV 0))) [.exp (.me .append (eV 2) [(.idx (.ddx (eV 1) (eV 0)) (eJ 1))]),.asg (.name 0) (.idx (.ddx (eV 1) (eV 0)) (eJ 0))],
 .ret (.lst true (.rvd (eV 2)))]
def zfu:List S:=[
 .ife (.val (.cmp .lt (eV 1) (.bi .len [(eV 0)]))) [.ret (.idx (eV 0) (eV 1))] [],
 .ret (eJ 0)]
def zen:List S:=[
 .asg (.name 3) (.lst true (.disp [])),
 .asg (.name 4) (.bin .mod (.bin .mul (.bin .add (eV 0) (eJ 1)) (eJ 48271)) (eJ 2147483647)),
 .asg (.name 5) (.bin .fdiv (eV 0) (eJ 2)),
 .for (.name 6) (.rng (eV 2)) [.asg (.name 4) (.bin .mod (.bin .mul (.bin .add (.bin .add (eV 4) (.bin .mul (eJ 7919) (eV 6))) (eJ 1)) (.bin .add (.bin .fdiv (eV 4) (eJ 1009)) (eJ 69621))) (eJ 2147483647)),.exp (.me .append (eV 3) [(.idx (.lst false (.disp [(.bin .mod (.bin .fdiv (eV 4) (eJ 7)) (eV 1)),(.bin .mod (eV 5) (eV 1))])) (.bi .int [(.and (.cmp .eq (.bin .mod (eV 0) (eJ 2)) (eJ 0)) (.cmp .gt (eV 5) (eJ 0)))]))]),.asg (.name 5) (.bin .fdiv (eV 5) (eV 1))],
 .ret (eV 3)]
def zex:List S:=[
 .asg (.name 0) (.tup [(.tup [(eS [105,100,108,101]),(eS [110,111,110,101])]),(.tup [(eS [119,97,105,116]),(eS [110,111,110,101])]),(.tup [(eS [109,105,110,101]),(eS [119,114,105,116,101])])]),
 .asg (.name 1) (.lst true (.disp [(.tup [(eS [104,97,110,100]),(eS [105,100,108,101]),(eS [119,114,105,116,101]),(eS [119,97,105,116]),(.tup [(.tup [(eS [115,101,110,100]),(eS [103,101,116]),(eS [98,97,114,101])])])])])),
 .exp (.me .append (eV 1) [(.tup [(eS [104,97,110,100]),(eS [119,97,105,116]),(eS [103,105,118,101]),(eS [109,105,110,101]),(.tup [(.tup [(eS [107,101,101,112])]),(.tup [(eS [112,117,116])])])])]),
 .exp (.me .append (eV 1) [(.tup [(eS [104,97,110,100]),(eS [109,105,110,101]),(eS [119,114,105,116,101]),(eS [109,105,110,101]),(.tup [(.tup [(eS [112,117,116])])])])]),
 .exp (.me .append (eV 1) [(.tup [(eS [104,97,110,100]),(eS [109,105,110,101]),(eS [114,101,97,100]),(eS [109,105,110,101]),(.tup [(.tup [(eS [116,101,108,108])])])])]),
 .exp (.me .append (eV 1) [(.tup [(eS [104,97,110,100]),(eS [109,105,110,101]),(eS [99,97,108,108]),(eS [105,100,108,101]),(.tup [(.tup [(eS [115,101,110,100]),(eS [98,97,99,107]),(eS [118,97,108,117,101])]),(.tup [(eS [108,111,115,101])])])])]),
 .exp (.me .append (eV 1) [(.tup [(eS [104,111,117,115,101]),(eS [104,111,109,101]),(eS [103,101,116]),(eS [97,110,121]),(eS [111,117,116]),(.tup [(.tup [(eS [111,119,110])]),(.tup [(eS [115,101,110,100]),(eS [103,105,118,101]),(eS [118,97,108,117,101])])])])]),
 .exp (.me .append (eV 1) [(.tup [(eS [104,111,117,115,101]),(eS [111,117,116]),(eS [103,101,116]),(eS [97,110,121]),(eS [99,97,108,108,115]),(.tup [(.tup [(eS [111,119,110,101,114]),(eS [99,97,108,108]),(eS [98,97,114,101])]),(.tup [(eS [115,116,97,121])])])])]),
 .exp (.me .append (eV 1) [(.tup [(eS [104,111,117,115,101]),(eS [99,97,108,108,115]),(eS [103,101,116]),(eS [97,110,121]),(eS [99,97,108,108,115]),(.tup [(.tup [(eS [119,97,105,116])])])])]),
 .exp (.me .append (eV 1) [(.tup [(eS [104,111,117,115,101]),(eS [99,97,108,108,115]),(eS [98,97,99,107]),(eS [97,110,121]),(eS [104,111,109,101]),(.tup [(.tup [(eS [107,101,101,112])]),(.tup [(eS [99,108,101,97,114])])])])]),
 .ret (.tup [(eV 0),(.tup [(eS [104,111,109,101]),(eS [111,117,116]),(eS [99,97,108,108,115])]),(.bi .tuple [(eV 1)])])]
def zfn:List S:=[
 .asg (.name 0) (.tup [(.tup [(eS [105,100,108,101]),(eS [110,111,110,101])]),(.tup [(eS [97,115,107,115]),(eS [110,111,110,101])]),(.tup [(eS [104,97,115]),(eS [114,101,97,100])])]),
 .asg (.name 1) (.lst true (.disp [(.tup [(eS [104,97,110,100]),(eS [105,100,108,101]),(eS [114,101,97,100]),(eS [97,115,107,115]),(.tup [(.tup [(eS [115,101,110,100]),(eS [97,115,107]),(eS [98,97,114,101])])])])])),
 .exp (.me .append (eV 1) [(.tup [(eS [104,97,110,100]),(eS [97,115,107,115]),(eS [103,105,118,101]),(eS [104,97,115]),(.tup [(.tup [(eS [107,101,101,112])]),(.tup [(eS [116,101,108,108])])])])]),
 .exp (.me .append (eV 1) [(.tup [(eS [104,97,110,100]),(eS [104,97,115]),(eS [114,101,97,100]),(eS [104,97,115]),(.tup [(.tup [(eS [116,101,108,108])])])])]),
 .exp (.me .append (eV 1) [(.tup [(eS [104,97,110,100]),(eS [104,97,115]),(eS [100,114,111,112]),(eS [105,100,108,101]),(.tup [(.tup [(eS [108,111,115,101])])])])]),
 .exp (.me .append (eV 1) [(.tup [(eS [104,111,117,115,101]),(eS [104,111,109,101]),(eS [97,115,107]),(eS [97,110,121]),(eS [104,111,109,101]),(.tup [(.tup [(eS [115,101,110,100]),(eS [103,105,118,101]),(eS [118,97,108,117,101])])])])]),
 .ret (.tup [(eV 0),(.tup [(eS [104,111,109,101])]),(.bi .tuple [(eV 1)])])]
def zgK:List S:=[
 .asg (.name 2) (.call 38 [(eV 1),(eJ 64),(eJ 3)]),
 .asg (.name 3) (.lst true (.of (eX 0 2))),
 .asg (.name 4) (.bin .mod (eX 2 0) (.bi .len [(eV 3)])),
 .asg (.name 5) (.idx (eV 3) (eV 4)),
 .ife (.val (.cmp .eq (.bin .mod (eX 2 1) (eJ 3)) (eJ 0))) [.asg (.name 3) (.lst true (.cat (.sli (eV 3) (.con .non) (eV 4)) (.sli (eV 3) (.bin .add (eV 4) (eJ 1)) (.con .non))))] [.ife (.and (.val (.cmp .eq (.bin .mod (eX 2 1) (eJ 3)) (eJ 1))) (.val (.cmp .ne (.idx (eV 5) (.neg (eJ 1))) (.tup [(.tup [(eS [119,97,105,116])])])))) [.setI (eV 3) (eV 4) (.bin .add (.sli (eV 5) (.con .non) (.neg (eJ 1))) (.tup [(.sli (.idx (eV 5) (.neg (eJ 1))) (eJ 1) (.con .non))]))] [.ife (.val (.cmp .eq (eX 5 0) (eS [104,97,110,100]))) [.setI (eV 3) (eV 4) (.bin .add (.sli (eV 5) (.con .non) (eJ 3)) (.tup [(.idx (.idx (eX 0 0) (.bin .mod (eX 2 2) (.bi .len [(eX 0 0)]))) (eJ 0)),(eX 5 4)]))] []]],
 .ret (.tup [(eX 0 0),(eX 0 1),(.bi .tuple [(eV 3)])])]
def zeI:List S:=[
 .asg (.name 1) (.call 38 [(eV 0),(eJ 64),(eJ 20)]),
 .asg (.name 2) (.tup [(.tup [(eS [97]),(eS [110,111,110,101])]),(.tup [(eS [98]),(.idx (.lst false (.disp [(eS [110,111,110,101]),(eS [114,101,97,100]),(eS [114,101,97,100]),(eS [119,114,105,116,101])])) (.bin .mod (eX 1 0) (eJ 4)))])]),
 .asg (.name 3) (.lst false (.disp [(.tup []),(.tup [(.tup [(eS [107,101,101,112])])]),(.tup [(.tup [(eS [107,101,101,112])]),(.tup [(eS [116,101,108,108])])]),(.tup [(.tup [(eS [107,101,101,112])]),(.tup [(eS [112,117,116])])]),(.tup [(.tup [(eS [108,111,115,101])]),(.tup [(eS [115,101,110,100]),(eS [109]),(eS [118,97,108,117,101])])])])),
 .asg (.name 4) (.lst false (.disp [(.tup []),(.tup [(.tup [(eS [116,101,108,108])])]),(.tup [(.tup [(eS [112,117,116])])]),(.tup [(.tup [(eS [115,101,110,100]),(eS [109]),(eS [98,97,114,101])])]),(.tup [(.tup [(eS [108,111,115,101])]),(.tup [(eS [115,101,110,100]),(eS [110]),(eS [118,97,108,117,101])])])])),
 .asg (.name 5) (.lst true (.disp [(.tup [(.tup [(eS [107,101,101,112])])]),(.tup [(.tup [(eS [111,119,110])]),(.tup [(eS [115,101,110,100]),(eS [109]),(eS [118,97,108,117,101])])]),(.tup [(.tup [(eS [115,104,97,114,101])]),(.tup [(eS [115,101,110,100]),(eS [110]),(eS [118,97,108,117,101])])]),(.tup [(.tup [(eS [102,111,114,103,101,116])])])])),
 .asg (.name 5) (.lst true (.cat (eV 5) (.lst false (.disp [(.tup [(.tup [(eS [111,116,104,101,114,115]),(eS [110]),(eS [98,97,114,101])]),(.tup [(eS [107,101,101,112])])]),(.tup [(.tup [(eS [111,119,110,101,114]),(eS [109]),(eS [118,97,108,117,101])]),(.tup [(eS [99,108,101,97,114])])])])))),
 .exp (.me .append (eV 5) [(.tup [(.tup [(eS [115,101,110,100]),(eS [109]),(eS [98,97,114,101])])])]),
 .asg (.name 6) (.lst true (.disp [])),
 .for (.name 7) (.rng (eJ 10)) [.asg (.name 8) (.idx (eV 1) (.bin .add (eJ 1) (eV 7))),.asg (.name 9) (.idx (.idx (.lst false (.disp [(eV 4),(eV 3)])) (.bi .int [(.cmp .gt (.bin .mod (eV 7) (eJ 5)) (eJ 2))])) (.bin .mod (eV 8) (eJ 5))),.asg (.name 10) (.idx (.lst false (.disp [(eS [114,101,97,100]),(eS [119,114,105,116,101]),(eS [100,114,111,112]),(eS [109]),(eS [110])])) (.bin .mod (eV 7) (eJ 5))),.ife (.or (.val (.cmp .gt (.bin .fdiv (eV 8) (eJ 32)) (eJ 0))) (.val (.cmp .gt (.bin .mod (eV 7) (eJ 5)) (eJ 2)))) [.exp (.me .append (eV 6) [(.tup [(eS [104,97,110,100]),(.idx (.lst false (.disp [(eS [97]),(eS [98])])) (.bin .fdiv (eV 7) (eJ 5))),(eV 10),(.idx (.lst false (.disp [(eS [97]),(eS [98])])) (.bin .mod (.bin .fdiv (eV 8) (eJ 5)) (eJ 2))),(eV 9)])])] []],
 .for (.name 7) (.rng (eJ 4)) [.asg (.name 8) (.idx (eV 1) (.bin .add (eJ 11) (eV 7))),.asg (.name 11) (.idx (.lst false (.disp [(eS [104]),(eS [107])])) (.bin .fdiv (eV 7) (eJ 2))),.ife (.val (.cmp .eq (.bin .mod (eV 8) (eJ 8)) (eJ 7))) [.exp (.me .append (eV 6) [(.tup [(eS [104,111,117,115,101]),(eV 11),(.idx (.lst false (.disp [(eS [109]),(eS [110])])) (.bin .mod (eV 7) (eJ 2))),(eS [97,110,121]),(eV 11),(.tup [(.tup [(eS [119,97,105,116])])])])])] [.for (.name 12) (.seq (.lst false (.disp [(eS [108,97,115,116]),(eS [109,111,114,101])]))) [.asg (.name 9) (.idx (eV 5) (.bin .mod (.bin .add (.bin .mod (eV 8) (eJ 8)) (.bin .mul (.bi .int [(.cmp .eq (eV 12) (eS [109,111,114,101]))]) (.idx (eV 1) (.bin .add (eJ 15) (eV 7))))) (eJ 7))),.exp (.me .append (eV 6) [(.tup [(eS [104,111,117,115,101]),(eV 11),(.idx (.lst false (.disp [(eS [109]),(eS [110])])) (.bin .mod (eV 7) (eJ 2))),(eV 12),(.idx (.lst false (.disp [(eS [104]),(eS [107])])) (.bin .mod (.bin .fdiv (eV 8) (eJ 8)) (eJ 2))),(eV 9)])])]]],
 .ret (.tup [(eV 2),(.tup [(eS [104]),(eS [107])]),(.bi .tuple [(eV 6)])])]
def zhG:List S:=[
 .ife (.val (.cmp .eq (.bin .mod (eV 0) (eJ 3)) (eJ 2))) [.ret (.call 42 [(.bin .fdiv (eV 0) (eJ 3))])] [],
 .asg (.name 1) (.idx (.lst false (.disp [(.call0 39),(.call0 40)])) (.bin .mod (eV 0) (eJ 3))),
 .ife (.val (.cmp .eq (.bin .mod (.bin .fdiv (eV 0) (eJ 3)) (eJ 3)) (eJ 0))) [.ret (eV 1)] [],
 .ret (.call 41 [(eV 1),(.bin .fdiv (eV 0) (eJ 9))])]
def zjN:List S:=[
 .asg (.name 4) (.call 7 [(.call 5 [(eV 0),(eV 1)])]),
 .asg (.name 5) (.lst true (.disp [(eV 4)])),
 .asg (.name 6) (.dn1 (eV 4) (.lst false (.disp []))),
 .for (.name 7) (.rng (.bin .add (eV 3) (eJ 1))) [.ife (.val (.cmp .eq (eV 7) (.bi .len [(eV 5)]))) [.ret (.tup [(eS [110,111,110,101]),(eV 7)])] [],.asg (.name 8) (.idx (eV 5) (eV 7)),.ife (.val (.call 32 [(eV 0),(eV 8),(eV 2)])) [.ret (.tup [(eS [114,117,110]),(.ddx (eV 6) (eV 8)),(.tup [(eS [115,116,117,99,107])])])] [],.for (.name 9) (.seq (.call 29 [(eV 0),(eV 8),(eV 2)])) [.asg (.tup [(.name 10),(.name 11),(.name 12)]) (.call 33 [(eV 0),(eV 8),(eV 9)]),.ife (.val (.cmp .isnotN (eV 12) (.con .non))) [.ret (.tup [(eS [114,117,110]),(.bin .add (.ddx (eV 6) (eV 8)) (.lst false (.disp [(eV 9)]))),(eV 12)])] [],.asg (.name 10) (.call 7 [(eV 10)]),.ife (.val (.din true (eV 10) (eV 6))) [.setD (eV 6) (eV 10) (.bin .add (.ddx (eV 6) (eV 8)) (.lst false (.disp [(eV 9)]))),.exp (.me .append (eV 5) [(eV 10)])] []],.ife (.val (.cmp .gt (.bi .len [(eV 5)]) (eV 3))) [.ret (.tup [(eS [103,97,118,101,32,117,112])])] []],
 .ret (.tup [(eS [103,97,118,101,32,117,112])])]
def zgp:List S:=[
 .asg (.tup [(.name 5),(.name 6),(.name 7)]) (.call 34 [(eV 0),(eV 1),(eV 3)]),
 .ife (.val (.cmp .eq (eV 4) (.tup [(eS [115,116,117,99,107])]))) [.ret (.and (.cmp .isN (eV 7) (.con .non)) (.call 32 [(eV 0),(eV 5),(eV 2)]))] [],
 .ret (.and (.cmp .eq (eV 7) (eV 4)) (.cmp .isN (.idx (.call 34 [(eV 0),(eV 1),(.sli (eV 3) (.con .non) (.neg (eJ 1)))]) (eJ 2)) (.con .non)))]
def znD:List S:=[
 .asg (.name 1) (.call 43 [(.call 37 [(eV 0),(eJ 0)])]),
 .asg (.name 2) (.bin .add (eJ 1) (.bin .mod (.call 37 [(eV 0),(eJ 1)]) (eJ 3))),
 .asg (.name 3) (.cmp .eq (.bin .mod (.bin .fdiv (.call 37 [(eV 0),(eJ 1)]) (eJ 3)) (eJ 2)) (eJ 0)),
 .asg (.name 4) (.bin .add (eJ 1) (.bin .mod (.call 37 [(eV 0),(eJ 2)]) (eJ 80))),
 .asg (.name 5) (.call 35 [(eV 1),(eV 2),(eV 3),(eV 4)]),
 .ife (.or (.not (.val (.ist (eV 5)))) (.val (.tne (eV 5) (.call 44 [(eV 1),(eV 2),(eV 3),(eV 4)])))) [.ret (.con (.bl false))] [],
 .ife (.and (.val (eV 3)) (.and (.val (.cmp .gt (eV 4) (eJ 70))) (.val (.tne (.callk 35 [(eV 1),(eV 2)] (eV 4) (.bl true)) (eV 5))))) [.ret (.con (.bl false))] [],
 .ife (.and (.val (.tne (eV 5) (.tup [(eS [103,97,118,101,32,117,112])]))) (.val (.tne (.call 35 [(eV 1),(eV 2),(eV 3)]) (eV 5)))) [.ret (.con (.bl false))] [],
 .ife (.val (.cmp .ne (.tix (eV 5) 0) (eS [114,117,110]))) [.ret (.con (.bl true))] [],
 .ife (.or (.not (.val (.isi .list (.tix (eV 5) 1)))) (.not (.val (.call 45 [(eV 1),(eV 2),(eV 3),(.lst false (.of (.tix (eV 5) 1))),(.tix (eV 5) 2)])))) [.ret (.con (.bl false))] [],
 .asg (.name 6) (.lst false (.of (.tix (eV 5) 1))),
 .exp (.me .append (.tix (eV 5) 1) [(eJ 0)]),
 .ret (.cmp .eq (.tix (.call 35 [(eV 1),(eV 2),(eV 3),(eV 4)]) 1) (eV 6))]
def zbQ:List S:=[
 .setN "OpenLine" (eV 0) "state" (eX 1 0),
 .setN "OpenLine" (eV 0) "value" (eX 1 1),
 .setN "OpenLine" (eV 0) "want" (eX 1 2),
 .setN "OpenLine" (eV 0) "to" (eX 1 3),
 .setN "OpenLine" (eV 0) "back" (eX 1 4),
 .setN "OpenLine" (eV 0) "flags" (eX 1 5)]
def za9:List S:=[
 .ret (.tup [(.fld (eV 0) "state"),(.fld (eV 0) "value"),(.fld (eV 0) "want"),(.fld (eV 0) "to"),(.fld (eV 0) "back"),(.fld (eV 0) "flags")])]
def zdW:List S:=[
 .setN "Hall" (eV 0) "state" (eX 1 0),
 .setN "Hall" (eV 0) "store" (eX 1 1),
 .setN "Hall" (eV 0) "last" (eX 1 2),
 .setN "Hall" (eV 0) "lines" (.lstO (.name 2) (.seq (eX 1 3)) [] (.make "OpenLine" 47 [(eV 2)])),
 .setN "Hall" (eV 0) "answer" (.con .non),
 .setN "Hall" (eV 0) "broken" (.con .non)]
def zbN:List S:=[
 .asg (.name 1) (.bi .tuple [(.lst false (.comp (.name 2) (.seq (.fld (eV 0) "lines")) [] (.mc "OpenLine" "as_tuple" 48 (eV 2) [])))]),
 .ret (.tup [(.fld (eV 0) "state"),(.fld (eV 0) "store"),(.fld (eV 0) "last"),(eV 1)])]
def zbi:List S:=[
 .asg (.name 2) (.oix (.fld (eV 0) "lines") (eV 1)),
 .setF (eV 0) "last" (.tup [(.bin .add (.idx (.fld (eV 0) "last") (eJ 0)) (eJ 1)),(.fld (eV 2) "want")]),
 .setF (eV 2) "value" (.fld (eV 0) "last"),
 .setF (eV 0) "answer" (.tup [(eS [119,114,111,116,101]),(eV 1),(.fld (eV 2) "want")])]
def zbs:List S:=[
 .asg (.name 2) (.oix (.fld (eV 0) "lines") (eV 1)),
 .ife (.or (.val (.cmp .isN (.fld (eV 2) "value") (.con .non))) (.not (.val (.call 11 [(.fld (eV 2) "value"),(.fld (eV 0) "last")])))) [.setF (eV 0) "broken" (.tup [(eS [111,108,100])])] [.setF (eV 0) "answer" (.tup [(eS [114,101,97,100]),(eV 1),(.idx (.fld (eV 2) "value") (eJ 1))])]]
def za2:List S:=[
 .asg (.name 4) (.oix (.fld (eV 0) "lines") (eV 1)),
 .setF (eV 4) "back" (.mc "Hall" "posted" 55 (eV 0) [(.fld (eV 4) "back"),(.call 13 [(eV 2),(eV 3),(.fld (eV 4) "value")])])]
def za8:List S:=[
 .asg (.name 4) (.oix (.fld (eV 0) "lines") (eV 1)),
 .setF (eV 4) "to" (.mc "Hall" "posted" 55 (eV 0) [(.fld (eV 4) "to"),(.call 13 [(eV 2),(eV 3),(.fld (eV 0) "store")])])]
def zcx:List S:=[
 .ife (.val (.cmp .ge (.bi .len [(eV 1)]) (.glo (.int 2)))) [.setF (eV 0) "broken" (.tup [(eS [102,117,108,108])]),.ret (eV 1)] [],
 .ret (.bin .add (eV 1) (.tup [(eV 2)]))]
def zbq:List S:=[
 .ret (.lst false (.comp (.tup [(.name 2),(.name 3)]) (.enu (.fld (eV 0) "lines")) [(.val (.bin .band (.fld (eV 3) "flags") (eV 1)))] (eV 2)))]
def za1:List S:=[
 .ret (.lst false (.comp (.name 2) (.seq (.mc "Hall" "hands_with" 56 (eV 0) [(.glo (.int 1))])) [(.val (.cmp .ne (eV 2) (eV 1)))] (eV 2)))]
def zbl:List S:=[
 .for (.name 1) (.seq (.fld (eV 0) "lines")) [.setF (eV 1) "flags" (eJ 0)]]
def P:List F:=[⟨2,4,zgo,false,[],false⟩,⟨3,3,zgB,false,[],false⟩,⟨4,5,zfl,false,[],false⟩,⟨2,3,zib,false,[],false⟩,⟨1,1,zik,false,[],false⟩,⟨2,3,zn7,false,[],false⟩,⟨2,4,zlV,false,[],false⟩,⟨1,4,ziO,false,[],false⟩,⟨2,3,zc4,false,[],false⟩,⟨2,4,zdK,false,[],false⟩,⟨2,2,zcq,false,[],false⟩,⟨2,2,zch,false,[],false⟩,⟨2,2,zkM,false,[],false⟩,⟨3,3,zfi,false,[],false⟩,⟨3,3,zdD,false,[],false⟩,⟨2,3,zkz,false,[],false⟩,⟨3,5,zc8,false,[],false⟩,⟨3,4,zhT,false,[],true⟩,⟨3,4,zkp,false,[],true⟩,⟨3,5,zh0,false,[],true⟩,⟨3,3,zj3,false,[],true⟩,⟨3,5,zfx,false,[],true⟩,⟨2,2,zh7,false,[],false⟩,⟨4,6,zb4,false,[],true⟩,⟨4,5,zdE,false,[],true⟩,⟨4,5,zbE,false,[],true⟩,⟨4,5,zcX,false,[],true⟩,⟨3,4,zbP,false,[],true⟩,⟨3,3,zfg,false,[],false⟩,⟨3,8,zrv,false,[(.bl true)],false⟩,⟨1,1,zhW,false,[],false⟩,⟨4,5,zeB,false,[],false⟩,⟨3,5,zn2,false,[(.bl true)],false⟩,⟨3,4,zqz,false,[],false⟩,⟨3,7,znL,false,[],false⟩,⟨4,11,zek,false,[(.bl true),(.int 3000)],true⟩,⟨2,3,zge,true,[],false⟩,⟨2,2,zfu,false,[],false⟩,⟨3,7,zen,false,[],false⟩,⟨0,2,zex,false,[],false⟩,⟨0,2,zfn,false,[],false⟩,⟨2,6,zgK,false,[],false⟩,⟨1,13,zeI,false,[],false⟩,⟨1,2,zhG,false,[],false⟩,⟨4,13,zjN,false,[],false⟩,⟨5,8,zgp,false,[],false⟩,⟨1,7,znD,false,[],false⟩,⟨2,2,zbQ,false,[],true⟩,⟨1,1,za9,false,[],false⟩,⟨2,3,zdW,false,[],true⟩,⟨1,3,zbN,false,[],false⟩,⟨2,3,zbi,false,[],true⟩,⟨2,3,zbs,false,[],true⟩,⟨4,5,za2,false,[],true⟩,⟨4,5,za8,false,[],true⟩,⟨3,3,zcx,false,[],true⟩,⟨2,4,zbq,false,[],false⟩,⟨2,3,za1,false,[],false⟩,⟨1,2,zbl,false,[],true⟩]
variable {Q:R->Sto->Prop}
abbrev Tx:=List Nat
abbrev Val:=Option (Int×Int)
def prD(p:Int×Int):D:=.tup [.int p.1,.int p.2]
def valD:Val->D|none=>.non|some p=>prD p
abbrev Lt:=Tx×Val
def letD(p:Lt):D:=.tup [.str p.1,valD p.2]
def wayD(w:List Lt):D:=.tup (w.map letD)
structure Ln where
 st:Tx
 v:Val
 want:Int
 to:List Lt
 back:List Lt
 fl:Nat
def lnD(l:Ln):D:=.tup [.str l.st,valD l.v,.int l.want,wayD l.to,wayD l.back,.int l.fl]
structure Hl where
 s:Tx
 sr:Val
 la:Int×Int
 ls:List Ln
 ans:D
 brk:D
def opnF(l:Ln):List (WE×R):=[("state",.d (.str l.st)),("value",.d (valD l.v)),("want",.d (.int l.want)),("to",.d (wayD l.to)),("back",.d (wayD l.back)),("flags",.d (.int l.fl))]
def halF(X:Hl)(q:Nat):List (WE×R):=[("state",.d (.str X.s)),("store",.d (valD X.sr)),("last",.d (prD X.la)),("lines",.loc q),("answer",.d X.ans),("broken",.d X.brk)]
theorem znG(n:Nat)(k:Q (.d .non) (h++[.ins "OpenLine" (opnF l)])):Ok (zaf P (n+1) 47 [.loc h.length,.d (lnD l)] (h++[.ins "OpenLine" []])) Q:=by refine cl rfl rfl rfl ?_;refine st zad ⟨rfl,(by decide:0<900),?_⟩;rw[zan];refine st zad ⟨rfl,(by decide:1<900),?_⟩;rw[zan];refine st zad ⟨rfl,(by decide:2<900),?_⟩;rw[zan];refine st zad ⟨rfl,(by decide:3<900),?_⟩;rw[zan];refine st zad ⟨rfl,(by decide:4<900),?_⟩;rw[zan];refine st zad ⟨rfl,(by decide:5<900),?_⟩;rw[zan];exact zai.mpr k
def zcl(p:Nat)(n:Nat):List Nat:=(Zy n).map (p+·)
abbrev lnO(l:Ln):Ob:=.ins "OpenLine" (opnF l)
def halS(p:Nat)(X:Hl):Sto:=.ins "Hall" (halF X (p+1+X.ls.length))::(X.ls.map lnO++[.ols (zcl (p+1) X.ls.length)])
def stdD(s:Tx)(a:Val)(b:Int×Int)(ls:List Ln):D:=.tup [.str s,valD a,prD b,.tup (ls.map lnD)]
theorem zhS(n:Nat)(k:Q (.d .non) (h++halS h.length ⟨s,a,b,ls,.non,.non⟩)):Ok (zaf P (n+2) 49 [.loc h.length,.d (stdD s a b ls)] (h++[.ins "Hall" []])) Q:=by
 refine cl rfl rfl rfl ?_;refine st zad ⟨rfl,(by decide:0<900),?_⟩;rw[zan];refine st zad ⟨rfl,(by decide:1<900),?_⟩;rw[zan];refine st zad ⟨rfl,(by decide:2<900),?_⟩;rw[zan];refine ask ?_;rw[Y7];refine zhV (g:=dI∘lnD) (λi ys h'=>i<=ls.length/\ys=zcl (h.length+1) i/\h'=h++.ins "Hall" [("state",.d (.str s)),("store",.d (valD a)),("last",.d (prD b))]::((ls.take i).map lnO)) ?_ ?_ ⟨by omega,rfl,rfl⟩
 ·rintro i l ys h' hl ⟨hi,rfl,rfl⟩
  have hi2:i<ls.length:=(Z9.mp hl).1
  have e1:h++.ins "Hall" [("state",.d (.str s)),("store",.d (valD a)),("last",.d (prD b))]::((ls.take (i+1)).map lnO)=(h++.ins "Hall" [("state",.d (.str s)),("store",.d (valD a)),("last",.d (prD b))]::((ls.take i).map lnO))++[.ins "OpenLine" (opnF l)]:=by rw[W8,hl];simp
  have e2:(h++.ins "Hall" [("state",.d (.str s)),("store",.d (valD a)),("last",.d (prD b))]::((ls.take i).map lnO)).length=h.length+1+i:=by simp;omega
  rw[e1];generalize (h++.ins "Hall" [("state",.d (.str s)),("store",.d (valD a)),("last",.d (prD b))]::((ls.take i).map lnO))=h1 at e2⊢;refine go ?_;refine ask (znG n ⟨rfl,?_⟩);refine st zad ?_;refine⟨rfl,by omega,?_,rfl⟩;rw[e2];unfold zcl;rw[List.range_succ,Zp];rfl
 ·rintro ys h' ⟨hi,rfl,rfl⟩
  rw[Yp];ac_rfl;simp only[ZO,Yr,ZS,Zu,Z3];refine st zad ⟨rfl,(by decide:3<900),?_⟩;rw[zan];refine st zad ⟨rfl,(by decide:4<900),?_⟩;rw[zan];refine st zad ⟨rfl,(by decide:5<900),?_⟩;rw[zan];refine zai.mpr ?_
  have e:halS h.length ⟨s,a,b,ls,.non,.non⟩=.ins "Hall" (halF ⟨s,a,b,ls,.non,.non⟩ (h.length+(ls.length+1)))::(ls.map lnO++[.ols (zcl (h.length+1) ls.length)]):=by unfold halS;rw[show h.length+1+ls.length=h.length+(ls.length+1) by omega]
  rw[e] at k;exact k
structure zbS(h:Sto)(p:Nat)(X:Hl)(q:Nat):Prop where
 hall:h[p]?=some (.ins "Hall" (halF X q))
 ols:h[q]?=some (.ols (zcl (p+1) X.ls.length))
 ln:∀i l,X.ls[i]?=some l->h[p+1+i]?=some (.ins "OpenLine" (opnF l))
theorem zcw{p n:Nat}{i:Int}(h0:0<=i)(h1:i<n):at' (zcl p n) i=some (p+i.toNat):=by unfold at' ixn zcl;simp only[Z3,Wn,if_pos h0,if_pos h1];rw[ZF,Ya (by omega)];rfl
theorem zd8:(zcl p n).length=n:=by simp[zcl]
theorem zkw:zbS (h++halS h.length X++t) h.length X (h.length+1+X.ls.length):=by
 unfold halS;refine⟨?_,?_,λi l e=>?_⟩
 ·rw [ZO,ZK (Z2 _),WG]
  rfl
 ·rw [ZO,ZK (by omega),show h.length+1+X.ls.length-h.length=X.ls.length+1 by omega]
  simp
 ·have hi:i<X.ls.length:=(Z9.mp e).1
  rw[ZO,ZK (by omega),show h.length+1+i-h.length=i+1 by omega];simp only[Yr,Y6,ZO];rw[ZR (by simpa using hi),ZF,e];rfl
theorem zaa:zbS (h++halS h.length X) h.length X (h.length+1+X.ls.length):=by
 have:=zkw (h:=h) (X:=X) (t:=[])
 rwa [Zc] at this
theorem zbO(hk:k<X.ls.length):(h++halS h.length X).set (h.length+1+k) (.ins "OpenLine" (opnF l))=h++halS h.length {X with ls:=X.ls.set k l}:=by unfold halS;rw[Yl _ _ (by omega),show h.length+1+k-h.length=k+1 by omega,List.set_cons_succ,List.set_append_left _ _ (by simpa using hk),<-List.map_set];simp only[WP];rfl
theorem zc6{Y:Hl}(e:Y.ls.length=X.ls.length)(e2:Y.ls=X.ls):(h++halS h.length X).set h.length (.ins "Hall" (halF Y (h.length+1+X.ls.length)))=h++halS h.length Y:=by unfold halS;rw[zan,e2]
abbrev kask:Tx:=[97,115,107]
abbrev zob:Tx:=[116,97,107,101]
abbrev kget:Tx:=[103,101,116]
abbrev zb9:Tx:=[104,97,110,100]
abbrev zbv:Tx:=[104,111,117,115,101]
abbrev kany:Tx:=[97,110,121]
abbrev zsS:Tx:=[108,97,115,116]
abbrev zoL:Tx:=[109,111,114,101]
abbrev zep:Tx:=[114,101,97,100]
abbrev zaE:Tx:=[119,114,105,116,101]
abbrev zlw:Tx:=[100,114,111,112]
abbrev zjP:Tx:=[119,97,105,116]
abbrev zcP:Tx:=[110,111,110,101]
abbrev ztG:Tx:=[107,101,101,112]
abbrev zv6:Tx:=[108,111,115,101]
abbrev kput:Tx:=[112,117,116]
abbrev zv8:Tx:=[116,101,108,108]
abbrev zrz:Tx:=[115,101,110,100]
abbrev kown:Tx:=[111,119,110]
abbrev zvd:Tx:=[115,104,97,114,101]
abbrev zsX:Tx:=[102,111,114,103,101,116]
abbrev zuX:Tx:=[99,108,101,97,114]
abbrev zok:Tx:=[115,116,97,121]
abbrev zqo:Tx:=[111,119,110,101,114]
abbrev zmM:Tx:=[111,116,104,101,114,115]
abbrev zcs:Tx:=[118,97,108,117,101]
abbrev zlo:Tx:=[98,97,114,101]
abbrev zun:Tx:=[119,114,111,116,101]
abbrev kold:Tx:=[111,108,100]
abbrev zuB:Tx:=[102,117,108,108]
abbrev znU:Tx:=[110,111,114,111,119]
abbrev zmp:Tx:=[99,108,97,115,104]
inductive HA where|keep | lose | put | tell|send (m l:Tx)
inductive OA where|keep | own | share | forget | clear | stay|send (w:Nat) (m l:Tx)
def zpU(w:Nat):Tx:=if w=0 then zrz else if w=1 then zqo else zmM
def haD:HA->D|.keep=>.tup [.str ztG]|.lose=>.tup [.str zv6]|.put=>.tup [.str kput]|.tell=>.tup [.str zv8]|.send m l=>.tup [.str zrz,.str m,.str l]
def oaD:OA->D|.keep=>.tup [.str ztG]|.own=>.tup [.str kown]|.share=>.tup [.str zvd]|.forget=>.tup [.str zsX]|.clear=>.tup [.str zuX]|.stay=>.tup [.str zok]|.send w m l=>.tup [.str (zpU w),.str m,.str l]
inductive Acts where|hand (as:List HA)|house (as:List OA)|wait
def zbL:Acts->D|.hand as=>.tup (as.map haD)|.house as=>.tup (as.map oaD)|.wait=>.tup [.tup [.str zjP]]
structure Row where
 k:Tx
 m:List Tx
 nx:Tx
 acts:Acts
def rowD(r:Row):D:=.tup (.str r.k::(r.m.map D.str++[.str r.nx,zbL r.acts]))
structure Row.Ok(r:Row):Prop where
 m:2<=r.m.length
 hand:r.k=zb9->∃as,r.acts=.hand as
 house:r.k=zbv->r.acts=.wait\/∃as,r.acts=.house as
structure Tab where
 hands:List (Tx×Tx)
 h0:Tx
 hs:List D
 rows:List Row
def hnD(p:Tx×Tx):D:=.tup [.str p.1,.str p.2]
def tabD(T:Tab):D:=.tup [.tup (T.hands.map hnD),.tup (.str T.h0::T.hs),.tup (T.rows.map rowD)]
structure Tab.Ok(T:Tab):Prop where
 rows:∀r∈T.rows,r.Ok
 few:T.rows.length<=100
 hands:T.hands≠[]
def optR:Option Row->D|some d=>rowD d|none=>.non
def zgl(hd:List D):D->Bool|.tup r=>D.eqbs (r.take hd.length) hd|_=>false
def zc5(rows:List Row)(hd:List D):Option Row:=rows.find? λr=>zgl hd (rowD r)
theorem zdu(n:Nat){T:Tab}(hdep:(D.tup hd).dep<=60)(kq:Q (.d (optR (zc5 T.rows hd))) h):Ok (zaf P (n+1) 3 [.d (tabD T),.d (.tup hd)] h) Q:=by
 refine cl rfl rfl rfl ?_;refine ask ?_;show Ok (loop _ _ ((T.rows.map rowD).map dI) _ _) _;refine zfQ (xs:=T.rows.map rowD) (λi σ h'=>h'=h/\zc5 T.rows hd=zc5 (T.rows.drop i) hd/\∃v,σ=[some (.d (tabD T)),some (.d (.tup hd)),v]) ?_ ?_ ⟨rfl,rfl,none,rfl⟩
 ·rintro i r σ h' hr ⟨rfl,hf,v,rfl⟩
  rw[ZF,Zk] at hr;obtain⟨r,hr,rfl⟩:=hr;have hi:=(Z9.mp hr).1
  have hd1:T.rows.drop i=r::T.rows.drop (i+1):=by rw[Zv hi,(Z9.mp hr).2]
  rw[hd1] at hf;refine gb ?_;ac_rfl;rw[cutN];refine st (zjQ (znR hdep)) ?_;refine br (λc=>?_) (λc=>?_)
  ·ac_rfl
   rw[hf] at kq;unfold zc5 at kq
   rw[List.find?_cons_of_pos (by unfold zgl;exact c)] at kq
   exact f0 kq
  ·ac_rfl
   rw[hf];unfold zc5
   rw[List.find?_cons_of_neg (p:=λr=>zgl hd (rowD r)) (a:=r) (show ¬zgl hd (rowD r)=true by intro z;cases c.symm.trans z)]
   exact⟨rfl,rfl,rfl,_,rfl⟩
 ·rintro σ h' ⟨rfl,hf,v,rfl⟩
  ac_rfl;rw[Z3,Yu (Z2 _)] at hf;rw[hf] at kq;exact f0 kq
theorem dep3:(D.tup [.str a,.str b,.str c]).dep<=60:=by simp[D.dep,D.deps]
theorem dep4:(D.tup [.str a,.str b,.str c,.str d]).dep<=60:=by simp[D.dep,D.deps]
def zcR(T:Tab)(s e:Tx):Option Row:=zc5 T.rows [.str zb9,.str s,.str e]
theorem zev(n:Nat){T:Tab}(kq:Q (.d (optR (zcR T s e))) h):Ok (zaf P (n+2) 1 [.d (tabD T),.d (.str s),.d (.str e)] h) Q:=by refine cl rfl rfl rfl ?_;exact ask (zdu n dep3 (f0 kq))
def zdZ(T:Tab)(s m:Tx)(last:Bool):Option Row:=(zc5 T.rows [.str zbv,.str s,.str m,.str kany]).or (zc5 T.rows [.str zbv,.str s,.str m,.str (if last then zsS else zoL)])
theorem zgX(n:Nat){T:Tab}(kq:Q (.d (optR (zdZ T s m last))) h):Ok (zaf P (n+2) 2 [.d (tabD T),.d (.str s),.d (.str m),.d (.bl last)] h) Q:=by
 refine cl rfl rfl rfl ?_;unfold zdZ at kq;refine ask (zdu n dep4 ?_);ac_rfl
 cases e:zc5 T.rows [.str zbv,.str s,.str m,.str kany] with
 |some r=>rw[e] at kq;exact f0 kq
 |none=>
  rw[e] at kq
  refine br (λc=>?_) (λc=>?_)<;>subst c<;>ac_rfl<;>exact ask (zdu n dep4 (f0 kq))
variable {Q:R->Sto->Prop}
def zrU(w:Tx)(l:Ln):List Lt:=if w=zob then l.to else l.back
theorem zeL(n:Nat){h:Sto}{k:Nat}{d:List D}{w:Tx}{l:Ln}(H:zbS h p X q)(el:X.ls[k]?=some l)(kq:Q (.d (wayD (zrU w l))) h):Ok (zaf P (n+1) 15 [.loc p,.d (.tup (.str w::.int k::d))] h) Q:=by
 refine cl rfl rfl rfl ?_;have hk:k<X.ls.length:=(Z9.mp el).1;have e4:=H.ln k l el;refine st H.hall ?_;refine st zkd ?_;refine st H.ols ?_;refine st (zcw (by omega) (by omega)) ?_;refine st zeD ?_;refine br (λc=>?_) (λc=>?_)
 ·have c':w=zob:=ZV c
  refine st e4 ?_;refine f0 ?_;unfold zrU at kq
  rwa [if_pos c'] at kq
 ·have c':¬w=zob:=ne_of_beq_false c
  refine st e4 ?_;refine f0 ?_;unfold zrU at kq
  rwa [if_neg c'] at kq
def hasF(f:Nat)(l:Ln):Bool:=((l.fl &&& f:Nat):Int) != 0
def zlH(f:Nat)(ls:List Ln):List (Int×Ln):=(nums 0 ls).filter λp=>hasF f p.2
theorem zl7{ls:List Ln}:zat 0 ((zcl p ls.length).map λl=>Ite.r (.loc l))=some ((nums 0 ls).map λx=>Ite.en x.1 (.loc (p+x.1.toNat))):=by
 have gen:∀(ls:List Ln) (i:Nat),zat (i:Int) (((List.range' i ls.length).map (p+·)).map λl=>Ite.r (.loc l))=some ((nums (i:Int) ls).map λx=>Ite.en x.1 (.loc (p+x.1.toNat))):=by
  intro ls
  induction ls with
  |nil=>intro i;rfl
  |cons l ls ih=>
   intro i
   have:=ih (i+1)
   push_cast at this
   simp only[Zu,List.range'_succ,ZB,zat,this,nums,ZD]
 unfold zcl;rw[List.range_eq_range'];exact gen ls 0
theorem zdQ{ls:List α}{x:Int×α}(h:x∈nums 0 ls):0<=x.1/\x.1<ls.length/\ls[x.1.toNat]?=some x.2:=by obtain⟨j,hj,e⟩:=Yx h;obtain⟨h1,h2⟩:=zjK ls 0 j x (by rw[Z6 hj,e]);have h3:=(Z9.mp h2).1;rw[show x.1.toNat=j by omega];exact⟨by omega,by omega,h2⟩
theorem zdY{α β:Type}{p:α->Bool}{g:α->β}:∀xs:List α,xs.filterMap (λx=>if p x then some (g x) else none)=(xs.filter p).map g
 | []=>rfl
 |x::xs=>by
  rw[YA,We,zdY xs]
  cases p x<;>rfl
def hwD(f:Nat)(ls:List Ln):List D:=(zlH f ls).map λp=>D.int p.1
theorem zcV(n:Nat){f:Nat}(H:zbS h p X q)(kq:Q (.d (.lst (hwD f X.ls))) h):Ok (zaf P (n+1) 56 [.loc p,.d (.int f)] h) Q:=by
 refine cl rfl rfl rfl ?_;refine st H.hall ?_;refine st H.ols ?_;refine st zl7 ?_;refine ask (zb7 (g:=λx=>if hasF f x.2 then some (.int x.1) else none) (λx hx=>?_) (zdC H.ols H.ols) ?_)
 ·obtain ⟨h1,h2,h3⟩:=zdQ hx
  have e4:=H.ln _ _ h3;refine gc ?_;refine st e4 ?_;ac_rfl;refine br (λc=>?_) (λc=>?_)
  ·ac_rfl
   exact⟨(if_pos (show hasF f x.2=true from c)).symm,rfl⟩
  ·ac_rfl
   exact⟨(if_neg (show ¬hasF f x.2=true by intro z;cases c.symm.trans z)).symm,rfl⟩
 ·rw [zdY]
  exact f0 kq
def oth(k:Nat)(ls:List Ln):List (Int×Ln):=(zlH 1 ls).filter λp=>p.1 != (k:Int)
theorem ze2(n:Nat){k:Nat}(H:zbS h p X q)(kq:Q (.d (.lst ((oth k X.ls).map λp=>D.int p.1))) h):Ok (zaf P (n+2) 57 [.loc p,.d (.int k)] h) Q:=by
 refine cl rfl rfl rfl ?_;refine st H.hall ⟨rfl,rfl,?_⟩;refine ask (zcV n (f:=1) H ?_);refine ask ?_;show Ok (zbz none _ ((hwD 1 X.ls).map dI) _) _;unfold hwD;rw[Y7];refine zb7 (d:=dI∘λp:Int×Ln=>D.int p.1) (g:=λx:Int×Ln=>if x.1 != (k:Int) then some (.int x.1) else none) (λx hx=>?_) zav ?_
 ·refine gc ?_
  refine br (λc=>?_) (λc=>?_)
  ·ac_rfl
   exact⟨(if_pos c).symm,rfl⟩
  ·ac_rfl
   exact⟨(if_neg (show ¬(x.1 != (k:Int))=true by intro z;cases c.symm.trans z)).symm,rfl⟩
 ·rw [zdY]
  exact f0 kq
theorem zmj(n:Nat){p k:Nat}{T:Tab}{t:List D}{ev:Tx}{Q:R->Sto->Prop}(H:zbS h p X q)(el:X.ls[k]?=some l)(kq:Q (.d (optR (zcR T l.st ev))) h):
  Ok (zaf P (n+3) 16 [.d (tabD T),.loc p,.d (.tup (.str kask::.int k::.str ev::t))] h) Q:=by
 refine cl rfl rfl rfl ?_;have hk:k<X.ls.length:=(Z9.mp el).1;have e4:=H.ln k l el;refine st H.hall ?_;refine st zkd ?_;refine st H.ols ?_;refine st (zcw (by omega) (by omega)) ?_;refine st e4 ?_;refine st zeD ?_;refine st zqA ?_;exact ask (zev (n) (f0 kq))
theorem zhm{w:List Lt}{j:Nat}(ej:w[j]?=some lt):idxD (wayD w) (.int j)=some (letD lt):=ze6 (by omega) (by rw[ZD,ZF,ej];rfl)
theorem zj6(n:Nat){p k j:Nat}{T:Tab}{Q:R->Sto->Prop}(H:zbS h p X q)(el:X.ls[k]?=some l)(ej:l.to[j]?=some lt)(kq:Q (.d (optR (zcR T l.st lt.1))) h):
  Ok (zaf P (n+3) 16 [.d (tabD T),.loc p,.d (.tup [.str zob,.int k,.int j])] h) Q:=by
 refine cl rfl rfl rfl ?_;have hk:k<X.ls.length:=(Z9.mp el).1;have e4:=H.ln k l el;refine st H.hall ?_;refine st H.ols ?_;refine st (zcw (by omega) (by omega)) ?_;refine st e4 ?_;refine ask (zeL (n+1) H el ?_);refine st (zhm ej) ?_;exact ask (zev n (f0 kq))
theorem znm(n:Nat){p k j:Nat}{T:Tab}{Q:R->Sto->Prop}(H:zbS h p X q)(el:X.ls[k]?=some l)(ej:l.back[j]?=some lt)(kq:Q (.d (optR (zdZ T X.s lt.1 (oth k X.ls).isEmpty))) h):
  Ok (zaf P (n+3) 16 [.d (tabD T),.loc p,.d (.tup [.str kget,.int k,.int j])] h) Q:=by
 refine cl rfl rfl rfl ?_;have hk:k<X.ls.length:=(Z9.mp el).1;have e4:=H.ln k l el;refine st H.hall ?_;refine st H.ols ?_;refine st (zcw (by omega) (by omega)) ?_;refine st e4 ?_;refine ask (zeL (n+1) H el ?_);refine st (zhm ej) ?_;refine st H.hall ?_;refine st H.hall ⟨rfl,rfl,?_⟩;refine ask (ze2 n H ?_)
 have e:(!(!((oth k X.ls).map λp=>D.int p.1).isEmpty))=(oth k X.ls).isEmpty:=by cases oth k X.ls<;>rfl
 ac_rfl;rw[e];exact ask (zgX n (f0 kq))
theorem zpD(o:Option Row):zar (optR o)=o.isNone:=by cases o<;>rfl
def zgx:Acts->Bool|.wait=>true|_=>false
def goes:Option Row->Bool|none=>true|some r=>!zgx r.acts
theorem zit(a:Acts):(zbL a).eqb (.tup [.tup [.str zjP]])=zgx a:=by
 cases a with
 |wait=>rfl
 |hand as=>
  cases as with|nil=>rfl|cons a r=>cases a<;>rfl
 | house as=>
  cases as with
  |nil=>rfl
  | cons a r=>
   cases a with
   | send w m l=>
    unfold zbL;simp only[ZB,oaD,zpU,zgx];show(D.eqb (.tup [.str _,.str m,.str l]) (.tup [.str zjP])&&_)=false
    have:D.eqb (.tup [.str (if w=0 then zrz else if w=1 then zqo else zmM),.str m,.str l]) (.tup [.str zjP])=false:=by show((_==_)&&false)=false;exact X6 _
    rw[this];rfl
   |_=>rfl
theorem zel(r:Row):idxD (rowD r) (.int (-1))=some (zbL r.acts):=by unfold rowD;rw[show(D.str r.k::(r.m.map D.str++[.str r.nx,zbL r.acts]))=(D.str r.k::(r.m.map D.str++[.str r.nx]))++[zbL r.acts] by simp];simp only[idxD,zrO]
theorem zqr(r:Row):idxD (rowD r) (.int (-2))=some (.str r.nx):=by
 unfold rowD;simp only[idxD,at',ixn,Zu,ZS,Z3,Xv];rw[if_neg (by decide),if_pos (by omega)]
 have e:((-2:Int)+((r.m.length+(0+1+1)+1:Nat):Int)).toNat=r.m.length+1:=by omega
 show(D.str r.k::(r.m.map D.str++[.str r.nx,zbL r.acts]))[((-2:Int)+((r.m.length+(0+1+1)+1:Nat):Int)).toNat]?=_;rw[e,Y6,ZK (by simp)];simp
theorem zfC(n:Nat){o:Option Row}(kq:Q (.d (.bl (!goes o))) h):Ok (zaf P (n+1) 4 [.d (optR o)] h) Q:=by
 refine cl rfl rfl rfl ?_;ac_rfl
 cases o with|none=>exact f0 kq|some r=>refine st (zel r) ?_;refine st (zjQ (znR (show(D.tup [.tup [.str [119,97,105,116]]]).dep<=60 by simp[D.dep,D.deps]))) ?_;rw[zit];refine f0 ?_;simp only[goes,Bool.not_not] at kq;exact kq
inductive Deed where|ask (k:Int) (ev:Tx) (x:Option Int)|take (k j:Int)|get (k j:Int)
def Deed.k:Deed->Int|.ask k _ _=>k|.take k _=>k|.get k _=>k
def zaj:Deed->D|.ask k ev none=>.tup [.str kask,.int k,.str ev]|.ask k ev (some x)=>.tup [.str kask,.int k,.str ev,.int x]|.take k j=>.tup [.str zob,.int k,.int j]|.get k j=>.tup [.str kget,.int k,.int j]
def zkn(ev:Tx):Bool:=ev==zep||(ev==zaE||ev==zlw)
def zfX(T:Tab)(X:Hl)(l:Ln):Deed->Option Row
 |.ask _ ev _=>zcR T l.st ev
 |.take _ j=>match l.to[j.toNat]? with
  |some lt=>zcR T l.st lt.1|none=>none
 |.get k j=>match l.back[j.toNat]? with
  |some lt=>zdZ T X.s lt.1 (oth k.toNat X.ls).isEmpty|none=>none
def mayL(T:Tab)(X:Hl)(l:Ln):Deed->Bool|.ask k ev x=>zkn ev&&(zcR T l.st ev).isSome|.take k j=>decide (0<=j)&&decide (j<l.to.length)&&goes (zfX T X l (.take k j))|.get k j=>decide (0<=j)&&decide (j<l.back.length)&&goes (zfX T X l (.get k j))
def mayB(T:Tab)(X:Hl)(d:Deed):Bool:=if 0<=d.k then(match X.ls[d.k.toNat]? with
 |some l=>mayL T X l d
 |none=>false) else false
theorem zno(d:Deed):∃w t,zaj d=.tup (.str w::.int d.k::t):=by
 cases d with|ask k ev x=>cases x<;>exact⟨_,_,rfl⟩|take k j=>exact⟨_,_,rfl⟩|get k j=>exact⟨_,_,rfl⟩
theorem zsl{a b:Bool}(c:a=true↔b=true):a=b:=by cases a<;>cases b<;>simp_all
theorem zjT(n:Nat){p:Nat}{T:Tab}{d:Deed}(H:zbS h p X q)(kq:Q (.d (.bl (mayB T X d))) h):
  Ok (zaf P (n+4) 14 [.d (tabD T),.loc p,.d (zaj d)] h) Q:=by
 refine cl rfl rfl rfl ?_;obtain⟨w,t,ed⟩:=zno d;rw[ed];refine st zkd ?_;refine br (λc=>?_) (λc0=>?_)
 ·have c:=of_decide_eq_true c
  unfold mayB at kq;rw[if_neg (by omega)] at kq;exact f0 kq
 have c0:=of_decide_eq_false c0;refine st zkd ?_;refine st H.hall ?_;refine st H.ols ?_;refine br (λc=>?_) (λc1=>?_)
 ·have c:((zcl (p+1) X.ls.length).length:Int)<=d.k:=of_decide_eq_true c
  rw[zd8] at c;unfold mayB at kq;rw[if_pos (by omega),Zh (by omega)] at kq;exact f0 kq
 have c1:¬((zcl (p+1) X.ls.length).length:Int)<=d.k:=of_decide_eq_false c1;rw[zd8] at c1;obtain⟨k,ek⟩:∃k:Nat,d.k=k:=⟨d.k.toNat,by omega⟩
 have hk:k<X.ls.length:=by omega
 have el:X.ls[k]?=some X.ls[k]:=Z6 hk;generalize X.ls[k]=l at el
 have em:mayB T X d=mayL T X l d:=by unfold mayB;rw[if_pos (by omega),ek,ZD,el]
 rw[em] at kq;rw[<-ed]
 cases d with
 | ask k' ev x=>
  obtain rfl:k'=k:=ek
  have ed:∃t,zaj (.ask k ev x)=.tup (.str kask::.int k::.str ev::t):=by cases x<;>exact⟨_,rfl⟩
  obtain⟨t,ed⟩:=ed;rw[ed];refine st zeD ?_;refine st zqA ?_
  have e5:([D.str [114,101,97,100],D.str [119,114,105,116,101],D.str [100,114,111,112]].any λy=>y.eqb (.str ev))=zkn ev:=by
   refine zsl ?_;simp only[List.any_cons,List.any_nil,Bool.or_false,YY,zkn,D.eqb,beq_iff_eq]
   constructor<;>(rintro(h | h | h)<;>simp[h])
  refine br (λc=>?_) (λc=>?_)
  ·have c:=e5.symm.trans c
   refine ask (zmj n H el ?_);refine f0 ?_
   rw[zpD,show(!(zcR T l.st ev).isNone)=(zcR T l.st ev).isSome by cases zcR T l.st ev<;>rfl]
   simp only[mayL] at kq;rw[c,Za] at kq;exact kq
  ·have c:=e5.symm.trans c
   refine f0 ?_;simp only[mayL] at kq;rw[c,Y1] at kq;exact kq
 | take k' j=>
  obtain rfl:k'=k:=ek;refine br (λc=>?_) (λc2=>?_)
  ·have c:=of_decide_eq_true c
   refine f0 ?_;simp only[mayL] at kq;rw[decide_eq_false (by omega),Y1,Y1] at kq;exact kq
  have c2:=of_decide_eq_false c2;refine ask (zeL (n+2) H el ?_);ac_rfl;rw[Z3];refine br (λc=>?_) (λc3=>?_)
  ·have c:=of_decide_eq_true c
   have c:(l.to.length:Int)<=j:=c;refine f0 ?_;simp only[mayL] at kq;rw[decide_eq_false (by omega:¬j<(l.to.length:Int)),X6,Y1] at kq;exact kq
  have c3:¬(l.to.length:Int)<=j:=of_decide_eq_false c3;obtain⟨j,rfl⟩:∃i:Nat,j=i:=⟨j.toNat,by omega⟩;have ej:l.to[j]?=some l.to[j]:=Z6 (by omega);refine ask (zj6 n H el ej ?_);refine ask (zfC (n+2) ?_);refine f0 ?_;rw[Bool.not_not];simp only[mayL,zfX] at kq;rw[decide_eq_true (by omega:(0:Int)<=j),decide_eq_true (by omega:(j:Int)<(l.to.length:Int)),Za,Za,ZD,ej] at kq;exact kq
 | get k' j=>
  obtain rfl:k'=k:=ek;refine br (λc=>?_) (λc2=>?_)
  ·have c:=of_decide_eq_true c
   refine f0 ?_;simp only[mayL] at kq;rw[decide_eq_false (by omega),Y1,Y1] at kq;exact kq
  have c2:=of_decide_eq_false c2;refine ask (zeL (n+2) H el ?_);ac_rfl;rw[Z3];refine br (λc=>?_) (λc3=>?_)
  ·have c:=of_decide_eq_true c
   have c:(l.back.length:Int)<=j:=c;refine f0 ?_;simp only[mayL] at kq;rw[decide_eq_false (by omega:¬j<(l.back.length:Int)),X6,Y1] at kq;exact kq
  have c3:¬(l.back.length:Int)<=j:=of_decide_eq_false c3;obtain⟨j,rfl⟩:∃i:Nat,j=i:=⟨j.toNat,by omega⟩;have ej:l.back[j]?=some l.back[j]:=Z6 (by omega);refine ask (znm n H el ej ?_);refine ask (zfC (n+2) ?_);refine f0 ?_;rw[Bool.not_not];simp only[mayL,zfX] at kq;rw[decide_eq_true (by omega:(0:Int)<=j),decide_eq_true (by omega:(j:Int)<(l.back.length:Int)),Za,Za,ZD,ej] at kq;exact kq
variable {Q:R->Sto->Prop}
def bad(w:Tx):D:=.tup [.str w]
def load(ld:Tx)(v:Val):Val:=if ld=zcs then v else none
def post(w:List Lt)(x:Lt):List Lt:=if 2<=w.length then w else w++[x]
def pbrk(w:List Lt)(b:D):D:=if 2<=w.length then bad zuB else b
theorem zfb(n:Nat)(kq:Q (.d (letD (m,load ld v))) h):Ok (zaf P (n+1) 13 [.d (.str m),.d (.str ld),.d (valD v)] h) Q:=by
 refine cl rfl rfl rfl ?_;refine br (λc=>?_) (λc=>?_)
 ·have c':ld=zcs:=ZV c
  unfold load at kq;rw[if_pos c'] at kq;exact f0 kq
 ·have c':¬ld=zcs:=ne_of_beq_false c
  unfold load at kq;rw[if_neg c'] at kq;exact f0 kq
theorem zfB(n:Nat){a b:Int×Int}(k:Q (.d (.bl (a.1==b.1))) h):Ok (zaf P (n+1) 11 [.d (prD a),.d (prD b)] h) Q:=by refine cl rfl rfl rfl ?_;exact f0 k
theorem zwh{w:List Lt}(hw:w.length<2)(x:Lt):fit ((w.map letD).length+[letD x].length)=true:=decide_eq_true (by unfold big;simp;omega)
theorem zeV(n:Nat){X:Hl}{w:List Lt}{x:Lt}(kq:Q (.d (wayD (post w x))) (h++halS h.length {X with brk:=pbrk w X.brk})):Ok (zaf P (n+1) 55 [.loc h.length,.d (wayD w),.d (letD x)] (h++halS h.length X)) Q:=by
 refine cl rfl rfl rfl ?_;ac_rfl;refine br (λc=>?_) (λc=>?_)
 ·have c':(2:Int)<=((w.map letD).length:Int):=of_decide_eq_true c
  have c':2<=w.length:=by simpa using(by exact_mod_cast c':2<=(w.map letD).length)
  refine st zaa.hall ⟨rfl,(by decide:6<900),?_⟩;unfold post pbrk at kq;rw[if_pos c',if_pos c'] at kq;refine zai.mpr ?_;have e:=zc6 (h:=h) (X:=X) (Y:={X with brk:=bad zuB}) rfl rfl;rw[<-e] at kq;exact kq
 ·have c':¬(2:Int)<=((w.map letD).length:Int):=of_decide_eq_false c
  have c':¬2<=w.length:=by intro z;apply c';simp;omega
  have e:bop .add (wayD w) (.tup [letD x])=some (wayD (w++[x])):=by show(if fit ((w.map letD).length+[letD x].length) then some (D.tup (w.map letD++[letD x])) else none)=_;rw[if_pos (zwh (by omega) x)];unfold wayD;rw[Zp];rfl
  refine st e ?_;unfold post pbrk at kq;rw[if_neg c',if_neg c'] at kq;exact zai.mpr kq
def zpr(X:Hl)(k:Nat)(l:Ln)(m ld:Tx):Hl:={X with ls:=X.ls.set k {l with back:=post l.back (m,load ld l.v)},brk:=pbrk l.back X.brk}
def znu(X:Hl)(k:Nat)(l:Ln)(x:Lt):Hl:={X with ls:=X.ls.set k {l with to:=post l.to x},brk:=pbrk l.to X.brk}
theorem zcZ{X:Hl}{p k:Nat}(hk:k<X.ls.length):at' (zcl (p+1) X.ls.length) (k:Int)=some (p+1+k):=by rw[zcw (by omega) (by omega),ZD]
theorem zk0(n:Nat){X:Hl}{k:Nat}{l:Ln}{m ld:Tx}(el:X.ls[k]?=some l)(kq:Q (.d .non) (h++halS h.length (zpr X k l m ld))):Ok (zaf P (n+2) 53 [.loc h.length,.d (.int k),.d (.str m),.d (.str ld)] (h++halS h.length X)) Q:=by have hk:k<X.ls.length:=(Z9.mp el).1;refine cl rfl rfl rfl ?_;refine st zaa.hall ?_;refine st zaa.ols ?_;refine st (zcZ hk) ?_;refine st zaa.hall ⟨rfl,rfl,?_⟩;refine st (zaa.ln k l el) ?_;refine st (zaa.ln k l el) ?_;refine ask (zfb n ?_);refine ask (zeV n ?_);ac_rfl;refine st ((zaa (h:=h) (X:={X with brk:=pbrk l.back X.brk})).ln k l el) ⟨rfl,(by decide:6<900),?_⟩;refine zai.mpr ?_;have e:=zbO (h:=h) (X:={X with brk:=pbrk l.back X.brk}) (l:={l with back:=post l.back (m,load ld l.v)}) hk;rw[show h++halS h.length (zpr X k l m ld)=_ from e.symm] at kq;exact kq
theorem zlm(n:Nat){X:Hl}{k:Nat}{l:Ln}{m ld:Tx}(el:X.ls[k]?=some l)(kq:Q (.d .non) (h++halS h.length (znu X k l (m,load ld X.sr)))):Ok (zaf P (n+2) 54 [.loc h.length,.d (.int k),.d (.str m),.d (.str ld)] (h++halS h.length X)) Q:=by have hk:k<X.ls.length:=(Z9.mp el).1;refine cl rfl rfl rfl ?_;refine st zaa.hall ?_;refine st zaa.ols ?_;refine st (zcZ hk) ?_;refine st zaa.hall ⟨rfl,rfl,?_⟩;refine st (zaa.ln k l el) ?_;refine st zaa.hall ?_;refine ask (zfb n ?_);refine ask (zeV n ?_);ac_rfl;refine st ((zaa (h:=h) (X:={X with brk:=pbrk l.to X.brk})).ln k l el) ⟨rfl,(by decide:6<900),?_⟩;refine zai.mpr ?_;have e:=zbO (h:=h) (X:={X with brk:=pbrk l.to X.brk}) (l:={l with to:=post l.to (m,load ld X.sr)}) hk;rw[show h++halS h.length (znu X k l (m,load ld X.sr))=_ from e.symm] at kq;exact kq
def putV(X:Hl)(k:Nat)(l:Ln):Hl:={X with la:=(X.la.1+1,l.want),ls:=X.ls.set k {l with v:=some (X.la.1+1,l.want)},ans:=.tup [.str zun,.int k,.int l.want]}
theorem zkZ(n:Nat){X:Hl}{k:Nat}{l:Ln}(el:X.ls[k]?=some l)(kq:Q (.d .non) (h++halS h.length (putV X k l))):Ok (zaf P (n+1) 51 [.loc h.length,.d (.int k)] (h++halS h.length X)) Q:=by
 have hk:k<X.ls.length:=(Z9.mp el).1;refine cl rfl rfl rfl ?_;refine st zaa.hall ?_;refine st zaa.ols ?_;refine st (zcZ hk) ?_;refine st zaa.hall ?_;refine st (zaa.ln k l el) ?_;refine st zaa.hall ⟨rfl,(by decide:6<900),?_⟩;have e1:=zc6 (h:=h) (X:=X) (Y:={X with la:=(X.la.1+1,l.want)}) rfl rfl;rw[show putF ("last":WE) (R.d (.tup [.int (X.la.1+1),.int l.want])) (halF X (h.length+1+X.ls.length))=halF {X with la:=(X.la.1+1,l.want)} (h.length+1+X.ls.length) from rfl,e1];refine st zaa.hall ?_;ac_rfl;refine st ((zaa (h:=h) (X:={X with la:=(X.la.1+1,l.want)})).ln k l el) ⟨rfl,(by decide:6<900),?_⟩;have e2:=zbO (h:=h) (X:={X with la:=(X.la.1+1,l.want)}) (l:={l with v:=some (X.la.1+1,l.want)}) hk;rw[show putF ("value":WE) (R.d (prD (X.la.1+1,l.want))) (opnF l)=opnF {l with v:=some (X.la.1+1,l.want)} from rfl,e2]
 have el2:({X with la:=(X.la.1+1,l.want),ls:=X.ls.set k {l with v:=some (X.la.1+1,l.want)}}:Hl).ls[k]?=some {l with v:=some (X.la.1+1,l.want)}:=by show(X.ls.set k _)[k]?=_;rw[Zl hk]
 refine st (zaa.ln k _ el2) ?_;refine st zaa.hall ⟨rfl,(by decide:6<900),?_⟩;have e3:=zc6 (h:=h) (X:={X with la:=(X.la.1+1,l.want),ls:=X.ls.set k {l with v:=some (X.la.1+1,l.want)}}) (Y:=putV X k l) rfl rfl;refine zai.mpr ?_;rw[<-e3] at kq;exact kq
def zee(X:Hl)(k:Nat)(l:Ln):Hl:=match l.v with|none=>{X with brk:=bad kold}|some p=>if p.1=X.la.1 then {X with ans:=.tup [.str zep,.int k,.int p.2]} else {X with brk:=bad kold}
theorem zm6(n:Nat){X:Hl}{k:Nat}{l:Ln}(el:X.ls[k]?=some l)(kq:Q (.d .non) (h++halS h.length (zee X k l))):Ok (zaf P (n+2) 52 [.loc h.length,.d (.int k)] (h++halS h.length X)) Q:=by
 have hk:k<X.ls.length:=(Z9.mp el).1;refine cl rfl rfl rfl ?_;refine st zaa.hall ?_;refine st zaa.ols ?_;refine st (zcZ hk) ?_;refine st (zaa.ln k l el) ?_;have eb:=zc6 (h:=h) (X:=X) (Y:={X with brk:=bad kold}) rfl rfl;obtain⟨l1,v,l2,l3,l4,l5⟩:=l
 cases v with
 |none=>refine st zaa.hall ⟨rfl,(by decide:6<900),?_⟩;refine zai.mpr ?_;have kq:Q (.d .non) (h++halS h.length {X with brk:=bad kold}):=kq;rw[<-eb] at kq;exact kq
 | some p=>
  refine st (zaa.ln k _ el) ?_;refine st zaa.hall ?_;refine ask (zfB n ?_);refine br (λc=>?_) (λc=>?_)
  ·have c:(!(p.1==X.la.1))=true:=c
   have c':¬p.1=X.la.1:=by simpa using c
   simp only[zee,if_neg c'] at kq;refine st zaa.hall ⟨rfl,(by decide:6<900),?_⟩;refine zai.mpr ?_;rw[<-eb] at kq;exact kq
  ·have c:(!(p.1==X.la.1))=false:=c
   have c':p.1=X.la.1:=by simpa using c
   simp only[zee,if_pos c'] at kq;refine st (zaa.ln k _ el) ?_;refine st zaa.hall ⟨rfl,(by decide:6<900),?_⟩;refine zai.mpr ?_;have ea:=zc6 (h:=h) (X:=X) (Y:={X with ans:=.tup [.str zep,.int k,.int p.2]}) rfl rfl;rw[<-ea] at kq;exact kq
def doHA(X:Hl)(k:Nat)(l:Ln)(v:Val):HA->Hl|.keep=>{X with ls:=X.ls.set k {l with v:=v}}|.lose=>{X with ls:=X.ls.set k {l with v:=none}}|.put=>putV X k l|.tell=>zee X k l|.send m ld=>zpr X k l m ld
theorem zmU(n:Nat){X:Hl}{k:Nat}{l:Ln}{v:Val}{a:HA}(el:X.ls[k]?=some l)(kq:Q (.d .non) (h++halS h.length (doHA X k l v a))):Ok (zaf P (n+3) 24 [.loc h.length,.d (.int k),.d (valD v),.d (haD a)] (h++halS h.length X)) Q:=by
 have hk:k<X.ls.length:=(Z9.mp el).1;refine cl rfl rfl rfl ?_;refine st zaa.hall ?_;refine st zaa.ols ?_;refine st (zcZ hk) ?_
 cases a with|keep=>refine st (zaa.ln k l el) ⟨rfl,(by decide:6<900),?_⟩;refine zai.mpr ?_;rw[show h++halS h.length (doHA X k l v .keep)=_ from(zbO hk).symm] at kq;exact kq|lose=>refine st (zaa.ln k l el) ⟨rfl,(by decide:6<900),?_⟩;refine zai.mpr ?_;rw[show h++halS h.length (doHA X k l v .lose)=_ from(zbO hk).symm] at kq;exact kq|put=>refine st zaa.hall ⟨rfl,rfl,?_⟩;exact ask (zkZ (n+1) el (zai.mpr kq))|tell=>refine st zaa.hall ⟨rfl,rfl,?_⟩;exact ask (zm6 n el (zai.mpr kq))|send m ld=>refine st zaa.hall ⟨rfl,rfl,?_⟩;exact ask (zk0 n el (zai.mpr kq))
theorem zg1{a:HA}:(doHA X k l v a).ls.length=X.ls.length:=by
 cases a with
 |tell=>
  show(zee X k l).ls.length=_;unfold zee
  split
  ·rfl
  ·split<;>rfl
 |_=>simp[doHA,putV,zpr]
def zbx(k:Nat)(v:Val):List HA->Hl->Hl
 | [],X=>X
 |a::as,X=>match X.ls[k]? with
  |some l=>if zar (doHA X k l v a).brk then zbx k v as (doHA X k l v a) else doHA X k l v a|none=>X
def toSt(X:Hl)(k:Nat)(nx:Tx):Hl:=if zar X.brk then(match X.ls[k]? with
 |some l=>{X with ls:=X.ls.set k {l with st:=nx}}
 |none=>X) else X
theorem zi0{α:Type}{as:List α}{i:Nat}{a:α}(h:as[i]?=some a):as.drop i=a::as.drop (i+1):=by rw[Zv (Z9.mp h).1,(Z9.mp h).2]
theorem zne{b:D}(c:(!zar b)=true):¬zar b=true:=by intro z;rw[z] at c;cases c
def hrB:List S:=match zb4 with|.for _ _ b::_=>b|_=>[]
theorem zo4(n:Nat){X:Hl}{k:Nat}{v:Val}{r:D}{as:List HA}{h:Sto}{Q:Fl×Env->Sto->Prop}(hk:k<X.ls.length)(hb:zar X.brk=true)
  (ret:∀σ,¬zar (zbx k v as X).brk=true->Q (.ret (.d .non),σ) (h++halS h.length (zbx k v as X))) (out:∀w,zar (zbx k v as X).brk=true->k<(zbx k v as X).ls.length->Q (.nx,[some (.loc h.length),some (.d (.int k)),some (.d (valD v)),some (.d r),w,none]) (h++halS h.length (zbx k v as X))):
  Ok (loop none (λy σ=>bnd (zaw (.name 4) y σ) λσ'=>exs (zaf P (n+3)) hrB σ') ((as.map haD).map dI) [some (.loc h.length),some (.d (.int k)),some (.d (valD v)),some (.d r),none,none] (h++halS h.length X)) Q:=by
 refine zfQ (xs:=as.map haD) (λi σ h'=>∃Y w,h'=h++halS h.length Y/\zar Y.brk=true/\k<Y.ls.length/\zbx k v as X=zbx k v (as.drop i) Y/\σ=[some (.loc h.length),some (.d (.int k)),some (.d (valD v)),some (.d r),w,none]) ?_ ?_ ⟨X,none,rfl,hb,hk,rfl,rfl⟩
 ·rintro i a σ h' ha ⟨Y,w,rfl,hY,hkY,e,rfl⟩
  rw[ZF,Zk] at ha;obtain⟨a,ha,rfl⟩:=ha;have el:Y.ls[k]?=some Y.ls[k]:=Z6 hkY;generalize Y.ls[k]=l at el;rw[zi0 ha] at e;simp only[zbx,el] at e;refine gb ?_;refine ask (zmU n el ?_);refine st zaa.hall ?_;ac_rfl;refine br (λc=>?_) (λc=>?_)
  ·have c':=zne c
   rw[if_neg c'] at e;rw[e] at ret;exact ret _ c'
  ·have c:(!zar (doHA Y k l v a).brk)=false:=c
   have c':zar (doHA Y k l v a).brk=true:=by simpa using c
   rw[if_pos c'] at e
   exact⟨rfl,_,_,rfl,c',by rw[zg1];exact hkY,e,rfl⟩
 ·rintro σ h' ⟨Y,w,rfl,hY,hkY,e,rfl⟩
  rw[Z3,XH,zbx] at e;rw[e] at out;exact out _ hY hkY
theorem zfH(n:Nat){X:Hl}{k:Nat}{v:Val}{r:Row}{as:List HA}(hk:k<X.ls.length)(hb:zar X.brk=true)(er:r.acts=.hand as)(kq:Q (.d .non) (h++halS h.length (toSt (zbx k v as X) k r.nx))):Ok (zaf P (n+4) 23 [.loc h.length,.d (.int k),.d (valD v),.d (rowD r)] (h++halS h.length X)) Q:=by
 refine cl rfl rfl rfl ?_;refine st (zel r) ?_;rw[er];refine ask ?_;refine zo4 n hk hb (λσ c=>?_) λw hY hkY=>?_
 ·refine zai.mpr ?_
  unfold toSt at kq;rw[if_neg c] at kq;exact kq
 ·generalize zbx k v as X=Y at *
  have el:Y.ls[k]?=some Y.ls[k]:=Z6 hkY;generalize Y.ls[k]=l at el;unfold toSt at kq;rw[if_pos hY] at kq;simp only[el] at kq;refine st zaa.hall ?_;refine st zaa.ols ?_;refine st (zcZ hkY) ?_;refine st (zqr r) ?_;ac_rfl;refine st (zaa.ln k l el) ⟨rfl,(by decide:6<900),?_⟩;refine zai.mpr ?_;rw[<-zbO hkY] at kq;exact kq
variable {Q:R->Sto->Prop}
def recv(X:Hl)(k:Nat)(w:Nat):List Nat:=if w=0 then[k] else if w=1 then(zlH 2 X.ls).map (·.1.toNat) else(oth k X.ls).map (·.1.toNat)
theorem znW{ls:List Ln}{xs:List (Int×Ln)}(h:∀x∈xs,x∈nums 0 ls):(xs.map (·.1.toNat)).map (λi:Nat=>D.int (i:Int))=xs.map λp=>D.int p.1:=by
 rw[Y7];refine List.map_congr_left λx hx=>?_
 have:=(zdQ (h x hx)).1
 show D.int ((x.1.toNat:Nat):Int)=D.int x.1;rw[XE this]
theorem zeZ{f:Nat}{ls:List Ln}:∀x∈zlH f ls,x∈nums 0 ls:=λx hx=>(X0.mp hx).1
theorem zoc{ls:List Ln}:∀x∈oth k ls,x∈nums 0 ls:=λx hx=>zeZ x (X0.mp hx).1
theorem zsh{w:Nat}(hk:k<X.ls.length):∀i∈recv X k w,i<X.ls.length:=by
 intro i hi;unfold recv at hi
 split at hi
 ·simp at hi;omega
 ·split at hi
  ·obtain ⟨x,hx,rfl⟩:=Yf.mp hi
   have:=zdQ (zeZ x hx)
   omega
  ·obtain ⟨x,hx,rfl⟩:=Yf.mp hi
   have:=zdQ (zoc x hx)
   omega
theorem zmN(n:Nat){X:Hl}{k w:Nat}(H:zbS h p X q)(kq:Q (.d (.lst ((recv X k w).map λi:Nat=>D.int (i:Int)))) h):Ok (zaf P (n+3) 28 [.loc p,.d (.int k),.d (.str (zpU w))] h) Q:=by
 refine cl rfl rfl rfl ?_
 match w with|0=>ac_rfl;exact f0 kq|1=>ac_rfl;refine st H.hall ⟨rfl,rfl,?_⟩;refine ask (zcV (n+1) (f:=2) H ?_);unfold recv at kq;rw[if_neg (by decide),if_pos rfl,znW zeZ] at kq;exact f0 kq|w+2=>ac_rfl;refine st H.hall ⟨rfl,rfl,?_⟩;refine ask (ze2 n H ?_);unfold recv at kq;rw[if_neg (by omega),if_neg (by omega),znW zoc] at kq;exact f0 kq
def zaD(x:Lt)(X:Hl)(i:Nat):Hl:=match X.ls[i]? with|some l=>znu X i l x|none=>X
theorem zgg(x:Lt)(X:Hl)(i:Nat):(zaD x X i).ls.length=X.ls.length:=by
 unfold zaD znu
 split
 ·simp
 ·rfl
def zsY(X:Hl)(k w:Nat)(m ld:Tx):Hl:=(recv X k w).foldl (zaD (m,load ld X.sr)) X
theorem zhD(x:Lt):∀(is:List Nat) (X:Hl),(is.foldl (zaD x) X).ls.length=X.ls.length| [],X=>rfl|i::is,X=>by rw[WO,zhD x is,zgg]
theorem zeo(n:Nat){X:Hl}{k w:Nat}{m ld:Tx}(hk:k<X.ls.length)(kq:Q (.d .non) (h++halS h.length (zsY X k w m ld))):Ok (zaf P (n+4) 27 [.loc h.length,.d (.int k),.d (oaD (.send w m ld))] (h++halS h.length X)) Q:=by
 refine cl rfl rfl rfl ?_;refine ask (zmN n zaa ?_);refine ask ?_;show Ok (loop none _ (((recv X k w).map λi:Nat=>D.int (i:Int)).map dI) _ _) _;have hl:=zsh (w:=w) hk;unfold zsY at kq;generalize recv X k w=is at hl kq⊢;refine zfQ (xs:=is.map λi:Nat=>D.int (i:Int)) (λi σ h'=>∃Y,h'=h++halS h.length Y/\Y.sr=X.sr/\Y.ls.length=X.ls.length/\is.foldl (zaD (m,load ld X.sr)) X=(is.drop i).foldl (zaD (m,load ld X.sr)) Y/\∃v,σ=[some (.loc h.length),some (.d (.int k)),some (.d (oaD (.send w m ld))),v]) ?_ ?_ ⟨X,rfl,rfl,rfl,rfl,none,rfl⟩
 ·rintro i a σ h' ha ⟨Y,rfl,hY,hkY,e,v,rfl⟩
  rw[ZF,Zk] at ha;obtain⟨a,ha,rfl⟩:=ha;have hd1:=zi0 ha;have hlt:=hl a (ZM ha);have el:Y.ls[a]?=some Y.ls[a]:=Z6 (by omega);generalize Y.ls[a]=l at el;rw[hd1,WO] at e
  have es:zaD (m,load ld X.sr) Y a=znu Y a l (m,load ld Y.sr):=by unfold zaD;rw[el,hY]
  refine gb ?_;refine st zaa.hall ⟨rfl,rfl,?_⟩;refine ask (zlm (n+1) (m:=m) (ld:=ld) el ?_);refine⟨rfl,_,rfl,?_,?_,?_,_,rfl⟩
  ·exact hY
  ·rw[<-es,zgg];exact hkY
  ·rw[<-es];exact e
 ·rintro σ h' ⟨Y,rfl,hY,hkY,e,v,rfl⟩
  rw[Z3,Yu (Z2 _)] at e;rw[e] at kq;exact zai.mpr kq
def noF(l:Ln):Ln:={l with fl:=0}
def forget(X:Hl):Hl:={X with ls:=X.ls.map noF}
theorem zjo(n:Nat){X:Hl}(kq:Q (.d .non) (h++halS h.length (forget X))):Ok (zaf P (n+1) 58 [.loc h.length] (h++halS h.length X)) Q:=by
 refine cl rfl rfl rfl ?_;refine st zaa.hall ?_;refine st zaa.ols ?_;refine ask ?_;refine zaV (g:=λl=>Ite.r (.loc l)) (xs:=zcl (h.length+1) X.ls.length) (λi σ h'=>∃Y,h'=h++halS h.length {X with ls:=Y}/\Y=(X.ls.take i).map noF++X.ls.drop i/\∃v,σ=[some (.loc h.length),v]) ?_ ?_ ⟨X.ls,rfl,rfl,none,rfl⟩
 ·rintro i a σ h' ha ⟨Y,rfl,eY,v,rfl⟩
  have hi:=(Z9.mp ha).1;rw[zd8] at hi
  have ea:a=h.length+1+i:=by unfold zcl at ha;rw[ZF,Ya hi] at ha;cases ha;rfl
  subst ea
  have hlY:Y.length=X.ls.length:=by rw[eY];simp;omega
  have eX:X.ls[i]?=some X.ls[i]:=Z6 hi;generalize X.ls[i]=l at eX
  have hm:((X.ls.take i).map noF).length=i:=by simp;omega
  have hd1:X.ls.drop i=l::X.ls.drop (i+1):=by rw[Zv hi,(Z9.mp eX).2]
  have el:Y[i]?=some l:=by rw[eY,ZK (by omega),hm,WG,hd1];rfl
  refine gb ?_;refine st ((zaa (h:=h) (X:={X with ls:=Y})).ln i l el) ⟨rfl,(by decide:6<900),?_⟩
  have e2:=zbO (h:=h) (X:={X with ls:=Y}) (l:=noF l) (k:=i) (by show i<Y.length;omega)
  rw[show putF ("flags":WE) (R.d (.int 0)) (opnF l)=opnF (noF l) from rfl,e2];refine⟨?_,Y.set i (noF l),rfl,?_,_,rfl⟩
  ·have h1:=(zaa (h:=h) (X:={X with ls:=Y})).ols
   have h2:=(zaa (h:=h) (X:={X with ls:=Y.set i (noF l)})).ols;simp only[WP,hlY] at h1 h2;exact zdC h1 h2
  ·rw [eY,Yl _ _ (by omega),hm,WG,hd1,W8,eX]
   simp
 ·rintro σ h' ⟨Y,rfl,eY,v,rfl⟩
  rw[zd8,Yp,XH,Zc] at eY;subst eY;exact zai.mpr kq
def doOA(X:Hl)(k:Nat)(l:Ln)(v:Val):OA->Hl|.keep=>{X with sr:=v}|.own=>{X with ls:=X.ls.set k {l with fl:=l.fl ||| 2}}|.share=>{X with ls:=X.ls.set k {l with fl:=l.fl ||| 1}}|.forget=>{X with ls:=X.ls.set k {l with fl:=0}}|.clear=>forget X|.stay=>X|.send w m ld=>zsY X k w m ld
theorem zgO{a:OA}:(doOA X k l v a).ls.length=X.ls.length:=by
 cases a with|send w m ld=>exact zhD _ _ _|_=>simp[doOA,forget]
theorem zn9(n:Nat){X:Hl}{k:Nat}{l:Ln}{v:Val}{a:OA}(el:X.ls[k]?=some l)(kq:Q (.d .non) (h++halS h.length (doOA X k l v a))):Ok (zaf P (n+5) 26 [.loc h.length,.d (.int k),.d (valD v),.d (oaD a)] (h++halS h.length X)) Q:=by
 have hk:k<X.ls.length:=(Z9.mp el).1;refine cl rfl rfl rfl ?_;refine st zaa.hall ?_;refine st zaa.ols ?_;refine st (zcZ hk) ?_
 cases a with
 |keep=>refine st zaa.hall ⟨rfl,(by decide:6<900),?_⟩;refine zai.mpr ?_;rw[show h++halS h.length (doOA X k l v .keep)=_ from(zc6 (X:=X) (Y:={X with sr:=v}) rfl rfl).symm] at kq;exact kq|own=>refine st (zaa.ln k l el) ?_;ac_rfl;refine st (zaa.ln k l el) ⟨rfl,(by decide:6<900),?_⟩;refine zai.mpr ?_;rw[show h++halS h.length (doOA X k l v .own)=_ from(zbO hk).symm] at kq;exact kq|share=>refine st (zaa.ln k l el) ?_;ac_rfl;refine st (zaa.ln k l el) ⟨rfl,(by decide:6<900),?_⟩;refine zai.mpr ?_;rw[show h++halS h.length (doOA X k l v .share)=_ from(zbO hk).symm] at kq;exact kq|forget=>refine st (zaa.ln k l el) ⟨rfl,(by decide:6<900),?_⟩;refine zai.mpr ?_;rw[show h++halS h.length (doOA X k l v .forget)=_ from(zbO hk).symm] at kq;exact kq|clear=>refine st zaa.hall ⟨rfl,rfl,?_⟩;exact ask (zjo (n+3) (zai.mpr kq))|stay=>exact zai.mpr kq
 |send w m ld=>
  match w with|0=>exact ask (zeo n hk (zai.mpr kq))|1=>exact ask (zeo n hk (zai.mpr kq))|w+2=>exact ask (zeo n hk (zai.mpr kq))
def zbD(k:Nat)(v:Val):List OA->Hl->Hl
 | [],X=>X
 |a::as,X=>match X.ls[k]? with
  |some l=>if zar (doOA X k l v a).brk then zbD k v as (doOA X k l v a) else doOA X k l v a|none=>X
def toHs(X:Hl)(nx:Tx):Hl:=if zar X.brk then {X with s:=nx} else X
def orB:List S:=match zbE with|.for _ _ b::_=>b|_=>[]
theorem zpZ(n:Nat){X:Hl}{k:Nat}{v:Val}{r:D}{as:List OA}{h:Sto}{Q:Fl×Env->Sto->Prop}(hk:k<X.ls.length)(hb:zar X.brk=true)
  (ret:∀σ,¬zar (zbD k v as X).brk=true->Q (.ret (.d .non),σ) (h++halS h.length (zbD k v as X))) (out:∀w,zar (zbD k v as X).brk=true->Q (.nx,[some (.loc h.length),some (.d (.int k)),some (.d (valD v)),some (.d r),w]) (h++halS h.length (zbD k v as X))):
  Ok (loop none (λy σ=>bnd (zaw (.name 4) y σ) λσ'=>exs (zaf P (n+5)) orB σ') ((as.map oaD).map dI) [some (.loc h.length),some (.d (.int k)),some (.d (valD v)),some (.d r),none] (h++halS h.length X)) Q:=by
 refine zfQ (xs:=as.map oaD) (λi σ h'=>∃Y w,h'=h++halS h.length Y/\zar Y.brk=true/\k<Y.ls.length/\zbD k v as X=zbD k v (as.drop i) Y/\σ=[some (.loc h.length),some (.d (.int k)),some (.d (valD v)),some (.d r),w]) ?_ ?_ ⟨X,none,rfl,hb,hk,rfl,rfl⟩
 ·rintro i a σ h' ha ⟨Y,w,rfl,hY,hkY,e,rfl⟩
  rw[ZF,Zk] at ha;obtain⟨a,ha,rfl⟩:=ha;have el:Y.ls[k]?=some Y.ls[k]:=Z6 hkY;generalize Y.ls[k]=l at el;rw[zi0 ha] at e;simp only[zbD,el] at e;refine gb ?_;refine ask (zn9 n el ?_);refine st zaa.hall ?_;ac_rfl;refine br (λc=>?_) (λc=>?_)
  ·have c':=zne c
   rw[if_neg c'] at e;rw[e] at ret;exact ret _ c'
  ·have c:(!zar (doOA Y k l v a).brk)=false:=c
   have c':zar (doOA Y k l v a).brk=true:=by simpa using c
   rw[if_pos c'] at e
   exact⟨rfl,_,_,rfl,c',by rw[zgO];exact hkY,e,rfl⟩
 ·rintro σ h' ⟨Y,w,rfl,hY,hkY,e,rfl⟩
  rw[Z3,XH,zbD] at e;rw[e] at out;exact out _ hY
theorem zlS(n:Nat){X:Hl}{k:Nat}{v:Val}{r:Row}{as:List OA}(hk:k<X.ls.length)(hb:zar X.brk=true)(er:r.acts=.house as)(kq:Q (.d .non) (h++halS h.length (toHs (zbD k v as X) r.nx))):Ok (zaf P (n+6) 25 [.loc h.length,.d (.int k),.d (valD v),.d (rowD r)] (h++halS h.length X)) Q:=by
 refine cl rfl rfl rfl ?_;refine st (zel r) ?_;rw[er];refine ask ?_;refine zpZ n hk hb (λσ c=>?_) λw hY=>?_
 ·refine zai.mpr ?_
  unfold toHs at kq;rw[if_neg c] at kq;exact kq
 ·generalize zbD k v as X=Y at *
  unfold toHs at kq;rw[if_pos hY] at kq;refine st (zqr r) ?_;ac_rfl;refine st zaa.hall ⟨rfl,(by decide:6<900),?_⟩;refine zai.mpr ?_;rw[show h++halS h.length {Y with s:=r.nx}=_ from(zc6 (X:=Y) (Y:={Y with s:=r.nx}) rfl rfl).symm] at kq;exact kq
variable {Q:R->Sto->Prop}
theorem zho{α:Type}{xs:List α}{n:Nat}:cut xs (some (n:Int)) none=xs.drop n:=by
 unfold cut sIx;simp only[if_neg (show ¬(n:Int)<0 by omega),ZD]
 rcases Nat.le_total n xs.length with k | k
 ·rw[V2 k,List.take_of_length_le (by simp)]
 ·rw [Wg k,YO (Z2 _),YO k]
  simp
def wout(w:List Lt)(j:Nat):List Lt:=w.take j++w.drop (j+1)
theorem zeu(n:Nat){w:List Lt}{j:Nat}(hw:w.length<=100)(kq:Q (.d (wayD (wout w j))) h):Ok (zaf P (n+1) 22 [.d (wayD w),.d (.int j)] h) Q:=by
 refine cl rfl rfl rfl ?_
 have e3:bop .add (.tup (cut (w.map letD) none (some (j:Int)))) (.tup (cut (w.map letD) (some ((j:Int)+1)) none))=some (wayD (wout w j)):=by
  rw[cutN,show((j:Int)+1)=((j+1:Nat):Int) by simp,zho,<-List.map_take,<-List.map_drop]
  have hf:fit (((w.take j).map letD).length+((w.drop (j+1)).map letD).length)=true:=decide_eq_true (by unfold big;simp;omega)
  show(if fit (((w.take j).map letD).length+((w.drop (j+1)).map letD).length) then some (D.tup ((w.take j).map letD++(w.drop (j+1)).map letD)) else none)=_;rw[if_pos hf,<-Zp];rfl
 refine st e3 ?_;exact f0 kq
structure HlOk(X:Hl):Prop where
 ways:∀l∈X.ls,l.to.length<=2/\l.back.length<=2
 few:X.ls.length<=10
def zrb(X:Hl)(k:Nat)(l:Ln)(ev:Tx)(x:Option Int)(as:List HA)(nx:Tx):Hl:=
 toSt (zbx k none as (match x with
  |some n=>{X with ls:=X.ls.set k {l with want:=n}}
  |none=>X)) k nx
theorem zpH(n:Nat){X:Hl}{k:Nat}{l:Ln}{ev:Tx}{x:Option Int}{r:Row}{as:List HA}(el:X.ls[k]?=some l)(hb:zar X.brk=true)(hx:ev=zaE↔x.isSome=true)(er:r.acts=.hand as)(kq:Q (.d .non) (h++halS h.length (zrb X k l ev x as r.nx))):
  Ok (zaf P (n+5) 18 [.loc h.length,.d (zaj (.ask k ev x)),.d (rowD r)] (h++halS h.length X)) Q:=by
 have hk:k<X.ls.length:=(Z9.mp el).1;refine cl rfl rfl rfl ?_
 cases x with
 |none=>
  have hne:¬ev=zaE:=λc=>by simpa using hx.mp c
  ac_rfl;refine bf (show(ev==zaE)=false by simpa using hne) ?_;exact ask (zfH n (v:=none) hk hb er (zai.mpr kq))
 |some x=>have he:ev=zaE:=hx.mpr rfl;subst he;ac_rfl;refine st zaa.hall ?_;refine st zaa.ols ?_;refine st (zcZ hk) ?_;refine st (zaa.ln k l el) ⟨rfl,(by decide:6<900),?_⟩;rw[show putF ("want":WE) (R.d (.int x)) (opnF l)=opnF {l with want:=x} from rfl,zbO hk];exact ask (zfH n (v:=none) (X:={X with ls:=X.ls.set k {l with want:=x}}) (by simpa using hk) hb er (zai.mpr kq))
def zl2(X:Hl)(k:Nat)(l:Ln)(j:Nat)(v:Val)(as:List HA)(nx:Tx):Hl:=toSt (zbx k v as {X with ls:=X.ls.set k {l with to:=wout l.to j}}) k nx
theorem zlM(n:Nat){X:Hl}{k j:Nat}{l:Ln}{lt:Lt}{r:Row}{as:List HA}(el:X.ls[k]?=some l)(ej:l.to[j]?=some lt)(hw:l.to.length<=2)(hb:zar X.brk=true)(er:r.acts=.hand as)(kq:Q (.d .non) (h++halS h.length (zl2 X k l j lt.2 as r.nx))):
  Ok (zaf P (n+5) 19 [.loc h.length,.d (zaj (.take k j)),.d (rowD r)] (h++halS h.length X)) Q:=by
 have hk:k<X.ls.length:=(Z9.mp el).1;refine cl rfl rfl rfl ?_;refine st zaa.hall ?_;refine st zaa.ols ?_;refine st (zcZ hk) ?_;refine st (zaa.ln k l el) ?_;refine st (zhm ej) ?_;refine st (zaa.ln k l el) ?_;refine ask (zeu (n+3) (by omega) ?_);ac_rfl;refine st (zaa.ln k l el) ⟨rfl,(by decide:6<900),?_⟩;rw[show putF ("to":WE) (R.d (wayD (wout l.to j))) (opnF l)=opnF {l with to:=wout l.to j} from rfl,zbO hk];exact ask (zfH n (v:=lt.2) (X:={X with ls:=X.ls.set k {l with to:=wout l.to j}}) (by simpa using hk) hb er (zai.mpr kq))
def zhN(as:List OA):Bool:=as.any λa=>match a with|.stay=>true|_=>false
def gotX(X:Hl)(k:Nat)(l:Ln)(j:Nat)(as:List OA):Hl:=if zhN as then X else {X with ls:=X.ls.set k {l with back:=wout l.back j}}
theorem zp3(as:List OA):((as.map oaD).any λy=>y.eqb (.tup [.str zok]))=zhN as:=by
 unfold zhN;rw[Xc]
 congr 1
 funext a
 cases a with|send w m l=>show(D.eqb (.tup [.str (zpU w),.str m,.str l]) (.tup [.str zok]))=false;show((_==_)&&false)=false;exact X6 _|_=>rfl
theorem zoG(n:Nat){X:Hl}{k j:Nat}{l:Ln}{lt:Lt}{r:Row}{as:List OA}(el:X.ls[k]?=some l)(ej:l.back[j]?=some lt)(hw:l.back.length<=2)(er:r.acts=.house as)(kq:Q (.d (valD lt.2)) (h++halS h.length (gotX X k l j as))):
  Ok (zaf P (n+2) 21 [.loc h.length,.d (zaj (.get k j)),.d (rowD r)] (h++halS h.length X)) Q:=by
 have hk:k<X.ls.length:=(Z9.mp el).1;refine cl rfl rfl rfl ?_;refine st zaa.hall ?_;refine st zaa.ols ?_;refine st (zcZ hk) ?_;refine st (zaa.ln k l el) ?_;refine st (zhm ej) ?_;refine st (zel r) ?_;rw[er];ac_rfl;unfold gotX at kq;have es:=zp3 as;refine br (λc=>?_) (λc=>?_)
 ·have c:(!(as.map oaD).any λy=>y.eqb (.tup [.str zok]))=true:=c
  rw[es] at c
  have c':¬zhN as=true:=by intro z;rw[z] at c;cases c
  rw[if_neg c'] at kq;refine st (zaa.ln k l el) ?_;refine ask (zeu n (by omega) ?_);ac_rfl;refine st (zaa.ln k l el) ⟨rfl,(by decide:6<900),?_⟩;refine zai.mpr ?_;rw[show h++halS h.length {X with ls:=X.ls.set k {l with back:=wout l.back j}}=_ from(zbO hk).symm] at kq;exact kq
 ·have c:(!(as.map oaD).any λy=>y.eqb (.tup [.str zok]))=false:=c
  rw[es] at c
  have c':zhN as=true:=by simpa using c
  rw[if_pos c'] at kq;exact zai.mpr kq
def zsV(X:Hl)(k:Nat)(l:Ln)(j:Nat)(v:Val)(as:List OA)(nx:Tx):Hl:=toHs (zbD k v as (gotX X k l j as)) nx
theorem zqU{X:Hl}:(gotX X k l j as).ls.length=X.ls.length:=by
 unfold gotX
 split
 ·rfl
 ·simp
theorem znx{X:Hl}:(gotX X k l j as).brk=X.brk:=by
 unfold gotX
 split<;>rfl
theorem zqi(n:Nat){X:Hl}{k j:Nat}{l:Ln}{lt:Lt}{r:Row}{as:List OA}(el:X.ls[k]?=some l)(ej:l.back[j]?=some lt)(hw:l.back.length<=2)(hb:zar X.brk=true)(er:r.acts=.house as)(kq:Q (.d .non) (h++halS h.length (zsV X k l j lt.2 as r.nx))):
  Ok (zaf P (n+7) 20 [.loc h.length,.d (zaj (.get k j)),.d (rowD r)] (h++halS h.length X)) Q:=by
 have hk:k<X.ls.length:=(Z9.mp el).1;refine cl rfl rfl rfl ?_;refine ask (zoG (n+4) el ej hw er ?_)
 exact ask (zlS n (v:=lt.2) (by rw[zqU];exact hk) (by rw[znx];exact hb) er (zai.mpr kq))
def rgt(zs:List (Tx×Tx))(s:Tx):Tx:=match zs.find? (λp=>p.1==s) with|some p=>p.2|none=>zcP
theorem zk6(n:Nat){T:Tab}(k:Q (.d (.str (rgt T.hands s))) h):Ok (zaf P (n+1) 0 [.d (tabD T),.d (.str s)] h) Q:=by
 refine cl rfl rfl rfl ?_;ac_rfl;rw[Y7];refine ask (zaV (g:=dI∘hnD) (xs:=T.hands) (λi σ h'=>h'=h/\rgt T.hands s=rgt (T.hands.drop i) s/\∃v2 v3,σ=[some (R.d (tabD T)),some (R.d (.str s)),v2,v3]) ?_ ?_ ⟨rfl,rfl,none,none,rfl⟩)
 ·rintro i p σ h' hx ⟨rfl,hf,v2,v3,rfl⟩
  have hi:=(Z9.mp hx).1
  have hd1:T.hands.drop i=p::T.hands.drop (i+1):=by rw[Zv hi,(Z9.mp hx).2]
  rw[hd1] at hf;refine gb ?_;refine br (λc=>?_) (λc=>?_)
  ·have c:(p.1==s)=true:=c
   have e:rgt T.hands s=p.2:=by rw[hf];unfold rgt;rw[List.find?_cons_of_pos (by exact c)]
   rw[e] at k;exact f0 k
  ·have c:(p.1==s)=false:=c
   have e:rgt T.hands s=rgt (T.hands.drop (i+1)) s:=by rw[hf];unfold rgt;rw[List.find?_cons_of_neg (by rw[c];simp)]
   exact⟨rfl,rfl,e,_,_,rfl⟩
 ·rintro σ h' ⟨rfl,hf,v2,v3,rfl⟩
  rw[Yu (Z2 _)] at hf;rw[hf] at k;exact f0 k
def clB(T:Tab)(ls:List Ln):Bool:=(ls.any λl=>rgt T.hands l.st==zaE)&&decide (1<(ls.length:Int)-(ls.countP λl=>rgt T.hands l.st==zcP:Nat))
theorem zl3{α β:Type}{g:α->β}:∀xs:List α,xs.filterMap (λx=>some (g x))=xs.map g| []=>rfl|x::xs=>by rw[YA,zl3 xs];rfl
theorem zb0{α:Type}{l:Option Nat}{dD:α->D}{g:α->D}{xs:List α}{Q:List D->Sto->Prop}(e:∀x∈xs,Ok (f (dI (dD x)) h) λo h1=>o=some (g x)/\h1=h)(s:zaX l h h=true)(q:Q (xs.map g) h):Ok (zbz l f ((xs.map dD).map dI) h) Q:=by rw[Y7];refine zb7 (d:=dI∘dD) (g:=λx=>some (g x)) e s ?_;rw[zl3];exact q
theorem zlt(n:Nat){T:Tab}{ls:List Ln}(k:Q (.d (.bl (clB T ls))) h):Ok (zaf P (n+2) 6 [.d (tabD T),.d (stdD s v u ls)] h) Q:=by
 refine cl rfl rfl rfl ?_;refine ask (zb0 (dD:=lnD) (g:=λl=>D.str (rgt T.hands l.st)) (λl hl=>?_) zav ?_)
 ·refine gc ?_
  refine ask (zk6 n ?_);exact⟨rfl,rfl⟩
 ·have e1:((ls.map λl=>D.str (rgt T.hands l.st)).any λy=>y.eqb (.str zaE))=ls.any λl=>rgt T.hands l.st==zaE:=by rw[Xc];rfl
  have e2:((ls.map λl=>D.str (rgt T.hands l.st)).countP λy=>y.eqb (.str zcP))=ls.countP λl=>rgt T.hands l.st==zcP:=by rw[List.countP_map];rfl
  refine br (λc=>?_) (λc=>?_)
  ·have c:=e1.symm.trans c
   ac_rfl;rw[e2,Z3];refine f0 ?_;unfold clB at k;rw[c,Za] at k;exact k
  ·have c:=e1.symm.trans c
   refine f0 ?_;unfold clB at k;rw[c,Y1] at k;exact k
def stdH(X:Hl):D:=stdD X.s X.sr X.la X.ls
theorem zk4(n:Nat){l:Ln}{p:Nat}(e:h[p]?=some (.ins "OpenLine" (opnF l)))(kq:Q (.d (lnD l)) h):Ok (zaf P (n+1) 48 [.loc p] h) Q:=by refine cl rfl rfl rfl ?_;refine st e ?_;refine st e ?_;refine st e ?_;refine st e ?_;refine st e ?_;refine st e ?_;exact f0 kq
theorem zgm(n:Nat){X:Hl}(H:zbS h p X q)(kq:Q (.d (stdH X)) h):Ok (zaf P (n+2) 50 [.loc p] h) Q:=by
 refine cl rfl rfl rfl ?_;refine st H.hall ?_;refine st H.ols ?_;refine ask ?_;refine zhV (g:=λl=>Ite.r (.loc l)) (xs:=zcl (p+1) X.ls.length) (λi ys h'=>h'=h/\ys=(X.ls.take i).map lnD) ?_ ?_ ⟨rfl,rfl⟩
 ·rintro i a ys h' ha ⟨rfl,rfl⟩
  have hi:=(Z9.mp ha).1;rw[zd8] at hi
  have ea:a=p+1+i:=by unfold zcl at ha;rw[ZF,Ya hi] at ha;cases ha;rfl
  subst ea;have eX:X.ls[i]?=some X.ls[i]:=Z6 hi;generalize X.ls[i]=l at eX;refine gc ?_;refine st (H.ln i l eX) ⟨rfl,rfl,?_⟩;refine ask (zk4 n (H.ln i l eX) ?_);refine⟨zdC H.ols H.ols,rfl,?_⟩;rw[W8,eX];simp
 ·rintro ys h' ⟨rfl,rfl⟩
  rw[zd8,Yp];refine st H.hall ?_;refine st H.hall ?_;refine st H.hall ?_;exact f0 kq
variable {Q:R->Sto->Prop}
theorem zoJ{r:Row}{x:Tx}{t:List D}(e:zgl (.str x::t) (rowD r)=true):r.k=x:=by have e:(D.eqb (.str r.k) (.str x)&&_)=true:=e;rw[Z8] at e;exact ZV (show(r.k==x)=true from e.1)
theorem zkG{T:Tab}{x:Tx}{t:List D}(e:zc5 T.rows (.str x::t)=some r):r.k=x:=zoJ (List.find?_some (p:=λr=>zgl (.str x::t) (rowD r)) e)
theorem zeN{T:Tab}{s w:Tx}(O:T.Ok)(e:zcR T s w=some r):∃as,r.acts=.hand as:=(O.rows r (XF e)).hand (zkG e)
theorem zfs{T:Tab}{s m:Tx}{last:Bool}(O:T.Ok)(e:zdZ T s m last=some r)(g:goes (some r)=true):∃as,r.acts=.house as:=by
 have hr:r.acts=.wait\/∃as,r.acts=.house as:=by
  unfold zdZ at e
  rcases Option.or_eq_some_iff.mp e with e|⟨_,e⟩<;>exact(O.rows r (XF e)).house (zkG e)
 rcases hr with h | h
 ·have g:(!zgx r.acts)=true:=g
  rw[h] at g;cases g
 ·exact h
def zdX(X:Hl)(l:Ln)(r:Row):Deed->Hl
 |.ask k ev x=>match r.acts with
  |.hand as=>zrb X k.toNat l ev x as r.nx|_=>X
 |.take k j=>match r.acts with
  |.hand as=>zl2 X k.toNat l j.toNat (match l.to[j.toNat]? with | some lt=>lt.2 | none=>none) as r.nx|_=>X
 |.get k j=>match r.acts with
  |.house as=>zsV X k.toNat l j.toNat (match l.back[j.toNat]? with | some lt=>lt.2 | none=>none) as r.nx|_=>X
def zdh(T:Tab)(Y:Hl):Hl:=if zar Y.brk&&clB T Y.ls then {Y with brk:=bad zmp} else Y
def zcf(T:Tab)(X:Hl)(d:Deed):Hl:=match X.ls[d.k.toNat]? with
 |none=>X
 |some l=>match zfX T X l d with
  |none=>{X with brk:=bad znU}|some r=>zdh T (zdX X l r d)
def Deed.Ok:Deed->Prop|.ask _ ev x=>ev=zaE↔x.isSome=true|_=>True
theorem zfR{T:Tab}{X Y:Hl}{n:Nat}{d:D}{r:D}(kq:Q (.d .non) (h++halS h.length (zdh T Y))):
  wSs (zaf P (n+3)) [.ife (.and (.val (.cmp .isN (.fld (.var 1) "broken") (.con .non))) (.val (.call 6 [(.var 0),(.mc "Hall" "as_tuple" 50 (.var 1) [])]))) [.setF (.var 1) "broken" (.tup [(.con (.str [99,108,97,115,104]))])] []]
   [some (.d (tabD T)),some (.loc h.length),some (.d d),some (.d r)] (h++halS h.length Y) (kF (h++halS h.length X) true false Q):=by
 refine st zaa.hall ?_;ac_rfl;unfold zdh at kq;refine br (λc=>?_) (λc=>?_)
 ·have c:zar Y.brk=true:=c
  rw[c,Za] at kq;refine st zaa.hall ⟨rfl,rfl,?_⟩;refine ask (zgm (n+1) zaa ?_);refine ask (zlt (n+1) ?_);refine br (λc2=>?_) (λc2=>?_)
  ·rw [if_pos c2] at kq
   refine st zaa.hall ⟨rfl,(by decide:6<900),?_⟩;refine zai.mpr ?_;rw[show h++halS h.length {Y with brk:=bad zmp}=_ from(zc6 (X:=Y) (Y:={Y with brk:=bad zmp}) rfl rfl).symm] at kq;exact kq
  ·rw [if_neg (by rw[c2];decide)] at kq
   exact zai.mpr kq
 ·have c:zar Y.brk=false:=c
  rw[c,Y1,if_neg (by decide)] at kq;exact zai.mpr kq
theorem znY(n:Nat){T:Tab}{X:Hl}{d:Deed}(O:T.Ok)(hX:HlOk X)(hb:zar X.brk=true)(hd:d.Ok)(hm:mayB T X d=true)(kq:Q (.d .non) (h++halS h.length (zcf T X d))):
  Ok (zaf P (n+8) 17 [.d (tabD T),.loc h.length,.d (zaj d)] (h++halS h.length X)) Q:=by
 unfold mayB at hm
 split at hm
 case isFalse=>cases hm
 rename_i hk0
 split at hm
 case h_2=>cases hm
 rename_i l el;have hw:=hX.ways l (ZM el);have hk:d.k.toNat<X.ls.length:=(Z9.mp el).1;obtain⟨k,ek⟩:∃k:Nat,d.k=k:=⟨d.k.toNat,by omega⟩;unfold zcf at kq;rw[el] at kq;simp only at kq;refine cl rfl rfl rfl ?_
 cases d with
 |ask k' ev x=>
  obtain rfl:k'=k:=ek;rw[show(Deed.ask (k:Int) ev x).k.toNat=k from rfl] at el;simp only[mayL,Z8] at hm;simp only[zfX] at kq;obtain⟨r,er⟩:=XC.mp hm.2;rw[er] at kq;obtain⟨as,ea⟩:=zeN O er;simp only[zdX,ea,ZD] at kq
  have ed:∃t,zaj (.ask k ev x)=.tup (.str kask::.int k::.str ev::t):=by cases x<;>exact⟨_,rfl⟩
  have hd:ev=zaE↔x.isSome=true:=hd;obtain⟨t,ed⟩:=ed;rw[ed];refine ask (zmj (n+4) zaa el ?_);rw[er];refine st zeD ?_;rw[<-ed];refine ask (zpH (n+2) el hb hd ea ?_);exact zfR (n:=n+4) kq
 | take k' j=>
  obtain rfl:k'=k:=ek;rw[show(Deed.take (k:Int) j).k.toNat=k from rfl] at el;simp only[mayL,Z8,decide_eq_true_eq] at hm;obtain⟨j,rfl⟩:∃i:Nat,j=i:=⟨j.toNat,by omega⟩;have ej:l.to[j]?=some l.to[j]:=Z6 (by omega);generalize l.to[j]=lt at ej;simp only[zfX,ZD,ej] at kq hm;refine ask (zj6 (n+4) zaa el ej ?_)
  cases er:zcR T l.st lt.1 with|none=>rw[er] at kq;refine st zaa.hall ⟨rfl,(by decide:6<900),?_⟩;refine zai.mpr ?_;have e:=zc6 (h:=h) (X:=X) (Y:={X with brk:=bad znU}) rfl rfl;simp only at kq;rw[<-e] at kq;exact kq|some r=>rw[er] at kq;obtain⟨as,ea⟩:=zeN O er;simp only[zdX,ea,ZD,ej] at kq;refine ask (zlM (n+2) el ej hw.1 hb ea ?_);exact zfR (n:=n+4) kq
 | get k' j=>
  obtain rfl:k'=k:=ek;rw[show(Deed.get (k:Int) j).k.toNat=k from rfl] at el;simp only[mayL,Z8,decide_eq_true_eq] at hm;obtain⟨j,rfl⟩:∃i:Nat,j=i:=⟨j.toNat,by omega⟩;have ej:l.back[j]?=some l.back[j]:=Z6 (by omega);generalize l.back[j]=lt at ej;simp only[zfX,ZD,ej] at kq hm;refine ask (znm (n+4) zaa el ej ?_)
  cases er:zdZ T X.s lt.1 (oth k X.ls).isEmpty with|none=>rw[er] at kq;refine st zaa.hall ⟨rfl,(by decide:6<900),?_⟩;refine zai.mpr ?_;have e:=zc6 (h:=h) (X:=X) (Y:={X with brk:=bad znU}) rfl rfl;simp only at kq;rw[<-e] at kq;exact kq|some r=>rw[er] at kq hm;obtain⟨as,ea⟩:=zfs O er hm.2;simp only[zdX,ea,ZD,ej] at kq;refine ask (zqi n el ej hw.2 hb ea ?_);exact zfR (n:=n+4) kq
structure Sd where
 s:Tx
 sr:Val
 la:Int×Int
 ls:List Ln
def sdD(S:Sd):D:=stdD S.s S.sr S.la S.ls
def hlOf(S:Sd):Hl:=⟨S.s,S.sr,S.la,S.ls,.non,.non⟩
def sdOf(X:Hl):Sd:=⟨X.s,X.sr,X.la,X.ls⟩
def may1(T:Tab)(S:Sd)(d:Deed):Bool:=mayB T (hlOf S) d
def zap(T:Tab)(S:Sd)(d:Deed):Hl:=zcf T (hlOf S) d
def zjh(T:Tab)(S:Sd)(d:Deed):D:=if zar (zap T S d).brk then .tup [sdD (sdOf (zap T S d)),(zap T S d).ans,.non] else .tup [sdD S,.non,(zap T S d).brk]
theorem zeR(n:Nat){T:Tab}{S:Sd}{d:Deed}(O:T.Ok)(hS:HlOk (hlOf S))(hd:d.Ok)(hm:may1 T S d=true)(kq:Q (.d (zjh T S d)) h):
  Ok (zaf P (n+9) 33 [.d (tabD T),.d (sdD S),.d (zaj d)] h) Q:=by
 refine cl rfl rfl rfl ?_;refine ask (zhS (n+6) ⟨rfl,?_⟩);refine ask (zjT (n+4) (X:=hlOf S) zaa ?_);have hm:mayB T (hlOf S) d=true:=hm;rw[hm];refine ask (znY n O hS rfl hd hm ?_);refine st zaa.hall ?_;ac_rfl;unfold zjh zap at kq;refine br (λc=>?_) (λc=>?_)
 ·have c:(!zar (zcf T (hlOf S) d).brk)=true:=c
  rw[if_neg (by intro z;rw[z] at c;cases c)] at kq
  refine st zaa.hall ?_;exact fa kq
 ·have c:(!zar (zcf T (hlOf S) d).brk)=false:=c
  rw[if_pos (by simpa using c)] at kq;refine st zaa.hall ⟨rfl,rfl,?_⟩;refine ask (zgm (n+6) zaa ?_);refine st zaa.hall ?_;exact fa kq
variable {Q:R->Sto->Prop}
theorem zb3(m:Nat):zb5 0 m=(Zy m).map λi:Nat=>D.int (i:Int):=by
 have gen:∀m (a:Nat),zb5 (a:Int) m=(List.range' a m).map λi:Nat=>D.int (i:Int):=by
  intro m
  induction m with
  |zero=>intro a;rfl
  |succ m ih=>
   intro a
   have:=ih (a+1)
   push_cast at this
   rw[zb5,this,List.range'_succ];rfl
 rw[List.range_eq_range'];exact gen m 0
theorem zmR(n:Nat){k:Int}(kq:Q (.d (.lst [zaj (.ask k zep none),zaj (.ask k zaE (some 0)),zaj (.ask k zlw none)])) h):Ok (zaf P (n+1) 30 [.d (.int k)] h) Q:=by refine cl rfl rfl rfl ?_;exact f0 kq
def tk(o:Bool)(w:List Lt):List Lt:=if o then w.take 1 else w
theorem ziq(o:Bool)(w:List Lt):(tk o w).length<=w.length:=by
 unfold tk
 split
 ·rw[Yq];omega
 ·omega
theorem zi6(n:Nat){o:Bool}{l:List Lt}(kq:Q (.d (wayD (tk o l))) h):Ok (zaf P (n+1) 12 [.d (wayD l),.d (.bl o)] h) Q:=by
 refine cl rfl rfl rfl ?_
 cases o with|true=>refine f0 ?_;show Q (.d (.tup (cut (l.map letD) none (some ((1:Nat):Int))))) h;rw[cutN,<-List.map_take];exact kq|false=>exact f0 kq
theorem zeC(n:Nat){h:Sto}{w:Tx}{k:Int}{o:Bool}{l:List Lt}(hs:l.length<=2)(kq:Q (.d (.lst ((Zy (tk o l).length).map λj:Nat=>D.tup [.str w,.int k,.int j]))) h):Ok (zaf P (n+2) 31 [.d (.str w),.d (.int k),.d (wayD l),.d (.bl o)] h) Q:=by refine cl rfl rfl rfl ?_;refine ask (zi6 n ?_);ac_rfl;have hl:=ziq o l;rw[Z3];refine⟨⟨by omega,by omega⟩,?_⟩;rw[ZD,zb3];refine ask (zb0 (dD:=λj:Nat=>D.int (j:Int)) (g:=λj:Nat=>D.tup [.str w,.int k,.int j]) (λj hj=>?_) zav (f0 kq));refine gc ?_;exact⟨rfl,rfl⟩
theorem fit7(hi:i<=10)(h1:a<=7*i+5)(h2:b<=3):fit (a+b)=true:=decide_eq_true (by unfold big;omega)
def lnDs(o:Bool)(z:Int×Ln):List Deed:=[.ask z.1 zep none,.ask z.1 zaE (some 0),.ask z.1 zlw none]++((Zy (tk o z.2.to).length).map λj:Nat=>Deed.take z.1 j)++(Zy (tk o z.2.back).length).map λj:Nat=>Deed.get z.1 j
def zhH(o:Bool)(ls:List Ln):List Deed:=((nums 0 ls).map (lnDs o)).flatten
def zaU(T:Tab)(o:Bool)(S:Sd):List Deed:=(zhH o S.ls).filter (may1 T S)
theorem zr2{o:Bool}{z:Int×Ln}:∀d∈lnDs o z,d.Ok:=by
 intro d hd;unfold lnDs at hd;simp only[YZ,Yf,ZP,Zq,or_false] at hd
 rcases hd with((rfl | rfl | rfl)|⟨j,_,rfl⟩)|⟨j,_,rfl⟩
 ·show zep=zaE↔_;decide
 ·show zaE=zaE↔_;simp
 ·show zlw=zaE↔_;decide
 ·trivial
 ·trivial
theorem zo8{o:Bool}{ls:List Ln}:∀d∈zhH o ls,d.Ok:=by intro d hd;obtain⟨l,hl,h⟩:=Wf.mp hd;obtain⟨z,_,rfl⟩:=Yf.mp hl;exact zr2 d h
theorem zeM{T:Tab}{o:Bool}{S:Sd}{d:Deed}(h:d∈zaU T o S):d.Ok/\may1 T S d=true:=⟨zo8 d (X0.mp h).1,(X0.mp h).2⟩
def myB:List S:=match zrv with| [_,_,.for _ _ b,_]=>b|_=>[]
theorem zsj(n:Nat){T:Tab}{S:Sd}{o:Bool}{B:Sto}{p:Nat}{Q:Fl×Env->Sto->Prop}(hS:HlOk (hlOf S))(HB:∀t,zbS (B++t) p (hlOf S) (p+1+S.ls.length))
  (out:∀v5 v6,Q (.nx,[some (R.d (tabD T)),some (R.d (sdD S)),some (R.d (D.bl o)),some (R.loc p),some (R.loc B.length),v5,v6,none]) (B++[.lst ((zhH o S.ls).map zaj)])):
  Ok (loop (some (p+1+S.ls.length)) (λy σ=>bnd (zaw (.tup [.name 5,.name 6]) y σ) λσ'=>exs (zaf P (n+4)) myB σ') ((nums 0 S.ls).map λx=>Ite.en x.1 (.loc (p+1+x.1.toNat))) [some (R.d (tabD T)),some (R.d (sdD S)),some (R.d (D.bl o)),some (R.loc p),some (R.loc B.length),none,none,none] (B++[.lst []])) Q:=by
 refine zaV (λi σ h'=>∃(ds:List Deed) (v5 v6:Option R),h'=B++[.lst (ds.map zaj)]/\ds.length<=7*i/\ds=(((nums 0 S.ls).take i).map (lnDs o)).flatten/\σ=[some (R.d (tabD T)),some (R.d (sdD S)),some (R.d (D.bl o)),some (R.loc p),some (R.loc B.length),v5,v6,none]) ?_ ?_ ⟨[],none,none,rfl,Z2 _,rfl,rfl⟩
 ·rintro i z σ h' hz ⟨ds,v5,v6,rfl,hl,hd,rfl⟩
  obtain⟨z1,z2⟩:=zjK S.ls 0 i z hz;have hi2:i<S.ls.length:=(Z9.mp z2).1;have hm:=hS.ways _ (ZM z2);have hfew:S.ls.length<=10:=hS.few
  have ez:z.1.toNat=i:=by omega
  have hl':∀t,(B++[Ob.lst t])[p+1+z.1.toNat]?=some (.ins "OpenLine" (opnF z.2)):=λt=>by rw[ez];exact(HB _).ln i z.2 z2
  have t1:=ziq o z.2.to;have t2:=ziq o z.2.back;refine gb ?_;refine st zad ?_;refine ask (zmR (n+3) ?_)
  refine st zad ⟨fit7 (i:=i) (by omega) (by simp;omega) (by simp),?_⟩
  rw[zan];refine st zad ?_;refine st (hl' _) ?_;refine ask (zeC (n+2) hm.1 ?_)
  refine st zad ⟨fit7 (i:=i) (by omega) (by simp;omega) (by simp;omega),?_⟩
  rw[zan];refine st zad ?_;refine st (hl' _) ?_;refine ask (zeC (n+2) hm.2 ?_)
  refine st zad ⟨fit7 (i:=i) (by omega) (by simp;omega) (by simp;omega),?_⟩
  rw[zan];refine⟨zdC (HB _).ols (HB _).ols,ds++lnDs o z,_,_,?_,?_,?_,rfl⟩
  ·congr 2
   simp[lnDs,Function.comp_def,zaj]
  ·simp [lnDs]
   omega
  ·rw [W8,hz,Zp,List.flatten_append,<-hd]
   simp
 ·rintro σ h' ⟨ds,v5,v6,rfl,hl,hd,rfl⟩
  rw[Yp] at hd;rw[hd];exact out _ _
theorem zg8(n:Nat){T:Tab}{S:Sd}{o:Bool}{h:Sto}(hS:HlOk (hlOf S))(kq:Q (.d (.lst ((zaU T o S).map zaj))) h):
  Ok (zaf P (n+5) 29 [.d (tabD T),.d (sdD S),.d (.bl o)] h) Q:=by
 refine cd rfl rfl rfl ?_;refine ask (zhS (n+2) ⟨rfl,?_⟩);have HB:∀t,zbS (h++halS h.length (hlOf S)++t) h.length (hlOf S) (h.length+1+S.ls.length):=λt=>zkw;obtain⟨B,hB⟩:∃B,B=h++halS h.length (hlOf S):=⟨_,rfl⟩
 have hBf:∀t (x:D),Q (.d x) h->Ok (fin h false false (.d x) (B++t)) Q:=λt x q=>by rw[hB,ZO];exact fa q
 show wSs _ _ _ (h++halS h.length (hlOf S)) _;rw[<-hB] at HB⊢;refine st (HB [.lst []]).hall ?_;refine st (HB [.lst []]).ols ?_;refine st zl7 ?_;refine ask (zsj n hS HB λv5 v6=>?_);refine st zad ?_;refine ask ?_;rw[Y7];refine zb7 (d:=dI∘zaj) (g:=λd=>if may1 T S d then some (zaj d) else none) (λd hd=>?_) (zk8 zad) ?_
 ·refine gc ?_
  refine ask (zjT n (HB _) ?_);refine br (λc=>?_) (λc=>?_)
  ·ac_rfl
   exact⟨(if_pos c).symm,rfl⟩
  ·ac_rfl
   exact⟨(if_neg (by rw[show may1 T S d=false from c];decide)).symm,rfl⟩
 ·rw [zdY]
  exact hBf _ _ kq
def zh2:Deed->Bool|.ask _ _ _=>true|_=>false
def zcA(T:Tab)(o:Bool)(S:Sd):Bool:=(S.ls.any λl=>!(l.to++l.back).isEmpty)&&(zaU T o S).all zh2
theorem zhz{α:Type}{f:α->D}{g:α->Bool}:∀{xs:List α},(∀x∈xs,tru (f x)=some (g x))->zaK (xs.map f)=some (xs.map g)
 | [],_=>rfl
 |x::xs,h=>by have e1:=h x (by simp);have e2:=zhz (f:=f) (g:=g) (xs:=xs) λy hy=>h y (by simp[hy]);rw[ZB,zaK,e1,e2];rfl
theorem zvj{α:Type}{g:α->Bool}(xs:List α):(xs.map g).any id=xs.any g:=by rw[Xc];rfl
theorem ztg{α:Type}{g:α->Bool}(xs:List α):(xs.map g).all id=xs.all g:=by rw[List.all_map];rfl
theorem zoE(d:Deed):∃w t,zaj d=.tup (.str w::t)/\(D.str w).eqb (.str kask)=zh2 d:=by
 cases d with|ask k e x=>cases x<;>exact⟨_,_,rfl,rfl⟩|take _ _=>exact⟨_,_,rfl,rfl⟩|get _ _=>exact⟨_,_,rfl,rfl⟩
theorem zeg(n:Nat){T:Tab}{S:Sd}{o:Bool}{h:Sto}(hS:HlOk (hlOf S))(kq:Q (.d (.bl (zcA T o S))) h):Ok (zaf P (n+6) 32 [.d (tabD T),.d (sdD S),.d (.bl o)] h) Q:=by
 refine cd rfl rfl rfl ?_;refine ask (zb0 (dD:=lnD) (g:=λl:Ln=>wayD (l.to++l.back)) (xs:=S.ls) (λl hl=>?_) zav ?_)
 ·have hm:=hS.ways l hl
  refine gc ?_
  have e:bop .add (wayD l.to) (wayD l.back)=some (wayD (l.to++l.back)):=by
   show(if fit ((l.to.map letD).length+(l.back.map letD).length) then _ else _)=_
   rw[if_pos (show fit ((l.to.map letD).length+(l.back.map letD).length)=true from decide_eq_true (by rw[Z3,Z3];unfold big;omega))]
   unfold wayD;rw[Zp]
  refine st e ?_;exact⟨rfl,rfl⟩
 ·have e1:biD .any [.lst (S.ls.map λl:Ln=>wayD (l.to++l.back))]=some (.bl (S.ls.any λl=>!(l.to++l.back).isEmpty)):=by
   show(match zaK (S.ls.map λl:Ln=>wayD (l.to++l.back)) with | some bs=>some (D.bl (bs.any id)) | none=>none)=_
   rw[zhz (g:=λl:Ln=>!(l.to++l.back).isEmpty) λl _=>by show some _=some _;rw[Wd]]
   show some (D.bl (List.any _ id))=_;rw[zvj]
  refine st e1 ?_;refine br (λc=>?_) (λc=>?_)
  ·have c:(S.ls.any λl=>!(l.to++l.back).isEmpty)=false:=by simpa using c
   refine f0 ?_
   have e:zcA T o S=false:=by unfold zcA;rw[c];rfl
   rw[e] at kq;exact kq
  ·have c:(S.ls.any λl=>!(l.to++l.back).isEmpty)=true:=by simpa using c
   refine ask (zg8 n hS ?_);refine ask (zb0 (dD:=zaj) (g:=λd:Deed=>D.bl (zh2 d)) (xs:=zaU T o S) (λd hd=>?_) zav ?_)
   ·obtain ⟨w,t,e1,e2⟩:=zoE d
    refine gc ?_
    refine st (show idxD (zaj d) (.int 0)=some (.str w) by rw[e1];exact zeD) ?_
    ac_rfl;exact⟨congrArg _ (congrArg _ e2),rfl⟩
   ·have e3:biD .all [.lst ((zaU T o S).map λd:Deed=>D.bl (zh2 d))]=some (.bl ((zaU T o S).all zh2)):=by
     show(match zaK ((zaU T o S).map λd:Deed=>D.bl (zh2 d)) with | some bs=>some (D.bl (bs.all id)) | none=>none)=_;rw[zhz (g:=zh2) λl _=>rfl];show some (D.bl (List.all _ id))=_;rw[ztg]
    refine st e3 ?_;refine f0 ?_
    have e:zcA T o S=(zaU T o S).all zh2:=by unfold zcA;rw[c];rfl
    rw[e] at kq;exact kq
end K72
namespace K72
open IT
variable {Q:R->Sto->Prop}
inductive All2{α β:Type}(R:α->β->Prop):List α->List β->Prop|nil:All2 R [] []|cons {a:α} {b:β} {l:List α} {m:List β} (h:R a b) (t:All2 R l m):All2 R (a::l) (b::m)
section
variable {α β:Type}{R S:α->β->Prop}{l l':List α}{m m':List β}
theorem All2.len(h:All2 R l m):l.length=m.length:=by
 induction h with|nil=>rfl|cons _ _ ih=>rw[Zu,Zu,ih]
theorem All2.get(h:All2 R l m):∀{i:Nat} {a:α},l[i]?=some a->∃b,m[i]?=some b/\R a b:=by
 induction h with
 |nil=>intro i a e;simp at e
 |cons r _ ih=>
  intro i a e
  cases i with|zero=>simp at e;subst e;exact⟨_,rfl,r⟩|succ i=>rw[Y6] at e⊢;exact ih e
theorem All2.no(h:All2 R l m){i:Nat}(e:l[i]?=none):m[i]?=none:=by rw[List.getElem?_eq_none_iff] at e⊢;rw[<-h.len];exact e
theorem All2.mono(h:All2 R l m)(k:∀a b,R a b->S a b):All2 S l m:=by
 induction h with|nil=>exact .nil|cons r _ ih=>exact .cons (k _ _ r) ih
theorem All2.set(h:All2 R l m){a:α}{b:β}(r:R a b):∀i:Nat,All2 R (l.set i a) (m.set i b):=by
 induction h with
 |nil=>intro i;exact .nil
 |cons r' t ih=>
  intro i
  cases i with|zero=>exact .cons r t|succ i=>exact .cons r' (ih i)
theorem All2.app(h:All2 R l m)(h':All2 R l' m'):All2 R (l++l') (m++m'):=by
 induction h with|nil=>exact h'|cons r _ ih=>exact .cons r ih
theorem All2.take(h:All2 R l m):∀i:Nat,All2 R (l.take i) (m.take i):=by
 induction h with
 |nil=>intro i;rw[List.take_nil,List.take_nil];exact .nil
 |cons r t ih=>
  intro i
  cases i with|zero=>exact .nil|succ i=>exact .cons r (ih i)
theorem All2.drop(h:All2 R l m):∀i:Nat,All2 R (l.drop i) (m.drop i):=by
 induction h with
 |nil=>intro i;rw[List.drop_nil,List.drop_nil];exact .nil
 |cons r t ih=>
  intro i
  cases i with|zero=>exact .cons r t|succ i=>exact ih i
theorem All2.maps{γ:Type}{f:α->γ}{g:β->γ}(h:All2 R l m)(k:∀a b,R a b->f a=g b):l.map f=m.map g:=by
 induction h with|nil=>rfl|cons r _ ih=>rw[ZB,ZB,k _ _ r,ih]
theorem All2.map2{γ δ:Type}{T:γ->δ->Prop}{f:α->γ}{g:β->δ}(h:All2 R l m)(k:∀a b,R a b->T (f a) (g b)):All2 T (l.map f) (m.map g):=by
 induction h with|nil=>exact .nil|cons r _ ih=>exact .cons (k _ _ r) ih
end
def VA(a b:Int)(v w:Val):Prop:=match v with
 |none=>w=none
 |some p=>match w with
  |none=>False|some q=>p.1<=a/\q.1<=b/\(p.1=a↔q.1=b)
structure LA(a b:Int)(x y:Lt):Prop where
 k:x.1=y.1
 v:VA a b x.2 y.2
structure NA(a b:Int)(l m:Ln):Prop where
 st:l.st=m.st
 v:VA a b l.v m.v
 to:All2 (LA a b) l.to m.to
 back:All2 (LA a b) l.back m.back
 fl:l.fl=m.fl
structure Alk(X Y:Hl):Prop where
 s:X.s=Y.s
 sr:VA X.la.1 Y.la.1 X.sr Y.sr
 ls:All2 (NA X.la.1 Y.la.1) X.ls Y.ls
 brk:X.brk=Y.brk
theorem VA.bump{a b:Int}{v w:Val}(h:VA a b v w):VA (a+1) (b+1) v w:=by
 cases v with
 |none=>exact h
 | some p=>
  cases w with|none=>exact h|some q=>obtain⟨h1,h2,_⟩:=h;exact⟨by omega,by omega,⟨λz=>by omega,λz=>by omega⟩⟩
theorem VA.nn{a b:Int}:VA a b none none:=rfl
theorem LA.bump{a b:Int}{x y:Lt}(h:LA a b x y):LA (a+1) (b+1) x y:=⟨h.k,h.v.bump⟩
theorem NA.bump{a b:Int}{l m:Ln}(h:NA a b l m):NA (a+1) (b+1) l m:=⟨h.st,h.v.bump,h.to.mono λ_ _=>LA.bump,h.back.mono λ_ _=>LA.bump,h.fl⟩
theorem VA.load{a b:Int}{v w:Val}(ld:Tx)(h:VA a b v w):VA a b (load ld v) (load ld w):=by
 unfold K72.load
 split
 ·exact h
 ·rfl
theorem zuS{a b:Int}{w w':List Lt}{x y:Lt}(h:All2 (LA a b) w w')(r:LA a b x y):All2 (LA a b) (post w x) (post w' y):=by
 unfold post;rw[h.len]
 split
 ·exact h
 ·exact h.app (.cons r .nil)
theorem zuf{a b:Int}{w w':List Lt}(h:All2 (LA a b) w w')(j:Nat):All2 (LA a b) (wout w j) (wout w' j):=(h.take j).app (h.drop (j+1))
theorem zs4{a b:Int}{w w':List Lt}(h:All2 (LA a b) w w')(c:D):pbrk w c=pbrk w' c:=by unfold pbrk;rw[h.len]
structure Alk2(X Y X' Y':Hl):Prop where
 a:Alk X' Y'
 e:X'.la.1-X.la.1=Y'.la.1-Y.la.1
 e0:0<=X'.la.1-X.la.1
 e1:X'.la.1-X.la.1<=1
theorem Alk2.same{X Y X' Y':Hl}(A:Alk X' Y')(hx:X'.la=X.la)(hy:Y'.la=Y.la):Alk2 X Y X' Y':=⟨A,by rw[hx,hy];omega,by rw[hx];omega,by rw[hx];omega⟩
theorem Alk.line{X Y:Hl}{k:Nat}{l m:Ln}(A:Alk X Y)(N:NA X.la.1 Y.la.1 l m):Alk {X with ls:=X.ls.set k l} {Y with ls:=Y.ls.set k m}:=⟨A.s,A.sr,A.ls.set N k,A.brk⟩
theorem zow{X Y:Hl}{k:Nat}{l m:Ln}{v w:Val}(A:Alk X Y)(N:NA X.la.1 Y.la.1 l m)(V:VA X.la.1 Y.la.1 v w)(a:HA):Alk2 X Y (doHA X k l v a) (doHA Y k m w a):=by
 cases a with
 |keep=>exact .same (A.line (l:={l with v:=v}) (m:={m with v:=w}) ⟨N.st,V,N.to,N.back,N.fl⟩) rfl rfl|lose=>exact .same (A.line (l:={l with v:=none}) (m:={m with v:=none}) ⟨N.st,VA.nn,N.to,N.back,N.fl⟩) rfl rfl
 |put=>
  have B:=N.bump;have L:NA (X.la.1+1) (Y.la.1+1) {l with v:=some (X.la.1+1,l.want)} {m with v:=some (Y.la.1+1,m.want)}:=⟨B.st,⟨VX _,VX _,⟨λ_=>rfl,λ_=>rfl⟩⟩,B.to,B.back,B.fl⟩;have A1:Alk (putV X k l) (putV Y k m):=⟨A.s,A.sr.bump,(A.ls.mono λ_ _=>NA.bump).set L k,A.brk⟩;refine⟨A1,?_,?_,?_⟩
  ·show X.la.1+1-X.la.1=Y.la.1+1-Y.la.1;omega
  ·show 0<=X.la.1+1-X.la.1;omega
  ·show X.la.1+1-X.la.1<=1;omega
 | tell=>
  have N':=N.v;show Alk2 X Y (zee X k l) (zee Y k m);unfold zee
  cases e:l.v with
  |none=>rw[e] at N';rw[show m.v=none from N'];exact .same ⟨A.s,A.sr,A.ls,rfl⟩ rfl rfl
  | some p=>
   rw[e] at N'
   cases e2:m.v with
   |none=>rw[e2] at N';exact N'.elim
   | some q=>
    rw[e2] at N';obtain⟨_,_,h3⟩:=N';simp only
    by_cases c:p.1=X.la.1
    ·rw [if_pos c,if_pos (h3.mp c)]
     exact .same ⟨A.s,A.sr,A.ls,A.brk⟩ rfl rfl
    ·rw [if_neg c,if_neg λz=>c (h3.mpr z)]
     exact .same ⟨A.s,A.sr,A.ls,rfl⟩ rfl rfl
 |send md ld=>
  have L:NA X.la.1 Y.la.1 {l with back:=post l.back (md,load ld l.v)} {m with back:=post m.back (md,load ld m.v)}:=⟨N.st,N.v,N.to,zuS N.back ⟨rfl,N.v.load ld⟩,N.fl⟩;have A1:=A.line (k:=k) L
  exact .same ⟨A1.s,A1.sr,A1.ls,by show pbrk l.back X.brk=pbrk m.back Y.brk;rw[A.brk];exact zs4 N.back _⟩ rfl rfl
theorem VA.step{a b a' b':Int}{v w:Val}(h:VA a b v w)(e:a'-a=b'-b)(e0:0<=a'-a)(e1:a'-a<=1):VA a' b' v w:=by
 by_cases z:a'=a
 ·have z2:b'=b:=by omega
  rw[z,z2];exact h
 ·have z1:a'=a+1:=by omega
  have z2:b'=b+1:=by omega
  rw[z1,z2];exact h.bump
theorem ze3{k:Nat}:∀(as:List HA) {X Y:Hl} {v w:Val},Alk X Y->VA X.la.1 Y.la.1 v w->Alk (zbx k v as X) (zbx k w as Y)
 | [],X,Y,v,w,A,V=>A
 | a::as,X,Y,v,w,A,V=>by
  unfold zbx
  cases e:X.ls[k]? with
  |none=>rw[A.ls.no e];exact A
  |some l=>
   obtain⟨m,e2,N⟩:=A.ls.get e;rw[e2];obtain⟨B,h1,h2,h3⟩:=zow (k:=k) A N V a;simp only;rw[B.brk]
   split
   ·exact ze3 as B (V.step h1 h2 h3)
   ·exact B
theorem zkS{X Y:Hl}{k:Nat}{nx:Tx}(A:Alk X Y):Alk (toSt X k nx) (toSt Y k nx):=by
 unfold toSt;have hb:=A.brk
 by_cases c:zar X.brk=true
 ·rw [if_pos c,if_pos (hb▸c)]
  cases e:X.ls[k]? with|none=>rw[A.ls.no e];exact A|some l=>obtain⟨m,e2,N⟩:=A.ls.get e;rw[e2];exact A.line (l:={l with st:=nx}) (m:={m with st:=nx}) ⟨rfl,N.v,N.to,N.back,N.fl⟩
 ·rw [if_neg c,if_neg (hb▸c)]
  exact A
theorem zpx{a b:Int}{f:Nat}{ls ms:List Ln}(h:All2 (NA a b) ls ms):∀k:Int,((nums k ls).filter λp=>hasF f p.2).map (·.1)=((nums k ms).filter λp=>hasF f p.2).map (·.1):=by
 induction h with
 |nil=>intro k;rfl
 | @cons x y l m r _ ih=>
  intro k;rw[nums,nums,We,We]
  have e:hasF f x=hasF f y:=by unfold hasF;rw[r.fl]
  by_cases c:hasF f x=true
  ·rw[if_pos c,if_pos (e▸c),ZB,ZB,ih]
  ·rw [if_neg c,if_neg (e▸c)]
   exact ih _
theorem zhE{a b:Int}{f:Nat}{ls ms:List Ln}(h:All2 (NA a b) ls ms):(zlH f ls).map (·.1)=(zlH f ms).map (·.1):=zpx h 0
theorem zoj{a b:Int}{k:Nat}{ls ms:List Ln}(h:All2 (NA a b) ls ms):(oth k ls).map (·.1)=(oth k ms).map (·.1):=by
 have key:∀xs:List (Int×Ln),(xs.filter λp=>p.1 != (k:Int)).map (·.1)=(xs.map (·.1)).filter λz=>z != (k:Int):=λxs=>by rw[List.filter_map];rfl
 unfold oth;rw[key,key,zhE h]
theorem zpz{X Y:Hl}{k w:Nat}(A:Alk X Y):recv X k w=recv Y k w:=by
 have m2:∀xs:List (Int×Ln),xs.map (·.1.toNat)=(xs.map (·.1)).map Int.toNat:=λxs=>by rw[Y7];rfl
 unfold recv;rw[m2,m2,m2,m2,zhE A.ls,zoj A.ls]
theorem zlb{X Y:Hl}{x y:Lt}(A:Alk X Y)(r:LA X.la.1 Y.la.1 x y)(i:Nat):Alk2 X Y (zaD x X i) (zaD y Y i):=by
 unfold zaD
 cases e:X.ls[i]? with
 |none=>rw[A.ls.no e];exact .same A rfl rfl
 |some l=>
  obtain⟨m,e2,N⟩:=A.ls.get e;rw[e2];have L:NA X.la.1 Y.la.1 {l with to:=post l.to x} {m with to:=post m.to y}:=⟨N.st,N.v,zuS N.to r,N.back,N.fl⟩;have A1:=A.line (k:=i) L
  exact .same ⟨A1.s,A1.sr,A1.ls,by show pbrk l.to X.brk=pbrk m.to Y.brk;rw[A.brk];exact zs4 N.to _⟩ rfl rfl
theorem zdL{x:Lt}{X:Hl}{i:Nat}:(zaD x X i).la=X.la:=by
 unfold zaD
 split<;>rfl
theorem ziG{x y:Lt}:∀(is:List Nat) {X Y:Hl},Alk X Y->LA X.la.1 Y.la.1 x y->Alk (is.foldl (zaD x) X) (is.foldl (zaD y) Y)/\(is.foldl (zaD x) X).la=X.la/\(is.foldl (zaD y) Y).la=Y.la
 | [],X,Y,A,r=>⟨A,rfl,rfl⟩
 |i::is,X,Y,A,r=>by
  have B:=(zlb A r i).a
  obtain⟨C,h1,h2⟩:=ziG is B (by rw[zdL,zdL];exact r)
  exact⟨C,h1.trans zdL,h2.trans zdL⟩
theorem zo6{X Y:Hl}{k:Nat}{l m:Ln}{v w:Val}(A:Alk X Y)(N:NA X.la.1 Y.la.1 l m)(V:VA X.la.1 Y.la.1 v w)(a:OA):Alk2 X Y (doOA X k l v a) (doOA Y k m w a):=by
 cases a with|keep=>exact .same ⟨A.s,V,A.ls,A.brk⟩ rfl rfl|own=>exact .same (A.line (l:={l with fl:=l.fl ||| 2}) (m:={m with fl:=m.fl ||| 2}) ⟨N.st,N.v,N.to,N.back,by show l.fl ||| 2=m.fl ||| 2;rw[N.fl]⟩) rfl rfl|share=>exact .same (A.line (l:={l with fl:=l.fl ||| 1}) (m:={m with fl:=m.fl ||| 1}) ⟨N.st,N.v,N.to,N.back,by show l.fl ||| 1=m.fl ||| 1;rw[N.fl]⟩) rfl rfl|forget=>exact .same (A.line (l:={l with fl:=0}) (m:={m with fl:=0}) ⟨N.st,N.v,N.to,N.back,rfl⟩) rfl rfl|clear=>exact .same ⟨A.s,A.sr,A.ls.map2 λ_ _ r=>⟨r.st,r.v,r.to,r.back,rfl⟩,A.brk⟩ rfl rfl|stay=>exact .same A rfl rfl|send wd md ld=>show Alk2 X Y ((recv X k wd).foldl (zaD (md,load ld X.sr)) X) ((recv Y k wd).foldl (zaD (md,load ld Y.sr)) Y);rw[zpz A];obtain⟨B,h1,h2⟩:=ziG (recv Y k wd) A (x:=(md,load ld X.sr)) (y:=(md,load ld Y.sr)) ⟨rfl,A.sr.load ld⟩;exact .same B h1 h2
theorem zhO{k:Nat}:∀(as:List OA) {X Y:Hl} {v w:Val},Alk X Y->VA X.la.1 Y.la.1 v w->Alk (zbD k v as X) (zbD k w as Y)
 | [],X,Y,v,w,A,V=>A
 | a::as,X,Y,v,w,A,V=>by
  unfold zbD
  cases e:X.ls[k]? with
  |none=>rw[A.ls.no e];exact A
  |some l=>
   obtain⟨m,e2,N⟩:=A.ls.get e;rw[e2];obtain⟨B,h1,h2,h3⟩:=zo6 (k:=k) A N V a;simp only;rw[B.brk]
   split
   ·exact zhO as B (V.step h1 h2 h3)
   ·exact B
theorem zp9{X Y:Hl}{nx:Tx}(A:Alk X Y):Alk (toHs X nx) (toHs Y nx):=by
 unfold toHs;have hb:=A.brk
 by_cases c:zar X.brk=true
 ·rw [if_pos c,if_pos (hb▸c)]
  exact⟨rfl,A.sr,A.ls,A.brk⟩
 ·rw [if_neg c,if_neg (hb▸c)]
  exact A
theorem zqE{a b:Int}{w w':List Lt}(h:All2 (LA a b) w w')(j:Nat):VA a b (match w[j]? with | some lt=>lt.2 | none=>none) (match w'[j]? with | some lt=>lt.2 | none=>none):=by
 cases e:w[j]? with|none=>rw[h.no e];rfl|some x=>obtain⟨y,e2,r⟩:=h.get e;rw[e2];exact r.v
theorem zfU{T:Tab}{X Y:Hl}{l m:Ln}(A:Alk X Y)(N:NA X.la.1 Y.la.1 l m)(d:Deed):zfX T X l d=zfX T Y m d:=by
 cases d with
 |ask k ev x=>show zcR T l.st ev=zcR T m.st ev;rw[N.st]
 |take k j=>
  show(match l.to[j.toNat]? with | some lt=>zcR T l.st lt.1 | none=>none)=(match m.to[j.toNat]? with | some lt=>zcR T m.st lt.1 | none=>none)
  cases e:l.to[j.toNat]? with|none=>rw[N.to.no e]|some x=>obtain⟨y,e2,r⟩:=N.to.get e;rw[e2];simp only;rw[N.st,r.k]
 | get k j=>
  show(match l.back[j.toNat]? with | some lt=>zdZ T X.s lt.1 (oth k.toNat X.ls).isEmpty | none=>none)=(match m.back[j.toNat]? with | some lt=>zdZ T Y.s lt.1 (oth k.toNat Y.ls).isEmpty | none=>none)
  cases e:l.back[j.toNat]? with
  |none=>rw[N.back.no e]
  | some x=>
   obtain⟨y,e2,r⟩:=N.back.get e;rw[e2];simp only
   have:(oth k.toNat X.ls).isEmpty=(oth k.toNat Y.ls).isEmpty:=by
    have:=zoj (k:=k.toNat) A.ls
    rw[<-Wd (f:=λp:Int×Ln=>p.1),this,Wd]
   rw[A.s,r.k,this]
theorem znt{X Y:Hl}{l m:Ln}(A:Alk X Y)(N:NA X.la.1 Y.la.1 l m)(r:Row)(d:Deed):Alk (zdX X l r d) (zdX Y m r d):=by
 unfold zdX
 cases d with
 | ask k ev x=>
  simp only
  split
  ·refine zkS (ze3 _ ?_ ?_)
   ·cases x with|none=>exact A|some n=>exact A.line (l:={l with want:=n}) (m:={m with want:=n}) ⟨N.st,N.v,N.to,N.back,N.fl⟩
   ·exact VA.nn
  ·exact A
 | take k j=>
  simp only
  split
  ·refine zkS (ze3 _ ?_ ?_)
   ·exact A.line (l:={l with to:=wout l.to j.toNat}) (m:={m with to:=wout m.to j.toNat}) ⟨N.st,N.v,zuf N.to _,N.back,N.fl⟩
   ·exact zqE N.to _
  ·exact A
 | get k j=>
  simp only
  split
  ·rename_i as _
   refine zp9 (zhO _ ?_ ?_)
   ·unfold gotX
    split
    ·exact A
    ·exact A.line (l:={l with back:=wout l.back j.toNat}) (m:={m with back:=wout m.back j.toNat}) ⟨N.st,N.v,N.to,zuf N.back _,N.fl⟩
   ·unfold gotX
    split<;>exact zqE N.back _
  ·exact A
theorem zsf{a b:Int}{T:Tab}{ls ms:List Ln}(h:All2 (NA a b) ls ms):clB T ls=clB T ms:=by
 have e:=h.maps (f:=Ln.st) (g:=Ln.st) λ_ _ r=>r.st
 have k1:∀xs:List Ln,(xs.any λl=>rgt T.hands l.st==zaE)=(xs.map Ln.st).any λs=>rgt T.hands s==zaE:=λxs=>by rw[Xc];rfl
 have k2:∀xs:List Ln,(xs.countP λl=>rgt T.hands l.st==zcP)=(xs.map Ln.st).countP λs=>rgt T.hands s==zcP:=λxs=>by rw[List.countP_map];rfl
 unfold clB;rw[k1,k1,k2,k2,e,h.len]
theorem zli{T:Tab}{X Y:Hl}(A:Alk X Y)(d:Deed):Alk (zcf T X d) (zcf T Y d):=by
 unfold zcf
 cases e:X.ls[d.k.toNat]? with
 |none=>rw[A.ls.no e];exact A
 | some l=>
  obtain⟨m,e2,N⟩:=A.ls.get e;rw[e2];simp only;rw[zfU A N d]
  split
  ·exact⟨A.s,A.sr,A.ls,rfl⟩
  ·rename_i r _
   have B:=znt A N r d;unfold zdh;rw[B.brk,zsf B.ls]
   split
   ·exact⟨B.s,B.sr,B.ls,rfl⟩
   ·exact B
theorem zj4{T:Tab}{X Y:Hl}(A:Alk X Y)(d:Deed):mayB T X d=mayB T Y d:=by
 unfold mayB
 cases e:X.ls[d.k.toNat]? with
 |none=>rw[A.ls.no e]
 | some l=>
  obtain⟨m,e2,N⟩:=A.ls.get e;rw[e2];simp only
  have:mayL T X l d=mayL T Y m d:=by
   cases d with|ask k ev x=>show(zkn ev&&(zcR T l.st ev).isSome)=_;rw[N.st];rfl|take k j=>unfold mayL;simp only;rw[zfU A N,N.to.len]|get k j=>unfold mayL;simp only;rw[zfU A N,N.back.len]
  rw[this]
theorem All2.trans{α β γ:Type}{R:α->β->Prop}{S:β->γ->Prop}{T:α->γ->Prop}{l:List α}{m:List β}(h:All2 R l m)(k:∀a b c,R a b->S b c->T a c){n:List γ}(h':All2 S m n):All2 T l n:=by
 induction h generalizing n with
 |nil=>cases h';exact .nil
 |cons r _ ih=>cases h' with
  |cons r' t'=>exact .cons (k _ _ _ r r') (ih t')
theorem VA.trans{a b c:Int}{u v w:Val}(h:VA a b u v)(h':VA b c v w):VA a c u w:=by
 cases u with
 |none=>rw[show v=none from h] at h';exact h'
 | some p=>
  cases v with
  |none=>exact h.elim
  |some q=>
   cases w with|none=>exact h'.elim|some r=>exact⟨h.1,h'.2.1,h.2.2.trans h'.2.2⟩
theorem LA.trans{a b c:Int}{x y z:Lt}(h:LA a b x y)(h':LA b c y z):LA a c x z:=⟨h.k.trans h'.k,h.v.trans h'.v⟩
theorem NA.trans{a b c:Int}{x y z:Ln}(h:NA a b x y)(h':NA b c y z):NA a c x z:=⟨h.st.trans h'.st,h.v.trans h'.v,All2.trans (S:=LA b c) (T:=LA a c) h.to (λ_ _ _ p q=>LA.trans p q) h'.to,All2.trans (S:=LA b c) (T:=LA a c) h.back (λ_ _ _ p q=>LA.trans p q) h'.back,h.fl.trans h'.fl⟩
theorem Alk.trans{X Y Z:Hl}(A:Alk X Y)(B:Alk Y Z):Alk X Z:=⟨A.s.trans B.s,A.sr.trans B.sr,All2.trans (S:=NA Y.la.1 Z.la.1) (T:=NA X.la.1 Z.la.1) A.ls (λ_ _ _ p q=>NA.trans p q) B.ls,A.brk.trans B.brk⟩
def thV(a:Int)(v:Val):Val:=match v with|none=>none|some p=>some (if p.1=a then(1,0) else(0,0))
def thW(a:Int)(w:List Lt):List Lt:=w.map λx=>(x.1,thV a x.2)
def thL(a:Int)(l:Ln):Ln:=⟨l.st,thV a l.v,0,thW a l.to,thW a l.back,l.fl⟩
def thin(S:Sd):Sd:=⟨S.s,thV S.la.1 S.sr,(1,0),S.ls.map (thL S.la.1)⟩
theorem zmL{a b:Int}{v w:Val}(h:VA a b v w):thV a v=thV b w:=by
 cases v with
 |none=>rw[show w=none from h];rfl
 | some p=>
  cases w with
  |none=>exact h.elim
  |some q=>
   show some _=some _
   congr 1
   by_cases c:p.1=a
   ·rw[if_pos c,if_pos (h.2.2.mp c)]
   ·rw[if_neg c,if_neg λz=>c (h.2.2.mpr z)]
theorem zqj{a b:Int}{w w':List Lt}(h:All2 (LA a b) w w'):thW a w=thW b w':=h.maps λ_ _ r=>by rw[r.k,zmL r.v]
theorem zt8{a b:Int}{l m:Ln}(h:NA a b l m):thL a l=thL b m:=by unfold thL;rw[h.st,zmL h.v,zqj h.to,zqj h.back,h.fl]
theorem zsZ{X Y:Hl}(A:Alk X Y):thin (sdOf X)=thin (sdOf Y):=by show Sd.mk X.s (thV X.la.1 X.sr) (1,0) (X.ls.map (thL X.la.1))=Sd.mk Y.s (thV Y.la.1 Y.sr) (1,0) (Y.ls.map (thL Y.la.1));rw[A.s,zmL A.sr,A.ls.maps λ_ _=>zt8]
theorem zfO{a b:Int}{v w:Val}(h:VA a b v w):VA a 1 v (thV a v):=by
 cases v with
 |none=>rfl
 | some p=>
  cases w with
  |none=>exact h.elim
  |some q=>
   show p.1<=a/\(if p.1=a then((1:Int),(0:Int)) else(0,0)).1<=1/\(p.1=a↔(if p.1=a then((1:Int),(0:Int)) else(0,0)).1=1)
   by_cases c:p.1=a
   ·rw[if_pos c];exact⟨h.1,by decide,⟨λ_=>rfl,λ_=>c⟩⟩
   ·rw[if_neg c];exact⟨h.1,by decide,⟨λz=>absurd z c,λz=>absurd z (by decide)⟩⟩
theorem All2.left{α β:Type}{R:α->β->Prop}{T:α->α->Prop}{f:α->α}{l:List α}{m:List β}(h:All2 R l m)(k:∀a b,R a b->T a (f a)):All2 T l (l.map f):=by
 induction h with|nil=>exact .nil|cons r _ ih=>exact .cons (k _ _ r) ih
theorem zmk{a b:Int}{l m:Ln}(h:NA a b l m):NA a 1 l (thL a l):=⟨rfl,zfO h.v,h.to.left λ_ _ r=>⟨rfl,zfO r.v⟩,h.back.left λ_ _ r=>⟨rfl,zfO r.v⟩,rfl⟩
theorem zpE{S:Sd}{Y:Hl}(A:Alk (hlOf S) Y):Alk (hlOf S) (hlOf (thin S)):=⟨rfl,zfO A.sr,A.ls.left λ_ _=>zmk,rfl⟩
theorem VA.right{a b:Int}{v w:Val}(h:VA a b v w):VA b b w w:=by
 cases v with
 |none=>rw[show w=none from h];rfl
 |some p=>
  cases w with|none=>exact h.elim|some q=>exact⟨h.2.1,h.2.1,Iff.rfl⟩
theorem All2.right{α β:Type}{R:α->β->Prop}{T:β->β->Prop}{l:List α}{m:List β}(h:All2 R l m)(k:∀a b,R a b->T b b):All2 T m m:=by
 induction h with|nil=>exact .nil|cons r _ ih=>exact .cons (k _ _ r) ih
theorem NA.right{a b:Int}{l m:Ln}(h:NA a b l m):NA b b m m:=⟨rfl,h.v.right,h.to.right λ_ _ r=>⟨rfl,r.v.right⟩,h.back.right λ_ _ r=>⟨rfl,r.v.right⟩,rfl⟩
theorem zoA{a b:Int}{v w:Val}(h:VA a b v w):VA b 1 w (thV b w):=zfO h.right
theorem zoU{a b:Int}{ls ms:List Ln}(h:All2 (NA a b) ls ms):All2 (NA b 1) ms (ms.map (thL b)):=(h.right λ_ _ r=>r.right).left λ_ _ r=>zmk r
theorem zhM{T:Tab}{S S':Sd}(A:Alk (hlOf S) (hlOf S'))(d:Deed):may1 T S d=may1 T S' d/\(zap T S d).brk=(zap T S' d).brk/\thin (sdOf (zap T S d))=thin (sdOf (zap T S' d))/\(zar (zap T S d).brk=true->Alk (hlOf (sdOf (zap T S d))) (hlOf (thin (sdOf (zap T S' d))))):=by
 have B:=zli (T:=T) A d;refine⟨zj4 A d,B.brk,zsZ B,λ_=>?_⟩;have C:Alk (hlOf (sdOf (zap T S d))) (hlOf (sdOf (zap T S' d))):=⟨B.s,B.sr,B.ls,rfl⟩
 have C':Alk (hlOf (sdOf (zap T S' d))) (hlOf (thin (sdOf (zap T S' d)))):=by
  refine⟨rfl,?_,?_,rfl⟩
  ·exact zoA B.sr
  ·exact zoU B.ls
 exact C.trans C'
variable {Q:R->Sto->Prop}
def LnOk(l:Ln):Prop:=l.to.length<=2/\l.back.length<=2
def LsOk(ls:List Ln):Prop:=∀l∈ls,LnOk l
theorem LsOk.set{ls:List Ln}(h:LsOk ls)(hl:LnOk l):LsOk (ls.set k l):=λx hx=>by
 rcases Wv hx with z | rfl
 ·exact h x z
 ·exact hl
theorem zkr(h:w.length<=2):(post w x).length<=2:=by
 unfold post
 split
 ·exact h
 ·simp;omega
theorem zuZ{a:HA}(h:LsOk X.ls)(el:X.ls[k]?=some l):LsOk (doHA X k l v a).ls:=by
 have hl:=h l (ZM el)
 cases a with
 |keep=>exact h.set hl|lose=>exact h.set hl|put=>exact h.set hl
 |tell=>
  show LsOk (zee X k l).ls;unfold zee
  split
  ·exact h
  ·split<;>exact h
 |send m ld=>exact h.set ⟨hl.1,zkr hl.2⟩
theorem zkq:∀{as:List HA} {X:Hl},LsOk X.ls->LsOk (zbx k v as X).ls
 | [],X,h=>h
 | a::as,X,h=>by
  unfold zbx
  split
  ·rename_i l el
   split
   ·exact zkq (zuZ h el)
   ·exact zuZ h el
  ·exact h
theorem zjl:∀{as:List HA} {X:Hl},(zbx k v as X).ls.length=X.ls.length
 | [],X=>rfl
 | a::as,X=>by
  unfold zbx
  split
  ·rename_i l el
   split
   ·rw[zjl,zg1]
   ·rw[zg1]
  ·rfl
theorem zju(h:LsOk X.ls):LsOk (toSt X k nx).ls:=by
 unfold toSt
 split
 ·split
  ·rename_i l el
   exact h.set (h l (ZM el))
  ·exact h
 ·exact h
theorem zkE:(toSt X k nx).ls.length=X.ls.length:=by
 unfold toSt
 split
 ·split
  ·simp
  ·rfl
 ·rfl
theorem zmX(h:LsOk X.ls):LsOk (zaD x X i).ls:=by
 unfold zaD
 split
 ·rename_i l el
  have hl:=h l (ZM el);exact h.set ⟨zkr hl.1,hl.2⟩
 ·exact h
theorem zkv:∀(is:List Nat) (X:Hl),LsOk X.ls->LsOk (is.foldl (zaD x) X).ls| [],X,h=>h|i::is,X,h=>zkv is _ (zmX h)
theorem zuP{a:OA}(h:LsOk X.ls)(el:X.ls[k]?=some l):LsOk (doOA X k l v a).ls:=by
 have hl:=h l (ZM el)
 cases a with|keep=>exact h|own=>exact h.set hl|share=>exact h.set hl|forget=>exact h.set hl|clear=>intro x hx;obtain⟨y,hy,rfl⟩:=Yf.mp hx;exact h y hy|stay=>exact h|send w m ld=>exact zkv _ _ h
theorem zqS:∀{as:List OA} {X:Hl},LsOk X.ls->LsOk (zbD k v as X).ls
 | [],X,h=>h
 | a::as,X,h=>by
  unfold zbD
  split
  ·rename_i l el
   split
   ·exact zqS (zuP h el)
   ·exact zuP h el
  ·exact h
theorem zoa:∀{as:List OA} {X:Hl},(zbD k v as X).ls.length=X.ls.length
 | [],X=>rfl
 | a::as,X=>by
  unfold zbD
  split
  ·rename_i l el
   split
   ·rw[zoa,zgO]
   ·rw[zgO]
  ·rfl
theorem zr0:(toHs X nx).ls=X.ls:=by
 unfold toHs
 split<;>rfl
theorem zj1{w:List Lt}{j:Nat}:(wout w j).length<=w.length:=by unfold wout;simp;omega
theorem zvq{X:Hl}{l:Ln}{r:Row}{d:Deed}(h:LsOk X.ls)(el:X.ls[d.k.toNat]?=some l):LsOk (zdX X l r d).ls/\(zdX X l r d).ls.length=X.ls.length:=by
 have hl:=h l (ZM el)
 cases d with
 | ask k e x=>
  unfold zdX;simp only
  split
  ·unfold zrb
   rw[zkE,zjl]
   cases x with|none=>exact⟨zju (zkq h),rfl⟩|some n=>exact⟨zju (zkq (X:={X with ls:=X.ls.set k.toNat {l with want:=n}}) (h.set hl)),by simp⟩
  ·exact⟨h,rfl⟩
 | take k j=>
  unfold zdX;simp only
  split
  ·unfold zl2
   rw[zkE,zjl];exact⟨zju (zkq (X:={X with ls:=X.ls.set k.toNat {l with to:=wout l.to j.toNat}}) (h.set ⟨ZJ zj1 hl.1,hl.2⟩)),by simp⟩
  ·exact⟨h,rfl⟩
 | get k j=>
  unfold zdX;simp only
  split
  ·unfold zsV
   rw[zr0,zoa,zqU];refine⟨zqS ?_,rfl⟩;unfold gotX
   split
   ·exact h
   ·exact h.set ⟨hl.1,ZJ zj1 hl.2⟩
  ·exact⟨h,rfl⟩
theorem zk1{T:Tab}{Y:Hl}:(zdh T Y).ls=Y.ls:=by
 unfold zdh
 split<;>rfl
theorem zmI{T:Tab}{X:Hl}{d:Deed}(h:LsOk X.ls):LsOk (zcf T X d).ls/\(zcf T X d).ls.length=X.ls.length:=by
 unfold zcf
 split
 ·exact⟨h,rfl⟩
 ·rename_i l el
  split
  ·exact⟨h,rfl⟩
  ·rw [zk1]
   exact zvq h el
structure SdOk(S:Sd):Prop where
 ls:LsOk S.ls
 few:S.ls.length<=10
theorem SdOk.hl{S:Sd}(h:SdOk S):HlOk (hlOf S):=⟨h.ls,h.few⟩
theorem zhl{T:Tab}{S:Sd}{d:Deed}(h:SdOk S):SdOk (sdOf (zap T S d)):=by
 have:=zmI (T:=T) (X:=hlOf S) (d:=d) h.ls
 exact⟨this.1,by have e:=this.2;show(zap T S d).ls.length<=10;unfold zap;rw[e];exact h.few⟩
theorem zpa{T:Tab}{S:Sd}{d:Deed}(h:SdOk S):(sdOf (zap T S d)).ls.length=S.ls.length:=(zmI (T:=T) (X:=hlOf S) (d:=d) h.ls).2
def addA(as:List D)(a:D):List D:=if zar a then as else as++[a]
def zeE(T:Tab):List Deed->Sd->List D->Sd×List D×D| [],S,as=>(S,as,.non)|d::ds,S,as=>if zar (zap T S d).brk then zeE T ds (sdOf (zap T S d)) (addA as (zap T S d).ans) else(S,as,(zap T S d).brk)
def Runs(T:Tab):List Deed->Sd->Prop| [],_=>True|d::ds,S=>d.Ok/\may1 T S d=true/\(zar (zap T S d).brk=true->Runs T ds (sdOf (zap T S d)))
def resD(p:Sd×List D×D):D:=.tup [sdD p.1,.lst p.2.1,p.2.2]
def ln0(s:Tx):Ln:=⟨s,none,0,[],[],0⟩
def st0(T:Tab):Tx:=match T.hands with|p::_=>p.1| []=>[]
def zaN(T:Tab)(m:Nat):Sd:=⟨T.h0,some (0,0),(0,0),ZU m (ln0 (st0 T))⟩
theorem zgN{T:Tab}(hm:m<=10):SdOk (zaN T m):=⟨λl hl=>by
 have:l=ln0 (st0 T):=(List.mem_replicate.mp hl).2
 rw[this]
 exact⟨Zz _,Zz _⟩,by show(ZU m _).length<=10;simpa using hm⟩
theorem rep1{α:Type}(x:α):∀m:Nat,(ZU m [x]).flatten=ZU m x|0=>rfl|m+1=>by rw[Y8,Y2,rep1 x m];rfl
theorem zet(n:Nat){T:Tab}{m:Nat}(O:T.Ok)(hm:m<=10)(kq:Q (.d (sdD (zaN T m))) h):Ok (zaf P (n+1) 5 [.d (tabD T),.d (.int m)] h) Q:=by
 refine cl rfl rfl rfl ?_;obtain⟨hands,h0,hs,rows⟩:=T;have hh:=O.hands
 cases hands with
 |nil=>exact absurd rfl hh
 | cons p hands=>
  have e:∀x:D,bop .mul (.tup [x]) (.int (m:Int))=some (.tup (ZU m x)):=λx=>by
   show(if[x].isEmpty||decide ((m:Int)<0)||decide ((2:Int)^24<(m:Int))||!fit ([x].length*((m:Int)).toNat) then none else some (D.tup (ZU ((m:Int)).toNat [x]).flatten))=_;rw[if_neg,ZD,rep1];have h1:decide ((m:Int)<0)=false:=decide_eq_false (by omega);have h2:decide ((2:Int)^24<(m:Int))=false:=decide_eq_false (by omega)
   have h3:fit ([x].length*((m:Int)).toNat)=true:=decide_eq_true (by unfold big;simp;omega)
   rw[h1,h2,h3];simp
  refine st zeD ?_;ac_rfl;refine st zeD ?_;refine st (e _) ?_;refine f0 ?_
  have e2:(zaN ⟨p::hands,h0,hs,rows⟩ m).ls.map lnD=ZU m (lnD (ln0 p.1)):=by show(ZU m (ln0 p.1)).map lnD=_;rw[List.map_replicate]
  unfold sdD stdD at kq;rw[e2] at kq;exact kq
def plB:List S:=match znL with| [_,_,.for _ _ b,_]=>b|_=>[]
abbrev envP(T:Tab)(m:Nat)(ds:List Deed)(h:Sto)(S:Sd):Env:=[some (.d (tabD T)),some (.d (.int m)),some (.d (.lst (ds.map zaj))),some (.d (sdD S)),some (.loc h.length)]
theorem zpW(n:Nat){T:Tab}{m:Nat}{ds:List Deed}{h:Sto}{S0:Sd}{Q:Fl×Env->Sto->Prop}(O:T.Ok)(h0:SdOk S0)(hl:ds.length<=1000)(hr:Runs T ds S0)
  (ret:∀t σ,Q (.ret (.d (resD (zeE T ds S0 []))),σ) (h++t)) (out:∀S as v5 v6,zeE T ds S0 []=(S,as,.non)->Q (.nx,envP T m ds h S++[v5,v6]) (h++[.lst as])):
  Ok (loop none (λy σ=>bnd (zaw (.name 5) y σ) λσ'=>exs (zaf P (n+9)) plB σ') (ds.map (dI∘zaj)) (envP T m ds h S0++[none,none]) (h++[.lst []])) Q:=by
 refine zaV (g:=dI∘zaj) (xs:=ds) (λi σ h'=>∃(S:Sd) (as:List D) (v5 v6:Option R),h'=h++[.lst as]/\SdOk S/\as.length<=i/\Runs T (ds.drop i) S/\zeE T ds S0 []=zeE T (ds.drop i) S as/\σ=envP T m ds h S++[v5,v6]) ?_ ?_ ⟨S0,[],none,none,rfl,h0,Z2 _,hr,rfl,rfl⟩
 ·rintro i d σ h' hd ⟨S,as,v5,v6,rfl,hS,ha,hR,e,rfl⟩
  have hi2:=(Z9.mp hd).1
  have hd1:ds.drop i=d::ds.drop (i+1):=by rw[Zv hi2,(Z9.mp hd).2]
  rw[hd1] at hR e;obtain⟨r1,r2,r3⟩:=hR;rw[zeE] at e;refine gb ?_;refine ask (zeR n O hS.hl r1 r2 ?_);unfold zjh
  cases c:zar (zap T S d).brk with
  |false=>
   rw[if_neg (by decide)];rw[c,if_neg (by decide)] at e;ac_rfl
   refine bt (show(!zar (zap T S d).brk)=true by rw[c];rfl) ?_
   refine st zad ?_;ac_rfl;rw[zan];rw[e] at ret;exact ret _ _
  | true=>
   rw[if_pos rfl];rw[c,if_pos rfl] at e;ac_rfl;refine br (λc2=>?_) (λc2=>?_)
   ·have c2:(!zar (zap T S d).ans)=true:=c2
    refine st zad ?_
    refine st zad ⟨by unfold big;omega,?_⟩
    rw[zan];refine⟨rfl,_,_,_,_,rfl,zhl hS,?_,r3 c,?_,rfl⟩
    ·rw[ZS];exact YU ha
    ·rw[e,addA,if_neg (by intro z;rw[z] at c2;cases c2)]
   ·have c2:(!zar (zap T S d).ans)=false:=c2
    refine⟨rfl,_,_,_,_,rfl,zhl hS,XR ha,r3 c,?_,rfl⟩;rw[e,addA,if_pos (by simpa using c2)]
 ·rintro σ h' ⟨S,as,v5,v6,rfl,hS,ha,hR,e,rfl⟩
  rw[Yu (Z2 _)] at e;exact out S as _ _ e
theorem zfG(n:Nat){T:Tab}{m:Nat}{ds:List Deed}{h:Sto}(O:T.Ok)(hm:m<=10)(hl:ds.length<=1000)(hr:Runs T ds (zaN T m))(kq:Q (.d (resD (zeE T ds (zaN T m) []))) h):
  Ok (zaf P (n+10) 34 [.d (tabD T),.d (.int m),.d (.lst (ds.map zaj))] h) Q:=by
 refine cl rfl rfl rfl ?_;refine ask (zet (n+8) O hm ?_);ac_rfl;refine ask ?_;rw[Y7];refine zpW n O (zgN hm) hl hr (λt σ=>fa kq) λS as v5 v6 e=>?_;rw[e] at kq;refine st zad ?_;ac_rfl;rw[zan];exact fa kq
def zf3(T:Tab):List Deed->Sd->Prop| [],_=>True|d::ds,S=>d.Ok/\may1 T S d=true/\zar (zap T S d).brk=true/\zf3 T ds (sdOf (zap T S d))
def zaT(T:Tab):List Deed->Sd->Sd| [],S=>S|d::ds,S=>zaT T ds (sdOf (zap T S d))
variable {Q:R->Sto->Prop}
def answ(T:Tab):List Deed->Sd->List D->List D| [],_,as=>as|d::ds,S,as=>answ T ds (sdOf (zap T S d)) (addA as (zap T S d).ans)
theorem zir{T:Tab}:∀{ds:List Deed} {S:Sd} {d:Deed},zf3 T ds S->d.Ok->may1 T (zaT T ds S) d=true->zar (zap T (zaT T ds S) d).brk=true->zf3 T (ds++[d]) S| [],S,d,_,h1,h2,h3=>⟨h1,h2,h3,trivial⟩|e::ds,S,d,⟨c1,c2,c3,c4⟩,h1,h2,h3=>⟨c1,c2,c3,zir c4 h1 h2 h3⟩
theorem zgt{T:Tab}:∀{ds:List Deed} {S:Sd} {d:Deed},zaT T (ds++[d]) S=sdOf (zap T (zaT T ds S) d)| [],S,d=>rfl|e::ds,S,d=>zgt (ds:=ds)
theorem zd9{T:Tab}:∀{ds es:List Deed} {S:Sd} {as:List D},zf3 T ds S->zeE T (ds++es) S as=zeE T es (zaT T ds S) (answ T ds S as)| [],es,S,as,_=>rfl|d::ds,es,S,as,⟨_,_,c,c4⟩=>by rw[Yr,zeE,c,if_pos rfl];exact zd9 c4
theorem zer{T:Tab}:∀{ds es:List Deed} {S:Sd},zf3 T ds S->Runs T es (zaT T ds S)->Runs T (ds++es) S| [],es,S,_,h=>h|d::ds,es,S,⟨c1,c2,c3,c4⟩,h=>⟨c1,c2,λ_=>zer c4 h⟩
theorem zh4{T:Tab}:∀{ds:List Deed} {S:Sd},SdOk S->SdOk (zaT T ds S)/\(zaT T ds S).ls.length=S.ls.length
 | [],S,h=>⟨h,rfl⟩
 |d::ds,S,h=>by
  have:=zh4 (T:=T) (ds:=ds) (zhl (T:=T) (d:=d) h)
  exact⟨this.1,this.2.trans (zpa h)⟩
inductive Out(T:Tab)(S0:Sd):List Deed->Sd->List D->D->Prop|clean (ds:List Deed):zf3 T ds S0->Out T S0 ds (zaT T ds S0) (answ T ds S0 []) .non|broke (pre:List Deed) (d:Deed):zf3 T pre S0->d.Ok->may1 T (zaT T pre S0) d=true->zar (zap T (zaT T pre S0) d).brk=false->Out T S0 (pre++[d]) (zaT T pre S0) (answ T pre S0 []) (zap T (zaT T pre S0) d).brk
theorem Out.runs{T:Tab}{S0 S:Sd}{ds:List Deed}{as:List D}{b:D}(h:Out T S0 ds S as b):Runs T ds S0:=by
 cases h with|clean _ c=>have:=zer (es:=[]) c trivial;rwa [Zc] at this|broke pre d c h1 h2 h3=>exact zer c ⟨h1,h2,λz=>by rw[h3] at z;cases z⟩
theorem Out.play{T:Tab}{S0 S:Sd}{ds:List Deed}{as:List D}{b:D}(h:Out T S0 ds S as b):zeE T ds S0 []=(S,as,b):=by
 cases h with|clean _ c=>have:=zd9 (es:=[]) (as:=[]) c;rw[Zc] at this;rw[this];rfl|broke pre d c h1 h2 h3=>rw[zd9 c,zeE,h3];rfl
variable {Q:R->Sto->Prop}
theorem ztT{xs:List D}{i:Int}(h0:0<=i)(h1:i<xs.length):∃x,xs[i.toNat]?=some x/\idxD (.lst xs) (.int i)=some x:=by
 have h2:i.toNat<xs.length:=by omega
 refine⟨xs[i.toNat],Z6 h2,?_⟩;show at' xs i=_;unfold at' ixn;simp only[if_pos h0,if_pos h1];exact Z6 h2
theorem zdi{α:Type}{f:α->D}{xs:List α}{i:Int}(h0:0<=i)(h1:i<xs.length):∃a,a∈xs/\idxD (.lst (xs.map f)) (.int i)=some (f a):=by obtain⟨x,e1,e2⟩:=ztT (xs:=xs.map f) h0 (by simpa using h1);rw[ZF,Zk] at e1;obtain⟨a,ea,rfl⟩:=e1;exact⟨a,ZM ea,e2⟩
theorem zdS(n:Nat){cs:List Int}{k:Nat}(kq:∀v,Q (.d (.int v)) h):Ok (zaf P (n+1) 37 [.d (.lst (cs.map D.int)),.d (.int k)] h) Q:=by
 refine cl rfl rfl rfl ?_;ac_rfl;rw[Z3];refine br (λc=>?_) (λc=>?_)
 ·have c:(k:Int)<(cs.length:Int):=of_decide_eq_true c
  obtain⟨a,_,e⟩:=zdi (f:=D.int) (xs:=cs) (i:=k) (by omega) c;refine st e ?_;exact f0 (kq a)
 ·exact f0 (kq 0)
theorem ztd{a b:Int}(h1:-(2^64)<b)(h2:b<2^64):bop .mul (.int a) (.int b)=some (.int (a*b)):=by
 show(if zjB a||zjB b then _ else _)=_;rw[if_pos];rw[YY]
 right
 unfold zjB;rw[decide_eq_true h1,decide_eq_true h2];rfl
theorem zvm{a b:Int}{t:Bool}:idxD (.lst [.int a,.int b]) (.int (if t then 1 else 0))=some (.int (if t then b else a)):=by cases t<;>rfl
def Dig(z:Int)(ds:List Int):Prop:=∀d∈ds,0<=d/\d<z
def dgB:List S:=match zen with| [_,_,_,.for _ _ b,_]=>b|_=>[]
theorem zms{ds:List Int}{x:Int}(hd:Dig 64 ds)(hx:0<=x/\x<64):Dig 64 (ds++[x]):=λd hd'=>by
 rcases YZ.mp hd' with z | z
 ·exact hd d z
 ·rw[YJ.mp z];exact hx
theorem zsM(y:Int):0<=y%64/\y%64<64:=⟨Zm _ (by decide),Zt _ (by decide)⟩
theorem modM(y:Int):0<=y%2147483647/\y%2147483647<2147483647:=⟨Zm _ (by decide),Zt _ (by decide)⟩
theorem zly(n:Nat){c mx rs:Int}{m:Nat}{h:Sto}{Q:Fl×Env->Sto->Prop}(hm:m<=100)(hx:0<=mx/\mx<2147483647)(out:∀(ds:List Int) σ,ds.length=m->Dig 64 ds->σ[3]?=some (some (.loc h.length))->Q (.nx,σ) (h++[.lst (ds.map D.int)])):
  Ok (loop none (λy σ=>bnd (zaw (.name 6) y σ) λσ'=>exs (zaf P n) dgB σ') ((Zy m).map (dI∘λi:Nat=>D.int (i:Int))) [some (.d (.int c)),some (.d (.int 64)),some (.d (.int m)),some (.loc h.length),some (.d (.int mx)),some (.d (.int rs)),none] (h++[.lst []])) Q:=by
 refine zaV (g:=dI∘λi:Nat=>D.int (i:Int)) (xs:=Zy m) (λi σ h'=>∃(ds:List Int) (mx rs:Int) (v:Option R),h'=h++[.lst (ds.map D.int)]/\ds.length=i/\Dig 64 ds/\(0<=mx/\mx<2147483647)/\σ=[some (.d (.int c)),some (.d (.int 64)),some (.d (.int m)),some (.loc h.length),some (.d (.int mx)),some (.d (.int rs)),v]) ?_ ?_ ⟨[],_,_,none,rfl,rfl,by simp[Dig],hx,rfl⟩
 ·rintro i k σ h' hk ⟨ds,mx,rs,v,rfl,hl,hd,m0,rfl⟩
  have hi2:i<m:=by simpa using(Z9.mp hk).1
  have hq:0<=mx / 1009/\mx / 1009<=2147483647:=⟨Int.ediv_nonneg m0.1 (by decide),by omega⟩
  have hb:(ds.map D.int).length<big:=by rw[Z3];unfold big;omega
  refine gb ?_;ac_rfl;refine st (ztd (by omega) (by omega)) ?_;ac_rfl;refine st zad ?_;ac_rfl;refine br (λc1=>?_) (λc1=>?_)
  ·refine st zvm ?_
   refine st zad ⟨hb,?_⟩;rw[zan]
   refine⟨rfl,ds++[_],_,_,_,by rw[Zp];rfl,by rw[ZS,hl];rfl,zms hd ?_,modM _,rfl⟩
   split
   ·exact zsM _
   ·exact zsM _
  ·refine st zad ⟨hb,?_⟩
   rw[zan]
   exact⟨rfl,ds++[_],_,_,_,by rw[Zp];rfl,by rw[ZS,hl];rfl,zms hd (zsM _),modM _,rfl⟩
 ·rintro σ h' ⟨ds,mx,rs,v,rfl,hl,hd,m0,rfl⟩
  rw[Wn] at hl;exact out ds _ hl hd rfl
theorem zfD(n:Nat){c:Int}{m:Nat}{h:Sto}(hm:m<=100)(kq:∀ds:List Int,ds.length=m->Dig 64 ds->Q (.d (.lst (ds.map D.int))) h):Ok (zaf P (n+1) 38 [.d (.int c),.d (.int 64),.d (.int m)] h) Q:=by refine cl rfl rfl rfl ?_;refine st (ztd (by decide) (by decide)) ?_;ac_rfl;refine⟨⟨by omega,by omega⟩,?_⟩;rw[ZD,zb3,Y7];refine ask (zly n hm (modM _) λds σ hl hd e=>?_);refine st e ?_;refine st rfl ?_;exact zrX (kq ds hl hd)
variable {Q:R->Sto->Prop}
abbrev zld:Tx:=[105,100,108,101]
abbrev zjH:Tx:=[109,105,110,101]
abbrev zo1:Tx:=[103,105,118,101]
abbrev zt5:Tx:=[99,97,108,108]
abbrev ztE:Tx:=[98,97,99,107]
abbrev zln:Tx:=[104,111,109,101]
abbrev kout:Tx:=[111,117,116]
abbrev zil:Tx:=[99,97,108,108,115]
abbrev zsz:Tx:=[97,115,107,115]
abbrev khas:Tx:=[104,97,115]
def zfz:Tab:=⟨[(zld,zcP),(zjP,zcP),(zjH,zaE)],zln,[.str kout,.str zil],
  [⟨zb9,[zld,zaE],zjP,.hand [.send kget zlo]⟩,⟨zb9,[zjP,zo1],zjH,.hand [.keep,.put]⟩,⟨zb9,[zjH,zaE],zjH,.hand [.put]⟩,
   ⟨zb9,[zjH,zep],zjH,.hand [.tell]⟩,⟨zb9,[zjH,zt5],zld,.hand [.send ztE zcs,.lose]⟩,
   ⟨zbv,[zln,kget,kany],kout,.house [.own,.send 0 zo1 zcs]⟩,⟨zbv,[kout,kget,kany],zil,.house [.send 1 zt5 zlo,.stay]⟩,
   ⟨zbv,[zil,kget,kany],zil,.wait⟩,⟨zbv,[zil,ztE,kany],zln,.house [.keep,.clear]⟩]⟩
def zeT:Tab:=⟨[(zld,zcP),(zsz,zcP),(khas,zep)],zln,[],
  [⟨zb9,[zld,zep],zsz,.hand [.send kask zlo]⟩,⟨zb9,[zsz,zo1],khas,.hand [.keep,.tell]⟩,⟨zb9,[khas,zep],khas,.hand [.tell]⟩,
   ⟨zb9,[khas,zlw],zld,.hand [.lose]⟩,⟨zbv,[zln,kask,kany],zln,.house [.send 0 zo1 zcs]⟩]⟩
structure Row.Good(r:Row):Prop where
 ok:r.Ok
 two:r.k=zb9->r.m.length=2
structure Tab.Good(T:Tab):Prop where
 rows:∀r∈T.rows,r.Good
 few:T.rows.length<=90
 hands:T.hands≠[]
theorem Tab.Good.ok{T:Tab}(h:T.Good):T.Ok:=⟨λr hr=>(h.rows r hr).ok,by have:=h.few;omega,h.hands⟩
theorem zaO{a b c:Tx}{as:List HA}:Row.Good ⟨zb9,[a,b],c,.hand as⟩:=⟨⟨Z2 2,λ_=>⟨as,rfl⟩,λh=>(by cases h)⟩,λ_=>rfl⟩
theorem zbU{a b c d:Tx}{as:List OA}:Row.Good ⟨zbv,[a,b,c],d,.house as⟩:=⟨⟨Ys 2,λh=>(by cases h),λ_=>.inr ⟨as,rfl⟩⟩,λh=>(by cases h)⟩
theorem zhK{a b c d:Tx}:Row.Good ⟨zbv,[a,b,c],d,.wait⟩:=⟨⟨Ys 2,λh=>(by cases h),λ_=>.inl rfl⟩,λh=>(by cases h)⟩
theorem zqe:zfz.Good:=⟨by
 intro r hr;simp only[zfz,ZP,Zq,or_false] at hr
 rcases hr with rfl | rfl | rfl | rfl | rfl | rfl | rfl | rfl | rfl
 ·exact zaO
 ·exact zaO
 ·exact zaO
 ·exact zaO
 ·exact zaO
 ·exact zbU
 ·exact zbU
 ·exact zhK
 ·exact zbU,by decide,by decide⟩
theorem znT:zeT.Good:=⟨by
 intro r hr;simp only[zeT,ZP,Zq,or_false] at hr
 rcases hr with rfl | rfl | rfl | rfl | rfl
 ·exact zaO
 ·exact zaO
 ·exact zaO
 ·exact zaO
 ·exact zbU,by decide,by decide⟩
theorem ziI(n:Nat)(kq:Q (.d (tabD zfz)) h):Ok (zaf P (n+1) 39 [] h) Q:=by
 refine cl rfl rfl rfl ?_
 iterate 8
  refine st zad ?_;refine st zad ⟨by decide,?_⟩;rw[zan]
 refine st zad ?_;exact fa kq
theorem zid(n:Nat)(kq:Q (.d (tabD zeT)) h):Ok (zaf P (n+1) 40 [] h) Q:=by
 refine cl rfl rfl rfl ?_
 iterate 4
  refine st zad ?_;refine st zad ⟨by decide,?_⟩;rw[zan]
 refine st zad ?_;exact fa kq
theorem zsd{r:Row}:idxD (rowD r) (.int 0)=some (.str r.k):=zeD
theorem zoK{T:Tab}{rs:List Row}(G:T.Good)(h:∀r∈rs,r.Good)(hl:rs.length<=90):({T with rows:=rs}:Tab).Good:=⟨h,hl,G.hands⟩
theorem zr7{α:Type}{l:List α}{i:Nat}{a x:α}(h:x∈l.set i a):x∈l\/x=a:=Wv h
theorem zvo{α:Type}{w:List α}:cut w none (some (-1))=w.dropLast:=by
 unfold cut;have e1:sIx w.length 0 none=0:=rfl
 have e2:sIx w.length w.length (some (-1))=w.length-1:=by simp only[sIx];rw[if_pos (by decide)];omega
 rw[e1,e2,X5,Nat.sub_zero,List.dropLast_eq_take]
def zie:Acts->Acts|.hand as=>.hand as.tail|.house as=>.house as.tail|.wait=>.wait
theorem zvr{a:Acts}(h:zgx a=false):sliD (zbL a) (.int 1) .non=some (zbL (zie a)):=by
 have e:∀{α:Type} (f:α->D) (xs:List α),sliD (.tup (xs.map f)) (.int 1) .non=some (.tup (xs.tail.map f)):=by intro α f xs;show some (D.tup (cut (xs.map f) (some ((1:Nat):Int)) none))=_;rw[zho,<-List.map_drop,List.drop_one]
 cases a with|hand as=>exact e _ _|house as=>exact e _ _|wait=>cases h
theorem znf{r:Row}(G:r.Good):Row.Good {r with acts:=zie r.acts}:=by
 refine⟨⟨G.ok.m,λh=>?_,λh=>?_⟩,G.two⟩
 ·obtain ⟨as,e⟩:=G.ok.hand h
  exact⟨as.tail,by show zie r.acts=_;rw[e];rfl⟩
 ·rcases G.ok.house h with e|⟨as,e⟩
  ·exact .inl (by show zie r.acts=_;rw[e];rfl)
  ·exact .inr ⟨as.tail,by show zie r.acts=_;rw[e];rfl⟩
theorem ztM{n:Nat}(h:n<=1000):fit n=true:=decide_eq_true (by unfold big;omega)
theorem zph{α:Type}{f:α->D}{xs:List α}{i:Int}(h0:0<=i)(h1:i<xs.length):∃a,a∈xs/\idxD (.tup (xs.map f)) (.int i)=some (f a):=by
 have h2:i.toNat<xs.length:=by omega
 exact⟨xs[i.toNat],W0 _,ze6 h0 (by rw[ZF,Z6 h2];rfl)⟩
theorem jn0{G C:Prop}(a:G->C)(b:G):C:=a b
def beB:S:=match zgK with| [_,_,_,_,s,_]=>s|_=>.stuck
theorem zml{α:Type}{f:α->D}{xs:List α}(h:xs≠[])(d:Int):bop .mod (.int d) (.int ((xs.map f).length:Int))=some (.int (d%(xs.length:Int)))/\0<=d%(xs.length:Int)/\d%(xs.length:Int)<xs.length:=by have hl:0<xs.length:=List.length_pos_iff.mpr h;rw[Z3];exact⟨if_pos (decide_eq_true (Int.ofNat_lt.mpr hl)),Zm _ (by omega),Zt _ (by omega)⟩
theorem zox{r:Row}(h:r.m.length<=10):bop .add (.tup (cut (D.str r.k::(r.m.map D.str++[.str r.nx,zbL r.acts])) none (some (-1)))) (.tup [zbL (zie r.acts)])=some (rowD {r with acts:=zie r.acts}):=by
 rw[zvo]
 have e1:(D.str r.k::(r.m.map D.str++[.str r.nx,zbL r.acts])).dropLast=D.str r.k::(r.m.map D.str++[.str r.nx]):=by rw[show(D.str r.k::(r.m.map D.str++[.str r.nx,zbL r.acts]))=(D.str r.k::(r.m.map D.str++[.str r.nx]))++[zbL r.acts] by simp,List.dropLast_concat]
 rw[e1];show(if fit _ then some (D.tup (D.str r.k::(r.m.map D.str++[.str r.nx])++[zbL (zie r.acts)])) else none)=_
 rw[if_pos (ztM (by simp;omega))]
 unfold rowD;simp
theorem zql{α:Type}{xs:List α}(h:xs.length=2):∃x y,xs=[x,y]:=by
 cases xs with
 |nil=>cases h
 |cons x xs=>
  cases xs with|nil=>cases h|cons y xs=>exact⟨x,y,by rw[List.length_eq_zero_iff.mp (WH (WH h))]⟩
theorem zq6(n:Nat){T:Tab}{c d0 d1 d2:Int}{j:Nat}{r:Row}{h:Sto}{Q:Fl×Env->Sto->Prop}(G:T.Good)(ej:T.rows[j]?=some r)(hrm:r.m.length<=10)
  (out:∀(rs:List Row) (t:Sto) (l:Nat),(∀x∈rs,Row.Good x)->rs.length<=90->(h++t)[l]?=some (.lst (rs.map rowD))->Q (.nx,[some (.d (tabD T)),some (.d (.int c)),some (.d (.lst [.int d0,.int d1,.int d2])),some (.loc l),some (.d (.int j)),some (.d (rowD r))]) (h++t)):
  wS (zaf P (n+1)) beB [some (.d (tabD T)),some (.d (.int c)),some (.d (.lst [.int d0,.int d1,.int d2])),some (.loc h.length),some (.d (.int j)),some (.d (rowD r))] (h++[.lst (T.rows.map rowD)]) Q:=by
 have hj:j<T.rows.length:=(Z9.mp ej).1;have hrG:=G.rows _ (ZM ej);have hG:=G.few
 have hix:ixn (T.rows.map rowD).length (j:Int)=some j:=by unfold ixn;rw[Z3,if_pos (by omega),if_pos (by omega),ZD]
 have put:∀r':Row,r'.Good->Q (.nx,[some (.d (tabD T)),some (.d (.int c)),some (.d (.lst [.int d0,.int d1,.int d2])),some (.loc h.length),some (.d (.int j)),some (.d (rowD r))]) (h++[.lst ((T.rows.map rowD).set j (rowD r'))]):=λr' g=>by
  have:=out (T.rows.set j r') [.lst ((T.rows.map rowD).set j (rowD r'))] h.length (λx hx=>(zr7 hx).elim (G.rows x) λe=>e▸g) (by rw[WP];exact hG) (by rw[List.map_set];exact zad)
  exact this
 refine br (λc1=>?_) (λc1=>?_)
 ·refine st zad ?_
  refine st zad ?_
  have ecat:catD (.lst (cut (T.rows.map rowD) none (some (j:Int)))) (.lst (cut (T.rows.map rowD) (some ((j:Int)+1)) none))=some ((T.rows.take j++T.rows.drop (j+1)).map rowD):=by
   rw[cutN,show((j:Int)+1)=((j+1:Nat):Int) by simp,zho,<-List.map_take,<-List.map_drop];show(if fit _ then some ((T.rows.take j).map rowD++(T.rows.drop (j+1)).map rowD) else none)=_
   rw[if_pos (ztM (by simp;omega)),<-Zp]
  refine st ecat ?_;ac_rfl;rw[ZO]
  refine out (T.rows.take j++T.rows.drop (j+1)) _ _ (λx hx=>?_) (by simp;omega) (by rw[<-ZO];exact zad)
  rcases YZ.mp hx with z | z
  ·exact G.rows x (List.mem_of_mem_take z)
  ·exact G.rows x (List.mem_of_mem_drop z)
 ·apply jn0
  ·intro key
   refine br (λc2=>?_) (λc2=>key);refine st (zel r) ?_;refine st (zmQ (znR (show(D.tup [.tup [.str [119,97,105,116]]]).dep<=60 by decide))) ?_;rw[zit];refine br (λc3=>?_) (λc3=>key)
   have c3:zgx r.acts=false:=by simpa using c3
   ac_rfl;refine st (zel r) ?_;refine st (zvr c3) ?_;refine st (zox hrm) ?_;ac_rfl;refine st zad ?_;refine st hix ?_;rw[zan];exact put _ (znf hrG)
  ·refine st zsd ?_
   refine br (λc4=>?_) (λc4=>?_)
   ·have c4:r.k=zb9:=ZV (show(r.k==zb9)=true from c4)
    obtain⟨rk,rm,rn,ra⟩:=r;have c4:rk=zb9:=c4;subst c4;obtain⟨x,y,ht⟩:=zql (hrG.two rfl);have ht:rm=[x,y]:=ht;subst ht;obtain⟨m1,m2,m3⟩:=zml (f:=hnD) G.hands d2;ac_rfl;refine st m1 ?_;obtain⟨p,_,ep⟩:=zph (f:=hnD) (xs:=T.hands) m2 m3;refine st ep ?_;ac_rfl;refine st zad ?_;refine st hix ?_;rw[zan];exact put ⟨zb9,[x,y],p.1,ra⟩ ⟨⟨hrG.ok.m,hrG.ok.hand,hrG.ok.house⟩,λ_=>rfl⟩
   ·exact out T.rows [.lst (T.rows.map rowD)] h.length G.rows hG zad
theorem zme(n:Nat){T:Tab}{c:Int}{h:Sto}(G:T.Good)(hr:T.rows≠[])(hm:∀r∈T.rows,r.m.length<=10)(kq:∀T':Tab,T'.Good->Q (.d (tabD T')) h):Ok (zaf P (n+2) 41 [.d (tabD T),.d (.int c)] h) Q:=by
 refine cl rfl rfl rfl ?_;refine ask (zfD n (m:=3) (by decide) λds hl hd=>?_)
 obtain ⟨d0,d1,d2,rfl⟩:∃a b c,ds=[a,b,c]:=by
  cases ds with|nil=>cases hl|cons a ds=>obtain⟨b,c,rfl⟩:=zql (WH hl);exact⟨a,b,c,rfl⟩
 obtain⟨m1,a0,a1⟩:=zml (f:=rowD) hr d0;refine st zad ?_;refine st m1 ?_;generalize d0%(T.rows.length:Int)=i at a0 a1;obtain⟨j,rfl⟩:∃j:Nat,i=j:=⟨i.toNat,by omega⟩;have hj:j<T.rows.length:=Int.ofNat_lt.mp a1;have ej:T.rows[j]?=some T.rows[j]:=Z6 hj;have hrm:=hm _ (W0 hj);generalize T.rows[j]=r at ej hrm
 have ei:idxD (.lst (T.rows.map rowD)) (.int j)=some (rowD r):=zt7 (by omega) (by rw[ZD,ZF,ej];rfl)
 refine st zad ?_;refine st ei ?_;refine zq6 n G ej hrm λrs t l g1 g2 e=>?_;refine st e ?_;exact fa (kq {T with rows:=rs} (zoK G g1 g2))
variable {Q:R->Sto->Prop}
theorem zjS{ds:List Int}(hd:Dig 64 ds){i:Int}(h0:0<=i)(h1:i<ds.length):∃x,(0<=x/\x<64)/\idxD (.lst (ds.map D.int)) (.int i)=some (.int x):=by obtain⟨a,ha,e⟩:=zdi (f:=D.int) h0 h1;exact⟨a,hd a ha,e⟩
def zg2:List (List HA):=[[],[.keep],[.keep,.tell],[.keep,.put],[.lose,.send [109] zcs]]
def zoX:List (List HA):=[[],[.tell],[.put],[.send [109] zlo],[.lose,.send [110] zcs]]
def zc3:List (List OA):=[[.keep],[.own,.send 0 [109] zcs],[.share,.send 0 [110] zcs],[.forget],[.send 2 [110] zlo,.keep],[.send 1 [109] zcs,.clear],[.send 0 [109] zlo]]
def haM(l:List (List HA)):D:=.lst (l.map λas=>zbL (.hand as))
def oaM(l:List (List OA)):List D:=l.map λas=>zbL (.house as)
theorem zq7{t:Bool}{x:Int}(h0:0<=x):∃as,∃d,idxD (.lst [haM zoX,haM zg2]) (.int (if t then 1 else 0))=some d/\idxD d (.int (x%5))=some (zbL (.hand as)):=by
 have h1:0<=x%5:=Zm _ (by decide);have h2:x%5<5:=Zt _ (by decide)
 cases t with|true=>obtain⟨as,_,e⟩:=zdi (f:=λas=>zbL (.hand as)) (xs:=zg2) h1 h2;exact⟨as,_,rfl,e⟩|false=>obtain⟨as,_,e⟩:=zdi (f:=λas=>zbL (.hand as)) (xs:=zoX) h1 h2;exact⟨as,_,rfl,e⟩
theorem zds{xs:List Tx}{i:Int}(h0:0<=i)(h1:i<xs.length):∃a,idxD (.lst (xs.map D.str)) (.int i)=some (.str a):=by obtain⟨a,_,e⟩:=zdi (f:=D.str) h0 h1;exact⟨a,e⟩
theorem zsN{t:Bool}{x:Int}:bop .mul (.int (if t then 1 else 0)) (.int x)=some (.int ((if t then 1 else 0)*x)):=by cases t<;>rfl
theorem zjG{rs:List Row}{r:Row}(h:∀x∈rs,x.Good)(g:r.Good):∀x∈rs++[r],x.Good:=λx hx=>by
 rcases YZ.mp hx with z | z
 ·exact h x z
 ·rw[YJ.mp z];exact g
def fr1:List S:=match zeI with| [_,_,_,_,_,_,_,_,.for _ _ b,_,_]=>b|_=>[]
def fr2:List S:=match zeI with| [_,_,_,_,_,_,_,_,_,.for _ _ b,_]=>b|_=>[]
def fr3:List S:=match fr2 with| [_,_,.ife _ _ [.for _ _ b]]=>b|_=>[]
abbrev envR(c:Int)(ds:List Int)(ps:D)(H0:Sto):Env:=[some (.d (.int c)),some (.d (.lst (ds.map D.int))),some (.d ps),some (.d (haM zg2)),some (.d (haM zoX)),some (.loc H0.length),some (.loc (H0.length+1))]
abbrev stoR(H0:Sto)(rs:List Row):Sto:=H0++[Ob.lst (oaM zc3),Ob.lst (rs.map rowD)]
theorem zg6{H0:Sto}{rs:List Row}{r:Row}:H0++[Ob.lst (oaM zc3),Ob.lst (rs.map rowD++[rowD r])]=stoR H0 (rs++[r]):=by unfold stoR;rw[Zp];rfl
theorem zjk{rs:List Row}{k:Nat}(h:rs.length<=k)(hk:k<=1000):(rs.map rowD).length<big:=by unfold big;rw[Z3];omega
theorem zi4{rs:List Row}{r:Row}{k:Nat}(h:rs.length<=k):(rs++[r]).length<=k+1:=by rw[ZS];exact YU h
theorem zqm{m i k:Nat}(h:(Zy m)[i]?=some k):k=i/\i<m:=by
 have hi:i<m:=by simpa using(Z9.mp h).1
 rw[Ya hi] at h;cases h;exact⟨rfl,hi⟩
theorem zn8(n:Nat){c:Int}{ds:List Int}{ps:D}{H0:Sto}{Q:Fl×Env->Sto->Prop}(hl:ds.length=20)(hd:Dig 64 ds)(out:∀rs v7 v8 v9 v10,rs.length<=10->(∀r∈rs,Row.Good r)->Q (.nx,envR c ds ps H0++[v7,v8,v9,v10,none,none]) (stoR H0 rs)):
  Ok (loop none (λy σ=>bnd (zaw (.name 7) y σ) λσ'=>exs (zaf P (n+1)) fr1 σ') ((Zy 10).map (dI∘λi:Nat=>D.int (i:Int))) (envR c ds ps H0++[none,none,none,none,none,none]) (stoR H0 [])) Q:=by
 refine zaV (g:=dI∘λi:Nat=>D.int (i:Int)) (xs:=Zy 10) (λi σ h1=>∃(rs:List Row) (v7 v8 v9 v10:Option R),rs.length<=i/\(∀r∈rs,r.Good)/\h1=stoR H0 rs/\σ=envR c ds ps H0++[v7,v8,v9,v10,none,none]) ?_ ?_ ⟨[],none,none,none,none,Z2 _,by simp,rfl,rfl⟩
 ·rintro i k σ h1 hk ⟨rs,v7,v8,v9,v10,hrl,hrG,rfl,rfl⟩
  obtain⟨rfl,hi⟩:=zqm hk;obtain⟨d,d0,ed⟩:=zjS hd (i:=1+(k:Int)) (by omega) (by omega);obtain⟨w,ew⟩:=zds (xs:=[zep,zaE,zlw,[109],[110]]) (i:=(k:Int)%5) (Zm _ (by decide)) (Zt _ (by decide));obtain⟨as,dm,em1,em2⟩:=zq7 (t:=decide ((2:Int)<(k:Int)%5)) d0.1
  obtain⟨x,ex⟩:=zds (xs:=[[97],[98]]) (i:=(k:Int) / 5) (by omega) (by show(k:Int) / 5<2;omega)
  obtain⟨y,ey⟩:=zds (xs:=[[97],[98]]) (i:=d / 5%2) (Zm _ (by decide)) (Zt _ (by decide));refine gb ?_;refine st ed ?_;refine st em1 ?_;refine st em2 ?_;refine st ew ?_;apply jn0
  ·intro key
   refine br (λc1=>?_) (λc1=>?_)
   ·exact key
   ·refine br (λc2=>?_) (λc2=>?_)
    ·exact key
    ·exact⟨rfl,rs,_,_,_,_,XR hrl,hrG,rfl,rfl⟩
  ·refine st zax ?_
   refine st ex ?_;refine st ey ?_;refine st zax ⟨zjk hrl (by omega),?_⟩;rw[zcc];exact⟨rfl,rs++[⟨zb9,[x,w],y,.hand as⟩],_,_,_,_,zi4 hrl,zjG hrG zaO,zg6 (r:=⟨zb9,[x,w],y,.hand as⟩),rfl⟩
 ·rintro σ h1 ⟨rs,v7,v8,v9,v10,hrl,hrG,rfl,rfl⟩
  exact out rs _ _ _ _ hrl hrG
theorem zos(n:Nat){c:Int}{ds:List Int}{ps:D}{H0:Sto}{k j0:Nat}{d e:Int}{x z y:Tx}{rs:List Row}{v9 v10 v12:Option R}{Q:Fl×Env->Sto->Prop}(hj:j0<=100)(ee:idxD (.lst (ds.map D.int)) (.int (15+(k:Int)))=some (.int e))(ez:idxD (.lst ([[109],[110]].map D.str)) (.int ((k:Int)%2))=some (.str z))(ey:idxD (.lst ([[104],[107]].map D.str)) (.int (d / 8%2))=some (.str y))
  (hrl:rs.length<=j0) (hrG:∀r∈rs,r.Good) (out:∀rs v9 v12,rs.length<=j0+2->(∀r∈rs,Row.Good r)->Q (.nx,envR c ds ps H0++[some (.d (.int k)),some (.d (.int d)),v9,v10,some (.d (.str x)),v12]) (stoR H0 rs)):
  Ok (loop none (λy σ=>bnd (zaw (.name 12) y σ) λσ'=>exs (zaf P (n+1)) fr3 σ') (([zsS,zoL].map D.str).map dI) (envR c ds ps H0++[some (.d (.int k)),some (.d (.int d)),v9,v10,some (.d (.str x)),v12]) (stoR H0 rs)) Q:=by
 refine zfQ (xs:=[zsS,zoL].map D.str) (λj σ h1=>∃(rs:List Row) (v9 v12:Option R),rs.length<=j0+j/\(∀r∈rs,r.Good)/\h1=stoR H0 rs/\σ=envR c ds ps H0++[some (.d (.int k)),some (.d (.int d)),v9,v10,some (.d (.str x)),v12]) ?_ ?_ ⟨rs,_,_,hrl,hrG,rfl,rfl⟩
 ·rintro j u σ h1 hj ⟨rs,v9,v12,hrl,hrG,rfl,rfl⟩
  rw[ZF,Zk] at hj;obtain⟨wn,hj,rfl⟩:=hj
  have hj2:j<2:=by simpa using(Z9.mp hj).1
  obtain⟨as,_,ea⟩:=zdi (f:=λas=>zbL (.house as)) (xs:=zc3) (i:=(d%8+(if wn==zoL then 1 else 0)*e)%7) (Zm _ (by decide)) (Zt _ (by decide));refine gb ?_;refine st ee ?_;refine st zsN ?_;refine st zad ?_;refine st ea ?_;refine st zax ?_;refine st ez ?_;refine st ey ?_;refine st zax ⟨zjk hrl (by omega),?_⟩;rw[zcc];exact⟨rfl,rs++[⟨zbv,[x,z,wn],y,.house as⟩],_,_,zi4 hrl,zjG hrG zbU,zg6 (r:=⟨zbv,[x,z,wn],y,.house as⟩),rfl⟩
 ·rintro σ h1 ⟨rs,v9,v12,hrl,hrG,rfl,rfl⟩
  exact out rs _ _ hrl hrG
theorem zor(n:Nat){c:Int}{ds:List Int}{ps:D}{H0:Sto}{rs:List Row}{v7 v8 v9 v10:Option R}{Q:Fl×Env->Sto->Prop}(hl:ds.length=20)(hd:Dig 64 ds)(hrl:rs.length<=10)(hrG:∀r∈rs,r.Good)(out:∀rs v7 v8 v9 v10 v11 v12,rs.length<=90->(∀r∈rs,Row.Good r)->Q (.nx,envR c ds ps H0++[v7,v8,v9,v10,v11,v12]) (stoR H0 rs)):
  Ok (loop none (λy σ=>bnd (zaw (.name 7) y σ) λσ'=>exs (zaf P (n+1)) fr2 σ') ((Zy 4).map (dI∘λi:Nat=>D.int (i:Int))) (envR c ds ps H0++[v7,v8,v9,v10,none,none]) (stoR H0 rs)) Q:=by
 refine zaV (g:=dI∘λi:Nat=>D.int (i:Int)) (xs:=Zy 4) (λi σ h1=>∃(rs:List Row) (v7 v8 v9 v10 v11 v12:Option R),rs.length<=10+2*i/\(∀r∈rs,r.Good)/\h1=stoR H0 rs/\σ=envR c ds ps H0++[v7,v8,v9,v10,v11,v12]) ?_ ?_ ⟨rs,_,_,_,_,_,_,hrl,hrG,rfl,rfl⟩
 ·rintro i k σ h1 hk ⟨rs,v7,v8,v9,v10,v11,v12,hrl,hrG,rfl,rfl⟩
  obtain⟨rfl,hi⟩:=zqm hk;obtain⟨d,d0,ed⟩:=zjS hd (i:=11+(k:Int)) (by omega) (by omega);obtain⟨e,e0,ee⟩:=zjS hd (i:=15+(k:Int)) (by omega) (by omega)
  obtain⟨x,ex⟩:=zds (xs:=[[104],[107]]) (i:=(k:Int) / 2) (by omega) (by show(k:Int) / 2<2;omega)
  obtain⟨z,ez⟩:=zds (xs:=[[109],[110]]) (i:=(k:Int)%2) (Zm _ (by decide)) (Zt _ (by decide));obtain⟨y,ey⟩:=zds (xs:=[[104],[107]]) (i:=d / 8%2) (Zm _ (by decide)) (Zt _ (by decide));refine gb ?_;refine st ed ?_;refine st ex ?_;refine br (λc1=>?_) (λc1=>?_)
  ·refine st zax ?_
   refine st ez ?_;refine st zax ⟨zjk hrl (by omega),?_⟩;rw[zcc];exact⟨rfl,rs++[⟨zbv,[x,z,kany],x,.wait⟩],_,_,_,_,_,_,XR (zi4 hrl),zjG hrG zhK,zg6 (r:=⟨zbv,[x,z,kany],x,.wait⟩),rfl⟩
  ·refine ask ?_
   refine zos n (by omega) ee ez ey hrl hrG λrs v9 v12 h1 h2=>?_;exact⟨rfl,rs,_,_,_,_,_,_,h1,h2,rfl,rfl⟩
 ·rintro σ h1 ⟨rs,v7,v8,v9,v10,v11,v12,hrl,hrG,rfl,rfl⟩
  have hrl:rs.length<=18:=hrl;exact out rs _ _ _ _ _ _ (ZJ hrl (by decide)) hrG
theorem zmC(n:Nat){c:Int}{h:Sto}(kq:∀T':Tab,T'.Good->Q (.d (tabD T')) h):Ok (zaf P (n+2) 42 [.d (.int c)] h) Q:=by
 refine cl rfl rfl rfl ?_;refine ask (zfD n (m:=20) (by decide) λds hl hd=>?_);obtain⟨d,d0,ed⟩:=zjS hd (i:=0) (by omega) (by omega);obtain⟨b,eb⟩:=zds (xs:=[zcP,zep,zep,zaE]) (i:=d%4) (Zm _ (by decide)) (Zt _ (by decide));refine st ed ?_;refine st eb ?_;refine st zad ?_;refine st zad ?_;refine st zad ⟨by decide,?_⟩;rw[zan];refine⟨⟨by decide,by decide⟩,?_⟩;refine ask ?_;show Ok (loop none _ ((zb5 0 (Int.toNat 10)).map dI) [some (.d (.int c)),some (.d (.lst (ds.map D.int))),some (.d (.tup ([([97],zcP),([98],b)].map hnD))),some (.d (haM zg2)),some (.d (haM zoX)),some (.loc (h++[Ob.lst (oaM (zc3.take 4))]).length),some (.loc ((h++[Ob.lst (oaM (zc3.take 4))])++[Ob.lst (oaM zc3)]).length),none,none,none,none,none,none] (((h++[Ob.lst (oaM (zc3.take 4))])++[Ob.lst (oaM zc3)])++[Ob.lst []])) _
 have hfa:∀t (x:D),Q (.d x) h->Ok (fin h false false (.d x) ((h++[Ob.lst (oaM (zc3.take 4))])++t)) Q:=λt x q=>by rw[ZO];exact fa q
 generalize h++[Ob.lst (oaM (zc3.take 4))]=H0 at hfa⊢
 have e15:∀m:Nat,(zb5 0 m).map dI=(Zy m).map (dI∘λi:Nat=>D.int (i:Int)):=λm=>by rw[zb3,Y7]
 rw[e15,ZS,ZO];refine zn8 n hl hd λrs v7 v8 v9 v10 h1 h2=>?_;refine⟨⟨by decide,by decide⟩,?_⟩;refine ask ?_;show Ok (loop none _ ((zb5 0 (Int.toNat 4)).map dI) _ _) _;rw[e15];refine zor n hl hd h1 h2 λrs v7 v8 v9 v10 v11 v12 h1 h2=>?_;refine st zax ?_;exact hfa _ _ (kq ⟨[([97],zcP),([98],b)],[104],[.str [107]],rs⟩ ⟨h2,h1,λz=>by cases z⟩)
theorem zlq(n:Nat){c:Int}{h:Sto}(kq:∀T':Tab,T'.Good->Q (.d (tabD T')) h):Ok (zaf P (n+3) 43 [.d (.int c)] h) Q:=by
 refine cl rfl rfl rfl ?_;refine br (λc1=>?_) (λc1=>?_)
 ·exact ask (zmC n λT' g=>f0 (kq T' g))
 ·have c1:(c%3==2)=false:=c1
  have c2:¬c%3=2:=by simpa using c1
  refine ask (ziI (n+1) ?_);refine ask (zid (n+1) ?_);have h1:0<=c%3:=Zm _ (by decide);have h2:c%3<3:=Zt _ (by decide)
  obtain⟨T,hT,e⟩:=zdi (f:=tabD) (xs:=[zfz,zeT]) (i:=c%3) h1 (by show c%3<2;omega)
  have hG:T.Good/\T.rows≠[]/\∀r∈T.rows,r.m.length<=10:=by
   simp only[ZP,Zq,or_false] at hT
   rcases hT with rfl | rfl
   ·exact⟨zqe,by decide,by intro r hr;simp only[zfz,ZP,Zq,or_false] at hr;rcases hr with rfl | rfl | rfl | rfl | rfl | rfl | rfl | rfl | rfl<;>decide⟩
   ·exact⟨znT,by decide,by intro r hr;simp only[zeT,ZP,Zq,or_false] at hr;rcases hr with rfl | rfl | rfl | rfl | rfl<;>decide⟩
  refine st e ?_;refine br (λc3=>?_) (λc3=>?_)
  ·exact f0 (kq T hG.1)
  ·exact ask (zme (n) hG.1 hG.2.1 hG.2.2 λT' g=>f0 (kq T' g))
end K72
namespace K72
open IT
variable {Q:R->Sto->Prop}
theorem zeU(n:Nat){v:Val}{p:Int×Int}(kq:Q (.d (valD (thV p.1 v))) h):Ok (zaf P (n+2) 10 [.d (valD v),.d (prD p)] h) Q:=by
 refine cl rfl rfl rfl ?_
 cases v with
 |none=>exact f0 kq
 | some q=>
  refine ask (zfB n ?_);refine br (λc=>?_) (λc=>?_)
  ·have c:q.1=p.1:=by simpa using c
   have e:thV p.1 (some q)=some (1,0):=congrArg some (if_pos c);rw[e] at kq;exact f0 kq
  ·have c:¬q.1=p.1:=by simpa using c
   have e:thV p.1 (some q)=some (0,0):=congrArg some (if_neg c);rw[e] at kq;exact f0 kq
theorem zii(n:Nat){w:List Lt}{p:Int×Int}(kq:Q (.d (wayD (thW p.1 w))) h):Ok (zaf P (n+3) 9 [.d (wayD w),.d (prD p)] h) Q:=by
 refine cl rfl rfl rfl ?_;refine ask (zb0 (dD:=letD) (g:=λx:Lt=>letD (x.1,thV p.1 x.2)) (xs:=w) (λx hx=>?_) zav ?_)
 ·refine gc ?_
  refine ask (zeU n ?_);exact⟨rfl,rfl⟩
 ·refine f0 ?_
  have e:wayD (thW p.1 w)=.tup (w.map λx:Lt=>letD (x.1,thV p.1 x.2)):=by unfold wayD thW;rw[Y7];rfl
  rw[e] at kq;exact kq
theorem zkW(n:Nat){l:Ln}{p:Int×Int}(kq:Q (.d (lnD (thL p.1 l))) h):Ok (zaf P (n+4) 8 [.d (lnD l),.d (prD p)] h) Q:=by refine cl rfl rfl rfl ?_;refine ask (zeU (n+1) ?_);refine ask (zii n ?_);refine ask (zii n ?_);exact f0 kq
theorem zdR(n:Nat){S:Sd}(kq:Q (.d (sdD (thin S))) h):Ok (zaf P (n+5) 7 [.d (sdD S)] h) Q:=by
 refine cl rfl rfl rfl ?_;refine ask (zb0 (dD:=lnD) (g:=λl:Ln=>lnD (thL S.la.1 l)) (xs:=S.ls) (λx hx=>?_) zav ?_)
 ·refine gc ?_
  refine ask (zkW n ?_);exact⟨rfl,rfl⟩
 ·refine ask (zeU (n+2) ?_)
  refine f0 ?_
  have e:sdD (thin S)=.tup [.str S.s,valD (thV S.la.1 S.sr),prD (1,0),.tup (S.ls.map λl:Ln=>lnD (thL S.la.1 l))]:=by
   show D.tup [.str S.s,valD (thV S.la.1 S.sr),prD (1,0),.tup ((S.ls.map (thL S.la.1)).map lnD)]=_
   rw[Y7];rfl
  rw[e] at kq;exact kq
theorem zi3{α:Type}{f:α->D}:∀{xs:List α},(∀x∈xs,(f x).hk=true)->D.hks (xs.map f)=true| [],_=>rfl|x::xs,h=>by rw[ZB,D.hks,h x (by simp),zi3 λy hy=>h y (by simp[hy])];rfl
theorem zeK{α:Type}{f:α->D}{m:Nat}:∀{xs:List α},(∀x∈xs,(f x).dep<=m)->D.deps (xs.map f)<=m| [],_=>Zz _|x::xs,h=>by rw[ZB,D.deps];exact Nat.max_le.mpr ⟨h x (by simp),zeK λy hy=>h y (by simp[hy])⟩
theorem zaz{x:D}{xs:List D}{m:Nat}(h:x.dep<=m)(t:D.deps xs<=m):D.deps (x::xs)<=m:=Nat.max_le.mpr ⟨h,t⟩
theorem zbg{x:D}{xs:List D}(h:x.hk=true)(t:D.hks xs=true):D.hks (x::xs)=true:=by rw[D.hks,h,t];rfl
theorem zje(v:Val):(valD v).hk=true/\(valD v).dep<=1:=by
 cases v with|none=>exact⟨rfl,Zz _⟩|some p=>exact⟨rfl,Z2 1⟩
theorem znh(x:Lt):(letD x).hk=true/\(letD x).dep<=2:=by obtain⟨h1,h2⟩:=zje x.2;exact⟨zbg rfl (zbg h1 rfl),YU (zaz (Zz _) (zaz h2 (Zz _)))⟩
theorem zmg(w:List Lt):(wayD w).hk=true/\(wayD w).dep<=3:=⟨zi3 λx _=>(znh x).1,YU (zeK λx _=>(znh x).2)⟩
theorem zqt(l:Ln):(lnD l).hk=true/\(lnD l).dep<=4:=by obtain⟨h1,h2⟩:=zje l.v;obtain⟨h3,h4⟩:=zmg l.to;obtain⟨h5,h6⟩:=zmg l.back;exact⟨zbg rfl (zbg h1 (zbg rfl (zbg h3 (zbg h5 (zbg rfl rfl))))),YU (zaz (Zz _) (zaz (ZJ h2 (by decide)) (zaz (Zz _) (zaz h4 (zaz h6 (zaz (Zz _) (Zz _)))))))⟩
theorem zbR(S:Sd):zcM (sdD S)=true:=by obtain⟨h1,h2⟩:=zje S.sr;have h3:D.hks (S.ls.map lnD)=true:=zi3 λx _=>(zqt x).1;have h4:D.deps (S.ls.map lnD)<=4:=zeK λx _=>(zqt x).2;show(D.hks [.str S.s,valD S.sr,prD S.la,.tup (S.ls.map lnD)]&&decide (D.deps [.str S.s,valD S.sr,prD S.la,.tup (S.ls.map lnD)]<=6))=true;rw[Z8];exact⟨zbg rfl (zbg h1 (zbg rfl (zbg h3 rfl))),decide_eq_true (zaz (Zz _) (zaz (ZJ h2 (by decide)) (zaz (show 1<=6 by decide) (zaz (Nat.succ_le_of_lt (X1 h4 (show 4<6 by decide))) (Zz _)))))⟩
end K72
namespace K72
open IT
variable {Q:R->Sto->Prop}
abbrev zgz:Tx:=[115,116,117,99,107]
structure Nd where
 S:Sd
 p:List Deed
 u:Option (Sd×Deed)
def isAt(B:Sd)(x:Nd):Bool:=(sdD x.S).same (sdD B)
def look(N:List Nd)(B:Sd):Option Nd:=N.find? (isAt B)
def zgR(T:Tab)(S:Sd)(d:Deed):Sd:=thin (sdOf (zap T S d))
def next(T:Tab)(x:Nd)(d:Deed):Nd:=⟨zgR T x.S d,x.p++[d],some (x.S,d)⟩
def meet(N:List Nd)(y:Nd):List Nd:=if(look N y.S).isSome then N else N++[y]
inductive Vis where|bad (d:Deed) (b:D)|go (N:List Nd)
def zb1(T:Tab)(x:Nd):List Deed->List Nd->Vis| [],N=>.go N|d::ds,N=>if zar (zap T x.S d).brk then zb1 T x ds (meet N (next T x d)) else .bad d (zap T x.S d).brk
inductive Res where|gave|none (k:Nat)|run (p:List Deed) (b:D)
def bfs(T:Tab)(o:Bool)(m:Nat):Nat->Nat->List Nd->Res
 |0,_,_=>.gave
 | f+1,i,N=>match N[i]? with
  |none=>.none N.length
  |some x=>if zcA T o x.S then .run x.p (bad zgz) else match zb1 T x (zaU T o x.S) N with
   |.bad d b=>.run (x.p++[d]) b|.go N'=>if m<N'.length then .gave else bfs T o m f (i+1) N'
theorem zjU{T:Tab}{o:Bool}{m m':Nat}(hm:m<=m'):∀{f f' i:Nat} {N:List Nd},f<=f'->bfs T o m f i N≠.gave->bfs T o m' f' i N=bfs T o m f i N
 |0,_,_,_,_,h=>absurd rfl h|f+1,0,_,_,hf,_=>absurd hf (by omega)
 | f + 1,f'+1,i,N,hf,h=>by
  unfold bfs at h⊢
  cases e:N[i]? with
  |none=>rfl
  | some x=>
   rw[e] at h;simp only at h⊢
   by_cases c:zcA T o x.S=true
   ·rw[if_pos c,if_pos c]
   ·rw [if_neg c] at h⊢
    rw[if_neg c]
    cases ev:zb1 T x (zaU T o x.S) N with
    |bad d b=>rfl
    | go N'=>
     rw[ev] at h;simp only at h⊢
     by_cases c2:m<N'.length
     ·rw[if_pos c2] at h;exact absurd rfl h
     ·rw [if_neg c2] at h⊢
      rw[if_neg (show ¬m'<N'.length by omega)];exact zjU hm (by omega) h
structure NOk(T:Tab)(m:Nat)(N:List Nd)(x:Nd):Prop where
 sd:SdOk x.S
 cl:zf3 T x.p (zaN T m)
 al:Alk (hlOf (zaT T x.p (zaN T m))) (hlOf x.S)
 fnd:look N x.S=some x
 up:∀S d,x.u=some (S,d)->∃y,look N S=some y/\x.p=y.p++[d]
 top:x.u=none->x.p=[]
 sh:x.p.length<N.length
abbrev NsOk(T:Tab)(m:Nat)(N:List Nd):Prop:=∀x∈N,NOk T m N x
theorem zia{x:Nd}:isAt x.S x=true:=D.same_refl _
theorem zha{N M:List Nd}{B:Sd}{y:Nd}(h:look N B=some y):look (N++M) B=some y:=by unfold look at h⊢;rw[List.find?_append,h];rfl
theorem zkN{N:List Nd}{B:Sd}{y:Nd}(h:look N B=some y):y∈N:=XF h
theorem znn{S:Sd}(h:SdOk S):SdOk (thin S):=by
 refine⟨λl hl=>?_,?_⟩
 ·obtain ⟨l',h1,rfl⟩:=Yf.mp hl
  have:=h.ls l' h1
  show(thW _ l'.to).length<=2/\(thW _ l'.back).length<=2;unfold thW;rw[Z3,Z3];exact this
 ·show (S.ls.map _).length<=10
  rw[Z3];exact h.few
theorem zjM{T:Tab}{m:Nat}{o:Bool}{N:List Nd}{x:Nd}{d:Deed}(G:NsOk T m N)(hx:x∈N)(hd:d∈zaU T o x.S)(hb:zar (zap T x.S d).brk=true):NsOk T m (meet N (next T x d)):=by
 unfold meet
 split
 ·exact G
 ·rename_i hn
  obtain⟨h1,h2⟩:=zeM hd;have g:=G x hx;obtain⟨t1,t2,t3,t4⟩:=zhM (T:=T) g.al d
  have lk:look (N++[next T x d]) (next T x d).S=some (next T x d):=by
   unfold look
   have e:N.find? (isAt (next T x d).S)=none:=by simpa[look] using hn
   rw[List.find?_append,e,YC,zia];rfl
  intro y hy
  rcases YZ.mp hy with z | z
  ·have q:=G y z
   exact⟨q.sd,q.cl,q.al,zha q.fnd,λS d e=>let ⟨w,a,b⟩:=q.up S d e;⟨w,zha a,b⟩,q.top,by have:=q.sh;rw[ZS];exact ZL this (Nat.le_add_right _ _)⟩
  ·rw [YJ.mp z]
   refine⟨znn (zhl g.sd),zir g.cl h1 (t1.trans h2) (by rw[t2];exact hb),?_,lk,λS d' e=>?_,(λe=>by cases e),?_⟩
   ·show Alk (hlOf (zaT T (x.p++[d]) _)) _
    rw[zgt]
    exact t4 (by rw[t2];exact hb)
   ·cases e
    exact⟨x,zha g.fnd,rfl⟩
   ·show (x.p++[d]).length<(N++[next T x d]).length
    have:=g.sh
    rw[ZS,ZS];exact Nat.add_lt_add_right this 1
theorem zpv{N:List Nd}{x y:Nd}(h:x∈N):x∈meet N y:=by
 unfold meet
 split
 ·exact h
 ·exact Yh _ h
theorem zkb{α:Type}{R:α->α->Prop}{x:α}(h:R x x):∀m:Nat,All2 R (ZU m x) (ZU m x)|0=>.nil|m+1=>.cons h (zkb h m)
def nd0(T:Tab)(m:Nat):Nd:=⟨thin (zaN T m),[],none⟩
theorem zm4{T:Tab}{m:Nat}(hm:m<=10):NsOk T m [nd0 T m]:=by
 intro x hx;rw[YJ.mp hx]
 have lk:look [nd0 T m] (nd0 T m).S=some (nd0 T m):=by unfold look;rw[YC,zia]
 have a:Alk (hlOf (zaN T m)) (hlOf (zaN T m)):=by refine⟨rfl,⟨VX _,VX _,Iff.rfl⟩,?_,rfl⟩;exact zkb ⟨rfl,rfl,.nil,.nil,rfl⟩ m
 exact⟨znn (zgN hm),trivial,zpE a,lk,(λS d e=>by cases e),λ_=>rfl,Nat.one_pos⟩
end K72
namespace K72
open IT
variable {Q:R->Sto->Prop}
theorem zj9{c:Env->M Bool}{f:Env->M (Fl×Env)}{Q:Fl×Env->Sto->Prop}(I:Nat->Env->Sto->Prop)
  (step:∀k σ h,I (k+1) σ h->Ok (c σ h) λt h1=>t=true/\Ok (f σ h1) λp h2=>p.1=.nx/\I k p.2 h2)
  (fin:∀σ h,I 0 σ h->Ok (c σ h) λt h1=>t=false/\Q (.nx,σ) h1):∀(n k:Nat) (σ:Env) (h:Sto),k<n->I k σ h->Ok (zcO c f n σ h) Q
 |0,k,σ,h,hk,_=>absurd hk (by omega)|n+1,0,σ,h,hk,q=>by obtain⟨t,h1,e,rfl,q⟩:=fin σ h q;unfold zcO;simp only[bnd,e];exact ok_some'.mpr q|n+1,k+1,σ,h,hk,q=>by obtain⟨t,h1,e,rfl,q⟩:=step k σ h q;obtain⟨⟨fl,σ'⟩,h2,e2,e3,q⟩:=q;have e3:fl=.nx:=e3;subst e3;unfold zcO;simp only[bnd,e,if_true,e2];exact zj9 I step fin n k σ' h2 (by omega) q
theorem zmJ{o:Ob}{xs:List D}{h t:Sto}{Q:R->Sto->Prop}(q:Q (.loc h.length) (h++[.lst xs])):Ok (fin h false true (.loc (h++[o]).length) (h++[o]++.lst xs::t)) Q:=by
 have e:fin h false true (.loc (h++[o]).length) (h++[o]++.lst xs::t)=some (.loc h.length,h++[.lst xs]):=by
  unfold fin
  rw[if_neg (by decide),if_pos (by rw[ZO];exact zdz)]
  show(if(h++[o]).length<h.length then _ else _)=_;rw[if_neg (by simp),zad];show some (R.loc h.length,(h++[o]++.lst xs::t).take h.length++[Ob.lst xs])=_;rw[ZO,zgJ]
 exact⟨_,_,e,q⟩
def kvs(g:Nd->D)(N:List Nd):List (D×D):=N.map λx=>(sdD x.S,g x)
theorem zdI{g:Nd->D}{B:Sd}:∀{N:List Nd},dGet (sdD B) (kvs g N)=(look N B).map g
 | []=>rfl
 | x::N=>by
  show(if(sdD x.S).same (sdD B) then some (g x) else dGet (sdD B) (kvs g N))=_;unfold look;rw[YC]
  by_cases c:isAt B x=true
  ·rw [if_pos (show(sdD x.S).same (sdD B)=true from c),c]
   rfl
  ·rw [if_neg (show ¬(sdD x.S).same (sdD B)=true from c),eq_false_of_ne_true c]
   exact zdI
theorem zgZ{g:Nd->D}{B:Sd}{v:D}:∀{N:List Nd},look N B=none->dPut (sdD B) v (kvs g N)=kvs g N++[(sdD B,v)]
 | [],_=>rfl
 | x::N,h=>by
  unfold look at h;rw[YC] at h
  by_cases c:isAt B x=true
  ·rw[c] at h;cases h
  ·rw [eq_false_of_ne_true c] at h
   show(if(sdD x.S).same (sdD B) then _ else(sdD x.S,g x)::dPut (sdD B) v (kvs g N))=_;rw[if_neg (show ¬(sdD x.S).same (sdD B)=true from c),zgZ h];rfl
def trD(x:Nd):D:=match x.u with|none=>.tup []|some (S,d)=>.tup [sdD S,zaj d]
theorem zix{N:List Nd}{S:Sd}{x:Nd}(h:look N S=some x):dGet (sdD S) (kvs trD N)=some (trD x):=by rw[zdI,h];rfl
theorem zgG(n:Nat){T:Tab}{m ld:Nat}{N:List Nd}{S:Sd}{x:Nd}{h:Sto}(hd:h[ld]?=some (.dic (kvs trD N)))(G:NsOk T m N)(hx:look N S=some x)(hl:x.p.length<=5000)(kq:Q (.loc h.length) (h++[.lst (x.p.map zaj)])):
  Ok (zaf P (n+1) 36 [.d (sdD S),.loc ld] h) Q:=by
 refine cl rfl rfl rfl ?_
 have hld:∀t,(h++t)[ld]?=some (.dic (kvs trD N)):=λt=>by rw[ZR (Z9.mp hd).1];exact hd
 refine ask (zj9 (λk σ h'=>∃S y L,look N S=some y/\y.p.length=k/\σ=[some (.d (sdD S)),some (.loc ld),some (.loc h.length)]/\h'=h++[.lst L]/\L++(y.p.map zaj).reverse=(x.p.map zaj).reverse) ?_ ?_ zaM x.p.length _ _ (by unfold zaM;omega) ⟨S,x,[],hx,rfl,rfl,rfl,rfl⟩)
 ·rintro k σ h' ⟨S,y,L,h1,h2,rfl,rfl,h3⟩
  have g:=G y (zkN h1)
  cases eu:y.u with
  |none=>rw[g.top eu] at h2;cases h2
  | some w=>
   obtain⟨S',d⟩:=w;obtain⟨z,z1,z2⟩:=g.up S' d eu
   have et:trD y=.tup [sdD S',zaj d]:=by unfold trD;rw[eu]
   have e:=zix h1;rw[et] at e;refine gv ?_;refine st (hld _) ?_;refine bt (zbR S) ?_;refine st e ⟨rfl,gs ?_⟩;refine st zad ?_;refine st (hld _) ?_;refine bt (zbR S) ?_;refine st e ?_
   have hL:L.length<=5000:=by
    have:=congrArg Xo h3
    simp at this;omega
   refine st zad ⟨by unfold big;omega,?_⟩
   rw[zan];refine st (hld _) ?_;refine bt (zbR S) ?_;refine st e ?_;refine⟨rfl,S',z,L++[zaj d],z1,?_,rfl,rfl,?_⟩
   ·rw [z2,ZS] at h2
    exact WH h2
   ·rw [<-h3,z2]
    simp
 ·rintro σ h' ⟨S,y,L,h1,h2,rfl,rfl,h3⟩
  have g:=G y (zkN h1);have e:=zix h1;have ep:y.p=[]:=List.length_eq_zero_iff.mp h2
  have eu:y.u=none:=by
   cases eu:y.u with|none=>rfl|some w=>obtain⟨z,_,z2⟩:=g.up w.1 w.2 eu;rw[ep] at z2;simp at z2
  have et:trD y=.tup []:=by unfold trD;rw[eu]
  rw[et] at e;refine gv ?_;refine st (hld _) ?_;refine bt (zbR S) ?_;refine st e ⟨rfl,?_⟩;refine st zad ?_;rw[ep] at h3
  have h3:L.reverse=x.p.map zaj:=by
   have:=congrArg List.reverse h3
   simpa using this
  refine zmJ ?_;rw[h3];exact kq
end K72
namespace K72
open IT
variable {Q:R->Sto->Prop}
theorem zfj{c:Env->M Bool}{f:Env->M (Fl×Env)}{Q:Fl×Env->Sto->Prop}(I:Nat->Env->Sto->Prop)
  (step:∀k σ h,I (k+1) σ h->Ok (c σ h) λt h1=>wB t (Ok (f σ h1) λp h2=>match p.1 with
   |.ret r=>Q (.ret r,p.2) h2|.brk=>Q (.nx,p.2) h2
   |_=>I k p.2 h2) (Q (.nx,σ) h1))
  (zero:∀σ h,I 0 σ h->False):∀(n k:Nat) (σ:Env) (h:Sto),k<n->I k σ h->Ok (zcO c f n σ h) Q
 |0,k,σ,h,hk,_=>absurd hk (by omega)|n+1,0,σ,h,hk,q=>(zero σ h q).elim
 | n+1,k+1,σ,h,hk,q=>by
  obtain⟨t,h1,e,q⟩:=step k σ h q
  cases t with
  |false=>unfold zcO;simp only[bnd,e];exact ok_some'.mpr q
  |true=>
   obtain⟨⟨fl,σ'⟩,h2,e2,q⟩:=q;unfold zcO;simp only[bnd,e,if_true,e2]
   cases fl with|ret r=>exact ok_some'.mpr q|brk=>exact ok_some'.mpr q|nx=>exact zfj I step zero n k σ' h2 (by omega) q|cnt=>exact zfj I step zero n k σ' h2 (by omega) q
abbrev krun:Tx:=[114,117,110]
abbrev zpd:Tx:=[103,97,118,101,32,117,112]
def Ans(k:Nat)(h:Sto):Res->R->Prop|.gave,r=>r=.d (.tup [.str zpd])|.none j,r=>r=.d (.tup [.str zcP,.int j])|.run p b,r=>∃l q,r=.loc l/\h[l]?=some (.tpl (.str krun) q b)/\h[q]?=some (.lst (p.map zaj))/\k<=l/\k<=q
abbrev stoN(h:Sto)(g:Nd->D)(N:List Nd):Sto:=h++[.lst (N.map λx=>sdD x.S),.dic (kvs g N)]
theorem idxN{α:Type}{f:α->D}{N:List α}{i:Nat}{x:α}(h:N[i]?=some x):idxD (.lst (N.map f)) (.int i)=some (f x):=by
 have hi:=(Z9.mp h).1;show(match ixn (N.map f).length (i:Int) with | some j=>(N.map f)[j]? | none=>none)=_
 have e:ixn (N.map f).length (i:Int)=some i:=by
  unfold ixn
  rw[if_pos (by omega),if_pos (by rw[Z3];omega),ZD]
 rw[e];show(N.map f)[i]?=_;rw[ZF,h];rfl
theorem zkh{α:Type}:∀{xs:List α} {i:Int},(nums i xs).length=xs.length| [],_=>rfl|_::xs,i=>congrArg (·+1) (zkh (xs:=xs))
theorem zky{α:Type}{c:Nat}:∀{xs:List (List α)},(∀x∈xs,x.length<=c)->xs.flatten.length<=c*xs.length
 | [],_=>Zz _
 |x::xs,h=>by have h1:=h x (by simp);have h2:=zky (c:=c) (xs:=xs) λy hy=>h y (by simp[hy]);rw[Y2,ZS,Zu,Nat.mul_succ];omega
theorem zlX{T:Tab}{o:Bool}{S:Sd}(h:SdOk S):(zaU T o S).length<=70:=by
 have h1:(zhH o S.ls).length<=7*((nums 0 S.ls).map (lnDs o)).length:=zky λx hx=>by
  obtain⟨z,hz,rfl⟩:=Yf.mp hx;have hm:=h.ls _ (ZM (zdQ hz).2.2);have t1:=ziq o z.2.to;have t2:=ziq o z.2.back
  have:=hm.1
  have:=hm.2
  simp[lnDs];omega
 rw[Z3,zkh] at h1;have h2:=h.few;have h3:=List.length_filter_le (may1 T S) (zhH o S.ls);unfold zaU;omega
theorem znA{h:Sto}{g:Nd->D}{M:List Nd}{y:Nd}:stoN h g (M++[y])=h++[.lst ((M.map λx=>sdD x.S)++[sdD y.S]),.dic (kvs g M++[(sdD y.S,g y)])]:=by unfold stoN kvs;rw[Zp,Zp];rfl
theorem zlU{h H t1:Sto}{p:List Deed}{x:D}{Q:R->Sto->Prop}(e1:H=h++t1)(kq:∀t r,Ans h.length (h++t) (.run p x) r->Q r (h++t)):Q (.loc (H++[Ob.lst (p.map zaj)]).length) (H++[Ob.lst (p.map zaj)]++[.tpl (.str krun) H.length x]):=by
 have e:H++[Ob.lst (p.map zaj)]++[.tpl (.str krun) H.length x]=h++(t1++[Ob.lst (p.map zaj)]++[.tpl (.str krun) H.length x]):=by rw[e1];simp
 have q:=kq (t1++[Ob.lst (p.map zaj)]++[.tpl (.str krun) H.length x]) (.loc (H++[Ob.lst (p.map zaj)]).length) ⟨_,_,rfl,by rw[<-e];exact zad,by rw[<-e,ZO];exact zad,by rw[e1];simp,by rw[e1];simp⟩
 rw[<-e] at q;exact q
theorem zlO{g:Nd->D}{M:List Nd}(h:M.length<4000):(kvs g M).length<big:=by unfold kvs big;rw[Z3];omega
theorem znN{M:List Nd}(h:M.length<4000):(M.map λx=>sdD x.S).length<big:=by unfold big;rw[Z3];omega
theorem zqx{M:List Nd}{y:Nd}{a j:Nat}(h:M.length<=a+j):(M++[y]).length<=a+(j+1):=by rw[ZS];exact YU h
theorem zmz(M:List Nd)(y:Nd):M.length<=(M++[y]).length:=by rw[ZS];exact Nat.le_add_right _ _
theorem zlN{b:D}(h:¬zar b=true):(!zar b)=true:=by rw[eq_false_of_ne_true h];rfl
theorem zr8{p:List Deed}{d:Deed}(h:p.length<4000):catD (.lst (p.map zaj)) (.lst [zaj d])=some ((p++[d]).map zaj):=by
 show(if fit ((p.map zaj).length+[zaj d].length) then _ else _)=_
 rw[if_pos (show fit ((p.map zaj).length+[zaj d].length)=true from decide_eq_true (by rw[Z3];show _+1<=_;unfold big;omega)),Zp]
 rfl
def whF:List S:=match zek with| [_,_,_,.whl _ b,_]=>b|_=>[]
def inF:List S:=match whF with| [_,_,.for _ _ b,_,_]=>b|_=>[]
abbrev envF(T:Tab)(m b:Nat)(o:Bool)(h:Sto)(i:Nat):Env:=[some (.d (tabD T)),some (.d (.int m)),some (.d (.bl o)),some (.d (.int b)),some (.loc h.length),some (.loc (h.length+1)),some (.d (.int i))]
theorem zlK(n:Nat){T:Tab}{m b i:Nat}{o:Bool}{h:Sto}{N:List Nd}{x:Nd}{v8 v9 v10:Option R}{Q:Fl×Env->Sto->Prop}(O:T.Ok)(G:NsOk T m N)(hx:x∈N)(hn:N.length<=3000)
  (bad:∀t r σ d c,zb1 T x (zaU T o x.S) N=.bad d c->Ans h.length (h++t) (.run (x.p++[d]) c) r->Q (.ret r,σ) (h++t))
  (go:∀M v8 v9 v10,zb1 T x (zaU T o x.S) N=.go M->NsOk T m M->N.length<=M.length->Q (.nx,envF T m b o h i++[some (.d (sdD x.S)),v8,v9,v10]) (stoN h trD M)):
  Ok (loop none (λy σ=>bnd (zaw (.name 8) y σ) λσ'=>exs (zaf P (n+9)) inF σ') ((zaU T o x.S).map (dI∘zaj)) (envF T m b o h i++[some (.d (sdD x.S)),v8,v9,v10]) (stoN h trD N)) Q:=by
 have g:=G x hx;have hml:=zlX (T:=T) (o:=o) g.sd;refine zaV (g:=dI∘zaj) (xs:=zaU T o x.S) (λj σ h'=>∃(M:List Nd) (v8 v9 v10:Option R),NsOk T m M/\x∈M/\M.length<=N.length+j/\N.length<=M.length/\zb1 T x (zaU T o x.S) N=zb1 T x ((zaU T o x.S).drop j) M/\h'=stoN h trD M/\σ=envF T m b o h i++[some (.d (sdD x.S)),v8,v9,v10]) ?_ ?_ ⟨N,_,_,_,G,hx,Z2 _,Z2 _,rfl,rfl,rfl⟩
 ·rintro j d σ h' hj ⟨M,v8,v9,v10,GM,hxM,hlM,hiM,hVM,rfl,rfl⟩
  have hjl:=(Z9.mp hj).1;have hd:=ZM hj;obtain⟨d1,d2⟩:=zeM hd;have gM:=GM x hxM;have hM:M.length<4000:=X1 hlM (by omega);rw[Zv hjl,(Z9.mp hj).2,zb1] at hVM;refine gb ?_;refine ask (zeR n O g.sd.hl d1 d2 ?_)
  by_cases cb:zar (zap T x.S d).brk=true
  ·rw [if_pos cb] at hVM
   rw[show zjh T x.S d=.tup [sdD (sdOf (zap T x.S d)),(zap T x.S d).ans,.non] from if_pos cb];refine ask (zdR (n+4) ?_);refine st zax ?_;refine bt (zbR _) ?_;have GN:=zjM GM hxM hd cb;show wB (!(dGet (sdD (zgR T x.S d)) (kvs trD M)).isSome) _ _;rw[zdI];refine br (λc2=>?_) (λc2=>?_)
   ·have c2:look M (zgR T x.S d)=none:=by simpa using c2
    have em:meet M (next T x d)=M++[next T x d]:=if_neg (by rw[show look M (next T x d).S=none from c2];decide)
    refine bt (zbR _) ?_;refine st zax ⟨zlO hM,?_⟩;have hp:dPut (sdD (thin (sdOf (zap T x.S d)))) (.tup [sdD x.S,zaj d]) (kvs trD M)=kvs trD M++[(sdD (zgR T x.S d),.tup [sdD x.S,zaj d])]:=zgZ c2;rw[zcc,hp];refine st zad ?_;refine st zad ⟨znN hM,?_⟩;rw[zan];rw[em] at hVM GN;exact⟨zav,M++[next T x d],_,_,_,GN,Yh _ hxM,zqx hlM,ZJ hiM (zmz _ _),hVM,(znA (h:=h) (M:=M) (y:=next T x d)).symm,rfl⟩
   ·have c2:(look M (zgR T x.S d)).isSome=true:=by simpa using c2
    have em:meet M (next T x d)=M:=if_pos c2;rw[em] at hVM;exact⟨zav,M,_,_,_,GM,hxM,XR hlM,hiM,hVM,rfl,rfl⟩
  ·rw [if_neg cb] at hVM
   rw[show zjh T x.S d=.tup [sdD x.S,.non,(zap T x.S d).brk] from if_neg cb];refine bt (zlN cb) ?_;refine ask (zgG (n+8) zax GM gM.fnd (Xl (Xb gM.sh (Xb hM (by decide)))) ?_);refine st zad ?_;refine st (zr8 (Xb gM.sh hM)) ?_;exact⟨_,_,rfl,zlU (Q:=λr h=>Q (.ret r,_) h) (ZO ..) λt r a=>bad t r _ d _ hVM a⟩
 ·rintro σ h' ⟨M,v8,v9,v10,GM,hxM,hlM,hiM,hVM,rfl,rfl⟩
  rw[XH,zb1] at hVM;exact go M _ _ _ hVM GM hiM
theorem zlE(n:Nat){T:Tab}{m b:Nat}{o:Bool}{h:Sto}{RES:Res}{Q:Fl×Env->Sto->Prop}(O:T.Ok)(hb:1<=b/\b<=3000)(hm:m<=10)(hR:RES=bfs T o b (b+1) 0 [nd0 T m])
  (ret:∀t r σ,Ans h.length (h++t) RES r->Q (.ret r,σ) (h++t)) (out:∀N i v7 v8 v9 v10,RES=.none N.length->Q (.nx,envF T m b o h i++[v7,v8,v9,v10]) (stoN h trD N)):
  Ok (zcO (tv (zaf P (n+9)) (.val (.cmp .lt (.var 6) (.bi .len [.var 4])))) (exs (zaf P (n+9)) whF) zaM (envF T m b o h 0++[none,none,none,none]) (stoN h trD [nd0 T m])) Q:=by
 refine zfj (λk σ h'=>∃(i:Nat) (N:List Nd) (v7 v8 v9 v10:Option R),i+k=b+1/\i<=N.length/\N.length<=b/\NsOk T m N/\RES=bfs T o b k i N/\h'=stoN h trD N/\σ=envF T m b o h i++[v7,v8,v9,v10]) ?_ ?_ zaM (b+1) _ _ (by unfold zaM;omega) ⟨0,[nd0 T m],none,none,none,none,Nat.zero_add _,Zz _,hb.1,zm4 hm,hR,rfl,rfl⟩
 ·rintro k σ h' ⟨i,N,v7,v8,v9,v10,h1,h2,h3,G,h4,rfl,rfl⟩
  refine gv ?_;refine st zad ?_;refine br (λc=>?_) (λc=>?_)
  ·have hi:i<N.length:=by simpa using c
   obtain⟨x,ex⟩:∃x,N[i]?=some x:=⟨_,Z6 hi⟩;have hx:=ZM ex;have g:=G x hx;rw[bfs,ex] at h4;simp only at h4;refine gs ?_;refine st zad ?_;refine st (idxN ex) ?_;refine ask (zeg (n+3) g.sd.hl ?_);refine br (λc1=>?_) (λc1=>?_)
   ·rw [if_pos c1] at h4
    rw[h4] at ret
    refine ask (zgG (n+8) zax G g.fnd (by have:=g.sh;omega) ?_)
    exact⟨_,_,rfl,zlU (Q:=λr h=>Q (.ret r,_) h) rfl λt r a=>ret t r _ a⟩
   ·rw [if_neg (by rw[c1];decide)] at h4
    refine ask (zg8 (n+4) g.sd.hl ?_);refine ask ?_;rw[Y7];refine zlK n O G hx (by omega) (λt r σ d c e a=>?_) λM v8 v9 v10 e GM hl=>?_
    ·rw [e] at h4
     rw[h4] at ret;exact ret t r σ a
    ·rw [e] at h4
     simp only at h4;refine st zad ?_;show wB (decide ((b:Int)<((M.map λx=>sdD x.S).length:Nat))) _ _;rw[Z3];refine br (λc2=>?_) (λc2=>?_)
     ·have c2:b<M.length:=by simpa using c2
      rw[if_pos c2] at h4;rw[h4] at ret;exact ret _ _ _ rfl
     ·have c2:¬b<M.length:=by simpa using c2
      rw[if_neg c2] at h4;exact⟨i+1,M,_,_,_,_,by omega,by omega,by omega,GM,h4,rfl,rfl⟩
  ·have hi:N.length<=i:=by simpa using c
   rw[bfs,Zh hi] at h4;exact out N i _ _ _ _ h4
 ·rintro σ h' ⟨i,N,v7,v8,v9,v10,h1,h2,h3,_⟩
  omega
theorem zdB(n:Nat){rs:List R}{T:Tab}{m b:Nat}{o:Bool}{h:Sto}(O:T.Ok)(hm:m<=10)(hb:1<=b/\b<=3000)(hf:zaW 4 [.bl true,.int 3000] rs=[.d (tabD T),.d (.int m),.d (.bl o),.d (.int b)])(kq:∀t r,Ans h.length (h++t) (bfs T o b (b+1) 0 [nd0 T m]) r->Q r (h++t)):
  Ok (zaf P (n+10) 35 rs h) Q:=by
 refine cd rfl hf rfl ?_;refine ask (zet (n+8) O hm ?_);refine ask (zdR (n+4) ?_)
 have e0:∀a:Ob,h++[a]++[Ob.dic []]=h++[a,.dic []]:=λa=>by rw[ZO];rfl
 have e1:∀a:Ob,(h++[a]).length=h.length+1:=λa=>by simp
 refine st (show(h++[Ob.lst [sdD (thin (zaN T m))]]++[Ob.dic []])[h.length]?=some (Ob.lst [sdD (thin (zaN T m))]) by rw[e0];exact zad) ?_
 refine bt (zbR _) ?_;refine st zad ⟨by decide,?_⟩;rw[e0,e1,zcc];refine ask (zlE n O hb hm rfl (λt r σ a=>zai.mpr (kq t r a)) λN i v7 v8 v9 v10 e=>?_);rw[e] at kq;refine st zad ?_
 exact zai.mpr (kq _ _ (by show R.d (.tup [.str zcP,.int ((N.map λx=>sdD x.S).length:Nat)])=_;rw[Z3]))
end K72
namespace K72
open IT
variable {Q:R->Sto->Prop}
def rsD:Res->D|.gave=>.tup [.str zpd]|.none j=>.tup [.str zcP,.int j]|.run p b=>.tup [.str krun,.lst (p.map zaj),b]
def wyD(x:Nd):D:=.lst (x.p.map zaj)
theorem zhj{N:List Nd}{S:Sd}{x:Nd}(h:look N S=some x):dGet (sdD S) (kvs wyD N)=some (wyD x):=by rw[zdI,h];rfl
theorem zoi{p:List Deed}{d:Deed}(h:p.length<=5000):bop .add (.lst (p.map zaj)) (.lst [zaj d])=some (.lst ((p++[d]).map zaj)):=by
 show(if fit ((p.map zaj).length+[zaj d].length) then _ else _)=_
 rw[if_pos (show fit ((p.map zaj).length+[zaj d].length)=true from decide_eq_true (by rw[Z3];show _+1<=_;unfold big;omega)),Zp]
 rfl
def forU:List S:=match zjN with| [_,_,_,.for _ _ b,_]=>b|_=>[]
def inU:List S:=match forU with| [_,_,_,.for _ _ b,_]=>b|_=>[]
abbrev envU(T:Tab)(m b:Nat)(o:Bool)(h:Sto):Env:=[some (.d (tabD T)),some (.d (.int m)),some (.d (.bl o)),some (.d (.int b)),some (.d (sdD (thin (zaN T m)))),some (.loc h.length),some (.loc (h.length+1))]
theorem zmh(n:Nat){T:Tab}{m b i:Nat}{o:Bool}{h:Sto}{N:List Nd}{x:Nd}{v9 v10 v11 v12:Option R}{Q:Fl×Env->Sto->Prop}(O:T.Ok)(G:NsOk T m N)(hx:x∈N)(hn:N.length<=3000)
  (bad:∀t σ d c,zb1 T x (zaU T o x.S) N=.bad d c->Q (.ret (.d (rsD (.run (x.p++[d]) c))),σ) (h++t))
  (go:∀M v9 v10 v11 v12,zb1 T x (zaU T o x.S) N=.go M->NsOk T m M->N.length<=M.length->Q (.nx,envU T m b o h++[some (.d (.int i)),some (.d (sdD x.S)),v9,v10,v11,v12]) (stoN h wyD M)):
  Ok (loop none (λy σ=>bnd (zaw (.name 9) y σ) λσ'=>exs (zaf P (n+9)) inU σ') ((zaU T o x.S).map (dI∘zaj)) (envU T m b o h++[some (.d (.int i)),some (.d (sdD x.S)),v9,v10,v11,v12]) (stoN h wyD N)) Q:=by
 have g:=G x hx;have hml:=zlX (T:=T) (o:=o) g.sd;refine zaV (g:=dI∘zaj) (xs:=zaU T o x.S) (λj σ h'=>∃(M:List Nd) (v9 v10 v11 v12:Option R),NsOk T m M/\x∈M/\M.length<=N.length+j/\N.length<=M.length/\zb1 T x (zaU T o x.S) N=zb1 T x ((zaU T o x.S).drop j) M/\h'=stoN h wyD M/\σ=envU T m b o h++[some (.d (.int i)),some (.d (sdD x.S)),v9,v10,v11,v12]) ?_ ?_ ⟨N,_,_,_,_,G,hx,Z2 _,Z2 _,rfl,rfl,rfl⟩
 ·rintro j d σ h' hj ⟨M,v9,v10,v11,v12,GM,hxM,hlM,hiM,hVM,rfl,rfl⟩
  have hjl:=(Z9.mp hj).1;have hd:=ZM hj;obtain⟨d1,d2⟩:=zeM hd;have gM:=GM x hxM;have hM:M.length<4000:=X1 hlM (by omega);have hp5:=Xl (Xb gM.sh (Xb hM (show 4000<5000 by decide)));rw[Zv hjl,(Z9.mp hj).2,zb1] at hVM;refine gb ?_;refine ask (zeR n O g.sd.hl d1 d2 ?_)
  by_cases cb:zar (zap T x.S d).brk=true
  ·rw [if_pos cb] at hVM
   rw[show zjh T x.S d=.tup [sdD (sdOf (zap T x.S d)),(zap T x.S d).ans,.non] from if_pos cb];refine ask (zdR (n+4) ?_);refine st zax ?_;refine bt (zbR _) ?_;have GN:=zjM GM hxM hd cb;show wB (!(dGet (sdD (zgR T x.S d)) (kvs wyD M)).isSome) _ _;rw[zdI];refine br (λc2=>?_) (λc2=>?_)
   ·have c2:look M (zgR T x.S d)=none:=by simpa using c2
    have em:meet M (next T x d)=M++[next T x d]:=if_neg (by rw[show look M (next T x d).S=none from c2];decide)
    refine st zax ?_;refine bt (zbR _) ?_;refine st (zhj gM.fnd) ?_;refine st (zoi hp5) ?_;refine bt (zbR _) ?_;refine st zax ⟨zlO hM,?_⟩;have hp:dPut (sdD (thin (sdOf (zap T x.S d)))) (.lst ((x.p++[d]).map zaj)) (kvs wyD M)=kvs wyD M++[(sdD (zgR T x.S d),.lst ((x.p++[d]).map zaj))]:=zgZ c2;rw[zcc,hp];refine st zad ?_;refine st zad ⟨znN hM,?_⟩;rw[zan];rw[em] at hVM GN;exact⟨zav,M++[next T x d],_,_,_,_,GN,Yh _ hxM,zqx hlM,ZJ hiM (zmz _ _),hVM,(znA (h:=h) (M:=M) (y:=next T x d)).symm,rfl⟩
   ·have c2:(look M (zgR T x.S d)).isSome=true:=by simpa using c2
    have em:meet M (next T x d)=M:=if_pos c2;rw[em] at hVM;exact⟨zav,M,_,_,_,_,GM,hxM,XR hlM,hiM,hVM,rfl,rfl⟩
  ·rw [if_neg cb] at hVM
   rw[show zjh T x.S d=.tup [sdD x.S,.non,(zap T x.S d).brk] from if_neg cb];refine bt (zlN cb) ?_;refine st zax ?_;refine bt (zbR _) ?_;refine st (zhj gM.fnd) ?_;refine st (zoi hp5) ?_;exact bad _ _ d _ hVM
 ·rintro σ h' ⟨M,v9,v10,v11,v12,GM,hxM,hlM,hiM,hVM,rfl,rfl⟩
  rw[XH,zb1] at hVM;exact go M _ _ _ _ hVM GM hiM
theorem zrf(n:Nat){T:Tab}{m b:Nat}{o:Bool}{h:Sto}{RES:Res}{Q:Fl×Env->Sto->Prop}(O:T.Ok)(hm:m<=10)(hb:1<=b/\b<=3000)(hR:RES=bfs T o b (b+1) 0 [nd0 T m])(ret:∀t σ,Q (.ret (.d (rsD RES)),σ) (h++t)):
  Ok (loop none (λy σ=>bnd (zaw (.name 7) y σ) λσ'=>exs (zaf P (n+9)) forU σ') ((Zy (b+1)).map (dI∘λi:Nat=>D.int (i:Int))) (envU T m b o h++[none,none,none,none,none,none]) (stoN h wyD [nd0 T m])) Q:=by
 refine zaV (g:=dI∘λi:Nat=>D.int (i:Int)) (xs:=Zy (b+1)) (λi σ h'=>∃(N:List Nd) (v7 v8 v9 v10 v11 v12:Option R),i<=N.length/\N.length<=b/\NsOk T m N/\RES=bfs T o b (b+1-i) i N/\h'=stoN h wyD N/\σ=envU T m b o h++[v7,v8,v9,v10,v11,v12]) ?_ ?_ ⟨[nd0 T m],none,none,none,none,none,none,Zz _,hb.1,zm4 hm,hR,rfl,rfl⟩
 ·rintro j i σ h' hj ⟨N,v7,v8,v9,v10,v11,v12,h2,h3,G,h4,rfl,rfl⟩
  have hj2:j<b+1:=by simpa using(Z9.mp hj).1
  obtain rfl:i=j:=by rw[Ya hj2] at hj;cases hj;rfl
  rw[Nat.succ_sub (Nat.le_of_lt_succ hj2),bfs] at h4;refine gb ?_;refine st zad ?_;show wB ((i:Int)==((N.map λx=>sdD x.S).length:Nat)) _ _;rw[Z3];refine br (λc=>?_) (λc=>?_)
  ·have hi:i=N.length:=Int.ofNat.inj (by simpa using c)
   rw[Zh (Nat.le_of_eq hi.symm),<-hi] at h4;rw[h4] at ret;exact ret _ _
  ·have hi:i<N.length:=by
    have:¬(i:Int)=(N.length:Int):=by simpa using c
    omega
   obtain⟨x,ex⟩:∃x,N[i]?=some x:=⟨_,Z6 hi⟩;have hx:=ZM ex;have g:=G x hx;rw[ex] at h4;simp only at h4;refine st zad ?_;refine st (idxN ex) ?_;refine ask (zeg (n+3) g.sd.hl ?_);refine br (λc1=>?_) (λc1=>?_)
   ·rw [if_pos c1] at h4
    rw[h4] at ret;refine st zax ?_;refine bt (zbR _) ?_;refine st (zhj g.fnd) ?_;exact ret _ _
   ·rw [if_neg (by rw[c1];decide)] at h4
    refine ask (zg8 (n+4) g.sd.hl ?_);refine ask ?_;rw[Y7];refine zmh n O G hx (ZJ h3 hb.2) (λt σ d c e=>?_) λM v9 v10 v11 v12 e GM hl=>?_
    ·rw [e] at h4
     rw[h4] at ret;exact ret t σ
    ·rw [e] at h4
     simp only at h4;refine st zad ?_;show wB (decide ((b:Int)<((M.map λx=>sdD x.S).length:Nat))) _ _;rw[Z3];refine br (λc2=>?_) (λc2=>?_)
     ·have c2:b<M.length:=by simpa using c2
      rw[if_pos c2] at h4;rw[h4] at ret;exact ret _ _
     ·have c2:¬b<M.length:=by simpa using c2
      rw[if_neg c2] at h4
      exact⟨zav,M,_,_,_,_,_,_,ZL hi hl,Nat.le_of_not_lt c2,GM,by rw[Nat.add_sub_add_right];exact h4,rfl,rfl⟩
 ·rintro σ h' ⟨N,v7,v8,v9,v10,v11,v12,h2,h3,_⟩
  rw[Wn] at h2;exact absurd (ZJ h2 h3) (Nat.not_succ_le_self b)
theorem zoQ(n:Nat){T:Tab}{m b:Nat}{o:Bool}{h:Sto}(O:T.Ok)(hm:m<=10)(hb:1<=b/\b<=3000)(kq:Q (.d (rsD (bfs T o b (b+1) 0 [nd0 T m]))) h):
  Ok (zaf P (n+10) 44 [.d (tabD T),.d (.int m),.d (.bl o),.d (.int b)] h) Q:=by
 refine cl rfl rfl rfl ?_;refine ask (zet (n+8) O hm ?_);refine ask (zdR (n+4) ?_)
 have e0:∀a:Ob,h++[a]++[Ob.dic []]=h++[a,.dic []]:=λa=>by rw[ZO];rfl
 have e1:∀a:Ob,(h++[a]).length=h.length+1:=λa=>by simp
 refine bt (zbR _) ?_;refine st zad ⟨by decide,?_⟩;rw[e0,e1,zcc];refine⟨⟨by omega,by omega⟩,?_⟩;refine ask ?_;rw[show((b:Int)+1).toNat=b+1 by omega,zb3,Y7];exact zrf n O hm hb rfl λt σ=>fa kq
end K72
namespace K72
open IT
variable {Q:R->Sto->Prop}
inductive zbA:D->Prop|no:zbA .non|yes (w:Tx) (h:w≠zgz):zbA (bad w)
theorem zl5{w:List Lt}{b:D}(h:zbA b):zbA (pbrk w b):=by
 unfold pbrk
 split
 ·exact .yes _ (by decide)
 ·exact h
theorem zqy{a:HA}(h:zbA X.brk):zbA (doHA X k l v a).brk:=by
 cases a with
 | tell=>
  show zbA (zee X k l).brk;unfold zee
  split
  ·exact .yes _ (by decide)
  ·split
   ·exact h
   ·exact .yes _ (by decide)
 |send _ _=>exact zl5 h|_=>exact h
theorem zjE:∀{as:List HA} {X:Hl},zbA X.brk->zbA (zbx k v as X).brk
 | [],X,h=>h
 | a::as,X,h=>by
  unfold zbx
  split
  ·split
   ·exact zjE (zqy h)
   ·exact zqy h
  ·exact h
theorem zjX(h:zbA X.brk):zbA (toSt X k nx).brk:=by
 unfold toSt
 split
 ·split<;>exact h
 ·exact h
theorem zhY:∀(is:List Nat) (X:Hl),zbA X.brk->zbA (is.foldl (zaD x) X).brk
 | [],X,h=>h
 |i::is,X,h=>by
  rw[WO];refine zhY is _ ?_;unfold zaD
  split
  ·exact zl5 h
  ·exact h
theorem zqv{a:OA}(h:zbA X.brk):zbA (doOA X k l v a).brk:=by
 cases a with|send w m ld=>exact zhY _ _ h|_=>exact h
theorem zmx:∀{as:List OA} {X:Hl},zbA X.brk->zbA (zbD k v as X).brk
 | [],X,h=>h
 | a::as,X,h=>by
  unfold zbD
  split
  ·split
   ·exact zmx (zqv h)
   ·exact zqv h
  ·exact h
theorem zpG(h:zbA X.brk):zbA (toHs X nx).brk:=by
 unfold toHs
 split<;>exact h
theorem zsg{r:Row}{d:Deed}(h:zbA X.brk):zbA (zdX X l r d).brk:=by
 unfold zdX
 cases d with
 | ask k e x=>
  simp only
  split
  ·refine zjX (zjE ?_)
   cases x<;>exact h
  ·exact h
 |take k j=>
  simp only
  split
  ·exact zjX (zjE h)
  ·exact h
 |get k j=>
  simp only
  split
  ·exact zpG (zmx (by rw[znx];exact h))
  ·exact h
theorem zoM{T:Tab}{S:Sd}{d:Deed}:zbA (zap T S d).brk:=by
 unfold zap zcf
 split
 ·exact .no
 ·split
  ·exact .yes _ (by decide)
  ·unfold zdh
   split
   ·exact .yes _ (by decide)
   ·exact zsg .no
theorem zqg{o:Bool}{i:Int}{l m:Ln}(h1:l.to.length=m.to.length)(h2:l.back.length=m.back.length):lnDs o (i,l)=lnDs o (i,m):=by
 have t:∀w w':List Lt,w.length=w'.length->(tk o w).length=(tk o w').length:=λw w' e=>by
  unfold tk
  split
  ·rw[Yq,Yq,e]
  ·exact e
 unfold lnDs;rw[t _ _ h1,t _ _ h2]
theorem znP{o:Bool}{a b:Int}{ls ms:List Ln}(h:All2 (NA a b) ls ms):zhH o ls=zhH o ms:=by
 have gen:∀i:Int,(nums i ls).map (lnDs o)=(nums i ms).map (lnDs o):=by
  induction h with|nil=>intro i;rfl|cons r _ ih=>intro i;rw[nums,nums,ZB,ZB,ih,zqg r.to.len r.back.len]
 unfold zhH;rw[gen]
theorem zsB{T:Tab}{o:Bool}{S S':Sd}(A:Alk (hlOf S) (hlOf S')):zaU T o S=zaU T o S':=by unfold zaU;rw[znP (show All2 _ S.ls S'.ls from A.ls),show may1 T S=may1 T S' from funext λd=>zj4 A d]
theorem zmt{T:Tab}{o:Bool}{S S':Sd}(A:Alk (hlOf S) (hlOf S')):zcA T o S=zcA T o S':=by
 unfold zcA;rw[zsB A]
 congr 1
 have k:∀ls:List Ln,(ls.any λl=>!(l.to++l.back).isEmpty)=(ls.map λl=>!(l.to++l.back).isEmpty).any id:=λls=>by rw[Xc];rfl
 rw[k,k,All2.maps (show All2 _ S.ls S'.ls from A.ls) λl m r=>?_]
 have e:(l.to++l.back).length=(m.to++m.back).length:=by rw[ZS,ZS,r.to.len,r.back.len]
 cases h1:l.to++l.back<;>cases h2:m.to++m.back<;>first | rfl | (rw[h1,h2] at e;cases e)
inductive Fnd(T:Tab)(o:Bool)(m n:Nat):List Deed->D->Prop|stuck (p:List Deed) (c:zf3 T p (zaN T m)) (h:zcA T o (zaT T p (zaN T m))=true) (l:p.length<=n):Fnd T o m n p (bad zgz)|broke (p:List Deed) (d:Deed) (w:Tx) (c:zf3 T p (zaN T m)) (h1:d.Ok) (h2:may1 T (zaT T p (zaN T m)) d=true) (h3:(zap T (zaT T p (zaN T m)) d).brk=bad w) (hw:w≠zgz) (l:p.length<n):Fnd T o m n (p++[d]) (bad w)
theorem ziw{T:Tab}{x:Nd}{d:Deed}{b:D}:∀{ds:List Deed} {N:List Nd},zb1 T x ds N=.bad d b->d∈ds/\∃w,b=bad w/\w≠zgz/\(zap T x.S d).brk=bad w
 | [],N,h=>by cases h
 | e::ds,N,h=>by
  unfold zb1 at h
  split at h
  ·obtain ⟨h1,h2⟩:=ziw h
   exact⟨Zr _ h1,h2⟩
  ·rename_i c
   cases h;refine⟨YL ..,?_⟩;have g:=zoM (T:=T) (S:=x.S) (d:=d);generalize (zap T x.S d).brk=z at g c
   cases g with|no=>exact absurd rfl c|yes w hw=>exact⟨w,rfl,hw,rfl⟩
theorem zkt{T:Tab}{m:Nat}{o:Bool}{x:Nd}{M:List Nd}:∀{ds:List Deed} {N:List Nd},(∀d∈ds,d∈zaU T o x.S)->NsOk T m N->x∈N->zb1 T x ds N=.go M->NsOk T m M
 | [],N,_,G,_,h=>by cases h;exact G
 | d::ds,N,hd,G,hx,h=>by
  unfold zb1 at h
  split at h
  ·rename_i c
   exact zkt (λe he=>hd e (Zr _ he)) (zjM G hx (hd d (YL ..)) c) (zpv hx) h
  ·cases h
theorem ziV{T:Tab}{o:Bool}{m n:Nat}{p:List Deed}{b:D}:∀{f i:Nat} {N:List Nd},NsOk T m N->N.length<=n->bfs T o n f i N=.run p b->Fnd T o m n p b
 |0,_,_,_,_,h=>by cases h
 | f + 1,i,N,G,hn,h=>by
  unfold bfs at h
  cases ex:N[i]? with
  |none=>rw[ex] at h;cases h
  | some x=>
   rw[ex] at h;simp only at h;have hx:=ZM ex;have g:=G x hx;have hs:=g.sh
   split at h
   ·rename_i c
    cases h;exact .stuck _ g.cl ((zmt g.al).trans c) (by omega)
   ·cases ev:zb1 T x (zaU T o x.S) N with
    |bad d b=>rw[ev] at h;cases h;obtain⟨h1,w,rfl,hw,h2⟩:=ziw ev;obtain⟨d1,d2⟩:=zeM h1;obtain⟨t1,t2,_,_⟩:=zhM (T:=T) g.al d;exact .broke _ d w g.cl d1 (t1.trans d2) (t2.trans h2) hw (by omega)
    |go M=>
     rw[ev] at h;simp only at h
     split at h
     ·cases h
     ·exact ziV (zkt (λ_ z=>z) G hx ev) (by omega) h
end K72
namespace K72
open IT
variable {Q:R->Sto->Prop}
theorem zja(n:Nat){T:Tab}{m k:Nat}{o:Bool}{p:List Deed}{b:D}{h:Sto}(O:T.Ok)(hm:m<=10)(hk:k<=1000)(F:Fnd T o m k p b)(kq:Q (.d (.bl true)) h):
  Ok (zaf P (n+11) 45 [.d (tabD T),.d (.int m),.d (.bl o),.d (.lst (p.map zaj)),.d b] h) Q:=by
 refine cl rfl rfl rfl ?_
 cases F with
 |stuck p c hs l=>have Ot:=Out.clean (T:=T) (S0:=zaN T m) p c;refine ask (zfG n O hm (by omega) Ot.runs ?_);rw[Ot.play];ac_rfl;refine ask (zeg (n+4) (zh4 (zgN hm)).1.hl ?_);rw[hs];exact f0 kq
 | broke q d w c h1 h2 h3 hw l=>
  have Ot:=Out.broke (T:=T) (S0:=zaN T m) q d c h1 h2 (by rw[h3];rfl)
  rw[h3] at Ot
  refine ask (zfG n O hm (by simp;omega) Ot.runs ?_)
  rw[Ot.play];ac_rfl
  refine bf (by show((w==zgz)&&true)=false;rw[Wj];simpa using hw) ?_
  ac_rfl
  refine bt (by show((w==w)&&true)=true;rw[beq_self_eq_true];rfl) ?_
  have es:cut ((q++[d]).map zaj) none (some (-1))=q.map zaj:=by rw[zvo,Zp];show List.dropLast (q.map zaj++[zaj d])=_;rw[List.dropLast_concat]
  have Oc:=Out.clean (T:=T) (S0:=zaN T m) q c;refine ask ?_;show Ok (zaf P (n+10) 34 [.d (tabD T),.d (.int m),.d (.lst (cut ((q++[d]).map zaj) none (some (-1))))] h) _;rw[es];refine zfG n O hm (by omega) Oc.runs ?_;rw[Oc.play];exact f0 kq
end K72
namespace K72
open IT
variable {Q:R->Sto->Prop}
mutual
theorem zhn:∀x:D,x.eqb x=true|.non=>rfl|.bl b=>by simp[D.eqb]|.int i=>by simp[D.eqb]|.str s=>by simp[D.eqb]|.tup xs=>eqbs_self xs|.lst xs=>eqbs_self xs
theorem eqbs_self:∀xs:List D,D.eqbs xs xs=true| []=>rfl|x::xs=>by rw[D.eqbs,zhn x,eqbs_self xs];rfl
end
theorem zq0{p:List Deed}:D.deps (p.map zaj)<=1:=zeK λd _=>by
 cases d with|ask k e x=>cases x<;>exact Z2 1|take _ _=>exact Z2 1|get _ _=>exact Z2 1
inductive RsOk(T:Tab)(o:Bool)(m n:Nat):Res->Prop|gave:RsOk T o m n .gave|none (k:Nat):RsOk T o m n (.none k)|run (p:List Deed) (b:D) (f:Fnd T o m n p b):RsOk T o m n (.run p b)
theorem Fnd.len{T:Tab}{o:Bool}{m n:Nat}{p:List Deed}{b:D}(h:Fnd T o m n p b):p.length<=n:=by
 cases h with|stuck _ _ _ l=>exact l|broke q d w c h1 h2 h3 hw l=>rw[ZS];exact l
theorem RsOk.dep{T:Tab}{o:Bool}{m n:Nat}{r:Res}(h:RsOk T o m n r):(rsD r).dep<=60:=by
 cases h with
 |gave=>exact XX rfl|none k=>exact XX rfl
 |run p b f=>
  have hb:b.dep<=1:=by cases f<;>exact Z2 1
  exact YU (zaz (Zz _) (zaz (YU (ZJ (zq0 (p:=p)) (by decide))) (zaz (ZJ hb (by decide)) (Zz _))))
theorem zsL{T:Tab}{o:Bool}{m n:Nat}(hm:m<=10)(hn:1<=n):RsOk T o m n (bfs T o n (n+1) 0 [nd0 T m]):=by
 cases e:bfs T o n (n+1) 0 [nd0 T m] with|gave=>exact .gave|none k=>exact .none k|run p b=>exact .run p b (ziV (zm4 hm) hn e)
theorem zjA{T:Tab}{o:Bool}{m n:Nat}{r:Res}(h:RsOk T o m n r):cop .ne (rsD r) (rsD r)=some (.bl false):=by show(if zf2 (rsD r) (rsD r) then some (D.bl (!(rsD r).eqb (rsD r))) else none)=_;rw[if_pos (show zf2 (rsD r) (rsD r)=true from decide_eq_true (ZJ (X7 _ _) h.dep)),zhn];rfl
theorem zfI{k:Nat}{h:Sto}{A:Res}{r:R}(a:Ans k h A r):rdT r h=some (rsD A,h):=by
 cases A with|gave=>rw[show r=_ from a];rfl|none j=>rw[show r=_ from a];rfl|run p b=>obtain⟨l,q,rfl,e1,e2,_⟩:=a;show(match h[l]? with | some (.tpl x m z)=>(match h[m]? with | some o=>if o.isL then some (D.tup [x,.lst o.items,z],h) else none | none=>none) | _=>none)=_;rw[e1];show(match h[q]? with | some o=>if o.isL then some (D.tup [.str krun,.lst o.items,b],h) else none | none=>none)=_;rw[e2];rfl
theorem zhA{k:Nat}{h t:Sto}{A:Res}{r:R}(a:Ans k h A r):Ans k (h++t) A r:=by
 cases A with
 |gave=>exact a|none j=>exact a
 |run p b=>
  obtain⟨l,q,rfl,e1,e2,h3⟩:=a
  exact⟨l,q,rfl,by rw[ZR (Z9.mp e1).1];exact e1,by rw[ZR (Z9.mp e2).1];exact e2,h3⟩
theorem ztH{R:Res}:isiD .tuple (rsD R)=true:=by cases R<;>rfl
theorem okm{α:Type}{m:Option (α×Sto)}{a:α}{h:Sto}{Q:α->Sto->Prop}(e:m=some (a,h))(q:Q a h):Ok m Q:=⟨a,h,e,q⟩
theorem tix3{h:Sto}{l q:Nat}{x z:D}(e:h[l]?=some (.tpl x q z)):tIx (.loc l) 0 h=some (.d x,h)/\tIx (.loc l) 1 h=some (.loc q,h)/\tIx (.loc l) 2 h=some (.d z,h):=by simp only[tIx,e];exact⟨trivial,trivial,trivial⟩
theorem zsk{A:Res}(h:A≠.gave):cop .ne (rsD A) (.tup [.str zpd])=some (.bl true):=by
 cases A with|gave=>exact absurd rfl h|none k=>rfl|run p b=>refine(zmQ (b:=.tup [.str zpd]) (decide_eq_true (ZJ (X7 _ _) (show 1<=60 by decide)))).trans ?_;rfl
theorem zmA(n:Nat){T:Tab}{m b:Nat}{o:Bool}{h t:Sto}{r sc:R}{Q:R->Sto->Prop}(O:T.Ok)(hm:m<=10)(hb:1<=b/\b<=80)(A1:Ans h.length (h++t) (bfs T o b (b+1) 0 [nd0 T m]) r)(kq:Q (.d (.bl true)) h):
  wSs (zaf P (n+11)) (znD.drop 8) [some sc,some (.d (tabD T)),some (.d (.int m)),some (.d (.bl o)),some (.d (.int b)),some r,none] (h++t) (kF h false false Q):=by
 have ok:=zsL (T:=T) (o:=o) hm hb.1;obtain⟨A,hA⟩:∃A,A=bfs T o b (b+1) 0 [nd0 T m]:=⟨_,rfl⟩;rw[<-hA] at A1 ok
 cases ok with
 |gave=>rw[show r=_ from A1];refine okm rfl ?_;exact fa kq|none k=>rw[show r=_ from A1];refine okm rfl ?_;exact fa kq
 |run p x F=>
  obtain⟨l,q,rfl,e1,e2,hl,hq⟩:=A1;obtain⟨i0,i1,i2⟩:=tix3 e1;refine okm i0 ?_;refine okm i1 ?_;refine st e2 ?_;refine okm i1 ?_;refine st e2 ?_;refine okm i2 ?_;refine ask (zja n O hm (by omega) F ?_);refine okm i1 ?_;refine st e2 ?_;refine okm i1 ?_;refine st e2 ?_
  refine st e2 ⟨by have:=F.len;show(p.map zaj).length<big;rw[Z3];unfold big;omega,?_⟩
  have hs:(h++t).set q (.lst (p.map zaj++[.int 0]))=h++t.set (q-h.length) (.lst (p.map zaj++[.int 0])):=Yl _ _ hq;rw[hs];refine ask (zdB (n+1) (T:=T) (o:=o) O hm ⟨hb.1,by omega⟩ rfl λt2 r2 A2=>?_);rw[<-hA] at A2;obtain⟨l2,q2,rfl,f1,f2,_⟩:=A2;refine okm (tix3 f1).2.1 ?_;refine st rfl ?_;refine st rfl ?_;refine st f2 ?_
  have ee:cop .eq (.lst (p.map zaj)) (.lst (p.map zaj))=some (.bl true):=(zjQ (a:=.lst (p.map zaj)) (zu6 (show D.deps (p.map zaj)+1<=60 by have:=zq0 (p:=p);omega))).trans (by rw[zhn])
  refine st ee ?_;rw[ZO];exact fa kq
theorem zi1(n:Nat){T:Tab}{m b:Nat}{o:Bool}{h t:Sto}{r sc:R}{Q:R->Sto->Prop}(O:T.Ok)(hm:m<=10)(hb:1<=b/\b<=80)(A1:Ans h.length (h++t) (bfs T o b (b+1) 0 [nd0 T m]) r)(kq:Q (.d (.bl true)) h):
  wSs (zaf P (n+11)) (znD.drop 7) [some sc,some (.d (tabD T)),some (.d (.int m)),some (.d (.bl o)),some (.d (.int b)),some r,none] (h++t) (kF h false false Q):=by
 have ok:=zsL (T:=T) (o:=o) hm hb.1;refine okm (zfI A1) ?_;refine okm rfl ?_
 by_cases c:bfs T o b (b+1) 0 [nd0 T m]=.gave
 ·rw [c]
  exact zmA n O hm hb A1 kq
 ·refine st (zsk c) ?_
  have e3:=zjU (T:=T) (o:=o) (m:=b) (m':=3000) (by omega) (f:=b+1) (f':=3000+1) (i:=0) (N:=[nd0 T m]) (by omega) c;refine ask (zdB (n+1) (T:=T) (o:=o) (m:=m) (b:=3000) O hm ⟨by omega,by omega⟩ rfl λt2 r2 A2=>?_);rw[e3] at A2;refine okm (zfI A2) ?_;refine okm (zfI (zhA A1)) ?_;refine st (zjA ok) ?_;rw[ZO];have A1':=zhA (t:=t2) A1;rw[ZO] at A1';exact zmA n O hm hb A1' kq
theorem zoW(n:Nat){T:Tab}{m b:Nat}{o:Bool}{h t:Sto}{r sc:R}{Q:R->Sto->Prop}(O:T.Ok)(hm:m<=10)(hb:1<=b/\b<=80)(A1:Ans h.length (h++t) (bfs T o b (b+1) 0 [nd0 T m]) r)(kq:Q (.d (.bl true)) h):
  wSs (zaf P (n+11)) (znD.drop 5) [some sc,some (.d (tabD T)),some (.d (.int m)),some (.d (.bl o)),some (.d (.int b)),some r,none] (h++t) (kF h false false Q):=by
 have ok:=zsL (T:=T) (o:=o) hm hb.1;refine okm (zfI A1) ?_;rw[ztH];refine ask (zoQ (n+1) O hm ⟨hb.1,by omega⟩ ?_);refine okm (zfI A1) ?_;refine okm rfl ?_;refine st (zjA ok) ?_
 cases o with|false=>exact zi1 n O hm hb A1 kq|true=>refine br (λc=>?_) (λc=>zi1 n O hm hb A1 kq);refine ask (zdB (n+1) (T:=T) (o:=true) (m:=m) (b:=b) O hm ⟨hb.1,by omega⟩ rfl λt2 r2 A2=>?_);refine okm (zfI A2) ?_;refine okm (zfI (zhA A1)) ?_;refine st (zjA ok) ?_;rw[ZO];have A1':=zhA (t:=t2) A1;rw[ZO] at A1';exact zi1 n O hm hb A1' kq
theorem law_call(n:Nat){h:Sto}{ns:List Int}(kq:Q (.d (.bl true)) h):Ok (zaf P (n+12) 46 [.d (.lst (ns.map D.int))] h) Q:=by
 refine cl rfl rfl rfl ?_;refine ask (zdS (n+10) (k:=0) λc0=>?_);refine ask (zlq (n+8) λT G=>?_);refine ask (zdS (n+10) (k:=1) λc1=>?_);have O:=G.ok
 obtain⟨m,em,hm⟩:∃m:Nat,1+c1%3=(m:Int)/\m<=10:=⟨(1+c1%3).toNat,by have:=Zm c1 (show(3:Int)≠0 by decide);omega,by have:=Zt c1 (show(0:Int)<3 by decide);omega⟩
 ac_rfl;rw[em];refine ask (zdS (n+10) (k:=1) λc1'=>?_);refine ask (zdS (n+10) (k:=2) λc2=>?_)
 obtain⟨b,eb,hb⟩:∃b:Nat,1+c2%80=(b:Int)/\1<=b/\b<=80:=⟨(1+c2%80).toNat,by have:=Zm c2 (show(80:Int)≠0 by decide);omega,by have:=Zm c2 (show(80:Int)≠0 by decide);omega,by have:=Zt c2 (show(0:Int)<80 by decide);omega⟩
 ac_rfl;rw[eb];have hb3:1<=b/\b<=3000:=⟨hb.1,by omega⟩;refine ask (zdB (n+1) (T:=T) (o:=c1' / 3%2==0) O hm hb3 rfl λt1 r A1=>?_);exact zoW n O hm hb A1 kq
theorem zoz{ns:List Int}(hl:ns.length<=63):zaf P 12 46 [.d (.lst (ns.map .int))] []=some (.d (.bl true),[]):=by obtain⟨r,h,e,rfl,rfl⟩:=law_call 0 (h:=[]) (Q:=λr h=>r=.d (.bl true)/\h=[]) (ns:=ns) ⟨rfl,rfl⟩;exact e
open PySem PySem.Spec L2 IT
def fns:List (Str×Nat×List D):=[(("right_of",2,[]):Str×Nat×List D),(("hand_row",3,[]):Str×Nat×List D),(("house_row",4,[]):Str×Nat×List D),(("row_for",2,[]):Str×Nat×List D),(("is_wait",1,[]):Str×Nat×List D),(("start",2,[]):Str×Nat×List D),(("clash",2,[]):Str×Nat×List D),(("thinned",1,[]):Str×Nat×List D),(("thinned_line",2,[]):Str×Nat×List D),(("thinned_way",2,[]):Str×Nat×List D),(("thinned_value",2,[]):Str×Nat×List D),(("has_version_of",2,[]):Str×Nat×List D),(("comers",2,[]):Str×Nat×List D),(("letter_of",3,[]):Str×Nat×List D),(("may_be_done",3,[]):Str×Nat×List D),(("way_of",2,[]):Str×Nat×List D),(("row_for_deed",3,[]):Str×Nat×List D),(("do_deed",3,[]):Str×Nat×List D),(("do_ask",3,[]):Str×Nat×List D),(("do_take",3,[]):Str×Nat×List D),(("do_get",3,[]):Str×Nat×List D),(("got_value",3,[]):Str×Nat×List D),(("without",2,[]):Str×Nat×List D),(("do_hand_row",4,[]):Str×Nat×List D),(("do_hand_act",4,[]):Str×Nat×List D),(("do_house_row",4,[]):Str×Nat×List D),(("do_house_act",4,[]):Str×Nat×List D),(("send_from_house",3,[]):Str×Nat×List D),(("receivers",3,[]):Str×Nat×List D),(("may",3,[(.bl true)]):Str×Nat×List D),(("asks_of",1,[]):Str×Nat×List D),(("letters_of",4,[]):Str×Nat×List D),(("stuck",3,[(.bl true)]):Str×Nat×List D),(("step",3,[]):Str×Nat×List D),(("play",3,[]):Str×Nat×List D),(("find_run",4,[(.bl true),(.int 3000)]):Str×Nat×List D),(("deeds_to",2,[]):Str×Nat×List D),(("_law_cell_at",2,[]):Str×Nat×List D),(("_law_digits",3,[]):Str×Nat×List D),(("_law_one_copy",0,[]):Str×Nat×List D),(("_law_readers",0,[]):Str×Nat×List D),(("_law_bent",2,[]):Str×Nat×List D),(("_law_free",1,[]):Str×Nat×List D),(("_law_table",1,[]):Str×Nat×List D),(("_law_due",4,[]):Str×Nat×List D),(("_law_broken",5,[]):Str×Nat×List D),(("law",1,[]):Str×Nat×List D)]
def cls:List zmo:=[⟨"OpenLine",47,["state", "value", "want", "to", "back", "flags"],[("as_tuple",48)]⟩,⟨"Hall",49,["state", "store", "last", "lines", "answer", "broken"],[("as_tuple",50),("write_value",51),("tell_value",52),("send_to_house",53),("send_to_hand",54),("posted",55),("hands_with",56),("other_sharers",57),("forget_all",58)]⟩]
def globs:List (Str×D):=[("ASKS",(.tup [(.str [114,101,97,100]),(.str [119,114,105,116,101]),(.str [100,114,111,112])])),("FIRST_VALUE",(.tup [(.int 0),(.int 0)])),("GAVE_UP",(.tup [(.str [103,97,118,101,32,117,112])])),("OWNS",(.int 2)),("SHARES",(.int 1)),("THIN_LAST",(.tup [(.int 1),(.int 0)])),("THIN_OLD",(.tup [(.int 0),(.int 0)])),("WAITS",(.tup [(.tup [(.str [119,97,105,116])])])),("WAY_HOLDS",(.int 2))]
def bd(n:Nat):Stmt:=PySem.Challenge.pw_copyclerk_k72_runs_that_break_found.main.body.getD n (.Pass ⟨0,0,0,0⟩)
abbrev Cd(b:List S)(n p:List Str)(s:Stmt):Prop:=n.Nodup/\(∀x∈p,(zag s).names.lookup x=some .local\/(zag s).names.lookup x=some .cell)/\(∀y∈(zag s).names,y.2≠.free)/\chkSs b ⟨n,(zag s).names,fns,globs,true,cls⟩ (zaq s)=true
theorem Cd.sc{b:List S}{n p:List Str}{s:Stmt}(c:Cd b n p s)(h1:(zag s).kind=.function)(h2:(zag s).isCoroutine=false)(h3:(zag s).isGenerator=false)(h4:n.take p.length=p):ze8 n p (zag s):=⟨h1,h2,h3,c.1,h4,c.2.1,c.2.2.1⟩
def zgb:Stmt:=bd 3
def zlh:List Str:=["table", "state", "name", "right"]
def zei:List Str:=["table", "state"]
theorem zkX:Cd zgo zlh zei zgb:=by decide +kernel
def zgy:Stmt:=bd 4
def zlp:List Str:=["table", "state", "event"]
def zd5:List Str:=["table", "state", "event"]
theorem zlB:Cd zgB zlp zd5 zgy:=by decide +kernel
def zfo:Stmt:=bd 5
def zjg:List Str:=["table", "state", "kind", "last", "row"]
def zdp:List Str:=["table", "state", "kind", "last"]
theorem zjv:Cd zfl zjg zdp zfo:=by decide +kernel
def zih:Stmt:=bd 6
def zm1:List Str:=["table", "head", "row"]
def zff:List Str:=["table", "head"]
theorem znB:Cd zib zm1 zff zih:=by decide +kernel
def ziK:Stmt:=bd 7
def zn0:List Str:=["row"]
def zfk:List Str:=["row"]
theorem zoe:Cd zik zn0 zfk ziK:=by decide +kernel
def zlP:Stmt:=bd 12
def zri:List Str:=["table", "many", "line"]
def zjs:List Str:=["table", "many"]
theorem zsF:Cd zn7 zri zjs zlP:=by decide +kernel
def zm5:Stmt:=bd 13
def zso:List Str:=["table", "standing", "rights", "?1?line"]
def zjy:List Str:=["table", "standing"]
theorem zsn:Cd zlV zso zjy zm5:=by decide +kernel
def zh3:Stmt:=bd 14
def znZ:List Str:=["standing", "last", "lines", "?1?line"]
def zfM:List Str:=["standing"]
theorem zlL:Cd ziO znZ zfM zh3:=by decide +kernel
def zc7:Stmt:=bd 15
def zf8:List Str:=["line", "last", "value"]
def zbF:List Str:=["line", "last"]
theorem zf6:Cd zc4 zf8 zbF zc7:=by decide +kernel
def zdT:Stmt:=bd 16
def zhs:List Str:=["way", "last", "?1?kind", "?1?value"]
def zca:List Str:=["way", "last"]
theorem zhx:Cd zdK zhs zca zdT:=by decide +kernel
def zcv:Stmt:=bd 17
def zfv:List Str:=["value", "last"]
def zbr:List Str:=["value", "last"]
theorem ze9:Cd zcq zfv zbr zcv:=by decide +kernel
def zcg:Stmt:=bd 18
def zeG:List Str:=["value", "last"]
def zbf:List Str:=["value", "last"]
theorem zeF:Cd zch zeG zbf zcg:=by decide +kernel
def zjV:Stmt:=bd 25
def zpo:List Str:=["way", "order"]
def zgL:List Str:=["way", "order"]
theorem zoD:Cd zkM zpo zgL zjV:=by decide +kernel
def zfS:Stmt:=bd 26
def zjq:List Str:=["kind", "load", "value"]
def zc9:List Str:=["kind", "load", "value"]
theorem zjJ:Cd zfi zjq zc9 zfS:=by decide +kernel
def zdP:Stmt:=bd 28
def zg0:List Str:=["table", "hall", "deed"]
def zcd:List Str:=["table", "hall", "deed"]
theorem zgQ:Cd zdD zg0 zcd zdP:=by decide +kernel
def zkQ:Stmt:=bd 29
def zo5:List Str:=["hall", "deed", "line"]
def zg4:List Str:=["hall", "deed"]
theorem zqc:Cd zkz zo5 zg4 zkQ:=by decide +kernel
def zcY:Stmt:=bd 30
def zfY:List Str:=["table", "hall", "deed", "state", "kind"]
def zbJ:List Str:=["table", "hall", "deed"]
theorem zf7:Cd zc8 zfY zbJ zcY:=by decide +kernel
def ziS:Stmt:=bd 31
def zon:List Str:=["table", "hall", "deed", "row"]
def ze5:List Str:=["table", "hall", "deed"]
theorem zmF:Cd zhT zon ze5 ziS:=by decide +kernel
def zkf:Stmt:=bd 32
def zpe:List Str:=["hall", "deed", "row", "line"]
def zhk:List Str:=["hall", "deed", "row"]
theorem zpJ:Cd zkp zpe zhk zkf:=by decide +kernel
def zh6:Stmt:=bd 33
def znv:List Str:=["hall", "deed", "row", "line", "value"]
def ze1:List Str:=["hall", "deed", "row"]
theorem zl6:Cd zh0 znv ze1 zh6:=by decide +kernel
def zkc:Stmt:=bd 34
def zpc:List Str:=["hall", "deed", "row"]
def zgU:List Str:=["hall", "deed", "row"]
theorem zp1:Cd zj3 zpc zgU zkc:=by decide +kernel
def zfA:Stmt:=bd 35
def zjz:List Str:=["hall", "deed", "row", "line", "value"]
def zdg:List Str:=["hall", "deed", "row"]
theorem zi5:Cd zfx zjz zdg zfA:=by decide +kernel
def zh8:Stmt:=bd 36
def znE:List Str:=["way", "number"]
def zeW:List Str:=["way", "number"]
theorem znH:Cd zh7 znE zeW zh8:=by decide +kernel
def zdG:Stmt:=bd 37
def zgM:List Str:=["hall", "hand", "value", "row", "act", "line"]
def zb6:List Str:=["hall", "hand", "value", "row"]
theorem zhd:Cd zb4 zgM zb6 zdG:=by decide +kernel
def zd0:Stmt:=bd 38
def zgY:List Str:=["hall", "hand", "value", "act", "line"]
def zcb:List Str:=["hall", "hand", "value", "act"]
theorem zhg:Cd zdE zgY zcb zd0:=by decide +kernel
def zc2:Stmt:=bd 39
def zf0:List Str:=["hall", "sender", "value", "row", "act"]
def zbK:List Str:=["hall", "sender", "value", "row"]
theorem zf5:Cd zbE zf0 zbK zc2:=by decide +kernel
def zcW:Stmt:=bd 40
def zf1:List Str:=["hall", "sender", "value", "act", "line"]
def zbI:List Str:=["hall", "sender", "value", "act"]
theorem zga:Cd zcX zf1 zbI zcW:=by decide +kernel
def zbM:Stmt:=bd 41
def zej:List Str:=["hall", "sender", "act", "hand"]
def za7:List Str:=["hall", "sender", "act"]
theorem zd6:Cd zbP zej za7 zbM:=by decide +kernel
def zfy:Stmt:=bd 42
def zi9:List Str:=["hall", "sender", "word"]
def zdf:List Str:=["hall", "sender", "word"]
theorem zjj:Cd zfg zi9 zdf zfy:=by decide +kernel
def zcS:Stmt:=bd 47
def ztN:List Str:=["table", "standing", "order", "hall", "deeds", "hand", "line", "?1?deed"]
def ziZ:List Str:=["table", "standing", "order"]
theorem ztL:Cd zrv ztN ziZ zcS:=by decide +kernel
def zio:Stmt:=bd 48
def znF:List Str:=["hand"]
def zfW:List Str:=["hand"]
theorem znp:Cd zhW znF zfW zio:=by decide +kernel
def zew:Stmt:=bd 49
def zhQ:List Str:=["word", "hand", "way", "order", "?1?number"]
def zcB:List Str:=["word", "hand", "way", "order"]
theorem ziN:Cd zeB zhQ zcB zew:=by decide +kernel
def zaJ:Stmt:=bd 50
def zmy:List Str:=["table", "standing", "order", "?1?line", "?2?deed"]
def zdj:List Str:=["table", "standing", "order"]
theorem znS:Cd zn2 zmy zdj zaJ:=by decide +kernel
def zqD:Stmt:=bd 51
def ztl:List Str:=["table", "standing", "deed", "hall"]
def zl9:List Str:=["table", "standing", "deed"]
theorem zvp:Cd zqz ztl zl9 zqD:=by decide +kernel
def zqX:Stmt:=bd 52
def ztu:List Str:=["table", "many", "deeds", "standing", "answers", "deed", "told"]
def zni:List Str:=["table", "many", "deeds"]
theorem zu5:Cd znL ztu zni zqX:=by decide +kernel
def zah:Stmt:=bd 55
def zgw:List Str:=["table", "many", "order", "most", "came", "trail", "place", "standing", "deed", "told", "behind"]
def zaH:List Str:=["table", "many", "order", "most"]
theorem zgd:Cd zek zgw zaH zah:=by decide +kernel
def zgs:Stmt:=bd 56
def zlA:List Str:=["standing", "trail", "deeds"]
def zeh:List Str:=["standing", "trail"]
theorem zlD:Cd zge zlA zeh zgs:=by decide +kernel
def zfT:Stmt:=bd 58
def zjO:List Str:=["_law_script", "_law_k"]
def zdd:List Str:=["_law_script", "_law_k"]
theorem zjn:Cd zfu zjO zdd zfT:=by decide +kernel
def zgF:Stmt:=bd 59
def zll:List Str:=["_law_cell", "_law_size", "_law_many", "_law_found", "_law_mix", "_law_rest", "_law_k"]
def zeq:List Str:=["_law_cell", "_law_size", "_law_many"]
theorem zlu:Cd zen zll zeq zgF:=by decide +kernel
def zey:Stmt:=bd 60
def zic:List Str:=["_law_hands", "_law_rows"]
def zcC:List Str:=[]
theorem zig:Cd zex zic zcC zey:=by decide +kernel
def zfr:Stmt:=bd 61
def ziY:List Str:=["_law_hands", "_law_rows"]
def zdq:List Str:=[]
theorem zjR:Cd zfn ziY zdq zfr:=by decide +kernel
def zkg:Stmt:=bd 62
def zpp:List Str:=["_law_table_here", "_law_cell", "_law_ds", "_law_rows", "_law_at", "_law_row"]
def zgV:List Str:=["_law_table_here", "_law_cell"]
theorem zpt:Cd zgK zpp zgV zkg:=by decide +kernel
def zjY:Stmt:=bd 63
def zpg:List Str:=["_law_cell", "_law_ds", "_law_hands", "_law_letters", "_law_asks", "_law_house", "_law_rows", "_law_k", "_law_d", "_law_acts", "_law_event", "_law_state", "_law_when"]
def zg9:List Str:=["_law_cell"]
theorem zqh:Cd zeI zpg zg9 zjY:=by decide +kernel
def zin:Stmt:=bd 64
def znJ:List Str:=["_law_cell", "_law_table_here"]
def zfV:List Str:=["_law_cell"]
theorem zl1:Cd zhG znJ zfV zin:=by decide +kernel
def zmY:Stmt:=bd 65
def zsH:List Str:=["_law_table_here", "_law_many", "_law_order", "_law_bound", "_law_begin", "_law_rows", "_law_ways", "_law_at", "_law_here", "_law_deed", "_law_behind", "_law_answer", "_law_fault"]
def ziW:List Str:=["_law_table_here", "_law_many", "_law_order", "_law_bound"]
theorem zr5:Cd zjN zsH ziW zmY:=by decide +kernel
def zgq:Stmt:=bd 66
def zkT:List Str:=["_law_table_here", "_law_many", "_law_order", "_law_deeds", "_law_fault", "_law_standing", "_law_answers", "_law_found"]
def zec:List Str:=["_law_table_here", "_law_many", "_law_order", "_law_deeds", "_law_fault"]
theorem zlk:Cd zgp zkT zec zgq:=by decide +kernel
def zth:Stmt:=bd 67
def zwi:List Str:=["_law_script", "_law_table_here", "_law_many", "_law_order", "_law_bound", "_law_found", "_law_again"]
def zsC:List Str:=["_law_script"]
theorem zv3:Cd znD zwi zsC zth:=by decide +kernel
def zbZ:Stmt:=zbe (bd 23) 0
def zef:List Str:=["self", "line"]
def za5:List Str:=["self", "line"]
theorem zd3:Cd zbQ zef za5 zbZ:=by decide +kernel
def zbb:Stmt:=zbe (bd 23) 1
def zct:List Str:=["self"]
def zaG:List Str:=["self"]
theorem zcD:Cd za9 zct zaG zbb:=by decide +kernel
def zdU:Stmt:=zbe (bd 24) 0
def zgT:List Str:=["self", "standing", "?1?line"]
def zb8:List Str:=["self", "standing"]
theorem zg3:Cd zdW zgT zb8 zdU:=by decide +kernel
def zbV:Stmt:=zbe (bd 24) 1
def zem:List Str:=["self", "lines", "?1?line"]
def za6:List Str:=["self"]
theorem zed:Cd zbN zem za6 zbV:=by decide +kernel
def zbh:Stmt:=zbe (bd 24) 2
def zcN:List Str:=["self", "hand", "line"]
def zaI:List Str:=["self", "hand"]
theorem zcT:Cd zbi zcN zaI zbh:=by decide +kernel
def zbo:Stmt:=zbe (bd 24) 3
def zda:List Str:=["self", "hand", "line"]
def zaS:List Str:=["self", "hand"]
theorem zdn:Cd zbs zda zaS zbo:=by decide +kernel
def za0:Stmt:=zbe (bd 24) 4
def zck:List Str:=["self", "hand", "kind", "load", "line"]
def zaB:List Str:=["self", "hand", "kind", "load"]
theorem zco:Cd za2 zck zaB za0:=by decide +kernel
def zbd:Stmt:=zbe (bd 24) 5
def zcy:List Str:=["self", "hand", "kind", "load", "line"]
def zaF:List Str:=["self", "hand", "kind", "load"]
theorem zcr:Cd za8 zcy zaF zbd:=by decide +kernel
def zcz:Stmt:=zbe (bd 24) 6
def zft:List Str:=["self", "way", "letter"]
def zby:List Str:=["self", "way", "letter"]
theorem zfm:Cd zcx zft zby zcz:=by decide +kernel
def zbw:Stmt:=zbe (bd 24) 7
def zde:List Str:=["self", "flag", "?1?hand", "?1?line"]
def zaQ:List Str:=["self", "flag"]
theorem zdr:Cd zbq zde zaQ zbw:=by decide +kernel
def zaZ:Stmt:=zbe (bd 24) 8
def zcn:List Str:=["self", "sender", "?1?hand"]
def zaC:List Str:=["self", "sender"]
theorem zcm:Cd za1 zcn zaC zaZ:=by decide +kernel
def zbt:Stmt:=zbe (bd 24) 9
def zdl:List Str:=["self", "line"]
def zaR:List Str:=["self"]
theorem zdm:Cd zbl zdl zaR zbt:=by decide +kernel
inductive DI(K:Z7)(n:Str)(s:Stmt)(dV:Value)(f:Addr)(v:FuncData):Prop|mk {oc kV dc pm cd ct:Value} {od an:Option Addr} {sl:Array (Option Value)} (a:ZI K ZQ n=some (some (.ref f))) (l:K.lookup f=some ⟨oc,od,.func v,sl⟩) (e:v=Zx n n (zau s) (zaq s) (zag s) dV kV dc pm an cd ct) (c:Xf K cd n=true) (k:Zb K (.ref f)=true)
inductive MI(K:Z7)(C:Addr)(n q:Str)(s:Stmt)(f:Addr)(v:FuncData):Prop|mk {oc kV dc pm cd ct:Value} {od an:Option Addr} {sl:Array (Option Value)} (a:ZG K (.ref C) n=some (some (.ref f))) (i:WK K (.ref f)=true) (l:K.lookup f=some ⟨oc,od,.func v,sl⟩) (e:v=Zx n q (zau s) (zaq s) (zag s) .none kV dc pm an cd ct) (c:Xf K cd q=true) (k:Zb K (.ref f)=true)
section
variable {K:Z7}{n q:Str}{s:Stmt}{dV:Value}{f C:Addr}{v:FuncData}{N ps:List Str}{i:Nat}{B:F}(h5:(zag s).kind=.function)(h6:(zag s).isCoroutine=false)(h7:(zag s).isGenerator=false)(h8:N.take ps.length=ps)(e:P[i]?=some B)(h1:B.np=ps.length)(h2:B.ns=N.length)(h3:B.dfl=[])(c:Cd B.body N ps s)
include h5 h6 h7 h8 e h1 h2 h3 c
theorem dat0(F:Fun2 K n q s f v)(h:∀us:List Value,us.length=ps.length->bindArgs v ⟨us,[]⟩=pure (ps.zip us)):zfZ K fns cls P globs i n q s f v N ps B:=
 ⟨e, F,c.sc h5 h6 h7 h8,h1,h2,by
  rw[h3]
  exact ⟨[],λ_ _=>.nil,λj hj=>by
   obtain rfl:j=0:=Nat.le_zero.mp hj
   exact⟨[],.all h,.nil⟩⟩,c.2.2.2⟩
theorem DI.dat(D:DI K n s .none f v)(h:∀kV dc pm an cd ct,∀us:List Value,us.length=ps.length->bindArgs (Zx n n (zau s) (zaq s) (zag s) .none kV dc pm an cd ct) ⟨us,[]⟩=pure (ps.zip us)):zfZ K fns cls P globs i n n s f v N ps B:=by obtain⟨_,l,E,c',k⟩:=D;subst E;exact dat0 h5 h6 h7 h8 e h1 h2 h3 c (zfJ l c' k) (h _ _ _ _ _ _)
theorem MI.dat(D:MI K C n q s f v)(h:∀kV dc pm an cd ct,∀us:List Value,us.length=ps.length->bindArgs (Zx n q (zau s) (zaq s) (zag s) .none kV dc pm an cd ct) ⟨us,[]⟩=pure (ps.zip us)):zfZ K fns cls P globs i n q s f v N ps B:=by obtain⟨_,_,l,E,c',k⟩:=D;subst E;exact dat0 h5 h6 h7 h8 e h1 h2 h3 c (zfJ l c' k) (h _ _ _ _ _ _)
end
section
variable {K:Z7}{n q:Str}{s:Stmt}{dV:Value}{f C:Addr}{v:FuncData}
theorem DI.mg{mg:Str->Option Value}{h:Heap}(D:DI K n s dV f v)(X:K.In h)(G:h.Ns ZQ mg):mg n=some (.ref f):=by obtain⟨a,_,_,_,_⟩:=D;exact Zj X G a
theorem MI.a(D:MI K C n q s f v):ZG K (.ref C) n=some (some (.ref f)):=by obtain⟨a,_,_,_,_,_⟩:=D;exact a
theorem MI.j(D:MI K C n q s f v):WK K (.ref f)=true:=by obtain⟨_,a,_,_,_,_⟩:=D;exact a
theorem MI.k(D:MI K C n q s f v):Zb K (.ref f)=true:=by obtain⟨_,_,_,_,_,a⟩:=D;exact a
end
inductive DL(K:Z7):Nat->List F->List Addr->List FuncData->List (List Str)->Prop|nil (i:Nat):DL K i [] [] [] []|cons {i:Nat} {B:F} {Bs:List F} {f:Addr} {fs:List Addr} {v:FuncData} {vs:List FuncData} {p:List Str} {ps:List (List Str)} {x q:Str} {st:Stmt} {N:List Str} (d:zfZ K fns cls P globs i x q st f v N p B) (r:DL K (i+1) Bs fs vs ps):DL K i (B::Bs) (f::fs) (v::vs) (p::ps)
theorem DL.get{K:Z7}{v0:FuncData}{B:F}{i:Nat}{Bs:List F}{fs:List Addr}{vs:List FuncData}{ps:List (List Str)}(L:DL K i Bs fs vs ps):∀j,Bs[j]?=some B->∃x q st N,zfZ K fns cls P globs (i+j) x q st (fs.getD j 0) (vs.getD j v0) N (ps.getD j []) B:=by
 induction L with
 |nil i=>intro j e;simp at e
 | cons d r ih=>
  intro j e
  cases j with|zero=>cases e;exact⟨_,_,_,_,d⟩|succ j=>obtain⟨x,q,st,N,z⟩:=ih j (by simpa using e);rw[Nat.add_right_comm] at z;exact⟨x,q,st,N,z⟩
inductive FL(mg:Str->Option Value):List (Str×Nat×List D)->List Addr->List F->Prop|nil (fs:List Addr) (Bs:List F):FL mg [] fs Bs|cons {p:Str×Nat×List D} {ps:List (Str×Nat×List D)} {f:Addr} {fs:List Addr} {B:F} {Bs:List F} (h:mg p.1=some (.ref f)) (h1:B.np=p.2.1) (h2:B.dfl=p.2.2) (r:FL mg ps fs Bs):FL mg (p::ps) (f::fs) (B::Bs)
theorem FL.get{mg:Str->Option Value}{p:Str×Nat×List D}{ps:List (Str×Nat×List D)}{fs:List Addr}{Bs:List F}(L:FL mg ps fs Bs):∀j,ps[j]?=some p->mg p.1=some (.ref (fs.getD j 0))/\∃B,Bs[j]?=some B/\B.np=p.2.1/\B.dfl=p.2.2:=by
 induction L with
 |nil=>intro j e;simp at e
 |cons h h1 h2 r ih=>
  intro j e
  cases j with|zero=>cases e;exact⟨h,_,rfl,h1,h2⟩|succ j=>exact ih j (by simpa using e)
theorem all_mk{l:V1}{w:World}{K:Z7}{h:Heap}{mg:Str->Option Value}{fa f1 f2 f3 f4 f5 f6 f7 f8 f9 f10 f11 f12 f13 f14 f15 f16 f17 f18 f19 f20 f21 f22 f23 f24 f25 f26 f27 f28 f29 f30 f31 f32 f33 f34 f35 f36 f37 f38 f39 f40 f41 f42 f43 f44 f45 f46 f47 f48 f49 f50 f51 f52 f53 f54 f55 f56 f57 f58 f59 ga0 ga1 ga2 ga3 ga4 ga5 ga6 dT30 dT33 dT36 Qs Qa1:Addr}(X:K.In h)(G:h.Ns ZQ mg)(hfa:mg "law"=some (.ref fa))
  {wd30 wd33 wd36:Option Addr} {gs1 gs2 gs3 gs4 gs5 gs6 gs7 ws30 ws33 ws36:Array (Option Value)} {v1 v2 v3 v4 v5 v6 v7 v8 v9 v10 v11 v12 v13 v14 v15 v16 v17 v18 v19 v20 v21 v22 v23 v24 v25 v26 v27 v28 v29 v30 v31 v32 v33 v34 v35 v36 v37 v38 v39 v40 v41 v42 v43 v44 v45 v46 v47 v48 v49 v50 v51 v52 v53 v54 v55 v56 v57 v58 v59:FuncData}
  {tk0 tk1 tk2 tk3 tk4 tk5 tk6 tk7 tk8 tk9 tk10 tk11 tk12 tk13 tk14:Tok}
  {gn1 gn2 gn3 gn4 gn5 gn6 gn7 wn30 wn33 wn36:Nat}
  (D1:DI K "right_of" zgb .none f1 v1)
  (D2:DI K "hand_row" zgy .none f2 v2)
  (D3:DI K "house_row" zfo .none f3 v3)
  (D4:DI K "row_for" zih .none f4 v4)
  (D5:DI K "is_wait" ziK .none f5 v5)
  (D6:DI K "start" zlP .none f6 v6)
  (D7:DI K "clash" zm5 .none f7 v7)
  (D8:DI K "thinned" zh3 .none f8 v8)
  (D9:DI K "thinned_line" zc7 .none f9 v9)
  (D10:DI K "thinned_way" zdT .none f10 v10)
  (D11:DI K "thinned_value" zcv .none f11 v11)
  (D12:DI K "has_version_of" zcg .none f12 v12)
  (D13:DI K "comers" zjV .none f13 v13)
  (D14:DI K "letter_of" zfS .none f14 v14)
  (D15:DI K "may_be_done" zdP .none f15 v15)
  (D16:DI K "way_of" zkQ .none f16 v16)
  (D17:DI K "row_for_deed" zcY .none f17 v17)
  (D18:DI K "do_deed" ziS .none f18 v18)
  (D19:DI K "do_ask" zkf .none f19 v19)
  (D20:DI K "do_take" zh6 .none f20 v20)
  (D21:DI K "do_get" zkc .none f21 v21)
  (D22:DI K "got_value" zfA .none f22 v22)
  (D23:DI K "without" zh8 .none f23 v23)
  (D24:DI K "do_hand_row" zdG .none f24 v24)
  (D25:DI K "do_hand_act" zd0 .none f25 v25)
  (D26:DI K "do_house_row" zc2 .none f26 v26)
  (D27:DI K "do_house_act" zcW .none f27 v27)
  (D28:DI K "send_from_house" zbM .none f28 v28)
  (D29:DI K "receivers" zfy .none f29 v29)
  (D30:DI K "may" zcS (.ref dT30) f30 v30)
  (D31:DI K "asks_of" zio .none f31 v31)
  (D32:DI K "letters_of" zew .none f32 v32)
  (D33:DI K "stuck" zaJ (.ref dT33) f33 v33)
  (D34:DI K "step" zqD .none f34 v34)
  (D35:DI K "play" zqX .none f35 v35)
  (D36:DI K "find_run" zah (.ref dT36) f36 v36)
  (D37:DI K "deeds_to" zgs .none f37 v37)
  (D38:DI K "_law_cell_at" zfT .none f38 v38)
  (D39:DI K "_law_digits" zgF .none f39 v39)
  (D40:DI K "_law_one_copy" zey .none f40 v40)
  (D41:DI K "_law_readers" zfr .none f41 v41)
  (D42:DI K "_law_bent" zkg .none f42 v42)
  (D43:DI K "_law_free" zjY .none f43 v43)
  (D44:DI K "_law_table" zin .none f44 v44)
  (D45:DI K "_law_due" zmY .none f45 v45)
  (D46:DI K "_law_broken" zgq .none f46 v46)
  (D47:DI K "law" zth .none f47 v47)
  (D48:MI K Qs "__init__" "OpenLine.__init__" zbZ f48 v48)
  (D49:MI K Qs "as_tuple" "OpenLine.as_tuple" zbb f49 v49)
  (D50:MI K Qa1 "__init__" "Hall.__init__" zdU f50 v50)
  (D51:MI K Qa1 "as_tuple" "Hall.as_tuple" zbV f51 v51)
  (D52:MI K Qa1 "write_value" "Hall.write_value" zbh f52 v52)
  (D53:MI K Qa1 "tell_value" "Hall.tell_value" zbo f53 v53)
  (D54:MI K Qa1 "send_to_house" "Hall.send_to_house" za0 f54 v54)
  (D55:MI K Qa1 "send_to_hand" "Hall.send_to_hand" zbd f55 v55)
  (D56:MI K Qa1 "posted" "Hall.posted" zcz f56 v56)
  (D57:MI K Qa1 "hands_with" "Hall.hands_with" zbw f57 v57)
  (D58:MI K Qa1 "other_sharers" "Hall.other_sharers" zaZ f58 v58)
  (D59:MI K Qa1 "forget_all" "Hall.forget_all" zbt f59 v59)
  (Qt:ZI K ZQ "OpenLine"=some (some (.ref Qs))) (Qr:X9 K Qs Str.empty=true) (Qn:XV K Qs=true) (Qp:Xh K Qs=true) (Ql:ZG K (.ref Qs) "__setattr__"=some (some (.builtin "object.__setattr__"))) (Qm:WQ K Qs=true) (Qo:Zb K (.ref Qs)=true)
  (Qb:ZG K (.ref Qs) "state"=some none)
  (Qc:ZG K (.ref Qs) "value"=some none)
  (Qd:ZG K (.ref Qs) "want"=some none)
  (Qf:ZG K (.ref Qs) "to"=some none)
  (Qe:ZG K (.ref Qs) "back"=some none)
  (Qa:ZG K (.ref Qs) "flags"=some none)
  (Qb1:ZI K ZQ "Hall"=some (some (.ref Qa1))) (Qz:X9 K Qa1 Str.empty=true) (Qw:XV K Qa1=true) (Qu:Xh K Qa1=true) (Qx:ZG K (.ref Qa1) "__setattr__"=some (some (.builtin "object.__setattr__"))) (Qy:WQ K Qa1=true) (Qv:Zb K (.ref Qa1)=true)
  (Qk:ZG K (.ref Qa1) "state"=some none)
  (Qj:ZG K (.ref Qa1) "store"=some none)
  (Qq:ZG K (.ref Qa1) "last"=some none)
  (Qi:ZG K (.ref Qa1) "lines"=some none)
  (Qg:ZG K (.ref Qa1) "answer"=some none)
  (Qh:ZG K (.ref Qa1) "broken"=some none)
  (y1:K.lookup ga0=some ⟨.type "tuple",none,.seq #[(.str (Ze "read") tk0),(.str (Ze "write") tk1),(.str (Ze "drop") tk2)] gn1,gs1⟩)
  (x0:ZI K ZQ "ASKS"=some (some (.ref ga0)))
  (y2:K.lookup ga1=some ⟨.type "tuple",none,.seq #[(.int 0 tk3),(.int 0 tk4)] gn2,gs2⟩)
  (x1:ZI K ZQ "FIRST_VALUE"=some (some (.ref ga1)))
  (y3:K.lookup ga2=some ⟨.type "tuple",none,.seq #[(.str (Ze "gave up") tk5)] gn3,gs3⟩)
  (x2:ZI K ZQ "GAVE_UP"=some (some (.ref ga2)))
  (x3:ZI K ZQ "OWNS"=some (some (.int 2 tk6)))
  (x4:ZI K ZQ "SHARES"=some (some (.int 1 tk7)))
  (y4:K.lookup ga3=some ⟨.type "tuple",none,.seq #[(.int 1 tk8),(.int 0 tk9)] gn4,gs4⟩)
  (x5:ZI K ZQ "THIN_LAST"=some (some (.ref ga3)))
  (y5:K.lookup ga4=some ⟨.type "tuple",none,.seq #[(.int 0 tk10),(.int 0 tk11)] gn5,gs5⟩)
  (x6:ZI K ZQ "THIN_OLD"=some (some (.ref ga4)))
  (y6:K.lookup ga5=some ⟨.type "tuple",none,.seq #[(.str (Ze "wait") tk12)] gn6,gs6⟩)
  (y7:K.lookup ga6=some ⟨.type "tuple",none,.seq #[(.ref ga5)] gn7,gs7⟩)
  (x7:ZI K ZQ "WAITS"=some (some (.ref ga6)))
  (x8:ZI K ZQ "WAY_HOLDS"=some (some (.int 2 tk13)))
  (w30:K.lookup dT30=some ⟨.type "tuple",wd30,.seq #[(.bool true)] wn30,ws30⟩)
  (w33:K.lookup dT33=some ⟨.type "tuple",wd33,.seq #[(.bool true)] wn33,ws33⟩)
  (w36:K.lookup dT36=some ⟨.type "tuple",wd36,.seq #[(.bool true),(.int 3000 tk14)] wn36,ws36⟩)
  (z1:ZI K ZQ "len"=some none)
  (z2:ZI K ZQ "tuple"=some none)
  (z3:ZI K ZQ "int"=some none)
  (z4:ZI K ZQ "range"=some none)
  (z5:ZI K ZQ "all"=some none)
  (z6:ZI K ZQ "any"=some none)
  (z7:ZI K ZQ "list"=some none)
  (z8:ZI K ZQ "isinstance"=some none)
  (z9:ZI K ZQ "enumerate"=some none)
  (z10:ZI K ZQ "reversed"=some none)
  : ∃fd:FuncData,(∀(s:Shared) (v:Value),V8 s fd ⟨[v],[]⟩ [("_law_script",v)])/\∀base:Heap,K.In base->base.Ns ZQ mg->FnOk l.prog w K mg base CX0 24 fa fd ["_law_script"] (spF K 1 (zaf P 12 46)):=by
 have e:=hfa.symm.trans (D47.mg X G);cases e;obtain @⟨_,kV30,dc30,pm30,cd30,ct30,_,an30,_,a30,l30,E30,c30,k30⟩:=D30;subst E30;have F30:=zfJ (st:=zcS) l30 c30 k30
 have b30:∃dvs,(∀A H,RepDs K A H [(.bl true)] dvs)/\∀j,j<=1->∃ds,zcU K _ ziZ ds/\Vals (dvs.drop j) ds:=⟨[(V.bl true)],λ_ _=>(.cons (by simp only[RepD]) .nil),λj hj=>by
  match j,hj with
  |0,_=>exact⟨[(.bool true)],λs us hK hl=>match us,(show us.length=2 by simpa[ziZ] using hl) with | [_,_],_=>Y4 (fd:=Zx "may" "may" (zau zcS) (zaq zcS) (zag zcS) (.ref dT30) kV30 dc30 pm30 an30 cd30 ct30) rfl (hK _ _ w30) rfl rfl rfl,(.cons rfl .nil)⟩|1,_=>exact⟨[],λs us hK hl=>match us,(show us.length=3 by simpa[ziZ] using hl) with | [_,_,_],_=>Y4 (fd:=Zx "may" "may" (zau zcS) (zaq zcS) (zag zcS) (.ref dT30) kV30 dc30 pm30 an30 cd30 ct30) rfl (hK _ _ w30) rfl rfl rfl,.nil⟩
  |j+2,hj=>omega⟩
 have d30:zfZ K fns cls P globs 29 "may" "may" zcS f30 _ ztN ziZ _:=⟨rfl,F30,Cd.sc ztL rfl rfl rfl rfl,rfl,rfl,b30,ztL.2.2.2⟩;obtain @⟨_,kV33,dc33,pm33,cd33,ct33,_,an33,_,a33,l33,E33,c33,k33⟩:=D33;subst E33;have F33:=zfJ (st:=zaJ) l33 c33 k33
 have b33:∃dvs,(∀A H,RepDs K A H [(.bl true)] dvs)/\∀j,j<=1->∃ds,zcU K _ zdj ds/\Vals (dvs.drop j) ds:=⟨[(V.bl true)],λ_ _=>(.cons (by simp only[RepD]) .nil),λj hj=>by
  match j,hj with
  |0,_=>exact⟨[(.bool true)],λs us hK hl=>match us,(show us.length=2 by simpa[zdj] using hl) with | [_,_],_=>Y4 (fd:=Zx "stuck" "stuck" (zau zaJ) (zaq zaJ) (zag zaJ) (.ref dT33) kV33 dc33 pm33 an33 cd33 ct33) rfl (hK _ _ w33) rfl rfl rfl,(.cons rfl .nil)⟩|1,_=>exact⟨[],λs us hK hl=>match us,(show us.length=3 by simpa[zdj] using hl) with | [_,_,_],_=>Y4 (fd:=Zx "stuck" "stuck" (zau zaJ) (zaq zaJ) (zag zaJ) (.ref dT33) kV33 dc33 pm33 an33 cd33 ct33) rfl (hK _ _ w33) rfl rfl rfl,.nil⟩
  |j+2,hj=>omega⟩
 have d33:zfZ K fns cls P globs 32 "stuck" "stuck" zaJ f33 _ zmy zdj _:=⟨rfl,F33,Cd.sc znS rfl rfl rfl rfl,rfl,rfl,b33,znS.2.2.2⟩;obtain @⟨_,kV36,dc36,pm36,cd36,ct36,_,an36,_,a36,l36,E36,c36,k36⟩:=D36;subst E36;have F36:=zfJ (st:=zah) l36 c36 k36
 have b36:∃dvs,(∀A H,RepDs K A H [(.bl true),(.int 3000)] dvs)/\∀j,j<=2->∃ds,zcU K _ zaH ds/\Vals (dvs.drop j) ds:=⟨[(V.bl true),(V.int 3000)],λ_ _=>(.cons (by simp only[RepD]) (.cons (by simp only[RepD]) .nil)),λj hj=>by
  match j,hj with
  |0,_=>exact⟨[(.bool true),(.int 3000 tk14)],λs us hK hl=>match us,(show us.length=2 by simpa[zaH] using hl) with | [_,_],_=>Y4 (fd:=Zx "find_run" "find_run" (zau zah) (zaq zah) (zag zah) (.ref dT36) kV36 dc36 pm36 an36 cd36 ct36) rfl (hK _ _ w36) rfl rfl rfl,(.cons rfl (.cons ⟨_,rfl⟩ .nil))⟩|1,_=>exact⟨[(.int 3000 tk14)],λs us hK hl=>match us,(show us.length=3 by simpa[zaH] using hl) with | [_,_,_],_=>Y4 (fd:=Zx "find_run" "find_run" (zau zah) (zaq zah) (zag zah) (.ref dT36) kV36 dc36 pm36 an36 cd36 ct36) rfl (hK _ _ w36) rfl rfl rfl,(.cons ⟨_,rfl⟩ .nil)⟩|2,_=>exact⟨[],λs us hK hl=>match us,(show us.length=4 by simpa[zaH] using hl) with | [_,_,_,_],_=>Y4 (fd:=Zx "find_run" "find_run" (zau zah) (zaq zah) (zag zah) (.ref dT36) kV36 dc36 pm36 an36 cd36 ct36) rfl (hK _ _ w36) rfl rfl rfl,.nil⟩
  |j+3,hj=>omega⟩
 have d36:zfZ K fns cls P globs 35 "find_run" "find_run" zah f36 _ zgw zaH _:=⟨rfl,F36,Cd.sc zgd rfl rfl rfl rfl,rfl,rfl,b36,zgd.2.2.2⟩
 have blt:∀x∈zcG,mg x=none:=by
  intro x hx;simp only[zcG,ZP,Zq,or_false] at hx
  rcases hx with rfl | rfl | rfl | rfl | rfl | rfl | rfl | rfl | rfl | rfl
  ·exact Zd X G z1
  ·exact Zd X G z2
  ·exact Zd X G z3
  ·exact Zd X G z4
  ·exact Zd X G z5
  ·exact Zd X G z6
  ·exact Zd X G z7
  ·exact Zd X G z8
  ·exact Zd X G z9
  ·exact Zd X G z10
 have gl:∀(x:Str) (d:D),globs.lookup x=some d->∃u v,mg x=some u/\RelV v u/\∀A H,RepD K A H d v:=by
  intro x d e;unfold globs at e;rw[ZA] at e
  split at e
  ·rename_i hx
   have hx:=ZV hx;subst hx;cases e
   exact⟨_,(V.ref ga0),Zj X G x0,rfl,λA H=>by simp only[RepD];exact⟨ga0,[(V.str (Ze "read")),(V.str (Ze "write")),(V.str (Ze "drop"))],rfl,.inr ⟨_,_,_,y1,rfl,rfl,rfl,by show 3<=sizeLine;decide,(.cons ⟨_,rfl⟩ (.cons ⟨_,rfl⟩ (.cons ⟨_,rfl⟩ .nil)))⟩,(.cons (by simp only[RepD];rfl) (.cons (by simp only[RepD];rfl) (.cons (by simp only[RepD];rfl) .nil)))⟩⟩
  rw[ZA] at e
  split at e
  ·rename_i hx
   have hx:=ZV hx;subst hx;cases e
   exact⟨_,(V.ref ga1),Zj X G x1,rfl,λA H=>by simp only[RepD];exact⟨ga1,[(V.int 0),(V.int 0)],rfl,.inr ⟨_,_,_,y2,rfl,rfl,rfl,by show 2<=sizeLine;decide,(.cons ⟨_,rfl⟩ (.cons ⟨_,rfl⟩ .nil))⟩,(.cons (by simp only[RepD]) (.cons (by simp only[RepD]) .nil))⟩⟩
  rw[ZA] at e
  split at e
  ·rename_i hx
   have hx:=ZV hx;subst hx;cases e
   exact⟨_,(V.ref ga2),Zj X G x2,rfl,λA H=>by simp only[RepD];exact⟨ga2,[(V.str (Ze "gave up"))],rfl,.inr ⟨_,_,_,y3,rfl,rfl,rfl,by show 1<=sizeLine;decide,(.cons ⟨_,rfl⟩ .nil)⟩,(.cons (by simp only[RepD];rfl) .nil)⟩⟩
  rw[ZA] at e
  split at e
  ·rename_i hx
   have hx:=ZV hx;subst hx;cases e;exact⟨_,(V.int 2),Zj X G x3,⟨_,rfl⟩,λA H=>by simp only[RepD]⟩
  rw[ZA] at e
  split at e
  ·rename_i hx
   have hx:=ZV hx;subst hx;cases e;exact⟨_,(V.int 1),Zj X G x4,⟨_,rfl⟩,λA H=>by simp only[RepD]⟩
  rw[ZA] at e
  split at e
  ·rename_i hx
   have hx:=ZV hx;subst hx;cases e
   exact⟨_,(V.ref ga3),Zj X G x5,rfl,λA H=>by simp only[RepD];exact⟨ga3,[(V.int 1),(V.int 0)],rfl,.inr ⟨_,_,_,y4,rfl,rfl,rfl,by show 2<=sizeLine;decide,(.cons ⟨_,rfl⟩ (.cons ⟨_,rfl⟩ .nil))⟩,(.cons (by simp only[RepD]) (.cons (by simp only[RepD]) .nil))⟩⟩
  rw[ZA] at e
  split at e
  ·rename_i hx
   have hx:=ZV hx;subst hx;cases e
   exact⟨_,(V.ref ga4),Zj X G x6,rfl,λA H=>by simp only[RepD];exact⟨ga4,[(V.int 0),(V.int 0)],rfl,.inr ⟨_,_,_,y5,rfl,rfl,rfl,by show 2<=sizeLine;decide,(.cons ⟨_,rfl⟩ (.cons ⟨_,rfl⟩ .nil))⟩,(.cons (by simp only[RepD]) (.cons (by simp only[RepD]) .nil))⟩⟩
  rw[ZA] at e
  split at e
  ·rename_i hx
   have hx:=ZV hx;subst hx;cases e
   exact⟨_,(V.ref ga6),Zj X G x7,rfl,λA H=>by simp only[RepD];exact⟨ga6,[(V.ref ga5)],rfl,.inr ⟨_,_,_,y7,rfl,rfl,rfl,by show 1<=sizeLine;decide,(.cons rfl .nil)⟩,(.cons (by simp only[RepD];exact⟨ga5,[(V.str (Ze "wait"))],rfl,.inr ⟨_,_,_,y6,rfl,rfl,rfl,by show 1<=sizeLine;decide,(.cons ⟨_,rfl⟩ .nil)⟩,(.cons (by simp only[RepD];rfl) .nil)⟩) .nil)⟩⟩
  rw[ZA] at e
  split at e
  ·rename_i hx
   have hx:=ZV hx;subst hx;cases e;exact⟨_,(V.int 2),Zj X G x8,⟨_,rfl⟩,λA H=>by simp only[RepD]⟩
  cases e
 let addr:Nat->Addr:=λn=>[f1,f2,f3,f4,f5,f6,f7,f8,f9,f10,f11,f12,f13,f14,f15,f16,f17,f18,f19,f20,f21,f22,f23,f24,f25,f26,f27,f28,f29,f30,f31,f32,f33,f34,f35,f36,f37,f38,f39,f40,f41,f42,f43,f44,f45,f46,fa,f48,f49,f50,f51,f52,f53,f54,f55,f56,f57,f58,f59].getD n 0
 let psOf:Nat->List Str:=λn=>[zei,zd5,zdp,zff,zfk,zjs,zjy,zfM,zbF,zca,zbr,zbf,zgL,zc9,zcd,zg4,zbJ,ze5,zhk,ze1,zgU,zdg,zeW,zb6,zcb,zbK,zbI,za7,zdf,ziZ,zfW,zcB,zdj,zl9,zni,zaH,zeh,zdd,zeq,zcC,zdq,zgV,zg9,zfV,ziW,zec,zsC,za5,zaG,zb8,za6,zaI,zaS,zaB,zaF,zby,zaQ,zaC,zaR].getD n []
 let fdOf:Nat->FuncData:=λn=>[v1,v2,v3,v4,v5,v6,v7,v8,v9,v10,v11,v12,v13,v14,v15,v16,v17,v18,v19,v20,v21,v22,v23,v24,v25,v26,v27,v28,v29,(Zx "may" "may" (zau zcS) (zaq zcS) (zag zcS) (.ref dT30) kV30 dc30 pm30 an30 cd30 ct30),v31,v32,(Zx "stuck" "stuck" (zau zaJ) (zaq zaJ) (zag zaJ) (.ref dT33) kV33 dc33 pm33 an33 cd33 ct33),v34,v35,(Zx "find_run" "find_run" (zau zah) (zaq zah) (zag zah) (.ref dT36) kV36 dc36 pm36 an36 cd36 ct36),v37,v38,v39,v40,v41,v42,v43,v44,v45,v46,v47,v48,v49,v50,v51,v52,v53,v54,v55,v56,v57,v58,v59].getD n v1
 have kw:KwAt K "find_run" (Zx "find_run" "find_run" (zau zah) (zaq zah) (zag zah) (.ref dT36) kV36 dc36 pm36 an36 cd36 ct36) zaH:=λy d z=>by rw[zrZ] at z;cases z;exact⟨.bool true,.bl true,λ_ _=>by simp only[RepD],zou rfl rfl λs a b c hK=>Y4 (fd:=(Zx "find_run" "find_run" (zau zah) (zaq zah) (zag zah) (.ref dT36) kV36 dc36 pm36 an36 cd36 ct36)) rfl (hK _ _ w36) rfl rfl rfl⟩
 have T:Txt w K mg fns cls P globs addr fdOf psOf:=by
  refine⟨λfi B e=>?_,blt,gl,λfi p e=>?_,zt0 35 (by decide +kernel) kw,?_,?_,?_⟩
  ·have L:DL K 0 P [f1,f2,f3,f4,f5,f6,f7,f8,f9,f10,f11,f12,f13,f14,f15,f16,f17,f18,f19,f20,f21,f22,f23,f24,f25,f26,f27,f28,f29,f30,f31,f32,f33,f34,f35,f36,f37,f38,f39,f40,f41,f42,f43,f44,f45,f46,fa,f48,f49,f50,f51,f52,f53,f54,f55,f56,f57,f58,f59] [v1,v2,v3,v4,v5,v6,v7,v8,v9,v10,v11,v12,v13,v14,v15,v16,v17,v18,v19,v20,v21,v22,v23,v24,v25,v26,v27,v28,v29,(Zx "may" "may" (zau zcS) (zaq zcS) (zag zcS) (.ref dT30) kV30 dc30 pm30 an30 cd30 ct30),v31,v32,(Zx "stuck" "stuck" (zau zaJ) (zaq zaJ) (zag zaJ) (.ref dT33) kV33 dc33 pm33 an33 cd33 ct33),v34,v35,(Zx "find_run" "find_run" (zau zah) (zaq zah) (zag zah) (.ref dT36) kV36 dc36 pm36 an36 cd36 ct36),v37,v38,v39,v40,v41,v42,v43,v44,v45,v46,v47,v48,v49,v50,v51,v52,v53,v54,v55,v56,v57,v58,v59] [zei,zd5,zdp,zff,zfk,zjs,zjy,zfM,zbF,zca,zbr,zbf,zgL,zc9,zcd,zg4,zbJ,ze5,zhk,ze1,zgU,zdg,zeW,zb6,zcb,zbK,zbI,za7,zdf,ziZ,zfW,zcB,zdj,zl9,zni,zaH,zeh,zdd,zeq,zcC,zdq,zgV,zg9,zfV,ziW,zec,zsC,za5,zaG,zb8,za6,zaI,zaS,zaB,zaF,zby,zaQ,zaC,zaR]:=.cons (DI.dat rfl rfl rfl rfl rfl rfl rfl rfl zkX D1 λ_ _ _ _ _ _=>us2 λ_ _=>rfl) (.cons (DI.dat rfl rfl rfl rfl rfl rfl rfl rfl zlB D2 λ_ _ _ _ _ _=>us3 λ_ _ _=>rfl) (.cons (DI.dat rfl rfl rfl rfl rfl rfl rfl rfl zjv D3 λ_ _ _ _ _ _=>us4 λ_ _ _ _=>rfl) (.cons (DI.dat rfl rfl rfl rfl rfl rfl rfl rfl znB D4 λ_ _ _ _ _ _=>us2 λ_ _=>rfl) (.cons (DI.dat rfl rfl rfl rfl rfl rfl rfl rfl zoe D5 λ_ _ _ _ _ _=>us1 λ_=>rfl) (.cons (DI.dat rfl rfl rfl rfl rfl rfl rfl rfl zsF D6 λ_ _ _ _ _ _=>us2 λ_ _=>rfl) (.cons (DI.dat rfl rfl rfl rfl rfl rfl rfl rfl zsn D7 λ_ _ _ _ _ _=>us2 λ_ _=>rfl) (.cons (DI.dat rfl rfl rfl rfl rfl rfl rfl rfl zlL D8 λ_ _ _ _ _ _=>us1 λ_=>rfl) (.cons (DI.dat rfl rfl rfl rfl rfl rfl rfl rfl zf6 D9 λ_ _ _ _ _ _=>us2 λ_ _=>rfl) (.cons (DI.dat rfl rfl rfl rfl rfl rfl rfl rfl zhx D10 λ_ _ _ _ _ _=>us2 λ_ _=>rfl) (.cons (DI.dat rfl rfl rfl rfl rfl rfl rfl rfl ze9 D11 λ_ _ _ _ _ _=>us2 λ_ _=>rfl) (.cons (DI.dat rfl rfl rfl rfl rfl rfl rfl rfl zeF D12 λ_ _ _ _ _ _=>us2 λ_ _=>rfl) (.cons (DI.dat rfl rfl rfl rfl rfl rfl rfl rfl zoD D13 λ_ _ _ _ _ _=>us2 λ_ _=>rfl) (.cons (DI.dat rfl rfl rfl rfl rfl rfl rfl rfl zjJ D14 λ_ _ _ _ _ _=>us3 λ_ _ _=>rfl) (.cons (DI.dat rfl rfl rfl rfl rfl rfl rfl rfl zgQ D15 λ_ _ _ _ _ _=>us3 λ_ _ _=>rfl) (.cons (DI.dat rfl rfl rfl rfl rfl rfl rfl rfl zqc D16 λ_ _ _ _ _ _=>us2 λ_ _=>rfl) (.cons (DI.dat rfl rfl rfl rfl rfl rfl rfl rfl zf7 D17 λ_ _ _ _ _ _=>us3 λ_ _ _=>rfl) (.cons (DI.dat rfl rfl rfl rfl rfl rfl rfl rfl zmF D18 λ_ _ _ _ _ _=>us3 λ_ _ _=>rfl) (.cons (DI.dat rfl rfl rfl rfl rfl rfl rfl rfl zpJ D19 λ_ _ _ _ _ _=>us3 λ_ _ _=>rfl) (.cons (DI.dat rfl rfl rfl rfl rfl rfl rfl rfl zl6 D20 λ_ _ _ _ _ _=>us3 λ_ _ _=>rfl) (.cons (DI.dat rfl rfl rfl rfl rfl rfl rfl rfl zp1 D21 λ_ _ _ _ _ _=>us3 λ_ _ _=>rfl) (.cons (DI.dat rfl rfl rfl rfl rfl rfl rfl rfl zi5 D22 λ_ _ _ _ _ _=>us3 λ_ _ _=>rfl) (.cons (DI.dat rfl rfl rfl rfl rfl rfl rfl rfl znH D23 λ_ _ _ _ _ _=>us2 λ_ _=>rfl) (.cons (DI.dat rfl rfl rfl rfl rfl rfl rfl rfl zhd D24 λ_ _ _ _ _ _=>us4 λ_ _ _ _=>rfl) (.cons (DI.dat rfl rfl rfl rfl rfl rfl rfl rfl zhg D25 λ_ _ _ _ _ _=>us4 λ_ _ _ _=>rfl) (.cons (DI.dat rfl rfl rfl rfl rfl rfl rfl rfl zf5 D26 λ_ _ _ _ _ _=>us4 λ_ _ _ _=>rfl) (.cons (DI.dat rfl rfl rfl rfl rfl rfl rfl rfl zga D27 λ_ _ _ _ _ _=>us4 λ_ _ _ _=>rfl) (.cons (DI.dat rfl rfl rfl rfl rfl rfl rfl rfl zd6 D28 λ_ _ _ _ _ _=>us3 λ_ _ _=>rfl) (.cons (DI.dat rfl rfl rfl rfl rfl rfl rfl rfl zjj D29 λ_ _ _ _ _ _=>us3 λ_ _ _=>rfl) (.cons d30 (.cons (DI.dat rfl rfl rfl rfl rfl rfl rfl rfl znp D31 λ_ _ _ _ _ _=>us1 λ_=>rfl) (.cons (DI.dat rfl rfl rfl rfl rfl rfl rfl rfl ziN D32 λ_ _ _ _ _ _=>us4 λ_ _ _ _=>rfl) (.cons d33 (.cons (DI.dat rfl rfl rfl rfl rfl rfl rfl rfl zvp D34 λ_ _ _ _ _ _=>us3 λ_ _ _=>rfl) (.cons (DI.dat rfl rfl rfl rfl rfl rfl rfl rfl zu5 D35 λ_ _ _ _ _ _=>us3 λ_ _ _=>rfl) (.cons d36 (.cons (DI.dat rfl rfl rfl rfl rfl rfl rfl rfl zlD D37 λ_ _ _ _ _ _=>us2 λ_ _=>rfl) (.cons (DI.dat rfl rfl rfl rfl rfl rfl rfl rfl zjn D38 λ_ _ _ _ _ _=>us2 λ_ _=>rfl) (.cons (DI.dat rfl rfl rfl rfl rfl rfl rfl rfl zlu D39 λ_ _ _ _ _ _=>us3 λ_ _ _=>rfl) (.cons (DI.dat rfl rfl rfl rfl rfl rfl rfl rfl zig D40 λ_ _ _ _ _ _=>us0 rfl) (.cons (DI.dat rfl rfl rfl rfl rfl rfl rfl rfl zjR D41 λ_ _ _ _ _ _=>us0 rfl) (.cons (DI.dat rfl rfl rfl rfl rfl rfl rfl rfl zpt D42 λ_ _ _ _ _ _=>us2 λ_ _=>rfl) (.cons (DI.dat rfl rfl rfl rfl rfl rfl rfl rfl zqh D43 λ_ _ _ _ _ _=>us1 λ_=>rfl) (.cons (DI.dat rfl rfl rfl rfl rfl rfl rfl rfl zl1 D44 λ_ _ _ _ _ _=>us1 λ_=>rfl) (.cons (DI.dat rfl rfl rfl rfl rfl rfl rfl rfl zr5 D45 λ_ _ _ _ _ _=>us4 λ_ _ _ _=>rfl) (.cons (DI.dat rfl rfl rfl rfl rfl rfl rfl rfl zlk D46 λ_ _ _ _ _ _=>us5 λ_ _ _ _ _=>rfl) (.cons (DI.dat rfl rfl rfl rfl rfl rfl rfl rfl zv3 D47 λ_ _ _ _ _ _=>us1 λ_=>rfl) (.cons (MI.dat rfl rfl rfl rfl rfl rfl rfl rfl zd3 D48 λ_ _ _ _ _ _=>us2 λ_ _=>rfl) (.cons (MI.dat rfl rfl rfl rfl rfl rfl rfl rfl zcD D49 λ_ _ _ _ _ _=>us1 λ_=>rfl) (.cons (MI.dat rfl rfl rfl rfl rfl rfl rfl rfl zg3 D50 λ_ _ _ _ _ _=>us2 λ_ _=>rfl) (.cons (MI.dat rfl rfl rfl rfl rfl rfl rfl rfl zed D51 λ_ _ _ _ _ _=>us1 λ_=>rfl) (.cons (MI.dat rfl rfl rfl rfl rfl rfl rfl rfl zcT D52 λ_ _ _ _ _ _=>us2 λ_ _=>rfl) (.cons (MI.dat rfl rfl rfl rfl rfl rfl rfl rfl zdn D53 λ_ _ _ _ _ _=>us2 λ_ _=>rfl) (.cons (MI.dat rfl rfl rfl rfl rfl rfl rfl rfl zco D54 λ_ _ _ _ _ _=>us4 λ_ _ _ _=>rfl) (.cons (MI.dat rfl rfl rfl rfl rfl rfl rfl rfl zcr D55 λ_ _ _ _ _ _=>us4 λ_ _ _ _=>rfl) (.cons (MI.dat rfl rfl rfl rfl rfl rfl rfl rfl zfm D56 λ_ _ _ _ _ _=>us3 λ_ _ _=>rfl) (.cons (MI.dat rfl rfl rfl rfl rfl rfl rfl rfl zdr D57 λ_ _ _ _ _ _=>us2 λ_ _=>rfl) (.cons (MI.dat rfl rfl rfl rfl rfl rfl rfl rfl zcm D58 λ_ _ _ _ _ _=>us2 λ_ _=>rfl) (.cons (MI.dat rfl rfl rfl rfl rfl rfl rfl rfl zdm D59 λ_ _ _ _ _ _=>us1 λ_=>rfl) (.nil _)))))))))))))))))))))))))))))))))))))))))))))))))))))))))))
   have z:=DL.get (v0:=v1) L fi e;rw[Nat.zero_add] at z;exact z
  ·exact FL.get (show FL mg fns [f1,f2,f3,f4,f5,f6,f7,f8,f9,f10,f11,f12,f13,f14,f15,f16,f17,f18,f19,f20,f21,f22,f23,f24,f25,f26,f27,f28,f29,f30,f31,f32,f33,f34,f35,f36,f37,f38,f39,f40,f41,f42,f43,f44,f45,f46,fa,f48,f49,f50,f51,f52,f53,f54,f55,f56,f57,f58,f59] P from .cons (D1.mg X G) rfl rfl (.cons (D2.mg X G) rfl rfl (.cons (D3.mg X G) rfl rfl (.cons (D4.mg X G) rfl rfl (.cons (D5.mg X G) rfl rfl (.cons (D6.mg X G) rfl rfl (.cons (D7.mg X G) rfl rfl (.cons (D8.mg X G) rfl rfl (.cons (D9.mg X G) rfl rfl (.cons (D10.mg X G) rfl rfl (.cons (D11.mg X G) rfl rfl (.cons (D12.mg X G) rfl rfl (.cons (D13.mg X G) rfl rfl (.cons (D14.mg X G) rfl rfl (.cons (D15.mg X G) rfl rfl (.cons (D16.mg X G) rfl rfl (.cons (D17.mg X G) rfl rfl (.cons (D18.mg X G) rfl rfl (.cons (D19.mg X G) rfl rfl (.cons (D20.mg X G) rfl rfl (.cons (D21.mg X G) rfl rfl (.cons (D22.mg X G) rfl rfl (.cons (D23.mg X G) rfl rfl (.cons (D24.mg X G) rfl rfl (.cons (D25.mg X G) rfl rfl (.cons (D26.mg X G) rfl rfl (.cons (D27.mg X G) rfl rfl (.cons (D28.mg X G) rfl rfl (.cons (D29.mg X G) rfl rfl (.cons (Zj X G a30) rfl rfl (.cons (D31.mg X G) rfl rfl (.cons (D32.mg X G) rfl rfl (.cons (Zj X G a33) rfl rfl (.cons (D34.mg X G) rfl rfl (.cons (D35.mg X G) rfl rfl (.cons (Zj X G a36) rfl rfl (.cons (D37.mg X G) rfl rfl (.cons (D38.mg X G) rfl rfl (.cons (D39.mg X G) rfl rfl (.cons (D40.mg X G) rfl rfl (.cons (D41.mg X G) rfl rfl (.cons (D42.mg X G) rfl rfl (.cons (D43.mg X G) rfl rfl (.cons (D44.mg X G) rfl rfl (.cons (D45.mg X G) rfl rfl (.cons (D46.mg X G) rfl rfl (.cons (D47.mg X G) rfl rfl (.nil _ _)))))))))))))))))))))))))))))))))))))))))))))))) fi e
  ·intro ci hc
   unfold cls at hc;simp only[ZP,Zq,or_false] at hc
   rcases hc with rfl | rfl
   ·exact⟨Qs,_,Zj X G Qt,Qt,⟨Qr,Qn,Qp,Ql⟩,⟨Qm,D48.a,D48.j,Qo⟩,rfl,rfl⟩
   ·exact⟨Qa1,_,Zj X G Qb1,Qb1,⟨Qz,Qw,Qu,Qx⟩,⟨Qy,D50.a,D50.j,Qv⟩,rfl,rfl⟩
  ·intro ci hc
   unfold cls at hc;simp only[ZP,Zq,or_false] at hc
   rcases hc with rfl | rfl
   ·intro pm hp
    simp only[ZP,Zq,or_false] at hp
    rcases hp with rfl
    ·exact⟨Qs,_,Qt,⟨Qr,Qn,Qp,Ql⟩,⟨D49.a,D49.j,D49.k⟩,rfl,rfl⟩
   ·intro pm hp
    simp only[ZP,Zq,or_false] at hp
    rcases hp with rfl | rfl | rfl | rfl | rfl | rfl | rfl | rfl | rfl
    ·exact⟨Qa1,_,Qb1,⟨Qz,Qw,Qu,Qx⟩,⟨D51.a,D51.j,D51.k⟩,rfl,rfl⟩
    ·exact⟨Qa1,_,Qb1,⟨Qz,Qw,Qu,Qx⟩,⟨D52.a,D52.j,D52.k⟩,rfl,rfl⟩
    ·exact⟨Qa1,_,Qb1,⟨Qz,Qw,Qu,Qx⟩,⟨D53.a,D53.j,D53.k⟩,rfl,rfl⟩
    ·exact⟨Qa1,_,Qb1,⟨Qz,Qw,Qu,Qx⟩,⟨D54.a,D54.j,D54.k⟩,rfl,rfl⟩
    ·exact⟨Qa1,_,Qb1,⟨Qz,Qw,Qu,Qx⟩,⟨D55.a,D55.j,D55.k⟩,rfl,rfl⟩
    ·exact⟨Qa1,_,Qb1,⟨Qz,Qw,Qu,Qx⟩,⟨D56.a,D56.j,D56.k⟩,rfl,rfl⟩
    ·exact⟨Qa1,_,Qb1,⟨Qz,Qw,Qu,Qx⟩,⟨D57.a,D57.j,D57.k⟩,rfl,rfl⟩
    ·exact⟨Qa1,_,Qb1,⟨Qz,Qw,Qu,Qx⟩,⟨D58.a,D58.j,D58.k⟩,rfl,rfl⟩
    ·exact⟨Qa1,_,Qb1,⟨Qz,Qw,Qu,Qx⟩,⟨D59.a,D59.j,D59.k⟩,rfl,rfl⟩
  ·intro ci hc
   unfold cls at hc;simp only[ZP,Zq,or_false] at hc
   rcases hc with rfl | rfl
   ·intro fl hf A hA
    cases (Qt.symm.trans hA)
    simp only[ZP,Zq,or_false] at hf
    rcases hf with rfl | rfl | rfl | rfl | rfl | rfl
    ·exact Qb
    ·exact Qc
    ·exact Qd
    ·exact Qf
    ·exact Qe
    ·exact Qa
   ·intro fl hf A hA
    cases (Qb1.symm.trans hA)
    simp only[ZP,Zq,or_false] at hf
    rcases hf with rfl | rfl | rfl | rfl | rfl | rfl
    ·exact Qk
    ·exact Qj
    ·exact Qq
    ·exact Qi
    ·exact Qg
    ·exact Qh
 obtain⟨_,_,E,_,_⟩:=D47;subst E;exact⟨_,λs v=>.of_eq rfl,λbase _ _=>znC T 12 46 _ rfl⟩
theorem walk{l:V1}{q:Zs}{loose:List Str}{XP:(Str->Option Value)->Heap->Prop}{YP:World->Heap->Prop}{d:DefRec}{K:Params->Z7}(hn:l.most=some 63)(hdf:d.params.defaults=[])
  (hY:∀(w:World) (h:Heap),YP w h->(K w.params).In h)
  (F:∀(w:World) (mg:Str->Option Value) (fa:Addr) (h:Heap),(K w.params).In h->h.Ns ZQ mg->mg d.name=some (.ref fa) →
   ∃fd:FuncData,(∀(s:Shared) (u:Value),V8 s fd ⟨[u],[]⟩ [("_law_script",u)])/\∀base:Heap,(K w.params).In base->base.Ns ZQ mg->FnOk l.prog w (K w.params) mg base CX0 24 fa fd ["_law_script"] (spF (K w.params) 1 (zaf P 12 46))):
  PySem.W.WalkO q loose XP YP l.row.toRowW d [] (λf vs=>PySem.call f vs):=
 L2.walk_of (n:=63) (k:=24) (x:="_law_script") (CX:=λ_=>CX0) (sp:=λw=>spF (K w.params) 1 (zaf P 12 46)) hn (by decide) hdf ⟨rfl,by decide,by decide⟩ hY F
  (λ_ _ a ns hl _ hS=>zmc hS (zoz hl)) λ_ _ _ _ _ z=>z
end K72
open PySem PySem.W PyProof.Rows
inductive PySem.W.Fast:Prop|tw5154318421791408189|tw5097877711179896285|tw15147349733885771165|tw1784386724166132771|tw982872242393007068|tw11806684212910164943|tw12067353946748726029|tw1252108953879048745|tw17892411273217348252|tw6639342408407810022|tw8330544653349722631|tw13378474678732257075|tw10753332152515923344|tw2060060768258592701|tw14042958430375000899|tw13172051724449197370|tw4411080711998539440|tw12069588627269565722|tw12208260473696231909|tw14238737129790144959|tw8997555877663250989|tw10079734425666165057|tw17301117789734638065|tw4621983102167358217|tw13896695809155447723|tw8518378707144687811|tw10968081143474811861|tw2534187332905580857|tw16891049635669088366|tw8848669826973780064|tw16339443583483763937|tw6580493527772587877|tw4772808355941087689|tw1452249045547114805|tw1053055813050858077|tw8016490087508947919|tw11874015078104903787|tw12929728128968474317|tw5696963219650866010|tw12266983123804328627|tw14064235357704218053|tw17955497651289664841|tw1785545722848297800|tw9022771736150497982|tw9354628554827286300|tw16602475731676317733|tw11009500277833665002|tw9119007763657703352|tw5821446023881748890|tw8999361110102794316|tw6800082235651865970|tw4174988157326721957|tw13749928420932811595|tw3451986085641658288|tw10104406076797082499|tw12002442439153695527|tw4306109973394510504|tw7175570549626569830|tw1571090003576678136|tw5351786607429704648|tw13605198445757739817|tw5163488162590128439|tw15860330590606301073|tw12714295072519901751|tw8344380752261328181|tw17287775757529303879|tw5594439788990884574|tw16225975366621868945|tw14002322666297813922|tw15197871456443735648|tw17883169829874737896|tw17322034382127444105|tw3001523150652663592|tw4455815260234082038|tw9726967370028983165|tw5146182452066334740|tw1244254936217193890|tw7448624426402362233|tw12696170007203452759|tw6402709178410923334|tw4540347201809158197|tw7770689438217834646|tw7687909169994060639|tw1496366459020333605|tw14012451860053492815|tw5518244226407639154|tw266353435529354613|tw6577545190014135058|tw9894881098800834644|tw3187468888616991720|tw11275012052170773228|tw3477907171649969911|tw9648497937807772574|tw9517515586868227508|tw5643388550422153005|tw11487385808094393837|tw12186436387776688135|tw3948512145011392295|tw17078335119033845584|tw7995857052757663713|tw14604647968448794448|tw1612037358983900058|tw8625789219466468966|tw17777760976877296496|tw11133461874414772704|tw4347758875234962815|tw10572945385131962353|tw16343261619890584507|tw18090287226750536201|tw16321193275824765647|tw3127045722965955782|tw15119017765842371094|tw12163575917037087644|tw4215397748557655614|tw2980419048385092232|tw6019298241716348857|tw8946797655612328159|tw12965174977971734994|tw777877265176693487|tw81550249651439077|tw2544361512325176537|tw4581741346495347675|tw15400444480693680169|tw4849309442387873134|tw13308535509965210035|tw8950844119612519897|tw14002177503709619546|tw13073126439959604460|tw11300008791596300781|tw15116678704499348388|tw16550424681194895137|tw365640897177644183|tw6496512318909059412|tw10982851277721374486|tw4251185232147975575|tw11312483313287676120|tw6138409659245521832|tw13642847352263136516|tw14195033599831890450|tw6969081156797322907|tw5726860869132176041|tw8595245707133288348|tw2727491855593657156|tw10989037912691011046|tw1706696896327303708|tw15944452348278464944|tw466306130100527106|tw4663335755957851392|tw10645070209480051724|tw18383268330831231957|tw3790457596689842043|tw7895729213671681111|tw999522161892712666|tw12104843438329949454|tw18366599479486614219|tw4616652874383934068|tw1755156907644176480|tw6329140482064038557|tw5845821825955653124|tw14106137209091864479|tw17040702782049995866|tw14626894258797654036|tw14690079821322449956|tw6134008293828641847|tw1790710841552651403|tw11002588729809811689|tw16219559684411115026|tw9772677298816219937|tw13198956169279754275|tw9134547599975948610|tw9208528759803509142|tw17747472143535397320|tw2747822708462242058|tw11976383130161578183|tw14125425968009884633|tw7275590094266939684|tw13341765709172458827|tw12106800143038583806|tw9246462951841021283|tw17152028827982293286|tw4433374809363182371|tw10412346915896493396|tw10642286980939415068|tw15997320132994800125|tw6739577054114035897|tw14542393710747074694|tw14866831153658175|tw694277667623761798|tw13450042242777269972|tw5594420153707520215|tw13948857033496148087|tw1220138446830984074|tw9436510313155549821|tw11989388112452285132|tw8131853264291088432|tw5830653693068755089|tw18011059062213379967|tw10385440532543618644|tw18418536626478254551|tw17277504506525567769|tw12554787210930826333|tw6001822687368223413|tw380222850304740850|tw2260810156662321154|tw17235721954497733519|tw18000399414002787840|tw5083591329474804720|tw16078524698522137423|tw11140970194130303634|tw16103856587160247384|tw18202330463753393047|tw16254577845183898557|tw5337424060404346623|tw15283182248497584983|tw2570046899954509800|tw768528418900302273|tw8901377239924445244|tw5271449748427606140|tw14826464527187451792|tw12748341208896586221|tw2686452070382451643|tw3359007049752109813|tw11865510696265655284|tw15482133294266182741|tw3171352642845067276|tw13464780625424558655|tw14589976908194998578|tw12105204583497284519|tw12870301678419434976|tw16541298800742159793|tw7946634713702453002|tw12675977733264824519|tw5479249057461873135|tw16303940338084483378|tw16933616862202552234|tw14861136068108581971|tw9307525630341254562|tw15759506360342360759|tw15565203167069219858|tw842595606954504419|tw6184648041904786874|tw8917914579308530412|tw1375646200210380379|tw16068078208498610724|tw151816885358323754|tw6206360638579740309|tw12731286853230502015|tw15448131189980348322|tw12739522144597481134|tw8329579738030302550|tw7936964252480058341|tw2100279098810842303|tw10127928060488408815|tw3283656046444982192|tw659837983807386484|tw9872202728522267154|tw5857499337483578993|tw5444894647354345698|tw11365349150524612646|tw16813650243649626987|tw13928580944405497452|tw10277195455431165933|tw15050603104596591629|tw16318618186153608003|tw6464001545577587586|tw10860423004966881259|tw1233926107139047223|tw12582471597062693015|tw11656523473216919758|tw1995523233204858491|tw18380517400465988406|tw11194995616435400661|tw11820965125004145459|tw6985374535406668046|tw243242971668297406|tw15096416274702525611|tw3782808249220369750|tw14628574129078881615|tw5060991014008337373|tw10519736763068838538|tw10227198606943075899|tw11424829922629671975|tw5386113477401616270|tw6426689043182912405|tw9997750743480430788|tw2572216785117733611|tw1015480592962412976|tw9136458662387708748|tw9602677782829697650|tw12782637148222024409|tw577055081820184877|tw2210486552769286723|tw2903491366545568082|tw511357591176542086|tw12140163181356908736|tw1823233373693327279|tw6776098257678087416|tw6213359974957078725|tw10347444882693512225|tw15399274189348769016|tw4134861273292714453|tw15244035790316831030|tw17011322100610592278|tw10438207007909294959|tw17210054842866276457|tw149280289886476014|tw6404928370979950969|tw15890285030317424180|tw3699535124255359073|tw16400162181380613559|tw3317865879791561330|tw14350330972896565837|tw12138973804965510315|tw8598123072756056164|tw8210739684870822824|tw3560051630376762783|tw5842501041452395644|tw3849673666324431422|tw17611848357750545855|tw8540036853817961412|tw18326114431698072570|tw17040315641157705884|tw9673118284336555722|tw15747699039431899963|tw9165675884746593204|tw11262570781523601594|tw10397924339674698382|tw6489996785716884266|tw9484151951585793789|tw723011208098956026|tw2845815826298205166|tw14563608118449565787|tw10794824060139678617|tw11283012969893480441|tw4920157489487368568|tw14980910742600542019|tw12776272827561077195|tw17201050993779769256|tw15717061132572383192|tw18341986618227213720|tw9517930363135250263|tw16698445100769295999|tw16283362306762887021|tw844390923341470613|tw15931222723088773901|tw10030112938656016009|tw5470795059846585570|tw6673569082834802977|tw11124028415471079053|tw15997229249921076215|tw10365271532769640133|tw9215709850054292082|tw2200739324049279607|tw2005000894430837843|tw18165427185921870131|tw5236664875767676778|tw15360332802087644705|tw14837391575657441798|tw2060097420512899455|tw12099952968478462644|tw8117310087234985294|tw9803737490676705997|tw8124483413514602213|tw3680243930135554011|tw2945452386305672214|tw12625148513739316781|tw11571019299924737803|tw17819383469400809314|tw3623092304674613595|tw6311419352924981698|tw3097578556890099723|tw5836103332802940961|tw13173548746098584819|tw2971655657390032934|tw875650091735374047|tw13095678796190959647|tw11379548583341310976|tw10887457883617495834|tw6541010136020024939|tw10832281218494778399|tw3948784236291829977|tw2866170634942865454|tw5044301662916151973|tw9612030336301639026|tw10195790567409065930|tw9176126765628353448|tw11142492526050162765|tw10940505205812743208|tw17178374483127918824|tw17455316495833780466|tw10758096556016507731|tw17717352485739155781|tw11480840786197969661|tw17119560795858329053|tw12306323516665385879|tw2726164428327490493|tw11822354237502022268|tw4795612678530594495|tw6941516709928633854|tw16843129290149531584|tw7449415954189134386|tw15761944087121070058|tw13685999803515927167|tw4447141006640123460|tw7631138788751976806|tw10443919780460317123|tw4653377843531008726|tw9838845489053738608|tw9443547437385480204|tw17210373685409297542|tw10768949498939136641|tw3164995691108764471|tw9634597328818921441|tw11059025077570737642|tw4755500351312727434|tw6477997782420415003|tw1746502152644184575|tw5801645109579937928|tw13219894403252069286|tw10682393022537581214|tw6509035857475789389|tw11519348220197242334|tw281880534036620408|tw7379203494928791064|tw7355978412963393058|tw14493771448209146805|tw13568831213963525430|tw1025704357634585082
set_option maxRecDepth 100000 in
set_option maxHeartbeats 0 in
theorem PySem.Challenge.cw_copyclerk_k72_runs_that_break_found_holds : PySem.Challenge.rw_copyclerk_k72_runs_that_break_found.Holds := by
 w_on;o_law;z_head;(case hw=>w_witness2)
 k_fill
 refine IT.toX (λ_=>rfl) (K72.walk (l:=YB) rfl rfl (λw h Y=>Y) ?F)
 case F=>
  intro w mg fa h KX G hmg
  refine' K72.all_mk KX G hmg ?D1 ?D2 ?D3 ?D4 ?D5 ?D6 ?D7 ?D8 ?D9 ?D10 ?D11 ?D12 ?D13 ?D14 ?D15 ?D16 ?D17 ?D18 ?D19 ?D20 ?D21 ?D22 ?D23 ?D24 ?D25 ?D26 ?D27 ?D28 ?D29 ?D30 ?D31 ?D32 ?D33 ?D34 ?D35 ?D36 ?D37 ?D38 ?D39 ?D40 ?D41 ?D42 ?D43 ?D44 ?D45 ?D46 ?D47 ?D48 ?D49 ?D50 ?D51 ?D52 ?D53 ?D54 ?D55 ?D56 ?D57 ?D58 ?D59 ?Qt ?Qr ?Qn ?Qp ?Ql ?Qm ?Qo ?Qb ?Qc ?Qd ?Qf ?Qe ?Qa ?Qb1 ?Qz ?Qw ?Qu ?Qx ?Qy ?Qv ?Qk ?Qj ?Qq ?Qi ?Qg ?Qh ?y1 ?x0 ?y2 ?x1 ?y3 ?x2 ?x3 ?x4 ?y4 ?x5 ?y5 ?x6 ?y6 ?y7 ?x7 ?x8 ?w30 ?w33 ?w36 ?z1 ?z2 ?z3 ?z4 ?z5 ?z6 ?z7 ?z8 ?z9 ?z10
  (case Qt=>k_is)
  (case Qb1=>k_is)
  all_goals(try(apply K72.DI.mk (e:=rfl)<;>k_is))
  all_goals(try(apply K72.MI.mk (e:=rfl)<;>k_is))
  (case Qr=>k_is)
  (case Qn=>k_is)
  (case Qp=>k_is)
  (case Ql=>k_is)
  (case Qm=>k_is)
  (case Qo=>k_is)
  (case Qb=>k_is)
  (case Qc=>k_is)
  (case Qd=>k_is)
  (case Qf=>k_is)
  (case Qe=>k_is)
  (case Qa=>k_is)
  (case Qz=>k_is)
  (case Qw=>k_is)
  (case Qu=>k_is)
  (case Qx=>k_is)
  (case Qy=>k_is)
  (case Qv=>k_is)
  (case Qk=>k_is)
  (case Qj=>k_is)
  (case Qq=>k_is)
  (case Qi=>k_is)
  (case Qg=>k_is)
  (case Qh=>k_is)
  (case x0=>k_is)
  (case y1=>k_is)
  (case x1=>k_is)
  (case y2=>k_is)
  (case x2=>k_is)
  (case y3=>k_is)
  (case x3=>k_is)
  (case x4=>k_is)
  (case x5=>k_is)
  (case y4=>k_is)
  (case x6=>k_is)
  (case y5=>k_is)
  (case x7=>k_is)
  (case y7=>k_is)
  (case y6=>k_is)
  (case x8=>k_is)
  (case w30=>k_is)
  (case w33=>k_is)
  (case w36=>k_is)
  (case z1=>k_is)
  (case z2=>k_is)
  (case z3=>k_is)
  (case z4=>k_is)
  (case z5=>k_is)
  (case z6=>k_is)
  (case z7=>k_is)
  (case z8=>k_is)
  (case z9=>k_is)
  (case z10=>k_is)
