import PyProof.Rows.All
import Wide.All
import OpenK.AllK
import Wide.FinOn
import Lean
import PyProof.EqAt
import PyProof.EqKinds
import PyProof.TupleCall
import PyProof.Rows.TupTab
import PyProof.DictRoadsH
import PyProof.DictTable
import PyProof.MeetsStr2
import PyProof.StrLawsTight
import PyProof.StrBlockI
import PyProof.StrWalks
import PyProof.EnumMake
import KE.KIsAll
import KE.KRevSl
import PyProof.Rows.FactsN_isinstance
import KE.KDictOf
import PyProof.AttrMiss
import PyProof.WalksMore
import PyProof.FactsAll.tuple
import PyProof.ListRange
import PyProof.RulesAs
import PyProof.StationsW
import PyProof.ExcClass2
import PyProof.RulesTry
import PyProof.PassesOwn
import OpenK.KRaise
import KE.KTryMore
import PyProof.ExcBaseAll.ValueError
import PyProof.ExcArgs
import PyProof.ExcAttrAll.ValueError
import OpenK.KDescr
import PyProof.NsDelKeeps
import PySem.Challenge.RW_copyclerk_k21_one_deed
set_option bootstrap.genMatcherCode false
set_option genSizeOf false
set_option genSizeOfSpec false
set_option Elab.async false
set_option autoImplicit true
set_option relaxedAutoImplicit true
set_option linter.all false
set_option genSizeOfSpec false
set_option maxHeartbeats 8000000
set_option maxRecDepth 100000
theorem OZ9{a b c:Nat}:a<c->b=c->a<b:=by intros;lia
theorem OZ8{a b c d:Nat}:a+min c d<b->a<b:=by intros;lia
theorem OZ7{a b:Nat}:a<b->(↑a:Int)<(↑b:Int):=by intros;lia
theorem OZ6{a b c:Nat}:a=c->c<=b->a<=b:=by intros;lia
theorem OZ5{a b c d:Nat}:a+min (b+1) (c+1)<d->a+1+min b c<d:=by intros;lia
theorem OZ4{a b c:Nat}:b+a=c->b<c->a-1<a:=by intros;lia
theorem OZ3{a b c:Nat}:a+b=c->a<c->a+1+(b-1)=c:=by intros;lia
theorem OZ2{a b:Nat}:a=b->a<=b:=by intros;lia
theorem OZ1{a b c:Nat}:a=b->b<=c->c=16777216->(↑a:Int)<(2:Int)^63:=by intros;lia
theorem OZ0{a:Int}:¬(0:Int)<=a->a<(0:Int):=by intros;lia
theorem OZZ{a:Nat}:a<=3->a=0\/a=1\/a=2\/a=3:=by intros;lia
theorem OZY{a b c d e f:Nat}:a=c->b=d->c=e->d=f->e=f->a=b:=by intros;lia
theorem OZX{a b c d e f:Nat}:a=c->b=d->c=e->d=f->¬e=f->¬a=b:=by intros;lia
theorem OZW{a b c d e:Nat}:a=d->b=e->d+e<=c->a+b<=c:=by intros;lia
theorem OZV{a:Int}{b:Nat}:(0:Int)<=a->a.toNat<b->a<(↑b:Int):=by intros;lia
theorem OZU{a:Int}{b:Nat}:(0:Int)<=a->a<(↑b:Int)->a.toNat<b:=by intros;lia
theorem OZT{a:Nat}:¬(1:Int)<(↑a:Int)->a<2:=by intros;lia
theorem OZS{a:Int}{b:Nat}{c:Prop}:((0:Int)<=a/\a<(↑b:Int))/\c->a.toNat<b:=by intros;lia
theorem OZR{a b c:Nat}:a=c->b=c->a=b:=by intros;lia
theorem OZQ{a:Prop}{b c d:Nat}:b+c<d->b=d->a:=by intros;lia
theorem OZP{a:Int}{b:Nat}:a+(1:Int)+(↑b:Int)=a+((↑b:Int)+(1:Int)):=by intros;lia
theorem OZO{a:Nat}:0+a=a:=by intros;lia
theorem OZN{a b:Nat}:a<=a+1+b:=by intros;lia
theorem OZM{a b:Nat}:a+1+b-a=b+1:=by intros;lia
theorem OZL{a:Int}:a<(0:Int)->¬(0:Int)<=a:=by intros;lia
theorem OZK{a:Int}:¬a<(0:Int)->a=(↑a.toNat:Int):=by intros;lia
theorem OZJ{a:Nat}:a<=10->-(2:Int)^62<=(↑a:Int)/\(↑a:Int)<=(16777216:Int):=by intros;lia
theorem OZI{a:Int}:(0:Int)<a->a≠(0:Int):=by intros;lia
theorem OZH{a b:Nat}:a<=b->b=16777216->¬(↑a:Int)>=(2:Int)^63:=by intros;lia
theorem OZG{a b:Nat}:a<=b->b=16777216->a<=1099511627776:=by intros;lia
theorem OZF{a b c:Nat}:a+3*(b+1)+5<c->a+1+3*b+5<c:=by intros;lia
theorem OZE{a b:Nat}:min a b=a->a<=b:=by intros;lia
theorem OZD{a b c:Nat}:min (a-b) (c-b)<=c:=by intros;lia
theorem OZC{a:Int}{b c d:Nat}:a<(↑b:Int)->b=c->b<=d->d<2^63->a<(2:Int)^63:=by intros;lia
theorem OZB{a:Int}{b c d:Nat}:-(↑b:Int)<=a->b=c->b<=d->d<2^63->-(2:Int)^63<=a:=by intros;lia
theorem OZA{a b c:Nat}:a=c->c<b->a<=b:=by intros;lia
theorem OZz{a:Nat}:¬(↑a:Int)+(1:Int)=(0:Int):=by intros;lia
theorem OZy{a b c d:Nat}:a=b->b=c->b<=d->d=16777216->(↑a:Int)<(2:Int)^63:=by intros;lia
theorem OZx{a:Prop}{b c d e:Nat}:0=b->b=c->d<c->d<e->a:=by intros;lia
theorem OZw{a b:Nat}:a<b->a+1<b+1:=by intros;lia
theorem OZv{a:Int}:(0:Int)<=a->¬(0:Int)<=-a-(1:Int):=by intros;lia
theorem OZu{a:Int}:-(-a-(1:Int))-(1:Int)=a:=by intros;lia
theorem OZt{a b c d:Nat}:min b c<=60->a+64<d->a+min b c<d:=by intros;lia
theorem OZs{a:Prop}{b c d e:Nat}:b+(c-(b+c-d))=d->b=e->¬(e+c-d<=c/\¬e+c<d)->¬b+c<d->a:=by intros;lia
theorem OZr{a b c:Nat}:a+c=b->b<=a->a=b:=by intros;lia
theorem OZq{a b c d:Nat}:a<c->b=c->c=d->a<b:=by intros;lia
theorem OZp{a b:Nat}:a-b=0->b<=a->a=b:=by intros;lia
theorem OZo{a b c:Nat}:a<=b->b-a=c+1->a<b:=by intros;lia
theorem OZn{a:Int}{b:Nat}:(↑b:Int)<=a->¬a<(↑b:Int):=by intros;lia
theorem OZm{a b:Nat}:¬(↑b:Int)<=(↑a:Int)->a<b:=by intros;lia
theorem OZl{a b:Nat}:¬(↑b:Int)<=(↑a:Int)->(↑a:Int)<(↑b:Int):=by intros;lia
theorem OZk{a:Nat}:¬a+2=0:=by intros;lia
theorem OZj{a:Nat}:¬a+2=1:=by intros;lia
theorem OZi{a b:Nat}:a<b->min a b+(b-a)=b:=by intros;lia
theorem OZh{a b c:Nat}:a<b->b=c->min a b=a:=by intros;lia
theorem OZg{a b c d:Nat}:a<c->a=d->b=c->a<b:=by intros;lia
theorem OZf{a:Nat}:a<=2->a<=100:=by intros;lia
theorem OZe{a:Int}{b:Nat}{c:Prop}:((0:Int)<=a/\a<(↑b:Int))/\c->a=(↑a.toNat:Int):=by intros;lia
theorem OZd{a b:Nat}{c:Prop}:((0:Int)<=(↑a:Int)/\(↑a:Int)<(↑b:Int))/\c->a<b:=by intros;lia
theorem OZc{a b:Nat}:a<=a+b+1:=by intros;lia
theorem OZb{a b:Nat}:a<=b+a+1-b:=by intros;lia
theorem OZa{a b:Nat}:a+b+1-a-b=1:=by intros;lia
theorem OY9{a:Nat}:(1:Int)<(↑a:Int)->¬a<2:=by intros;lia
theorem OY8{a:Nat}:(1:Int)<(↑a:Int)->2<=a:=by intros;lia
theorem OY7{a:Nat}:¬(1:Int)<(↑a:Int)->¬2<=a:=by intros;lia
theorem OY6{a:Nat}:a<2->¬2<=a:=by intros;lia
theorem OY5{a:Nat}:¬a<2->2<=a:=by intros;lia
theorem OY4{a b c:Nat}:a=b->b<c->c<=100->a<16777216:=by intros;lia
theorem OY3{a:Int}:(0:Int)<a->a<=(5000:Int)->a<(1000000000000000000000000000000000000000000000000000000000000:Int):=by intros;lia
theorem OY2{a:Int}:min (a%(3:Int)).toNat 2<=2:=by intros;lia
theorem OY1{a:Nat}:a<4->a=0\/a=1\/a=2\/a=3:=by intros;lia
theorem OY0{a b c d e:Nat}:a<=15+2*c->b<=d->c<4->d<e->e<=2->a+b<16777216:=by intros;lia
theorem OYZ{a b:Nat}:a<=6->b<=1->max a b<=59:=by intros;lia
theorem OYY{a:Nat}{b:Int}:(↑a:Int)*b=(↑(a*b.toNat):Int)->a*b.toNat<=16777216->¬(↑(a*b.toNat):Int) > ((2:Int)^63-(1:Int)) / (8:Int):=by intros;lia
theorem OYX{a b:Nat}:a%2=0->a / 2=b / 2->b%2=0->a%2=b%2:=by intros;lia
theorem OYW{a b:Nat}:a / 2=b / 2->¬a%2=0->¬b%2=0->a%2=b%2:=by intros;lia
theorem OYV{a:Int}:(0:Int)<=a%(4:Int)/\a%(4:Int)<(4:Int)->(1:Int)+a%(4:Int)=(↑((1:Int)+a%(4:Int)).toNat:Int):=by intros;lia
theorem OYU{a:Nat}{b:Int}:(↑a:Int)*b=(↑(a*b.toNat):Int)->a*b.toNat<=16777216->¬(↑(a*b.toNat):Int) > (↑(16777216:Nat):Int):=by intros;lia
theorem OYT{a:Int}{b:Nat}:a<(0:Int)->max (0:Int) (min (a+(↑b:Int)) (↑b:Int))=(↑(a+(↑b:Int)).toNat:Int):=by intros;lia
theorem OYS{a:Int}{b:Nat}:¬a<(0:Int)->max (0:Int) (min a (↑b:Int))=(↑(min a.toNat b):Int):=by intros;lia
theorem OYR{a b c d e f:Nat}:a+min (max b e) (max c f)<d->a+min b c<d:=by intros;lia
theorem OYQ{a b c d e f:Nat}:a+min (max e b) (max f c)<d->a+min b c<d:=by intros;lia
theorem OYP{a:Int}:(0:Int)<=a%(4:Int)/\a%(4:Int)<(4:Int)->a%(4:Int)≠(0:Int)->(0:Int)<=a%(4:Int)-(1:Int):=by intros;lia
theorem OYO{a b:Nat}:a<4->b<4->¬a / 2=0->¬b / 2=0->a / 2=b / 2:=by intros;lia
theorem OYN{a:Nat}{b:Int}:(↑a:Int)*b=(↑(a*b.toNat):Int)->a*b.toNat<=16777216->¬a*b.toNat > 16777216:=by intros;lia
theorem OYM{a b:Nat}:a / 2=0->b / 2=0->a / 2=b / 2:=by intros;lia
theorem OYL{a b:Nat}:a%2=b%2->a / 2=b / 2->a=b:=by intros;lia
theorem OYK{a:Int}:(0:Int)<=a%(4:Int)/\a%(4:Int)<(4:Int)->1<=((1:Int)+a%(4:Int)).toNat:=by intros;lia
theorem OYJ{a:Int}:(0:Int)<=a%(4:Int)/\a%(4:Int)<(4:Int)->((1:Int)+a%(4:Int)).toNat<=4:=by intros;lia
theorem OYI{a:Int}{b:Nat}:¬a<(0:Int)->min a (↑b:Int)=(↑(min a.toNat b):Int):=by intros;lia
theorem OYH{a:Int}:(0:Int)<=a%(4:Int)/\a%(4:Int)<(4:Int)->(a%(4:Int)).toNat<=3:=by intros;lia
theorem OYG{a:Int}:(0:Int)<=a%(10:Int)^Int.toNat (9:Int)->(0:Int)<(1:Int)+a%(10:Int)^Int.toNat (9:Int):=by intros;lia
theorem OYF{a b c:Nat}:(↑a:Int)=(↑b:Int)-(↑c:Int)->(↑a:Int)=(↑b:Int)+(1:Int)-((↑c:Int)+(1:Int)):=by intros;lia
theorem OYE{a b c:Nat}:(↑a:Int)=(↑b:Int)-(↑c:Int)->(↑a:Int)+(1:Int)=(↑b:Int)+(1:Int)-(↑c:Int):=by intros;lia
theorem OYD{a:Int}:(0:Int)<=a%(4:Int)/\a%(4:Int)<(4:Int)->a%(4:Int)-(1:Int)<(3:Int):=by intros;lia
theorem OYC{a:Int}{b:Nat}:max (a+(↑b:Int)) (0:Int)=(↑(a+(↑b:Int)).toNat:Int):=by intros;lia
theorem OYB{a b c d:Nat}:a=d->d+(b-(d+b-c))=c->¬a+b<c->a+b-c<=b:=by intros;lia
theorem OYA{a:Int}:(0:Int)<=a / (1009:Int)/\a / (1009:Int)<=(2147483647:Int)->-(2:Int)^64<a / (1009:Int)+(69621:Int):=by intros;lia
theorem OYz{a:Int}:(0:Int)<=a / (1009:Int)/\a / (1009:Int)<=(2147483647:Int)->a / (1009:Int)+(69621:Int)<(2:Int)^64:=by intros;lia
theorem OYy{a b c d e f:Nat}:a=c->a=d->b=e->d=f->f<=e->a+(b-c)=d+(e-d):=by intros;lia
theorem OYx{a b c:Nat}:a<=1->b<=3->c<=3->max a (max b c)<=3:=by intros;lia
theorem OYw{a b:Nat}{c:Int}:(c+(↑b:Int)).toNat=a->-(↑b:Int)<=c->¬(0:Int)<=c->a<b:=by intros;lia
theorem OYv{a b c d e f:Nat}:a=d->b=e->c=d->c=f->e=f->min a b=c:=by intros;lia
theorem OYu{a b c d e:Nat}:a=b->a=c->a=d->a<=15->c=e->min a b<=16777216:=by intros;lia
theorem OYt{a b c d e:Nat}:a<b->b=c->b=d->c<=e->e=16777216->(↑a:Int)<(2:Int)^63-(1:Int):=by intros;lia
theorem OYs{a:Nat}{b:Int}:(1:Int)+b%(4:Int)=(↑a:Int)->-(2:Int)^62<=(↑a:Int)/\(↑a:Int)<=(16777216:Int):=by intros;lia
theorem OYr{a b c d:Nat}:c<=d->min (a-b) (c-b)<=d:=by intros;lia
theorem OYq{a:Nat}{b:Int}:(0:Int)<=b->b<(0:Int)\/(↑a:Int)<=b->a<=b.toNat:=by intros;lia
theorem OYp{a b:Nat}{c:Int}:(0:Int)<=c->c<(↑b:Int)->c.toNat=a->a<b:=by intros;lia
theorem OYo{a b c d:Nat}:a+64<d->c<=60->a+1+min b c<d:=by intros;lia
theorem OYn{a:Nat}:((-2:Int)+(↑(a+(0+1+1)+1):Int)).toNat=a+1:=by intros;lia
theorem OYm{a:Int}{b:Nat}{c:Prop}{d:Nat}:(0:Int)<=a/\a<(↑b:Int)/\c->d<b->a.toNat<b:=by intros;lia
theorem OYl{a b:Nat}:b<=100->min a b+(b-(a+1))<=16777216:=by intros;lia
theorem OYk{a:Prop}{b:Int}{c:Nat}:b<(0:Int)\/(↑c:Int)<=b->¬(↑c:Int)<=b->¬b<(0:Int)->a:=by intros;lia
theorem OYj{a b:Nat}:b<=2->min a b+(b-(a+1))<=16777216:=by intros;lia
theorem OYi{a b:Nat}:b<=2->min a b+(b-(a+1))<=2:=by intros;lia
theorem OYh{a:Int}{b c:Nat}:a<(0:Int)->c<=b->(a+(↑b:Int)).toNat<=b:=by intros;lia
theorem OYg{a b:Nat}:((↑a:Int)+(↑b:Int)*(1:Int)).toNat=a+b:=by intros;lia
theorem OYf{a:Int}{b c d e:Nat}:-(↑b:Int)<=a->b=c->b<=d->d<2^63->e<b->-(2:Int)^63<=a:=by intros;lia
theorem OYe{a:Int}{b c d e:Nat}:a<(↑b:Int)->b=c->b<=d->d<2^63->e<b->a<(2:Int)^63:=by intros;lia
theorem OYd{a b:Nat}:((↑a:Int)+(1:Int)*(↑b:Int)).toNat=a+b:=by intros;lia
theorem OYc{a b c d:Nat}:a=c->b=d->c<=d->min a b=a:=by intros;lia
theorem OYb{a b c:Nat}:b<c->a+(min b c+1)=a+1+b:=by intros;lia
theorem OYa{a:Int}{b:Nat}:¬(a<(0:Int)\/(↑b:Int)<=a)->a.toNat<b:=by intros;lia
theorem OX9{a b c:Nat}:(↑c:Int)=(0:Int)->a-c=b->a<=b->a=b:=by intros;lia
theorem OX8{a b c:Nat}:a<min b c->b=c->a<b/\a<c:=by intros;lia
theorem OX7{a b c d e f:Nat}:a=c->c<=d->d+e=f->d<f->f<=b->a<b:=by intros;lia
theorem OX6{a b c:Nat}:¬b+c<a->a<=b+(c-(b+c-a)):=by intros;lia
theorem OX5{a:Nat}{b:Int}:(↑a:Int)<=b->¬b<(0:Int)->a<=b.toNat:=by intros;lia
theorem OX4{a:Int}{b:Nat}{c:Prop}:(0:Int)<=a/\a<(↑b:Int)/\c->a.toNat<b:=by intros;lia
theorem OX3{a b:Nat}:a<=1->b<=4->max a (b+1)<=5:=by intros;lia
theorem OX2{a b c d:Nat}:a+3*d+5<c->b<=d->a+3*b+5<c:=by intros;lia
theorem OX1{a b c d:Nat}:a+16*d+200<c->b<=d->a+16*b+200<c:=by intros;lia
theorem OX0{a b c:Nat}:a+16*(b+1)+200<c->a+3+16*b+200<c:=by intros;lia
theorem OXZ{a b c:Nat}:a+16*(b+1)+200<c->a+1+16*b+200<c:=by intros;lia
theorem OXY{a:Int}{b c d:Nat}:-(↑b:Int)<=a->b=c->b<=d->d<2^63->¬a< -(2:Int)^63:=by intros;lia
theorem OXX{a:Int}{b c d:Nat}:a<(↑b:Int)->b=c->b<=d->d<2^63->¬a>=(2:Int)^63:=by intros;lia
theorem OXW{a b c:Nat}:a<b->b=c->a<min b c:=by intros;lia
theorem OXV{a:Nat}:-(-(↑a:Int)-(1:Int))-(1:Int)=(↑a:Int):=by intros;lia
theorem OXU{a b c d:Nat}:a=d->¬c<d->min a b<=c:=by intros;lia
theorem OXT{a:Int}{b:Nat}:a=(0:Int)+(↑b:Int)->a.toNat=b:=by intros;lia
theorem OXS{a b c:Nat}:a<=15+2*c->b<=2->a+b<=15+2*(c+1):=by intros;lia
theorem OXR{a b:Nat}:a<4->b=30->(18:Int)+(2:Int)*(↑a:Int)<(↑b:Int):=by intros;lia
theorem OXQ{a b:Nat}:a<4->b=30->(19:Int)+(2:Int)*(↑a:Int)<(↑b:Int):=by intros;lia
theorem OXP{a b c:Nat}:a<=c->b<=c->max a b<=c:=by intros;lia
theorem OXO{a:Int}:a.natAbs<=18446744073709551615↔-(2:Int)^64<a/\a<(2:Int)^64:=by intros;lia
theorem OXN{a b:Nat}:a<=b->(↑a:Int)-(↑b:Int)<=(0:Int):=by intros;lia
theorem OXM{a b c:Nat}:b-a=c->b<=c->¬c=0->a=0:=by intros;lia
theorem OXL{a:Int}:(0:Int)<a->a<(1000000000000000000000000000000000000000000000000000000000000:Int)->a.natAbs<2^200:=by intros;lia
theorem OXK{a:Int}:(0:Int)<a->a<(1000000000000000000000000000000000000000000000000000000000000:Int)->a.natAbs≠0:=by intros;lia
theorem OXJ{a:Nat}:((-1:Int)+((↑a:Int)+(1:Int))).toNat=a:=by intros;lia
theorem OXI{a:Int}{b c:Nat}:a=(0:Int)+(↑c:Int)->c<b->a<(↑b:Int):=by intros;lia
theorem OXH{a:Int}:(0:Int)<=a->a=(↑a.toNat:Int):=by intros;lia
local macro_rules | `(tactic|ac_rfl)=>`(tactic|conv=>whnf)
local macro_rules|`(tactic|omega)=>`(tactic|first|(with_reducible first|assumption|exact Nat.succ_le_of_lt (by assumption)|exact Nat.le_of_lt (by assumption)|exact Nat.zero_le _|exact Nat.lt_of_lt_of_le (by assumption) (by assumption)|exact Nat.le_trans (by assumption) (by assumption)|exact Nat.succ_le_succ (by assumption)|decide|exact Nat.le_add_right _ _|exact Nat.lt_succ_self _|exact Nat.succ_pos _|exact Nat.lt_of_le_of_lt (by assumption) (by assumption)|exact Int.natCast_nonneg _|exact Nat.add_sub_cancel ..|exact Nat.add_sub_cancel_left ..)|lia)
local macro_rules |`(def $i:declId $s:optDeclSig $v:declVal)=>`(noncomputable def $i:declId $s:optDeclSig $v:declVal)
local macro_rules |`(abbrev $i:declId $s:optDeclSig $v:declVal)=>`(noncomputable abbrev $i:declId $s:optDeclSig $v:declVal)
open Array renaming length_toList->Ym
open Bool renaming and_eq_true->Z8,false_eq_true->Zz,not_eq_true'->Zy,true_and->Zn,false_and->Zh,or_eq_true->YK,and_false->YF,and_true->Yv,false_or->Ww,not_not->Wo
open False renaming elim->Y8
open ForInStep renaming yield->Yz
open Int renaming toNat_natCast->ZA,toNat_of_nonneg->Zb,emod_lt_of_pos->X2,emod_nonneg->XZ,toNat->WL,ediv_nonneg->Wg
open LawfulBEq renaming eq_of_beq->Z3
open List renaming getElem?_eq_some_iff->Z9,getElem?_eq_getElem->Z6,length_map->Z4,getElem?_map->ZX,size_toArray->ZW,mem_of_getElem?->ZT,getElem?_append_right->ZS,mem_cons->ZQ,replicate->ZO,getElem?_append_left->ZM,getElem?_set_self->ZH,drop_eq_getElem_cons->ZG,getElem?_set_ne->ZE,map_cons->ZC,mem_append_right->ZB,lookup_cons->Zw,length_append->Zu,map_map->Zt,length_cons->Zr,not_mem_nil->Zq,mem_cons_of_mem->Zo,take_length->Zm,mem_append->Zl,append_assoc->Zj,append_nil->Ze,map_append->Zd,getElem?_range->Za,getElem?_eq_none->Y9,set_append_right->Y7,mem_singleton->Y2,mem_map->Y0,filterMap_cons->YZ,replicate_succ->YY,getElem?_take_of_lt->YV,length_set->YU,getElem?_cons_succ->YS,range->YO,drop_eq_nil_of_le->YM,take_add_one->YL,mem_of_find?_eq_some->YJ,zipWith->YH,flatten_cons->YC,drop_of_length_le->Yx,mem_cons_self->Yt,contains_iff_mem->Ys,length->Yq,length_drop->Yg,cons_append->Yf,all_eq_true->Ye,any_eq_true->Yd,find?_eq_none->X3,nodup_cons->X1,find?_cons->X0,length_take->XO,getElem_of_mem->XH,map_congr_left->XG,length_nil->XA,lookup->Xx,getElem?_cons_zero->Xt,reverse_cons->Xl,drop_zero->Xj,take_of_length_le->Xf,length_range->Xe,find?_cons_of_pos->Xd,find?_cons_of_neg->Xc,eraseIdx_eq_take_drop_succ->Xb,mem_flatten->W8,drop_length->W7,any_cons->W0,mem_filter->WW,any_map->WO,mem_filterMap->WK,isPrefixOf_iff_prefix->WF,nodup_append->Wz,map_take->Wu,of_mem_zip->Wm,range_succ->Wi,foldl_cons->Wh,map->V3
open Nat renaming le_refl->Z0,ne_of_lt->ZJ,lt_of_lt_of_le->ZI,le_trans->Y6,lt_irrefl->YR,lt_succ_of_lt->YB,lt_succ_self->Yi,zero_le->X9,sub_self->XM,le_succ->Xw,ne_of_gt->WS,le_of_lt->Wr
open Ne renaming symm->Y5
open Option renaming map_eq_some_iff->ZL,isSome_iff_exists->Yo,isNone_iff_eq_none->WD
open Option.some renaming injEq->Z5,inj->ZU
open Prod renaming fst->WX
open Prod.mk renaming injEq->ZZ
open PyProof.Rows renaming slot_tuple_getitem->Zi,callWith_type1->XW,subscriptTail_builtinR->XE,AllBare->WA
open PySem renaming wpAny_bind->Z1,starEach->ZY,mainGlobals->ZV,wpAny_pure->ZN,wpAny_mono->ZF,Program->Zx,Spec->Zv,compareOp->Zs,assignEach->Zk,binaryOp->Y4,compEnvC->Y3,Builtin->YX,attributeBase->YQ,wpAny_truthy_bool->YN,Env->YI,keywordEach->YG,foldedSetIterable->YE,sizeLine_eq->Yw,mem_of_lookup->Yl,swapsWith->Yk,NameKind->Yh,Str->Ya,wpAny_Call_Name_kw->X8,Keyword->X7,call_meets->X5,wpAny_holding->XX,wpAny_newObj_type->XV,backToKw->XT,bootBuiltins->XR,wpAny_execs_cons->XQ,UnaryOp->XD,letOwnedTupleGo->XC,wpAny_passesOwn->XB,sysModules->Xz,sliceBounds->Xu,strIterType->Xs,standAt->Xq,BoolOp->Xg,swapsWithSole->W5,swappedStores->W4,behindInMarks->W3,codeAny->W2,wpAny_execs_nil->WV,codeAny_mono->WQ,wpAny_typeOf->WP,getMethod->WM,ExceptHandler->Wv,PassesOwn->Wt,Operator->Ws,Within->Wp,wpAny_loadPart'->Wl,getItem->Wc,callerA->Wb,valueAt->Wa,noteFrame->V9,setFlight->V8,wpAny_rule->V6,BindsTo->V5,callWith->V4
open PySem.Builtin renaming bitAnd->Xp,bitOr->Wx
open PySem.Builtin.Slice renaming slicePlaces->Yr,sliceAdjust->XL,sliceApplied->WH
open PySem.Builtin.Tuple renaming tupleExact->Yn,tupleItemsOf->WG
open PySem.Calls renaming Name_function_global->XU
open PySem.Challenge renaming rw_copyclerk_k21_one_deed->XY
open PySem.F renaming slot_tuple_mul->XN,slot_tuple_getattribute->XJ,args_tuple_add_2->XF,entry_tuple_add->Xv,slot_tuple_add->Xm,args_tuple_mul_2->WE,entry_tuple_mul->Wy
open PySem.Heap renaming get?_push_of_some->Z2,lt_size->ZP,get?_push_size->Zp,get?_update_other->Yy,SameBut->Xr,get?_update_self->Xa,size_push->We,MadeExcOf->Wd
open PySem.NameKind renaming free->WZ
open PySem.Obj renaming mapSeq->X6
open PySem.Paired renaming length->W6
open PySem.SeqAt renaming EqAt->Yu,RcAt->X4,RcNeAt->Xk
open PySem.Str renaming ofString->YT
open PySem.Value renaming ref->Zc,bool->W9,builtin->WY,str->WN,none->V7
open PySem.W renaming Frag->Z7,nsIn->ZR,findIn->ZK,mg_none_of->ZD,keepIn->Zf,mg_of->Y1,emptyDict->YW,hasDictIn->YD,instObj->YA,fnOf->Yp,plainGet->Yj,exmOne->Yc,kitOne->Yb,hideAll_get->XI,callWith_K->Xy,plainOver->Xo,codeIn->Xn,nsOkIn->Xi,makesIn->WU,plainGet_of->WT,isFn->WR,lookIn->WJ,methodObj->WB,takerIn->Wn,OpenLaw->Wj,InstAt->Wf
open Sum renaming inr->Zg,inl->Wq
open Sum.inr renaming inj->WC
open True renaming intro->WI
namespace IT
open PySem
inductive D where|non|bl (b:Bool)|int (i:Int)|str (x:List Nat)|tup (xs:List D)|lst (xs:List D)
mutual
noncomputable def D.eqb:D->D->Bool
 |.non,y=>match y with | .non=>true | _=>false
 |.bl a,y=>match y with | .bl b=>a==b | .int b=>(if a then 1 else 0)==b | _=>false
 |.int a,y=>match y with | .int b=>a==b | .bl b=>a==(if b then 1 else 0) | _=>false
 |.str a,y=>match y with | .str b=>a==b | _=>false
 |.tup a,y=>match y with | .tup b=>D.eqbs a b | _=>false
 |.lst a,y=>match y with | .lst b=>D.eqbs a b | _=>false
noncomputable def D.eqbs:List D->List D->Bool
 | [],ys=>match ys with | []=>true | _=>false
 |a::r,ys=>match ys with | b::t=>D.eqb a b&&D.eqbs r t | _=>false
end
mutual
noncomputable def D.dep:D->Nat|.tup xs=>D.deps xs+1|.lst xs=>D.deps xs+1|.non | .bl _ | .int _ | .str _=>0
noncomputable def D.deps:List D->Nat| []=>0|x::xs=>max (D.dep x) (D.deps xs)
end
def ziG(a b:D):Bool:=decide (min a.dep b.dep<=60)
inductive R where|d (x:D)|loc (l:Nat)
inductive Ob where|lst (xs:List D)|fro (xs:List D)|ins (c:Str) (fs:List (Str×R))|ols (ls:List Nat)|rcd (fs:List (Str×R))
def Ob.items:Ob->List D|.lst xs=>xs|.fro xs=>xs|.ins _ _=>[]|.ols _=>[]|.rcd _=>[]
def Ob.isL:Ob->Bool|.lst _=>true|.fro _=>true|_=>false
inductive Ite where|r (x:R)|en (i:Int) (x:R)
abbrev dI(x:D):Ite:=.r (.d x)
abbrev Sto:=List Ob
abbrev M(α:Type):=Sto->Option (α×Sto)
def ok{α:Type}(a:α):M α:=λh=>some (a,h)
def bnd{α β:Type}(x:M α)(f:α->M β):M β:=λh=>match x h with|some (a,h1)=>f a h1|none=>none
theorem zaf{α:Type}{z:α}{P:Prop}(e:none=some z):P:=by cases e
def rd:R->M D
 |.d x=>ok x
 |.loc l=>λh=>match h[l]? with
  |some o=>if o.isL then some (.lst o.items,h) else none|none=>none
def fz:R->M D
 |.d x=>ok x
 |.loc l=>λh=>match h[l]? with
  |some o=>if o.isL then some (.lst o.items,h.set l (.fro o.items)) else none|none=>none
inductive Bo where|add | sub | mul | fdiv | mod | pow | band | bor
inductive Co where|eq | ne | lt | le | gt | ge | isin | notin | isN | isnotN
inductive Bi where|len | tuple | int
inductive Me where|append | pop | popAt | clear | extend
inductive Lm where|count | index | countT
inductive Tg where|name (i:Nat)|tup (ts:List Tg)
set_option genInjectivity false
mutual
inductive E where|con (d:D)|var (i:Nat)|bin (o:Bo) (a b:E)|neg (a:E)|cmp (o:Co) (a b:E)|chn (o o':Co) (a b c:E)|and (a b:E)|or (a b:E)|not (a:E)|ife (c:T) (a b:E)|tup (es:List E)|lst (m:Bool) (l:L)|idx (a i:E)|sli (a lo hi:E)|call (f:Nat) (es:List E)|bi (b:Bi) (es:List E)|me (m:Me) (o:E) (es:List E)|glo (d:D)|lm (m:Lm) (o a:E)|dix (a k:E)|fld (o:E) (f:Str)|make (c:Str) (f:Nat) (es:List E)|mc (c m:Str) (f:Nat) (o:E) (es:List E)|lstO (tg:Tg) (it:I) (c:List T) (el:E)|oix (a i:E)|olen (a:E)|rnew (ks:List Str) (es:List E)|rix (o:E) (k:Str)|stuck
inductive T where|val (e:E)|and (a b:T)|or (a b:T)|not (a:T)
inductive L where|disp (es:List E)|comp (tg:Tg) (it:I) (c:List T) (el:E)|of (e:E)|cat (a b:E)|rev (e:E)
inductive I where|seq (e:E)|rng (e:E)|enu (e:E)
end
set_option genInjectivity true
def big:Nat:=16777216
def fit(n:Nat):Bool:=decide (n<=big)
def zjq(i:Int):Bool:=Nat.ble i.natAbs 18446744073709551615
theorem zfY{i:Int}:zjq i=true↔-(2^64)<i/\i<2^64:=by unfold zjq;rw[Nat.ble_eq];exact OXO
def wide:Int:=1000000000000000000000000000000000000000000000000000000000000
def bop:Bo->D->D->Option D
 |.add,.int a,.int b=>some (.int (a+b))|.sub,.int a,.int b=>some (.int (a-b))
 |.mul,.int a,.int b=>if zjq a||zjq b then some (.int (a*b)) else none
 |.fdiv,.int a,.int b=>if decide (0<b)&&decide (b<wide) then some (.int (a / b)) else none|.mod,.int a,.int b=>if decide (0<b) then some (.int (a%b)) else none|.add,.str a,.str b=>if fit (a.length+b.length) then some (.str (a++b)) else none|.pow,.int a,.int b=>if decide (0<=b)&&decide (b<=1000000)&&decide (a.natAbs<2^64) then some (.int (a^b.toNat)) else none|.band,.int a,.int b=>if decide (0<=a)&&decide (0<=b) then some (.int (a.toNat &&& b.toNat:Nat)) else none|.bor,.int a,.int b=>if decide (0<=a)&&decide (0<=b) then some (.int (a.toNat ||| b.toNat:Nat)) else none|.add,.lst a,.lst b=>if fit (a.length+b.length) then some (.lst (a++b)) else none|.add,.tup a,.tup b=>if fit (a.length+b.length) then some (.tup (a++b)) else none|.mul,.str a,.int b=>if decide (b=0) then some (.str []) else if decide (b=1) then some (.str a) else none
 |.mul,.tup a,.int b=>if a.isEmpty||decide (b<0)||decide (2^24<b)||!fit (a.length*b.toNat) then none else some (.tup (ZO b.toNat a).flatten)
 |_,_,_=>none
def fnd(y:List Nat):List Nat->Option Nat
 | []=>if y.isPrefixOf [] then some 0 else none
 |c::r=>if y.isPrefixOf (c::r) then some 0 else match fnd y r with
  |some i=>some (i+1)|none=>none
def zay:D->Bool|.non=>true|_=>false
def items:D->Option (List D)|.tup xs=>some xs|.lst xs=>some xs|_=>none
def cop:Co->D->D->Option D
 |.eq,a,b=>if ziG a b then some (.bl (a.eqb b)) else none|.ne,a,b=>if ziG a b then some (.bl (!a.eqb b)) else none|.lt,.int a,.int b=>some (.bl (decide (a<b)))|.le,.int a,.int b=>some (.bl (decide (a<=b)))|.gt,.int a,.int b=>some (.bl (decide (b<a)))|.ge,.int a,.int b=>some (.bl (decide (b<=a)))
 | .isin,a,b=>match items b with
  |some xs=>if decide (a.dep<=60) then some (.bl (xs.any λy=>y.eqb a)) else none
  |none=>match b,a with
   |.str x,.str y=>some (.bl (fnd y x).isSome)|_,_=>none
 | .notin,a,b=>match items b with
  |some xs=>if decide (a.dep<=60) then some (.bl (!(xs.any λy=>y.eqb a))) else none
  |none=>match b,a with
   |.str x,.str y=>some (.bl (!(fnd y x).isSome))|_,_=>none
 |.isN,a,.non=>some (.bl (zay a))|.isnotN,a,.non=>some (.bl (!zay a))|.isN,.bl a,.bl b=>some (.bl (a==b))|.isnotN,.bl a,.bl b=>some (.bl (a != b))|_,_,_=>none
def ixn(n:Nat)(i:Int):Option Nat:=if 0<=i then(if i<n then some i.toNat else none) else if -(n:Int)<=i then some (i+n).toNat else none
def at'{α:Type}(xs:List α)(i:Int):Option α:=match ixn xs.length i with|some j=>xs[j]?|none=>none
def idxD:D->D->Option D
 |.tup xs,.int i=>at' xs i|.lst xs,.int i=>at' xs i
 |.str z,.int i=>if fit z.length then(match at' z i with
  |some c=>some (.str [c])
  |none=>none) else none
 |_,_=>none
def revD:D->Option (List D)|.lst a=>some a.reverse|_=>none
def catD:D->D->Option (List D)|.lst a,.lst b=>if fit (a.length+b.length) then some (a++b) else none|_,_=>none
def sIx(n d:Nat):Option Int->Nat|none=>d|some v=>if v<0 then(v+(n:Int)).toNat else min v.toNat n
def cut{α:Type}(xs:List α)(lo hi:Option Int):List α:=(xs.drop (sIx xs.length 0 lo)).take (sIx xs.length xs.length hi-sIx xs.length 0 lo)
def part:D->Option (Option Int)|.non=>some none|.int i=>some (some i)|_=>none
def cutD(x:D)(lo hi:Option Int):Option D:=match x with|.tup xs=>some (.tup (cut xs lo hi))|.lst xs=>some (.lst (cut xs lo hi))|.str xs=>if fit xs.length then some (.str (cut xs lo hi)) else none|_=>none
def sliD(x l u:D):Option D:=match part l,part u with|some lo,some hi=>cutD x lo hi|_,_=>none
def tru:D->Option Bool|.non=>some false|.bl b=>some b|.int i=>some (i != 0)|.str x=>if fit x.length then some (!x.isEmpty) else none|.tup xs=>some (!xs.isEmpty)|.lst xs=>some (!xs.isEmpty)
def biD:Bi->List D->Option D|.len,[.tup xs]=>some (.int xs.length)|.len,[.lst xs]=>some (.int xs.length)|.len,[.str xs]=>if fit xs.length then some (.int xs.length) else none|.tuple,[.lst xs]=>some (.tup xs)|.tuple,[.tup xs]=>some (.tup xs)|.int,[.bl b]=>some (.int (if b then 1 else 0))|.int,[.int i]=>some (.int i)|_,_=>none
def lmD:Lm->D->D->Option D
 |.count,.lst xs,d=>if decide (d.dep<=60) then some (.int (xs.countP λy=>y.eqb d)) else none
 |.index,.lst xs,d=>if decide (d.dep<=60) then(match xs.findIdx? λy=>y.eqb d with
  |some j=>some (.int j)
  |none=>none) else none
 |.countT,.tup xs,d=>if decide (d.dep<=60) then some (.int (xs.countP λy=>y.eqb d)) else none|_,_,_=>none
def prs:List D->Option (List (List Nat×D))
 | []=>some []
 |.tup [.str a,v]::r=>match prs r with
  |some l=>some ((a,v)::l)|none=>none
 |_=>none
def dixD:D->D->Option D
 |.tup xs,.str k=>match prs xs with
  |some l=>if fit l.length&&decide (l.map WX).Nodup then l.lookup k else none|none=>none
 |_,_=>none
abbrev Env:=List (Option R)
mutual
noncomputable def za3:Tg->R->Env->M Env
 |.name i,r,σ=>ok (σ.set i (some r))
 |.tup ts,r,σ=>bnd (rd r) λd=>match d with
  |.tup xs=>bindTs ts xs σ
  |_=>λ_=>none
noncomputable def bindTs:List Tg->List D->Env->M Env
 | [],xs,σ=>match xs with
  | []=>ok σ
  |_=>λ_=>none
 |t::ts,xs,σ=>match xs with
  |x::xs=>bnd (za3 t (.d x) σ) λσ'=>bindTs ts xs σ'
  |_=>λ_=>none
end
def zax:Tg->Ite->Env->M Env
 |tg,.r x,σ=>za3 tg x σ
 |.tup [a,b],.en i x,σ=>bnd (za3 a (.d (.int i)) σ) λσ'=>za3 b x σ'
 |_,_,_=>λ_=>none
mutual
noncomputable def D.same:D->D->Bool
 |.non,y=>match y with | .non=>true | _=>false
 |.bl a,y=>match y with | .bl b=>a==b | _=>false
 |.int a,y=>match y with | .int b=>a==b | _=>false
 |.str a,y=>match y with | .str b=>a==b | _=>false
 |.tup a,y=>match y with | .tup b=>D.sames a b | _=>false
 |.lst a,y=>match y with | .lst b=>D.sames a b | _=>false
noncomputable def D.sames:List D->List D->Bool
 | [],ys=>match ys with | []=>true | _=>false
 |a::r,ys=>match ys with | b::t=>D.same a b&&D.sames r t | _=>false
end
mutual
theorem D.same_eq:∀x y:D,D.same x y=true->x=y|.non,.non,_=>rfl|.bl a,.bl b,h=>by simp[D.same] at h;rw[h]|.int a,.int b,h=>by simp[D.same] at h;rw[h]|.str a,.str b,h=>by simp[D.same] at h;rw[h]|.tup a,.tup b,h=>by simp[D.same] at h;rw[D.sames_eq a b h]|.lst a,.lst b,h=>by simp[D.same] at h;rw[D.sames_eq a b h]|.non,.bl _,h | .non,.int _,h | .non,.str _,h | .non,.tup _,h | .non,.lst _,h=>by simp[D.same] at h|.bl _,.non,h | .bl _,.int _,h | .bl _,.str _,h | .bl _,.tup _,h | .bl _,.lst _,h=>by simp[D.same] at h|.int _,.non,h | .int _,.bl _,h | .int _,.str _,h | .int _,.tup _,h | .int _,.lst _,h=>by simp[D.same] at h|.str _,.non,h | .str _,.bl _,h | .str _,.int _,h | .str _,.tup _,h | .str _,.lst _,h=>by simp[D.same] at h|.tup _,.non,h | .tup _,.bl _,h | .tup _,.int _,h | .tup _,.str _,h | .tup _,.lst _,h=>by simp[D.same] at h|.lst _,.non,h | .lst _,.bl _,h | .lst _,.int _,h | .lst _,.str _,h | .lst _,.tup _,h=>by simp[D.same] at h
theorem D.sames_eq:∀x y:List D,D.sames x y=true->x=y| [],[],_=>rfl|a::r,b::t,h=>by simp[D.sames] at h;rw[D.same_eq a b h.1,D.sames_eq r t h.2]| [],_::_,h=>by simp[D.sames] at h|_::_,[],h=>by simp[D.sames] at h
end
mutual
theorem D.same_refl:∀x:D,D.same x x=true|.non=>rfl|.bl a=>by simp[D.same]|.int a=>by simp[D.same]|.str a=>by simp[D.same]|.tup a=>by simp[D.same];exact D.sames_refl a|.lst a=>by simp[D.same];exact D.sames_refl a
theorem D.sames_refl:∀x:List D,D.sames x x=true| []=>rfl|a::r=>by simp[D.sames];exact⟨D.same_refl a,D.sames_refl r⟩
end
mutual
noncomputable def D.hk:D->Bool|.int _=>true|.str _=>true|.tup xs=>D.hks xs|.non | .bl _ | .lst _=>false
noncomputable def D.hks:List D->Bool| []=>true|x::r=>D.hk x&&D.hks r
end
def znO:List (D×D)->List (D×D)->Bool
 | [],ys=>ys.isEmpty
 |p::r,ys=>match ys with
  |q::t=>p.1.same q.1&&p.2.same q.2&&znO r t| []=>false
def ltS:List Nat->List Nat->Bool
 | [],ys=>match ys with | []=>false | _=>true
 |a::r,ys=>match ys with | b::t=>if a=b then ltS r t else decide (a<b) | []=>false
mutual
noncomputable def D.lt:D->D->Option Bool
 |.int a,y=>match y with | .int b=>some (decide (a<b)) | _=>none
 |.str a,y=>match y with | .str b=>some (ltS a b) | _=>none
 |.tup a,y=>match y with | .tup b=>D.lts a b | _=>none
 |.non,_=>none|.bl _,_=>none|.lst _,_=>none
noncomputable def D.lts:List D->List D->Option Bool
 | [],ys=>match ys with | []=>some false | _=>some true
 |a::r,ys=>match ys with | b::t=>if D.same a b then D.lts r t else D.lt a b | []=>some false
end
def apart:List D->Bool| []=>true|x::r=>(r.all λy=>!x.same y)&&apart r
def once:List D->List D
 | []=>[]
 |x::r=>x::(once r).filter λy=>!x.same y
def Ob.same:Ob->Ob->Bool
 |.ols a,o=>match o with
  |.ols b=>a==b|_=>false
 |.ins _ _,_=>false
 |.rcd _,o=>match o with
  |.rcd _=>true|_=>false
 |.lst a,o=>o.isL&&D.sames a o.items|.fro a,o=>o.isL&&D.sames a o.items
def zaM(l:Option Nat)(h h':Sto):Bool:=match l with
 |none=>true
 |some l=>match h[l]?,h'[l]? with
  |some o,some o'=>o.same o'|_,_=>false
def zaO{α:Type}(l:Option Nat)(f:Ite->M (Option α)):List Ite->M (List α)
 | []=>ok []
 |x::xs=>λh=>match f x h with
  |some (o,h1)=>if zaM l h h1 then bnd (zaO l f xs) (λys=>ok (match o with | some y=>y::ys | none=>ys)) h1 else none|none=>none
def zcq(lo:Int):Nat->List D|0=>[]|n+1=>.int lo::zcq (lo+1) n
def opt{α:Type}(o:Option α):M α:=λh=>match o with|some a=>some (a,h)|none=>none
def alloc(xs:List D):M R:=λh=>some (.loc h.length,h++[.lst xs])
structure Wk where
 xs:List Ite
 l:Option Nat
def wkOf(r:R)(d:D):M Wk:=match items d with
 |some xs=>ok ⟨xs.map dI,match r with | .loc l=>some l | .d _=>none⟩
 |none=>match d with
  |.str x=>if fit x.length then ok ⟨(x.map λc=>D.str [c]).map dI,none⟩ else λ_=>none
  |_=>λ_=>none
def zbK(r:R):M (Option (List Nat)):=λh=>match r with
 |.loc l=>match h[l]? with
  |some (.ols ls)=>some (some ls,h)|_=>some (none,h)
 |.d _=>some (none,h)
def zbp(r:R):M Wk:=bnd (zbK r) λo=>match o with
 |some ls=>ok ⟨ls.map λl=>.r (.loc l),match r with | .loc l=>some l | .d _=>none⟩
 |none=>bnd (rd r) λd=>wkOf r d
def zav(i:Int):List Ite->Option (List Ite)
 | []=>some []
 |.r x::t=>match zav (i+1) t with
  |some l=>some (.en i x::l)|none=>none
 |.en _ _::_=>none
def isLs:R->Bool|.loc _=>true|.d (.lst _)=>true|_=>false
def zlC(r:R):M Wk:=if isLs r then bnd (zbp r) λw=>match zav 0 w.xs with
  |some l=>ok ⟨l,w.l⟩
  |none=>λ_=>none
 else λ_=>none
def zgY(r:R):M Wk:=match r with
 |.d (.int n)=>if decide (-(2^62)<=n)&&decide (n<=16777216) then ok ⟨(zcq 0 n.toNat).map dI,none⟩ else λ_=>none
 |_=>λ_=>none
mutual
noncomputable def Tg.slots:Tg->List Nat|.name i=>[i]|.tup ts=>Tg.slotss ts
noncomputable def Tg.slotss:List Tg->List Nat| []=>[]|t::ts=>t.slots++Tg.slotss ts
end
def clr:List Nat->Env->Env| [],σ=>σ|i::r,σ=>clr r (σ.set i none)
abbrev Calls:=Nat->List R->M R
def zf2(x:R):M Unit:=λh=>match x with
 |.loc l=>match h[l]? with
  |some o=>if o.isL then some ((),h) else none|none=>none
 |.d _=>none
def putF(f:Str)(v:R):List (Str×R)->List (Str×R)| []=>[(f,v)]|(g,x)::r=>if g=f then(g,v)::r else(g,x)::putF f v r
def getA(x:R)(f:Str):M R:=λh=>match x with
 | .loc l=>match h[l]? with
  |some (.ins _ fs)=>match fs.lookup f with
   |some r=>some (r,h)|none=>none
  |_=>none
 |.d _=>none
def setA(x:R)(f:Str)(v:R):M Unit:=λh=>match x with
 |.loc l=>match h[l]? with
  |some (.ins c fs)=>if(fs.lookup f).isSome=true/\fs.length<900 then some ((),h.set l (.ins c (putF f v fs))) else none|_=>none
 |.d _=>none
def setN(x:R)(c f:Str)(v:R):M Unit:=λh=>match x with
 |.loc l=>match h[l]? with
  |some (.ins c' fs)=>if c'=c/\fs.length<900 then some ((),h.set l (.ins c' (putF f v fs))) else none|_=>none
 |.d _=>none
def isA(x:R)(c m:Str):M Unit:=λh=>match x with
 |.loc l=>match h[l]? with
  |some (.ins c' fs)=>if c'=c/\(fs.lookup m).isNone then some ((),h) else none|_=>none
 |.d _=>none
def rNew:M R:=λh=>some (.loc h.length,h++[.rcd []])
def zkU(x:R)(ks:List Str)(rs:List R):M R:=λh=>match x with
 |.loc l=>match h[l]? with
  |some (.rcd fs)=>if fs.isEmpty=true/\ks.length=rs.length/\ks.Nodup/\ks≠[]/\ks.length<=15 then some (.loc l,h.set l (.rcd (ks.zip rs))) else none|_=>none
 |.d _=>none
def rGet(x:R)(k:Str):M R:=λh=>match x with
 | .loc l=>match h[l]? with
  |some (.rcd fs)=>match fs.lookup k with
   |some r=>some (r,h)|none=>none
  |_=>none
 |.d _=>none
def rSet(x:R)(k:Str)(v:R):M Unit:=λh=>match x with
 |.loc l=>match h[l]? with
  |some (.rcd fs)=>if(fs.lookup k).isSome=true/\(fs.map WX).Nodup/\fs.length<=15 then some ((),h.set l (.rcd (putF k v fs))) else none|_=>none
 |.d _=>none
def newA(c:Str):M R:=λh=>some (.loc h.length,h++[.ins c []])
def zbQ(x:R):M Nat:=λh=>match x with
 |.loc l=>match h[l]? with
  |some (.ins _ _)=>some (l,h)|some (.lst _)=>some (l,h)|_=>none
 |.d _=>none
def allocO(ls:List Nat):M R:=λh=>some (.loc h.length,h++[.ols ls])
def meth:Me->R->List R->M R
 |.append,.loc l,[r]=>bnd (fz r) λd h=>match h[l]? with
  |some (.lst xs)=>if decide (xs.length<big) then some (.d .non,h.set l (.lst (xs++[d]))) else none|_=>none
 | .pop,.loc l,[]=>λh=>match h[l]? with
  |some (.lst xs)=>match xs[xs.length-1]? with
   |some y=>some (.d y,h.set l (.lst xs.dropLast))|none=>none
  |_=>none
 | .popAt,.loc l,[.d (.int i)]=>λh=>if decide (-(2^63)<=i)&&decide (i<2^63) then match h[l]? with
  | some (.lst xs)=>match ixn xs.length i with
   |some k=>match xs[k]? with
    |some y=>some (.d y,h.set l (.lst (xs.eraseIdx k)))|none=>none
   |none=>none
  |_=>none
  else none
 |.clear,.loc l,[]=>λh=>match h[l]? with
  |some (.lst xs)=>some (.d .non,h.set l (.lst []))|_=>none
 | .extend,.loc l,[r]=>bnd (rd r) λd h=>match d with
  |.lst ys=>match h[l]? with
   |some (.lst xs)=>if fit (xs.length+ys.length) then some (.d .non,h.set l (.lst (xs++ys))) else none|_=>none
  |_=>none
 |_,_,_=>λ_=>none
mutual
noncomputable def ev(Γ:Calls):E->Env->M R
 |.con d,_=>ok (.d d)
 |.var i,σ=>λh=>match σ[i]? with
  |some (some r)=>some (r,h)|_=>none
 |.bin o a b,σ=>bnd (ev Γ a σ) λx=>bnd (ev Γ b σ) λy=>bnd (rd x) λx=>bnd (rd y) λy=>bnd (opt (bop o x y)) λz=>ok (.d z)
 |.neg a,σ=>bnd (ev Γ a σ) λx=>match x with
  |.d (.int i)=>ok (.d (.int (-i)))
  |_=>λ_=>none
 |.cmp o a b,σ=>bnd (ev Γ a σ) λx=>bnd (ev Γ b σ) λy=>bnd (rd x) λx=>bnd (rd y) λy=>bnd (opt (cop o x y)) λz=>ok (.d z)
 |.chn o o' a b c,σ=>bnd (ev Γ a σ) λx=>bnd (ev Γ b σ) λy=>bnd (rd x) λx1=>bnd (rd y) λy1=>bnd (opt (cop o x1 y1)) λz=>bnd (opt (tru z)) λt=>if t then bnd (ev Γ c σ) λw=>bnd (rd y) λy2=>bnd (rd w) λw2=>bnd (opt (cop o' y2 w2)) λz2=>ok (.d z2) else ok (.d z)
 |.and a b,σ=>bnd (ev Γ a σ) λx=>match x with
  |.d (.bl c)=>if c then ev Γ b σ else ok (.d (.bl false))
  |_=>λ_=>none
 |.or a b,σ=>bnd (ev Γ a σ) λx=>match x with
  |.d (.bl c)=>if c then ok (.d (.bl true)) else ev Γ b σ
  |_=>λ_=>none
 |.not a,σ=>bnd (ev Γ a σ) λx=>bnd (rd x) λd=>bnd (opt (tru d)) λt=>ok (.d (.bl (!t)))
 |.ife c a b,σ=>bnd (tv Γ c σ) λt=>if t then ev Γ a σ else ev Γ b σ
 |.tup es,σ=>bnd (evs Γ es σ) λrs=>bnd (fzs rs) λds=>ok (.d (.tup ds))
 |.lst m l,σ=>bnd (evL Γ l σ) λxs=>if m then alloc xs else ok (.d (.lst xs))
 |.idx a i,σ=>bnd (ev Γ a σ) λx=>bnd (ev Γ i σ) λy=>bnd (rd x) λx=>bnd (rd y) λy=>bnd (opt (idxD x y)) λz=>ok (.d z)
 |.sli a lo hi,σ=>bnd (ev Γ a σ) λx=>bnd (ev Γ lo σ) λl=>bnd (ev Γ hi σ) λu=>bnd (rd x) λx=>bnd (rd l) λl=>bnd (rd u) λu=>bnd (opt (sliD x l u)) λz=>ok (.d z)
 |.call f es,σ=>bnd (evs Γ es σ) λrs=>Γ f rs
 |.bi b es,σ=>bnd (evs Γ es σ) λrs=>bnd (rds rs) λds=>bnd (opt (biD b ds)) λz=>ok (.d z)
 |.me m o es,σ=>bnd (ev Γ o σ) λx=>bnd (zf2 x) λ_=>bnd (evs Γ es σ) λrs=>meth m x rs
 |.glo d,_=>ok (.d d)
 |.lm m o a,σ=>bnd (ev Γ o σ) λx=>bnd (rd x) λ_=>bnd (ev Γ a σ) λy=>bnd (rd x) λx=>bnd (rd y) λy=>bnd (opt (lmD m x y)) λz=>ok (.d z)
 |.dix a k,σ=>bnd (ev Γ a σ) λx=>bnd (ev Γ k σ) λy=>bnd (rd x) λx=>bnd (rd y) λy=>bnd (opt (dixD x y)) λz=>ok (.d z)
 |.fld o f,σ=>bnd (ev Γ o σ) λx=>getA x f
 |.make c f es,σ=>bnd (evs Γ es σ) λrs=>bnd (newA c) λx=>bnd (Γ f (x::rs)) λr=>match r with
  |.d .non=>ok x
  |_=>λ_=>none
 |.mc c m f o es,σ=>bnd (ev Γ o σ) λx=>bnd (isA x c m) λ_=>bnd (evs Γ es σ) λrs=>Γ f (x::rs)
 |.lstO tg it c el,σ=>bnd (evI Γ it σ) λw=>bnd (zaO w.l (λx=>bnd (zax tg x (clr tg.slots σ)) λσ'=>bnd (tvs Γ c σ') λt=>if t then bnd (ev Γ el σ') λr=>bnd (zbQ r) λd=>ok (some d) else ok none) w.xs) λls=>allocO ls
 | .oix a i,σ=>bnd (ev Γ a σ) λx=>bnd (ev Γ i σ) λy=>bnd (zbK x) λo=>match o,y with
  |some ls,.d (.int k)=>match at' ls k with
   |some l=>ok (.loc l)
   |none=>λ_=>none
  |_,_=>λ_=>none
 |.olen a,σ=>bnd (ev Γ a σ) λx=>bnd (zbK x) λo=>match o with
  |some ls=>ok (.d (.int ls.length))
  |none=>λ_=>none
 |.rnew ks es,σ=>bnd rNew λx=>bnd (evs Γ es σ) λrs=>zkU x ks rs
 |.rix o k,σ=>bnd (ev Γ o σ) λx=>rGet x k
 |.stuck,_=>λ_=>none
noncomputable def evs(Γ:Calls):List E->Env->M (List R)
 | [],_=>ok []
 |e::es,σ=>bnd (ev Γ e σ) λr=>bnd (evs Γ es σ) λrs=>ok (r::rs)
noncomputable def tv(Γ:Calls):T->Env->M Bool
 |.val e,σ=>bnd (ev Γ e σ) λr=>bnd (rd r) λd=>opt (tru d)
 |.and a b,σ=>bnd (tv Γ a σ) λt=>if t then tv Γ b σ else ok false
 |.or a b,σ=>bnd (tv Γ a σ) λt=>if t then ok true else tv Γ b σ
 |.not a,σ=>bnd (tv Γ a σ) λt=>ok (!t)
noncomputable def tvs(Γ:Calls):List T->Env->M Bool
 | [],_=>ok true
 |c::cs,σ=>bnd (tv Γ c σ) λt=>if t then tvs Γ cs σ else ok false
noncomputable def evL(Γ:Calls):L->Env->M (List D)
 |.disp es,σ=>bnd (evs Γ es σ) λrs=>fzs rs
 |.comp tg it c el,σ=>bnd (evI Γ it σ) λw=>zaO w.l (λx=>bnd (zax tg x (clr tg.slots σ)) λσ'=>bnd (tvs Γ c σ') λt=>if t then bnd (ev Γ el σ') λr=>bnd (fz r) λd=>ok (some d) else ok none) w.xs
 |.of e,σ=>bnd (ev Γ e σ) λr=>bnd (rd r) λd=>opt (items d)
 |.rev e,σ=>bnd (ev Γ e σ) λr=>bnd (rd r) λd=>opt (revD d)
 |.cat a b,σ=>bnd (ev Γ a σ) λx=>bnd (ev Γ b σ) λy=>bnd (rd x) λx=>bnd (rd y) λy=>opt (catD x y)
noncomputable def evI(Γ:Calls):I->Env->M Wk
 |.seq e,σ=>bnd (ev Γ e σ) λr=>zbp r
 |.rng e,σ=>bnd (ev Γ e σ) λr=>zgY r
 |.enu e,σ=>bnd (ev Γ e σ) λr=>zlC r
noncomputable def fzs:List R->M (List D)
 | []=>ok []
 |r::rs=>bnd (fz r) λd=>bnd (fzs rs) λds=>ok (d::ds)
noncomputable def rds:List R->M (List D)
 | []=>ok []
 |r::rs=>bnd (rd r) λd=>bnd (rds rs) λds=>ok (d::ds)
end
set_option genInjectivity false in
inductive S where|asg (tg:Tg) (e:E)|setI (o i e:E)|setF (o:E) (f:Str) (e:E)|setN (c:Str) (o:E) (f:Str) (e:E)|exp (e:E)|ife (c:T) (a b:List S)|for (tg:Tg) (it:I) (body:List S)|ret (e:E)|retN|brk|cnt|rai (c:Nat) (es:List E)|setR (o:E) (k:Str) (e:E)|tryv (f:Nat) (es:List E) (c:Nat) (i j:Nat) (ys:List (Str×Bool))|stuck
inductive Fl where|nx | ret (r:R) | brk | cnt
def zf8(x:R)(i:D)(d:D):M Unit:=λh=>match x,i with
 | .loc l,.int k=>match h[l]? with
  |some (.lst xs)=>match ixn xs.length k with
   |some j=>some ((),h.set l (.lst (xs.set j d)))|none=>none
  |_=>none
 |_,_=>none
def loop(l:Option Nat)(f:Ite->Env->M (Fl×Env)):List Ite->Env->M (Fl×Env)
 | [],σ=>ok (.nx,σ)
 | x::xs,σ=>λh=>match f x σ h with
  |some ((fl,σ1),h1)=>match fl with
   |.ret r=>some ((.ret r,σ1),h1)|.brk=>some ((.nx,σ1),h1)|_=>if zaM l h h1 then loop l f xs σ1 h1 else none
  |none=>none
def xof(f:Nat):Nat:=f+1000
def zkY(c:Nat)(r:R):Bool:=match r with|.d (.int x)=>x==(c:Int)|_=>false
mutual
noncomputable def ex(Γ:Calls):S->Env->M (Fl×Env)
 |.asg tg e,σ=>bnd (ev Γ e σ) λr=>bnd (za3 tg r σ) λσ'=>ok (.nx,σ')
 |.setI o i e,σ=>bnd (ev Γ e σ) λr=>bnd (ev Γ o σ) λx=>bnd (ev Γ i σ) λy=>bnd (fz r) λd=>bnd (rd y) λy=>bnd (zf8 x y d) λ_=>ok (.nx,σ)
 |.setF o f e,σ=>bnd (ev Γ e σ) λr=>bnd (ev Γ o σ) λx=>bnd (setA x f r) λ_=>ok (.nx,σ)
 |.setN c o f e,σ=>bnd (ev Γ e σ) λr=>bnd (ev Γ o σ) λx=>bnd (setN x c f r) λ_=>ok (.nx,σ)
 |.exp e,σ=>bnd (ev Γ e σ) λ_=>ok (.nx,σ)
 |.ife c a b,σ=>bnd (tv Γ c σ) λt=>if t then exs Γ a σ else exs Γ b σ
 |.for tg it body,σ=>bnd (evI Γ it σ) λw=>loop w.l (λx σ=>bnd (zax tg x σ) λσ'=>exs Γ body σ') w.xs σ
 |.ret e,σ=>bnd (ev Γ e σ) λr=>ok (.ret r,σ)
 |.retN,σ=>ok (.ret (.d .non),σ)|.brk,σ=>ok (.brk,σ)|.cnt,σ=>ok (.cnt,σ)
 |.rai _ _,_=>λ_=>none
 |.setR o k e,σ=>bnd (ev Γ e σ) λr=>bnd (ev Γ o σ) λx=>bnd (rSet x k r) λ_=>ok (.nx,σ)
 | .tryv f es c i j ys,σ=>bnd (evs Γ es σ) λrs h=>match Γ f rs h with
  |some (r,h1)=>some ((.nx,σ.set i (some r)),h1)
  |none=>match Γ (xof f) rs h with
   |some (r,h1)=>if zkY c r then some ((.nx,(σ.set j none).set i (some (.d (.tup (ys.map λp=>.bl p.2))))),h1) else none|none=>none
 |.stuck,_=>λ_=>none
noncomputable def exs(Γ:Calls):List S->Env->M (Fl×Env)
 | [],σ=>ok (.nx,σ)
 |s::r,σ=>bnd (ex Γ s σ) λp=>match p.1 with
  |.nx=>exs Γ r p.2|_=>ok p
end
def zjr(l:Option Nat)(f:Ite->Env->M (Fl×Env))(g:Ite->Env->M R):List Ite->Env->M R
 | [],_=>λ_=>none
 | x::xs,σ=>λh=>match f x σ h with
  |some ((fl,σ1),h1)=>match fl with
   |.nx=>if zaM l h h1 then zjr l f g xs σ1 h1 else none|.cnt=>if zaM l h h1 then zjr l f g xs σ1 h1 else none|_=>none
  |none=>g x σ h
mutual
noncomputable def exX(Γ:Calls):S->Env->M R
 |.rai c es,σ=>bnd (evs Γ es σ) λ_=>ok (.d (.int c))
 |.asg _ e,σ=>match e with
  |.call f es=>bnd (evs Γ es σ) λrs=>Γ (xof f) rs
  |_=>λ_=>none
 |.ife c a b,σ=>bnd (tv Γ c σ) λt=>if t then exXs Γ a σ else exXs Γ b σ
 |.for tg it body,σ=>bnd (evI Γ it σ) λw=>zjr w.l (λx σ=>bnd (zax tg x σ) λσ'=>exs Γ body σ') (λx σ=>bnd (zax tg x σ) λσ'=>exXs Γ body σ') w.xs σ
 |.setI _ _ _,_=>λ_=>none
 |.setF _ _ _,_=>λ_=>none
 |.setN _ _ _ _,_=>λ_=>none
 |.exp _,_=>λ_=>none
 |.ret _,_=>λ_=>none
 |.retN,_=>λ_=>none
 |.brk,_=>λ_=>none
 |.cnt,_=>λ_=>none
 |.setR _ _ _,_=>λ_=>none
 |.tryv _ _ _ _ _ _,_=>λ_=>none
 |.stuck,_=>λ_=>none
noncomputable def exXs(Γ:Calls):List S->Env->M R
 | [],_=>λ_=>none
 | s::r,σ=>λh=>match ex Γ s σ h with
  |some ((fl,σ1),h1)=>match fl with
   |.nx=>exXs Γ r σ1 h1|_=>none
  |none=>exX Γ s σ h
end
structure F where
 np:Nat
 ns:Nat
 body:List S
 keep:Bool
 dfl:List D
 all:Bool:=false
def zaw(np:Nat)(dfl:List D)(rs:List R):List R:=if rs.length+dfl.length<np then rs else rs++(dfl.drop (rs.length+dfl.length-np)).map R.d
def R.same:R->R->Bool
 |.d x,y=>match y with
  |.d z=>D.same x z|_=>false
 |.loc l,y=>match y with
  |.loc k=>l==k|_=>false
def zcC:List (Str×R)->List (Str×R)->Bool
  | [],ys=>ys.isEmpty
  | (f,x)::r,ys=>match ys with
    |(g,y)::t=>f==g&&x.same y&&zcC r t| []=>false
def objs:Sto->Sto->Bool
 | [],_=>true
 | o::h,h1=>match h1 with
  | []=>false
  |o1::t=>(match o,o1 with
   |.ins c fs,.ins c1 fs1=>c==c1&&zcC fs fs1|.ols a,.ols b=>a==b|.rcd a,.rcd b=>zcC a b|.lst _,.lst _=>true|.lst _,.fro _=>true|.fro _,.lst _=>true|.fro _,.fro _=>true
   |_,_=>false)&&objs h t
def fin0(n0:Nat)(keep:Bool)(r:R)(h1:Sto):Option (R×Sto):=match r with
 |.d x=>some (.d x,h1.take n0)
 |.loc l=>if l<n0 then some (.loc l,h1.take n0) else match h1[l]? with
  |some (.lst xs)=>if keep then some (.loc n0,h1.take n0++[.lst xs]) else some (.d (.lst xs),h1.take n0)|some (.fro xs)=>some (.d (.lst xs),h1.take n0)|_=>none
def fin(h:Sto)(all keep:Bool)(r:R)(h1:Sto):Option (R×Sto):=if all then some (r,h1) else if objs h h1 then fin0 h.length keep r h1 else none
def finX(h:Sto)(all keep:Bool)(r:R)(h1:Sto):Option (R×Sto):=match r with|.d (.int c)=>fin h all keep (.d (.int c)) h1|_=>none
def zad(P:List F):Nat->Calls
 |0,_,_=>λ_=>none
 | n + 1,f,rs=>λh=>match P[f]? with
  | some F=>if(zaw F.np F.dfl rs).length=F.np then match exs (zad P n) F.body ((zaw F.np F.dfl rs).map some++ZO (F.ns-F.np) none) h with
    |some ((.ret r,_),h1)=>fin h F.all F.keep r h1|some ((.nx,_),h1)=>fin h F.all F.keep (.d .non) h1|_=>none
   else none
  | none=>match P[f-1000]? with
   | some F=>if(zaw F.np F.dfl rs).length=F.np then match exXs (zad P n) F.body ((zaw F.np F.dfl rs).map some++ZO (F.ns-F.np) none) h with
     |some (r,h1)=>finX h F.all F.keep r h1|none=>none
    else none
   |none=>none
theorem zba(P:List F)(n f:Nat)(rs:List R)(h:Sto):zad P (n+1) f rs h=match P[f]? with
  | some F=>if(zaw F.np F.dfl rs).length=F.np then match exs (zad P n) F.body ((zaw F.np F.dfl rs).map some++ZO (F.ns-F.np) none) h with
    |some ((.ret r,_),h1)=>fin h F.all F.keep r h1|some ((.nx,_),h1)=>fin h F.all F.keep (.d .non) h1|_=>none
   else none
  | none=>match P[f-1000]? with
   | some F=>if(zaw F.np F.dfl rs).length=F.np then match exXs (zad P n) F.body ((zaw F.np F.dfl rs).map some++ZO (F.ns-F.np) none) h with
     |some (r,h1)=>finX h F.all F.keep r h1|none=>none
    else none
   |none=>none:=rfl
theorem zd6{P:List F}{n f:Nat}{rs:List R}{h:Sto}{F:F}(hP:P.length<=1000)(e:P[f]?=some F):zad P (n+1) (xof f) rs h=if(zaw F.np F.dfl rs).length=F.np then match exXs (zad P n) F.body ((zaw F.np F.dfl rs).map some++ZO (F.ns-F.np) none) h with|some (r,h1)=>finX h F.all F.keep r h1|none=>none
 else none:=by
 rw[zba]
 have e1:P[xof f]?=none:=Y9 (by unfold xof;omega)
 have e2:xof f-1000=f:=by unfold xof;omega
 simp only[e1,e2,e]
end IT
namespace IT
open PySem
def zam(x:List Nat):Str:=⟨x.toArray⟩
theorem zaz(x:List Nat):(zam x).length=x.length:=by simp[zam,Str.length]
theorem zfC(h:zam x=zam y):x=y:=by
 have:=congrArg (λs:Str=>s.cps.toList) h
 simpa[zam] using this
theorem znt(x y:List Nat):zam x++zam y=zam (x++y):=by show Str.append _ _=_;simp[zam,Str.append]
mutual
noncomputable def zve(w:World):D->Int|.int i=>hashInt i|.str x=>hashStr w (zam x)|.tup xs=>reduceHash (YX.Tuple.tupleHashOf (kHashs w xs))|.non=>0|.bl _=>0|.lst _=>0
noncomputable def kHashs(w:World):List D->List Int| []=>[]|x::xs=>zve w x::kHashs w xs
end
mutual
noncomputable def ztJ:D->Nat|.tup xs=>kDrawss xs+1|.int _=>1|.str _=>1|.non=>1|.bl _=>1|.lst _=>1
noncomputable def kDrawss:List D->Nat| []=>0|x::xs=>ztJ x+kDrawss xs
end
open SeqAt in
section
variable {prog:Zx}{w:World}{E:Value->Shared->Prop}
end
noncomputable instance:DecidableEq D:=λx y=>if h:x.same y=true then isTrue (D.same_eq x y h) else isFalse λe=>h (e▸D.same_refl x)
end IT
namespace L2
open PySem PySem.Spec PyProof.Rows
abbrev Key:=Sum Int Str
def zkK:Key->Value->Bool|.inl k,v=>Value.isInt k v|.inr x,v=>Value.isStrOf x v
def keyH(w:World):Key->Int|.inl k=>hashInt k|.inr x=>hashStr w x
theorem zaC:∀{k:Key} {v:Value},zkK k v=true->(∃i t,k=Wq i/\v=Value.int i t)\/(∃x t,k=Zg x/\v=WN x t)|.inl i,v,h=>by obtain⟨t,e⟩:=Value.isInt_shape (k:=i) (v:=v) h;exact .inl ⟨i,t,rfl,e⟩|.inr x,v,h=>by obtain⟨t,e⟩:=Value.isStrOf_shape (x:=x) (v:=v) h;exact .inr ⟨x,t,rfl,e⟩
theorem zm0(i:Int)(t:Tok):zkK (.inl i) (.int i t)=true:=by simp[zkK,Value.isInt]
theorem znI(x:Str)(t:Tok):zkK (.inr x) (.str x t)=true:=by simp[zkK,Value.isStrOf]
theorem zs8(a b:Int):decide ((Wq a:Key)=Wq b)=(a==b):=by
 by_cases e:a=b
 ·subst e;simp
 ·have h:¬(Wq a:Key)=Wq b:=λq=>e (Wq.inj q)
  rw[decide_eq_false h];exact(beq_eq_false_iff_ne.mpr e).symm
theorem zsU(a b:Str):decide ((Zg a:Key)=Zg b)=decide (a=b):=by
 by_cases e:a=b
 ·subst e;simp
 ·have h:¬(Zg a:Key)=Zg b:=λq=>e (WC q)
  rw[decide_eq_false h,decide_eq_false e]
theorem zuw(a:Int)(b:Str):decide ((Wq a:Key)=Zg b)=false:=decide_eq_false (λq=>nomatch q)
theorem ztb(a:Str)(b:Int):decide ((Zg a:Key)=Wq b)=false:=decide_eq_false (λq=>nomatch q)
def zbq(prog:Zx)(w:World):PySem.KeyKind prog w Key where
 is:=zkK
 hash:=keyH w
 inj:=λv a b ha hb=>by
  rcases zaC ha with⟨i,t,rfl,rfl⟩|⟨x,t,rfl,rfl⟩
  ·rcases zaC hb with⟨j,u,rfl,e⟩|⟨y,u,rfl,e⟩
   ·injection e with e1 _;rw[e1]
   ·exact nomatch e
  ·rcases zaC hb with⟨j,u,rfl,e⟩|⟨y,u,rfl,e⟩
   ·exact nomatch e
   ·injection e with e1 _;rw[e1]
 byValue:=λk v h=>by rcases zaC h with⟨i,t,rfl,rfl⟩|⟨x,t,rfl,rfl⟩<;>rfl
 pyHash:=λhv h=>by
  rcases zaC hv with⟨i,t,rfl,rfl⟩|⟨x,t,rfl,rfl⟩
  ·exact wpAny_pyHash_int h
  ·exact wpAny_pyHash_str h
 eqBool:=λhu hv h=>by
  rcases zaC hu with⟨i,t,rfl,rfl⟩|⟨x,t,rfl,rfl⟩
  ·rcases zaC hv with⟨j,u,rfl,rfl⟩|⟨y,u,rfl,rfl⟩
   ·rw[zs8] at h;exact wpAny_eqBool_int h
   ·rw[zuw] at h;exact Yu.int_str i t y u _ _ _ _ h
  ·rcases zaC hv with⟨j,u,rfl,rfl⟩|⟨y,u,rfl,rfl⟩
   ·rw[ztb] at h;exact Yu.str_int x t j u _ _ _ _ h
   ·rw[zsU] at h;exact wpAny_eqBool_str h
 «strs»:=λk x t v h=>by
  rcases zaC h with⟨i,u,rfl,e⟩|⟨y,u,rfl,e⟩
  ·exact nomatch e
  ·injection e with e1 _
   subst e1
   cases v<;>rfl
theorem zjC(prog:Zx)(w:World)(i:Int)(t:Tok):(zbq prog w).is (.inl i) (.int i t)=true:=zm0 i t
theorem zdi(prog:Zx)(w:World)(x:Str)(t:Tok):(zbq prog w).is (.inr x) (.str x t)=true:=znI x t
inductive V where|non | bl (b:Bool) | int (i:Int) | str (x:Str) | byt (b:Array UInt8) | flt (b:UInt64) | ref (a:Addr) | ty (n:String)
 deriving DecidableEq
def RelV:V->Value->Prop|.non,u=>u=V7|.bl b,u=>u=W9 b|.int i,u=>∃t,u=Value.int i t|.str x,u=>∃t,u=WN x t|.byt b,u=>∃t,u=Value.bytes b t|.flt b,u=>∃t,u=Value.float b t|.ref a,u=>u=Zc a|.ty n,u=>u=Value.type n
abbrev Vals:List V->List Value->Prop:=Paired RelV
theorem Vals.length{xs:List V}{us:List Value}(r:Vals xs us):xs.length=us.length:=W6 r
theorem Vals.get:∀{xs:List V} {us:List Value} {i:Nat} {x:V},Vals xs us->xs[i]?=some x->∃u,us[i]?=some u/\RelV x u|_,_,_,_,.nil,e=>by simp at e|_,_,0,_,.cons r _,e=>by simp at e;subst e;exact⟨_,rfl,r⟩|_,_,i+1,x,.cons _ t,e=>by obtain⟨u,h1,h2⟩:=Vals.get (i:=i) (x:=x) t (by simpa using e);exact⟨u,by simpa using h1,h2⟩
theorem Vals.set{x:V}{u:Value}(r:RelV x u):∀{xs:List V} {us:List Value} (i:Nat),Vals xs us->Vals (xs.set i x) (us.set i u)|_,_,_,.nil=>.nil|_,_,0,.cons _ t=>.cons r t|_,_,i+1,.cons q t=>.cons q (Vals.set r i t)
theorem Vals.append:∀{xs ys:List V} {us ws:List Value},Vals xs us->Vals ys ws->Vals (xs++ys) (us++ws)|_,_,_,_,.nil,s=>s|_,_,_,_,.cons r t,s=>.cons r (Vals.append t s)
theorem Vals.take:∀{xs:List V} {us:List Value} (n:Nat),Vals xs us->Vals (xs.take n) (us.take n)|_,_,0,_=>.nil|_,_,_+1,.nil=>.nil|_,_,n+1,.cons r t=>.cons r (Vals.take n t)
theorem Vals.drop:∀{xs:List V} {us:List Value} (n:Nat),Vals xs us->Vals (xs.drop n) (us.drop n)|_,_,0,r=>r|_,_,_+1,.nil=>.nil|_,_,n+1,.cons _ t=>Vals.drop n t
def RelO:Option V->Option Value->Prop|some v,some u=>RelV v u|none,none=>True|_,_=>False
def KV{κ:Type}:List (κ×V)->List (κ×Value)->Prop:=Paired λ(p:κ×V) (q:κ×Value)=>p.1=q.1/\RelV p.2 q.2
def kV:Key->V|.inl i=>.int i|.inr x=>.str x
inductive HO where|lst (xs:List V)|tup (xs:List V)|dK (kvs:List (Key×V))|set (S:Int->Bool) (n:Nat)|ins (C dx:Addr) (fs:List (Str×V))|own (x:Addr)|xd (fs:List (Str×V))|met (f x:Addr)|rng (lo hi:Int)|frz (o:Obj) (u:HO)|tbl (ps:Array Value)|ext (φ:Heap->Prop)
abbrev Hp:=Addr->Option HO
def upd(H:Hp)(a:Addr)(o:HO):Hp:=λb=>if b=a then some o else H b
theorem zak{H:Hp}{a:Addr}{o:HO}:upd H a o a=some o:=by unfold upd;rw[if_pos rfl]
theorem zaj{H:Hp}{a b:Addr}{o:HO}(h:b≠a):upd H a o b=H b:=by unfold upd;rw[if_neg h]
theorem zan{H:Hp}{a b:Addr}{o:HO}(h:H a=some o)(h':H b=none):a≠b:=by intro e;subst e;rw[h] at h';cases h'
section
variable (P:Zx)(w:World)
def zdD(h:Heap)(a:Addr)(items:Array Value):Prop:=IsTup h a items/\∀o,h.get? a=some o->o.dict=none
theorem zdD.new(h:Heap)(items:Array Value):zdD (h.push {cls:=.type "tuple",data:=.seq items}) h.objs.size items:=⟨IsTup.new h items,λo e=>by rw[Zp _ rfl] at e;cases e;rfl⟩
def zby(H:Hp)(h:Heap)(a:Addr):HO->Prop
 |.lst xs=>xs.length<=sizeLine/\∃(its:List Value) (n:Nat),Vals xs its/\h.get? a=some {cls:=.type "list",data:=.seq its.toArray n}|.tup xs=>xs.length<=sizeLine/\∃its:List Value,Vals xs its/\zdD h a its.toArray|.dK kvs=>kvs.length<=sizeLine/\(a==Xz)=false/\∃vs,KV kvs vs/\h.DictOf (zbq P w) a vs|.set S n=>h.SetOf (intKind P w) a S n
 | .ins C dx fs=>H dx=some (.own a)/\fs.length<=1000/\dx≠a/\h.get? a=some (YA C dx) ∧
   ∃mA,h.Ns1 dx mA/\(∀f,RelO (fs.lookup f) (mA f))/\Wp mA (fs.map (·.1))
 |.own _=>∃o,h.get? a=some o|.xd fs=>∃mA,h.Ns1 a mA/\∀f,RelO (fs.lookup f) (mA f)|.rng lo hi=>∃t u v,h.get? a=some {cls:=.type "range",data:=.fields #[.int lo t,.int hi u,.int 1 v]}|.frz o u=>h.get? a=some o/\zby H h a u|.tbl ps=>h.get? a=some {cls:=.none,data:=.fields ps}|.met f x=>h.get? a=some (WB (.ref f) (.ref x))|.ext φ=>φ h/\(∃o,h.get? a=some o)/\∀h1 h2:Heap,φ h1->(∀o,h1.get? a=some o->h2.get? a=some o)->φ h2
def HOk(H:Hp)(h:Heap):Prop:=∀a o,H a=some o->zby P w H h a o
end
section
variable {P:Zx}{w:World}{H H':Hp}{h h':Heap}{a:Addr}{o:HO}
theorem zby.lt(x:zby P w H h a o):a<h.objs.size:=by
 cases o with|lst xs=>obtain⟨_,_,_,_,e⟩:=x;exact ZP e|tup xs=>obtain⟨_,_,_,p⟩:=x;exact p.1.lt|dK kvs=>obtain⟨_,_,_,_,o,_,_,e,_⟩:=x;exact ZP e|set S n=>obtain⟨o,_,_,_,e,_⟩:=x;exact ZP e|ins C dx fs=>obtain⟨_,_,_,e,_⟩:=x;exact ZP e|own y=>obtain⟨_,e⟩:=x;exact ZP e|xd fs=>obtain⟨_,⟨_,_,_,e,_⟩,_⟩:=x;exact ZP e|rng lo hi=>obtain⟨_,_,_,e⟩:=x;exact ZP e|frz ob u=>obtain⟨e,_⟩:=x;exact ZP e|tbl ps=>exact ZP (show h.get? a=some _ from x)|met f y=>exact ZP (show h.get? a=some _ from x)|ext φ=>obtain⟨_,⟨_,e⟩,_⟩:=x;exact ZP e
theorem Paired.mapP{α β:Type}{F G:α->β->Prop}:∀{l₁:List α} {l₂:List β},Paired F l₁ l₂->(∀a b,F a b->G a b)->Paired G l₁ l₂|_,_,.nil,_=>.nil|_,_,.cons r t,f=>.cons (f _ _ r) (Paired.mapP t f)
theorem zby.stay(x:zby P w H h a o)(k:∀b u,(b=a\/H b=some (.own a))->h.get? b=some u->h'.get? b=some u)
  (ho:∀b,H b=some (.own a)->H' b=some (.own a)) (ht:∀b xs,H b=some (.tup xs)->H' b=some (.tup xs)):zby P w H' h' a o:=by
 induction o with|lst xs=>obtain⟨z,its,n,r,e⟩:=x;exact⟨z,its,n,r,k _ _ (.inl rfl) e⟩|tup xs=>obtain⟨z,its,r,⟨ob,e,c⟩,dd⟩:=x;exact⟨z,its,r,⟨ob,k _ _ (.inl rfl) e,c⟩,λo2 e2=>by rw[k _ _ (.inl rfl) e] at e2;cases e2;exact dd _ e⟩|dK kvs=>obtain⟨z,y,vs,r,ob,es,ep,e,c⟩:=x;exact⟨z,y,vs,r,ob,es,ep,k _ _ (.inl rfl) e,c⟩|set S n=>obtain⟨ob,es,ep,t,e,c⟩:=x;exact⟨ob,es,ep,t,k _ _ (.inl rfl) e,c⟩|ins C dx fs=>obtain⟨d,z,ne,e,mA,⟨od,es,ep,e2,c⟩,r⟩:=x;exact⟨ho _ d,z,ne,k _ _ (.inl rfl) e,mA,⟨od,es,ep,k _ _ (.inr d) e2,c⟩,r⟩|own y=>obtain⟨ob,e⟩:=x;exact⟨ob,k _ _ (.inl rfl) e⟩|xd fs=>obtain⟨mA,⟨od,es,ep,e,c⟩,r⟩:=x;exact⟨mA,⟨od,es,ep,k _ _ (.inl rfl) e,c⟩,r⟩|rng lo hi=>obtain⟨t,u,v,e⟩:=x;exact⟨t,u,v,k _ _ (.inl rfl) e⟩|frz ob u ih=>obtain⟨e,q⟩:=x;exact⟨k _ _ (.inl rfl) e,ih q⟩|tbl ps=>have e:h.get? a=some {cls:=.none,data:=.fields ps}:=x;show h'.get? a=some {cls:=.none,data:=.fields ps};exact k a _ (.inl rfl) e|met f y=>have e:h.get? a=some (WB (.ref f) (.ref y)):=x;show h'.get? a=some (WB (.ref f) (.ref y));exact k a _ (.inl rfl) e|ext φ=>obtain⟨p,⟨o,e⟩,st⟩:=x;exact⟨st _ _ p λo q=>k _ _ (.inl rfl) q,⟨o,k _ _ (.inl rfl) e⟩,st⟩
theorem HOk.lt(x:HOk P w H h)(e:H a=some o):a<h.objs.size:=(x a o e).lt
theorem HOk.fresh(x:HOk P w H h)(e:h.objs.size<=a):H a=none:=by
 cases q:H a with|none=>rfl|some u=>exact absurd (ZI (x.lt q) e) (YR _)
theorem HOk.kept(x:HOk P w H h)(k:∀b u,h.get? b=some u->h'.get? b=some u):HOk P w H h':=λa o e=>(x a o e).stay (λb u _ q=>k b u q) (λ_ q=>q) λ_ _ q=>q
theorem HOk.laid(x:HOk P w H h)(k:∀b u,h.get? b=some u->h'.get? b=some u)(hp:h.objs.size<=a)(new:zby P w (upd H a o) h' a o):HOk P w (upd H a o) h':=λb u e=>by
 have hn:=x.fresh hp
 by_cases hb:b=a
 ·subst hb;rw[zak] at e;cases e;exact new
 ·rw [zaj hb] at e
  exact(x b u e).stay (λc v _ q=>k c v q) (λc q=>by rw[zaj (zan q hn)];exact q) λc xs q=>by rw[zaj (zan q hn)];exact q
end
def Rd(H:Hp)(a:Addr)(u:HO):Prop:=H a=some u\/∃o,H a=some (.frz o u)
theorem Rd.ok{P:Zx}{w:World}{H:Hp}{h:Heap}{a:Addr}{u:HO}(r:Rd H a u)(x:HOk P w H h):zby P w H h a u:=by
 rcases r with r|⟨o,r⟩
 ·exact x a u r
 ·obtain ⟨_,q⟩:=x a _ r
  exact q
def Mut:Option HO->Prop|some (.lst _)=>True|some (.dK _)=>True|some (.set _ _)=>True|some (.ins _ _ _)=>True|some (.ext _)=>True|_=>False
section
variable {P:Zx}{w:World}{H:Hp}{h h':Heap}{x e:Addr}{o':HO}
theorem HOk.write(ok:HOk P w H h)(mu:Mut (H x))(he:e=x\/H e=some (.own x))(k:∀b u,b≠e->h.get? b=some u->h'.get? b=some u)(heo:∃u,h'.get? e=some u)
  (new:zby P w (upd H x o') h' x o'):HOk P w (upd H x o') h':=λb u q=>by
 have nown:∀c y,H c=some (.own y)->c≠x:=λc y r z=>by subst z;rw[r] at mu;exact mu
 have ntup:∀c xs,H c=some (.tup xs)->c≠x:=λc xs r z=>by subst z;rw[r] at mu;exact mu
 by_cases hb:b=x
 ·subst hb;rw[zak] at q;cases q;exact new
 ·rw [zaj hb] at q
  by_cases hbe:b=e
  ·have q':H b=some (.own x):=by
    rcases he with z | z
    ·exact absurd (hbe.trans z) hb
    ·rw[hbe];exact z
   rw[q] at q';cases q'
   obtain⟨v,hv⟩:=heo
   exact⟨v,by rw[hbe];exact hv⟩
  ·refine (ok b u q).stay (λc v hc r=>k c v ?_ r) (λc r=>by rw[zaj (nown c b r)];exact r) λc xs r=>by rw[zaj (ntup c xs r)];exact r
   rcases hc with rfl | hc
   ·exact hbe
   ·rintro rfl
    rcases he with z | z
    ·exact nown c b hc z
    ·rw[hc] at z;cases z;exact hb rfl
end
structure Un(fs ex:List Addr)(H H':Hp)(h h':Heap):Prop where
 keep:∀b o,h.get? b=some o->H b=none->b∉fs->b∉ex->h'.get? b=some o
 slot:∀b o,h.get? b=some o->H b=none->b∈fs->b∉ex->∃sl,h'.get? b=some {o with slots:=sl}
 free:∀b o,h.get? b=some o->H b=none->b∉ex->H' b=none
 there:∀b o,h.get? b=some o->b∉ex->∃o',h'.get? b=some o'
 tups:∀b xs,H b=some (.tup xs)->H' b=some (.tup xs)
 frzs:∀b o u,H b=some (.frz o u)->H' b=some (.frz o u)
 tbls:∀b ps,H b=some (.tbl ps)->∃more,H' b=some (.tbl (ps++more))
section
variable {fs fs' ex ex':List Addr}{H H1 H2:Hp}{h h1 h2 h':Heap}{a x e:Addr}{o:HO}
theorem Un.any(u:Un fs ex H H1 h h1){b:Addr}{ob:Obj}(q:h.get? b=some ob)(n:H b=none)(hx:b∉ex):∃sl,h1.get? b=some {ob with slots:=sl}:=by
 by_cases hb:b∈fs
 ·exact u.slot b ob q n hb hx
 ·exact⟨ob.slots,u.keep b ob q n hb hx⟩
theorem Un.kept(k:∀b u,h.get? b=some u->h'.get? b=some u):Un fs ex H H h h':=⟨λb ob q _ _ _=>k b ob q,λb ob q _ _ _=>⟨ob.slots,k b ob q⟩,λ_ _ _ n _=>n,λb ob q _=>⟨ob,k b ob q⟩,λ_ _ q=>q,λ_ _ _ q=>q,λ_ ps q=>⟨#[],by rw[q];simp⟩⟩
theorem Un.refl:Un fs ex H H h h:=Un.kept λ_ _ q=>q
theorem Un.laid(k:∀b u,h.get? b=some u->h'.get? b=some u)(hp:h.objs.size<=a)(hn:H a=none):Un fs ex H (upd H a o) h h' where
 keep:=λb u q _ _ _=>k b u q
 slot:=λb u q _ _ _=>⟨u.slots,k b u q⟩
 free:=λb u q n _=>by rw[zaj (ZJ (ZI (ZP q) hp))];exact n
 there:=λb u q _=>⟨u,k b u q⟩
 tups:=λb xs q=>by rw[zaj (zan q hn)];exact q
 frzs:=λb u xs q=>by rw[zaj (zan q hn)];exact q
 tbls:=λb ps q=>⟨#[],by rw[zaj (zan q hn),q];simp⟩
theorem Un.write(mu:Mut (H x))(he:e=x\/H e=some (.own x))(k:∀b u,b≠e->h.get? b=some u->h'.get? b=some u)(heo:∃u,h'.get? e=some u):Un fs ex H (upd H x o) h h':=by
 have hx:∀b,H b=none->b≠x:=λb n z=>by subst z;rw[n] at mu;exact mu
 have hb:∀b,H b=none->b≠e:=λb n z=>by
  subst z
  rcases he with r | r
  ·exact hx b n r
  ·rw[n] at r;cases r
 have hm:∀b u,H b=some u->¬Mut (some u)->b≠x:=λb u q nm z=>by subst z;rw[q] at mu;exact nm mu
 refine ⟨λb u q n _ _=>k b u (hb b n) q,λb u q n _ _=>⟨u.slots,k b u (hb b n) q⟩,λb u q n _=>by rw[zaj (hx b n)];exact n,λb u q _=>?_,
  fun b xs q=>by rw[zaj (hm b _ q λz=>z)];exact q,λb u xs q=>by rw[zaj (hm b _ q λz=>z)];exact q,λb ps q=>⟨#[],by rw[zaj (hm b _ q λz=>z),q];simp⟩⟩
 by_cases hbe:b=e
 ·subst hbe;exact heo
 ·exact⟨u,k b u hbe q⟩
end
def trk(h:Heap)(H:Hp):List Addr:=(YO h.objs.size).filter λa=>(H a).isSome
def hidT(h:Heap)(H:Hp):Heap:=PySem.W.hideAll h (trk h H)
theorem zmP(h:Heap)(H:Hp):(hidT h H).objs.size=h.objs.size:=PySem.W.hideAll_size _ _
theorem zpe{h:Heap}{H:Hp}{b:Addr}{o:Obj}(e:h.get? b=some o)(n:H b=none):(hidT h H).get? b=some o:=
 XI _ e λhm=>by
  have q:(H b).isSome=true:=(WW.mp hm).2
  rw[n] at q;simp at q
theorem zr2{h:Heap}{H:Hp}{b:Addr}{o:Obj}(e:(hidT h H).get? b=some o):h.get? b=some o/\H b=none:=by
 have e':h.get? b=some o:=PySem.W.of_hideAll (trk h H) e;refine⟨e',?_⟩
 cases q:H b with
 |none=>rfl
 |some x=>
  have hm:b∈trk h H:=WW.mpr ⟨List.mem_range.mpr (ZP e'),by simp[q]⟩;have z:(hidT h H).get? b=none:=PySem.W.hideAll_none (trk h H) hm
  rw[z] at e;cases e
structure Mod(K:Z7)(mg:Str->Option Value)(base:Heap):Prop where
 kin:K.In base
 glob:base.Ns ZV mg
 blt:∃mb,base.Ns builtinsNs mb/\∀x:Str,x ≠ "__name__"->mb x=XR x
 nolimit:base.NoLimit
structure Cx where
 prog:Zx
 w:World
 K:Z7
 mg:Str->Option Value
 base:Heap
 A:Around
 N:List Str
 s₀:Shared
 H₀:Hp
 env:Env
 outer:List Env
 stack:List Env
 ex:List Addr
 fn:Str->Bool
 calm:Bool
 pn:List (Addr×Obj)
 xe:Value->Shared->Prop
def frs(l:List Env):List Addr:=l.filterMap (·.frame)
abbrev Cx.fs(X:Cx):List Addr:=frs X.outer
def Vis(sc:Scope)(x:Str):Prop:=sc.names.lookup x=some .local\/sc.names.lookup x=some .cell\/sc.names.lookup x=some .free
def Loc(sc:Scope)(x:Str):Prop:=sc.names.lookup x=some .local\/sc.names.lookup x=some .cell
def Look(env:Env)(h:Heap)(m:Str->Option Value)(x:Str)(u:Value):Prop:=(env.kindOf x=some .local/\m x=some u)\/((env.kindOf x=some .cell\/env.kindOf x=some .free)/\∃c,env.cells.lookup x=some c/\h.IsCell c (some u))
structure Cx.Ok(X:Cx):Prop where
 mod:Mod X.K X.mg X.base
 kind:X.env.scope.kind=.function
 glob:X.env.globals=ZV
 blt:X.env.builtins=builtinsNs
 above:X.s₀.heap.objs.size<=X.env.locals
 inj:∀x y c,X.env.cells.lookup x=some c->X.env.cells.lookup y=some c->x=y
 has:∀x,(X.env.kindOf x=some .cell\/X.env.kindOf x=some .free)->∃c,X.env.cells.lookup x=some c
 cab:∀x c,X.fn x=true->X.env.cells.lookup x=some c->X.s₀.heap.objs.size<=c
 hd:X.calm=true->X.A.handled=none
 frames:X.A.frames=some X.stack
 stk:X.stack=X.outer\/(X.stack=X.env::X.outer/\X.env.frame=some X.env.locals)
 exf:∀b∈X.ex,b≠X.env.locals/\∀x c,X.env.cells.lookup x=some c->c≠b
 bs:∀b o,X.base.get? b=some o->X.s₀.heap.get? b=some o/\X.H₀ b=none
 bsz:X.base.objs.size<=X.s₀.heap.objs.size
 noex:∀b o,X.base.get? b=some o->b∉X.ex
 exfs:∀b∈X.ex,b∉X.fs
 funs:X.s₀.heap.FunFrames X.base X.outer
 frf:∀b∈X.fs,X.H₀ b=none
structure Inv(X:Cx)(pins:List (Addr×Obj))(σ:List (Option V))(H:Hp)(s:Shared):Prop where
 ok:X.Ok
 os:s.os=X.s₀.os
 bare:WA s.gens
 base:Un X.fs X.ex X.H₀ H X.s₀.heap s.heap
 loc:∃m,s.heap.Ns X.env.locals m/\∀(i:Nat) (x:Str) (v:V),X.N[i]?=some x->σ[i]?=some (some v)->Vis X.env.scope x->∃u,RelV v u/\Look X.env s.heap m x u
 cell:∀x c,X.env.cells.lookup x=some c->∃v,s.heap.IsCell c v
 free:H X.env.locals=none
 freeC:∀x c,X.env.cells.lookup x=some c->H c=none
 pin:∀p∈X.pn++pins,s.heap.get? p.1=some p.2/\H p.1=none/\p.1≠X.env.locals/\p.1∉X.fs/\∀v,p.2.data≠.cell v
 hok:HOk X.prog X.w H s.heap
 len:σ.length=X.N.length
section
variable {X:Cx}{pins:List (Addr×Obj)}{σ:List (Option V)}{H H':Hp}{s:Shared}{h':Heap}
theorem Cx.Ok.nofr(ok:X.Ok){b:Addr}{o:Obj}(e:X.base.get? b=some o):b∉X.fs:=λhb=>by
 have:=(ok.funs.mem hb).1
 rw[e] at this;cases this
theorem Inv.bs(I:Inv X pins σ H s):∀b o,X.base.get? b=some o->s.heap.get? b=some o/\H b=none:=λb o e=>⟨I.base.keep b o (I.ok.bs b o e).1 (I.ok.bs b o e).2 (I.ok.nofr e) (I.ok.noex b o e),I.base.free b o (I.ok.bs b o e).1 (I.ok.bs b o e).2 (I.ok.noex b o e)⟩
theorem Inv.bk(I:Inv X pins σ H s):∀b o,X.base.get? b=some o->s.heap.get? b=some o:=λb o e=>(I.bs b o e).1
theorem Inv.mod(I:Inv X pins σ H s):Mod X.K X.mg X.base:=I.ok.mod
theorem Inv.kIn(I:Inv X pins σ H s):X.K.In s.heap:=I.ok.mod.kin.keeps I.bk
theorem Inv.lt(I:Inv X pins σ H s):X.env.locals<s.heap.objs.size:=let ⟨_,hn,_⟩:=I.loc;hn.lt
theorem Inv.sz(I:Inv X pins σ H s):X.s₀.heap.objs.size<=s.heap.objs.size:=Y6 I.ok.above (Wr I.lt)
theorem Inv.nofs(I:Inv X pins σ H s){a:Addr}(h:s.heap.objs.size<=a):a∉X.fs:=λhb=>by obtain⟨_,o,ho,_⟩:=I.ok.funs.mem hb;exact absurd (ZI (ZP ho) (Y6 I.sz h)) (YR _)
theorem Inv.cne(I:Inv X pins σ H s):∀x c,X.env.cells.lookup x=some c->c≠X.env.locals:=λx c e z=>by
 obtain⟨v,o,ho,hd⟩:=I.cell x c e;obtain⟨m,⟨o',es,ep,ho',hd',_⟩,_⟩:=I.loc
 rw[z,ho'] at ho;cases ho;rw[hd'] at hd;cases hd
theorem Inv.funs(I:Inv X pins σ H s):s.heap.FunFrames X.base X.outer:=by
 have all:∀(l:List Env),(∀b∈frs l,b∈X.fs)->X.s₀.heap.FunFrames X.base l->s.heap.FunFrames X.base l:=by
  intro l
  induction l with
  |nil=>intro _ _;trivial
  |cons env r ih=>
   intro hs hl;obtain⟨hk,⟨L,o,hf,hn,ho,hd⟩,hr⟩:=hl
   have hL:L∈X.fs:=hs L (by unfold frs;rw[YZ,hf];exact Yt)
   obtain⟨sl,e⟩:=I.base.slot L o ho (I.ok.frf L hL) hL λz=>I.ok.exfs L z hL
   exact⟨hk,⟨L,_,hf,hn,e,hd⟩,ih (λb hb=>hs b (by unfold frs;rw[YZ,hf];exact Zo _ hb)) hr⟩
 exact all X.outer (λ_ hb=>hb) I.ok.funs
theorem Inv.stack(I:Inv X pins σ H s):s.heap.FunFrames X.base X.stack:=by
 rcases I.ok.stk with e|⟨e,hf⟩
 ·rw[e];exact I.funs
 ·rw [e]
  obtain⟨m,hn,_⟩:=I.loc
  refine .cons (by rw[I.ok.kind];decide) hf hn ?_ I.funs
  exact Heap.get?_none_of_le (Y6 I.ok.bsz I.ok.above)
theorem Inv.stkSub(I:Inv X pins σ H s):∀b∈frs X.stack,b∈X.env.locals::X.fs:=λb hb=>by
 rcases I.ok.stk with e|⟨e,hf⟩
 ·rw[e] at hb;exact Zo _ hb
 ·rw [e] at hb
  unfold frs at hb;rw[YZ,hf] at hb;exact hb
theorem Inv.stkFree(I:Inv X pins σ H s):∀b∈frs X.stack,H b=none:=λb hb=>by
 rcases ZQ.mp (I.stkSub b hb) with e | hb
 ·rw[e];exact I.free
 ·obtain ⟨_,o,ho,_⟩:=I.ok.funs.mem hb
  exact I.base.free b o ho (I.ok.frf b hb) λz=>I.ok.exfs b z hb
theorem Inv.step{g':Array GenState}{t':Nat}{d':Drawn}{ch:List Addr}(I:Inv X pins σ H s)
  (hch:∀b∈ch,(b∈X.ex\/X.s₀.heap.objs.size<=b)/\b≠X.env.locals/\(∀x c,X.env.cells.lookup x=some c->c≠b)/\∀p∈X.pn++pins,p.1≠b)
  (keep:∀b o,b≠X.env.locals->b∉X.fs->b∉ch->s.heap.get? b=some o->H b=none->h'.get? b=some o)
  (slot:∀b o,b≠X.env.locals->b∈X.fs->b∉ch->s.heap.get? b=some o->H b=none->∃sl,h'.get? b=some {o with slots:=sl}) (free:∀b o,b∉ch->s.heap.get? b=some o->H b=none->H' b=none)
  (there:∀b o,b∉ch->s.heap.get? b=some o->∃o',h'.get? b=some o')
  (tups:∀b xs,H b=some (.tup xs)->H' b=some (.tup xs)) (frzs:∀b o u,H b=some (.frz o u)->H' b=some (.frz o u)) (tbls:∀b ps,H b=some (.tbl ps)->∃more,H' b=some (.tbl (ps++more)))
  (ns:∀m,s.heap.Ns X.env.locals m->h'.Ns X.env.locals m) (hok:HOk X.prog X.w H' h') (hg:WA g'):
  Inv X pins σ H' {s with heap:=h',gens:=g',drawn:=d',toks:=t'}:=by
 have neL:∀b o,X.s₀.heap.get? b=some o->b≠X.env.locals:=λb o e=>ZJ (ZI (ZP e) I.ok.above)
 have neC:∀b o,X.s₀.heap.get? b=some o->b∉X.ex->b∉ch:=λb o e hx hb=>by
  rcases(hch b hb).1 with z | z
  ·exact hx z
  ·exact absurd (ZI (ZP e) z) (YR _)
 have cellK:∀x c,X.env.cells.lookup x=some c->∀v,s.heap.IsCell c v->h'.IsCell c v:=λx c e v ⟨o,ho,hd⟩=>by
  have nch:c∉ch:=λz=>(hch c z).2.2.1 x c e rfl
  by_cases hc:c∈X.fs
  ·obtain ⟨sl,q⟩:=slot c o (I.cne x c e) hc nch ho (I.freeC x c e)
   exact⟨_,q,hd⟩
  ·exact⟨o,keep c o (I.cne x c e) hc nch ho (I.freeC x c e),hd⟩
 refine⟨I.ok,I.os,hg,⟨λb o e n hb hx=>?_,λb o e n hb hx=>?_,λb o e n hx=>?_,λb o e hx=>?_,λb xs e=>tups b xs (I.base.tups b xs e),λb o xs e=>frzs b o xs (I.base.frzs b o xs e),λb ps e=>?_⟩,?_,λx c e=>?_,?_,λx c e=>?_,λp hp=>?_,hok,I.len⟩
 ·exact keep b o (neL b o e) hb (neC b o e hx) (I.base.keep b o e n hb hx) (I.base.free b o e n hx)
 ·obtain ⟨sl,e1⟩:=I.base.slot b o e n hb hx
  obtain⟨sl',e2⟩:=slot b _ (neL b o e) hb (neC b o e hx) e1 (I.base.free b o e n hx);exact⟨sl',e2⟩
 ·obtain ⟨o',e1⟩:=I.base.there b o e hx
  exact free b o' (neC b o e hx) e1 (I.base.free b o e n hx)
 ·obtain ⟨o',e1⟩:=I.base.there b o e hx
  exact there b o' (neC b o e hx) e1
 ·obtain ⟨m1,e1⟩:=I.base.tbls b ps e
  obtain⟨m2,e2⟩:=tbls b _ e1;exact⟨m1++m2,by rw[e2,Array.append_assoc]⟩
 ·obtain ⟨m,hn,hl⟩:=I.loc
  refine⟨m,ns m hn,λi x v e1 e2 e3=>?_⟩;obtain⟨u,r,l⟩:=hl i x v e1 e2 e3;refine⟨u,r,?_⟩
  rcases l with l|⟨k,c,e,z⟩
  ·exact .inl l
  ·exact .inr ⟨k,c,e,cellK x c e _ z⟩
 ·obtain ⟨v,z⟩:=I.cell x c e
  exact⟨v,cellK x c e v z⟩
 ·obtain ⟨m,⟨o,_,_,ho,_⟩,_⟩:=I.loc
  exact free _ o (λz=>(hch _ z).2.1 rfl) ho I.free
 ·obtain ⟨v,o,ho,hd⟩:=I.cell x c e
  exact free c o (λz=>(hch c z).2.2.1 x c e rfl) ho (I.freeC x c e)
 ·obtain ⟨e,n,ne,nf,d⟩:=I.pin p hp
  have nch:p.1∉ch:=λz=>(hch p.1 z).2.2.2 p hp rfl;exact⟨keep p.1 p.2 ne nf nch e n,free p.1 p.2 nch e n,ne,nf,d⟩
theorem Inv.un{t':Nat}(I:Inv X pins σ H s)(u:Un X.fs [] H H' s.heap h')(hok:HOk X.prog X.w H' h'):Inv X pins σ H' {s with heap:=h',toks:=t'}:=by
 obtain⟨m,⟨o,es,ep,ho,r⟩,_⟩:=id I.loc;obtain⟨sl,hL⟩:=u.any ho I.free (by simp)
 exact I.step (g':=s.gens) (d':=s.drawn) (ch:=[]) (λ_ z=>nomatch z) (λb o _ hb _ e n=>u.keep b o e n hb (by simp)) (λb o _ hb _ e n=>u.slot b o e n hb (by simp)) (λb o _ e n=>u.free b o e n (by simp)) (λb o _ e=>u.there b o e (by simp)) u.tups u.frzs u.tbls (λm' hm=>by
  obtain⟨o',es',ep',ho',r'⟩:=hm
  rw[ho] at ho';cases ho'
  exact⟨_,es',ep',hL,r'⟩) hok I.bare
theorem Inv.call{g':Array GenState}{t':Nat}{d':Drawn}{ch:List Addr}(I:Inv X pins σ H s)(u:Un (frs X.stack) ch H H' s.heap h')(hok:HOk X.prog X.w H' h')(hg:WA g')
  (hch:∀b∈ch,(b∈X.ex\/X.s₀.heap.objs.size<=b)/\b≠X.env.locals/\(∀x c,X.env.cells.lookup x=some c->c≠b)/\∀p∈X.pn++pins,p.1≠b):
  Inv X pins σ H' {s with heap:=h',gens:=g',drawn:=d',toks:=t'}:=by
 obtain⟨m,⟨o,es,ep,ho,r⟩,_⟩:=id I.loc;obtain⟨sl,hL⟩:=u.any ho I.free λz=>(hch _ z).2.1 rfl
 exact I.step (ch:=ch) hch (λb o hL hb hc e n=>u.keep b o e n (λz=>(ZQ.mp (I.stkSub b z)).elim hL hb) hc) (λb o _ _ hc e n=>u.any e n hc) (λb o hc e n=>u.free b o e n hc) (λb o hc e=>u.there b o e hc) u.tups u.frzs u.tbls (λm' hm=>by
  obtain⟨o',es',ep',ho',r'⟩:=hm
  rw[ho] at ho';cases ho'
  exact⟨_,es',ep',hL,r'⟩) hok hg
theorem Inv.turned{t':Nat}{it:Addr}(I:Inv X pins σ H s)(k:∀b o,b≠it->s.heap.get? b=some o->h'.get? b=some o)(hn:H it=none)(hL:it≠X.env.locals)
  (h1:it∈X.ex\/X.s₀.heap.objs.size<=it) (h2:∀x c,X.env.cells.lookup x=some c->c≠it) (h3:∀p∈X.pn++pins,p.1≠it):Inv X pins σ H {s with heap:=h',toks:=t'}:=by
 have nit:∀b u,H b=some u->b≠it:=λb u e z=>by rw[z,hn] at e;cases e
 refine I.step (g':=s.gens) (d':=s.drawn) (ch:=[it]) (λb hb=>?_) (λb o _ _ hc e _=>k b o (λz=>hc (by simp[z])) e) (λb o _ _ hc e _=>⟨o.slots,k b o (λz=>hc (by simp[z])) e⟩) (λ_ _ _ _ n=>n)
  (λb o hc e=>⟨o,k b o (λz=>hc (by simp[z])) e⟩) (λ_ _ e=>e) (λ_ _ _ e=>e) (λb ps e=>⟨#[],by rw[e];simp⟩) (λm hm=>?_) (λb u e=>?_) I.bare
 ·have e:b=it:=by simpa using hb
  subst e;exact⟨h1,hL,h2,h3⟩
 ·obtain ⟨o,es,ep,ho,r⟩:=hm
  exact⟨o,es,ep,k _ o (Y5 hL) ho,r⟩
 ·refine (I.hok b u e).stay (λc v hc q=>k c v ?_ q) (λ_ q=>q) λ_ _ q=>q
  rcases hc with z | z
  ·rw[z];exact nit b u e
  ·exact nit c _ z
theorem Inv.tok(I:Inv X pins σ H s)(t:Nat):Inv X pins σ H {s with toks:=t}:=I.un (h':=s.heap) (t':=t) Un.refl I.hok
theorem Inv.kept{t':Nat}(I:Inv X pins σ H s)(k:∀b u,s.heap.get? b=some u->h'.get? b=some u):Inv X pins σ H {s with heap:=h',toks:=t'}:=I.un (Un.kept k) (I.hok.kept k)
theorem Inv.laid{a:Addr}{o:HO}{t':Nat}(I:Inv X pins σ H s)(k:∀b u,s.heap.get? b=some u->h'.get? b=some u)(hp:s.heap.objs.size<=a)(new:zby X.prog X.w (upd H a o) h' a o):
  Inv X pins σ (upd H a o) {s with heap:=h',toks:=t'}:=I.un (Un.laid k hp (I.hok.fresh hp)) (I.hok.laid k hp new)
theorem Inv.write{x e:Addr}{o:HO}{t':Nat}(I:Inv X pins σ H s)(mu:Mut (H x))(he:e=x\/H e=some (.own x))(k:∀b u,b≠e->s.heap.get? b=some u->h'.get? b=some u)(heo:∃u,h'.get? e=some u)
  (new:zby X.prog X.w (upd H x o) h' x o):Inv X pins σ (upd H x o) {s with heap:=h',toks:=t'}:=I.un (Un.write mu he k heo) (I.hok.write mu he k heo new)
theorem Inv.pins_of{pins':List (Addr×Obj)}(I:Inv X pins σ H s)(h:∀p∈pins',s.heap.get? p.1=some p.2/\H p.1=none/\p.1≠X.env.locals/\p.1∉X.fs/\∀v,p.2.data≠.cell v):Inv X pins' σ H s:=⟨I.ok,I.os,I.bare,I.base,I.loc,I.cell,I.free,I.freeC,λp hp=>(Zl.mp hp).elim (λz=>I.pin p (List.mem_append_left _ z)) (h p),I.hok,I.len⟩
theorem zhg{N:List Str}(hN:N.Nodup){i j:Nat}{x:Str}(a:N[i]?=some x)(b:N[j]?=some x):i=j:=by obtain⟨h1,e1⟩:=Z9.mp a;obtain⟨h2,e2⟩:=Z9.mp b;exact(List.getElem_inj hN).mp (e1.trans e2.symm)
theorem zms{M:Model}{A:Around}{E:Value->Shared->Prop}{i:Nat}{x:Str}{v:V}{u:Value}{Q:Unit->Shared->Prop}(I:Inv X pins σ H s)(hN:X.N.Nodup)(hi:X.N[i]?=some x)(hx:Loc X.env.scope x)(r:RelV v u)
    (h:∀s',Inv X pins (σ.set i (some v)) H s'->(∃a,Xr a s.heap s'.heap/\(a=X.env.locals\/X.env.cells.lookup x=some a))->Q () s') (hf:X.fn x=true\/X.env.scope.names.lookup x=some .local:=by first | exact .inl rfl | exact .inr rfl | assumption):wpAny M A (storeName X.env x u) Q E s:=by
  obtain⟨m,hn,hl⟩:=id I.loc
  have hcls:(X.env.scope.kind==.class||(X.env.scope.kind==.module&&X.env.locals != X.env.globals))=false:=by rw[I.ok.kind];rfl
  have hiσ:i<σ.length:=by rw[I.len];exact(Z9.mp hi).1
  have cne:=I.cne
  have tracked:∀{a:Addr} {h':Heap},(∃o,s.heap.get? a=some o/\H a=none)->Xr a s.heap h'->HOk X.prog X.w H h':=λ{a h'} ha hs b ob e=>by
    obtain⟨_,_,hfree⟩:=ha;refine(I.hok b ob e).stay (λc w' hc q=>(hs.2 c ?_).trans q) (λ_ q=>q) λ_ _ q=>q
    rintro rfl
    rcases hc with rfl | hc
    · rw[hfree] at e;cases e
    · rw[hfree] at hc;cases hc
  rcases hx with hk | hk
  · refine wpAny_storeName_local hk hn (λh' hn' hs=>?_) hcls
    obtain⟨oL,_,_,hoL,_⟩:=id hn;refine h _ ⟨I.ok,I.os,I.bare,⟨λb o e n hb hx=>?_,λb o e n hb hx=>?_,I.base.free,λb o e hx=>?_,I.base.tups,I.base.frzs,I.base.tbls⟩,⟨_,hn',λj y v' e1 e2 e3=>?_⟩,λy c e=>?_,I.free,I.freeC,λp hp=>?_,tracked ⟨oL,hoL,I.free⟩ hs,by simpa using I.len⟩ ⟨_,hs,.inl rfl⟩
    · exact(hs.2 b (ZJ (ZI (ZP e) I.ok.above))).trans (I.base.keep b o e n hb hx)
    · obtain ⟨sl,e1⟩:=I.base.slot b o e n hb hx
      exact⟨sl,(hs.2 b (ZJ (ZI (ZP e) I.ok.above))).trans e1⟩
    · obtain ⟨o',e1⟩:=I.base.there b o e hx
      exact⟨o',(hs.2 b (ZJ (ZI (ZP e) I.ok.above))).trans e1⟩
    · by_cases hj:j=i
      · subst hj
        rw[hi] at e1;cases e1
        rw[ZH hiσ] at e2;cases e2;exact⟨u,r,.inl ⟨hk,by simp⟩⟩
      · rw [ZE (Y5 hj)] at e2
        obtain⟨u',r',q⟩:=hl j y v' e1 e2 e3;refine⟨u',r',?_⟩
        rcases q with⟨k,e⟩|⟨k,c,e,z⟩
        · refine .inl ⟨k,?_⟩
          have:y≠x:=λe=>hj (zhg hN e1 (e▸hi))
          simp[this,e]
        · exact .inr ⟨k,c,e,z.sameBut hs (cne y c e)⟩
    · obtain ⟨w',z⟩:=I.cell y c e
      exact⟨w',z.sameBut hs (cne y c e)⟩
    · obtain ⟨e,n,ne,nf,d⟩:=I.pin p hp
      exact⟨(hs.2 p.1 ne).trans e,n,ne,nf,d⟩
  · have hfn:X.fn x=true:=by
      rcases hf with z | z
      · exact z
      · rw[z] at hk;cases hk
    obtain⟨c,hc⟩:=I.ok.has x (.inl hk);obtain⟨w',z⟩:=I.cell x c hc;refine wpAny_storeName_cell I.ok.kind hk hc z (λh' hc' hs=>?_);obtain⟨oc,hoc,hocd⟩:=id z;refine h {s with heap:=h'} ⟨I.ok,I.os,I.bare,⟨λb o e n hb hx=>?_,λb o e n hb hx=>?_,I.base.free,λb o e hx=>?_,I.base.tups,I.base.frzs,I.base.tbls⟩,⟨m,hn.sameBut hs (Y5 (cne x c hc)),λj y v' e1 e2 e3=>?_⟩,λy c' e=>?_,I.free,I.freeC,λp hp=>?_,tracked ⟨oc,hoc,I.freeC x c hc⟩ hs,by simpa using I.len⟩ ⟨c,hs,.inr hc⟩
    · exact(hs.2 b (ZJ (ZI (ZP e) (I.ok.cab x c hfn hc)))).trans (I.base.keep b o e n hb hx)
    · obtain ⟨sl,e1⟩:=I.base.slot b o e n hb hx
      exact⟨sl,(hs.2 b (ZJ (ZI (ZP e) (I.ok.cab x c hfn hc)))).trans e1⟩
    · obtain ⟨o',e1⟩:=I.base.there b o e hx
      exact⟨o',(hs.2 b (ZJ (ZI (ZP e) (I.ok.cab x c hfn hc)))).trans e1⟩
    · by_cases hj:j=i
      · subst hj
        rw[hi] at e1;cases e1
        rw[ZH hiσ] at e2;cases e2;exact⟨u,r,.inr ⟨.inl hk,c,hc,hc'⟩⟩
      · rw [ZE (Y5 hj)] at e2
        obtain⟨u',r',q⟩:=hl j y v' e1 e2 e3;refine⟨u',r',?_⟩
        rcases q with q|⟨k,c',e,z'⟩
        · exact .inl q
        · refine .inr ⟨k,c',e,z'.sameBut hs ?_⟩
          rintro rfl
          exact hj (zhg hN e1 (I.ok.inj _ _ _ e hc▸hi))
    · by_cases hcc:c'=c
      · subst hcc;exact⟨_,hc'⟩
      · obtain ⟨w2,z2⟩:=I.cell y c' e
        exact⟨w2,z2.sameBut hs hcc⟩
    · obtain ⟨e,n,ne,nf,d⟩:=I.pin p hp
      refine⟨(hs.2 p.1 ?_).trans e,n,ne,nf,d⟩;intro q;rw[q,hoc] at e;have q':oc=p.2:=ZU e
      exact d w' (by rw[<-q'];exact hocd)
theorem zhA{M:Model}{A:Around}{E:Value->Shared->Prop}{i:Nat}{x:Str}{v:V}{u:Value}{Q:Unit->Shared->Prop}(I:Inv X pins σ H s)(hN:X.N.Nodup)(hi:X.N[i]?=some x)(hx:Loc X.env.scope x)(r:RelV v u)
  (h:∀s',Inv X pins (σ.set i (some v)) H s'->Q () s') (hf:X.fn x=true\/X.env.scope.names.lookup x=some .local:=by first | exact .inl rfl | exact .inr rfl | assumption):wpAny M A (storeName X.env x u) Q E s:=
 zms I hN hi hx r (λs' I' _=>h s' I') hf
theorem Inv.call'{s':Shared}{ch:List Addr}(I:Inv X pins σ H s)(ho:s'.os=s.os)(u:Un (frs X.stack) ch H H' s.heap s'.heap)(hok:HOk X.prog X.w H' s'.heap)(hg:WA s'.gens)
  (hch:∀b∈ch,(b∈X.ex\/X.s₀.heap.objs.size<=b)/\b≠X.env.locals/\(∀x c,X.env.cells.lookup x=some c->c≠b)/\∀p∈X.pn++pins,p.1≠b):Inv X pins σ H' s':=by
 obtain⟨h',g',d',t',o'⟩:=s';have e:o'=s.os:=ho;subst e;exact I.call (g':=g') (t':=t') (d':=d') u hok hg hch
end
abbrev XK:=Value->Option Addr->Hp->Prop
abbrev St:=List (Option V)
abbrev VK:=V->Hp->Prop
abbrev TE:=St->Hp->VK->Prop
abbrev TT:=St->Hp->(Bool->Hp->Prop)->Prop
abbrev TA:=St->Hp->(List V->Hp->Prop)->Prop
structure Ends where
 nx:St->Hp->Prop
 rt:VK
 bk:St->Hp->Prop:=λ_ _=>False
 ct:St->Hp->Prop:=λ_ _=>False
abbrev TS:=Ends->St->Hp->Prop
inductive EP(X:Cx)(pins:List (Addr×Obj))(σ:St)(Q:VK)(u:Value)(s':Shared):Prop where|mk (v:V) (H':Hp) (I:Inv X pins σ H' s') (r:RelV v u) (q:Q v H')
inductive TP(X:Cx)(pins:List (Addr×Obj))(σ:St)(Q:Bool->Hp->Prop)(b:Bool)(s':Shared):Prop where|mk (H':Hp) (I:Inv X pins σ H' s') (q:Q b H')
inductive AP(X:Cx)(pins:List (Addr×Obj))(σ:St)(Q:List V->Hp->Prop)(us:List Value)(s':Shared):Prop where|mk (vs:List V) (H':Hp) (I:Inv X pins σ H' s') (r:Vals vs us) (q:Q vs H')
def SP(X:Cx)(pins:List (Addr×Obj))(D:Ends)(f:Flow)(s':Shared):Prop:=
 match f with|.next=>∃σ' H',Inv X pins σ' H' s'/\D.nx σ' H'|.brk=>∃σ' H',Inv X pins σ' H' s'/\D.bk σ' H'|.cont=>∃σ' H',Inv X pins σ' H' s'/\D.ct σ' H'|.ret u=>∃v σ' H',Inv X pins σ' H' s'/\RelV v u/\D.rt v H'
def PE(X:Cx)(e:Expr)(t:TE):Prop:=∀(pins:List (Addr×Obj)) (s:Shared) (σ:St) (H:Hp) (Q:VK),Inv X pins σ H s->t σ H Q->wpAny (model X.prog X.w) X.A (eval e X.env) (EP X pins σ Q) X.xe s
def PT(X:Cx)(e:Expr)(t:TT):Prop:=∀(pins:List (Addr×Obj)) (s:Shared) (σ:St) (H:Hp) (Q:Bool->Hp->Prop),Inv X pins σ H s->t σ H Q->wpAny (model X.prog X.w) X.A (isTrue e X.env (eval e X.env)) (TP X pins σ Q) X.xe s
def PW(X:Cx)(e:Expr)(t:TT):Prop:=∀(whole:Sem Value) (pins:List (Addr×Obj)) (s:Shared) (σ:St) (H:Hp) (Q:Bool->Hp->Prop),Inv X pins σ H s->t σ H Q->wpAny (model X.prog X.w) X.A (isTrue e X.env whole) (TP X pins σ Q) X.xe s
theorem PW.pt{X:Cx}{e:Expr}{t:TT}(h:PW X e t):PT X e t:=h _
def PA(X:Cx)(es:List Expr)(t:TA):Prop:=∀(pos:Pos) (pins:List (Addr×Obj)) (s:Shared) (σ:St) (H:Hp) (Q:List V->Hp->Prop),Inv X pins σ H s->t σ H Q->wpAny (model X.prog X.w) X.A (spliced (backTo pos (ZY es X.env))) (AP X pins σ Q) X.xe s
def PS(X:Cx)(st:Stmt)(t:TS):Prop:=∀(pins:List (Addr×Obj)) (s:Shared) (σ:St) (H:Hp) (D:Ends),Inv X pins σ H s->t D σ H->wpAny (model X.prog X.w) X.A (exec st X.env) (SP X pins D) X.xe s
def PSs(X:Cx)(st:List Stmt)(t:TS):Prop:=∀(pins:List (Addr×Obj)) (s:Shared) (σ:St) (H:Hp) (D:Ends),Inv X pins σ H s->t D σ H->wpAny (model X.prog X.w) X.A (execs st X.env) (SP X pins D) X.xe s
theorem thn{α:Type}{t:Sem α}{Q Q':α->Shared->Prop}{M:Model}{A:Around}{E:Value->Shared->Prop}{s:Shared}(h:wpAny M A t Q E s)(hQ:∀a s,Q a s->Q' a s):wpAny M A t Q' E s:=ZF h hQ λ_ _ x=>x
section
variable {X:Cx}
def tVar(i:Nat):TE:=λσ H Q=>∃v,σ[i]?=some (some v)/\Q v H
def tC(v:V):TE:=λ_ H Q=>Q v H
theorem zpQ{i:Nat}{x:Str}{pos:Pos}(hN:X.N[i]?=some x)(hv:Vis X.env.scope x)(hd:(x==("__debug__":Str))=false:=by decide)(hcd:(x==("__classdict__":Str))=false:=by decide):PE X (.Name x pos) (tVar i):=by
 intro pins s σ H Q I h;obtain⟨v,e,h⟩:=h;obtain⟨m,hn,hl⟩:=I.loc;obtain⟨u,r,l⟩:=hl i x v hN e hv;have fin:EP X pins σ Q u s:=⟨v,H,I,r,h⟩
 rcases l with⟨hk,hm⟩|⟨hk,c,hc,hcell⟩
 ·exact wpAny_Name (wpAny_loadName_local I.ok.kind hk hn hm fin) hd
 ·rcases hk with hk | hk
  ·exact wpAny_Name (wpAny_loadName_cell I.ok.kind hk hc hcell fin) hd
  ·exact wpAny_Name (wpAny_loadName_free I.ok.kind hk hc hcell fin hcd) hd
theorem zpN{i j pos}:PE X (.Constant (.int i) j pos) (tC (.int i)):=λ_ _ _ H _ I h=>wpAny_Constant_int ⟨.int i,H,I.tok _,⟨_,rfl⟩,h⟩
theorem zu8{b j pos}:PE X (.Constant (.bool b) j pos) (tC (.bl b)):=λ_ _ _ H _ I h=>Constant_bool ⟨.bl b,H,I,rfl,h⟩
theorem zsR{j pos}:PE X (.Constant .none j pos) (tC .non):=λ_ _ _ H _ I h=>Constant_none ⟨.non,H,I,rfl,h⟩
theorem zj7{x j pos}:PE X (.Constant (.str x) j pos) (tC (.str x)):=λ_ _ _ H _ I h=>Calls.Constant_str ⟨.str x,H,I.tok _,⟨_,rfl⟩,h⟩
def Gl(X:Cx)(x:Str):Prop:=X.env.kindOf x=some .globalImplicit
theorem zfj{E:Value->Shared->Prop}{pins:List (Addr×Obj)}{s:Shared}{σ:St}{H:Hp}{x:Str}{u:Value}{pos:Pos}{Q:Value->Shared->Prop}(I:Inv X pins σ H s)(hg:Gl X x)(hm:X.mg x=some u)(h:Q u s)
  (hd:(x==("__debug__":Str))=false:=by decide):wpAny (model X.prog X.w) X.A (eval (.Name x pos) X.env) Q E s:=
 XU I.ok.kind hg (Calls.loadGlobal_global (by rw[I.ok.glob];exact I.mod.glob.keeps I.bk) hm h) hd
theorem zir{E:Value->Shared->Prop}{pins:List (Addr×Obj)}{s:Shared}{σ:St}{H:Hp}{x:Str}{u:Value}{pos:Pos}{Q:Value->Shared->Prop}(I:Inv X pins σ H s)(hg:Gl X x)(hm:X.mg x=none)(hv:XR x=some u)(h:Q u s)
  (hn:x ≠ "__name__":=by decide) (hd:(x==("__debug__":Str))=false:=by decide):wpAny (model X.prog X.w) X.A (eval (.Name x pos) X.env) Q E s:=by
 obtain⟨mb,h1,h2⟩:=I.mod.blt
 exact XU I.ok.kind hg (Calls.loadGlobal_builtin (by rw[I.ok.glob];exact I.mod.glob.keeps I.bk) hm (by rw[I.ok.blt];exact h1.keeps I.bk) ((h2 x hn).trans hv) h) hd
theorem zmo{x:Str}{v:V}{u:Value}{pos:Pos}(hg:Gl X x)(hm:X.mg x=some u)(r:RelV v u)(hd:(x==("__debug__":Str))=false:=by decide):PE X (.Name x pos) (tC v):=fun _ _ _ H _ I h=>zfj I hg hm ⟨v,H,I,r,h⟩ hd
theorem zrb{x:Str}{v:V}{u:Value}{pos:Pos}(hg:Gl X x)(hm:X.mg x=none)(hv:XR x=some u)(r:RelV v u)(hn:x ≠ "__name__":=by decide)(hd:(x==("__debug__":Str))=false:=by decide):PE X (.Name x pos) (tC v):=fun _ _ _ H _ I h=>zir I hg hm hv ⟨v,H,I,r,h⟩ hn hd
variable {a b:Expr}{ta tb:TE}{pos:Pos}
variable {tA tB':TT}{rest:List Expr}
def tAnd(t u:TT):TT:=λσ H Q=>t σ H λc H1=>if c=true then u σ H1 Q else Q false H1
def tOr(t u:TT):TT:=λσ H Q=>t σ H λc H1=>if c=true then Q true H1 else u σ H1 Q
def tNot(t:TT):TT:=λσ H Q=>t σ H λc H1=>Q (!c) H1
theorem zqu(ha:PT X a tA):PW X (.BoolOp .And [a] pos) tA:=by
 intro wh pins s σ H Q I h;refine isTrue_and (thn (ha pins s σ H Q I h) λc s1 e=>?_)
 cases c with|true=>exact isTrue_and_nil e|false=>exact e
theorem zsW(ha:PT X a tA):PW X (.BoolOp .Or [a] pos) tA:=by
 intro wh pins s σ H Q I h;refine isTrue_or (thn (ha pins s σ H Q I h) λc s1 e=>?_)
 cases c with|false=>exact isTrue_or_nil e|true=>exact e
theorem ztW(ha:PT X a tA)(hb:PW X (.BoolOp .And (b::rest) pos) tB'):PW X (.BoolOp .And (a::b::rest) pos) (tAnd tA tB'):=by
 intro wh pins s σ H Q I h;refine isTrue_and (thn (ha pins s σ H _ I h) λc s1 q_=>?_);obtain⟨H1,I1,q1⟩:=q_
 cases c with|true=>exact hb wh pins s1 σ H1 Q I1 q1|false=>exact⟨H1,I1,q1⟩
theorem zu4(ha:PT X a tA)(hb:PW X (.BoolOp .Or (b::rest) pos) tB'):PW X (.BoolOp .Or (a::b::rest) pos) (tOr tA tB'):=by
 intro wh pins s σ H Q I h;refine isTrue_or (thn (ha pins s σ H _ I h) λc s1 q_=>?_);obtain⟨H1,I1,q1⟩:=q_
 cases c with|true=>exact⟨H1,I1,q1⟩|false=>exact hb wh pins s1 σ H1 Q I1 q1
theorem zsD(ha:PT X a tA):PT X (.UnaryOp .Not a pos) (tNot tA):=by intro pins s σ H Q I h;exact isTrue_not (thn (ha pins s σ H (λc H1=>Q (!c) H1) I h) λ_ _ ⟨H1,I1,q1⟩=>⟨H1,I1,q1⟩)
def zvj(ta tb:TE):TE:=λσ H Q=>ta σ H λx H1=>∃c,x=.bl c/\if c=true then tb σ H1 Q else Q (.bl false) H1
def tOrV(ta tb:TE):TE:=λσ H Q=>ta σ H λx H1=>∃c,x=.bl c/\if c=true then Q (.bl true) H1 else tb σ H1 Q
theorem zpI{op}{t:TE}(h:PE X a t):PE X (.BoolOp op [a] pos) t:=λpins s σ H Q I hw=>BoolOp_one (h pins s σ H Q I hw)
theorem ztd(ha:PE X a ta)(hb:PE X (.BoolOp .And (b::rest) pos) tb):PE X (.BoolOp .And (a::b::rest) pos) (zvj ta tb):=by
 intro pins s σ H Q I h;refine BoolOp_and (thn (ha pins s σ H _ I h) λv s1 q_=>?_);obtain⟨x,H1,I1,r1,q1⟩:=q_;obtain⟨c,rfl,q1⟩:=q1;cases r1;refine YN ?_
 cases c with|true=>exact hb pins s1 σ H1 Q I1 q1|false=>exact⟨.bl false,H1,I1,rfl,q1⟩
theorem zvM(ha:PE X a ta)(hb:PE X (.BoolOp .Or (b::rest) pos) tb):PE X (.BoolOp .Or (a::b::rest) pos) (tOrV ta tb):=by
 intro pins s σ H Q I h;refine BoolOp_or (thn (ha pins s σ H _ I h) λv s1 q_=>?_);obtain⟨x,H1,I1,r1,q1⟩:=q_;obtain⟨c,rfl,q1⟩:=q1;cases r1;refine YN ?_
 cases c with|false=>exact hb pins s1 σ H1 Q I1 q1|true=>exact⟨.bl true,H1,I1,rfl,q1⟩
def tIf(t:TT)(ta tb:TE):TE:=λσ H Q=>t σ H λc H1=>if c=true then ta σ H1 Q else tb σ H1 Q
theorem zpf{c:Expr}(hc:PT X c tA)(ha:PE X a ta)(hb:PE X b tb):PE X (.IfExp c a b pos) (tIf tA ta tb):=by
 intro pins s σ H Q I h;refine wpAny_IfExp (thn (hc pins s σ H _ I h) λd s1 q_=>?_);obtain⟨H1,I1,q1⟩:=q_
 cases d with|true=>exact ha pins s1 σ H1 Q I1 q1|false=>exact hb pins s1 σ H1 Q I1 q1
end
def SqL(K:Z7)(H:Hp)(a:Addr)(xs:List V):Prop:=
 Rd H a (.lst xs)\/
  ∃(o:Obj) (its:Array Value) (n:Nat),K.lookup a=some o/\o.cls=.type "list"/\o.dict=none/\o.data=.seq its n/\its.size<=sizeLine/\Vals xs its.toList
def SqT(K:Z7)(H:Hp)(a:Addr)(xs:List V):Prop:=
 Rd H a (.tup xs)\/
  ∃(o:Obj) (its:Array Value) (n:Nat),K.lookup a=some o/\o.cls=.type "tuple"/\o.dict=none/\o.data=.seq its n/\its.size<=sizeLine/\Vals xs its.toList
def absV:Value->Option V|.none=>some .non|.bool b=>some (.bl b)|.int i _=>some (.int i)|.str x _=>some (.str x)|.bytes b _=>some (.byt b)|.float b _=>some (.flt b)|.ref a=>some (.ref a)|.type n=>some (.ty n)|_=>none
theorem RelV.abs{x:V}{u:Value}(r:RelV x u):absV u=some x:=by
 cases x with|non=>cases r;rfl|bl _=>cases r;rfl|int _=>obtain⟨t,rfl⟩:=r;rfl|str _=>obtain⟨t,rfl⟩:=r;rfl|byt _=>obtain⟨t,rfl⟩:=r;rfl|flt _=>obtain⟨t,rfl⟩:=r;rfl|ref _=>cases r;rfl|ty _=>cases r;rfl
theorem RelV.inj{x y:V}{u:Value}(r:RelV x u)(q:RelV y u):x=y:=ZU (r.abs.symm.trans q.abs)
theorem Vals.inj{xs ys:List V}{us:List Value}(h:Vals xs us)(h':Vals ys us):xs=ys:=by
 induction h generalizing ys with
 |nil=>cases h';rfl
 |cons r t ih=>cases h' with|cons r' t'=>rw[r.inj r',ih t']
section
variable {X:Cx}{pins:List (Addr×Obj)}{σ:St}{H:Hp}{s:Shared}{a:Addr}{xs ys:List V}
theorem SqT.of{K:Z7}(h:H a=some (.tup xs)):SqT K H a xs:=.inl (.inl h)
theorem Inv.list(I:Inv X pins σ H s)(h:SqL X.K H a xs):∃its:List Value,Vals xs its/\PlainL s.heap a its.toArray/\xs.length<=sizeLine:=by
 rcases h with h|⟨o,its,n,hk,hc,hd,hs,hz,r⟩
 ·obtain ⟨z,its,n,r,e⟩:=h.ok I.hok
  exact⟨its,r,⟨_,n,e,rfl,rfl,rfl⟩,z⟩
 ·refine ⟨its.toList,r,⟨o,n,I.kIn a o hk,hc,hd,by simpa using hs⟩,?_⟩
  have e:=r.length;simp only[Ym] at e;exact OZ6 e hz
theorem Inv.tuple(I:Inv X pins σ H s)(h:SqT X.K H a xs):∃its:List Value,Vals xs its/\IsTup s.heap a its.toArray/\xs.length<=sizeLine:=by
 rcases h with h|⟨o,its,n,hk,hc,_,hs,hz,r⟩
 ·obtain ⟨z,its,r,p⟩:=h.ok I.hok
  exact⟨its,r,p.1,z⟩
 ·refine ⟨its.toList,r,⟨o,I.kIn a o hk,hc,n,by simpa using hs⟩,?_⟩
  have e:=r.length;simp only[Ym] at e;exact OZ6 e hz
theorem Inv.tupleB(I:Inv X pins σ H s)(h:SqT X.K H a xs):∀o,s.heap.get? a=some o->o.dict=none:=by
 rcases h with h|⟨o,its,n,hk,hc,hd,hs,hz,r⟩
 ·obtain ⟨z,its,r,p⟩:=h.ok I.hok
  exact p.2
 ·intro o2 e2
  rw[I.kIn a o hk] at e2;cases e2;exact hd
theorem Inv.list_inj(I:Inv X pins σ H s)(h:SqL X.K H a xs)(h':SqL X.K H a ys):xs=ys:=by
 obtain⟨its,r,⟨o,n,e,_,_,d⟩,_⟩:=I.list h;obtain⟨its',r',⟨o',n',e',_,_,d'⟩,_⟩:=I.list h'
 rw[e] at e';cases e'
 rw[d] at d';injection d' with d1 _
 have:its=its':=by simpa using congrArg Array.toList d1
 subst this;exact r.inj r'
theorem Inv.tuple_inj(I:Inv X pins σ H s)(h:SqT X.K H a xs)(h':SqT X.K H a ys):xs=ys:=by
 obtain⟨its,r,⟨o,e,_,n,d⟩,_⟩:=I.tuple h;obtain⟨its',r',⟨o',e',_,n',d'⟩,_⟩:=I.tuple h'
 rw[e] at e';cases e'
 rw[d] at d';injection d' with d1 _
 have:its=its':=by simpa using congrArg Array.toList d1
 subst this;exact r.inj r'
end
abbrev Cx.wish(X:Cx)(E:Value->Shared->Prop):Cx:={X with xe:=E}
abbrev Cx.nox(X:Cx):Cx:=X.wish λ_ _=>False
theorem Cx.Ok.wish{X:Cx}(ok:X.Ok)(E:Value->Shared->Prop):(X.wish E).Ok:=⟨ok.mod,ok.kind,ok.glob,ok.blt,ok.above,ok.inj,ok.has,ok.cab,ok.hd,ok.frames,ok.stk,ok.exf,ok.bs,ok.bsz,ok.noex,ok.exfs,ok.funs,ok.frf⟩
theorem Cx.Ok.unwish{X:Cx}{E:Value->Shared->Prop}(ok:(X.wish E).Ok):X.Ok:=⟨ok.mod,ok.kind,ok.glob,ok.blt,ok.above,ok.inj,ok.has,ok.cab,ok.hd,ok.frames,ok.stk,ok.exf,ok.bs,ok.bsz,ok.noex,ok.exfs,ok.funs,ok.frf⟩
section
variable {X:Cx}{pins:List (Addr×Obj)}{σ:St}{H:Hp}{s:Shared}{E:Value->Shared->Prop}
theorem Inv.wish(I:Inv X pins σ H s)(E:Value->Shared->Prop):Inv (X.wish E) pins σ H s:=⟨I.ok.wish E,I.os,I.bare,I.base,I.loc,I.cell,I.free,I.freeC,I.pin,I.hok,I.len⟩
theorem Inv.unwish(I:Inv (X.wish E) pins σ H s):Inv X pins σ H s:=⟨I.ok.unwish,I.os,I.bare,I.base,I.loc,I.cell,I.free,I.freeC,I.pin,I.hok,I.len⟩
theorem SP.unwish{D:Ends}{f:Flow}{s':Shared}(h:SP (X.wish E) pins D f s'):SP X pins D f s':=by
 cases f with|next=>obtain⟨σ',H',I,q⟩:=h;exact⟨σ',H',I.unwish,q⟩|brk=>obtain⟨σ',H',I,q⟩:=h;exact⟨σ',H',I.unwish,q⟩|cont=>obtain⟨σ',H',I,q⟩:=h;exact⟨σ',H',I.unwish,q⟩|ret u=>obtain⟨v,σ',H',I,r,q⟩:=h;exact⟨v,σ',H',I.unwish,r,q⟩
theorem PT.nox{e:Expr}{t:TT}(h:PT X.nox e t):PT X e t:=λpins s σ H Q I hw=>ZF (h pins s σ H Q (I.wish _) hw) (λ_ _ ⟨H',I',q⟩=>⟨H',I'.unwish,q⟩) λ_ _ z=>Y8 z
theorem PSs.nox{st:List Stmt}{t:TS}(h:PSs X.nox st t):PSs X st t:=λpins s σ H D I hw=>ZF (h pins s σ H D (I.wish _) hw) (λ_ _ q=>q.unwish) λ_ _ z=>Y8 z
end
section
variable {X:Cx}{st:Stmt}{rest:List Stmt}{t u:TS}{e:Expr}{te:TE}{pos:Pos}
def zu9:TS:=λD σ H=>D.nx σ H
def tSeq(t u:TS):TS:=λD σ H=>t {D with nx:=u D} σ H
theorem zrx:PSs X [] zu9:=λ_ _ σ H _ I h=>WV ⟨σ,H,I,h⟩
theorem zpu(h1:PS X st t)(h2:PSs X rest u):PSs X (st::rest) (tSeq t u):=by
 intro pins s σ H D I h;refine XQ (thn (h1 pins s σ H {D with nx:=u D} I h) λf s1 q=>?_)
 cases f with|next=>obtain⟨σ',H',I',q⟩:=q;exact h2 pins s1 σ' H' D I' q|ret v=>exact q|brk=>exact q|cont=>exact q
theorem zmF(h1:PS X st t):PSs X [st] t:=by
 intro pins s σ H D I h;refine XQ (thn (h1 pins s σ H D I h) λf s1 q=>?_)
 cases f with|next=>exact WV q|ret v=>exact q|brk=>exact q|cont=>exact q
theorem Inv.quiet{pins:List (Addr×Obj)}{σ:St}{H:Hp}{s:Shared}(I:Inv X pins σ H s):interactive X.env=false:=by simp[interactive,I.ok.kind]
def zvx(te:TE):TS:=λD σ H=>te σ H λ_ H1=>D.nx σ H1
theorem zqA(he:PE X e te)(hs:Yk e none pos.line X.env=pure false:=by rfl):PS X (.Expr e pos) (zvx te):=by intro pins s σ H D I h;exact wpAny_Expr_any (thn (he pins s σ H _ I h) λv s1 ⟨x,H1,I1,r1,q1⟩=>⟨σ,H1,I1,q1⟩) I.quiet hs
def tRet(te:TE):TS:=λD σ H=>te σ H D.rt
theorem zuu(he:PE X e te):PS X (.Return (some e) pos) (tRet te):=by intro pins s σ H D I h;exact wpAny_Return_some (thn (he pins s σ H _ I h) λv s1 ⟨x,H1,I1,r1,q1⟩=>⟨x,σ,H1,I1,r1,q1⟩)
def zvJ:TS:=λD _ H=>D.rt .non H
theorem zrH:PS X (.Return none pos) zvJ:=λ_ _ σ H _ I h=>wpAny_Return_none ⟨.non,σ,H,I,rfl,h⟩
def tIfS(c:TT)(t u:TS):TS:=λD σ H=>c σ H λb H1=>if b=true then t D σ H1 else u D σ H1
theorem zvb{c:Expr}{a b:List Stmt}{tc:TT}(hc:PT X c tc)(ha:PSs X a t)(hb:PSs X b u):PS X (.If c a b pos) (tIfS tc t u):=by
 intro pins s σ H D I h;refine wpAny_If (thn (hc pins s σ H _ I h) λd s1 q_=>?_);obtain⟨H1,I1,q1⟩:=q_
 cases d with|true=>exact ha pins s1 σ H1 D I1 q1|false=>exact hb pins s1 σ H1 D I1 q1
end
abbrev TG:=V->St->Hp->(St->Hp->Prop)->Prop
abbrev TGs:=List V->St->Hp->(St->Hp->Prop)->Prop
def PG(X:Cx)(target:Expr)(t:TG):Prop:=
 ∀ (pins:List (Addr×Obj)) (s:Shared) (σ:St) (H:Hp) (v:V) (u:Value) (Q:St->Hp->Prop),Inv X pins σ H s->RelV v u->t v σ H Q →
  wpAny (model X.prog X.w) X.A (assign target X.env u) (λ_ s'=>∃σ' H',Inv X pins σ' H' s'/\Q σ' H') X.xe s
def PGs(X:Cx)(ts:List Expr)(t:TGs):Prop:=
 ∀ (pins:List (Addr×Obj)) (s:Shared) (σ:St) (H:Hp) (vs:List V) (us:List Value) (Q:St->Hp->Prop),Inv X pins σ H s->Vals vs us->t vs σ H Q →
  wpAny (model X.prog X.w) X.A (assignInOrder ((Zk ts X.env).map (·.2)) us) (λ_ s'=>∃σ' H',Inv X pins σ' H' s'/\Q σ' H') X.xe s
abbrev TSet:=V->V->V->Hp->(Hp->Prop)->Prop
def PSet(X:Cx)(t:TSet):Prop:=
 ∀ (pins:List (Addr×Obj)) (s:Shared) (σ:St) (H:Hp) (o i v:V) (ov iv u:Value) (Q:Hp->Prop),Inv X pins σ H s->RelV o ov->RelV i iv->RelV v u->t o i v H Q →
  wpAny (model X.prog X.w) X.A (setItem ov iv u) (λ_ s'=>∃H',Inv X pins σ H' s'/\Q H') X.xe s
section
variable {X:Cx}{pos:Pos}
def zmW(i:Nat):TG:=λv σ H Q=>Q (σ.set i (some v)) H
theorem ziQ{i:Nat}{x:Str}(hN:X.N.Nodup)(hi:X.N[i]?=some x)(hx:Loc X.env.scope x)(hf:X.fn x=true\/X.env.scope.names.lookup x=some .local:=by first | exact .inl rfl | exact .inr rfl | assumption):PG X (.Name x pos) (zmW i):=by intro pins s σ H v u Q I r h;exact wpAny_assign_Name (zhA I hN hi hx r (λs' I'=>⟨_,H,I',h⟩) hf)
def gNil:TGs:=λvs σ H Q=>vs=[]/\Q σ H
def zvm(t:TG)(u:TGs):TGs:=λvs σ H Q=>∃v r,vs=v::r/\t v σ H λσ' H'=>u r σ' H' Q
theorem zlH:PGs X [] gNil:=by intro pins s σ H vs us Q I r h;obtain⟨e,h⟩:=h;subst e;cases r;exact assignInOrder_nil ⟨σ,H,I,h⟩
theorem zgW{e:Expr}{es:List Expr}{t:TG}{u:TGs}(h1:PG X e t)(h2:PGs X es u)
  (hs:(Zk (e::es) X.env).map (·.2)=assign e X.env::(Zk es X.env).map (·.2):=by rfl):PGs X (e::es) (zvm t u):=by
 intro pins s σ H vs us Q I r h;obtain⟨v,vr,e1,h⟩:=h;subst e1
 cases r with|cons r rr=>rw[hs];refine assignInOrder_cons (thn (h1 pins s σ H _ _ _ I r h) λ_ s1 q_=>?_);obtain⟨σ1,H1,I1,q1⟩:=q_;exact h2 pins s1 σ1 H1 _ _ Q I1 rr q1
def gTup(K:Z7)(n:Nat)(t:TGs):TG:=λv σ H Q=>∃a xs,v=.ref a/\SqT K H a xs/\xs.length=n/\t xs σ H Q
theorem zp4{es:List Expr}{k:Nat}{t:TGs}{n:Nat}(hc:X.calm=true)(h:PGs X es t)
  (hn:(Zk es X.env).length=n:=by rfl) (hst:(Zk es X.env).findIdx? (·.1)=none:=by rfl):PG X (.Tuple es k pos) (gTup X.K n t):=by
 intro pins s σ H v u Q I r hw;obtain⟨a,xs,e1,hq,hl,hw⟩:=hw;subst e1;cases r;obtain⟨its,rv,ht,hz⟩:=I.tuple hq;refine assign_Tuple_tuple (I.ok.hd hc) ht (by simp[hn,<-hl,rv.length]) hst λh' hx=>?_;have I1:Inv X pins σ H {s with heap:=h'}:=I.kept (t':=s.toks) λb o e=>hx b o (ZJ (ZP e)) e;exact h pins _ σ H xs _ Q I1 (by simpa using rv) hw
def gSub(to ti:TE)(t:TSet):TG:=λv σ H Q=>to σ H λo H1=>ti σ H1 λi H2=>t o i v H2 λH3=>Q σ H3
theorem zpY{o i:Expr}{to ti:TE}{t:TSet}(ho:PE X o to)(hi:PE X i ti)(hs:PSet X t)
  (ha:∀v,assign (.Subscript o i pos) X.env v=(do
   let ov<-holding [v] (eval o X.env)
   let iv<-holding [v,ov] (eval i X.env)
   Xq pos
   holding [v,ov,iv] (setItem ov iv v)
   release [v,ov,iv] []):=by intro _;rfl):PG X (.Subscript o i pos) (gSub to ti t):=by
 intro pins s σ H v u Q I r h;rw[ha];refine Z1 (XX (thn (ho pins s σ H _ I h) λov s1 q_=>?_));obtain⟨x,H1,I1,r1,q1⟩:=q_;refine Z1 (XX (thn (hi pins s1 σ H1 _ I1 q1) λiv s2 q_=>?_));obtain⟨y,H2,I2,r2,q2⟩:=q_;refine Z1 (wpAny_standAt (Z1 (XX (thn (hs pins s2 σ H2 x y v ov iv u _ I2 r1 r2 r q2) λ_ s3 q_=>?_))));obtain⟨H3,I3,q3⟩:=q_;exact wpAny_release ⟨σ,H3,I3,q3⟩
def tAsg(te:TE)(g:TG):TS:=λD σ H=>te σ H λx H1=>g x σ H1 D.nx
theorem zj1{tg e:Expr}{te:TE}{g:TG}(he:PE X e te)(hg:PG X tg g)(hs:W5 [tg] e pos.line X.env=pure false:=by rfl)(hw:W4 [tg] e X.env=pure none:=by rfl)
  (h1:(Zk [tg] X.env).map (·.2)=[assign tg X.env]:=by rfl):PS X (.Assign [tg] e pos) (tAsg te g):=by
 intro pins s σ H D I h;refine wpAny_Assign_stores (thn (he pins s σ H _ I h) λv s1 q_=>?_) hs hw;obtain⟨x,H1,I1,r1,q1⟩:=q_;rw[h1];exact thn (hg pins s1 σ H1 x v _ I1 r1 q1) λ_ s2 q=>q
theorem zp5{i:Nat}{x:Str}{e:Expr}{te:TE}{pos':Pos}(hN:X.N.Nodup)(hi:X.N[i]?=some x)(hx:Loc X.env.scope x)(he:PE X e te)(hs:Yk e (some (.Name x pos')) pos.line X.env=pure false:=by rfl)(hf:X.fn x=true\/X.env.scope.names.lookup x=some .local:=by first | exact .inl rfl | exact .inr rfl | assumption):
  PS X (.Assign [.Name x pos'] e pos) (tAsg te (zmW i)):=by
 intro pins s σ H D I h;refine wpAny_Assign_Name (thn (he pins s σ H _ I h) λv s1 q_=>?_) hs;obtain⟨y,H1,I1,r1,q1⟩:=q_;exact zhA I1 hN hi hx r1 (λs2 I2=>⟨_,H1,I2,q1⟩) hf
end
section
variable {X:Cx}{pos:Pos}
end
structure It where
 go:Nat->Hp->Prop
 yld:Nat->Hp->V->Hp->Prop
 stop:Nat->Hp->Prop
def FpOk(X:Cx)(pins:List (Addr×Obj))(H:Hp)(b:Addr):Prop:=H b=none/\b≠X.env.locals/\b∉X.fs/\(b∈X.ex\/X.s₀.heap.objs.size<=b)/\(∀x c,X.env.cells.lookup x=some c->c≠b)/\∀p∈X.pn++pins,p.1≠b
theorem Inv.fpOk{X:Cx}{pins:List (Addr×Obj)}{σ:St}{H H':Hp}{s:Shared}{b:Addr}(I:Inv X pins σ H s)(hb:s.heap.objs.size<=b)(hn:H' b=none):FpOk X pins H' b:=by
 refine⟨hn,WS (ZI I.lt hb),I.nofs hb,.inr (Y6 I.sz hb),λx c e z=>?_,λp hp z=>?_⟩
 ·obtain ⟨v,q⟩:=I.cell x c e
  exact absurd (ZI q.lt (by rw[z];exact hb)) (YR _)
 ·exact absurd (ZI (ZP (I.pin p hp).1) (by rw[z];exact hb)) (YR _)
structure Turn(P:Zx)(w:World)(K:Z7)(tg:Expr)(J:It)(fp:List Addr)(it:Addr)(tn:Nat->Heap->Prop):Prop where
 mem:it∈fp
 obj:∀i h,tn i h->∀b∈fp,∃o,h.get? b=some o/\∀v,o.data≠.cell v
 keep:∀i h h',tn i h->(∀b∈fp,∀o,h.get? b=some o->h'.get? b=some o)->tn i h'
 item:∀(X:Cx),X.prog=P->X.w=w->X.K=K->X.calm=true->∀(i:Nat) (pins:List (Addr×Obj)) (s:Shared) (σ:St) (H:Hp) (E:Value->Shared->Prop),Inv X pins σ H s->(∀b∈fp,FpOk X pins H b)->tn i s.heap->J.go i H →
  wpAny (model P w) X.A (pyNext (.ref it)) (λr s1=>∃u,r=some u ∧
   wpAny (model P w) X.A (XC tg (.ref it) u) (λ_ s2=>∃x H',Inv X pins σ H' s2/\RelV x u/\J.yld i H x H'/\tn (i+1) s2.heap/\∀b∈fp,H' b=none) E s1) E s
 done:∀(X:Cx),X.prog=P->X.w=w->X.K=K->X.calm=true->∀(i:Nat) (pins:List (Addr×Obj)) (s:Shared) (σ:St) (H:Hp) (E:Value->Shared->Prop),Inv X pins σ H s->(∀b∈fp,FpOk X pins H b)->tn i s.heap->J.stop i H →
  wpAny (model P w) X.A (pyNext (.ref it)) (λr s1=>r=none/\Inv X pins σ H s1) E s
 self:∀(A:Around) (i:Nat) (s:Shared) (Q:Value->Shared->Prop) (E:Value->Shared->Prop),tn i s.heap->Q (.ref it) s->wpAny (model P w) A (pyIter (.ref it)) Q E s
abbrev TI:=St->Hp->(It->Hp->Prop)->Prop
def PIE(X:Cx)(pins:List (Addr×Obj))(σ:St)(tg:Expr)(R:It->Hp->Prop)(itv:Value)(s2:Shared):Prop:=∃(it:Addr) (fp:List Addr) (tn:Nat->Heap->Prop) (J:It) (H':Hp),itv=.ref it/\Inv X pins σ H' s2/\Turn X.prog X.w X.K tg J fp it tn/\tn 0 s2.heap/\(∀b∈fp,FpOk X pins H' b)/\R J H'
def PI(X:Cx)(tg iter:Expr)(wi:TI):Prop:=
 ∀ (pins:List (Addr×Obj)) (s:Shared) (σ:St) (H:Hp) (R:It->Hp->Prop),Inv X pins σ H s->wi σ H R →
  wpAny (model X.prog X.w) X.A (eval iter X.env) (λv s1=>wpAny (model X.prog X.w) X.A (pyIter v) (PIE X pins σ tg R) X.xe s1) X.xe s
theorem zoA{M:Model}{A:Around}{E:Value->Shared->Prop}{s:Shared}{tg:Expr}{it:Addr}{u:Value}{o:Obj}{n:String}{vs:Array Value}{Q:Unit->Shared->Prop}(ho:s.heap.get? it=some o)(hc:o.cls=.type n)(hd:o.data=.fields vs)
    (hn:["enumerate", "zip", "dict_itemiterator", "dict_reverseitemiterator", "odict_iterator", "itertools.zip_longest", "itertools.pairwise"].contains n=false) (hQ:Q () s):wpAny M A (XC tg (.ref it) u) Q E s:=by
  unfold XC
  cases tg <;> first
    |exact ZN hQ
    | (cases u<;>first
        |exact ZN hQ
        | (refine Z1 (wpAny_load ho ?_)
           rw[hc,hd];show wpAny M A (if(["enumerate", "zip", "dict_itemiterator", "dict_reverseitemiterator", "odict_iterator", "itertools.zip_longest", "itertools.pairwise"].contains n&&vs[0]?==some (rawInt _))=true then _ else _) Q E s
           rw[if_neg (by intro h;rw[hn,Zh] at h;cases h)]
           exact ZN hQ))
def Itl(K:Z7)(a:Addr):It:=⟨λi H=>∃xs x,SqL K H a xs/\xs[i]?=some x,λi H x H'=>H'=H/\∀xs,SqL K H a xs->xs[i]?=some x,λi H=>∃xs,SqL K H a xs/\xs.length<=i⟩
def Itt(K:Z7)(a:Addr):It:=⟨λi H=>∃xs x,SqT K H a xs/\xs[i]?=some x,λi H x H'=>H'=H/\∀xs,SqT K H a xs->xs[i]?=some x,λi H=>∃xs,SqT K H a xs/\xs.length<=i⟩
def Itr(lo:Int)(n:Nat):It:=⟨λi _=>i<n,λi H x H'=>H'=H/\x=.int (lo+i),λi _=>n<=i⟩
theorem zmj{P:Zx}{w:World}{K:Z7}{tg:Expr}(a it:Addr):Turn P w K tg (Itl K a) [it] it (λi h=>h.IsListIter it a i) where
 mem:=by simp
 obj:=λi h st b hb=>by
  have e:b=it:=by simpa using hb
  subst e;obtain⟨o,e,c,d⟩:=st
  exact⟨o,e,λv z=>by rw[d] at z;cases z⟩
 keep:=λi h h' st k=>st.at λo e=>k it (by simp) o e
 item:=by
  intro X hP hw hK hc i pins s σ H E I hf st hg;subst hP hw hK;obtain⟨xs,x,hq,hx⟩:=hg;obtain⟨its,rv,p,hz⟩:=I.list hq;obtain⟨u,hu,ru⟩:=rv.get hx;obtain⟨f0,f1,f2,f3,f4,f5⟩:=hf it (by simp);refine wpAny_pyNext_list_item st p.isList (x:=u) (by simpa using hu) λh' st' sb=>?_;have I1:Inv X pins σ H {s with heap:=h'}:=I.turned (t':=s.toks) (λb o hb e=>(sb.2 b hb).trans e) f0 f1 f3 f4 f5;obtain⟨o,e,c,d⟩:=id st'
  exact⟨u,rfl,zoA (s:={s with heap:=h'}) e c d (by decide) ⟨x,H,I1,ru,⟨rfl,λys hy=>by rw[I.list_inj hy hq];exact hx⟩,st',λb hb=>(hf b hb).1⟩⟩
 done:=by
  intro X hP hw hK hc i pins s σ H E I hf st hg;subst hP hw hK;obtain⟨xs,hq,hx⟩:=hg;obtain⟨its,rv,p,hz⟩:=I.list hq;obtain⟨f0,f1,f2,f3,f4,f5⟩:=hf it (by simp);have hl:=rv.length
  exact wpAny_pyNext_list_end (I.ok.hd hc) st p.isList (by simp;exact OZ6 hl.symm hx) λh' eb=>⟨rfl,I.turned (t':=s.toks) (λb o hb e=>eb b o hb e) f0 f1 f3 f4 f5⟩
 self:=λ_ _ _ _ _ st h=>wpAny_pyIter_listiter st h
theorem zkT{P:Zx}{w:World}{K:Z7}{tg:Expr}(a it:Addr):Turn P w K tg (Itt K a) [it] it (λi h=>h.IsTupleIter it a i) where
 mem:=by simp
 obj:=λi h st b hb=>by
  have e:b=it:=by simpa using hb
  subst e;obtain⟨o,e,c,d⟩:=st
  exact⟨o,e,λv z=>by rw[d] at z;cases z⟩
 keep:=λi h h' st k=>st.at λo e=>k it (by simp) o e
 item:=by
  intro X hP hw hK hc i pins s σ H E I hf st hg;subst hP hw hK;obtain⟨xs,x,hq,hx⟩:=hg;obtain⟨its,rv,p,hz⟩:=I.tuple hq;obtain⟨u,hu,ru⟩:=rv.get hx;obtain⟨f0,f1,f2,f3,f4,f5⟩:=hf it (by simp);refine wpAny_pyNext_tuple_item st (show s.heap.IsTuple a its.toArray from p) (x:=u) (by simpa using hu) λh' st' sb=>?_;have I1:Inv X pins σ H {s with heap:=h'}:=I.turned (t':=s.toks) (λb o hb e=>(sb.2 b hb).trans e) f0 f1 f3 f4 f5;obtain⟨o,e,c,d⟩:=id st'
  exact⟨u,rfl,zoA (s:={s with heap:=h'}) e c d (by decide) ⟨x,H,I1,ru,⟨rfl,λys hy=>by rw[I.tuple_inj hy hq];exact hx⟩,st',λb hb=>(hf b hb).1⟩⟩
 done:=by
  intro X hP hw hK hc i pins s σ H E I hf st hg;subst hP hw hK;obtain⟨xs,hq,hx⟩:=hg;obtain⟨its,rv,p,hz⟩:=I.tuple hq;obtain⟨f0,f1,f2,f3,f4,f5⟩:=hf it (by simp);have hl:=rv.length
  exact wpAny_pyNext_tuple_end (I.ok.hd hc) st (show s.heap.IsTuple a its.toArray from p) (by simp;exact OZ6 hl.symm hx) λh' eb=>⟨rfl,I.turned (t':=s.toks) (λb o hb e=>eb b o hb e) f0 f1 f3 f4 f5⟩
 self:=λ_ _ _ _ _ st h=>wpAny_pyIter_tupleiter st h
theorem zkN{P:Zx}{w:World}{K:Z7}{tg:Expr}(it:Addr)(lo:Int)(n:Nat):Turn P w K tg (Itr lo n) [it] it (λi h=>IsRangeIter h it (lo+(i:Nat)*1) ((n:Int)-(i:Nat)) 1) where
 mem:=by simp
 obj:=λi h st b hb=>by
  have e:b=it:=by simpa using hb
  subst e
  exact ⟨_,st,λv z=>by
   have z':Data.fields _=Data.cell v:=z
   cases z'⟩
 keep:=λi h h' st k=>k it (by simp) _ st
 item:=by intro X hP hw hK hc i pins s σ H E I hf st hg;subst hP hw hK;obtain⟨f0,f1,f2,f3,f4,f5⟩:=hf it (by simp);have W:=Walks.range (prog:=X.prog) (w:=X.w) (I.ok.hd hc) it lo 1 n;refine W.item i s _ _ hg st λv h' tk hv st' kk=>?_;obtain⟨t,rfl⟩:=hv;have I1:Inv X pins σ H {s with heap:=h',toks:=tk}:=I.turned (λb o hb e=>kk b o (by simpa using hb) e) f0 f1 f3 f4 f5;refine⟨_,rfl,zoA (s:={s with heap:=h',toks:=tk}) (n:="range_iterator") st' rfl rfl (by decide) ⟨.int (lo+i),H,I1,⟨t,?_⟩,⟨rfl,rfl⟩,st',λb hb=>(hf b hb).1⟩⟩;rw[Int.mul_one]
 done:=by
  intro X hP hw hK hc i pins s σ H E I hf st hg;subst hP hw hK;obtain⟨f0,f1,f2,f3,f4,f5⟩:=hf it (by simp)
  exact wpAny_pyNext_range_end (I.ok.hd hc) st (by have:n<=i:=hg;exact OXN this) λh' eb=>⟨rfl,I.turned (t':=s.toks) (λb o hb e=>eb b o hb e) f0 f1 f3 f4 f5⟩
 self:=λ_ _ _ _ _ st h=>wpAny_pyIter_rangeiter st h
section
variable {X:Cx}{tg:Expr}
theorem zoK{pins:List (Addr×Obj)}{σ:St}{H:Hp}{s:Shared}{R:It->Hp->Prop}{E:Value->Shared->Prop}{lo hi:Int}{t u v:Tok}{tk:Nat}(I:Inv X pins σ H s)(h1:-(2^62)<=lo)(h2:lo<2^62)(h3:-(2^62)<=hi)(h4:hi<2^62)
  (q:R (Itr lo (hi-lo).toNat) H):wpAny (model X.prog X.w) X.A (pyIter (.ref s.heap.objs.size)) (PIE X pins σ tg R) E {s with heap:=s.heap.push {cls:=.type "range",data:=.fields #[.int lo t,.int hi u,.int 1 v]},toks:=tk}:=by
 refine wpAny_pyIter_range (IsRange.new ..) (small_one h1 h2 h3 h4) ?_;have I1:Inv X pins σ H {s with heap:=s.heap.push {cls:=.type "range",data:=.fields #[.int lo t,.int hi u,.int 1 v]},toks:=tk}:=I.kept λb o e=>Z2 _ e
 refine ⟨(s.heap.push {cls:=.type "range",data:=.fields #[.int lo t,.int hi u,.int 1 v]}).objs.size,[(s.heap.push {cls:=.type "range",data:=.fields #[.int lo t,.int hi u,.int 1 v]}).objs.size],_,_,H,rfl,
  I1.kept (t':=tk) λb o e=>Z2 _ e,zkN _ lo (hi-lo).toNat,?_,λb hb=>?_,q⟩
 ·have e1:lo+((0:Nat):Int)*1=lo:=by simp
  have e2:(((hi-lo).toNat:Nat):Int)-((0:Nat):Int)=YX.Range.rangeSize lo hi 1:=by rw[rangeSize_one];split<;>omega
  show IsRangeIter _ _ (lo+((0:Nat):Int)*1) ((((hi-lo).toNat:Nat):Int)-((0:Nat):Int)) 1;rw[e1,e2];exact Zp _ rfl
 ·have e:b=(s.heap.push {cls:=.type "range",data:=.fields #[.int lo t,.int hi u,.int 1 v]}).objs.size:=by simpa using hb
  subst e;exact I1.fpOk (Z0 _) (I1.hok.fresh (Z0 _))
def zvu(ta:TA):TI:=λσ H R=>ta σ H λvs H1=>∃j:Int,vs=[.int j]/\-(2^62)<=j/\j<2^62/\R (Itr 0 j.toNat) H1
theorem zmK{a:Expr}{ta:TA}{p pos:Pos}(hg:Gl X "range")(hm:X.mg "range"=none)(ha:PA X [a] ta)(hs:ZY [a] X.env=[(false,eval a X.env)]:=by rfl):PI X tg (.Call (.Name "range" p) [a] [] pos) (zvu ta):=by
 intro pins s σ H R I h;refine Call_ (zir I hg hm boot_range (XW (thn (ha pos pins s σ H _ I h) λus s1 q_=>?_) hs rfl));obtain⟨vs,H1,I1,r1,q1⟩:=q_;obtain⟨j,e,q1,q2,q⟩:=q1;subst e
 cases r1 with|cons r rr=>cases rr;obtain⟨t,rfl⟩:=r;exact call_range_1 (zoK I1 (by omega) (by omega) q1 q2 (by simpa using q))
def tFor(wi:TI)(g:TG)(tb:TS):TS:=λD σ H=>wi σ H λJ H1=>∃W:Nat->Nat->St->Hp->Prop,(∃m,W 0 m σ H1)/\∀i m σ H,W i m σ H →
 (J.stop i H/\D.nx σ H)\/(J.go i H/\∃N:St->Hp->Prop,(∀σ' H',N σ' H'->∃m',m'<m/\W (i+1) m' σ' H')/\∀x H',J.yld i H x H'->g x σ H' λσ2 H2=>tb {D with nx:=N,ct:=N,bk:=D.nx} σ2 H2)
def zic(fp:List Addr)(h:Heap):List (Addr×Obj):=fp.filterMap λb=>(h.get? b).map λo=>(b,o)
theorem zcO{fp:List Addr}{h:Heap}{b:Addr}{o:Obj}(hb:b∈fp)(e:h.get? b=some o):(b,o)∈zic fp h:=WK.mpr ⟨b,hb,by rw[e];rfl⟩
theorem zme{fp:List Addr}{h:Heap}{p:Addr×Obj}(hp:p∈zic fp h):p.1∈fp/\h.get? p.1=some p.2:=by
 obtain⟨b,hb,e⟩:=WK.mp hp
 cases q:h.get? b with|none=>rw[q] at e;cases e|some o=>rw[q] at e;have e':(b,o)=p:=ZU e;subst e';exact⟨hb,q⟩
theorem Inv.pinned{pins:List (Addr×Obj)}{σ:St}{H:Hp}{s:Shared}{fp:List Addr}(I:Inv X pins σ H s)(hf:∀b∈fp,FpOk X pins H b)(ho:∀b∈fp,∃o,s.heap.get? b=some o/\∀v,o.data≠.cell v):Inv X (pins++zic fp s.heap) σ H s:=
 I.pins_of λp hp=>(Zl.mp hp).elim (λz=>I.pin p (ZB _ z)) λz=>by
  obtain⟨hb,e⟩:=zme z;obtain⟨f0,f1,f2,_⟩:=hf p.1 hb;obtain⟨o,e',d⟩:=ho p.1 hb
  rw[e] at e';cases e'
  exact⟨e,f0,f1,f2,d⟩
theorem Inv.unpinned{pins pl:List (Addr×Obj)}{σ:St}{H:Hp}{s:Shared}(I:Inv X (pins++pl) σ H s):Inv X pins σ H s:=I.pins_of λp hp=>I.pin p (ZB _ (List.mem_append_left _ hp))
theorem zpJ{iter:Expr}{body:List Stmt}{wi:TI}{g:TG}{tb:TS}{pos:Pos}(hp:Wt (model X.prog X.w) X.A X.env X.xe)(hc:X.calm=true)(hi:PI X tg iter wi)(hg:PG X tg g)(hb:PSs X body tb)
  (hs:∀x,YE iter X.env x=pure x:=by intro _;rfl):PS X (.For tg iter body [] pos) (tFor wi g tb):=by
 intro pins s σ H D I h;refine wpAny_For (thn (hi pins s σ H _ I h) λv s1 h1=>thn h1 λitv s2 h2=>?_) hs;obtain⟨it,fp,tn,J,H2,e,I2,T,st2,f2,W,⟨m0,w0⟩,turn⟩:=h2;subst e;have stat:∀{H':Hp},(∀b∈fp,H' b=none)->∀b∈fp,FpOk X pins H' b:=λhn b hb=>⟨hn b hb,(f2 b hb).2⟩;refine codeAny_forLoop_any (λn s'=>∃i σ' H',Inv X pins σ' H' s'/\tn i s'.heap/\(∀b∈fp,H' b=none)/\W i n σ' H') ?_ m0 ⟨0,σ,H2,I2,st2,λb hb=>(f2 b hb).1,w0⟩
 rintro n s3 ⟨i,σ3,H3,I3,st3,fr3,w3⟩
 rcases turn i n σ3 H3 w3 with⟨stop,qn⟩|⟨go,N,hN,step⟩
 ·refine XB hp (thn (T.done X rfl rfl rfl hc i pins s3 σ3 H3 X.xe I3 (stat fr3) st3 stop) λr s4 q_=>?_)
  obtain⟨hr,I4⟩:=q_;subst hr;exact WV ⟨σ3,H3,I4,qn⟩
 ·refine XB hp (thn (T.item X rfl rfl rfl hc i pins s3 σ3 H3 X.xe I3 (stat fr3) st3 go) λr s4 q_=>?_)
  obtain⟨u,hr,h4⟩:=q_;subst hr;refine XB hp (thn h4 λ_ s5 q_=>?_);obtain⟨x,H5,I5,r5,y5,st5,fr5⟩:=q_;have I5':=I5.pinned (stat fr5) (T.obj _ _ st5);refine XB hp (thn (hg _ s5 σ3 H5 x u _ I5' r5 (step x H5 y5)) λ_ s6 q_=>?_);obtain⟨σ6,H6,I6,q6⟩:=q_;refine XB hp (thn (hb _ s6 σ6 H6 _ I6 q6) λf s7 q7=>?_)
  have again:∀{σ7:St} {H7:Hp},Inv X (pins++zic fp s5.heap) σ7 H7 s7->N σ7 H7->∃m,m<n/\∃i σ' H',Inv X pins σ' H' s7/\tn i s7.heap/\(∀b∈fp,H' b=none)/\W i m σ' H':=λ{σ7 H7} I7 n7=>by obtain⟨m',hm,w7⟩:=hN σ7 H7 n7;refine⟨m',hm,i+1,σ7,H7,I7.unpinned,T.keep _ _ _ st5 λb hb o e=>(I7.pin (b,o) (ZB _ (ZB _ (zcO hb e)))).1,λb hb=>?_,w7⟩;obtain⟨o,e,d⟩:=T.obj _ _ st5 b hb;exact(I7.pin (b,o) (ZB _ (ZB _ (zcO hb e)))).2.1
  cases f with|next=>obtain⟨σ7,H7,I7,n7⟩:=q7;exact again I7 n7|cont=>obtain⟨σ7,H7,I7,n7⟩:=q7;exact again I7 n7|brk=>obtain⟨σ7,H7,I7,q7⟩:=q7;exact⟨σ7,H7,I7.unpinned,q7⟩|ret v=>obtain⟨x7,σ7,H7,I7,r7,q7⟩:=q7;exact⟨x7,σ7,H7,I7.unpinned,r7,q7⟩
end
abbrev R2:=V->V->Hp->VK->Prop
def OpR(X:Cx)(f:Value->Value->Sem Value)(r:R2):Prop:=
 ∀ (pins:List (Addr×Obj)) (s:Shared) (σ:St) (H:Hp) (x y:V) (v u:Value) (Q:VK),Inv X pins σ H s->RelV x v->RelV y u->r x y H Q →
  wpAny (model X.prog X.w) X.A (f v u) (EP X pins σ Q) X.xe s
def UnR(X:Cx)(f:Value->Sem Value)(r:V->Hp->VK->Prop):Prop:=
 ∀ (pins:List (Addr×Obj)) (s:Shared) (σ:St) (H:Hp) (x:V) (v:Value) (Q:VK),Inv X pins σ H s->RelV x v->r x H Q →
  wpAny (model X.prog X.w) X.A (f v) (EP X pins σ Q) X.xe s
def zgO(X:Cx)(f:Value)(r:List V->Hp->VK->Prop):Prop:=
 ∀ (pins:List (Addr×Obj)) (s:Shared) (σ:St) (H:Hp) (xs:List V) (us:List Value) (Q:VK),Inv X pins σ H s->Vals xs us->r xs H Q →
  wpAny (model X.prog X.w) X.A (call f us) (EP X pins σ Q) X.xe s
def TruR(X:Cx)(r:V->Hp->(Bool->Hp->Prop)->Prop):Prop:=
 ∀ (pins:List (Addr×Obj)) (s:Shared) (σ:St) (H:Hp) (x:V) (v:Value) (Q:Bool->Hp->Prop),Inv X pins σ H s->RelV x v->r x H Q →
  wpAny (model X.prog X.w) X.A (truthy v) (TP X pins σ Q) X.xe s
def tOp(r:R2)(ta tb:TE):TE:=λσ H Q=>ta σ H λx H1=>tb σ H1 λy H2=>r x y H2 Q
def tUn(r:V->Hp->VK->Prop)(ta:TE):TE:=λσ H Q=>ta σ H λx H1=>r x H1 Q
def rI(C:Int->Int->Prop)(g:Int->Int->V):R2:=λx y H Q=>∃i j,x=.int i/\y=.int j/\C i j/\Q (g i j) H
def rI0(g:Int->Int->V):R2:=λx y H Q=>∃i j,x=.int i/\y=.int j/\Q (g i j) H
def rU(g:Int->V):V->Hp->VK->Prop:=λx H Q=>∃i,x=.int i/\Q (g i) H
section
variable {X:Cx}{a b c:Expr}{ta tb tc:TE}{pos:Pos}
theorem binT(ha:PE X a ta)(hb:PE X b tb){pins:List (Addr×Obj)}{s:Shared}{σ:St}{H:Hp}{R:V->V->Hp->Prop}(I:Inv X pins σ H s)
  (h:ta σ H λx H1=>tb σ H1 λy H2=>R x y H2) {Q:Value->Shared->Prop} {f:Value->Value->Sem Value}
  (hf:∀v u s2 x y H2,Inv X pins σ H2 s2->RelV x v->RelV y u->R x y H2->wpAny (model X.prog X.w) X.A (f v u) Q X.xe s2):
  wpAny (model X.prog X.w) X.A (eval a X.env) (λv s₁=>wpAny (model X.prog X.w) X.A (eval b X.env) (λu s₂=>wpAny (model X.prog X.w) X.A (f v u) Q X.xe s₂) X.xe s₁) X.xe s:=by
 refine thn (ha pins s σ H _ I h) λv s1 q_=>?_;obtain⟨x,H1,I1,r1,q1⟩:=q_;refine thn (hb pins s1 σ H1 _ I1 q1) λu s2 q_=>?_;obtain⟨y,H2,I2,r2,q2⟩:=q_;exact hf v u s2 x y H2 I2 r1 r2 q2
theorem zsk{op:Ws}{r:R2}(ho:OpR X (Y4 op) r)(ha:PE X a ta)(hb:PE X b tb):PE X (.BinOp a op b pos) (tOp r ta tb):=by intro pins s σ H Q I h;exact wpAny_BinOp (binT ha hb I h λv u s2 x y H2 I2 rx ry q=>ho pins s2 σ H2 x y v u Q I2 rx ry q)
theorem ztA{op:UnaryOp}{r:V->Hp->VK->Prop}(ho:UnR X (unaryOp op) r)(ha:PE X a ta):PE X (.UnaryOp op a pos) (tUn r ta):=by intro pins s σ H Q I h;exact UnaryOp_ (thn (ha pins s σ H _ I h) λv s1 ⟨x,H1,I1,r1,q1⟩=>ho pins s1 σ H1 x v Q I1 r1 q1)
theorem opI{f:Value->Value->Sem Value}{C:Int->Int->Prop}{g:Int->Int->Int}
  (rule:∀(i j:Int) (t u:Tok) (s:Shared) (Q:Value->Shared->Prop) (E:Value->Shared->Prop),C i j->Q (.int (g i j) s.toks) {s with toks:=s.toks+1}->wpAny (model X.prog X.w) X.A (f (.int i t) (.int j u)) Q E s):
  OpR X f (rI C λi j=>.int (g i j)):=by
 intro pins s σ H x y v u Q I rx ry h;obtain⟨i,j,rfl,rfl,hc,q⟩:=h;obtain⟨t,rfl⟩:=rx;obtain⟨t',rfl⟩:=ry;exact rule i j t t' s _ _ hc ⟨.int (g i j),H,I.tok _,⟨_,rfl⟩,q⟩
theorem opI0{f:Value->Value->Sem Value}{g:Int->Int->Int}
  (rule:∀(i j:Int) (t u:Tok) (s:Shared) (Q:Value->Shared->Prop) (E:Value->Shared->Prop),Q (.int (g i j) s.toks) {s with toks:=s.toks+1}->wpAny (model X.prog X.w) X.A (f (.int i t) (.int j u)) Q E s):
  OpR X f (rI0 λi j=>.int (g i j)):=by
 intro pins s σ H x y v u Q I rx ry h;obtain⟨i,j,rfl,rfl,q⟩:=h;obtain⟨t,rfl⟩:=rx;obtain⟨t',rfl⟩:=ry;exact rule i j t t' s _ _ ⟨.int (g i j),H,I.tok _,⟨_,rfl⟩,q⟩
theorem opB0{f:Value->Value->Sem Value}{g:Int->Int->Bool}
  (rule:∀(i j:Int) (t u:Tok) (s:Shared) (Q:Value->Shared->Prop) (E:Value->Shared->Prop),Q (.bool (g i j)) s->wpAny (model X.prog X.w) X.A (f (.int i t) (.int j u)) Q E s):
  OpR X f (rI0 λi j=>.bl (g i j)):=by
 intro pins s σ H x y v u Q I rx ry h;obtain⟨i,j,rfl,rfl,q⟩:=h;obtain⟨t,rfl⟩:=rx;obtain⟨t',rfl⟩:=ry;exact rule i j t t' s _ _ ⟨.bl (g i j),H,I,rfl,q⟩
def CPow(i j:Int):Prop:=0<=j/\j<=1000000/\i.natAbs<2^64
def CMul(i j:Int):Prop:=(-(2^64)<i/\i<2^64)\/(-(2^64)<j/\j<2^64)
theorem CMul.ok{i j:Int}(h:CMul i j):IntMulOk i j:=by
 rcases h with⟨h1,h2⟩|⟨h1,h2⟩
 ·exact .of_left (intBits_le_64 h1 h2)
 ·exact .of_right (intBits_le_64 h1 h2)
theorem zum:OpR X (Y4 .Add) (rI0 λi j=>.int (i+j)):=opI0 λ_ _ _ _ _ _ _ q=>add_int q
theorem ztB:OpR X (Y4 .Sub) (rI0 λi j=>.int (i-j)):=opI0 λ_ _ _ _ _ _ _ q=>sub_int q
theorem zsq:OpR X (Y4 .Mult) (rI CMul λi j=>.int (i*j)):=opI λ_ _ _ _ _ _ _ hc q=>mul_int q hc.ok
theorem zsG:OpR X (Y4 .Mod) (rI (λ_ j=>0<j) λi j=>.int (i%j)):=opI λi j _ _ _ _ _ hc q=>by
 have h1:(0:Int)<j:=hc
 exact mod_int' (by exact OZI hc) (by rw[Int.fmod_eq_emod_of_nonneg i (by omega)];exact q)
theorem zsY:OpR X (Y4 .Pow) (rI CPow λi j=>.int (i^j.toNat)):=opI λ_ _ _ _ _ _ _ hc q=>pow_int_small hc.1 hc.2.1 hc.2.2 q
theorem ztz:OpR X (Y4 .BitAnd) (rI0 λi j=>.int (Xp i j)):=opI0 λ_ _ _ _ _ _ _ q=>and_int q
theorem zvn:OpR X (Y4 .BitOr) (rI0 λi j=>.int (Wx i j)):=opI0 λ_ _ _ _ _ _ _ q=>or_int q
theorem unI{f:Value->Sem Value}{g:Int->Int}
  (rule:∀(i:Int) (t:Tok) (s:Shared) (Q:Value->Shared->Prop) (E:Value->Shared->Prop),Q (.int (g i) s.toks) {s with toks:=s.toks+1}->wpAny (model X.prog X.w) X.A (f (.int i t)) Q E s):
  UnR X f (rU λi=>.int (g i)):=by
 intro pins s σ H x v Q I rx h;obtain⟨i,rfl,q⟩:=h;obtain⟨t,rfl⟩:=rx;exact rule i t s _ _ ⟨.int (g i),H,I.tok _,⟨_,rfl⟩,q⟩
theorem zpG:UnR X (unaryOp .USub) (rU λi=>.int (-i)):=unI λ_ _ _ _ _ q=>neg_int q
end
section
variable {X:Cx}{a b c:Expr}{ta tb tc:TE}{pos:Pos}
theorem zku{pins:List (Addr×Obj)}{σ:St}{H:Hp}{s:Shared}{Q:VK}{k k':Bool}(I:Inv X pins σ H s)(q:Q (.bl k) H)(e:k=k'):EP X pins σ Q (.bool k') s:=by subst e;exact⟨.bl k,H,I,rfl,q⟩
theorem zvG:OpR X (Zs .Lt) (rI0 λi j=>.bl (decide (i<j))):=opB0 λ_ _ _ _ _ _ _ q=>lt_int q
theorem zuJ:OpR X (Zs .LtE) (rI0 λi j=>.bl (decide (i<=j))):=opB0 λ_ _ _ _ _ _ _ q=>le_int q
theorem zvp:OpR X (Zs .Gt) (rI0 λi j=>.bl (decide (j<i))):=opB0 λ_ _ _ _ _ _ _ q=>gt_int q
theorem zuE:OpR X (Zs .GtE) (rI0 λi j=>.bl (decide (j<=i))):=opB0 λ_ _ _ _ _ _ _ q=>ge_int q
theorem znL:OpR X (Zs .In) (λx y H Q=>∃i j,x=.str i/\y=.str j/\Q (.bl (!(YX.Str.occurrences j i 0 j.length 1).isEmpty)) H):=by intro pins s σ H x y v u Q I rx ry h;obtain⟨i,j,rfl,rfl,q⟩:=h;obtain⟨t,rfl⟩:=rx;obtain⟨t',rfl⟩:=ry;exact in_str (zku I q rfl)
theorem ztO:OpR X (Zs .Is) (λx y H Q=>y=.non/\Q (.bl (decide (x=.non))) H):=by
 intro pins s σ H x y v u Q I rx ry h;obtain⟨rfl,q⟩:=h;cases ry;refine is_none_gen (zku I q ?_)
 cases x<;>first|(cases rx;rfl)|(obtain⟨t,rfl⟩:=rx;rfl)
theorem zrI:OpR X (Zs .IsNot) (λx y H Q=>y=.non/\Q (.bl (!decide (x=.non))) H):=by
 intro pins s σ H x y v u Q I rx ry h;obtain⟨rfl,q⟩:=h;cases ry;refine isnot_none_gen (zku I q ?_)
 cases x<;>first|(cases rx;rfl)|(obtain⟨t,rfl⟩:=rx;rfl)
theorem zhF:OpR X (Zs .NotIn) (λx y H Q=>∃i j,x=.str i/\y=.str j/\Q (.bl (!(!(YX.Str.occurrences j i 0 j.length 1).isEmpty))) H):=by intro pins s σ H x y v u Q I rx ry h;obtain⟨i,j,rfl,rfl,q⟩:=h;obtain⟨t,rfl⟩:=rx;obtain⟨t',rfl⟩:=ry;exact notIn_str (zku I q rfl)
theorem zrO{op:CmpOp}{r:R2}(ho:OpR X (Zs op) r)(ha:PE X a ta)(hb:PE X b tb)(hm:W3 op b=false):PE X (.Compare a [op] [b] pos) (tOp r ta tb):=by intro pins s σ H Q I h;exact wpAny_Compare1 (binT ha hb I h λv u s2 x y H2 I2 rx ry q=>ho pins s2 σ H2 x y v u Q I2 rx ry q) hm
def zt6(t:TE):TT:=λσ H Q=>t σ H λx H'=>∃k,x=.bl k/\Q k H'
theorem zsh{op:CmpOp}{r:R2}(ho:OpR X (Zs op) r)(ha:PE X a ta)(hb:PE X b tb)(hm:W3 op b=false):PT X (.Compare a [op] [b] pos) (zt6 (tOp r ta tb)):=by
 intro pins s σ H Q I h
 refine wpAny_isTrue_Compare1 (thn (ha pins s σ H _ I h) λv s1 ⟨x,H1,I1,r1,q1⟩=>thn (hb pins s1 σ H1 _ I1 q1) λu s2 ⟨y,H2,I2,r2,q2⟩=>thn (ho pins s2 σ H2 x y v u _ I2 r1 r2 q2) λc s3 ⟨z,H3,I3,r3,k,e,q3⟩=>?_) hm
 subst e;cases r3;exact YN ⟨H3,I3,q3⟩
def zmG(r r':R2)(ta tb tc:TE):TE:=λσ H Q=>ta σ H λx H1=>tb σ H1 λy H2=>r x y H2 λz H3=>∃k,z=.bl k ∧
 (if k=true then tc σ H3 λw' H4=>r' y w' H4 Q else Q (.bl false) H3)
theorem zof{op op':CmpOp}{r r':R2}(ho:OpR X (Zs op) r)(ho':OpR X (Zs op') r')(ha:PE X a ta)(hb:PE X b tb)(hc:PE X c tc)
  (hm:lastMarks [op,op'] [b,c]=false:=by with_unfolding_all rfl):PE X (.Compare a [op,op'] [b,c] pos) (zmG r r' ta tb tc):=by
 intro pins s σ H Q I h
 refine Compare_chain (thn (ha pins s σ H _ I h) λv s1 ⟨x,H1,I1,r1,q1⟩=>chain_link (thn (hb pins s1 σ H1 _ I1 q1) λu s2 ⟨y,H2,I2,r2,q2⟩=>thn (ho pins s2 σ H2 x y v u _ I2 r1 r2 q2) λd s3 ⟨z,H3,I3,r3,k,e,q3⟩=>?_)) hm
 subst e;cases r3;refine YN ?_
 cases k with|false=>exact ite_ff ⟨.bl false,H3,I3,rfl,q3⟩|true=>exact ite_tt (chain_last (thn (hc pins s3 σ H3 _ I3 q3) λw' s4 ⟨z',H4,I4,r4,q4⟩=>ho' pins s4 σ H4 y z' u w' Q I4 r2 r4 q4))
theorem zox{op op':CmpOp}{r r':R2}(ho:OpR X (Zs op) r)(ho':OpR X (Zs op') r')(ha:PE X a ta)(hb:PE X b tb)(hc:PE X c tc)
  (hm:lastMarks [op,op'] [b,c]=false:=by with_unfolding_all rfl):PT X (.Compare a [op,op'] [b,c] pos) (zt6 (zmG r r' ta tb tc)):=by
 intro pins s σ H Q I h
 refine isTrue_chain (thn (ha pins s σ H _ I h) λv s1 ⟨x,H1,I1,r1,q1⟩=>test_link (thn (hb pins s1 σ H1 _ I1 q1) λu s2 ⟨y,H2,I2,r2,q2⟩=>thn (ho pins s2 σ H2 x y v u _ I2 r1 r2 q2) λd s3 ⟨z,H3,I3,r3,k,e,q3⟩=>?_)) hm
 subst e;cases r3;refine YN ?_
 cases k with|false=>obtain⟨k',e',q'⟩:=q3;cases e';exact ite_ff ⟨H3,I3,q'⟩|true=>refine ite_tt (test_last (thn (hc pins s3 σ H3 _ I3 q3) λw' s4 ⟨z',H4,I4,r4,q4⟩=>thn (ho' pins s4 σ H4 y z' u w' _ I4 r2 r4 q4) λd' s5 q_=>?_));obtain⟨z2,H5,I5,r5,k2,e2,q5⟩:=q_;subst e2;cases r5;exact YN ⟨H5,I5,q5⟩
def TruV(K:Z7)(x:V)(H:Hp)(k:Bool):Prop:=
 match x with|.non=>k=false|.bl b=>k=b|.int i=>k=(i != 0)|.str y=>y.length<=sizeLine/\k=((y.length:Int) != 0)|.byt y=>y.size<=sizeLine/\k=((y.size:Int) != 0)|.ref p=>(∃xs,SqL K H p xs/\k=!xs.isEmpty)\/(∃xs,SqT K H p xs/\k=!xs.isEmpty)\/∃kvs,H p=some (.dK kvs)/\k=!kvs.isEmpty|_=>False
theorem zk0{κ:Type}{kvs:List (κ×V)}{vs:List (κ×Value)}(r:KV kvs vs):(!vs.isEmpty)=!kvs.isEmpty:=by cases r<;>rfl
theorem zcN{xs:List V}{its:List Value}(r:Vals xs its):(!its.toArray.isEmpty)=!xs.isEmpty:=by cases r<;>simp
theorem zfA:(sizeLine:Nat)<2^63:=by rw[Yw];decide
theorem zss:TruR X (λx H Q=>∃k,TruV X.K x H k/\Q k H):=by
 intro pins s σ H x v Q I rx h;obtain⟨k,e,q⟩:=h;have hl:=zfA;have hs:sizeLine=16777216:=Yw
 cases x with
 |non=>cases rx;have e':k=false:=e;subst e';exact truthy_none ⟨H,I,q⟩|bl b=>cases rx;have e':k=b:=e;subst e';exact YN ⟨H,I,q⟩|int i=>obtain⟨t,rfl⟩:=rx;have e':k=(i != 0):=e;subst e';exact PySem.P.truthy_int ⟨H,I,q⟩|str y=>obtain⟨t,rfl⟩:=rx;obtain⟨hy,e'⟩:y.length<=sizeLine/\k=((y.length:Int) != 0):=e;subst e';exact PySem.P.truthy_str (by exact OZH hy hs) ⟨H,I.tok _,q⟩|byt y=>obtain⟨t,rfl⟩:=rx;obtain⟨hy,e'⟩:y.size<=sizeLine/\k=((y.size:Int) != 0):=e;subst e';exact PySem.W.truthy_bytes (by exact OZG hy hs) ⟨H,I.tok _,q⟩
 | ref p=>
  cases rx;have e':(∃xs,SqL X.K H p xs/\k=!xs.isEmpty)\/(∃xs,SqT X.K H p xs/\k=!xs.isEmpty)\/∃kvs,H p=some (.dK kvs)/\k=!kvs.isEmpty:=e
  rcases e' with⟨xs,hx,e'⟩|⟨xs,hx,e'⟩|⟨kvs,hx,e'⟩
  ·subst e'
   obtain⟨its,r,pl,hz⟩:=I.list hx;have hlen:=r.length
   exact wpAny_truthy_list pl.isList (by simp only[ZW];exact OZ1 hlen.symm hz hs) ⟨H,I.tok _,by rw[zcN r];exact q⟩
  ·subst e'
   obtain⟨its,r,pl,hz⟩:=I.tuple hx;have hlen:=r.length
   exact truthy_tuple pl (by simp only[ZW];exact OZ1 hlen.symm hz hs) ⟨H,I.tok _,by rw[zcN r];exact q⟩
  ·subst e'
   obtain⟨hz,hS,vs,r,m⟩:kvs.length<=sizeLine/\(p==Xz)=false/\∃vs,KV kvs vs/\s.heap.DictOf (zbq X.prog X.w) p vs:=I.hok p _ hx;have hlen:kvs.length=vs.length:=W6 r
   exact wpAny_truthy_dict hS m (by exact OZ1 hlen.symm hz hs) ⟨H,I.tok _,by rw[zk0 r];exact q⟩
 |_=>exact(show False from e).elim
theorem znV(ha:PE X a ta)(he:∀whole,isTrue a X.env whole=(do let v<-whole;Xq a.pos;holding [v] (truthy v))):
  PT X a (λσ H Q=>ta σ H λx H'=>∃k,TruV X.K x H' k/\Q k H'):=by
 intro pins s σ H Q I h;exact isTrue_plain (thn (ha pins s σ H _ I h) λv s1 ⟨x,H1,I1,r1,q1⟩=>zss pins s1 σ H1 x v Q I1 r1 q1) (he _)
theorem zle:OpR X (Y4 .Add) (λx y H Q=>∃i j,x=.str i/\y=.str j/\i.length+j.length<=sizeLine/\Q (.str (i++j)) H):=by intro pins s σ H x y v u Q I rx ry h;obtain⟨i,j,rfl,rfl,hz,q⟩:=h;obtain⟨t,rfl⟩:=rx;obtain⟨t',rfl⟩:=ry;exact add_str (λt' tk=>⟨.str (i++j),H,I.tok _,⟨_,rfl⟩,q⟩) hz
theorem zi5{x:V}{us:List Value}(r:Vals [x] us):∃u,us=[u]/\RelV x u:=by
 cases r with|cons r1 r2=>cases r2;exact⟨_,rfl,r1⟩
theorem zuF{x y:V}{us:List Value}(r:Vals [x,y] us):∃u w',us=[u,w']/\RelV x u/\RelV y w':=by
 cases r with
 |cons r1 r2=>
  cases r2 with|cons r3 r4=>cases r4;exact⟨_,_,rfl,r1,r3⟩
theorem ziJ:zgO X (.type "int") (λxs H Q=>(∃i,xs=[.int i]/\Q (.int i) H)\/∃k,xs=[.bl k]/\Q (.int (if k then 1 else 0)) H):=by
 intro pins s σ H xs us Q I r h
 rcases h with⟨i,rfl,q⟩|⟨k,rfl,q⟩
 ·obtain ⟨u,rfl,t,rfl⟩:=zi5 r
  exact call_int_int ⟨.int i,H,I,⟨_,rfl⟩,q⟩
 ·obtain ⟨u,rfl,r1⟩:=zi5 r
  cases r1;exact call_int_bool ⟨.int (if k then 1 else 0),H,I.tok _,⟨_,rfl⟩,q⟩
def LenV(K:Z7)(x:V)(H:Hp)(n:Nat):Prop:=
 match x with|.str y=>y.length<=sizeLine/\n=y.length|.byt y=>y.size<=sizeLine/\n=y.size|.ref p=>(∃xs,SqL K H p xs/\n=xs.length)\/∃xs,SqT K H p xs/\n=xs.length|_=>False
theorem zeQ:zgO X (.builtin "len") (λxs H Q=>∃x n,xs=[x]/\LenV X.K x H n/\Q (.int n) H):=by
 intro pins s σ H xs us Q I r h;obtain⟨x,n,rfl,e,q⟩:=h;obtain⟨u,rfl,rx⟩:=zi5 r;have hl:=zfA;have hs:sizeLine=16777216:=Yw
 cases x with
 |str y=>obtain⟨t,rfl⟩:=rx;obtain⟨hy,e'⟩:y.length<=sizeLine/\n=y.length:=e;subst e';exact len_str (by exact OZH hy hs) ⟨.int _,H,I.tok _,⟨_,rfl⟩,q⟩|byt y=>obtain⟨t,rfl⟩:=rx;obtain⟨hy,e'⟩:y.size<=sizeLine/\n=y.size:=e;subst e';exact PySem.W.len_bytes (by exact OZG hy hs) ⟨.int _,H,I.tok _,⟨_,rfl⟩,q⟩
 | ref p=>
  cases rx;have e':(∃xs,SqL X.K H p xs/\n=xs.length)\/∃xs,SqT X.K H p xs/\n=xs.length:=e
  rcases e' with⟨xs,hx,e'⟩|⟨xs,hx,e'⟩
  ·subst e'
   obtain⟨its,r',pl,hz⟩:=I.list hx;have hlen:=r'.length
   exact Calls.call_len_list pl.isList (by simp only[ZW];exact OZ1 hlen.symm hz hs) ⟨.int xs.length,H,I.tok _,⟨_,by simp only[ZW];rw[hlen]⟩,q⟩
  ·subst e'
   obtain⟨its,r',pl,hz⟩:=I.tuple hx;have hlen:=r'.length
   exact len_tuple pl (by simp only[ZW];exact OZ1 hlen.symm hz hs) ⟨.int xs.length,H,I.tok _,⟨_,by simp only[ZW];rw[hlen]⟩,q⟩
 |_=>exact(show False from e).elim
end
structure ObjM(h:Heap)(x dx C:Addr)(mA:Str->Option Value):Prop where
 obj:h.get? x=some (YA C dx)
 ns:h.Ns1 dx mA
 ne:dx≠x
theorem znf{h:Heap}{dx:Addr}{mA:Str->Option Value}(n:h.Ns1 dx mA):∃od,h.get? dx=some od/\∀name,WJ name od=some (mA name):=by
 obtain⟨o,es,ep,ho,hd,hk,_,hm⟩:=n;refine⟨o,ho,λname=>?_⟩;have e:=hm name;unfold nsFind findBy at e;rw[<-Array.find?_toList] at e;unfold WJ;rw[hd];dsimp only
 split
 ·rename_i y q
  rw[q] at e;exact congrArg some e
 ·rename_i q
  rw[q] at e
  have a:es.toList.any (·.refKey)=false:=by rw[List.any_eq_false];intro y hy;obtain⟨z,t,hkey⟩:=hk y (Array.mem_toList_iff.mp hy);simp[DictEntry.refKey,hkey]
  have a':¬es.toList.any (·.refKey)=true:=by rw[a];exact Bool.false_ne_true
  rw[if_neg a'];exact congrArg some e
theorem ObjM.look{h:Heap}{x dx C:Addr}{mA:Str->Option Value}(I:ObjM h x dx C mA):∃od,Wf h x (YA C dx) C (some od)/\∀name,WJ name od=some (mA name):=
 let ⟨od,ho,hl⟩:=znf I.ns
 ⟨od,⟨I.obj,rfl,rfl,ho⟩,hl⟩
section
variable {prog:Zx}{w:World}{A:Around}{E:Value->Shared->Prop}{s:Shared}{K:Z7}{x dx C f:Addr}{mA:Str->Option Value}{name:Str}{v:Value}
theorem zq5{expr:Bool}{Q:Value->Shared->Prop}(X:K.In s.heap)(I:ObjM s.heap x dx C mA)(hg:Yj K C name=true)(hh:YD K C=true)
  (ha:ZK K (.ref C) name=some none) (hv:mA name=some v) (hv':PySem.W.handedIn v=true) (h:Q v {s with toks:=s.toks+1}):
  wpAny (model prog w) A (getAttr (.ref x) name expr) Q E s:=by
 obtain⟨od,J,hl⟩:=I.look;exact PySem.W.get_value X J (WT hg).1 (PySem.W.findObj_own hh ha rfl (by rw[hl,hv])) hv' h
theorem znZ{pl:Sem Bool}{Q:Value×List Value->Shared->Prop}(X:K.In s.heap)(I:ObjM s.heap x dx C mA)(hg:Yj K C name=true)
  (hf:ZK K (.ref C) name=some (some (.ref f))) (ht:WR K (.ref f)=true) (hv:mA name=none) (h:Q (.ref f,[.ref x]) s):
  wpAny (model prog w) A (WM (.ref x) name pl) Q E s:=by
 obtain⟨od,J,hl⟩:=I.look
 exact PySem.W.method_fn X J (WT hg).1 (WT hg).2 hf (beq_iff_eq.mp ht) (by show(WJ name od).map (·.isSome)=some false;rw[hl,hv];rfl) h
theorem zqI{ns:List Str}{Q:Unit->Shared->Prop}(X:K.In s.heap)(I:ObjM s.heap x dx C mA)
  (hs:ZK K (.ref C) "__setattr__"=some (some (.builtin "object.__setattr__"))) (hp:Xo K C=true) (ht:Wn K C name=some none) (hh:YD K C=true)
  (hw:Wp mA ns) (hsz:ns.length<=sizeLine)
  (h:∀h',ObjM h' x dx C (λy=>if y=name then some v else mA y)->Xr dx s.heap h'->Q () {s with heap:=h',toks:=s.toks+2}):
  wpAny (model prog w) A (setAttr (.ref x) name v) Q E s:=by
 obtain⟨od,J,hl⟩:=I.look;refine PySem.W.set_plain X J hs (PySem.W.osa_open (s:={s with toks:=s.toks+1}) (r:=none) X J hp ht λb=>?_);obtain⟨cd,hc,hd'⟩:=PySem.W.any_some hh;have hx:s.heap.get? x=some ⟨.ref C,some dx,.plain,#[]⟩:=I.obj;refine Z1 (ZN (Z1 (Z1 (wpAny_loadPart hx (Z1 (PySem.W.Looks.here (s:={s with toks:=s.toks+1}) (PySem.W.looks_clsIn X hc) ?_))))));rw[hd'];refine ZN (a:=some dx) (Z1 (ZN (Z1 ?_)));refine wpAny_nsSet1 (s:={s with toks:=s.toks+1}) I.ns λh' hn2 hs2=>?_;obtain⟨oD,esD,epD,hoD,hdD,hcD⟩:=hn2.count (Wp.cons name v hw)
 refine Z1 (wpAny_lookBehind hoD (by rw[hdD];exact pastItsLine_dict (Y6 hcD (by rw[Zr];omega))) ?_)
 exact ZN (h _ ⟨(hs2.2 _ (Y5 I.ne)).trans I.obj,hn2,I.ne⟩ hs2)
theorem zoe{R:Result->Shared->Prop}{vs:List Value}{kw:List (Str×Value)}(X:K.In s.heap)(hm:WU K C=true)
  (hi:ZK K (.ref C) "__init__"=some (some (.ref f))) (hf:PySem.W.typeIn K (.ref f)=some (.type "function"))
  (h:W2 (model prog w) (A.under (.builtin "type.__call__" ⟨.ref C::vs,kw⟩)) (.call (.ref f) ⟨.ref (s.heap.objs.size+1)::vs,kw⟩) (PySem.W.InitBack (s.heap.objs.size+1) R)
   {s with heap:=(s.heap.push YW).push (YA C s.heap.objs.size)}):
  W2 (model prog w) A (.call (.ref C) ⟨vs,kw⟩) R s:=by
 obtain⟨hh,g,d,t,os⟩:=s;exact PySem.W.make_core (PySem.W.makes_of X hm) (PySem.W.looks_findIn X hi) (λself=>PySem.W.bind_fn X self hf) (.inl rfl) h
end
def putF(f:Str)(v:V):List (Str×V)->List (Str×V)| []=>[(f,v)]|(g,x)::r=>if g=f then(g,v)::r else(g,x)::putF f v r
theorem zfo(f g:Str)(v:V):∀fs:List (Str×V),(putF f v fs).lookup g=if g=f then some v else fs.lookup g
  | [] => by
    show Xx g [(f,v)]=_
    by_cases h:g=f
    · have hb:(g==f)=true:=beq_iff_eq.mpr h
      simp only[Xx,hb,if_pos h]
    · have hb:(g==f)=false:=beq_eq_false_iff_ne.mpr h
      simp only[Xx,hb,if_neg h]
  | (k, x)::r=>by
    have ih:=zfo f g v r;rw[show putF f v ((k,x)::r)=(if k=f then(k,v)::r else(k,x)::putF f v r) from rfl]
    by_cases hk:k=f
    · rw [if_pos hk]
      by_cases h:g=k
      · have hb:(g==k)=true:=beq_iff_eq.mpr h
        simp only[Xx,hb,if_pos (h.trans hk)]
      · have hb:(g==k)=false:=beq_eq_false_iff_ne.mpr h
        simp only[Xx,hb,if_neg (λe:g=f=>h (e.trans hk.symm))]
    · rw [if_neg hk]
      by_cases h:g=k
      · have hb:(g==k)=true:=beq_iff_eq.mpr h
        simp only[Xx,hb,if_neg (λe:g=f=>hk (h.symm.trans e))]
      · have hb:(g==k)=false:=beq_eq_false_iff_ne.mpr h
        simp only[Xx,hb];exact ih
theorem zfa(f:Str)(v:V):∀fs:List (Str×V),f∈(putF f v fs).map (·.1)/\∀g,g∈fs.map (·.1)->g∈(putF f v fs).map (·.1)
  | []=>⟨by simp[putF],λg h=>by simp at h⟩
  | (k, x)::r=>by
    obtain⟨i1,i2⟩:=zfa f v r;rw[show putF f v ((k,x)::r)=(if k=f then(k,v)::r else(k,x)::putF f v r) from rfl]
    by_cases hk:k=f
    · rw [if_pos hk]
      subst hk;exact⟨by simp,λg h=>by simpa using h⟩
    · rw [if_neg hk]
      refine⟨?_,λg h=>?_⟩
      · rw [ZC]
        exact Zo _ i1
      · rw [ZC] at h⊢
        rcases ZQ.mp h with e | e
        · exact ZQ.mpr (.inl e)
        · exact Zo _ (i2 g e)
theorem zfH(f:Str)(v:V):∀fs:List (Str×V),(putF f v fs).length<=fs.length+1
  | []=>by simp[putF]
  | (k,x)::r=>by
    have ih:=zfH f v r;rw[show putF f v ((k,x)::r)=(if k=f then(k,v)::r else(k,x)::putF f v r) from rfl]
    by_cases hk:k=f
    · rw[if_pos hk,Zr,Zr];omega
    · rw[if_neg hk,Zr,Zr];omega
theorem RelO.some_of{v:V}{o:Option Value}(r:RelO (some v) o):∃u,o=some u/\RelV v u:=by
 cases o with|none=>exact(show False from r).elim|some u=>exact⟨u,rfl,r⟩
theorem RelO.none_of{o:Option Value}(r:RelO none o):o=none:=by
 cases o with|none=>rfl|some u=>exact(show False from r).elim
theorem znl{v:V}{u:Value}(r:RelV v u):PySem.W.handedIn u=true:=by
 cases v with|non=>cases (show u=V7 from r);rfl|bl b=>cases (show u=W9 b from r);rfl|int i=>obtain⟨t,e⟩:=(show ∃t,u=Value.int i t from r);cases e;rfl|str x=>obtain⟨t,e⟩:=(show ∃t,u=WN x t from r);cases e;rfl|byt b=>obtain⟨t,e⟩:=(show ∃t,u=Value.bytes b t from r);cases e;rfl|flt b=>obtain⟨t,e⟩:=(show ∃t,u=Value.float b t from r);cases e;rfl|ref a=>cases (show u=Zc a from r);rfl|ty n=>cases (show u=Value.type n from r);rfl
section
variable {P:Zx}{w:World}{H H':Hp}{h h':Heap}{a C dx:Addr}{fs fs':List (Str×V)}
theorem ziS(hok:HOk P w H h)(e:H a=some (.ins C dx fs)):∃mA,ObjM h a dx C mA/\(∀f,RelO (fs.lookup f) (mA f))/\Wp mA (fs.map (·.1))/\fs.length<=1000/\H dx=some (.own a):=by obtain⟨d,z,ne,ob,mA,n,r,q⟩:=(show zby P w H h a (.ins C dx fs) from hok a _ e);exact⟨mA,⟨ob,n,ne⟩,r,q,z,d⟩
end
structure Cls(K:Z7)(C:Addr):Prop where
 pg:Yj K C Str.empty=true
 hd:YD K C=true
 po:Xo K C=true
 sa:ZK K (.ref C) "__setattr__"=some (some (.builtin "object.__setattr__"))
theorem Cls.get{K:Z7}{C:Addr}(c:Cls K C)(f:Str):Yj K C f=true:=c.pg
def zb9(K:Z7)(C:Addr)(f:Str):Prop:=ZK K (.ref C) f=some none
theorem zb9.taker{K:Z7}{C:Addr}{f:Str}(n:zb9 K C f):Wn K C f=some none:=by unfold Wn;rw[show ZK K (.ref C) f=some none from n];rfl
structure Meth(K:Z7)(C:Addr)(m:Str)(f:Addr):Prop where
 at_:ZK K (.ref C) m=some (some (.ref f))
 fn:WR K (.ref f)=true
 kp:Zf K (.ref f)=true
section
variable {X:Cx}{pins:List (Addr×Obj)}{σ:St}{H:Hp}{s:Shared}{a C dx:Addr}{fs:List (Str×V)}{f:Str}{v:V}{A:Around}{E:Value->Shared->Prop}
theorem zk7{b:Bool}{Q:Value->Shared->Prop}(I:Inv X pins σ H s)(e:H a=some (.ins C dx fs))(c:Cls X.K C)(n:zb9 X.K C f)(l:fs.lookup f=some v)
  (h:∀u s',Inv X pins σ H s'->RelV v u->Q u s'):wpAny (model X.prog X.w) A (getAttr (.ref a) f b) Q E s:=by
 obtain⟨mA,O,r,_,_,_⟩:=ziS I.hok e
 obtain⟨u,hu,ru⟩:=RelO.some_of (v:=v) (o:=mA f) (by rw[<-l];exact r f)
 exact zq5 I.kIn O (c.get f) c.hd n hu (znl ru) (h u _ (I.tok _) ru)
theorem zgn{m:Str}{g:Addr}{pl:Sem Bool}{Q:Value×List Value->Shared->Prop}(I:Inv X pins σ H s)(e:H a=some (.ins C dx fs))(c:Cls X.K C)(k:Meth X.K C m g)(l:fs.lookup m=none)
  (h:Q (.ref g,[.ref a]) s):wpAny (model X.prog X.w) A (WM (.ref a) m pl) Q E s:=by
 obtain⟨mA,O,r,_,_,_⟩:=ziS I.hok e
 have hn:mA m=none:=RelO.none_of (by rw[<-l];exact r m)
 exact znZ I.kIn O (c.get m) k.at_ k.fn hn h
theorem zlq{y:V}{u:Value}{Q:Unit->Shared->Prop}(I:Inv X pins σ H s)(e:H a=some (.ins C dx fs))(c:Cls X.K C)(n:zb9 X.K C f)(hl:fs.length<1000)(ry:RelV y u)
  (h:∀s',Inv X pins σ (upd H a (.ins C dx (putF f y fs))) s'->Q () s'):wpAny (model X.prog X.w) A (setAttr (.ref a) f u) Q E s:=by
 obtain⟨mA,O,r,wi,_,ho⟩:=ziS I.hok e
 have hz:(fs.map (·.1)).length<=sizeLine:=by rw[Z4,Yw];omega
 refine zqI I.kIn O c.sa c.po n.taker c.hd wi hz λh' O' sb=>h _ ?_
 have hd:∃o,h'.get? dx=some o:=let ⟨o,_,_,e',_⟩:=O'.ns;⟨o,e'⟩
 refine I.write (x:=a) (e:=dx) (by rw[e];exact WI) (.inr ho) (λb q hb z=>(sb.2 b hb).trans z) hd ?_
 refine⟨by rw[zaj O.ne];exact ho,?_,O.ne,O'.obj,_,O'.ns,λg=>?_,λg hg=>?_⟩
 ·have:=zfH f y fs;omega
 ·show RelO ((putF f y fs).lookup g) (if g=f then some u else mA g)
  rw[zfo]
  by_cases q:g=f
  ·rw[if_pos q,if_pos q];exact ry
  ·rw[if_neg q,if_neg q];exact r g
 ·by_cases q:g=f
  ·rw[q];exact(zfa f y fs).1
  ·refine (zfa f y fs).2 g (wi g λz=>hg ?_)
   show(if g=f then some u else mA g)=none
   rw[if_neg q];exact z
theorem Inv.made(I:Inv X pins σ H s):Inv X pins σ (upd (upd H s.heap.objs.size (.own (s.heap.objs.size+1))) (s.heap.objs.size+1) (.ins C s.heap.objs.size []))
  {s with heap:=(s.heap.push YW).push (YA C s.heap.objs.size)}:=by
 have e1:(s.heap.push YW).get? s.heap.objs.size=some YW:=Zp s.heap rfl
 have e2:((s.heap.push YW).push (YA C s.heap.objs.size)).get? (s.heap.objs.size+1)=some (YA C s.heap.objs.size):=by
  have:=Zp (s.heap.push YW) (o:=YA C s.heap.objs.size) rfl
  rwa [We] at this
 have e3:(s.heap.push YW).Ns s.heap.objs.size (λ_=>none):=⟨YW,#[],_,e1,rfl,(λe he=>absurd he (by simp)),λ_=>rfl⟩;have I1:=I.laid (a:=s.heap.objs.size) (o:=.own (s.heap.objs.size+1)) (h':=s.heap.push YW) (t':=s.toks) (λb u q=>Z2 _ q) (Z0 _) ⟨_,e1⟩;refine I1.laid (a:=s.heap.objs.size+1) (o:=.ins C s.heap.objs.size []) (t':=s.toks) (λb u q=>Z2 _ q) (Nat.le_of_eq (We _ _)) ?_;have ne:s.heap.objs.size≠s.heap.objs.size+1:=ZJ (Yi _);refine⟨by rw[zaj ne,zak],X9 _,ne,e2,λ_=>none,(Heap.Ns1.of_empty e3).at λo q=>Z2 _ q,λ_=>WI,λy hy=>absurd rfl hy⟩
theorem zq6{prog:Zx}{w:World}{env:Env}{e:Expr}{f:Str}{pos:Pos}{s:Shared}{Q:Value->Shared->Prop}(hb:YQ e f env (eval e env)=eval e env)
  (h:wpAny (model prog w) A (eval e env) (λo s₁=>wpAny (model prog w) A (getAttr o f true) Q E s₁) E s):wpAny (model prog w) A (eval (.Attribute e f pos) env) Q E s:=
 Attribute_any_ h (by rw[arm_eval_Attribute,hb])
end
def tFld(K:Z7)(ta:TE)(f:Str):TE:=λσ H Q=>ta σ H λx H1=>∃a C dx fs v,x=.ref a/\H1 a=some (.ins C dx fs)/\Cls K C/\zb9 K C f/\fs.lookup f=some v/\Q v H1
def sFld(K:Z7)(ta tv:TE)(f:Str):TS:=λD σ H=>tv σ H λy H1=>ta σ H1 λx H2=>∃a C dx fs,x=.ref a/\H2 a=some (.ins C dx fs)/\Cls K C/\zb9 K C f/\fs.length<1000 ∧
 D.nx σ (upd H2 a (.ins C dx (putF f y fs)))
section
variable {X:Cx}{o e value:Expr}{f:Str}{pos pos' tpos:Pos}{ta tv:TE}
theorem zsQ(he:PE X e ta)(hb:YQ e f X.env (eval e X.env)=eval e X.env):PE X (.Attribute e f pos) (tFld X.K ta f):=by intro pins s σ H Q I h;refine zq6 hb (thn (he pins s σ H _ I h) λu s1 q_=>?_);obtain⟨x,H1,I1,rx,a,C,dx,fs,v,ex,ea,c,n,l,q⟩:=q_;subst ex;obtain rfl:u=Zc a:=rx;exact zk7 I1 ea c n l λu' s2 I2 ru=>⟨v,H1,I2,ru,q⟩
theorem zp3(ha:PE X o ta)(hv:PE X value tv)(hs:Yk value (some (.Attribute o f pos')) pos.line X.env=pure false):PS X (.Assign [.Attribute o f pos'] value pos) (sFld X.K ta tv f):=by intro pins s σ H D I h;refine plainObj_wpAny_Assign_Attribute (thn (hv pins s σ H _ I h) λu s1 ⟨y,H1,I1,ry,q⟩=>thn (ha pins s1 σ H1 _ I1 q) λov s2 q_=>?_) hs;obtain⟨x,H2,I2,rx,a,C,dx,fs,ex,ea,c,n,l,q2⟩:=q_;subst ex;obtain rfl:ov=Zc a:=rx;exact zlq I2 ea c n l ry λs3 I3=>⟨σ,_,I3,q2⟩
end
section
variable {X:Cx}{pins:List (Addr×Obj)}{σ:St}{H:Hp}{s:Shared}{A:Around}{E:Value->Shared->Prop}{Q:Value->Shared->Prop}{c:Value}{b:Bool}
end
structure Room(k:Nat)(A:Around):Prop where
 hd:A.handled=none
 dp:A.depth+3*k+5<recursionLimit
 un:A.units+16*k+200<cLine
theorem Room.mono{j k:Nat}{A:Around}(r:Room k A)(h:j<=k):Room j A:=⟨r.hd,by have:=r.dp;exact OX2 this h,by have:=r.un;exact OX1 this h⟩
theorem Room.deeper{k:Nat}{A:Around}(r:Room (k+1) A)(env:Env):Room k (A.deeper env):=⟨r.hd,by have:=r.dp;show A.depth+1+3*k+5<_;exact OZF this,by have:=r.un;show A.units+3+16*k+200<_;exact OX0 this⟩
theorem zkM{A:Around}{C:Addr}{us:List Value}{kw:List (Str×Value)}:(A.under (.builtin "type.__call__" ⟨.ref C::us,kw⟩)).depth=A.depth+1:=by first | rfl | simp[Around.under,Code.weight,Code.isCreation,Code.isGuard,Code.isCaller,Code.frames,Code.isFrame,guardIds]
theorem zkX{A:Around}{C:Addr}{us:List Value}{kw:List (Str×Value)}:(A.under (.builtin "type.__call__" ⟨.ref C::us,kw⟩)).units=A.units+1:=by first | rfl | simp[Around.under,Code.cUnits,Code.frames,Code.isFrame]
theorem Room.make{k:Nat}{A:Around}(r:Room (k+1) A)(C:Addr)(us:List Value)(kw:List (Str×Value)):Room k (A.under (.builtin "type.__call__" ⟨.ref C::us,kw⟩)):=⟨r.hd,by have:=r.dp;rw[zkM];exact OZF this,by have:=r.un;rw[zkX];exact OXZ this⟩
theorem Room.depth{k:Nat}{A:Around}(r:Room k A):A.depth<recursionLimit:=by have:=r.dp;omega
theorem Room.units{k:Nat}{A:Around}(r:Room k A):A.units+64<cLine:=by have:=r.un;omega
def tNil:TA:=λ_ H Q=>Q [] H
def zvd(ta:TE)(tr:TA):TA:=λσ H Q=>ta σ H λx H1=>tr σ H1 λxs H2=>Q (x::xs) H2
section
variable {X:Cx}{e:Expr}{es:List Expr}{te:TE}{t:TA}{pos:Pos}
theorem zc2:PA X [] tNil:=λ_ _ _ _ H Q I h=>Calls.spliced_nil ⟨[],H,I,.nil,h⟩
theorem zbG(ha:PE X e te)(hr:PA X es t)(hs:ZY (e::es) X.env=(false,eval e X.env)::ZY es X.env:=by rfl):PA X (e::es) (zvd te t):=by intro pos pins s σ H Q I h;rw[hs];show wpAny _ _ (spliced ((false,eval e X.env)::backTo pos (ZY es X.env))) _ _ s;refine Calls.spliced_cons (thn (ha pins s σ H _ I h) λu s1 q_=>?_);obtain⟨x,H1,I1,r1,q1⟩:=q_;exact thn (hr pos pins s1 σ H1 _ I1 q1) λus s2 ⟨xs,H2,I2,r2,q2⟩=>⟨x::xs,H2,I2,.cons r1 r2,q2⟩
def tTup(t:TA):TE:=λσ H Q=>t σ H λxs H1=>xs.length<=sizeLine/\∀p,H1 p=none->Q (.ref p) (upd H1 p (.tup xs))
def tLst(t:TA):TE:=λσ H Q=>t σ H λxs H1=>xs.length<=sizeLine/\∀p,H1 p=none->Q (.ref p) (upd H1 p (.lst xs))
theorem zqk{x1}(h:PA X es t):PE X (.Tuple es x1 pos) (tTup t):=by
 intro pins s σ H Q I hq
 refine wpAny_Tuple_spliced (thn (h pos pins s σ H _ I hq) λus s1 ⟨xs,H1,I1,r,z,q⟩=>⟨by rw[<-r.length];exact z,?_⟩)
 have hf:H1 s1.heap.objs.size=none:=I1.hok.fresh (Z0 _);refine⟨.ref s1.heap.objs.size,upd H1 s1.heap.objs.size (.tup xs),I1.laid (t':=s1.toks) (λb u e=>Z2 _ e) (Z0 _) ?_,rfl,q _ hf⟩;exact⟨z,us,r,zdD.new _ _⟩
theorem ztN(h:PA X es t):PE X (.List es pos) (tLst t):=by
 intro pins s σ H Q I hq
 refine wpAny_List_spliced (thn (h pos pins s σ H _ I hq) λus s1 ⟨xs,H1,I1,r,z,q⟩=>⟨by rw[<-r.length];exact z,?_⟩)
 have hf:H1 s1.heap.objs.size=none:=I1.hok.fresh (Z0 _);refine⟨.ref s1.heap.objs.size,upd H1 s1.heap.objs.size (.lst xs),I1.laid (t':=s1.toks) (λb u e=>Z2 _ e) (Z0 _) ?_,rfl,q _ hf⟩;exact⟨z,us,0,r,Zp _ rfl⟩
end
abbrev Sp:=List V->Hp->VK->XK->Prop
abbrev CXT:=List Env->Hp->Shared->XK->Value->Shared->Prop
structure Env0(P:Zx)(w:World)(K:Z7)(mg:Str->Option Value)(base:Heap)(A:Around)(outer:List Env)(s:Shared)(H:Hp):Prop where
 frames:A.frames=some outer
 mod:Mod K mg base
 bs:∀b o,base.get? b=some o->s.heap.get? b=some o/\H b=none
 bsz:base.objs.size<=s.heap.objs.size
 funs:s.heap.FunFrames base outer
 frf:∀b∈frs outer,H b=none
 hok:HOk P w H s.heap
 bare:WA s.gens
def CE(outer:List Env)(P:Zx)(w:World)(H:Hp)(s:Shared)(Q:VK)(u:Value)(s':Shared):Prop:=∃v H',s'.os=s.os/\WA s'.gens/\Un (frs outer) [] H H' s.heap s'.heap/\HOk P w H' s'.heap/\RelV v u/\Q v H'
def CR(CX:CXT)(outer:List Env)(P:Zx)(w:World)(H:Hp)(s:Shared)(Q:VK)(E:XK)(r:Result)(s':Shared):Prop:=
 match r with|.ok (.ret u)=>CE outer P w H s Q u s'|.ok _=>False|.error e=>CX outer H s E e s'
structure FnOk(P:Zx)(w:World)(K:Z7)(mg:Str->Option Value)(base:Heap)(CX:CXT)(k:Nat)(f:Addr)(fd:FuncData)(ps:List Str)(sp:Sp):Prop where
 len:∀vs H Q E,sp vs H Q E->vs.length=ps.length
 run:∀(A:Around) (outer:List Env) (s:Shared) (H:Hp) (args:Args) (us:List Value) (vs:List V) (Q:VK) (E:XK),Room k A->Env0 P w K mg base A outer s H->V5 s fd args (ps.zip us)->Vals vs us->sp vs H Q E →
  W2 (model P w) A (.call (.ref f) args) (CR CX outer P w H s Q E) s
theorem Env0.make{P:Zx}{w:World}{K:Z7}{mg:Str->Option Value}{base:Heap}{A:Around}{outer:List Env}{s:Shared}{H:Hp}(e:Env0 P w K mg base A outer s H)(C:Addr)(us:List Value)(kw:List (Str×Value)):
    Env0 P w K mg base (A.under (.builtin "type.__call__" ⟨.ref C::us,kw⟩)) outer s H:=⟨by first | exact e.frames | (simpa[Around.under,Code.envs,Code.isFrame,pushEnvs] using e.frames),e.mod,e.bs,e.bsz,e.funs,e.frf,e.hok,e.bare⟩
section
variable {X:Cx}{pins:List (Addr×Obj)}{σ:St}{H:Hp}{s s':Shared}
theorem Inv.env0(I:Inv X pins σ H s):Env0 X.prog X.w X.K X.mg X.base X.A X.stack s H:=⟨I.ok.frames,I.ok.mod,I.bs,Y6 I.ok.bsz I.sz,I.stack,I.stkFree,I.hok,I.bare⟩
theorem Inv.after{Q:VK}{u:Value}(I:Inv X pins σ H s)(h:CE X.stack X.prog X.w H s Q u s'):EP X pins σ Q u s':=by obtain⟨v,H',os,bare,un,hok,r,q⟩:=h;obtain⟨hh,g,d,t,os'⟩:=s';obtain rfl:os'=s.os:=os;exact⟨v,H',I.call (h':=hh) (g':=g) (d':=d) (t':=t) (ch:=[]) un hok bare (λb z=>absurd z (by simp)),r,q⟩
end
def zvk(sp:Sp)(dvs:List V)(E:XK)(t:TA):TE:=λσ H Q=>t σ H λvs H1=>sp (vs++dvs) H1 Q E
def zs0(C:Addr)(m:Str)(sp:Sp)(dvs:List V)(E:XK)(ta:TE)(t:TA):TE:=λσ H Q=>ta σ H λx H1=>∃a dx fs,x=.ref a/\H1 a=some (.ins C dx fs)/\fs.lookup m=none ∧
 t σ H1 λvs H2=>sp (x::(vs++dvs)) H2 Q E
def zu5(C:Addr)(sp:Sp)(dvs:List V)(E:XK)(t:TA):TE:=λσ H Q=>t σ H λvs H1=>∀x dx,H1 x=none->H1 dx=none->dx≠x →
 sp (.ref x::(vs++dvs)) (upd (upd H1 dx (.own x)) x (.ins C dx [])) (λv H2=>v=.non/\Q (.ref x) H2) E
def zdq(K:Z7)(fd:FuncData)(ps:List Str)(ds:List Value):Prop:=∀(s:Shared) (us:List Value),K.In s.heap->(us++ds).length=ps.length->V5 s fd ⟨us,[]⟩ (ps.zip (us++ds))
theorem zdq.all{K:Z7}{fd:FuncData}{ps:List Str}(h:∀us:List Value,us.length=ps.length->bindArgs fd ⟨us,[]⟩=pure (ps.zip us)):zdq K fd ps []:=λs us _ hl=>by rw[Ze] at hl⊢;exact .of_eq (h us hl)
def zdO(CX:CXT)(X:Cx)(E:XK):Prop:=∀(pins:List (Addr×Obj)) (σ:St) (H:Hp) (s:Shared) (e:Value) (s':Shared),Inv X pins σ H s->CX X.stack H s E e s'->X.xe e s'
section
variable {X:Cx}{CX:CXT}{k:Nat}{f C:Addr}{fd:FuncData}{ps:List Str}{sp:Sp}{dvs:List V}{ds:List Value}{E:XK}{x m:Str}{p pos apos:Pos}{e o:Expr}{es:List Expr}{ta:TE}{t:TA}
theorem zmE{pins:List (Addr×Obj)}{σ:St}{H:Hp}{s:Shared}{Q:VK}{us:List Value}{vs:List V}(F:FnOk X.prog X.w X.K X.mg X.base CX k f fd ps sp)(hr:Room k X.A)(hb:zdq X.K fd ps ds)(hd:Vals dvs ds)(hx:zdO CX X E)
  (I:Inv X pins σ H s) (r:Vals vs us) (h:sp (vs++dvs) H Q E):wpAny (model X.prog X.w) X.A (call (.ref f) us) (EP X pins σ Q) X.xe s:=by
 have r2:Vals (vs++dvs) (us++ds):=r.append hd
 have hl:(us++ds).length=ps.length:=by rw[<-r2.length];exact F.len _ _ _ _ h
 refine wpAny_call (WQ (F.run X.A X.stack s H ⟨us,[]⟩ (us++ds) (vs++dvs) Q E hr I.env0 (hb s us I.kIn hl) r2 h) λr s' hq=>?_)
 cases r with
 |error e=>exact hx pins σ H s e s' I hq
 |ok fl=>
  cases fl with|ret u=>exact I.after hq|next=>exact Y8 hq|brk=>exact Y8 hq|cont=>exact Y8 hq
theorem ziW(F:FnOk X.prog X.w X.K X.mg X.base CX k f fd ps sp)(hr:Room k X.A)(hg:Gl X x)(hm:X.mg x=some (.ref f))(hk:Zf X.K (.ref f)=true)(hb:zdq X.K fd ps ds)(hd:Vals dvs ds)(hx:zdO CX X E)
  (ha:PA X (e::es) t) (hdb:(x==("__debug__":Str))=false:=by decide) (he:ZY (e::es) X.env=(false,eval e X.env)::ZY es X.env:=by rfl) (hpl:(backTo pos (ZY es X.env)).any (·.1)=false:=by rfl):
  PE X (.Call (.Name x p) (e::es) [] pos) (zvk sp dvs E t):=by
 intro pins s σ H Q I h;refine X8 (zfj I hg hm ?_ hdb);refine Xy (h₀:=X.base) I.ok.mod.kin hk (thn (ha pos pins s σ H _ I h) λus s1 ⟨vs,H1,I1,r,q⟩=>⟨I1.kIn,?_⟩) he hpl;exact zmE F hr hb hd hx I1 r q
theorem zr5{pl:Sem Bool}(he:PE X o ta)(c:Cls X.K C)(hm:Meth X.K C m f)(F:FnOk X.prog X.w X.K X.mg X.base CX k f fd ps sp)(hr:Room k X.A)(hb:zdq X.K fd ps ds)(hd:Vals dvs ds)(hx:zdO CX X E)(ha:PA X (e::es) t)
  (hst:ZY (e::es) X.env=(false,eval e X.env)::ZY es X.env:=by rfl) (hpl:(backTo pos (ZY es X.env)).any (·.1)=false:=by rfl)
  (ht:eval (.Call (.Attribute o m apos) (e::es) [] pos) X.env=(do
   let ov<-eval o X.env
   Xq apos.atName
   let (f,first)<-holding [ov] (WM ov m pl)
   V4 pos f first (backTo pos (ZY (e::es) X.env)) (XT pos (YG [] X.env))):=by rfl):
  PE X (.Call (.Attribute o m apos) (e::es) [] pos) (zs0 C m sp dvs E ta t):=by
 intro pins s σ H Q I h;refine PySem.W.methodCall_KW (pl:=pl) (thn (he pins s σ H _ I h) λu s1 q_=>?_) ht;obtain⟨x,H1,I1,rx,a,dx,fs,ex,ea,l,q⟩:=q_;subst ex;obtain rfl:u=Zc a:=rx;refine zgn I1 ea c hm l ?_;refine Xy (first:=[.ref a]) (h₀:=X.base) I.ok.mod.kin hm.kp (thn (ha pos pins s1 σ H1 _ I1 q) λus s2 ⟨vs,H2,I2,r,q2⟩=>⟨I2.kIn,?_⟩) hst hpl;exact zmE (us:=.ref a::us) (vs:=.ref a::vs) F hr hb hd hx I2 (.cons rfl r) q2
theorem zn0{pl:Sem Bool}(he:PE X o ta)(c:Cls X.K C)(hm:Meth X.K C m f)(F:FnOk X.prog X.w X.K X.mg X.base CX k f fd ps sp)(hr:Room k X.A)(hb:zdq X.K fd ps ds)(hd:Vals dvs ds)(hx:zdO CX X E)
  (ht:eval (.Call (.Attribute o m apos) [] [] pos) X.env=(do
   let ov<-eval o X.env
   Xq apos.atName
   let (f,first)<-holding [ov] (WM ov m pl)
   V4 pos f first (backTo pos (ZY [] X.env)) (XT pos (YG [] X.env))):=by rfl):
  PE X (.Call (.Attribute o m apos) [] [] pos) (zs0 C m sp dvs E ta tNil):=by
 intro pins s σ H Q I h;refine PySem.W.methodCall_KW (pl:=pl) (thn (he pins s σ H _ I h) λu s1 q_=>?_) ht;obtain⟨x,H1,I1,rx,a,dx,fs,ex,ea,l,q⟩:=q_;subst ex;obtain rfl:u=Zc a:=rx;refine zgn I1 ea c hm l ?_;exact PySem.W.callWith_K0 (first:=[.ref a]) I1.kIn hm.kp (zmE (us:=[.ref a]) (vs:=[.ref a]) F hr hb hd hx I1 (.cons rfl .nil) q)
structure Mk(K:Z7)(C f:Addr):Prop where
 makes:WU K C=true
 init:ZK K (.ref C) "__init__"=some (some (.ref f))
 fn:WR K (.ref f)=true
 kp:Zf K (.ref C)=true
theorem zn7{pins:List (Addr×Obj)}{σ:St}{H:Hp}{s:Shared}{Q:VK}{us:List Value}{vs:List V}(M:Mk X.K C f)(F:FnOk X.prog X.w X.K X.mg X.base CX k f fd ps sp)(hr:Room (k+1) X.A)(hb:zdq X.K fd ps ds)(hd:Vals dvs ds)
  (hx:zdO CX X E) (I:Inv X pins σ H s) (r:Vals vs us)
  (h:∀x dx,H x=none->H dx=none->dx≠x->sp (.ref x::(vs++dvs)) (upd (upd H dx (.own x)) x (.ins C dx [])) (λv H2=>v=.non/\Q (.ref x) H2) E):
  wpAny (model X.prog X.w) X.A (call (.ref C) us) (EP X pins σ Q) X.xe s:=by
 have hq:=h (s.heap.objs.size+1) s.heap.objs.size (I.hok.fresh (Xw _)) (I.hok.fresh (Z0 _)) (ZJ (Yi _));have I2:=Inv.made (C:=C) I;have r2:Vals (V.ref (s.heap.objs.size+1)::(vs++dvs)) (Zc (s.heap.objs.size+1)::(us++ds)):=.cons rfl (r.append hd)
 have hl:(Zc (s.heap.objs.size+1)::us++ds).length=ps.length:=by have e:=r2.length;rw[F.len _ _ _ _ hq] at e;exact e.symm
 refine wpAny_call (zoe (f:=f) I.kIn M.makes M.init (beq_iff_eq.mp M.fn) (WQ (F.run _ X.stack _ _ ⟨Zc (s.heap.objs.size+1)::us,[]⟩ (Zc (s.heap.objs.size+1)::(us++ds)) _ _ E (hr.make C us [])
  (I2.env0.make C us []) (hb _ (Zc (s.heap.objs.size+1)::us) I2.kIn hl) r2 hq) λr s' hq'=>?_))
 cases r with
 |error e=>exact hx pins σ _ _ e s' I2 hq'
 | ok fl=>
  cases fl with|ret u=>obtain⟨v,H',I3,rv,ev,q3⟩:=I2.after hq';subst ev;exact⟨rv,⟨V.ref (s.heap.objs.size+1),H',I3,rfl,q3⟩⟩|next=>exact Y8 hq'|brk=>exact Y8 hq'|cont=>exact Y8 hq'
theorem zqF(M:Mk X.K C f)(F:FnOk X.prog X.w X.K X.mg X.base CX k f fd ps sp)(hr:Room (k+1) X.A)(hg:Gl X x)(hm:X.mg x=some (.ref C))(hb:zdq X.K fd ps ds)(hd:Vals dvs ds)(hx:zdO CX X E)
  (ha:PA X (e::es) t) (hdb:(x==("__debug__":Str))=false:=by decide) (he:ZY (e::es) X.env=(false,eval e X.env)::ZY es X.env:=by rfl) (hpl:(backTo pos (ZY es X.env)).any (·.1)=false:=by rfl):
  PE X (.Call (.Name x p) (e::es) [] pos) (zu5 C sp dvs E t):=by
 intro pins s σ H Q I h;refine X8 (zfj I hg hm ?_ hdb);refine Xy (h₀:=X.base) I.ok.mod.kin M.kp (thn (ha pos pins s σ H _ I h) λus s1 ⟨vs,H1,I1,r,q⟩=>⟨I1.kIn,?_⟩) he hpl;exact zn7 M F hr hb hd hx I1 r q
end
section
variable {X:Cx}{CX:CXT}{k:Nat}{f C:Addr}{fd:FuncData}{ps ks:List Str}{sp:Sp}{E:XK}{x m:Str}{p pos apos kpos:Pos}{e o:Expr}{es:List Expr}{kws:List X7}{te ta:TE}{t tk:TA}{nm:Option Str}
variable {g:List Value->List Value->List Value}{gV:List V->List V->List V}
end
structure zfL(N P:List Str)(sc:Scope):Prop where
 kind:sc.kind=.function
 co:sc.isCoroutine=false
 gen:sc.isGenerator=false
 nd:N.Nodup
 pre:N.take P.length=P
 par:∀x∈P,sc.names.lookup x=some .local\/sc.names.lookup x=some .cell
 nofree:∀y∈sc.names,y.2≠.free
theorem zia{kindOf:Str->Option Yh}{x:Str}:∀{binds:List (Str×Value)} {m:Str->Option Value},(∀v,(x,v)∉binds)->bindL kindOf binds m x=m x
  | [],_,_=>rfl
  | (n, v)::r,m,h=>by
    unfold bindL;rw[zia λw hw=>h w (Zo _ hw)]
    split
    · have:x≠n:=by rintro rfl;exact h v Yt
      simp[this]
    · rfl
theorem zh2{kindOf:Str->Option Yh}{x:Str}:∀{binds:List (Str×Value)} {m:Str->Option Value},(∀v,(x,v)∉binds)->bindC kindOf binds m x=m x
  | [],_,_=>rfl
  | (n, v)::r,m,h=>by
    unfold bindC;rw[zh2 λw hw=>h w (Zo _ hw)]
    split
    · rfl
    · have:x≠n:=by rintro rfl;exact h v Yt
      simp[this]
theorem zhT{kindOf:Str->Option Yh}{x:Str}{v:Value}:∀{P:List Str} {vs:List Value} {i:Nat} {m:Str->Option Value},P.Nodup->P[i]?=some x->vs[i]?=some v->kindOf x=some .local →
  bindL kindOf (P.zip vs) m x=some v
 | [],_,_,_,_,h,_,_=>by simp at h|_::_,[],_,_,_,_,h,_=>by simp at h
 |p::P,w::vs,0,m,nd,h1,h2,hk=>by
  simp at h1 h2;subst h1;subst h2
  show bindL kindOf ((p,w)::P.zip vs) m p=_;unfold bindL;rw[zia λv hv=>(X1.mp nd).1 (Wm hv).1,if_pos hk];simp
 |p::P,w::vs,i+1,m,nd,h1,h2,hk=>by show bindL kindOf ((p,w)::P.zip vs) m x=_;unfold bindL;exact zhT (i:=i) (X1.mp nd).2 (by simpa using h1) (by simpa using h2) hk
theorem ziy{kindOf:Str->Option Yh}{x:Str}{v:Value}:∀{P:List Str} {vs:List Value} {i:Nat} {m:Str->Option Value},P.Nodup->P[i]?=some x->vs[i]?=some v->kindOf x≠some .local →
  bindC kindOf (P.zip vs) m x=some v
 | [],_,_,_,_,h,_,_=>by simp at h|_::_,[],_,_,_,_,h,_=>by simp at h
 |p::P,w::vs,0,m,nd,h1,h2,hk=>by
  simp at h1 h2;subst h1;subst h2
  show bindC kindOf ((p,w)::P.zip vs) m p=_;unfold bindC;rw[zh2 λv hv=>(X1.mp nd).1 (Wm hv).1,if_neg hk];simp
 |p::P,w::vs,i+1,m,nd,h1,h2,hk=>by show bindC kindOf ((p,w)::P.zip vs) m x=_;unfold bindC;exact ziy (i:=i) (X1.mp nd).2 (by simpa using h1) (by simpa using h2) hk
def start(N:List Str)(vs:List V):St:=vs.map some++ZO (N.length-vs.length) none
def cxOf(CX:CXT)(P:Zx)(w:World)(K:Z7)(mg:Str->Option Value)(base:Heap)(N:List Str)(qual:Str)(scope:Scope)(f:Addr)(cd:Value)(A:Around)(outer:List Env)(s:Shared)(H:Hp)(E:XK):Cx where
 prog:=P
 w:=w
 K:=K
 mg:=mg
 base:=base
 A:=A.deeper (envOfC qual scope s.heap.objs.size f cd)
 N:=N
 s₀:=s
 H₀:=H
 env:=envOfC qual scope s.heap.objs.size f cd
 outer:=outer
 stack:=envOfC qual scope s.heap.objs.size f cd::outer
 ex:=[]
 calm:=true
 fn:=λ_=>true
 pn:=[]
 xe:=λe s'=>wpAny (model P w) (A.deeper (envOfC qual scope s.heap.objs.size f cd)) (leaving (envOfC qual scope s.heap.objs.size f cd) e) (λ_ s''=>CX outer H s E e s'') (λe' s''=>CX outer H s E e' s'') s'
theorem zjM{sc:Scope}{n:Nat}{x:Str}(h:sc.names.lookup x=some .cell):∃c,(cellsFrom n sc.names []).lookup x=some c:=by have q:=PySem.W.cellsFrom_some sc.names n [] (.inl h);exact Yo.mp q
theorem zlV{CX:CXT}{P:Zx}{w:World}{K:Z7}{mg:Str->Option Value}{base:Heap}{N ps:List Str}{qual:Str}{scope:Scope}{f:Addr}{cd:Value}{A:Around}{outer:List Env}{s s1:Shared}{H:Hp}{E:XK}{us:List Value}{vs:List V}
  (S:zfL N ps scope) (hd:A.handled=none) (e0:Env0 P w K mg base A outer s H) (hl:vs.length=ps.length) (r:Vals vs us)
  (x:InCallC s s.heap.objs.size (bindL (envOfC qual scope s.heap.objs.size f cd).kindOf (ps.zip us) λ_=>none) (cellsFrom (s.heap.objs.size+1) scope.names []) (bindC (envOfC qual scope s.heap.objs.size f cd).kindOf (ps.zip us) λ_=>none) s1):
  Inv (cxOf CX P w K mg base N qual scope f cd A outer s H E) [] (start N vs) H s1:=by
 have hpl:ps.length<=N.length:=by have:=congrArg Yq S.pre;rw[XO] at this;exact OZE this
 obtain⟨h1,tk,rfl,hk⟩:=x.done;have noA:∀b:Addr,b∉(cxOf CX P w K mg base N qual scope f cd A outer s H E).ex:=λb z=>absurd (show b∈([]:List Addr) from z) (by simp)
 refine ⟨⟨e0.mod,S.kind,rfl,rfl,Z0 _,λy z c h1 h2=>?_,λy hy=>?_,λy c _ h=>?_,λ_=>hd,Around.frames_deeper e0.frames,.inr ⟨rfl,rfl⟩,λb z=>absurd z (noA b),e0.bs,e0.bsz,λb _ _=>noA b,λb z=>absurd z (noA b),e0.funs,e0.frf⟩,
  rfl,e0.bare,Un.kept hk,⟨_,x.toInCall.ns,λi y v h1 h2 h3=>?_⟩,λy c h=>⟨_,x.cell y c h⟩,e0.hok.fresh (Z0 _),λy c h=>?_,λp hp=>absurd (show p∈([]:List (Addr×Obj)) from hp) (by simp),e0.hok.kept hk,?_⟩
 ·exact name_of_addr x.apart (Yl h1) (Yl h2)
 ·have hy:scope.names.lookup y=some .cell\/scope.names.lookup y=some .free:=hy
  rcases hy with hy | hy
  ·exact zjM hy
  ·exact absurd rfl (S.nofree _ (Yl hy))
 ·exact Wr (x.above y c (Yl h))
 ·have hi:i<vs.length:=by
   unfold start at h2
   by_cases hi:i<vs.length
   ·exact hi
   ·rw [ZS (by simpa using hi)] at h2
    rw[List.getElem?_replicate] at h2
    split at h2<;>cases h2
  have ha:vs[i]?=some v:=by
   unfold start at h2;rw[ZM (by simpa using hi),ZX] at h2
   cases e:vs[i]? with|none=>rw[e] at h2;cases h2|some a=>rw[e] at h2;cases h2;rfl
  obtain⟨u,hu,rv⟩:=r.get ha
  have hp:ps[i]?=some y:=by rw[<-S.pre,YV (by exact OZ9 hi hl.symm)];exact h1
  have ndP:ps.Nodup:=by rw[<-S.pre];exact S.nd.sublist (List.take_sublist _ _)
  refine⟨u,rv,?_⟩
  rcases S.par y (ZT hp) with k | k
  ·exact .inl ⟨k,zhT ndP hp hu k⟩
  ·obtain ⟨c,e⟩:=zjM (n:=s.heap.objs.size+1) k
   refine .inr ⟨.inl k,c,e,?_⟩;have q:=x.cell y c e
   rw[ziy ndP hp hu (by show scope.names.lookup y≠_;rw[k];decide)] at q
   exact q
 ·exact e0.hok.fresh (Wr (x.above y c (Yl h)))
 ·unfold start
  show _=N.length;rw[Zu,Z4,List.length_replicate];omega
theorem ztg{CX:CXT}{P:Zx}{w:World}{K:Z7}{mg:Str->Option Value}{base:Heap}{k:Nat}{f:Addr}{name qual:Str}{params:Arguments}{body:List Stmt}{scope:Scope}{dV kV doc pm cdv ct oc:Value}{an od:Option Addr}
  {osl:Array (Option Value)} {N ps:List Str} {sp:Sp} (lk:K.lookup f=some ⟨oc,od,.func (Yp name qual params body scope dV kV doc pm an cdv ct),osl⟩) (hcd:Xn K cdv qual=true) (S:zfL N ps scope)
  (len:∀vs H Q E,sp vs H Q E->vs.length=ps.length)
  (hbody:∀(A:Around) (outer:List Env) (s:Shared) (H:Hp) (vs:List V) (Q:VK) (E:XK),Room k (A.deeper (envOfC qual scope s.heap.objs.size f cdv))->sp vs H Q E →
   ∃t,PSs (cxOf CX P w K mg base N qual scope f cdv A outer s H E) body t/\t {nx:=λ_ H'=>Q .non H',rt:=Q} (start N vs) H):
  FnOk P w K mg base CX (k+1) f (Yp name qual params body scope dV kV doc pm an cdv ct) ps sp:=by
 refine⟨len,λA outer s H args us vs Q E hr e0 hb r hsp=>?_⟩;have hl:=len _ _ _ _ hsp;have KX:K.In s.heap:=e0.mod.kin.keeps λb o e=>(e0.bs b o e).1;have lim:s.heap.NoLimit:=e0.mod.nolimit.keeps λb o e=>(e0.bs b o e).1
 have hkind:∀y∈ps.zip us,scope.names.lookup y.1=some .local\/(scope.names.lookup y.1=some .cell/\((cellsFrom (s.heap.objs.size+1) scope.names []).lookup y.1).isSome=true):=λ⟨n,v⟩ hy=>by
  rcases S.par n (Wm hy).1 with q | q
  ·exact .inl q
  ·exact .inr ⟨q,PySem.W.cellsFrom_some _ _ _ (.inl q)⟩
 refine codeAny_call_function hr.depth (KX _ _ lk) rfl S.co S.gen rfl (PySem.W.codeRec_of KX hcd) (hb _ _ _ _ ?_);refine wpAny_newFunctionEnv_cells S.kind hkind λenv he s1 x=>?_;subst he;refine⟨lim.keeps x.toInCall.keep,codeAny_func ?_⟩;obtain⟨t,ht,hq⟩:=hbody A outer s H vs Q E (hr.deeper _) hsp;have I:Inv (cxOf CX P w K mg base N qual scope f cdv A outer s H E) [] (start N vs) H s1:=zlV S hr.hd e0 hl r x;refine ZF (ht [] s1 (start N vs) H _ I hq) (λfl s' hs=>?_) λe s' hs=>hs
 have fin:∀{σ':St} {H':Hp} {v:V} {u:Value},Inv (cxOf CX P w K mg base N qual scope f cdv A outer s H E) [] σ' H' s'->RelV v u->Q v H'->CE outer P w H s Q u s':=fun {σ' H' v u} J rv q=>⟨v,H',J.os,J.bare,J.base,J.hok,rv,q⟩
 cases fl with|ret u=>obtain⟨v,σ',H',J,rv,q⟩:=hs;exact fin J rv q|next=>obtain⟨σ',H',J,q⟩:=hs;exact fin (v:=V.non) (u:=V7) J rfl q|brk=>obtain⟨_,_,_,q⟩:=hs;exact Y8 q|cont=>obtain⟨_,_,_,q⟩:=hs;exact Y8 q
section
variable {X:Cx}{x:Str}{p pos:Pos}{e:Expr}{es:List Expr}{t:TA}{id T:String}{r:List V->Hp->VK->Prop}
def tCB(r:List V->Hp->VK->Prop)(t:TA):TE:=λσ H Q=>t σ H λvs H1=>r vs H1 Q
theorem zhr(hc:zgO X (.builtin id) r)(hg:Gl X x)(hm:X.mg x=none)(hv:XR x=some (.builtin id))(ha:PA X (e::es) t)(hn:x ≠ "__name__":=by decide)(hdb:(x==("__debug__":Str))=false:=by decide)
  (he:ZY (e::es) X.env=(false,eval e X.env)::ZY es X.env:=by rfl) (hpl:(backTo pos (ZY es X.env)).any (·.1)=false:=by rfl):PE X (.Call (.Name x p) (e::es) [] pos) (tCB r t):=by
 intro pins s σ H Q I h;refine X8 (zir I hg hm hv ?_ hn hdb);exact PyProof.Rows.callWith_builtin1 (thn (ha pos pins s σ H _ I h) λus s1 ⟨vs,H1,I1,r1,q1⟩=>hc pins s1 σ H1 vs us Q I1 r1 q1) he hpl
theorem zdR(hc:zgO X (.type T) r)(hg:Gl X x)(hm:X.mg x=none)(hv:XR x=some (.type T))(ha:PA X (e::es) t)(hn:x ≠ "__name__":=by decide)(hdb:(x==("__debug__":Str))=false:=by decide)
  (he:ZY (e::es) X.env=(false,eval e X.env)::ZY es X.env:=by rfl) (hpl:(backTo pos (ZY es X.env)).any (·.1)=false:=by rfl):PE X (.Call (.Name x p) (e::es) [] pos) (tCB r t):=by
 intro pins s σ H Q I h;refine X8 (zir I hg hm hv ?_ hn hdb);exact XW (thn (ha pos pins s σ H _ I h) λus s1 ⟨vs,H1,I1,r1,q1⟩=>hc pins s1 σ H1 vs us Q I1 r1 q1) he hpl
end
end L2
namespace HT
open PySem PyProof.Rows
section
open PySem.SeqAt
open PySem.AutoSeq1 (wpAny_loadPart')
open PySem.MeetsSeq PySem.MeetsSeq2 PySem.MeetsSeq3
end
section
variable {prog:Zx}{w:World}{A:Around}{E:Value->Shared->Prop}{s:Shared}
theorem cat_tup{t b:Addr}{vs ws:List Value}{Q:Value->Shared->Prop}(ht:IsTup s.heap t vs.toArray)(hb:IsTup s.heap b ws.toArray)(hv:vs≠[])
  (h1:ws=[]->Q (.ref t) s) (h2:ws≠[]->Q (.ref s.heap.objs.size) {s with heap:=s.heap.push {cls:=.type "tuple",data:=.seq (vs++ws).toArray}})
  (hsz:vs.length+ws.length<=sizeLine):wpAny (model prog w) A (Y4 .Add (.ref t) (.ref b)) Q E s:=by
 obtain⟨⟨cls,dd,data,sl⟩,ho,hc,n,hd⟩:=id ht;obtain⟨⟨cls2,dd2,data2,sl2⟩,ho2,hc2,n2,hd2⟩:=id hb;simp only at hc hd hc2 hd2;subst hc hd hc2 hd2
 have e:vs.toArray++ws.toArray=(vs++ws).toArray:=by simp
 by_cases hw:ws=[]
 ·exact concat_meets ⟨_,ho,rfl⟩ ⟨_,ho2,rfl⟩ noFill_tuple_add seq_tuple_add Xm Xv (XF _ _)
   (tuple_addW1 t b vs.toArray ws.toArray n n2 dd dd2 sl sl2 (by simpa using hv) (by simp[hw])) ⟨ho,ho2,h1 hw⟩
 ·refine concat_meets ⟨_,ho,rfl⟩ ⟨_,ho2,rfl⟩ noFill_tuple_add seq_tuple_add Xm Xv (XF _ _)
   (tuple_addW2 t b vs.toArray ws.toArray n n2 dd dd2 sl sl2 (by simpa using hv) (by simpa using hw) (by rw[ZW,ZW];exact hsz)) ⟨ho,ho2,?_⟩
  rw[e];exact h2 hw
def sIx(n d:Nat):Option Int->Nat|none=>d|some v=>if v<0 then(v+(n:Int)).toNat else min v.toNat n
theorem sIx_le(n d:Nat)(hd:d<=n)(o:Option Int):sIx n d o<=n:=by
 cases o with
 |none=>exact hd
 |some v=>
  show(if v<0 then(v+(n:Int)).toNat else min v.toNat n)<=n
  by_cases hv:v<0
  ·rw[if_pos hv];exact OYh hv hd
  ·rw[if_neg hv];exact Nat.min_le_right _ _
theorem zlY(v:Int)(n d:Nat):(if v<0 then max (v+(n:Int)) 0 else min v (n:Int))=((sIx n d (some v):Nat):Int):=by
 show(if v<0 then max (v+(n:Int)) 0 else min v (n:Int))=(((if v<0 then(v+(n:Int)).toNat else min v.toNat n):Nat):Int)
 by_cases hv:v<0
 ·simp only[if_pos hv];exact OYC
 ·simp only[if_neg hv];exact OYI hv
theorem zlr(lo hi:Option Int)(n:Nat):XL lo hi 1 (n:Int)=(((sIx n 0 lo:Nat):Int),((sIx n n hi:Nat):Int)):=by
 have h1:¬((1:Int)<0):=by omega
 unfold XL;simp only[h1,if_false];refine Prod.ext ?_ ?_
 ·cases lo with|none=>rfl|some v=>exact zlY v n 0
 ·cases hi with|none=>rfl|some v=>exact zlY v n n
theorem zlh(i j:Nat):Yr (i:Int) (j:Int) 1=j-i:=by
 unfold Yr
 have h1:(1:Int)>0:=by omega
 simp only[h1,if_true,Int.ediv_one]
 split<;>omega
theorem zgt{v:Value}{o:Option Int}{Q:Option Int->Shared->Prop}(p:IsPart v o)(h:Q o s):wpAny (model prog w) A (YX.Slice.slicePartIndex v) Q E s:=by
 cases p with|none=>exact slicePart_none h|int i t=>exact slicePart_int h
theorem zcm{sl:Addr}{vl vu:Value}{lo hi:Option Int}{n:Nat}{Q:Int×Int×Nat->Shared->Prop}(hs:s.heap.IsSliceOf sl vl vu .none)(pl:IsPart vl lo)(pu:IsPart vu hi)
    (h:Q (((sIx n 0 lo:Nat):Int),1,sIx n n hi-sIx n 0 lo) s):wpAny (model prog w) A (WH (.ref sl) (pure (n:Int))) Q E s:=by
  obtain⟨os,hos,hcs,hds⟩:=id hs;unfold WH YX.Slice.sliceFields;refine Z1 (Z1 (wpAny_field hos hds (x:=vl) rfl (Z1 (wpAny_field hos hds (x:=vu) rfl (Z1 (wpAny_field hos hds (x:=.none) rfl (ZN ?_)))))));refine Z1 (slicePart_none ?_);show wpAny _ _ (if((1:Int)==0)=true then _ else _) _ _ s;rw[if_neg (by decide)];refine Z1 (zgt pl (Z1 (zgt pu (Z1 (ZN ?_)))));show wpAny _ _ (match XL lo hi 1 (n:Int) with | (lo,hi)=>pure (lo,(1:Int),Yr lo hi 1)) _ _ s;rw[zlr lo hi n];show wpAny _ _ (pure (((sIx n 0 lo:Nat):Int),(1:Int),Yr ((sIx n 0 lo:Nat):Int) ((sIx n n hi:Nat):Int) 1)) _ _ s;rw[zlh];exact ZN h
theorem znW(xs:Array Value)(i k:Nat):((YO k).filterMap λ(m:Nat)=>xs[((i:Int)+(m:Int)*1).toNat]?).toArray=((xs.toList.drop i).take k).toArray:=by
 have e:(λ(m:Nat)=>xs[((i:Int)+(m:Int)*1).toNat]?)=λm=>xs[i+m]?:=by
  funext m
  have:((i:Int)+(m:Int)*1).toNat=i+m:=by exact OYg
  rw[this]
 rw[e]
 have:=pick_run xs i k
 rw[List.filterMap_map] at this;have e2:((λx=>xs[x]?)∘λx=>i+x)=λm=>xs[i+m]?:=rfl;rw[e2] at this;rw[this]
theorem getItem_tuple_cut{t sl:Addr}{items:Array Value}{vl vu:Value}{lo hi:Option Int}{Q:Value->Shared->Prop}(ht:IsTup s.heap t items)(hs:s.heap.IsSliceOf sl vl vu .none)(pl:IsPart vl lo)(pu:IsPart vu hi)
  (hw:¬(sIx items.size 0 lo=0/\sIx items.size items.size hi=items.size))
  (h:Q (.ref s.heap.objs.size) {s with heap:=s.heap.push {cls:=.type "tuple",data:=.seq ((items.toList.drop (sIx items.size 0 lo)).take (sIx items.size items.size hi-sIx items.size 0 lo)).toArray}})
  (hsz:items.size<=sizeLine):wpAny (model prog w) A (Wc (.ref t) (.ref sl)) Q E s:=by
 have htake:sizeOk (.seq ((items.toList.drop (sIx items.size 0 lo)).take (sIx items.size items.size hi-sIx items.size 0 lo)).toArray):=by show((items.toList.drop (sIx items.size 0 lo)).take (sIx items.size items.size hi-sIx items.size 0 lo)).toArray.size<=sizeLine;rw[ZW,XO,Yg,Ym];exact OYr hsz
 have hj:sIx items.size items.size hi<=items.size:=sIx_le _ _ (Z0 _) hi;obtain⟨os,hos,hcs,hds⟩:=id hs;have hTs:s.TypeIs (.ref sl) "slice":=⟨os,hos,hcs⟩;unfold Wc
 try with_reducible refine XX ?_
 first | refine Z1 (ZN ?_) | skip
 refine Z1 (wpAny_sequenceKey ht.typeIs (by decide) ?_)
 refine Z1 (wpAny_callSpecial?_slot (name:=Str.ofString "__getitem__") ht.typeIs Zi
  (wpAny_call_entry Zi ht.typeIs entry_tuple_getitem ?_ (args_tuple_getitem _ _)))
 show wpAny _ _ (WG (.ref t) >>= _) _ _ s;refine Z1 (tupleItemsOf_ ht ?_);refine Z1 (WP hTs ?_);rw[if_pos (by decide)];refine Z1 (zcm hs pl pu ?_)
 have hno:¬((((sIx items.size 0 lo:Nat):Int)==0&&(1:Int)==1&&(sIx items.size items.size hi-sIx items.size 0 lo)==items.size)=true):=by intro q;rw[Z8,Z8] at q;have q1:((sIx items.size 0 lo:Nat):Int)=0:=Z3 q.1.1;have q2:sIx items.size items.size hi-sIx items.size 0 lo=items.size:=Z3 q.2;exact hw ⟨by omega,by exact OX9 q1 q2 hj⟩
 show wpAny _ _ (if(((sIx items.size 0 lo:Nat):Int)==0&&(1:Int)==1&&(sIx items.size items.size hi-sIx items.size 0 lo)==items.size)=true then _ else _) _ _ s;rw[if_neg hno,znW]
 first|exact Z1 (m:=Yn _) (XV (ZN ⟨_,rfl,ZN h⟩) htake)|exact Z1 (m:=Yn _) (XV (Z1 (ZN (ZN ⟨_,rfl,ZN h⟩))) htake)|exact Z1 (Z1 (m:=Yn _) (XV (ZN (ZN ⟨_,rfl,ZN h⟩)) htake))|exact Z1 (Z1 (m:=Yn _) (XV (ZN ⟨_,rfl,ZN h⟩) htake))
end
end HT
namespace L2
open PySem PySem.Spec PyProof.Rows
abbrev TO:=St->Hp->(Option Int->Hp->Prop)->Prop
def PO(X:Cx)(e:Option Expr)(t:TO):Prop:=
 ∀ (pins:List (Addr×Obj)) (s:Shared) (σ:St) (H:Hp) (Q:Option Int->Hp->Prop),Inv X pins σ H s->t σ H Q →
  wpAny (model X.prog X.w) X.A (evalPart e X.env) (λu s'=>∃o H',Inv X pins σ H' s'/\IsPart u o/\Q o H') X.xe s
def zqS:TO:=λ_ H Q=>Q none H
section
variable {X:Cx}{e:Expr}{te:TE}{lo hi:Option Expr}{tl th:TO}{pos p2:Pos}
theorem zrR:PO X none zqS:=by intro pins s σ H Q I h;rw[evalPart_none];exact ZN ⟨none,H,I,.none,h⟩
def SlR(X:Cx)(r:V->Option Int->Option Int->Hp->VK->Prop):Prop:=
 ∀ (pins:List (Addr×Obj)) (s:Shared) (σ:St) (H:Hp) (x:V) (v vl vu:Value) (lo hi:Option Int) (sl:Addr) (Q:VK),Inv X pins σ H s->RelV x v->s.heap.IsSliceOf sl vl vu .none->IsPart vl lo->IsPart vu hi->r x lo hi H Q →
  ∃T id,typeLookup (.type T) "__getitem__"=pure (some (.builtin id))/\s.TypeIs v T/\wpAny (model X.prog X.w) X.A (Wc v (.ref sl)) (EP X pins σ Q) X.xe s
def tSl(r:V->Option Int->Option Int->Hp->VK->Prop)(te:TE)(tl th:TO):TE:=λσ H Q=>te σ H λx H1=>tl σ H1 λl H2=>th σ H2 λu H3=>r x l u H3 Q
theorem zoy{r:V->Option Int->Option Int->Hp->VK->Prop}(hr:SlR X r)(he:PE X e te)(hl:PO X lo tl)(hu:PO X hi th):PE X (.Subscript e (.Slice lo hi none p2) pos) (tSl r te tl th):=by intro pins s σ H Q I h;refine Subscript_ (thn (he pins s σ H _ I h) λv s1 q_=>?_);obtain⟨x,H1,I1,r1,q1⟩:=q_;refine wpAny_Slice (thn (hl pins s1 σ H1 _ I1 q1) λvl s2 ⟨l,H2,I2,pl,q2⟩=>thn (hu pins s2 σ H2 _ I2 q2) λvu s3 q_=>?_);obtain⟨u,H3,I3,pu,q3⟩:=q_;rw[evalPart_none];refine ZN ?_;have I4:Inv X pins σ H3 {s3 with heap:=s3.heap.push {cls:=.type "slice",data:=.fields #[vl,vu,.none]}}:=I3.kept (t':=s3.toks) λb ob q=>Z2 _ q;obtain⟨T,id,hT,ht,hg⟩:=hr pins {s3 with heap:=s3.heap.push {cls:=.type "slice",data:=.fields #[vl,vu,.none]}} σ H3 x v vl vu l u s3.heap.objs.size Q I4 r1 (Heap.IsSliceOf.new ..) pl pu q3;show wpAny (model X.prog X.w) X.A (subscriptTail e (.Slice lo hi none p2) v (.ref s3.heap.objs.size)) (EP X pins σ Q) X.xe {s3 with heap:=s3.heap.push {cls:=.type "slice",data:=.fields #[vl,vu,.none]}};exact tail_any (ops:=[.ref s3.heap.objs.size,v]) ht hT hg (by with_unfolding_all rfl)
def cutV(xs:List V)(lo hi:Option Int):List V:=(xs.drop (HT.sIx xs.length 0 lo)).take (HT.sIx xs.length xs.length hi-HT.sIx xs.length 0 lo)
theorem zfG(xs:List V)(lo hi:Option Int):(cutV xs lo hi).length<=xs.length:=by unfold cutV;rw[XO,Yg];exact OZD
def rSlT(K:Z7):V->Option Int->Option Int->Hp->VK->Prop:=λx lo hi H Q=>∃a xs,x=.ref a/\SqT K H a xs ∧
 ¬(HT.sIx xs.length 0 lo=0/\HT.sIx xs.length xs.length hi=xs.length)/\∀p,H p=none->Q (.ref p) (upd H p (.tup (cutV xs lo hi)))
theorem ztS:SlR X (rSlT X.K):=by
 intro pins s σ H x v vl vu lo hi sl Q I rx hs pl pu h;obtain⟨a,xs,rfl,hx,hw,q⟩:=h;cases rx;obtain⟨its,r,ht,hz⟩:=I.tuple hx
 have hlen:its.toArray.size=xs.length:=by rw[ZW];exact r.length.symm
 refine⟨"tuple",_,Zi.lookup,ht.typeIs,?_⟩
 refine HT.getItem_tuple_cut ht hs pl pu (by rw[hlen];exact hw) ?_ (by rw[hlen];exact hz)
 rw[hlen];refine⟨.ref s.heap.objs.size,_,I.laid (t':=s.toks) (o:=.tup (cutV xs lo hi)) (λb ob q=>Z2 _ q) (Z0 _) ?_,rfl,q _ (I.hok.fresh (Z0 _))⟩;exact⟨Y6 (zfG xs lo hi) hz,_,(r.drop (HT.sIx xs.length 0 lo)).take (HT.sIx xs.length xs.length hi-HT.sIx xs.length 0 lo),zdD.new _ _⟩
def zuD(K:Z7):R2:=λx y H Q=>∃a b xs ys,x=.ref a/\y=.ref b/\SqT K H a xs/\SqT K H b ys/\xs≠[]/\xs.length+ys.length<=sizeLine ∧
 (ys=[]->Q (.ref a) H)/\(ys≠[]->∀p,H p=none->Q (.ref p) (upd H p (.tup (xs++ys))))
theorem Vals.nil_iff{xs:List V}{us:List Value}(r:Vals xs us):us=[]↔xs=[]:=by
 cases r with|nil=>simp|cons _ _=>simp
theorem zq8:OpR X (Y4 .Add) (zuD X.K):=by
 intro pins s σ H x y v u Q I rx ry h;obtain⟨a,b,xs,ys,rfl,rfl,ha,hb,hx,hz,q1,q2⟩:=h;cases rx;cases ry;obtain⟨its,r1,p1,_⟩:=I.tuple ha;obtain⟨its2,r2,p2,_⟩:=I.tuple hb
 refine HT.cat_tup p1 p2 (λz=>hx (r1.nil_iff.mp z)) (λz=>⟨.ref a,H,I,rfl,q1 (r2.nil_iff.mp z)⟩) (λz=>?_) (by rw[<-r1.length,<-r2.length];exact hz)
 refine⟨.ref s.heap.objs.size,_,I.laid (t':=s.toks) (o:=.tup (xs++ys)) (λb ob q=>Z2 _ q) (Z0 _) ?_,rfl,q2 (λw=>z (r2.nil_iff.mpr w)) _ (I.hok.fresh (Z0 _))⟩
 exact⟨by rw[Zu];exact hz,_,r1.append r2,zdD.new _ _⟩
end
def ixN(n:Nat)(i:Int):Option Nat:=if 0<=i then(if i<n then some i.toNat else none) else if -(n:Int)<=i then some (i+n).toNat else none
def atI{α:Type}(xs:List α)(i:Int):Option α:=(ixN xs.length i).bind λj=>xs[j]?
theorem zl0{n:Nat}{i:Int}{j:Nat}(h:ixN n i=some j):seqIndex? i n=some j/\j<n/\-(n:Int)<=i/\i<n:=by
 unfold ixN at h
 by_cases h0:0<=i
 ·rw [if_pos h0] at h
  by_cases h1:i<n
  ·rw [if_pos h1] at h
   have e:i.toNat=j:=ZU h;exact⟨by rw[seqIndex_of h0 h1,e],by exact OYp h0 h1 e,by omega,h1⟩
  ·rw[if_neg h1] at h;cases h
 ·rw [if_neg h0] at h
  by_cases h1:-(n:Int)<=i
  ·rw [if_pos h1] at h
   have e:(i+n).toNat=j:=ZU h;exact⟨by rw[seqIndex_neg (by exact OZ0 h0) h1,e],by exact OYw e h1 h0,h1,by omega⟩
  ·rw[if_neg h1] at h;cases h
theorem zi7{α:Type}{xs:List α}{i:Int}{v:α}(h:atI xs i=some v):∃j,seqIndex? i xs.length=some j/\xs[j]?=some v/\j<xs.length/\-(xs.length:Int)<=i/\i<xs.length:=by
 unfold atI at h
 cases e:ixN xs.length i with|none=>rw[e] at h;cases h|some j=>rw[e] at h;obtain⟨h1,h2,h3,h4⟩:=zl0 e;exact⟨j,h1,h,h2,h3,h4⟩
def zem(b:Expr):Prop:=∀o i,subscripted b false o i=operate [o,i] (Wc o i)
def IxR(X:Cx)(r:R2):Prop:=
 ∀ (value slice:Expr) (pins:List (Addr×Obj)) (s:Shared) (σ:St) (H:Hp) (x y:V) (v u:Value) (Q:VK),Inv X pins σ H s->RelV x v->RelV y u->r x y H Q →
  subscripted slice false v u=operate [v,u] (Wc v u)->wpAny (model X.prog X.w) X.A (subscriptTail value slice v u) (EP X pins σ Q) X.xe s
def MtR(X:Cx)(id:String)(r:V->List V->Hp->VK->Prop):Prop:=
 ∀ (pins:List (Addr×Obj)) (s:Shared) (σ:St) (H:Hp) (x:V) (xs:List V) (v:Value) (us:List Value) (Q:VK),Inv X pins σ H s->RelV x v->Vals xs us->r x xs H Q →
  wpAny (model X.prog X.w) X.A (call (.builtin id) (v::us)) (EP X pins σ Q) X.xe s
section
variable {X:Cx}{a b:Expr}{ta tb:TE}{pos:Pos}
theorem zps{r:R2}(hr:IxR X r)(ha:PE X a ta)(hb:PE X b tb)(hs:zem b):PE X (.Subscript a b pos) (tOp r ta tb):=by intro pins s σ H Q I h;exact Subscript_ (binT ha hb I h λv u s2 x y H2 I2 rx ry q=>hr a b pins s2 σ H2 x y v u Q I2 rx ry q (hs _ _))
def rIxL(K:Z7):R2:=λx y H Q=>∃p xs i v,x=.ref p/\y=.int i/\SqL K H p xs/\atI xs i=some v/\Q v H
def rIxT(K:Z7):R2:=λx y H Q=>∃p xs i v,x=.ref p/\y=.int i/\SqT K H p xs/\atI xs i=some v/\Q v H
def rIxS:R2:=λx y H Q=>∃z i c,x=.str z/\y=.int i/\z.length<=sizeLine/\atI z.cps.toList i=some c/\Q (.str ⟨#[c]⟩) H
theorem znM:IxR X (rIxL X.K):=by
 intro value slice pins s σ H x y v u Q I rx ry h hs;obtain⟨p,xs,i,z,rfl,rfl,hq,he,q⟩:=h;cases rx;obtain⟨t,rfl⟩:=ry;obtain⟨its,r,pl,hz⟩:=I.list hq;obtain⟨j,h1,h2,h3,h4,h5⟩:=zi7 he;obtain⟨w,ew,rw'⟩:=r.get h2;have hl:=r.length;have hn:=zfA;have fin:EP X pins σ Q w s:=⟨z,H,I,rw',q⟩
 by_cases h0:0<=i
 ·have hj:i.toNat=j:=by
   rw[seqIndex_of h0 h5] at h1;exact ZU h1
  exact item_listR pl.isList h0 (by exact OZC h5 hl hz hn) (by rw[hj];simpa using ew) fin hs
 ·have hj:(i+(its.toArray.size:Int)).toNat=j:=by
   rw[seqIndex_neg (by exact OZ0 h0) h4] at h1;rw[ZW,<-hl];exact ZU h1
  exact subscriptTail_builtinR (x:=w) pl.isList.typeIs slot_list_getitem.lookup
   (wpAny_getItem_list_neg (Q:=λr s'=>r=w/\EP X pins σ Q r s') pl.isList (by exact OZ0 h0) (by rw[ZW]<;>omega) (by exact OZB h4 hl hz hn) (by rw[hj];simpa using ew) ⟨rfl,fin⟩) hs
theorem zsP:IxR X (rIxT X.K):=by
 intro value slice pins s σ H x y v u Q I rx ry h hs;obtain⟨p,xs,i,z,rfl,rfl,hq,he,q⟩:=h;cases rx;obtain⟨t,rfl⟩:=ry;obtain⟨its,r,pl,hz⟩:=I.tuple hq;obtain⟨j,h1,h2,h3,h4,h5⟩:=zi7 he;obtain⟨w,ew,rw'⟩:=r.get h2;have hl:=r.length;have hn:=zfA;have fin:EP X pins σ Q w s:=⟨z,H,I,rw',q⟩
 exact subscriptTail_builtinR (x:=w) pl.typeIs slot_tuple_getitem.lookup
  (getItem_tuple (j:=j) (Q:=λr s'=>r=w/\EP X pins σ Q r s') pl (by exact OYf h4 hl hz hn h3) (by exact OYe h5 hl hz hn h3) (by rw[ZW,<-hl];exact h1) (by simpa using ew) ⟨rfl,fin⟩) hs
theorem ztm:IxR X rIxS:=by
 intro value slice pins s σ H x y v u Q I rx ry h hs;obtain⟨z,i,c,rfl,rfl,hz,he,q⟩:=h;obtain⟨t,rfl⟩:=rx;obtain⟨t',rfl⟩:=ry;obtain⟨j,h1,h2,h3,h4,h5⟩:=zi7 he
 have hl:z.cps.toList.length=z.length:=by simp[Str.length]
 rw[hl] at h1 h4 h5;have hn:=zfA
 exact tail_any (typeIs_str s z t) slot_str_getitem.lookup (getItem_str (c:=c) (by
  have e1:decide (i < -(2^63:Int))=false:=decide_eq_false (by exact OXY h4 hl.symm hz hn);have e2:decide (i>=2^63)=false:=decide_eq_false (by exact OXX h5 hl.symm hz hn)
  rw[e1,e2,Bool.or_false]) (by rw[h1];simpa using h2) ⟨.str ⟨#[c]⟩,H,I.tok _,⟨_,rfl⟩,q⟩) hs
theorem zlu(its:List Value)(n j:Nat)(u:Value):X6 (·.setIfInBounds j u) {cls:=.type "list",data:=.seq its.toArray n}={cls:=.type "list",data:=.seq (its.set j u).toArray n}:=by simp[X6]
theorem Inv.lst{pins:List (Addr×Obj)}{σ:St}{H:Hp}{s:Shared}{p:Addr}{xs:List V}(I:Inv X pins σ H s)(h:H p=some (.lst xs)):
  ∃(its:List Value) (n:Nat),Vals xs its/\s.heap.get? p=some {cls:=.type "list",data:=.seq its.toArray n}/\xs.length<=sizeLine:=by
 obtain⟨z,its,n,r,e⟩:=I.hok p _ h;exact⟨its,n,r,e,z⟩
theorem Inv.lstUpd{pins:List (Addr×Obj)}{σ:St}{H:Hp}{s:Shared}{p:Addr}{xs ys:List V}{its its':List Value}{n n':Nat}{f:Obj->Obj}(I:Inv X pins σ H s)(h:H p=some (.lst xs))
  (ho:s.heap.get? p=some {cls:=.type "list",data:=.seq its.toArray n}) (hf:f {cls:=.type "list",data:=.seq its.toArray n}={cls:=.type "list",data:=.seq its'.toArray n'}) (r:Vals ys its') (hz:ys.length<=sizeLine) (t:Nat):
  Inv X pins σ (upd H p (.lst ys)) {s with heap:=s.heap.update p f,toks:=t}:=by
 have e:(s.heap.update p f).get? p=some {cls:=.type "list",data:=.seq its'.toArray n'}:=by rw[Xa f ho (by rw[hf]<;>rfl),hf]
 refine I.write (x:=p) (e:=p) (by rw[h];trivial) (.inl rfl) (λb u hb q=>(Yy _ _ (Y5 hb)).trans q) ⟨_,e⟩ ?_
 exact⟨hz,its',n',r,e⟩
def zvL:V->V->V->Hp->(Hp->Prop)->Prop:=λo i v H Q=>∃p xs k j,o=.ref p/\i=.int k/\H p=some (.lst xs)/\ixN xs.length k=some j/\Q (upd H p (.lst (xs.set j v)))
theorem znY:PSet X zvL:=by
 intro pins s σ H o i v ov iv u Q I ro ri rv h;obtain⟨p,xs,k,j,rfl,rfl,hp,hj,q⟩:=h;cases ro;obtain⟨t,rfl⟩:=ri;obtain⟨its,n,r,ho,hz⟩:=I.lst hp;obtain⟨h1,h2,h3,h4⟩:=zl0 hj;have hl:=r.length;have hn:=zfA
 have I':Inv X pins σ (upd H p (.lst (xs.set j v))) {s with heap:=s.heap.update p (X6 (·.setIfInBounds j u))}:=I.lstUpd hp ho (zlu its n j u) (r.set rv j) (by rw[YU];exact hz) s.toks
 by_cases h0:0<=k
 ·have hk:k.toNat=j:=by
   rw[seqIndex_of h0 h4] at h1;exact ZU h1
  exact PySem.W.ki_setAt ho h0 (by exact OZC h4 hl hz hn) (by rw[ZW,<-hl];exact h4) (by rw[hk];exact⟨_,I',q⟩)
 ·have hk:(k+(its.toArray.size:Int)).toNat=j:=by
   rw[seqIndex_neg (by exact OZ0 h0) h3] at h1;rw[ZW,<-hl];exact ZU h1
  exact PySem.W.ki_setBack ho (by exact OZ0 h0) (by rw[ZW,<-hl];exact h3) (by exact OZB h3 hl hz hn) (by rw[hk];exact⟨_,I',q⟩)
theorem zhI(lo hi:Option Int)(n:Nat):(Xu lo hi none n).1=((HT.sIx n 0 lo:Nat):Int)/\(Xu lo hi none n).2.1=((HT.sIx n n hi:Nat):Int)/\(Xu lo hi none n).2.2=1:=by
 refine⟨?_,?_,rfl⟩
 ·cases lo with
  |none=>simp[Xu,HT.sIx]
  |some i=>
   simp only[Xu,HT.sIx,Option.getD_none,show(1:Int)>0 by decide,if_true]
   by_cases h:i<0
   ·simp only[h,if_true]<;>omega
   ·simp only[h,if_false]<;>omega
 ·cases hi with
  |none=>simp[Xu,HT.sIx]
  |some i=>
   simp only[Xu,HT.sIx,Option.getD_none,show(1:Int)>0 by decide,if_true]
   by_cases h:i<0
   ·simp only[h,if_true]<;>omega
   ·simp only[h,if_false]<;>omega
theorem zg9(its:List Value)(lo hi:Option Int):slicePick its.toArray lo hi none=((its.drop (HT.sIx its.length 0 lo)).take (HT.sIx its.length its.length hi-HT.sIx its.length 0 lo)).toArray:=by
 obtain⟨h1,h2,h3⟩:=zhI lo hi its.toArray.size;unfold slicePick;rw[h1,h2,h3]
 simp only[sliceRange_one,pick_run,ZW]<;>rfl
def rSlL(K:Z7):V->Option Int->Option Int->Hp->VK->Prop:=λx lo hi H Q=>∃a xs,x=.ref a/\SqL K H a xs/\∀p,H p=none->Q (.ref p) (upd H p (.lst (cutV xs lo hi)))
theorem zrt:SlR X (rSlL X.K):=by
 intro pins s σ H x v vl vu lo hi sl Q I rx hs pl pu h;obtain⟨a,xs,rfl,hx,q⟩:=h;cases rx;obtain⟨its,r,ht,hz⟩:=I.list hx;have hlen:=r.length;refine⟨"list",_,slot_list_getitem.lookup,ht.isList.typeIs,?_⟩
 refine wpAny_getItem_list_slice ht.isList hs pl pu .none (by simp) ?_ (by rw[ZW]<;>omega)
 rw[zg9,<-hlen];refine⟨.ref s.heap.objs.size,_,I.laid (t':=s.toks) (o:=.lst (cutV xs lo hi)) (λb ob q=>Z2 _ q) (Z0 _) ?_,rfl,q _ (I.hok.fresh (Z0 _))⟩;exact⟨Y6 (zfG xs lo hi) hz,_,0,(r.drop (HT.sIx xs.length 0 lo)).take (HT.sIx xs.length xs.length hi-HT.sIx xs.length 0 lo),Zp _ rfl⟩
theorem ziq:zgO X (.type "list") (λxs H Q=>∃p ys,xs=[.ref p]/\(SqL X.K H p ys\/SqT X.K H p ys)/\∀l,H l=none->Q (.ref l) (upd H l (.lst ys))):=by
 intro pins s σ H xs us Q I r h;obtain⟨p,ys,rfl,hq,q⟩:=h;obtain⟨u,rfl,rx⟩:=zi5 r;cases rx
 have fin:∀(its:List Value),Vals ys its->ys.length<=sizeLine->∀(h':Heap) (c':Nat),(∀b o',s.heap.get? b=some o'->h'.get? b=some o') →
   h'.get? s.heap.objs.size=some {cls:=.type "list",dict:=none,data:=.seq its.toArray c',slots:=#[]}->EP X pins σ Q (.ref s.heap.objs.size) {s with heap:=h'}:=λits r' hz h' c' kp e=>
  ⟨.ref s.heap.objs.size,_,I.laid (t':=s.toks) kp (Z0 _) (show zby X.prog X.w _ h' _ (.lst ys) from⟨hz,its,c',r',e⟩),rfl,q _ (I.hok.fresh (Z0 _))⟩
 rcases hq with hq | hq
 ·obtain ⟨its,r',pl,hz⟩:=I.list hq
  have hlen:=r'.length;obtain⟨o,ho,hc,n,hd⟩:=pl.isList
  exact call_list_seq p (.inl rfl) ho hc hd (λh' c' kp e=>fin its r' hz h' c' kp e) (by simp only[ZW]<;>omega)
 ·obtain ⟨its,r',pl,hz⟩:=I.tuple hq
  have hlen:=r'.length;obtain⟨o,ho,hc,n,hd⟩:=pl
  exact call_list_seq p (.inr rfl) ho hc hd (λh' c' kp e=>fin its r' hz h' c' kp e) (by simp only[ZW]<;>omega)
theorem zdI:zgO X (.type "tuple") (λxs H Q=>∃p ys,xs=[.ref p]/\((SqL X.K H p ys/\∀l,H l=none->Q (.ref l) (upd H l (.tup ys)))\/(SqT X.K H p ys/\Q (.ref p) H))):=by
 intro pins s σ H xs us Q I r h;obtain⟨p,ys,rfl,h⟩:=h;obtain⟨u,rfl,rx⟩:=zi5 r;cases rx
 rcases h with⟨hq,q⟩|⟨hq,q⟩
 ·obtain ⟨its,r',pl,hz⟩:=I.list hq
  have hlen:=r'.length
  refine call_tuple_list pl.isList (λh' kp=>?_) (by simp only[ZW]<;>omega)
  have I1:Inv X pins σ H {s with heap:=h'}:=I.kept (t':=s.toks) kp
  have I2:Inv X pins σ (upd H h'.objs.size (.tup ys)) {s with heap:=h'.push {cls:=.type "tuple",data:=.seq its.toArray}}:=I1.laid (t':=s.toks) (λb o e=>Z2 _ e) (Z0 _) (show zby X.prog X.w _ _ _ (.tup ys) from⟨hz,its,r',zdD.new _ _⟩)
  exact⟨.ref h'.objs.size,_,I2,rfl,q _ (I1.hok.fresh (Z0 _))⟩
 ·obtain ⟨its,r',pl,hz⟩:=I.tuple hq
  exact call_tuple_same pl ⟨.ref p,H,I,rfl,q⟩
def tyV(K:Z7)(T:String)(x:V)(H:Hp):Prop:=match x with
 |.str _=>T="str"|.int _=>T="int"
 | .ref p=>(T="list"/\∃xs,SqL K H p xs)\/(T="tuple"/\∃xs,SqT K H p xs)\/
   (T="dict"/\((∃kvs,H p=some (.dK kvs))\/∃kvs,H p=some (.dK kvs)))\/(T="set"/\∃S n,H p=some (.set S n))
 |_=>False
theorem zuk{pins:List (Addr×Obj)}{σ:St}{H:Hp}{s:Shared}{T:String}{x:V}{v:Value}(I:Inv X pins σ H s)(r:RelV x v)(ty:tyV X.K T x H):
  s.TypeIs v T/\∀a,v=.ref a->∃ob,s.heap.get? a=some ob/\ob.dict=none:=by
 cases x with
 |str z=>
  obtain⟨t,rfl⟩:=r
  cases (show T="str" from ty)
  exact⟨typeIs_str s z t,λ_ e=>nomatch e⟩
 |int i=>
  obtain⟨t,rfl⟩:=r
  cases (show T="int" from ty)
  exact⟨typeIs_int s i t,λ_ e=>nomatch e⟩
 | ref p=>
  cases r
  rcases ty with⟨rfl,xs,hq⟩|⟨rfl,xs,hq⟩|⟨rfl,hk⟩|⟨rfl,S,n,hk⟩
  ·obtain ⟨its,_,pl,_⟩:=I.list hq
   refine⟨pl.isList.typeIs,λa e=>?_⟩;cases e;obtain⟨o,n,e,c,hd,_⟩:=pl;exact⟨o,e,hd⟩
  ·obtain ⟨its,_,⟨o,e,c,_⟩,_⟩:=I.tuple hq
   refine⟨⟨o,e,c⟩,λa e2=>?_⟩;cases e2;exact⟨o,e,I.tupleB hq o e⟩
  ·have z:∃o,s.heap.get? p=some o/\o.ExactDict:=by
    rcases hk with⟨kvs,hk⟩|⟨kvs,hk⟩
    ·obtain ⟨_,_,_,_,o,_,_,e,ex,_⟩:=I.hok p _ hk
     exact⟨o,e,ex⟩
    ·obtain ⟨_,_,_,_,o,_,_,e,ex,_⟩:=I.hok p _ hk
     exact⟨o,e,ex⟩
   obtain⟨o,e,ex⟩:=z;refine⟨⟨o,e,ex.1⟩,λa e2=>?_⟩;cases e2;exact⟨o,e,ex.2.1⟩
  ·obtain ⟨o,_,_,_,e,ex,_⟩:=I.hok p _ hk
   refine⟨⟨o,e,ex.1⟩,λa e2=>?_⟩;cases e2;exact⟨o,e,ex.2.1⟩
 |_=>exact Y8 ty
def tBM(K:Z7)(T:String)(r:V->List V->Hp->VK->Prop)(to:TE)(t:TA):TE:=λσ H Q=>to σ H λx H1=>tyV K T x H1/\t σ H1 λxs H2=>r x xs H2 Q
variable {o e:Expr}{es:List Expr}{to:TE}{t:TA}{name:Str}{apos cpos:Pos}{T id:String}{r:V->List V->Hp->VK->Prop}
theorem zqT(pa:PlainAttrs T)(slot:Slot T name id)(hty:typeOf (.builtin id)=pure (.type "method_descriptor"))(hm:MtR X id r)(ho:PE X o to)(ha:PA X (e::es) t)
  (hbase:YQ o name X.env (eval o X.env)=eval o X.env:=by rfl)
  (hfew:((backTo cpos (ZY (e::es) X.env)).all (λx=>!x.1)&&(XT cpos (YG [] X.env)).all (λx=>x.1.isSome)
   && decide ((e::es).length+([]:List X7).length+(if([]:List X7).isEmpty then 0 else 1)<30))=true:=by rfl)
  (hline:(apos.endLine==cpos.line)=true:=by rfl) (hs:ZY (e::es) X.env=(false,eval e X.env)::ZY es X.env:=by rfl) (hplain:(backTo cpos (ZY es X.env)).any (·.1)=false:=by rfl):
  PE X (.Call (.Attribute o name apos) (e::es) [] cpos) (tBM X.K T r to t):=by
 intro pins s σ H Q I h;refine wpAny_Call_method_late hbase hfew hline rfl (thn (ho pins s σ H _ I h) λv s1 q_=>?_);obtain⟨x,H1,I1,r1,ty,q1⟩:=q_;obtain⟨h1,h2⟩:=zuk I1 r1 ty;refine⟨T,id,pa,slot,hty,h1,h2,?_⟩;have hA:=ha cpos pins s1 σ H1 _ I1 q1;rw[hs] at hA⊢
 refine Calls.callWith_builtin (by show(false||(backTo cpos (ZY es X.env)).any (·.1))=false;rw[hplain]<;>rfl) (Calls.evalArgs_plain ?_)
 exact thn hA λus s2 ⟨vs,H2,I2,r2,q2⟩=>hm pins s2 σ H2 x vs v us Q I2 r1 r2 q2
/- xs.append(e),list.index on a module's tuple .. are MtR facts of 06m -/
end
def MtM(X:Cx)(id:String)(r:V->List V->Hp->VK->Prop):Prop:=
 ∀ (pins:List (Addr×Obj)) (s:Shared) (σ:St) (H:Hp) (x:V) (xs:List V) (v:Value) (us:List Value) (Q:VK),Inv X pins σ H s->RelV x v->Vals xs us->r x xs H Q →
  wpAny (model X.prog X.w) X.A (call (.builtin id) (v::us)) (EP X pins σ Q) X.xe s
theorem Vals.one{x:V}{us:List Value}(h:Vals [x] us):∃u,us=[u]/\RelV x u:=by
 cases h with|cons r t=>cases t;exact⟨_,rfl,r⟩
theorem Vals.zero:∀{us:List Value},Vals [] us->us=[]|_,.nil=>rfl
theorem Vals.dropLast{xs:List V}{us:List Value}(h:Vals xs us):Vals xs.dropLast us.dropLast:=by
 induction h with
 |nil=>exact .nil
 |cons r t ih=>
  cases t with|nil=>exact .nil|cons q t'=>exact .cons r ih
theorem Vals.eraseIdx:∀{xs:List V} {us:List Value} (i:Nat),Vals xs us->Vals (xs.eraseIdx i) (us.eraseIdx i)|_,_,_,.nil=>.nil|_,_,0,.cons _ t=>t|_,_,i+1,.cons r t=>.cons r (Vals.eraseIdx i t)
theorem Vals.reverse{xs:List V}{us:List Value}(h:Vals xs us):Vals xs.reverse us.reverse:=by
 induction h with|nil=>exact .nil|cons r t ih=>rw[Xl,Xl];exact Vals.append ih (.cons r .nil)
section
variable {X:Cx}{pins:List (Addr×Obj)}{σ:St}{H:Hp}{s:Shared}{l b:Addr}{xs ys zs:List V}
theorem Inv.lset{its its':List Value}{n:Nat}{f:Array Value->Array Value}{t':Nat}(I:Inv X pins σ H s)(hH:H l=some (.lst xs))
  (e:s.heap.get? l=some {cls:=.type "list",data:=.seq its.toArray n}) (hf:f its.toArray=its'.toArray) (hv:Vals ys its') (hz:ys.length<=sizeLine):
  Inv X pins σ (upd H l (.lst ys)) {s with heap:=s.heap.update l (X6 f),toks:=t'}:=by
 have q:=PySem.IsL.update e f;rw[hf] at q
 refine I.write (x:=l) (e:=l) (by rw[hH];exact trivial) (.inl rfl) (λb' u hb hu=>(Yy s.heap (X6 f) (Y5 hb)).trans hu) ⟨_,q⟩ ?_
 exact⟨hz,its',_,hv,q⟩
theorem Inv.lnew{its:List Value}{t':Nat}(I:Inv X pins σ H s)(hv:Vals ys its)(hz:ys.length<=sizeLine):
  Inv X pins σ (upd H s.heap.objs.size (.lst ys)) {s with heap:=s.heap.push {cls:=.type "list",data:=.seq its.toArray},toks:=t'}:=
 I.laid (λ_ _ q=>Z2 _ q) (Z0 _) ⟨hz,its,0,hv,Zp _ rfl⟩
theorem Inv.fresh(I:Inv X pins σ H s):H s.heap.objs.size=none:=I.hok.fresh (Z0 _)
theorem Inv.lstM(I:Inv X pins σ H s)(hH:H l=some (.lst xs)):xs.length<=sizeLine/\∃(its:List Value) (n:Nat),Vals xs its/\xs.length=its.length/\s.heap.get? l=some {cls:=.type "list",data:=.seq its.toArray n}:=by obtain⟨z,its,n,r,e⟩:=I.hok l _ hH;exact⟨z,its,n,r,r.length,e⟩
end
section
variable {X:Cx}
def zqU:V->List V->Hp->VK->Prop:=λx vs H Q=>∃l xs y,x=.ref l/\vs=[y]/\H l=some (.lst xs)/\xs.length<sizeLine/\Q .non (upd H l (.lst (xs++[y])))
theorem znJ:MtM X "list.append" zqU:=by
 intro pins s σ H x vs v us Q I rx rv h;obtain⟨l,xs,y,rfl,rfl,hH,hz,q⟩:=h;cases rx;obtain⟨u,rfl,ru⟩:=rv.one;obtain⟨z,its,n,r,hl,e⟩:=I.lstM hH
 refine X5 F.slot_list_append ⟨_,e,rfl⟩ F.entry_list_append (F.args_list_append_2 _ _) (PySem.list_append l its.toArray n u (by rw[ZW];exact OZA hl.symm hz)) ⟨e,?_⟩
 refine⟨.non,_,I.lset (its':=its++[u]) hH e (by simp) (r.append (.cons ru .nil)) ?_,rfl,q⟩;rw[Zu,List.length_singleton];omega
end
section
variable {prog:Zx}{w:World}{A:Around}{E:Value->Shared->Prop}{s:Shared}
end
section
variable {X:Cx}
end
end L2
namespace Att
open PySem PySem.W PySem.Calls PyProof.Rows
theorem zfD{P:Params}{h:Heap}:∀(ns:List Int) (vs:List Value),WellAll P h vs (ns.map WData.int)->IntsAre vs ns:=by
 intro ns
 induction ns with
 |nil=>intro vs w;rw[List.map_nil] at w;cases w;exact .nil
 | cons n ns ih=>
  intro vs w;rw[ZC] at w
  cases w with|cons a b=>cases a;exact .cons _ _ (ih _ b)
theorem znF{l:OpenLaw}{n:Nat}(hn:l.most=some n){P:Params}{h:Heap}{args:List WData}{vals:List Value}
  (hpre:l.row.toRowW.claim.pre args=true) (hwl:WellAll P h vals args):
  ∃a vs ns,vals=[Zc a]/\args=[WData.list (ns.map WData.int)]/\h.get? a=some {cls:=.type "list",data:=.seq vs.toArray}/\IntsAre vs ns/\ns.length<=n:=by
 have hsh:WShape.hasAll [] args [.list .int]=true:=(pre_splitW hpre).1;have hc:l.pre.holds [] {args:=args}=true:=(pre_splitW hpre).2;obtain⟨d,r,rfl,h1,h2⟩:=hasAllW_cons hsh;obtain rfl:=hasAllW_nil h2;obtain⟨xs,rfl,h3⟩:=hasW_list h1;obtain⟨ns,rfl⟩:=items_int h3
 have hlen:ns.length<=n:=by
  unfold OpenLaw.pre at hc
  have h4:(WTm.not (.lt (.lit (.int (n:Int))) (.len (.arg 0)))).holds [] {args:=[.list (ns.map .int)]}=true:=by have h4:=(holds_andW hc).1;rw[hn] at h4;exact h4
  have h5:=condW_of h4 (w_not (w_lt w_lit (w_len_list (w_arg rfl))));rw[Z4] at h5;refine Nat.le_of_not_lt λq=>?_
  have q':(n:Int)<((ns.length:Nat):Int):=by exact OZ7 q
  first|(rw[decide_eq_true q'] at h5;exact absurd h5 (by decide))|(simp at h5;omega)
 cases hwl with
 |cons w1 w2=>
  cases w2
  cases w1 with|list ho hall=>exact⟨_,_,ns,rfl,rfl,ho,zfD ns _ hall,hlen⟩
theorem znT(l:OpenLaw)(args:List WData):l.row.toRowW.claim.post args (.bool true) args=true:=
 postW_of (r:=l.row.toRowW) (X:=(true==true))
  (show WShape.has [] (.bool true) .bool=true by first | rfl | decide | simp[WShape.has,WShape.arms,WShape.armsAll])
  (show(WTm.eq .res (.lit (.bool true))).value [] {args:=args,res:=some (.bool true),after:=args}=some (.bool (true==true)) from w_eq_bool (w_res rfl) w_lit) rfl
theorem attach_call{l:OpenLaw}{n:Nat}{q:Zx}{loose:List Str}{XP:(Str->Option Value)->Heap->Prop}{YP:World->Heap->Prop}{d:DefRec}
  (hn:l.most=some n) (hdf:d.params.defaults=[])
  (call:∀(w:World) (s₀ s₁:Shared) (mg mb:Str->Option Value) (fa:Addr) (o:Obj) (pm cd doc:Value) (a:Addr) (vs:List Value) (ns:List Int),
   Ground q loose [] XP w s₀ mg mb s₁.heap->YP w s₁.heap →
   s₁.heap.get? fa=some o->o.data=.func (docDef d.name d.params d.body d.scope pm cd doc)->s₁.heap.CodeRec cd d.name->mg d.name=some (.ref fa) →
   s₁.heap.get? a=some {cls:=.type "list",data:=.seq vs.toArray}->IntsAre vs ns->ns.length<=n->s₁.gens=#[] →
   W2 (model l.prog w) Wb (.call (.ref fa) ⟨[.ref a],[]⟩) (λr s'=>r=.ok (.ret (.bool true))/\OldK s₁.heap s'.heap/\s'.os=s₁.os/\WA s'.gens) s₁):
  WalkO q loose XP YP l.row.toRowW d [] (λf vs=>PySem.call f vs):=by
 intro w s₀ s₁ mg mb G Y fa o pm cd doc dV kV ho hd hcd hD hmg hg args vals as hpre hlay hrd hwl hlo;obtain rfl:dV=.none:=Dflts.none hD hdf;obtain rfl:kV=.none:=Dflts.noKw hD;obtain⟨a,vs,ns,rfl,rfl,hobj,hints,hlen⟩:=znF hn hpre hwl;refine enter_call (WQ (call w s₀ s₁ mg mb fa o pm cd doc a vs ns G Y ho (fd_plain hd) hcd hmg hobj hints hlen hg) λr s' hq=>?_);obtain⟨rfl,h2,h3,h4⟩:=hq;exact⟨.inl ⟨.bool true,.bool true,[],rfl,λ_=>rfl,.bool true,znT l _,λ_=>⟨List.Pairwise.nil,λ_ hm=>(nomatch hm)⟩⟩,h2,h3,h4⟩
section
variable {prog:Zx}{w:World}{A:Around}{E:Value->Shared->Prop}{s:Shared}{K:Frag}
end
end Att
namespace L2
open PySem PySem.Spec PyProof.Rows
theorem zh9:∀{vs:List Value} {ns:List Int},IntsAre vs ns->Vals (ns.map V.int) vs|_,_,.nil=>.nil|_,_,.cons n t h=>.cons ⟨t,rfl⟩ (zh9 h)
def Only(H:Hp):Prop:=∀b,H b=none\/∃o xs,H b=some (.frz o (.lst xs))
theorem law_call{P:Zx}{w:World}{K:Z7}{mg mb:Str->Option Value}{CX:CXT}{k:Nat}{fa a:Addr}{fd:FuncData}{x:Str}{sp:Sp}{s₁:Shared}{vs:List Value}{ns:List Int}
  (KX:K.In s₁.heap) (hns:s₁.heap.Ns ZV mg) (hb:s₁.heap.Ns builtinsNs mb) (hbb:∀x:Str,x ≠ "__name__"->mb x=XR x) (hlim:s₁.heap.NoLimit) (hg:s₁.gens=#[])
  (ha:s₁.heap.get? a=some {cls:=.type "list",data:=.seq vs.toArray}) (hi:IntsAre vs ns) (hl:ns.length<=sizeLine) (hr:Room k Wb)
  (F:∀base:Heap,K.In base->base.Ns ZV mg->FnOk P w K mg base CX k fa fd [x] sp) (hbind:∀(s:Shared) (u:Value),V5 s fd ⟨[u],[]⟩ [(x,u)])
  (hsp:∀H:Hp,Only H->SqL K H a (ns.map V.int)->sp [.ref a] H (λv _=>v=.bl true) λ_ _ _=>False)
  (hCX:∀H e s',CX [] H s₁ (λ_ _ _=>False) e s'->False):
  W2 (model P w) Wb (.call (.ref fa) ⟨[.ref a],[]⟩) (λr s'=>r=.ok (.ret (.bool true))/\OldK s₁.heap s'.heap/\s'.os=s₁.os/\WA s'.gens) s₁:=by
 have rv:=zh9 hi;have lenV:=hi.length
 have core:∀H:Hp,Only H->SqL K H a (ns.map V.int)->HOk P w H s₁.heap->(∀b,H b≠none->b=a)->(H a≠none->K.lookup a=none) →
   W2 (model P w) Wb (.call (.ref fa) ⟨[.ref a],[]⟩) (λr s'=>r=.ok (.ret (.bool true))/\OldK s₁.heap s'.heap/\s'.os=s₁.os/\WA s'.gens) s₁:=by
  intro H hO hS hok hA hK;have base_of:∀{b:Addr} {o:Obj},s₁.heap.get? b=some o->H b=none->(hidT s₁.heap H).get? b=some o:=λe n=>zpe e n
  have noA:∀{b:Addr} {o:Obj} {es:Array DictEntry} {ep:Nat},s₁.heap.get? b=some o->o.data=.dict es ep->H b=none:=λ{b o es ep} e d=>by
   cases q:H b with
   |none=>rfl
   |some u=>
    have e':b=a:=hA b (by rw[q];simp)
    subst e'
    rw[ha] at e;cases e
    have d':Data.seq vs.toArray _=Data.dict es ep:=d;cases d'
  have nsK:∀{b:Addr} {m:Str->Option Value},s₁.heap.Ns b m->(hidT s₁.heap H).Ns b m:=λ{b m} ⟨o,es,ep,e,d,r⟩=>⟨o,es,ep,base_of e (noA e d),d,r⟩
  have hKb:K.In (hidT s₁.heap H):=λb o e=>base_of (KX b o e) (by
   cases q:H b with
   |none=>rfl
   |some u=>
    have e':b=a:=hA b (by rw[q];simp)
    subst e'
    rw[hK (by rw[q];simp)] at e;cases e)
  have hM:Mod K mg (hidT s₁.heap H):=⟨hKb,nsK hns,⟨mb,nsK hb,hbb⟩,let ⟨mc,h1,h2⟩:=hlim;⟨mc,nsK h1,h2⟩⟩
  have e0:Env0 P w K mg (hidT s₁.heap H) Wb [] s₁ H:=⟨rfl,hM,λb o e=>zr2 e,Nat.le_of_eq (zmP _ _),trivial,λb hb=>absurd (show b∈([]:List Addr) from hb) (by simp),hok,.of_eq hg⟩;refine WQ ((F _ hKb (nsK hns)).run Wb [] s₁ H ⟨[.ref a],[]⟩ [.ref a] [.ref a] _ _ hr e0 (hbind s₁ (.ref a)) (.cons rfl .nil) (hsp H hO hS)) λr s' h=>?_
  cases r with
  |error e=>exact(hCX H e s' h).elim
  | ok fl=>
   cases fl with
   |next=>exact Y8 h|brk=>exact Y8 h|cont=>exact Y8 h
   | ret u=>
    obtain⟨v,H',os,bare,un,hok',r',q⟩:=h;have q':v=.bl true:=q;subst q';obtain rfl:u=W9 true:=r';refine⟨rfl,OldK.of_keep λb o e=>?_,os,bare⟩
    cases q:H b with
    |none=>exact un.keep b o e q (by intro z;exact absurd (show b∈([]:List Addr) from z) (by simp)) (by simp)
    | some u=>
     rcases hO b with z|⟨ob,xs,z⟩
     ·rw[q] at z;cases z
     ·have z2:=un.frzs b ob _ z
      obtain⟨e1,_⟩:=hok b _ z;obtain⟨e2,_⟩:=hok' b _ z2
      rw[e] at e1;cases e1
      exact e2
 cases hk:K.lookup a with
 |some o=>
  have e:=KX a o hk;rw[ha] at e;cases e
  refine core (λ_=>none) (λ_=>.inl rfl) (.inr ⟨_,vs.toArray,_,hk,rfl,rfl,rfl,by rw[ZW,lenV];exact hl,by simpa using rv⟩) (λb u z=>by have z':(none:Option HO)=some u:=z;cases z') (λb z=>absurd rfl z) λz=>absurd rfl z
 | none=>
  refine core (λb=>if b=a then some (.frz {cls:=.type "list",data:=.seq vs.toArray} (.lst (ns.map V.int))) else none) (λb=>?_) (.inl (.inr ⟨{cls:=.type "list",data:=.seq vs.toArray},if_pos rfl⟩)) (λb u z=>?_) (λb z=>?_) λ_=>hk
  ·by_cases hb:b=a
   ·exact .inr ⟨_,_,if_pos hb⟩
   ·exact .inl (if_neg hb)
  ·by_cases hb:b=a
   ·have z':=(if_pos hb).symm.trans z
    cases z';subst hb
    exact⟨ha,by rw[Z4];exact hl,vs,_,rv,ha⟩
   ·have z':=(if_neg hb).symm.trans z
    cases z'
  ·by_cases hb:b=a
   ·exact hb
   ·exact absurd (if_neg hb) z
abbrev KOf{K:Z7}{h:Heap}(_:K.In h):Z7:=K
theorem walk_of{l:Wj}{n k:Nat}{q:Zx}{loose:List Str}{XP:(Str->Option Value)->Heap->Prop}{YP:World->Heap->Prop}{d:DefRec}{K:Params->Z7}{CX:World->CXT}{sp:World->Sp}{x:Str}
  (hn:l.most=some n) (hn2:n<=sizeLine) (hdf:d.params.defaults=[]) (hr:Room k Wb)
  (hY:∀(w:World) (h:Heap),YP w h->(K w.params).In h)
  (F : ∀(w:World) (mg:Str->Option Value) (fa:Addr) (h:Heap),(K w.params).In h->h.Ns ZV mg->mg d.name=some (.ref fa) →
   ∃ fd:FuncData,(∀(s:Shared) (u:Value),V5 s fd ⟨[u],[]⟩ [(x,u)]) ∧
    ∀base:Heap,(K w.params).In base->base.Ns ZV mg->FnOk l.prog w (K w.params) mg base (CX w) k fa fd [x] (sp w))
  (hsp:∀(w:World) (H:Hp) (a:Addr) (ns:List Int),ns.length<=n->Only H->SqL (K w.params) H a (ns.map V.int)->sp w [.ref a] H (λv _=>v=.bl true) λ_ _ _=>False)
  (hCX:∀(w:World) (H:Hp) (s:Shared) (e:Value) (s':Shared),CX w [] H s (λ_ _ _=>False) e s'->False):
  PySem.W.WalkO q loose XP YP l.row.toRowW d [] (λf vs=>PySem.call f vs):=by
 refine Att.attach_call hn hdf λw s₀ s₁ mg mb fa o pm cd doc a vs ns G Y ho hd hcd hmg hobj hints hlen hg=>?_;have KX:=hY w _ Y;obtain⟨fd,hb,hF⟩:=F w mg fa _ KX G.T.g hmg;exact law_call KX G.T.g G.T.b G.T.builtins G.T.nolimit hg hobj hints (Y6 hlen hn2) hr hF hb (λH hO hS=>hsp w H a ns hlen hO hS) λH e s'=>hCX w H s₁ e s'
end L2
/- THE LAST THEOREM (shape;LID,My.* are yours):
   My.Adr: a structure of the addresses that your layer names (classes,functions);My.Txt K t: a structure (Prop) of the equations over K;
   My.txt_mk:{K} {implicit addresses ..} (e1:nsIn K ZV "law"=some (some (.ref f))) (e2:K.lookup f=some ⟨oc,od,.func (fnOf "law" "law" params body scope dV kV doc pm an cdv ct),sl⟩) (e3:codeIn K cdv "law"=true) ..:∃t,My.Txt K t
set_option maxRecDepth 100000 in
set_option maxHeartbeats 0 in
theorem PySem.Challenge.cw_LID_holds : PySem.Challenge.rw_LID.Holds := by
 w_on;o_law;k_head;(case hw=>w_witness2)
 k_fill
 refine L2.walk_of (l:=PySem.Challenge.rw_LID) (n:=63) (k:=40) (x:="script") (CX:=λw=>..) (sp:=λ_=>My.sp_law) rfl (by decide) rfl ⟨rfl,by decide,by decide⟩ (λw h Y=>PySem.W.kIn_of Y) ?F ?S ?C
 case F=>
  intro w mg fa h KX G hmg
  have T:∃t,My.Txt (L2.KOf KX) t:=by
   dsimp only[L2.KOf]                          -- K must stand as «<heap const> w.params» for k_is
   refine' My.txt_mk ?e1 ?e2 ?e3 ..
   (case e1=>PySem.W.k_is)                    -- in the order: a name->its address->its object->its parts
   (case e2=>PySem.W.k_is)
   ..
  obtain⟨t,T⟩:=T;have e0:=hmg.symm.trans (Y1 KX G T.law)
  cases e0                                       -- fa is the law's own address
  exact⟨_,λs u=>.of_eq rfl,λbase kb nb=>My.law_fn T kb nb⟩     -- if «.of_eq rfl» comes too early: refine' ⟨_,?b,λbase kb nb=>My.law_fn T kb nb⟩;exact λs u=>.of_eq rfl
 case S=>exact λw H a ns hl hO hS=>..
 case C=>exact ..
(the tactic k_is has no namespace: write k_is) -/
namespace L2
open PySem PySem.Spec PyProof.Rows
def zbt(s:Stmt)(j:Nat):Stmt:=match s with|.ClassDef _ _ _ body _ _ _ _ _ _ _=>body.getD j (.Pass ⟨0,0,0,0⟩)|_=>.Pass ⟨0,0,0,0⟩
def zdh(s:Stmt):Arguments:=match s with|.FunctionDef _ a _ _ _ _ _ _ _ _=>a|_=>{posonlyargs:=[],args:=[],vararg:=none,kwonlyargs:=[],kw_defaults:=[],kwarg:=none,defaults:=[]}
def zbo(s:Stmt):List Stmt:=match s with|.FunctionDef _ _ b _ _ _ _ _ _ _=>b|_=>[]
def zah(s:Stmt):Scope:=match s with|.FunctionDef _ _ _ _ _ _ sc _ _ _=>sc|_=>{kind:=.function,names:=[],isGenerator:=false,isCoroutine:=false}
abbrev CX0:CXT:=λ_ _ _ _ _ _=>False
abbrev E0:XK:=λ_ _ _=>False
theorem zns{X:Cx}:zdO CX0 X E0:=λ_ _ _ _ _ _ _ h=>h.elim
section
variable {P:Zx}{w:World}{K:Z7}{mg:Str->Option Value}{base:Heap}
end
section
variable {X:Cx}
end
section
variable {κ:Type}[DecidableEq κ]
def valV(kvs:List (κ×V))(k:κ):Option V:=(kvs.find? λkv=>decide (kv.1=k)).map (·.2)
def putK(kvs:List (κ×V))(k:κ)(v:V):List (κ×V):=if(kvs.any λkv=>decide (kv.1=k))=true then kvs.map (λkv=>if kv.1=k then(kv.1,v) else kv) else kvs++[(k,v)]
theorem zjR{p:κ×V}{r:List (κ×V)}{k:κ}(e:p.1=k):valV (p::r) k=some p.2:=by simp[valV,X0,e]
theorem zjN{p:κ×V}{r:List (κ×V)}{k:κ}(e:¬p.1=k):valV (p::r) k=valV r k:=by simp[valV,X0,e]
theorem zjv(kvs:List (κ×V))(k:κ)(v:V):(putK kvs k v).length<=kvs.length+1:=by
 unfold putK
 split
 ·rw[Z4];omega
 ·rw[Zu,Zr,XA];omega
theorem KV.val{kvs:List (κ×V)}{vs:List (κ×Value)}(r:KV kvs vs)(k:κ):RelO (valV kvs k) (Wa vs k):=by
 unfold KV at r
 induction r with
 |nil=>exact WI
 | @cons p q ps qs h t ih=>
  obtain⟨h1,h2⟩:=h
  by_cases e:p.1=k
  ·have e':q.1=k:=h1.symm.trans e
   have b:Wa (q::qs) k=some q.2:=by simp[Wa,X0,e']
   rw[zjR e,b];exact h2
  ·have e':¬q.1=k:=λz=>e (h1.trans z)
   have b:Wa (q::qs) k=Wa qs k:=by simp[Wa,X0,e']
   rw[zjN e,b];exact ih
theorem KV.any{kvs:List (κ×V)}{vs:List (κ×Value)}(r:KV kvs vs)(k:κ):(kvs.any λkv=>decide (kv.1=k))=vs.any λkv=>decide (kv.1=k):=by
 unfold KV at r
 induction r with|nil=>rfl|cons h t ih=>rw[W0,W0,ih,h.1]
theorem KV.repl{kvs:List (κ×V)}{vs:List (κ×Value)}(r:KV kvs vs)(k:κ){y:V}{u:Value}(ry:RelV y u):
  KV (kvs.map λkv=>if kv.1=k then(kv.1,y) else kv) (vs.map λkv=>if kv.1=k then(kv.1,u) else kv):=by
 unfold KV at r⊢
 induction r with
 |nil=>exact .nil
 |@cons p q ps qs h t ih=>
  rw[ZC,ZC];refine .cons ?_ ih;obtain⟨h1,h2⟩:=h
  by_cases e:p.1=k
  ·rw[if_pos e,if_pos (h1.symm.trans e)];exact⟨h1,ry⟩
  ·rw[if_neg e,if_neg (λz=>e (h1.trans z))];exact⟨h1,h2⟩
theorem KV.put{kvs:List (κ×V)}{vs:List (κ×Value)}(r:KV kvs vs)(k:κ){y:V}{u:Value}(ry:RelV y u):KV (putK kvs k y) (stored vs k u):=by
 unfold putK stored;rw[r.any k]
 by_cases e:(vs.any λkv=>decide (kv.1=k))=true
 ·rw[if_pos e,if_pos e];exact r.repl k ry
 ·rw[if_neg e,if_neg e];exact Paired.snoc r ⟨rfl,ry⟩
theorem KV.length{kvs:List (κ×V)}{vs:List (κ×Value)}(r:KV kvs vs):kvs.length=vs.length:=W6 r
end
section
theorem zr4{P:Zx}{w:World}{k:Key}{u:Value}(r:RelV (kV k) u):(zbq P w).is k u=true:=by
 cases k with|inl i=>obtain⟨t,e⟩:=(show ∃t,u=Value.int i t from r);subst e;exact zjC P w i t|inr x=>obtain⟨t,e⟩:=(show ∃t,u=WN x t from r);subst e;exact zdi P w x t
end
section
variable {P:Zx}{w:World}{H:Hp}{h:Heap}{a:Addr}
theorem zvc{u:HO}(ok:HOk P w H h)(e:Rd H a u):zby P w H h a u:=e.ok ok
theorem zuX{kvs:List (Key×V)}(ok:HOk P w H h)(e:Rd H a (.dK kvs)):kvs.length<=sizeLine/\(a==Xz)=false/\∃vs,KV kvs vs/\h.DictOf (zbq P w) a vs:=show zby P w H h a (.dK kvs) from zvc ok e
theorem zrJ{kvs:List (Key×V)}(ok:HOk P w H h)(e:H a=some (.dK kvs)):kvs.length<=sizeLine/\(a==Xz)=false/\∃vs,KV kvs vs/\h.DictOf (zbq P w) a vs:=zuX ok (.inl e)
end
section
variable {X:Cx}{pins:List (Addr×Obj)}{σ:St}{H:Hp}{s:Shared}{a:Addr}{y v:V}{u r:Value}{o:Option V}{A:Around}{E:Value->Shared->Prop}
theorem Inv.big(I:Inv X pins σ H s):Xz<s.heap.objs.size:=by have h:ZV<s.heap.objs.size:=(I.mod.glob.keeps I.bk).lt;exact Nat.lt_trans (by decide) h
theorem zlX{h':Heap}{t':Nat}{ob:HO}(I:Inv X pins σ H s)(mu:Mut (H a))(hs:Xr a s.heap h')(he:∃q,h'.get? a=some q)(new:zby X.prog X.w (upd H a ob) h' a ob):
  Inv X pins σ (upd H a ob) {s with heap:=h',toks:=t'}:=
 I.write (x:=a) (e:=a) mu (.inl rfl) (λb q hb z=>(hs.2 b hb).trans z) he new
theorem zpR{P:Zx}{w:World}{H':Hp}{h':Heap}{kvs:List (Key×V)}{vs:List (Key×Value)}(z:kvs.length<=sizeLine)(hd:(a==Xz)=false)(rel:KV kvs vs)(dd:h'.DictOf (zbq P w) a vs):
  zby P w H' h' a (.dK kvs):=⟨z,hd,vs,rel,dd⟩
end
section
theorem zo1{P:Zx}{w:World}{H:Hp}(h:Heap)(hb:Xz<h.objs.size):zby P w H (h.push {cls:=.type "dict",data:=.dict #[]}) h.objs.size (.dK []):=⟨X9 _,beq_eq_false_iff_ne.mpr (Y5 (ZJ hb)),[],.nil,Heap.DictOf.new h⟩
abbrev VV:List (V×V)->List (Value×Value)->Prop:=Paired λp q=>RelV p.1 q.1/\RelV p.2 q.2
def zjK(kvs more:List (Key×V)):List (Key×V):=more.foldl (λacc kv=>putK acc kv.1 kv.2) kvs
theorem KV.merge:∀{more:List (Key×V)} {rs:List (Key×Value)} {kvs:List (Key×V)} {vs:List (Key×Value)},KV more rs->KV kvs vs->KV (zjK kvs more) (merged vs rs):=by
 intro more rs kvs vs r;unfold KV at r
 induction r generalizing kvs vs with
 |nil=>intro q;exact q
 | @cons p q ps qs h t ih=>
  intro r0
  have e:KV (putK kvs p.1 p.2) (stored vs q.1 q.2):=by
   have:=r0.put p.1 h.2
   rw[<-h.1];exact this
  exact ih e
theorem zgB{P:Zx}{w:World}:∀{kvs:List (Key×V)} {ws:List (Value×Value)},VV (kvs.map λkv=>(kV kv.1,kv.2)) ws->∃rs,Carries (zbq P w) ws rs/\KV kvs rs
 | [],_,r=>by rw[List.map_nil] at r;cases r;exact⟨[],WI,.nil⟩
 | p::kvs,_,r=>by
  rw[ZC] at r
  cases r with|@cons a b as bs h t=>obtain⟨rs,c,q⟩:=zgB (P:=P) (w:=w) t;obtain⟨b1,b2⟩:=b;exact⟨(p.1,b2)::rs,⟨zr4 h.1,rfl,c⟩,.cons ⟨rfl,h.2⟩ q⟩
end
end L2
namespace IT
open PySem PySem.Spec L2
def LsR(K:Z7)(A:Addr->Prop)(H:Hp)(a:Addr)(vs:List V):Prop:=(¬A a/\Rd H a (.lst vs))\/∃(o:Obj) (its:Array Value) (n:Nat),K.lookup a=some o/\o.cls=.type "list"/\o.dict=none/\o.data=.seq its n/\its.size<=sizeLine/\Vals vs its.toList
theorem LsR.sq(q:LsR K A H a vs):SqL K H a vs:=q.imp (λz=>z.2) (λz=>z)
mutual
noncomputable def RepD(K:Z7)(A:Addr->Prop)(H:Hp):D->V->Prop|.non,v=>v=.non|.bl b,v=>v=.bl b|.int i,v=>v=.int i|.str x,v=>v=.str (zam x)|.tup xs,v=>∃a vs,v=.ref a/\SqT K H a vs/\RepDs K A H xs vs|.lst xs,v=>∃a vs,v=.ref a/\LsR K A H a vs/\RepDs K A H xs vs
noncomputable def RepDs(K:Z7)(A:Addr->Prop)(H:Hp):List D->List V->Prop| [],vs=>vs=[]|x::xs,vs=>∃v r,vs=v::r/\RepD K A H x v/\RepDs K A H xs r
end
section
variable {K:Z7}{A A':Addr->Prop}{H H':Hp}
mutual
theorem RepD.mono(ht:∀a u,Rd H a (.tup u)->Rd H' a (.tup u))(hl:∀a u,¬A a->Rd H a (.lst u)->¬A' a/\Rd H' a (.lst u)):∀(x:D) (v:V),RepD K A H x v->RepD K A' H' x v
 |.non,_,h | .bl _,_,h | .int _,_,h | .str _,_,h=>by
  first
  |(simp only[RepD] at h⊢;exact h)
 |.tup xs,v,h=>by simp only[RepD] at h⊢;obtain⟨a,vs,e,q,r⟩:=h;exact⟨a,vs,e,q.imp (ht a vs) (λz=>z),RepDs.mono ht hl xs vs r⟩|.lst xs,v,h=>by simp only[RepD] at h⊢;obtain⟨a,vs,e,q,r⟩:=h;exact⟨a,vs,e,q.imp (λz=>hl a vs z.1 z.2) (λz=>z),RepDs.mono ht hl xs vs r⟩
theorem RepDs.mono(ht:∀a u,Rd H a (.tup u)->Rd H' a (.tup u))(hl:∀a u,¬A a->Rd H a (.lst u)->¬A' a/\Rd H' a (.lst u)):∀(x:List D) (v:List V),RepDs K A H x v->RepDs K A' H' x v| [],_,h=>by simp only[RepDs] at h⊢;exact h|x::xs,vs,h=>by simp only[RepDs] at h⊢;obtain⟨v,r,e,h1,h2⟩:=h;exact⟨v,r,e,RepD.mono ht hl x v h1,RepDs.mono ht hl xs r h2⟩
end
end
section
variable {K:Z7}{A:Addr->Prop}{H:Hp}
theorem RepDs.length:∀{xs:List D} {vs:List V},RepDs K A H xs vs->xs.length=vs.length| [],vs,h=>by simp only[RepDs] at h;subst h;rfl|x::xs,vs,h=>by simp only[RepDs] at h;obtain⟨v,r,rfl,_,h2⟩:=h;simp only[Zr,h2.length]
theorem RepDs.get:∀{xs:List D} {vs:List V} {i:Nat} {x:D},RepDs K A H xs vs->xs[i]?=some x->∃v,vs[i]?=some v/\RepD K A H x v
 | [],vs,i,x,h,e=>by simp at e
 |y::xs,vs,i,x,h,e=>by
  simp only[RepDs] at h;obtain⟨v,r,rfl,h1,h2⟩:=h
  cases i with|zero=>simp at e;subst e;exact⟨v,rfl,h1⟩|succ i=>simp at e;simpa using h2.get e
theorem RepDs.get':∀{xs:List D} {vs:List V} {i:Nat} {v:V},RepDs K A H xs vs->vs[i]?=some v->∃x,xs[i]?=some x/\RepD K A H x v
 | [],vs,i,v,h,e=>by simp only[RepDs] at h;subst h;simp at e
 |y::xs,vs,i,v,h,e=>by
  simp only[RepDs] at h;obtain⟨w,r,rfl,h1,h2⟩:=h
  cases i with|zero=>simp at e;subst e;exact⟨y,rfl,h1⟩|succ i=>simp at e;simpa using h2.get' e
theorem RepDs.app:∀{xs ys:List D} {vs us:List V},RepDs K A H xs vs->RepDs K A H ys us->RepDs K A H (xs++ys) (vs++us)| [],ys,vs,us,h,h'=>by simp only[RepDs] at h;subst h;simpa using h'|x::xs,ys,vs,us,h,h'=>by simp only[RepDs] at h;obtain⟨v,r,rfl,h1,h2⟩:=h;simp only[Yf,RepDs];exact⟨v,r++us,rfl,h1,h2.app h'⟩
theorem RepDs.nil:RepDs K A H [] []:=by simp only[RepDs]
theorem RepDs.cons(h:RepD K A H x v)(h':RepDs K A H xs vs):RepDs K A H (x::xs) (v::vs):=by simp only[RepDs];exact⟨v,vs,rfl,h,h'⟩
theorem RepDs.one(h:RepD K A H x v):RepDs K A H [x] [v]:=.cons h .nil
theorem RepDs.take:∀{xs:List D} {vs:List V} (n:Nat),RepDs K A H xs vs->RepDs K A H (xs.take n) (vs.take n)
 | [],vs,n,h=>by simp only[RepDs] at h;subst h;simpa using RepDs.nil
 |x::xs,vs,n,h=>by
  simp only[RepDs] at h;obtain⟨v,r,rfl,h1,h2⟩:=h
  cases n with|zero=>simpa using RepDs.nil|succ n=>simpa using RepDs.cons h1 (h2.take n)
theorem RepDs.drop:∀{xs:List D} {vs:List V} (n:Nat),RepDs K A H xs vs->RepDs K A H (xs.drop n) (vs.drop n)
 | [],vs,n,h=>by simp only[RepDs] at h;subst h;simpa using RepDs.nil
 |x::xs,vs,n,h=>by
  simp only[RepDs] at h;obtain⟨v,r,rfl,h1,h2⟩:=h
  cases n with|zero=>simpa using RepDs.cons h1 h2|succ n=>simpa using h2.drop n
theorem RepDs.set(hx:RepD K A H x v):∀{xs:List D} {vs:List V} (n:Nat),RepDs K A H xs vs->RepDs K A H (xs.set n x) (vs.set n v)
 | [],vs,n,h=>by simp only[RepDs] at h;subst h;simpa using RepDs.nil
 |y::xs,vs,n,h=>by
  simp only[RepDs] at h;obtain⟨w,r,rfl,h1,h2⟩:=h
  cases n with|zero=>simpa using RepDs.cons hx h2|succ n=>simpa using RepDs.cons h1 (h2.set hx n)
end
def Ob.mut:Ob->Bool|.lst _=>true|.ins _ _=>true|.rcd _=>true|_=>false
def Live(μ:List Addr)(h:Sto)(a:Addr):Prop:=∃(i:Nat) (o:Ob),μ[i]?=some a/\h[i]?=some o/\o.mut=true
def RepR(K:Z7)(μ:List Addr)(h:Sto)(H:Hp):R->V->Prop|.d x,v=>RepD K (Live μ h) H x v|.loc l,v=>∃a,μ[l]?=some a/\v=.ref a
def RepO(K:Z7)(μ:List Addr)(h:Sto)(H:Hp)(a:Addr):Ob->Prop|.lst xs=>∃vs,H a=some (.lst vs)/\RepDs K (Live μ h) H xs vs|.fro xs=>∃vs,H a=some (.lst vs)/\RepDs K (Live μ h) H xs vs|.ols ls=>∃vs,H a=some (.lst vs)/\Paired (λ(l:Nat) (v:V)=>∃b,μ[l]?=some b/\v=.ref b) ls vs|.ins c fs=>∃C dx fs',(ZR K ZV c=some (some (.ref C))/\Cls K C/\∀p∈fs,zb9 K C p.1)/\H a=some (.ins C dx fs')/\Paired (λ(p:Str×R) (q:Str×V)=>p.1=q.1/\RepR K μ h H p.2 q.2) fs fs'|.rcd fs=>∃xs:List (Key×V),H a=some (.dK xs)/\Paired (λ(p:Str×R) (q:Key×V)=>Zg p.1=q.1/\RepR K μ h H p.2 q.2) fs xs
structure Rep(K:Z7)(μ:List Addr)(h:Sto)(H:Hp):Prop where
 len:μ.length=h.length
 nd:μ.Nodup
 obj:∀(i:Nat) (a:Addr) (o:Ob),μ[i]?=some a->h[i]?=some o->RepO K μ h H a o
structure Stp(μ:List Addr)(h:Sto)(H:Hp)(μ':List Addr)(h':Sto)(H':Hp):Prop where
 pre:∀(i:Nat) (a:Addr),μ[i]?=some a->μ'[i]?=some a
 keep:∀a o,¬Live μ h a->H a=some o->H' a=some o
 live:∀a,Live μ' h' a->Live μ h a\/H a=none
section
variable {K:Z7}{μ μ' μ2:List Addr}{h h' h2:Sto}{H H' H2:Hp}
theorem RepO.isL(q:RepO K μ h H a o)(l:o.isL=true):∃vs,H a=some (.lst vs)/\RepDs K (Live μ h) H o.items vs:=by
 cases o with|lst xs=>exact q|fro xs=>exact q|ins _ _=>cases l|ols _=>cases l|rcd _=>cases l
theorem RepO.some(q:RepO K μ h H a o):∃u,H a=some u:=by
 cases o with|lst xs=>obtain⟨vs,e,_⟩:=q;exact⟨_,e⟩|fro xs=>obtain⟨vs,e,_⟩:=q;exact⟨_,e⟩|ins _ _=>obtain⟨C,dx,fs,_,e,_⟩:=q;exact⟨_,e⟩|ols _=>obtain⟨vs,e,_⟩:=q;exact⟨_,e⟩|rcd _=>obtain⟨xs,e,_⟩:=q;exact⟨_,e⟩
theorem Rep.liveAt(r:Rep K μ h H)(l:Live μ h a):∃u,H a=some u/\((∃vs,u=.lst vs)\/(∃C dx fs,u=.ins C dx fs)\/(∃kvs,u=.dK kvs)\/∃kvs,u=.dK kvs):=by
 obtain⟨i,o,e1,e2,m⟩:=l;have q:=r.obj i a _ e1 e2
 cases o with|lst xs=>obtain⟨vs,e,_⟩:=q;exact⟨_,e,.inl ⟨vs,rfl⟩⟩|fro xs=>cases m|ins _ _=>obtain⟨C,dx,fs,_,e,_⟩:=q;exact⟨_,e,.inr (.inl ⟨C,dx,fs,rfl⟩)⟩|ols _=>cases m|rcd _=>obtain⟨xs,e,_⟩:=q;exact⟨_,e,.inr (.inr (.inr ⟨xs,rfl⟩))⟩
theorem Rep.notLive(r:Rep K μ h H)(e:H a=some o)(n:∀vs,o≠.lst vs)(n2:∀C dx fs,o≠.ins C dx fs:=by intro _ _ _ z;cases z)(n3:∀kvs,o≠.dK kvs:=by intro _ z;cases z)(n4:∀kvs,o≠.dK kvs:=by intro _ z;cases z):¬Live μ h a:=λl=>by
 obtain⟨u,q,z⟩:=r.liveAt l;rw[e] at q;cases q
 rcases z with⟨vs,z⟩|⟨C,dx,fs,z⟩|⟨kvs,z⟩|⟨kvs,z⟩
 ·exact n vs z
 ·exact n2 C dx fs z
 ·exact n3 kvs z
 ·exact n4 kvs z
theorem Stp.refl:Stp μ h H μ h H:=⟨λ_ _ e=>e,λ_ _ _ e=>e,λ_ l=>.inl l⟩
theorem Stp.trans(s:Stp μ h H μ' h' H')(t:Stp μ' h' H' μ2 h2 H2):Stp μ h H μ2 h2 H2:=by
 have nl:∀a o,¬Live μ h a->H a=some o->¬Live μ' h' a:=λa o n e l=>by
  rcases s.live a l with z | z
  ·exact n z
  ·rw[e] at z;cases z
 refine⟨λi a e=>t.pre i a (s.pre i a e),λa o n e=>t.keep a o (nl a o n e) (s.keep a o n e),λa l=>?_⟩
 rcases t.live a l with z | z
 ·exact s.live a z
 ·by_cases n:Live μ h a
  ·exact .inl n
  ·cases e:H a with|none=>exact .inr rfl|some o=>rw[s.keep a o n e] at z;cases z
theorem Stp.rdT(s:Stp μ h H μ' h' H')(r:Rep K μ h H)(a:Addr)(u:List V)(q:Rd H a (.tup u)):Rd H' a (.tup u):=by
 rcases q with e|⟨o,e⟩
 ·exact .inl (s.keep a _ (r.notLive e (by intro vs z;cases z)) e)
 ·exact .inr ⟨o,s.keep a _ (r.notLive e (by intro vs z;cases z)) e⟩
theorem Stp.rdL(s:Stp μ h H μ' h' H')(a:Addr)(u:List V)(n:¬Live μ h a)(q:Rd H a (.lst u)):¬Live μ' h' a/\Rd H' a (.lst u):=by
 have nl:∀o,H a=some o->¬Live μ' h' a:=λo e l=>by
  rcases s.live a l with z | z
  ·exact n z
  ·rw[e] at z;cases z
 rcases q with e|⟨o,e⟩
 ·exact⟨nl _ e,.inl (s.keep a _ n e)⟩
 ·exact⟨nl _ e,.inr ⟨o,s.keep a _ n e⟩⟩
theorem Stp.lsR(s:Stp μ h H μ' h' H')(q:LsR K (Live μ h) H a u):LsR K (Live μ' h') H' a u:=q.imp (λz=>s.rdL a u z.1 z.2) (λz=>z)
theorem RepD.stp(s:Stp μ h H μ' h' H')(r:Rep K μ h H)(q:RepD K (Live μ h) H x v):RepD K (Live μ' h') H' x v:=RepD.mono (s.rdT r) s.rdL x v q
theorem RepDs.stp(s:Stp μ h H μ' h' H')(r:Rep K μ h H)(q:RepDs K (Live μ h) H x v):RepDs K (Live μ' h') H' x v:=RepDs.mono (s.rdT r) s.rdL x v q
theorem RepR.stp(s:Stp μ h H μ' h' H')(r:Rep K μ h H)(q:RepR K μ h H x v):RepR K μ' h' H' x v:=by
 cases x with|d x=>exact RepD.stp s r q|loc l=>obtain⟨a,e,z⟩:=q;exact⟨a,s.pre l a e,z⟩
theorem RepO.stp(s:Stp μ h H μ' h' H')(r:Rep K μ h H)(e:H' a=H a)(q:RepO K μ h H a o):RepO K μ' h' H' a o:=by
 cases o with|lst xs=>obtain⟨vs,e1,z⟩:=q;exact⟨vs,e.trans e1,RepDs.stp s r z⟩|fro xs=>obtain⟨vs,e1,z⟩:=q;exact⟨vs,e.trans e1,RepDs.stp s r z⟩|ols ls=>obtain⟨vs,e1,z⟩:=q;exact⟨vs,e.trans e1,L2.Paired.mapP z λl v ⟨b,eb,ev⟩=>⟨b,s.pre l b eb,ev⟩⟩|rcd fs=>obtain⟨xs,e1,z⟩:=q;exact⟨xs,e.trans e1,L2.Paired.mapP z λp q ⟨ep,eq⟩=>⟨ep,RepR.stp s r eq⟩⟩|ins c fs=>obtain⟨C,dx,fs',ec,e1,z⟩:=q;exact⟨C,dx,fs',ec,e.trans e1,L2.Paired.mapP z λp q ⟨ep,eq⟩=>⟨ep,RepR.stp s r eq⟩⟩
theorem Stp.fresh(n:H p=none):Stp μ h H μ h (upd H p o):=⟨λ_ _ e=>e,λa o' _ e=>by rw[zaj (zan e n)];exact e,λ_ l=>.inl l⟩
theorem Rep.ne_fresh(r:Rep K μ h H){i:Nat}(n:H p=none)(e1:μ[i]?=some a)(e2:h[i]?=some o):a≠p:=by obtain⟨u,q⟩:=(r.obj i a o e1 e2).some;exact zan q n
theorem Rep.fresh{o:HO}(r:Rep K μ h H)(n:H p=none):Rep K μ h (upd H p o):=⟨r.len,r.nd,λi a ob e1 e2=>RepO.stp (Stp.fresh n) r (zaj (r.ne_fresh n e1 e2)) (r.obj i a ob e1 e2)⟩
theorem zkm(hl:μ.length=h.length):Live (μ++[p]) (h++[o]) a↔Live μ h a\/(a=p/\o.mut=true):=by
 constructor
 ·rintro ⟨i,o',e1,e2,e3⟩
  by_cases hi:i<μ.length
  ·rw [ZM hi] at e1
   rw[ZM (by exact OZ9 hi hl.symm)] at e2;exact .inl ⟨i,o',e1,e2,e3⟩
  ·rw [ZS (by omega)] at e1 e2
   have hz:i-μ.length=0:=by
    cases hk:i-μ.length with|zero=>rfl|succ k=>rw[hk] at e1;simp at e1
   rw[hz] at e1;rw[<-hl,hz] at e2;simp at e1 e2;subst e1 e2;exact .inr ⟨rfl,e3⟩
 ·rintro (⟨i,o',e1,e2,e3⟩|⟨rfl,e3⟩)
  ·obtain ⟨h1,_⟩:=Z9.mp e1
   exact⟨i,o',by rw[ZM h1];exact e1,by rw[ZM (by exact OZ9 h1 hl.symm)];exact e2,e3⟩
  ·exact⟨μ.length,o,by simp,by rw[hl];simp,e3⟩
theorem Stp.allocO(r:Rep K μ h H)(n:H p=none):Stp μ h H (μ++[p]) (h++[ob]) (upd H p o):=
  ⟨fun i a e=>by rw[ZM (Z9.mp e).1];exact e,λa o' _ e=>by rw[zaj (zan e n)];exact e,
   fun a l=>by
    rcases(zkm r.len).mp l with z|⟨rfl,_⟩
    · exact .inl z
    · exact .inr n⟩
theorem Stp.alloc(r:Rep K μ h H)(n:H p=none):Stp μ h H (μ++[p]) (h++[.lst xs]) (upd H p o):=Stp.allocO r n
theorem Rep.allocO{o:Ob}(r:Rep K μ h H)(n:H p=none)(q:RepO K (μ++[p]) (h++[o]) (upd H p u) p o):Rep K (μ++[p]) (h++[o]) (upd H p u):=by
 have st:Stp μ h H (μ++[p]) (h++[o]) (upd H p u):=Stp.allocO r n;refine⟨by simp[r.len],?_,λi a ob e1 e2=>?_⟩
 ·rw [Wz]
  refine⟨r.nd,by simp,λa ha b hb=>?_⟩;simp at hb;subst hb
  rintro rfl
  obtain⟨i,hi,e⟩:=XH ha
  have hi':i<h.length:=by rw[<-r.len];exact hi
  exact r.ne_fresh n (by rw[Z6 hi,e]) (Z6 hi') rfl
 ·by_cases hi:i<μ.length
  ·rw [ZM hi] at e1
   rw[ZM (by have:=r.len;exact OZ9 hi this.symm)] at e2
   exact RepO.stp st r (zaj (r.ne_fresh n e1 e2)) (r.obj i a ob e1 e2)
  ·rw [ZS (by omega)] at e1
   have hz:i-μ.length=0:=by
    cases hk:i-μ.length with|zero=>rfl|succ k=>rw[hk] at e1;simp at e1
   rw[hz] at e1;simp at e1;subst e1
   have hi2:i=h.length:=by have:=r.len;have:=(Z9.mp e2).1;simp at this;omega
   subst hi2;simp at e2;subst e2;exact q
theorem Rep.alloc(r:Rep K μ h H)(n:H p=none)(q:RepDs K (Live μ h) H xs vs):Rep K (μ++[p]) (h++[.lst xs]) (upd H p (.lst vs)):=r.allocO n ⟨vs,zak,RepDs.stp (Stp.allocO r n) r q⟩
end
end IT
namespace IT
open PySem PySem.Spec L2
def RdD(K:Z7)(A:Addr->Prop)(H:Hp)(x:D)(v:V):Prop:=match x with|.lst xs=>∃a vs,v=.ref a/\SqL K H a vs/\RepDs K A H xs vs|x=>RepD K A H x v
section
variable {K:Z7}{μ μ':List Addr}{h h':Sto}{H H':Hp}
theorem RdD.of{A:Addr->Prop}(q:RepD K A H x v):RdD K A H x v:=by
 cases x with|lst xs=>simp only[RepD] at q;obtain⟨a,vs,e,r,z⟩:=q;exact⟨a,vs,e,r.sq,z⟩|_=>exact q
theorem zeC(e:rd (.loc l) h=some (d,h')):∃o,h[l]?=some o/\o.isL=true/\d=.lst o.items/\h'=h:=by
 simp only[rd] at e
 cases ho:h[l]? with
 |none=>rw[ho] at e;cases e
 | some o=>
  rw[ho] at e;simp only at e
  split at e
  ·rename_i il
   simp only[Z5,ZZ] at e;exact⟨o,rfl,il,e.1.symm,e.2.symm⟩
  ·cases e
theorem zlv(e:zf2 x h=some (u,h')):∃l o,x=.loc l/\h[l]?=some o/\o.isL=true/\h'=h:=by
 cases x with
 |d _=>cases e
 | loc l=>
  simp only[zf2] at e
  cases ho:h[l]? with
  |none=>rw[ho] at e;cases e
  | some o=>
   rw[ho] at e;simp only at e
   split at e
   ·rename_i il
    simp only[Z5,ZZ] at e;exact⟨l,o,rfl,ho,il,e.2.symm⟩
   ·cases e
theorem zbL{r:R}(R0:Rep K μ h H)(q:RepR K μ h H r v)(e:rd r h=some (d,h')):h'=h/\RdD K (Live μ h) H d v:=by
 cases r with
 |d x=>simp only[rd,ok,Z5,ZZ] at e;obtain⟨rfl,rfl⟩:=e;exact⟨rfl,RdD.of q⟩
 | loc l=>
  obtain⟨a,ea,rfl⟩:=q;simp only[rd] at e
  cases ho:h[l]? with
  |none=>rw[ho] at e;cases e
  | some o=>
   rw[ho] at e;simp only at e
   split at e
   ·rename_i il
    simp only[Z5,ZZ] at e;obtain⟨rfl,rfl⟩:=e;obtain⟨vs,q1,q2⟩:=(R0.obj l a o ea ho).isL il;exact⟨rfl,a,vs,rfl,.inl (.inl q1),q2⟩
   ·cases e
theorem zhw{l:List Addr}(hn:l.Nodup){i j:Nat}(h1:l[i]?=some a)(h2:l[j]?=some a):i=j:=by obtain⟨p1,e1⟩:=Z9.mp h1;obtain⟨p2,e2⟩:=Z9.mp h2;exact(List.getElem_inj hn).mp (e1.trans e2.symm)
theorem zuA(R0:Rep K μ h H)(ho:h[l]?=some o)(il:o.isL=true):Stp μ h H μ (h.set l (.fro o.items)) H/\Rep K μ (h.set l (.fro o.items)) H:=by
 have hl:l<h.length:=(Z9.mp ho).1
 have lv:∀a,Live μ (h.set l (.fro o.items)) a->Live μ h a:=by
  rintro a ⟨i,xs,e1,e2,e3⟩
  by_cases hi:i=l
  ·subst hi
   rw[ZH hl] at e2;cases e2;cases e3
  ·rw [ZE (Y5 hi)] at e2
   exact⟨i,xs,e1,e2,e3⟩
 have st:Stp μ h H μ (h.set l (.fro o.items)) H:=⟨λ_ _ e=>e,λ_ _ _ e=>e,λa z=>.inl (lv a z)⟩;refine⟨st,by simp[R0.len],R0.nd,λi a ob e1 e2=>?_⟩
 by_cases hi:i=l
 ·subst hi
  rw[ZH hl] at e2;cases e2;obtain⟨vs,q1,q2⟩:=(R0.obj i a o e1 ho).isL il;exact⟨vs,q1,RepDs.stp st R0 q2⟩
 ·rw [ZE (Y5 hi)] at e2
  exact RepO.stp st R0 rfl (R0.obj i a ob e1 e2)
theorem zpl{r:R}{v:V}(R0:Rep K μ h H)(q:RepR K μ h H r v)(e:fz r h=some (d,h')):Stp μ h H μ h' H/\Rep K μ h' H/\RepD K (Live μ h') H d v:=by
 cases r with
 |d x=>simp only[fz,ok,Z5,ZZ] at e;obtain⟨rfl,rfl⟩:=e;exact⟨Stp.refl,R0,q⟩
 | loc l=>
  obtain⟨a,ea,rfl⟩:=q;simp only[fz] at e
  cases ho:h[l]? with
  |none=>rw[ho] at e;cases e
  | some o=>
   rw[ho] at e;simp only at e
   split at e
   ·rename_i il
    simp only[Z5,ZZ] at e;obtain⟨rfl,rfl⟩:=e;obtain⟨st,R1⟩:=zuA R0 ho il;have hl:l<h.length:=(Z9.mp ho).1;obtain⟨vs,q1,q2⟩:=(R0.obj l a o ea ho).isL il;refine⟨st,R1,?_⟩;simp only[RepD];refine⟨a,vs,rfl,.inl ⟨?_,.inl q1⟩,RepDs.stp st R0 q2⟩
    rintro⟨i,xs,e1,e2,e3⟩
    have:=zhw R0.nd e1 ea
    subst this;rw[ZH hl] at e2;cases e2;cases e3
   ·cases e
theorem zjJ{l:Nat}{a:Addr}(R0:Rep K μ h H)(ea:μ[l]?=some a)(ho:h[l]?=some o)(hm:o.mut=true)
  (q:Stp μ h H μ (h.set l o') (upd H a u)->RepO K μ (h.set l o') (upd H a u) a o'):Stp μ h H μ (h.set l o') (upd H a u)/\Rep K μ (h.set l o') (upd H a u):=by
 have hl:l<h.length:=(Z9.mp ho).1;have hla:Live μ h a:=⟨l,o,ea,ho,hm⟩
 have lv:∀b,Live μ (h.set l o') b->Live μ h b:=by
  rintro b ⟨i,zs,e1,e2,e3⟩
  by_cases hi:i=l
  ·subst hi
   exact⟨i,o,e1,ho,hm⟩
  ·rw [ZE (Y5 hi)] at e2
   exact⟨i,zs,e1,e2,e3⟩
 have st:Stp μ h H μ (h.set l o') (upd H a u):=⟨λ_ _ e=>e,λb o n e=>by rw[zaj (λz=>n (by rw[z];exact hla))];exact e,λb z=>.inl (lv b z)⟩
 refine⟨st,by simp[R0.len],R0.nd,λi b ob e1 e2=>?_⟩
 by_cases hi:i=l
 ·subst hi
  rw[ea] at e1;cases e1
  rw[ZH hl] at e2;cases e2;exact q st
 ·rw [ZE (Y5 hi)] at e2
  exact RepO.stp st R0 (zaj (λz:b=a=>hi (zhw R0.nd e1 (by rw[z];exact ea)))) (R0.obj i b ob e1 e2)
theorem write(R0:Rep K μ h H)(ea:μ[l]?=some a)(ho:h[l]?=some (.lst xs))(q:RepDs K (Live μ h) H ys ws):
  Stp μ h H μ (h.set l (.lst ys)) (upd H a (.lst ws))/\Rep K μ (h.set l (.lst ys)) (upd H a (.lst ws)):=
 zjJ R0 ea ho rfl λst=>⟨ws,zak,RepDs.stp st R0 q⟩
end
theorem zab{α β:Type}{x:M α}{f:α->M β}{h:Sto}{r:β×Sto}:bnd x f h=some r↔∃a h1,x h=some (a,h1)/\f a h1=some r:=by
 unfold bnd
 cases e:x h with
 |none=>simp
 |some p=>
  obtain⟨a,h1⟩:=p
  exact⟨λq=>⟨a,h1,rfl,q⟩,λ⟨a',h1',e',q⟩=>by cases e';exact q⟩
theorem zac{α:Type}{a b:α}{h h':Sto}:ok a h=some (b,h')↔a=b/\h=h':=by simp[ok]
theorem zar{α:Type}{o:Option α}{b:α}{h h':Sto}:opt o h=some (b,h')↔o=some b/\h=h':=by
 unfold opt
 cases o with|none=>simp|some a=>simp
structure RepE(K:Z7)(μ:List Addr)(h:Sto)(H:Hp)(env:IT.Env)(σ:St):Prop where
 len:env.length=σ.length
 get:∀(i:Nat) (r:R),env[i]?=some (some r)->∃v,σ[i]?=some (some v)/\RepR K μ h H r v
inductive zaY(K:Z7)(μ:List Addr)(h:Sto)(H:Hp):List R->List V->Prop where|nil:zaY K μ h H [] []|cons {r:R} {v:V} {rs:List R} {vs:List V}:RepR K μ h H r v->zaY K μ h H rs vs->zaY K μ h H (r::rs) (v::vs)
section
variable {K:Z7}{μ μ':List Addr}{h h':Sto}{H H':Hp}
theorem RepE.stp(s:Stp μ h H μ' h' H')(R0:Rep K μ h H){env:IT.Env}(q:RepE K μ h H env σ):RepE K μ' h' H' env σ:=⟨q.len,λi r e=>let ⟨v,e',z⟩:=q.get i r e;⟨v,e',z.stp s R0⟩⟩
theorem zaY.stp(s:Stp μ h H μ' h' H')(R0:Rep K μ h H){rs:List R}(q:zaY K μ h H rs vs):zaY K μ' h' H' rs vs:=by
 induction q with|nil=>exact .nil|cons a _ ih=>exact .cons (a.stp s R0) ih
theorem zaY.length{rs:List R}(q:zaY K μ h H rs vs):rs.length=vs.length:=by
 induction q with|nil=>rfl|cons _ _ ih=>simp[ih]
theorem RepE.set(q:RepE K μ h H env σ)(i:Nat)(z:RepR K μ h H r v):RepE K μ h H (env.set i (some r)) (σ.set i (some v)):=by
 refine⟨by simp[q.len],λj r' e=>?_⟩
 by_cases hj:j=i
 ·subst hj
  have hl:j<env.length:=by
   have:=(Z9.mp e).1
   simpa using this
  rw[ZH hl] at e;cases e
  exact⟨v,by rw[ZH (by rw[<-q.len];exact hl)],z⟩
 ·rw [ZE (Y5 hj)] at e⊢
  exact q.get j r' e
theorem zp9:∀{rs:List R} {vs:List V} {ds:List D} {h h':Sto},Rep K μ h H->zaY K μ h H rs vs->rds rs h=some (ds,h')->h'=h/\Paired (RdD K (Live μ h) H) ds vs| [],_,ds,h,h',R0,.nil,e=>by simp only[rds,zac] at e;obtain⟨rfl,rfl⟩:=e;exact⟨rfl,.nil⟩|r::rs,_,ds,h,h',R0,.cons q qs,e=>by simp only[rds,zab,zac] at e;obtain⟨d,h1,e1,ds',h2,e2,rfl,rfl⟩:=e;obtain⟨rfl,z⟩:=zbL R0 q e1;obtain⟨rfl,zs⟩:=zp9 R0 qs e2;exact⟨rfl,.cons z zs⟩
theorem zmb:∀{rs:List R} {vs:List V} {ds:List D} {h h':Sto},Rep K μ h H->zaY K μ h H rs vs->fzs rs h=some (ds,h')->Stp μ h H μ h' H/\Rep K μ h' H/\RepDs K (Live μ h') H ds vs| [],_,ds,h,h',R0,.nil,e=>by simp only[fzs,zac] at e;obtain⟨rfl,rfl⟩:=e;exact⟨Stp.refl,R0,.nil⟩|r::rs,_,ds,h,h',R0,.cons q qs,e=>by simp only[fzs,zab,zac] at e;obtain⟨d,h1,e1,ds',h2,e2,rfl,rfl⟩:=e;obtain⟨s1,R1,z⟩:=zpl R0 q e1;obtain⟨s2,R2,zs⟩:=zmb R1 (qs.stp s1 R0) e2;exact⟨s1.trans s2,R2,.cons (z.stp s2 R1) zs⟩
end
inductive Post{α β:Type}(K:Z7)(μ:List Addr)(h:Sto)(H:Hp)(Rel:List Addr->Sto->Hp->α->β->Prop)(m:Option (α×Sto))(Q:β->Hp->Prop):Prop where|mk (r:α) (h':Sto) (e:m=some (r,h')) (k:∀μ' H' v,Stp μ h H μ' h' H'->Rep K μ' h' H'->Rel μ' h' H' r v->Q v H')
inductive tE(K:Z7)(f:IT.Env->M R)(σ:St)(H:Hp)(Q:VK):Prop where|mk (μ:List Addr) (h:Sto) (env:IT.Env) (R0:Rep K μ h H) (re:RepE K μ h H env σ) (p:Post K μ h H (RepR K) (f env h) Q)
inductive tTv(K:Z7)(f:IT.Env->M Bool)(σ:St)(H:Hp)(Q:Bool->Hp->Prop):Prop where|mk (μ:List Addr) (h:Sto) (env:IT.Env) (R0:Rep K μ h H) (re:RepE K μ h H env σ) (p:Post K μ h H (λ_ _ _ a b=>a=b) (f env h) Q)
inductive tAs(K:Z7)(f:IT.Env->M (List R))(σ:St)(H:Hp)(Q:List V->Hp->Prop):Prop where|mk (μ:List Addr) (h:Sto) (env:IT.Env) (R0:Rep K μ h H) (re:RepE K μ h H env σ) (p:Post K μ h H (zaY K) (f env h) Q)
inductive tLs(K:Z7)(f:IT.Env->M (List D))(σ:St)(H:Hp)(Q:VK):Prop where|mk (μ:List Addr) (h:Sto) (env:IT.Env) (R0:Rep K μ h H) (re:RepE K μ h H env σ) (xs:List D) (h':Sto) (e:f env h=some (xs,h')) (k:∀μ' H' a vs,Stp μ h H μ' h' H'->Rep K μ' h' H'->RepDs K (Live μ' h') H' xs vs->H' a=none->Q (.ref a) (upd H' a (.lst vs)))
abbrev IE(X:Cx)(e:Expr)(f:IT.Env->M R):Prop:=PE X e (tE X.K f)
abbrev IT'(X:Cx)(e:Expr)(f:IT.Env->M Bool):Prop:=PT X e (tTv X.K f)
abbrev IA(X:Cx)(es:List Expr)(f:IT.Env->M (List R)):Prop:=PA X es (tAs X.K f)
abbrev IL(X:Cx)(e:Expr)(f:IT.Env->M (List D)):Prop:=PE X e (tLs X.K f)
theorem PE.imp{X:Cx}(h:PE X e t)(i:∀σ H Q,t' σ H Q->t σ H Q):PE X e t':=λpins s σ H Q I q=>h pins s σ H Q I (i σ H Q q)
theorem PT.imp{X:Cx}(h:PT X e t)(i:∀σ H Q,t' σ H Q->t σ H Q):PT X e t':=λpins s σ H Q I q=>h pins s σ H Q I (i σ H Q q)
theorem PA.imp{X:Cx}(h:PA X e t)(i:∀σ H Q,t' σ H Q->t σ H Q):PA X e t':=λpos pins s σ H Q I q=>h pos pins s σ H Q I (i σ H Q q)
section
variable {X:Cx}{e a b c:Expr}{es:List Expr}{pos:Pos}{f g k:IT.Env->M R}{ft gt:IT.Env->M Bool}
theorem zii{v:V}(h:PE X e (tC v))(hd:∀A H,RepD X.K A H d v):IE X e (λ_=>ok (.d d)):=by refine PE.imp h λσ H Q q0=>?_;obtain⟨μ,h,env,R0,re,r,h',e,k⟩:=q0;obtain⟨rfl,rfl⟩:=zac.mp e;exact k μ H v Stp.refl R0 (hd _ _)
theorem zua{i:Nat}(h:PE X e (tVar i)):IE X e (λσ h=>match σ[i]? with | some (some r)=>some (r,h) | _=>none):=by
 refine PE.imp h λσ H Q q0=>?_;obtain⟨μ,h,env,R0,re,r,h',e,k⟩:=q0
 have e2:env[i]?=some (some r)/\h=h':=by
  (try dsimp only at e)
  cases q:env[i]? with
  |none=>rw[q] at e;cases e
  |some o=>
   cases o with|none=>rw[q] at e;cases e|some r'=>rw[q] at e;simp at e;exact⟨by rw[e.1],e.2⟩
 obtain⟨e3,rfl⟩:=e2;obtain⟨v,e4,z⟩:=re.get i r e3;exact⟨v,e4,k μ H v Stp.refl R0 z⟩
inductive OpIQ(K:Z7)(m:R->R->M R)(v u:V)(H:Hp)(Q:VK):Prop where|mk (μ:List Addr) (h:Sto) (x y:R) (R0:Rep K μ h H) (qx:RepR K μ h H x v) (qy:RepR K μ h H y u) (p:Post K μ h H (RepR K) (m x y h) Q)
def OpI(X:Cx)(F:Value->Value->Sem Value)(m:R->R->M R):Prop:=OpR X F λv u H Q=>OpIQ X.K m v u H Q
theorem two{m:R->R->M R}{σ:St}{Q:VK}(q:tE X.K (λσ=>bnd (f σ) λx=>bnd (g σ) λy=>m x y) σ H Q):
  tE X.K f σ H λv H1=>tE X.K g σ H1 λu H2=>OpIQ X.K m v u H2 Q:=by
 obtain⟨μ,h,env,R0,re,r,h',e,k⟩:=q;simp only[zab] at e;obtain⟨x,h1,e1,y,h2,e2,e3⟩:=e
 exact ⟨μ,h,env,R0,re,x,h1,e1,λμ1 H1 v s1 R1 q1=>⟨μ1,h1,env,R1,re.stp s1 R0,y,h2,e2,λμ2 H2 u s2 R2 q2=>⟨μ2,h2,x,y,R2,q1.stp s2 R1,q2,r,h',e3,λμ3 H3 w s3 R3 q3=>k μ3 H3 w ((s1.trans s2).trans s3) R3 q3⟩⟩⟩
theorem ztC{op:Ws}(ho:OpI X (Y4 op) m)(ha:IE X a f)(hb:IE X b g):IE X (.BinOp a op b pos) (λσ=>bnd (f σ) λx=>bnd (g σ) λy=>m x y):=PE.imp (zsk ho ha hb) λσ H Q q=>two q
theorem zs4{op:CmpOp}(ho:OpI X (Zs op) m)(ha:IE X a f)(hb:IE X b g)(hm:W3 op b=false):IE X (.Compare a [op] [b] pos) (λσ=>bnd (f σ) λx=>bnd (g σ) λy=>m x y):=PE.imp (zrO ho ha hb hm) λσ H Q q=>two q
inductive OpDQ(K:Z7)(g:D->D->Option D)(v u:V)(H:Hp)(Q:VK):Prop where|mk (μ:List Addr) (h:Sto) (a b z:D) (R0:Rep K μ h H) (qa:RdD K (Live μ h) H a v) (qb:RdD K (Live μ h) H b u) (e:g a b=some z) (k:∀μ' H' w,Stp μ h H μ' h H'->Rep K μ' h H'->RepD K (Live μ' h) H' z w->Q w H')
def OpD(X:Cx)(F:Value->Value->Sem Value)(g:D->D->Option D):Prop:=OpR X F λv u H Q=>OpDQ X.K g v u H Q
def mD(g:D->D->Option D)(x y:R):M R:=bnd (rd x) λx=>bnd (rd y) λy=>bnd (opt (g x y)) λz=>ok (.d z)
theorem OpD.opI{F:Value->Value->Sem Value}{g:D->D->Option D}(h:OpD X F g):OpI X F (mD g):=by intro pins s σ H v u v' u' Q I rv ru q;obtain⟨μ,h0,x,y,R0,qx,qy,r,h',e,k⟩:=q;simp only[mD,zab,zac,zar] at e;obtain⟨dx,h1,e1,dy,h2,e2,z,h3,⟨e3,rfl⟩,rfl,rfl⟩:=e;obtain⟨rfl,zx⟩:=zbL R0 qx e1;obtain⟨rfl,zy⟩:=zbL R0 qy e2;exact h pins s σ H v u v' u' Q I rv ru ⟨μ,_,dx,dy,z,R0,zx,zy,e3,λμ' H' w st R1 qw=>k μ' H' w st R1 qw⟩
theorem ztu(h:IE X e f)(he:∀whole,isTrue e X.env whole=(do let v<-whole;Xq e.pos;holding [v] (truthy v))):IT' X e (λσ=>bnd (f σ) λr=>bnd (rd r) λd=>opt (tru d)):=by
 refine PT.imp (znV h he) λσ H Q q0=>?_;obtain⟨μ,h,env,R0,re,t,h',e,k⟩:=q0;simp only[zab,zar] at e;obtain⟨r,h1,e1,d,h2,e2,e3,rfl⟩:=e;refine⟨μ,h,env,R0,re,r,h1,e1,λμ1 H1 v s1 R1 q1=>?_⟩;obtain⟨rfl,z⟩:=zbL R1 q1 e2;refine⟨t,?_,k μ1 H1 t s1 R1 rfl⟩
 cases d with
 |non=>simp only[RdD,RepD] at z;subst z;simp only[tru,Z5] at e3;exact e3.symm|bl b=>simp only[RdD,RepD] at z;subst z;simp only[tru,Z5] at e3;exact e3.symm|int i=>simp only[RdD,RepD] at z;subst z;simp only[tru,Z5] at e3;exact e3.symm
 | str x=>
  simp only[RdD,RepD] at z;subst z;simp only[tru] at e3
  split at e3
  ·rename_i hf
   simp only[Z5] at e3
   refine⟨by rw[zaz];exact of_decide_eq_true hf,?_⟩
   rw[<-e3,zaz]
   cases x<;>simp
   exact OZz
  ·cases e3
 |tup xs=>
  simp only[RdD,RepD] at z;obtain⟨a,vs,rfl,q,zs⟩:=z;simp only[tru,Z5] at e3;refine .inr (.inl ⟨vs,q,?_⟩);rw[<-e3]
  have:=zs.length
  cases xs<;>cases vs<;>simp_all
 |lst xs=>
  obtain⟨a,vs,rfl,q,zs⟩:=z;simp only[tru,Z5] at e3;refine .inl ⟨vs,q,?_⟩;rw[<-e3]
  have:=zs.length
  cases xs<;>cases vs<;>simp_all
theorem zsn{op:CmpOp}{m:R->R->M R}(ho:OpI X (Zs op) m)(ha:IE X a f)(hb:IE X b g)(hm:W3 op b=false)(hbl:∀x y h r h',m x y h=some (r,h')->∃t,r=.d (.bl t)):
  IT' X (.Compare a [op] [b] pos) (λσ=>bnd (bnd (f σ) λx=>bnd (g σ) λy=>m x y) λr=>bnd (rd r) λd=>opt (tru d)):=by
 refine PT.imp (zsh ho ha hb hm) λσ H Q q0=>?_;obtain⟨μ,h,env,R0,re,t,h',e,k⟩:=q0;simp only[zab,zar] at e;obtain⟨r,h1,⟨x,h2,e1,y,h3,e2,e3⟩,d,h4,e4,e5,rfl⟩:=e;obtain⟨t',rfl⟩:=hbl _ _ _ _ _ e3;simp only[rd,zac] at e4;obtain⟨rfl,rfl⟩:=e4;simp only[tru,Z5] at e5;subst e5
 refine two (m:=m) ⟨μ,h,env,R0,re,.d (.bl t'),h1,by simp only[zab];exact⟨x,h2,e1,y,h3,e2,e3⟩,λμ1 H1 v s1 R1 q1=>?_⟩
 simp only[RepR,RepD] at q1;subst q1;exact⟨t',rfl,k μ1 H1 t' s1 R1 rfl⟩
theorem zp8{rest:List Expr}{tb:TT}(ha:IT' X a ft)(hb:PW X (.BoolOp .And (b::rest) pos) (tTv X.K gt)):PW X (.BoolOp .And (a::b::rest) pos) (tTv X.K λσ=>bnd (ft σ) λt=>if t then gt σ else ok false):=by
 intro whole pins s σ H Q I q;refine ztW ha hb whole pins s σ H Q I ?_;obtain⟨μ,h,env,R0,re,t,h',e,k⟩:=q;simp only[zab] at e;obtain⟨u,h1,e1,e2⟩:=e;refine⟨μ,h,env,R0,re,u,h1,e1,λμ1 H1 v s1 R1 hv=>?_⟩;subst hv
 cases u with|true=>rw[if_pos rfl] at e2;rw[if_pos rfl];exact⟨μ1,h1,env,R1,re.stp s1 R0,t,h',e2,λμ2 H2 v s2 R2 hv=>k μ2 H2 v (s1.trans s2) R2 hv⟩|false=>rw[if_neg (by decide)] at e2;rw[if_neg (by decide)];obtain⟨rfl,rfl⟩:=zac.mp e2;exact k μ1 H1 _ s1 R1 rfl
theorem ztV{rest:List Expr}(ha:IT' X a ft)(hb:PW X (.BoolOp .Or (b::rest) pos) (tTv X.K gt)):PW X (.BoolOp .Or (a::b::rest) pos) (tTv X.K λσ=>bnd (ft σ) λt=>if t then ok true else gt σ):=by
 intro whole pins s σ H Q I q;refine zu4 ha hb whole pins s σ H Q I ?_;obtain⟨μ,h,env,R0,re,t,h',e,k⟩:=q;simp only[zab] at e;obtain⟨u,h1,e1,e2⟩:=e;refine⟨μ,h,env,R0,re,u,h1,e1,λμ1 H1 v s1 R1 hv=>?_⟩;subst hv
 cases u with|false=>rw[if_neg (by decide)] at e2;rw[if_neg (by decide)];exact⟨μ1,h1,env,R1,re.stp s1 R0,t,h',e2,λμ2 H2 v s2 R2 hv=>k μ2 H2 v (s1.trans s2) R2 hv⟩|true=>rw[if_pos rfl] at e2;rw[if_pos rfl];obtain⟨rfl,rfl⟩:=zac.mp e2;exact k μ1 H1 _ s1 R1 rfl
theorem zsC(ha:IT' X a ft):IT' X (.UnaryOp .Not a pos) (λσ=>bnd (ft σ) λt=>ok (!t)):=by refine PT.imp (zsD ha) λσ H Q q0=>?_;obtain⟨μ,h,env,R0,re,t,h',e,k⟩:=q0;simp only[zab,zac] at e;obtain⟨u,h1,e1,rfl,rfl⟩:=e;refine⟨μ,h,env,R0,re,u,h1,e1,λμ1 H1 v s1 R1 hv=>?_⟩;subst hv;exact k μ1 H1 _ s1 R1 rfl
theorem zqo{rest:List Expr}(ha:IE X a f)(hb:IE X (.BoolOp .And (b::rest) pos) g):IE X (.BoolOp .And (a::b::rest) pos) (λσ=>bnd (f σ) λx=>match x with | .d (.bl c)=>if c then g σ else ok (.d (.bl false)) | _=>λ_=>none):=by
 refine PE.imp (ztd ha hb) λσ H Q q0=>?_;obtain⟨μ,h,env,R0,re,r,h',e,k⟩:=q0;simp only[zab] at e;obtain⟨x,h1,e1,e2⟩:=e;refine⟨μ,h,env,R0,re,x,h1,e1,λμ1 H1 v s1 R1 q1=>?_⟩
 cases x with
 |loc l=>cases e2
 | d d=>
  cases d with
  | bl c=>
   simp only[RepR,RepD] at q1;refine⟨c,q1,?_⟩
   cases c with|true=>simp only[if_true] at e2⊢;exact⟨μ1,h1,env,R1,re.stp s1 R0,r,h',e2,λμ2 H2 v s2 R2 hv=>k μ2 H2 v (s1.trans s2) R2 hv⟩|false=>simp only[Zz,if_false] at e2⊢;obtain⟨rfl,rfl⟩:=zac.mp e2;exact k μ1 H1 _ s1 R1 (by simp only[RepR,RepD])
  |_=>cases e2
theorem zti{rest:List Expr}(ha:IE X a f)(hb:IE X (.BoolOp .Or (b::rest) pos) g):IE X (.BoolOp .Or (a::b::rest) pos) (λσ=>bnd (f σ) λx=>match x with | .d (.bl c)=>if c then ok (.d (.bl true)) else g σ | _=>λ_=>none):=by
 refine PE.imp (zvM ha hb) λσ H Q q0=>?_;obtain⟨μ,h,env,R0,re,r,h',e,k⟩:=q0;simp only[zab] at e;obtain⟨x,h1,e1,e2⟩:=e;refine⟨μ,h,env,R0,re,x,h1,e1,λμ1 H1 v s1 R1 q1=>?_⟩
 cases x with
 |loc l=>cases e2
 | d d=>
  cases d with
  | bl c=>
   simp only[RepR,RepD] at q1;refine⟨c,q1,?_⟩
   cases c with|false=>simp only[Zz,if_false] at e2⊢;exact⟨μ1,h1,env,R1,re.stp s1 R0,r,h',e2,λμ2 H2 v s2 R2 hv=>k μ2 H2 v (s1.trans s2) R2 hv⟩|true=>simp only[if_true] at e2⊢;obtain⟨rfl,rfl⟩:=zac.mp e2;exact k μ1 H1 _ s1 R1 (by simp only[RepR,RepD])
  |_=>cases e2
theorem zrP{pins:List (Addr×Obj)}{d:D}{v:V}{u:Value}{b:Bool}{Q:Bool->Shared->Prop}{E:Value->Shared->Prop}(I:Inv X pins σ H s)(q:RdD X.K A0 H d v)(r:RelV v u)(e:tru d=some b)(k:∀tk,Q b {s with toks:=tk}):
  wpAny (model X.prog X.w) A (truthy u) Q E s:=by
 have hl:=zfA;have hs:sizeLine=16777216:=Yw
 cases d with
 |non=>
  simp only[RdD,RepD] at q;subst q;cases r
  simp only[tru,Z5] at e;subst e
  exact PyProof.Rows.truthy_none (k s.toks)
 |bl c=>
  simp only[RdD,RepD] at q;subst q;cases r
  simp only[tru,Z5] at e;subst e
  exact YN (k s.toks)
 |int i=>
  simp only[RdD,RepD] at q;subst q
  obtain⟨t,rfl⟩:=r
  simp only[tru,Z5] at e;subst e
  exact PySem.P.truthy_int (k s.toks)
 | str x=>
  simp only[RdD,RepD] at q;subst q
  obtain⟨t,rfl⟩:=r;simp only[tru] at e
  split at e
  ·rename_i hf
   simp only[Z5] at e;have hx:x.length<=big:=of_decide_eq_true hf;unfold big at hx
   refine PySem.P.truthy_str (by rw[zaz];omega) ?_
   have e2:(((zam x).length:Int) != 0)=b:=by
    rw[<-e,zaz]
    cases x<;>simp
    exact OZz
   rw[e2];exact k _
  ·cases e
 | tup xs=>
  simp only[RdD,RepD] at q;obtain⟨a,vs,rfl,q,zs⟩:=q;cases r;simp only[tru,Z5] at e;obtain⟨its,ri,pl,hz⟩:=I.tuple q;have hlen:=ri.length;have h1:=zs.length
  refine PyProof.Rows.truthy_tuple pl (by simp only[ZW];exact OZy hlen.symm h1.symm hz hs) ?_
  have e2:(!its.toArray.isEmpty)=b:=by
   rw[zcN ri,<-e];clear hlen ri pl q hz
   cases xs<;>cases vs<;>first | rfl | (simp at h1)
  rw[e2];exact k _
 | lst xs=>
  obtain⟨a,vs,rfl,q,zs⟩:=q;cases r;simp only[tru,Z5] at e;obtain⟨its,ri,pl,hz⟩:=I.list q;have hlen:=ri.length;have h1:=zs.length
  refine wpAny_truthy_list pl.isList (by simp only[ZW];exact OZy hlen.symm h1.symm hz hs) ?_
  have e2:(!its.toArray.isEmpty)=b:=by
   rw[zcN ri,<-e];clear hlen ri pl q hz
   cases xs<;>cases vs<;>first | rfl | (simp at h1)
  rw[e2];exact k _
theorem zsp(ha:IE X a f):IE X (.UnaryOp .Not a pos) (λσ=>bnd (f σ) λx=>bnd (rd x) λd=>bnd (opt (tru d)) λt=>ok (.d (.bl (!t)))):=by
 intro pins s σ H Q I q0;obtain⟨μ,h,env,R0,re,r,h',e,k⟩:=q0;simp only[zab,zar,zac] at e;obtain⟨x,h1,e1,d,h2,e2,t,h3,⟨e3,rfl⟩,rfl,rfl⟩:=e
 have z:=ha pins s σ H (λy H1=>∃A0 d,RdD X.K A0 H1 d y/\tru d=some t/\Q (.bl (!t)) H1) I ⟨μ,h,env,R0,re,x,h1,e1,λμ1 H1 v s1 R1 q1=>by
  obtain⟨rfl,z⟩:=zbL R1 q1 e2
  exact⟨_,d,z,e3,k μ1 H1 _ s1 R1 (by simp only[RepR,RepD])⟩⟩
 refine PyProof.Rows.UnaryOp_ (thn z λv s1 ⟨y,H1,I1,r1,A0,d',z1,z2,q1⟩=>PyProof.Rows.not_of ?_);exact zrP I1 z1 r1 z2 λtk=>⟨.bl (!t),H1,I1.tok _,rfl,q1⟩
theorem zt7(ha:IE X a f):IE X (.UnaryOp .USub a pos) (λσ=>bnd (f σ) λx=>match x with | .d (.int i)=>ok (.d (.int (-i))) | _=>λ_=>none):=by
 refine PE.imp (ztA zpG ha) λσ H Q q0=>?_;obtain⟨μ,h,env,R0,re,r,h',e,k⟩:=q0;simp only[zab] at e;obtain⟨x,h1,e1,e2⟩:=e;refine⟨μ,h,env,R0,re,x,h1,e1,λμ1 H1 v s1 R1 q1=>?_⟩
 cases x with
 |loc l=>cases e2
 | d d=>
  cases d with|int i=>simp only[RepR,RepD] at q1;obtain⟨rfl,rfl⟩:=zac.mp e2;exact⟨i,q1,k μ1 H1 _ s1 R1 (by simp only[RepR,RepD])⟩|_=>cases e2
theorem zuf(hc:IT' X c ft)(ha:IE X a f)(hb:IE X b g):IE X (.IfExp c a b pos) (λσ=>bnd (ft σ) λt=>if t then f σ else g σ):=by
 refine PE.imp (zpf hc ha hb) λσ H Q q0=>?_;obtain⟨μ,h,env,R0,re,r,h',e,k⟩:=q0;simp only[zab] at e;obtain⟨t,h1,e1,e2⟩:=e;refine⟨μ,h,env,R0,re,t,h1,e1,λμ1 H1 v s1 R1 hv=>?_⟩;subst hv
 cases t with|true=>simp only[if_true] at e2⊢;exact⟨μ1,h1,env,R1,re.stp s1 R0,r,h',e2,λμ2 H2 v s2 R2 hv=>k μ2 H2 v (s1.trans s2) R2 hv⟩|false=>simp only[Zz,if_false] at e2⊢;exact⟨μ1,h1,env,R1,re.stp s1 R0,r,h',e2,λμ2 H2 v s2 R2 hv=>k μ2 H2 v (s1.trans s2) R2 hv⟩
theorem ztL:IA X [] (λ_=>ok []):=by refine PA.imp zc2 λσ H Q q0=>?_;obtain⟨μ,h,env,R0,re,r,h',e,k⟩:=q0;obtain⟨rfl,rfl⟩:=zac.mp e;exact k μ H [] Stp.refl R0 .nil
theorem zqN{fs:IT.Env->M (List R)}(ha:IE X e f)(hr:IA X es fs)(hs:ZY (e::es) X.env=(false,eval e X.env)::ZY es X.env):IA X (e::es) (λσ=>bnd (f σ) λr=>bnd (fs σ) λrs=>ok (r::rs)):=by refine PA.imp (zbG ha hr hs) λσ H Q q0=>?_;obtain⟨μ,h,env,R0,re,r,h',e,k⟩:=q0;simp only[zab,zac] at e;obtain⟨x,h1,e1,xs,h2,e2,rfl,rfl⟩:=e;exact⟨μ,h,env,R0,re,x,h1,e1,λμ1 H1 v s1 R1 q1=>⟨μ1,h1,env,R1,re.stp s1 R0,xs,h2,e2,λμ2 H2 vs s2 R2 q2=>k μ2 H2 (v::vs) (s1.trans s2) R2 (.cons (q1.stp s2 R1) q2)⟩⟩
theorem ztn{n:Nat}{fs:IT.Env->M (List R)}(h:IA X es fs)(hl:es.length<=1000)(hf:∀σ h rs h',fs σ h=some (rs,h')->rs.length=es.length):IE X (.Tuple es n pos) (λσ=>bnd (fs σ) λrs=>bnd (fzs rs) λds=>ok (.d (.tup ds))):=by
 refine PE.imp (zqk h) λσ H Q q0=>?_;obtain⟨μ,h,env,R0,re,r,h',e,k⟩:=q0;simp only[zab,zac] at e;obtain⟨rs,h1,e1,ds,h2,e2,rfl,rfl⟩:=e;refine⟨μ,h,env,R0,re,rs,h1,e1,λμ1 H1 vs s1 R1 q1=>⟨?_,λp hp=>?_⟩⟩
 ·rw [<-q1.length,hf _ _ _ _ e1]
  have:(1000:Nat)<=sizeLine:=by decide
  omega
 ·obtain ⟨s2,R2,q2⟩:=zmb R1 q1 e2
  have s3:Stp μ1 h2 H1 μ1 h2 (upd H1 p (.tup vs)):=Stp.fresh hp;refine k μ1 _ (.ref p) ((s1.trans s2).trans s3) (R2.fresh hp) ?_;simp only[RepR,RepD];exact⟨p,vs,rfl,SqT.of zak,RepDs.stp s3 R2 q2⟩
theorem zq2{fs:IT.Env->M (List R)}(h:IA X es fs)(hl:es.length<=1000)(hf:∀σ h rs h',fs σ h=some (rs,h')->rs.length=es.length):IL X (.List es pos) (λσ=>bnd (fs σ) λrs=>fzs rs):=by
 refine PE.imp (ztN h) λσ H Q q0=>?_;obtain⟨μ,h,env,R0,re,ds,h',e,k⟩:=q0;simp only[zab] at e;obtain⟨rs,h1,e1,e2⟩:=e;refine⟨μ,h,env,R0,re,rs,h1,e1,λμ1 H1 vs s1 R1 q1=>⟨?_,λp hp=>?_⟩⟩
 ·rw [<-q1.length,hf _ _ _ _ e1]
  have:(1000:Nat)<=sizeLine:=by decide
  omega
 ·obtain ⟨s2,R2,q2⟩:=zmb R1 q1 e2
  exact k μ1 H1 p vs (s1.trans s2) R2 q2 hp
theorem zhU{fl:IT.Env->M (List D)}(m:Bool)(h:IL X e fl):IE X e (λσ=>bnd (fl σ) λxs=>if m then alloc xs else ok (.d (.lst xs))):=by
 refine PE.imp h λσ H Q q0=>?_;obtain⟨μ,h,env,R0,re,r,h',e,k⟩:=q0;simp only[zab] at e;obtain⟨xs,h1,e1,e2⟩:=e;refine⟨μ,h,env,R0,re,xs,h1,e1,λμ1 H1 a vs s1 R1 q1 ha=>?_⟩
 cases m with
 |true=>simp only[if_true,alloc,Z5,ZZ] at e2;obtain⟨rfl,rfl⟩:=e2;refine k (μ1++[a]) _ (.ref a) (s1.trans (Stp.alloc R1 ha)) (R1.alloc ha q1) ⟨a,?_,rfl⟩;rw[<-R1.len];simp
 |false=>
  simp only[Zz,if_false] at e2;obtain⟨rfl,rfl⟩:=zac.mp e2;have s2:Stp μ1 h1 H1 μ1 h1 (upd H1 a (.lst vs)):=Stp.fresh ha;refine k μ1 _ (.ref a) (s1.trans s2) (R1.fresh ha) ?_;simp only[RepR,RepD];refine⟨a,vs,rfl,.inl ⟨λl=>?_,.inl zak⟩,RepDs.stp s2 R1 q1⟩;obtain⟨ws,z,_⟩:=R1.liveAt l
  rw[ha] at z;cases z
end
end IT
namespace IT
open PySem PySem.Spec L2
section
variable {K:Z7}{A0:Addr->Prop}{H:Hp}
theorem zgQ(x y:List Nat):(zam x==zam y)=(x==y):=by
 by_cases e:x=y
 ·subst e;simp
 ·rw[beq_eq_false_iff_ne.mpr e,beq_eq_false_iff_ne.mpr (λz=>e (zfC z))]
structure zcI(X:Cx)(s:Shared)(H:Hp):Prop where
 lst:∀a vs,SqL X.K H a vs->∃its:List Value,Vals vs its/\s.heap.IsList a its.toArray
 tup:∀a vs,SqT X.K H a vs->∃its:List Value,Vals vs its/\s.heap.IsTuple a its.toArray
theorem zdS(I:Inv X pins σ H s):zcI X s H:=⟨λa vs q=>let ⟨its,r,p,_⟩:=I.list q;⟨its,r,p.isList⟩,λa vs q=>let ⟨its,r,p,_⟩:=I.tuple q;⟨its,r,p⟩⟩
theorem zdG{α:Type}(xs ys:List α)(f:α->α->Bool)(hl:xs.length=ys.length)(e:Nat->Bool)(he:∀(j:Nat) (x y:α),xs[j]?=some x->ys[j]?=some y->e j=f x y):
  (YO xs.length).all e=(xs.zip ys).all λp=>f p.1 p.2:=by
 rw[Bool.eq_iff_iff,Ye,Ye];constructor
 ·intro h p hp
  obtain⟨j,hj,e1⟩:=XH hp
  have hj':j<xs.length/\j<ys.length:=by simp at hj;exact OX8 hj hl
  have e2:p=(xs[j]'hj'.1,ys[j]'hj'.2):=by rw[<-e1,List.getElem_zip]
  rw[e2,<-he j _ _ (Z6 hj'.1) (Z6 hj'.2)];exact h j (by simpa using hj'.1)
 ·intro h j hj
  have hj1:j<xs.length:=by simpa using hj
  have hj2:j<ys.length:=by exact OZ9 hj1 hl.symm
  rw[he j _ _ (Z6 hj1) (Z6 hj2)];refine h (xs[j],ys[j]) ?_;rw[List.mem_iff_getElem]
  exact⟨j,by simp;exact OXW hj1 hl,by simp⟩
theorem zdZ:∀xs ys:List D,xs.length=ys.length->D.eqbs xs ys=(xs.zip ys).all λp=>p.1.eqb p.2| [],[],_=>rfl|x::xs,y::ys,h=>by simp only[D.eqbs,List.zip_cons_cons,List.all_cons];rw[zdZ xs ys (by simpa using h)]
theorem zdV:∀xs ys:List D,xs.length≠ys.length->D.eqbs xs ys=false| [],[],h=>absurd rfl h| [],_::_,_=>rfl|_::_,[],_=>rfl|x::xs,y::ys,h=>by simp only[D.eqbs];rw[zdV xs ys (by simpa using h),YF]
mutual
theorem D.eqb_refl:∀x:D,x.eqb x=true|.non=>rfl|.bl a=>by simp[D.eqb]|.int a=>by simp[D.eqb]|.str a=>by simp[D.eqb]|.tup a=>by simp only[D.eqb];exact D.eqbs_refl a|.lst a=>by simp only[D.eqb];exact D.eqbs_refl a
theorem D.eqbs_refl:∀x:List D,D.eqbs x x=true| []=>rfl|a::r=>by simp only[D.eqbs,Z8];exact⟨D.eqb_refl a,D.eqbs_refl r⟩
end
section
variable {X:Cx}{s:Shared}
theorem zm2(S:zcI X s H)(q:SqT X.K H a vs)(q':SqT X.K H a ws):vs=ws:=by
 obtain⟨its,ri,o,h1,_,_,h2⟩:=S.tup a vs q;obtain⟨its',ri',o',h1',_,_,h2'⟩:=S.tup a ws q'
 rw[h1] at h1';cases h1';rw[h2] at h2';cases h2'
 exact Vals.inj ri ri'
theorem zlJ(S:zcI X s H)(q:SqL X.K H a vs)(q':SqL X.K H a ws):vs=ws:=by
 obtain⟨its,ri,o,h1,_,_,h2⟩:=S.lst a vs q;obtain⟨its',ri',o',h1',_,_,h2'⟩:=S.lst a ws q'
 rw[h1] at h1';cases h1';rw[h2] at h2';cases h2'
 exact Vals.inj ri ri'
theorem zm9(S:zcI X s H)(q:SqL X.K H a vs)(q':SqT X.K H a ws):False:=by obtain⟨its,ri,p⟩:=S.lst a vs q;obtain⟨its',ri',p'⟩:=S.tup a ws q';exact SeqAt.ne_of_list_tuple p p' rfl
mutual
theorem RepD.inj(S:zcI X s H):∀(x y:D) (v:V),RepD X.K A0 H x v->RepD X.K A0 H y v->x=y
 |.non,y,v,qx,qy=>by
  simp only[RepD] at qx;subst qx
  cases y<;>simp_all [RepD]
 |.bl c,y,v,qx,qy=>by
  simp only[RepD] at qx;subst qx
  cases y<;>simp_all [RepD]
 |.int c,y,v,qx,qy=>by
  simp only[RepD] at qx;subst qx
  cases y<;>simp_all [RepD]
 |.str c,y,v,qx,qy=>by
  simp only[RepD] at qx;subst qx
  cases y with|str b=>simp only[RepD,V.str.injEq] at qy;rw[zfC qy]|_=>simp[RepD] at qy
 | .tup c,y,v,qx,qy=>by
  simp only[RepD] at qx;obtain⟨a,vs,rfl,q,zs⟩:=qx
  cases y with|tup b=>simp only[RepD] at qy;obtain⟨a',vs',e,q',zs'⟩:=qy;cases e;have e2:=zm2 S q q';subst e2;rw[RepDs.inj S c b vs zs zs']|lst b=>simp only[RepD] at qy;obtain⟨a',vs',e,q',zs'⟩:=qy;cases e;exact(zm9 S q'.sq q).elim|_=>simp[RepD] at qy
 | .lst c,y,v,qx,qy=>by
  simp only[RepD] at qx;obtain⟨a,vs,rfl,q,zs⟩:=qx
  cases y with|lst b=>simp only[RepD] at qy;obtain⟨a',vs',e,q',zs'⟩:=qy;cases e;have e2:=zlJ S q.sq q'.sq;subst e2;rw[RepDs.inj S c b vs zs zs']|tup b=>simp only[RepD] at qy;obtain⟨a',vs',e,q',zs'⟩:=qy;cases e;exact(zm9 S q.sq q').elim|_=>simp[RepD] at qy
theorem RepDs.inj(S:zcI X s H):∀(x y:List D) (v:List V),RepDs X.K A0 H x v->RepDs X.K A0 H y v->x=y
 | [],y,v,qx,qy=>by
  simp only[RepDs] at qx;subst qx
  cases y with|nil=>rfl|cons _ _=>have:=qy.length;simp at this
 | x::xs,y,v,qx,qy=>by
  simp only[RepDs] at qx;obtain⟨w,ws,rfl,q1,q2⟩:=qx
  cases y with|nil=>have:=qy.length;simp at this|cons y ys=>simp only[RepDs] at qy;obtain⟨w',ws',e,q1',q2'⟩:=qy;cases e;rw[RepD.inj S x y w q1 q1',RepDs.inj S xs ys ws q2 q2']
end
end
def za4(xs ys:List D)(j:Nat):Bool:=match xs[j]?,ys[j]? with|some x,some y=>x.eqb y|_,_=>false
section
variable {X:Cx}{s:Shared}
inductive Vw(X:Cx)(s:Shared)(H:Hp)(A0:Addr->Prop):D->Value->Prop where|non:Vw X s H A0 .non .none|bl (b:Bool):Vw X s H A0 (.bl b) (.bool b)|int (b:Int) (t:Tok):Vw X s H A0 (.int b) (.int b t)|str (b:List Nat) (t:Tok):Vw X s H A0 (.str b) (.str (zam b) t)|tup (c:List D) (a:Addr) (vs:List V) (its:List Value) (q:SqT X.K H a vs) (zs:RepDs X.K A0 H c vs) (ri:Vals vs its) (p:s.heap.IsTuple a its.toArray):Vw X s H A0 (.tup c) (.ref a)|lst (c:List D) (a:Addr) (vs:List V) (its:List Value) (q:SqL X.K H a vs) (zs:RepDs X.K A0 H c vs) (ri:Vals vs its) (p:s.heap.IsList a its.toArray):Vw X s H A0 (.lst c) (.ref a)
theorem vw(S:zcI X s H)(q:RdD X.K A0 H x v)(r:RelV v u):Vw X s H A0 x u:=by
 cases x with|non=>simp only[RdD,RepD] at q;subst q;cases r;exact .non|bl b=>simp only[RdD,RepD] at q;subst q;cases r;exact .bl b|int b=>simp only[RdD,RepD] at q;subst q;obtain⟨t,rfl⟩:=r;exact .int b t|str b=>simp only[RdD,RepD] at q;subst q;obtain⟨t,rfl⟩:=r;exact .str b t|tup c=>simp only[RdD,RepD] at q;obtain⟨a,vs,rfl,q,zs⟩:=q;cases r;obtain⟨its,ri,p⟩:=S.tup a vs q;exact .tup c a vs its q zs ri p|lst c=>obtain⟨a,vs,rfl,q,zs⟩:=q;cases r;obtain⟨its,ri,p⟩:=S.lst a vs q;exact .lst c a vs its q zs ri p
theorem zhy(zs:RepDs X.K A0 H c vs)(zt:RepDs X.K A0 H b ws)(ri:Vals vs us)(rj:Vals ws ts):((YO (min us.toArray.size ts.toArray.size)).all (za4 c b)&&us.toArray.size==ts.toArray.size)=D.eqbs c b:=by
 have l1:=zs.length;have l2:=zt.length;have l3:=ri.length;have l4:=rj.length
 by_cases hl:c.length=b.length
 ·have hm:min us.toArray.size ts.toArray.size=c.length:=by simp;exact OYv l3.symm l4.symm l1 hl l2.symm
  rw[hm,zdZ c b hl,zdG c b (λx y=>x.eqb y) hl (za4 c b) (λj x y h1 h2=>by simp[za4,h1,h2])]
  have:(us.toArray.size==ts.toArray.size)=true:=by simp;exact OZY l3.symm l4.symm l1.symm l2.symm hl
  rw[this,Yv]
 ·rw [zdV c b hl]
  have:(us.toArray.size==ts.toArray.size)=false:=by simp;exact OZX l3.symm l4.symm l1.symm l2.symm hl
  rw[this,YF]
mutual
theorem zpL(S:zcI X s H):∀(x y:D) (A:Around) (v w:V) (u t:Value),RdD X.K A0 H x v->RdD X.K A0 H y w->RelV v u->RelV w t->A.units+min x.dep y.dep<cLine->Yu A s u t (x.eqb y)
 |.non,y,A,v,w,_,_,qx,qy,ru,rt,hu=>by
  cases vw S qx ru with | non=>
  cases vw S qy rt with|non=>exact .same _|bl b=>exact .none_bool b|int b t=>exact .none_int b t|str b t=>exact .none_str _ t|tup _ _ _ _ _ _ _ p=>exact .none_tuple p (by exact OZ8 hu)|lst _ _ _ _ _ _ _ p=>exact .none_list p (by exact OZ8 hu)
 |.bl c,y,A,v,w,_,_,qx,qy,ru,rt,hu=>by
  cases vw S qx ru with | bl=>
  cases vw S qy rt with|non=>exact .bool_none c|bl b=>exact .bool_bool c b|int b t=>exact .bool_int c b t|str b t=>exact .bool_str c _ t|tup _ _ _ _ _ _ _ p=>exact .bool_tuple c p (by exact OZ8 hu)|lst _ _ _ _ _ _ _ p=>exact .bool_list c p (by exact OZ8 hu)
 |.int c,y,A,v,w,_,_,qx,qy,ru,rt,hu=>by
  cases vw S qx ru with | int _ u=>
  cases vw S qy rt with|non=>exact .int_none c u|bl b=>exact .int_bool c u b|int b t=>exact .int_int c u b t|str b t=>exact .int_str c u _ t|tup _ _ _ _ _ _ _ p=>exact .int_tuple c u p (by exact OZ8 hu)|lst _ _ _ _ _ _ _ p=>exact .int_list c u p (by exact OZ8 hu)
 |.str c,y,A,v,w,_,_,qx,qy,ru,rt,hu=>by
  cases vw S qx ru with | str _ u=>
  cases vw S qy rt with|non=>exact .str_none _ u|bl b=>exact .str_bool _ u b|int b t=>exact .str_int _ u b t|str b t=>have z:=Yu.str_str (A:=A) (s:=s) (zam c) u (zam b) t;rw[zgQ] at z;exact z|tup _ _ _ _ _ _ _ p=>exact .str_tuple _ u p (by exact OZ8 hu)|lst _ _ _ _ _ _ _ p=>exact .str_list _ u p (by exact OZ8 hu)
 | .tup c,y,A,v,w,_,_,qx,qy,ru,rt,hu=>by
  have hu0:A.units<cLine:=by exact OZ8 hu
  cases vw S qx ru with | tup _ a vs its q zs ri p=>
  cases vw S qy rt with
  |non=>exact .tuple_none p hu0|bl b=>exact .tuple_bool b p hu0|int b t=>exact .tuple_int b t p hu0|str b t=>exact .tuple_str _ t p hu0|lst _ _ _ _ _ _ _ p'=>exact .tuple_list p p' hu0
  | tup b a' vs' its' q' zs' ri' p'=>
   have key:=pairs_D S c b A.in1 vs vs' its its' zs zs' ri ri' (by
    show A.units+1+_<cLine;simp only[D.dep] at hu
    exact OZ5 hu)
   by_cases hab:a=a'
   ·subst hab
    have e2:=zm2 S q q';subst e2;have e1:=RepDs.inj S c b vs zs zs';subst e1;refine(show D.eqb (.tup c) (.tup c)=true from D.eqb_refl _)▸Yu.same _
   ·refine Yu.of_refs hab ?_
    have:=X4.tuples (e:=za4 c b) p p' hu0 (λj h1 h2=>by
     have:=key j (by simpa using h1) (by simpa using h2)
     simpa using this)
    rw[zhy zs zs' ri ri'] at this;exact this
 | .lst c,y,A,v,w,_,_,qx,qy,ru,rt,hu=>by
  have hu0:A.units<cLine:=by exact OZ8 hu
  cases vw S qx ru with | lst _ a vs its q zs ri p=>
  cases vw S qy rt with
  |non=>exact .list_none p hu0|bl b=>exact .list_bool b p hu0|int b t=>exact .list_int b t p hu0|str b t=>exact .list_str _ t p hu0|tup _ _ _ _ _ _ _ p'=>exact .list_tuple p p' hu0
  | lst b a' vs' its' q' zs' ri' p'=>
   have key:=pairs_D S c b A.in1 vs vs' its its' zs zs' ri ri' (by
    show A.units+1+_<cLine;simp only[D.dep] at hu
    exact OZ5 hu)
   by_cases hab:a=a'
   ·subst hab
    have e2:=zlJ S q q';subst e2;have e1:=RepDs.inj S c b vs zs zs';subst e1;refine(show D.eqb (.lst c) (.lst c)=true from D.eqb_refl _)▸Yu.same _
   ·refine Yu.of_refs hab ?_
    show X4 A s _ _ (D.eqbs c b);have l1:=zs.length;have l2:=zs'.length;have l3:=ri.length;have l4:=ri'.length
    by_cases hl:c.length=b.length
    ·have:=X4.lists (e:=za4 c b) p p' (by simp;exact OZY l3.symm l4.symm l1.symm l2.symm hl) hu0 (λj h1 h2=>by
      have:=key j (by simpa using h1) (by simpa using h2)
      simpa using this)
     have hm:its.toArray.size=c.length:=by simp;exact(OZR l1 l3.symm).symm
     rw[hm,zdG c b (λx y=>x.eqb y) hl (za4 c b) (λj x y h1 h2=>by simp[za4,h1,h2]),<-zdZ c b hl] at this;exact this
    ·rw [zdV c b hl]
     exact X4.lists_lengths p p' (by simp;exact OZX l3.symm l4.symm l1.symm l2.symm hl) hu0
theorem pairs_D(S:zcI X s H):∀(xs ys:List D) (A:Around) (vs ws:List V) (us ts:List Value),RepDs X.K A0 H xs vs->RepDs X.K A0 H ys ws->Vals vs us->Vals ws ts->A.units+min (D.deps xs) (D.deps ys)<cLine →
  ∀(j:Nat) (h1:j<us.length) (h2:j<ts.length),Yu A s us[j] ts[j] (za4 xs ys j)
 | [],ys,A,vs,ws,us,ts,qx,qy,ru,rt,hu,j,h1,h2=>by have l1:=qx.length;have l2:=ru.length;rw[XA] at l1;exact OZx l1 l2 h1 h2
 | x :: xs,ys,A,vs,ws,us,ts,qx,qy,ru,rt,hu,j,h1,h2=>by
  rw[RepDs] at qx;obtain⟨v,vs,rfl,qx1,qx2⟩:=qx
  cases ru with
  | cons ru1 ru2=>
   cases ys with
   |nil=>have l1:=qy.length;have l2:=rt.length;rw[XA] at l1;exact OZx l1 l2 h2 h1
   | cons y ys=>
    rw[RepDs] at qy;obtain⟨w,ws,rfl,qy1,qy2⟩:=qy
    cases rt with
    | cons rt1 rt2=>
     simp only[D.deps] at hu
     cases j with
     |zero=>simp only[List.getElem_cons_zero,za4,Xt];exact zpL S x y A v w _ _ (RdD.of qx1) (RdD.of qy1) ru1 rt1 (by exact OYR hu)
     |succ j=>
      simp only[List.getElem_cons_succ]
      have:=pairs_D S xs ys A vs ws _ _ qx2 qy2 ru2 rt2 (by exact OYQ hu) j (by simpa using h1) (by simpa using h2)
      simpa only[za4,YS] using this
end
end
end
end IT
namespace IT
open PySem PySem.Spec L2
open PySem.StrLaws Builtin.Str
theorem znS(x y:List Nat)(i:Nat):At (zam x) (zam y) (zam x).length i↔(i+y.length<=x.length/\y.isPrefixOf (x.drop i)=true):=by
 unfold At subAt;rw[zaz,zaz,beq_toList]
 have e:((zam x).cps.extract i (i+y.length)).toList=(x.drop i).take y.length:=by simp[zam,List.extract_eq_take_drop]
 rw[e,WF,List.prefix_iff_eq_take];simp only[zam,beq_iff_eq];constructor
 ·rintro⟨h1,h2⟩;exact⟨h1,h2.symm⟩
 ·rintro⟨h1,h2⟩;exact⟨h1,h2.symm⟩
theorem zjZ{y:List Nat}:∀{x:List Nat} {i:Nat},i<=x.length->y.isPrefixOf (x.drop i)=true->(∀k,k<i->¬y.isPrefixOf (x.drop k)=true)->fnd y x=some i
 | [],i,hi,h,hn=>by
  have e:i=0:=by simpa using hi
  subst e;simp only[fnd];rw[if_pos (by simpa using h)]
 |c::r,0,hi,h,hn=>by simp only[fnd];rw[if_pos (by simpa using h)]|c::r,i+1,hi,h,hn=>by simp only[fnd];rw[if_neg (by simpa using hn 0 (by omega)),zjZ (x:=r) (i:=i) (by simpa using hi) (by simpa using h) (λk hk=>by simpa using hn (k+1) (by exact OZw hk))]
theorem zjP{y:List Nat}:∀{x:List Nat},(∀k,k<=x.length->¬y.isPrefixOf (x.drop k)=true)->fnd y x=none| [],hn=>by simp only[fnd];rw[if_neg (by simpa using hn 0 (by simp))]|c::r,hn=>by simp only[fnd];rw[if_neg (by simpa using hn 0 (by simp)),zjP (x:=r) (λk hk=>by simpa using hn (k+1) (by simpa using hk))]
theorem zqv{x y:List Nat}(limit:Nat)(hl:1<=limit):(fnd y x=none/\occurrences (zam x) (zam y) 0 (zam x).length limit=[])\/∃i r,fnd y x=some i/\i+y.length<=x.length/\occurrences (zam x) (zam y) 0 (zam x).length limit=i::r:=by
 have fits:∀k,k<=x.length->y.isPrefixOf (x.drop k)=true->k+y.length<=x.length:=λk hk h=>by have h1:=(WF.mp h).length_le;simp at h1;omega
 rcases occ_head (zam x) (zam y) limit hl with⟨e,hn⟩|⟨i,r,e,h,hn⟩
 ·exact .inl ⟨zjP λk hk h=>hn k ((znS x y k).mpr ⟨fits k hk h,h⟩),e⟩
 ·have h':=(znS x y i).mp h
  refine .inr ⟨i,r,zjZ (by omega) h'.2 (λk hk q=>hn k hk ((znS x y k).mpr ⟨fits k (by omega) q,q⟩)),h'.1,e⟩
theorem zp2(x y:List Nat):(!(occurrences (zam x) (zam y) 0 (zam x).length 1).isEmpty)=(fnd y x).isSome:=by
 rcases zqv (x:=x) (y:=y) 1 (by omega) with⟨e1,e2⟩|⟨i,r,e1,_,e2⟩
 ·rw[e1,e2];rfl
 ·rw[e1,e2];rfl
theorem ssi(lo hi:Option Int)(n:Nat):strSliceIndices lo hi 1 n=(YO (HT.sIx n n hi-HT.sIx n 0 lo)).map λk=>HT.sIx n 0 lo+k:=by
 have clip:∀v:Int,(max 0 (min (if v<0 then v+(n:Int) else v) (n:Int)))=(((if v<0 then(v+(n:Int)).toNat else min v.toNat n):Nat):Int):=by
  intro v
  by_cases hv:v<0
  ·simp only[if_pos hv];exact OYT hv
  ·simp only[if_neg hv];exact OYS hv
 have rng:∀i j:Nat,sliceRange (i:Int) (j:Int) 1=(YO (j-i)).map λk=>i+k:=by
  intro i j;unfold sliceRange
  have h1:(1:Int)>0:=by omega
  simp only[h1,if_true,Int.ediv_one]
  have e:(if(i:Int)<(j:Int) then(j:Int)-i+1-1 else 0).toNat=j-i:=by split<;>omega
  rw[e];refine XG λk _=>?_;exact OYd
 unfold strSliceIndices
 have h1:(1:Int)>0:=by omega
 simp only[h1,if_true]
 cases lo with
 |none=>
  cases hi with|none=>exact rng 0 n|some u=>simp only[clip];exact rng 0 _
 |some l=>
  cases hi with|none=>simp only[clip];exact rng _ n|some u=>simp only[clip];exact rng _ _
theorem pick_run(x:List Nat)(i:Nat):∀k,i+k<=x.length->(((YO k).map λm=>i+m).filterMap λj=>x[j]?)=(x.drop i).take k
 |0,_=>by simp
 |k+1,h=>by
  rw[Wi,Zd,List.filterMap_append,pick_run x i k (by omega),List.take_succ]
  congr 1
  have hx:i+k<x.length:=by omega
  simp[Z6 hx]
theorem zmV(x:List Nat)(lo hi:Option Int):Txt.slice (zam x) lo hi=zam (cut x lo hi):=by
 have eI:∀n d o,sIx n d o=HT.sIx n d o:=λn d o=>by cases o<;>rfl
 unfold Txt.slice cut;rw[zaz,ssi,eI,eI];have h1:=HT.sIx_le x.length x.length (Z0 _) hi;have h2:=HT.sIx_le x.length 0 (X9 _) lo;generalize HT.sIx x.length x.length hi=j at *;generalize HT.sIx x.length 0 lo=i at *
 have e:((V3 (λk=>i+k) (YO (j-i))).filterMap λk=>(zam x).cps[k]?)=(x.drop i).take (j-i):=by
  have:=pick_run x i (j-i)
  by_cases hij:i<=j
  ·simpa[zam] using this (by omega)
  ·have z:j-i=0:=by omega
   rw[z];simp
 split
 ·rename_i hc
  have hl:j-i=x.length:=by simpa using hc
  rw[hl]
  by_cases hn:x.length=0
  ·have:x=[]:=List.length_eq_zero_iff.mp hn
   subst this;simp
  ·have:i=0:=by exact OXM hl h1 hn
   subst this;simp
 ·rw[e];rfl
end IT
namespace PySem
open Sem (wp)
open Builtin AutoSeq1
theorem ziP(l:Addr)(items:Array Value)(n:Nat)(dd:Option Addr)(sl:Array (Option Value))(b:Addr)(items2:Array Value)(n2:Nat)(dd2:Option Addr)(sl2:Array (Option Value))(hc0:items.size+items2.size<=sizeLine):
  Meets (YX.«list.__add__» ⟨[.ref l,.ref b],[]⟩) (λ_ R s=>s.heap.get? l=some {cls:=.type "list",dict:=dd,data:=.seq items n,slots:=sl}/\s.heap.get? b=some {cls:=.type "list",dict:=dd2,data:=.seq items2 n2,slots:=sl2}/\R (.ok (.ret (Zc s.heap.objs.size))) {s with heap:=s.heap.push {cls:=Value.type "list",data:=Data.seq (items++items2)}}):=
 .of_wp λprog w A R s h=>by obtain⟨hp,g,d,tk,os⟩:=s;obtain⟨hl,hb,h⟩:=h;have f1:=idx_int;have f2:=sub_tuple_tuple;have f3:=sub_list_list;have f4:=sub_tuple_list;have f5:=sub_list_tuple;wp_walk using Wl hl,Wl hb;exact⟨_,rfl,h⟩
end PySem
namespace IT
open PySem PySem.Spec L2
section
variable {X:Cx}
theorem znb:OpR X (Y4 .Add) (λx y H Q=>∃l b xs zs,x=.ref l/\y=.ref b/\SqL X.K H l xs/\SqL X.K H b zs/\xs.length+zs.length<=sizeLine/\∀p,H p=none->Q (.ref p) (upd H p (.lst (xs++zs)))):=by
 intro pins s σ H x y v u Q I rx ry h;obtain⟨l,b,xs,zs,rfl,rfl,hH,hB,hz,q⟩:=h;cases rx;cases ry;obtain⟨its,r,⟨o,n,e,hc,hd,hs⟩,_⟩:=I.list hH;obtain⟨its2,r2,⟨o2,n2,e2,hc2,hd2,hs2⟩,_⟩:=I.list hB;have hl:=r.length;have hl2:=r2.length;obtain⟨cls,dd,data,sl⟩:=o;obtain⟨cls2,dd2,data2,sl2⟩:=o2;simp only at hc hd hs hc2 hd2 hs2;subst hc hd hs hc2 hd2 hs2
 refine concat_meets ⟨_,e,rfl⟩ ⟨_,e2,rfl⟩ noFill_list_add seq_list_add F.slot_list_add F.entry_list_add (F.args_list_add_2 _ _) (ziP l its.toArray n none sl b its2.toArray n2 none sl2 (by rw[ZW,ZW];exact OZW hl.symm hl2.symm hz)) ⟨e,e2,?_⟩
 have ea:its.toArray++its2.toArray=(its++its2).toArray:=by simp
 rw[ea]
 exact⟨.ref _,_,I.lnew (t':=s.toks) (r.append r2) (by rw[Zu];omega),rfl,q _ I.fresh⟩
end
section
variable {A0:Addr->Prop}{H:Hp}{X:Cx}{s:Shared}
theorem zul(S:zcI X s H)(x y:D)(A:Around)(v w:V)(u t:Value)(qx:RdD X.K A0 H x v)(qy:RdD X.K A0 H y w)(ru:RelV v u)(rt:RelV w t)(hu:A.units+min x.dep y.dep<cLine):X4 A s u t (x.eqb y):=by
 have hu0:A.units<cLine:=by exact OZ8 hu
 cases vw S qx ru with
 |non=>
  cases vw S qy rt with|non=>exact .none_none|bl b=>exact .none_bool b|int b t=>exact .none_int b t|str b t=>exact .none_str _ t|tup _ _ _ _ _ _ _ p=>exact .none_tuple p hu0|lst _ _ _ _ _ _ _ p=>exact .none_list p hu0
 |bl c=>
  cases vw S qy rt with|non=>exact .bool_none c|bl b=>exact .bool_bool c b|int b t=>exact .bool_int c b t|str b t=>exact .bool_str c _ t|tup _ _ _ _ _ _ _ p=>exact .bool_tuple c p hu0|lst _ _ _ _ _ _ _ p=>exact .bool_list c p hu0
 |int c u=>
  cases vw S qy rt with|non=>exact .int_none c u|bl b=>exact .int_bool c u b|int b t=>exact .int_int c u b t|str b t=>exact .int_str c u _ t|tup _ _ _ _ _ _ _ p=>exact .int_tuple c u p hu0|lst _ _ _ _ _ _ _ p=>exact .int_list c u p hu0
 |str c u=>
  cases vw S qy rt with|non=>exact .str_none _ u|bl b=>exact .str_bool _ u b|int b t=>exact .str_int _ u b t|str b t=>have z:=X4.str_str (A:=A) (s:=s) (zam c) u (zam b) t;rw[zgQ] at z;exact z|tup _ _ _ _ _ _ _ p=>exact .str_tuple _ u p hu0|lst _ _ _ _ _ _ _ p=>exact .str_list _ u p hu0
 | tup c a vs its q zs ri p=>
  cases vw S qy rt with
  |non=>exact .tuple_none p hu0|bl b=>exact .tuple_bool b p hu0|int b t=>exact .tuple_int b t p hu0|str b t=>exact .tuple_str _ t p hu0|lst _ _ _ _ _ _ _ p'=>exact .tuple_list p p' hu0
  |tup b a' vs' its' q' zs' ri' p'=>
   have key:=pairs_D S c b A.in1 vs vs' its its' zs zs' ri ri' (by show A.units+1+_<cLine;simp only[D.dep] at hu;exact OZ5 hu)
   have:=X4.tuples (e:=za4 c b) p p' hu0 (λj h1 h2=>by have:=key j (by simpa using h1) (by simpa using h2);simpa using this)
   rw[zhy zs zs' ri ri'] at this;exact this
 | lst c a vs its q zs ri p=>
  cases vw S qy rt with
  |non=>exact .list_none p hu0|bl b=>exact .list_bool b p hu0|int b t=>exact .list_int b t p hu0|str b t=>exact .list_str _ t p hu0|tup _ _ _ _ _ _ _ p'=>exact .list_tuple p p' hu0
  | lst b a' vs' its' q' zs' ri' p'=>
   have key:=pairs_D S c b A.in1 vs vs' its its' zs zs' ri ri' (by show A.units+1+_<cLine;simp only[D.dep] at hu;exact OZ5 hu)
   have l1:=zs.length;have l2:=zs'.length;have l3:=ri.length;have l4:=ri'.length
   show X4 A s _ _ (D.eqbs c b)
   by_cases hl:c.length=b.length
   ·have:=X4.lists (e:=za4 c b) p p' (by simp;exact OZY l3.symm l4.symm l1.symm l2.symm hl) hu0 (λj h1 h2=>by have:=key j (by simpa using h1) (by simpa using h2);simpa using this)
    have hm:its.toArray.size=c.length:=by simp;exact(OZR l1 l3.symm).symm
    rw[hm,zdG c b (λx y=>x.eqb y) hl (za4 c b) (λj x y h1 h2=>by simp[za4,h1,h2]),<-zdZ c b hl] at this;exact this
   ·rw [zdV c b hl]
    exact X4.lists_lengths p p' (by simp;exact OZX l3.symm l4.symm l1.symm l2.symm hl) hu0
theorem zpz(S:zcI X s H)(x y:D)(A:Around)(v w:V)(u t:Value)(qx:RdD X.K A0 H x v)(qy:RdD X.K A0 H y w)(ru:RelV v u)(rt:RelV w t)(hu:A.units+min x.dep y.dep<cLine):Xk A s u t (!x.eqb y):=by
 have hu0:A.units<cLine:=by exact OZ8 hu
 cases vw S qx ru with
 |non=>
  cases vw S qy rt with|non=>exact .none_none|bl b=>exact .none_bool b|int b t=>exact .none_int b t|str b t=>exact .none_str _ t|tup _ _ _ _ _ _ _ p=>exact .none_tuple p hu0|lst _ _ _ _ _ _ _ p=>exact .none_list p hu0
 |bl c=>
  cases vw S qy rt with|non=>exact .bool_none c|bl b=>exact .bool_bool c b|int b t=>exact .bool_int c b t|str b t=>exact .bool_str c _ t|tup _ _ _ _ _ _ _ p=>exact .bool_tuple c p hu0|lst _ _ _ _ _ _ _ p=>exact .bool_list c p hu0
 |int c u=>
  cases vw S qy rt with|non=>exact .int_none c u|bl b=>exact .int_bool c u b|int b t=>exact .int_int c u b t|str b t=>exact .int_str c u _ t|tup _ _ _ _ _ _ _ p=>exact .int_tuple c u p hu0|lst _ _ _ _ _ _ _ p=>exact .int_list c u p hu0
 |str c u=>
  cases vw S qy rt with|non=>exact .str_none _ u|bl b=>exact .str_bool _ u b|int b t=>exact .str_int _ u b t|str b t=>have z:=Xk.str_str (A:=A) (s:=s) (zam c) u (zam b) t;rw[zgQ] at z;exact z|tup _ _ _ _ _ _ _ p=>exact .str_tuple _ u p hu0|lst _ _ _ _ _ _ _ p=>exact .str_list _ u p hu0
 | tup c a vs its q zs ri p=>
  cases vw S qy rt with
  |non=>exact .tuple_none p hu0|bl b=>exact .tuple_bool b p hu0|int b t=>exact .tuple_int b t p hu0|str b t=>exact .tuple_str _ t p hu0|lst _ _ _ _ _ _ _ p'=>exact .tuple_list p p' hu0
  |tup b a' vs' its' q' zs' ri' p'=>
   have key:=pairs_D S c b A.in1 vs vs' its its' zs zs' ri ri' (by show A.units+1+_<cLine;simp only[D.dep] at hu;exact OZ5 hu)
   have:=Xk.tuples (e:=za4 c b) p p' hu0 (λj h1 h2=>by have:=key j (by simpa using h1) (by simpa using h2);simpa using this)
   rw[zhy zs zs' ri ri'] at this;exact this
 | lst c a vs its q zs ri p=>
  cases vw S qy rt with
  |non=>exact .list_none p hu0|bl b=>exact .list_bool b p hu0|int b t=>exact .list_int b t p hu0|str b t=>exact .list_str _ t p hu0|tup _ _ _ _ _ _ _ p'=>exact .list_tuple p p' hu0
  | lst b a' vs' its' q' zs' ri' p'=>
   have key:=pairs_D S c b A.in1 vs vs' its its' zs zs' ri ri' (by show A.units+1+_<cLine;simp only[D.dep] at hu;exact OZ5 hu)
   have l1:=zs.length;have l2:=zs'.length;have l3:=ri.length;have l4:=ri'.length
   show Xk A s _ _ (!D.eqbs c b)
   by_cases hl:c.length=b.length
   ·have:=Xk.lists (e:=za4 c b) p p' (by simp;exact OZY l3.symm l4.symm l1.symm l2.symm hl) hu0 (λj h1 h2=>by have:=key j (by simpa using h1) (by simpa using h2);simpa using this)
    have hm:its.toArray.size=c.length:=by simp;exact(OZR l1 l3.symm).symm
    rw[hm,zdG c b (λx y=>x.eqb y) hl (za4 c b) (λj x y h1 h2=>by simp[za4,h1,h2]),<-zdZ c b hl] at this;exact this
   ·rw [zdV c b hl]
    exact Xk.lists_lengths p p' (by simp;exact OZX l3.symm l4.symm l1.symm l2.symm hl) hu0
end
section
variable {X:Cx}
theorem zo5:OpR X (Y4 .Add) (λx y H Q=>∃a b ys,x=.ref a/\y=.ref b/\SqT X.K H a []/\SqT X.K H b ys/\Q (.ref b) H):=by
 intro pins s σ H x y v u Q I rx ry h;obtain⟨a,b,ys,rfl,rfl,ha,hb,q⟩:=h
 cases rx;cases ry
 obtain⟨its,r1,p1,_⟩:=I.tuple ha;obtain⟨its2,r2,p2,_⟩:=I.tuple hb;have hi:its=[]:=r1.nil_iff.mpr rfl;subst hi;obtain⟨⟨cls,dd,data,sl⟩,ho,hc,n,hd⟩:=id p1;obtain⟨⟨cls2,dd2,data2,sl2⟩,ho2,hc2,n2,hd2⟩:=id p2;simp only at hc hd hc2 hd2;subst hc hd hc2 hd2;refine PySem.concat_meets ⟨_,ho,rfl⟩ ⟨_,ho2,rfl⟩ PySem.noFill_tuple_add PySem.seq_tuple_add Xm Xv (XF _ _) (PyProof.Rows.tuple_addW0 a b _ its2.toArray n n2 dd dd2 sl sl2 ?_) ⟨ho,ho2,?_⟩
 ·rfl
 ·exact⟨.ref b,H,I,rfl,q⟩
theorem zlE(h1:0<=i)(h2:0<=j):Xp i j=((i.toNat &&& j.toNat:Nat):Int):=by unfold Xp;rw[decide_eq_true h1,decide_eq_true h2]
theorem zn6(h1:0<=i)(h2:0<=j):Wx i j=((i.toNat ||| j.toNat:Nat):Int):=by unfold Wx Xp YX.bitNot;rw[decide_eq_false (show ¬0<=-i-1 by exact OZv h1),decide_eq_false (show ¬0<=-j-1 by exact OZv h2)];simp only;rw[show-(-i-1)-1=i by exact OZu,show-(-j-1)-1=j by exact OZu];exact OXV
theorem zoz:OpD X (Y4 .BitAnd) (bop .band):=by
 intro pins s σ H v u v' u' Q I rv ru q;obtain⟨μ,h,a,b,z,R0,qa,qb,e,k⟩:=q
 cases a with
 | int i=>
  cases b with
  | int j=>
   simp only[RdD,RepD] at qa qb
   (change (if _=true then _ else _)=some _ at e;simp only[Z8,decide_eq_true_eq] at e)
   split at e
   ·rename_i hf
    cases e
    exact ztz pins s σ H v u v' u' Q I rv ru ⟨i,j,qa,qb,by show Q (V.int (Xp i j)) H;rw[zlE hf.1 hf.2];exact k μ H _ Stp.refl R0 (by simp only[RepD])⟩
   ·cases e
  |_=>exact zaf e
 |_=>cases b<;>exact zaf e
theorem zrU:OpD X (Y4 .BitOr) (bop .bor):=by
 intro pins s σ H v u v' u' Q I rv ru q;obtain⟨μ,h,a,b,z,R0,qa,qb,e,k⟩:=q
 cases a with
 | int i=>
  cases b with
  | int j=>
   simp only[RdD,RepD] at qa qb
   (change (if _=true then _ else _)=some _ at e;simp only[Z8,decide_eq_true_eq] at e)
   split at e
   ·rename_i hf
    cases e
    exact zvn pins s σ H v u v' u' Q I rv ru ⟨i,j,qa,qb,by show Q (V.int (Wx i j)) H;rw[zn6 hf.1 hf.2];exact k μ H _ Stp.refl R0 (by simp only[RepD])⟩
   ·cases e
  |_=>exact zaf e
 |_=>cases b<;>exact zaf e
theorem zrz:OpD X (Y4 .Add) (bop .add):=by
 intro pins s σ H v u v' u' Q I rv ru q;obtain⟨μ,h,a,b,z,R0,qa,qb,e,k⟩:=q
 cases a with
 | int i=>
  cases b with|int j=>simp only[RdD,RepD] at qa qb;replace e:=ZU e;subst e;exact zum pins s σ H v u v' u' Q I rv ru ⟨i,j,qa,qb,k μ H _ Stp.refl R0 (by simp only[RepD])⟩|_=>exact zaf e
 | str x=>
  cases b with
  | str y=>
   simp only[RdD,RepD] at qa qb;change (if _=true then _ else _)=some _ at e
   split at e
   ·rename_i hf
    cases e
    exact zle pins s σ H v u v' u' Q I rv ru ⟨zam x,zam y,qa,qb,by rw[zaz,zaz];exact of_decide_eq_true hf,by rw[znt];exact k μ H _ Stp.refl R0 (by simp only[RepD])⟩
   ·cases e
  |_=>exact zaf e
 | tup xs=>
  cases b with
  | tup ys=>
   simp only[RdD,RepD] at qa qb;obtain⟨p,vs,rfl,q1,z1⟩:=qa;obtain⟨p',vs',rfl,q2,z2⟩:=qb;change (if _=true then _ else _)=some _ at e
   split at e
   ·rename_i hf
    cases e;have l1:=z1.length;have l2:=z2.length;have hlen:xs.length+ys.length<=sizeLine:=of_decide_eq_true hf
    by_cases hv:vs=[]
    ·subst hv
     have hx:xs=[]:=by cases xs with | nil=>rfl | cons _ _=>simp at l1
     subst hx
     exact zo5 pins s σ H _ _ v' u' Q I rv ru ⟨p,p',vs',rfl,rfl,q1,q2,k μ H _ Stp.refl R0 (by simp only[RepD];exact⟨p',vs',rfl,q2,z2⟩)⟩
    refine zq8 pins s σ H _ _ v' u' Q I rv ru ⟨p,p',vs,vs',rfl,rfl,q1,q2,hv,by exact OZW l1.symm l2.symm hlen,λhn=>?_,λ_ r hr=>?_⟩
    ·subst hn
     cases ys with
     |nil=>
      rw[Ze] at k
      exact k μ H _ Stp.refl R0 (by simp only[RepD];exact⟨p,vs,rfl,q1,z1⟩)
     |cons _ _=>simp at l2
    ·have s2:Stp μ h H μ h (upd H r (.tup (vs++vs'))):=Stp.fresh hr
     refine k μ _ (.ref r) s2 (R0.fresh hr) ?_;simp only[RepD];exact⟨r,vs++vs',rfl,SqT.of zak,RepDs.stp s2 R0 (z1.app z2)⟩
   ·cases e
  |_=>exact zaf e
 | lst xs=>
  cases b with
  | lst ys=>
   obtain⟨p,vs,rfl,q1,z1⟩:=qa;obtain⟨p',vs',rfl,q2,z2⟩:=qb;change (if _=true then _ else _)=some _ at e
   split at e
   ·rename_i hf
    cases e;have l1:=z1.length;have l2:=z2.length;have hlen:xs.length+ys.length<=sizeLine:=of_decide_eq_true hf;refine znb pins s σ H _ _ v' u' Q I rv ru ⟨p,p',vs,vs',rfl,rfl,q1,q2,by exact OZW l1.symm l2.symm hlen,λr hr=>?_⟩;have s2:Stp μ h H μ h (upd H r (.lst (vs++vs'))):=Stp.fresh hr;refine k μ _ (.ref r) s2 (R0.fresh hr) ?_;simp only[RepD];refine⟨r,vs++vs',rfl,.inl ⟨λl=>?_,.inl zak⟩,RepDs.stp s2 R0 (z1.app z2)⟩;obtain⟨ws,w,_⟩:=R0.liveAt l
    rw[hr] at w;cases w
   ·cases e
  |_=>exact zaf e
 |_=>cases b<;>exact zaf e
theorem zsi:OpD X (Y4 .Pow) (bop .pow):=by
 intro pins s σ H v u v' u' Q I rv ru q;obtain⟨μ,h,a,b,z,R0,qa,qb,e,k⟩:=q
 cases a with
 | int i=>
  cases b with
  | int j=>
   simp only[RdD,RepD] at qa qb;change (if _=true then _ else _)=some _ at e
   split at e
   ·rename_i hf
    simp only[Z8] at hf;cases e;exact zsY pins s σ H v u v' u' Q I rv ru ⟨i,j,qa,qb,⟨of_decide_eq_true hf.1.1,of_decide_eq_true hf.1.2,of_decide_eq_true hf.2⟩,k μ H _ Stp.refl R0 (by simp only[RepD])⟩
   ·cases e
  |_=>exact zaf e
 |_=>cases b<;>exact zaf e
theorem zrM:OpD X (Y4 .Sub) (bop .sub):=by
 intro pins s σ H v u v' u' Q I rv ru q;obtain⟨μ,h,a,b,z,R0,qa,qb,e,k⟩:=q
 cases a with
 | int i=>
  cases b with|int j=>simp only[RdD,RepD] at qa qb;replace e:=ZU e;subst e;exact ztB pins s σ H v u v' u' Q I rv ru ⟨i,j,qa,qb,k μ H _ Stp.refl R0 (by simp only[RepD])⟩|_=>exact zaf e
 |_=>cases b<;>exact zaf e
theorem zn2:OpD X (Y4 .FloorDiv) (bop .fdiv):=by
 intro pins s σ H v u v' u' Q I rv ru q;obtain⟨μ,h,a,b,z,R0,qa,qb,e,k⟩:=q
 cases a with
 | int i=>
  cases b with
  | int j=>
   simp only[RdD,RepD] at qa qb;change (if _=true then _ else _)=some _ at e
   split at e
   ·rename_i hf
    rw[Z8] at hf;cases e;have h0:(0:Int)<j:=of_decide_eq_true hf.1;have h1:j<1000000000000000000000000000000000000000000000000000000000000:=of_decide_eq_true hf.2;subst qa qb;obtain⟨t1,rfl⟩:=rv;obtain⟨t2,rfl⟩:=ru;refine PyProof.Rows.floordiv_int (by omega) ?_ (.inl (PyProof.noPylong_of_log2 ?_))
    ·have ef:i.fdiv j=i / j:=Int.fdiv_eq_ediv_of_nonneg i (by omega)
     rw[ef];exact⟨.int (i / j),H,I.tok _,⟨_,rfl⟩,k μ H _ Stp.refl R0 (by simp only[RepD])⟩
    ·have hj:j.natAbs<2^200:=by
      exact OXL h0 h1
     have hj0:j.natAbs≠0:=by exact OXK h0 h1
     have:=(Nat.log2_lt hj0).mpr hj
     omega
   ·cases e
  |_=>exact zaf e
 |_=>cases b<;>exact zaf e
theorem zrp:OpD X (Y4 .Mod) (bop .mod):=by
 intro pins s σ H v u v' u' Q I rv ru q;obtain⟨μ,h,a,b,z,R0,qa,qb,e,k⟩:=q
 cases a with
 | int i=>
  cases b with
  | int j=>
   simp only[RdD,RepD] at qa qb;change (if _=true then _ else _)=some _ at e
   split at e
   ·rename_i hf
    cases e;exact zsG pins s σ H v u v' u' Q I rv ru ⟨i,j,qa,qb,of_decide_eq_true hf,k μ H _ Stp.refl R0 (by simp only[RepD])⟩
   ·cases e
  |_=>exact zaf e
 |_=>cases b<;>exact zaf e
theorem zto(hu:X.A.units+64<cLine):OpD X (Zs .Eq) (cop .eq):=by
 intro pins s σ H v u v' u' Q I rv ru q;obtain⟨μ,h,a,b,z,R0,qa,qb,e,k⟩:=q
 (delta cop at e;(try dsimp only at e))
 split at e
 ·rename_i hf
  cases e;have hd:min a.dep b.dep<=60:=of_decide_eq_true hf;exact zul (zdS I) a b X.A v u v' u' qa qb rv ru (by exact OZt hd hu) X.prog X.w X.xe _ ⟨.bl _,H,I,rfl,k μ H _ Stp.refl R0 (by simp only[RepD])⟩
 ·cases e
theorem ztQ(hu:X.A.units+64<cLine):OpD X (Zs .NotEq) (cop .ne):=by
 intro pins s σ H v u v' u' Q I rv ru q;obtain⟨μ,h,a,b,z,R0,qa,qb,e,k⟩:=q
 (delta cop at e;(try dsimp only at e))
 split at e
 ·rename_i hf
  cases e;have hd:min a.dep b.dep<=60:=of_decide_eq_true hf;exact zpz (zdS I) a b X.A v u v' u' qa qb rv ru (by exact OZt hd hu) X.prog X.w X.xe _ ⟨.bl _,H,I,rfl,k μ H _ Stp.refl R0 (by simp only[RepD])⟩
 ·cases e
theorem zsz:OpD X (Zs .Lt) (cop .lt):=by
 intro pins s σ H v u v' u' Q I rv ru q;obtain⟨μ,h,a,b,z,R0,qa,qb,e,k⟩:=q
 cases a with
 | int i=>
  cases b with|int j=>simp only[RdD,RepD] at qa qb;replace e:=ZU e;subst e;exact zvG pins s σ H v u v' u' Q I rv ru ⟨i,j,qa,qb,k μ H _ Stp.refl R0 (by simp only[RepD])⟩|_=>exact zaf e
 |_=>cases b<;>exact zaf e
theorem ztk:OpD X (Zs .LtE) (cop .le):=by
 intro pins s σ H v u v' u' Q I rv ru q;obtain⟨μ,h,a,b,z,R0,qa,qb,e,k⟩:=q
 cases a with
 | int i=>
  cases b with|int j=>simp only[RdD,RepD] at qa qb;replace e:=ZU e;subst e;exact zuJ pins s σ H v u v' u' Q I rv ru ⟨i,j,qa,qb,k μ H _ Stp.refl R0 (by simp only[RepD])⟩|_=>exact zaf e
 |_=>cases b<;>exact zaf e
theorem zug:OpD X (Zs .Gt) (cop .gt):=by
 intro pins s σ H v u v' u' Q I rv ru q;obtain⟨μ,h,a,b,z,R0,qa,qb,e,k⟩:=q
 cases a with
 | int i=>
  cases b with|int j=>simp only[RdD,RepD] at qa qb;replace e:=ZU e;subst e;exact zvp pins s σ H v u v' u' Q I rv ru ⟨i,j,qa,qb,k μ H _ Stp.refl R0 (by simp only[RepD])⟩|_=>exact zaf e
 |_=>cases b<;>exact zaf e
theorem zsE:OpD X (Zs .GtE) (cop .ge):=by
 intro pins s σ H v u v' u' Q I rv ru q;obtain⟨μ,h,a,b,z,R0,qa,qb,e,k⟩:=q
 cases a with
 | int i=>
  cases b with|int j=>simp only[RdD,RepD] at qa qb;replace e:=ZU e;subst e;exact zuE pins s σ H v u v' u' Q I rv ru ⟨i,j,qa,qb,k μ H _ Stp.refl R0 (by simp only[RepD])⟩|_=>exact zaf e
 |_=>cases b<;>exact zaf e
theorem zkz(hu:X.A.units+64<cLine)(I:Inv X pins σ H s)(qa:RdD X.K (Live μ h) H a v)(rv:RelV v v')(hd:a.dep<=60)
  {xs:List D} {ws:List V} {its:List Value} (q:RepDs X.K (Live μ h) H xs ws) (r:Vals ws its):
  ∃f:Value->Bool,(∀y,y∈its.toArray->Yu X.A.in1 s y v' (f y))/\∀(j:Nat) (x:D) (y:Value),xs[j]?=some x->its[j]?=some y->f y=x.eqb a:=by
 have S:=zdS I
 classical
 have base:∀(y:Value) (x:D) (w:V),RepD X.K (Live μ h) H x w->RelV w y->Yu X.A.in1 s y v' (x.eqb a):=λy x w qx rx=>zpL S x a X.A.in1 w v y v' (RdD.of qx) qa rx rv (by show X.A.units+1+_<cLine;exact OYo hu hd)
 have at':∀(j:Nat) (y:Value),its[j]?=some y->∃x w,xs[j]?=some x/\RepD X.K (Live μ h) H x w/\RelV w y:=by
  intro j y hy;have hj:j<its.length:=(Z9.mp hy).1
  have hj2:j<ws.length:=by rw[r.length];exact hj
  obtain⟨x,hx,qx⟩:=q.get' (Z6 hj2);obtain⟨u,hu',ru⟩:=r.get (Z6 hj2);rw[hy] at hu';cases hu';exact⟨x,_,hx,qx,ru⟩
 refine⟨λy=>decide (∃(x:D) (w:V),RepD X.K (Live μ h) H x w/\RelV w y/\x.eqb a=true),λy hy=>?_,λj x y hx hy=>?_⟩
 ·obtain ⟨j,hj⟩:=List.getElem?_of_mem (show y∈its by simpa using hy)
  obtain⟨x,w,hx,qx,rx⟩:=at' j y hj;dsimp only
  by_cases hx':∃(x:D) (w:V),RepD X.K (Live μ h) H x w/\RelV w y/\x.eqb a=true
  ·rw [decide_eq_true hx']
   obtain⟨x',w',q',r',e'⟩:=hx';rw[<-e'];exact base y x' w' q' r'
  ·rw [decide_eq_false hx']
   cases ex:x.eqb a with|true=>exact absurd ⟨x,_,qx,rx,ex⟩ hx'|false=>rw[<-ex];exact base y x _ qx rx
 ·obtain ⟨x1,w,hx1,qx,rx⟩:=at' j y hy
  rw[hx] at hx1;cases hx1;dsimp only
  cases ex:x.eqb a with
  |true=>exact decide_eq_true ⟨x,w,qx,rx,ex⟩
  |false=>refine decide_eq_false λq_=>?_;obtain⟨x',w',q',r',e'⟩:=q_;have ew:=RelV.inj rx r';rw[RepD.inj S x x' w' (ew▸qx) q'] at ex;rw[ex] at e';cases e'
theorem zhp(hu:X.A.units+64<cLine)(I:Inv X pins σ H s)(qa:RdD X.K (Live μ h) H a v)(rv:RelV v v')(hd:a.dep<=60)
  {xs:List D} {ws:List V} {its:List Value} (q:RepDs X.K (Live μ h) H xs ws) (r:Vals ws its):
  ∃f:Value->Bool,(∀y,y∈its.toArray->Yu X.A.in1 s y v' (f y))/\its.toArray.any f=xs.any λy=>y.eqb a:=by
 obtain⟨f,f1,f2⟩:=zkz hu I qa rv hd q r;refine⟨f,f1,?_⟩;have l1:=q.length;have l2:=r.length
 have e:its.map f=xs.map λy=>y.eqb a:=List.ext_getElem? λj=>by
  rw[ZX,ZX]
  by_cases c:j<xs.length
  ·have c2:j<its.length:=by omega
   rw[Z6 c,Z6 c2];exact congrArg some (f2 j _ _ (Z6 c) (Z6 c2))
  ·rw[Y9 (by omega),Y9 (by omega)];rfl
 have:=congrArg (List.any · id) e
 simpa[WO] using this
theorem znU(hu:X.A.units+64<cLine):OpD X (Zs .In) (cop .isin):=by
 intro pins s σ H v u v' u' Q I rv ru q;obtain⟨μ,h,a,b,z,R0,qa,qb,e,k⟩:=q;have S:=zdS I
 (delta cop at e;(try dsimp only at e))
 cases b with
 | tup ys=>
  simp only[items] at e
  split at e
  ·rename_i hf
   cases e;simp only[RdD,RepD] at qb;obtain⟨p,vs,rfl,q1,z1⟩:=qb;cases ru;obtain⟨its,r1,p1⟩:=S.tup p vs q1;obtain⟨f,hf1,hf2⟩:=zhp hu I qa rv (of_decide_eq_true hf) z1 r1
   exact SeqAt.in_tupleAt f p1 hf1 ⟨.bl _,H,I,rfl,by rw[hf2];exact k μ H _ Stp.refl R0 (by simp only[RepD])⟩
  ·cases e
 | lst ys=>
  simp only[items] at e
  split at e
  ·rename_i hf
   cases e;obtain⟨p,vs,rfl,q1,z1⟩:=qb;cases ru;obtain⟨its,r1,p1⟩:=S.lst p vs q1;obtain⟨f,hf1,hf2⟩:=zhp hu I qa rv (of_decide_eq_true hf) z1 r1
   exact SeqAt.in_listAt f p1 hf1 ⟨.bl _,H,I,rfl,by rw[hf2];exact k μ H _ Stp.refl R0 (by simp only[RepD])⟩
  ·cases e
 | str x=>
  simp only[items] at e
  cases a with|str y=>cases e;simp only[RdD,RepD] at qa qb;subst qa qb;refine znL pins s σ H _ _ v' u' Q I rv ru ⟨zam y,zam x,rfl,rfl,?_⟩;rw[zp2];exact k μ H _ Stp.refl R0 (by simp only[RepD])|_=>cases e
 |_=>simp[items] at e
theorem zm4(hu:X.A.units+64<cLine):OpD X (Zs .NotIn) (cop .notin):=by
 intro pins s σ H v u v' u' Q I rv ru q;obtain⟨μ,h,a,b,z,R0,qa,qb,e,k⟩:=q;have S:=zdS I
 (delta cop at e;(try dsimp only at e))
 cases b with
 | tup ys=>
  simp only[items] at e
  split at e
  ·rename_i hf
   cases e;simp only[RdD,RepD] at qb;obtain⟨p,vs,rfl,q1,z1⟩:=qb;cases ru;obtain⟨its,r1,p1⟩:=S.tup p vs q1;obtain⟨f,hf1,hf2⟩:=zhp hu I qa rv (of_decide_eq_true hf) z1 r1
   exact SeqAt.notIn_tupleAt f p1 hf1 ⟨.bl _,H,I,rfl,by rw[hf2];exact k μ H _ Stp.refl R0 (by simp only[RepD])⟩
  ·cases e
 | lst ys=>
  simp only[items] at e
  split at e
  ·rename_i hf
   cases e;obtain⟨p,vs,rfl,q1,z1⟩:=qb;cases ru;obtain⟨its,r1,p1⟩:=S.lst p vs q1;obtain⟨f,hf1,hf2⟩:=zhp hu I qa rv (of_decide_eq_true hf) z1 r1
   exact SeqAt.notIn_listAt f p1 hf1 ⟨.bl _,H,I,rfl,by rw[hf2];exact k μ H _ Stp.refl R0 (by simp only[RepD])⟩
  ·cases e
 | str x=>
  simp only[items] at e
  cases a with|str y=>cases e;simp only[RdD,RepD] at qa qb;subst qa qb;refine zhF pins s σ H _ _ v' u' Q I rv ru ⟨zam y,zam x,rfl,rfl,?_⟩;rw[zp2];exact k μ H _ Stp.refl R0 (by simp only[RepD])|_=>cases e
 |_=>simp[items] at e
end
end IT
namespace PySem
open Sem (wp)
open Builtin
theorem zdo:fillsNumberSlot (.type "tuple") "mul"=pure false:=fillsNumberSlot_seq (id:="tuple.__mul__") (r:=some (.builtin "tuple.__rmul__")) XN.lookup (by decide +kernel) F.slot_tuple_rmul.lookup (by decide +kernel)
theorem zfV:seqRepeat? (.type "tuple")=pure (some (.builtin "tuple.__mul__")):=by unfold seqRepeat?;rw[seqSlot_of (T:="tuple") (name:="__mul__") (id:="tuple.__mul__") XN.lookup (by decide +kernel),seqSlot_of (T:="tuple") (name:="__rmul__") (id:="tuple.__rmul__") F.slot_tuple_rmul.lookup (by decide +kernel)];rfl
theorem zhn(a:Int)(t:Tok)(l:Addr)(items:Array Value)(n:Nat)(dd:Option Addr)(sl:Array (Option Value)):
  Meets (YX.«int.__rmul__» ⟨[.int a t,.ref l],[]⟩) (λ_ R s=>s.heap.get? l=some {cls:=.type "tuple",dict:=dd,data:=.seq items n,slots:=sl}/\R (.ok (.ret Value.notImplemented)) s):=
 .of_wp λprog w A R s h=>by obtain⟨hp,g,d,tk,os⟩:=s;obtain⟨hl,h⟩:=h;wp_walk;exact⟨_,rfl,h⟩
theorem zg4(t:Tok)(l:Addr)(items:Array Value)(n:Nat)(dd:Option Addr)(sl:Array (Option Value)):
  Meets (YX.«tuple.__mul__» ⟨[.ref l,.int 1 t],[]⟩) (λ_ R s=>s.heap.get? l=some {cls:=.type "tuple",dict:=dd,data:=.seq items n,slots:=sl}/\R (.ok (.ret (.ref l))) s):=
 .of_wp λprog w A R s h=>by obtain⟨hp,g,d,tk,os⟩:=s;obtain⟨hl,h⟩:=h;wp_walk;exact⟨_,rfl,h⟩
theorem zgF(t:Tok)(l:Addr)(items:Array Value)(n:Nat)(dd:Option Addr)(sl:Array (Option Value))(hc:items.isEmpty=false):
  Meets (YX.«tuple.__mul__» ⟨[.ref l,.int 0 t],[]⟩) (λ_ R s=>s.heap.get? l=some {cls:=.type "tuple",dict:=dd,data:=.seq items n,slots:=sl}/\R (.ok (.ret (.ref s.heap.objs.size))) {s with heap:=s.heap.push {cls:=.type "tuple",data:=.seq #[]}}):=
 .of_wp λprog w A R s h=>by obtain⟨hp,g,d,tk,os⟩:=s;obtain⟨hl,h⟩:=h;wp_walk;exact⟨_,rfl,h⟩
theorem zdg(items:Array Value):∀(m:Nat) (acc:Array Value),((ZO m items).foldl (·++·) acc).toList=acc.toList++(ZO m items.toList).flatten|0,acc=>by simp|m+1,acc=>by rw[YY,Wh,zdg items m,YY,YC,Array.toList_append,Zj]
theorem ziZ(items:Array Value)(m:Nat):((ZO m items).foldl (·++·) #[]).size=items.size*m:=by
 rw[<-Ym,zdg]
 induction m with|zero=>simp|succ m ih=>rw[YY,YC,<-Zj];simp only[Zu,List.nil_append] at ih⊢;rw[Ym,Nat.mul_succ];omega
theorem zhx(k:Int)(t:Tok)(l:Addr)(items:Array Value)(n:Nat)(dd:Option Addr)(sl:Array (Option Value))(hc:items.isEmpty=false)(h1:1<k)(h2:k<=16777216)(h3:items.size*k.toNat<=sizeLine):
  Meets (YX.«tuple.__mul__» ⟨[.ref l,.int k t],[]⟩) (λ_ R s=>s.heap.get? l=some {cls:=.type "tuple",dict:=dd,data:=.seq items n,slots:=sl}/\R (.ok (.ret (.ref s.heap.objs.size))) {s with heap:=s.heap.push {cls:=.type "tuple",data:=.seq ((ZO k.toNat items).foldl (·++·) #[])}}):=
 .of_wp λprog w A R s h=>by
  obtain⟨hp,g,d,tk,os⟩:=s;obtain⟨hl,h⟩:=h
  have hk:(items.size:Int)*k=((items.size*k.toNat:Nat):Int):=by rw[Int.natCast_mul,Zb (by omega)]
  rw[Yw] at h3
  have c1:(decide (k < -(2^63))||decide (k>=2^63))=false:=by simp;omega
  have c2:(items.isEmpty||k==1)=false:=by rw[hc];simp;omega
  have c3:(decide (k<=0)||items.isEmpty)=false:=by rw[hc];simp;omega
  have c4:¬((items.size:Int)*k>(2^63-1) / 8):=by rw[hk];exact OYY hk h3
  have c5:Tuple.tupleTooMany ((items.size:Int)*k)=false:=by rw[hk];unfold Tuple.tupleTooMany;rw[Yw];exact decide_eq_false (by exact OYU hk h3)
  wp_walk
  rw[if_neg (by rw[c1];decide)]
  wp_walk
  dsimp only
  rw[if_neg (by rw[c2];decide)]
  rw[if_neg (by rw[c3];decide)]
  rw[if_neg c4]
  rw[if_neg (by rw[c5];decide)]
  wp_walk
  rw[if_neg (by rw[ziZ,Yw];exact OYN hk h3)]
  wp_walk
  exact⟨_,rfl,h⟩
end PySem
namespace IT
open PySem PySem.Spec L2
section
variable {X:Cx}
theorem Vals.rep(r:Vals xs us):∀m:Nat,Vals (ZO m xs).flatten (ZO m us).flatten|0=>.nil|m+1=>by rw[YY,YY,YC,YC];exact r.append (Vals.rep r m)
theorem RepDs.rep(q:RepDs K A H xs vs):∀m:Nat,RepDs K A H (ZO m xs).flatten (ZO m vs).flatten|0=>.nil|m+1=>by rw[YY,YY,YC,YC];exact q.app (RepDs.rep q m)
theorem zmh{α:Type}(xs:List α):∀m:Nat,(ZO m xs).flatten.length=xs.length*m|0=>by simp|m+1=>by rw[YY,YC,Zu,zmh xs m,Nat.mul_succ,Nat.add_comm]
theorem ziU:OpR X (Y4 .Mult) (λx y H Q=>∃p k xs,x=.ref p/\y=.int k/\SqT X.K H p xs/\xs≠[]/\((k=1/\Q (.ref p) H)\/(k=0/\∀r,H r=none->Q (.ref r) (upd H r (.tup [])))\/
  (1<k/\k<=16777216/\xs.length*k.toNat<=sizeLine/\∀r,H r=none->Q (.ref r) (upd H r (.tup (ZO k.toNat xs).flatten))))):=by
 intro pins s σ H x y v u Q I rx ry q;obtain⟨p,k,xs,rfl,rfl,hq,hn,q⟩:=q;cases rx;obtain⟨t,rfl⟩:=ry;obtain⟨its,r,pt,hz⟩:=I.tuple hq;have hl:=r.length;obtain⟨⟨cls,dd,data,sl⟩,ho,hc,n,hd⟩:=id pt;simp only at hc hd;subst hc hd
 have hne:its.toArray.isEmpty=false:=by
  cases its with
  |nil=>cases xs with
   |nil=>exact absurd rfl hn|cons _ _=>simp at hl
  |cons _ _=>simp
 refine wpAny_binaryOp_repeat_ref (T:="tuple") (U:="int") (by decide) ⟨_,ho,rfl⟩ (λs'=>typeIs_int s' k t) zdo F.fills_int_mul F.slot_int_rmul zfV F.slot_int_index.lookup
  (X5 F.slot_int_rmul (typeIs_int s k t) F.entry_int_rmul (F.args_int_rmul_2 _ _) (zhn k t p its.toArray n dd sl)
   ⟨ho,rfl,⟨_,ho,rfl⟩,?_⟩)
 rcases q with⟨rfl,q⟩|⟨rfl,q⟩|⟨k1,k2,k3,q⟩
 ·exact X5 XN ⟨_,ho,rfl⟩ Wy (WE _ _) (zg4 t p its.toArray n dd sl) ⟨ho,⟨.ref p,H,I,rfl,q⟩⟩
 ·refine X5 XN ⟨_,ho,rfl⟩ Wy (WE _ _) (zgF t p its.toArray n dd sl hne) ⟨ho,?_⟩
  have hf:H s.heap.objs.size=none:=I.hok.fresh (Z0 _);refine⟨.ref s.heap.objs.size,upd H s.heap.objs.size (.tup []),I.laid (t':=s.toks) (λb u e=>Z2 _ e) (Z0 _) ?_,rfl,q _ hf⟩;exact⟨X9 _,[],.nil,zdD.new _ _⟩
 ·refine X5 XN ⟨_,ho,rfl⟩ Wy (WE _ _) (zhx k t p its.toArray n dd sl hne k1 k2 (by rw[ZW,<-hl];exact k3)) ⟨ho,?_⟩
  have hf:H s.heap.objs.size=none:=I.hok.fresh (Z0 _)
  have e:(ZO k.toNat its.toArray).foldl (·++·) #[]=((ZO k.toNat its).flatten).toArray:=by apply Array.ext';rw[zdg];simp
  rw[e];refine⟨.ref s.heap.objs.size,upd H s.heap.objs.size (.tup (ZO k.toNat xs).flatten),I.laid (t':=s.toks) (λb u e=>Z2 _ e) (Z0 _) ?_,rfl,q _ hf⟩
  exact⟨by rw[zmh];exact k3,_,Vals.rep r _,zdD.new _ _⟩
theorem zrY:OpD X (Y4 .Mult) (bop .mul):=by
 intro pins s σ H v u v' u' Q I rv ru q;obtain⟨μ,h,a,b,z,R0,qa,qb,e,k⟩:=q
 cases a with
 | int i=>
  cases b with
  | int j=>
   simp only[RdD,RepD] at qa qb;change (if _=true then _ else _)=some _ at e
   split at e
   ·rename_i hf
    cases e;refine zsq pins s σ H v u v' u' Q I rv ru ⟨i,j,qa,qb,?_,k μ H _ Stp.refl R0 (by simp only[RepD])⟩;rw[YK] at hf
    rcases hf with hf | hf
    ·exact .inl (zfY.mp hf)
    ·exact .inr (zfY.mp hf)
   ·cases e
  |_=>exact zaf e
 | tup xs=>
  cases b with
  | int j=>
   simp only[RdD,RepD] at qa qb;obtain⟨p,vs,rfl,q1,z1⟩:=qa;have l1:=z1.length;change (if _=true then _ else _)=some _ at e
   split at e
   ·cases e
   ·rename_i hne
    cases e;simp only[YK,Zy,not_or,decide_eq_true_eq] at hne;obtain⟨⟨⟨n1,n2⟩,n3⟩,n4⟩:=hne
    have n4:fit (xs.length*j.toNat)=true:=by simpa using n4
    have n4:xs.length*j.toNat<=sizeLine:=of_decide_eq_true n4
    have hn:vs≠[]:=by
     rintro rfl
     cases xs with|nil=>simp at n1|cons _ _=>simp at l1
    by_cases h0:j=0
    ·subst h0
     refine ziU pins s σ H _ u v' u' Q I rv ru ⟨p,0,vs,rfl,qb,q1,hn,.inr (.inl ⟨rfl,λr hr=>?_⟩)⟩;have s2:Stp μ h H μ h (upd H r (.tup [])):=Stp.fresh hr;refine k μ _ (.ref r) s2 (R0.fresh hr) ?_;simp only[RepD];exact⟨r,[],rfl,SqT.of zak,.nil⟩
    ·by_cases h1:j=1
     ·subst h1
      refine ziU pins s σ H _ u v' u' Q I rv ru ⟨p,1,vs,rfl,qb,q1,hn,.inl ⟨rfl,k μ H _ Stp.refl R0 ?_⟩⟩;simp only[RepD];rw[show(ZO (1:Int).toNat xs).flatten=xs from by simp];exact⟨p,vs,rfl,q1,z1⟩
     ·refine ziU pins s σ H _ u v' u' Q I rv ru ⟨p,j,vs,rfl,qb,q1,hn,.inr (.inr ⟨by omega,by omega,by rw[<-l1];exact n4,λr hr=>?_⟩)⟩
      have s2:Stp μ h H μ h (upd H r (.tup (ZO j.toNat vs).flatten)):=Stp.fresh hr;refine k μ _ (.ref r) s2 (R0.fresh hr) ?_;simp only[RepD];exact⟨r,_,rfl,SqT.of zak,RepDs.stp s2 R0 (RepDs.rep z1 _)⟩
  |_=>exact zaf e
 | str x=>
  cases b with
  | int j=>
   simp only[RdD,RepD] at qa qb;subst qa qb;obtain⟨t1,rfl⟩:=rv;obtain⟨t2,rfl⟩:=ru;change (if decide (j=0)=true then some (D.str []) else if decide (j=1)=true then some (D.str x) else none)=some _ at e
   by_cases h0:j=0
   ·subst h0
    cases e;refine PySem.SB.mul ⟨by decide,λz=>absurd (by decide) z,λz=>absurd (by decide) z⟩ λt' k'=>?_;exact⟨.str (zam []),H,I.tok k',⟨t',rfl⟩,k μ H _ Stp.refl R0 (by simp only[RepD])⟩
   ·rw [if_neg (by simpa using h0)] at e
    by_cases h1:j=1
    ·subst h1
     cases e;refine PySem.SB.mul ⟨by decide,λ_ z=>absurd z (by simp),λ_ z=>absurd z (by simp)⟩ λt' k'=>?_;exact⟨.str (zam x),H,I.tok k',⟨t',rfl⟩,k μ H _ Stp.refl R0 (by simp only[RepD])⟩
    ·rw [if_neg (by simpa using h1)] at e
     cases e
  |_=>exact zaf e
 |_=>cases b<;>exact zaf e
theorem zkC(q:RdD K A0 H a v):decide (v=.non)=zay a:=by
 cases a with|non=>simp only[RdD,RepD] at q;subst q;rfl|bl b=>simp only[RdD,RepD] at q;subst q;rfl|int b=>simp only[RdD,RepD] at q;subst q;rfl|str b=>simp only[RdD,RepD] at q;subst q;rfl|tup b=>simp only[RdD,RepD] at q;obtain⟨p,vs,rfl,_⟩:=q;rfl|lst b=>obtain⟨p,vs,rfl,_⟩:=q;rfl
theorem zrT:OpD X (Zs .Is) (cop .isN):=by
 intro pins s σ H v u v' u' Q I rv ru q;obtain⟨μ,h,a,b,z,R0,qa,qb,e,k⟩:=q
 cases b with
 |non=>
  simp only[RdD,RepD] at qb;replace e:=ZU e;subst e
  exact ztO pins s σ H v u v' u' Q I rv ru ⟨qb,by rw[zkC qa];exact k μ H _ Stp.refl R0 (by simp only[RepD])⟩
 | bl c=>
  cases a with|bl d=>simp only[RdD,RepD] at qa qb;replace e:=ZU e;subst e qa qb;have e1:v'=W9 d:=rv;have e2:u'=W9 c:=ru;subst e1 e2;exact PyProof.Rows.is_bool ⟨.bl (d==c),H,I,rfl,k μ H _ Stp.refl R0 (by simp only[RepD])⟩|_=>exact zaf e
 |_=>cases a<;>exact zaf e
theorem zlb:OpD X (Zs .IsNot) (cop .isnotN):=by
 intro pins s σ H v u v' u' Q I rv ru q;obtain⟨μ,h,a,b,z,R0,qa,qb,e,k⟩:=q
 cases b with
 |non=>
  simp only[RdD,RepD] at qb;replace e:=ZU e;subst e
  exact zrI pins s σ H v u v' u' Q I rv ru ⟨qb,by rw[zkC qa];exact k μ H _ Stp.refl R0 (by simp only[RepD])⟩
 | bl c=>
  cases a with|bl d=>simp only[RdD,RepD] at qa qb;replace e:=ZU e;subst e qa qb;have e1:v'=W9 d:=rv;have e2:u'=W9 c:=ru;subst e1 e2;exact PyProof.Rows.isnot_bool ⟨.bl (d != c),H,I,rfl,k μ H _ Stp.refl R0 (by simp only[RepD])⟩|_=>exact zaf e
 |_=>cases a<;>exact zaf e
theorem zko{α:Type}{xs:List α}{i:Int}{x:α}(e:at' xs i=some x):∃j,ixN xs.length i=some j/\xs[j]?=some x:=by
 unfold at' at e
 cases q:ixn xs.length i with|none=>rw[q] at e;cases e|some j=>rw[q] at e;exact⟨j,q,e⟩
theorem ix':IxR X (λv u H Q=>∃μ h a b z,Rep X.K μ h H/\RdD X.K (Live μ h) H a v/\RdD X.K (Live μ h) H b u/\idxD a b=some z/\∀μ' H' w,Stp μ h H μ' h H'->Rep X.K μ' h H'->RepD X.K (Live μ' h) H' z w->Q w H'):=by
 intro value slice pins s σ H v u v' u' Q I rv ru q hs;obtain⟨μ,h,a,b,z,R0,qa,qb,e,k⟩:=q
 cases a with
 | tup xs=>
  cases b with|int i=>simp only[RdD,RepD] at qa qb;obtain⟨p,vs,rfl,q1,z1⟩:=qa;obtain⟨j,e1,e2⟩:=zko (show at' xs i=some z from e);obtain⟨w,e3,qw⟩:=z1.get e2;refine zsP value slice pins s σ H _ u v' u' Q I rv ru ⟨p,vs,i,w,rfl,qb,q1,?_,k μ H w Stp.refl R0 qw⟩ hs;unfold atI;rw[<-z1.length,e1];exact e3|_=>exact zaf e
 | lst xs=>
  cases b with|int i=>simp only[RdD,RepD] at qb;obtain⟨p,vs,rfl,q1,z1⟩:=qa;obtain⟨j,e1,e2⟩:=zko (show at' xs i=some z from e);obtain⟨w,e3,qw⟩:=z1.get e2;refine znM value slice pins s σ H _ u v' u' Q I rv ru ⟨p,vs,i,w,rfl,qb,q1,?_,k μ H w Stp.refl R0 qw⟩ hs;unfold atI;rw[<-z1.length,e1];exact e3|_=>exact zaf e
 | str x=>
  cases b with
  | int i=>
   simp only[RdD,RepD] at qa qb
   (delta idxD at e;(try dsimp only at e))
   split at e
   ·rename_i hf
    cases ec:at' x i with
    |none=>rw[ec] at e;cases e
    |some c=>
     rw[ec] at e;cases e;obtain⟨j,e1,e2⟩:=zko ec
     refine ztm value slice pins s σ H _ u v' u' Q I rv ru ⟨zam x,i,c,qa,qb,by rw[zaz];exact of_decide_eq_true hf,?_,k μ H _ Stp.refl R0 (by simp only[RepD];rfl)⟩ hs
     show atI x i=some c;unfold atI;rw[e1];exact e2
   ·cases e
  |_=>exact zaf e
 |_=>exact zaf e
theorem zs5(ha:IE X a f)(hb:IE X b g)(hs:zem b):IE X (.Subscript a b pos) (λσ=>bnd (f σ) λx=>bnd (g σ) λy=>mD idxD x y):=by refine PE.imp (zps ix' ha hb hs) λσ H Q q=>?_;obtain⟨μ,h,env,R0,re,r,h',e,k⟩:=q;simp only[mD,zab,zac,zar] at e;obtain⟨x,h1,e1,y,h2,e2,dx,h3,e3,dy,h4,e4,z,h5,⟨e5,rfl⟩,rfl,rfl⟩:=e;refine⟨μ,h,env,R0,re,x,h1,e1,λμ1 H1 v s1 R1 q1=>⟨μ1,h1,env,R1,re.stp s1 R0,y,h2,e2,λμ2 H2 u s2 R2 q2=>?_⟩⟩;obtain⟨rfl,zx⟩:=zbL R2 (q1.stp s2 R1) e3;obtain⟨rfl,zy⟩:=zbL R2 q2 e4;exact⟨μ2,_,dx,dy,z,R2,zx,zy,e5,λμ3 H3 w s3 R3 q3=>k μ3 H3 w ((s1.trans s2).trans s3) R3 q3⟩
end
end IT
namespace HT
open PySem PyProof.Rows
section
variable {prog:Zx}{w:World}{A:Around}{E:Value->Shared->Prop}{s:Shared}
theorem getItem_tuple_whole{lo hi:Option Int}(ht:IsTup s.heap t items)(hs:s.heap.IsSliceOf sl vl vu .none)(pl:IsPart vl lo)(pu:IsPart vu hi)
  (hw:sIx items.size 0 lo=0/\sIx items.size items.size hi=items.size) (h:Q (.ref t) s):wpAny (model prog w) A (Wc (.ref t) (.ref sl)) Q E s:=by
 obtain⟨os,hos,hcs,hds⟩:=id hs;have hTs:s.TypeIs (.ref sl) "slice":=⟨os,hos,hcs⟩;unfold Wc
 try with_reducible refine XX ?_
 first | refine Z1 (ZN ?_) | skip
 refine Z1 (wpAny_sequenceKey ht.typeIs (by decide) ?_)
 refine Z1 (wpAny_callSpecial?_slot (name:=Str.ofString "__getitem__") ht.typeIs Zi
  (wpAny_call_entry Zi ht.typeIs entry_tuple_getitem ?_ (args_tuple_getitem _ _)))
 show wpAny _ _ (WG (.ref t) >>= _) _ _ s;refine Z1 (tupleItemsOf_ ht ?_);refine Z1 (WP hTs ?_);rw[if_pos (by decide)];refine Z1 (zcm hs pl pu ?_)
 have hyes:(((sIx items.size 0 lo:Nat):Int)==0&&(1:Int)==1&&(sIx items.size items.size hi-sIx items.size 0 lo)==items.size)=true:=by rw[hw.1,hw.2];simp
 show wpAny _ _ (if(((sIx items.size 0 lo:Nat):Int)==0&&(1:Int)==1&&(sIx items.size items.size hi-sIx items.size 0 lo)==items.size)=true then _ else _) _ _ s;rw[if_pos hyes];unfold YX.Tuple.tupleIsExact;refine Z1 (Z1 (WP ht.typeIs (ZN ?_)));rw[if_pos (by decide)]
 first|exact Z1 (V6 (ZN ⟨_,rfl,ZN h⟩))|exact Z1 (V6 (Z1 (ZN (ZN ⟨_,rfl,ZN h⟩))))|exact Z1 (V6 (Z1 (ZN ⟨_,rfl,ZN h⟩)))
end
end HT
namespace IT
open PySem PySem.Spec L2
section
variable {X:Cx}
theorem zqC:SlR X (λx lo hi H Q=>∃a xs,x=.ref a/\SqT X.K H a xs/\(HT.sIx xs.length 0 lo=0/\HT.sIx xs.length xs.length hi=xs.length)/\Q (.ref a) H):=by
 intro pins s σ H x v vl vu lo hi sl Q I rx hs pl pu h;obtain⟨a,xs,rfl,hx,hw,q⟩:=h;cases rx;obtain⟨its,r,ht,hz⟩:=I.tuple hx
 have hlen:its.toArray.size=xs.length:=by rw[ZW];exact r.length.symm
 refine⟨"tuple",_,Zi.lookup,ht.typeIs,?_⟩
 exact HT.getItem_tuple_whole ht hs pl pu (by rw[hlen];exact hw) ⟨.ref a,H,I,rfl,q⟩
theorem zj8(n d:Nat)(o:Option Int):sIx n d o=HT.sIx n d o:=by cases o<;>rfl
theorem RepDs.cut(q:RepDs K A H xs vs)(lo hi:Option Int):RepDs K A H (IT.cut xs lo hi) (cutV vs lo hi):=by unfold IT.cut cutV;rw[zj8,zj8,q.length];exact(q.drop _).take _
theorem sl':SlR X (λv lo hi H Q=>∃μ h a z,Rep X.K μ h H/\RdD X.K (Live μ h) H a v/\cutD a lo hi=some z/\∀μ' H' w,Stp μ h H μ' h H'->Rep X.K μ' h H'->RepD X.K (Live μ' h) H' z w->Q w H'):=by
 intro pins s σ H x v vl vu lo hi sl Q I rx hs pl pu q;obtain⟨μ,h,a,z,R0,qa,e,k⟩:=q
 cases a with
 | tup xs=>
  simp only[RdD,RepD] at qa;obtain⟨p,vs,rfl,q1,z1⟩:=qa;cases e
  by_cases hw:HT.sIx vs.length 0 lo=0/\HT.sIx vs.length vs.length hi=vs.length
  ·refine zqC pins s σ H _ v vl vu lo hi sl Q I rx hs pl pu ⟨p,vs,rfl,q1,hw,k μ H _ Stp.refl R0 ?_⟩
   simp only[RepD];refine⟨p,vs,rfl,q1,?_⟩
   have e2:cut xs lo hi=xs:=by unfold cut;rw[zj8,zj8,z1.length,hw.1,hw.2,Xj,Nat.sub_zero,<-z1.length,Zm]
   rw[e2];exact z1
  ·refine ztS pins s σ H _ v vl vu lo hi sl Q I rx hs pl pu ⟨p,vs,rfl,q1,hw,λr hr=>?_⟩
   have s2:Stp μ h H μ h (upd H r (.tup (cutV vs lo hi))):=Stp.fresh hr;refine k μ _ (.ref r) s2 (R0.fresh hr) ?_;simp only[RepD];exact⟨r,cutV vs lo hi,rfl,SqT.of zak,RepDs.stp s2 R0 (z1.cut lo hi)⟩
 |lst xs=>
  obtain⟨p,vs,rfl,q1,z1⟩:=qa;cases e;refine zrt pins s σ H _ v vl vu lo hi sl Q I rx hs pl pu ⟨p,vs,rfl,q1,λr hr=>?_⟩;have s2:Stp μ h H μ h (upd H r (.lst (cutV vs lo hi))):=Stp.fresh hr;refine k μ _ (.ref r) s2 (R0.fresh hr) ?_;simp only[RepD];refine⟨r,cutV vs lo hi,rfl,.inl ⟨λl=>?_,.inl zak⟩,RepDs.stp s2 R0 (z1.cut lo hi)⟩;obtain⟨ws,w,_⟩:=R0.liveAt l
  rw[hr] at w;cases w
 | str xs=>
  (delta cutD at e;(try dsimp only at e))
  split at e
  ·rename_i hf
   cases e;simp only[RdD,RepD] at qa;subst qa;obtain⟨t,rfl⟩:=(show ∃t',v=WN (zam xs) t' from rx)
   have hz:(zam xs).length<=sizeLine:=by rw[zaz];exact of_decide_eq_true hf
   have fin:∀t' k',EP X pins σ Q (.str (Txt.slice (zam xs) lo hi) t') {s with toks:=k'}:=λt' k'=>⟨.str (Txt.slice (zam xs) lo hi),H,I.tok _,⟨_,rfl⟩,k μ H _ Stp.refl R0 (by rw[zmV];simp only[RepD])⟩
   obtain⟨os,hos,hcs,hds⟩:=id hs
   have part:∀{v:Value} {o:Option Int},IsPart v o->∃p:Option (Int×Tok),v=partValue p/\p.map (·.1)=o:=by
    intro v o p
    cases p with|none=>exact⟨none,rfl,rfl⟩|int i t=>exact⟨some (i,t),rfl,rfl⟩
   obtain⟨p1,rfl,e1⟩:=part pl;obtain⟨p2,rfl,e2⟩:=part pu;refine⟨"str",_,PySem.F.slot_str_getitem.lookup,typeIs_str _ _ _,wpAny_getItem_str_slice (l:=p1) (u:=p2) (st:=none) ⟨os,hos,hcs,hds⟩ rfl ?_⟩;unfold sliceMade slicePicked;rw[e1,e2];exact post_val_or_str ⟨Y6 (Txt.slice_le _ lo hi) hz,fin⟩
  ·cases e
 |_=>cases e
inductive tO(K:Z7)(f:IT.Env->M R)(σ:St)(H:Hp)(Q:Option Int->Hp->Prop):Prop where|mk (μ:List Addr) (h:Sto) (env:IT.Env) (R0:Rep K μ h H) (re:RepE K μ h H env σ) (d:D) (h':Sto) (o:Option Int) (e:f env h=some (.d d,h')) (ep:part d=some o) (k:∀μ' H',Stp μ h H μ' h' H'->Rep K μ' h' H'->Q o H')
theorem PO.imp(h:PO X oe t)(i:∀σ H Q,t' σ H Q->t σ H Q):PO X oe t':=λpins s σ H Q I q=>h pins s σ H Q I (i σ H Q q)
theorem zry:PO X none (tO X.K λ_=>ok (.d .non)):=by refine PO.imp zrR λσ H Q q0=>?_;obtain⟨μ,h,env,R0,re,d,h',o,e,ep,k⟩:=q0;simp only[zac,R.d.injEq] at e;obtain⟨rfl,rfl⟩:=e;simp only[part,Z5] at ep;subst ep;exact k μ H Stp.refl R0
theorem znr(h:IE X e f):PO X (some e) (tO X.K f):=by
 intro pins s σ H Q I ⟨μ,h0,env,R0,re,d,h',o,ef,ep,k⟩;rw[evalPart_some];refine thn (h pins s σ H (λx H1=>(∃i,x=.int i/\Q (some i) H1)\/(x=.non/\Q none H1)) I ⟨μ,h0,env,R0,re,.d d,h',ef,λμ1 H1 v s1 R1 q1=>?_⟩) λu s1 ⟨x,H1,I1,r1,q1⟩=>?_
 ·cases d with|int i=>simp only[RepR,RepD] at q1;simp only[part,Z5] at ep;subst ep;exact .inl ⟨i,q1,k μ1 H1 s1 R1⟩|non=>simp only[RepR,RepD] at q1;simp only[part,Z5] at ep;subst ep;exact .inr ⟨q1,k μ1 H1 s1 R1⟩|_=>simp[part] at ep
 ·rcases q1 with⟨i,rfl,q⟩|⟨rfl,q⟩
  ·obtain ⟨t,rfl⟩:=r1
   exact⟨some i,H1,I1,.int i t,q⟩
  ·cases r1
   exact⟨none,H1,I1,.none,q⟩
theorem zus(ha:IE X a f)(hl:PO X lo (tO X.K g))(hu:PO X hi (tO X.K k)):IE X (.Subscript a (.Slice lo hi none p2) pos)
  (λσ=>bnd (f σ) λx=>bnd (g σ) λl=>bnd (k σ) λu=>bnd (rd x) λx=>bnd (rd l) λl=>bnd (rd u) λu=>bnd (opt (sliD x l u)) λz=>ok (.d z)):=by
 refine PE.imp (zoy sl' ha hl hu) λσ H Q q0=>?_;obtain⟨μ,h,env,R0,re,r,h',e,kk⟩:=q0;simp only[zab,zac,zar] at e;obtain⟨x,h1,e1,l,h2,e2,u,h3,e3,dx,h4,e4,dl,h5,e5,du,h6,e6,z,h7,⟨e7,rfl⟩,rfl,rfl⟩:=e
 (delta sliD at e7;(try dsimp only at e7))
 have isd:∀(r:R) (d:D) (h h':Sto),rd r h=some (d,h')->∀o,part d=some o->r=.d d/\h'=h:=by
  intro r d h h' e o ep
  cases r with|d x=>simp only[rd,zac] at e;exact⟨by rw[e.1],e.2.symm⟩|loc l=>obtain⟨o,_,_,rfl,_⟩:=zeC e;simp[part] at ep
 cases pl:part dl with
 |none=>rw[pl] at e7;cases e7
 | some lo'=>
  cases pu:part du with|none=>rw[pl,pu] at e7;cases e7|some hi'=>rw[pl,pu] at e7;replace e7:cutD dx lo' hi'=some z:=e7;obtain⟨rfl,hh5⟩:=isd l dl h4 h5 e5 lo' pl;subst hh5;obtain⟨rfl,hh6⟩:=isd u du _ h6 e6 hi' pu;subst hh6;refine⟨μ,h,env,R0,re,x,h1,e1,λμ1 H1 v s1 R1 q1=>⟨μ1,h1,env,R1,re.stp s1 R0,dl,h2,lo',e2,pl,λμ2 H2 s2 R2=>⟨μ2,h2,env,R2,re.stp (s1.trans s2) R0,du,h3,hi',e3,pu,λμ3 H3 s3 R3=>?_⟩⟩⟩;obtain⟨rfl,zx⟩:=zbL R3 ((q1.stp s2 R1).stp s3 R2) e4;exact⟨μ3,_,dx,z,R3,zx,e7,λμ4 H4 w s4 R4 q4=>kk μ4 H4 w (((s1.trans s2).trans s3).trans s4) R4 q4⟩
inductive zqd(K:Z7)(g:List D->Option D)(vs:List V)(H:Hp)(Q:VK):Prop where|mk (μ:List Addr) (h:Sto) (ds:List D) (z:D) (R0:Rep K μ h H) (pr:Paired (RdD K (Live μ h) H) ds vs) (e:g ds=some z) (k:∀μ' H' w,Stp μ h H μ' h H'->Rep K μ' h H'->RepD K (Live μ' h) H' z w->Q w H')
def zsc(X:Cx)(f:Value)(g:List D->Option D):Prop:=zgO X f λvs H Q=>zqd X.K g vs H Q
theorem zju
  (q:tE X.K (λσ=>bnd (fs σ) λrs=>bnd (rds rs) λds=>bnd (opt (biD t ds)) λz=>ok (.d z)) σ H Q):
  tAs X.K fs σ H λvs H1=>zqd X.K (biD t) vs H1 Q:=by
 obtain⟨μ,h,env,R0,re,r,h',e,k⟩:=q;simp only[zab,zac,zar] at e;obtain⟨rs,h1,e1,ds,h2,e2,z,h3,⟨e3,rfl⟩,rfl,rfl⟩:=e;refine⟨μ,h,env,R0,re,rs,h1,e1,λμ1 H1 vs s1 R1 q1=>?_⟩;obtain⟨rfl,zs⟩:=zp9 R1 q1 e2;exact⟨μ1,_,ds,z,R1,zs,e3,λμ2 H2 w s2 R2 q2=>k μ2 H2 w (s1.trans s2) R2 q2⟩
theorem znu:zsc X (.builtin "len") (biD .len):=by
 intro pins s σ H vs us Q I r q;obtain⟨μ,h,ds,z,R0,pr,e,k⟩:=q
 cases pr with
 |nil=>exact zaf e
 | @cons d v ds vs qd pr=>
  cases pr with
  |cons _ _=>cases d<;>exact zaf e
  | nil=>
   cases d with
   |tup xs=>
    simp only[RdD,RepD] at qd;obtain⟨p,ws,rfl,q1,z1⟩:=qd;replace e:=ZU e;subst e
    exact zeQ pins s σ H _ us Q I r ⟨.ref p,ws.length,rfl,.inr ⟨ws,q1,rfl⟩,k μ H _ Stp.refl R0 (by simp only[RepD];rw[z1.length])⟩
   |lst xs=>
    obtain⟨p,ws,rfl,q1,z1⟩:=qd;replace e:=ZU e;subst e
    exact zeQ pins s σ H _ us Q I r ⟨.ref p,ws.length,rfl,.inl ⟨ws,q1,rfl⟩,k μ H _ Stp.refl R0 (by simp only[RepD];rw[z1.length])⟩
   | str x=>
    simp only[RdD,RepD] at qd;subst qd
    (delta biD at e;(try dsimp only at e))
    split at e
    ·rename_i hf
     cases e
     exact zeQ pins s σ H _ us Q I r ⟨.str (zam x),x.length,rfl,⟨by rw[zaz];exact of_decide_eq_true hf,by rw[zaz]⟩,k μ H _ Stp.refl R0 (by simp only[RepD])⟩
    ·cases e
   |_=>exact zaf e
theorem zjc:zsc X (.type "tuple") (biD .tuple):=by
 intro pins s σ H vs us Q I r q;obtain⟨μ,h,ds,z,R0,pr,e,k⟩:=q
 cases pr with
 |nil=>exact zaf e
 | @cons d v ds vs qd pr=>
  cases pr with
  |cons _ _=>cases d<;>exact zaf e
  | nil=>
   cases d with
   |tup xs=>
    simp only[RdD,RepD] at qd;obtain⟨p,ws,rfl,q1,z1⟩:=qd;replace e:=ZU e;subst e
    exact zdI pins s σ H _ us Q I r ⟨p,ws,rfl,.inr ⟨q1,k μ H _ Stp.refl R0 (by simp only[RepD];exact⟨p,ws,rfl,q1,z1⟩)⟩⟩
   |lst xs=>obtain⟨p,ws,rfl,q1,z1⟩:=qd;replace e:=ZU e;subst e;refine zdI pins s σ H _ us Q I r ⟨p,ws,rfl,.inl ⟨q1,λl hl=>?_⟩⟩;have s2:Stp μ h H μ h (upd H l (.tup ws)):=Stp.fresh hl;refine k μ _ (.ref l) s2 (R0.fresh hl) ?_;simp only[RepD];exact⟨l,ws,rfl,SqT.of zak,RepDs.stp s2 R0 z1⟩|_=>exact zaf e
theorem znh:zsc X (.type "int") (biD .int):=by
 intro pins s σ H vs us Q I r q;obtain⟨μ,h,ds,z,R0,pr,e,k⟩:=q
 cases pr with
 |nil=>exact zaf e
 | @cons d v ds vs qd pr=>
  cases pr with
  |cons _ _=>cases d<;>exact zaf e
  | nil=>
   cases d with|bl b=>simp only[RdD,RepD] at qd;subst qd;replace e:=ZU e;subst e;exact ziJ pins s σ H _ us Q I r (.inr ⟨b,rfl,k μ H _ Stp.refl R0 (by simp only[RepD])⟩)|int i=>simp only[RdD,RepD] at qd;subst qd;replace e:=ZU e;subst e;exact ziJ pins s σ H _ us Q I r (.inl ⟨i,rfl,k μ H _ Stp.refl R0 (by simp only[RepD])⟩)|_=>exact zaf e
end
section
variable {X:Cx}
theorem Rep.placeL(R0:Rep K μ h H){l:Nat}{o:Ob}(e:μ[l]?=some a)(ho:h[l]?=some o)(il:o.isL=true):∃vs,H a=some (.lst vs)/\RepDs K (Live μ h) H o.items vs:=(R0.obj l a o e ho).isL il
theorem Rep.placeO(R0:Rep K μ h H){l:Nat}(e:μ[l]?=some a):∃o,h[l]?=some o:=by
 have hl:l<h.length:=by rw[<-R0.len];exact(Z9.mp e).1
 exact⟨h[l],Z6 hl⟩
theorem zma{f:IT.Env->M R}(ho:IE X o f)(ha:IA X (e::es) fs)(hname:name=("append":Str))
  (hbase:YQ o name X.env (eval o X.env)=eval o X.env)
  (hfew:((backTo cpos (ZY (e::es) X.env)).all (λx=>!x.1)&&(XT cpos (YG [] X.env)).all (λx=>x.1.isSome)
   && decide ((e::es).length+([]:List X7).length+(if([]:List X7).isEmpty then 0 else 1)<30))=true)
  (hline:(apos.endLine==cpos.line)=true) (hs:ZY (e::es) X.env=(false,eval e X.env)::ZY es X.env) (hplain:(backTo cpos (ZY es X.env)).any (·.1)=false):
  IE X (.Call (.Attribute o name apos) (e::es) [] cpos) (λσ=>bnd (f σ) λx=>bnd (zf2 x) λ_=>bnd (fs σ) λrs=>meth .append x rs):=by
 subst hname;refine PE.imp (zqT PySem.F.plainAttrs_list PySem.F.slot_list_append PySem.F.type_list_append znJ ho ha hbase hfew hline hs hplain) λσ H Q q0=>?_;obtain⟨μ,h,env,R0,re,r,h',e,k⟩:=q0;simp only[zab] at e;obtain⟨x,h1,e1,_,h1',e0,rs,h2,e2,e3⟩:=e;obtain⟨l,o1,rfl,ho1,il1,rfl⟩:=zlv e0;refine⟨μ,h,env,R0,re,.loc l,_,e1,λμ1 H1 v s1 R1 q1=>?_⟩
 ·skip
  obtain⟨a,ea,rfl⟩:=q1;obtain⟨vs1,hH1,z1⟩:=R1.placeL ea ho1 il1;refine⟨.inl ⟨rfl,vs1,.inl (.inl hH1)⟩,μ1,_,env,R1,re.stp s1 R0,rs,h2,e2,λμ2 H2 ws s2 R2 q2=>?_⟩
  cases q2 with
  |nil=>exact zaf e3
  | @cons rr w rs' ws' qr q2=>
   cases q2 with
   |cons _ _=>exact zaf e3
   | nil=>
    (delta meth at e3;(try dsimp only at e3);simp only[zab] at e3)
    obtain⟨d,h3,e4,e5⟩:=e3;obtain⟨s3,R3,zd⟩:=zpl R2 qr e4;have ea2:=s2.pre l a ea
    split at e5
    ·rename_i xs hx
     split at e5
     ·rename_i hlen
      simp only[Z5,ZZ] at e5;obtain⟨rfl,rfl⟩:=e5;obtain⟨vs3,hH3,z3⟩:=R3.placeL ea2 hx rfl
      have hlen':vs3.length<sizeLine:=by
       have:=z3.length
       have h4:xs.length<big:=of_decide_eq_true hlen;have h5:big=sizeLine:=rfl;simp only[Ob.items] at this;omega
      refine⟨a,vs3,w,rfl,rfl,hH3,hlen',?_⟩;obtain⟨s4,R4⟩:=write R3 ea2 hx (z3.app (RepDs.one zd));exact k μ2 _ .non (((s1.trans s2).trans s3).trans s4) R4 (by simp only[RepR,RepD])
     ·cases e5
    ·cases e5
def spF(K:Z7)(np:Nat)(m:List R->M R):Sp:=λvs H Q _=>vs.length=np/\∃μ h rs,Rep K μ h H/\zaY K μ h H rs vs/\Post K μ h H (RepR K) (m rs h) Q
structure zoC(X:Cx)(n:Nat)(x:Str)(np:Nat)(dfl:List D)(m:List R->M R):Prop where
 ex:∃f fd ps dvs,FnOk X.prog X.w X.K X.mg X.base CX0 n f fd ps (spF X.K np m)/\X.mg x=some (.ref f)/\Zf X.K (.ref f)=true/\(∀A H,RepDs X.K A H dfl dvs)/\(∀j,j<=dfl.length->∃ds,zdq X.K fd ps ds/\Vals (dvs.drop j) ds)
 fill:∀rs,m rs=m (zaw np dfl rs)
 len:∀rs h p,m rs h=some p->(zaw np dfl rs).length=np
theorem zb4(h:rs.length+dfl.length<np):zaw np dfl rs=rs:=by unfold zaw;rw[if_pos h]
theorem zbi(h:¬rs.length+dfl.length<np):zaw np dfl rs=rs++(dfl.drop (rs.length+dfl.length-np)).map R.d:=by unfold zaw;rw[if_neg h]
theorem zaY.app(a:zaY K μ h H rs vs)(b:zaY K μ h H ss ws):zaY K μ h H (rs++ss) (vs++ws):=by
 induction a with|nil=>exact b|cons q _ ih=>exact .cons q ih
theorem RepDs.rs:∀{ds:List D} {vs:List V},RepDs K (Live μ h) H ds vs->zaY K μ h H (ds.map R.d) vs| [],vs,q=>by simp only[RepDs] at q;subst q;exact .nil|x::xs,vs,q=>by simp only[RepDs] at q;obtain⟨v,r,rfl,h1,h2⟩:=q;exact .cons h1 h2.rs
theorem zmS{p pos:Pos}{fs:IT.Env->M (List R)}(hF:zoC X n x np dfl m)(hr:Room n X.A)(hg:Gl X x)(ha:IA X (e::es) fs)(hf:∀σ h rs h',fs σ h=some (rs,h')->rs.length=(e::es).length)
  (hdb:(x==("__debug__":Str))=false) (he:ZY (e::es) X.env=(false,eval e X.env)::ZY es X.env) (hpl:(backTo pos (ZY es X.env)).any (·.1)=false):
  IE X (.Call (.Name x p) (e::es) [] pos) (λσ=>bnd (fs σ) λrs=>m rs):=by
 obtain⟨f,fd,ps,dvs,F,hm,hk,hd,hb⟩:=hF.ex
 by_cases hj:(e::es).length+dfl.length-np<=dfl.length/\¬(e::es).length+dfl.length<np
 ·obtain ⟨hj,hj2⟩:=hj
  obtain⟨ds,hb,hv⟩:=hb _ hj;refine PE.imp (ziW F hr hg hm hk hb hv zns ha hdb he hpl) λσ H Q q0=>?_;obtain⟨μ,h,env,R0,re,r,h',ee,k⟩:=q0;simp only[zab] at ee;obtain⟨rs,h1,e1,e2⟩:=ee;refine⟨μ,h,env,R0,re,rs,h1,e1,λμ1 H1 vs s1 R1 q1=>?_⟩;have hlen:=hF.len _ _ _ e2;rw[hF.fill rs] at e2
  have qq:zaY X.K μ1 h1 H1 (zaw np dfl rs) (vs++dvs.drop ((e::es).length+dfl.length-np)):=by
   rw[zbi (by rw[hf _ _ _ _ e1];exact hj2),hf _ _ _ _ e1]
   exact q1.app (RepDs.drop _ (hd _ _)).rs
  exact⟨by rw[<-qq.length];exact hlen,μ1,h1,zaw np dfl rs,R1,qq,r,h',e2,λμ2 H2 v s2 R2 q2=>k μ2 H2 v (s1.trans s2) R2 q2⟩
 ·obtain ⟨ds,hb,hv⟩:=hb dfl.length (Z0 _)
  refine PE.imp (ziW F hr hg hm hk hb hv zns ha hdb he hpl) λσ H Q q0=>?_;obtain⟨μ,h,env,R0,re,r,h',ee,k⟩:=q0;simp only[zab] at ee;obtain⟨rs,h1,e1,e2⟩:=ee;refine⟨μ,h,env,R0,re,rs,h1,e1,λμ1 H1 vs s1 R1 q1=>?_⟩
  exfalso
  have hlen:=hF.len _ _ _ e2;have hrs:=hf _ _ _ _ e1
  by_cases hs:rs.length+dfl.length<np
  ·rw [zb4 hs] at hlen
   exact OZQ hs hlen
  ·rw [zbi hs] at hlen
   simp only[Zu,Z4,Yg] at hlen;exact OZs hlen hrs hj hs
inductive tG(K:Z7)(t:Tg)(v:V)(σ:St)(H:Hp)(Q:St->Hp->Prop):Prop where|mk (μ:List Addr) (h:Sto) (env:IT.Env) (r:R) (env':IT.Env) (R0:Rep K μ h H) (re:RepE K μ h H env σ) (qr:RepR K μ h H r v) (e:za3 t r env h=some (env',h)) (k:∀σ',RepE K μ h H env' σ'->Q σ' H)
inductive tGs(K:Z7)(ts:List Tg)(vs:List V)(σ:St)(H:Hp)(Q:St->Hp->Prop):Prop where|mk (μ:List Addr) (h:Sto) (env:IT.Env) (xs:List D) (env':IT.Env) (R0:Rep K μ h H) (re:RepE K μ h H env σ) (qr:RepDs K (Live μ h) H xs vs) (e:bindTs ts xs env h=some (env',h)) (k:∀σ',RepE K μ h H env' σ'->Q σ' H)
theorem PG.imp(h:PG X tg t)(i:∀v σ H Q,t' v σ H Q->t v σ H Q):PG X tg t':=λpins s σ H v u Q I r q=>h pins s σ H v u Q I r (i v σ H Q q)
theorem PGs.imp(h:PGs X tg t)(i:∀v σ H Q,t' v σ H Q->t v σ H Q):PGs X tg t':=λpins s σ H v u Q I r q=>h pins s σ H v u Q I r (i v σ H Q q)
theorem zse(hN:X.N.Nodup)(hi:X.N[i]?=some x)(hx:Loc X.env.scope x)(hf:X.fn x=true\/X.env.scope.names.lookup x=some .local):PG X (.Name x pos) (tG X.K (.name i)):=by refine PG.imp (ziQ hN hi hx hf) λv σ H Q q_=>?_;obtain⟨μ,h,env,r,env',R0,re,qr,e,k⟩:=q_;simp only[za3,zac] at e;obtain⟨rfl,_⟩:=e;exact k _ (re.set i qr)
theorem zrK:PGs X [] (tGs X.K []):=by
 refine PGs.imp zlH λvs σ H Q q_=>?_;obtain⟨μ,h,env,xs,env',R0,re,qx,e,k⟩:=q_
 cases xs with|nil=>simp only[RepDs] at qx;simp only[bindTs,zac] at e;obtain⟨rfl,_⟩:=e;exact⟨qx,k σ re⟩|cons _ _=>exact zaf e
theorem zbA:∀(t:Tg) (r:R) (env env':IT.Env) (h h':Sto),za3 t r env h=some (env',h')->h'=h:=by
 intro t
 refine Tg.rec (motive_1:=λt=>∀(r:R) (env env':IT.Env) (h h':Sto),za3 t r env h=some (env',h')->h'=h)
  (motive_2:=λts=>∀(xs:List D) (env env':IT.Env) (h h':Sto),bindTs ts xs env h=some (env',h')->h'=h) ?_ ?_ ?_ ?_ t
 ·intro i r env env' h h' e
  simp only[za3,zac] at e;exact e.2.symm
 ·intro ts ih r env env' h h' e
  simp only[za3,zab] at e;obtain⟨d,h1,e1,e2⟩:=e
  have hh:h1=h:=by
   cases r with|d x=>simp only[rd,zac] at e1;exact e1.2.symm|loc l=>exact(zeC e1).choose_spec.2.2.2
  subst hh
  cases d with|tup xs=>exact ih xs env env' _ h' e2|_=>cases e2
 ·intro xs env env' h h' e
  cases xs with|nil=>simp only[bindTs,zac] at e;exact e.2.symm|cons _ _=>exact zaf e
 ·intro t ts iht ihts xs env env' h h' e
  cases xs with
  |nil=>exact zaf e
  |cons x xs=>
   simp only[bindTs,zab] at e;obtain⟨env1,h1,e1,e2⟩:=e
   have:=iht _ _ _ _ _ e1
   subst this;exact ihts _ _ _ _ _ e2
theorem zeg:∀(ts:List Tg) (xs:List D) (env env':IT.Env) (h h':Sto),bindTs ts xs env h=some (env',h')->xs.length=ts.length| [],[],_,_,_,_,_=>rfl| [],_::_,_,_,_,_,e=>by exact zaf e|_::_,[],_,_,_,_,e=>by exact zaf e|t::ts,x::xs,env,env',h,h',e=>by simp only[bindTs,zab] at e;obtain⟨env1,h2,e3,e4⟩:=e;simp only[Zr];rw[zeg ts xs env1 env' h2 h' e4]
theorem zoo(h1:PG X e (tG X.K t))(h2:PGs X es (tGs X.K ts))(hs:(Zk (e::es) X.env).map (·.2)=assign e X.env::(Zk es X.env).map (·.2)):PGs X (e::es) (tGs X.K (t::ts)):=by
 refine PGs.imp (zgW h1 h2 hs) λvs σ H Q q_=>?_;obtain⟨μ,h,env,xs,env',R0,re,qx,e,k⟩:=q_
 cases xs with
 |nil=>exact zaf e
 |cons x xs=>
  simp only[RepDs] at qx;obtain⟨v,r,rfl,q1,q2⟩:=qx;simp only[bindTs,zab] at e;obtain⟨env1,h1',e1,e2⟩:=e
  have:=zbA _ _ _ _ _ _ e1
  subst this;refine⟨v,r,rfl,μ,_,env,.d x,env1,R0,re,q1,e1,λσ1 re1=>⟨μ,_,env1,xs,env',R0,re1,q2,e2,k⟩⟩
theorem zuz(hc:X.calm=true)(h:PGs X es (tGs X.K ts))(hl:es.length=ts.length)(hn:(Zk es X.env).length=es.length)(hst:(Zk es X.env).findIdx? (·.1)=none):PG X (.Tuple es n pos) (tG X.K (.tup ts)):=by
 refine PG.imp (zp4 (n:=es.length) hc h hn hst) λv σ H Q q_=>?_;obtain⟨μ,h,env,r,env',R0,re,qr,e,k⟩:=q_;simp only[za3,zab] at e;obtain⟨d,h1,e1,e2⟩:=e;obtain⟨rfl,zd⟩:=zbL R0 qr e1
 cases d with|tup xs=>simp only[RdD,RepD] at zd;obtain⟨a,vs,rfl,q1,z1⟩:=zd;refine⟨a,vs,rfl,q1,?_,μ,_,env,xs,env',R0,re,z1,e2,k⟩;rw[<-z1.length,hl];exact zeg _ _ _ _ _ _ e2|_=>cases e2
def RepI(K:Z7)(μ:List Addr)(h:Sto)(H:Hp):Ite->V->Prop|.r r,v=>RepR K μ h H r v|.en i r,v=>∃p w,v=.ref p/\H p=some (.tup [.int i,w])/\RepR K μ h H r w
inductive tGI(K:Z7)(t:Tg)(v:V)(σ:St)(H:Hp)(Q:St->Hp->Prop):Prop where|mk (μ:List Addr) (h:Sto) (env:IT.Env) (x:Ite) (env':IT.Env) (R0:Rep K μ h H) (re:RepE K μ h H env σ) (qx:RepI K μ h H x v) (e:zax t x env h=some (env',h)) (k:∀σ',RepE K μ h H env' σ'->Q σ' H)
inductive tGe(K:Z7)(a b:Tg)(vs:List V)(σ:St)(H:Hp)(Q:St->Hp->Prop):Prop where|mk (μ:List Addr) (h:Sto) (env:IT.Env) (i:Int) (r:R) (w:V) (env1 env':IT.Env) (R0:Rep K μ h H) (re:RepE K μ h H env σ) (ev:vs=[.int i,w]) (qr:RepR K μ h H r w) (e1:za3 a (.d (.int i)) env h=some (env1,h)) (e2:za3 b r env1 h=some (env',h)) (k:∀σ',RepE K μ h H env' σ'->Q σ' H)
theorem zvz(ha:PG X ea (tG X.K a))(hb:PG X eb (tG X.K b))(h1:(Zk [ea,eb] X.env).map (·.2)=assign ea X.env::(Zk [eb] X.env).map (·.2))(h2:(Zk [eb] X.env).map (·.2)=assign eb X.env::(Zk [] X.env).map (·.2)):PGs X [ea,eb] (tGe X.K a b):=by refine PGs.imp (zgW ha (zgW hb zlH h2) h1) λvs σ H Q q0=>?_;obtain⟨μ,h,env,i,r,w,env1,env',R0,re,rfl,qr,e1,e2,k⟩:=q0;exact⟨.int i,[w],rfl,μ,h,env,.d (.int i),env1,R0,re,by simp only[RepR,RepD],e1,λσ1 re1=>⟨w,[],rfl,μ,h,env1,r,env',R0,re1,qr,e2,λσ2 re2=>⟨rfl,k σ2 re2⟩⟩⟩
theorem zdN(e:zax t x env h=some (env',h')):h'=h:=by
 cases x with
 |r r=>rw[zax] at e;exact zbA _ _ _ _ _ _ e
 | en i r=>
  match t,e with
  |.tup [a,b],e=>
   rw[zax,zab] at e;obtain⟨env1,h1,e1,e2⟩:=e
   have:=zbA _ _ _ _ _ _ e1
   subst this;exact zbA _ _ _ _ _ _ e2
  |.name _,e=>exact zaf e|.tup [],e=>exact zaf e|.tup [_],e=>exact zaf e|.tup (_::_::_::_),e=>exact zaf e
theorem zoZ(hg:PG X e (tG X.K (.name i))):PG X e (tGI X.K (.name i)):=by
 refine PG.imp hg λv σ H Q q0=>?_;obtain⟨μ,h,env,x,env',R0,re,qx,eb,k⟩:=q0
 cases x with|r r=>exact⟨μ,h,env,r,env',R0,re,qx,by rw[zax] at eb;exact eb,k⟩|en i r=>exact zaf eb
theorem zqx(hn:ts.length≠2)(hg:PG X e (tG X.K (.tup ts))):PG X e (tGI X.K (.tup ts)):=by
 refine PG.imp hg λv σ H Q q0=>?_;obtain⟨μ,h,env,x,env',R0,re,qx,eb,k⟩:=q0
 cases x with
 |r r=>exact⟨μ,h,env,r,env',R0,re,qx,by rw[zax] at eb;exact eb,k⟩
 |en i r=>
  match ts,hn,eb with| [],_,eb=>exact zaf eb| [_],_,eb=>exact zaf eb| [_,_],hn,_=>exact absurd rfl hn|_::_::_::_,_,eb=>exact zaf eb
theorem zr7(hc:X.calm=true)(hs:PGs X [ea,eb] (tGs X.K [a,b]))(he:PGs X [ea,eb] (tGe X.K a b))(hn:(Zk [ea,eb] X.env).length=2)(hst:(Zk [ea,eb] X.env).findIdx? (·.1)=none):PG X (.Tuple [ea,eb] n pos) (tGI X.K (.tup [a,b])):=by
 have both:PGs X [ea,eb] (λvs σ H Q=>tGs X.K [a,b] vs σ H Q\/tGe X.K a b vs σ H Q):=λpins s σ H v u Q I r q=>by
  rcases q with q | q
  ·exact hs pins s σ H v u Q I r q
  ·exact he pins s σ H v u Q I r q
 refine PG.imp (zp4 (n:=2) hc both hn hst) λv σ H Q q0=>?_;obtain⟨μ,h,env,x,env',R0,re,qx,eb,k⟩:=q0
 cases x with
 | r r=>
  rw[zax] at eb;simp only[za3,zab] at eb;obtain⟨d,h1,e1,e2⟩:=eb;obtain⟨rfl,zd⟩:=zbL R0 qx e1
  cases d with|tup xs=>simp only[RdD,RepD] at zd;obtain⟨p,vs,rfl,q1,z1⟩:=zd;refine⟨p,vs,rfl,q1,?_,.inl ⟨μ,_,env,xs,env',R0,re,z1,e2,k⟩⟩;rw[<-z1.length];exact zeg _ _ _ _ _ _ e2|_=>cases e2
 |en i r=>
  obtain⟨p,w,rfl,hp,qr⟩:=qx;rw[zax,zab] at eb;obtain⟨env1,h1,e1,e2⟩:=eb
  have:=zbA _ _ _ _ _ _ e1
  subst this;exact⟨p,[.int i,w],rfl,SqT.of hp,rfl,.inr ⟨μ,_,env,i,r,w,env1,env',R0,re,rfl,qr,e1,e2,k⟩⟩
end
structure Wlk(K:Z7)(J:L2.It)(w:Wk)(μ:List Addr)(h:Sto)(H:Hp):Prop where
 go:∀μ1 h1 H1 (i:Nat) x,Stp μ h H μ1 h1 H1->Rep K μ1 h1 H1->zaM w.l h h1=true->w.xs[i]?=some x->J.go i H1/\∀v H',J.yld i H1 v H'->Stp μ1 h1 H1 μ1 h1 H'/\Rep K μ1 h1 H'/\RepI K μ1 h1 H' x v
 stop:∀μ1 h1 H1,Stp μ h H μ1 h1 H1->Rep K μ1 h1 H1->zaM w.l h h1=true->J.stop w.xs.length H1
theorem zhO{xs:List D}{i:Nat}(e:(xs.map dI)[i]?=some x):∃d,xs[i]?=some d/\x=.r (.d d):=by rw[ZX,ZL] at e;obtain⟨d,e1,e2⟩:=e;exact⟨d,e1,e2.symm⟩
section
variable {K:Z7}{μ:List Addr}{h:Sto}{H:Hp}
theorem zkg{a:Addr}{xs:List D}(R0:Rep K μ h H)(q:LsR K (Live μ h) H a vs)(z:RepDs K (Live μ h) H xs vs):Wlk K (Itl K a) ⟨xs.map dI,none⟩ μ h H:=by
 refine⟨λμ1 h1 H1 i x st R1 _ e=>?_,λμ1 h1 H1 st R1 _=>?_⟩
 ·obtain ⟨d,ed,rfl⟩:=zhO e
  have q1:=st.lsR q;have z1:=RepDs.stp st R0 z;obtain⟨v,e1,z2⟩:=z1.get ed;refine⟨⟨vs,v,q1.sq,e1⟩,λv' H' q_=>?_⟩;obtain⟨hH,hv⟩:=q_;subst hH
  have:=hv vs q1.sq
  rw[e1] at this;cases this;exact⟨Stp.refl,R1,z2⟩
 ·exact⟨vs,(st.lsR q).sq,by rw[Z4,<-z.length];exact Z0 _⟩
theorem zq7{a:Addr}{xs:List D}(R0:Rep K μ h H)(q:SqT K H a vs)(z:RepDs K (Live μ h) H xs vs):Wlk K (Itt K a) ⟨xs.map dI,none⟩ μ h H:=by
 have qs:∀μ1 h1 H1,Stp μ h H μ1 h1 H1->SqT K H1 a vs:=λμ1 h1 H1 st=>q.imp (st.rdT R0 a vs) λz=>z;refine⟨λμ1 h1 H1 i x st R1 _ e=>?_,λμ1 h1 H1 st R1 _=>?_⟩
 ·obtain ⟨d,ed,rfl⟩:=zhO e
  have q1:=qs _ _ _ st;have z1:=RepDs.stp st R0 z;obtain⟨v,e1,z2⟩:=z1.get ed;refine⟨⟨vs,v,q1,e1⟩,λv' H' q_=>?_⟩;obtain⟨hH,hv⟩:=q_;subst hH
  have:=hv vs q1
  rw[e1] at this;cases this;exact⟨Stp.refl,R1,z2⟩
 ·exact⟨vs,qs _ _ _ st,by rw[Z4,<-z.length];exact Z0 _⟩
theorem Ob.same_isL{o o':Ob}(s:o.same o'=true)(il:o.isL=true):o'.isL=true/\o'.items=o.items:=by
 cases o with|lst xs=>simp only[Ob.same,Z8] at s;exact⟨s.1,(D.sames_eq _ _ s.2).symm⟩|fro xs=>simp only[Ob.same,Z8] at s;exact⟨s.1,(D.sames_eq _ _ s.2).symm⟩|ins _ _=>cases il|ols _=>cases il|rcd _=>cases il
theorem zgT(ho:h[l]?=some o)(s:zaM (some l) h h1=true):∃o',h1[l]?=some o'/\o.same o'=true:=by
 simp only[zaM,ho] at s
 cases q:h1[l]? with|none=>rw[q] at s;cases s|some o'=>rw[q] at s;exact⟨o',rfl,s⟩
theorem znd{a:Addr}{l:Nat}(R0:Rep K μ h H)(ea:μ[l]?=some a)(ho:h[l]?=some o)(il:o.isL=true):Wlk K (Itl K a) ⟨o.items.map dI,some l⟩ μ h H:=by
 refine⟨λμ1 h1 H1 i x st R1 sy e=>?_,λμ1 h1 H1 st R1 sy=>?_⟩
 ·obtain ⟨d,ed,rfl⟩:=zhO e
  obtain⟨o',ho',eo⟩:=zgT ho sy;obtain⟨il',eo⟩:=Ob.same_isL eo il;obtain⟨vs,q1,z1⟩:=R1.placeL (st.pre l a ea) ho' il';rw[eo] at z1;obtain⟨v,e1,z2⟩:=z1.get ed;refine⟨⟨vs,v,.inl (.inl q1),e1⟩,λv' H' q_=>?_⟩;obtain⟨hH,hv⟩:=q_;subst hH
  have:=hv vs (.inl (.inl q1))
  rw[e1] at this;cases this;exact⟨Stp.refl,R1,z2⟩
 ·obtain ⟨o',ho',eo⟩:=zgT ho sy
  obtain⟨il',eo⟩:=Ob.same_isL eo il;obtain⟨vs,q1,z1⟩:=R1.placeL (st.pre l a ea) ho' il';rw[eo] at z1
  exact⟨vs,.inl (.inl q1),by rw[Z4,<-z1.length];exact Z0 _⟩
theorem zd3{α β:Type}{F:α->β->Prop}:∀{xs:List α} {ys:List β} {i:Nat} {x:α},Paired F xs ys->xs[i]?=some x->∃y,ys[i]?=some y/\F x y|_,_,_,_,.nil,e=>by simp at e|_,_,0,_,.cons r _,e=>by simp at e;subst e;exact⟨_,rfl,r⟩|_,_,i+1,x,.cons _ t,e=>by obtain⟨y,h1,h2⟩:=zd3 (i:=i) (x:=x) t (by simpa using e);exact⟨y,by simpa using h1,h2⟩
theorem zmv{l:Nat}{ls:List Nat}(R0:Rep K μ h H)(ea:μ[l]?=some a)(ho:h[l]?=some (.ols ls)):Wlk K (Itl K a) ⟨ls.map λl=>.r (.loc l),some l⟩ μ h H:=by
 have at1:∀μ1 h1 H1,Stp μ h H μ1 h1 H1->Rep K μ1 h1 H1->zaM (some l) h h1=true->∃vs,H1 a=some (.lst vs)/\Paired (λ(l:Nat) (v:V)=>∃b,μ1[l]?=some b/\v=.ref b) ls vs:=by
  intro μ1 h1 H1 st R1 sy;obtain⟨o',ho',eo⟩:=zgT ho sy
  cases o' with
  |ols ls'=>
   simp only[Ob.same] at eo
   have:=Z3 eo
   subst this;exact R1.obj l a _ (st.pre l a ea) ho'
  |_=>cases eo
 refine⟨λμ1 h1 H1 i x st R1 sy e=>?_,λμ1 h1 H1 st R1 sy=>?_⟩
 ·rw [ZX,ZL] at e
  obtain⟨k,e,rfl⟩:=e;obtain⟨vs,q1,z1⟩:=at1 _ _ _ st R1 sy;obtain⟨v,e1,b,eb,rfl⟩:=zd3 z1 e;refine⟨⟨vs,.ref b,.inl (.inl q1),e1⟩,λv' H' q_=>?_⟩;obtain⟨hH,hv⟩:=q_;subst hH
  have:=hv vs (.inl (.inl q1))
  rw[e1] at this;cases this;exact⟨Stp.refl,R1,b,eb,rfl⟩
 ·obtain ⟨vs,q1,z1⟩:=at1 _ _ _ st R1 sy
  exact⟨vs,.inl (.inl q1),by rw[Z4,<-z1.length];exact Z0 _⟩
theorem zhY:∀(n:Nat) (lo:Int) (i:Nat) (x:D),(zcq lo n)[i]?=some x->i<n/\x=.int (lo+i)
 |0,lo,i,x,e=>by simp[zcq] at e
 | n+1,lo,i,x,e=>by
  cases i with
  |zero=>simp[zcq] at e;exact⟨by omega,by rw[<-e];simp⟩
  |succ i=>
   simp only[zcq,YS] at e;obtain⟨h1,h2⟩:=zhY n (lo+1) i x e;refine⟨by exact OZw h1,?_⟩;rw[h2]
   congr 1
   push_cast
   exact OZP
theorem zfe:∀(n:Nat) (lo:Int),(zcq lo n).length=n|0,_=>rfl|n+1,lo=>by simp[zcq,zfe n]
theorem zrA(lo:Int)(n:Nat):Wlk K (Itr lo n) ⟨(zcq lo n).map dI,none⟩ μ h H:=by
 refine⟨λμ1 h1 H1 i x st R1 _ e=>?_,λμ1 h1 H1 st R1 _=>?_⟩
 ·obtain ⟨d,ed,rfl⟩:=zhO e
  obtain⟨h1',rfl⟩:=zhY n lo i d ed
  exact⟨h1',λv H' ⟨hH,hv⟩=>by subst hH;exact⟨Stp.refl,R1,by rw[hv];simp only[RepI,RepR,RepD]⟩⟩
 ·show n<=((zcq lo n).map dI).length
  rw[Z4,zfe];exact Z0 _
end
def Its(x:Str):L2.It:=⟨λi _=>i<x.cps.size,λi H v H'=>H'=H/\∃c,x.cps[i]?=some c/\v=.str ⟨#[c]⟩,λi _=>x.cps.size<=i⟩
theorem zqP{K:Z7}{μ:List Addr}(x:List Nat):Wlk K (Its (zam x)) ⟨(x.map λc=>D.str [c]).map dI,none⟩ μ h H:=by
 refine⟨λμ1 h1 H1 i d st R1 _ e=>?_,λμ1 h1 H1 st R1 _=>?_⟩
 ·obtain ⟨d,ed,rfl⟩:=zhO e
  simp only[ZX,ZL] at ed;obtain⟨c,hc,rfl⟩:=ed;refine⟨?_,λv H' ⟨hH,c',hc',hv⟩=>?_⟩
  ·show i<x.toArray.size
   simpa using(Z9.mp hc).1
  ·subst hH
   refine⟨Stp.refl,R1,?_⟩
   have e2:x[i]?=some c':=by simpa[zam] using hc'
   rw[hc] at e2;cases e2;rw[hv];simp only[RepI,RepR,RepD];rfl
 ·show x.toArray.size<=_
  simp
theorem zpt(x:Str)(t:Tok)(it:Addr):Turn P w K tg (Its x) [it] it (λi h=>h.IsStrIter it (Xs x) x t i) where
 mem:=by simp
 obj:=λi h st b hb=>by
  have e:b=it:=by simpa using hb
  subst e;obtain⟨o,e,c,d⟩:=st
  exact⟨o,e,λv z=>by rw[d] at z;cases z⟩
 keep:=λi h h' st k=>by obtain⟨o,e,r⟩:=st;exact⟨o,k it (by simp) o e,r⟩
 item:=by
  intro X hP hw hK hc i pins s σ H E I hf st hg;subst hP hw hK;obtain⟨f0,f1,f2,f3,f4,f5⟩:=hf it (by simp);have hg':i<x.cps.size:=hg;obtain⟨c,hx⟩:∃c,x.cps[i]?=some c:=⟨x.cps[i]'hg',by simp⟩
  have go:∀h',h'.IsStrIter it (Xs x) x t (i+1)->Xr it s.heap h'->∃u,some (WN ⟨#[c]⟩ s.toks)=some u ∧
    wpAny (model X.prog X.w) X.A (XC tg (.ref it) u) (λ_ s2=>∃x' H',Inv X pins σ H' s2/\RelV x' u/\(Its x).yld i H x' H'/\s2.heap.IsStrIter it (Xs x) x t (i+1)/\∀b∈[it],H' b=none) E {s with heap:=h',toks:=s.toks+1}:=by
   intro h' st' sb;have I1:Inv X pins σ H {s with heap:=h',toks:=s.toks+1}:=I.turned (t':=s.toks+1) (λb o hb e=>(sb.2 b hb).trans e) f0 f1 f3 f4 f5;obtain⟨o,e,cl,d⟩:=id st';refine⟨_,rfl,zoA (s:={s with heap:=h',toks:=s.toks+1}) e cl d ?_ ⟨.str ⟨#[c]⟩,H,I1,⟨_,rfl⟩,⟨rfl,_,hx,rfl⟩,st',λb hb=>(hf b hb).1⟩⟩;unfold Xs
   split<;>decide
  unfold Xs at st go⊢
  split at st
  ·rename_i ha
   simp only[ha,if_true] at go⊢;exact wpAny_pyNext_ascii_item st hx go
  ·rename_i ha
   simp only[ha] at go⊢;exact wpAny_pyNext_wide_item st hx go
 done:=by
  intro X hP hw hK hc i pins s σ H E I hf st hg;subst hP hw hK;obtain⟨f0,f1,f2,f3,f4,f5⟩:=hf it (by simp)
  have hx:x.cps[i]?=none:=by
   have hg':x.cps.size<=i:=hg
   simp;omega
  unfold Xs at st
  split at st
  ·exact wpAny_pyNext_ascii_end (I.ok.hd hc) st hx λh' eb=>⟨rfl,I.turned (t':=s.toks) (λb o hb e=>eb b o hb e) f0 f1 f3 f4 f5⟩
  ·exact wpAny_pyNext_wide_end (I.ok.hd hc) st hx λh' eb=>⟨rfl,I.turned (t':=s.toks) (λb o hb e=>eb b o hb e) f0 f1 f3 f4 f5⟩
 self:=λ_ _ _ _ _ st h=>by
  unfold Xs at st
  split at st
  ·exact wpAny_pyIter_striter_ascii st h
  ·exact wpAny_pyIter_striter_wide st h
inductive tI(K:Z7)(f:IT.Env->M Wk)(σ:St)(H:Hp)(R:It->Hp->Prop):Prop where|mk (μ:List Addr) (h:Sto) (env:IT.Env) (R0:Rep K μ h H) (re:RepE K μ h H env σ) (w:Wk) (h':Sto) (e:f env h=some (w,h')) (k:∀μ' H' J,Stp μ h H μ' h' H'->Rep K μ' h' H'->Wlk K J w μ' h' H'->w.xs.length<=sizeLine->R J H')
section
variable {X:Cx}{tg:Expr}
theorem PI.imp(h:PI X tg l t)(i:∀σ H R,t' σ H R->t σ H R):PI X tg l t':=λpins s σ H R I q=>h pins s σ H R I (i σ H R q)
theorem zun(hl:PE X l tl):PI X tg l (λσ H R=>tl σ H λx H1=>(∃a xs,x=.ref a/\SqL X.K H1 a xs/\(xs.length<=sizeLine->R (Itl X.K a) H1))\/(∃a xs,x=.ref a/\SqT X.K H1 a xs/\(xs.length<=sizeLine->R (Itt X.K a) H1))\/(∃z:Str,x=.str z/\R (Its z) H1)):=by
 intro pins s σ H R I h;refine thn (hl pins s σ H _ I h) λv s1 q_=>?_;obtain⟨x,H1,I1,r1,q1⟩:=q_
 rcases q1 with⟨a,xs,e,hq,q⟩|⟨a,xs,e,hq,q⟩|⟨z,e,q⟩
 ·subst e
  cases r1;obtain⟨its,rv,p,hz⟩:=I1.list hq;refine wpAny_pyIter_list p.isList ?_;refine⟨s1.heap.objs.size,[s1.heap.objs.size],_,_,H1,rfl,I1.kept (t':=s1.toks) λb o e=>Z2 _ e,zmj a _,⟨_,Zp _ rfl,rfl,rfl⟩,λb hb=>?_,q hz⟩
  have e:b=s1.heap.objs.size:=by simpa using hb
  subst e;exact I1.fpOk (Z0 _) (I1.hok.fresh (Z0 _))
 ·subst e
  cases r1;obtain⟨its,rv,p,hz⟩:=I1.tuple hq;refine wpAny_pyIter_tuple (show s1.heap.IsTuple a its.toArray from p) ?_;refine⟨s1.heap.objs.size,[s1.heap.objs.size],_,_,H1,rfl,I1.kept (t':=s1.toks) λb o e=>Z2 _ e,zkT a _,⟨_,Zp _ rfl,rfl,rfl⟩,λb hb=>?_,q hz⟩
  have e:b=s1.heap.objs.size:=by simpa using hb
  subst e;exact I1.fpOk (Z0 _) (I1.hok.fresh (Z0 _))
 ·subst e
  obtain⟨t,rfl⟩:=(show ∃t',v=WN z t' from r1);refine wpAny_pyIter_strU ?_;refine⟨s1.heap.objs.size,[s1.heap.objs.size],_,_,H1,rfl,I1.kept (t':=s1.toks) λb o e=>Z2 _ e,zpt z t _,⟨_,Zp _ rfl,rfl,rfl⟩,λb hb=>?_,q⟩
  have e:b=s1.heap.objs.size:=by simpa using hb
  subst e;exact I1.fpOk (Z0 _) (I1.hok.fresh (Z0 _))
theorem zb5(e:zbK r h=some (o,h')):h'=h/\match o with
  |some ls=>∃l,r=.loc l/\h[l]?=some (.ols ls)
  |none=>True:=by
 cases r with
 |d x=>simp only[zbK,Z5,ZZ] at e;obtain⟨rfl,rfl⟩:=e;exact⟨rfl,trivial⟩
 | loc l=>
  (delta zbK at e;(try dsimp only at e))
  split at e
  ·rename_i ls hl
   simp only[Z5,ZZ] at e;obtain⟨rfl,rfl⟩:=e;exact⟨rfl,l,rfl,hl⟩
  ·simp only[Z5,ZZ] at e
   obtain⟨rfl,rfl⟩:=e;exact⟨rfl,trivial⟩
def WkIs(K:Z7)(v:V)(w:Wk)(μ:List Addr)(h:Sto)(H:Hp):Prop:=(∃a vs,v=.ref a/\SqL K H a vs/\vs.length=w.xs.length/\Wlk K (Itl K a) w μ h H)\/(∃a vs,v=.ref a/\SqT K H a vs/\vs.length=w.xs.length/\Wlk K (Itt K a) w μ h H)\/(∃z:Str,v=.str z/\w.xs.length<=sizeLine/\Wlk K (Its z) w μ h H)
theorem zvD(R1:Rep K μ h H)(q1:RepR K μ h H r v)(e:zbp r h=some (w,h')):h'=h/\WkIs K v w μ h H:=by
 (delta zbp at e;simp only[zab] at e)
 obtain⟨o,h1,e1,e2⟩:=e;obtain⟨rfl,ho⟩:=zb5 e1
 cases o with
 |some ls=>
  obtain⟨l,rfl,ho⟩:=ho;obtain⟨a,ea,rfl⟩:=q1;simp only[zac] at e2;obtain⟨rfl,rfl⟩:=e2;obtain⟨vs,q2,z2⟩:=R1.obj l a _ ea ho
  exact⟨rfl,.inl ⟨a,vs,rfl,.inl (.inl q2),by rw[Z4];exact z2.length.symm,zmv R1 ea ho⟩⟩
 | none=>
  simp only[zab] at e2;obtain⟨d,h2,e3,e4⟩:=e2
  cases r with
  |loc l=>
   obtain⟨a,ea,rfl⟩:=q1;obtain⟨o,ho,il,rfl,rfl⟩:=zeC e3;obtain⟨vs,q2,z2⟩:=R1.placeL ea ho il
   (delta wkOf items at e4;(try dsimp only at e4);simp only[zac] at e4)
   obtain⟨rfl,rfl⟩:=e4
   exact⟨rfl,.inl ⟨a,vs,rfl,.inl (.inl q2),by rw[Z4];exact z2.length.symm,znd R1 ea ho il⟩⟩
  | d x=>
   simp only[rd,zac] at e3;obtain⟨rfl,rfl⟩:=e3
   cases x with
   |tup xs=>
    (delta wkOf items at e4;(try dsimp only at e4);simp only[zac] at e4)
    obtain⟨rfl,rfl⟩:=e4;simp only[RepR,RepD] at q1;obtain⟨a,vs,rfl,q2,z2⟩:=q1
    exact⟨rfl,.inr (.inl ⟨a,vs,rfl,q2,by rw[Z4];exact z2.length.symm,zq7 R1 q2 z2⟩)⟩
   |lst xs=>
    (delta wkOf items at e4;(try dsimp only at e4);simp only[zac] at e4)
    obtain⟨rfl,rfl⟩:=e4;simp only[RepR,RepD] at q1;obtain⟨a,vs,rfl,q2,z2⟩:=q1
    exact⟨rfl,.inl ⟨a,vs,rfl,q2.sq,by rw[Z4];exact z2.length.symm,zkg R1 q2 z2⟩⟩
   | str xs=>
    (delta wkOf items at e4;(try dsimp only at e4))
    split at e4
    ·rename_i hf
     obtain⟨rfl,rfl⟩:=zac.mp e4;simp only[RepR,RepD] at q1;subst q1
     exact⟨rfl,.inr (.inr ⟨zam xs,rfl,by rw[Z4,Z4];exact of_decide_eq_true hf,zqP xs⟩)⟩
    ·cases e4
   |_=>exact zaf e4
theorem zsK(hl:IE X l f):PI X tg l (tI X.K λσ=>bnd (f σ) λr=>zbp r):=by
 refine PI.imp (zun hl) λσ H R q0=>?_;obtain⟨μ,h,env,R0,re,w,h',e,k⟩:=q0;simp only[zab] at e;obtain⟨r,h1,e1,e2⟩:=e;refine⟨μ,h,env,R0,re,r,h1,e1,λμ1 H1 v s1 R1 q1=>?_⟩;obtain⟨rfl,W⟩:=zvD R1 q1 e2
 rcases W with⟨a,vs,rfl,q2,hl,W⟩|⟨a,vs,rfl,q2,hl,W⟩|⟨z,rfl,hz,W⟩
 ·exact .inl ⟨a,vs,rfl,q2,λhz=>k μ1 H1 _ s1 R1 W (by rw[<-hl];exact hz)⟩
 ·exact .inr (.inl ⟨a,vs,rfl,q2,λhz=>k μ1 H1 _ s1 R1 W (by rw[<-hl];exact hz)⟩)
 ·exact .inr (.inr ⟨z,rfl,k μ1 H1 _ s1 R1 W hz⟩)
theorem zsj(hg:Gl X "range")(hm:X.mg "range"=none)(ha:IE X e f)(hs:ZY [e] X.env=[(false,eval e X.env)]):PI X tg (.Call (.Name "range" p) [e] [] pos) (tI X.K λσ=>bnd (f σ) λr=>zgY r):=by
 refine PI.imp (zmK hg hm (zbG ha zc2 hs) hs) λσ H R q0=>?_;obtain⟨μ,h,env,R0,re,w,h',e,k⟩:=q0;simp only[zab] at e;obtain⟨r,h1,e1,e2⟩:=e;refine⟨μ,h,env,R0,re,r,h1,e1,λμ1 H1 v s1 R1 q1=>?_⟩
 (delta zgY at e2;(try dsimp only at e2))
 split at e2
 ·rename_i n
  split at e2
  ·rename_i hb
   rw[Z8] at hb;obtain⟨rfl,rfl⟩:=zac.mp e2;simp only[RepR,RepD] at q1;have h3:n<=16777216:=of_decide_eq_true hb.2
   exact⟨n,by rw[q1],of_decide_eq_true hb.1,by omega,k μ1 H1 _ s1 R1 (zrA 0 n.toNat) (by show((zcq 0 n.toNat).map dI).length<=sizeLine;rw[Z4,zfe];show n.toNat<=16777216;omega)⟩
  ·cases e2
 ·cases e2
def zuN(K:Z7)(μ:List Addr)(h:Sto)(D:Ends)(fl:Fl)(σ:St)(H:Hp):Prop:=match fl with|.nx=>D.nx σ H|.brk=>D.bk σ H|.cnt=>D.ct σ H|.ret r=>∀v,RepR K μ h H r v->D.rt v H
inductive tS(K:Z7)(f:IT.Env->M (Fl×IT.Env))(D:Ends)(σ:St)(H:Hp):Prop where|mk (μ:List Addr) (h:Sto) (env:IT.Env) (R0:Rep K μ h H) (re:RepE K μ h H env σ) (fl:Fl) (env':IT.Env) (h':Sto) (e:f env h=some ((fl,env'),h')) (k:∀μ' H' σ',Stp μ h H μ' h' H'->Rep K μ' h' H'->RepE K μ' h' H' env' σ'->zuN K μ' h' D fl σ' H')
theorem PS.imp(h:PS X st t)(i:∀D σ H,t' D σ H->t D σ H):PS X st t':=λpins s σ H D I q=>h pins s σ H D I (i D σ H q)
theorem PSs.imp(h:PSs X st t)(i:∀D σ H,t' D σ H->t D σ H):PSs X st t':=λpins s σ H D I q=>h pins s σ H D I (i D σ H q)
theorem zrB:PS X (.Return none pos) (tS X.K λσ=>ok (.ret (.d .non),σ)):=by refine PS.imp zrH λD σ H q0=>?_;obtain⟨μ,h,env,R0,re,fl,env',h',e,k⟩:=q0;simp only[zac,ZZ] at e;obtain⟨⟨rfl,rfl⟩,rfl⟩:=e;exact k μ H σ Stp.refl R0 re .non (by simp only[RepR,RepD])
theorem zuc(he:IE X e f):PS X (.Return (some e) pos) (tS X.K λσ=>bnd (f σ) λr=>ok (.ret r,σ)):=by refine PS.imp (zuu he) λD σ H q0=>?_;obtain⟨μ,h,env,R0,re,fl,env',h',e,k⟩:=q0;simp only[zab,zac,ZZ] at e;obtain⟨r,h1,e1,⟨rfl,rfl⟩,rfl⟩:=e;exact⟨μ,h,env,R0,re,r,h1,e1,λμ1 H1 v s1 R1 q1=>k μ1 H1 σ s1 R1 (re.stp s1 R0) v q1⟩
theorem zsV(he:IE X e f)(hs:Yk e none pos.line X.env=pure false):PS X (.Expr e pos) (tS X.K λσ=>bnd (f σ) λ_=>ok (.nx,σ)):=by refine PS.imp (zqA he hs) λD σ H q0=>?_;obtain⟨μ,h,env,R0,re,fl,env',h',e,k⟩:=q0;simp only[zab,zac,ZZ] at e;obtain⟨r,h1,e1,⟨rfl,rfl⟩,rfl⟩:=e;exact⟨μ,h,env,R0,re,r,h1,e1,λμ1 H1 v s1 R1 q1=>k μ1 H1 σ s1 R1 (re.stp s1 R0)⟩
theorem zpM(he:IE X e f)(hg:PG X tge (tG X.K t))(hs:W5 [tge] e pos.line X.env=pure false)(hw:W4 [tge] e X.env=pure none)(h1:(Zk [tge] X.env).map (·.2)=[assign tge X.env]):
  PS X (.Assign [tge] e pos) (tS X.K λσ=>bnd (f σ) λr=>bnd (za3 t r σ) λσ'=>ok (.nx,σ')):=by
 refine PS.imp (zj1 he hg hs hw h1) λD σ H q0=>?_;obtain⟨μ,h,env,R0,re,fl,env',h',e,k⟩:=q0;simp only[zab,zac,ZZ] at e;obtain⟨r,h1,e1,env1,h2,e2,⟨rfl,rfl⟩,rfl⟩:=e
 have:=zbA _ _ _ _ _ _ e2
 subst this;exact⟨μ,h,env,R0,re,r,_,e1,λμ1 H1 v s1 R1 q1=>⟨μ1,_,env,r,env1,R1,re.stp s1 R0,q1,e2,λσ' re'=>k μ1 H1 σ' s1 R1 re'⟩⟩
theorem zrE(he:IE X e f)(ho:IE X o g)(hi:IE X i k)
  (ha:∀v,assign (.Subscript o i p2) X.env v=(do let ov<-holding [v] (eval o X.env);let iv<-holding [v,ov] (eval i X.env);Xq p2;holding [v,ov,iv] (setItem ov iv v);release [v,ov,iv] []))
  (hs:W5 [.Subscript o i p2] e pos.line X.env=pure false) (hw:W4 [.Subscript o i p2] e X.env=pure none) (h1:(Zk [.Subscript o i p2] X.env).map (·.2)=[assign (.Subscript o i p2) X.env]):
  PS X (.Assign [.Subscript o i p2] e pos) (tS X.K λσ=>bnd (f σ) λr=>bnd (g σ) λx=>bnd (k σ) λy=>bnd (fz r) λd=>bnd (rd y) λy=>bnd (zf8 x y d) λ_=>ok (.nx,σ)):=by
 refine PS.imp (zj1 he (zpY ho hi znY ha) hs hw h1) λD σ H q0=>?_;obtain⟨μ,h,env,R0,re,fl,env',h',e,kk⟩:=q0;simp only[zab,zac,ZZ] at e;obtain⟨r,h1,e1,x,h2,e2,y,h3,e3,d,h4,e4,dy,h5,e5,_,h6,e6,⟨rfl,rfl⟩,rfl⟩:=e;refine⟨μ,h,env,R0,re,r,h1,e1,λμ1 H1 v s1 R1 q1=>⟨μ1,h1,env,R1,re.stp s1 R0,x,h2,e2,λμ2 H2 u s2 R2 q2=>⟨μ2,h2,env,R2,re.stp (s1.trans s2) R0,y,h3,e3,λμ3 H3 w s3 R3 q3=>?_⟩⟩⟩;obtain⟨s4,R4,zd⟩:=zpl R3 ((q1.stp s2 R1).stp s3 R2) e4;obtain⟨rfl,zy⟩:=zbL R4 (q3.stp s4 R3) e5
 (delta zf8 at e6;(try dsimp only at e6))
 split at e6
 ·rename_i l k'
  obtain⟨a,ea,rfl⟩:=(q2.stp s3 R2).stp s4 R3
  split at e6
  ·rename_i xs hx
   split at e6
   ·rename_i j hj
    simp only[Z5,ZZ] at e6;obtain⟨_,rfl⟩:=e6;obtain⟨vs4,hH4,z4⟩:=R4.placeL ea hx rfl;simp only[RdD,RepD] at zy
    refine⟨a,vs4,k',j,rfl,zy,hH4,by rw[<-z4.length];exact hj,?_⟩
    obtain⟨s5,R5⟩:=write R4 ea hx (z4.set zd j);exact kk μ3 _ σ ((((s1.trans s2).trans s3).trans s4).trans s5) R5 (re.stp ((((s1.trans s2).trans s3).trans s4).trans s5) R0)
   ·cases e6
  ·cases e6
 ·cases e6
theorem zvC(hc:IT' X c ft)(ha:PSs X a (tS X.K fa))(hb:PSs X b (tS X.K fb)):
  PS X (.If c a b pos) (tS X.K λσ=>bnd (ft σ) λt=>if t then fa σ else fb σ):=by
 refine PS.imp (zvb hc ha hb) λD σ H q0=>?_;obtain⟨μ,h,env,R0,re,fl,env',h',e,k⟩:=q0;simp only[zab] at e;obtain⟨t,h1,e1,e2⟩:=e;refine⟨μ,h,env,R0,re,t,h1,e1,λμ1 H1 v s1 R1 hv=>?_⟩;subst hv
 cases t with|true=>simp only[if_true] at e2⊢;exact⟨μ1,h1,env,R1,re.stp s1 R0,fl,env',h',e2,λμ2 H2 σ2 s2 R2 q2=>k μ2 H2 σ2 (s1.trans s2) R2 q2⟩|false=>simp only[Zz,if_false] at e2⊢;exact⟨μ1,h1,env,R1,re.stp s1 R0,fl,env',h',e2,λμ2 H2 σ2 s2 R2 q2=>k μ2 H2 σ2 (s1.trans s2) R2 q2⟩
theorem zrs:PSs X [] (tS X.K λσ=>ok (.nx,σ)):=by refine PSs.imp zrx λD σ H q0=>?_;obtain⟨μ,h,env,R0,re,fl,env',h',e,k⟩:=q0;simp only[zac,ZZ] at e;obtain⟨⟨rfl,rfl⟩,rfl⟩:=e;exact k μ H σ Stp.refl R0 re
theorem zop(h1:PS X st (tS X.K f))(h2:PSs X sts (tS X.K g)):PSs X (st::sts) (tS X.K λσ=>bnd (f σ) λp=>match p.1 with | .nx=>g p.2 | _=>ok p):=by
 refine PSs.imp (zpu h1 h2) λD σ H q0=>?_;obtain⟨μ,h,env,R0,re,fl,env',h',e,k⟩:=q0;simp only[zab] at e;obtain⟨⟨fl1,env1⟩,h1,e1,e2⟩:=e;refine⟨μ,h,env,R0,re,fl1,env1,h1,e1,λμ1 H1 σ1 s1 R1 q1=>?_⟩
 cases fl1 with|nx=>exact⟨μ1,h1,env1,R1,q1,fl,env',h',e2,λμ2 H2 σ2 s2 R2 q2=>k μ2 H2 σ2 (s1.trans s2) R2 q2⟩|brk=>simp only[zac,ZZ] at e2;obtain⟨⟨rfl,rfl⟩,rfl⟩:=e2;exact k μ1 H1 σ1 s1 R1 q1|cnt=>simp only[zac,ZZ] at e2;obtain⟨⟨rfl,rfl⟩,rfl⟩:=e2;exact k μ1 H1 σ1 s1 R1 q1|ret r=>simp only[zac,ZZ] at e2;obtain⟨⟨rfl,rfl⟩,rfl⟩:=e2;exact k μ1 H1 σ1 s1 R1 q1
theorem Ob.same_refl{o:Ob}(n:∀c fs,o≠.ins c fs):o.same o=true:=by
 cases o with|lst xs=>simp only[Ob.same,Ob.isL,Ob.items,Zn];exact D.sames_refl _|fro xs=>simp only[Ob.same,Ob.isL,Ob.items,Zn];exact D.sames_refl _|ins c fs=>exact absurd rfl (n c fs)|ols ls=>simp only[Ob.same,beq_self_eq_true]|rcd _=>rfl
theorem Ob.same_trans{a b c:Ob}(h1:a.same b=true)(h2:b.same c=true):a.same c=true:=by
 cases a with
 |ins _ _=>cases h1
 |rcd _=>
  cases b with|rcd _=>exact h2|_=>cases h1
 |ols ls=>
  cases b with|ols ls'=>simp only[Ob.same] at h1;have:=Z3 h1;subst this;exact h2|_=>cases h1
 |lst xs=>obtain⟨i1,e1⟩:=Ob.same_isL h1 rfl;obtain⟨i2,e2⟩:=Ob.same_isL h2 i1;simp only[Ob.same,i2,Zn];rw[e2,e1];exact D.sames_refl _|fro xs=>obtain⟨i1,e1⟩:=Ob.same_isL h1 rfl;obtain⟨i2,e2⟩:=Ob.same_isL h2 i1;simp only[Ob.same,i2,Zn];rw[e2,e1];exact D.sames_refl _
def WlOk(w:Wk)(h:Sto):Prop:=∀i,w.l=some i->∃o,h[i]?=some o/\∀c fs,o≠.ins c fs
theorem zd9(l:Option Nat)(h:Sto)(hl:∀i,l=some i->∃o,h[i]?=some o/\∀c fs,o≠.ins c fs):zaM l h h=true:=by
 cases l with|none=>rfl|some i=>obtain⟨o,ho,n⟩:=hl i rfl;simp only[zaM,ho];exact Ob.same_refl n
theorem zbe(a:zaM l h h1=true)(b:zaM l h1 h2=true):zaM l h h2=true:=by
 cases l with
 |none=>rfl
 | some i=>
  simp only[zaM] at a b⊢
  cases e0:h[i]? with
  |none=>rw[e0] at a;cases a
  | some o0=>
   cases e1:h1[i]? with
   |none=>rw[e0,e1] at a;cases a
   | some o1=>
    cases e2:h2[i]? with|none=>rw[e1,e2] at b;cases b|some o2=>rw[e0,e1] at a;rw[e1,e2] at b;exact Ob.same_trans a b
theorem ztH(hp:Wt (model X.prog X.w) X.A X.env X.xe)(hc:X.calm=true)(hi:PI X tg iter (tI X.K fi))(hg:PG X tg (tGI X.K t))(hb:PSs X body (tS X.K fb))
  (hs:∀x,YE iter X.env x=pure x) (hwl:∀σ h w h',fi σ h=some (w,h')->WlOk w h'):
  PS X (.For tg iter body [] pos) (tS X.K λσ=>bnd (fi σ) λw=>loop w.l (λx σ=>bnd (zax t x σ) λσ'=>fb σ') w.xs σ):=by
 refine PS.imp (zpJ hp hc hi hg hb hs) λD σ H q0=>?_;obtain⟨μ,h,env,R0,re,fl,env',h',e,k⟩:=q0;simp only[zab] at e;obtain⟨w,h1,e1,e2⟩:=e;refine⟨μ,h,env,R0,re,w,h1,e1,λμ1 H1 J s1 R1 W1 _=>?_⟩
 refine ⟨λi m σ2 H2=>∃μ2 h2 env2,Stp μ1 h1 H1 μ2 h2 H2/\zaM w.l h1 h2=true/\Rep X.K μ2 h2 H2/\RepE X.K μ2 h2 H2 env2 σ2/\i+m=w.xs.length ∧
   loop w.l (λx σ=>bnd (zax t x σ) λσ'=>fb σ') (w.xs.drop i) env2 h2=some ((fl,env'),h'),⟨w.xs.length,μ1,h1,env,Stp.refl,zd9 _ _ (hwl _ _ _ _ e1),R1,re.stp s1 R0,by exact OZO,by rw[Xj];exact e2⟩,?_⟩
 rintro i m σ2 H2 ⟨μ2,h2,env2,s2,sy2,R2,re2,him,el⟩
 cases hx:w.xs[i]? with
 |none=>
  have hi':w.xs.length<=i:=by simpa using hx
  have hi2:i=w.xs.length:=by exact OZr him hi'
  subst hi2;rw[Yx (Z0 _)] at el;simp only[loop,zac,ZZ] at el;obtain⟨⟨rfl,rfl⟩,rfl⟩:=el;exact .inl ⟨W1.stop μ2 h2 H2 s2 R2 sy2,k μ2 H2 σ2 (s1.trans s2) R2 re2⟩
 | some x=>
  have hil:i<w.xs.length:=(Z9.mp hx).1
  have hdrop:w.xs.drop i=x::w.xs.drop (i+1):=by
   rw[ZG hil]
   have:=(Z9.mp hx).2
   rw[this]
  rw[hdrop] at el;simp only[loop] at el;obtain⟨go,yld⟩:=W1.go μ2 h2 H2 i x s2 R2 sy2 hx
  cases ef:bnd (zax t x env2) (λσ'=>fb σ') h2 with
  |none=>rw[ef] at el;cases el
  | some p=>
   obtain⟨⟨fl3,env3⟩,h3⟩:=p;rw[ef] at el;simp only[zab] at ef;obtain⟨env4,h4,e4,e5⟩:=ef
   have:=zdN e4
   subst this
   refine .inr ⟨go,λσ' H'=>∃m',m'<m/\∃μ5 h5 env5,Stp μ1 h1 H1 μ5 h5 H'/\zaM w.l h1 h5=true/\Rep X.K μ5 h5 H'/\RepE X.K μ5 h5 H' env5 σ'/\(i+1)+m'=w.xs.length ∧
    loop w.l (λx σ=>bnd (zax t x σ) λσ'=>fb σ') (w.xs.drop (i+1)) env5 h5=some ((fl,env'),h'),λσ' H' hN=>hN,λv H' hy=>?_⟩
   obtain⟨sy,Ry,zx⟩:=yld v H' hy;refine⟨μ2,_,env2,x,env4,Ry,re2.stp sy R2,zx,e4,λσ4 re4=>⟨μ2,_,env4,Ry,re4,fl3,env3,h3,e5,λμ5 H5 σ5 s5' R5 re5=>?_⟩⟩;have s5:=sy.trans s5'
   cases fl3 with
   | nx=>
    simp only at el
    split at el
    ·rename_i sy5
     exact⟨m-1,by exact OZ4 him hil,μ5,h3,env3,s2.trans s5,zbe sy2 sy5,R5,re5,by exact OZ3 him hil,el⟩
    ·cases el
   | cnt=>
    simp only at el
    split at el
    ·rename_i sy5
     exact⟨m-1,by exact OZ4 him hil,μ5,h3,env3,s2.trans s5,zbe sy2 sy5,R5,re5,by exact OZ3 him hil,el⟩
    ·cases el
   |brk=>simp only[Z5,ZZ] at el;obtain⟨⟨rfl,rfl⟩,rfl⟩:=el;exact k μ5 H5 σ5 ((s1.trans s2).trans s5) R5 re5|ret r=>simp only[Z5,ZZ] at el;obtain⟨⟨rfl,rfl⟩,rfl⟩:=el;exact k μ5 H5 σ5 ((s1.trans s2).trans s5) R5 re5
end
end IT
namespace PySem
section
variable {prog:Zx}{w:World}{A:Around}{R:Result->Shared->Prop}{s:Shared}
theorem zjh(I:Nat->Shared->Prop)
  (turn : ∀n s,I n s->wpAny (model prog w) A (pyNext it) (λr s₁=>match r with
   |none=>R (.ok .next) s₁
   | some v=>wpAny (model prog w) A (XC target it v) (λ_ s₁'=>wpAny (model prog w) A (assign target env v) (λ_ s₂=>
     wpAny (model prog w) A (forIn ifs true λc r=>if r=true then do let ok<-isTrue c env (eval c env);pure (Yz ok) else pure (Yz r)) (λok s₃=>
      if ok=true then wpAny (model prog w) A (eval elt env) (λx s₄=>wpAny (model prog w) A (call (.builtin "list.append") [acc,x]) (λ_ s₅=>∃m,m<n/\I m s₅) (λ_ _=>False) s₄) (λ_ _=>False) s₃
      else ∃m,m<n/\I m s₃) (λ_ _=>False) s₂) (λ_ _=>False) s₁') (λ_ _=>False) s₁) (λ_ _=>False) s)
  (n:Nat) (h:I n s):
  W2 (model prog w) A (.compLoop (.ListComp elt [⟨target,iter,ifs,0⟩] scope pos) 0 it acc env) R s:=by
 refine codeAny_loop rfl I (λn s hI=>?_) n h
 show wpAny _ A ((compTurn (.ListComp elt [⟨target,iter,ifs,0⟩] scope pos) 0 it acc env).onRaise (λx=>do V9 x env;theTreesLotGoes x)) _ _ s
 refine wpAny_noted ?_;rw[compTurn_list];refine Z1 (wpAny_standAt (Z1 (ZF (turn n s hI) (λr s₁ h₁=>?_) λ_ _ h'=>h'.elim)))
 cases r with
 |none=>exact ZN h₁
 | some v=>
  refine Z1 (ZF h₁ (λ_ s₁' h₁'=>?_) λ_ _ h'=>h'.elim);refine Z1 (ZF h₁' (λ_ s₂ h₂=>Z1 (ZF h₂ (λok s₃ h₃=>?_) λ_ _ h'=>h'.elim)) λ_ _ h'=>h'.elim)
  cases ok with|false=>exact ZN ⟨rfl,h₃⟩|true=>exact Z1 (Z1 (ZF h₃ (λx s₄ h₄=>Z1 (ZF h₄ (λ_ s₅ h₅=>ZN (ZN ⟨rfl,h₅⟩)) λ_ _ h'=>h'.elim)) λ_ _ h'=>h'.elim))
end
theorem zdW(h:∀x∈scope.names,x.2=.free->∃c,env.cells.lookup x.1=some c):
  ∃cl,closureFor scope env=pure cl/\(∀x c,cl.lookup x=some c->env.cells.lookup x=some c)/\∀x∈scope.names,x.2=.free->∃c,cl.lookup x.1=some c:=by
 unfold closureFor
 have gen:∀(l:List (Str×Yh)) (cs:List (Str×Addr)),(∀x∈l,x.2=.free->∃c,env.cells.lookup x.1=some c)->(∀x c,cs.lookup x=some c->env.cells.lookup x=some c) →
   ∃ cl,(forIn l cs λ(x:Str×Yh) (r:List (Str×Addr))=>(if x.2==.free then do let c<-cellOf env x.1;pure (Yz ((x.1,c)::r)) else pure (Yz r):Sem (ForInStep (List (Str×Addr)))))=pure cl ∧
    (∀x c,cl.lookup x=some c->env.cells.lookup x=some c)/\(∀x c,cs.lookup x=some c->∃c',cl.lookup x=some c')/\∀x∈l,x.2=.free->∃c,cl.lookup x.1=some c:=by
  intro l
  induction l with
  |nil=>intro cs _ h2;exact⟨cs,rfl,h2,λx c e=>⟨c,e⟩,λx hx=>absurd hx (by simp)⟩
  | cons y l ih=>
   intro cs h1 h2
   by_cases hy:y.2=.free
   ·obtain ⟨c,hc⟩:=h1 y (by simp) hy
    have hcell:cellOf env y.1=pure c:=by unfold cellOf;rw[hc]
    obtain ⟨cl,e,a1,a2,a3⟩:=ih ((y.1,c)::cs) (λx hx=>h1 x (by simp[hx])) (λx c' e=>by
     rw[Zw] at e
     split at e
     ·rename_i hb
      cases e;rw[Z3 hb];exact hc
     ·exact h2 x c' e)
    refine⟨cl,?_,a1,λx c' e'=>?_,λx hx hf=>?_⟩
    ·rw [List.forIn_cons,if_pos (by rw[hy];rfl),hcell]
     exact e
    ·by_cases hb:(x==y.1)=true
     ·exact a2 x c (by rw[Zw,hb])
     ·exact a2 x c' (by rw[Zw];simp only[Bool.not_eq_true] at hb;rw[hb];exact e')
    ·rcases ZQ.mp hx with rfl | hx
     ·exact a2 x.1 c (by rw[Zw];simp)
     ·exact a3 x hx hf
   ·obtain ⟨cl,e,a1,a2,a3⟩:=ih cs (λx hx=>h1 x (by simp[hx])) h2
    refine⟨cl,?_,a1,a2,λx hx hf=>?_⟩
    ·rw [List.forIn_cons,if_neg (by intro z;exact hy (Z3 z))]
     exact e
    ·rcases ZQ.mp hx with rfl | hx
     ·exact absurd hf hy
     ·exact a3 x hx hf
 obtain⟨cl,e,a1,_,a3⟩:=gen scope.names [] h (λx c e=>by simp at e);refine⟨cl,?_,a1,a3⟩
 show(forIn scope.names ([]:List (Str×Addr)) (λ(x:Str×Yh) (r:List (Str×Addr))=>(if x.2==.free then do let c<-cellOf env x.1;pure (Yz ((x.1,c)::r)) else pure (Yz r):Sem (ForInStep (List (Str×Addr))))) >>= λcs=>pure cs)=pure cl
 rw[e];rfl
end PySem
namespace IT
open PySem PySem.Spec L2
def clrS:List Nat->St->St| [],σ=>σ|i::r,σ=>clrS r (σ.set i none)
theorem zgL:∀(own:List Nat) (σ:St),(clrS own σ).length=σ.length| [],_=>rfl|i::r,σ=>by simp[clrS,zgL r]
theorem zhb:∀(own:List Nat) (σ:St) (i:Nat) (v:V),(clrS own σ)[i]?=some (some v)->σ[i]?=some (some v)/\i∉own
 | [],σ,i,v,e=>⟨e,by simp⟩
 | j::r,σ,i,v,e=>by
  obtain⟨e1,n1⟩:=zhb r (σ.set j none) i v e
  by_cases hij:i=j
  ·subst hij
   rw[List.getElem?_set] at e1;simp only[if_true] at e1
   split at e1<;>cases e1
  ·rw [ZE (Y5 hij)] at e1
   exact⟨e1,by simp[hij,n1]⟩
def blk(X:Cx)(N':List Str)(s₂:Shared)(H₂:Hp)(cenv:YI)(fp:List Addr)(pins:List (Addr×Obj)):Cx:={X with N:=N',s₀:=s₂,H₀:=H₂,env:=cenv,outer:=X.stack,ex:=fp,fn:=λ_=>false,pn:=X.pn++pins}
def PTs(X:Cx)(ifs:List Expr)(t:TT):Prop:=
 ∀ (pins:List (Addr×Obj)) (s:Shared) (σ:St) (H:Hp) (Q:Bool->Hp->Prop),Inv X pins σ H s->t σ H Q →
  wpAny (model X.prog X.w) X.A (forIn ifs true λc r=>if r=true then do let ok<-isTrue c X.env (eval c X.env);pure (Yz ok) else pure (Yz r)) (TP X pins σ Q) X.xe s
theorem zro:PTs X [] (λ_ H Q=>Q true H):=λpins s σ H Q I q=>wpAny_tests_nil ⟨H,I,q⟩
theorem zrw(h:PT X c t):PTs X [c] t:=λpins s σ H Q I q=>wpAny_tests_one (h pins s σ H Q I q)
def ziT(wi:TI)(own:List Nat)(g:TG)(tc:TT)(te:TE):TE:=λσ H Q=>wi σ H λJ H1=>∃W:Nat->Nat->List V->Hp->Prop,(∃m,W 0 m [] H1)/\∀i m vs H,W i m vs H →
 (J.stop i H/\vs.length<=sizeLine/\∀a,H a=none->Q (.ref a) (upd H a (.lst vs)))\/
 (J.go i H/\vs.length<sizeLine/\∀x H',J.yld i H x H'->g x (clrS own σ) H' λσ2 H2=>tc σ2 H2 λb H3=>if b=true then te σ2 H3 λv H4=>∃m',m'<m/\W (i+1) m' (vs++[v]) H4 else ∃m',m'<m/\W (i+1) m' vs H3)
section
variable {X:Cx}
theorem zqc{cl:List (Str×Addr)}(hcell:∀y∈scope.names,y.2≠.cell)(hcl2:∀x∈scope.names,x.2=.free->∃c,cl.lookup x.1=some c):∀x,Vis (relabel scope X.env) x->(relabel scope X.env).names.lookup x≠some .local->∃c,cl.lookup x=some c:=by
 intro x hv hnl
 have : ∀(l:List (Str×Yh)),(∀y∈l,y.2≠.cell)->(∀y∈l,y.2=.free->∃c,cl.lookup y.1=some c)->∀k,(k=.cell\/k=.free) →
   (l.map λ(n,k)=>if(k==WZ&&X.env.scope.kind==.function&&X.env.kindOf n==some .cell) then(n,Yh.cell) else(n,k)).lookup x=some k->∃c,cl.lookup x=some c:=by
  intro l
  induction l with
  |nil=>intro _ _ k _ e;simp at e
  | cons y l ih=>
   intro h1 h2 k hkk e;obtain⟨n,kd⟩:=y;rw[ZC] at e
   by_cases hb:(kd==WZ&&X.env.scope.kind==.function&&X.env.kindOf n==some .cell)=true
   ·simp only[hb,if_true] at e
    rw[Zw] at e
    split at e
    ·rename_i hx
     rw[Z3 hx];refine h2 (n,kd) (by simp) ?_;rw[Z8,Z8] at hb;exact Z3 hb.1.1
    ·exact ih (λy hy=>h1 y (by simp[hy])) (λy hy=>h2 y (by simp[hy])) k hkk e
   ·simp only[hb] at e
    rw[Zw] at e
    split at e
    ·rename_i hx
     have e':kd=k:=by simpa using e
     subst e';rw[Z3 hx]
     rcases hkk with z | z
     ·exact absurd z (h1 (n,kd) (by simp))
     ·exact h2 (n,kd) (by simp) z
    ·exact ih (λy hy=>h1 y (by simp[hy])) (λy hy=>h2 y (by simp[hy])) k hkk e
 rcases hv with z | z | z
 ·exact absurd z hnl
 ·exact this scope.names hcell hcl2 .cell (.inl rfl) z
 ·exact this scope.names hcell hcl2 .free (.inr rfl) z
theorem zsg{own:List Nat}{H₂:Hp}{s₂:Shared}{fp:List Addr}{h₄:Heap}{tk:Nat}
  (hkind:scope.kind=.function) (hcell:∀y∈scope.names,y.2≠.cell)
  (hN:∀(i:Nat) (x:Str),N'[i]?=some x->Vis (relabel scope X.env) x->i∈own\/(X.N[i]?=some x/\(X.env.kindOf x=some .cell\/X.env.kindOf x=some .free)/\(relabel scope X.env).names.lookup x≠some .local))
  (hlen:N'.length=X.N.length) (hcl1:∀x c,cl.lookup x=some c->X.env.cells.lookup x=some c) (hcl2:∀x∈scope.names,x.2=.free->∃c,cl.lookup x.1=some c)
  (I:Inv X pins σ H₂ s₂) (hf:∀b∈fp,FpOk X pins H₂ b) (hex:∀b∈fp,b<s₂.heap.objs.size)
  (hk:∀b o,s₂.heap.get? b=some o->h₄.get? b=some o) (hns:∃m,h₄.Ns (s₂.heap.objs.size+1) m) (hacc:h₄.get? s₂.heap.objs.size=some {cls:=.type "list",data:=.seq #[]}):
  Inv (blk X N' s₂ H₂ (Y3 scope cl (s₂.heap.objs.size+1) X.env) fp pins) [(s₂.heap.objs.size,{cls:=.type "list",data:=.seq #[]})] (clrS own σ) H₂ {s₂ with heap:=h₄,toks:=tk}:=by
 have fsub:∀b∈frs X.stack,b=X.env.locals\/b∈X.fs:=λb hb=>ZQ.mp (I.stkSub b hb);have fresh:∀b,s₂.heap.objs.size<=b->H₂ b=none:=λb hb=>I.hok.fresh hb
 have flt:∀b∈frs X.stack,b<s₂.heap.objs.size:=λb hb=>by obtain⟨_,o,ho,_⟩:=I.stack.mem hb;exact ZP ho
 have vis_free:=zqc (X:=X) hcell hcl2
 refine ⟨⟨I.ok.mod,?_,I.ok.glob,I.ok.blt,Xw _,λx y c e1 e2=>I.ok.inj x y c (hcl1 x c e1) (hcl1 y c e2),λx hx=>?_,λx c e=>absurd (show false=true from e) Bool.false_ne_true,I.ok.hd,I.ok.frames,.inl rfl,λb hb=>⟨?_,λx c e=>?_⟩,I.bs,Y6 I.ok.bsz I.sz,λb o e hb=>?_,λb hb hb2=>?_,I.stack,I.stkFree⟩,
  rfl,I.bare,Un.kept hk,?_,λx c e=>?_,fresh _ (Xw _),λx c e=>I.freeC x c (hcl1 x c e),λp hp=>?_,I.hok.kept hk,?_⟩
 ·exact hkind
 ·rcases hx with z | z
  ·exact vis_free x (.inr (.inl z)) (by
    have z':(relabel scope X.env).names.lookup x=some .cell:=z
    rw[z'];decide)
  ·exact vis_free x (.inr (.inr z)) (by
    have z':(relabel scope X.env).names.lookup x=some .free:=z
    rw[z'];decide)
 ·exact ZJ (YB (hex b hb))
 ·exact(hf b hb).2.2.2.2.1 x c (hcl1 x c e)
 ·rcases (hf b hb).2.2.2.1 with z | z
  ·exact I.ok.noex b o e z
  ·have h1:b<X.base.objs.size:=ZP e
   have h2:=I.ok.bsz;exact absurd (ZI h1 (Y6 h2 z)) (YR _)
 ·rcases fsub b hb2 with z | z
  ·exact(hf b hb).2.1 z
  ·exact(hf b hb).2.2.1 z
 ·obtain ⟨m,hm⟩:=hns
  obtain⟨mX,_,hl⟩:=I.loc;refine⟨m,hm,λi x v e1 e2 e3=>?_⟩;obtain⟨e2',ni⟩:=zhb own σ i v e2
  rcases hN i x e1 e3 with z|⟨z,zk,nl⟩
  ·exact absurd z ni
  ·have vx:Vis X.env.scope x:=by
    rcases zk with q | q
    ·exact .inr (.inl q)
    ·exact .inr (.inr q)
   obtain⟨u,ru,lk⟩:=hl i x v z e2' vx;refine⟨u,ru,?_⟩
   rcases lk with⟨q,_⟩|⟨_,c,ec,hcv⟩
   ·rcases zk with q' | q'
    ·rw[q] at q';cases q'
    ·rw[q] at q';cases q'
   ·obtain ⟨c',ec'⟩:=vis_free x e3 nl
    have:=hcl1 x c' ec'
    rw[ec] at this;cases this;refine .inr ⟨?_,c,ec',hcv.keeps hk⟩
    rcases e3 with q | q | q
    ·exact absurd q nl
    ·exact .inl q
    ·exact .inr q
 ·obtain ⟨v,q⟩:=I.cell x c (hcl1 x c e)
  exact⟨v,q.keeps hk⟩
 ·rcases Zl.mp hp with z | z
  ·obtain ⟨e1,e2,e3,e4,e5⟩:=I.pin p z
   refine⟨hk _ _ e1,e2,ZJ (YB (ZP e1)),λhb=>?_,e5⟩
   rcases fsub p.1 hb with q | q
   ·exact e3 q
   ·exact e4 q
  ·have ep:p=(s₂.heap.objs.size,({cls:=.type "list",data:=.seq #[]}:Obj)):=by simpa using z
   subst ep;exact⟨hacc,fresh _ (Z0 _),ZJ (Yi _),λhb=>absurd (flt _ hb) (YR _),λv q=>by cases q⟩
 ·show (clrS own σ).length=N'.length
  rw[zgL,hlen];exact I.len
theorem ziz{own:List Nat}{σ σ':St}{H₂ H':Hp}{s₂ s':Shared}{fp:List Addr}
  (hcell:∀y∈scope.names,y.2≠.cell)
  (hN:∀(i:Nat) (x:Str),N'[i]?=some x->Vis (relabel scope X.env) x->i∈own\/(X.N[i]?=some x/\(X.env.kindOf x=some .cell\/X.env.kindOf x=some .free)/\(relabel scope X.env).names.lookup x≠some .local))
  (hlen:N'.length=X.N.length) (hcl1:∀x c,cl.lookup x=some c->X.env.cells.lookup x=some c) (hcl2:∀x∈scope.names,x.2=.free->∃c,cl.lookup x.1=some c)
  (I:Inv X pins σ H₂ s₂) (hf:∀b∈fp,FpOk X pins H₂ b) (J:Inv (blk X N' s₂ H₂ (Y3 scope cl C X.env) fp pins) pl σ' H' s'):Inv (blk X N' s₂ H₂ (Y3 scope cl C X.env) fp pins) pl (clrS own σ) H' s':=by
 refine⟨J.ok,J.os,J.bare,J.base,?_,J.cell,J.free,J.freeC,J.pin,J.hok,?_⟩
 ·obtain ⟨m,hm,_⟩:=J.loc
  obtain⟨mX,_,hl⟩:=I.loc;refine⟨m,hm,λi x v e1 e2 e3=>?_⟩;obtain⟨e2',ni⟩:=zhb own σ i v e2
  rcases hN i x e1 e3 with z|⟨z,zk,nl⟩
  ·exact absurd z ni
  ·have vx:Vis X.env.scope x:=by
    rcases zk with q | q
    ·exact .inr (.inl q)
    ·exact .inr (.inr q)
   obtain⟨u,ru,lk⟩:=hl i x v z e2' vx;refine⟨u,ru,?_⟩
   rcases lk with⟨q,_⟩|⟨_,c,ec,o,ho,hd⟩
   ·rcases zk with q' | q'
    ·rw[q] at q';cases q'
    ·rw[q] at q';cases q'
   ·obtain ⟨c',ec'⟩:=zqc (X:=X) hcell hcl2 x e3 nl
    have:=hcl1 x c' ec'
    rw[ec] at this;cases this
    have hcv:s'.heap.IsCell c (some u):=by obtain⟨sl,q⟩:=J.base.any ho (I.freeC x c ec) λhb=>(hf c hb).2.2.2.2.1 x c ec rfl;exact⟨_,q,hd⟩
    refine .inr ⟨?_,c,ec',hcv⟩
    rcases e3 with q | q | q
    ·exact absurd q nl
    ·exact .inl q
    ·exact .inr q
 ·show (clrS own σ).length=N'.length
  rw[zgL,hlen];exact I.len
theorem zo2
  (I:Inv X pins σ H₂ s₂) (hf:∀b∈fp,FpOk X pins H₂ b) (J:Inv (blk X N' s₂ H₂ cenv fp pins) pl σ' H' s') (hacc:s₂.heap.objs.size<=acc) (hn:H' acc=none)
  (ho:s'.heap.get? acc=some {cls:=.type "list",data:=.seq its.toArray n}) (r:Vals vs its) (hz:vs.length<=sizeLine):Inv X pins σ (upd H' acc (.lst vs)) s':=by
 have lt:∀b o,s₂.heap.get? b=some o->b≠acc:=λb o e z=>absurd (ZI (ZP e) (by rw[z];exact hacc)) (YR _)
 refine I.call' (ch:=fp) J.os ⟨J.base.keep,J.base.slot,λb o e n hx=>?_,J.base.there,λb xs e=>?_,λb o u e=>?_,λb ps e=>?_⟩ (λb u e=>?_) J.bare (λb hb=>?_)
 ·rw [zaj (lt b o e)]
  exact J.base.free b o e n hx
 ·have:=J.base.tups b xs e
  rw[zaj (zan this hn)];exact this
 ·have:=J.base.frzs b o u e
  rw[zaj (zan this hn)];exact this
 ·obtain ⟨more,this⟩:=J.base.tbls b ps e
  refine⟨more,?_⟩;rw[zaj (zan this hn)];exact this
 ·by_cases hb:b=acc
  ·subst hb
   rw[zak] at e;cases e;exact⟨hz,its,n,r,ho⟩
  ·rw [zaj hb] at e
   exact(J.hok b u e).stay (λc o _ q=>q) (λc q=>by rw[zaj (zan q hn)];exact q) λc xs q=>by rw[zaj (zan q hn)];exact q
 ·obtain ⟨_,h1,_,h3,h4,h5⟩:=hf b hb
  exact⟨h3,h1,h4,h5⟩
end
section
variable {X:Cx}
structure Gone(X:Cx)(pins:List (Addr×Obj))(H:Hp)(C:Addr)(s:Shared):Prop where
 ns:∃m,s.heap.Ns C m
 free:H C=none
 loc:C≠X.env.locals
 fs:C∉X.fs
 new:X.s₀.heap.objs.size<=C
 cel:∀x c,X.env.cells.lookup x=some c->c≠C
 pin:∀p∈X.pn++pins,p.1≠C
inductive CI(P:List Value->Nat->Hp->Shared->Prop)(tn:Nat->Heap->Prop)(fp:List Addr)(W:Nat->Nat->List V->Hp->Prop)(n:Nat)(s':Shared):Prop|mk (i:Nat) (vs:List V) (H':Hp) (its:List Value) (nn:Nat) (J:P its nn H' s') (st:tn i s'.heap) (fr:∀b∈fp,H' b=none) (rv:Vals vs its) (w:W i n vs H')
theorem zis
  {cl:List (Str×Addr)} {RR:Value->Addr->Result->Shared->Prop}
  (hx:X.xe=λ_ _=>False) (hc:X.calm=true) (hkind:scope.kind=.function) (hcell:∀y∈scope.names,y.2≠.cell)
  (hN:∀(i:Nat) (x:Str),N'[i]?=some x->Vis (relabel scope X.env) x->i∈own\/(X.N[i]?=some x/\(X.env.kindOf x=some .cell\/X.env.kindOf x=some .free)/\(relabel scope X.env).names.lookup x≠some .local))
  (hlen:N'.length=X.N.length) (hcl1:∀x c,cl.lookup x=some c->X.env.cells.lookup x=some c) (hcl2:∀x∈scope.names,x.2=.free->∃c,cl.lookup x.1=some c)
  (hi:PI X tg iter wi)
  (hB:∀s₂ H₂ C fp,PG (blk X N' s₂ H₂ (Y3 scope cl C X.env) fp pins) tg g/\PTs (blk X N' s₂ H₂ (Y3 scope cl C X.env) fp pins) ifs tc/\PE (blk X N' s₂ H₂ (Y3 scope cl C X.env) fp pins) elt te)
  (I:Inv X pins σ H s) (q:ziT wi own g tc te σ H Q)
  (hRR:∀a C s' H',Inv X pins σ H' s'->Q (.ref a) H'->Gone X pins H' C s'->RR (.ref a) C (.ok .next) s'):
  wpAny (model X.prog X.w) X.A (eval iter X.env) (λx s₁=>wpAny (model X.prog X.w) X.A (pyIter x) (λit s₂=>wpAny (model X.prog X.w) X.A (newList []) (λacc s₃=>
   wpAny (model X.prog X.w) X.A (newFunctionEnv scope X.env.globals cl [] X.env.qual none .none (some X.env)) (λcenv s₄=>
    W2 (model X.prog X.w) X.A (.compStart (.ListComp elt [⟨tg,iter,ifs,0⟩] scope pos) 0 it acc {cenv with scope:=relabel scope X.env}) (RR acc cenv.locals) s₄) X.xe s₃) X.xe s₂) X.xe s₁) X.xe s:=by
 refine thn (hi pins s σ H _ I q) λv s1 h1=>thn h1 λitv s2 h2=>?_;obtain⟨it,fp,tn,J,H2,e,I2,T,st2,f2,W,⟨m0,w0⟩,turn⟩:=h2;subst e
 refine XV (wpAny_newFunctionEnv hcell (by intro y hy;simp at hy) (λh₁ hns₁ hsb₁=>?_) hkind)
 dsimp only at hns₁ hsb₁⊢;generalize hG:s2.heap.push {cls:=.type "list",dict:=none,data:=.seq ([]:List Value).toArray}=G at hns₁ hsb₁⊢
 have hGs:G.objs.size=s2.heap.objs.size+1:=by rw[<-hG,We]
 rw[hGs] at hns₁ hsb₁⊢;have hold:∀b o,s2.heap.get? b=some o->h₁.get? b=some o:=λb o e=>hsb₁.extBut b o (ZJ (YB (ZP e))) (Z2 _ (hG▸Z2 _ e));have hacc:h₁.get? s2.heap.objs.size=some {cls:=.type "list",data:=.seq #[]}:=hsb₁.extBut _ _ (ZJ (Yi _)) (Z2 _ (hG▸Zp _ rfl))
 have hex:∀b∈fp,b<s2.heap.objs.size:=λb hb=>by obtain⟨o,ho,_⟩:=T.obj _ _ st2 b hb;exact ZP ho
 have J0:=zsg (X:=X) (own:=own) (tk:=s2.toks+([]:List (Str×Value)).length) hkind hcell hN hlen hcl1 hcl2 I2 f2 hex hold ⟨_,hns₁⟩ hacc;have st4:tn 0 h₁:=T.keep _ _ _ st2 λb hb o e=>hold b o e
 have frame:∀b∈frs X.stack,b≠X.env.locals->b∈X.fs:=λb hb hne=>by
  rcases ZQ.mp (I2.stkSub b hb) with z | z
  ·exact absurd z hne
  ·exact z
 have stat:∀{H':Hp} {pl:List (Addr×Obj)},(∀b∈fp,H' b=none)->(∀p∈pl,∀b∈fp,p.1≠b)->∀b∈fp,FpOk (blk X N' s2 H2 (Y3 scope cl (s2.heap.objs.size+1) X.env) fp pins) pl H' b:=by
  intro H' pl hn hp b hb;obtain⟨g0,g1,g2,g3,g4,g5⟩:=f2 b hb;refine⟨hn b hb,ZJ (YB (hex b hb)),λhs=>?_,.inl hb,λx c e=>g4 x c (hcl1 x c e),λp hpp=>?_⟩
  ·exact g2 (frame b hs g1)
  ·rcases Zl.mp hpp with z | z
   ·exact g5 p z
   ·exact hp p z b hb
 have accne:∀b∈fp,s2.heap.objs.size≠b:=λb hb z=>absurd (hex b hb) (by rw[<-z];exact YR _)
 have loop:W2 (model X.prog X.w) X.A (.compLoop (.ListComp elt [⟨tg,iter,ifs,0⟩] scope pos) 0 (.ref it) (.ref s2.heap.objs.size) (Y3 scope cl (s2.heap.objs.size+1) X.env)) (RR (.ref s2.heap.objs.size) (s2.heap.objs.size+1))
   {s2 with heap:=h₁,toks:=s2.toks+([]:List (Str×Value)).length}:=by
  refine zjh (CI (λits nn H' s'=>Inv (blk X N' s2 H2 (Y3 scope cl (s2.heap.objs.size+1) X.env) fp pins) [(s2.heap.objs.size,{cls:=.type "list",data:=.seq its.toArray nn})] (clrS own σ) H' s') tn fp W) ?_ m0 ⟨0,[],H2,[],0,J0,st4,λb hb=>(f2 b hb).1,.nil,w0⟩
  rintro n s3 ⟨i,vs,H3,its,nn,J3,st3,fr3,rv,w3⟩
  have pne:∀p∈[(s2.heap.objs.size,({cls:=.type "list",data:=.seq its.toArray nn}:Obj))],∀b∈fp,p.1≠b:=by
   intro p hp b hb
   have ep:p=(s2.heap.objs.size,({cls:=.type "list",data:=.seq its.toArray nn}:Obj)):=by simpa using hp
   rw[ep];exact accne b hb
  rcases turn i n vs H3 w3 with⟨stop,hz,qn⟩|⟨go,hz,step⟩
  ·refine ZF (T.done (blk X N' s2 H2 (Y3 scope cl (s2.heap.objs.size+1) X.env) fp pins) rfl rfl rfl hc i _ s3 _ H3 (λ_ _=>False) J3 (stat fr3 pne) st3 stop) (λr s4 q_=>?_) λ_ _ z=>z
   obtain⟨hr,I4⟩:=q_;subst hr;obtain⟨ea,na,_,_,_⟩:=I4.pin (s2.heap.objs.size,_) (ZB _ (Y2.mpr rfl));have I5:=zo2 (X:=X) I2 f2 I4 (Z0 _) na ea rv hz;obtain⟨m,hm,_⟩:=I4.loc;refine hRR _ _ s4 _ I5 (qn _ na) ⟨⟨m,hm⟩,?_,?_,λhb=>?_,?_,λx c e=>?_,λp hp=>?_⟩
   ·rw [zaj (WS (Yi _))]
    exact I4.free
   ·exact WS (YB I2.lt)
   ·exact I2.nofs (Xw _) hb
   ·exact Y6 I2.sz (Xw _)
   ·obtain ⟨v,z⟩:=I2.cell x c e
    exact ZJ (YB z.lt)
   ·exact ZJ (YB (ZP (I2.pin p hp).1))
  ·refine ZF (T.item (blk X N' s2 H2 (Y3 scope cl (s2.heap.objs.size+1) X.env) fp pins) rfl rfl rfl hc i _ s3 _ H3 (λ_ _=>False) J3 (stat fr3 pne) st3 go) (λr s4 q_=>?_) λ_ _ z=>z
   obtain⟨u,hr,h4⟩:=q_;subst hr;refine ZF h4 (λ_ s5 q_=>?_) λ_ _ z=>z;obtain⟨x,H5,I5,r5,y5,st5,fr5⟩:=q_;have I5':=I5.pinned (stat fr5 pne) (T.obj _ _ st5);obtain⟨hg,ht,he⟩:=hB s2 H2 (s2.heap.objs.size+1) fp
   have nx:∀{e:Value} {s:Shared},(blk X N' s2 H2 (Y3 scope cl (s2.heap.objs.size+1) X.env) fp pins).xe e s->False:=λz=>by have z':X.xe _ _:=z;rw[hx] at z';exact z'
   refine ZF (hg _ s5 _ H5 x u _ I5' r5 (step x H5 y5)) (λ_ s6 q_=>?_) λ_ _ z=>nx z;obtain⟨σ6,H6,I6,q6⟩:=q_;refine ZF (ht _ s6 σ6 H6 _ I6 q6) (λok s7 q_=>?_) λ_ _ z=>nx z;obtain⟨H7,I7,q7⟩:=q_
   have keepIt:∀{σ8:St} {H8:Hp} {s8:Shared},Inv (blk X N' s2 H2 (Y3 scope cl (s2.heap.objs.size+1) X.env) fp pins) ([(s2.heap.objs.size,({cls:=.type "list",data:=.seq its.toArray nn}:Obj))]++zic fp s5.heap) σ8 H8 s8 →
     tn (i+1) s8.heap/\∀b∈fp,H8 b=none:=λ{σ8 H8 s8} I8=>by
    refine⟨T.keep _ _ _ st5 λb hb o e=>(I8.pin (b,o) (ZB _ (ZB _ (zcO hb e)))).1,λb hb=>?_⟩;obtain⟨o,e,d⟩:=T.obj _ _ st5 b hb;exact(I8.pin (b,o) (ZB _ (ZB _ (zcO hb e)))).2.1
   cases ok with
   |false=>simp only[Zz,if_false] at q7⊢;obtain⟨m',hm',w7⟩:=q7;obtain⟨k1,k2⟩:=keepIt I7;exact⟨m',hm',i+1,vs,H7,its,nn,ziz hcell hN hlen hcl1 hcl2 I2 f2 I7.unpinned,k1,k2,rv,w7⟩
   | true=>
    simp only[if_true] at q7⊢;refine ZF (he _ s7 σ6 H7 _ I7 q7) (λy s8 q_=>?_) λ_ _ z=>nx z;obtain⟨vy,H8,I8,r8,m',hm',w8⟩:=q_;obtain⟨k1,k2⟩:=keepIt I8;obtain⟨ea,na,nl,nf,nd⟩:=I8.unpinned.pin (s2.heap.objs.size,_) (ZB _ (Y2.mpr rfl));have hl:=rv.length
    refine X5 F.slot_list_append ⟨_,ea,rfl⟩ F.entry_list_append (F.args_list_append_2 _ _) (PySem.list_append s2.heap.objs.size its.toArray nn y (by rw[ZW];exact OZA hl.symm hz)) ⟨ea,?_⟩
    have J8:=ziz hcell hN hlen hcl1 hcl2 I2 f2 (I8.unpinned);have J8':Inv (blk X N' s2 H2 (Y3 scope cl (s2.heap.objs.size+1) X.env) fp pins) [] (clrS own σ) H8 s8:=J8.pins_of λp hp=>absurd hp (by simp);have up:=Xa (X6 λx_1=>x_1.push y) ea rfl;obtain⟨n',en⟩:∃n',X6 (λx_1=>x_1.push y) ({cls:=.type "list",data:=.seq its.toArray nn}:Obj)={cls:=.type "list",data:=.seq (its.toArray.push y) n'}:=⟨_,rfl⟩
    have J9:=J8'.turned (t':=s8.toks) (it:=s2.heap.objs.size) (h':=s8.heap.update s2.heap.objs.size (X6 λx_1=>x_1.push y)) (λb o hb e=>(Yy _ _ (Y5 hb)).trans e) na nl (.inr (Z0 _))
     (fun x c e=>by
      obtain⟨v,z⟩:=I2.cell x c (hcl1 x c e)
      exact ZJ z.lt)
     (fun p hp=>by
      have hp':p∈X.pn++pins:=by simpa[blk] using hp
      exact ZJ (ZP (I2.pin p hp').1))
    refine⟨m',hm',i+1,vs++[vy],H8,its++[y],n',?_,T.keep _ _ _ k1 λb hb o e=>(Yy _ _ (accne b hb)).trans e,k2,rv.append (.cons r8 .nil),w8⟩;refine J9.pins_of λp hp=>?_
    have ep:p=(s2.heap.objs.size,({cls:=.type "list",data:=.seq (its++[y]).toArray n'}:Obj)):=by simpa using hp
    subst ep;refine⟨?_,na,nl,nf,λv q=>by cases q⟩;show(s8.heap.update s2.heap.objs.size (X6 λx_1=>x_1.push y)).get? s2.heap.objs.size=_;rw[up];show some (X6 (λx_1=>x_1.push y) ({cls:=.type "list",data:=.seq its.toArray nn}:Obj))=_;rw[en];simp
 exact codeAny_compStart_list loop (T.self _ 0 _ _ _ st4 loop)
end
section
variable {X:Cx}
structure zks(X:Cx)(scope:Scope)(N':List Str)(own:List Nat):Prop where
 kind:scope.kind=.function
 cell:∀y∈scope.names,y.2≠.cell
 names:∀x∈scope.names,x.2=.local->scope.names.lookup x.1=some .local
 free:∀x∈scope.names,x.2=.free->X.env.kindOf x.1=some .cell\/X.env.kindOf x.1=some .free
 slots:∀(i:Nat) (x:Str),N'[i]?=some x->Vis (relabel scope X.env) x->i∈own\/(X.N[i]?=some x/\(X.env.kindOf x=some .cell\/X.env.kindOf x=some .free)/\(relabel scope X.env).names.lookup x≠some .local)
 len:N'.length=X.N.length
theorem Gone.turned(g:Gone X pins H C s)(I:Inv X pins σ H s)(sb:Xr C s.heap h'):Inv X pins σ H {s with heap:=h'}:=I.turned (t':=s.toks) (λb o hb e=>(sb.2 b hb).trans e) g.free g.loc (.inr g.new) g.cel g.pin
theorem zm3
  (hx:X.xe=λ_ _=>False) (hc:X.calm=true) (K:zks X scope N' own) (hi:PI X tg iter wi)
  (hB:∀cl pins s₂ H₂ C fp,PG (blk X N' s₂ H₂ (Y3 scope cl C X.env) fp pins) tg g/\PTs (blk X N' s₂ H₂ (Y3 scope cl C X.env) fp pins) ifs tc/\PE (blk X N' s₂ H₂ (Y3 scope cl C X.env) fp pins) elt te)
  (hs:∀x,YE iter X.env x=pure x):PE X (.ListComp elt [⟨tg,iter,ifs,0⟩] scope pos) (ziT wi own g tc te):=by
 intro pins s σ H Q I q;obtain⟨cl,hclos,hcl1,hcl2⟩:=zdW (scope:=scope) (env:=X.env) (λx hx hf=>I.ok.has x.1 (K.free x hx hf));rw[eval_ListComp];refine wpAny_comprehension_free (use:=none) rfl hs hclos K.kind K.names (zis hx hc K.kind K.cell K.slots K.len hcl1 hcl2 hi (hB cl pins) I q ?_);intro a C s' H' I' q' gn;obtain⟨m,hm⟩:=gn.ns;exact⟨m,hm,λh' sb=>⟨.ref a,H',gn.turned I' sb,rfl,q'⟩⟩
theorem zfT
  (hx:X.xe=λ_ _=>False) (hc:X.calm=true) (K:zks X scope N' own) (hi:PI X tg iter wi)
  (hB:∀cl pins s₂ H₂ C fp,PG (blk X N' s₂ H₂ (Y3 scope cl C X.env) fp pins) tg g/\PTs (blk X N' s₂ H₂ (Y3 scope cl C X.env) fp pins) ifs tc/\PE (blk X N' s₂ H₂ (Y3 scope cl C X.env) fp pins) elt te)
  (hs:∀x,YE iter X.env x=pure x) (hsw:Yk (.ListComp elt [⟨tg,iter,ifs,0⟩] scope pos) (some (.Name y py)) spos.line X.env=pure true)
  (hg:PG X (.Name y py) (zmW iy)):PS X (.Assign [.Name y py] (.ListComp elt [⟨tg,iter,ifs,0⟩] scope pos) spos) (tAsg (ziT wi own g tc te) (zmW iy)):=by
 intro pins s σ H D I q;obtain⟨cl,hclos,hcl1,hcl2⟩:=zdW (scope:=scope) (env:=X.env) (λx hx hf=>I.ok.has x.1 (K.free x hx hf));rw[exec_Assign_Name_used _ _ _ _ hsw];refine Z1 (wpAny_standAt (Z1 ?_));show wpAny _ X.A (do let _<-comprehension (.ListComp elt [⟨tg,iter,ifs,0⟩] scope pos) scope X.env _ (newList []) false (eval iter X.env) (some (assign (.Name y py) X.env))) _ _ s
 refine Z1 (ZF (wpAny_comprehension_free (use:=some (assign (.Name y py) X.env)) (Q:=λ_ s'=>SP X pins D .next s') rfl hs hclos K.kind K.names
  (zis hx hc K.kind K.cell K.slots K.len hcl1 hcl2 hi (hB cl pins) I q ?_)) (λ_ s' hq=>ZN (ZN hq)) λ_ _ e=>e)
 intro a C s' H' I' q' gn;obtain⟨m,o,es,ep,ho,hd,hr⟩:=id gn.ns
 have Ip:Inv X (pins++[(C,o)]) σ H' s':=I'.pins_of λp hp=>(Zl.mp hp).elim (λz=>I'.pin p (ZB _ z)) λz=>by
  have ep:p=(C,o):=by simpa using z
  subst ep
  exact⟨ho,gn.free,gn.loc,gn.fs,λv z=>by rw[hd] at z;cases z⟩
 refine thn (hg _ s' σ H' (.ref a) (.ref a) _ Ip rfl q') λ_ s'' q_=>?_;obtain⟨σ2,H2,I2,q2⟩:=q_;obtain⟨e1,e2,_,_,_⟩:=I2.pin (C,o) (ZB _ (ZB _ (Y2.mpr rfl)));have gn2:Gone X pins H2 C s'':=⟨⟨m,o,es,ep,e1,hd,hr⟩,e2,gn.loc,gn.fs,gn.new,gn.cel,gn.pin⟩;exact⟨m,⟨o,es,ep,e1,hd,hr⟩,λh' sb=>⟨σ2,H2,gn2.turned I2.unpinned sb,q2⟩⟩
theorem RepE.clr:∀(own:List Nat) {env:IT.Env} {σ:St},RepE K μ h H env σ->RepE K μ h H (clr own env) (clrS own σ)
 | [],env,σ,q=>q
 | i::r,env,σ,q=>by
  refine RepE.clr r ⟨by simp[q.len],λj rr e=>?_⟩
  by_cases hj:j=i
  ·subst hj
   rw[List.getElem?_set] at e;simp only[if_true] at e
   split at e<;>cases e
  ·rw [ZE (Y5 hj)] at e⊢
   exact q.get j rr e
structure ElK{α:Type}(K:Z7)(kp:R->M α)(Rel:List Addr->Sto->Hp->α->V->Prop):Prop where
 kp:∀{μ h H r v d h'},Rep K μ h H->RepR K μ h H r v->kp r h=some (d,h')->Stp μ h H μ h' H/\Rep K μ h' H/\Rel μ h' H d v
 stp:∀{μ h H μ' h' H' d v},Stp μ h H μ' h' H'->Rep K μ h H->Rel μ h H d v->Rel μ' h' H' d v
def zig{α:Type}(kp:R->M α)(t:Tg)(ft:IT.Env->M Bool)(fe:IT.Env->M R)(σ:IT.Env)(x:Ite):M (Option α):=bnd (zax t x (clr t.slots σ)) λσ'=>bnd (ft σ') λb=>if b then bnd (fe σ') λr=>bnd (kp r) λd=>ok (some d) else ok none
def tLsG{α:Type}(K:Z7)(Rel:List Addr->Sto->Hp->α->V->Prop)(f:IT.Env->M (List α)):TE:=λσ H Q=>∃μ h env,Rep K μ h H/\RepE K μ h H env σ/\∃xs h',f env h=some (xs,h') ∧
 ∀μ' H' a vs,Stp μ h H μ' h' H'->Rep K μ' h' H'->Paired (Rel μ' h' H') xs vs->H' a=none->Q (.ref a) (upd H' a (.lst vs))
theorem zgr{α β:Type}{F:α->β->Prop}{xs xs':List α}{ys ys':List β}(h:Paired F xs ys)(q:Paired F xs' ys'):Paired F (xs++xs') (ys++ys'):=by
 induction h with
 |nil=>exact q
 |cons r t ih=>exact .cons r ih
inductive CR{α:Type}(K:Z7)(Rel:List Addr->Sto->Hp->α->V->Prop)(tr:List Ite->M (List α))(w:Wk)(μ1:List Addr)(h1:Sto)(H1:Hp)(h':Sto)(zs:List α)(i m:Nat)(vs:List V)(H2:Hp):Prop|mk (μ2:List Addr) (h2:Sto) (ys rest:List α) (s2:Stp μ1 h1 H1 μ2 h2 H2) (sy2:zaM w.l h1 h2=true) (R2:Rep K μ2 h2 H2) (zy:Paired (Rel μ2 h2 H2) ys vs) (him:i+m=w.xs.length) (hyl:ys.length<=i) (el':tr (w.xs.drop i) h2=some (rest,h')) (eys:ys++rest=zs)
theorem zgm{α:Type}{K:Z7}{kp:R->M α}{Rel:List Addr->Sto->Hp->α->V->Prop}(el:ElK K kp Rel){t:Tg}{fi:IT.Env->M Wk}{ft:IT.Env->M Bool}{fe:IT.Env->M R}(hwl:∀σ h w h',fi σ h=some (w,h')->WlOk w h'){σ:St}{H:Hp}{Q:VK}
  (q:tLsG K Rel (λσ=>bnd (fi σ) λw=>zaO w.l (zig kp t ft fe σ) w.xs) σ H Q):ziT (tI K fi) t.slots (tGI K t) (tTv K ft) (tE K fe) σ H Q:=by
 obtain⟨μ,h,env,R0,re,zs,h',e,k⟩:=q;simp only[zab] at e;obtain⟨w,h1,e1,e2⟩:=e;refine⟨μ,h,env,R0,re,w,h1,e1,λμ1 H1 J s1 R1 W1 hz=>?_⟩
 refine⟨CR K Rel (zaO w.l (zig kp t ft fe env)) w μ1 h1 H1 h' zs,⟨w.xs.length,μ1,h1,[],zs,Stp.refl,zd9 _ _ (hwl _ _ _ _ e1),R1,.nil,by exact OZO,Z0 _,by rw[Xj];exact e2,rfl⟩,?_⟩
 rintro i m vs H2 ⟨μ2,h2,ys,rest,s2,sy2,R2,zy,him,hyl,el',eys⟩
 have hl:=zy.length
 cases hxx:w.xs[i]? with
 |none=>
  have hi':w.xs.length<=i:=by simpa using hxx
  have hi2:i=w.xs.length:=by exact OZr him hi'
  subst hi2;rw[Yx (Z0 _)] at el';simp only[zaO,zac] at el';obtain⟨rfl,rfl⟩:=el';rw[Ze] at eys;subst eys;exact .inl ⟨W1.stop μ2 h2 H2 s2 R2 sy2,by omega,λa ha=>k μ2 H2 a vs (s1.trans s2) R2 zy ha⟩
 | some x=>
  have hil:i<w.xs.length:=(Z9.mp hxx).1
  have hdrop:w.xs.drop i=x::w.xs.drop (i+1):=by
   rw[ZG hil]
   have:=(Z9.mp hxx).2
   rw[this]
  rw[hdrop] at el';simp only[zaO] at el';obtain⟨go,yld⟩:=W1.go μ2 h2 H2 i x s2 R2 sy2 hxx
  cases ef:zig kp t ft fe env x h2 with
  |none=>rw[ef] at el';cases el'
  | some p=>
   obtain⟨od,h3⟩:=p;rw[ef] at el';simp only[zig,zab] at ef;obtain⟨env4,h4,e4,tt,h5,e5,e6⟩:=ef
   have:=zdN e4
   subst this;refine .inr ⟨go,by exact OX7 hl.symm hyl him hil hz,λv H' hy=>?_⟩;obtain⟨sY,RY,zx⟩:=yld v H' hy;refine⟨μ2,_,clr t.slots env,x,env4,RY,RepE.clr _ ((re.stp (s1.trans s2) R0).stp sY R2),zx,e4,λσ4 re4=>⟨μ2,_,env4,RY,re4,tt,h5,e5,λμ5 H5 b s5' R5 hb=>?_⟩⟩;have s5:=sY.trans s5';subst hb;simp only at el'
   split at el'
   ·rename_i sy3
    simp only[zab,zac] at el';obtain⟨rest',h6,el'',er,rfl⟩:=el'
    cases tt with
    |false=>simp only[Zz,if_false,zac] at e6⊢;obtain⟨rfl,rfl⟩:=e6;refine⟨m-1,by exact OZ4 him hil,μ5,_,ys,rest',s2.trans s5,zbe sy2 sy3,R5,L2.Paired.mapP zy λd v z=>el.stp s5 R2 z,by exact OZ3 him hil,by omega,el'',?_⟩;rw[<-eys,<-er]
    |true=>
     simp only[if_true,zab,zac] at e6⊢;obtain⟨r,h7,e7,d,h8,e8,rfl,rfl⟩:=e6;refine⟨μ5,h5,env4,R5,re4.stp s5' RY,r,h7,e7,λμ6 H6 v6 s6 R6 q6=>?_⟩;obtain⟨s7,R7,zd⟩:=el.kp R6 q6 e8
     refine⟨m-1,by exact OZ4 him hil,μ6,_,ys++[d],rest',((s2.trans s5).trans s6).trans s7,zbe sy2 sy3,R7,zgr (L2.Paired.mapP zy λd v z=>el.stp s7 R6 (el.stp s6 R5 (el.stp s5 R2 z))) (.cons zd .nil),by exact OZ3 him hil,by simp;omega,el'',?_⟩
     rw[<-eys,<-er];simp
   ·cases el'
theorem zuH(K:Z7):ElK K fz (λμ h H d v=>RepD K (Live μ h) H d v):=⟨zpl,λs r q=>RepD.stp s r q⟩
theorem zu7(K:Z7):ElK K zbQ (λμ h H l v=>∃b,μ[l]?=some b/\v=.ref b):=by
 refine⟨λ{μ h H r v d h'} R0 q e=>?_,λs r ⟨b,e1,e2⟩=>⟨b,s.pre _ _ e1,e2⟩⟩
 cases r with
 |d x=>cases e
 | loc l=>
  (delta zbQ at e;(try dsimp only at e))
  split at e
  ·simp only[Z5,ZZ] at e
   obtain⟨rfl,rfl⟩:=e;exact⟨Stp.refl,R0,q⟩
  ·simp only[Z5,ZZ] at e
   obtain⟨rfl,rfl⟩:=e;exact⟨Stp.refl,R0,q⟩
  ·cases e
theorem zkA:∀{K:Z7} {A:Addr->Prop} {H:Hp} {xs:List D} {vs:List V},Paired (RepD K A H) xs vs->RepDs K A H xs vs|_,_,_,_,_,.nil=>.nil|_,_,_,_,_,.cons r t=>.cons r (zkA t)
def zs7(t:Tg)(ft:IT.Env->M Bool)(fe:IT.Env->M R)(σ:IT.Env)(x:Ite):M (Option D):=zig fz t ft fe σ x
theorem zmU{t:Tg}{fi:IT.Env->M Wk}(hwl:∀σ h w h',fi σ h=some (w,h')->WlOk w h'){H:Hp}{Q:VK}
  (q:tLs K (λσ=>bnd (fi σ) λw=>zaO w.l (zs7 t ft fe σ) w.xs) σ H Q):ziT (tI K fi) t.slots (tGI K t) (tTv K ft) (tE K fe) σ H Q:=by
 refine zgm (zuH K) hwl ?_;obtain⟨μ,h,env,R0,re,zs,h',e,k⟩:=q;exact⟨μ,h,env,R0,re,zs,h',e,λμ' H' a vs st R1 z ha=>k μ' H' a vs st R1 (zkA z) ha⟩
end
end IT
namespace IT
open PySem PySem.Spec L2
section
variable {X:Cx}
theorem zj6:PS X st (tS X.K λ_ _=>none):=λpins s σ H D I ⟨μ,h,env,R0,re,fl,env',h',e,k⟩=>by cases e
theorem zoM:IE X e (λ_ _=>none):=λpins s σ H Q I ⟨μ,h,env,R0,re,r,h',e,k⟩=>by cases e
theorem RepDs.rev:∀{xs:List D} {vs:List V},RepDs K A H xs vs->RepDs K A H xs.reverse vs.reverse| [],vs,q=>by simp only[RepDs] at q;subst q;exact .nil|x::xs,vs,q=>by simp only[RepDs] at q;obtain⟨v,r,rfl,q1,q2⟩:=q;rw[Xl,Xl];exact(RepDs.rev q2).app (.one q1)
theorem zuP(hg:Gl X "list")(hm:X.mg "list"=none)(he:IE X e f)(hs:ZY [e] X.env=[(false,eval e X.env)]):IL X (.Call (.Name "list" p) [e] [] pos) (λσ=>bnd (f σ) λr=>bnd (rd r) λd=>opt (items d)):=by
 refine PE.imp (zdR ziq hg hm PyProof.Rows.boot_list (zbG he zc2 hs) (by decide) (by decide) hs rfl) λσ H Q q0=>?_;obtain⟨μ,h,env,R0,re,xs,h',e,k⟩:=q0;simp only[zab,zar] at e;obtain⟨r,h1,e1,d,h2,e2,e3,rfl⟩:=e;refine⟨μ,h,env,R0,re,r,h1,e1,λμ1 H1 v s1 R1 q1=>?_⟩;obtain⟨rfl,z⟩:=zbL R1 q1 e2
 cases d with|tup ys=>simp only[RdD,RepD] at z;obtain⟨a,vs,rfl,q,zs⟩:=z;simp only[items,Z5] at e3;subst e3;exact⟨a,vs,rfl,.inr q,λl hl=>k μ1 H1 l vs s1 R1 zs hl⟩|lst ys=>obtain⟨a,vs,rfl,q,zs⟩:=z;simp only[items,Z5] at e3;subst e3;exact⟨a,vs,rfl,.inl q,λl hl=>k μ1 H1 l vs s1 R1 zs hl⟩|_=>simp[items] at e3
theorem ztt(ha:IE X a f)(hb:IE X b g):IL X (.BinOp a .Add b pos) (λσ=>bnd (f σ) λx=>bnd (g σ) λy=>bnd (rd x) λx=>bnd (rd y) λy=>opt (catD x y)):=by
 refine PE.imp (zsk znb ha hb) λσ H Q q0=>?_;obtain⟨μ,h,env,R0,re,xs,h',e,k⟩:=q0;simp only[zab,zar] at e;obtain⟨x,h1,e1,y,h2,e2,dx,h3,e3,dy,h4,e4,e5,rfl⟩:=e;refine⟨μ,h,env,R0,re,x,h1,e1,λμ1 H1 v s1 R1 q1=>⟨μ1,h1,env,R1,re.stp s1 R0,y,h2,e2,λμ2 H2 u s2 R2 q2=>?_⟩⟩;obtain⟨rfl,zx⟩:=zbL R2 (q1.stp s2 R1) e3;obtain⟨rfl,zy⟩:=zbL R2 q2 e4
 cases dx with
 | lst xs1=>
  cases dy with
  | lst xs2=>
   (delta catD at e5;(try dsimp only at e5))
   split at e5
   ·rename_i hf
    cases e5;obtain⟨p,vs,rfl,q1,z1⟩:=zx;obtain⟨p',vs',rfl,q2,z2⟩:=zy;have l1:=z1.length;have l2:=z2.length;have hlen:xs1.length+xs2.length<=sizeLine:=of_decide_eq_true hf;exact⟨p,p',vs,vs',rfl,rfl,q1,q2,by exact OZW l1.symm l2.symm hlen,λr hr=>k μ2 H2 r _ (s1.trans s2) R2 (z1.app z2) hr⟩
   ·cases e5
  |_=>exact zaf e5
 |_=>cases dy<;>exact zaf e5
theorem zsT(ha:IE X a f)(hst:PE X st (tC (.int (-1)))):IL X (.Subscript a (.Slice none none (some st) p2) pos) (λσ=>bnd (f σ) λr=>bnd (rd r) λd=>opt (revD d)):=by
 intro pins s σ H Q I ⟨μ,h,env,R0,re,xs,h',e,k⟩;simp only[zab,zar] at e;obtain⟨r,h1,e1,d,h2,e2,e3,rfl⟩:=e;refine PyProof.Rows.Subscript_ (thn (ha pins s σ H (λv H1=>∃a vs,v=.ref a/\SqL X.K H1 a vs/\∀l,H1 l=none->Q (.ref l) (upd H1 l (.lst vs.reverse))) I ⟨μ,h,env,R0,re,r,h1,e1,λμ1 H1 v s1 R1 q1=>?_⟩) λv s1 ⟨x,H1,I1,r1,q1⟩=>?_)
 ·obtain ⟨rfl,z⟩:=zbL R1 q1 e2
  cases d with|lst ys=>obtain⟨a,vs,rfl,q,zs⟩:=z;replace e3:=ZU e3;subst e3;exact⟨a,vs,rfl,q,λl hl=>k μ1 H1 l _ s1 R1 (RepDs.rev zs) hl⟩|_=>exact zaf e3
 ·obtain ⟨a',vs,rfl,hq,q⟩:=q1
  cases r1
  refine wpAny_Slice (by
   rw[evalPart_none];refine ZN ?_;refine ZN ?_;rw[evalPart_some];refine thn (hst pins s1 σ H1 (λx H'=>x=.int (-1)/\H'=H1) I1 ⟨rfl,rfl⟩) λu s3 q_=>?_;obtain⟨x,H3,I3,r3,q3⟩:=q_;obtain⟨rfl,rfl⟩:=q3;obtain⟨t,rfl⟩:=r3;have I4:Inv X pins σ H3 {s3 with heap:=s3.heap.push {cls:=.type "slice",data:=.fields #[.none,.none,.int (-1) t]}}:=I3.kept (t':=s3.toks) λb ob q=>Z2 _ q;obtain⟨its,ri,pl,hz⟩:=I4.list hq;have hlen:=ri.length;show wpAny (model X.prog X.w) X.A (PyProof.Rows.subscriptTail a (.Slice none none (some st) p2) (.ref a') (.ref s3.heap.objs.size)) (EP X pins σ Q) X.xe {s3 with heap:=s3.heap.push {cls:=.type "slice",data:=.fields #[.none,.none,.int (-1) t]}};refine PyProof.Rows.tail_any (ops:=[.ref a',.ref s3.heap.objs.size]) pl.isList.typeIs PySem.slot_list_getitem.lookup ?_ (by with_unfolding_all rfl)
   refine wpAny_getItem_list_slice pl.isList (Heap.IsSliceOf.new ..) .none .none (.int (-1) t) (by decide) ?_ (by rw[ZW];exact OZ6 hlen.symm hz)
   rw[PySem.W.krv_pick]
   exact⟨.ref _,_,I4.lnew (t':=s3.toks) ri.reverse (by rw[List.length_reverse];exact hz),rfl,q _ I4.fresh⟩)
section
variable {prog:Zx}{w:World}{A:Around}{R:Result->Shared->Prop}{I:Addr}{fp wr:List Addr}{n:Nat}{P:Nat->Value->Prop}{St:Nat->Heap->Prop}{Hs:Shared->Prop}
end
end
section
variable {K:Z7}
end
section
variable {X:Cx}
theorem RepDs.dropLast(q:RepDs K A H xs vs):RepDs K A H xs.dropLast vs.dropLast:=by rw[List.dropLast_eq_take,List.dropLast_eq_take,q.length];exact q.take _
theorem RepDs.eraseIdx(k:Nat)(q:RepDs K A H xs vs):RepDs K A H (xs.eraseIdx k) (vs.eraseIdx k):=by rw[Xb,Xb];exact(q.take k).app (q.drop (k+1))
end
end IT
namespace IT
open PySem PySem.Spec L2
open PySem.StrLaws Builtin.Str
section
variable {X:Cx}
theorem ze6{α β:Type}{p:α->Bool}{f:β->Bool}:∀{xs:List α} {ys:List β},xs.length=ys.length->(∀(j:Nat) (x:α) (y:β),xs[j]?=some x->ys[j]?=some y->f y=p x)->ys.countP f=xs.countP p| [],[],_,_=>rfl| [],_::_,h,_=>by simp at h|_::_,[],h,_=>by simp at h|x::xs,y::ys,h,k=>by rw[List.countP_cons,List.countP_cons,ze6 (xs:=xs) (ys:=ys) (by simpa using h) (λj x y hx hy=>k (j+1) x y (by simpa using hx) (by simpa using hy)),k 0 x y rfl rfl]
def lmI:Lm->String|.count=>"list.count"|.index=>"list.index"|.countT=>"tuple.count"
theorem zuU(hu:X.A.units+64<cLine)(m:Lm):MtR X (lmI m) (λx vs H Q=>∃μ h xs d v z,Rep X.K μ h H/\RdD X.K (Live μ h) H (.lst xs) x/\vs=[v]/\RdD X.K (Live μ h) H d v/\lmD m (.lst xs) d=some z/\(∀w,RepD X.K (Live μ h) H z w->Q w H)):=by
 intro pins s σ H x vs v us Q I rx rs q;obtain⟨μ,h,xs,d,vd,z,R0,qx,rfl,qd,e,k⟩:=q;obtain⟨p,ws,rfl,sq,zz⟩:=qx;cases rx;obtain⟨u,rfl,ru⟩:=rs.one;obtain⟨its,ri,⟨o,n,e1,hc,hdd,hs⟩,hz⟩:=I.list sq;obtain⟨cls,dd,data,sl⟩:=o;simp only at hc hdd hs;subst hc hdd hs
 have hlen:xs.length=its.length:=by rw[zz.length,ri.length]
 cases m with
 | count=>
  (delta lmD at e;(try dsimp only at e))
  split at e
  ·rename_i hd
   cases e;obtain⟨f,f1,f2⟩:=zkz hu I qd ru (of_decide_eq_true hd) zz ri;refine X5 F.slot_list_count ⟨_,e1,rfl⟩ F.entry_list_count (F.args_list_count_2 _ _) (SeqAt.list_countAt p its.toArray n none sl u f) ⟨e1,f1,?_⟩
   have ec:(its.toArray.toList.countP f:Nat)=xs.countP λy=>y.eqb d:=by simpa using ze6 hlen f2
   rw[ec];exact⟨.int _,H,I.tok _,⟨_,rfl⟩,k _ (by simp only[RepD])⟩
  ·cases e
 | index=>
  (delta lmD at e;(try dsimp only at e))
  split at e
  ·rename_i hd
   cases hj:xs.findIdx? (λy=>y.eqb d) with
   |none=>rw[hj] at e;cases e
   | some j=>
    rw[hj] at e;cases e;obtain⟨f,f1,f2⟩:=zkz hu I qd ru (of_decide_eq_true hd) zz ri;obtain⟨jl,j1,j2⟩:=List.findIdx?_eq_some_iff_getElem.mp hj
    have fa:∀(i:Nat) (hi:i<its.toArray.size),f its.toArray[i]=(xs[i]'(by rw[hlen];simpa using hi)).eqb d:=by
     intro i hi
     have hi2:i<its.length:=by simpa using hi
     exact f2 i _ _ (Z6 (by rw[hlen];exact hi2)) (by simp)
    refine X5 F.slot_list_index ⟨_,e1,rfl⟩ F.entry_list_index (F.args_list_index_2 _ _) (SeqAt.list_indexAt p its.toArray n none sl u f j (by simp;exact OZ9 jl hlen.symm) ?_ ?_ ?_) ⟨e1,f1,?_⟩
    ·have h5:ws.length<=sizeLine:=hz
     have h6:sizeLine=16777216:=rfl;have h7:=zz.length;exact OYt jl h7 hlen hz h6
    ·rw[fa];exact j1
    ·intro i hi hij
     rw[fa]
     simpa using j2 i hij
    ·exact⟨.int _,H,I.tok _,⟨_,rfl⟩,k _ (by simp only[RepD])⟩
  ·cases e
 |countT=>exact zaf e
def lmS:Lm->Str|.count=>"count"|.index=>"index"|.countT=>"count"
theorem zvI(hu:X.A.units+64<cLine)(hnt:m≠.countT)(ho:IE X o f)(he:IE X e g)(hname:name=lmS m)
  (hbase:YQ o name X.env (eval o X.env)=eval o X.env)
  (hfew:((backTo cpos (ZY [e] X.env)).all (λx=>!x.1)&&(XT cpos (YG [] X.env)).all (λx=>x.1.isSome)
   && decide ([e].length+([]:List X7).length+(if([]:List X7).isEmpty then 0 else 1)<30))=true)
  (hline:(apos.endLine==cpos.line)=true) (hs:ZY [e] X.env=[(false,eval e X.env)]) (hplain:(backTo cpos (ZY [] X.env)).any (·.1)=false):
  IE X (.Call (.Attribute o name apos) [e] [] cpos) (λσ=>bnd (f σ) λx=>bnd (rd x) λ_=>bnd (g σ) λy=>bnd (rd x) λx=>bnd (rd y) λy=>bnd (opt (lmD m x y)) λz=>ok (.d z)):=by
 have slot:Slot "list" name (lmI m):=by
  subst hname
  cases m with|count=>exact PySem.F.slot_list_count|index=>exact PySem.F.slot_list_index|countT=>exact absurd rfl hnt
 have hty:typeOf (.builtin (lmI m))=pure (.type "method_descriptor"):=by
  cases m with|count=>exact PySem.F.type_list_count|index=>exact PySem.F.type_list_index|countT=>exact absurd rfl hnt
 refine PE.imp (zqT PySem.F.plainAttrs_list slot hty (zuU hu m) ho (zbG he zc2 hs) hbase hfew hline hs hplain) λσ H Q q0=>?_;obtain⟨μ,h,env,R0,re,r,h',e,k⟩:=q0;simp only[zab,zar,zac] at e;obtain⟨x,h1,e1,d1,h1',e0,y,h2,e2,dx,h3,e3,dy,h4,e4,z,h5,⟨e5,rfl⟩,rfl,rfl⟩:=e;refine⟨μ,h,env,R0,re,x,h1,e1,λμ1 H1 v s1 R1 q1=>?_⟩;obtain⟨rfl,_⟩:=zbL R1 q1 e0
 have hd:∃xs,dx=.lst xs:=by
  cases dx with
  |lst xs=>exact⟨xs,rfl⟩
  |_=>cases m<;>first | exact absurd rfl hnt | exact zaf e5
 obtain⟨xs,rfl⟩:=hd
 have ty:tyV X.K "list" v H1:=by
  cases x with|loc l=>obtain⟨a,ea,rfl⟩:=q1;obtain⟨o1,ho1,il1,_,_⟩:=zeC e0;obtain⟨vs1,hH1,z1⟩:=R1.placeL ea ho1 il1;exact .inl ⟨rfl,vs1,.inl (.inl hH1)⟩|d d0=>simp only[rd,zac] at e3;obtain⟨rfl,rfl⟩:=e3;simp only[RepR,RepD] at q1;obtain⟨a,ws,rfl,sq,zz⟩:=q1;exact .inl ⟨rfl,ws,sq.sq⟩
 refine⟨ty,μ1,_,env,R1,re.stp s1 R0,y,h2,e2,λμ2 H2 w s2 R2 q2=>?_⟩;have q1':=RepR.stp s2 R1 q1;obtain⟨rfl,zx⟩:=zbL R2 q1' e3;obtain⟨rfl,zy⟩:=zbL R2 q2 e4;exact⟨μ2,_,xs,dy,w,z,R2,zx,rfl,zy,e5,λu qu=>k μ2 H2 u (s1.trans s2) R2 qu⟩
theorem zt9(hu:X.A.units+64<cLine):MtR X "tuple.count" (λx vs H Q=>∃μ h xs d v z,Rep X.K μ h H/\RdD X.K (Live μ h) H (.tup xs) x/\vs=[v]/\RdD X.K (Live μ h) H d v/\lmD .countT (.tup xs) d=some z/\(∀w,RepD X.K (Live μ h) H z w->Q w H)):=by
 intro pins s σ H x vs v us Q I rx rs q;obtain⟨μ,h,xs,d,vd,z,R0,qx,rfl,qd,e,k⟩:=q;simp only[RdD,RepD] at qx;obtain⟨p,ws,rfl,sq,zz⟩:=qx;cases rx;obtain⟨u,rfl,ru⟩:=rs.one;obtain⟨its,ri,pt,hz⟩:=I.tuple sq;obtain⟨⟨cls,dd,data,sl⟩,e1,hc,n,hdd⟩:=id pt;simp only at hc hdd;subst hc hdd
 have hlen:xs.length=its.length:=by rw[zz.length,ri.length]
 change (if _=true then _ else _)=some _ at e
 split at e
 ·rename_i hd
  cases e;obtain⟨f,f1,f2⟩:=zkz hu I qd ru (of_decide_eq_true hd) zz ri;refine X5 F.slot_tuple_count ⟨_,e1,rfl⟩ F.entry_tuple_count (F.args_tuple_count_2 _ _) (SeqAt.tuple_countAt p its.toArray n dd sl u f) ⟨e1,f1,?_⟩
  have ec:(its.toArray.toList.countP f:Nat)=xs.countP λy=>y.eqb d:=by simpa using ze6 hlen f2
  rw[ec];exact⟨.int _,H,I.tok _,⟨_,rfl⟩,k _ (by simp only[RepD])⟩
 ·cases e
theorem ztY(hu:X.A.units+64<cLine)(ho:IE X o f)(he:IE X e g)(hname:name=lmS .countT)
  (hbase:YQ o name X.env (eval o X.env)=eval o X.env)
  (hfew:((backTo cpos (ZY [e] X.env)).all (λx=>!x.1)&&(XT cpos (YG [] X.env)).all (λx=>x.1.isSome)
   && decide ([e].length+([]:List X7).length+(if([]:List X7).isEmpty then 0 else 1)<30))=true)
  (hline:(apos.endLine==cpos.line)=true) (hs:ZY [e] X.env=[(false,eval e X.env)]) (hplain:(backTo cpos (ZY [] X.env)).any (·.1)=false):
  IE X (.Call (.Attribute o name apos) [e] [] cpos) (λσ=>bnd (f σ) λx=>bnd (rd x) λ_=>bnd (g σ) λy=>bnd (rd x) λx=>bnd (rd y) λy=>bnd (opt (lmD .countT x y)) λz=>ok (.d z)):=by
 have slot:Slot "tuple" name "tuple.count":=by subst hname;exact PySem.F.slot_tuple_count
 refine PE.imp (zqT PySem.F.plainAttrs_tuple slot PySem.F.type_tuple_count (zt9 hu) ho (zbG he zc2 hs) hbase hfew hline hs hplain) λσ H Q q0=>?_;obtain⟨μ,h,env,R0,re,r,h',e,k⟩:=q0;simp only[zab,zar,zac] at e;obtain⟨x,h1,e1,d1,h1',e0,y,h2,e2,dx,h3,e3,dy,h4,e4,z,h5,⟨e5,rfl⟩,rfl,rfl⟩:=e;refine⟨μ,h,env,R0,re,x,h1,e1,λμ1 H1 v s1 R1 q1=>?_⟩;obtain⟨rfl,_⟩:=zbL R1 q1 e0
 have hd:∃xs,dx=.tup xs:=by
  cases dx with|tup xs=>exact⟨xs,rfl⟩|_=>exact zaf e5
 obtain⟨xs,rfl⟩:=hd
 have ty:tyV X.K "tuple" v H1:=by
  cases x with|loc l=>obtain⟨o1,ho1,il1,z1,_⟩:=zeC e3;cases z1|d d0=>simp only[rd,zac] at e3;obtain⟨rfl,rfl⟩:=e3;simp only[RepR,RepD] at q1;obtain⟨a,ws,rfl,sq,zz⟩:=q1;exact .inr (.inl ⟨rfl,ws,sq⟩)
 refine⟨ty,μ1,_,env,R1,re.stp s1 R0,y,h2,e2,λμ2 H2 w s2 R2 q2=>?_⟩;have q1':=RepR.stp s2 R1 q1;obtain⟨rfl,zx⟩:=zbL R2 q1' e3;obtain⟨rfl,zy⟩:=zbL R2 q2 e4;exact⟨μ2,_,xs,dy,w,z,R2,zx,rfl,zy,e5,λu qu=>k μ2 H2 u (s1.trans s2) R2 qu⟩
end
end IT
namespace PySem
open Sem (wp)
open Builtin
theorem zed:entryFor table "tuple.__getattribute__"=some YX.«object.__getattribute__»:=entryFor_alias (id':="object.__getattribute__") (by kernel_rfl) (by first | rfl | decide +kernel) (by decide +kernel) (by kernel_rfl)
theorem zcH:typeLookup (.type "tuple") "__getattr__"=pure none:=by rw[typeLookup_type,builtinLookup_eq_fast];kernel_rfl
theorem zdM:typeLookup (.type "tuple") "keys"=pure none:=by rw[typeLookup_type,builtinLookup_eq_fast];kernel_rfl
theorem zgH(l:Addr)(items:Array Value)(n:Nat)(sl:Array (Option Value))(u:Tok):
  Meets (YX.«object.__getattribute__» ⟨[.ref l,.str "keys" u],[]⟩) (λA R s=>s.heap.get? l=some {cls:=.type "tuple",dict:=none,data:=.seq items n,slots:=sl}/\raisesAttr (.ref l) "keys" A R s):=
 Meets.of_wp λprog w A R s hs=>by
  obtain⟨hp,g,d,tk,os⟩:=s;obtain⟨hl,hs⟩:=hs;have hT:(⟨hp,g,d,tk,os⟩:Shared).TypeIs (.ref l) "tuple":=⟨_,hl,rfl⟩;have f4:=zdM;unfold YX.«object.__getattribute__»
  repeat(any_goals (first | assumption | wp_step))
  exact wpAny_raiseAttrError hs.1 hs.2 (attrMsg_fits (by decide +kernel) (by decide +kernel))
section
variable {prog:Zx}{w:World}{A:Around}{E:Value->Shared->Prop}{s:Shared}
theorem zg6{l:Addr}{items:Array Value}{n:Nat}{sl:Array (Option Value)}{Q:Option Value->Shared->Prop}(hl:s.heap.get? l=some {cls:=.type "tuple",dict:=none,data:=.seq items n,slots:=sl})(hA:A.handled=none)
  (h:∀h' tk,(∀b o,s.heap.get? b=some o->h'.get? b=some o)->Q none {s with heap:=h',toks:=tk}):wpAny (model prog w) A (getAttr? (.ref l) "keys") Q E s:=by
 obtain⟨hp,g,d,tk,os⟩:=s;have hT:∀tk,(⟨hp,g,d,tk,os⟩:Shared).TypeIs (.ref l) "tuple":=λ_=>⟨_,hl,rfl⟩;have hT0:=hT tk;have f1:=sub_AttributeError;have f3:=XJ.lookup;have f4:=XJ.bind (.ref l);have f5:=zcH;unfold getAttr? getAttrBy? getAttrBy
 repeat(any_goals (first | assumption | ((with_reducible show wpAny _ _ (call (WY "tuple.__getattribute__") _ _) _ _ _);refine X5 XJ (hT _) zed (F.args_tuple_getattribute_2 _ _) (zgH l items n sl _) ⟨hl,hA,λh' tk' e hx=>?_⟩) | wp_step))
 obtain⟨t',u',he⟩:=hx.there;show wpAny _ _ (getattributeRaised _ _ _ _ _ _ _) _ _ _;unfold getattributeRaised
 repeat(any_goals (first | assumption | wp_step))
 exact h _ _ hx.keeps
end
theorem zey:entryFor table "dict.update.loop"=some YX.«dict.update.loop»:=entryFor_of_tree (by kernel_rfl)
theorem zbN:plainId "dict.update.loop"=true:=by decide +kernel
section
variable {prog:Zx}{w:World}{K:Type}[DecidableEq K]{knd:KeyKind prog w K}{A:Around}{E:Value->Shared->Prop}{R:Result->Shared->Prop}
def zli(kvs:List (K×Value)):List (Addr×K×Value×Value)->List (K×Value)| []=>kvs|r::rest=>zli (stored kvs r.2.1 r.2.2.2) rest
theorem ziN{p:Addr}{its:Array Value}{s:Shared}{Q:List Value->Shared->Prop}(hp:s.heap.IsTuple p its)(h:Q its.toList s):wpAny (model prog w) A (Dict.pairItems (.ref p)) Q E s:=by obtain⟨o,ho,hc,n,hd⟩:=id hp;unfold Dict.pairItems;refine Z1 (WP hp.typeIs ?_);rw[if_pos (by decide)];refine Z1 (wpAny_seqItems ho hd (ZN ?_));exact h
theorem zkQ(kvs:List (K×Value))(k:K)(v:Value):(stored kvs k v).length<=kvs.length+1:=by
 unfold stored
 split
 ·simp
 ·simp
theorem zio{d I t:Addr}{items:Array Value}(hA:A.handled=none)(hdI:d≠I)(htI:t≠I)(htd:t≠d):
  ∀(rest:List (Addr×K×Value×Value)) (i:Nat) (s:Shared) (kvs:List (K×Value)),s.heap.IsTupleIter I t i->s.heap.IsTuple t items->s.heap.DictOf knd d kvs->kvs.length+rest.length<=sizeLine →
  items.toList.drop i=rest.map (λr=>.ref r.1) →
  (∀r∈rest,r.1≠I/\r.1≠d/\s.heap.IsTuple r.1 #[r.2.2.1,r.2.2.2]/\knd.is r.2.1 r.2.2.1=true) →
  (∀h' tk,h'.DictOf knd d (zli kvs rest)->(∀b o,b≠d->b≠I->s.heap.get? b=some o->h'.get? b=some o)->R (.ok (.ret .none)) {s with heap:=h',toks:=tk}) →
  W2 (model prog w) A (.builtin "dict.update.loop" ⟨[.ref d,.ref I,rawInt i,.none],[]⟩) R s:=by
 intro rest
 induction rest with
 | nil=>
  intro i s kvs hit ht hm hsz hdr hr hR
  have hx:items[i]?=none:=by
   have:=congrArg Yq hdr
   simp at this;simp;omega
  refine codeAny_builtin zey ?_;rw[Around.under_plainId zbN _];show wpAny _ A.in1 (pyNext (.ref I) >>= _) _ _ s;refine Z1 (wpAny_pyNext_tuple_end hA hit ht hx λh' he=>?_);show wpAny _ _ (Dict.addKeywords d [] >>= _) _ _ _;refine Z1 (ZN (ZN (hR h' s.toks (hm.extBut he hdI) λb o _ hb e=>he b o hb e)))
 | cons r rest ih=>
  intro i s kvs hit ht hm hsz hdr hr hR
  have hx:items[i]?=some (.ref r.1):=by
   have:=congrArg (λz=>z[0]?) hdr
   simpa using this
  have hdr':items.toList.drop (i+1)=rest.map (λr=>.ref r.1):=by
   have:=congrArg List.tail hdr
   simpa using this
  obtain⟨r1,r2,r3,r4⟩:=hr r (by simp);refine codeAny_builtin zey ?_;rw[Around.under_plainId zbN _];show wpAny _ A.in1 (pyNext (.ref I) >>= _) _ _ s;refine Z1 (wpAny_pyNext_tuple_item hit ht hx λh1 hit1 hs1=>?_);have r3':h1.IsTuple r.1 #[r.2.2.1,r.2.2.2]:=r3.extBut hs1.extBut r1;show wpAny _ _ (holding [.ref r.1] _ >>= _) _ _ _;refine Z1 (XX (Z1 (wpAny_tryCatch (ziN (s:={s with heap:=h1}) r3' ?_))));show wpAny _ _ (holding [r.2.2.1,r.2.2.2] (dictSet d r.2.2.1 r.2.2.2)) _ _ _
  refine XX (wpAny_dictSet_pairs (s:={s with heap:=h1}) (knd:=knd) r4 (hm.sameBut hs1 hdI) (λh2 hd2 hs2=>?_) (by simp at hsz;omega))
  refine ZN ⟨plainId_quiet zbN _,?_⟩;refine ih (i+1) _ (stored kvs r.2.1 r.2.2.2) (hit1.extBut hs2.extBut (Y5 hdI)) ((ht.extBut hs1.extBut htI).extBut hs2.extBut htd) hd2 ?_ hdr' (λq hq=>?_) λh' tk hd' hk=>?_
  ·have:=zkQ kvs r.2.1 r.2.2.2
   simp at hsz;omega
  ·obtain ⟨q1,q2,q3,q4⟩:=hr q (by simp[hq])
   exact⟨q1,q2,(q3.extBut hs1.extBut q1).extBut hs2.extBut q2,q4⟩
  ·exact hR h' tk hd' λb o hb1 hb2 e=>hk b o hb1 hb2 (hs2.extBut b o hb1 (hs1.extBut b o hb2 e))
theorem zdX{s:Shared}{t:Addr}{items:Array Value}{n:Nat}{sl:Array (Option Value)}{rest:List (Addr×K×Value×Value)}{Q:Value->Shared->Prop}(hA:A.handled=none)
  (ht:s.heap.get? t=some {cls:=.type "tuple",dict:=none,data:=.seq items n,slots:=sl}) (hsz:rest.length<=sizeLine) (hit:items.toList=rest.map (λr=>.ref r.1))
  (hr:∀r∈rest,s.heap.IsTuple r.1 #[r.2.2.1,r.2.2.2]/\knd.is r.2.1 r.2.2.1=true)
  (h:∀h' tk,h'.DictOf knd s.heap.objs.size (zli [] rest)->(∀b o,s.heap.get? b=some o->h'.get? b=some o)->Q (.ref s.heap.objs.size) {s with heap:=h',toks:=tk}):
  wpAny (model prog w) A (call (.type "dict") [.ref t]) Q E s:=by
 refine callType_codes (Q₁:=λobj s₁=>obj=.ref s.heap.objs.size/\s₁={s with heap:=s.heap.push {cls:=.type "dict",data:=.dict #[]}}) F.kt_called_dict (F.kt_typeCall_dict_1 _) F.entry_dict_init (kt_code_dict_new _ ⟨rfl,rfl⟩) ?_
 rintro obj s₁ ⟨rfl,rfl⟩
 have hnew:(s.heap.push {cls:=.type "dict",data:=.dict #[]}).DictOf knd s.heap.objs.size []:=Heap.DictOf.new s.heap;have ht1:=Z2 {cls:=.type "dict",data:=.dict #[]} ht;refine⟨hnew.typeIs,F.args_dict_init_2 _ _,?_⟩;unfold YX.«dict.__init__»;refine Z1 ?_;unfold YX.Dict.selfAndRest;refine Z1 (wpAny_notOrdered_dict hnew.typeIs ?_);show wpAny _ _ (pure (s.heap.objs.size,[Zc t])) _ _ _;refine ZN ?_;show wpAny _ _ (YX.Dict.updateFrom "dict.__init__" s.heap.objs.size (.ref t) [] .none) _ _ _;unfold YX.Dict.updateFrom;refine Z1 (WP (T:="tuple") ⟨_,ht1,rfl⟩ ?_);rw[if_pos (by decide)];refine Z1 (zg6 ht1 hA λh1 tk1 hk1=>?_);rw[if_pos (by rfl)];refine Z1 (V6 ?_);have ht2:h1.IsTuple t items:=⟨_,hk1 _ _ ht1,rfl,n,rfl⟩;refine Z1 (wpAny_pyIter_tuple (s:={s with heap:=h1,toks:=tk1}) ht2 ?_);refine ZN ⟨plainId_quiet zbN _,?_⟩;obtain⟨od,ed,epd,hod,hcd⟩:=id hnew;have hd1:=hk1 _ _ hod;have lt1:s.heap.objs.size<h1.objs.size:=ZP hd1;have ltt:t<s.heap.objs.size:=ZP ht;have hlt:∀b o,s.heap.get? b=some o->b<h1.objs.size/\b<s.heap.objs.size:=λb o e=>⟨ZP (hk1 _ _ (Z2 _ e)),ZP e⟩;refine zio (A:=A.in1) (knd:=knd) (d:=s.heap.objs.size) (I:=h1.objs.size) (t:=t) hA (ZJ lt1) (ZJ (Nat.lt_trans ltt lt1)) (ZJ ltt) rest 0 {s with heap:=h1.push {cls:=.type "tuple_iterator",data:=.fields #[.ref t,.int 0 0]},toks:=tk1} [] ⟨_,Zp _ rfl,rfl,rfl⟩ (ht2.push _) (Heap.DictOf.push ⟨od,ed,epd,hd1,hcd⟩ _) (by simpa using hsz) (by simpa using hit) (λr hm=>?_) λh' tk hd' hk=>?_
 ·obtain ⟨q1,q2⟩:=hr r hm
  obtain⟨o,ho,q⟩:=id q1;obtain⟨l1,l2⟩:=hlt _ _ ho;exact⟨ZJ l1,ZJ l2,⟨o,Z2 _ (hk1 _ _ (Z2 _ ho)),q⟩,q2⟩
 ·refine ⟨rfl,h h' tk hd' λb o e=>?_⟩
  obtain⟨l1,l2⟩:=hlt _ _ e;exact hk b o (ZJ l2) (ZJ l1) (Z2 _ (hk1 _ _ (Z2 _ e)))
end
end PySem
namespace IT
open PySem PySem.Spec L2
section
variable {X:Cx}
theorem zpK{α β:Type}{f:α->β}(hf:∀a b,f a=f b->a=b){l:List α}(h:l.Nodup):(l.map f).Nodup:=by rw[List.nodup_iff_pairwise_ne,List.pairwise_map];exact List.Pairwise.imp (λ{a b} hab e=>hab (hf a b e)) h
theorem ztG{pins:List (Addr×Obj)}{σ:St}{H:Hp}{s:Shared}(I:Inv X pins σ H s):Xz<s.heap.objs.size:=by refine Nat.lt_trans (by decide) ((I.mod.glob.keeps I.bk).lt)
theorem zkL{K:Type}[DecidableEq K]{kvs:List (K×Value)}{k:K}{v:Value}(h:k∉kvs.map (·.1)):stored kvs k v=kvs++[(k,v)]:=by
 unfold stored;rw[if_neg];rw[Yd]
 rintro⟨p,hp,e⟩
 exact h (Y0.mpr ⟨p,hp,of_decide_eq_true e⟩)
theorem ziv{K:Type}[DecidableEq K]:∀(rest:List (Addr×K×Value×Value)) (kvs:List (K×Value)),(kvs.map (·.1)++rest.map (·.2.1)).Nodup->zli kvs rest=kvs++rest.map λq=>(q.2.1,q.2.2.2)
 | [],kvs,_=>by simp[zli]
 | r::rest,kvs,nd=>by
  rw[ZC] at nd
  have h1:r.2.1∉kvs.map (·.1):=by rw[Wz] at nd;intro hm;exact nd.2.2 _ hm _ (by simp) rfl
  rw[zli,zkL h1,ziv rest]
  ·simp
  ·simpa using nd
theorem zjF{pins:List (Addr×Obj)}{σ:St}{H:Hp}{s:Shared}(I:Inv X pins σ H s):∀rs:List (Addr×Str×V),(∀r∈rs,SqT X.K H r.1 [.str r.2.1,r.2.2]) →
  ∃ rest:List (Addr×Key×Value×Value),rest.map (·.1)=rs.map (·.1)/\rest.map (·.2.1)=rs.map (λr=>Zg r.2.1)/\(∀q∈rest,s.heap.IsTuple q.1 #[q.2.2.1,q.2.2.2]/\(zbq X.prog X.w).is q.2.1 q.2.2.1=true) ∧
   KV (rs.map λr=>((Zg r.2.1:Key),r.2.2)) (rest.map λq=>(q.2.1,q.2.2.2))
 | [],_=>⟨[],rfl,rfl,by simp,.nil⟩
 |r::rs,h=>by
  obtain⟨rest,e1,e2,e3,e4⟩:=zjF I rs λq hq=>h q (by simp[hq]);obtain⟨its,rv,pt,_⟩:=I.tuple (h r (by simp));obtain⟨u,w',rfl,⟨t,rfl⟩,rw'⟩:=zuF rv;refine⟨(r.1,Zg r.2.1,.str r.2.1 t,w')::rest,by simp[e1],by simp[e2],λq hq=>?_,.cons ⟨rfl,rw'⟩ e4⟩
  rcases ZQ.mp hq with rfl | hq
  ·exact⟨pt,zdi _ _ _ _⟩
  ·exact e3 q hq
theorem zhE:∀{as:List Addr} {us:List Value},Vals (as.map V.ref) us->us=as.map Zc
 | [],_,.nil=>rfl
 |a::as,_,.cons r t=>by
  rw[zhE t]
  cases (show _=Zc a from r)
  rfl
theorem zfF(hc:X.calm=true):zgO X (.type "dict") (λxs H Q=>∃(p:Addr) (rs:List (Addr×Str×V)),xs=[.ref p]/\SqT X.K H p (rs.map λr=>V.ref r.1)/\(∀r∈rs,SqT X.K H r.1 [.str r.2.1,r.2.2])/\(rs.map (·.2.1)).Nodup ∧
  ∀l,H l=none->Q (.ref l) (upd H l (.dK (rs.map λr=>(Zg r.2.1,r.2.2))))):=by
 intro pins s σ H xs us Q I r h;obtain⟨p,rs,rfl,hq,hp,nd,q⟩:=h;obtain⟨u,rfl,rx⟩:=zi5 r;cases rx;obtain⟨rest,e1,e2,e3,e4⟩:=zjF I rs hp;obtain⟨its,rv,pt,hz⟩:=I.tuple hq;have dd:=I.tupleB hq;obtain⟨⟨cls,dct,data,sl⟩,ho,hcl,n,hd⟩:=id pt;have dd:=dd _ ho;simp only at hcl hd dd;subst hcl hd dd
 have eu:its=rest.map λq=>Zc q.1:=by
  have:rs.map (λr=>V.ref r.1)=(rs.map (·.1)).map V.ref:=by rw[Zt];rfl
  rw[this] at rv;rw[zhE rv,<-e1,Zt];rfl
 have hl:rest.length=rs.length:=by have:=congrArg Yq e1;simpa using this
 have hz':rs.length<=sizeLine:=by simpa using hz
 refine zdX (knd:=zbq X.prog X.w) (rest:=rest) (I.ok.hd hc) ho (by rw[hl];exact hz') (by simpa using eu) e3 λh' tk hD hk=>?_
 have nd2:(rest.map (·.2.1)).Nodup:=by
  rw[e2]
  have:rs.map (λr=>(Zg r.2.1:Key))=(rs.map (·.2.1)).map Zg:=by rw[Zt];rfl
  rw[this];exact zpK (λa b e=>WC e) nd
 rw[ziv rest [] (by simpa using nd2),List.nil_append] at hD;refine⟨.ref s.heap.objs.size,upd H s.heap.objs.size (.dK (rs.map λr=>(Zg r.2.1,r.2.2))),I.laid (t':=tk) hk (Z0 _) ?_,rfl,q _ (I.hok.fresh (Z0 _))⟩
 exact⟨by rw[Z4];exact hz',beq_eq_false_iff_ne.mpr (Y5 (ZJ (ztG I))),_,e4,hD⟩
theorem zpV{κ:Type}:∀{kvs:List (κ×V)} {vs:List (κ×Value)} {k:κ} {v:V},KV kvs vs->(k,v)∈kvs->∃(i:Nat) (u:Value),vs[i]?=some (k,u)/\RelV v u
 |_,_,_,_,.nil,h=>by simp at h
 | _,_,k,v,.cons (a:=a) (b:=b) ⟨q1,q2⟩ t,h=>by
  rcases ZQ.mp h with e | h
  ·subst e
   exact⟨0,b.2,by rw[Xt];simp only at q1;rw[q1],q2⟩
  ·obtain ⟨i,u,e1,e2⟩:=zpV t h
   exact⟨i+1,u,by simpa using e1,e2⟩
theorem zu2:IxR X (λx y H Q=>∃p kvs k v,x=.ref p/\y=.str k/\H p=some (.dK kvs)/\(Zg k,v)∈kvs/\Q v H):=by
 intro value slice pins s σ H x y v u Q I rx ry h hs;obtain⟨p,kvs,k,z,rfl,rfl,hq,hm,q⟩:=h;cases rx;obtain⟨t,rfl⟩:=ry;obtain⟨hz,hS,vs,rel,dd⟩:=(show zby X.prog X.w H s.heap p (.dK kvs) from I.hok p _ hq);obtain⟨i,w',e1,e2⟩:=zpV rel hm
 have nd:(vs.map (·.1)).Nodup:=let ⟨_,_,_,_,_,_,_,_,hn⟩:=dd;hn
 have hv:=valueAt_of_get nd e1;refine XE (x:=w') dd.typeIs PySem.slot_dict_getitem.lookup ?_ hs;exact wpAny_getItem_of (zdi _ _ _ _) dd.mapOf hv ⟨rfl,z,H,I.tok _,e2,q⟩
theorem zna{K:Z7}{A:Addr->Prop}{H:Hp}:∀{xs:List D} {vs:List V} {l:List (List Nat×D)},RepDs K A H xs vs->prs xs=some l →
  ∃rs:List (Addr×List Nat×D×V),vs=rs.map (λr=>V.ref r.1)/\l=rs.map (λr=>(r.2.1,r.2.2.1))/\∀r∈rs,SqT K H r.1 [.str (zam r.2.1),r.2.2.2]/\RepD K A H r.2.2.1 r.2.2.2
 | [],vs,l,q,e=>by simp only[RepDs] at q;simp only[prs,Z5] at e;subst q e;exact⟨[],rfl,rfl,by simp⟩
 | x :: xs,vs,l,q,e=>by
  simp only[RepDs] at q;obtain⟨v,r,rfl,q1,q2⟩:=q
  match x,e,q1 with
  | .tup [.str a,d],e,q1=>
   simp only[prs] at e
   cases es:prs xs with
   |none=>rw[es] at e;cases e
   |some l'=>
    rw[es] at e;simp only[Z5] at e;subst e;obtain⟨rs,e1,e2,e3⟩:=zna q2 es;simp only[RepD,RepDs] at q1;obtain⟨p,ws,rfl,hp,v1,r1,rfl,rfl,v2,r2,rfl,z2,rfl⟩:=q1
    refine⟨(p,a,d,v2)::rs,by rw[e1];rfl,by rw[e2];rfl,λr hr=>?_⟩
    rcases ZQ.mp hr with rfl | hr
    ·exact⟨hp,z2⟩
    ·exact e3 r hr
theorem zpw{K:Z7}{μ:List Addr}{h:Sto}{H:Hp}{l:Addr}(R0:Rep K μ h H)(hl:H l=none):¬Live μ h l:=by intro z;obtain⟨vs,q,_⟩:=R0.liveAt z;rw[hl] at q;cases q
theorem zgu{β:Type}:∀{l:List (List Nat×β)} {k:List Nat} {v:β},l.lookup k=some v->(k,v)∈l
 | [],_,_,e=>by simp at e
 | p::l,k,v,e=>by
  rw[Zw] at e
  split at e
  ·rename_i h
   have h:=Z3 h;cases e;rw[h];exact Yt
  ·exact Zo _ (zgu e)
theorem zut{a b:Expr}{p cp pos:Pos}{f g:IT.Env->M R}(hc:X.calm=true)(hg:Gl X "dict")(hm:X.mg "dict"=none)(ha:IE X a f)(hb:IE X b g)(hs:ZY [a] X.env=[(false,eval a X.env)])(hx:zem b):
  IE X (.Subscript (.Call (.Name "dict" p) [a] [] cp) b pos) (λσ=>bnd (f σ) λx=>bnd (g σ) λy=>bnd (rd x) λx=>bnd (rd y) λy=>bnd (opt (dixD x y)) λz=>ok (.d z)):=by
 refine PE.imp (zps zu2 (zdR (zfF hc) hg hm PyProof.Rows.boot_dict (zbG ha zc2 hs) (by decide) (by decide) hs rfl) hb hx) λσ H Q q=>?_;obtain⟨μ,h,env,R0,re,r,h',e,k⟩:=q;simp only[zab,zac,zar] at e;obtain⟨x,h1,e1,y,h2,e2,dx,h3,e3,dy,h4,e4,z,h5,⟨e5,rfl⟩,rfl,rfl⟩:=e;refine⟨μ,h,env,R0,re,x,h1,e1,λμ1 H1 v s1 R1 q1=>?_⟩
 have hxd:∃d,x=.d d/\dx=d/\h3=h2:=by
  cases x with|d d=>simp only[rd,zac] at e3;exact⟨d,rfl,e3.1.symm,e3.2.symm⟩|loc l=>obtain⟨o,_,_,rfl,rfl⟩:=zeC e3;exact zaf e5
 obtain⟨d,rfl,rfl,rfl⟩:=hxd
 cases dx with
 | tup xs=>
  cases dy with
  | str kk=>
   (delta dixD at e5;(try dsimp only at e5))
   cases ep:prs xs with
   |none=>rw[ep] at e5;cases e5
   | some l=>
    rw[ep] at e5;simp only at e5
    split at e5
    ·rename_i hn
     rw[Z8] at hn;have nd:(l.map WX).Nodup:=of_decide_eq_true hn.2;simp only[RepR,RepD] at q1;obtain⟨pa,vs,rfl,hq,zs⟩:=q1;obtain⟨rs,rfl,rfl,hrs⟩:=zna zs ep;refine⟨pa,rs.map (λr=>(r.1,zam r.2.1,r.2.2.2)),rfl,?_,λr hr=>?_,?_,λl hl=>?_⟩
     ·rw[Zt];exact hq
     ·rw [Y0] at hr
      obtain⟨q,hq',rfl⟩:=hr;exact(hrs q hq').1
     ·rw [Zt] at nd⊢
      have e:rs.map ((λr:Addr×Str×V=>r.2.1)∘λr=>(r.1,zam r.2.1,r.2.2.2))=(rs.map (WX∘λr=>(r.2.1,r.2.2.1))).map zam:=by rw[Zt];rfl
      rw[e];exact zpK (λa b e=>zfC e) nd
     ·have sF:Stp μ1 h1 H1 μ1 h1 (upd H1 l (.dK ((rs.map λr=>(r.1,zam r.2.1,r.2.2.2)).map λr=>(Zg r.2.1,r.2.2)))):=Stp.fresh hl
      refine⟨μ1,h1,env,R1.fresh hl,(re.stp s1 R0).stp sF R1,y,_,e2,λμ2 H2 u s2 R2 q2=>?_⟩;obtain⟨rfl,zy⟩:=zbL R2 q2 e4;simp only[RdD,RepD] at zy;subst zy;have hk:=s2.keep l _ (zpw R1 hl) zak;have hm:=zgu e5;rw[Y0] at hm;obtain⟨q,hq',eq⟩:=hm;simp only[ZZ] at eq;obtain⟨rfl,rfl⟩:=eq;refine⟨l,_,zam q.2.1,q.2.2.2,rfl,rfl,hk,?_,k μ2 H2 _ (s1.trans (sF.trans s2)) R2 ?_⟩
      ·rw [Zt]
       exact Y0.mpr ⟨q,hq',rfl⟩
      ·exact RepD.stp s2 (R1.fresh hl) (RepD.stp sF R1 (hrs q hq').2)
    ·cases e5
  |_=>exact zaf e5
 |_=>cases dy<;>exact zaf e5
end
end IT
namespace IT
open PySem PySem.Spec L2
section
variable {X:Cx}
abbrev RelF(K:Z7)(μ:List Addr)(h:Sto)(H:Hp):List (Str×R)->List (Str×V)->Prop:=Paired λp q=>p.1=q.1/\RepR K μ h H p.2 q.2
theorem zfz:∀{fs:List (Str×R)} {fs':List (Str×V)} {f:Str} {r:R},RelF K μ h H fs fs'->fs.lookup f=some r->∃v,fs'.lookup f=some v/\RepR K μ h H r v
 |_,_,_,_,.nil,e=>by simp at e
 | _,_,f,r,.cons (a:=a) (b:=b) ⟨q1,q2⟩ t,e=>by
  rw[Zw] at e⊢;rw[<-q1]
  split at e
  ·rename_i hb
   cases e;exact⟨b.2,rfl,q2⟩
  ·exact zfz t e
theorem zfk:∀{fs:List (Str×R)} {fs':List (Str×V)} {f:Str},RelF K μ h H fs fs'->fs.lookup f=none->fs'.lookup f=none
 |_,_,_,.nil,e=>rfl
 |_,_,f,.cons (a:=a) (b:=b) ⟨q1,q2⟩ t,e=>by
  rw[Zw] at e⊢;rw[<-q1]
  split at e
  ·cases e
  ·exact zfk t e
theorem zky{v:V}(q:RepR K μ h H r v):∀{fs:List (Str×R)} {fs':List (Str×V)},RelF K μ h H fs fs'->RelF K μ h H (IT.putF f r fs) (L2.putF f v fs')
 |_,_,.nil=>.cons ⟨rfl,q⟩ .nil
 |_,_,.cons (a:=a) (b:=b) ⟨q1,q2⟩ t=>by
  obtain⟨g,x⟩:=a;obtain⟨g',y⟩:=b;simp only at q1 q2;subst q1;simp only[IT.putF,L2.putF]
  split
  ·exact .cons ⟨rfl,q⟩ t
  ·exact .cons ⟨rfl,q2⟩ (zky q t)
theorem znB:∀{fs:List (Str×R)} {p:Str×R},p∈IT.putF f r fs->p.1=f\/p∈fs
  | [],p,h=>by simp[IT.putF] at h;exact .inl (by rw[h])
  | (g, x)::fs,p,h=>by
    simp only[IT.putF] at h
    split at h
    · rename_i e
      rcases ZQ.mp h with rfl | h
      · exact .inl e
      · exact .inr (Zo _ h)
    · rcases ZQ.mp h with rfl | h
      · exact .inr Yt
      · rcases znB h with e | e
        · exact .inl e
        · exact .inr (Zo _ e)
theorem zc8:∀{fs:List (Str×R)},fs.lookup f=some r->(f,r)∈fs
 | [],e=>by simp at e
 | p::l,e=>by
  rw[Zw] at e
  split at e
  ·rename_i h
   have h:=Z3 h;cases e;rw[h];exact Yt
  ·exact Zo _ (zc8 e)
theorem ztp{pos:Pos}(ho:IE X o g)(hb:YQ o f X.env (eval o X.env)=eval o X.env):IE X (.Attribute o f pos) (λσ=>bnd (g σ) λx=>getA x f):=by
 refine PE.imp (zsQ ho hb) λσ H Q q0=>?_;obtain⟨μ,h,env,R0,re,r,h',e,k⟩:=q0;simp only[zab] at e;obtain⟨x,h1,e1,e2⟩:=e;refine⟨μ,h,env,R0,re,x,h1,e1,λμ1 H1 v s1 R1 q1=>?_⟩
 cases x with
 |d d=>cases e2
 | loc l=>
  obtain⟨a,ea,rfl⟩:=q1
  (delta getA at e2;(try dsimp only at e2))
  cases ho1:h1[l]? with
  |none=>rw[ho1] at e2;cases e2
  | some ob=>
   rw[ho1] at e2
   cases ob with
   | ins c fs=>
    simp only at e2
    cases el:fs.lookup f with|none=>rw[el] at e2;cases e2|some r1=>rw[el] at e2;simp only[Z5,ZZ] at e2;obtain⟨rfl,rfl⟩:=e2;obtain⟨C,dx,fs',⟨_,cl,na⟩,eH,rel⟩:=R1.obj l a _ ea ho1;obtain⟨w,ew,qw⟩:=zfz rel el;exact⟨a,C,dx,fs',w,rfl,eH,cl,na _ (zc8 el),ew,k μ1 H1 w s1 R1 qw⟩
   |_=>cases e2
theorem zj4(q:RelF K μ h H fs fs'):fs.length=fs'.length:=W6 q
theorem zqa{c f:Str}{fs:List (Str×R)}{fs':List (Str×V)}{r:R}{v:V}(R0:Rep K μ h H)(ea:μ[l]?=some a)(ho:h[l]?=some (.ins c fs))
  (hC:ZR K ZV c=some (some (.ref C))/\Cls K C/\∀p∈fs,zb9 K C p.1) (hn:zb9 K C f) (rel:RelF K μ h H fs fs') (q:RepR K μ h H r v):
  Stp μ h H μ (h.set l (.ins c (IT.putF f r fs))) (upd H a (.ins C dx (L2.putF f v fs')))/\Rep K μ (h.set l (.ins c (IT.putF f r fs))) (upd H a (.ins C dx (L2.putF f v fs'))):=
 zjJ R0 ea ho rfl λst=>⟨C,dx,_,⟨hC.1,hC.2.1,λp hp=>by
  rcases znB hp with e | e
  ·rw[e];exact hn
  ·exact hC.2.2 p e⟩,zak,L2.Paired.mapP (zky q rel) λp q' ⟨z1,z2⟩=>⟨z1,RepR.stp st R0 z2⟩⟩
theorem zrg{pos pos':Pos}(he:IE X e g)(ho:IE X o k0)(hs:Yk e (some (.Attribute o f pos')) pos.line X.env=pure false):
  PS X (.Assign [.Attribute o f pos'] e pos) (tS X.K λσ=>bnd (g σ) λr=>bnd (k0 σ) λx=>bnd (setA x f r) λ_=>ok (.nx,σ)):=by
 refine PS.imp (zp3 ho he hs) λD σ H q0=>?_;obtain⟨μ,h,env,R0,re,fl,env',h',e,kk⟩:=q0;simp only[zab,zac,ZZ] at e;obtain⟨r,h1,e1,x,h2,e2,_,h3,e3,⟨rfl,rfl⟩,rfl⟩:=e;refine⟨μ,h,env,R0,re,r,h1,e1,λμ1 H1 v s1 R1 q1=>⟨μ1,h1,env,R1,re.stp s1 R0,x,h2,e2,λμ2 H2 u s2 R2 q2=>?_⟩⟩
 cases x with
 |d d=>cases e3
 | loc l=>
  obtain⟨a,ea,rfl⟩:=q2
  (delta setA at e3;(try dsimp only at e3))
  cases ho1:h2[l]? with
  |none=>rw[ho1] at e3;cases e3
  | some ob=>
   rw[ho1] at e3
   cases ob with
   | ins c fs=>
    simp only at e3
    split at e3
    ·rename_i hsome
     simp only[Z5,ZZ] at e3;obtain⟨_,rfl⟩:=e3;obtain⟨C,dx,fs',hC,eH,rel⟩:=R2.obj l a _ ea ho1;obtain⟨r0,el⟩:=Yo.mp hsome.1;have hn:zb9 X.K C f:=hC.2.2 _ (zc8 el)
     have hl:fs'.length<1000:=by rw[<-zj4 rel];have:=hsome.2;omega
     obtain⟨s3,R3⟩:=zqa (dx:=dx) R2 ea ho1 hC hn rel (q1.stp s2 R1);exact⟨a,C,dx,fs',rfl,eH,hC.2.1,hn,hl,kk μ2 _ σ ((s1.trans s2).trans s3) R3 (re.stp ((s1.trans s2).trans s3) R0)⟩
    ·cases e3
   |_=>cases e3
theorem zqY(he:IE X e g)(ho:IE X o k0)(hs:Yk e (some (.Attribute o f pos')) pos.line X.env=pure false)
  (hn:∀C,ZR X.K ZV c=some (some (.ref C))->zb9 X.K C f):
  PS X (.Assign [.Attribute o f pos'] e pos) (tS X.K λσ=>bnd (g σ) λr=>bnd (k0 σ) λx=>bnd (setN x c f r) λ_=>ok (.nx,σ)):=by
 refine PS.imp (zp3 ho he hs) λD σ H q0=>?_;obtain⟨μ,h,env,R0,re,fl,env',h',e,kk⟩:=q0;simp only[zab,zac,ZZ] at e;obtain⟨r,h1,e1,x,h2,e2,_,h3,e3,⟨rfl,rfl⟩,rfl⟩:=e;refine⟨μ,h,env,R0,re,r,h1,e1,λμ1 H1 v s1 R1 q1=>⟨μ1,h1,env,R1,re.stp s1 R0,x,h2,e2,λμ2 H2 u s2 R2 q2=>?_⟩⟩
 cases x with
 |d d=>cases e3
 | loc l=>
  obtain⟨a,ea,rfl⟩:=q2;simp only[setN] at e3
  cases ho1:h2[l]? with
  |none=>rw[ho1] at e3;cases e3
  | some ob=>
   rw[ho1] at e3
   cases ob with
   | ins c' fs=>
    simp only at e3
    split at e3
    ·rename_i hc
     simp only[Z5,ZZ] at e3;obtain⟨_,rfl⟩:=e3;obtain⟨rfl,hl⟩:=hc;obtain⟨C,dx,fs',hC,eH,rel⟩:=R2.obj l a _ ea ho1;have hn:=hn C hC.1
     have hl:fs'.length<1000:=by rw[<-zj4 rel];omega
     obtain⟨s3,R3⟩:=zqa (dx:=dx) R2 ea ho1 hC hn rel (q1.stp s2 R1);exact⟨a,C,dx,fs',rfl,eH,hC.2.1,hn,hl,kk μ2 _ σ ((s1.trans s2).trans s3) R3 (re.stp ((s1.trans s2).trans s3) R0)⟩
    ·cases e3
   |_=>cases e3
theorem ziF(hbase:YQ o name env (eval o env)=eval o env)
  (hfew:((backTo pos (ZY args env)).all (λx=>!x.1)&&(XT pos (YG [] env)).all (λx=>x.1.isSome)
   && decide (args.length+([]:List X7).length+(if([]:List X7).isEmpty then 0 else 1)<30))=true)
  (hline:(apos.endLine==pos.line)=true):eval (.Call (.Attribute o name apos) args [] pos) env=(do
   let ov<-eval o env
   Xq apos.atName
   let (f,first)<-holding [ov] (WM ov name (do return (<-importBound o env).getD true))
   V4 pos f first (backTo pos (ZY args env)) (XT pos (YG [] env))):=by
 rw[arm_eval_Call,hbase];have hform:methodCallForm (args.length+([]:List X7).length) (backTo pos (ZY args env)) (XT pos (YG [] env))=true:=hfew
 have hpos:methodCallPos true o env apos pos=pure pos:=by unfold methodCallPos;simp[hline]
 unfold methodCall;rw[hform];unfold calleeOf;simp only[if_true,hpos];rfl
structure zl2(X:Cx)(n:Nat)(c m:Str)(np:Nat)(mm:List R->M R):Prop where
 ex:∃C f fd ps,ZR X.K ZV c=some (some (.ref C))/\Cls X.K C/\Meth X.K C m f/\FnOk X.prog X.w X.K X.mg X.base CX0 n f fd ps (spF X.K np mm)/\zdq X.K fd ps []
 len:∀rs h p,mm rs h=some p->rs.length=np
structure zqe(X:Cx)(n:Nat)(c:Str)(np:Nat)(mm:List R->M R):Prop where
 ex:∃C f fd ps,X.mg c=some (.ref C)/\ZR X.K ZV c=some (some (.ref C))/\Cls X.K C/\Mk X.K C f/\FnOk X.prog X.w X.K X.mg X.base CX0 n f fd ps (spF X.K np mm)/\zdq X.K fd ps []
 len:∀rs h p,mm rs h=some p->rs.length=np
theorem zj0(e:isA x c m h=some (u,h')):∃l fs,x=.loc l/\h[l]?=some (.ins c fs)/\fs.lookup m=none/\h'=h:=by
 cases x with
 |d _=>cases e
 | loc l=>
  (delta isA at e;(try dsimp only at e))
  cases ho:h[l]? with
  |none=>rw[ho] at e;cases e
  | some ob=>
   rw[ho] at e
   cases ob with
   | ins c' fs=>
    simp only at e
    split at e
    ·rename_i hc
     simp only[Z5,ZZ] at e;obtain⟨rfl,hm⟩:=hc;exact⟨l,fs,rfl,ho,WD.mp hm,e.2.symm⟩
    ·cases e
   |_=>cases e
theorem zvH{pl:Sem Bool}{g:IT.Env->M R}{fs:IT.Env->M (List R)}(hM:zl2 X n c m np mm)(hr:Room n X.A)(ho:IE X o g)(ha:IA X (e::es) fs)
  (hst:ZY (e::es) X.env=(false,eval e X.env)::ZY es X.env) (hpl:(backTo pos (ZY es X.env)).any (·.1)=false)
  (ht:eval (.Call (.Attribute o m apos) (e::es) [] pos) X.env=(do
   let ov<-eval o X.env
   Xq apos.atName
   let (f,first)<-holding [ov] (WM ov m pl)
   V4 pos f first (backTo pos (ZY (e::es) X.env)) (XT pos (YG [] X.env)))):
  IE X (.Call (.Attribute o m apos) (e::es) [] pos) (λσ=>bnd (g σ) λx=>bnd (isA x c m) λ_=>bnd (fs σ) λrs=>mm (x::rs)):=by
 obtain⟨C,f,fd,ps,hc,cl,hm,F,hb⟩:=hM.ex;refine PE.imp (zr5 ho cl hm F hr hb .nil zns ha hst hpl ht) λσ H Q q0=>?_;obtain⟨μ,h,env,R0,re,r,h',ee,k⟩:=q0;simp only[zab] at ee;obtain⟨x,h1,e1,_,h1',e0,rs,h2,e2,e3⟩:=ee;obtain⟨l,fs0,rfl,ho1,hnone,rfl⟩:=zj0 e0;refine⟨μ,h,env,R0,re,.loc l,_,e1,λμ1 H1 v s1 R1 q1=>?_⟩;obtain⟨a,ea,rfl⟩:=id q1;obtain⟨C',dx,fs',hC,eH,rel⟩:=R1.obj l a _ ea ho1
 have hCC:C'=C:=by have:=hC.1;rw[hc] at this;cases this;rfl
 subst hCC;refine⟨a,dx,fs',rfl,eH,zfk rel hnone,μ1,_,env,R1,re.stp s1 R0,rs,h2,e2,λμ2 H2 ws s2 R2 q2=>?_⟩;have hlen:=hM.len _ _ _ e3
 have qq:zaY X.K μ2 h2 H2 (.loc l::rs) (.ref a::(ws++[])):=.cons ⟨a,s2.pre l a ea,rfl⟩ (by rw[Ze];exact q2)
 exact⟨by rw[<-qq.length];exact hlen,μ2,h2,.loc l::rs,R2,qq,r,h',e3,λμ3 H3 w s3 R3 q3=>k μ3 H3 w ((s1.trans s2).trans s3) R3 q3⟩
theorem ztq{g:IT.Env->M R}(hM:zl2 X n c m np mm)(hr:Room n X.A)(ho:IE X o g)
  (ht:eval (.Call (.Attribute o m apos) [] [] pos) X.env=(do
   let ov<-eval o X.env
   Xq apos.atName
   let (f,first)<-holding [ov] (WM ov m pl)
   V4 pos f first (backTo pos (ZY [] X.env)) (XT pos (YG [] X.env)))):
  IE X (.Call (.Attribute o m apos) [] [] pos) (λσ=>bnd (g σ) λx=>bnd (isA x c m) λ_=>bnd (ok []) λrs=>mm (x::rs)):=by
 obtain⟨C,f,fd,ps,hc,cl,hm,F,hb⟩:=hM.ex;refine PE.imp (zn0 ho cl hm F hr hb .nil zns ht) λσ H Q q0=>?_;obtain⟨μ,h,env,R0,re,r,h',ee,k⟩:=q0;simp only[zab,zac] at ee;obtain⟨x,h1,e1,_,h1',e0,rs,h2,⟨rfl,rfl⟩,e3⟩:=ee;obtain⟨l,fs0,rfl,ho1,hnone,rfl⟩:=zj0 e0;refine⟨μ,h,env,R0,re,.loc l,_,e1,λμ1 H1 v s1 R1 q1=>?_⟩;obtain⟨a,ea,rfl⟩:=id q1;obtain⟨C',dx,fs',hC,eH,rel⟩:=R1.obj l a _ ea ho1
 have hCC:C'=C:=by have:=hC.1;rw[hc] at this;cases this;rfl
 subst hCC;refine⟨a,dx,fs',rfl,eH,zfk rel hnone,?_⟩;have hlen:=hM.len _ _ _ e3;have qq:zaY X.K μ1 h1' H1 [.loc l] [.ref a]:=.cons ⟨a,ea,rfl⟩ .nil
 exact⟨by rw[<-hlen];rfl,μ1,_,[.loc l],R1,qq,r,h',e3,λμ3 H3 w s3 R3 q3=>k μ3 H3 w (s1.trans s3) R3 q3⟩
theorem zre(hM:zqe X n c np mm)(hr:Room (n+1) X.A)(hg:Gl X c)(ha:IA X (e::es) fs)
  (hdb:(c==("__debug__":Str))=false) (hst:ZY (e::es) X.env=(false,eval e X.env)::ZY es X.env) (hpl:(backTo pos (ZY es X.env)).any (·.1)=false):
  IE X (.Call (.Name c p) (e::es) [] pos) (λσ=>bnd (fs σ) λrs=>bnd (newA c) λx=>bnd (mm (x::rs)) λr=>match r with
   |.d .non=>ok x
   |_=>λ_=>none):=by
 obtain⟨C,f,fd,ps,hmg,hc,cl,hm,F,hb⟩:=hM.ex;refine PE.imp (zqF hm F hr hg hmg hb .nil zns ha hdb hst hpl) λσ H Q q0=>?_;obtain⟨μ,h,env,R0,re,r,h',ee,k⟩:=q0;simp only[zab,newA,Z5,ZZ] at ee;obtain⟨rs,h1,e1,x,h2,⟨rfl,rfl⟩,r1,h3,e3,e4⟩:=ee;refine⟨μ,h,env,R0,re,rs,h1,e1,λμ1 H1 vs s1 R1 q1 a dx na nd ne=>?_⟩;have hlen:=hM.len _ _ _ e3;have sO:Stp μ1 h1 H1 μ1 h1 (upd H1 dx (.own a)):=Stp.fresh nd;have RO:Rep X.K μ1 h1 (upd H1 dx (.own a)):=R1.fresh nd
 have na':upd H1 dx (.own a) a=none:=by rw[zaj (Y5 ne)];exact na
 have sA:Stp μ1 h1 (upd H1 dx (.own a)) (μ1++[a]) (h1++[.ins c []]) (upd (upd H1 dx (.own a)) a (.ins C dx [])):=Stp.allocO RO na';have RA:Rep X.K (μ1++[a]) (h1++[.ins c []]) (upd (upd H1 dx (.own a)) a (.ins C dx [])):=RO.allocO na' ⟨C,dx,[],⟨hc,cl,by simp⟩,zak,.nil⟩;have sOA:=sO.trans sA
 have hat:(μ1++[a])[h1.length]?=some a:=by rw[<-R1.len];simp
 have qq:zaY X.K (μ1++[a]) (h1++[.ins c []]) (upd (upd H1 dx (.own a)) a (.ins C dx [])) (.loc h1.length::rs) (.ref a::(vs++[])):=.cons ⟨a,hat,rfl⟩ (by rw[Ze];exact q1.stp sOA R1)
 refine⟨by rw[<-qq.length];exact hlen,_,_,.loc h1.length::rs,RA,qq,r1,h3,e3,λμ3 H3 w s3 R3 q3=>?_⟩
 split at e4
 ·simp only[zac] at e4
  obtain⟨rfl,rfl⟩:=e4;simp only[RepR,RepD] at q3;exact⟨q3,k μ3 H3 (.ref a) (s1.trans (sOA.trans s3)) R3 ⟨a,s3.pre _ _ hat,rfl⟩⟩
 ·cases e4
theorem zqW(I:Inv X pins σ H s)(k:∀b o,b≠e->b≠it->s.heap.get? b=some o->h'.get? b=some o)(fe:FpOk X pins H e)(fi:FpOk X pins H it):Inv X pins σ H {s with heap:=h',toks:=t'}:=by
 obtain⟨e0,e1,e2,e3,e4,e5⟩:=fe;obtain⟨i0,i1,i2,i3,i4,i5⟩:=fi
 have ne:∀b u,H b=some u->b≠e:=λb u q z=>by rw[z,e0] at q;cases q
 have ni:∀b u,H b=some u->b≠it:=λb u q z=>by rw[z,i0] at q;cases q
 have nc:∀b,b∉[e,it]->b≠e/\b≠it:=λb hb=>⟨λz=>hb (by simp[z]),λz=>hb (by simp[z])⟩
 refine I.step (g':=s.gens) (d':=s.drawn) (ch:=[e,it]) (λb hb=>?_) (λb o _ _ hc q _=>k b o (nc b hc).1 (nc b hc).2 q) (λb o _ _ hc q _=>⟨o.slots,k b o (nc b hc).1 (nc b hc).2 q⟩) (λ_ _ _ _ n=>n)
  (λb o hc q=>⟨o,k b o (nc b hc).1 (nc b hc).2 q⟩) (λ_ _ q=>q) (λ_ _ _ q=>q) (λb ps q=>⟨#[],by rw[q];simp⟩) (λm hm=>?_) (λb u q=>?_) I.bare
 ·rcases ZQ.mp hb with z | z
  ·subst z;exact⟨e3,e1,e4,e5⟩
  ·have z:b=it:=by simpa using z
   subst z;exact⟨i3,i1,i4,i5⟩
 ·obtain ⟨o,es,ep,ho,r⟩:=hm
  exact⟨o,es,ep,k _ o (Y5 e1) (Y5 i1) ho,r⟩
 ·refine (I.hok b u q).stay (λc v hc q'=>k c v ?_ ?_ q') (λ_ q=>q) λ_ _ q=>q
  ·rcases hc with z | z
   ·rw[z];exact ne b u q
   ·exact ne c _ z
  ·rcases hc with z | z
   ·rw[z];exact ni b u q
   ·exact ni c _ z
theorem zuK{T:Addr}(I:Inv X pins σ H s)(f:FpOk X pins H T)(new:zby X.prog X.w (upd H T o) s.heap T o):Inv X pins σ (upd H T o) s:=by
 obtain⟨f0,f1,f2,f3,f4,f5⟩:=f
 have nT:∀b u,H b=some u->b≠T:=λb u q z=>by rw[z,f0] at q;cases q
 refine I.step (g':=s.gens) (d':=s.drawn) (t':=s.toks) (h':=s.heap) (ch:=[T]) (λb hb=>?_) (λb o _ _ hc q _=>q) (λb o _ _ hc q _=>⟨o.slots,q⟩) (λb _ hb _ n=>by rw[zaj (λz=>hb (by simp[z]))];exact n)
  (λb o hc q=>⟨o,q⟩) (λb _ q=>by rw[zaj (nT b _ q)];exact q) (λb _ _ q=>by rw[zaj (nT b _ q)];exact q) (λb ps q=>⟨#[],by rw[zaj (nT b _ q),q];simp⟩) (λm hm=>hm) (λb u q=>?_) I.bare
 ·have z:b=T:=by simpa using hb
  subst z;exact⟨f3,f1,f4,f5⟩
 ·by_cases hb:b=T
  ·subst hb;rw[zak] at q;cases q;exact new
  ·rw [zaj hb] at q
   exact(I.hok b u q).stay (λc v hc q'=>q') (λc q'=>by rw[zaj (nT c _ q')];exact q') λc xs q'=>by rw[zaj (nT c _ q')];exact q'
def Ien(K:Z7)(a:Addr):L2.It:=⟨(Itl K a).go,λi H v H'=>∃p x,v=.ref p/\H p=none/\H'=upd H p (.tup [.int i,x])/\∀xs,SqL K H a xs->xs[i]?=some x,(Itl K a).stop⟩
theorem znR(a e it:Addr)(hne:e≠it):Turn P w K (.Tuple elts x1 tpos) (Ien K a) [e,it] e (λi h=>∃old,IsEnum h e it i old/\h.IsListIter it a i) where
 mem:=by simp
 obj:=λi h st b hb=>by
  obtain⟨old,he,hit⟩:=st
  rcases ZQ.mp hb with z | z
  ·subst z;exact⟨_,he,λv z=>by cases z⟩
  ·have z:b=it:=by simpa using z
   subst z;obtain⟨o,ho,c,d⟩:=hit
   exact⟨o,ho,λv z=>by rw[d] at z;cases z⟩
 keep:=λi h h' st k=>by obtain⟨old,he,hit⟩:=st;exact⟨old,k e (by simp) _ he,hit.at λo q=>k it (by simp) o q⟩
 item:=by
  intro X hP hw hK hc i pins s σ H E I hf st hg;subst hP hw hK;obtain⟨old,he,hit⟩:=st;obtain⟨xs,x,hq,hx⟩:=hg;obtain⟨its,rv,p,hz⟩:=I.list hq;obtain⟨u,hu,ru⟩:=rv.get hx;have fe:=hf e (by simp);have fi:=hf it (by simp);have fT:FpOk X pins H s.heap.objs.size:=I.fpOk (Z0 _) (I.hok.fresh (Z0 _));have lte:e<s.heap.objs.size:=ZP he
  have lti:it<s.heap.objs.size:=by obtain⟨o,ho,_⟩:=id hit;exact ZP ho
  refine wpAny_pyNext_enum_item he hit p.isList (x:=u) (by simpa using hu) hne λh1 ho1 hit1 hT hsz hk=>?_;refine⟨.ref s.heap.objs.size,rfl,wpAny_letOwnedTupleGo_enum (s:={s with heap:=h1,toks:=s.toks+1}) ho1 λh2 he2 hs2=>?_⟩;have hk2:∀b o,b≠e->b≠it->s.heap.get? b=some o->h2.get? b=some o:=λb o hb1 hb2 q=>(hs2.2 b hb1).trans (hk b o hb1 hb2 q);have I1:Inv X pins σ H {s with heap:=h2,toks:=s.toks+1}:=zqW I hk2 fe fi;have hT2:h2.get? s.heap.objs.size=some {cls:=.type "tuple",data:=.seq #[.int i s.toks,u]}:=(hs2.2 _ (WS lte)).trans hT
  have I2:Inv X pins σ (upd H s.heap.objs.size (.tup [.int i,x])) {s with heap:=h2,toks:=s.toks+1}:=zuK I1 fT ⟨show 2<=sizeLine by decide,[.int i s.toks,u],.cons ⟨_,rfl⟩ (.cons ru .nil),⟨_,hT2,rfl,_,rfl⟩,λo q=>by
   have q:h2.get? s.heap.objs.size=some o:=q
   rw[hT2] at q;cases q;rfl⟩
  refine⟨.ref s.heap.objs.size,_,I2,rfl,⟨s.heap.objs.size,x,rfl,fT.1,rfl,λys hy=>by rw[I.list_inj hy hq];exact hx⟩,⟨u,by simpa using he2,hit1.at λo q=>(hs2.2 it (Y5 hne)).trans q⟩,λb hb=>?_⟩
  have hb':b≠s.heap.objs.size:=by
   rcases ZQ.mp hb with z | z
   ·rw[z];exact ZJ lte
   ·have z:b=it:=by simpa using z
    rw[z];exact ZJ lti
  rw[zaj hb'];exact(hf b hb).1
 done:=by
  intro X hP hw hK hc i pins s σ H E I hf st hg;subst hP hw hK;obtain⟨old,he,hit⟩:=st;obtain⟨xs,hq,hx⟩:=hg;obtain⟨its,rv,p,hz⟩:=I.list hq;obtain⟨f0,f1,f2,f3,f4,f5⟩:=hf it (by simp);have hl:=rv.length
  exact wpAny_pyNext_enum_end (I.ok.hd hc) he hit p.isList (by simp;exact OZ6 hl.symm hx) λh' eb=>⟨rfl,I.turned (t':=s.toks) (λb o hb q=>eb b o hb q) f0 f1 f3 f4 f5⟩
 self:=λ_ _ _ _ _ st h=>by obtain⟨old,he,_⟩:=st;exact wpAny_pyIter_enum he h
theorem zl8:∀(xs ys:List Ite) (k:Int) (i:Nat) (x:Ite),zav k xs=some ys->ys[i]?=some x->∃r,xs[i]?=some (.r r)/\x=.en (k+i) r
 | [],ys,k,i,x,e,q=>by simp[zav] at e;subst e;simp at q|.en _ _::_,_,_,_,_,e,_=>by simp[zav] at e
 | .r r::t,ys,k,i,x,e,q=>by
  simp only[zav] at e
  cases et:zav (k+1) t with
  |none=>rw[et] at e;cases e
  | some l=>
   rw[et] at e;simp only[Z5] at e;subst e
   cases i with
   |zero=>simp at q;subst q;exact⟨r,rfl,by simp⟩
   |succ i=>
    obtain⟨r',e1,e2⟩:=zl8 t l (k+1) i x et (by simpa using q)
    exact⟨r',by simpa using e1,by rw[e2];congr 1;push_cast;exact OZP⟩
theorem zjz:∀(xs ys:List Ite) (k:Int),zav k xs=some ys->ys.length=xs.length
 | [],ys,k,e=>by simp[zav] at e;subst e;rfl|.en _ _::_,_,_,e=>by simp[zav] at e
 | .r r::t,ys,k,e=>by
  simp only[zav] at e
  cases et:zav (k+1) t with|none=>rw[et] at e;cases e|some l=>rw[et] at e;simp only[Z5] at e;subst e;simp[zjz t l (k+1) et]
theorem zqG(W:Wlk K (Itl K a) w μ h H)(e:zav 0 w.xs=some ys):Wlk K (Ien K a) ⟨ys,w.l⟩ μ h H:=by
 refine⟨λμ1 h1 H1 i x st R1 sy q=>?_,λμ1 h1 H1 st R1 sy=>?_⟩
 ·obtain ⟨r,e1,rfl⟩:=zl8 _ _ _ _ _ e q
  obtain⟨go,yld⟩:=W.go μ1 h1 H1 i _ st R1 sy e1;refine⟨go,λv H' q_=>?_⟩;obtain⟨p,x,hv,hp,hH,hx⟩:=q_;subst hv hH;obtain⟨_,_,zr⟩:=yld x H1 ⟨rfl,hx⟩
  exact⟨Stp.fresh hp,R1.fresh hp,p,x,rfl,by rw[zak];simp,RepR.stp (Stp.fresh hp) R1 zr⟩
 ·show (Itl K a).stop ys.length H1
  rw[zjz _ _ _ e];exact W.stop μ1 h1 H1 st R1 sy
theorem zux(hg:Gl X "enumerate")(hm:X.mg "enumerate"=none)(ha:PA X [l] ta)(hs:ZY [l] X.env=[(false,eval l X.env)]):
  PI X (.Tuple elts x1 tpos) (.Call (.Name "enumerate" p) [l] [] pos) (λσ H R=>ta σ H λvs H1=>∃a xs,vs=[.ref a]/\SqL X.K H1 a xs/\(xs.length<=sizeLine->R (Ien X.K a) H1)):=by
 intro pins s σ H R I h;refine PyProof.Rows.Call_ (zir I hg hm PyProof.Rows.boot_enumerate (XW (thn (ha pos pins s σ H _ I h) λus s1 q_=>?_) hs rfl));obtain⟨vs,H1,I1,r1,q1⟩:=q_;obtain⟨a,xs,rfl,hq,q⟩:=q1;obtain⟨u,rfl,rx⟩:=zi5 r1;cases rx;obtain⟨its,rv,pl,hz⟩:=I1.list hq;refine call_enumerate_list pl.isList λh' he hit hsz hk=>?_;refine wpAny_pyIter_enum (s:={s1 with heap:=h'}) he ?_;have I2:Inv X pins σ H1 {s1 with heap:=h'}:=I1.kept (t':=s1.toks) hk;refine⟨s1.heap.objs.size+1,[s1.heap.objs.size+1,s1.heap.objs.size],_,_,H1,rfl,I2,znR a _ _ (WS (Yi _)),⟨.none,he,hit⟩,λb hb=>?_,q hz⟩
 rcases ZQ.mp hb with z | z
 ·subst z;exact I1.fpOk (Xw _) (I1.hok.fresh (Xw _))
 ·have z:b=s1.heap.objs.size:=by simpa using z
  subst z;exact I1.fpOk (Z0 _) (I1.hok.fresh (Z0 _))
theorem ztZ(il:isLs r=true)(R1:Rep K μ h H)(q1:RepR K μ h H r v)(e:zbp r h=some (w,h')):h'=h/\∃a vs,v=.ref a/\SqL K H a vs/\vs.length=w.xs.length/\Wlk K (Itl K a) w μ h H:=by
 (delta zbp at e;simp only[zab] at e)
 obtain⟨o,h1,e1,e2⟩:=e;obtain⟨rfl,ho⟩:=zb5 e1
 cases o with
 |some ls=>
  obtain⟨l,rfl,ho⟩:=ho;obtain⟨a,ea,rfl⟩:=q1;simp only[zac] at e2;obtain⟨rfl,rfl⟩:=e2;obtain⟨vs,q2,z2⟩:=R1.obj l a _ ea ho
  exact⟨rfl,a,vs,rfl,.inl (.inl q2),by rw[Z4];exact z2.length.symm,zmv R1 ea ho⟩
 | none=>
  simp only[zab] at e2;obtain⟨d,h2,e3,e4⟩:=e2
  cases r with
  |loc l=>
   obtain⟨a,ea,rfl⟩:=q1;obtain⟨o,ho,il,rfl,rfl⟩:=zeC e3;obtain⟨vs,q2,z2⟩:=R1.placeL ea ho il
   (delta wkOf items at e4;(try dsimp only at e4);simp only[zac] at e4)
   obtain⟨rfl,rfl⟩:=e4
   exact⟨rfl,a,vs,rfl,.inl (.inl q2),by rw[Z4];exact z2.length.symm,znd R1 ea ho il⟩
  | d x=>
   simp only[rd,zac] at e3;obtain⟨rfl,rfl⟩:=e3
   cases x with
   |lst xs=>
    (delta wkOf items at e4;(try dsimp only at e4);simp only[zac] at e4)
    obtain⟨rfl,rfl⟩:=e4;simp only[RepR,RepD] at q1;obtain⟨a,vs,rfl,q2,z2⟩:=q1
    exact⟨rfl,a,vs,rfl,q2.sq,by rw[Z4];exact z2.length.symm,zkg R1 q2 z2⟩
   |_=>cases il
theorem zs9(hg:Gl X "enumerate")(hm:X.mg "enumerate"=none)(hl:IE X l f)(hs:ZY [l] X.env=[(false,eval l X.env)]):
  PI X (.Tuple elts x1 tpos) (.Call (.Name "enumerate" p) [l] [] pos) (tI X.K λσ=>bnd (f σ) λr=>zlC r):=by
 refine PI.imp (zux hg hm (zbG hl zc2 hs) hs) λσ H R q0=>?_;obtain⟨μ,h,env,R0,re,w,h',e,k⟩:=q0;simp only[zab] at e;obtain⟨r,h1,e1,e2⟩:=e;refine⟨μ,h,env,R0,re,r,h1,e1,λμ1 H1 v s1 R1 q1=>?_⟩;unfold zlC at e2
 split at e2
 ·rename_i il
  simp only[zab] at e2;obtain⟨w0,h2,e3,e4⟩:=e2;obtain⟨rfl,a,vs,rfl,q2,hl2,W⟩:=ztZ il R1 q1 e3
  cases en:zav 0 w0.xs with
  |none=>rw[en] at e4;cases e4
  |some ys=>
   rw[en] at e4;simp only[zac] at e4;obtain⟨rfl,rfl⟩:=e4
   exact⟨a,vs,rfl,q2,λhz=>k μ1 H1 _ s1 R1 (zqG W en) (by show ys.length<=sizeLine;rw[zjz _ _ _ en,<-hl2];exact hz)⟩
 ·cases e2
theorem zta(ha:IE X a f)(hi:IE X i g)(hs:zem i):IE X (.Subscript a i pos) (λσ=>bnd (f σ) λx=>bnd (g σ) λy=>bnd (zbK x) λo=>match o,y with
  |some ls,.d (.int k)=>match at' ls k with
   |some l=>ok (.loc l)
   |none=>λ_=>none
  |_,_=>λ_=>none):=by
 refine PE.imp (zps znM ha hi hs) λσ H Q q0=>?_;obtain⟨μ,h,env,R0,re,r,h',e,k⟩:=q0;simp only[zab] at e;obtain⟨x,h1,e1,y,h2,e2,o,h3,e3,e4⟩:=e;refine⟨μ,h,env,R0,re,x,h1,e1,λμ1 H1 v s1 R1 q1=>⟨μ1,h1,env,R1,re.stp s1 R0,y,h2,e2,λμ2 H2 u s2 R2 q2=>?_⟩⟩;obtain⟨rfl,ho⟩:=zb5 e3
 split at e4
 ·rename_i ls kk
  obtain⟨l,rfl,ho⟩:=ho;obtain⟨p,ep,rfl⟩:=q1.stp s2 R1
  cases ea:at' ls kk with|none=>rw[ea] at e4;cases e4|some j=>rw[ea] at e4;simp only[zac] at e4;obtain⟨rfl,rfl⟩:=e4;obtain⟨vs,q3,z3⟩:=R2.obj l p _ ep ho;obtain⟨jj,f1,f2⟩:=zko ea;obtain⟨w,f3,b,eb,rfl⟩:=zd3 z3 f2;simp only[RepR,RepD] at q2;refine⟨p,vs,kk,.ref b,rfl,q2,.inl (.inl q3),?_,k μ2 H2 _ (s1.trans s2) R2 ⟨b,eb,rfl⟩⟩;unfold atI;rw[<-z3.length,f1];exact f3
 ·cases e4
theorem zrm(hg:Gl X "len")(hm:X.mg "len"=none)(he:IE X e f)(hs:ZY [e] X.env=[(false,eval e X.env)]):IE X (.Call (.Name "len" p) [e] [] pos) (λσ=>bnd (f σ) λx=>bnd (zbK x) λo=>match o with
  |some ls=>ok (.d (.int ls.length))
  |none=>λ_=>none):=by
 refine PE.imp (zhr zeQ hg hm (by decide +kernel) (zbG he zc2 hs) (by decide) (by decide) hs rfl) λσ H Q q0=>?_;obtain⟨μ,h,env,R0,re,r,h',e,k⟩:=q0;simp only[zab] at e;obtain⟨x,h1,e1,o,h2,e2,e3⟩:=e;refine⟨μ,h,env,R0,re,x,h1,e1,λμ1 H1 v s1 R1 q1=>?_⟩;obtain⟨rfl,ho⟩:=zb5 e2
 cases o with
 |none=>cases e3
 |some ls=>
  simp only[zac] at e3;obtain⟨rfl,rfl⟩:=e3;obtain⟨l,rfl,ho⟩:=ho;obtain⟨a,ea,rfl⟩:=q1;obtain⟨vs,q3,z3⟩:=R1.obj l a _ ea ho
  exact⟨.ref a,vs.length,rfl,.inl ⟨vs,.inl (.inl q3),rfl⟩,k μ1 H1 _ s1 R1 (by simp only[RepR,RepD];rw[z3.length])⟩
end
end IT
namespace IT
open PySem PySem.Sem
def KD{α:Type}:Sem α->Prop|.pure _=>True|.raise _=>True|.unsupported _=>True|.finish _=>True|.rule _ k=>KD (k ())|.at _ k=>KD (k ())|.load _ _ k=>∀o,KD (k o)|.update _ _ f k=>(∀o,(f o).dict=o.dict/\(o.isFreed=false->(f o).isFreed=false))/\KD (k ())|.alloc _ k=>∀a,KD (k a)|.loadIfAlive _ k=>∀o,KD (k o)|.point _ k=>KD (k ())|.fresh k=>∀t,KD (k t)|.ask k=>∀x,KD (k x)|.handled _ k=>∀x,KD (k x)|.stack k=>∀x,KD (k x)|.thread k=>∀x,KD (k x)|_=>False
def DN(e:Addr)(dd:Option Addr)(s:Shared):Prop:=∃o,s.heap.get? e=some o/\o.dict=dd
theorem zvo{α:Type}{M:Model}{Γ:Ctx}{e:Addr}{dd:Option Addr}{Q:α->Pos->Shared->Prop}{E:Value->Pos->Shared->Prop}:∀(m:Sem α) (p:Pos) (s:Shared),KD m->DN e dd s->wp M Γ m Q E p s->wp M Γ m (λa p s=>Q a p s/\DN e dd s) (λa p s=>E a p s/\DN e dd s) p s:=by
 intro m
 induction m with
 |pure a=>intro p s _ d h;exact⟨h,d⟩|raise v=>intro p s _ d h;exact⟨h,d⟩|unsupported w=>intro p s _ d h;exact h|finish w=>intro p s _ d h;exact h|rule t k ih=>intro p s hk d h;exact ih () p s hk d h|«at» t k ih=>intro p s hk d h;exact ih () t s hk d h|load a q k ih=>intro p s hk d h;obtain⟨o,e1,h⟩:=h;exact⟨o,e1,ih o p s (hk o) d h⟩
 | update a q f k ih=>
  intro p s hk d h;refine⟨h.1,ih () p _ hk.2 ?_ h.2⟩;obtain⟨o,e1,e2⟩:=d
  by_cases z:a=e
  ·subst z
   exact⟨f o,Xa f e1 ((hk.1 o).2 (Heap.get?_some_iff.mp e1).2),((hk.1 o).1).trans e2⟩
  ·exact⟨o,(Yy _ _ z).trans e1,e2⟩
 |alloc o k ih=>intro p s hk d h;obtain⟨u,e1,e2⟩:=d;exact ih _ p _ (hk _) ⟨u,Z2 _ e1,e2⟩ h|loadIfAlive a k ih=>intro p s hk d h;exact ih _ p s (hk _) d h|point l k ih=>intro p s hk d h;exact ih () p s hk d h|register a k ih=>intro p s hk d h;exact h|fresh k ih=>intro p s hk d h;exact ih _ p _ (hk _) d h|ask k ih=>intro p s hk d h;exact ih _ p s (hk _) d h|handled o k ih=>intro p s hk d h;exact ih _ p s (hk _) d h|stack k ih=>intro p s hk d h;exact ih _ p s (hk _) d h|thread k ih=>intro p s hk d h;exact ih _ p s (hk _) d h|_=>intro p s hk d h;exact hk.elim
theorem zhB{α:Type}{M:Model}{A:Around}{e:Addr}{dd:Option Addr}{s:Shared}{m:Sem α}{Q:α->Shared->Prop}{E:Value->Shared->Prop}(hk:KD m)(d:DN e dd s)(h:wpAny M A m Q E s):wpAny M A m (λa s'=>Q a s'/\DN e dd s') (λa s'=>E a s'/\DN e dd s') s:=fun Γ p hΓ=>zvo m p s hk d (h Γ p hΓ)
theorem zap{α β:Type}{f:α->Sem β}:∀{m:Sem α},KD m->(∀a,KD (f a))->KD (m >>= f):=by
 intro m;show KD m->_->KD (Sem.bind m f)
 induction m with|pure a=>intro _ h;exact h a|raise v=>intro _ h;exact trivial|unsupported w=>intro _ h;exact trivial|finish w=>intro _ h;exact trivial|rule t k ih=>intro q h;exact ih () q h|«at» t k ih=>intro q h;exact ih () q h|load a z k ih=>intro q h o;exact ih o (q o) h|update a z g k ih=>intro q h;exact⟨q.1,ih () q.2 h⟩|alloc o k ih=>intro q h a;exact ih a (q a) h|loadIfAlive a k ih=>intro q h o;exact ih o (q o) h|point l k ih=>intro q h;exact ih () q h|fresh k ih=>intro q h o;exact ih o (q o) h|ask k ih=>intro q h o;exact ih o (q o) h|handled z k ih=>intro q h o;exact ih o (q o) h|stack k ih=>intro q h o;exact ih o (q o) h|thread k ih=>intro q h o;exact ih o (q o) h|_=>intro q h;exact q.elim
theorem zmp{g:Array Value->Array Value}(o:Obj):(Obj.mapFields g o).dict=o.dict/\(o.isFreed=false->(Obj.mapFields g o).isFreed=false):=by
 obtain⟨c,d,dt,sl⟩:=o
 cases dt<;>first | exact⟨rfl,λh=>h⟩|exact⟨rfl,λ_=>rfl⟩
theorem zi9{a:Addr}:KD (PySem.load a):=λ_=>trivial
theorem zi1{v:Value}:KD (fieldsOf v):=by
 unfold fieldsOf
 split
 ·refine zap zi9 λo=>?_
  split<;>trivial
 ·trivial
theorem zeR{v:Value}{i:Nat}:KD (field v i):=by
 unfold field;refine zap zi1 λo=>?_
 split<;>trivial
theorem zgd{a:Addr}{i:Nat}{v:Value}:KD (updateField a i v):=by
 unfold updateField;refine zap zi9 λo=>?_
 split
 ·split
  ·exact⟨λo=>zmp o,trivial⟩
  ·trivial
 ·trivial
theorem zcf{v x:Value}{i:Nat}:KD (setField v i x):=by
 unfold setField
 split
 ·exact zgd
 ·trivial
theorem zcB{e:Value}{f:Option Addr}:KD (V8 e f):=by
 unfold V8;refine zap zeR λtb=>?_
 split
 ·exact zcf
 ·trivial
theorem zhq:KD stack:=λ_=>trivial
theorem zhH:KD frameEnvs:=by unfold frameEnvs;exact zap zhq λ_=>trivial
theorem zep{env:YI}{outer:List YI}:KD (behindIsImport env outer):=by
 unfold behindIsImport
 split
 ·trivial
 ·split
  ·trivial
  ·exact zap zeR λ_=>trivial
theorem zoh:KD underTheClaimsCaller:=by unfold underTheClaimsCaller;exact zap zhq λ_=>trivial
theorem ziX{env:YI}{i:Bool}:∀{l:List YI},KD (keptBack env i l)
 | []=>by
  show KD (if(env.scope.isGenerator||env.scope.isCoroutine)=true then Pure.pure V7 else(do return if<-underTheClaimsCaller then .notImplemented else .none))
  split
  ·trivial
  ·exact zap zoh λ_=>trivial
 |_::_=>trivial
theorem zcW:∀{l:List YI},KD (readyFrames l)
 | []=>by unfold readyFrames;trivial
 | env::outer=>by
  unfold readyFrames
  split
  ·refine zap zi9 λo=>?_
   split
   ·trivial
   ·refine zap zep λ_=>zap ziX λ_=>zap ?_ λ_=>zcW
    exact⟨λo=>⟨rfl,λh=>by obtain⟨c,d,dt,sl⟩:=o;cases dt<;>exact h⟩,trivial⟩
  ·trivial
theorem zf0:∀{l:List YI},KD (frameObject l)
 | []=>by unfold frameObject;trivial
 |env::outer=>by unfold frameObject;exact zap zcW λ_=>trivial
theorem zgi{env:YI}:KD (frameOf env):=by
 unfold frameOf;refine zap zhH λl=>zap zf0 λo=>?_
 split<;>trivial
theorem zcE{f:Addr}{b:Bool}:KD (entryPlaceOf f b):=by
 unfold entryPlaceOf;refine zap zhq λl=>?_
 split<;>trivial
theorem zhS{ty:String}{vs:List Value}:KD (newFields ty vs):=by
 unfold newFields newObj;dsimp only
 split
 ·trivial
 ·unfold newObjAsIs
  exact zap (m:=PySem.alloc _) (λ_=>trivial) λ_=>trivial
theorem zfO{a b c d e:Value}{l:List Value}:KD (EntryCells.newEntry a b c d e l):=zhS
theorem zeD{e:Value}{env:YI}:KD (V9 e env):=by
 unfold V9
 split
 ·refine zap zeR λhead=>?_
  split
  ·refine zap zeR λx=>?_
   split
   ·trivial
   ·exact zap zcf λ_=>zap zgi λ_=>zap zcE λ_=>zap zfO λ_=>zcf
  ·exact zap zgi λ_=>zap zcE λ_=>zap zfO λ_=>zcf
 ·trivial
theorem zgs{e:Value}{env:YI}:KD (leaving env e):=by unfold leaving;exact zap zeD λ_=>zcB
end IT
namespace IT
open PySem PySem.Spec L2
theorem zuh{P:Zx}{w:World}{H:Hp}{h:Heap}{a:Addr}{o:HO}(x:zby P w H h a o):∃u,h.get? a=some u:=by
 cases o with|lst xs=>obtain⟨_,_,_,_,e⟩:=x;exact⟨_,e⟩|tup xs=>obtain⟨_,_,_,⟨_,e,_⟩,_⟩:=x;exact⟨_,e⟩|dK kvs=>obtain⟨_,_,_,_,o,_,_,e,_⟩:=x;exact⟨_,e⟩|set S n=>obtain⟨o,_,_,_,e,_⟩:=x;exact⟨_,e⟩|ins C dx fs=>obtain⟨_,_,_,e,_⟩:=x;exact⟨_,e⟩|own y=>obtain⟨_,e⟩:=x;exact⟨_,e⟩|xd fs=>obtain⟨_,⟨_,_,_,e,_⟩,_⟩:=x;exact⟨_,e⟩|rng lo hi=>obtain⟨_,_,_,e⟩:=x;exact⟨_,e⟩|frz ob u=>obtain⟨e,_⟩:=x;exact⟨_,e⟩|tbl ps=>exact⟨_,(show h.get? a=some _ from x)⟩|met f y=>exact⟨_,(show h.get? a=some _ from x)⟩|ext φ=>obtain⟨_,⟨_,e⟩,_⟩:=x;exact⟨_,e⟩
theorem zhc{fs:List Addr}{H0 H1:Hp}{h0 h h':Heap}(u:Un fs [] H0 H1 h0 h)(kp:∀b o,h0.get? b=some o->b∉fs->∀o',h.get? b=some o'->h'.get? b=some o')
  (sl:∀b o,h0.get? b=some o->b∈fs->∀o',h.get? b=some o'->∃s,h'.get? b=some {o' with slots:=s}):Un fs [] H0 H1 h0 h' where
 keep:=λb o q n hb hx=>kp b o q hb o (u.keep b o q n hb hx)
 slot:=λb o q n hb hx=>by obtain⟨s,e⟩:=u.slot b o q n hb hx;obtain⟨s',e'⟩:=sl b o q hb _ e;exact⟨s',e'⟩
 free:=u.free
 there:=λb o q hx=>by
  obtain⟨o',e⟩:=u.there b o q hx
  by_cases hb:b∈fs
  ·obtain ⟨s',e'⟩:=sl b o q hb _ e
   exact⟨_,e'⟩
  ·exact⟨o',kp b o q hb o' e⟩
 tups:=u.tups
 frzs:=u.frzs
 tbls:=u.tbls
theorem zeZ{P:Zx}{w:World}{H:Hp}{h h':Heap}(x:HOk P w H h)(k:∀b,(∃o,H b=some o)->∀u,h.get? b=some u->h'.get? b=some u):HOk P w H h':=λa o e=>(x a o e).stay (λb u hb q=>k b (hb.elim (λz=>⟨o,z▸e⟩) λz=>⟨_,z⟩) u q) (λ_ q=>q) λ_ _ q=>q
structure Fly(P:Zx)(w:World)(outer:List YI)(H:Hp)(s:Shared)(C:Value)(a:Addr)(H':Hp)(s':Shared):Prop where
 os:s'.os=s.os
 bare:PyProof.Rows.AllBare s'.gens
 un:Un (frs outer) [] H H' s.heap s'.heap
 hok:HOk P w H' s'.heap
 fly:∃(B:Heap) (t:Value),Heap.FlyingW B outer a C t s'.heap/\(∀b o,s.heap.get? b=some o->b∉frs outer->∃u,B.get? b=some u)/\∀b o,H' b=some o->∃u,B.get? b=some u
def CXk(P:Zx)(w:World):CXT:=λouter H s E e s'=>∃a C H',e=.ref a/\Fly P w outer H s C a H' s'/\DN a none s'/\E C none H'
section
variable {X:Cx}{pins:List (Addr×Obj)}{σ:St}{H:Hp}{s s':Shared}{E:XK}{EE:Value->Shared->Prop}
structure zhd(X:Cx):Prop where
 ex:X.ex=[]
 st:X.stack=X.env::X.outer
 fr:X.env.frame=some X.env.locals
theorem zoc(hd:zhd X)(I:Inv X pins σ H s){b:Addr}{o:Obj}(e:X.s₀.heap.get? b=some o)(hb:b∉X.fs):b∉frs X.stack:=λz=>by
 rcases ZQ.mp (I.stkSub b z) with q | q
 ·exact absurd (ZI (ZP e) I.ok.above) (by rw[q];exact YR _)
 ·exact hb q
theorem zuj(hd:zhd X){b:Addr}(hb:b∈X.fs):b∈frs X.stack:=by rw[hd.st];unfold frs;rw[YZ,hd.fr];exact Zo _ hb
theorem zn8(hd:zhd X)(I:Inv X pins σ H s){h':Heap}{e:Addr}{C:Value}{vs:List Value}(m:Wd s.heap h' e C vs)(q:E C none H):
  wpAny (model X.prog X.w) X.A (leaving X.env (.ref e)) (λ_ s''=>CXk X.prog X.w X.outer X.H₀ X.s₀ E (.ref e) s'') EE {s with heap:=h'}:=by
 have hd0:DN e none {s with heap:=h'}:=let ⟨t,e1,_⟩:=m.there;⟨_,e1,rfl⟩
 refine ZF (zhB zgs hd0 (Q:=λ_ s''=>∃a C H',Zc e=.ref a/\Fly X.prog X.w X.outer X.H₀ X.s₀ C a H' s''/\E C none H') (E:=EE) ?_) (λ_ s'' z=>let ⟨⟨a,C',H',ea,f,q⟩,d⟩:=z;⟨a,C',H',ea,f,by cases ea;exact d,q⟩) (λ_ _ z=>z.1)
 have hst:=I.stack
 refine wpAny_leaves_madeW (base:=PySem.W.hideAll s.heap (frs X.stack)) (h:=s.heap) (L:=X.env.locals) (outer:=X.outer) (by rw[I.ok.frames,hd.st]) hd.fr (λb o q=>PySem.W.of_hideAll _ q)
  (by rw[<-hd.st];exact PySem.W.funFrames_hide hst λenv he a hf=>WK.mpr ⟨env,he,hf⟩) m λh2 t fl tup tn up=>?_
 have kp:∀b o,s.heap.get? b=some o->b∉frs X.stack->h2.get? b=some o:=λb o e hb=>fl.1 b o (XI _ e hb)
 have sl:∀b o,b∈frs X.stack->s.heap.get? b=some o->∃z,h2.get? b=some {o with slots:=z}:=λb o hb e=>by obtain⟨_,o',e',hn⟩:=hst.mem hb;rw[e] at e';cases e';exact up b o (m.keeps b o e) hn
 have b0:=I.base;rw[hd.ex] at b0
 refine ⟨e,C,H,rfl,⟨I.os,I.bare,zhc b0 (λb o e hb o' e'=>kp b o' e' (zoc hd I e hb)) (λb o e hb o' e'=>sl b o' (zuj hd hb) e'),zeZ I.hok (λb ⟨o,ho⟩ u e'=>kp b u e' λz=>by rw[I.stkFree b z] at ho;cases ho),_,_,fl,λb o e hb=>?_,λb o ho=>?_⟩,q⟩
 ·obtain ⟨o',e'⟩:=b0.there b o e (by simp)
  exact⟨o',XI _ e' (zoc hd I e hb)⟩
 ·obtain ⟨u,e'⟩:=zuh (I.hok b o ho)
  exact⟨u,XI _ e' λz=>by rw[I.stkFree b z] at ho;cases ho⟩
theorem ztD(hd:zhd X)(I:Inv X pins σ H s){e:Value}(c:CXk X.prog X.w X.stack H s E e s'):
  wpAny (model X.prog X.w) X.A (leaving X.env e) (λ_ s''=>CXk X.prog X.w X.outer X.H₀ X.s₀ E e s'') EE s':=by
 obtain⟨a,C,H',rfl,⟨os,bare,un,hok,B,t,fl,k3,k2⟩,dn,q⟩:=c
 refine ZF (zhB zgs dn (Q:=λ_ s''=>∃a' C H',Zc a=.ref a'/\Fly X.prog X.w X.outer X.H₀ X.s₀ C a' H' s''/\E C none H') (E:=EE) ?_) (λ_ s'' z=>let ⟨⟨a',C',H',ea,f,q⟩,d⟩:=z;⟨a',C',H',ea,f,by cases ea;exact d,q⟩) (λ_ _ z=>z.1)
 have I':Inv X pins σ H' s':=I.call' os un hok bare (by simp);have b0:=I.base;have b1:=I'.base;rw[hd.ex] at b0 b1;have fl':=fl;rw[hd.st] at fl';refine wpAny_leaves_onW (by rw[I.ok.frames,hd.st]) hd.fr fl' λh2 fl2 up=>?_;have kp:∀b u,B.get? b=some u->s'.heap.get? b=some u/\h2.get? b=some u:=λb u e=>⟨fl.1 b u e,fl2.1 b u e⟩;refine⟨a,C,H',rfl,⟨I'.os,I'.bare,zhc b1 (λb o e hb o' e'=>?_) (λb o e hb o' e'=>?_),zeZ hok (λb ⟨o,ho⟩ u e'=>?_),B,t,fl2,λb o e hb=>?_,k2⟩,q⟩
 ·obtain ⟨o1,e1⟩:=b0.there b o e (by simp)
  obtain⟨u,eu⟩:=k3 b o1 e1 (zoc hd I e hb);obtain⟨z1,z2⟩:=kp b u eu;rw[e'] at z1;cases z1;exact z2
 ·obtain ⟨_,o2,e2,hn⟩:=fl.2.2.1.mem (zuj hd hb)
  rw[e'] at e2;cases e2;exact up b o' e' hn
 ·obtain ⟨u',eu⟩:=k2 b o ho
  obtain⟨z1,z2⟩:=kp b u' eu;rw[e'] at z1;cases z1;exact z2
 ·obtain ⟨o1,e1⟩:=b0.there b o e (by simp)
  exact k3 b o1 e1 (zoc hd I e hb)
def Cx.caught(X:Cx)(e:Addr)(E:Value->Shared->Prop):Cx:={X with A:=X.A.mark (some (.ref e)),calm:=false,xe:=E}
theorem Inv.caught(I:Inv X pins σ H s)(e:Addr)(E:Value->Shared->Prop):Inv (Cx.caught X e E) pins σ H s:=
 ⟨⟨I.ok.mod,I.ok.kind,I.ok.glob,I.ok.blt,I.ok.above,I.ok.inj,I.ok.has,I.ok.cab,λz=>(by cases z),I.ok.frames,I.ok.stk,I.ok.exf,I.ok.bs,I.ok.bsz,I.ok.noex,I.ok.exfs,I.ok.funs,I.ok.frf⟩,
  I.os,I.bare,I.base,I.loc,I.cell,I.free,I.freeC,I.pin,I.hok,I.len⟩
theorem Inv.uncaught{e:Addr}{E:Value->Shared->Prop}(I:Inv X pins σ H s){σ':St}{H':Hp}{s':Shared}(J:Inv (Cx.caught X e E) pins σ' H' s'):Inv X pins σ' H' s':=⟨I.ok,J.os,J.bare,J.base,J.loc,J.cell,J.free,J.freeC,J.pin,J.hok,J.len⟩
end
end IT
namespace IT
open PySem PySem.Spec L2
section
variable {X:Cx}
theorem zmn{es:List Expr}{t:TA}(h:PA X.nox es t):PA X es t:=λpos pins s σ H Q I q=>ZF (h pos pins s σ H Q (I.wish _) q) (λ_ _ ⟨vs,H',I',r,q⟩=>⟨vs,H',I'.unwish,r,q⟩) λ_ _ z=>Y8 z
theorem zpX{tg:Expr}{t:TG}(h:PG X.nox tg t):PG X tg t:=λpins s σ H v u Q I r q=>ZF (h pins s σ H v u Q (I.wish _) r q) (λ_ _ ⟨σ',H',I',q⟩=>⟨σ',H',I'.unwish,q⟩) λ_ _ z=>Y8 z
theorem zsJ{tg iter:Expr}{t:TI}(h:PI X.nox tg iter t):PI X tg iter t:=λpins s σ H Q I q=>ZF (h pins s σ H Q (I.wish _) q) (λv s1 z=>ZF z (λitv s2 ⟨it,fp,tn,J,H',e,I',T,t0,f,q⟩=>⟨it,fp,tn,J,H',e,I'.unwish,T,t0,f,q⟩) λ_ _ z=>Y8 z) λ_ _ z=>Y8 z
theorem zs2{st:Stmt}{t:TS}(h:PS X.nox st t):PS X st t:=λpins s σ H D I hw=>ZF (h pins s σ H D (I.wish _) hw) (λ_ _ q=>q.unwish) λ_ _ z=>Y8 z
end
inductive RX(K:Z7)(m:IT.Env->M R)(E:R->Hp->Prop)(σ:St)(H:Hp):Prop where|mk (μ:List Addr) (h:Sto) (env:IT.Env) (R0:Rep K μ h H) (re:RepE K μ h H env σ) (r:R) (h':Sto) (e:m env h=some (r,h')) (k:∀μ' H',Stp μ h H μ' h' H'->Rep K μ' h' H'->E r H')
def XS(X:Cx)(E:R->Hp->Prop)(st:Stmt)(m:IT.Env->M R):Prop:=∀(pins:List (Addr×Obj)) (s:Shared) (σ:St) (H:Hp),Inv X pins σ H s->RX X.K m E σ H->wpAny (model X.prog X.w) X.A (exec st X.env) (λ_ _=>False) X.xe s
def XSs(X:Cx)(E:R->Hp->Prop)(sts:List Stmt)(m:IT.Env->M R):Prop:=∀(pins:List (Addr×Obj)) (s:Shared) (σ:St) (H:Hp),Inv X pins σ H s->RX X.K m E σ H->wpAny (model X.prog X.w) X.A (execs sts X.env) (λ_ _=>False) X.xe s
def zrl:Ends:={nx:=λ_ _=>False,rt:=λ_ _=>False}
section
variable {X:Cx}{E:R->Hp->Prop}
theorem zpg{pins:List (Addr×Obj)}{f:Flow}{s:Shared}(h:SP X pins zrl f s):False:=by
 cases f with|next=>obtain⟨_,_,_,z⟩:=h;exact z|brk=>obtain⟨_,_,_,z⟩:=h;exact z|cont=>obtain⟨_,_,_,z⟩:=h;exact z|ret u=>obtain⟨_,_,_,_,_,z⟩:=h;exact z
theorem zsy{st:Stmt}{t:TS}{m:IT.Env->M R}(h:PS X st t)(i:∀σ H,RX X.K m E σ H->t zrl σ H):XS X E st m:=λpins s σ H I q=>ZF (h pins s σ H zrl I (i σ H q)) (λ_ _ z=>zpg z) λ_ _ z=>z
theorem zaR{st:Stmt}:XS X E st (λ_ _=>none):=λpins s σ H I ⟨_,_,_,_,_,_,_,e,_⟩=>by cases e
theorem zq1:XSs X E [] (λ_ _=>none):=λpins s σ H I ⟨_,_,_,_,_,_,_,e,_⟩=>by cases e
theorem zov{st:Stmt}{sts:List Stmt}{f:IT.Env->M (Fl×IT.Env)}{m ms:IT.Env->M R}(h1:PS X st (tS X.K f))(x1:XS X E st m)(h2:XSs X E sts ms):
  XSs X E (st::sts) (λσ h=>match f σ h with
   |some ((fl,σ1),h1)=>match fl with
    |.nx=>ms σ1 h1|_=>none
   |none=>m σ h):=by
 intro pins s σ H I ⟨μ,h,env,R0,re,r,h',e,k⟩
 (try dsimp only at e)
 cases ef:f env h with
 |none=>rw[ef] at e;exact XQ (ZF (x1 pins s σ H I ⟨μ,h,env,R0,re,r,h',e,k⟩) (λ_ _ z=>z.elim) λ_ _ z=>z)
 | some p=>
  obtain⟨⟨fl,env1⟩,h1'⟩:=p;rw[ef] at e
  cases fl with
  |nx=>
   refine XQ (thn (h1 pins s σ H {nx:=λσ1 H1=>RX X.K ms E σ1 H1,rt:=λ_ _=>False} I ⟨μ,h,env,R0,re,.nx,env1,h1',ef,λμ1 H1 σ1 s1 R1 re1=>⟨μ1,h1',env1,R1,re1,r,h',e,λμ2 H2 s2 R2=>k μ2 H2 (s1.trans s2) R2⟩⟩) λf s1 q=>?_)
   cases f with|next=>obtain⟨σ1,H1,I1,q⟩:=q;exact h2 pins s1 σ1 H1 I1 q|brk=>obtain⟨_,_,_,z⟩:=q;exact z|cont=>obtain⟨_,_,_,z⟩:=q;exact z|ret u=>obtain⟨_,_,_,_,_,z⟩:=q;exact z
  |brk=>cases e|cnt=>cases e|ret _=>cases e
theorem zvA{c:Expr}{a b:List Stmt}{pos:Pos}{ft:IT.Env->M Bool}{fa fb:IT.Env->M R}(hc:IT' X c ft)(ha:XSs X E a fa)(hb:XSs X E b fb):
  XS X E (.If c a b pos) (λσ=>bnd (ft σ) λt=>if t then fa σ else fb σ):=by
 intro pins s σ H I ⟨μ,h,env,R0,re,r,h',e,k⟩;simp only[zab] at e;obtain⟨t,h1,e1,e2⟩:=e;refine wpAny_If (thn (hc pins s σ H (λb H1=>b=t/\RX X.K (if t=true then fa else fb) E σ H1) I ⟨μ,h,env,R0,re,t,h1,e1,λμ1 H1 v s1 R1 hv=>?_⟩) λd s1 ⟨H1,I1,q1⟩=>?_)
 ·subst hv
  refine⟨rfl,μ1,h1,env,R1,re.stp s1 R0,r,h',?_,λμ2 H2 s2 R2=>k μ2 H2 (s1.trans s2) R2⟩
  cases t<;>exact e2
 ·obtain ⟨rfl,q⟩:=q1
  cases d with|true=>exact ha pins s1 σ H1 I1 q|false=>exact hb pins s1 σ H1 I1 q
def tB(K:Z7)(E:R->Hp->Prop)(f:IT.Env->M (Fl×IT.Env))(m:IT.Env->M R):TS:=λD σ H=>tS K f D σ H\/RX K m E σ H
theorem zo4{sts:List Stmt}{f:IT.Env->M (Fl×IT.Env)}{m:IT.Env->M R}(h:PSs X sts (tS X.K f))(x:XSs X E sts m):PSs X sts (tB X.K E f m):=λpins s σ H D I q=>by
 rcases q with q | q
 ·exact h pins s σ H D I q
 ·exact ZF (x pins s σ H I q) (λ_ _ z=>z.elim) λ_ _ z=>z
theorem zud{tg iter:Expr}{body:List Stmt}{pos:Pos}{t:Tg}{fi:IT.Env->M Wk}{fb:IT.Env->M (Fl×IT.Env)}{fx:IT.Env->M R}(hp:Wt (model X.prog X.w) X.A X.env X.xe)(hc:X.calm=true)(hi:PI X tg iter (tI X.K fi))(hg:PG X tg (tGI X.K t))(hb:PSs X body (tS X.K fb))(hx:XSs X E body fx)
  (hs:∀x,YE iter X.env x=pure x) (hwl:∀σ h w h',fi σ h=some (w,h')->WlOk w h'):
  XS X E (.For tg iter body [] pos) (λσ=>bnd (fi σ) λw=>zjr w.l (λx σ=>bnd (zax t x σ) λσ'=>fb σ') (λx σ=>bnd (zax t x σ) λσ'=>fx σ') w.xs σ):=by
 refine zsy (zpJ hp hc hi hg (zo4 hb hx) hs) λσ H q0=>?_;obtain⟨μ,h,env,R0,re,r,h',e,k⟩:=q0;simp only[zab] at e;obtain⟨w,h1,e1,e2⟩:=e;refine⟨μ,h,env,R0,re,w,h1,e1,λμ1 H1 J s1 R1 W1 _=>?_⟩
 refine ⟨λi m σ2 H2=>∃μ2 h2 env2,Stp μ1 h1 H1 μ2 h2 H2/\zaM w.l h1 h2=true/\Rep X.K μ2 h2 H2/\RepE X.K μ2 h2 H2 env2 σ2/\i+m=w.xs.length ∧
   zjr w.l (λx σ=>bnd (zax t x σ) λσ'=>fb σ') (λx σ=>bnd (zax t x σ) λσ'=>fx σ') (w.xs.drop i) env2 h2=some (r,h'),⟨w.xs.length,μ1,h1,env,Stp.refl,zd9 _ _ (hwl _ _ _ _ e1),R1,re.stp s1 R0,by exact OZO,by rw[Xj];exact e2⟩,?_⟩
 rintro i m σ2 H2 ⟨μ2,h2,env2,s2,sy2,R2,re2,him,el⟩
 cases hx':w.xs[i]? with
 |none=>
  have hi':w.xs.length<=i:=by simpa using hx'
  rw[Yx hi'] at el;cases el
 | some x=>
  have hil:i<w.xs.length:=(Z9.mp hx').1
  have hdrop:w.xs.drop i=x::w.xs.drop (i+1):=by rw[ZG hil,(Z9.mp hx').2]
  rw[hdrop] at el;unfold zjr at el;obtain⟨go,yld⟩:=W1.go μ2 h2 H2 i x s2 R2 sy2 hx'
  refine .inr ⟨go,λσ' H'=>∃m',m'<m/\∃μ5 h5 env5,Stp μ1 h1 H1 μ5 h5 H'/\zaM w.l h1 h5=true/\Rep X.K μ5 h5 H'/\RepE X.K μ5 h5 H' env5 σ'/\(i+1)+m'=w.xs.length ∧
    zjr w.l (λx σ=>bnd (zax t x σ) λσ'=>fb σ') (λx σ=>bnd (zax t x σ) λσ'=>fx σ') (w.xs.drop (i+1)) env5 h5=some (r,h'),λσ' H' hN=>hN,λv H' hy=>?_⟩
  obtain⟨sy,Ry,zx⟩:=yld v H' hy
  cases ef:bnd (zax t x env2) (λσ'=>fb σ') h2 with
  |none=>
   rw[ef] at el;have el:bnd (zax t x env2) (λσ'=>fx σ') h2=some (r,h'):=el;simp only[zab] at el;obtain⟨env4,h4,e4,e5⟩:=el
   have:=zdN e4
   subst this;exact⟨μ2,_,env2,x,env4,Ry,re2.stp sy R2,zx,e4,λσ4 re4=>.inr ⟨μ2,_,env4,Ry,re4,r,h',e5,λμ5 H5 s5 R5=>k μ5 H5 ((s1.trans s2).trans (sy.trans s5)) R5⟩⟩
  | some p=>
   obtain⟨⟨fl3,env3⟩,h3⟩:=p;rw[ef] at el;simp only[zab] at ef;obtain⟨env4,h4,e4,e5⟩:=ef
   have:=zdN e4
   subst this;refine⟨μ2,_,env2,x,env4,Ry,re2.stp sy R2,zx,e4,λσ4 re4=>.inl ⟨μ2,_,env4,Ry,re4,fl3,env3,h3,e5,λμ5 H5 σ5 s5' R5 re5=>?_⟩⟩;have s5:=sy.trans s5'
   cases fl3 with
   | nx=>
    simp only at el
    split at el
    ·rename_i sy5
     exact⟨m-1,by exact OZ4 him hil,μ5,h3,env3,s2.trans s5,zbe sy2 sy5,R5,re5,by exact OZ3 him hil,el⟩
    ·cases el
   | cnt=>
    simp only at el
    split at el
    ·rename_i sy5
     exact⟨m-1,by exact OZ4 him hil,μ5,h3,env3,s2.trans s5,zbe sy2 sy5,R5,re5,by exact OZ3 him hil,el⟩
    ·cases el
   |brk=>cases el|ret r=>cases el
end
abbrev ClsV:=R->Option Value
def spX(K:Z7)(cv:ClsV)(np:Nat)(m:List R->M R):Sp:=λvs H _ E=>vs.length=np/\∃μ h rs r h' C,Rep K μ h H/\zaY K μ h H rs vs/\m rs h=some (r,h')/\cv r=some C/\∀μ' H',Stp μ h H μ' h' H'->Rep K μ' h' H'->E C none H'
structure FunX(X:Cx)(cv:ClsV)(n:Nat)(x:Str)(np:Nat)(dfl:List D)(m:List R->M R):Prop where
 ex:∃f fd ps dvs,FnOk X.prog X.w X.K X.mg X.base (CXk X.prog X.w) n f fd ps (spX X.K cv np m)/\X.mg x=some (.ref f)/\Zf X.K (.ref f)=true/\(∀A H,RepDs X.K A H dfl dvs)/\(∀j,j<=dfl.length->∃ds,zdq X.K fd ps ds/\Vals (dvs.drop j) ds)
 fill:∀rs,m rs=m (zaw np dfl rs)
 len:∀rs h p,m rs h=some p->(zaw np dfl rs).length=np
 cls:∀rs h r h',m rs h=some (r,h')->∃C,cv r=some C
section
variable {X:Cx}{E:R->Hp->Prop}{cv:ClsV}
def wX(cv:ClsV)(E:R->Hp->Prop):XK:=λC _ H=>∃r,cv r=some C/\E r H
theorem zrS{n np:Nat}{x:Str}{dfl:List D}{m:List R->M R}{e:Expr}{es:List Expr}{p pos:Pos}{fs:IT.Env->M (List R)}(hF:FunX X cv n x np dfl m)(hr:Room n X.A)(hg:Gl X x)(hx:zdO (CXk X.prog X.w) X (wX cv E))(ha:IA X (e::es) fs)(hf:∀σ h rs h',fs σ h=some (rs,h')->rs.length=(e::es).length)
  (hdb:(x==("__debug__":Str))=false) (he:ZY (e::es) X.env=(false,eval e X.env)::ZY es X.env) (hpl:(backTo pos (ZY es X.env)).any (·.1)=false):
  PE X (.Call (.Name x p) (e::es) [] pos) (λσ H _=>RX X.K (λσ=>bnd (fs σ) λrs=>m rs) E σ H):=by
 obtain⟨f,fd,ps,dvs,F,hm,hk,hd,hb⟩:=hF.ex
 by_cases hj:(e::es).length+dfl.length-np<=dfl.length/\¬(e::es).length+dfl.length<np
 ·obtain ⟨hj,hj2⟩:=hj
  obtain⟨ds,hb,hv⟩:=hb _ hj;refine PE.imp (ziW F hr hg hm hk hb hv hx ha hdb he hpl) λσ H Q q0=>?_;obtain⟨μ,h,env,R0,re,r,h',ee,k⟩:=q0;simp only[zab] at ee;obtain⟨rs,h1,e1,e2⟩:=ee;refine⟨μ,h,env,R0,re,rs,h1,e1,λμ1 H1 vs s1 R1 q1=>?_⟩;have hlen:=hF.len _ _ _ e2;obtain⟨C,hC⟩:=hF.cls _ _ _ _ e2;rw[hF.fill rs] at e2
  have qq:zaY X.K μ1 h1 H1 (zaw np dfl rs) (vs++dvs.drop ((e::es).length+dfl.length-np)):=by
   rw[zbi (by rw[hf _ _ _ _ e1];exact hj2),hf _ _ _ _ e1]
   exact q1.app (RepDs.drop _ (hd _ _)).rs
  exact⟨by rw[<-qq.length];exact hlen,μ1,h1,zaw np dfl rs,r,h',C,R1,qq,e2,hC,λμ2 H2 s2 R2=>⟨r,hC,k μ2 H2 (s1.trans s2) R2⟩⟩
 ·intro pins s σ H Q I q0
  exfalso
  obtain⟨μ,h,env,R0,re,r,h',ee,k⟩:=q0;simp only[zab] at ee;obtain⟨rs,h1,e1,e2⟩:=ee;have hlen:=hF.len _ _ _ e2;have hrs:=hf _ _ _ _ e1
  by_cases hs:rs.length+dfl.length<np
  ·rw [zb4 hs] at hlen
   exact OZQ hs hlen
  ·rw [zbi hs] at hlen
   simp only[Zu,Z4,Yg] at hlen;exact OZs hlen hrs hj hs
end
abbrev veM:List Value:=[.type "ValueError",.type "Exception",.type "BaseException",.type "object"]
structure ExcK(K:Z7)(C:Addr):Prop where
 ex:∃nm q N bs bm hdct sn sub ab col dd k0 k1 k2 k3 k5,K.lookup C=some (excClassObj nm q C N bs bm hdct sn sub ab col dd k0 k1 k2 k3 k5 "ValueError.__new__")/\Xi K N=true/\ZR K N "__init__"=some none/\∀h,K.In h->OwnTail h veM bm
theorem zpC{K:Z7}{h:Heap}{A:Addr}{c0:Value}{dd:Option Addr}{cd:ClassData}{sl:Array (Option Value)}(X:K.In h)(l:K.lookup A=some ⟨c0,dd,.cls cd,sl⟩)(ok:Xi K cd.ns=true)(ni:ZR K cd.ns "__init__"=some none){bm:List Value}(t:OwnTail h veM bm):OwnTail h veM (.ref A::bm):=.own (X _ _ l) (.of_isNs (PySem.W.isNs_of_in X ok)) (PySem.W.nsMap_none_of_in X ok ni) t
section
variable {X:Cx}{E:R->Hp->Prop}{cv:ClsV}
theorem zpE{x:Str}{Ca:Addr}{np cpos pos:Pos}{e:Expr}{es:List Expr}{fs:IT.Env->M (List R)}{r:R}(hd:zhd X)(hc:X.calm=true)(ck:ExcK X.K Ca)(hg:Gl X x)(hm:X.mg x=some (.ref Ca))(hcv:cv r=some (.ref Ca))(ha:IA X (e::es) fs)(hl:(e::es).length<=1000)(hf:∀σ h rs h',fs σ h=some (rs,h')->rs.length=(e::es).length)
    (hdb:(x==("__debug__":Str))=false) (he:ZY (e::es) X.env=(false,eval e X.env)::ZY es X.env) (hpl:(backTo cpos (ZY es X.env)).any (·.1)=false)
    (thr:∀pins σ H s h' a vs,Inv X pins σ H s->Wd s.heap h' a (.ref Ca) vs->wX cv E (.ref Ca) none H->X.xe (.ref a) {s with heap:=h'}):
    XS X E (.Raise (some (.Call (.Name x np) (e::es) [] cpos)) none pos) (λσ=>bnd (fs σ) λ_=>ok r):=by
  intro pins s σ H I ⟨μ,h,env,R0,re,r',h',ee,k⟩;simp only[zab,zac] at ee;obtain⟨rs,h1,e1,rfl,rfl⟩:=ee;obtain⟨nm,q,N,bs,bm,hdct,sn,sub,ab,col,dd,k0,k1,k2,k3,k5,lk,nok,ni,tl⟩:=ck.ex;have FB:=PySem.F.excBase_ValueError
  have hpl':(backTo cpos (ZY (e::es) X.env)).any (·.1)=false:=by rw[he];show(false||(backTo cpos (ZY es X.env)).any (·.1))=false;rw[hpl];rfl
  apply wpAny_Raise_call_subT (C:=Ca) (N:=N) FB (mN:=s.heap.nsMap N) ((tl _ I.kIn).hasType FB.hasBase) (I.ok.hd hc) hpl' (PySem.W.nsMap_none_of_in I.kIn nok ni);refine zfj I hg hm ⟨rfl,?_⟩ hdb
  have hp:=ha cpos pins s σ H (λvs H1=>vs.length<=1000/\E r H1) I ⟨μ,h,env,R0,re,rs,h1,e1,λμ1 H1 vs s1 R1 q1=>⟨by rw[<-q1.length,hf _ _ _ _ e1];exact hl,k μ1 H1 s1 R1⟩⟩
  rw[he] at hp⊢;refine Calls.evalArgs_plain (ZF hp (λus s2 q_=>?_) λ_ _ z=>z);obtain⟨vs,H1,I1,rv,ql,qe⟩:=q_
  have kk:s2.heap.Ns N (s.heap.nsMap N):=by
    have a1:s.heap.Ns N (s.heap.nsMap N):=.of_isNs (PySem.W.isNs_of_in I.kIn nok);obtain⟨o,es',ep,ho,rest⟩:=a1;refine⟨o,es',ep,?_,rest⟩
    have hb:X.K.lookup N=some o:=by
      have z:=nok;unfold Xi at z
      split at z
      · rename_i o' hlk
        have:=I.kIn _ _ hlk
        rw[ho] at this;cases this;exact hlk
      · cases z
    exact I1.kIn _ _ hb
  exact⟨rfl,Y6 (by rw[<-rv.length];exact ql) (by decide),I1.kIn _ _ lk,kk,tl _ I1.kIn,λh2 a m=>thr pins σ H1 s2 h2 a _ I1 m ⟨r,hcv,qe⟩⟩
end
end IT
namespace IT
open PySem PySem.Spec L2
section
variable {X:Cx}{pins:List (Addr×Obj)}{σ:St}{H:Hp}{s:Shared}
theorem zph{E:Value->Shared->Prop}(h:X.xe=λ_ _=>False):(X.wish E).nox=X:=by cases X;simp only at h;subst h;rfl
theorem zrN{CX:CXT}{n:Nat}{f:Addr}{fd:FuncData}{ps:List Str}{sp:Sp}{dvs:List V}{ds:List Value}{E:XK}{Q:VK}{us:List Value}{vs:List V}(F:FnOk X.prog X.w X.K X.mg X.base CX n f fd ps sp)(hr:Room n X.A)(hb:zdq X.K fd ps ds)(hd:Vals dvs ds)
  (hx:∀e s',CX X.stack H s E e s'->X.xe e s') (I:Inv X pins σ H s) (r:Vals vs us) (h:sp (vs++dvs) H Q E):wpAny (model X.prog X.w) X.A (call (.ref f) us) (EP X pins σ Q) X.xe s:=by
 have hv:Vals (vs++dvs) (us++ds):=r.append hd;refine wpAny_call (WQ (F.run X.A X.stack s H ⟨us,[]⟩ _ _ Q E hr I.env0 (hb s us I.kIn (by rw[<-hv.length,F.len _ _ _ _ h])) hv h) λres s' hq=>?_)
 match res,hq with|.error e,hq=>exact hx e s' hq|.ok (.ret u),hq=>exact I.after hq
theorem zm5{CX:CXT}{n:Nat}{f:Addr}{fd:FuncData}{ps:List Str}{sp:Sp}{dvs:List V}{ds:List Value}{E:XK}{Q:VK}{x:Str}{p pos:Pos}{e:Expr}{es:List Expr}{t:TA}(F:FnOk X.prog X.w X.K X.mg X.base CX n f fd ps sp)(hr:Room n X.A)(hg:Gl X x)(hm:X.mg x=some (.ref f))(hk:Zf X.K (.ref f)=true)(hb:zdq X.K fd ps ds)(hd:Vals dvs ds)
  (ha:PA X (e::es) t) (hdb:(x==("__debug__":Str))=false) (he:ZY (e::es) X.env=(false,eval e X.env)::ZY es X.env) (hpl:(backTo pos (ZY es X.env)).any (·.1)=false)
  (I:Inv X pins σ H s) (h:t σ H λvs H1=>sp (vs++dvs) H1 Q E) (hx:∀H1 s1 e s',Inv X pins σ H1 s1->CX X.stack H1 s1 E e s'->X.xe e s'):
  wpAny (model X.prog X.w) X.A (eval (.Call (.Name x p) (e::es) [] pos) X.env) (EP X pins σ Q) X.xe s:=
 X8 (zfj I hg hm (Xy (h₀:=X.base) I.ok.mod.kin hk (thn (ha pos pins s σ H _ I h) λus s1 ⟨vs,H1,I1,r,q⟩=>⟨I1.kIn,zrN F hr hb hd (λe s' c=>hx H1 s1 e s' I1 c) I1 r q⟩) he hpl) hdb)
end
section
variable {X:Cx}{cv:ClsV}
end
end IT
namespace IT
open PySem PySem.Spec L2
section
variable {K:Z7}{μ:List Addr}{h:Sto}{H:Hp}
abbrev RcF(K:Z7)(μ:List Addr)(h:Sto)(H:Hp)(p:Str×R)(q:Key×V):Prop:=Zg p.1=q.1/\RepR K μ h H p.2 q.2
theorem zpH{k:Str}{r:R}:∀{fs:List (Str×R)} {xs:List (Key×V)},Paired (RcF K μ h H) fs xs->fs.lookup k=some r->∃v,valV xs (.inr k)=some v/\RepR K μ h H r v
 |_,_,.nil,e=>by simp at e
 | _,_,.cons (a:=(f,x)) (b:=q) (l₁:=fs) (l₂:=xs) z t,e=>by
  rw[Zw] at e
  by_cases c:k=f
  ·subst c
   simp at e;subst e;exact⟨q.2,zjR z.1.symm,z.2⟩
  ·have c':(k==f)=false:=beq_eq_false_iff_ne.mpr c
   rw[c'] at e;obtain⟨v,e1,e2⟩:=zpH t e
   exact⟨v,by rw[zjN (λw=>c (by rw[<-z.1] at w;exact(WC w).symm)),e1],e2⟩
theorem zhj{p:Key×V}{r:List (Key×V)}{k:Key}{v:V}(e:p.1=k)(n:∀q∈r,q.1≠k):putK (p::r) k v=(p.1,v)::r:=by
 unfold putK;rw[W0,decide_eq_true e,Bool.true_or,if_pos rfl,ZC,if_pos e]
 congr 1
 have:=XG (f:=λkv:Key×V=>if kv.1=k then(kv.1,v) else kv) (g:=λkv=>kv) (l:=r) λq hq=>if_neg (n q hq)
 rw[this,List.map_id']
theorem zgM{p:Key×V}{r:List (Key×V)}{k:Key}{v:V}(e:¬p.1=k):putK (p::r) k v=p::putK r k v:=by
 unfold putK;rw[W0,decide_eq_false e,Ww]
 split
 ·rw[ZC,if_neg e]
 ·rfl
theorem zpS{k:Str}{r:R}{v:V}(q:RepR K μ h H r v):∀{fs:List (Str×R)} {xs:List (Key×V)},Paired (RcF K μ h H) fs xs->(xs.map (·.1)).Nodup->Paired (RcF K μ h H) (IT.putF k r fs) (putK xs (.inr k) v)
 |_,_,.nil,_=>.cons ⟨rfl,q⟩ .nil
 | _,_,.cons (a:=(f,x)) (b:=p) (l₁:=fs) (l₂:=xs) z t,n=>by
  rw[ZC,X1] at n
  by_cases c:f=k
  ·have e1:IT.putF k r ((f,x)::fs)=(f,r)::fs:=by rw[IT.putF,if_pos c]
   rw[e1,zhj (z.1.symm.trans (by rw[c])) λw hw e=>n.1 (Y0.mpr ⟨w,hw,by rw[e,<-z.1,c]⟩)];exact .cons ⟨z.1,q⟩ t
  ·have e1:IT.putF k r ((f,x)::fs)=(f,x)::IT.putF k r fs:=by rw[IT.putF,if_neg c]
   rw[e1,zgM (λw=>c (by rw[<-z.1] at w;exact WC w))]
   exact .cons z (zpS q t n.2)
end
section
variable {X:Cx}{o e:Expr}{g k0:IT.Env->M R}{k:Str}{pos pos':Pos}
def zuZ(k:Str):R2:=λx y H Q=>∃a xs w,x=.ref a/\y=.str k/\H a=some (.dK xs)/\valV xs (.inr k)=some w/\Q w H
theorem zt8:IxR X (zuZ k):=by
 intro value slice pins s σ H x y v u Q I rx ry q hs;obtain⟨a,xs,w,rfl,rfl,eH,el,q⟩:=q;cases rx;obtain⟨z,hd,vs,rel,dd⟩:=zrJ I.hok eH
 obtain⟨w',hw,rw'⟩:=RelO.some_of (v:=w) (o:=Wa vs (.inr k)) (by rw[<-el];exact rel.val (.inr k))
 refine XE (x:=w') dd.typeIs PySem.slot_dict_getitem.lookup ?_ hs;exact wpAny_getItem_of (zr4 (k:=.inr k) ry) dd.mapOf hw ⟨rfl,w,H,I.tok _,rw',q⟩
theorem zso{j:Nat}{p:Pos}(ho:IE X o g)(hs:zem (.Constant (.str k) j p)):IE X (.Subscript o (.Constant (.str k) j p) pos) (λσ=>bnd (g σ) λx=>rGet x k):=by
 refine PE.imp (zps (zt8 (k:=k)) ho zj7 hs) λσ H Q q0=>?_;obtain⟨μ,h,env,R0,re,r,h',e,kk⟩:=q0;simp only[zab] at e;obtain⟨x,h1,e1,e2⟩:=e;refine⟨μ,h,env,R0,re,x,h1,e1,λμ1 H1 v s1 R1 q1=>?_⟩
 cases x with
 |d d=>cases e2
 | loc l=>
  obtain⟨a,ea,rfl⟩:=q1
  (delta rGet at e2;(try dsimp only at e2))
  cases ho1:h1[l]? with
  |none=>rw[ho1] at e2;cases e2
  | some ob=>
   rw[ho1] at e2
   cases ob with
   | rcd fs=>
    simp only at e2
    cases el:fs.lookup k with|none=>rw[el] at e2;cases e2|some r1=>rw[el] at e2;simp only[Z5,ZZ] at e2;obtain⟨rfl,rfl⟩:=e2;obtain⟨xs,eH,rel⟩:=R1.obj l a _ ea ho1;obtain⟨w,ew,qw⟩:=zpH rel el;exact⟨a,xs,w,rfl,rfl,eH,ew,kk μ1 H1 w s1 R1 qw⟩
   |_=>cases e2
def zvw(K:Z7)(k:Str):TSet:=λo i v H Q=>∃μ h l fs r,Rep K μ h H/\RepR K μ h H (.loc l) o/\h[l]?=some (.rcd fs)/\i=.str k/\RepR K μ h H r v/\(fs.map (·.1)).Nodup/\fs.length<=15 ∧
 (∀H',Stp μ h H μ (h.set l (.rcd (IT.putF k r fs))) H'->Rep K μ (h.set l (.rcd (IT.putF k r fs))) H'->Q H')
theorem znq{K:Z7}{μ:List Addr}{h:Sto}{H:Hp}:∀{fs:List (Str×R)} {xs:List (Key×V)},Paired (RcF K μ h H) fs xs->xs.map (·.1)=fs.map λp=>(Zg p.1:Key)|_,_,.nil=>rfl|_,_,.cons z t=>by rw[ZC,ZC,znq t,z.1]
theorem zh7{l:List Str}(n:l.Nodup):(l.map (Zg:Str->Key)).Nodup:=List.Pairwise.map _ (λa b h e=>h (WC e)) n
theorem zmJ{fs:List (Str×R)}(n:(fs.map (·.1)).Nodup):(fs.map λp=>(Zg p.1:Key)).Nodup:=by
 have:(fs.map λp=>(Zg p.1:Key))=(fs.map (·.1)).map Zg:=by rw[Zt];rfl
 rw[this];exact zh7 n
theorem zqH:PSet X (zvw X.K k):=by
 intro pins s σ H o i v ov iv u Q I ro ri rv q;obtain⟨μ,h,l,fs,r,R0,⟨a,ea,rfl⟩,ho,rfl,qr,nd,lf,q⟩:=q;cases ro;obtain⟨xs,eH,rel⟩:=R0.obj l a _ ea ho;obtain⟨z,hd,vs,rl,dd⟩:=zrJ I.hok eH
 have hz:vs.length<=sizeLine:=by rw[<-rl.length];exact z
 have lx:fs.length=xs.length:=W6 rel
 have hl:(putK xs (.inr k) v).length<=sizeLine:=by
  have:=zjv xs (.inr k) v
  rw[Yw];omega
 refine wpAny_setItem_pairs (hsz:=hz) (zr4 (k:=.inr k) ri) dd λh' dd' hs=>?_
 have he:∃q,h'.get? a=some q:=let ⟨q,_,_,hq,_⟩:=dd';⟨q,hq⟩
 refine⟨upd H a (.dK (putK xs (.inr k) v)),zlX I (by rw[eH];exact WI) hs he (zpR hl hd (rl.put (.inr k) rv) dd'),?_⟩
 obtain⟨s2,R2⟩:=zjJ (o':=.rcd (IT.putF k r fs)) (u:=.dK (putK xs (.inr k) v)) R0 ea ho rfl λst=>⟨_,zak,zpS (qr.stp st R0) (L2.Paired.mapP rel λp q ⟨e1,e2⟩=>⟨e1,e2.stp st R0⟩) (by rw[znq rel];exact zmJ nd)⟩
 exact q _ s2 R2
theorem zqM{j:Nat}{p p2:Pos}(he:IE X e g)(ho:IE X o k0)
  (ha:∀v,assign (.Subscript o (.Constant (.str k) j p) p2) X.env v=(do let ov<-holding [v] (eval o X.env);let iv<-holding [v,ov] (eval (.Constant (.str k) j p) X.env);Xq p2;holding [v,ov,iv] (setItem ov iv v);release [v,ov,iv] []))
  (hs:W5 [.Subscript o (.Constant (.str k) j p) p2] e pos.line X.env=pure false) (hw:W4 [.Subscript o (.Constant (.str k) j p) p2] e X.env=pure none) (h1:(Zk [.Subscript o (.Constant (.str k) j p) p2] X.env).map (·.2)=[assign (.Subscript o (.Constant (.str k) j p) p2) X.env]):
  PS X (.Assign [.Subscript o (.Constant (.str k) j p) p2] e pos) (tS X.K λσ=>bnd (g σ) λr=>bnd (k0 σ) λx=>bnd (rSet x k r) λ_=>ok (.nx,σ)):=by
 refine PS.imp (zj1 he (zpY ho zj7 (zqH (k:=k)) ha) hs hw h1) λD σ H q0=>?_;obtain⟨μ,h,env,R0,re,fl,env',h',e,kk⟩:=q0;simp only[zab,zac,ZZ] at e;obtain⟨r,h1,e1,x,h2,e2,_,h3,e3,⟨rfl,rfl⟩,rfl⟩:=e;refine⟨μ,h,env,R0,re,r,h1,e1,λμ1 H1 v s1 R1 q1=>⟨μ1,h1,env,R1,re.stp s1 R0,x,h2,e2,λμ2 H2 u s2 R2 q2=>?_⟩⟩
 cases x with
 |d d=>cases e3
 | loc l=>
  (delta rSet at e3;(try dsimp only at e3))
  cases ho1:h2[l]? with
  |none=>rw[ho1] at e3;cases e3
  | some ob=>
   rw[ho1] at e3
   cases ob with
   | rcd fs=>
    simp only at e3
    split at e3
    ·rename_i hc
     simp only[Z5,ZZ] at e3;obtain⟨_,rfl⟩:=e3;exact⟨μ2,h2,l,fs,r,R2,q2,ho1,rfl,q1.stp s2 R1,hc.2.1,hc.2.2,λH' s3 R3=>kk μ2 _ σ ((s1.trans s2).trans s3) R3 (re.stp ((s1.trans s2).trans s3) R0)⟩
    ·cases e3
   |_=>cases e3
inductive tPr(K:Z7)(ks:List Str)(f:IT.Env->M (List R))(σ:St)(H:Hp)(Q:List (V×V)->Hp->Prop):Prop where|mk (μ:List Addr) (h:Sto) (env:IT.Env) (R0:Rep K μ h H) (re:RepE K μ h H env σ) (p:Post K μ h H (zaY K) (f env h) (λvs H'=>Q (YH (λk v=>(V.str k,v)) ks vs) H'))
def IP(X:Cx)(pos:Pos)(ks:List Str)(keys:List (Option Expr))(vals:List Expr)(f:IT.Env->M (List R)):Prop:=
 ∀ (pins:List (Addr×Obj)) (s:Shared) (σ:St) (H:Hp) (Q:List (V×V)->Hp->Prop),Inv X pins σ H s->tPr X.K ks f σ H Q →
  wpAny (model X.prog X.w) X.A (evalPairs (pairTrees keys vals X.env pos)) (λvs s'=>∃ps H',Inv X pins σ H' s'/\VV ps vs/\Q ps H') X.xe s
theorem zsF:IP X pos [] [] [] (λ_=>ok []):=by intro pins s σ H Q I q;obtain⟨μ,h,env,R0,re,r,h',e,k⟩:=q;obtain⟨rfl,rfl⟩:=zac.mp e;exact pairTrees_nil_walk ⟨[],H,I,.nil,k μ H [] Stp.refl R0 .nil⟩
theorem zr9{ks:List Str}{keys:List (Option Expr)}{vals:List Expr}{fs:IT.Env->M (List R)}{j:Nat}{p:Pos}(he:IE X e g)(hr:IP X pos ks keys vals fs):
  IP X pos (k::ks) (some (.Constant (.str k) j p)::keys) (e::vals) (λσ=>bnd (g σ) λr=>bnd (fs σ) λrs=>ok (r::rs)):=by
 intro pins s σ H Q I q;obtain⟨μ,h,env,R0,re,r,h',ee,kk⟩:=q;simp only[zab,zac] at ee;obtain⟨x,h1,e1,xs,h2,e2,rfl,rfl⟩:=ee;refine pairTrees_cons_walk (thn (zj7 (X:=X) (x:=k) (j:=j) (pos:=p) pins s σ H (λv H1=>v=.str k/\H1=H) I ⟨rfl,rfl⟩) λu s1 q_=>?_);obtain⟨y,H1,I1,ry,ey,eH⟩:=q_;subst ey eH;refine thn (he pins s1 σ H1 _ I1 ⟨μ,h,env,R0,re,x,h1,e1,λμ1 H2 v s2 R1 q1=>(⟨s2,R1,q1⟩:Stp μ h H1 μ1 h1 H2/\Rep X.K μ1 h1 H2/\RepR X.K μ1 h1 H2 x v) |> λz=>(show(∃μ1,Stp μ h H1 μ1 h1 H2/\Rep X.K μ1 h1 H2/\RepR X.K μ1 h1 H2 x v) from⟨μ1,z⟩)⟩) λw s2 q_=>?_;obtain⟨v,H2,I2,rv,μ1,st1,R1,q1⟩:=q_;exact thn (hr pins s2 σ H2 (λps H3=>Q ((.str k,v)::ps) H3) I2 ⟨μ1,h1,env,R1,re.stp st1 R0,xs,h2,e2,λμ2 H3 vs s3 R2 q2=>kk μ2 H3 (v::vs) (st1.trans s3) R2 (.cons (q1.stp s3 R1) q2)⟩) λws s3 ⟨ps,H3,I3,rel,q3⟩=>⟨(.str k,v)::ps,H3,I3,.cons ⟨ry,rv⟩ rel,q3⟩
theorem zik:∀(more acc:List (Key×V)),(∀p∈more,∀q∈acc,q.1≠p.1)->(more.map (·.1)).Nodup->zjK acc more=acc++more
 | [],acc,_,_=>by simp[zjK]
 | p :: r,acc,hd,n=>by
  rw[ZC,X1] at n
  have e:putK acc p.1 p.2=acc++[p]:=by unfold putK;rw[if_neg];intro z;obtain⟨q,hq,e⟩:=Yd.mp z;exact hd p (by simp) q hq (of_decide_eq_true e)
  have ih:=zik r (acc++[p]) (λq hq w hw=>by
   rcases Zl.mp hw with hw | hw
   ·exact hd q (by simp[hq]) w hw
   ·simp at hw;subst hw
    exact λe=>n.1 (Y0.mpr ⟨q,hq,e.symm⟩)) n.2
  show zjK (putK acc p.1 p.2) r=_;rw[e,ih];simp
theorem zmr{K:Z7}{μ:List Addr}{h:Sto}{H:Hp}:∀{ks:List Str} {rs:List R} {vs:List V},zaY K μ h H rs vs->Paired (RcF K μ h H) (ks.zip rs) (YH (λk v=>((Zg k:Key),v)) ks vs)| [],_,_,_=>by simpa using .nil|k::ks,_,_,.nil=>by simpa using .nil|k::ks,_,_,.cons q qs=>by simpa using .cons ⟨rfl,q⟩ (zmr qs)
theorem zkq:∀{ks:List Str} {vs:List V},ks.length=vs.length->(YH (λk v=>((Zg k:Key),v)) ks vs).map (·.1)=ks.map Zg| [],_,_=>by simp|k::ks,[],e=>by simp at e|k::ks,v::vs,e=>by rw[List.zipWith_cons_cons,ZC,ZC,zkq (by simpa using e)]
theorem zrX{ks:List Str}{keys:List (Option Expr)}{vals:List Expr}{fs:IT.Env->M (List R)}(hp:IP X pos ks keys vals fs)(hall:keys.all (·.isSome)=true)(hl:keys.length=vals.length)(hk:ks.length=keys.length):
  IE X (.Dict keys vals pos) (λσ=>bnd rNew λx=>bnd (fs σ) λrs=>zkU x ks rs):=by
 intro pins s σ H Q I q;obtain⟨μ,h,env,R0,re,r,h',ee,kk⟩:=q;simp only[zab,rNew,Z5,ZZ] at ee;obtain⟨_,_,⟨rfl,rfl⟩,rs,h1,e1,e2⟩:=ee
 (delta zkU at e2;(try dsimp only at e2))
 cases ho1:h1[h.length]? with
 |none=>rw[ho1] at e2;cases e2
 | some ob=>
  rw[ho1] at e2
  cases ob with
  | rcd fs0=>
   simp only at e2
   split at e2
   case isFalse=>cases e2
   rename_i hc;obtain⟨c1,c2,c3,c4,c5⟩:=hc;simp only[Z5,ZZ] at e2;obtain⟨rfl,rfl⟩:=e2;have hf:=I.fresh;have I1:=I.laid (a:=s.heap.objs.size) (o:=.dK []) (h':=s.heap.push {cls:=.type "dict",data:=.dict #[]}) (t':=s.toks) (λ_ _ q=>Z2 _ q) (Z0 _) (zo1 s.heap I.big);have st0:=Stp.allocO (ob:=.rcd []) (o:=.dK []) R0 hf;have R1:=R0.allocO (u:=.dK []) (o:=.rcd []) hf ⟨[],zak,.nil⟩
   refine wpAny_Dict_walk (knd:=zbq X.prog X.w) hall hl (by intro z;rw[z] at hk;exact c4 (List.length_eq_zero_iff.mp hk)) (by omega) (thn (hp pins _ σ _ (λps H2=>∃μ2 vs,Stp (μ++[s.heap.objs.size]) (h++[.rcd []]) (upd H s.heap.objs.size (.dK [])) μ2 h1 H2/\Rep X.K μ2 h1 H2/\zaY X.K μ2 h1 H2 rs vs/\ps=YH (λk v=>(V.str k,v)) ks vs) I1 ⟨_,_,env,R1,re.stp st0 R0,rs,h1,e1,λμ2 H2 vs s2 R2 q2=>⟨μ2,vs,s2,R2,q2,rfl⟩⟩) λws s2 q_=>?_)
   obtain⟨ps,H2,I2,rel,μ2,vs,st2,R2,q2,ep⟩:=q_;subst ep
   have ea:μ2[h.length]?=some s.heap.objs.size:=st2.pre _ _ (by rw[<-R0.len];simp)
   obtain⟨xs0,eH,rel0⟩:=R2.obj _ _ _ ea ho1;have efs:fs0=[]:=List.isEmpty_iff.mp c1;subst efs;cases rel0;have lv:ks.length=vs.length:=c2.trans q2.length
   have ep:YH (λk v=>(V.str k,v)) ks vs=(YH (λk v=>((Zg k:Key),v)) ks vs).map λkv=>(kV kv.1,kv.2):=by rw[List.map_zipWith];rfl
   rw[ep] at rel;obtain⟨ws',c,rk⟩:=zgB (P:=X.prog) (w:=X.w) rel;obtain⟨z,hd,vs0,r0,dd⟩:=zrJ I2.hok eH;cases r0
   have nd:((YH (λk v=>((Zg k:Key),v)) ks vs).map (·.1)).Nodup:=by rw[zkq lv];exact zh7 c3
   have em:=zik (YH (λk v=>((Zg k:Key),v)) ks vs) [] (λ_ _ _ hq=>by cases hq) nd;refine⟨ws',c,dd,λh' dd' hs=>⟨.ref s.heap.objs.size,upd H2 s.heap.objs.size (.dK (YH (λk v=>((Zg k:Key),v)) ks vs)),?_,rfl,?_⟩⟩
   ·have hz:(YH (λk v=>((Zg k:Key),v)) ks vs).length<=sizeLine:=by
     rw[List.length_zipWith,Yw];exact OYu lv hk c2 c5 hl
    have he:∃q,h'.get? s.heap.objs.size=some q:=let ⟨q,_,_,hq,_⟩:=dd';⟨q,hq⟩
    have rm:=rk.merge (kvs:=[]) (vs:=[]) .nil;rw[em] at rm
    exact zlX I2 (by rw[eH];exact WI) hs he (zpR hz hd rm dd')
   ·obtain ⟨s3,R3⟩:=zjJ (o':=.rcd (ks.zip rs)) (u:=.dK (YH (λk v=>((Zg k:Key),v)) ks vs)) R2 ea ho1 rfl λst=>⟨_,zak,zmr (q2.stp st R2)⟩
    exact kk μ2 _ _ (st0.trans (st2.trans s3)) R3 ⟨_,ea,rfl⟩
  |_=>cases e2
end
end IT
namespace IT
open PySem PySem.W
section
variable {K:Frag}{prog:Zx}{w:World}{A:Around}{E:Value->Shared->Prop}{s:Shared}{x D:Addr}{ox:Obj}{odo:Option Obj}
structure zj5(K:Frag)(D:Addr):Prop where
 ga:findIn K (.ref D) "__getattribute__"=some (some (.builtin "BaseException.__getattribute__"))
 gt:findIn K (.ref D) "__getattr__"=some none
 cl:findIn K (.ref D) "__class__"=some (some (.builtin "object.__class__"))
 be:mroIn K D (.type "BaseException")=some true
 ob:mroIn K D (.type "object")=some true
theorem zn3{M:Model}{nameV:Value}{Q:Unit->Shared->Prop}(X:K.In s.heap)(I:InstAt s.heap x ox D odo)(c:zj5 K D)(hq:Q () s):
  wpAny M A (checkBuiltinCall "BaseException.__getattribute__" ⟨[.ref x,nameV],[]⟩) Q E s:=by
 have L0:=I.type (M:=M);have L1:=looks_mroIn (M:=M) X c.be;have ha:=F.args_bexc_ga (.ref x) nameV
 have hk:builtinKind "BaseException.__getattribute__"=some .slot:=by decide +kernel
 have hsplit:splitId "BaseException.__getattribute__"=some ("BaseException", "__getattribute__"):=by decide +kernel
 obtain⟨hh,gg,d,t,os⟩:=s;simp only[checkBuiltinCall,hk,hsplit];unfold isInstance
 repeat lk
 exact hq
theorem zmZ{tk:Tok}{Q:Fin->Shared->Prop}(X:K.In s.heap)(I:InstAt s.heap x ox D odo)(c:zj5 K D)(hq:Q (.done (.ret (.ref D))) s):
  wpAny (model prog w) A (YX.«object.__getattribute__» ⟨[.ref x,.str "__class__" tk],[]⟩) Q E s:=by
 have L0:=I.type (M:=model prog w);have L1:=looks_findIn (M:=model prog w) X c.cl;obtain⟨hh,gg,d,t,os⟩:=s;have hT5:(⟨hh,gg,d,t,os⟩:Shared).TypeIs (.builtin "object.__class__") "getset_descriptor":=F.typeOf_object_class;have f5:=F.typeOf_object_class;have f6:=F.slot_gs_get.lookup;have f7:=F.slot_gs_set.lookup
 repeat(any_goals (first | assumption | with_reducible refine L0.at ?_ | with_reducible refine L1.at ?_ | wp_step))
 refine class_get (ox:=ox) (od:=odo) X I c.ob ?_
 repeat(any_goals (first | assumption | wp_step))
theorem zoF{Q:Option Value->Shared->Prop}(X:K.In s.heap)(I:InstAt s.heap x ox D odo)(c:zj5 K D)(h:Q (some (.ref D)) {s with toks:=s.toks+1}):wpAny (model prog w) A (getAttr? (.ref x) "__class__") Q E s:=by
 have L0:=I.type (M:=model prog w);have L1:=looks_findIn (M:=model prog w) X c.ga;have L2:=looks_findIn (M:=model prog w) X c.gt;obtain⟨hh,gg,d,t,os⟩:=s;have f3:=F.attr_ValueError.ga.bind (.ref x)
 have two:∀b:Bool,(b&&WY "BaseException.__getattribute__"==WY "object.__getattribute__")=false:=λb=>by
  cases b
  ·rfl
  ·decide +kernel
 have hx1:=two (onTheHeap (.ref D));have hx2:(WY "BaseException.__getattribute__"==WY "object.__getattribute__")=false:=two true;unfold getAttr? getAttrBy? getAttrBy
 repeat(any_goals (first | assumption | with_reducible refine L0.at ?_ | with_reducible refine L1.at ?_ | with_reducible refine L2.at ?_ | wp_step))
 refine codeAny_call_builtin F.attr_ValueError.ga.plain F.entry_bexc_ga (zn3 (s:=⟨hh,gg,d,t+1,os⟩) X I c (zmZ (s:=⟨hh,gg,d,t+1,os⟩) X I c ?_))
 repeat(any_goals (first | assumption | wp_step))
end
end IT
namespace IT
open PySem PySem.Spec L2
section
variable {X:Cx}{pins:List (Addr×Obj)}{σ:St}{H:Hp}{s s':Shared}{E:XK}{EE:Value->Shared->Prop}
theorem Inv.known{a:Addr}{ob:Obj}{vs:Array Value}(I:Inv X pins σ H s)(h1:s.heap.get? a=some ob)(hd:ob.data=.fields vs)(na:H a=none)(n0:X.s₀.heap.get? a=none)(np:∀p∈X.pn++pins,p.1≠a):Inv X pins σ (upd H a (.frz ob (.own a))) s:=by
 have nL:X.env.locals≠a:=λz=>by obtain⟨m,⟨o,es,ep,e,d,_⟩,_⟩:=I.loc;rw[z,h1] at e;cases e;rw[hd] at d;cases d
 have nC:∀x c,X.env.cells.lookup x=some c->c≠a:=λx c e z=>by obtain⟨v,o,e1,d⟩:=I.cell x c e;rw[z,h1] at e1;cases e1;rw[hd] at d;cases d
 refine⟨I.ok,I.os,I.bare,⟨I.base.keep,I.base.slot,λb o e n hx=>?_,I.base.there,λb xs e=>?_,λb o u e=>?_,λb ps e=>?_⟩,I.loc,I.cell,?_,λx c e=>?_,λp hp=>⟨(I.pin p hp).1,?_,(I.pin p hp).2.2⟩,λb u e=>?_,I.len⟩
 ·rw[zaj (λz=>by rw[z,n0] at e;cases e)];exact I.base.free b o e n hx
 ·have z:=I.base.tups b xs e;rw[zaj (zan z na)];exact z
 ·have z:=I.base.frzs b o u e;rw[zaj (zan z na)];exact z
 ·obtain⟨more,z⟩:=I.base.tbls b ps e;exact⟨more,by rw[zaj (zan z na)];exact z⟩
 ·rw[zaj nL];exact I.free
 ·rw[zaj (nC x c e)];exact I.freeC x c e
 ·rw[zaj (np p hp)];exact(I.pin p hp).2.1
 ·by_cases hb:b=a
  ·subst hb;rw[zak] at e;cases e;exact⟨h1,ob,h1⟩
  ·rw [zaj hb] at e
   exact(I.hok b u e).stay (λ_ _ _ q=>q) (λc q=>by rw[zaj (zan q na)];exact q) λc xs q=>by rw[zaj (zan q na)];exact q
theorem zrL{M:Model}{A:Around}{j:Nat}{n:Str}{pos:Pos}{Q:Unit->Shared->Prop}(I:Inv X pins σ H s)(hN:X.N.Nodup)(hj:X.N[j]?=some n)(hk:X.env.scope.names.lookup n=some .local)
    (h:∀s',Inv X pins (σ.set j none) H s'->Q () s'):wpAny M A (do bindName X.env n .none;unbindBehindTheSuite X.env n pos) Q EE s:=by
  obtain⟨m,hn,hl⟩:=id I.loc
  have hcls:(X.env.scope.kind==.class||(X.env.scope.kind==.module&&X.env.locals != X.env.globals))=false:=by rw[I.ok.kind];rfl
  refine wpAny_nameGoes_keeps hk hn hcls λh' v hn' hs=>h _ ?_;have ne:∀b o,X.s₀.heap.get? b=some o->b≠X.env.locals:=λb o e=>ZJ (ZI (ZP e) I.ok.above);obtain⟨oL,_,_,hoL,_⟩:=id hn;refine⟨I.ok,I.os,I.bare,⟨λb o e n hb hx=>?_,λb o e n hb hx=>?_,I.base.free,λb o e hx=>?_,I.base.tups,I.base.frzs,I.base.tbls⟩,⟨_,hn',λi y v' e1 e2 e3=>?_⟩,λy c e=>?_,I.free,I.freeC,λp hp=>?_,λb ob e=>?_,by simpa using I.len⟩
  · exact(hs.2 b (ne b o e)).trans (I.base.keep b o e n hb hx)
  · obtain ⟨sl,e1⟩:=I.base.slot b o e n hb hx
    exact⟨sl,(hs.2 b (ne b o e)).trans e1⟩
  · obtain ⟨o',e1⟩:=I.base.there b o e hx
    exact⟨o',(hs.2 b (ne b o e)).trans e1⟩
  · by_cases hi:i=j
    · subst hi
      by_cases hz:i<σ.length
      · rw[ZH hz] at e2;cases e2
      · rw[Y9 (by simpa using Nat.le_of_not_lt hz)] at e2;cases e2
    · rw [ZE (Y5 hi)] at e2
      obtain⟨u',r',q⟩:=hl i y v' e1 e2 e3;refine⟨u',r',?_⟩
      rcases q with⟨k,e⟩|⟨k,c,e,z⟩
      · refine .inl ⟨k,?_⟩
        have:y≠n:=λe=>hi (zhg hN e1 (e▸hj))
        simp[this,e]
      · exact .inr ⟨k,c,e,z.sameBut hs (I.cne y c e)⟩
  · obtain ⟨w',z⟩:=I.cell y c e
    exact⟨w',z.sameBut hs (I.cne y c e)⟩
  · obtain ⟨p1,p2,p3,p4⟩:=I.pin p hp
    exact⟨(hs.2 _ p3).trans p1,p2,p3,p4⟩
  · refine (I.hok b ob e).stay (λc w' hc q=>(hs.2 c ?_).trans q) (λ_ q=>q) λ_ _ q=>q
    rintro rfl
    rcases hc with rfl | hc
    · rw[I.free] at e;cases e
    · rw[I.free] at hc;cases hc
theorem zgX(hd:zhd X)(I:Inv X pins σ H s){e:Value}(c:CXk X.prog X.w X.stack H s E e s'){x n:Str}{j:Nat}{np pos:Pos}{b0:Stmt}{suite:List Stmt}{Ca:Addr}{Q:Flow->Shared->Prop}
  (hg:Gl X x) (hm:X.mg x=some (.ref Ca)) (hdb:(x==("__debug__":Str))=false) (hN:X.N.Nodup) (hj:X.N[j]?=some n) (hk:X.env.scope.names.lookup n=some .local)
  (hx:∀C H',E C none H'->Yc X.K C (.ref Ca)=some true)
  (k:∀a C H' ob s6 EE',E C none H'->ob.cls=C->ob.dict=none->(∃vs,ob.data=.fields vs)->H' a=none->Inv X pins (σ.set j (some (.ref a))) (upd H' a (.frz ob (.own a))) s6 →
   wpAny (model X.prog X.w) (X.A.mark (some (.ref a))) (execs (b0::suite) X.env) (λf s7=>wpAny (model X.prog X.w) X.A (do bindName X.env n .none;unbindBehindTheSuite X.env n pos) (λ_ s8=>Q f s8) EE s7) EE' s6):
  wpAny (model X.prog X.w) X.A (V9 e X.env) (λ_ s₂=>wpAny (model X.prog X.w) X.A (V8 e none) (λ_ s₃=>wpAny (model X.prog X.w) X.A (handleBy e X.env [.ExceptHandler (some (.Name x np)) (some n) (b0::suite) pos]) Q EE s₃) EE s₂) EE s':=by
 obtain⟨a,C,H',rfl,⟨os,bare,un,hok,B,t,fl,k3,k2⟩,dn,q⟩:=c;have fl':=fl;rw[hd.st] at fl'
 have fin:∀(h:Heap),B.StaysIn h->s'.heap.UpToSlots h->Inv X pins σ H' {s' with heap:=h}:=λh hB up=>by
  have kp:∀b u,B.get? b=some u->s'.heap.get? b=some u/\h.get? b=some u:=λb u e=>⟨fl.1 b u e,hB b u e⟩;refine I.call' (ch:=[]) os (zhc un (λb o e hb o' e'=>?_) (λb o e hb o' e'=>?_)) (zeZ hok (λb ⟨o,ho⟩ u e'=>?_)) bare (by simp)
  ·obtain ⟨u,eu⟩:=k3 b o e hb
   obtain⟨z1,z2⟩:=kp b u eu;rw[e'] at z1;cases z1;exact z2
  ·obtain ⟨_,o2,e2,hn⟩:=fl.2.2.1.mem hb
   rw[e'] at e2;cases e2;exact up b o' e' hn
  ·obtain ⟨u',eu⟩:=k2 b o ho
   obtain⟨z1,z2⟩:=kp b u' eu;rw[e'] at z1;cases z1;exact z2
 have nB:B.get? a=none:=fl.2.1;refine ZF (zhB zeD dn (Q:=λ_ s₂=>DN a none s₂->wpAny (model X.prog X.w) X.A (V8 (.ref a) none) (λ_ s₃=>wpAny (model X.prog X.w) X.A (handleBy (.ref a) X.env [.ExceptHandler (some (.Name x np)) (some n) (b0::suite) pos]) Q EE s₃) EE s₂) (E:=EE) ?_) (λ_ _ z=>z.1 z.2) (λ_ _ z=>z.1);refine wpAny_looks_onW (by rw[I.ok.frames,hd.st]) hd.fr fl' λh4 held4 up4 dn4=>?_;refine ZF (zhB zcB dn4 (Q:=λ_ s₃=>DN a none s₃->wpAny (model X.prog X.w) X.A (handleBy (.ref a) X.env [.ExceptHandler (some (.Name x np)) (some n) (b0::suite) pos]) Q EE s₃) (E:=EE) ?_) (λ_ _ z=>z.1 z.2) (λ_ _ z=>z.1);refine wpAny_landsW held4 λh5 fl5 up5 dn5=>?_;have I5:Inv X pins σ H' {s' with heap:=h5}:=fin h5 fl5.1 (up4.trans up5);obtain⟨ob,hob,hcls⟩:=fl5.there
 refine wpAny_handleBy_cons (codeAny_handlers_test ?_) (by intro z;cases z)
 refine XU (Q:=_) I5.ok.kind hg (Calls.loadGlobal_global (by rw[I5.ok.glob];exact I5.mod.glob.keeps I5.bk) hm ?_) hdb
 have LT:PySem.W.Looks (model X.prog X.w) h5 (typeOf (.ref a)) C:=by subst hcls;exact(PySem.W.Looks.ld hob).andThen .now
 refine PySem.W.exm_one (K:=X.K) I5.kIn LT (hx C H' q) _ _ _ _ (λ_ _ z=>z) ?_;show W2 _ _ _ _ _;refine codeAny_handlers_suite_as ?_;refine ZF (zhB (zcB (e:=.ref a) (f:=none)) (s:={s' with heap:=h5}) dn5 (Q:=λ_ s₁=>DN a none s₁->_) ?_) (λ_ _ z=>z.1 z.2) (λ_ _ z=>z.1);refine PyProof.Rows.lands_againW fl5 λh6 fl6 up6 dn6=>?_;have I6:Inv X pins σ H' {s' with heap:=h6}:=fin h6 fl6.1 ((up4.trans up5).trans up6);obtain⟨oe,vs,T,oT,ts,he,⟨hc,_⟩,hdat,_⟩:=fl6.2.2.2;obtain⟨o',he',hdn⟩:=dn6;have eo:oe=o':=ZU (he.symm.trans he');subst eo
 have na:H' a=none:=by
  cases z:H' a with|none=>rfl|some o=>obtain⟨u,eu⟩:=k2 a o z;rw[nB] at eu;cases eu
 have nf:a∉frs X.stack:=λz=>by
  obtain⟨_,o2,e2,hn⟩:=fl6.2.2.1.mem (by rw[hd.st] at z;exact z)
  have:oe=o2:=ZU (he.symm.trans e2)
  subst this;exact hn vs hdat
 have n0:X.s₀.heap.get? a=none:=by
  cases z:X.s₀.heap.get? a with
  |none=>rfl
  |some o=>
   obtain⟨o1,e1⟩:=I.base.there a o z (by rw[hd.ex];simp)
   obtain⟨u,eu⟩:=k3 a o1 e1 nf;rw[nB] at eu;cases eu
 have np':∀p∈X.pn++pins,p.1≠a:=λp hp z=>by
  obtain⟨u,eu⟩:=k3 p.1 p.2 (I.pin p hp).1 (by rw[z];exact nf)
  rw[z,nB] at eu;cases eu
 have I7:=Inv.known I6 he hdat na n0 np';exact zhA I7 hN hj (.inl hk) (v:=.ref a) rfl (λs7 I8=>k a C H' oe s7 _ q hc hdn ⟨vs,hdat⟩ na I8) (.inr hk)
end
end IT
namespace IT
open PySem PySem.Spec L2
structure zeG where
 name:Str
 hs:List Str:=[]
 isx:List (Str×Bool):=[]
structure ExcI(K:Z7)(D:Addr):Prop where
 cls:zj5 K D
 dict:YD K D=true
 obj:∃c d cd sl,K.lookup D=some ⟨c,d,.cls cd,sl⟩
theorem zpr{K:Z7}{x D:Addr}{ox:Obj}(c:ExcI K D):PySem.W.KitX K (.ref x) (.ref D) (λh=>Wf h x ox D none) where
 ty:=λ_ _ _ I=>I.type
 it:=λM h Y _ A' Q' E' s' k q=>PySem.W.mc_isType (s:=s') (λa o e=>k _ _ (Y a o e)) c.dict A' Q' E' s' (λ_ _ z=>z) q
 ne:=λh tp dd its n sl Y htp=>by refine Bool.eq_false_iff.mpr λq=>?_;have e:D=tp:=Zc.inj (beq_iff_eq.mp q);subst e;obtain⟨c',d',cd',sl',ho⟩:=c.obj;have z:=(Y _ _ ho).symm.trans htp;cases z
 ca:=λY I k=>zoF Y I c.cls k
inductive zou(K:Z7)(mg:Str->Option Value)(D:Addr)(y:Str)(b:Bool):Prop where|own (Cy:Addr) (hm:mg y=some (.ref Cy)) (e:Yb K (.ref D) (.ref Cy)=some b)|blt (T:String) (hm:mg y=none) (hb:XR y=some (.type T)) (hn:y ≠ "__name__") (e:Yb K (.ref D) (.type T)=some b)
structure XOk(K:Z7)(mg:Str->Option Value)(Ca:Addr)(u:zeG):Prop where
 hs:∀y∈u.hs,∃Cy,mg y=some (.ref Cy)/\Yc K (.ref Ca) (.ref Cy)=some true
 cls:u.isx=[]\/ExcI K Ca
 isx:∀p∈u.isx,zou K mg Ca p.1 p.2
section
variable {X:Cx}{Dc:Addr}
def Held(Dc:Addr)(j:Nat)(σ:St)(H:Hp):Prop:=∃a ob,σ[j]?=some (some (.ref a))/\H a=some (.frz ob (.own a))/\ob.cls=.ref Dc/\ob.dict=none/\∃vs,ob.data=.fields vs
theorem zoD{cv:V}{cu:Value}{b:Bool}(ec:ExcI X.K Dc)(hcu:∀u,RelV cv u->u=cu)(e:Yb X.K (.ref Dc) cu=some b):
  zgO X (.builtin "isinstance") (λvs H Q=>∃a ob,vs=[.ref a,cv]/\(H a=some (.frz ob (.own a))/\ob.cls=.ref Dc/\ob.dict=none/\∃vs,ob.data=.fields vs)/\Q (.bl b) H):=by
 intro pins s σ H xs us Q I rs q;obtain⟨a,ob,rfl,⟨eH,hc,hdn,vs,hd⟩,q⟩:=q
 cases rs with
 | cons r1 r2=>
  cases r2 with
  |cons r2 r3=>
   cases r3;have e2:=hcu _ r2;subst e2
   cases (show _=Zc a from r1)
   obtain⟨h1,_⟩:=(show zby X.prog X.w H s.heap a (.frz ob (.own a)) from I.hok a _ eH)
   have J:Wf s.heap a ob Dc none:=⟨h1,hc,by unfold PySem.W.notCls;rw[hd],by rw[hdn];trivial⟩
   exact PySem.W.kia_one (zpr ec) I.kIn J e (λz=>nomatch z) λtk=>⟨.bl b,H,I.tok tk,rfl,q⟩
def tIx(Dc:Addr)(j:Nat)(b:Bool):TE:=λσ H Q=>Held Dc j σ H/\Q (.bl b) H
theorem zsN{n y:Str}{j:Nat}{b:Bool}{p p1 p2 pos:Pos}(ec:ExcI X.K Dc)(io:zou X.K X.mg Dc y b)(hg:Gl X "isinstance")(hm:X.mg "isinstance"=none)(hgy:Gl X y)(hdy:(y==("__debug__":Str))=false)
  (hj:X.N[j]?=some n) (hv:Vis X.env.scope n) (hdn:(n==("__debug__":Str))=false) (hcn:(n==("__classdict__":Str))=false):
  PE X (.Call (.Name "isinstance" p) [.Name n p1,.Name y p2] [] pos) (tIx Dc j b):=by
 have fin:∀{cv:V} {cu:Value},(∀u,RelV cv u->u=cu)->Yb X.K (.ref Dc) cu=some b->PE X (.Name y p2) (tC cv)->PE X (.Call (.Name "isinstance" p) [.Name n p1,.Name y p2] [] pos) (tIx Dc j b):=λh1 h2 h3=>by refine PE.imp (zhr (zoD ec h1 h2) hg hm PyProof.Rows.boot_isinstance (zbG (zpQ hj hv hdn hcn) (zbG h3 zc2 rfl) rfl) (by decide) (by decide) rfl rfl) λσ H Q q=>?_;obtain⟨⟨a,ob,e1,z⟩,q⟩:=q;exact⟨.ref a,e1,a,ob,rfl,z,q⟩
 cases io with|own Cy hm2 e=>exact fin (cv:=.ref Cy) (λu r=>r) e (zmo hgy hm2 rfl hdy)|blt T hm2 hb hn e=>exact fin (cv:=.ty T) (λu r=>r) e (zrb hgy hm2 hb rfl hn hdy)
inductive zgb(X:Cx)(Dc:Addr)(n:Str)(j:Nat):List (Str×Bool)->List Expr->Prop where
 |nil:zgb X Dc n j [] []
 | cons {y:Str} {b:Bool} {ys:List (Str×Bool)} {es:List Expr} {p p1 p2 pos:Pos} (io:zou X.K X.mg Dc y b) (hg:Gl X "isinstance") (hm:X.mg "isinstance"=none) (hgy:Gl X y) (hdy:(y==("__debug__":Str))=false) (t:zgb X Dc n j ys es):
   zgb X Dc n j ((y,b)::ys) (.Call (.Name "isinstance" p) [.Name n p1,.Name y p2] [] pos::es)
theorem zqg{n:Str}{j:Nat}(ec:ExcI X.K Dc)(hj:X.N[j]?=some n)(hv:Vis X.env.scope n)(hdn:(n==("__debug__":Str))=false)(hcn:(n==("__classdict__":Str))=false):
  ∀{ys:List (Str×Bool)} {es:List Expr},zgb X Dc n j ys es->PA X es (λσ H Q=>Held Dc j σ H/\Q (ys.map λp=>.bl p.2) H)
 |_,_,.nil=>λpos pins s σ H Q I h=>zc2 pos pins s σ H Q I h.2
 |_,_,.cons io hg hm hgy hdy t=>λpos pins s σ H Q I h=>zbG (zsN ec io hg hm hgy hdy hj hv hdn hcn) (zqg ec hj hv hdn hcn t) rfl pos pins s σ H Q I ⟨h.1,h.1,h.2⟩
theorem zgb.caught{n:Str}{j:Nat}{a:Addr}{EE:Value->Shared->Prop}:∀{ys:List (Str×Bool)} {es:List Expr},zgb X Dc n j ys es->zgb (Cx.caught X a EE) Dc n j ys es|_,_,.nil=>.nil|_,_,.cons io hg hm hgy hdy t=>.cons io hg hm hgy hdy (zgb.caught t)
end
theorem zpU{K:Z7}{A:Addr->Prop}{H:Hp}:∀ys:List (Str×Bool),RepDs K A H (ys.map λp=>D.bl p.2) (ys.map λp=>V.bl p.2)| []=>.nil|y::ys=>.cons (by simp only[RepD]) (zpU ys)
theorem zjm{K:Z7}{μ:List Addr}{h:Sto}{H:Hp}{env:IT.Env}{σ:St}{i j:Nat}{x:V}{d:D}{w:Option V}(re:RepE K μ h H env σ)(hij:i≠j)(z:RepR K μ h H (.d d) x):
  RepE K μ h H ((env.set j none).set i (some (.d d))) (((σ.set j w).set i (some x)).set j none):=by
 refine⟨by simp[re.len],λq r e=>?_⟩
 by_cases hq:q=i
 ·subst hq
  have hl:q<env.length:=by
   have:=(Z9.mp e).1
   simpa using this
  rw[ZH (by simpa using hl)] at e;cases e;refine⟨x,?_,z⟩;rw[ZE (Y5 hij),ZH (by simp[<-re.len,hl])]
 ·rw [ZE (Y5 hq)] at e
  by_cases hqj:q=j
  ·subst hqj
   have hl:q<env.length:=by
    have:=(Z9.mp e).1
    simpa using this
   rw[ZH hl] at e;cases e
  ·rw [ZE (Y5 hqj)] at e
   obtain⟨v,e1,z1⟩:=re.get q r e
   exact⟨v,by rw[ZE (Y5 hqj),ZE (Y5 hq),ZE (Y5 hqj)];exact e1,z1⟩
section
variable {X:Cx}{cv:ClsV}
theorem zr6{n np ci i j:Nat}{fx cx y nn:Str}{dfl:List D}{m mX:List R->M R}{e:Expr}{es vs':List Expr}{p cpos p1 np' py py2 pa hpos pos tp:Pos}{x1:Nat}{ys:List (Str×Bool)}{fs:IT.Env->M (List R)}{Ca Cr:Addr}
  (hnx:X.xe=λ_ _=>False) (hd:zhd X) (hF:zoC X n fx np dfl m) (hX:FunX X cv n fx np dfl mX) (hr:Room n X.A) (hg:Gl X fx) (ha:IA X (e::es) fs) (hf:∀σ h rs h',fs σ h=some (rs,h')->rs.length=(e::es).length)
  (hdb:(fx==("__debug__":Str))=false) (he:ZY (e::es) X.env=(false,eval e X.env)::ZY es X.env) (hpl:(backTo cpos (ZY es X.env)).any (·.1)=false)
  (hgc:Gl X cx) (hmc:X.mg cx=some (.ref Ca)) (hdc:(cx==("__debug__":Str))=false) (hcv:cv (.d (.int ci))=some (.ref Cr)) (hxm:Yc X.K (.ref Cr) (.ref Ca)=some true) (ec:ExcI X.K Cr)
  (hN:X.N.Nodup) (hi:X.N[i]?=some y) (hy:Loc X.env.scope y) (hfn:X.fn y=true\/X.env.scope.names.lookup y=some .local) (hj:X.N[j]?=some nn) (hk:X.env.scope.names.lookup nn=some .local) (hij:i≠j)
  (hdn:(nn==("__debug__":Str))=false) (hcn:(nn==("__classdict__":Str))=false) (his:zgb X Cr nn j ys vs') (hl:ys.length<=1000)
  (hsw:Yk (.Call (.Name fx p) (e::es) [] cpos) (some (.Name y py)) p1.line X.env=pure false) (hsw2:Yk (.Tuple vs' x1 tp) (some (.Name y py2)) pa.line X.env=pure false):
  PS X (.Try [.Assign [.Name y py] (.Call (.Name fx p) (e::es) [] cpos) p1] [.ExceptHandler (some (.Name cx np')) (some nn) [.Assign [.Name y py2] (.Tuple vs' x1 tp) pa] hpos] [] [] pos)
   (tS X.K λσ=>bnd (fs σ) λrs h=>match m rs h with
    |some (r,h1)=>some ((.nx,σ.set i (some r)),h1)
    |none=>match mX rs h with
     |some (r,h1)=>if zkY ci r then some ((.nx,(σ.set j none).set i (some (.d (.tup (ys.map λp=>.bl p.2))))),h1) else none
     |none=>none):=by
 intro pins s σ H D I q0;obtain⟨μ,h,env,R0,re,fl,env',h',ee,k⟩:=q0;simp only[zab] at ee;obtain⟨rs,h1,e1,e2⟩:=ee;refine wpAny_Try_except ?_;generalize hE:(λ(e:Value) (s₁:Shared)=>wpAny (model X.prog X.w) X.A (V9 e X.env) (λ_ s₂=>wpAny (model X.prog X.w) X.A (V8 e none) (λ_ s₃=>wpAny (model X.prog X.w) X.A (handleBy e X.env [.ExceptHandler (some (.Name cx np')) (some nn) [.Assign [.Name y py2] (.Tuple vs' x1 tp) pa] hpos]) (SP X pins D) X.xe s₃) X.xe s₂) X.xe s₁)=E'
 have ha':IA (X.wish E') (e::es) fs:=zmn (X:=X.wish E') (by rw[zph hnx];exact ha)
 have I':Inv (X.wish E') pins σ H s:=I.wish E'
 cases em:m rs h1 with
 |some pr=>
  obtain⟨r,h2⟩:=pr;rw[em] at e2;simp only[Z5,ZZ] at e2;obtain⟨⟨rfl,rfl⟩,rfl⟩:=e2;have hF':zoC (X.wish E') n fx np dfl m:=⟨hF.ex,hF.fill,hF.len⟩;have hb:=zmF (zp5 (X:=X.wish E') (pos:=p1) (pos':=py) (i:=i) hN hi hy (zmS (X:=X.wish E') (pos:=cpos) (p:=p) hF' hr hg ha' hf hdb he hpl) hsw hfn);refine ZF (hb pins s σ H D I' ⟨μ,h,env,R0,re,r,h2,by simp only[bnd,e1,em],λμ1 H1 v s1 R1 q1=>k μ1 H1 (σ.set i (some v)) s1 R1 ((re.stp s1 R0).set i q1)⟩) (λf s1 q=>?_) λ_ _ z=>z;have q:=q.unwish
  cases f with|next=>exact WV q|brk=>exact q|cont=>exact q|ret u=>exact q
 | none=>
  rw[em] at e2;simp only at e2
  cases ex:mX rs h1 with
  |none=>rw[ex] at e2;cases e2
  | some pr=>
   obtain⟨r,h2⟩:=pr;rw[ex] at e2;simp only at e2
   split at e2
   case isFalse=>cases e2
   rename_i hx;simp only[Z5,ZZ] at e2;obtain⟨⟨rfl,rfl⟩,rfl⟩:=e2
   have hrr:r=.d (.int ci):=by
    unfold zkY at hx
    split at hx
    ·rw[Z3 hx]
    ·cases hx
   subst hrr
   have hq:wpAny (model X.prog X.w) X.A (eval (.Call (.Name fx p) (e::es) [] cpos) X.env) (λ_ _=>False) E' s:=by
    obtain⟨f,fd,ps,dvs,F,hm,hk',hdd,hb⟩:=hX.ex;have hrs:=hf _ _ _ _ e1;have hlen:=hX.len _ _ _ ex
    have hnot:¬(e::es).length+dfl.length<np:=λz=>by
     rw[zb4 (by rw[hrs];exact z),hrs] at hlen
     exact OZQ z hlen
    have hjj:(e::es).length+dfl.length-np<=dfl.length:=by
     rw[zbi (by rw[hrs];exact hnot)] at hlen
     simp only[Zu,Z4,Yg] at hlen;exact OYB hrs.symm hlen hnot
    obtain⟨ds,hb,hv⟩:=hb _ hjj;refine ZF (zm5 (X:=X.wish E') (Q:=λ_ _=>False) (E:=λC _ H'=>C=.ref Cr/\∃μ',Stp μ h H μ' h2 H'/\Rep X.K μ' h2 H') (t:=tAs X.K fs) F hr hg hm hk' hb hv ha' hdb he hpl I' ⟨μ,h,env,R0,re,rs,h1,e1,λμ1 H1 vs s1 R1 q1=>?_⟩ λH1 s1 e s' I1 c=>?_) (λ_ _ ⟨_,_,_,_,z⟩=>z) λ_ _ z=>z
    ·have qq:zaY X.K μ1 h1 H1 (zaw np dfl rs) (vs++dvs.drop ((e::es).length+dfl.length-np)):=by
      rw[zbi (by rw[hrs];exact hnot),hrs]
      exact q1.app (RepDs.drop _ (hdd _ _)).rs
     have ex':=ex;rw[hX.fill rs] at ex'
     exact⟨by rw[<-qq.length];exact hlen,μ1,h1,zaw np dfl rs,_,h2,.ref Cr,R1,qq,ex',hcv,λμ2 H2 s2 R2=>⟨rfl,μ2,s1.trans s2,R2⟩⟩
    ·show E' e s'
     rw[<-hE]
     refine zgX hd I1.unwish c hgc hmc hdc hN hj hk (λC H' z=>by rw[z.1];exact hxm) λa C H' ob s6 EE' ⟨hC,μ',st,R'⟩ hcl hdn0 hfl na I6=>?_
     subst hC;have I7:=Inv.caught I6 a EE';have hps:=zmF (zp5 (X:=Cx.caught X a EE') (pos:=pa) (pos':=py2) (i:=i) hN hi hy (zqk (x1:=x1) (pos:=tp) (zqg (X:=Cx.caught X a EE') ec hj (.inl hk) hdn hcn his.caught)) hsw2 hfn)
     have hjl:j<σ.length:=by rw[I.len];exact(Z9.mp hj).1
     have s2:=Stp.fresh (μ:=μ') (h:=h2) (o:=HO.frz ob (.own a)) na;have R2:=R'.fresh (o:=HO.frz ob (.own a)) na
     refine ZF (hps pins s6 _ _ ⟨λσ9 H9=>D.nx (σ9.set j none) H9,λ_ _=>False,λ_ _=>False,λ_ _=>False⟩ I7 ⟨⟨a,ob,ZH hjl,zak,hcl,hdn0,hfl⟩,by rw[Z4,Yw];omega,λp9 hp9=>?_⟩) (λf s7 q=>?_) λ_ _ z=>z
     ·have s3:=Stp.fresh (μ:=μ') (h:=h2) (o:=HO.tup (ys.map λp=>V.bl p.2)) hp9
      have R3:=R2.fresh (o:=HO.tup (ys.map λp=>V.bl p.2)) hp9;refine k μ' _ _ ((st.trans s2).trans s3) R3 (zjm (re.stp ((st.trans s2).trans s3) R0) hij ?_);simp only[RepR,RepD];exact⟨p9,_,rfl,.inl (.inl zak),zpU ys⟩
     ·cases f with
      |next=>obtain⟨σ',H9,J,q⟩:=q;exact zrL (Inv.uncaught I6 J) hN hj hk λs8 I8=>⟨_,H9,I8,q⟩
      |brk=>obtain⟨σ',H9,J,q⟩:=q;exact q.elim|cont=>obtain⟨σ',H9,J,q⟩:=q;exact q.elim|ret u=>obtain⟨v',σ',H9,J,r,q⟩:=q;exact q.elim
   refine XQ (wpAny_Assign_Name (ZF hq (λ_ _ z=>z.elim) λ_ _ z=>z) hsw)
end
end IT
namespace IT
open PySem PySem.Spec L2
theorem noT{P:Prop}(h:false=true):P:=by cases h
theorem noF{P:Prop}(h:true=false):P:=by cases h
structure zmx where
 name:Str
 init:Nat
 fields:List Str
 meths:List (Str×Nat)
structure Cst where
 N:List Str
 names:List (Str×Yh)
 fns:List (Str×Nat×List D)
 globs:List (Str×D)
 top:Bool
 cls:List zmx
 gds:List (Str×List (List Nat×D))
 exs:List zeG:=[]
def zaq:Expr->Bool|.Starred _ _=>false|_=>true
def visB(C:Cst)(x:Str):Bool:=match C.names.lookup x with|some .local=>true|some .cell=>true|some .free=>true|_=>false
def locB(C:Cst)(x:Str):Bool:=match C.names.lookup x with|some .local=>true|some .cell=>C.top|_=>false
def zcS(C:Cst)(x:Str):Bool:=match C.names.lookup x with|some .globalImplicit=>true|_=>false
def zaG(x:Str):Bool:=!(x==("__debug__":Str))&&!(x==("__classdict__":Str))
def conB:D->Const->Bool|.non,.none=>true|.bl b,.bool c=>b==c|.int i,.int j=>i==j|.str x,.str y=>zam x==y|_,_=>false
def strB(c:Const)(k:Str):Bool:=match c with|.str x=>x==k|_=>false
theorem zje{c:Const}{k:Str}(h:strB c k=true):c=.str k:=by
 unfold strB at h
 split at h
 ·rw[Z3 h]
 ·cases h
def boB:Bo->Ws->Bool|.add,.Add=>true|.sub,.Sub=>true|.mul,.Mult=>true|.fdiv,.FloorDiv=>true|.mod,.Mod=>true|.pow,.Pow=>true|.band,.BitAnd=>true|.bor,.BitOr=>true|_,_=>false
def coB:Co->CmpOp->Bool|.eq,.Eq=>true|.ne,.NotEq=>true|.lt,.Lt=>true|.le,.LtE=>true|.gt,.Gt=>true|.ge,.GtE=>true|.isin,.In=>true|.notin,.NotIn=>true|.isN,.Is=>true|.isnotN,.IsNot=>true|_,_=>false
def biS:Bi->Str|.len=>"len"|.tuple=>"tuple"|.int=>"int"
def meS:Me->Str|.append=>"append"|.pop=>"pop"|.popAt=>"pop"|.clear=>"clear"|.extend=>"extend"
def biOn:Bi->Bool|.len=>true|.tuple=>true|.int=>true
def meOn:Me->Bool|.append=>true|.pop=>false|.popAt=>false|.clear=>false|.extend=>false
def zqE:Expr->Bool|.Call _ [] _ _=>false|_=>true
def me0:Me->Bool|.pop=>true|.clear=>true|_=>false
def zfK:Expr->Bool|.Name _ _=>true|_=>false
def zhR:Expr->Bool|.Set _ _ _=>true|_=>false
def zes:Expr->Bool|.Slice _ _ _ _=>true|_=>false
def zeT:E->Bool|.con .non=>true|_=>false
def zfb:Expr->Bool|.UnaryOp .Not _ _=>false|.BoolOp _ _ _=>false|.IfExp _ _ _ _=>false|.Compare _ _ _ _=>false|_=>true
def zlW:Expr->Bool|.Compare _ _ _ _=>true|_=>false
def zt3(x:Str):Str:=("?":Str)++x
def relN(outer names:List (Str×Yh)):List (Str×Yh):=names.map λ(n,k)=>if(k==WZ&&outer.lookup n==some .cell) then(n,.cell) else(n,k)
mutual
noncomputable def zbu:Tg->Expr->List (Nat×Str)
 |.name i,e=>match e with
  |.Name x _=>[(i,x)]|_=>[]
 |.tup ts,e=>match e with
  |.Tuple xs _ _=>tgNamess ts xs|_=>[]
noncomputable def tgNamess:List Tg->List Expr->List (Nat×Str)
 | [],_=>[]
 |t::ts,es=>match es with
  |e::es=>zbu t e++tgNamess ts es| []=>[]
end
def blkN(N:List Str)(own:List (Nat×Str)):List Str:=own.foldl (λM p=>M.set p.1 p.2) (N.map λx=>if own.any (λp=>p.2==x) then zt3 x else x)
def blkC(C:Cst)(sc:Scope)(own:List (Nat×Str)):Cst:={N:=blkN C.N own,names:=relN C.names sc.names,fns:=C.fns,globs:=C.globs,top:=false,cls:=C.cls,gds:=C.gds}
def ztX(C:Cst)(C':Cst)(own:List Nat)(i:Nat)(x:Str):Bool:=match C'.names.lookup x with
 |some .local=>own.contains i
 |some .cell | some .free=>own.contains i||(C.N[i]?==some x&&(C.names.lookup x==some .cell||C.names.lookup x==some .free))
 |_=>true
def zk8(C:Cst)(sc:Scope)(C':Cst)(own:List Nat):Bool:=
 sc.kind==.function&&sc.names.all (λy=>y.2 != .cell)&&sc.names.all (λx=>x.2 != .local||sc.names.lookup x.1==some .local)
 && sc.names.all (λx=>x.2 != .free||C.names.lookup x.1==some .cell||C.names.lookup x.1==some .free)
 && (YO C'.N.length).all (λi=>match C'.N[i]? with | some x=>ztX C C' own i x | none=>true)
 && C'.N.length==C.N.length&&decide C'.N.Nodup
mutual
noncomputable def zeJ(C:Cst):Tg->Expr->Bool
 |.name i,e=>match e with
  |.Name x _=>C.N[i]?==some x&&locB C x|_=>false
 |.tup ts,e=>match e with
  |.Tuple xs _ _=>chkTgs C ts xs|_=>false
noncomputable def chkTgs(C:Cst):List Tg->List Expr->Bool
 | [],es=>match es with
  | []=>true|_=>false
 |t::ts,es=>match es with
  |e::es=>zaq e&&zeJ C t e&&chkTgs C ts es| []=>false
end
def enuB:I->Expr->Bool
 |.enu _,e=>match e with
  |.Tuple _ _ _=>true|_=>false
 |_,_=>true
theorem andT{a b:Bool}(h:(a&&b)=true):a=true/\b=true:=by simpa using h
def kNil(l:List α)(b:Bool):Bool:=match l with| []=>b|_::_=>false
inductive JNil(b:Bool):List α->Prop|mk (h:b=true):JNil b []
theorem zga(h:kNil l b=true):JNil b l:=by
 cases l with|nil=>exact⟨h⟩|cons _ _=>exact noT h
def zbP(l:List α)(k:α->List α->Bool):Bool:=match l with| []=>false|v::vs=>k v vs
inductive zsm(k:α->List α->Bool):List α->Prop|mk (v:α) (vs:List α) (h:k v vs=true):zsm k (v::vs)
theorem zaD(h:zbP l k=true):zsm k l:=by
 cases l with|nil=>exact noT h|cons _ _=>exact⟨_,_,h⟩
def kOne(l:List α)(k:α->Bool):Bool:=zbP l λv vs=>kNil vs (k v)
inductive JOne(k:α->Bool):List α->Prop|mk (v:α) (h:k v=true):JOne k [v]
theorem zaX(h:kOne l k=true):JOne k l:=by obtain⟨v,vs,h⟩:=zaD h;obtain⟨h⟩:=zga h;exact⟨_,h⟩
def zoX(o:Option α)(b:Bool):Bool:=match o with|none=>b|some _=>false
inductive zt4(b:Bool):Option α->Prop|mk (h:b=true):zt4 b none
theorem zmM(h:zoX o b=true):zt4 b o:=by
 cases o with|none=>exact⟨h⟩|some _=>exact noT h
def zlo(o:Option α)(k:α->Bool):Bool:=match o with|none=>false|some v=>k v
inductive zth(k:α->Bool):Option α->Prop|mk (v:α) (h:k v=true):zth k (some v)
theorem zin(h:zlo o k=true):zth k o:=by
 cases o with|none=>exact noT h|some _=>exact⟨_,h⟩
def kNm(e:Expr)(k:Str->Pos->Bool):Bool:=if h:e.ctorIdx=23 then @Expr.Name.elim (λ_=>Bool) e h k else false
inductive JNm(k:Str->Pos->Bool):Expr->Prop|mk a0 a1 (h:k a0 a1=true):JNm k (.Name a0 a1)
theorem ofNm(h:kNm e k=true):JNm k e:=by
 by_cases g:e.ctorIdx=23
 ·exact @Expr.Name.elim (λe=>kNm e k=true->JNm k e) e g (λa0 a1 h=>⟨_,_,h⟩) h
 ·exact noT ((dif_neg g).symm.trans h)
def kAt(e:Expr)(k:Expr->Str->Pos->Bool):Bool:=if h:e.ctorIdx=20 then @Expr.Attribute.elim (λ_=>Bool) e h k else false
inductive JAt(k:Expr->Str->Pos->Bool):Expr->Prop|mk a0 a1 a2 (h:k a0 a1 a2=true):JAt k (.Attribute a0 a1 a2)
theorem ofAt(h:kAt e k=true):JAt k e:=by
 by_cases g:e.ctorIdx=20
 ·exact @Expr.Attribute.elim (λe=>kAt e k=true->JAt k e) e g (λa0 a1 a2 h=>⟨_,_,_,h⟩) h
 ·exact noT ((dif_neg g).symm.trans h)
def zpx(e:Expr)(k:Expr->(List Expr)->(List X7)->Pos->Bool):Bool:=if h:e.ctorIdx=16 then @Expr.Call.elim (λ_=>Bool) e h k else false
inductive zrD(k:Expr->(List Expr)->(List X7)->Pos->Bool):Expr->Prop|mk a0 a1 a2 a3 (h:k a0 a1 a2 a3=true):zrD k (.Call a0 a1 a2 a3)
theorem zp0(h:zpx e k=true):zrD k e:=by
 by_cases g:e.ctorIdx=16
 ·exact @Expr.Call.elim (λe=>zpx e k=true->zrD k e) e g (λa0 a1 a2 a3 h=>⟨_,_,_,_,h⟩) h
 ·exact noT ((dif_neg g).symm.trans h)
def kCN(e:Expr)(k:Str->Pos->(List Expr)->Pos->Bool):Bool:=zpx e λf vs ks p=>kNm f λx q=>kNil ks (k x q vs p)
inductive JCN(k:Str->Pos->(List Expr)->Pos->Bool):Expr->Prop|mk a0 a1 a2 a3 (h:k a0 a1 a2 a3=true):JCN k (.Call (.Name a0 a1) a2 [] a3)
theorem ofCN(h:kCN e k=true):JCN k e:=by obtain⟨f,vs,ks,p,g⟩:=zp0 h;obtain⟨x,q,i⟩:=ofNm g;obtain⟨j⟩:=zga i;exact⟨_,_,_,_,j⟩
def kCA(e:Expr)(k:Expr->Str->Pos->(List Expr)->Pos->Bool):Bool:=zpx e λf vs ks p=>kAt f λo x q=>kNil ks (k o x q vs p)
inductive JCA(k:Expr->Str->Pos->(List Expr)->Pos->Bool):Expr->Prop|mk a0 a1 a2 a3 a4 (h:k a0 a1 a2 a3 a4=true):JCA k (.Call (.Attribute a0 a1 a2) a3 [] a4)
theorem ofCA(h:kCA e k=true):JCA k e:=by obtain⟨f,vs,ks,p,g⟩:=zp0 h;obtain⟨o,x,q,i⟩:=ofAt g;obtain⟨j⟩:=zga i;exact⟨_,_,_,_,_,j⟩
def kCo(e:Expr)(k:Const->Nat->Pos->Bool):Bool:=if h:e.ctorIdx=19 then @Expr.Constant.elim (λ_=>Bool) e h k else false
inductive JCo(k:Const->Nat->Pos->Bool):Expr->Prop|mk a0 a1 a2 (h:k a0 a1 a2=true):JCo k (.Constant a0 a1 a2)
theorem ofCo(h:kCo e k=true):JCo k e:=by
 by_cases g:e.ctorIdx=19
 ·exact @Expr.Constant.elim (λe=>kCo e k=true->JCo k e) e g (λa0 a1 a2 h=>⟨_,_,_,h⟩) h
 ·exact noT ((dif_neg g).symm.trans h)
def kBi(e:Expr)(k:Expr->Ws->Expr->Pos->Bool):Bool:=if h:e.ctorIdx=2 then @Expr.BinOp.elim (λ_=>Bool) e h k else false
inductive JBi(k:Expr->Ws->Expr->Pos->Bool):Expr->Prop|mk a0 a1 a2 a3 (h:k a0 a1 a2 a3=true):JBi k (.BinOp a0 a1 a2 a3)
theorem ofBi(h:kBi e k=true):JBi k e:=by
 by_cases g:e.ctorIdx=2
 ·exact @Expr.BinOp.elim (λe=>kBi e k=true->JBi k e) e g (λa0 a1 a2 a3 h=>⟨_,_,_,_,h⟩) h
 ·exact noT ((dif_neg g).symm.trans h)
def kUn(e:Expr)(k:XD->Expr->Pos->Bool):Bool:=if h:e.ctorIdx=3 then @Expr.UnaryOp.elim (λ_=>Bool) e h k else false
inductive JUn(k:XD->Expr->Pos->Bool):Expr->Prop|mk a0 a1 a2 (h:k a0 a1 a2=true):JUn k (.UnaryOp a0 a1 a2)
theorem ofUn(h:kUn e k=true):JUn k e:=by
 by_cases g:e.ctorIdx=3
 ·exact @Expr.UnaryOp.elim (λe=>kUn e k=true->JUn k e) e g (λa0 a1 a2 h=>⟨_,_,_,h⟩) h
 ·exact noT ((dif_neg g).symm.trans h)
def kCm(e:Expr)(k:Expr->(List CmpOp)->(List Expr)->Pos->Bool):Bool:=if h:e.ctorIdx=15 then @Expr.Compare.elim (λ_=>Bool) e h k else false
inductive JCm(k:Expr->(List CmpOp)->(List Expr)->Pos->Bool):Expr->Prop|mk a0 a1 a2 a3 (h:k a0 a1 a2 a3=true):JCm k (.Compare a0 a1 a2 a3)
theorem ofCm(h:kCm e k=true):JCm k e:=by
 by_cases g:e.ctorIdx=15
 ·exact @Expr.Compare.elim (λe=>kCm e k=true->JCm k e) e g (λa0 a1 a2 a3 h=>⟨_,_,_,_,h⟩) h
 ·exact noT ((dif_neg g).symm.trans h)
def kBo(e:Expr)(k:Xg->(List Expr)->Pos->Bool):Bool:=if h:e.ctorIdx=0 then @Expr.BoolOp.elim (λ_=>Bool) e h k else false
inductive JBo(k:Xg->(List Expr)->Pos->Bool):Expr->Prop|mk a0 a1 a2 (h:k a0 a1 a2=true):JBo k (.BoolOp a0 a1 a2)
theorem ofBo(h:kBo e k=true):JBo k e:=by
 by_cases g:e.ctorIdx=0
 ·exact @Expr.BoolOp.elim (λe=>kBo e k=true->JBo k e) e g (λa0 a1 a2 h=>⟨_,_,_,h⟩) h
 ·exact noT ((dif_neg g).symm.trans h)
def kIf(e:Expr)(k:Expr->Expr->Expr->Pos->Bool):Bool:=if h:e.ctorIdx=5 then @Expr.IfExp.elim (λ_=>Bool) e h k else false
inductive JIf(k:Expr->Expr->Expr->Pos->Bool):Expr->Prop|mk a0 a1 a2 a3 (h:k a0 a1 a2 a3=true):JIf k (.IfExp a0 a1 a2 a3)
theorem ofIf(h:kIf e k=true):JIf k e:=by
 by_cases g:e.ctorIdx=5
 ·exact @Expr.IfExp.elim (λe=>kIf e k=true->JIf k e) e g (λa0 a1 a2 a3 h=>⟨_,_,_,_,h⟩) h
 ·exact noT ((dif_neg g).symm.trans h)
def kTu(e:Expr)(k:(List Expr)->Nat->Pos->Bool):Bool:=if h:e.ctorIdx=25 then @Expr.Tuple.elim (λ_=>Bool) e h k else false
inductive JTu(k:(List Expr)->Nat->Pos->Bool):Expr->Prop|mk a0 a1 a2 (h:k a0 a1 a2=true):JTu k (.Tuple a0 a1 a2)
theorem ofTu(h:kTu e k=true):JTu k e:=by
 by_cases g:e.ctorIdx=25
 ·exact @Expr.Tuple.elim (λe=>kTu e k=true->JTu k e) e g (λa0 a1 a2 h=>⟨_,_,_,h⟩) h
 ·exact noT ((dif_neg g).symm.trans h)
def kSu(e:Expr)(k:Expr->Expr->Pos->Bool):Bool:=if h:e.ctorIdx=21 then @Expr.Subscript.elim (λ_=>Bool) e h k else false
inductive JSu(k:Expr->Expr->Pos->Bool):Expr->Prop|mk a0 a1 a2 (h:k a0 a1 a2=true):JSu k (.Subscript a0 a1 a2)
theorem ofSu(h:kSu e k=true):JSu k e:=by
 by_cases g:e.ctorIdx=21
 ·exact @Expr.Subscript.elim (λe=>kSu e k=true->JSu k e) e g (λa0 a1 a2 h=>⟨_,_,_,h⟩) h
 ·exact noT ((dif_neg g).symm.trans h)
def kSl(e:Expr)(k:(Option Expr)->(Option Expr)->(Option Expr)->Pos->Bool):Bool:=if h:e.ctorIdx=26 then @Expr.Slice.elim (λ_=>Bool) e h k else false
inductive JSl(k:(Option Expr)->(Option Expr)->(Option Expr)->Pos->Bool):Expr->Prop|mk a0 a1 a2 a3 (h:k a0 a1 a2 a3=true):JSl k (.Slice a0 a1 a2 a3)
theorem ofSl(h:kSl e k=true):JSl k e:=by
 by_cases g:e.ctorIdx=26
 ·exact @Expr.Slice.elim (λe=>kSl e k=true->JSl k e) e g (λa0 a1 a2 a3 h=>⟨_,_,_,_,h⟩) h
 ·exact noT ((dif_neg g).symm.trans h)
def kLC(e:Expr)(k:Expr->(List Comprehension)->Scope->Pos->Bool):Bool:=if h:e.ctorIdx=8 then @Expr.ListComp.elim (λ_=>Bool) e h k else false
inductive JLC(k:Expr->(List Comprehension)->Scope->Pos->Bool):Expr->Prop|mk a0 a1 a2 a3 (h:k a0 a1 a2 a3=true):JLC k (.ListComp a0 a1 a2 a3)
theorem ofLC(h:kLC e k=true):JLC k e:=by
 by_cases g:e.ctorIdx=8
 ·exact @Expr.ListComp.elim (λe=>kLC e k=true->JLC k e) e g (λa0 a1 a2 a3 h=>⟨_,_,_,_,h⟩) h
 ·exact noT ((dif_neg g).symm.trans h)
def kLi(e:Expr)(k:(List Expr)->Pos->Bool):Bool:=if h:e.ctorIdx=24 then @Expr.List.elim (λ_=>Bool) e h k else false
inductive JLi(k:(List Expr)->Pos->Bool):Expr->Prop|mk a0 a1 (h:k a0 a1=true):JLi k (.List a0 a1)
theorem ofLi(h:kLi e k=true):JLi k e:=by
 by_cases g:e.ctorIdx=24
 ·exact @Expr.List.elim (λe=>kLi e k=true->JLi k e) e g (λa0 a1 h=>⟨_,_,h⟩) h
 ·exact noT ((dif_neg g).symm.trans h)
def kDi(e:Expr)(k:(List (Option Expr))->(List Expr)->Pos->Bool):Bool:=if h:e.ctorIdx=6 then @Expr.Dict.elim (λ_=>Bool) e h k else false
inductive JDi(k:(List (Option Expr))->(List Expr)->Pos->Bool):Expr->Prop|mk a0 a1 a2 (h:k a0 a1 a2=true):JDi k (.Dict a0 a1 a2)
theorem ofDi(h:kDi e k=true):JDi k e:=by
 by_cases g:e.ctorIdx=6
 ·exact @Expr.Dict.elim (λe=>kDi e k=true->JDi k e) e g (λa0 a1 a2 h=>⟨_,_,_,h⟩) h
 ·exact noT ((dif_neg g).symm.trans h)
def kAs(e:Stmt)(k:(List Expr)->Expr->Pos->Bool):Bool:=if h:e.ctorIdx=5 then @Stmt.Assign.elim (λ_=>Bool) e h k else false
inductive JAs(k:(List Expr)->Expr->Pos->Bool):Stmt->Prop|mk a0 a1 a2 (h:k a0 a1 a2=true):JAs k (.Assign a0 a1 a2)
theorem ofAs(h:kAs e k=true):JAs k e:=by
 by_cases g:e.ctorIdx=5
 ·exact @Stmt.Assign.elim (λe=>kAs e k=true->JAs k e) e g (λa0 a1 a2 h=>⟨_,_,_,h⟩) h
 ·exact noT ((dif_neg g).symm.trans h)
def kEx(e:Stmt)(k:Expr->Pos->Bool):Bool:=if h:e.ctorIdx=24 then @Stmt.Expr.elim (λ_=>Bool) e h k else false
inductive JEx(k:Expr->Pos->Bool):Stmt->Prop|mk a0 a1 (h:k a0 a1=true):JEx k (.Expr a0 a1)
theorem ofEx(h:kEx e k=true):JEx k e:=by
 by_cases g:e.ctorIdx=24
 ·exact @Stmt.Expr.elim (λe=>kEx e k=true->JEx k e) e g (λa0 a1 h=>⟨_,_,h⟩) h
 ·exact noT ((dif_neg g).symm.trans h)
def kIfS(e:Stmt)(k:Expr->(List Stmt)->(List Stmt)->Pos->Bool):Bool:=if h:e.ctorIdx=12 then @Stmt.If.elim (λ_=>Bool) e h k else false
inductive JIfS(k:Expr->(List Stmt)->(List Stmt)->Pos->Bool):Stmt->Prop|mk a0 a1 a2 a3 (h:k a0 a1 a2 a3=true):JIfS k (.If a0 a1 a2 a3)
theorem ztM(h:kIfS e k=true):JIfS k e:=by
 by_cases g:e.ctorIdx=12
 ·exact @Stmt.If.elim (λe=>kIfS e k=true->JIfS k e) e g (λa0 a1 a2 a3 h=>⟨_,_,_,_,h⟩) h
 ·exact noT ((dif_neg g).symm.trans h)
def kFo(e:Stmt)(k:Expr->Expr->(List Stmt)->(List Stmt)->Pos->Bool):Bool:=if h:e.ctorIdx=9 then @Stmt.For.elim (λ_=>Bool) e h k else false
inductive JFo(k:Expr->Expr->(List Stmt)->(List Stmt)->Pos->Bool):Stmt->Prop|mk a0 a1 a2 a3 a4 (h:k a0 a1 a2 a3 a4=true):JFo k (.For a0 a1 a2 a3 a4)
theorem ofFo(h:kFo e k=true):JFo k e:=by
 by_cases g:e.ctorIdx=9
 ·exact @Stmt.For.elim (λe=>kFo e k=true->JFo k e) e g (λa0 a1 a2 a3 a4 h=>⟨_,_,_,_,_,h⟩) h
 ·exact noT ((dif_neg g).symm.trans h)
def kRe(e:Stmt)(k:(Option Expr)->Pos->Bool):Bool:=if h:e.ctorIdx=3 then @Stmt.Return.elim (λ_=>Bool) e h k else false
inductive JRe(k:(Option Expr)->Pos->Bool):Stmt->Prop|mk a0 a1 (h:k a0 a1=true):JRe k (.Return a0 a1)
theorem ofRe(h:kRe e k=true):JRe k e:=by
 by_cases g:e.ctorIdx=3
 ·exact @Stmt.Return.elim (λe=>kRe e k=true->JRe k e) e g (λa0 a1 h=>⟨_,_,h⟩) h
 ·exact noT ((dif_neg g).symm.trans h)
def kRa(e:Stmt)(k:(Option Expr)->(Option Expr)->Pos->Bool):Bool:=if h:e.ctorIdx=16 then @Stmt.Raise.elim (λ_=>Bool) e h k else false
inductive JRa(k:(Option Expr)->(Option Expr)->Pos->Bool):Stmt->Prop|mk a0 a1 a2 (h:k a0 a1 a2=true):JRa k (.Raise a0 a1 a2)
theorem ofRa(h:kRa e k=true):JRa k e:=by
 by_cases g:e.ctorIdx=16
 ·exact @Stmt.Raise.elim (λe=>kRa e k=true->JRa k e) e g (λa0 a1 a2 h=>⟨_,_,_,h⟩) h
 ·exact noT ((dif_neg g).symm.trans h)
def kTr(e:Stmt)(k:(List Stmt)->(List Wv)->(List Stmt)->(List Stmt)->Pos->Bool):Bool:=if h:e.ctorIdx=17 then @Stmt.Try.elim (λ_=>Bool) e h k else false
inductive JTr(k:(List Stmt)->(List Wv)->(List Stmt)->(List Stmt)->Pos->Bool):Stmt->Prop|mk a0 a1 a2 a3 a4 (h:k a0 a1 a2 a3 a4=true):JTr k (.Try a0 a1 a2 a3 a4)
theorem ofTr(h:kTr e k=true):JTr k e:=by
 by_cases g:e.ctorIdx=17
 ·exact @Stmt.Try.elim (λe=>kTr e k=true->JTr k e) e g (λa0 a1 a2 a3 a4 h=>⟨_,_,_,_,_,h⟩) h
 ·exact noT ((dif_neg g).symm.trans h)
def kHa(e:Wv)(k:(Option Expr)->(Option Str)->(List Stmt)->Pos->Bool):Bool:=match e with|.ExceptHandler a0 a1 a2 a3=>k a0 a1 a2 a3
inductive JHa(k:(Option Expr)->(Option Str)->(List Stmt)->Pos->Bool):Wv->Prop|mk a0 a1 a2 a3 (h:k a0 a1 a2 a3=true):JHa k (.ExceptHandler a0 a1 a2 a3)
theorem ofHa(h:kHa e k=true):JHa k e:=by cases e<;>first | exact noT h | exact⟨_,_,_,_,h⟩
def kUS(e:XD)(k:Bool):Bool:=match e with|.USub=>k|_=>false
inductive JUS(k:Bool):XD->Prop|mk  (h:k=true):JUS k .USub
theorem ofUS(h:kUS e k=true):JUS k e:=by cases e<;>first | exact noT h | exact⟨h⟩
def oneC(c:Const):Bool:=match c with|.int i=>i==1|_=>false
theorem oneC_eq{c:Const}(h:oneC c=true):c=.int 1:=by
 cases c with
 |int i=>rw[Z3 (show(i==1)=true from h)]
 |_=>exact noT h
def kNo(e:XD)(k:Bool):Bool:=match e with|.Not=>k|_=>false
inductive JNo(k:Bool):XD->Prop|mk  (h:k=true):JNo k .Not
theorem ofNo(h:kNo e k=true):JNo k e:=by cases e<;>first | exact noT h | exact⟨h⟩
def kAn(e:Xg)(k:Bool):Bool:=match e with|.And=>k|_=>false
inductive JAn(k:Bool):Xg->Prop|mk  (h:k=true):JAn k .And
theorem ofAn(h:kAn e k=true):JAn k e:=by cases e<;>first | exact noT h | exact⟨h⟩
def kOr(e:Xg)(k:Bool):Bool:=match e with|.Or=>k|_=>false
inductive JOr(k:Bool):Xg->Prop|mk  (h:k=true):JOr k .Or
theorem ofOr(h:kOr e k=true):JOr k e:=by cases e<;>first | exact noT h | exact⟨h⟩
def kAd(e:Ws)(k:Bool):Bool:=match e with|.Add=>k|_=>false
inductive JAd(k:Bool):Ws->Prop|mk  (h:k=true):JAd k .Add
theorem ofAd(h:kAd e k=true):JAd k e:=by cases e<;>first | exact noT h | exact⟨h⟩
def lclB(C:Cst)(x:Str):Bool:=match C.names.lookup x with|some .local=>true|_=>false
def isxB(C:Cst)(u:zeG)(nn:Str):List (Str×Bool)->List Expr->Bool
 | [],l=>kNil l true
 |p::r,l=>zbP l λe es=>kCN e λf _ as _=>zbP as λv as'=>kOne as' λw=>kNm v λx1 _=>kNm w λy1 _=>(f==("isinstance":Str)&&zcS C f&&x1==nn&&y1==p.1&&zcS C y1&&zaG y1&&u.isx.contains p&&isxB C u nn r es)
mutual
noncomputable def chkE:E->Cst->Expr->Bool
 |.con d,_,e=>kCo e λc _ _=>(conB d c)
 |.var i,C,e=>kNm e λx _=>(C.N[i]?==some x&&visB C x&&zaG x)
 |.bin o a b,C,e=>kBi e λl op r _=>(boB o op&&chkE a C l&&chkE b C r)
 |.neg a,C,e=>kUn e λz2 x _=>kUS z2 ((chkE a C x))
 |.cmp o a b,C,e=>kCm e λl z2 z4 _=>kOne z2 λop=>kOne z4 λr=>(coB o op&&chkE a C l&&chkE b C r&&!zhR r)
 |.chn o o' a b c,C,e=>kCm e λl z2 z5 _=>zbP z2 λop z3=>kOne z3 λop'=>zbP z5 λr z6=>kOne z6 λr'=>(coB o op&&coB o' op'&&chkE a C l&&chkE b C r&&chkE c C r'&&!zhR r&&!zhR r')
 |.and a b,C,e=>kBo e λz2 z3 pos=>kAn z2 (zbP z3 λv z4=>zbP z4 λw rest=>(chkE a C v&&(match rest with | []=>chkE b C w | y::ys=>chkE b C (.BoolOp .And (w::y::ys) pos))))
 |.or a b,C,e=>kBo e λz2 z3 pos=>kOr z2 (zbP z3 λv z4=>zbP z4 λw rest=>(chkE a C v&&(match rest with | []=>chkE b C w | y::ys=>chkE b C (.BoolOp .Or (w::y::ys) pos))))
 |.not a,C,e=>kUn e λz2 x _=>kNo z2 ((chkE a C x))
 |.ife c a b,C,e=>kIf e λt x y _=>(chkT c C t&&chkE a C x&&chkE b C y)
 |.tup es,C,e=>kTu e λxs _ _=>(chkEs es C xs&&decide (xs.length<=1000))
 |.lst _ l,C,e=>chkL l C e
 |.idx a i,C,e=>kSu e λx y _=>(chkE a C x&&chkE i C y&&!zes y)
 |.sli a lo hi,C,e=>kSu e λx z2 _=>kSl z2 λl u z3 _=>zoX z3 ((chkE a C x&&(match l with | none=>zeT lo | some y=>chkE lo C y)&&(match u with | none=>zeT hi | some y=>chkE hi C y)))
 |.call f es,C,e=>kCN e λx _ z3 _=>zbP z3 λv vs=>((match C.fns[f]? with | some p=>p.1==x | none=>false)&&zcS C x&&zaG x&&chkEs es C (v::vs))
 |.bi b es,C,e=>kCN e λx _ z3 _=>zbP z3 λv vs=>((biOn b&&x==biS b)&&zcS C x&&chkEs es C (v::vs))
 |.me m o es,C,e=>kCA e λov name apos vs cpos=>(match vs with
  |v::vs=>(!me0 m&&meOn m)&&name==meS m&&zfK ov&&chkE o C ov&&chkEs es C (v::vs)&&apos.endLine==cpos.line&&decide ((v::vs).length<20)
  | []=>(me0 m&&meOn m)&&name==meS m&&zfK ov&&chkE o C ov&&chkEs es C []&&apos.endLine==cpos.line)
 |.glo d,C,e=>kNm e λx _=>((match C.globs.lookup x with | some d'=>D.same d d' | none=>false)&&zcS C x&&zaG x)
 |.lm m o a,C,e=>kCA e λov name apos z3 cpos=>kOne z3 λv=>(name==lmS m&&zqE ov&&chkE o C ov&&zaq v&&chkE a C v&&apos.endLine==cpos.line)
 |.dix a k,C,e=>kSu e λz2 y _=>kCN z2 λx _ z4 _=>kOne z4 λv=>(x==("dict":Str)&&zcS C x&&zaq v&&chkE a C v&&chkE k C y&&!zes y)
 |.rix o k,C,e=>kSu e λx y _=>kCo y λc _ _=>(strB c k&&chkE o C x)
 |.rnew ks es,C,e=>kDi e λkeys vals _=>chkP es ks C keys vals
 |.fld o f,C,e=>kAt e λov name _=>(name==f&&zqE ov&&chkE o C ov)
 |.make c f es,C,e=>kCN e λx _ z3 _=>zbP z3 λv vs=>(x==c&&(C.cls.any λi=>i.name==c&&i.init==f)&&zcS C x&&zaG x&&chkEs es C (v::vs))
 |.mc c m f o es,C,e=>kCA e λov name apos vs cpos=>(match vs with
  |v::vs=>name==m&&(C.cls.any λi=>i.name==c&&i.meths.contains (m,f))&&zfK ov&&chkE o C ov&&chkEs es C (v::vs)&&apos.endLine==cpos.line&&decide ((v::vs).length<20)
  | []=>name==m&&(C.cls.any λi=>i.name==c&&i.meths.contains (m,f))&&zfK ov&&chkE o C ov&&chkEs es C []&&apos.endLine==cpos.line)
 | .lstO tg it cs el,C,e=>kLC e λelt z2 sc _=>kOne z2 λg=>(g.is_async==0&&!zhR g.iter&&zk8 C sc (blkC C sc (zbu tg g.target)) tg.slots&&(zeJ (blkC C sc (zbu tg g.target)) tg g.target&&enuB it g.target)&&chkI it C g.iter
    && chkTs cs (blkC C sc (zbu tg g.target)) g.ifs&&chkE el (blkC C sc (zbu tg g.target)) elt)
 |.oix a i,C,e=>kSu e λx y _=>(chkE a C x&&chkE i C y&&!zes y)
 |.olen a,C,e=>kCN e λx _ z3 _=>kOne z3 λv=>(x==("len":Str)&&zcS C x&&zaq v&&chkE a C v)
 |.stuck,_,_=>true
noncomputable def chkEs:List E->Cst->List Expr->Bool
 | [],_,es=>match es with
  | []=>true|_=>false
 |a::as,C,es=>match es with
  |e::es=>zaq e&&chkE a C e&&chkEs as C es| []=>false
noncomputable def chkT:T->Cst->Expr->Bool
 |.val a,C,e=>chkE a C e&&(zfb e||zlW e)
 |.and a b,C,e=>kBo e λz2 z3 pos=>kAn z2 (zbP z3 λv z4=>zbP z4 λw rest=>(chkT a C v&&(match rest with | []=>chkT b C w | y::ys=>chkT b C (.BoolOp .And (w::y::ys) pos))))
 |.or a b,C,e=>kBo e λz2 z3 pos=>kOr z2 (zbP z3 λv z4=>zbP z4 λw rest=>(chkT a C v&&(match rest with | []=>chkT b C w | y::ys=>chkT b C (.BoolOp .Or (w::y::ys) pos))))
 |.not a,C,e=>kUn e λz2 x _=>kNo z2 ((chkT a C x))
noncomputable def chkP:List E->List Str->Cst->List (Option Expr)->List Expr->Bool
 | [],ks,_,keys,vals=>match ks with
  | []=>kNil keys (kNil vals true)|_::_=>false
 |a::as,ks,C,keys,vals=>match ks with
  |k::ks=>zbP keys λo r=>zlo o λe=>kCo e λc _ _=>zbP vals λv vs=>(strB c k&&chkE a C v&&chkP as ks C r vs)
  | []=>false
noncomputable def chkTs:List T->Cst->List Expr->Bool
 | [],_,es=>match es with
  | []=>true|_=>false
 |t::ts,C,es=>match es with
  |e::es=>chkT t C e&&chkTs ts C es&&es.isEmpty| []=>false
noncomputable def chkL:L->Cst->Expr->Bool
 |.disp es,C,e=>kLi e λxs _=>(chkEs es C xs&&decide (xs.length<=1000))
 | .comp tg it cs el,C,e=>kLC e λelt z2 sc _=>kOne z2 λg=>(g.is_async==0&&!zhR g.iter&&zk8 C sc (blkC C sc (zbu tg g.target)) tg.slots&&(zeJ (blkC C sc (zbu tg g.target)) tg g.target&&enuB it g.target)&&chkI it C g.iter
    && chkTs cs (blkC C sc (zbu tg g.target)) g.ifs&&chkE el (blkC C sc (zbu tg g.target)) elt)
 |.of a,C,e=>kCN e λx _ z3 _=>kOne z3 λv=>(x==("list":Str)&&zcS C x&&zaq v&&chkE a C v)
 |.rev a,C,e=>kSu e λv s _=>kSl s λx y z _=>zoX x (zoX y (zlo z λu=>kUn u λo w _=>kUS o (kCo w λc _ _=>(oneC c&&chkE a C v))))
 |.cat a b,C,e=>kBi e λl z2 r _=>kAd z2 ((chkE a C l&&chkE b C r))
noncomputable def chkI:I->Cst->Expr->Bool
 |.seq a,C,e=>chkE a C e
 |.rng a,C,e=>kCN e λx _ z3 _=>kOne z3 λv=>(x==("range":Str)&&zcS C x&&zaq v&&chkE a C v)
 |.enu a,C,e=>kCN e λx _ z3 _=>kOne z3 λv=>(x==("enumerate":Str)&&zcS C x&&zaq v&&chkE a C v)
end
def zew:Expr->Bool|.ListComp _ _ _ _=>true|.SetComp _ _ _ _=>true|.DictComp _ _ _ _ _=>true|_=>false
def zd4:Expr->Bool|.Tuple _ _ _=>true|.List _ _=>true|_=>false
def tvB(C:Cst)(f:Nat)(es:List E)(c i j:Nat)(ys:List (Str×Bool))(x:Str)(v:Expr)(vs:List Expr)(y nn z z':Str)(ts:List Expr):Bool:=(((match C.fns[f]? with | some p=>p.1==x | none=>false)&&zcS C x&&zaG x&&chkEs es C (v::vs)&&(match C.exs[c]? with | some u=>u.hs.contains y&&isxB C u nn ys ts | none=>false)&&zcS C y&&zaG y&&C.N[i]?==some z&&locB C z&&z==z'&&C.N[j]?==some nn&&lclB C nn&&zaG nn&&decide (ys.length<=1000)&&!ys.isEmpty&&i != j&&C.top))
mutual
noncomputable def chkS:S->Cst->Stmt->Bool
 |.asg tg a,C,st=>kAs st λz2 v pos=>kOne z2 λt=>(zeJ C tg t&&zaq t&&chkE a C v&&!(zd4 t&&zd4 v)&&(!zew v||(zew v&&zfK t)))
 |.setI o i a,C,st=>kAs st λz2 v _=>kOne z2 λz3=>kSu z3 λov iv _=>(chkE a C v&&chkE o C ov&&chkE i C iv&&!zew v&&!zes iv)
 |.setF o f a,C,st=>kAs st λz2 v _=>kOne z2 λz3=>kAt z3 λov name _=>(name==f&&chkE a C v&&chkE o C ov)
 |.setN c o f a,C,st=>kAs st λz2 v _=>kOne z2 λz3=>kAt z3 λov name _=>(name==f&&(C.cls.any λi=>i.name==c&&i.fields.contains f)&&chkE a C v&&chkE o C ov)
 |.exp a,C,st=>kEx st λv _=>(chkE a C v&&!zew v)
 |.ife c a b,C,st=>kIfS st λt x y _=>(chkT c C t&&chkSs a C x&&chkSs b C y)
 |.for tg it body,C,st=>kFo st λt iter b z2 _=>kNil z2 (((zeJ C tg t&&enuB it t)&&chkI it C iter&&chkSs body C b&&!zhR iter))
 |.ret a,C,st=>kRe st λz2 _=>zlo z2 λv=>(chkE a C v)
 |.retN,_,st=>kRe st λz2 _=>zoX z2 ((true))
 |.brk,_,st=>false|.cnt,_,st=>false
 |.setR o k a,C,st=>kAs st λz2 v _=>kOne z2 λz3=>kSu z3 λov iv _=>kCo iv λc _ _=>(strB c k&&chkE a C v&&chkE o C ov&&!zew v)
 |.rai c es,C,st=>kRa st λz2 z7 _=>zlo z2 λz3=>kCN z3 λx _ z5 _=>zbP z5 λv vs=>zoX z7 (((match C.exs[c]? with | some y=>y.name==x | none=>false)&&zcS C x&&zaG x&&chkEs es C (v::vs)&&decide (es.length<=1000)&&C.top))
 |.tryv f es c i j ys,C,st=>kTr st λz2 z9 z22 z23 _=>kOne z2 λz3=>kAs z3 λzt z4 _=>kOne zt λzt1=>kNm zt1 λz _=>kCN z4 λx _ z6 _=>zbP z6 λv vs=>kOne z9 λz10=>kHa z10 λz11 z13 z14 _=>zlo z11 λz12=>kNm z12 λy _=>zlo z13 λnn=>kOne z14 λz15=>kAs z15 λz16 z19 _=>kOne z16 λz17=>kNm z17 λz' _=>kTu z19 λts _ _=>kNil z22 (kNil z23 (tvB C f es c i j ys x v vs y nn z z' ts))
 |.stuck,_,_=>true
noncomputable def chkSs:List S->Cst->List Stmt->Bool
 | [],_,sts=>match sts with
  | []=>true|_=>false
 |s::ss,C,sts=>match sts with
  |st::sts=>chkS s C st&&chkSs ss C sts| []=>false
end
end IT
namespace IT
open PySem PySem.Spec L2
def zeS:List Str:=["len", "sum", "tuple", "int", "range", "all", "any", "max", "min", "list", "isinstance", "str", "bool", "dict", "enumerate", "sorted", "set"]
structure Excs(Γ:Calls)(n:Nat)(C:Cst)(X:Cx)(cv:ClsV):Prop where
 cls:∀(c:Nat) (x:zeG),C.exs[c]?=some x->∃Ca,X.mg x.name=some (.ref Ca)/\cv (.d (.int c))=some (.ref Ca)/\ExcK X.K Ca/\Yc X.K (.ref Ca) (.ref Ca)=some true/\XOk X.K X.mg Ca x
 funs:∀(f:Nat) (p:Str×Nat×List D),C.fns[f]?=some p->FunX X cv n p.1 p.2.1 p.2.2 (Γ (xof f))
structure Good(Γ:Calls)(n:Nat)(C:Cst)(X:Cx):Prop where
 nox:X.xe=λ_ _=>False
 calm:X.calm=true
 room:Room n X.A
 room1:Room (n+1) X.A
 kind:X.env.scope.kind=.function
 N:X.N=C.N
 nd:X.N.Nodup
 names:X.env.scope.names=C.names
 fn:C.top=true->∀x,X.fn x=true
 funs:∀(f:Nat) (p:Str×Nat×List D),C.fns[f]?=some p->zoC X n p.1 p.2.1 p.2.2 (Γ f)
 blt:∀x∈zeS,X.mg x=none
 glob:∀(x:Str) (d:D),C.globs.lookup x=some d->∃u v,X.mg x=some u/\RelV v u/\∀A H,RepD X.K A H d v
 makes:∀i∈C.cls,∃np,zqe X n i.name np (Γ i.init)
 meths:∀i∈C.cls,∀p∈i.meths,∃np,zl2 X n i.name p.1 np (Γ p.2)
 attrs:∀i∈C.cls,∀f∈i.fields,∀A,ZR X.K ZV i.name=some (some (.ref A))->zb9 X.K A f
 defc:C.top=true->zhd X
 excs:∃cv,Excs Γ n C X cv
theorem zao(h:zaq e=true):ZY (e::es) env=(false,eval e env)::ZY es env:=by cases e<;>first | rfl | (first | exact noT h | exact noF h)
theorem zbn:∀{as:List E} {C:Cst} {es:List Expr},chkEs as C es=true->as.length=es.length| [],C,[],_=>rfl| [],C,_::_,h=>noT h|a::as,C,[],h=>noT h|a::as,C,e::es,h=>by change ((zaq _&&chkE _ _ _)&&chkEs _ _ _)=true at h;simp only[Z8] at h;simp[zbn h.2]
theorem zaL:∀{as:List E} {C:Cst} {es:List Expr},chkEs as C es=true->∀e∈es,zaq e=true
 | [],C,[],_,e,he=>by simp at he| [],C,_::_,h,_,_=>noT h|a::as,C,[],h,_,_=>noT h
 |a::as,C,e::es,h,x,hx=>by
  change ((zaq _&&chkE _ _ _)&&chkEs _ _ _)=true at h;simp only[Z8] at h
  rcases ZQ.mp hx with rfl | hx
  ·exact h.1.1
  ·exact zaL h.2 x hx
theorem zbx:∀{es:List Expr},(∀e∈es,zaq e=true)->(backTo pos (ZY es env)).any (·.1)=false| [],_=>rfl| e::es,h=>by rw[zao (h e (by simp))];show(false||(backTo pos (ZY es env)).any (·.1))=false;rw[zbx λx hx=>h x (by simp[hx])];rfl
theorem zkt:∀{es:List Expr},(∀e∈es,zaq e=true)->(backTo pos (ZY es env)).all (λx=>!x.1)=true| [],_=>rfl|e::es,h=>by rw[zao (h e (by simp))];show(true&&(backTo pos (ZY es env)).all (λx=>!x.1))=true;rw[zkt λx hx=>h x (by simp[hx])];rfl
theorem zdy:∀{es:List E} {σ:IT.Env} {h h':Sto} {rs:List R},evs Γ es σ h=some (rs,h')->rs.length=es.length
 | [],σ,h,h',rs,e=>by
  simp only[evs,zac] at e
  rw[<-e.1];rfl
 |a::as,σ,h,h',rs,e=>by simp only[evs,zab,zac] at e;obtain⟨r,h1,e1,rs',h2,e2,rfl,rfl⟩:=e;simp[zdy e2]
section
variable {Γ:Calls}{n:Nat}{C:Cst}{X:Cx}{x:Str}
theorem zuo(G:Good Γ n C X)(h:visB C x=true):Vis X.env.scope x:=by
 unfold visB at h;unfold Vis;rw[G.names]
 split at h
 ·rename_i e;exact .inl e
 ·rename_i e;exact .inr (.inl e)
 ·rename_i e;exact .inr (.inr e)
 ·cases h
theorem zkf(G:Good Γ n C X)(h:locB C x=true):Loc X.env.scope x/\(X.fn x=true\/X.env.scope.names.lookup x=some .local):=by
 unfold locB at h;unfold L2.Loc;rw[G.names]
 split at h
 ·rename_i e;exact⟨.inl e,.inr e⟩
 ·rename_i e;exact⟨.inr e,.inl (G.fn h x)⟩
 ·cases h
theorem zds(G:Good Γ n C X)(h:zcS C x=true):Gl X x:=by
 unfold zcS at h;show X.env.scope.names.lookup x=_;rw[G.names]
 split at h
 ·rename_i e;exact e
 ·cases h
theorem za2(h:zaG x=true):(x==("__debug__":Str))=false/\(x==("__classdict__":Str))=false:=by
 unfold zaG at h
 simpa using h
end
theorem opB(h:boB o op=true):OpD X (Y4 op) (bop o):=by cases o<;>cases op<;>first | (exact noT h) | exact zrz | exact zrM | exact zrY | exact zn2 | exact zrp | exact zsi | exact zoz | exact zrU
theorem coBe(hu:X.A.units+64<cLine)(h:coB o op=true):OpD X (Zs op) (cop o):=by cases o<;>cases op<;>first | (exact noT h) | exact zto hu | exact ztQ hu | exact zsz | exact ztk | exact zug | exact zsE | exact znU hu | exact zm4 hu | exact zrT | exact zlb
theorem zjV(h:cop o x y=some z):∃t,z=.bl t:=by
 cases o with
 |eq=>(change (if _ then _ else _)=_ at h;split at h;exact⟨_,(ZU h).symm⟩;exact zaf h)|ne=>(change (if _ then _ else _)=_ at h;split at h;exact⟨_,(ZU h).symm⟩;exact zaf h)
 |isin=>
  (delta cop at h;dsimp only at h)
  cases e:items y with|none=>rw[e] at h;dsimp only at h;split at h;exact⟨_,(ZU h).symm⟩;exact zaf h|some xs=>rw[e] at h;dsimp only at h;split at h;exact⟨_,(ZU h).symm⟩;exact zaf h
 |notin=>
  (delta cop at h;dsimp only at h)
  cases e:items y with|none=>rw[e] at h;dsimp only at h;split at h;exact⟨_,(ZU h).symm⟩;exact zaf h|some xs=>rw[e] at h;dsimp only at h;split at h;exact⟨_,(ZU h).symm⟩;exact zaf h
 |_=>cases x<;>cases y<;>first | exact zaf h | exact⟨_,(ZU h).symm⟩
theorem zuR(e:mD (cop o) x y h=some (r,h')):∃t,r=.d (.bl t):=by simp only[mD,zab,zac,zar] at e;obtain⟨dx,h1,e1,dy,h2,e2,z,h3,⟨e3,_⟩,rfl,_⟩:=e;obtain⟨t,rfl⟩:=zjV e3;exact⟨t,rfl⟩
def chnM(o o':Co)(f g k:IT.Env->M R):IT.Env->M R:=λσ=>bnd (f σ) λx=>bnd (g σ) λy=>bnd (rd x) λx1=>bnd (rd y) λy1=>bnd (opt (cop o x1 y1)) λz=>bnd (opt (tru z)) λt=>if t then bnd (k σ) λw=>bnd (rd y) λy2=>bnd (rd w) λw2=>bnd (opt (cop o' y2 w2)) λz2=>ok (.d z2) else ok (.d z)
theorem zsB{X:Cx}{o o':Co}{f g k:IT.Env->M R}{σ:St}{H:Hp}{Q:VK}(q:tE X.K (chnM o o' f g k) σ H Q):
  zmG (λv u H Q=>OpIQ X.K (mD (cop o)) v u H Q) (λv u H Q=>OpIQ X.K (mD (cop o')) v u H Q) (tE X.K f) (tE X.K g) (tE X.K k) σ H Q:=by
 obtain⟨μ,h,env,R0,re,r,h',e,kq⟩:=q;simp only[chnM,zab,zar] at e;obtain⟨x,h1,e1,y,h2,e2,x1,h3,e3,y1,h4,e4,z,h5,⟨e5,rfl⟩,t,h6,⟨e6,rfl⟩,e7⟩:=e;obtain⟨t',rfl⟩:=zjV e5;simp only[tru,Z5] at e6;subst e6
 refine⟨μ,h,env,R0,re,x,h1,e1,λμ1 H1 v s1 R1 q1=>⟨μ1,h1,env,R1,re.stp s1 R0,y,h2,e2,λμ2 H2 u s2 R2 q2=>⟨μ2,h2,x,y,R2,q1.stp s2 R1,q2,.d (.bl t'),_,by simp only[mD,zab,zar,zac];exact⟨x1,h3,e3,y1,_,e4,_,_,⟨e5,rfl⟩,rfl,rfl⟩,λμ3 H3 w s3 R3 q3=>?_⟩⟩⟩
 simp only[RepR,RepD] at q3;refine⟨t',q3,?_⟩
 cases t' with
 |false=>simp only[Zz,if_false,zac] at e7⊢;obtain⟨rfl,rfl⟩:=e7;exact kq μ3 H3 _ ((s1.trans s2).trans s3) R3 (by simp only[RepR,RepD])
 |true=>
  simp only[if_true,zab,zar,zac] at e7⊢;obtain⟨w1,h7,e8,y2,h8,e9,w2,h9,e10,z2,h10,⟨e11,rfl⟩,rfl,rfl⟩:=e7
  exact⟨μ3,_,env,R3,re.stp ((s1.trans s2).trans s3) R0,w1,h7,e8,λμ4 H4 v4 s4 R4 q4=>⟨μ4,h7,y,w1,R4,(q2.stp s3 R2).stp s4 R3,q4,_,_,by simp only[mD,zab,zar,zac];exact⟨y2,h8,e9,w2,_,e10,_,_,⟨e11,rfl⟩,rfl,rfl⟩,λμ5 H5 v5 s5 R5 q5=>kq μ5 H5 v5 ((((s1.trans s2).trans s3).trans s4).trans s5) R5 q5⟩⟩
section
variable {X:Cx}{o o':Co}{f g k:IT.Env->M R}{a b c:Expr}{pos:Pos}{op op':CmpOp}
theorem zt0(ho:OpI X (Zs op) (mD (cop o)))(ho':OpI X (Zs op') (mD (cop o')))(ha:IE X a f)(hb:IE X b g)(hc:IE X c k)(hm:lastMarks [op,op'] [b,c]=false):IE X (.Compare a [op,op'] [b,c] pos) (chnM o o' f g k):=PE.imp (zof ho ho' ha hb hc hm) λσ H Q q=>zsB q
theorem zsL(ho:OpI X (Zs op) (mD (cop o)))(ho':OpI X (Zs op') (mD (cop o')))(ha:IE X a f)(hb:IE X b g)(hc:IE X c k)(hm:lastMarks [op,op'] [b,c]=false):
  IT' X (.Compare a [op,op'] [b,c] pos) (λσ=>bnd (chnM o o' f g k σ) λr=>bnd (rd r) λd=>opt (tru d)):=by
 refine PT.imp (zox ho ho' ha hb hc hm) λσ H Q q0=>?_;obtain⟨μ,h,env,R0,re,t,h',e,kq⟩:=q0;simp only[zab,zar] at e;obtain⟨r,h1,e1,d,h4,e4,e5,rfl⟩:=e
 have hb:∃t,r=.d (.bl t):=by
  simp only[chnM,zab,zar] at e1;obtain⟨x,h1,e1,y,h2,e2,x1,h3,e3,y1,h4,e4,z,h5,⟨e5,rfl⟩,t,h6,⟨e6,rfl⟩,e7⟩:=e1
  cases t with|false=>simp only[Zz,if_false,zac] at e7;obtain⟨rfl,_⟩:=e7;obtain⟨t',rfl⟩:=zjV e5;exact⟨t',rfl⟩|true=>simp only[if_true,zab,zar,zac] at e7;obtain⟨w1,h7,e8,y2,h8,e9,w2,h9,e10,z2,h10,⟨e11,rfl⟩,rfl,_⟩:=e7;obtain⟨t',rfl⟩:=zjV e11;exact⟨t',rfl⟩
 obtain⟨t',rfl⟩:=hb;simp only[rd,zac] at e4;obtain⟨rfl,rfl⟩:=e4;simp only[tru,Z5] at e5;subst e5;refine zsB ⟨μ,h,env,R0,re,.d (.bl t'),_,e1,λμ1 H1 v s1 R1 q1=>?_⟩;simp only[RepR,RepD] at q1;subst q1;exact⟨t',rfl,kq μ1 H1 t' s1 R1 rfl⟩
end
theorem zk5(h:zfb e=true):∀whole,isTrue e env whole=(do let v<-whole;Xq e.pos;holding [v] (truthy v)):=by
 intro whole
 cases e with
 |UnaryOp op x p=>cases op<;>first | rfl | (first | exact noT h | exact noF h)
 |BoolOp _ _ _=>first | exact noT h | exact noF h
 |IfExp _ _ _ _=>first | exact noT h | exact noF h
 |Compare _ _ _ _=>first | exact noT h | exact noF h
 |_=>rfl
theorem zjl(h:zqE o=true):YQ o name env (eval o env)=eval o env:=by
 unfold YQ
 split
 ·cases h
 ·rfl
theorem zfQ(h:zfK o=true):YQ o name env (eval o env)=eval o env:=by cases o<;>first | rfl | (first | exact noT h | exact noF h)
theorem zeW(h:zes e=false):zem e:=by
 intro o i
 cases e<;>first | rfl | (first | exact noT h | exact noF h)
theorem zfP(h:zhR e=false):∀x,YE e env x=pure x:=by
 intro x
 cases e<;>first | rfl | (first | exact noT h | exact noF h)
theorem zhf(h:zhR e=false):W3 op e=false:=by cases e<;>first | rfl | (first | exact noT h | exact noF h)
theorem zgD(h:zew v=false):W5 [t] v l env=pure false:=by cases v<;>first | rfl | (first | exact noT h | exact noF h)
theorem zpm(h:zew v=false):Yk v none l env=pure false:=by cases v<;>first | rfl | (first | exact noT h | exact noF h)
theorem zcu(h:(zd4 t&&zd4 v)=false):W4 [t] v env=pure none:=by
 cases t with
 |Tuple a b c=>cases v<;>first | rfl | (first | exact noT h | exact noF h)
 |List a b=>cases v<;>first | rfl | (first | exact noT h | exact noF h)
 |_=>rfl
theorem zfu(h:zaq t=true):(Zk [t] env).map (·.2)=[assign t env]:=by cases t<;>first | rfl | (first | exact noT h | exact noF h)
theorem zeP(h:zaq t=true):Zk (t::ts) env=(false,assign t env)::Zk ts env:=by cases t<;>first | rfl | (first | exact noT h | exact noF h)
theorem zjw:∀{ts:List Expr},(∀e∈ts,zaq e=true)->(Zk ts env).length=ts.length/\(Zk ts env).findIdx? (·.1)=none
 | [],_=>⟨rfl,rfl⟩
 |t::ts,h=>by obtain⟨h1,h2⟩:=zjw (env:=env) (ts:=ts) λx hx=>h x (by simp[hx]);rw[zeP (h t (by simp))];refine⟨by simp[h1],?_⟩;rw[List.findIdx?_cons];simp[h2]
theorem zmk(h:zes i=false)(v:Value):assign (.Subscript o i p) env v=(do let ov<-holding [v] (eval o env);let iv<-holding [v,ov] (eval i env);Xq p;holding [v,ov,iv] (setItem ov iv v);release [v,ov,iv] []):=by cases i<;>first | rfl | (first | exact noT h | exact noF h)
theorem zsw(h:conB d c=true):IE X (.Constant c k pos) (λ_=>ok (.d d)):=by
 cases d with
 |non=>cases c<;>first | (exact noT h) | exact zii zsR (by intro _ _;simp only[RepD])
 |bl b=>
  cases c with|bool c=>obtain rfl:=Z3 h;exact zii zu8 (by intro _ _;simp only[RepD])|_=>exact noT h
 |int b=>
  cases c with|int c=>obtain rfl:=Z3 h;exact zii zpN (by intro _ _;simp only[RepD])|_=>exact noT h
 |str b=>
  cases c with|str c=>obtain rfl:=Z3 h;exact zii zj7 (by intro _ _;simp only[RepD])|_=>exact noT h
 |_=>cases c<;>exact noT h
theorem zjs:∀{ts:List Tg} {es:List Expr},chkTgs C ts es=true->(∀e∈es,zaq e=true)/\es.length=ts.length
 | [],[],_=>⟨by simp,rfl⟩| [],_::_,h=>noT h|_::_,[],h=>noT h
 |t::ts,e::es,h=>by
  change ((zaq _&&zeJ _ _ _)&&chkTgs _ _ _)=true at h;simp only[Z8] at h;obtain⟨h1,h2⟩:=zjs h.2;refine⟨λx hx=>?_,by simp[h2]⟩
  rcases ZQ.mp hx with rfl | hx
  ·exact h.1.1
  ·exact h1 x hx
mutual
theorem okTg{n:Nat}(G:Good Γ n C X):∀(t:Tg) (e:Expr),zeJ C t e=true->PG X e (tG X.K t)
 | .name i,e,h=>by
  cases e with
  |Name x pos=>
   change (_&&locB C _)=true at h;simp only[Z8] at h;obtain⟨h1,h2⟩:=zkf G h.2
   exact zse G.nd (by rw[G.N];exact Z3 h.1) h1 h2
  |_=>exact noT h
 | .tup ts,e,h=>by
  cases e with|Tuple xs k pos=>have h:chkTgs C ts xs=true:=h;obtain⟨h1,h2⟩:=zjs h;obtain⟨h3,h4⟩:=zjw (env:=X.env) h1;exact zuz G.calm (okTgs G ts xs h) h2 h3 h4|_=>exact noT h
theorem okTgs(G:Good Γ n C X):∀(ts:List Tg) (es:List Expr),chkTgs C ts es=true->PGs X es (tGs X.K ts)
 | [],es,h=>by
  cases es with|nil=>exact zrK|cons _ _=>exact noT h
 | t::ts,es,h=>by
  cases es with
  |nil=>exact noT h
  |cons e es=>
   change ((zaq _&&zeJ _ _ _)&&chkTgs _ _ _)=true at h;simp only[Z8] at h
   exact zoo (okTg G t e h.1.2) (okTgs G ts es h.2) (by rw[zeP h.1.1];rfl)
end
theorem zni{n:Nat}(G:Good Γ n C X)(t:Tg)(e:Expr)(h:zeJ C t e=true):PG X e (tGI X.K t):=by
 cases t with
 |name i=>exact zoZ (okTg G _ _ h)
 | tup ts=>
  by_cases hl:ts.length=2
  ·match ts,hl,h with
   | [a,b],_,h=>
    cases e with
    | Tuple xs k pos=>
     have h:chkTgs C [a,b] xs=true:=h
     match xs,h with
     | [x,y],h=>
      obtain⟨h1,h2⟩:=zjs h;obtain⟨h3,h4⟩:=zjw (env:=X.env) h1;have hs:=okTgs G [a,b] [x,y] h;change (((zaq _&&zeJ _ _ _)&&((zaq _&&zeJ _ _ _)&&_))=true) at h;simp only[Z8] at h
      exact zr7 G.calm hs (zvz (okTg G a x h.1.2) (okTg G b y h.2.1.2) (by rw[zeP h.1.1];rfl) (by rw[zeP h.2.1.1];rfl)) h3 h4
     | [],h=>exact noT h| [_],h=>exact noT (andT h).2|_::_::_::_,h=>exact noT (andT (andT h).2).2
    |_=>exact noT h
  ·exact zqx hl (okTg G _ _ h)
theorem zhL(e:zbp r h=some (w,h')):WlOk w h':=by
 (delta zbp at e;simp only[zab] at e)
 obtain⟨o,h1,e1,e2⟩:=e;obtain⟨rfl,ho⟩:=zb5 e1
 cases o with
 |some ls=>obtain⟨l,rfl,ho⟩:=ho;simp only[zac] at e2;obtain⟨rfl,rfl⟩:=e2;intro i hi;cases hi;exact⟨_,ho,λc fs z=>by cases z⟩
 | none=>
  simp only[zab] at e2;obtain⟨d,h2,e3,e4⟩:=e2
  cases r with
  |loc l=>
   obtain⟨o,ho,il,rfl,rfl⟩:=zeC e3
   (delta wkOf items at e4;(try dsimp only at e4);simp only[zac] at e4)
   obtain⟨rfl,rfl⟩:=e4;intro i hi;cases hi
   exact⟨o,ho,λc fs z=>by rw[z] at il;cases il⟩
  | d x=>
   have:w.l=none:=by
    (delta wkOf at e4;(try dsimp only at e4))
    cases hi:items d with
    | none=>
     rw[hi] at e4;simp only at e4
     split at e4
     ·split at e4
      ·obtain⟨rfl,rfl⟩:=zac.mp e4;rfl
      ·cases e4
     ·cases e4
    |some xs=>rw[hi] at e4;obtain⟨rfl,rfl⟩:=zac.mp e4;rfl
   intro i hi;rw[this] at hi;cases hi
theorem zha(e:evI Γ it σ h=some (w,h')):WlOk w h':=by
 cases it with
 |seq a=>simp only[evI,zab] at e;obtain⟨r,h1,e1,e2⟩:=e;exact zhL e2
 | enu a=>
  simp only[evI,zab] at e;obtain⟨r,h1,e1,e2⟩:=e;unfold zlC at e2
  split at e2
  ·simp only[zab] at e2
   obtain⟨w0,h2,e3,e4⟩:=e2
   have:=zhL e3
   cases en:zav 0 w0.xs with|none=>rw[en] at e4;cases e4|some l=>rw[en] at e4;obtain⟨rfl,rfl⟩:=zac.mp e4;exact this
  ·cases e2
 | rng a=>
  simp only[evI,zab] at e;obtain⟨r,h1,e1,e2⟩:=e
  (delta zgY at e2;(try dsimp only at e2))
  intro i el
  split at e2
  ·split at e2
   ·obtain⟨rfl,rfl⟩:=zac.mp e2;cases el
   ·cases e2
  ·cases e2
theorem ztT{Γ:Calls}{n:Nat}{C:Cst}{X:Cx}{x:Str}(G:Good Γ n C X)(h:lclB C x=true):X.env.scope.names.lookup x=some .local:=by
 unfold lclB at h;rw[G.names]
 split at h
 ·assumption
 ·cases h
theorem zpc{C:Cst}{u:zeG}{nn:Str}:∀{ys:List (Str×Bool)} {ts:List Expr},isxB C u nn ys ts=true->ys≠[]->u.isx≠[]
 | [],_,_,n=>absurd rfl n
 |p::r,ts,h,_=>by
  intro z;replace h:=zaD h;obtain⟨e,es,h⟩:=h;replace h:=ofCN h;obtain⟨f,_,as,_,h⟩:=h;replace h:=zaD h;obtain⟨v,as',h⟩:=h;replace h:=zaX h;obtain⟨w,h⟩:=h;replace h:=ofNm h;obtain⟨x1,_,h⟩:=h;replace h:=ofNm h;obtain⟨y1,_,h⟩:=h;simp only[Z8] at h
  have:=h.1.2
  rw[z] at this;cases this
theorem zpZ{Γ:Calls}{n:Nat}{C:Cst}{X:Cx}{u:zeG}{nn:Str}{D:Addr}{j:Nat}(G:Good Γ n C X)(io:∀p∈u.isx,zou X.K X.mg D p.1 p.2):∀{ys:List (Str×Bool)} {ts:List Expr},isxB C u nn ys ts=true->zgb X D nn j ys ts| [],_,h=>by replace h:=zga h;obtain⟨_⟩:=h;exact .nil| (y,b)::r,ts,h=>by replace h:=zaD h;obtain⟨e,es,h⟩:=h;replace h:=ofCN h;obtain⟨f,_,as,_,h⟩:=h;replace h:=zaD h;obtain⟨v,as',h⟩:=h;replace h:=zaX h;obtain⟨w,h⟩:=h;replace h:=ofNm h;obtain⟨x1,_,h⟩:=h;replace h:=ofNm h;obtain⟨y1,_,h⟩:=h;simp only[Z8] at h;obtain⟨⟨⟨⟨⟨⟨⟨h1,h2⟩,h3⟩,h4⟩,h5⟩,h6⟩,h7⟩,h8⟩:=h;have q1:=Z3 h1;have q3:=Z3 h3;have q4:y1=y:=Z3 h4;subst q1 q3 q4;exact .cons (io _ (Ys.mp h7)) (zds G h2) (G.blt _ (by decide)) (zds G h5) (za2 h6).1 (zpZ G io h8)
end IT
namespace IT
open PySem PySem.Spec L2
section
variable {Γ:Calls}{n:Nat}{C:Cst}{X:Cx}
theorem zh6(G:Good Γ n C X)(sc:Scope):(relabel sc X.env).names=relN C.names sc.names:=by
 unfold relabel relN;show sc.names.map _=sc.names.map _;refine XG λp _=>?_;obtain⟨m,k⟩:=p
 have e1:X.env.kindOf m=C.names.lookup m:=by show X.env.scope.names.lookup m=_;rw[G.names]
 simp only[G.kind,e1];have e2:(ScopeKind.function==ScopeKind.function)=true:=rfl;rw[e2,Yv]
theorem Good.blk(G:Good Γ n C X){os:List Nat}(h:zk8 C sc (blkC C sc own) os=true)(cl:List (Str×Addr))(pins:List (Addr×Obj))(s₂:Shared)(H₂:Hp)(Cc:Addr)(fp:List Addr):
  Good Γ n (blkC C sc own) (blk X (blkC C sc own).N s₂ H₂ (Y3 sc cl Cc X.env) fp pins):=by
 unfold zk8 at h;simp only[Z8] at h;obtain⟨⟨⟨⟨⟨⟨hk,_⟩,_⟩,_⟩,_⟩,_⟩,hnd⟩:=h
 refine⟨G.nox,G.calm,G.room,G.room1,?_,rfl,of_decide_eq_true hnd,zh6 G sc,λz=>absurd z (by show ¬(false=true);decide),λf x e=>⟨(G.funs f x e).ex,(G.funs f x e).fill,(G.funs f x e).len⟩,G.blt,G.glob,λi hi=>let ⟨np,z⟩:=G.makes i hi;⟨np,z.ex,z.len⟩,λi hi p hp=>let ⟨np,z⟩:=G.meths i hi p hp;⟨np,z.ex,z.len⟩,G.attrs,λz=>absurd z (by show ¬(false=true);decide),let ⟨cv,Ex⟩:=G.excs;⟨cv,λc x e=>(by cases (show([]:List zeG)[c]?=some x from e)),λf p e=>⟨(Ex.funs f p e).ex,(Ex.funs f p e).fill,(Ex.funs f p e).len,(Ex.funs f p e).cls⟩⟩⟩
 show(relabel sc X.env).kind=_
 have:sc.kind=.function:=by cases e:sc.kind<;>rw[e] at hk<;>first | rfl | (exact absurd hk (by decide))
 exact this
theorem zjA(G:Good Γ n C X){os:List Nat}(h:zk8 C sc (blkC C sc own) os=true):zks X sc (blkC C sc own).N os:=by
 unfold zk8 at h;simp only[Z8] at h;obtain⟨⟨⟨⟨⟨⟨hk,hc⟩,hn⟩,hf⟩,hs⟩,hl⟩,hnd⟩:=h
 have ke:∀m,X.env.kindOf m=C.names.lookup m:=λm=>by show X.env.scope.names.lookup m=_;rw[G.names]
 refine⟨?_,?_,?_,?_,?_,?_⟩
 ·cases e:sc.kind<;>rw[e] at hk<;>first | rfl | (exact absurd hk (by decide))
 ·intro y hy z
  have:=Ye.mp hc y hy
  rw[z] at this;exact absurd this (by decide)
 ·intro x hx z
  have:=Ye.mp hn x hx
  rw[z] at this
  have e2:(Yh.local != Yh.local)=false:=by decide
  rw[e2,Ww] at this;exact Z3 this
 ·intro x hx z
  have:=Ye.mp hf x hx
  rw[z] at this
  have e2:(WZ != WZ)=false:=by decide
  rw[e2,Ww,YK] at this;rw[ke]
  rcases this with q | q
  ·exact .inl (Z3 q)
  ·exact .inr (Z3 q)
 ·intro i x e v
  have hi:i<(blkC C sc own).N.length:=(Z9.mp e).1
  have:=Ye.mp hs i (by simpa using hi)
  rw[e] at this;simp only[ztX] at this;unfold Vis at v;rw[zh6 G sc] at v⊢;have en:(blkC C sc own).names=relN C.names sc.names:=rfl;rw[en] at this;rw[G.N,ke]
  rcases v with v | v | v
  ·rw [v] at this
   exact .inl (by simpa using this)
  ·rw [v] at this
   simp only[YK,Z8] at this
   rcases this with q|⟨q,q2⟩
   ·exact .inl (by simpa using q)
   ·refine .inr ⟨Z3 q,?_,by rw[v];decide⟩
    rcases q2 with q2 | q2
    ·exact .inl (Z3 q2)
    ·exact .inr (Z3 q2)
  ·rw [v] at this
   simp only[YK,Z8] at this
   rcases this with q|⟨q,q2⟩
   ·exact .inl (by simpa using q)
   ·refine .inr ⟨Z3 q,?_,by rw[v];decide⟩
    rcases q2 with q2 | q2
    ·exact .inl (Z3 q2)
    ·exact .inr (Z3 q2)
 ·rw [G.N]
  exact Z3 hl
end
def zbM(Γ:Calls)(X:Cx)(tg:Tg)(it:I)(cs:List T)(el:E)(e:Expr):Prop:=
 ∃ elt gt gi gifs sc pos N',e=.ListComp elt [⟨gt,gi,gifs,0⟩] sc pos/\zks X sc N' tg.slots/\PI X gt gi (tI X.K (evI Γ it)) ∧
  (∀cl pins s₂ H₂ C fp,PG (blk X N' s₂ H₂ (Y3 sc cl C X.env) fp pins) gt (tGI X.K tg)/\PTs (blk X N' s₂ H₂ (Y3 sc cl C X.env) fp pins) gifs (tTv X.K (tvs Γ cs))/\PE (blk X N' s₂ H₂ (Y3 sc cl C X.env) fp pins) elt (tE X.K (ev Γ el))) ∧
  ∀x,YE gi X.env x=pure x
theorem zbM.read(q:tLs K (evL Γ (.comp tg it cs el)) σ H Q):ziT (tI K (evI Γ it)) tg.slots (tGI K tg) (tTv K (tvs Γ cs)) (tE K (ev Γ el)) σ H Q:=by
 have e:evL Γ (.comp tg it cs el)=λσ=>bnd (evI Γ it σ) λw=>zaO w.l (zs7 tg (tvs Γ cs) (ev Γ el) σ) w.xs:=by
  funext σ
  rfl
 rw[e] at q;exact zmU (λσ h w h' e=>zha e) q
theorem zbM.il(hx:X.xe=λ_ _=>False)(hc:X.calm=true)(h:zbM Γ X tg it cs el e):IL X e (evL Γ (.comp tg it cs el)):=by obtain⟨elt,gt,gi,gifs,sc,pos,N',rfl,ok,hi,hB,hs⟩:=h;exact PE.imp (zm3 hx hc ok hi hB hs) λσ H Q q=>zbM.read q
theorem zbM.readO{X:Cx}(q0:tE X.K (ev Γ (.lstO tg it cs el)) σ H Q):ziT (tI X.K (evI Γ it)) tg.slots (tGI X.K tg) (tTv X.K (tvs Γ cs)) (tE X.K (ev Γ el)) σ H Q:=by refine zgm (zu7 X.K) (λσ h w h' e=>zha e) ?_;obtain⟨μ,h,env,R0,re,r,h',e,k⟩:=q0;replace e:(bnd (evI Γ it env) λw=>bnd (zaO w.l (λx=>bnd (zax tg x (clr tg.slots env)) λσ'=>bnd (tvs Γ cs σ') λt=>if t then bnd (ev Γ el σ') λr=>bnd (zbQ r) λd=>IT.ok (some d) else IT.ok none) w.xs) λls=>allocO ls) h=some (r,h'):=e;simp only[zab,allocO,Z5,ZZ] at e;obtain⟨w,h1,e1,ls,h2,e2,rfl,rfl⟩:=e;refine⟨μ,h,env,R0,re,ls,h2,zab.mpr ⟨w,h1,e1,e2⟩,λμ1 H1 a vs s1 R1 z ha=>?_⟩;have st:Stp μ1 h2 H1 (μ1++[a]) (h2++[.ols ls]) (upd H1 a (.lst vs)):=Stp.allocO R1 ha;refine k (μ1++[a]) _ (.ref a) (s1.trans st) (R1.allocO ha ⟨vs,zak,L2.Paired.mapP z λl v ⟨b,eb,ev⟩=>⟨b,st.pre l b eb,ev⟩⟩) ⟨a,?_,rfl⟩;rw[<-R1.len];simp
theorem zbM.io(hx:X.xe=λ_ _=>False)(hc:X.calm=true)(h:zbM Γ X tg it cs el e):IE X e (ev Γ (.lstO tg it cs el)):=by obtain⟨elt,gt,gi,gifs,sc,pos,N',rfl,ok,hi,hB,hs⟩:=h;exact PE.imp (zm3 hx hc ok hi hB hs) λσ H Q q=>zbM.readO q
theorem tE.post(q:tE K f σ H Q)(i:∀v H,Q v H->Q' v H):tE K f σ H Q':=by obtain⟨μ,h,env,R0,re,r,h',e,k⟩:=q;exact⟨μ,h,env,R0,re,r,h',e,λμ' H' v s1 R1 q1=>i _ _ (k μ' H' v s1 R1 q1)⟩
theorem zow{m:Bool}(q:tE K (λσ=>bnd (fl σ) λxs=>if m then alloc xs else ok (.d (.lst xs))) σ H Q):tLs K fl σ H Q:=by
 obtain⟨μ,h,env,R0,re,r,h',e,k⟩:=q;simp only[zab] at e;obtain⟨xs,h1,e1,e2⟩:=e;refine⟨μ,h,env,R0,re,xs,h1,e1,λμ1 H1 a vs s1 R1 q1 ha=>?_⟩
 cases m with
 |true=>simp only[if_true,alloc,Z5,ZZ] at e2;obtain⟨rfl,rfl⟩:=e2;refine k (μ1++[a]) _ (.ref a) (s1.trans (Stp.alloc R1 ha)) (R1.alloc ha q1) ⟨a,?_,rfl⟩;rw[<-R1.len];simp
 |false=>
  simp only[Zz,if_false] at e2;obtain⟨rfl,rfl⟩:=zac.mp e2;have s2:Stp μ1 h1 H1 μ1 h1 (upd H1 a (.lst vs)):=Stp.fresh ha;refine k μ1 _ (.ref a) (s1.trans s2) (R1.fresh ha) ?_;simp only[RepR,RepD];refine⟨a,vs,rfl,.inl ⟨λl=>?_,.inl zak⟩,RepDs.stp s2 R1 q1⟩;obtain⟨ws,z,_⟩:=R1.liveAt l
  rw[ha] at z;cases z
theorem tLs.imp(q:tLs K fl σ H Q)(i:∀v H,Q v H->Q' v H):tLs K fl σ H Q':=by obtain⟨μ,h,env,R0,re,xs,h',e,k⟩:=q;exact⟨μ,h,env,R0,re,xs,h',e,λμ' H' a vs s1 R1 q1 ha=>i _ _ (k μ' H' a vs s1 R1 q1 ha)⟩
theorem zgz(q:tG K (.name i) v σ H Q):zmW i v σ H Q:=by obtain⟨μ,h,env,r,env',R0,re,qr,e,k⟩:=q;simp only[za3,zac] at e;obtain⟨rfl,_⟩:=e;exact k _ (re.set i qr)
theorem zkk{D:Ends}(q:tS K (λσ=>bnd (f σ) λr=>bnd (za3 t r σ) λσ'=>ok (.nx,σ')) D σ H):tE K f σ H λx H1=>tG K t x σ H1 D.nx:=by
 obtain⟨μ,h,env,R0,re,fl,env',h',e,k⟩:=q;simp only[zab,zac,ZZ] at e;obtain⟨r,h1,e1,env1,h2,e2,⟨rfl,rfl⟩,rfl⟩:=e
 have:=zbA _ _ _ _ _ _ e2
 subst this;exact⟨μ,h,env,R0,re,r,_,e1,λμ1 H1 v s1 R1 q1=>⟨μ1,_,env,r,env1,R1,re.stp s1 R0,q1,e2,λσ' re'=>k μ1 H1 σ' s1 R1 re'⟩⟩
def zp1:Expr->Bool|.BoolOp _ _ _=>true|_=>false
theorem zvh(G:Good Γ n C X)(ho:biOn b=true)(hx:x=biS b)(hg:Gl X x)(ha:IA X (e::es) fs)
  (he:ZY (e::es) X.env=(false,eval e X.env)::ZY es X.env) (hpl:(backTo pos (ZY es X.env)).any (·.1)=false):IE X (.Call (.Name x p) (e::es) [] pos) (λσ=>bnd (fs σ) λrs=>bnd (rds rs) λds=>bnd (opt (biD b ds)) λz=>ok (.d z)):=by
 subst hx
 cases b with
 |len=>exact PE.imp (zhr znu hg (G.blt _ (by decide)) PySem.boot_len ha (by decide) (by decide) he hpl) λσ H Q q=>zju q
 |tuple=>exact PE.imp (zdR zjc hg (G.blt _ (by decide)) PyProof.Rows.boot_tuple ha (by decide) (by decide) he hpl) λσ H Q q=>zju q
 |int=>exact PE.imp (zdR znh hg (G.blt _ (by decide)) PyProof.Rows.boot_int ha (by decide) (by decide) he hpl) λσ H Q q=>zju q
theorem zk2{a:E}{C:Cst}{e:Expr}(h:chkT (.val a) C e=true):chkE a C e=true:=by change (_&&_)=true at h;rw[Z8] at h;exact h.1
theorem ziL{Γ:Calls}{a:E}{C:Cst}{e:Expr}{X:Cx}(k:IE X e (ev Γ a))(h:chkT (.val a) C e=true)(hn:∀l ops rs pos,e≠.Compare l ops rs pos):IT' X e (tv Γ (.val a))/\(zp1 e=true->PW X e (tTv X.K (tv Γ (.val a)))):=by
 change (_&&(_||_))=true at h;rw[Z8,YK] at h
 have hp:zfb e=true:=by
  rcases h.2 with z | z
  ·exact z
  ·cases e<;>first | (exact noT z) | exact absurd rfl (hn _ _ _ _)
 refine⟨ztu k (zk5 hp),λz=>?_⟩
 cases e<;>first | (exact noT z) | (first | exact noT hp | exact noF hp)
theorem zm7{vs:List Expr}{env:YI}{cpos:Pos}(st:∀y∈vs,zaq y=true)(hl:vs.length<20):((backTo cpos (ZY vs env)).all (λx=>!x.1)&&(XT cpos (YG [] env)).all (λx=>x.1.isSome)&&decide (vs.length+([]:List X7).length+(if([]:List X7).isEmpty then 0 else 1)<30))=true:=by rw[zkt st];simp only[XA,List.isEmpty_nil,if_true,Zn,Z8];exact⟨rfl,decide_eq_true (by omega)⟩
mutual
theorem okE{Γ:Calls}{n:Nat}:∀(a:E) (C:Cst) (e:Expr) (X:Cx),chkE a C e=true->Good Γ n C X->IE X e (ev Γ a)
 |.con d,C,e,X,h,G=>by replace h:=ofCo h;obtain⟨c,k,pos,h⟩:=h;exact zsw (d:=d) h
 |.var i,C,e,X,h,G=>by
  replace h:=ofNm h;obtain⟨x,pos,h⟩:=h;simp only[Z8] at h;obtain⟨h1,h2⟩:=za2 h.2
  exact zua (zpQ (by rw[G.N];exact Z3 h.1.1) (zuo G h.1.2) h1 h2)
 |.bin o a b,C,e,X,h,G=>by replace h:=ofBi h;obtain⟨l,op,r,pos,h⟩:=h;simp only[Z8] at h;exact ztC (m:=mD (bop o)) (OpD.opI (opB h.1.1)) (okE a C l X h.1.2 G) (okE b C r X h.2 G)|.neg a,C,e,X,h,G=>by replace h:=ofUn h;obtain⟨z2,x,_,h⟩:=h;replace h:=ofUS h;obtain⟨h⟩:=h;exact zt7 (okE a C _ X h G)|.chn o o' a b c,C,e,X,h,G=>by replace h:=ofCm h;obtain⟨l,z2,z5,_,h⟩:=h;replace h:=zaD h;obtain⟨op,z3,h⟩:=h;replace h:=zaX h;obtain⟨op',h⟩:=h;replace h:=zaD h;obtain⟨r,z6,h⟩:=h;replace h:=zaX h;obtain⟨r',h⟩:=h;simp only[Z8,Zy] at h;exact zt0 (OpD.opI (coBe G.room.units h.1.1.1.1.1.1)) (OpD.opI (coBe G.room.units h.1.1.1.1.1.2)) (okE a C _ X h.1.1.1.1.2 G) (okE b C _ X h.1.1.1.2 G) (okE c C _ X h.1.1.2 G) (zhf h.2)|.cmp o a b,C,e,X,h,G=>by replace h:=ofCm h;obtain⟨l,z2,z4,_,h⟩:=h;replace h:=zaX h;obtain⟨op,h⟩:=h;replace h:=zaX h;obtain⟨r,h⟩:=h;simp only[Z8,Zy] at h;exact zs4 (m:=mD (cop o)) (OpD.opI (coBe G.room.units h.1.1.1)) (okE a C _ X h.1.1.2 G) (okE b C _ X h.1.2 G) (zhf h.2)
 |.and a b,C,e,X,h,G=>by
  replace h:=ofBo h;obtain⟨z2,z3,pos,h⟩:=h;replace h:=ofAn h;obtain⟨h⟩:=h;replace h:=zaD h;obtain⟨v,z4,h⟩:=h;replace h:=zaD h;obtain⟨w,rest,h⟩:=h;simp only[Z8] at h
  cases rest with|nil=>exact zqo (okE a C v X h.1 G) (zpI (okE b C w X h.2 G))|cons y ys=>exact zqo (okE a C v X h.1 G) (okE b C _ X h.2 G)
 |.or a b,C,e,X,h,G=>by
  replace h:=ofBo h;obtain⟨z2,z3,pos,h⟩:=h;replace h:=ofOr h;obtain⟨h⟩:=h;replace h:=zaD h;obtain⟨v,z4,h⟩:=h;replace h:=zaD h;obtain⟨w,rest,h⟩:=h;simp only[Z8] at h
  cases rest with|nil=>exact zti (okE a C v X h.1 G) (zpI (okE b C w X h.2 G))|cons y ys=>exact zti (okE a C v X h.1 G) (okE b C _ X h.2 G)
 |.not a,C,e,X,h,G=>by replace h:=ofUn h;obtain⟨z2,x,_,h⟩:=h;replace h:=ofNo h;obtain⟨h⟩:=h;exact zsp (okE a C _ X h G)|.ife c a b,C,e,X,h,G=>by replace h:=ofIf h;obtain⟨t,x,y,_,h⟩:=h;simp only[Z8] at h;exact zuf (okT c C _ X h.1.1 G).1 (okE a C _ X h.1.2 G) (okE b C _ X h.2 G)
 |.tup es,C,e,X,h,G=>by
  replace h:=ofTu h;obtain⟨xs,_,_,h⟩:=h;simp only[Z8] at h
  exact ztn (okEs es C _ X h.1 G) (of_decide_eq_true h.2) (λσ h0 rs h' e=>by rw[zdy e];exact zbn h.1)
 |.lst m l,C,e,X,h,G=>by
  cases l with|disp es=>exact zhU m (okL (.disp es) C e X h G)|comp tg it cs el=>exact zhU m (zbM.il G.nox G.calm (okL (.comp tg it cs el) C e X h G))|of a=>exact zhU m (okL (.of a) C e X h G)|cat a b=>exact zhU m (okL (.cat a b) C e X h G)|rev a=>exact zhU m (okL (.rev a) C e X h G)
 |.idx a i,C,e,X,h,G=>by replace h:=ofSu h;obtain⟨x,y,_,h⟩:=h;simp only[Z8,Zy] at h;exact zs5 (okE a C _ X h.1.1 G) (okE i C _ X h.1.2 G) (zeW h.2)
 | .sli a lo hi,C,e,X,h,G=>by
  replace h:=ofSu h;obtain⟨x,z2,pos,h⟩:=h;replace h:=ofSl h;obtain⟨l,u,z3,p2,h⟩:=h;replace h:=zmM h;obtain⟨h⟩:=h;simp only[Z8] at h
  have non:∀{z:E},zeT z=true->PO X none (tO X.K (ev Γ z)):=by
   intro z hz;unfold zeT at hz
   split at hz
   ·exact zry
   ·cases hz
  have hl:PO X l (tO X.K (ev Γ lo)):=by
   cases l with|none=>exact non h.1.2|some y=>exact znr (okE lo C y X h.1.2 G)
  have hu:PO X u (tO X.K (ev Γ hi)):=by
   cases u with|none=>exact non h.2|some y=>exact znr (okE hi C y X h.2 G)
  exact zus (okE a C x X h.1.1 G) hl hu
 | .call f es,C,e,X,h,G=>by
  replace h:=ofCN h;obtain⟨x,p,z3,pos,h⟩:=h;replace h:=zaD h;obtain⟨v,vs,h⟩:=h;simp only[Z8] at h;have st:=zaL h.2
  cases hp:C.fns[f]? with
  |none=>rw[hp] at h;simp at h
  |some q=>
   rw[hp] at h;have hx:=Z3 h.1.1.1;subst hx
   exact zmS (G.funs f q hp) G.room (zds G h.1.1.2) (okEs es C _ X h.2 G) (λσ h0 rs h' e=>by rw[zdy e];exact zbn h.2) (za2 h.1.2).1 (zao (st v (by simp))) (zbx λy hy=>st y (by simp[hy]))
 |.bi b es,C,e,X,h,G=>by replace h:=ofCN h;obtain⟨x,p,z3,pos,h⟩:=h;replace h:=zaD h;obtain⟨v,vs,h⟩:=h;simp only[Z8] at h;have st:=zaL h.2;exact zvh G h.1.1.1 (Z3 h.1.1.2) (zds G h.1.2) (okEs es C _ X h.2 G) (zao (st v (by simp))) (zbx λy hy=>st y (by simp[hy]))
 | .me m o es,C,e,X,h,G=>by
  replace h:=ofCA h;obtain⟨ov,name,apos,vs,cpos,h⟩:=h
  cases vs with
  |cons v vs=>
   simp only[Z8] at h;obtain⟨⟨⟨⟨⟨⟨h0,h1⟩,h2⟩,h3⟩,h4⟩,h5⟩,h6⟩:=h;have st:=zaL h4;have h7:(v::vs).length<20:=of_decide_eq_true h6;have few:=zm7 (env:=X.env) (cpos:=cpos) st (by assumption)
   cases m with|append=>exact zma (okE o C ov X h3 G) (okEs es C _ X h4 G) (Z3 h1) (zfQ h2) few h5 (zao (st v (by simp))) (zbx λy hy=>st y (by simp[hy]))|extend=>simp[meOn] at h0|popAt=>simp[meOn] at h0|pop=>exact noT h0.1|clear=>exact noT h0.1
  | nil=>
   simp only[Z8] at h;obtain⟨⟨⟨⟨⟨h0,h1⟩,h2⟩,h3⟩,h4⟩,h5⟩:=h
   cases es with
   |cons _ _=>exact noT h4
   |nil=>
    cases m with|append=>exact noT h0.1|popAt=>exact noT h0.1|extend=>exact noT h0.1|pop=>simp[meOn] at h0|clear=>simp[meOn] at h0
 | .glo d,C,e,X,h,G=>by
  replace h:=ofNm h;obtain⟨x,pos,h⟩:=h;simp only[Z8] at h;obtain⟨⟨h1,h2⟩,h3⟩:=h
  cases hd:C.globs.lookup x with|none=>rw[hd] at h1;cases h1|some d'=>rw[hd] at h1;have e:=D.same_eq _ _ h1;subst e;obtain⟨u,v,e1,e2,e3⟩:=G.glob x d hd;exact zii (zmo (zds G h2) e1 e2 (za2 h3).1) e3
 | .lm m o a,C,e,X,h,G=>by
  replace h:=ofCA h;obtain⟨ov,name,apos,z3,cpos,h⟩:=h;replace h:=zaX h;obtain⟨v,h⟩:=h;simp only[Z8] at h;obtain⟨⟨⟨⟨⟨h1,h2⟩,h3⟩,h4⟩,h5⟩,h6⟩:=h
  have st:∀y∈[v],zaq y=true:=by intro y hy;simp at hy;rw[hy];exact h4
  have few:=zm7 (env:=X.env) (cpos:=cpos) st (by simp)
  by_cases hm:m=.countT
  ·subst hm
   exact ztY G.room.units (okE o C ov X h3 G) (okE a C v X h5 G) (Z3 h1) (zjl h2) few h6 (zao h4) rfl
  ·exact zvI G.room.units hm (okE o C ov X h3 G) (okE a C v X h5 G) (Z3 h1) (zjl h2) few h6 (zao h4) rfl
 |.dix a k,C,e,X,h,G=>by replace h:=ofSu h;obtain⟨z2,y,_,h⟩:=h;replace h:=ofCN h;obtain⟨x,_,z4,_,h⟩:=h;replace h:=zaX h;obtain⟨v,h⟩:=h;simp only[Z8,Zy] at h;obtain⟨⟨⟨⟨⟨h1,h2⟩,h3⟩,h4⟩,h5⟩,h6⟩:=h;have hx:=Z3 h1;subst hx;exact zut G.calm (zds G h2) (G.blt _ (by decide)) (okE a C _ X h4 G) (okE k C _ X h5 G) (zao h3) (zeW h6)|.rix o k,C,e,X,h,G=>by replace h:=ofSu h;obtain⟨x,y,_,h⟩:=h;replace h:=ofCo h;obtain⟨c,j,p,h⟩:=h;simp only[Z8] at h;have hc:=zje h.1;subst hc;exact zso (okE o C _ X h.2 G) (zeW rfl)|.rnew ks es,C,e,X,h,G=>by replace h:=ofDi h;obtain⟨keys,vals,pos,h⟩:=h;obtain⟨a1,a2,a3,a4⟩:=okPs es ks C keys vals X pos h G;exact zrX a1 a2 a3 a4|.fld o f,C,e,X,h,G=>by replace h:=ofAt h;obtain⟨ov,name,_,h⟩:=h;simp only[Z8] at h;obtain⟨⟨h1,h2⟩,h3⟩:=h;have hx:=Z3 h1;subst hx;exact ztp (okE o C _ X h3 G) (zjl h2)|.make c f es,C,e,X,h,G=>by replace h:=ofCN h;obtain⟨x,p,z3,pos,h⟩:=h;replace h:=zaD h;obtain⟨v,vs,h⟩:=h;simp only[Z8,Yd] at h;obtain⟨⟨⟨⟨h1,i,hi,h2,h2'⟩,h3⟩,h4⟩,h5⟩:=h;have hx:=Z3 h1;subst hx;have hn:=Z3 h2;have hf:=Z3 h2';obtain⟨np,M⟩:=G.makes i hi;rw[hn,hf] at M;have st:=zaL h5;exact zre M G.room1 (zds G h3) (okEs es C _ X h5 G) (za2 h4).1 (zao (st v (by simp))) (zbx λy hy=>st y (by simp[hy]))
 | .mc c m f o es,C,e,X,h,G=>by
  replace h:=ofCA h;obtain⟨ov,name,apos,vs,cpos,h⟩:=h
  cases vs with
  |cons v vs=>simp only[Z8,Yd] at h;obtain⟨⟨⟨⟨⟨⟨h1,i,hi,h2,h2'⟩,h3⟩,h4⟩,h5⟩,h6⟩,h7⟩:=h;have hx:=Z3 h1;subst hx;have hn:=Z3 h2;obtain⟨np,M⟩:=G.meths i hi _ (Ys.mp h2');rw[hn] at M;have st:=zaL h5;have h7:(v::vs).length<20:=of_decide_eq_true h7;have few:=zm7 (env:=X.env) (cpos:=cpos) st (by assumption);exact zvH M G.room (okE o C _ X h4 G) (okEs es C _ X h5 G) (zao (st v (by simp))) (zbx λy hy=>st y (by simp[hy])) (ziF (zfQ h3) few h6)
  |nil=>
   simp only[Z8,Yd] at h;obtain⟨⟨⟨⟨⟨h1,i,hi,h2,h2'⟩,h3⟩,h4⟩,h5⟩,h6⟩:=h;have hx:=Z3 h1;subst hx;have hn:=Z3 h2;obtain⟨np,M⟩:=G.meths i hi _ (Ys.mp h2');rw[hn] at M
   cases es with|cons _ _=>exact noT h5|nil=>exact ztq M G.room (okE o C _ X h4 G) (ziF (zfQ h3) (by rfl) h6)
 |.lstO tg it cs el,C,e,X,h,G=>by
  replace h:=ofLC h;obtain⟨elt,z2,sc,pos,h⟩:=h;replace h:=zaX h;obtain⟨g,h⟩:=h;obtain⟨gt,gi,gifs,ga⟩:=g;simp only[Z8,Zy] at h;obtain⟨⟨⟨⟨⟨⟨h1,h2⟩,h3⟩,h4,h4'⟩,h5⟩,h6⟩,h7⟩:=h
  have ea:ga=0:=by simpa using h1
  subst ea;refine zbM.io G.nox G.calm ⟨elt,gt,gi,gifs,sc,pos,(blkC C sc (zbu tg gt)).N,rfl,zjA G h3,okI it C gi X h5 G gt h4',λcl pins s₂ H₂ Cc fp=>?_,zfP h2⟩;have G':=G.blk h3 cl pins s₂ H₂ Cc fp;exact⟨zni G' tg gt h4,okTs cs _ gifs _ h6 G',okE el _ elt _ h7 G'⟩
 |.oix a i,C,e,X,h,G=>by replace h:=ofSu h;obtain⟨x,y,_,h⟩:=h;simp only[Z8,Zy] at h;exact zta (okE a C _ X h.1.1 G) (okE i C _ X h.1.2 G) (zeW h.2)|.olen a,C,e,X,h,G=>by replace h:=ofCN h;obtain⟨x,p,z3,pos,h⟩:=h;replace h:=zaX h;obtain⟨v,h⟩:=h;simp only[Z8] at h;have hx:=Z3 h.1.1.1;subst hx;exact zrm (zds G h.1.1.2) (G.blt _ (by decide)) (okE a C v X h.2 G) (zao h.1.2)|.stuck,C,e,X,h,G=>zoM
theorem okEs{Γ:Calls}{n:Nat}:∀(as:List E) (C:Cst) (es:List Expr) (X:Cx),chkEs as C es=true->Good Γ n C X->IA X es (evs Γ as)
 | [],C,es,X,h,G=>by
  cases es with|nil=>exact ztL|cons _ _=>exact noT h
 | a::as,C,es,X,h,G=>by
  cases es with|nil=>exact noT h|cons e es=>change ((zaq _&&chkE _ _ _)&&chkEs _ _ _)=true at h;simp only[Z8] at h;exact zqN (okE a C e X h.1.2 G) (okEs as C es X h.2 G) (zao h.1.1)
theorem okPs{Γ:Calls}{n:Nat}:∀(as:List E) (ks:List Str) (C:Cst) (keys:List (Option Expr)) (vals:List Expr) (X:Cx) (pos:Pos),chkP as ks C keys vals=true->Good Γ n C X->IP X pos ks keys vals (evs Γ as)/\keys.all (·.isSome)=true/\keys.length=vals.length/\ks.length=keys.length
 | [],ks,C,keys,vals,X,pos,h,G=>by
  cases ks with|nil=>replace h:=zga h;obtain⟨h⟩:=h;replace h:=zga h;obtain⟨_⟩:=h;exact⟨zsF,rfl,rfl,rfl⟩|cons _ _=>exact noT h
 | a::as,ks,C,keys,vals,X,pos,h,G=>by
  cases ks with|nil=>exact noT h|cons k ks=>replace h:=zaD h;obtain⟨o,r,h⟩:=h;replace h:=zin h;obtain⟨e,h⟩:=h;replace h:=ofCo h;obtain⟨c,j,p,h⟩:=h;replace h:=zaD h;obtain⟨v,vs,h⟩:=h;simp only[Z8] at h;have hc:=zje h.1.1;subst hc;obtain⟨a1,a2,a3,a4⟩:=okPs as ks C r vs X pos h.2 G;exact⟨zr9 (okE a C v X h.1.2 G) a1,by simpa using a2,by simp[a3],by simp[a4]⟩
theorem okT{Γ:Calls}{n:Nat}:∀(t:T) (C:Cst) (e:Expr) (X:Cx),chkT t C e=true->Good Γ n C X->IT' X e (tv Γ t)/\(zp1 e=true->PW X e (tTv X.K (tv Γ t)))
 | .val q,C,e,X,h,G=>by
  cases q with
  |chn o o' a b c=>replace h:=zk2 h;replace h:=ofCm h;obtain⟨l,z2,z5,_,h⟩:=h;replace h:=zaD h;obtain⟨op,z3,h⟩:=h;replace h:=zaX h;obtain⟨op',h⟩:=h;replace h:=zaD h;obtain⟨r,z6,h⟩:=h;replace h:=zaX h;obtain⟨r',h⟩:=h;simp only[Z8,Zy] at h;exact⟨zsL (OpD.opI (coBe G.room.units h.1.1.1.1.1.1)) (OpD.opI (coBe G.room.units h.1.1.1.1.1.2)) (okE a C _ X h.1.1.1.1.2 G) (okE b C _ X h.1.1.1.2 G) (okE c C _ X h.1.1.2 G) (zhf h.2),λz=>by first | exact noT z | exact noF z⟩|cmp o a b=>replace h:=zk2 h;replace h:=ofCm h;obtain⟨l,z2,z4,_,h⟩:=h;replace h:=zaX h;obtain⟨op,h⟩:=h;replace h:=zaX h;obtain⟨r,h⟩:=h;simp only[Z8,Zy] at h;exact⟨zsn (m:=mD (cop o)) (OpD.opI (coBe G.room.units h.1.1.1)) (okE a C _ X h.1.1.2 G) (okE b C _ X h.1.2 G) (zhf h.2) (λx y h0 r h1 e=>zuR e),λz=>by first | exact noT z | exact noF z⟩
  | stuck=>
   refine⟨λpins s σ H Q I q=>?_,λ_ whole pins s σ H Q I q=>?_⟩
   ·obtain ⟨μ,h,env,R0,re,t,h',e,k⟩:=q
    cases e
   ·obtain ⟨μ,h,env,R0,re,t,h',e,k⟩:=q
    cases e
  |lst m l=>exact ziL (okE (.lst m l) C e X (zk2 h) G) h (by intro _ ops rs pos z;subst z;cases l<;>exact noT (zk2 h))|_=>exact ziL (okE _ C e X (zk2 h) G) h (by intro l ops rs pos z;subst z;exact noT (zk2 h))
 | .and a b,C,e,X,h,G=>by
  replace h:=ofBo h;obtain⟨z2,z3,pos,h⟩:=h;replace h:=ofAn h;obtain⟨h⟩:=h;replace h:=zaD h;obtain⟨v,z4,h⟩:=h;replace h:=zaD h;obtain⟨w,rest,h⟩:=h;simp only[Z8] at h
  have key:PW X (.BoolOp .And (v::w::rest) pos) (tTv X.K (tv Γ (.and a b))):=by
   cases rest with|nil=>exact zp8 (tb:=λ_ _ _=>True) (okT a C v X h.1 G).1 (zqu (okT b C w X h.2 G).1)|cons y ys=>exact zp8 (tb:=λ_ _ _=>True) (okT a C v X h.1 G).1 ((okT b C _ X h.2 G).2 rfl)
  exact⟨key.pt,λ_=>key⟩
 | .or a b,C,e,X,h,G=>by
  replace h:=ofBo h;obtain⟨z2,z3,pos,h⟩:=h;replace h:=ofOr h;obtain⟨h⟩:=h;replace h:=zaD h;obtain⟨v,z4,h⟩:=h;replace h:=zaD h;obtain⟨w,rest,h⟩:=h;simp only[Z8] at h
  have key:PW X (.BoolOp .Or (v::w::rest) pos) (tTv X.K (tv Γ (.or a b))):=by
   cases rest with|nil=>exact ztV (okT a C v X h.1 G).1 (zsW (okT b C w X h.2 G).1)|cons y ys=>exact ztV (okT a C v X h.1 G).1 ((okT b C _ X h.2 G).2 rfl)
  exact⟨key.pt,λ_=>key⟩
 |.not a,C,e,X,h,G=>by replace h:=ofUn h;obtain⟨z2,x,_,h⟩:=h;replace h:=ofNo h;obtain⟨h⟩:=h;exact⟨zsC (okT a C _ X h G).1,λz=>by first | exact noT z | exact noF z⟩
theorem okTs{Γ:Calls}{n:Nat}:∀(ts:List T) (C:Cst) (es:List Expr) (X:Cx),chkTs ts C es=true->Good Γ n C X->PTs X es (tTv X.K (tvs Γ ts))
 | [],C,es,X,h,G=>by
  cases es with|nil=>intro pins s σ H Q I ⟨μ,h0,env,R0,re,t,h',e,k⟩;simp only[tvs,zac] at e;obtain⟨rfl,rfl⟩:=e;exact zro pins s σ H Q I (k μ H true Stp.refl R0 rfl)|cons _ _=>exact noT h
 | t :: ts,C,es,X,h,G=>by
  cases es with
  |nil=>exact noT h
  | cons e es=>
   change ((chkT _ _ _&&chkTs _ _ _)&&List.isEmpty _)=true at h;simp only[Z8] at h;obtain⟨⟨h1,h2⟩,h3⟩:=h
   cases es with
   |cons _ _=>simp at h3
   | nil=>
    cases ts with
    |cons _ _=>exact noT h2
    | nil=>
     intro pins s σ H Q I ⟨μ,h0,env,R0,re,t',h',e,k⟩;simp only[tvs,zab] at e;obtain⟨t1,h1',e1,e2⟩:=e;refine zrw (okT t C _ X h1 G).1 pins s σ H Q I ⟨μ,h0,env,R0,re,t1,h1',e1,λμ1 H1 b s1 R1 hb=>?_⟩;subst hb
     cases t1 with|true=>simp only[if_true,zac] at e2;obtain⟨rfl,rfl⟩:=e2;exact k μ1 H1 _ s1 R1 rfl|false=>simp only[Zz,if_false,zac] at e2;obtain⟨rfl,rfl⟩:=e2;exact k μ1 H1 _ s1 R1 rfl
theorem okL{Γ:Calls}{n:Nat}:∀(l:L) (C:Cst) (e:Expr) (X:Cx),chkL l C e=true->Good Γ n C X->match l with|.disp es=>IL X e (evL Γ (.disp es))|.comp tg it cs el=>zbM Γ X tg it cs el e|.of a=>IL X e (evL Γ (.of a))|.cat a b=>IL X e (evL Γ (.cat a b))|.rev a=>IL X e (evL Γ (.rev a))
 |.disp es,C,e,X,h,G=>by
  replace h:=ofLi h;obtain⟨xs,_,h⟩:=h;simp only[Z8] at h
  exact zq2 (okEs es C _ X h.1 G) (of_decide_eq_true h.2) (λσ h0 rs h' e=>by rw[zdy e];exact zbn h.1)
 |.comp tg it cs el,C,e,X,h,G=>by
  replace h:=ofLC h;obtain⟨elt,z2,sc,pos,h⟩:=h;replace h:=zaX h;obtain⟨g,h⟩:=h;obtain⟨gt,gi,gifs,ga⟩:=g;simp only[Z8,Zy] at h;obtain⟨⟨⟨⟨⟨⟨h1,h2⟩,h3⟩,h4,h4'⟩,h5⟩,h6⟩,h7⟩:=h
  have ea:ga=0:=by simpa using h1
  subst ea;refine⟨elt,gt,gi,gifs,sc,pos,(blkC C sc (zbu tg gt)).N,rfl,zjA G h3,okI it C gi X h5 G gt h4',λcl pins s₂ H₂ Cc fp=>?_,zfP h2⟩;have G':=G.blk h3 cl pins s₂ H₂ Cc fp;exact⟨zni G' tg gt h4,okTs cs _ gifs _ h6 G',okE el _ elt _ h7 G'⟩
 |.of a,C,e,X,h,G=>by replace h:=ofCN h;obtain⟨x,_,z3,_,h⟩:=h;replace h:=zaX h;obtain⟨v,h⟩:=h;simp only[Z8] at h;obtain⟨⟨⟨h1,h2⟩,h3⟩,h4⟩:=h;have hx:=Z3 h1;subst hx;exact zuP (zds G h2) (G.blt _ (by decide)) (okE a C _ X h4 G) (zao h3)
 | .rev a,C,e,X,h,G=>by
  replace h:=ofSu h;obtain⟨v,s,_,h⟩:=h;replace h:=ofSl h;obtain⟨x,y,z,_,h⟩:=h;replace h:=zmM h;obtain⟨h⟩:=h;replace h:=zmM h;obtain⟨h⟩:=h;replace h:=zin h;obtain⟨u,h⟩:=h;replace h:=ofUn h;obtain⟨o,w,_,h⟩:=h;replace h:=ofUS h;obtain⟨h⟩:=h;replace h:=ofCo h;obtain⟨c,_,_,h⟩:=h;simp only[Z8] at h;have hi:=oneC_eq h.1;subst hi;exact zsT (okE a C _ X h.2 G) (PE.imp (ztA zpG zpN) λσ H Q q=>⟨1,rfl,q⟩)
 |.cat a b,C,e,X,h,G=>by replace h:=ofBi h;obtain⟨l,z2,r,_,h⟩:=h;replace h:=ofAd h;obtain⟨h⟩:=h;simp only[Z8] at h;exact ztt (okE a C _ X h.1 G) (okE b C _ X h.2 G)
theorem okI{Γ:Calls}{n:Nat}:∀(it:I) (C:Cst) (e:Expr) (X:Cx),chkI it C e=true->Good Γ n C X->∀tg,enuB it tg=true->PI X tg e (tI X.K (evI Γ it))
 |.seq a,C,e,X,h,G,tg,_=>zsK (okE a C e X h G)
 |.enu a,C,e,X,h,G,tg,ht=>by
  replace h:=ofCN h;obtain⟨x,p,z3,pos,h⟩:=h;replace h:=zaX h;obtain⟨v,h⟩:=h;simp only[Z8] at h;obtain⟨⟨⟨h1,h2⟩,h3⟩,h4⟩:=h;have hx:=Z3 h1;subst hx
  cases tg with
  |Tuple es k tp=>exact zs9 (zds G h2) (G.blt _ (by decide)) (okE a C v X h4 G) (zao h3)
  |_=>first | exact noT ht | exact noF ht
 |.rng a,C,e,X,h,G,tg,_=>by replace h:=ofCN h;obtain⟨x,p,z3,pos,h⟩:=h;replace h:=zaX h;obtain⟨v,h⟩:=h;simp only[Z8] at h;have hx:=Z3 h.1.1.1;subst hx;exact zsj (zds G h.1.1.2) (G.blt _ (by decide)) (okE a C v X h.2 G) (zao h.1.2)
end
theorem okO{Γ:Calls}{n:Nat}{tg:Tg}{it:I}{cs:List T}{el:E}{C:Cst}{e:Expr}{X:Cx}(h:chkE (.lstO tg it cs el) C e=true)(G:Good Γ n C X):zbM Γ X tg it cs el e:=by
 replace h:=ofLC h;obtain⟨elt,z2,sc,pos,h⟩:=h;replace h:=zaX h;obtain⟨g,h⟩:=h;obtain⟨gt,gi,gifs,ga⟩:=g;simp only[Z8,Zy] at h;obtain⟨⟨⟨⟨⟨⟨h1,h2⟩,h3⟩,h4,h4'⟩,h5⟩,h6⟩,h7⟩:=h
 have ea:ga=0:=by simpa using h1
 subst ea;refine⟨elt,gt,gi,gifs,sc,pos,(blkC C sc (zbu tg gt)).N,rfl,zjA G h3,okI it C gi X h5 G gt h4',λcl pins s₂ H₂ Cc fp=>?_,zfP h2⟩;have G':=G.blk h3 cl pins s₂ H₂ Cc fp;exact⟨zni G' tg gt h4,okTs cs _ gifs _ h6 G',okE el _ elt _ h7 G'⟩
theorem zo9{C:Cst}{a:E}{x1:Expr}{x2:_}{x3:_}{x4:_}(h:chkE a C (.SetComp x1 x2 x3 x4)=true):a=.stuck:=by
 cases a with|stuck=>rfl|lst m l=>cases l<;>exact noT h|_=>exact noT h
theorem zod{C:Cst}{a:E}{x0 x1:Expr}{x2:_}{x3:_}{x4:_}(h:chkE a C (.DictComp x0 x1 x2 x3 x4)=true):a=.stuck:=by
 cases a with|stuck=>rfl|lst m l=>cases l<;>exact noT h|_=>exact noT h
theorem zon{C:Cst}{a:E}{x1:Expr}{x2:_}{x3:_}{x4:_}(h:chkE a C (.ListComp x1 x2 x3 x4)=true):a=.stuck\/(∃m tg it cs el,a=.lst m (.comp tg it cs el))\/∃tg it cs el,a=.lstO tg it cs el:=by
 cases a with
 |stuck=>exact .inl rfl
 |lst m l=>
  cases l with|comp tg it cs el=>exact .inr (.inl ⟨m,tg,it,cs,el,rfl⟩)|_=>exact noT h
 |lstO tg it cs el=>exact .inr (.inr ⟨tg,it,cs,el,rfl⟩)|_=>exact noT h
theorem zom{Γ:Calls}{n:Nat}{C:Cst}{X:Cx}(G:Good Γ n C X){tg:Tg}{a:E}{t v:Expr}{pos:Pos}(h1:zeJ C tg t=true)(h3:chkE a C v=true)(h2:zaq t=true)(h4:(zd4 t&&zd4 v)=false)(hc:zew v=true)(hn:zfK t=true):
  PS X (.Assign [t] v pos) (tS X.K λσ=>bnd (ev Γ a σ) λr=>bnd (za3 tg r σ) λσ'=>ok (.nx,σ')):=by
 have g:=okTg G tg t h1
 cases t with
 | Name y py=>
  cases tg with
  |tup ts=>exact noT h1
  | name iy=>
   cases v with
   | ListComp elt gens sc cpos=>
    have hb:∃b,Yk (.ListComp elt gens sc cpos) (some (.Name y py)) pos.line X.env=pure b:=⟨_,rfl⟩;obtain⟨b,hb⟩:=hb
    cases b with
    |false=>exact zpM (okE a C _ X h3 G) g hb (zcu h4) (zfu h2)
    | true=>
     rcases zon h3 with rfl|⟨m,tg2,it,cs,el,rfl⟩|⟨tg2,it,cs,el,rfl⟩
     ·exact λpins s σ H D I ⟨μ,h,env,R0,re,fl,env',h',e,k⟩=>by cases e
     ·obtain ⟨elt',gt,gi,gifs,sc',pos',N',e,ok,hi,hB,hs⟩:=okL (Γ:=Γ) (n:=n) (.comp tg2 it cs el) C _ X h3 G
      cases e;change (_&&locB C _)=true at h1;simp only[Z8] at h1;obtain⟨l1,l2⟩:=zkf G h1.2
      refine PS.imp (zfT G.nox G.calm ok hi hB hs hb (ziQ G.nd (by rw[G.N];exact Z3 h1.1) l1 l2)) λD σ H q=>?_
      have q1:=zkk q;have q2:=zow (fl:=evL Γ (.comp tg2 it cs el)) (m:=m) q1;exact zbM.read (q2.imp λv H1 z=>zgz z)
     ·obtain ⟨elt',gt,gi,gifs,sc',pos',N',e,ok,hi,hB,hs⟩:=okO (Γ:=Γ) (n:=n) h3 G
      cases e;change (_&&locB C _)=true at h1;simp only[Z8] at h1;obtain⟨l1,l2⟩:=zkf G h1.2
      refine PS.imp (zfT G.nox G.calm ok hi hB hs hb (ziQ G.nd (by rw[G.N];exact Z3 h1.1) l1 l2)) λD σ H q=>?_
      exact zbM.readO ((zkk q).post λv H1 z=>zgz z)
   |SetComp _ _ _ _=>
    obtain rfl:=zo9 h3
    exact λpins s σ H D I ⟨μ,h,env,R0,re,fl,env',h',e,k⟩=>by cases e
   |DictComp _ _ _ _ _=>
    obtain rfl:=zod h3
    exact λpins s σ H D I ⟨μ,h,env,R0,re,fl,env',h',e,k⟩=>by cases e
   |_=>first | exact noT hc | exact noF hc
 |_=>first | exact noT hn | exact noF hn
theorem swA{v ov:Expr}{name:Str}{p2:Pos}{l:Nat}{env:YI}:Yk v (some (.Attribute ov name p2)) l env=pure false:=by cases v<;>rfl
mutual
theorem okS{Γ:Calls}{n:Nat}:∀(s:S) (C:Cst) (st:Stmt) (X:Cx),chkS s C st=true->Good Γ n C X->PS X st (tS X.K (ex Γ s))
 |.asg tg a,C,st,X,h,G=>by
  replace h:=ofAs h;obtain⟨z2,v,pos,h⟩:=h;replace h:=zaX h;obtain⟨t,h⟩:=h;simp only[Z8,Zy,YK] at h;obtain⟨⟨⟨⟨h1,h2⟩,h3⟩,h4⟩,h5⟩:=h
  rcases h5 with h5 | h5
  ·exact zpM (okE a C v X h3 G) (okTg G tg t h1) (zgD h5) (zcu h4) (zfu h2)
  ·exact zom G h1 h3 h2 h4 h5.1 h5.2
 |.setI o i a,C,st,X,h,G=>by replace h:=ofAs h;obtain⟨z2,v,pos,h⟩:=h;replace h:=zaX h;obtain⟨z3,h⟩:=h;replace h:=ofSu h;obtain⟨ov,iv,p2,h⟩:=h;simp only[Z8,Zy] at h;obtain⟨⟨⟨⟨h1,h2⟩,h3⟩,h4⟩,h5⟩:=h;exact zrE (okE a C v X h1 G) (okE o C ov X h2 G) (okE i C iv X h3 G) (zmk h5) (zgD h4) (zcu (by rfl)) (zfu rfl)|.setF o f a,C,st,X,h,G=>by replace h:=ofAs h;obtain⟨z2,v,pos,h⟩:=h;replace h:=zaX h;obtain⟨z3,h⟩:=h;replace h:=ofAt h;obtain⟨ov,name,p2,h⟩:=h;simp only[Z8] at h;have hx:=Z3 h.1.1;subst hx;exact zrg (okE a C v X h.1.2 G) (okE o C ov X h.2 G) (swA)
 |.setN c o f a,C,st,X,h,G=>by
  replace h:=ofAs h;obtain⟨z2,v,pos,h⟩:=h;replace h:=zaX h;obtain⟨z3,h⟩:=h;replace h:=ofAt h;obtain⟨ov,name,p2,h⟩:=h;simp only[Z8,Yd] at h;obtain⟨⟨⟨h1,i,hi,h2,h2'⟩,h3⟩,h4⟩:=h;have hx:=Z3 h1;subst hx;have hn:=Z3 h2
  exact zqY (okE a C v X h3 G) (okE o C ov X h4 G) (swA) λA hA=>G.attrs i hi _ (Ys.mp h2') A (by rw[hn];exact hA)
 |.exp a,C,st,X,h,G=>by replace h:=ofEx h;obtain⟨v,_,h⟩:=h;simp only[Z8,Zy] at h;exact zsV (okE a C _ X h.1 G) (zpm h.2)|.ife c a b,C,st,X,h,G=>by replace h:=ztM h;obtain⟨t,x,y,_,h⟩:=h;simp only[Z8] at h;exact zvC (okT c C _ X h.1.1 G).1 (okSs a C _ X h.1.2 G) (okSs b C _ X h.2 G)
 |.for tg it body,C,st,X,h,G=>by
  replace h:=ofFo h;obtain⟨t,iter,b,z2,_,h⟩:=h;replace h:=zga h;obtain⟨h⟩:=h;simp only[Z8,Zy] at h;obtain⟨⟨⟨⟨h1,h1'⟩,h2⟩,h3⟩,h4⟩:=h
  exact ztH (by rw[G.nox];exact Wt.never) G.calm (okI it C _ X h2 G _ h1') (zni G tg _ h1) (okSs body C _ X h3 G) (zfP h4) (λσ h w h' e=>zha e)
 |.ret a,C,st,X,h,G=>by replace h:=ofRe h;obtain⟨z2,_,h⟩:=h;replace h:=zin h;obtain⟨v,h⟩:=h;exact zuc (okE a C _ X h G)|.retN,C,st,X,h,G=>by replace h:=ofRe h;obtain⟨z2,_,h⟩:=h;replace h:=zmM h;obtain⟨h⟩:=h;exact zrB|.brk,C,st,X,h,G=>noT h|.cnt,C,st,X,h,G=>noT h|.setR o k a,C,st,X,h,G=>by replace h:=ofAs h;obtain⟨z2,v,pos,h⟩:=h;replace h:=zaX h;obtain⟨z3,h⟩:=h;replace h:=ofSu h;obtain⟨ov,iv,p2,h⟩:=h;replace h:=ofCo h;obtain⟨c,j,p,h⟩:=h;simp only[Z8,Zy] at h;obtain⟨⟨⟨h1,h2⟩,h3⟩,h4⟩:=h;have hc:=zje h1;subst hc;exact zqM (okE a C v X h2 G) (okE o C ov X h3 G) (zmk rfl) (zgD h4) (zcu (by rfl)) (zfu rfl)|.rai c es,C,st,X,h,G=>zj6
 | .tryv f es c i j ys,C,st,X,h,G=>by
  replace h:=ofTr h;obtain⟨z2,z9,z22,z23,_,h⟩:=h;replace h:=zaX h;obtain⟨z3,h⟩:=h;replace h:=ofAs h;obtain⟨zt,z4,_,h⟩:=h;replace h:=zaX h;obtain⟨zt1,h⟩:=h;replace h:=ofNm h;obtain⟨z,_,h⟩:=h;replace h:=ofCN h;obtain⟨x,_,z6,_,h⟩:=h;replace h:=zaD h;obtain⟨v,vs,h⟩:=h;replace h:=zaX h;obtain⟨z10,h⟩:=h;replace h:=ofHa h;obtain⟨z11,z13,z14,_,h⟩:=h;replace h:=zin h;obtain⟨z12,h⟩:=h;replace h:=ofNm h;obtain⟨y,_,h⟩:=h;replace h:=zin h;obtain⟨nn,h⟩:=h;replace h:=zaX h;obtain⟨z15,h⟩:=h;replace h:=ofAs h;obtain⟨z16,z19,_,h⟩:=h;replace h:=zaX h;obtain⟨z17,h⟩:=h;replace h:=ofNm h;obtain⟨z',_,h⟩:=h;replace h:=ofTu h;obtain⟨ts,_,_,h⟩:=h;replace h:=zga h;obtain⟨h⟩:=h;replace h:=zga h;obtain⟨h⟩:=h;simp only[tvB,Z8] at h;obtain⟨⟨⟨⟨⟨⟨⟨⟨⟨⟨⟨⟨⟨⟨⟨⟨h1,h2⟩,h3⟩,h4⟩,h5⟩,h6⟩,h7⟩,h8⟩,h9⟩,h10⟩,h11⟩,h12⟩,h13⟩,h14⟩,h15⟩,h17⟩,h16⟩:=h;have st:=zaL h4;have hz:=Z3 h10;subst hz;obtain⟨cv,Ex⟩:=G.excs
  cases hp:C.fns[f]? with
  |none=>rw[hp] at h1;cases h1
  | some q=>
   rw[hp] at h1;have hx:=Z3 h1;subst hx
   cases hc:C.exs[c]? with
   |none=>rw[hc] at h5;cases h5
   | some u=>
    rw[hc] at h5;simp only[Z8] at h5;obtain⟨Ca,e1,e2,e3,e4,xo⟩:=Ex.cls c _ hc;obtain⟨l1,l2⟩:=zkf G h9;obtain⟨Cy,m1,m2⟩:=xo.hs y (Ys.mp h5.1)
    have ec:ExcI X.K Ca:=by
     rcases xo.cls with z | z
     ·exact absurd z (zpc h5.2 (by simpa using h15))
     ·exact z
    have hj:=Z3 h11;have hlc:=ztT G h12
    exact zr6 G.nox (G.defc h16) (G.funs f q hp) (Ex.funs f q hp) G.room (zds G h2) (okEs es C _ X h4 G) (λσ h0 rs h' e=>by rw[zdy e];exact zbn h4) (za2 h3).1 (zao (st _ (.head _))) (zbx λy hy=>st y (.tail _ hy)) (zds G h6) m1 (za2 h7).1 e2 m2 ec G.nd (by rw[G.N];exact Z3 h8) l1 l2 (by rw[G.N];exact hj) hlc
     (by simpa using h17) (za2 h13).1 (za2 h13).2 (zpZ G xo.isx h5.2) (of_decide_eq_true h14) rfl rfl
 |.stuck,C,st,X,h,G=>zj6
theorem okSs{Γ:Calls}{n:Nat}:∀(ss:List S) (C:Cst) (sts:List Stmt) (X:Cx),chkSs ss C sts=true->Good Γ n C X->PSs X sts (tS X.K (exs Γ ss))
 | [],C,sts,X,h,G=>by
  cases sts with|nil=>exact zrs|cons _ _=>exact noT h
 | s::ss,C,sts,X,h,G=>by
  cases sts with|nil=>exact noT h|cons st sts=>change (chkS _ _ _&&chkSs _ _ _)=true at h;simp only[Z8] at h;exact zop (okS s C st X h.1 G) (okSs ss C sts X h.2 G)
end
end IT
namespace IT
open PySem PySem.Spec L2
structure Thr(X:Cx)(cv:ClsV)(E:R->Hp->Prop):Prop where
 own:Wt (model X.prog X.w) X.A X.env X.xe
 pass:zdO (CXk X.prog X.w) X (wX cv E)
 made:∀pins σ H s h' a C vs,Inv X pins σ H s->Wd s.heap h' a C vs->wX cv E C none H->X.xe (.ref a) {s with heap:=h'}
mutual
theorem okX{Γ:Calls}{n:Nat}{cv:ClsV}{E:R->Hp->Prop}:∀(s:S) (C:Cst) (st:Stmt) (X:Cx),chkS s C st=true->Good Γ n C X.nox->Excs Γ n C X cv->Thr X cv E->XS X E st (exX Γ s)
 | .asg tg a,C,st,X,h,G,Ex,T=>by
  cases a with
  | call f es=>
   replace h:=ofAs h;obtain⟨z2,v,pos,h⟩:=h;replace h:=zaX h;obtain⟨t,h⟩:=h;simp only[Z8,Zy,YK] at h;obtain⟨⟨⟨⟨h1,h2⟩,h3⟩,h4⟩,h5⟩:=h;replace h3:=ofCN h3;obtain⟨x,p,z3,cpos,h3⟩:=h3;replace h3:=zaD h3;obtain⟨v,vs,h3⟩:=h3;simp only[Z8] at h3;have st:=zaL h3.2
   cases hp:C.fns[f]? with
   |none=>rw[hp] at h3;simp at h3
   |some q=>
    rw[hp] at h3;have hx:=Z3 h3.1.1.1;subst hx
    have hpe:=zrS (X:=X) (E:=E) (p:=p) (pos:=cpos) (Ex.funs f q hp) G.room (show Gl X _ from zds (X:=X.nox) G h3.1.1.2) T.pass (zmn (okEs es C _ X.nox h3.2 G)) (λσ h0 rs h' e=>by rw[zdy e];exact zbn h3.2) (za2 h3.1.2).1 (zao (st v (by simp))) (zbx λy hy=>st y (by simp[hy]))
    refine zsy (zj1 (pos:=pos) hpe (zpX (okTg G tg t h1)) (zgD (by rfl)) (zcu h4) (zfu h2)) λσ H q=>?_;exact q
  |_=>exact zaR
 | .rai c es,C,st,X,h,G,Ex,T=>by
  replace h:=ofRa h;obtain⟨z2,z7,_,h⟩:=h;replace h:=zin h;obtain⟨z3,h⟩:=h;replace h:=ofCN h;obtain⟨x,_,z5,_,h⟩:=h;replace h:=zaD h;obtain⟨v,vs,h⟩:=h;replace h:=zmM h;obtain⟨h⟩:=h;simp only[Z8] at h;obtain⟨⟨⟨⟨⟨h1,h2⟩,h3⟩,h4⟩,h5⟩,h6⟩:=h;have st:=zaL h4
  cases hc:C.exs[c]? with
  |none=>rw[hc] at h1;cases h1
  |some u=>
   rw[hc] at h1;have hu:=Z3 h1;subst hu;obtain⟨Ca,e1,e2,e3,e4,_⟩:=Ex.cls c _ hc;have dc:=G.defc h6
   exact zpE (X:=X) (cv:=cv) (E:=E) ⟨dc.ex,dc.st,dc.fr⟩ G.calm e3 (show Gl X _ from zds (X:=X.nox) G h2) e1 e2 (zmn (okEs es C _ X.nox h4 G)) (by rw[<-zbn h4];exact of_decide_eq_true h5) (λσ h0 rs h' e=>by rw[zdy e];exact zbn h4) (za2 h3).1 (zao (st _ (.head _))) (zbx λy hy=>st y (.tail _ hy)) (λpins σ H s h' a vs I m w=>T.made pins σ H s h' a _ vs I m w)
 |.ife c a b,C,st,X,h,G,Ex,T=>by replace h:=ztM h;obtain⟨t,x,y,_,h⟩:=h;simp only[Z8] at h;exact zvA (PT.nox (okT c C _ X.nox h.1.1 G).1) (okXs a C _ X h.1.2 G Ex T) (okXs b C _ X h.2 G Ex T)|.for tg it body,C,st,X,h,G,Ex,T=>by replace h:=ofFo h;obtain⟨t,iter,b,z2,_,h⟩:=h;replace h:=zga h;obtain⟨h⟩:=h;simp only[Z8,Zy] at h;obtain⟨⟨⟨⟨h1,h1'⟩,h2⟩,h3⟩,h4⟩:=h;exact zud T.own G.calm (zsJ (okI it C _ X.nox h2 G _ h1')) (zpX (zni G tg _ h1)) (PSs.nox (okSs body C _ X.nox h3 G)) (okXs body C _ X h3 G Ex T) (zfP h4) (λσ h w h' e=>zha e)|.setI _ _ _,C,st,X,h,G,Ex,T=>zaR|.setF _ _ _,C,st,X,h,G,Ex,T=>zaR|.setN _ _ _ _,C,st,X,h,G,Ex,T=>zaR|.exp _,C,st,X,h,G,Ex,T=>zaR|.ret _,C,st,X,h,G,Ex,T=>zaR|.retN,C,st,X,h,G,Ex,T=>zaR|.brk,C,st,X,h,G,Ex,T=>zaR|.cnt,C,st,X,h,G,Ex,T=>zaR|.setR _ _ _,C,st,X,h,G,Ex,T=>zaR|.tryv _ _ _ _ _ _,C,st,X,h,G,Ex,T=>zaR|.stuck,C,st,X,h,G,Ex,T=>zaR
theorem okXs{Γ:Calls}{n:Nat}{cv:ClsV}{E:R->Hp->Prop}:∀(ss:List S) (C:Cst) (sts:List Stmt) (X:Cx),chkSs ss C sts=true->Good Γ n C X.nox->Excs Γ n C X cv->Thr X cv E->XSs X E sts (exXs Γ ss)
 | [],C,sts,X,h,G,Ex,T=>by
  cases sts with|nil=>exact zq1|cons _ _=>exact noT h
 | s::ss,C,sts,X,h,G,Ex,T=>by
  cases sts with|nil=>exact noT h|cons st sts=>change (chkS _ _ _&&chkSs _ _ _)=true at h;simp only[Z8] at h;exact zov (zs2 (okS s C st X.nox h.1 G)) (okX s C st X h.1 G Ex T) (okXs ss C sts X h.2 G Ex T)
end
end IT
namespace IT
open PySem PySem.Spec L2
section
variable {K:Z7}{μ μ':List Addr}{h h':Sto}{H H':Hp}
theorem RepDs.less(i:∀a,A' a->A a)(q:RepDs K A H x v):RepDs K A' H x v:=RepDs.mono (λ_ _ z=>z) (λ_ _ n z=>⟨λl=>n (i _ l),z⟩) x v q
theorem RepD.less(i:∀a,A' a->A a)(q:RepD K A H x v):RepD K A' H x v:=RepD.mono (λ_ _ z=>z) (λ_ _ n z=>⟨λl=>n (i _ l),z⟩) x v q
theorem zeV(st:Stp μ h H μ' h' H')(R0:Rep K μ h H):μ'.take h.length=μ:=by
 have hl:=R0.len;refine List.ext_getElem? λi=>?_
 by_cases hi:i<μ.length
 ·rw[YV (by exact OZ9 hi hl.symm),st.pre i μ[i] (Z6 hi),Z6 hi]
 ·rw[Y9 (by simp;exact OXU hl.symm hi),Y9 (by omega)]
theorem zhP:∀a,Live (μ'.take n) (h'.take n) a->Live μ' h' a:=by
 rintro a ⟨i,o,e1,e2,e3⟩
 have hi:i<n:=by
  have:=(Z9.mp e1).1
  simp at this;omega
 rw[YV hi] at e1 e2;exact⟨i,o,e1,e2,e3⟩
def R.locs:R->List Nat|.d _=>[]|.loc l=>[l]
def Ob.locs:Ob->List Nat|.lst _=>[]|.fro _=>[]|.ols ls=>ls|.rcd fs=>(fs.map λp=>R.locs p.2).flatten|.ins _ fs=>(fs.map λp=>R.locs p.2).flatten
theorem zcL{α β:Type}{F:α->β->Prop}{xs:List α}{ys:List β}{x:α}(h:Paired F xs ys)(hm:x∈xs):∃y,F x y:=by
 induction h with
 |nil=>simp at hm
 |cons r t ih=>
  rcases ZQ.mp hm with rfl | hm
  ·exact⟨_,r⟩
  ·exact ih hm
theorem zdY{α β:Type}{F G:α->β->Prop}{xs:List α}{ys:List β}(h:Paired F xs ys)(f:∀x∈xs,∀y,F x y->G x y):Paired G xs ys:=by
 induction h with
 |nil=>exact .nil
 |cons r t ih=>exact .cons (f _ (by simp) _ r) (ih λx hx=>f x (by simp[hx]))
theorem zmD{a:Addr}{o:Ob}(q:RepO K μ h H a o):∀l∈o.locs,l<μ.length:=by
 intro l hl
 cases o with
 |lst _=>simp[Ob.locs] at hl|fro _=>simp[Ob.locs] at hl
 | rcd fs=>
  obtain⟨fs',_,z⟩:=q;simp only[Ob.locs,W8,Y0] at hl;obtain⟨_,⟨p,hp,rfl⟩,hl⟩:=hl;obtain⟨q',_,qr⟩:=zcL z hp
  cases hr:p.2 with|d x=>rw[hr] at hl;simp[R.locs] at hl|loc k=>rw[hr] at hl qr;simp[R.locs] at hl;subst hl;obtain⟨b,eb,_⟩:=qr;exact(Z9.mp eb).1
 |ols ls=>obtain⟨vs,_,z⟩:=q;obtain⟨v,b,eb,_⟩:=zcL z hl;exact(Z9.mp eb).1
 | ins c fs=>
  obtain⟨C,dx,fs',_,_,z⟩:=q;simp only[Ob.locs,W8,Y0] at hl;obtain⟨_,⟨p,hp,rfl⟩,hl⟩:=hl;obtain⟨q',_,qr⟩:=zcL z hp
  cases hr:p.2 with|d x=>rw[hr] at hl;simp[R.locs] at hl|loc k=>rw[hr] at hl qr;simp[R.locs] at hl;subst hl;obtain⟨b,eb,_⟩:=qr;exact(Z9.mp eb).1
theorem ziH{μ2:List Addr}{h2:Sto}{a:Addr}(q:RepO K μ' h' H' a o)(lv:∀b,Live μ2 h2 b->Live μ' h' b)(cl:∀l∈o.locs,∀b,μ'[l]?=some b->μ2[l]?=some b):RepO K μ2 h2 H' a o:=by
 cases o with
 |lst xs=>obtain⟨vs,e,z⟩:=q;exact⟨vs,e,z.less lv⟩|fro xs=>obtain⟨vs,e,z⟩:=q;exact⟨vs,e,z.less lv⟩|ols ls=>obtain⟨vs,e,z⟩:=q;exact⟨vs,e,zdY z λl hl v ⟨b,eb,ev⟩=>⟨b,cl l hl b eb,ev⟩⟩
 | rcd fs=>
  obtain⟨fs',e,z⟩:=q;refine⟨fs',e,zdY z λp hp q' ⟨e1,qr⟩=>⟨e1,?_⟩⟩
  cases hr:p.2 with
  |d x=>rw[hr] at qr;exact RepD.less lv qr
  |loc k=>
   rw[hr] at qr;obtain⟨b,eb,ev⟩:=qr;refine⟨b,cl k ?_ b eb,ev⟩;simp only[Ob.locs,W8,Y0]
   exact⟨_,⟨p,hp,rfl⟩,by rw[hr];simp[R.locs]⟩
 | ins c fs=>
  obtain⟨C,dx,fs',hC,e,z⟩:=q;refine⟨C,dx,fs',hC,e,zdY z λp hp q' ⟨e1,qr⟩=>⟨e1,?_⟩⟩
  cases hr:p.2 with
  |d x=>rw[hr] at qr;exact RepD.less lv qr
  |loc k=>
   rw[hr] at qr;obtain⟨b,eb,ev⟩:=qr;refine⟨b,cl k ?_ b eb,ev⟩;simp only[Ob.locs,W8,Y0]
   exact⟨_,⟨p,hp,rfl⟩,by rw[hr];simp[R.locs]⟩
theorem R.same_eq{x y:R}(e:x.same y=true):x=y:=by
 cases x with
 |d x=>
  cases y with|d y=>rw[D.same_eq x y e]|loc _=>cases e
 |loc l=>
  cases y with|d _=>cases e|loc k=>simp only[R.same] at e;rw[Z3 e]
theorem ze3:∀{fs gs:List (Str×R)},zcC fs gs=true->fs=gs| [],[],_=>rfl| [],_::_,e=>by simp[zcC] at e|(f,x)::r,[],e=>by simp[zcC] at e| (f,x)::r,(g,y)::t,e=>by simp only[zcC,Z8] at e;obtain⟨⟨e1,e2⟩,e3⟩:=e;rw[Z3 e1,R.same_eq e2,ze3 e3]
theorem ziE:∀{h h1:Sto} {i:Nat} {o1:Ob},objs h h1=true->h1[i]?=some o1->i<h.length->∃o,h[i]?=some o/\o1.locs=o.locs
 | [],_,_,_,_,_,hi=>by simp at hi|o::h,[],_,_,e,_,_=>by simp[objs] at e
 | o::h,o1::t,0,x,e,ex,_=>by
  simp only[Xt,Z5] at ex;subst ex;refine⟨o,rfl,?_⟩;simp only[objs,Z8] at e;have e:=e.1
  cases o<;>cases o1<;>simp only[Zz] at e<;>try rfl
  ·simp only[Z8] at e
   rw[ze3 e.2];rfl
  ·simp only[Ob.locs]
   rw[Z3 e]
  ·rw[ze3 e]
 |o::h,o1::t,i+1,x,e,ex,hi=>by simp only[objs,Z8] at e;obtain⟨o',e1,e2⟩:=ziE (i:=i) e.2 (by simpa using ex) (by simpa using hi);exact⟨o',by simpa using e1,e2⟩
theorem zpv(st:Stp μ h H μ' h' H')(R0:Rep K μ h H)(R1:Rep K μ' h' H'):Stp μ h H μ (h'.take h.length) H':=by refine⟨λ_ _ e=>e,st.keep,λa l=>st.live a (zhP (n:=h.length) a ?_)⟩;rw[zeV st R0];exact l
theorem zqX(st:Stp μ h H μ' h' H')(R0:Rep K μ h H)(R1:Rep K μ' h' H')(ob:objs h h'=true)(q:RepR K μ' h' H' r v)(e:fin0 h.length keep r h'=some (r2,h2)):
  ∃μ2,Stp μ h H μ2 h2 H'/\Rep K μ2 h2 H'/\RepR K μ2 h2 H' r2 v:=by
 have st1:=zpv st R0 R1
 have lv:∀a,Live μ (h'.take h.length) a->Live μ' h' a:=λa l=>zhP (n:=h.length) a (by rw[zeV st R0];exact l)
 have hlen:=R0.len
 have at1:∀(l:Nat) (b:Addr),l<h.length->μ'[l]?=some b->μ[l]?=some b:=λl b hl eb=>by rw[<-zeV st R0,YV hl];exact eb
 have small:∀(i:Nat) (o:Ob),i<h.length->h'[i]?=some o->∀l∈o.locs,l<h.length:=by
  intro i o hi ho l hl;obtain⟨o0,e0,el⟩:=ziE ob ho hi;rw[el] at hl
  have hi':i<μ.length:=by exact OZ9 hi hlen
  have:=zmD (R0.obj i μ[i] o0 (Z6 hi') e0) l hl
  exact OZ9 this hlen.symm
 have R2:Rep K μ (h'.take h.length) H':=by
  have hl':(h'.take h.length).length=h.length:=by
   have:=R1.len
   have h3:μ.length<=μ'.length:=by rw[<-zeV st R0,XO];exact Nat.min_le_right _ _
   simp;exact OYc hlen.symm this.symm h3
  refine⟨by rw[hl'];exact hlen,R0.nd,λi a o e1 e2=>?_⟩
  have hi:i<h.length:=by rw[<-hlen];exact(Z9.mp e1).1
  rw[YV hi] at e2;exact ziH (R1.obj i a o (st.pre i a e1) e2) lv λl hl b eb=>at1 l b (small i o hi e2 l hl) eb
 cases r with
 |d x=>simp only[fin0,Z5,ZZ] at e;obtain⟨rfl,rfl⟩:=e;exact⟨μ,st1,R2,RepD.less lv q⟩
 | loc l =>
  obtain⟨a,ea,rfl⟩:=q;simp only[fin0] at e
  by_cases hl:l<h.length
  ·rw [if_pos hl] at e
   simp only[Z5,ZZ] at e;obtain⟨rfl,rfl⟩:=e;exact⟨μ,st1,R2,a,at1 l a hl ea,rfl⟩
  ·rw [if_neg hl] at e
   obtain⟨o,ho⟩:=R1.placeO ea;rw[ho] at e
   have apart:a∉μ:=by
    intro hm;obtain⟨i,hi,ei⟩:=XH hm
    have:=zhw R1.nd (st.pre i a (by rw[Z6 hi,ei])) ea
    omega
   have data:∀xs,o.isL=true->o.items=xs->∃μ2,Stp μ h H μ2 (h'.take h.length) H'/\Rep K μ2 (h'.take h.length) H'/\RepR K μ2 (h'.take h.length) H' (.d (.lst xs)) (.ref a):=by
    rintro xs il rfl
    obtain⟨vs,hH,z⟩:=R1.placeL ea ho il;refine⟨μ,st1,R2,?_⟩;simp only[RepR,RepD];refine⟨a,vs,rfl,.inl ⟨?_,.inl hH⟩,z.less lv⟩
    rintro⟨i,ys,e1,e2,_⟩
    exact apart (ZT e1)
   cases o with
   |ins _ _=>cases e|ols _=>cases e|rcd _=>cases e|fro xs=>simp only[Z5,ZZ] at e;obtain⟨rfl,rfl⟩:=e;exact data xs rfl rfl
   | lst xs=>
    cases keep with
    |false=>simp only[Zz,if_false,Z5,ZZ] at e;obtain⟨rfl,rfl⟩:=e;exact data xs rfl rfl
    | true=>
     simp only[if_true,Z5,ZZ] at e;obtain⟨rfl,rfl⟩:=e;obtain⟨vs,hH,z⟩:=R1.placeL ea ho rfl
     have hl2:(h'.take h.length).length=μ.length:=by rw[<-R2.len]
     have lv2:∀b,Live (μ++[a]) (h'.take h.length++[.lst xs]) b->Live μ' h' b:=by
      intro b l2
      rcases(zkm R2.len).mp l2 with w|⟨rfl,_⟩
      ·exact lv b w
      ·exact⟨l,_,ea,ho,rfl⟩
     refine⟨μ++[a],⟨λi b e=>?_,st.keep,λb l2=>st.live b (lv2 b l2)⟩,⟨by simp[hl2],?_,λi b o e1 e2=>?_⟩,a,?_,rfl⟩
     ·rw[ZM (Z9.mp e).1];exact e
     ·rw [Wz]
      refine⟨R0.nd,by simp,λb hb c hc=>?_⟩;simp at hc;subst hc
      rintro rfl
      exact apart hb
     ·by_cases hi:i<μ.length
      ·rw [ZM hi] at e1
       rw[ZM (by exact OZq hi hl2 hlen)] at e2
       have hi2:i<h.length:=by exact OZq hi hlen.symm hl2.symm
       rw[YV hi2] at e2;refine ziH (R1.obj i b o (st.pre i b e1) e2) lv2 λk hk c ec=>?_;have hk2:=small i o hi2 e2 k hk;rw[ZM (by omega)];exact at1 k c hk2 ec
      ·rw [ZS (by omega)] at e1
       rw[ZS (by omega)] at e2
       have hz:i-μ.length=0:=by
        cases hk:i-μ.length with|zero=>rfl|succ k=>rw[hk] at e1;simp at e1
       rw[hl2,hz] at e2;rw[hz] at e1;simp at e1 e2;subst e1 e2;exact⟨vs,hH,z.less lv2⟩
     ·rw [hlen.symm]
      simp
theorem znv(st:Stp μ h H μ' h' H')(R0:Rep K μ h H)(R1:Rep K μ' h' H')(q:RepR K μ' h' H' r v)(e:fin h all keep r h'=some (r2,h2)):
  ∃μ2,Stp μ h H μ2 h2 H'/\Rep K μ2 h2 H'/\RepR K μ2 h2 H' r2 v:=by
 unfold fin at e
 cases all with
 |true=>simp only[if_true,Z5,ZZ] at e;obtain⟨rfl,rfl⟩:=e;exact⟨μ',st,R1,q⟩
 | false=>
  simp only[Zz,if_false] at e
  split at e
  ·rename_i ob
   exact zqX st R0 R1 ob q e
  ·cases e
end
structure Fun2(K:Z7)(x qual:Str)(st:Stmt)(f:Addr)(fd:FuncData):Prop where
 ex:∃(oc:Value) (od:Option Addr) (dV kV doc pm:Value) (an:Option Addr) (cdv ct:Value) (osl:Array (Option Value)),
  fd=Yp x qual (zdh st) (zbo st) (zah st) dV kV doc pm an cdv ct/\K.lookup f=some ⟨oc,od,.func fd,osl⟩/\Xn K cdv qual=true
 kp:Zf K (.ref f)=true
section
variable {P:Zx}{w:World}{K:Z7}{mg:Str->Option Value}{base:Heap}
theorem Fun2.ok(F:Fun2 K x qual st f fd)(S:zfL N ps (zah st))(len:∀vs H Q E,sp vs H Q E->vs.length=ps.length)
  (hbody:∀(cdv:Value) (A:Around) (outer:List YI) (s:Shared) (H:Hp) (vs:List V) (Q:VK) (E:XK),Room k (A.deeper (PyProof.Rows.envOfC qual (zah st) s.heap.objs.size f cdv))->sp vs H Q E →
   ∃t,PSs (cxOf CX0 P w K mg base N qual (zah st) f cdv A outer s H E).nox (zbo st) t/\t {nx:=λ_ H'=>Q .non H',rt:=Q} (L2.start N vs) H):FnOk P w K mg base CX0 (k+1) f fd ps sp:=by
 obtain⟨oc,od,dV,kV,doc,pm,an,cdv,ct,osl,rfl,lk,hcd⟩:=F.ex;refine ztg lk hcd S len λA outer s H vs Q E hr hsp=>?_;obtain⟨t,h,q⟩:=hbody cdv A outer s H vs Q E hr hsp;exact⟨t,h.nox,q⟩
theorem zlI{dV kV doc pm cdv ct:Value}(l:K.lookup f=some ⟨oc,od,.func (Yp x qual (zdh st) (zbo st) (zah st) dV kV doc pm an cdv ct),osl⟩)
  (c:Xn K cdv qual=true) (k:Zf K (.ref f)=true):Fun2 K x qual st f (Yp x qual (zdh st) (zbo st) (zah st) dV kV doc pm an cdv ct):=⟨⟨oc,od,dV,kV,doc,pm,an,cdv,ct,osl,rfl,l,c⟩,k⟩
end
structure zf3(K:Z7)(fns:List (Str×Nat×List D))(cls:List zmx)(Pr:List F)(globs:List (Str×D))(gds:List (Str×List (List Nat×D)))(exs:List zeG)(fi:Nat)(x qual:Str)(st:Stmt)(f:Addr)(fd:FuncData)(N ps:List Str)(B:F):Prop where
 at':Pr[fi]?=some B
 fn:Fun2 K x qual st f fd
 sc:zfL N ps (zah st)
 np:B.np=ps.length
 ns:B.ns=N.length
 bi:∃dvs,(∀A H,RepDs K A H B.dfl dvs)/\∀j,j<=B.dfl.length->∃ds,zdq K fd ps ds/\Vals (dvs.drop j) ds
 chk:chkSs B.body ⟨N,(zah st).names,fns,globs,true,cls,gds,exs⟩ (zbo st)=true
def cvOf(exA:List Addr):ClsV:=λr=>some (match r with
 |.d (.int i)=>.ref (exA.getD i.toNat 0)
 |_=>.none)
structure Txt(w:World)(K:Z7)(mg:Str->Option Value)(fns:List (Str×Nat×List D))(cls:List zmx)(Pr:List F)(globs:List (Str×D))(gds:List (Str×List (List Nat×D)))(exs:List zeG)(exA:List Addr)(addr:Nat->Addr)(fdOf:Nat->FuncData)(psOf:Nat->List Str):Prop where
 defs:∀fi B,Pr[fi]?=some B->∃x qual st N,zf3 K fns cls Pr globs gds exs fi x qual st (addr fi) (fdOf fi) N (psOf fi) B
 blt:∀x∈zeS,mg x=none
 glob:∀(x:Str) (d:D),globs.lookup x=some d->∃u v,mg x=some u/\RelV v u/\∀A H,RepD K A H d v
 funs:∀fi p,fns[fi]?=some p->mg p.1=some (.ref (addr fi))/\∃B,Pr[fi]?=some B/\B.np=p.2.1/\B.dfl=p.2.2
 makes:∀i∈cls,∃C B,mg i.name=some (.ref C)/\ZR K ZV i.name=some (some (.ref C))/\Cls K C/\Mk K C (addr i.init)/\Pr[i.init]?=some B/\B.dfl=[]
 meths:∀i∈cls,∀p∈i.meths,∃C B,ZR K ZV i.name=some (some (.ref C))/\Cls K C/\Meth K C p.1 (addr p.2)/\Pr[p.2]?=some B/\B.dfl=[]
 attrs:∀i∈cls,∀f∈i.fields,∀A,ZR K ZV i.name=some (some (.ref A))->zb9 K A f
 excs:∀(c:Nat) (x:zeG),exs[c]?=some x->∃Ca,mg x.name=some (.ref Ca)/\exA.getD c 0=Ca/\ExcK K Ca/\Yc K (.ref Ca) (.ref Ca)=some true/\XOk K mg Ca x
 few:Pr.length<=1000
section
variable {P:Zx}{w:World}{K:Z7}{mg:Str->Option Value}{base:Heap}{fns:List (Str×Nat×List D)}{cls:List zmx}{Pr:List F}{globs:List (Str×D)}{gds:List (Str×List (List Nat×D))}{exs:List zeG}{exA:List Addr}{addr:Nat->Addr}{fdOf:Nat->FuncData}{psOf:Nat->List Str}
theorem zfp(h:np<=rs.length):zaw np dfl rs=rs:=by rw[zbi (by omega),YM (by omega)];simp
theorem zhZ:zaw np dfl (zaw np dfl rs)=zaw np dfl rs:=by
 by_cases hs:rs.length+dfl.length<np
 ·rw[zb4 hs,zb4 hs]
 ·refine zfp ?_
  rw[zbi hs];simp only[Zu,Z4,Yg];exact OX6 hs
theorem zkE(e0:Pr[fi]?=some B)(rs:List R):zad Pr m fi rs=zad Pr m fi (zaw B.np B.dfl rs):=by
 cases m with
 |zero=>rfl
 |succ m=>
  funext h
  rw[zba,zba];simp only[e0];rw[zhZ]
theorem zhW(e0:Pr[fi]?=some B)(e:zad Pr (m+1) fi rs h=some p):(zaw B.np B.dfl rs).length=B.np:=by
 rw[zba] at e;simp only[e0] at e
 split at e
 ·assumption
 ·cases e
theorem zaY.env(q:zaY K μ h H rs vs)(i:Nat)(r:R)(e:(rs.map some)[i]?=some (some r)):∃v,(vs.map some)[i]?=some (some v)/\RepR K μ h H r v:=by
 induction q generalizing i with
 |nil=>simp at e
 | @cons r' v rs vs q1 _ ih=>
  cases i with|zero=>simp at e;subst e;exact⟨v,rfl,q1⟩|succ i=>simp only[ZC,YS] at e⊢;exact ih i e
theorem zgj(e0:Pr[fi]?=some B)(ed:B.dfl=[])(e:zad Pr m fi rs h=some p):rs.length=B.np:=by
 cases m with
 |zero=>cases e
 | succ m=>
  have:=zhW e0 e
  rw[ed] at this
  have ef:zaw B.np [] rs=rs:=by
   unfold zaw
   split
   ·rfl
   ·simp
  rwa [ef] at this
theorem zkH(e0:Pr[fi]?=some B)(e:zad Pr m fi rs h=some p):(zaw B.np B.dfl rs).length=B.np:=by
 cases m with|zero=>cases e|succ m=>exact zhW e0 e
theorem zkJ(T:Txt w K mg fns cls Pr globs gds exs exA addr fdOf psOf)(e0:Pr[fi]?=some B)(rs:List R):zad Pr m (xof fi) rs=zad Pr m (xof fi) (zaw B.np B.dfl rs):=by
 cases m with
 |zero=>rfl
 |succ m=>
  funext h
  rw[zd6 T.few e0,zd6 T.few e0,zhZ]
theorem zl7(T:Txt w K mg fns cls Pr globs gds exs exA addr fdOf psOf)(e0:Pr[fi]?=some B)(e:zad Pr m (xof fi) rs h=some p):(zaw B.np B.dfl rs).length=B.np:=by
 cases m with
 |zero=>cases e
 |succ m=>
  rw[zd6 T.few e0] at e
  split at e
  ·assumption
  ·cases e
theorem znK(T:Txt w K mg fns cls Pr globs gds exs exA addr fdOf psOf)(Dd:zf3 K fns cls Pr globs gds exs fi x qual st f fd N ps B)
  (ih:∀g B,Pr[g]?=some B->FnOk P w K mg base CX0 (2*m) (addr g) (fdOf g) (psOf g) (spF K (psOf g).length (zad Pr m g)))
  (ihx:∀g B,Pr[g]?=some B->FnOk P w K mg base (CXk P w) (2*m) (addr g) (fdOf g) (psOf g) (spX K (cvOf exA) (psOf g).length (zad Pr m (xof g))))
  {CX:CXT} {cdv:Value} {A:Around} {outer:List YI} {s:Shared} {H:Hp} {E:XK} (hr:Room (2*m+1) (A.deeper (PyProof.Rows.envOfC qual (zah st) s.heap.objs.size f cdv))):
  Good (zad Pr m) (2*m) ⟨N,(zah st).names,fns,globs,true,cls,gds,exs⟩ (cxOf CX P w K mg base N qual (zah st) f cdv A outer s H E).nox/\Excs (zad Pr m) (2*m) ⟨N,(zah st).names,fns,globs,true,cls,gds,exs⟩ (cxOf CX P w K mg base N qual (zah st) f cdv A outer s H E) (cvOf exA):=by
 have Ex:Excs (zad Pr m) (2*m) ⟨N,(zah st).names,fns,globs,true,cls,gds,exs⟩ (cxOf CX P w K mg base N qual (zah st) f cdv A outer s H E) (cvOf exA):=by
  refine⟨λc x e=>?_,λg y e=>?_⟩
  ·obtain ⟨Ca,e1,e2,e3,e4,e5⟩:=T.excs c x e
   exact⟨Ca,e1,by show some (Zc (exA.getD (WL (c:Int)) 0))=_;rw[ZA,e2],e3,e4,e5⟩
  ·obtain ⟨e1,B',e2,e3,e4⟩:=T.funs g y e
   obtain⟨x',q',st',N',d'⟩:=T.defs g B' e2;obtain⟨dvs,b1,b2⟩:=d'.bi;rw[<-e3,<-e4]
   have:=ihx g B' e2
   rw[<-d'.np] at this;exact⟨⟨addr g,fdOf g,psOf g,dvs,this,e1,d'.fn.kp,b1,b2⟩,zkJ T d'.at',λrs h p e=>zl7 T d'.at' e,λrs h r h' _=>⟨_,rfl⟩⟩
 refine⟨⟨rfl,rfl,hr.mono (by omega),hr,Dd.sc.kind,rfl,Dd.sc.nd,rfl,λ_ _=>rfl,λg y e=>?_,T.blt,T.glob,λi hi=>?_,λi hi p hp=>?_,T.attrs,λ_=>⟨rfl,rfl,rfl⟩,cvOf exA,Ex.cls,λg y e=>⟨(Ex.funs g y e).ex,(Ex.funs g y e).fill,(Ex.funs g y e).len,(Ex.funs g y e).cls⟩⟩,Ex⟩
 ·obtain ⟨e1,B',e2,e3,e4⟩:=T.funs g y e
  obtain⟨x',q',st',N',d'⟩:=T.defs g B' e2;obtain⟨dvs,b1,b2⟩:=d'.bi;rw[<-e3,<-e4]
  have:=ih g B' e2
  rw[<-d'.np] at this;exact⟨⟨addr g,fdOf g,psOf g,dvs,this,e1,d'.fn.kp,b1,b2⟩,zkE d'.at',λrs h p e=>zkH d'.at' e⟩
 ·obtain ⟨C,B',e1,e2,e3,e4,e5,e6⟩:=T.makes i hi
  obtain⟨x',q',st',N',d'⟩:=T.defs _ B' e5;obtain⟨dvs,b1,b2⟩:=d'.bi
  have:=ih _ B' e5
  rw[<-d'.np] at this;obtain⟨ds,c1,c2⟩:=b2 0 (X9 _)
  have hd:ds=[]:=by
   have hv:dvs=[]:=by
    have:=b1 (λ_=>False) (λ_=>none)
    rw[e6] at this
    simpa[RepDs] using this
   rw[hv] at c2;cases c2;rfl
  subst hd;exact⟨B'.np,⟨C,addr i.init,fdOf i.init,psOf i.init,e1,e2,e3,e4,this,c1⟩,λrs h p e=>zgj d'.at' e6 e⟩
 ·obtain ⟨C,B',e2,e3,e4,e5,e6⟩:=T.meths i hi p hp
  obtain⟨x',q',st',N',d'⟩:=T.defs _ B' e5;obtain⟨dvs,b1,b2⟩:=d'.bi
  have:=ih _ B' e5
  rw[<-d'.np] at this;obtain⟨ds,c1,c2⟩:=b2 0 (X9 _)
  have hd:ds=[]:=by
   have hv:dvs=[]:=by
    have:=b1 (λ_=>False) (λ_=>none)
    rw[e6] at this
    simpa[RepDs] using this
   rw[hv] at c2;cases c2;rfl
  subst hd;exact⟨B'.np,⟨C,addr p.2,fdOf p.2,psOf p.2,e2,e3,e4,this,c1⟩,λrs h p e=>zgj d'.at' e6 e⟩
theorem zp7(Dd:zf3 K fns cls Pr globs gds exs fi x qual st f fd N ps B){μ:List Addr}{h0:Sto}{H:Hp}{rs:List R}{vs:List V}(qr:zaY K μ h0 H rs vs)(hv0:vs.length=ps.length)(hl0:rs.length=B.np):RepE K μ h0 H (rs.map some++ZO (B.ns-B.np) none) (L2.start N vs):=by
 have hpl:ps.length<=N.length:=by have:=congrArg Yq Dd.sc.pre;rw[XO] at this;exact OZE this
 have re:RepE K μ h0 H (rs.map some++ZO (B.ns-B.np) none) (L2.start N vs):=by
  have hv:=qr.length;have h1:=Dd.np;have h2:=Dd.ns;refine⟨?_,λi r e=>?_⟩
  ·unfold L2.start
   simp;exact OYy hl0 hv h2 hv0 hpl
  ·by_cases hi:i<rs.length
   ·rw [ZM (by simpa using hi)] at e
    obtain⟨v,e1,z⟩:=qr.env i r e;refine⟨v,?_,z⟩;unfold L2.start
    rw[ZM (by simp;omega)]
    exact e1
   ·rw [ZS (by simpa using hi),List.getElem?_replicate] at e
    split at e<;>cases e
 exact re
theorem zs1(T:Txt w K mg fns cls Pr globs gds exs exA addr fdOf psOf)(Dd:zf3 K fns cls Pr globs gds exs fi x qual st f fd N ps B)
  (ih:∀g B,Pr[g]?=some B->FnOk P w K mg base CX0 (2*m) (addr g) (fdOf g) (psOf g) (spF K (psOf g).length (zad Pr m g)))
  (ihx:∀g B,Pr[g]?=some B->FnOk P w K mg base (CXk P w) (2*m) (addr g) (fdOf g) (psOf g) (spX K (cvOf exA) (psOf g).length (zad Pr m (xof g)))):FnOk P w K mg base CX0 (2*m+2) f fd ps (spF K ps.length (zad Pr (m+1) fi)):=by
 refine Dd.fn.ok (k:=2*m+1) Dd.sc (λvs H Q E h=>?_) (λcdv A outer s H vs Q E hr h=>?_)
 ·exact h.1
 ·have G:=(znK (CX:=CX0) (cdv:=cdv) (outer:=outer) (s:=s) (H:=H) (E:=E) T Dd ih ihx hr).1
  refine⟨_,okSs B.body _ (zbo st) _ Dd.chk G,?_⟩;obtain⟨hv0,μ,h0,rs,R0,qr,r,h',e,k⟩:=h
  have hl0:rs.length=B.np:=by rw[qr.length,hv0,Dd.np]
  have ef:zaw B.np B.dfl rs=rs:=zfp (by exact OZ2 hl0.symm);rw[zba] at e;simp only[Dd.at'] at e;rw[ef,if_pos hl0] at e;have re:=zp7 Dd qr hv0 hl0
  cases eb:IT.exs (zad Pr m) B.body (rs.map some++ZO (B.ns-B.np) none) h0 with
  |none=>rw[eb] at e;cases e
  | some p=>
   obtain⟨⟨fl,env'⟩,h1⟩:=p;rw[eb] at e;refine⟨μ,h0,_,R0,re,fl,env',h1,eb,λμ' H' σ' st1 R1 _=>?_⟩
   cases fl with|ret r1=>intro v qv;obtain⟨μ2,st2,R2,q2⟩:=znv st1 R0 R1 qv e;exact k μ2 H' v st2 R2 q2|nx=>obtain⟨μ2,st2,R2,q2⟩:=znv (v:=.non) st1 R0 R1 (by simp only[RepR,RepD]) e;exact k μ2 H' .non st2 R2 q2|brk=>cases e|cnt=>cases e
theorem zrv{outer:List YI}{H:Hp}{s s':Shared}{E E':XK}{e:Value}(h:CXk P w outer H s E e s')(i:∀C H,E C none H->E' C none H):CXk P w outer H s E' e s':=by obtain⟨a,C,H',e1,f,d,q⟩:=h;exact⟨a,C,H',e1,f,d,i C H' q⟩
theorem zqD(T:Txt w K mg fns cls Pr globs gds exs exA addr fdOf psOf)(Dd:zf3 K fns cls Pr globs gds exs fi x qual st f fd N ps B)
  (ih:∀g B,Pr[g]?=some B->FnOk P w K mg base CX0 (2*m) (addr g) (fdOf g) (psOf g) (spF K (psOf g).length (zad Pr m g)))
  (ihx:∀g B,Pr[g]?=some B->FnOk P w K mg base (CXk P w) (2*m) (addr g) (fdOf g) (psOf g) (spX K (cvOf exA) (psOf g).length (zad Pr m (xof g)))):FnOk P w K mg base (CXk P w) (2*m+2) f fd ps (spX K (cvOf exA) ps.length (zad Pr (m+1) (xof fi))):=by
 obtain⟨oc,od,dV,kV,doc,pm,an,cdv,ct,osl,rfl,lk,hcd⟩:=Dd.fn.ex;refine ztg (k:=2*m+1) lk hcd Dd.sc (λvs H Q E h=>h.1) λA outer s H vs Q E hr h=>?_;obtain⟨G,Ex⟩:=znK (CX:=CXk P w) (cdv:=cdv) (outer:=outer) (s:=s) (H:=H) (E:=E) T Dd ih ihx hr;have dc:zhd (cxOf (CXk P w) P w K mg base N qual (zah st) f cdv A outer s H E):=⟨rfl,rfl,rfl⟩
 have wE:∀C H,wX (cvOf exA) (λr H'=>∃C,cvOf exA r=some C/\E C none H') C none H->E C none H:=λC H ⟨r,e1,C',e2,q⟩=>by rw[e1] at e2;cases e2;exact q
 have Th:Thr (cxOf (CXk P w) P w K mg base N qual (zah st) f cdv A outer s H E) (cvOf exA) (λr H'=>∃C,cvOf exA r=some C/\E C none H'):=by
  refine⟨Wt.leaving,λpins σ H1 s1 e s' I c=>?_,λpins σ H1 s1 h' a C vs I m q=>?_⟩
  ·exact ZF (ztD dc I c) (λ_ s'' z=>zrv z wE) λ_ _ z=>z
  ·exact zn8 dc I m (wE _ _ q)
 have hx:=okXs B.body _ (zbo st) _ Dd.chk G Ex Th;refine⟨λD σ H=>RX K (exXs (zad Pr m) B.body) (λr H'=>∃C,cvOf exA r=some C/\E C none H') σ H,λpins s σ H D I q=>ZF (hx pins s σ H I q) (λ_ _ z=>z.elim) λ_ _ z=>z,?_⟩;obtain⟨hv0,μ,h0,rs,r,h',C,R0,qr,e,hC,k⟩:=h
 have hl0:rs.length=B.np:=by rw[qr.length,hv0,Dd.np]
 have ef:zaw B.np B.dfl rs=rs:=zfp (by exact OZ2 hl0.symm);rw[zd6 T.few Dd.at',ef,if_pos hl0] at e;have re:=zp7 Dd qr hv0 hl0
 cases eb:exXs (zad Pr m) B.body (rs.map some++ZO (B.ns-B.np) none) h0 with
 |none=>rw[eb] at e;cases e
 | some p=>
  obtain⟨r1,h1⟩:=p;rw[eb] at e;simp only at e;refine⟨μ,h0,_,R0,re,r1,h1,eb,λμ1 H1 st1 R1=>?_⟩;unfold finX at e
  split at e
  ·rename_i c
   obtain⟨μ2,st2,R2,q2⟩:=znv (v:=.int c) st1 R0 R1 (by simp only[RepR,RepD]) e
   have er:r=.d (.int c):=by
    unfold fin at e
    split at e
    ·cases e;rfl
    ·split at e
     ·cases e;rfl
     ·cases e
   subst er;exact⟨C,hC,k μ2 H1 st2 R2⟩
  ·cases e
theorem zly:FnOk P w K mg base (CXk P w) 0 f fd ps (spX K cv np (zad Pr 0 fi)):=by
 refine⟨λvs H Q E h=>?_,λA outer s H args us vs Q E hr e0 hb r h=>?_⟩
 ·obtain ⟨_,μ,h0,rs,r,h',C,R0,qr,e,_⟩:=h
  cases e
 ·obtain ⟨_,μ,h0,rs,r,h',C,R0,qr,e,_⟩:=h
  cases e
theorem znw:FnOk P w K mg base CX0 0 f fd ps (spF K np (zad Pr 0 fi)):=by
 refine⟨λvs H Q E h=>?_,λA outer s H args us vs Q E hr e0 hb r h=>?_⟩
 ·obtain ⟨_,μ,h0,rs,R0,qr,r,h',e,k⟩:=h
  cases e
 ·obtain ⟨_,μ,h0,rs,R0,qr,r,h',e,k⟩:=h
  cases e
theorem zhe(T:Txt w K mg fns cls Pr globs gds exs exA addr fdOf psOf):∀m fi B,Pr[fi]?=some B->FnOk P w K mg base CX0 (2*m) (addr fi) (fdOf fi) (psOf fi) (spF K (psOf fi).length (zad Pr m fi))/\FnOk P w K mg base (CXk P w) (2*m) (addr fi) (fdOf fi) (psOf fi) (spX K (cvOf exA) (psOf fi).length (zad Pr m (xof fi)))
 |0,fi,B,e=>⟨znw,zly⟩
 |m+1,fi,B,e=>by obtain⟨x,q,st,N,d⟩:=T.defs fi B e;have a:=λg B' e'=>(zhe T m g B' e').1;have b:=λg B' e'=>(zhe T m g B' e').2;exact⟨zs1 T d a b,zqD T d a b⟩
theorem zqO(T:Txt w K mg fns cls Pr globs gds exs exA addr fdOf psOf)(m fi:Nat)(B:F)(e:Pr[fi]?=some B):FnOk P w K mg base CX0 (2*m) (addr fi) (fdOf fi) (psOf fi) (spF K (psOf fi).length (zad Pr m fi)):=(zhe T m fi B e).1
end
theorem zjT:∀ns:List Int,RepDs K A H (ns.map D.int) (ns.map V.int)| []=>.nil|n::r=>.cons (by simp only[RepD]) (zjT r)
theorem zlF{ns:List Int}{E:XK}(hS:SqL K H a (ns.map V.int))(e:m [.d (.lst (ns.map .int))] []=some (.d (.bl true),[])):spF K 1 m [.ref a] H (λv _=>v=.bl true) E:=by
 have nl:∀b,¬Live [] [] b:=by
  rintro b ⟨i,xs,e1,_⟩
  simp at e1
 refine⟨rfl,[],[],[.d (.lst (ns.map .int))],⟨rfl,by simp,λi a o e1 _=>by simp at e1⟩,.cons ?_ .nil,_,_,e,λμ' H' v st R1 q=>?_⟩
 ·simp only[RepR,RepD]
  refine⟨a,ns.map V.int,rfl,?_,zjT ns⟩
  rcases hS with z | z
  ·exact .inl ⟨nl a,z⟩
  ·exact .inr z
 ·simpa only[RepR,RepD] using q
theorem us0{P:List Value->Prop}(h:P []):∀us:List Value,us.length=0->P us:=λus hl=>by
 cases us with|nil=>exact h|cons=>cases hl
theorem usS{P:List Value->Prop}{n:Nat}(h:∀a,∀us:List Value,us.length=n->P (a::us)):∀us:List Value,us.length=n+1->P us:=λus hl=>by
 cases us with|nil=>cases hl|cons a r=>exact h a r (Nat.succ.inj hl)
theorem us1{P:List Value->Prop}(h:∀a0,P [a0]):∀us:List Value,us.length=1->P us:=usS λa=>us0 (h a)
theorem us2{P:List Value->Prop}(h:∀a0 a1,P [a0,a1]):∀us:List Value,us.length=2->P us:=usS λa=>us1 (h a)
theorem us3{P:List Value->Prop}(h:∀a0 a1 a2,P [a0,a1,a2]):∀us:List Value,us.length=3->P us:=usS λa=>us2 (h a)
theorem us4{P:List Value->Prop}(h:∀a0 a1 a2 a3,P [a0,a1,a2,a3]):∀us:List Value,us.length=4->P us:=usS λa=>us3 (h a)
open PySem.W in
theorem toX{r:RowW}{d:DefRec}{kwd:List (Str×Expr)}{run:Value->List Value->Sem Value}(e:∀P,as=(K P).map (·.1))
  (h:WalkO q loose XP (InK K) r d kwd run):WalkX q loose XP (X.obsZ as) (X.valZ K n t) r d kwd run:=by
 intro w s₀ s₁ mg mb G y a o pm cd doc dV kV h1 h2 h3 h4 h5 h6 args vals as' L;exact h w s₀ s₁ mg mb G (InK.keeps w _ _ (X.z_facts e y).2.1 L.keeps) a o pm cd doc dV kV h1 h2 h3 h4 h5 h6 args vals as'
end IT
namespace IT
inductive Ok{α:Type}(m:Option (α×Sto))(Q:α->Sto->Prop):Prop where|mk (a:α) (h':Sto) (e:m=some (a,h')) (q:Q a h')
section
variable {α β:Type}{Q:α->Sto->Prop}{R:β->Sto->Prop}{h:Sto}
theorem Ok.mono(k:Ok m Q)(i:∀a h,Q a h->Q' a h):Ok m Q':=by obtain⟨a,h',e,q⟩:=k;exact⟨a,h',e,i a h' q⟩
@[simp] theorem ok_bnd{x:M α}{f:α->M β}:Ok (bnd x f h) R↔Ok (x h) λa h1=>Ok (f a h1) R:=by
 unfold bnd;constructor
 ·rintro⟨b,h',e,q⟩
  cases ex:x h with|none=>rw[ex] at e;cases e|some p=>rw[ex] at e;exact⟨p.1,p.2,rfl,b,h',e,q⟩
 ·rintro⟨a,h1,e,b,h',e',q⟩
  rw[e];exact⟨b,h',e',q⟩
@[simp] theorem ok_some'{a:α}:Ok (some (a,h)) Q↔Q a h:=by
 constructor
 ·rintro⟨b,h',e,q⟩;cases e;exact q
 ·intro q;exact⟨a,h,rfl,q⟩
@[simp] theorem ok_ok{a:α}:Ok (ok a h) Q↔Q a h:=ok_some'
@[simp] theorem ok_none:Ok (none:Option (α×Sto)) Q↔False:=by
 constructor
 ·rintro⟨b,h',e,q⟩;cases e
 ·intro z;exact z.elim
@[simp] theorem ok_opt{o:Option α}:Ok (opt o h) Q↔∃a,o=some a/\Q a h:=by
 unfold opt
 cases o with|none=>simp|some a=>simp
@[simp] theorem ok_rd_d{x:D}{Q:D->Sto->Prop}:Ok (rd (.d x) h) Q↔Q x h:=ok_some'
@[simp] theorem ok_fz_d{x:D}{Q:D->Sto->Prop}:Ok (fz (.d x) h) Q↔Q x h:=ok_some'
end
theorem zoU(I:Nat->Env->Sto->Prop)
  (step:∀i x σ h,xs[i]?=some x->I i σ h->Ok (f x σ h) λp h1=>match p.1 with
   |.ret r=>Q (.ret r,p.2) h1|.brk=>Q (.nx,p.2) h1
   |_=>zaM l h h1=true/\I (i+1) p.2 h1)
  (fin:∀σ h,I xs.length σ h->Q (.nx,σ) h) {σ:Env} {h:Sto} (h0:I 0 σ h):Ok (loop l f xs σ h) Q:=by
 have gen:∀(ys:List Ite) (i:Nat) (σ:Env) (h:Sto),xs.drop i=ys->i<=xs.length->I i σ h->Ok (loop l f ys σ h) Q:=by
  intro ys
  induction ys with
  | nil=>
   intro i σ h e hi hI
   have:i=xs.length:=by
    have:=congrArg Yq e
    simp at this;exact(OZp this hi).symm
   subst this;exact⟨_,_,rfl,fin σ h hI⟩
  | cons y ys ih=>
   intro i σ h e hi hI
   have hil:i<xs.length:=by
    have:=congrArg Yq e
    simp at this;exact OZo hi this
   have hy:xs[i]?=some y:=by
    have:=congrArg (λz=>z[0]?) e
    simpa using this
   have hd:xs.drop (i+1)=ys:=by
    have:=congrArg List.tail e
    simpa using this
   obtain⟨⟨fl,σ1⟩,h1,ef,q⟩:=step i y σ h hy hI;simp only[loop,ef]
   cases fl with|ret r=>exact⟨_,_,rfl,q⟩|brk=>exact⟨_,_,rfl,q⟩|nx=>simp only at q⊢;rw[if_pos q.1];exact ih (i+1) σ1 h1 hd (by omega) q.2|cnt=>simp only at q⊢;rw[if_pos q.1];exact ih (i+1) σ1 h1 hd (by omega) q.2
 exact gen xs 0 σ h (by simp) (by omega) h0
theorem zce{α:Type}{g:α->Ite}{l:Option Nat}{f:Ite->Env->M (Fl×Env)}{xs:List α}{Q:Fl×Env->Sto->Prop}(I:Nat->Env->Sto->Prop)
  (step:∀i x σ h,xs[i]?=some x->I i σ h->Ok (f (g x) σ h) λp h1=>match p.1 with
   |.ret r=>Q (.ret r,p.2) h1|.brk=>Q (.nx,p.2) h1
   |_=>zaM l h h1=true/\I (i+1) p.2 h1)
  (fin:∀σ h,I xs.length σ h->Q (.nx,σ) h) {σ:Env} {h:Sto} (h0:I 0 σ h):Ok (loop l f (xs.map g) σ h) Q:=by
 refine zoU I (λi x σ h hx hI=>?_) (λσ h hI=>fin σ h (by simpa using hI)) h0;rw[ZX,ZL] at hx;obtain⟨y,hy,rfl⟩:=hx;exact step i y σ h hy hI
theorem zbI{l:Option Nat}{xs:List D}{Q:Fl×Env->Sto->Prop}(I:Nat->Env->Sto->Prop)
  (step:∀i x σ h,xs[i]?=some x->I i σ h->Ok (f (dI x) σ h) λp h1=>match p.1 with
   |.ret r=>Q (.ret r,p.2) h1|.brk=>Q (.nx,p.2) h1
   |_=>zaM l h h1=true/\I (i+1) p.2 h1)
  (fin:∀σ h,I xs.length σ h->Q (.nx,σ) h) {σ:Env} {h:Sto} (h0:I 0 σ h):Ok (loop l f (xs.map dI) σ h) Q:=zce I step fin h0
theorem zb0{α β:Type}{g:β->Ite}{l:Option Nat}{f:Ite->M (Option α)}{xs:List β}{Q:List α->Sto->Prop}(I:Nat->List α->Sto->Prop)
  (step:∀i x ys h,xs[i]?=some x->I i ys h->Ok (f (g x) h) λo h1=>zaM l h h1=true/\I (i+1) (match o with | some y=>ys++[y] | none=>ys) h1)
  (fin:∀ys h,I xs.length ys h->Q ys h) {h:Sto} (h0:I 0 [] h):Ok (zaO l f (xs.map g) h) Q:=by
 have gen:∀(zs:List β) (i:Nat) (ys:List α) (h:Sto),xs.drop i=zs->i<=xs.length->I i ys h->Ok (zaO l f (zs.map g) h) λr h1=>Q (ys++r) h1:=by
  intro zs
  induction zs with
  | nil=>
   intro i ys h e hi hI
   have:i=xs.length:=by
    have:=congrArg Yq e
    simp at this;exact(OZp this hi).symm
   subst this
   exact⟨_,_,rfl,by show Q (ys++[]) h;rw[Ze];exact fin ys h hI⟩
  | cons y zs ih=>
   intro i ys h e hi hI
   have hil:i<xs.length:=by
    have:=congrArg Yq e
    simp at this;exact OZo hi this
   have hy:xs[i]?=some y:=by
    have:=congrArg (λz=>z[0]?) e
    simpa using this
   have hd:xs.drop (i+1)=zs:=by
    have:=congrArg List.tail e
    simpa using this
   obtain⟨o,h1,ef,st,q⟩:=step i y ys h hy hI;simp only[ZC,zaO,ef];rw[if_pos st,ok_bnd];refine(ih (i+1) _ h1 hd (by omega) q).mono λr h2 hq=>?_;rw[ok_ok]
   cases o with|none=>exact hq|some z=>simpa using hq
 have:=gen xs 0 [] h (by simp) (by omega) h0
 simpa using this
theorem zn9{α:Type}{l:Option Nat}{f:Ite->M (Option α)}{xs:List D}{Q:List α->Sto->Prop}(I:Nat->List α->Sto->Prop)
  (step:∀i x ys h,xs[i]?=some x->I i ys h->Ok (f (dI x) h) λo h1=>zaM l h h1=true/\I (i+1) (match o with | some y=>ys++[y] | none=>ys) h1)
  (fin:∀ys h,I xs.length ys h->Q ys h) {h:Sto} (h0:I 0 [] h):Ok (zaO l f (xs.map dI) h) Q:=zb0 I step fin h0
theorem zgy{α β:Type}{d:β->Ite}{l:Option Nat}{f:Ite->M (Option α)}{g:β->Option α}{h:Sto}:∀{xs:List β},(∀x∈xs,f (d x) h=some (g x,h))->zaM l h h=true->zaO l f (xs.map d) h=some (xs.filterMap g,h)
 | [],_,_=>rfl
 |x::xs,e,s=>by
  simp only[ZC,zaO,e x (by simp),if_pos s];unfold bnd;rw[zgy (λy hy=>e y (by simp[hy])) s];simp only[ok,YZ]
  cases g x<;>rfl
theorem zuv(Γ:Calls)(i:_)(σ:Env):ev Γ (.var i) σ=(λh=>match σ[i]? with
  |some (some r)=>some (r,h)
  |_=>none):=rfl
theorem zuq(Γ:Calls)(a:_)(σ:Env):ev Γ (.neg a) σ=(bnd (ev Γ a σ) λx=>match x with
  |.d (.int i)=>ok (.d (.int (-i)))
  |_=>λ_=>none):=rfl
theorem ztw(Γ:Calls)(a:_)(b:_)(σ:Env):ev Γ (.and a b) σ=(bnd (ev Γ a σ) λx=>match x with
  |.d (.bl c)=>if c then ev Γ b σ else ok (.d (.bl false))
  |_=>λ_=>none):=rfl
theorem zuL(Γ:Calls)(a:_)(b:_)(σ:Env):ev Γ (.or a b) σ=(bnd (ev Γ a σ) λx=>match x with
  |.d (.bl c)=>if c then ok (.d (.bl true)) else ev Γ b σ
  |_=>λ_=>none):=rfl
theorem zvl(Γ:Calls)(m:_)(o:_)(es:_)(σ:Env):ev Γ (.me m o es) σ=(bnd (ev Γ o σ) λx=>bnd (zf2 x) λ_=>bnd (evs Γ es σ) λrs=>meth m x rs):=rfl
theorem zr8(Γ:Calls)(c:_)(f:_)(es:_)(σ:Env):ev Γ (.make c f es) σ=(bnd (evs Γ es σ) λrs=>bnd (newA c) λx=>bnd (Γ f (x::rs)) λr=>match r with
  |.d .non=>ok x
  |_=>λ_=>none):=rfl
theorem zvq(Γ:Calls)(c:_)(m:_)(f:_)(o:_)(es:_)(σ:Env):ev Γ (.mc c m f o es) σ=(bnd (ev Γ o σ) λx=>bnd (isA x c m) λ_=>bnd (evs Γ es σ) λrs=>Γ f (x::rs)):=rfl
theorem zq9(Γ:Calls)(tg:_)(it:_)(c:_)(el:_)(σ:Env):ev Γ (.lstO tg it c el) σ=(bnd (evI Γ it σ) λw=>bnd (zaO w.l (λx=>bnd (zax tg x (clr tg.slots σ)) λσ'=>bnd (tvs Γ c σ') λt=>if t then bnd (ev Γ el σ') λr=>bnd (zbQ r) λd=>ok (some d) else ok none) w.xs) λls=>allocO ls):=rfl
theorem ztj(Γ:Calls)(a:_)(i:_)(σ:Env):ev Γ (.oix a i) σ=(bnd (ev Γ a σ) λx=>bnd (ev Γ i σ) λy=>bnd (zbK x) λo=>match o,y with
  |some ls,.d (.int k)=>match at' ls k with
   |some l=>ok (.loc l)
   |none=>λ_=>none
  |_,_=>λ_=>none):=rfl
theorem zrj(Γ:Calls)(a:_)(σ:Env):ev Γ (.olen a) σ=(bnd (ev Γ a σ) λx=>bnd (zbK x) λo=>match o with
  |some ls=>ok (.d (.int ls.length))
  |none=>λ_=>none):=rfl
theorem zor(Γ:Calls) (σ:Env):ev Γ .stuck σ=(λ_=>none):=rfl
theorem zq4(Γ:Calls)(e:_)(σ:Env):evI Γ (.rng e) σ=(bnd (ev Γ e σ) λr=>zgY r):=rfl
theorem zrq(Γ:Calls)(e:_)(σ:Env):evI Γ (.enu e) σ=(bnd (ev Γ e σ) λr=>zlC r):=rfl
theorem zrQ:fzs []=(ok []):=rfl
theorem zpp(r:_)(rs:_):fzs (r::rs)=(bnd (fz r) λd=>bnd (fzs rs) λds=>ok (d::ds)):=rfl
theorem zqR:rds []=(ok []):=rfl
theorem zpk(r:_)(rs:_):rds (r::rs)=(bnd (rd r) λd=>bnd (rds rs) λds=>ok (d::ds)):=rfl
theorem zru(Γ:Calls)(o:_)(i:_)(e:_)(σ:Env):ex Γ (.setI o i e) σ=(bnd (ev Γ e σ) λr=>bnd (ev Γ o σ) λx=>bnd (ev Γ i σ) λy=>bnd (fz r) λd=>bnd (rd y) λy=>bnd (zf8 x y d) λ_=>ok (.nx,σ)):=rfl
theorem zoQ(Γ:Calls) (σ:Env):ex Γ .stuck σ=(λ_=>none):=rfl
theorem zok(Γ:Calls)(s:_)(r:_)(σ:Env):exs Γ (s::r) σ=(bnd (ex Γ s σ) λp=>match p.1 with
  |.nx=>exs Γ r p.2
  |_=>ok p):=rfl
theorem zjf:meth .append (.loc l) [r] h=(bnd (fz r) λd h=>match h[l]? with
  |some (.lst xs)=>if decide (xs.length<big) then some (.d .non,h.set l (.lst (xs++[d]))) else none
  |_=>none) h:=rfl
theorem zot:meth .pop (.loc l) [] h=(λh=>match h[l]? with
  |some (.lst xs)=>match xs[xs.length-1]? with
   |some y=>some (.d y,h.set l (.lst xs.dropLast))|none=>none
  |_=>none) h:=rfl
theorem zld:meth .clear (.loc l) [] h=(λh=>match h[l]? with
  |some (.lst xs)=>some (.d .non,h.set l (.lst []))
  |_=>none) h:=rfl
theorem ziR:meth .extend (.loc l) [r] h=(bnd (rd r) λd h=>match d with
  |.lst ys=>match h[l]? with
   |some (.lst xs)=>if fit (xs.length+ys.length) then some (.d .non,h.set l (.lst (xs++ys))) else none|_=>none
  |_=>none) h:=rfl
section
variable {Γ:Calls}{σ:Env}{h:Sto}
section
variable {Q:Fl×Env->Sto->Prop}
theorem zll:Ok (exs Γ (s::r) σ h) Q↔Ok (ex Γ s σ h) λp h1=>match p.1 with | .nx=>Ok (exs Γ r p.2 h1) Q | .ret r=>Q (.ret r,p.2) h1 | .brk=>Q (.brk,p.2) h1 | .cnt=>Q (.cnt,p.2) h1:=by
 rw[zok,ok_bnd];constructor
 ·intro k
  refine k.mono λp h1 q=>?_;obtain⟨fl,e⟩:=p
  cases fl<;>simpa using q
 ·intro k
  refine k.mono λp h1 q=>?_;obtain⟨fl,e⟩:=p
  cases fl<;>simpa using q
theorem zsH:Ok (ex Γ (.setI o i e) σ h) Q↔Ok (ev Γ e σ h) λr h1=>Ok (ev Γ o σ h1) λx h2=>Ok (ev Γ i σ h2) λy h3=>Ok (fz r h3) λd h4=>Ok (rd y h4) λy h5=>Ok (zf8 x y d h5) λ_ h6=>Q (.nx,σ) h6:=by rw[zru];simp only[ok_bnd,ok_ok]
end
section
variable {Q:Env->Sto->Prop}
theorem zq0:Ok (za3 (.name i) r σ h) Q↔Q (σ.set i (some r)) h:=by rw[za3];exact ok_ok
theorem zue:Ok (za3 (.tup ts) r σ h) Q↔Ok (rd r h) λd h1=>∃xs,d=.tup xs/\Ok (bindTs ts xs σ h1) Q:=by
 rw[za3,ok_bnd]
 constructor<;>intro k<;>refine k.mono λd h1 q=>?_
 ·cases d<;>first | (exact⟨_,rfl,q⟩) | (simp at q)
 ·obtain⟨xs,rfl,q⟩:=q;exact q
theorem zmR:Ok (bindTs [] [] σ h) Q↔Q σ h:=by simp only[bindTs,ok_ok]
theorem zkV:Ok (bindTs (t::ts) (x::xs) σ h) Q↔Ok (za3 t (.d x) σ h) λσ' h1=>Ok (bindTs ts xs σ' h1) Q:=by simp only[bindTs,ok_bnd]
end
theorem w_bI:Ok (zax tg (.r x) σ h) Q↔Ok (za3 tg x σ h) Q:=by rw[zax]
theorem zvK:Ok (zax (.tup [a,b]) (.en i x) σ h) Q↔Ok (za3 a (.d (.int i)) σ h) λσ' h1=>Ok (za3 b x σ' h1) Q:=by rw[zax];simp only[ok_bnd]
section
variable {Q:R->Sto->Prop}
theorem zu0:Ok (ev Γ (.var i) σ h) Q↔∃r,σ[i]?=some (some r)/\Q r h:=by
 rw[zuv]
 cases e:σ[i]? with|none=>simp|some o=>cases o<;>simp
theorem zuY:Ok (ev Γ (.neg a) σ h) Q↔Ok (ev Γ a σ h) λx h1=>∃i,x=.d (.int i)/\Q (.d (.int (-i))) h1:=by
 rw[zuq,ok_bnd]
 constructor<;>intro k<;>refine k.mono λx h1 q=>?_
 ·cases x with
  |loc l=>simp at q
  |d d=>cases d<;>first | (exact⟨_,rfl,by simpa using q⟩) | (simp at q)
 ·obtain⟨i,rfl,q⟩:=q;simpa using q
theorem zuM:Ok (ev Γ (.and a b) σ h) Q↔Ok (ev Γ a σ h) λx h1=>∃c,x=.d (.bl c)/\(c=true->Ok (ev Γ b σ h1) Q)/\(c=false->Q (.d (.bl false)) h1):=by
 rw[ztw,ok_bnd]
 constructor<;>intro k<;>refine k.mono λx h1 q=>?_
 ·cases x with
  |loc l=>simp at q
  |d d=>cases d<;>first | (rename_i c;refine⟨c,rfl,?_⟩;cases c<;>simpa using q) | (simp at q)
 ·obtain⟨c,rfl,q⟩:=q;cases c<;>simpa using q
theorem w_or:Ok (ev Γ (.or a b) σ h) Q↔Ok (ev Γ a σ h) λx h1=>∃c,x=.d (.bl c)/\(c=false->Ok (ev Γ b σ h1) Q)/\(c=true->Q (.d (.bl true)) h1):=by
 rw[zuL,ok_bnd]
 constructor<;>intro k<;>refine k.mono λx h1 q=>?_
 ·cases x with
  |loc l=>simp at q
  |d d=>cases d<;>first | (rename_i c;refine⟨c,rfl,?_⟩;cases c<;>simpa using q) | (simp at q)
 ·obtain⟨c,rfl,q⟩:=q;cases c<;>simpa using q
theorem w_me:Ok (ev Γ (.me m o es) σ h) Q↔Ok (ev Γ o σ h) λx h1=>Ok (zf2 x h1) λ_ h2=>Ok (evs Γ es σ h2) λrs h3=>Ok (meth m x rs h3) Q:=by rw[zvl];simp only[ok_bnd]
end
theorem zl1:Ok (fzs [] h) Q↔Q [] h:=by rw[zrQ];exact ok_ok
theorem zkF:Ok (fzs (r::rs) h) Q↔Ok (fz r h) λd h1=>Ok (fzs rs h1) λds h2=>Q (d::ds) h2:=by rw[zpp];simp only[ok_bnd,ok_ok]
theorem zlP:Ok (rds [] h) Q↔Q [] h:=by rw[zqR];exact ok_ok
theorem zkS:Ok (rds (r::rs) h) Q↔Ok (rd r h) λd h1=>Ok (rds rs h1) λds h2=>Q (d::ds) h2:=by rw[zpk];simp only[ok_bnd,ok_ok]
section
variable {Q:Bool->Sto->Prop}
end
section
variable {Q:List D->Sto->Prop}
def zob(Γ:Calls)(tg:Tg)(c:List T)(el:E)(σ:Env)(x:Ite):M (Option D):=bnd (zax tg x (clr tg.slots σ)) λσ'=>bnd (tvs Γ c σ') λt=>if t then bnd (ev Γ el σ') λr=>bnd (fz r) λd=>ok (some d) else ok none
end
theorem zsd:Ok (zob Γ tg c el σ x h) Q↔Ok (zax tg x (clr tg.slots σ) h) λσ' h1=>Ok (tvs Γ c σ' h1) λt h2=>(t=true->Ok (ev Γ el σ' h2) λr h3=>Ok (fz r h3) λd h4=>Q (some d) h4)/\(t=false->Q none h2):=by
 unfold zob;simp only[ok_bnd]
 constructor<;>intro k<;>refine k.mono λσ' h1 q=>?_<;>refine q.mono λt h2 q=>?_<;>cases t<;>simpa using q
def znC(Γ:Calls)(tg:Tg)(c:List T)(el:E)(σ:Env)(x:Ite):M (Option Nat):=bnd (zax tg x (clr tg.slots σ)) λσ'=>bnd (tvs Γ c σ') λt=>if t then bnd (ev Γ el σ') λr=>bnd (zbQ r) λd=>ok (some d) else ok none
theorem zte:Ok (ev Γ (.lstO tg it c el) σ h) Q↔Ok (evI Γ it σ h) λw h1=>Ok (zaO w.l (znC Γ tg c el σ) w.xs h1) λls h2=>Q (.loc h2.length) (h2++[.ols ls]):=by rw[zq9];simp only[ok_bnd,allocO,ok_some'];rfl
theorem zqL:Ok (znC Γ tg c el σ x h) Q↔Ok (zax tg x (clr tg.slots σ) h) λσ' h1=>Ok (tvs Γ c σ' h1) λt h2=>(t=true->Ok (ev Γ el σ' h2) λr h3=>Ok (zbQ r h3) λd h4=>Q (some d) h4)/\(t=false->Q none h2):=by
 unfold znC;simp only[ok_bnd]
 constructor<;>intro k<;>refine k.mono λσ' h1 q=>?_<;>refine q.mono λt h2 q=>?_<;>cases t<;>simpa using q
section
variable {Q:Wk->Sto->Prop}
theorem zvN:Ok (evI Γ (.enu e) σ h) Q↔Ok (ev Γ e σ h) λr h1=>isLs r=true/\Ok (zbp r h1) λw h2=>∃l,zav 0 w.xs=some l/\Q ⟨l,w.l⟩ h2:=by
 rw[zrq];simp only[ok_bnd,zlC]
 refine iff_of_eq (congrArg (Ok (ev Γ e σ h)) (funext λr=>funext λh1=>propext ?_))
 by_cases c:isLs r=true
 ·rw [if_pos c,ok_bnd]
  simp only[c,true_and];refine iff_of_eq (congrArg (Ok (zbp r h1)) (funext λw=>funext λh2=>propext ?_))
  cases zav 0 w.xs<;>simp
 ·rw[if_neg c];simp[c]
def nums{α:Type}(i:Int):List α->List (Int×α)| []=>[]|x::t=>(i,x)::nums (i+1) t
theorem zl3{α:Type}:∀(xs:List α) (i:Int) (j:Nat) (p:Int×α),(nums i xs)[j]?=some p->p.1=i+j/\xs[j]?=some p.2
 | [],_,_,_,e=>by simp[nums] at e|x::xs,i,0,p,e=>by simp[nums] at e;subst e;exact⟨by simp,rfl⟩
 |x::xs,i,j+1,p,e=>by
  simp only[nums,YS] at e⊢;obtain⟨h1,h2⟩:=zl3 xs (i+1) j p e
  exact⟨by rw[h1];push_cast;exact OZP,h2⟩
theorem zoT:Ok (zbp (.d (.tup xs)) h) Q↔Q ⟨xs.map dI,none⟩ h:=by simp only[zbp,zbK,ok_bnd,ok_some',ok_rd_d,wkOf,items,ok_ok]
theorem zpy:Ok (zbp (.d (.lst xs)) h) Q↔Q ⟨xs.map dI,none⟩ h:=by simp only[zbp,zbK,ok_bnd,ok_some',ok_rd_d,wkOf,items,ok_ok]
theorem zpn:Ok (zbp (.loc l) h) Q↔∃o,h[l]?=some o/\match o with
  |.lst xs=>Q ⟨xs.map dI,some l⟩ h|.fro xs=>Q ⟨xs.map dI,some l⟩ h|.ols ls=>Q ⟨ls.map λl=>.r (.loc l),some l⟩ h|.ins _ _=>False
  |.rcd _=>False:=by
 simp only[zbp,zbK,ok_bnd]
 cases e:h[l]? with|none=>simp[rd,e]|some o=>cases o<;>simp[rd,e,Ob.isL,Ob.items,wkOf,items]
theorem zu1:Ok (evI Γ (.rng e) σ h) Q↔Ok (ev Γ e σ h) λr h1=>Ok (zgY r h1) Q:=by rw[zq4];simp only[ok_bnd]
theorem zqt:Ok (zgY (.d (.int n)) h) Q↔(-(2^62)<=n/\n<=16777216)/\Q ⟨(zcq 0 n.toNat).map dI,none⟩ h:=by
 simp only[zgY]
 by_cases c:-(2^62)<=n/\n<=16777216
 ·rw [if_pos (by rw[Z8];exact⟨decide_eq_true c.1,decide_eq_true c.2⟩),ok_ok]
  exact⟨λq=>⟨c,q⟩,λq=>q.2⟩
 ·rw [if_neg (by rw[Z8];exact λz=>c ⟨of_decide_eq_true z.1,of_decide_eq_true z.2⟩)]
  simp only[ok_none,false_iff];exact λz=>c z.1
end
theorem zoj:Ok (rd (.loc l) h) Q↔∃o,h[l]?=some o/\o.isL=true/\Q (.lst o.items) h:=by
 simp only[rd]
 cases h[l]? with|none=>simp|some o=>cases o<;>simp[Ob.isL]
theorem zpd:Ok (fz (.loc l) h) Q↔∃o,h[l]?=some o/\o.isL=true/\Q (.lst o.items) (h.set l (.fro o.items)):=by
 simp only[fz]
 cases h[l]? with|none=>simp|some o=>cases o<;>simp[Ob.isL]
theorem zr1:Ok (zf2 (.loc l) h) Q↔∃o,h[l]?=some o/\o.isL=true/\Q () h:=by
 simp only[zf2]
 cases h[l]? with|none=>simp|some o=>cases o<;>simp[Ob.isL]
theorem zsO:Ok (getA (.loc l) f h) Q↔∃c fs,h[l]?=some (.ins c fs)/\∃r,fs.lookup f=some r/\Q r h:=by
 simp only[getA]
 cases h[l]? with
 |none=>simp
 | some o=>
  cases o with
  | ins c fs=>
   constructor
   ·intro q
    refine⟨c,fs,rfl,?_⟩;simp only at q
    split at q
    ·rename_i r e;exact⟨r,e,by simpa using q⟩
    ·simp at q
   ·rintro⟨c',fs',e,r,e2,q⟩
    cases e;simp only[e2,ok_some'];exact q
  |_=>simp
theorem zuC:Ok (setA (.loc l) f v h) Q↔∃c fs,h[l]?=some (.ins c fs)/\(fs.lookup f).isSome=true/\fs.length<900/\Q () (h.set l (.ins c (putF f v fs))):=by
 simp only[setA]
 cases h[l]? with
 |none=>simp
 | some o=>
  cases o with
  | ins c fs=>
   constructor
   ·intro q
    refine⟨c,fs,rfl,?_⟩;simp only at q
    split at q
    ·rename_i hl;exact⟨hl.1,hl.2,by simpa using q⟩
    ·simp at q
   ·rintro⟨c',fs',e,hl,hl2,q⟩
    cases e;simp only[hl,hl2,and_self,if_true,ok_some'];exact q
  |_=>simp
theorem ztF:Ok (setN (.loc l) c f v h) Q↔∃fs,h[l]?=some (.ins c fs)/\fs.length<900/\Q () (h.set l (.ins c (putF f v fs))):=by
 simp only[setN]
 cases h[l]? with
 |none=>simp
 | some o=>
  cases o with
  | ins c' fs=>
   constructor
   ·intro q
    simp only at q
    split at q
    ·rename_i hl
     obtain⟨rfl,hl⟩:=hl;exact⟨fs,rfl,hl,by simpa using q⟩
    ·simp at q
   ·rintro⟨fs',e,hl,q⟩
    cases e;simp only[hl,and_self,if_true,ok_some'];exact q
  |_=>simp
theorem ztl:Ok (ev Γ (.make c f es) σ h) Q↔Ok (evs Γ es σ h) λrs h1=>Ok (Γ f (.loc h1.length::rs) (h1++[.ins c []])) λr h2=>r=.d .non/\Q (.loc h1.length) h2:=by
 rw[zr8];simp only[ok_bnd,newA,ok_some']
 refine iff_of_eq (congrArg (Ok (evs Γ es σ h)) (funext λrs=>funext λh1=>congrArg (Ok _) (funext λr=>funext λh2=>propext ?_)))
 match r with|.d .non=>simp|.loc _=>simp|.d (.bl _) | .d (.int _) | .d (.str _) | .d (.tup _) | .d (.lst _)=>simp
theorem w_mc:Ok (ev Γ (.mc c m f o es) σ h) Q↔Ok (ev Γ o σ h) λx h1=>Ok (isA x c m h1) λ_ h2=>Ok (evs Γ es σ h2) λrs h3=>Ok (Γ f (x::rs) h3) Q:=by rw[zvq];simp only[ok_bnd]
theorem zvs:Ok (isA (.loc l) c m h) Q↔∃fs,h[l]?=some (.ins c fs)/\fs.lookup m=none/\Q () h:=by
 simp only[isA]
 cases h[l]? with
 |none=>simp
 | some o=>
  cases o with
  | ins c' fs=>
   constructor
   ·intro q
    simp only at q
    split at q
    ·rename_i e
     obtain⟨rfl,e2⟩:=e;exact⟨fs,rfl,WD.mp e2,by simpa using q⟩
    ·simp at q
   ·rintro⟨fs',e,e2,q⟩
    cases e;simp only[e2,Option.isNone_none,and_self,if_true,ok_some'];exact q
  |_=>simp
theorem zty:Ok (ev Γ (.olen a) σ h) Q↔Ok (ev Γ a σ h) λx h1=>∃l ls,x=.loc l/\h1[l]?=some (.ols ls)/\Q (.d (.int ls.length)) h1:=by
 rw[zrj];simp only[ok_bnd]
 refine iff_of_eq (congrArg (Ok (ev Γ a σ h)) (funext λx=>funext λh1=>propext ?_))
 cases x with
 |d x=>simp[zbK]
 | loc l=>
  simp only[zbK]
  cases e:h1[l]? with
  |none=>simp[e]
  | some o=>
   cases o with
   |ols ls=>
    simp only[ok_some',R.loc.injEq,ok_ok];constructor
    ·intro q;exact⟨l,ls,rfl,e,q⟩
    ·rintro⟨_,ls',rfl,e',q⟩;rw[e] at e';cases e';exact q
   |_=>simp[e]
theorem zvi:Ok (ev Γ (.oix a i) σ h) Q↔Ok (ev Γ a σ h) λx h1=>Ok (ev Γ i σ h1) λy h2=>∃l ls k j,x=.loc l/\h2[l]?=some (.ols ls)/\y=.d (.int k)/\at' ls k=some j/\Q (.loc j) h2:=by
 rw[ztj];simp only[ok_bnd]
 refine iff_of_eq (congrArg (Ok (ev Γ a σ h)) (funext λx=>funext λh1=>congrArg (Ok (ev Γ i σ h1)) (funext λy=>funext λh2=>propext ?_)))
 cases x with
 |d x=>simp[zbK]
 | loc l=>
  simp only[zbK]
  cases e:h2[l]? with
  |none=>simp[e]
  | some o=>
   cases o with
   | ols ls=>
    simp only[ok_some',R.loc.injEq]
    match y with
    |.d (.int k)=>
     simp only
     cases ea:at' ls k with|none=>simp[e,ea]|some j=>simp[e,ea]
    |.loc _=>simp|.d .non | .d (.bl _) | .d (.str _) | .d (.tup _) | .d (.lst _)=>simp
   |_=>simp[e]
theorem zoL:Ok (meth .append (.loc l) [r] h) Q↔Ok (fz r h) λd h1=>∃xs,h1[l]?=some (.lst xs)/\xs.length<big/\Q (.d .non) (h1.set l (.lst (xs++[d]))):=by
 rw[zjf,ok_bnd]
 constructor<;>intro k<;>refine k.mono λd h1 q=>?_
 ·cases e:h1[l]? with
  |none=>rw[e] at q;simp at q
  | some o=>
   rw[e] at q
   cases o with
   |fro xs=>simp at q|ins _ _=>simp at q|ols _=>simp at q|rcd _=>simp at q
   |lst xs=>
    simp only at q
    by_cases c:xs.length<big
    ·rw[if_pos (decide_eq_true c)] at q;exact⟨xs,rfl,c,by simpa using q⟩
    ·rw[if_neg (by simpa using c)] at q;simp at q
 ·obtain ⟨xs,e,c,q⟩:=q
  rw[e];simp only;rw[if_pos (decide_eq_true c)]
  simpa using q
theorem zr0:Ok (zf8 (.loc l) (.int k) d h) Q↔∃xs,h[l]?=some (.lst xs)/\∃j,ixn xs.length k=some j/\Q () (h.set l (.lst (xs.set j d))):=by
 simp only[zf8]
 cases e:h[l]? with
 |none=>simp
 | some o=>
  cases o with
  |fro xs=>simp|ins _ _=>simp|ols _=>simp|rcd _=>simp
  |lst xs=>
   simp only[Z5,Ob.lst.injEq,exists_eq_left']
   cases c:ixn xs.length k with|none=>simp|some j=>simp
theorem zuW:Ok (ex Γ .stuck σ h) Q↔False:=by rw[zoQ];exact ok_none
theorem zuQ{c:Nat}{es:List E}:Ok (ex Γ (.rai c es) σ h) Q↔False:=by rw[show ex Γ (.rai c es) σ=λ_=>none from rfl];exact ok_none
theorem zvE:Ok (ev Γ .stuck σ h) Q↔False:=by rw[zor];exact ok_none
theorem zoB:Ok (meth .extend (.loc l) [r] h) Q↔Ok (rd r h) λd h1=>∃ys xs,d=.lst ys/\h1[l]?=some (.lst xs)/\fit (xs.length+ys.length)=true/\Q (.d .non) (h1.set l (.lst (xs++ys))):=by
 rw[ziR,ok_bnd];refine iff_of_eq (congrArg (Ok (rd r h)) (funext λd=>funext λh1=>propext ?_))
 cases d with
 | lst ys=>
  simp only[D.lst.injEq,exists_eq_left']
  cases e:h1[l]? with
  |none=>simp
  | some o=>
   cases o with
   |fro xs=>simp|ins _ _=>simp|ols _=>simp|rcd _=>simp
   |lst xs=>
    simp only[Z5,Ob.lst.injEq,exists_eq_left',and_assoc]
    cases c:fit (xs.length+ys.length)<;>simp[c]
 |_=>simp
theorem zva:Ok (meth .pop (.loc l) [] h) Q↔∃xs,h[l]?=some (.lst xs)/\∃y,xs[xs.length-1]?=some y/\Q (.d y) (h.set l (.lst xs.dropLast)):=by
 rw[zot];dsimp only
 cases e:h[l]? with
 |none=>simp
 | some o=>
  cases o with
  |fro xs=>simp|ins _ _=>simp|ols _=>simp|rcd _=>simp
  |lst xs=>
   simp only[Z5,Ob.lst.injEq,exists_eq_left']
   cases c:xs[xs.length-1]? with|none=>simp|some y=>simp
theorem zrF:Ok (meth .clear (.loc l) [] h) Q↔∃xs,h[l]?=some (.lst xs)/\Q (.d .non) (h.set l (.lst [])):=by
 rw[zld];dsimp only
 cases e:h[l]? with|none=>simp|some o=>cases o<;>simp
end
class Cont(α:Type) where
 q:α->Sto->Prop
structure Ask{α:Type}(m:Option (α×Sto))[c:Cont α]:Prop where
 ok:Ok m c.q
theorem ask{α:Type}{m:Option (α×Sto)}{Q:α->Sto->Prop}(k:Ok m Q):@Ask α m ⟨Q⟩:=@Ask.mk α m ⟨Q⟩ k
theorem zsX{α:Type}{m:Option (α×Sto)}{Q:α->Sto->Prop}:Ok m Q↔@Ask α m ⟨Q⟩:=⟨λk=>@Ask.mk α m ⟨Q⟩ k,λk=>@Ask.ok α m ⟨Q⟩ k⟩
theorem zlD(c:(zjq a||zjq b)=true):bop .mul (.int a) (.int b)=some (.int (a*b)):=if_pos c
theorem zjX(c:0<b)(c2:b<1000000000000000000000000000000000000000000000000000000000000):bop .fdiv (.int a) (.int b)=some (.int (a / b)):=if_pos (by rw[Z8];exact⟨decide_eq_true c,decide_eq_true (show b<wide from c2)⟩)
theorem zhi(c:0<b):bop .mod (.int a) (.int b)=some (.int (a%b)):=if_pos (decide_eq_true c)
theorem zjH(c:-(2^64)<a)(c2:a<2^64):zjq a=true:=zfY.mpr ⟨c,c2⟩
theorem ztv{n:Nat}{i:Int}(c:0<=i)(c2:i<n):ixn n i=some i.toNat:=by unfold ixn;rw[if_pos c,if_pos c2]
theorem zu3{α:Type}{xs:List α}{i:Int}{x:α}(c:0<=i)(e:xs[i.toNat]?=some x):at' xs i=some x:=by
 have:=(Z9.mp e).1
 unfold at';rw[ztv c (by exact OZV c this)];exact e
theorem zck{xs:List D}{x:D}(c:0<=i)(e:xs[i.toNat]?=some x):idxD (.tup xs) (.int i)=some x:=zu3 c e
theorem zjO:idxD (.tup (x::xs)) (.int 0)=some x:=by refine zck (by decide) rfl
theorem zke:idxD (.tup (x::y::xs)) (.int 1)=some y:=by refine zck (by decide) rfl
theorem zqp:idxD (.tup (x::y::z::xs)) (.int 2)=some z:=by refine zck (by decide) rfl
theorem zgZ(c:ziG a b=true):cop .eq a b=some (.bl (a.eqb b)):=if_pos c
theorem zg3(c:ziG a b=true):cop .ne a b=some (.bl (!a.eqb b)):=if_pos c
theorem zo7(c:fit xs.length=true):Ok (zbp (.d (.str xs)) h) Q↔Q ⟨(xs.map λc=>D.str [c]).map dI,none⟩ h:=by simp only[zbp,zbK,ok_bnd,ok_some',ok_rd_d,wkOf,items,c,if_true,ok_ok]
theorem ztr{α:Type}{xs:List α}{a:Int}(c:0<=a):cut xs none (some a)=xs.take a.toNat:=by
 unfold cut sIx;simp only[if_neg (show ¬a<0 by omega),Xj,Nat.sub_zero]
 rcases Nat.le_total a.toNat xs.length with k | k
 ·rw[Nat.min_eq_left k]
 ·rw[Nat.min_eq_right k,Zm,Xf k]
theorem zqz{α:Type}{xs:List α}{x:α}:at' (xs++[x]) (-1)=some x:=by
 have:ixn (xs++[x]).length (-1)=some xs.length:=by
  unfold ixn
  rw[if_neg (by decide),if_pos (by simp;omega)]
  congr 1
  simp;exact OXJ
 simp only[at',this];simp
theorem zag:(h++(x::t))[h.length]?=some x:=by rw[ZS (Z0 _),XM];rfl
theorem zau:(h++(x::t)).set h.length y=h++(y::t):=by rw[Y7 _ _ (Z0 _),XM];rfl
theorem zjQ{h t:Sto}:(h++t).take h.length=h:=by simp
theorem zee:zaM none h h'=true:=rfl
theorem cutN{α:Type}{xs:List α}{n:Nat}:cut xs none (some (n:Int))=xs.take n:=by rw[ztr (by omega)];rfl
theorem zfW{a b:D}(c:b.dep<=60):ziG a b=true:=by unfold ziG;exact decide_eq_true (by omega)
theorem zsS{a b:D}(c:a.dep<=60):ziG a b=true:=by unfold ziG;exact decide_eq_true (by omega)
mutual
theorem D.eqb_rfl:∀x:D,x.eqb x=true|.non=>rfl|.bl a=>by simp[D.eqb]|.int a=>by simp[D.eqb]|.str a=>by simp[D.eqb]|.tup a=>by simp only[D.eqb];exact D.eqbs_rfl a|.lst a=>by simp only[D.eqb];exact D.eqbs_rfl a
theorem D.eqbs_rfl:∀x:List D,D.eqbs x x=true| []=>rfl|a::r=>by simp only[D.eqbs,Z8];exact⟨D.eqb_rfl a,D.eqbs_rfl r⟩
end
theorem Ok.eq{α:Type}{m:Option (α×Sto)}{a:α}{h:Sto}(k:Ok m λb h1=>b=a/\h1=h):m=some (a,h):=by obtain⟨b,h1,e,rfl,rfl⟩:=k;exact e
theorem zaV{α β:Type}{d:β->Ite}{l:Option Nat}{f:Ite->M (Option α)}{g:β->Option α}{h:Sto}{xs:List β}{Q:List α->Sto->Prop}(e:∀x∈xs,Ok (f (d x) h) λo h1=>o=g x/\h1=h)(s:zaM l h h=true)(q:Q (xs.filterMap g) h):Ok (zaO l f (xs.map d) h) Q:=⟨_,_,zgy (λx hx=>(e x hx).eq) s,q⟩
theorem zkO{l:Option Nat}{g:D->Option D}{h:Sto}{xs:List D}{Q:List D->Sto->Prop}(e:∀x∈xs,Ok (f (dI x) h) λo h1=>o=g x/\h1=h)(s:zaM l h h=true)(q:Q (xs.filterMap g) h):Ok (zaO l f (xs.map dI) h) Q:=zaV e s q
theorem zcv{l:Nat}(e:h[l]?=some (.ols ls))(e1:h1[l]?=some (.ols ls)):zaM (some l) h h1=true:=by simp only[zaM,e,e1,Ob.same,beq_self_eq_true]
theorem R.same_self:∀x:R,x.same x=true|.d x=>D.same_refl x|.loc l=>by simp[R.same]
theorem zde:∀fs:List (Ya×R),zcC fs fs=true| []=>rfl|(f,x)::r=>by simp[zcC,R.same_self,zde r]
theorem zdm:∀kvs:List (D×D),znO kvs kvs=true| []=>rfl|p::r=>by simp[znO,D.same_refl,zdm r]
theorem zfh(o:Ob)(h:Sto)(o1:Ob)(t:Sto):objs (o::h) (o1::t)=((match o,o1 with
   |.ins c fs,.ins c1 fs1=>c==c1&&zcC fs fs1|.ols a,.ols b=>a==b|.rcd a,.rcd b=>zcC a b|.lst _,.lst _=>true|.lst _,.fro _=>true|.fro _,.lst _=>true|.fro _,.fro _=>true
   |_,_=>false)&&objs h t):=rfl
theorem zdB:∀{h t:Sto},objs h (h++t)=true
 | [],_=>rfl
 |o::h,t=>by
  rw[Yf,zfh,zdB,Yv]
  cases o<;>simp[zde,zdm]
theorem zmH{h:Sto}:objs h h=true:=by
 have:=zdB (h:=h) (t:=[])
 rwa [Ze] at this
theorem zil:∀{h t:Sto} {l:Nat} {xs ys:List D},h[l]?=some (.lst xs)->objs h (h.set l (.lst ys)++t)=true
 | [],_,_,_,_,e=>by simp at e|o::h,t,0,xs,ys,e=>by simp at e;subst e;rw[List.set_cons_zero,Yf,zfh,zdB,Yv]
 |o::h,t,l+1,xs,ys,e=>by
  have:=zil (h:=h) (t:=t) (l:=l) (xs:=xs) (ys:=ys) (by simpa using e)
  rw[List.set_cons_succ,Yf,zfh,this,Yv]
  cases o<;>simp[zde,zdm]
theorem zqV{P:List F}{F:IT.F}(e:P[f]?=some F)(er:zaw F.np F.dfl rs=rs')(el:rs'.length=F.np)
  (k:Ok (exs (zad P n) F.body (rs'.map some++ZO (F.ns-F.np) none) h) λp h1=>match p.1 with
   |.ret r=>Ok (fin h F.all F.keep r h1) Q|.nx=>Ok (fin h F.all F.keep (.d .non) h1) Q
   |_=>False):Ok (zad P (n+1) f rs h) Q:=by
 obtain⟨⟨fl,σ⟩,h1,ee,q⟩:=k;rw[zba];simp only[e,er];rw[if_pos el,ee]
 cases fl with|ret r=>exact q|nx=>exact q|brk=>exact q.elim|cnt=>exact q.elim
theorem zvF:zaw np [] rs=rs:=by
 unfold zaw
 split
 ·rfl
 ·simp
theorem zrZ{P:List F}{F:IT.F}(e:P[f]?=some F)(ed:F.dfl=[])(el:rs.length=F.np)
  (k:Ok (exs (zad P n) F.body (rs.map some++ZO (F.ns-F.np) none) h) λp h1=>match p.1 with
   |.ret r=>Ok (fin h F.all F.keep r h1) Q|.nx=>Ok (fin h F.all F.keep (.d .non) h1) Q
   |_=>False):Ok (zad P (n+1) f rs h) Q:=zqV e (by rw[ed];exact zvF) el k
theorem zrc:Ok (fin h false k (.d x) h1) Q↔objs h h1=true/\Q (.d x) (h1.take h.length):=by
 simp only[fin,Zz,if_false]
 by_cases c:objs h h1=true
 ·rw[if_pos c];simp[fin0,c]
 ·rw[if_neg c];simp[c]
theorem zae:Ok (fin h true k r h1) Q↔Q r h1:=by simp only[fin,if_true,ok_some']
theorem zqB{xs:List D}(q:Q (.d (.lst xs)) h):Ok (fin h false false (.loc h.length) (h++.lst xs::t)) Q:=by simp only[fin,Zz,if_false,zdB,if_true,fin0,zag,YR,zjQ,ok_some'];exact q
end IT
namespace IT
open PySem (Str)
def wO{α:Type}(o:Option α)(Q:α->Prop):Prop:=match o with|some a=>Q a|none=>False
def wB(t:Bool)(A B:Prop):Prop:=match t with|true=>A|false=>B
def wLs(o:Ob)(Q:List D->Prop):Prop:=match o with|.lst xs=>Q xs|.fro xs=>Q xs|.ins _ _=>False|.ols _=>False|.rcd _=>False
def wLw(o:Ob)(Q:List D->Prop):Prop:=match o with|.lst xs=>Q xs|.fro _=>False|.ins _ _=>False|.ols _=>False|.rcd _=>False
def wIn(o:Ob)(Q:Str->List (Str×R)->Prop):Prop:=match o with|.ins c fs=>Q c fs|.lst _=>False|.fro _=>False|.ols _=>False|.rcd _=>False
def wOl(o:Ob)(Q:List Nat->Prop):Prop:=match o with|.ols ls=>Q ls|.lst _=>False|.fro _=>False|.ins _ _=>False|.rcd _=>False
def wRc(o:Ob)(Q:List (Str×R)->Prop):Prop:=match o with|.rcd fs=>Q fs|.lst _=>False|.fro _=>False|.ins _ _=>False|.ols _=>False
def wPo(o:Ob)(Q:Prop):Prop:=match o with|.ins _ _=>Q|.lst _=>Q|.fro _=>False|.ols _=>False|.rcd _=>False
def wRd(r:R)(h:Sto)(Q:D->Sto->Prop):Prop:=match r with
 |.d x=>Q x h
 |.loc l=>wO h[l]? λo=>wLs o λxs=>Q (.lst xs) h
def wFz(r:R)(h:Sto)(Q:D->Sto->Prop):Prop:=match r with
 |.d x=>Q x h
 |.loc l=>wO h[l]? λo=>wLs o λxs=>Q (.lst xs) (h.set l (.fro xs))
def wRds:List R->Sto->(List D->Sto->Prop)->Prop
 | [],h,Q=>Q [] h
 |r::rs,h,Q=>wRd r h λd h1=>wRds rs h1 λds h2=>Q (d::ds) h2
def wFzs:List R->Sto->(List D->Sto->Prop)->Prop
 | [],h,Q=>Q [] h
 |r::rs,h,Q=>wFz r h λd h1=>wFzs rs h1 λds h2=>Q (d::ds) h2
def wBl(r:R)(Q:Bool->Prop):Prop:=match r with|.d (.bl b)=>Q b|_=>False
def wInt(r:R)(Q:Int->Prop):Prop:=match r with|.d (.int b)=>Q b|_=>False
def wPl(r:R)(Q:Nat->Prop):Prop:=match r with|.loc l=>Q l|.d _=>False
def wTup(d:D)(Q:List D->Prop):Prop:=match d with|.tup xs=>Q xs|_=>False
mutual
noncomputable def wT:Tg->R->Env->Sto->(Env->Sto->Prop)->Prop
 |.name i,r,σ,h,Q=>Q (σ.set i (some r)) h
 |.tup ts,r,σ,h,Q=>wRd r h λd h1=>wTup d λxs=>wTs ts xs σ h1 Q
noncomputable def wTs:List Tg->List D->Env->Sto->(Env->Sto->Prop)->Prop
 | [],xs,σ,h,Q=>match xs with
  | []=>Q σ h|_::_=>False
 |t::ts,xs,σ,h,Q=>match xs with
  |x::xs=>wT t (.d x) σ h λσ' h1=>wTs ts xs σ' h1 Q
  | []=>False
end
def wBI(tg:Tg)(x:Ite)(σ:Env)(h:Sto)(Q:Env->Sto->Prop):Prop:=match x with
 |.r x=>wT tg x σ h Q
 |.en i x=>match tg with
  |.tup [a,b]=>wT a (.d (.int i)) σ h λσ' h1=>wT b x σ' h1 Q
  |_=>False
def wWk(r:R)(h:Sto)(Q:Wk->Sto->Prop):Prop:=match r with
 |.d (.tup xs)=>Q ⟨xs.map dI,none⟩ h|.d (.lst xs)=>Q ⟨xs.map dI,none⟩ h|.d (.str x)=>wB (fit x.length) (Q ⟨(x.map λc=>D.str [c]).map dI,none⟩ h) False|.d _=>False
 |.loc l=>wO h[l]? λo=>match o with
  |.lst xs=>Q ⟨xs.map dI,some l⟩ h|.fro xs=>Q ⟨xs.map dI,some l⟩ h|.ols ls=>Q ⟨ls.map λl=>.r (.loc l),some l⟩ h|.ins _ _=>False|.rcd _=>False
def wEn(r:R)(h:Sto)(Q:Wk->Sto->Prop):Prop:=match r with
 |.loc l=>wWk (.loc l) h λw h2=>wO (zav 0 w.xs) λl=>Q ⟨l,w.l⟩ h2
 |.d (.lst xs)=>wO (zav 0 (xs.map dI)) λl=>Q ⟨l,none⟩ h
 |.d _=>False
def wMe(m:Me)(x:R)(rs:List R)(h:Sto)(Q:R->Sto->Prop):Prop:=match m,rs with
 |.append,[r]=>wPl x λl=>wFz r h λd h1=>wO h1[l]? λo=>wLw o λxs=>xs.length<big/\Q (.d .non) (h1.set l (.lst (xs++[d])))
 |.pop,[]=>wPl x λl=>wO h[l]? λo=>wLw o λxs=>wO xs[xs.length-1]? λy=>Q (.d y) (h.set l (.lst xs.dropLast))
 |.clear,[]=>wPl x λl=>wO h[l]? λo=>wLw o λ_=>Q (.d .non) (h.set l (.lst []))
 |.extend,[r]=>wPl x λl=>wRd r h λd h1=>wO (match d with | .lst ys=>some ys | _=>none) λys=>wO h1[l]? λo=>wLw o λxs=>fit (xs.length+ys.length)=true/\Q (.d .non) (h1.set l (.lst (xs++ys)))
 |m,rs=>Ok (meth m x rs h) Q
mutual
noncomputable def wE(Γ:Calls):E->Env->Sto->(R->Sto->Prop)->Prop
 |.con d,_,h,Q=>Q (.d d) h
 |.var i,σ,h,Q=>wO σ[i]? λo=>wO o λr=>Q r h
 |.bin o a b,σ,h,Q=>wE Γ a σ h λx h1=>wE Γ b σ h1 λy h2=>wRd x h2 λx h3=>wRd y h3 λy h4=>wO (bop o x y) λz=>Q (.d z) h4
 |.neg a,σ,h,Q=>wE Γ a σ h λx h1=>wInt x λi=>Q (.d (.int (-i))) h1
 |.chn o o' a b c,σ,h,Q=>wE Γ a σ h λx h1=>wE Γ b σ h1 λy h2=>wRd x h2 λx1 h3=>wRd y h3 λy1 h4=>wO (cop o x1 y1) λz=>wO (tru z) λt=>wB t (wE Γ c σ h4 λw h5=>wRd y h5 λy2 h6=>wRd w h6 λw2 h7=>wO (cop o' y2 w2) λz2=>Q (.d z2) h7) (Q (.d z) h4)
 |.cmp o a b,σ,h,Q=>wE Γ a σ h λx h1=>wE Γ b σ h1 λy h2=>wRd x h2 λx h3=>wRd y h3 λy h4=>wO (cop o x y) λz=>Q (.d z) h4
 |.and a b,σ,h,Q=>wE Γ a σ h λx h1=>wBl x λc=>wB c (wE Γ b σ h1 Q) (Q (.d (.bl false)) h1)
 |.or a b,σ,h,Q=>wE Γ a σ h λx h1=>wBl x λc=>wB c (Q (.d (.bl true)) h1) (wE Γ b σ h1 Q)
 |.not a,σ,h,Q=>wE Γ a σ h λx h1=>wRd x h1 λd h2=>wO (tru d) λb=>Q (.d (.bl (!b))) h2
 |.ife c a b,σ,h,Q=>wC Γ c σ h λt h1=>wB t (wE Γ a σ h1 Q) (wE Γ b σ h1 Q)
 |.tup es,σ,h,Q=>wEs Γ es σ h λrs h1=>wFzs rs h1 λds h2=>Q (.d (.tup ds)) h2
 |.lst m l,σ,h,Q=>wL Γ l σ h λxs h1=>match m with
  |true=>Q (.loc h1.length) (h1++[.lst xs])|false=>Q (.d (.lst xs)) h1
 |.idx a i,σ,h,Q=>wE Γ a σ h λx h1=>wE Γ i σ h1 λy h2=>wRd x h2 λx h3=>wRd y h3 λy h4=>wO (idxD x y) λz=>Q (.d z) h4
 |.sli a lo hi,σ,h,Q=>wE Γ a σ h λx h1=>wE Γ lo σ h1 λl h2=>wE Γ hi σ h2 λu h3=>wRd x h3 λx h4=>wRd l h4 λl h5=>wRd u h5 λu h6=>wO (sliD x l u) λz=>Q (.d z) h6
 |.call f es,σ,h,Q=>wEs Γ es σ h λrs h1=>@Ask _ (Γ f rs h1) ⟨Q⟩
 |.bi b es,σ,h,Q=>wEs Γ es σ h λrs h1=>wRds rs h1 λds h2=>wO (biD b ds) λz=>Q (.d z) h2
 |.me m o es,σ,h,Q=>wE Γ o σ h λx h1=>wPl x λl=>wO h1[l]? λo=>wLs o λ_=>wEs Γ es σ h1 λrs h3=>wMe m (.loc l) rs h3 Q
 |.glo d,_,h,Q=>Q (.d d) h
 |.lm m o a,σ,h,Q=>wE Γ o σ h λx h0=>wRd x h0 λ_ h1=>wE Γ a σ h1 λy h2=>wRd x h2 λx h3=>wRd y h3 λy h4=>wO (lmD m x y) λz=>Q (.d z) h4
 |.dix a k,σ,h,Q=>wE Γ a σ h λx h1=>wE Γ k σ h1 λy h2=>wRd x h2 λx h3=>wRd y h3 λy h4=>wO (dixD x y) λz=>Q (.d z) h4
 |.fld o f,σ,h,Q=>wE Γ o σ h λx h1=>wPl x λl=>wO h1[l]? λo=>wIn o λ_ fs=>wO (fs.lookup f) λr=>Q r h1
 |.make c f es,σ,h,Q=>wEs Γ es σ h λrs h1=>@Ask _ (Γ f (.loc h1.length::rs) (h1++[.ins c []])) ⟨λr h2=>r=.d .non/\Q (.loc h1.length) h2⟩
 |.mc c m f o es,σ,h,Q=>wE Γ o σ h λx h1=>wPl x λl=>wO h1[l]? λo=>wIn o λc' fs=>c'=c/\fs.lookup m=none/\wEs Γ es σ h1 λrs h3=>@Ask _ (Γ f (.loc l::rs) h3) ⟨Q⟩
 |.lstO tg it c el,σ,h,Q=>wI Γ it σ h λw h1=>@Ask _ (zaO w.l (znC Γ tg c el σ) w.xs h1) ⟨λls h2=>Q (.loc h2.length) (h2++[.ols ls])⟩
 |.oix a i,σ,h,Q=>wE Γ a σ h λx h1=>wE Γ i σ h1 λy h2=>wPl x λl=>wO h2[l]? λo=>wOl o λls=>wInt y λk=>wO (at' ls k) λj=>Q (.loc j) h2
 |.olen a,σ,h,Q=>wE Γ a σ h λx h1=>wPl x λl=>wO h1[l]? λo=>wOl o λls=>Q (.d (.int ls.length)) h1
 |.rnew ks es,σ,h,Q=>wEs Γ es σ (h++[.rcd []]) λrs h1=>wO h1[h.length]? λo=>wRc o λfs=>(fs.isEmpty=true/\ks.length=rs.length/\ks.Nodup/\ks≠[]/\ks.length<=15)/\Q (.loc h.length) (h1.set h.length (.rcd (ks.zip rs)))
 |.rix o k,σ,h,Q=>wE Γ o σ h λx h1=>wPl x λl=>wO h1[l]? λo=>wRc o λfs=>wO (fs.lookup k) λr=>Q r h1
 |.stuck,_,_,_=>False
noncomputable def wEs(Γ:Calls):List E->Env->Sto->(List R->Sto->Prop)->Prop
 | [],_,h,Q=>Q [] h
 |e::es,σ,h,Q=>wE Γ e σ h λr h1=>wEs Γ es σ h1 λrs h2=>Q (r::rs) h2
noncomputable def wC(Γ:Calls):T->Env->Sto->(Bool->Sto->Prop)->Prop
 |.val e,σ,h,Q=>wE Γ e σ h λr h1=>wRd r h1 λd h2=>wO (tru d) λt=>Q t h2
 |.and a b,σ,h,Q=>wC Γ a σ h λt h1=>wB t (wC Γ b σ h1 Q) (Q false h1)
 |.or a b,σ,h,Q=>wC Γ a σ h λt h1=>wB t (Q true h1) (wC Γ b σ h1 Q)
 |.not a,σ,h,Q=>wC Γ a σ h λt h1=>Q (!t) h1
noncomputable def wCs(Γ:Calls):List T->Env->Sto->(Bool->Sto->Prop)->Prop
 | [],_,h,Q=>Q true h
 |c::cs,σ,h,Q=>wC Γ c σ h λt h1=>wB t (wCs Γ cs σ h1 Q) (Q false h1)
noncomputable def wL(Γ:Calls):L->Env->Sto->(List D->Sto->Prop)->Prop
 |.disp es,σ,h,Q=>wEs Γ es σ h λrs h1=>wFzs rs h1 Q
 |.comp tg it c el,σ,h,Q=>wI Γ it σ h λw h1=>@Ask _ (zaO w.l (zob Γ tg c el σ) w.xs h1) ⟨Q⟩
 |.of e,σ,h,Q=>wE Γ e σ h λr h1=>wRd r h1 λd h2=>wO (items d) λxs=>Q xs h2
 |.rev e,σ,h,Q=>wE Γ e σ h λr h1=>wRd r h1 λd h2=>wO (revD d) λxs=>Q xs h2
 |.cat a b,σ,h,Q=>wE Γ a σ h λx h1=>wE Γ b σ h1 λy h2=>wRd x h2 λx h3=>wRd y h3 λy h4=>wO (catD x y) λxs=>Q xs h4
noncomputable def wI(Γ:Calls):I->Env->Sto->(Wk->Sto->Prop)->Prop
 |.seq e,σ,h,Q=>wE Γ e σ h λr h1=>wWk r h1 Q
 |.rng e,σ,h,Q=>wE Γ e σ h λr h1=>wInt r λn=>(-(2^62)<=n/\n<=16777216)/\Q ⟨(zcq 0 n.toNat).map dI,none⟩ h1
 |.enu e,σ,h,Q=>wE Γ e σ h λr h1=>wEn r h1 Q
end
mutual
noncomputable def wS(Γ:Calls):S->Env->Sto->(Fl×Env->Sto->Prop)->Prop
 |.asg tg e,σ,h,Q=>wE Γ e σ h λr h1=>wT tg r σ h1 λσ' h2=>Q (.nx,σ') h2
 |.setI o i e,σ,h,Q=>wE Γ e σ h λr h1=>wE Γ o σ h1 λx h2=>wE Γ i σ h2 λy h3=>wFz r h3 λd h4=>wInt y λk=>wPl x λl=>wO h4[l]? λo=>wLw o λxs=>wO (ixn xs.length k) λj=>Q (.nx,σ) (h4.set l (.lst (xs.set j d)))
 |.setF o f e,σ,h,Q=>wE Γ e σ h λr h1=>wE Γ o σ h1 λx h2=>wPl x λl=>wO h2[l]? λob=>wIn ob λc fs=>(fs.lookup f).isSome=true/\fs.length<900/\Q (.nx,σ) (h2.set l (.ins c (putF f r fs)))
 |.setN c o f e,σ,h,Q=>wE Γ e σ h λr h1=>wE Γ o σ h1 λx h2=>wPl x λl=>wO h2[l]? λob=>wIn ob λc' fs=>c'=c/\fs.length<900/\Q (.nx,σ) (h2.set l (.ins c' (putF f r fs)))
 |.exp e,σ,h,Q=>wE Γ e σ h λ_ h1=>Q (.nx,σ) h1
 |.ife c a b,σ,h,Q=>wC Γ c σ h λt h1=>wB t (wSs Γ a σ h1 Q) (wSs Γ b σ h1 Q)
 |.for tg it b,σ,h,Q=>wI Γ it σ h λw h1=>@Ask _ (loop w.l (λx σ=>bnd (zax tg x σ) λσ'=>exs Γ b σ') w.xs σ h1) ⟨Q⟩
 |.ret e,σ,h,Q=>wE Γ e σ h λr h1=>Q (.ret r,σ) h1
 |.retN,σ,h,Q=>Q (.ret (.d .non),σ) h|.brk,σ,h,Q=>Q (.brk,σ) h|.cnt,σ,h,Q=>Q (.cnt,σ) h|.rai _ _,_,_,_=>False
 |.setR o k e,σ,h,Q=>wE Γ e σ h λr h1=>wE Γ o σ h1 λx h2=>wPl x λl=>wO h2[l]? λob=>wRc ob λfs=>(fs.lookup k).isSome=true/\(fs.map WX).Nodup/\fs.length<=15/\Q (.nx,σ) (h2.set l (.rcd (putF k r fs)))
 |.tryv f es c i j ys,σ,h,Q=>wEs Γ es σ h λrs h1=>@Ask _ (Γ f rs h1) ⟨λr h2=>Q (.nx,σ.set i (some r)) h2⟩\/Γ f rs h1=none/\@Ask _ (Γ (xof f) rs h1) ⟨λr h2=>zkY c r=true/\Q (.nx,(σ.set j none).set i (some (.d (.tup (ys.map λp=>.bl p.2))))) h2⟩
 |.stuck,_,_,_=>False
noncomputable def wSs(Γ:Calls):List S->Env->Sto->(Fl×Env->Sto->Prop)->Prop
 | [],σ,h,Q=>Q (.nx,σ) h
 |s::r,σ,h,Q=>wS Γ s σ h λp h1=>match p.1 with
  |.nx=>wSs Γ r p.2 h1 Q|.ret r=>Q (.ret r,p.2) h1|.brk=>Q (.brk,p.2) h1|.cnt=>Q (.cnt,p.2) h1
end
theorem zf4{α:Type}{o:Option α}{Q:α->Prop}:(∃a,o=some a/\Q a)=wO o Q:=by cases o<;>simp[wO]
theorem zml:((t=true->A)/\(t=false->B))=wB t A B:=by cases t<;>simp[wB]
theorem zrC:((t=false->B)/\(t=true->A))=wB t A B:=by cases t<;>simp[wB]
section
variable {h:Sto}
theorem qRd{r:R}{Q:D->Sto->Prop}:Ok (rd r h) Q=wRd r h Q:=by
 cases r with
 |d x=>exact propext ok_rd_d
 |loc l=>
  rw[propext zoj];simp only[wRd,<-zf4]
  congr;funext o;congr;cases o<;>simp[wLs,Ob.isL,Ob.items]
theorem qFz{r:R}{Q:D->Sto->Prop}:Ok (fz r h) Q=wFz r h Q:=by
 cases r with
 |d x=>exact propext ok_fz_d
 |loc l=>
  rw[propext zpd];simp only[wFz,<-zf4]
  congr;funext o;congr;cases o<;>simp[wLs,Ob.isL,Ob.items]
theorem qRds:∀{rs:List R} {h:Sto} {Q:List D->Sto->Prop},Ok (rds rs h) Q=wRds rs h Q| [],h,Q=>propext zlP|r::rs,h,Q=>by rw[propext zkS,wRds,qRd];simp only[qRds]
theorem qFzs:∀{rs:List R} {h:Sto} {Q:List D->Sto->Prop},Ok (fzs rs h) Q=wFzs rs h Q| [],h,Q=>propext zl1|r::rs,h,Q=>by rw[propext zkF,wFzs,qFz];simp only[qFzs]
mutual
theorem qT:∀(tg:Tg) (r:R) (σ:Env) (h:Sto) (Q:Env->Sto->Prop),Ok (za3 tg r σ h) Q=wT tg r σ h Q
 |.name i,r,σ,h,Q=>by rw[propext zq0,wT]
 |.tup ts,r,σ,h,Q=>by
  rw[propext zue,wT,qRd]
  congr;funext d h1
  cases d<;>simp[wTup,qTs ts]
theorem qTs:∀(ts:List Tg) (xs:List D) (σ:Env) (h:Sto) (Q:Env->Sto->Prop),Ok (bindTs ts xs σ h) Q=wTs ts xs σ h Q| [],[],σ,h,Q=>by rw[propext zmR,wTs]| [],_::_,σ,h,Q=>by simp[bindTs,wTs]|t::ts,[],σ,h,Q=>by simp[bindTs,wTs]|t::ts,x::xs,σ,h,Q=>by rw[propext zkV,qT t];simp only[qTs ts,wTs]
end
theorem qBI:Ok (zax tg x σ h) Q=wBI tg x σ h Q:=by
 cases x with
 |r x=>rw[propext w_bI,qT];rfl
 |en i x=>
  match tg with|.tup [a,b]=>rw[propext zvK,qT];simp only[qT];rfl|.name _=>simp[zax,wBI]|.tup []=>simp[zax,wBI]|.tup [_]=>simp[zax,wBI]|.tup (_::_::_::_)=>simp[zax,wBI]
theorem qWk{r:R}{Q:Wk->Sto->Prop}:Ok (zbp r h) Q=wWk r h Q:=by
 match r with
 |.d (.tup xs)=>exact propext zoT|.d (.lst xs)=>exact propext zpy
 |.d (.str x)=>
  simp only[wWk]
  cases c:fit x.length with|true=>rw[propext (zo7 c)];rfl|false=>simp[zbp,zbK,wkOf,items,c,wB]
 |.d .non=>simp[zbp,zbK,wkOf,items,wWk]|.d (.bl _)=>simp[zbp,zbK,wkOf,items,wWk]|.d (.int _)=>simp[zbp,zbK,wkOf,items,wWk]|.loc l=>rw[propext zpn,zf4];rfl
theorem qEn{r:R}{Q:Wk->Sto->Prop}:(isLs r=true/\Ok (zbp r h) λw h2=>∃l,zav 0 w.xs=some l/\Q ⟨l,w.l⟩ h2)=wEn r h Q:=by
 simp only[qWk,zf4]
 match r with|.loc l=>simp[isLs,wEn]|.d (.lst xs)=>simp[isLs,wEn,wWk]|.d .non=>simp[isLs,wEn]|.d (.bl _)=>simp[isLs,wEn]|.d (.int _)=>simp[isLs,wEn]|.d (.str _)=>simp[isLs,wEn]|.d (.tup _)=>simp[isLs,wEn]
theorem zng{l:Nat}:(∃xs,h[l]?=some (.lst xs)/\p xs)=wO h[l]? λo=>wLw o p:=by
 cases h[l]? with|none=>simp[wO]|some o=>cases o<;>simp[wO,wLw]
theorem qMe{m:Me}{l:Nat}:Ok (meth m (.loc l) rs h) Q=wMe m (.loc l) rs h Q:=by
 unfold wMe
 split
 ·rw[propext zoL,qFz];simp only[wPl,zng]
 ·rw[propext zva];simp only[wPl,zng,zf4]
 ·rw[propext zrF];simp only[wPl,zng]
 ·rw [propext zoB,qRd]
  simp only[wPl]
  congr;funext d h1
  cases d with|lst ys=>simp only[D.lst.injEq,exists_and_left,exists_eq_left',zng,wO]|_=>simp[wO]
 ·rfl
end
theorem zub{h:Sto}{l:Nat}{p:Str->List (Str×R)->Prop}:(∃c fs,h[l]?=some (.ins c fs)/\p c fs)=wO h[l]? λo=>wIn o p:=by
 cases h[l]? with
 |none=>simp[wO]
 | some o=>
  cases o with
  |ins c fs=>
   simp only[wO,wIn,eq_iff_iff];constructor
   ·rintro⟨_,_,e,q⟩;cases e;exact q
   ·intro q;exact⟨_,_,rfl,q⟩
  |_=>simp[wO,wIn]
theorem zpP{h:Sto}{l:Nat}{c:Str}{p:List (Str×R)->Prop}:(∃fs,h[l]?=some (.ins c fs)/\p fs)=wO h[l]? λo=>wIn o λc' fs=>c'=c/\p fs:=by
 cases h[l]? with
 |none=>simp[wO]
 | some o=>
  cases o with
  |ins c' fs=>
   simp only[wO,wIn,eq_iff_iff];constructor
   ·rintro⟨_,e,q⟩;cases e;exact⟨rfl,q⟩
   ·rintro⟨rfl,q⟩;exact⟨_,rfl,q⟩
  |_=>simp[wO,wIn]
theorem zqb{x:R}{p:Int->Prop}:(∃i,x=.d (.int i)/\p i)=wInt x p:=by
 match x with|.d (.int i)=>simp[wInt]|.loc _ | .d .non | .d (.bl _) | .d (.str _) | .d (.tup _) | .d (.lst _)=>simp[wInt]
theorem zt2{x:R}{p:Bool->Prop}:(∃i,x=.d (.bl i)/\p i)=wBl x p:=by
 match x with|.d (.bl i)=>simp[wBl]|.loc _ | .d .non | .d (.int _) | .d (.str _) | .d (.tup _) | .d (.lst _)=>simp[wBl]
theorem zuV{x:R}{f:Str}{h:Sto}{Q:R->Sto->Prop}:Ok (getA x f h) Q=wPl x λl=>wO h[l]? λo=>wIn o λ_ fs=>wO (fs.lookup f) λr=>Q r h:=by
 cases x with|d x=>simp[getA,wPl]|loc l=>rw[propext zsO];simp only[zf4];rw[zub];rfl
theorem zvv{x:R}{f:Str}{h:Sto}{Q:R->Sto->Prop}:Ok (rGet x f h) Q=wPl x λl=>wO h[l]? λo=>wRc o λfs=>wO (fs.lookup f) λr=>Q r h:=by
 cases x with
 |d x=>simp[rGet,wPl]
 | loc l=>
  simp only[rGet,wPl]
  cases h[l]? with
  |none=>simp[wO]
  |some o=>
   cases o with|rcd fs=>simp only[wO,wRc];cases fs.lookup f<;>simp[wO]|_=>simp[wO,wRc]
theorem zuG{x:R}{f:Str}{v:R}{h:Sto}{Q:Unit->Sto->Prop}:Ok (rSet x f v h) Q=wPl x λl=>wO h[l]? λo=>wRc o λfs=>(fs.lookup f).isSome=true/\(fs.map WX).Nodup/\fs.length<=15/\Q () (h.set l (.rcd (putF f v fs))):=by
 cases x with
 |d x=>simp[rSet,wPl]
 | loc l=>
  simp only[rSet,wPl]
  cases h[l]? with
  |none=>simp[wO]
  | some o=>
   cases o with
   | rcd fs=>
    simp only[wO,wRc]
    by_cases c:(fs.lookup f).isSome=true/\(fs.map WX).Nodup/\fs.length<=15
    ·rw[if_pos c,propext ok_some'];exact propext ⟨λz=>⟨c.1,c.2.1,c.2.2,z⟩,λz=>z.2.2.2⟩
    ·rw [if_neg c]
     refine propext ⟨λz=>by simp at z,λz=>absurd ⟨z.1,z.2.1,z.2.2.1⟩ c⟩
   |_=>simp[wO,wRc]
theorem ztx{x:R}{ks:List Str}{rs:List R}{h:Sto}{Q:R->Sto->Prop}:Ok (zkU x ks rs h) Q=wPl x λl=>wO h[l]? λo=>wRc o λfs=>(fs.isEmpty=true/\ks.length=rs.length/\ks.Nodup/\ks≠[]/\ks.length<=15)/\Q (.loc l) (h.set l (.rcd (ks.zip rs))):=by
 cases x with
 |d x=>simp[zkU,wPl]
 | loc l=>
  simp only[zkU,wPl]
  cases h[l]? with
  |none=>simp[wO]
  | some o=>
   cases o with
   | rcd fs=>
    simp only[wO,wRc]
    by_cases c:fs.isEmpty=true/\ks.length=rs.length/\ks.Nodup/\ks≠[]/\ks.length<=15
    ·rw[if_pos c,propext ok_some'];exact propext ⟨λz=>⟨c,z⟩,λz=>z.2⟩
    ·rw [if_neg c]
     exact propext ⟨λz=>by simp at z,λz=>absurd z.1 c⟩
   |_=>simp[wO,wRc]
theorem ztI{x:R}{h:Sto}{Q:Unit->Sto->Prop}:Ok (zf2 x h) Q=wPl x λl=>wO h[l]? λo=>wLs o λ_=>Q () h:=by
 cases x with
 |d x=>simp[zf2,wPl]
 |loc l=>
  rw[propext zr1];simp only[wPl,<-zf4]
  congr;funext o;congr;cases o<;>simp[wLs,Ob.isL]
theorem qIsA{x:R}{c m:Str}{h:Sto}{Q:Unit->Sto->Prop}:Ok (isA x c m h) Q=wPl x λl=>wO h[l]? λo=>wIn o λc' fs=>c'=c/\fs.lookup m=none/\Q () h:=by
 cases x with|d x=>simp[isA,wPl]|loc l=>rw[propext zvs,zpP];rfl
theorem zvB{x:R}{f:Str}{v:R}{h:Sto}{Q:Unit->Sto->Prop}:Ok (setA x f v h) Q=wPl x λl=>wO h[l]? λo=>wIn o λc fs=>(fs.lookup f).isSome=true/\fs.length<900/\Q () (h.set l (.ins c (putF f v fs))):=by
 cases x with|d x=>simp[setA,wPl]|loc l=>rw[propext zuC,zub];rfl
theorem zvg{x:R}{c f:Str}{v:R}{h:Sto}{Q:Unit->Sto->Prop}:Ok (setN x c f v h) Q=wPl x λl=>wO h[l]? λo=>wIn o λc' fs=>c'=c/\fs.length<900/\Q () (h.set l (.ins c' (putF f v fs))):=by
 cases x with
 |d x=>simp[setN,wPl]
 | loc l=>
  rw[propext ztF,zpP];simp only[wPl]
  cases h[l]? with
  |none=>rfl
  | some o=>
   cases o with
   |ins c' fs=>
    simp only[wO,wIn];apply propext;constructor
    ·rintro⟨rfl,q⟩;exact⟨rfl,q⟩
    ·rintro⟨rfl,q⟩;exact⟨rfl,q⟩
   |_=>rfl
theorem ztU{x:R}{k:D}{d:D}{h:Sto}{Q:Unit->Sto->Prop}:Ok (zf8 x k d h) Q=wInt (.d k) λk=>wPl x λl=>wO h[l]? λo=>wLw o λxs=>wO (ixn xs.length k) λj=>Q () (h.set l (.lst (xs.set j d))):=by
 cases x with
 |d x=>cases k<;>simp[zf8,wPl,wInt]
 |loc l=>
  cases k with|int k=>rw[propext zr0];simp only[zf4];rw[zng];rfl|_=>simp[zf8,wInt]
theorem zpF{h:Sto}{x:R}{p:Nat->List Nat->Prop}:(∃l ls,x=.loc l/\h[l]?=some (.ols ls)/\p l ls)=wPl x λl=>wO h[l]? λo=>wOl o λls=>p l ls:=by
 cases x with
 |d x=>simp[wPl]
 | loc l=>
  simp only[R.loc.injEq,wPl]
  cases e:h[l]? with
  |none=>
   simp only[wO,eq_iff_iff,iff_false]
   rintro⟨_,ls,rfl,e2,_⟩
   rw[e] at e2;cases e2
  | some o=>
   simp only[wO,eq_iff_iff];constructor
   ·rintro⟨_,ls,rfl,e2,q⟩
    rw[e] at e2;cases e2
    exact q
   ·intro q
    cases o with|ols ls=>exact⟨l,ls,rfl,e,q⟩|_=>exact q.elim
theorem qOix{x y:R}{h:Sto}{Q:R->Sto->Prop}:(∃l ls k j,x=.loc l/\h[l]?=some (.ols ls)/\y=.d (.int k)/\at' ls k=some j/\Q (.loc j) h)=wPl x λl=>wO h[l]? λo=>wOl o λls=>wInt y λk=>wO (at' ls k) λj=>Q (.loc j) h:=by
 rw[<-zpF (p:=λl ls=>wInt y λk=>wO (at' ls k) λj=>Q (.loc j) h)];simp only[<-zqb,<-zf4,eq_iff_iff];constructor
 ·rintro⟨l,ls,k,j,a,b,c,d,q⟩;exact⟨l,ls,a,b,k,c,j,d,q⟩
 ·rintro⟨l,ls,a,b,k,c,j,d,q⟩;exact⟨l,ls,k,j,a,b,c,d,q⟩
theorem qOpt{α:Type}{o:Option α}{h:Sto}{Q:α->Sto->Prop}:Ok (opt o h) Q=wO o λa=>Q a h:=by rw[propext ok_opt,zf4]
theorem zri{y:R}{h:Sto}{p:Int->Sto->Prop}:(wRd y h λd h1=>wInt (.d d) λk=>p k h1)=wInt y λk=>p k h:=by
 match y with
 |.d (.int i)=>rfl|.d .non | .d (.bl _) | .d (.str _) | .d (.tup _) | .d (.lst _)=>rfl
 |.loc l=>
  simp only[wRd,wInt]
  cases h[l]? with|none=>rfl|some o=>cases o<;>rfl
theorem qMe'{m:Me}{x:R}{Γ:Calls}{h:Sto}{W:Sto->(List R->Sto->Prop)->Prop}{Q:R->Sto->Prop}:(wPl x λl=>wO h[l]? λo=>wLs o λ_=>W h λrs h3=>Ok (meth m x rs h3) Q)=(wPl x λl=>wO h[l]? λo=>wLs o λ_=>W h λrs h3=>wMe m (.loc l) rs h3 Q):=by
 cases x with|d x=>rfl|loc l=>simp only[wPl,qMe]
theorem zev{α:Type}{m:Option (α×Sto)}{Q:α->Sto->Prop}:Ok m Q=@Ask α m ⟨Q⟩:=propext zsX
theorem zuy{c m:Str}{x:R}{f:Nat}{Γ:Calls}{h:Sto}{W:Sto->(List R->Sto->Prop)->Prop}{Q:R->Sto->Prop}:(wPl x λl=>wO h[l]? λo=>wIn o λc' fs=>c'=c/\fs.lookup m=none/\W h λrs h3=>Ok (Γ f (x::rs) h3) Q)=(wPl x λl=>wO h[l]? λo=>wIn o λc' fs=>c'=c/\fs.lookup m=none/\W h λrs h3=>@Ask _ (Γ f (.loc l::rs) h3) ⟨Q⟩):=by
 cases x with|d x=>rfl|loc l=>simp only[wPl,zev]
theorem qIf{α:Type}{t:Bool}{x y:M α}{h:Sto}{Q:α->Sto->Prop}:Ok ((if t=true then x else y) h) Q=wB t (Ok (x h) Q) (Ok (y h) Q):=by cases t<;>rfl
mutual
theorem qE(Γ:Calls):∀(e:E) (σ:Env) (h:Sto) (Q:R->Sto->Prop),Ok (ev Γ e σ h) Q=wE Γ e σ h Q
 |.con d,σ,h,Q=>propext ok_ok
 |.var i,σ,h,Q=>by
  refine(propext zu0).trans ?_;show _=wO σ[i]? λo=>wO o λr=>Q r h
  cases σ[i]? with|none=>simp[wO]|some o=>cases o<;>simp[wO]
 |.bin o a b,σ,h,Q=>(propext ok_bnd).trans (by simp only[ok_bnd,qE Γ a,qE Γ b,qRd,qOpt,ok_ok];rfl)|.neg a,σ,h,Q=>by rw[propext zuY,qE Γ a];simp only[zqb];rfl|.chn o o' a b c,σ,h,Q=>(propext ok_bnd).trans (by simp only[ok_bnd,qE Γ a,qE Γ b,qE Γ c,qRd,qOpt,qIf,ok_ok];rfl)|.cmp o a b,σ,h,Q=>(propext ok_bnd).trans (by simp only[ok_bnd,qE Γ a,qE Γ b,qRd,qOpt,ok_ok];rfl)|.and a b,σ,h,Q=>by rw[propext zuM,qE Γ a];simp only[qE Γ b,zt2,zml];rfl|.or a b,σ,h,Q=>by rw[propext w_or,qE Γ a];simp only[qE Γ b,zt2,zrC];rfl|.not a,σ,h,Q=>(propext ok_bnd).trans (by simp only[ok_bnd,qE Γ a,qRd,qOpt,ok_ok];rfl)|.ife c a b,σ,h,Q=>(propext ok_bnd).trans (by simp only[qC Γ c,qIf,qE Γ a,qE Γ b];rfl)|.tup es,σ,h,Q=>(propext ok_bnd).trans (by simp only[ok_bnd,qEs Γ es,qFzs,ok_ok];rfl)|.lst true l,σ,h,Q=>(propext ok_bnd).trans (by simp only[qL Γ l,if_true,alloc,ok_some'];rfl)|.lst false l,σ,h,Q=>(propext ok_bnd).trans (by simp only[qL Γ l,Zz,if_false,ok_ok];rfl)|.idx a b,σ,h,Q=>(propext ok_bnd).trans (by simp only[ok_bnd,qE Γ a,qE Γ b,qRd,qOpt,ok_ok];rfl)|.sli a b c,σ,h,Q=>(propext ok_bnd).trans (by simp only[ok_bnd,qE Γ a,qE Γ b,qE Γ c,qRd,qOpt,ok_ok];rfl)|.call f es,σ,h,Q=>(propext ok_bnd).trans (by simp only[ok_bnd,qEs Γ es,zev,ok_ok];rfl)|.bi b es,σ,h,Q=>(propext ok_bnd).trans (by simp only[ok_bnd,qEs Γ es,qRds,qOpt,ok_ok];rfl)|.me m o es,σ,h,Q=>by rw[propext w_me,qE Γ o];simp only[ztI,qEs Γ es,qMe' (Γ:=Γ) (W:=λh Q=>wEs Γ es σ h Q)];rfl|.glo d,σ,h,Q=>propext ok_ok|.lm m o a,σ,h,Q=>(propext ok_bnd).trans (by simp only[ok_bnd,qE Γ o,qE Γ a,qRd,qOpt,ok_ok];rfl)|.dix a b,σ,h,Q=>(propext ok_bnd).trans (by simp only[ok_bnd,qE Γ a,qE Γ b,qRd,qOpt,ok_ok];rfl)|.fld o f,σ,h,Q=>(propext ok_bnd).trans (by simp only[ok_bnd,qE Γ o,zuV,ok_ok];rfl)|.rix o f,σ,h,Q=>(propext ok_bnd).trans (by simp only[ok_bnd,qE Γ o,zvv,ok_ok];rfl)|.rnew ks es,σ,h,Q=>(propext ok_bnd).trans (by simp only[rNew,ok_some',ok_bnd,qEs Γ es,ztx];rfl)|.make c f es,σ,h,Q=>by rw[propext ztl,qEs Γ es];simp only[zev];rfl|.mc c m f o es,σ,h,Q=>by rw[propext w_mc,qE Γ o];simp only[qIsA,qEs Γ es,zuy (Γ:=Γ) (W:=λh Q=>wEs Γ es σ h Q)];rfl|.lstO tg it c el,σ,h,Q=>by rw[propext zte,qI Γ it];simp only[zev];rfl|.oix a b,σ,h,Q=>by rw[propext zvi,qE Γ a];simp only[qE Γ b,qOix];rfl|.olen a,σ,h,Q=>by rw[propext zty,qE Γ a];simp only[zpF];rfl|.stuck,σ,h,Q=>by rw[propext zvE];rfl
theorem qEs(Γ:Calls):∀(es:List E) (σ:Env) (h:Sto) (Q:List R->Sto->Prop),Ok (evs Γ es σ h) Q=wEs Γ es σ h Q| [],σ,h,Q=>propext ok_ok|e::es,σ,h,Q=>(propext ok_bnd).trans (by simp only[ok_bnd,qE Γ e,qEs Γ es,ok_ok];rfl)
theorem qC(Γ:Calls):∀(e:T) (σ:Env) (h:Sto) (Q:Bool->Sto->Prop),Ok (tv Γ e σ h) Q=wC Γ e σ h Q|.val e,σ,h,Q=>(propext ok_bnd).trans (by simp only[ok_bnd,qE Γ e,qRd,qOpt,ok_ok];rfl)|.and a b,σ,h,Q=>(propext ok_bnd).trans (by simp only[qC Γ a,qIf,qC Γ b,ok_ok];rfl)|.or a b,σ,h,Q=>(propext ok_bnd).trans (by simp only[qC Γ a,qIf,qC Γ b,ok_ok];rfl)|.not a,σ,h,Q=>(propext ok_bnd).trans (by simp only[ok_bnd,qC Γ a,ok_ok];rfl)
theorem qCs(Γ:Calls):∀(es:List T) (σ:Env) (h:Sto) (Q:Bool->Sto->Prop),Ok (tvs Γ es σ h) Q=wCs Γ es σ h Q| [],σ,h,Q=>propext ok_ok|e::es,σ,h,Q=>(propext ok_bnd).trans (by simp only[qC Γ e,qIf,qCs Γ es,ok_ok];rfl)
theorem qL(Γ:Calls):∀(e:L) (σ:Env) (h:Sto) (Q:List D->Sto->Prop),Ok (evL Γ e σ h) Q=wL Γ e σ h Q|.disp es,σ,h,Q=>(propext ok_bnd).trans (by simp only[ok_bnd,qEs Γ es,qFzs,ok_ok];rfl)|.comp tg it c el,σ,h,Q=>(propext ok_bnd).trans (by simp only[ok_bnd,qI Γ it,zev,ok_ok];rfl)|.of e,σ,h,Q=>(propext ok_bnd).trans (by simp only[ok_bnd,qE Γ e,qRd,qOpt,ok_ok];rfl)|.rev e,σ,h,Q=>(propext ok_bnd).trans (by simp only[ok_bnd,qE Γ e,qRd,qOpt,ok_ok];rfl)|.cat a b,σ,h,Q=>(propext ok_bnd).trans (by simp only[ok_bnd,qE Γ a,qE Γ b,qRd,qOpt,ok_ok];rfl)
theorem qI(Γ:Calls):∀(e:I) (σ:Env) (h:Sto) (Q:Wk->Sto->Prop),Ok (evI Γ e σ h) Q=wI Γ e σ h Q
 |.seq e,σ,h,Q=>(propext ok_bnd).trans (by simp only[ok_bnd,qE Γ e,qWk,ok_ok];rfl)
 |.rng e,σ,h,Q=>by
  rw[propext zu1,qE Γ e]
  congr;funext r h1
  match r with|.d (.int n)=>exact propext zqt|.loc _ | .d .non | .d (.bl _) | .d (.str _) | .d (.tup _) | .d (.lst _)=>simp[zgY,wInt]
 |.enu e,σ,h,Q=>by rw[propext zvN,qE Γ e];simp only[qEn];rfl
end
mutual
theorem qS(Γ:Calls):∀(s:S) (σ:Env) (h:Sto) (Q:Fl×Env->Sto->Prop),Ok (ex Γ s σ h) Q=wS Γ s σ h Q
 |.asg tg e,σ,h,Q=>(propext ok_bnd).trans (by simp only[ok_bnd,qE Γ e,qT,ok_ok];rfl)|.setI o i e,σ,h,Q=>by rw[propext zsH,qE Γ e];simp only[qE Γ o,qE Γ i,qFz,qRd,ztU,zri (p:=λk h5=>wPl _ λl=>wO h5[l]? λo=>wLw o λxs=>wO (ixn xs.length k) λj=>Q (.nx,σ) (h5.set l (.lst (xs.set j _))))];rfl|.setF o f e,σ,h,Q=>(propext ok_bnd).trans (by simp only[ok_bnd,qE Γ e,qE Γ o,zvB,ok_ok];rfl)|.setN c o f e,σ,h,Q=>(propext ok_bnd).trans (by simp only[ok_bnd,qE Γ e,qE Γ o,zvg,ok_ok];rfl)|.exp e,σ,h,Q=>(propext ok_bnd).trans (by simp only[ok_bnd,qE Γ e,ok_ok];rfl)|.ife c a b,σ,h,Q=>(propext ok_bnd).trans (by simp only[qC Γ c,qIf,qSs Γ a,qSs Γ b];rfl)|.for tg it b,σ,h,Q=>(propext ok_bnd).trans (by simp only[ok_bnd,qI Γ it,zev,ok_ok];rfl)|.ret e,σ,h,Q=>(propext ok_bnd).trans (by simp only[ok_bnd,qE Γ e,ok_ok];rfl)|.retN,σ,h,Q=>propext ok_ok|.brk,σ,h,Q=>propext ok_ok|.cnt,σ,h,Q=>propext ok_ok|.rai c es,σ,h,Q=>by rw[propext zuQ];rfl|.setR o k e,σ,h,Q=>(propext ok_bnd).trans (by simp only[ok_bnd,qE Γ e,qE Γ o,zuG,ok_ok];rfl)
 | .tryv f es c i j ys,σ,h,Q=>by
  refine(propext ok_bnd).trans ?_;rw[qEs Γ es];show _=wEs Γ es σ h λrs h1=>@Ask _ (Γ f rs h1) ⟨λr h2=>Q (.nx,σ.set i (some r)) h2⟩\/Γ f rs h1=none/\@Ask _ (Γ (xof f) rs h1) ⟨λr h2=>zkY c r=true/\Q (.nx,(σ.set j none).set i (some (.d (.tup (ys.map λp=>.bl p.2))))) h2⟩
  congr;funext rs h1
  rw[<-zev,<-zev]
  cases e:Γ f rs h1 with
  |some p=>obtain⟨r,h2⟩:=p;simp[ok_some',ok_none]
  | none=>
   cases e2:Γ (xof f) rs h1 with
   |none=>simp[ok_some',ok_none]
   |some p=>
    obtain⟨r,h2⟩:=p
    cases e3:zkY c r with|false=>simp[ok_some',ok_none,e3]|true=>simp[ok_some',ok_none,e3]
 |.stuck,σ,h,Q=>by rw[propext zuW];rfl
theorem qSs(Γ:Calls):∀(s:List S) (σ:Env) (h:Sto) (Q:Fl×Env->Sto->Prop),Ok (exs Γ s σ h) Q=wSs Γ s σ h Q
 | [],σ,h,Q=>propext ok_ok
 |s::r,σ,h,Q=>by 
  rw[propext zll,qS Γ s];simp only[qSs Γ r]
  try congr
end
theorem st{α:Type}{o:Option α}{a:α}{Q:α->Prop}(e:o=some a)(k:Q a):wO o Q:=by rw[e];exact k
theorem br{t:Bool}{A B:Prop}(a:t=true->A)(b:t=false->B):wB t A B:=by cases t;exact b rfl;exact a rfl
theorem bf{t:Bool}{A B:Prop}(e:t=false)(k:B):wB t A B:=by rw[e];exact k
theorem bt{t:Bool}{A B:Prop}(e:t=true)(k:A):wB t A B:=by rw[e];exact k
theorem gs{Γ:Calls}{s:List S}{σ:Env}{h:Sto}{Q:Fl×Env->Sto->Prop}(k:wSs Γ s σ h Q):Ok (exs Γ s σ h) Q:=(qSs Γ s σ h Q).mpr k
theorem gb{Γ:Calls}{tg:Tg}{x:Ite}{b:List S}{σ:Env}{h:Sto}{Q:Fl×Env->Sto->Prop}(k:wBI tg x σ h λσ' h1=>wSs Γ b σ' h1 Q):Ok (bnd (zax tg x σ) (λσ'=>exs Γ b σ') h) Q:=by rw[propext ok_bnd,qBI];simp only[qSs];exact k
theorem gc{Γ:Calls}{tg:Tg}{c:List T}{el:E}{x:Ite}{σ:Env}{h:Sto}{Q:Option D->Sto->Prop}(k:wBI tg x (clr tg.slots σ) h λσ' h1=>wCs Γ c σ' h1 λt h2=>wB t (wE Γ el σ' h2 λr h3=>wFz r h3 λd h4=>Q (some d) h4) (Q none h2)):Ok (zob Γ tg c el σ x h) Q:=by rw[propext zsd,qBI];simp only[qCs,qE,qFz,zml];exact k
theorem qPl{x:R}{h:Sto}{Q:Nat->Sto->Prop}:Ok (zbQ x h) Q=wPl x λl=>wO h[l]? λo=>wPo o (Q l h):=by
 cases x with
 |d x=>simp[zbQ,wPl]
 |loc l=>
  simp only[zbQ,wPl]
  cases h[l]? with|none=>simp[wO]|some o=>cases o<;>simp[wO,wPo]
theorem go{Γ:Calls}{tg:Tg}{c:List T}{el:E}{x:Ite}{σ:Env}{h:Sto}{Q:Option Nat->Sto->Prop}(k:wBI tg x (clr tg.slots σ) h λσ' h1=>wCs Γ c σ' h1 λt h2=>wB t (wE Γ el σ' h2 λr h3=>wPl r λl=>wO h3[l]? λo=>wPo o (Q (some l) h3)) (Q none h2)):Ok (znC Γ tg c el σ x h) Q:=by rw[propext zqL,qBI];simp only[qCs,qE,qPl,zml];exact k
theorem fd{k:Bool}{x:D}{h h1:Sto}{Q:R->Sto->Prop}(o:objs h h1=true)(q:Q (.d x) (h1.take h.length)):Ok (fin h false k (.d x) h1) Q:=zrc.mpr ⟨o,q⟩
theorem f0{k:Bool}{x:D}{h:Sto}{Q:R->Sto->Prop}(q:Q (.d x) h):Ok (fin h false k (.d x) h) Q:=zrc.mpr ⟨zmH,by rw[Zm];exact q⟩
theorem fa{k:Bool}{x:D}{h t:Sto}{Q:R->Sto->Prop}(q:Q (.d x) h):Ok (fin h false k (.d x) (h++t)) Q:=zrc.mpr ⟨zdB,by rw[zjQ];exact q⟩
def kF(h:Sto)(all keep:Bool)(Q:R->Sto->Prop)(p:Fl×Env)(h1:Sto):Prop:=match p.1 with|.ret r=>Ok (fin h all keep r h1) Q|.nx=>Ok (fin h all keep (.d .non) h1) Q|_=>False
theorem cl{P:List F}{n f:Nat}{rs:List R}{h:Sto}{Q:R->Sto->Prop}{F:IT.F}(e:P[f]?=some F)(ed:F.dfl=[])(el:rs.length=F.np)
  (k:wSs (zad P n) F.body (rs.map some++ZO (F.ns-F.np) none) h (kF h F.all F.keep Q)):Ok (zad P (n+1) f rs h) Q:=zrZ e ed el (gs k)
end IT
namespace IT
section
variable {Γ:Calls}{σ:Env}{h:Sto}{Q:R->Sto->Prop}
theorem znP:∀(ss:List S) (σ:Env) (h:Sto) (z:R×Sto),exXs Γ ss σ h=some z->exs Γ ss σ h=none
 | [],σ,h,z,e=>by cases e
 | s::r,σ,h,z,e=>by
  rw[exXs] at e;rw[exs]
  cases ef:ex Γ s σ h with
  |none=>simp only[bnd,ef]
  |some p=>
   obtain⟨⟨fl,σ1⟩,h1⟩:=p;simp only[ef] at e;simp only[bnd,ef]
   cases fl with|nx=>exact znP r _ _ z e|cnt=>cases e|ret _=>cases e|brk=>cases e
end
theorem zoE{P:List F}{n f:Nat}{rs:List R}{h:Sto}{z:R×Sto}(hP:P.length<=1000)(hf:f<P.length)(e:zad P n (xof f) rs h=some z):zad P n f rs h=none:=by
 cases n with
 |zero=>rfl
 | succ n=>
  have e0:P[f]?=some P[f]:=Z6 hf;rw[zd6 hP e0] at e;rw[zba];simp only[e0]
  split
  ·rename_i c
   rw[if_pos c] at e
   cases ex:exXs (zad P n) P[f].body ((zaw P[f].np P[f].dfl rs).map some++ZO (P[f].ns-P[f].np) none) h with|none=>rw[ex] at e;cases e|some q=>rw[znP _ _ _ _ ex]
  ·rfl
section
variable {Γ:Calls}{σ:Env}{h:Sto}{Q:R->Sto->Prop}
theorem x_nx{s:S}{r:List S}(k:wS Γ s σ h λp h1=>match p.1 with
  |.nx=>Ok (exXs Γ r p.2 h1) Q
  |_=>False):Ok (exXs Γ (s::r) σ h) Q:=by
 have k:=(qS Γ s σ h _).mpr k;obtain⟨⟨fl,σ1⟩,h1,e,q⟩:=k;rw[exXs];simp only[e]
 cases fl with|nx=>exact q|cnt=>exact q.elim|ret _=>exact q.elim|brk=>exact q.elim
theorem zqj{s:S}{r:List S}(e:ex Γ s σ h=none)(k:Ok (exX Γ s σ h) Q):Ok (exXs Γ (s::r) σ h) Q:=by rw[exXs];simp only[e];exact k
theorem x_if{c:T}{cl:Nat}{es:List E}{b r:List S}(k:wC Γ c σ h λt h1=>t=true/\wEs Γ es σ h1 λ_ h2=>Q (.d (.int cl)) h2):Ok (exXs Γ (.ife c [.rai cl es] b::r) σ h) Q:=by
 have k:=(qC Γ c σ h _).mpr k;obtain⟨t,h1,e,rfl,q⟩:=k;have q:=(qEs Γ es σ h1 _).mpr q;obtain⟨rs,h2,e2,q⟩:=q;refine zqj ?_ ?_
 ·show bnd (tv Γ c σ) _ h=none
  simp only[bnd,e];rfl
 ·show Ok (bnd (tv Γ c σ) _ h) Q
  simp only[bnd,e];show Ok (exXs Γ [.rai cl es] σ h1) Q;refine zqj rfl ?_;show Ok (bnd (evs Γ es σ) _ h1) Q;simp only[bnd,e2];exact ok_some'.mpr q
end
theorem clX{P:List F}{n f:Nat}{rs:List R}{h:Sto}{Q:R->Sto->Prop}{F:IT.F}(hP:P.length<=1000)(e:P[f]?=some F)(ed:F.dfl=[])(el:rs.length=F.np)
  (k:Ok (exXs (zad P n) F.body (rs.map some++ZO (F.ns-F.np) none) h) λr h1=>Ok (finX h F.all F.keep r h1) Q):Ok (zad P (n+1) (xof f) rs h) Q:=by
 rw[zd6 hP e]
 have ef:zaw F.np F.dfl rs=rs:=by
  rw[ed];unfold zaw
  split
  ·rfl
  ·simp
 rw[ef,if_pos el];obtain⟨r,h1,e1,q⟩:=k;simp only[e1];exact q
end IT
namespace K21
open IT
variable {Q:R->Sto->Prop}
abbrev eV(i:Nat):E:=.var i
abbrev eJ(i:Int):E:=.con (.int i)
abbrev eS(x:List Nat):E:=.con (.str x)
abbrev eX(a:Nat)(i:Int):E:=.idx (.var a) (.con (.int i))
/- right_of (0): 0 table,1 state,2 name,3 right -/
def zgA:List S:=[
 .for (.tup [(.name 2),(.name 3)]) (.seq (eX 0 0)) [.ife (.val (.cmp .eq (eV 2) (eV 1))) [.ret (eV 3)] []],
 .ret (eS [110,111,110,101])]
/- hand_row (1): 0 table,1 state,2 event -/
def zgg:List S:=[
 .ret (.call 3 [(eV 0),(.tup [(eS [104,97,110,100]),(eV 1),(eV 2)])])]
/- house_row (2): 0 table,1 state,2 kind,3 last,4 row -/
def zfg:List S:=[
 .asg (.name 4) (.call 3 [(eV 0),(.tup [(eS [104,111,117,115,101]),(eV 1),(eV 2),(eS [97,110,121])])]),
 .ife (.val (.cmp .isN (eV 4) (.con .non))) [.asg (.name 4) (.call 3 [(eV 0),(.tup [(eS [104,111,117,115,101]),(eV 1),(eV 2),(.ife (.val (eV 3)) (eS [108,97,115,116]) (eS [109,111,114,101]))])])] [],
 .ret (eV 4)]
/- row_for (3): 0 table,1 head,2 row -/
def zh1:List S:=[
 .for (.name 2) (.seq (eX 0 2)) [.ife (.val (.cmp .eq (.sli (eV 2) (.con .non) (.bi .len [(eV 1)])) (eV 1))) [.ret (eV 2)] []],
 .ret (.con .non)]
/- is_wait (4): 0 row -/
def ziK:List S:=[
 .ret (.and (.cmp .isnotN (eV 0) (.con .non)) (.cmp .eq (.idx (eV 0) (.neg (eJ 1))) (.glo (.tup [(.tup [(.str [119,97,105,116])])]))))]
/- clash (5): 0 table,1 standing,2 rights,3 ?1?line -/
def zlN:List S:=[
 .asg (.name 2) (.lst false (.comp (.name 3) (.seq (eX 1 3)) [] (.call 0 [(eV 0),(eX 3 0)]))),
 .ret (.and (.cmp .isin (eS [119,114,105,116,101]) (eV 2)) (.cmp .gt (.bin .sub (.bi .len [(eV 2)]) (.lm .count (eV 2) (eS [110,111,110,101]))) (eJ 1)))]
/- has_version_of (6): 0 value,1 last -/
def zcl:List S:=[
 .ret (.cmp .eq (eX 0 0) (eX 1 0))]
/- letter_of (7): 0 kind,1 load,2 value -/
def zfM:List S:=[
 .ret (.tup [(eV 0),(.ife (.val (.cmp .eq (eV 1) (eS [118,97,108,117,101]))) (eV 2) (.con .non))])]
/- may_be_done (8): 0 table,1 hall,2 deed -/
def zdE:List S:=[
 .ife (.or (.val (.cmp .lt (eX 2 1) (eJ 0))) (.val (.cmp .ge (eX 2 1) (.olen (.fld (eV 1) "lines"))))) [.ret (.con (.bl false))] [],
 .ife (.val (.cmp .eq (eX 2 0) (eS [97,115,107]))) [.ret (.and (.cmp .isin (eX 2 2) (.glo (.tup [(.str [114,101,97,100]),(.str [119,114,105,116,101]),(.str [100,114,111,112])]))) (.cmp .isnotN (.call 10 [(eV 0),(eV 1),(eV 2)]) (.con .non)))] [],
 .ife (.or (.val (.cmp .lt (eX 2 2) (eJ 0))) (.val (.cmp .ge (eX 2 2) (.bi .len [(.call 9 [(eV 1),(eV 2)])])))) [.ret (.con (.bl false))] [],
 .ret (.not (.call 4 [(.call 10 [(eV 0),(eV 1),(eV 2)])]))]
/- way_of (9): 0 hall,1 deed,2 line -/
def zjU:List S:=[
 .asg (.name 2) (.oix (.fld (eV 0) "lines") (eX 1 1)),
 .ret (.ife (.val (.cmp .eq (eX 1 0) (eS [116,97,107,101]))) (.fld (eV 2) "to") (.fld (eV 2) "back"))]
/- row_for_deed (10): 0 table,1 hall,2 deed,3 state,4 kind -/
def zcZ:List S:=[
 .asg (.name 3) (.fld (.oix (.fld (eV 1) "lines") (eX 2 1)) "state"),
 .ife (.val (.cmp .eq (eX 2 0) (eS [97,115,107]))) [.ret (.call 1 [(eV 0),(eV 3),(eX 2 2)])] [],
 .asg (.name 4) (.idx (.idx (.call 9 [(eV 1),(eV 2)]) (eX 2 2)) (eJ 0)),
 .ife (.val (.cmp .eq (eX 2 0) (eS [116,97,107,101]))) [.ret (.call 1 [(eV 0),(eV 3),(eV 4)])] [],
 .ret (.call 2 [(eV 0),(.fld (eV 1) "state"),(eV 4),(.not (.mc "Hall" "other_sharers" 53 (eV 1) [(eX 2 1)]))])]
/- do_deed (11): 0 table,1 hall,2 deed,3 row -/
def ziA:List S:=[
 .asg (.name 3) (.call 10 [(eV 0),(eV 1),(eV 2)]),
 .ife (.val (.cmp .isN (eV 3) (.con .non))) [.setF (eV 1) "broken" (.tup [(eS [110,111,114,111,119])]),.retN] [],
 .ife (.val (.cmp .eq (eX 2 0) (eS [97,115,107]))) [.exp (.call 12 [(eV 1),(eV 2),(eV 3)])] [.ife (.val (.cmp .eq (eX 2 0) (eS [116,97,107,101]))) [.exp (.call 13 [(eV 1),(eV 2),(eV 3)])] [.exp (.call 14 [(eV 1),(eV 2),(eV 3)])]],
 .ife (.and (.val (.cmp .isN (.fld (eV 1) "broken") (.con .non))) (.val (.call 5 [(eV 0),(.mc "Hall" "as_tuple" 46 (eV 1) [])]))) [.setF (eV 1) "broken" (.tup [(eS [99,108,97,115,104])])] []]
/- do_ask (12): 0 hall,1 deed,2 row,3 line -/
def zkh:List S:=[
 .ife (.val (.cmp .eq (eX 1 2) (eS [119,114,105,116,101]))) [.asg (.name 3) (.oix (.fld (eV 0) "lines") (eX 1 1)),.setF (eV 3) "want" (eX 1 3)] [],
 .exp (.call 17 [(eV 0),(eX 1 1),(.con .non),(eV 2)])]
/- do_take (13): 0 hall,1 deed,2 row,3 line,4 value -/
def zif:List S:=[
 .asg (.name 3) (.oix (.fld (eV 0) "lines") (eX 1 1)),
 .asg (.name 4) (.idx (.idx (.fld (eV 3) "to") (eX 1 2)) (eJ 1)),
 .setF (eV 3) "to" (.call 16 [(.fld (eV 3) "to"),(eX 1 2)]),
 .exp (.call 17 [(eV 0),(eX 1 1),(eV 4),(eV 2)])]
/- do_get (14): 0 hall,1 deed,2 row -/
def zjE:List S:=[
 .exp (.call 19 [(eV 0),(eX 1 1),(.call 15 [(eV 0),(eV 1),(eV 2)]),(eV 2)])]
/- got_value (15): 0 hall,1 deed,2 row,3 line,4 value -/
def zfN:List S:=[
 .asg (.name 3) (.oix (.fld (eV 0) "lines") (eX 1 1)),
 .asg (.name 4) (.idx (.idx (.fld (eV 3) "back") (eX 1 2)) (eJ 1)),
 .ife (.val (.cmp .notin (.tup [(eS [115,116,97,121])]) (.idx (eV 2) (.neg (eJ 1))))) [.setF (eV 3) "back" (.call 16 [(.fld (eV 3) "back"),(eX 1 2)])] [],
 .ret (eV 4)]
/- without (16): 0 way,1 number -/
def zix:List S:=[
 .ret (.bin .add (.sli (eV 0) (.con .non) (eV 1)) (.sli (eV 0) (.bin .add (eV 1) (eJ 1)) (.con .non)))]
/- do_hand_row (17): 0 hall,1 hand,2 value,3 row,4 act,5 line -/
def zdQ:List S:=[
 .for (.name 4) (.seq (.idx (eV 3) (.neg (eJ 1)))) [.exp (.call 18 [(eV 0),(eV 1),(eV 2),(eV 4)]),.ife (.val (.cmp .isnotN (.fld (eV 0) "broken") (.con .non))) [.retN] []],
 .asg (.name 5) (.oix (.fld (eV 0) "lines") (eV 1)),
 .setF (eV 5) "state" (.idx (eV 3) (.neg (eJ 2)))]
/- do_hand_act (18): 0 hall,1 hand,2 value,3 act,4 line -/
def zdT:List S:=[
 .asg (.name 4) (.oix (.fld (eV 0) "lines") (eV 1)),
 .ife (.val (.cmp .eq (eX 3 0) (eS [107,101,101,112]))) [.setF (eV 4) "value" (eV 2)] [.ife (.val (.cmp .eq (eX 3 0) (eS [108,111,115,101]))) [.setF (eV 4) "value" (.con .non)] [.ife (.val (.cmp .eq (eX 3 0) (eS [112,117,116]))) [.exp (.mc "Hall" "write_value" 47 (eV 0) [(eV 1)])] [.ife (.val (.cmp .eq (eX 3 0) (eS [116,101,108,108]))) [.exp (.mc "Hall" "tell_value" 48 (eV 0) [(eV 1)])] [.exp (.mc "Hall" "send_to_house" 49 (eV 0) [(eV 1),(eX 3 1),(eX 3 2)])]]]]]
/- do_house_row (19): 0 hall,1 sender,2 value,3 row,4 act -/
def zc1:List S:=[
 .for (.name 4) (.seq (.idx (eV 3) (.neg (eJ 1)))) [.exp (.call 20 [(eV 0),(eV 1),(eV 2),(eV 4)]),.ife (.val (.cmp .isnotN (.fld (eV 0) "broken") (.con .non))) [.retN] []],
 .setF (eV 0) "state" (.idx (eV 3) (.neg (eJ 2)))]
/- do_house_act (20): 0 hall,1 sender,2 value,3 act,4 line -/
def zc5:List S:=[
 .asg (.name 4) (.oix (.fld (eV 0) "lines") (eV 1)),
 .ife (.val (.cmp .eq (eX 3 0) (eS [107,101,101,112]))) [.setF (eV 0) "store" (eV 2)] [.ife (.val (.cmp .eq (eX 3 0) (eS [111,119,110]))) [.setF (eV 4) "flags" (.bin .bor (.fld (eV 4) "flags") (.glo (.int 2)))] [.ife (.val (.cmp .eq (eX 3 0) (eS [115,104,97,114,101]))) [.setF (eV 4) "flags" (.bin .bor (.fld (eV 4) "flags") (.glo (.int 1)))] [.ife (.val (.cmp .eq (eX 3 0) (eS [102,111,114,103,101,116]))) [.setF (eV 4) "flags" (eJ 0)] [.ife (.val (.cmp .eq (eX 3 0) (eS [99,108,101,97,114]))) [.exp (.mc "Hall" "forget_all" 54 (eV 0) [])] [.ife (.val (.cmp .ne (eX 3 0) (eS [115,116,97,121]))) [.exp (.call 21 [(eV 0),(eV 1),(eV 3)])] []]]]]]]
/- send_from_house (21): 0 hall,1 sender,2 act,3 hand -/
def zbX:List S:=[
 .for (.name 3) (.seq (.call 22 [(eV 0),(eV 1),(eX 2 0)])) [.exp (.mc "Hall" "send_to_hand" 50 (eV 0) [(eV 3),(eX 2 1),(eX 2 2)])]]
/- receivers (22): 0 hall,1 sender,2 word -/
def ze5:List S:=[
 .ife (.val (.cmp .eq (eV 2) (eS [115,101,110,100]))) [.ret (.lst false (.disp [(eV 1)]))] [],
 .ife (.val (.cmp .eq (eV 2) (eS [111,119,110,101,114]))) [.ret (.mc "Hall" "hands_with" 52 (eV 0) [(.glo (.int 2))])] [],
 .ret (.mc "Hall" "other_sharers" 53 (eV 0) [(eV 1)])]
/- step (23): 0 table,1 standing,2 deed,3 hall -/
def zpW:List S:=[
 .asg (.name 3) (.make "Hall" 45 [(eV 1)]),
 .ife (.not (.val (.call 8 [(eV 0),(eV 3),(eV 2)]))) [.rai 0 [(eS [116,104,105,115,32,100,101,101,100,32,109,97,121,32,110,111,116,32,98,101,32,100,111,110,101,32,104,101,114,101])]] [],
 .exp (.call 11 [(eV 0),(eV 3),(eV 2)]),
 .ife (.val (.cmp .isnotN (.fld (eV 3) "broken") (.con .non))) [.ret (.tup [(eV 1),(.con .non),(.fld (eV 3) "broken")])] [],
 .ret (.tup [(.mc "Hall" "as_tuple" 46 (eV 3) []),(.fld (eV 3) "answer"),(.con .non)])]
/- _law_cell_at (24): 0 _law_script,1 _law_k -/
def ze9:List S:=[
 .ife (.val (.cmp .lt (eV 1) (.bi .len [(eV 0)]))) [.ret (.idx (eV 0) (eV 1))] [],
 .ret (eJ 0)]
/- _law_digits (25): 0 _law_cell,1 _law_size,2 _law_many,3 _law_found,4 _law_mix,5 _law_rest,6 _law_k -/
def zgh:List S:=[
 .asg (.name 3) (.lst true (.disp [])),
 .asg (.name 4) (.bin .mod (.bin .mul (.bin .add (eV 0) (eJ 1)) (eJ 48271)) (eJ 2147483647)),
 .asg (.name 5) (.bin .fdiv (eV 0) (eJ 2)),
 .for (.name 6) (.rng (eV 2)) [.asg (.name 4) (.bin .mod (.bin .mul (.bin .add (.bin .add (eV 4) (.bin .mul (eJ 7919) (eV 6))) (eJ 1)) (.bin .add (.bin .fdiv (eV 4) (eJ 1009)) (eJ 69621))) (eJ 2147483647)),.exp (.me .append (eV 3) [(.idx (.lst false (.disp [(.bin .mod (.bin .fdiv (eV 4) (eJ 7)) (eV 1)),(.bin .mod (eV 5) (eV 1))])) (.bi .int [(.and (.cmp .eq (.bin .mod (eV 0) (eJ 2)) (eJ 0)) (.cmp .gt (eV 5) (eJ 0)))]))]),.asg (.name 5) (.bin .fdiv (eV 5) (eV 1))],
 .ret (eV 3)]
/- _law_words (26): 0 _law_cell,1 _law_states -/
def zhJ:List S:=[
 .asg (.name 1) (.idx (.lst false (.disp [(.lst false (.disp [(eS [97]),(eS [98]),(eS [99])])),(.lst false (.disp [(eS [114,101,97,100]),(eS [119,114,105,116,101]),(eS [100,114,111,112])])),(.lst false (.disp [(eS [119,97,105,116]),(eS [107,101,101,112]),(eS [97])]))])) (.bin .mod (eV 0) (eJ 3))),
 .ret (.tup [(eV 1),(.idx (.lst false (.disp [(.tup [(eS [109]),(eS [110])]),(.tup [(eS [115,116,97,121]),(eS [119,97,105,116])]),(.tup [(eS [112,117,116]),(eS [116,101,108,108])]),(.tup [(eS [107,101,101,112]),(eS [111,119,110])])])) (.bin .mod (.bin .fdiv (eV 0) (eJ 3)) (eJ 4)))])]
/- _law_hand_acts (27): 0 _law_d,1 _law_event,2 _law_kinds,3 _law_m,4 _law_n,5 _law_some -/
def zdJ:List S:=[
 .asg (.tup [(.name 3),(.name 4)]) (eV 2),
 .asg (.name 5) (.lst true (.disp [(.tup []),(.tup [(.tup [(eS [116,101,108,108])])]),(.tup [(.tup [(eS [112,117,116])])]),(.tup [(.tup [(eS [115,101,110,100]),(eV 3),(eS [98,97,114,101])])]),(.tup [(.tup [(eS [115,101,110,100]),(eV 4),(eS [118,97,108,117,101])]),(.tup [(eS [108,111,115,101])])])])),
 .asg (.name 5) (.lst true (.cat (eV 5) (.lst false (.disp [(.tup [(.tup [(eS [108,111,115,101])]),(.tup [(eS [115,101,110,100]),(eV 3),(eS [118,97,108,117,101])])]),(.tup [(.tup [(eS [112,117,116])]),(.tup [(eS [115,101,110,100]),(eV 4),(eS [118,97,108,117,101])])]),(.tup [(.tup [(eS [116,101,108,108])]),(.tup [(eS [108,111,115,101])])])])))),
 .ife (.val (.cmp .isin (eV 1) (eV 2))) [.asg (.name 5) (.lst true (.disp [(.tup []),(.tup [(.tup [(eS [107,101,101,112])])]),(.tup [(.tup [(eS [107,101,101,112])]),(.tup [(eS [116,101,108,108])])]),(.tup [(.tup [(eS [107,101,101,112])]),(.tup [(eS [112,117,116])])]),(.tup [(.tup [(eS [112,117,116])]),(.tup [(eS [107,101,101,112])])])])),.asg (.name 5) (.lst true (.cat (eV 5) (.lst false (.disp [(.tup [(.tup [(eS [107,101,101,112])]),(.tup [(eS [115,101,110,100]),(eV 4),(eS [118,97,108,117,101])])]),(.tup [(.tup [(eS [108,111,115,101])]),(.tup [(eS [115,101,110,100]),(eV 3),(eS [118,97,108,117,101])])])])))),.exp (.me .append (eV 5) [(.tup [(.tup [(eS [107,101,101,112])]),(.tup [(eS [116,101,108,108])]),(.tup [(eS [115,101,110,100]),(eV 4),(eS [98,97,114,101])]),(.tup [(eS [115,101,110,100]),(eV 3),(eS [118,97,108,117,101])])])])] [],
 .ret (.idx (eV 5) (.bin .mod (eV 0) (eJ 8)))]
/- _law_house_acts (28): 0 _law_d,1 _law_kinds,2 _law_m,3 _law_n,4 _law_some -/
def zcU:List S:=[
 .asg (.tup [(.name 2),(.name 3)]) (eV 1),
 .asg (.name 4) (.lst true (.disp [(.tup [(.tup [(eS [107,101,101,112])])]),(.tup [(.tup [(eS [111,119,110])]),(.tup [(eS [115,101,110,100]),(eV 2),(eS [118,97,108,117,101])])]),(.tup [(.tup [(eS [115,104,97,114,101])]),(.tup [(eS [115,101,110,100]),(eV 3),(eS [118,97,108,117,101])])]),(.tup [(.tup [(eS [102,111,114,103,101,116])])])])),
 .exp (.me .append (eV 4) [(.tup [(.tup [(eS [111,116,104,101,114,115]),(eV 3),(eS [98,97,114,101])]),(.tup [(eS [115,116,97,121])])])]),
 .exp (.me .append (eV 4) [(.tup [(.tup [(eS [111,119,110,101,114]),(eV 2),(eS [118,97,108,117,101])]),(.tup [(eS [107,101,101,112])]),(.tup [(eS [111,119,110,101,114]),(eV 3),(eS [118,97,108,117,101])])])]),
 .exp (.me .append (eV 4) [(.tup [(.tup [(eS [107,101,101,112])]),(.tup [(eS [99,108,101,97,114])]),(.tup [(eS [111,116,104,101,114,115]),(eV 2),(eS [118,97,108,117,101])]),(.tup [(eS [115,101,110,100]),(eV 3),(eS [118,97,108,117,101])])])]),
 .exp (.me .append (eV 4) [(.tup [(.tup [(eS [115,101,110,100]),(eV 2),(eS [98,97,114,101])]),(.tup [(eS [111,116,104,101,114,115]),(eV 3),(eS [118,97,108,117,101])]),(.tup [(eS [111,119,110])]),(.tup [(eS [115,104,97,114,101])])])]),
 .ret (.idx (eV 4) (.bin .mod (eV 0) (eJ 8)))]
/- _law_table (29): 0 _law_cell,1 _law_states,2 _law_kinds,3 _law_ds,4 _law_hands,5 _law_rows,6 _law_k,7 _law_state,8 _law_event,9 _law_d,10 _law_kind,11 _law_whens,12 _law_when,13 _law_acts,14 ?1?_law_k -/
def ziI:List S:=[
 .asg (.name 3) (.call 25 [(eV 0),(eJ 256),(eJ 30)]),
 .asg (.name 4) (.bi .tuple [(.lst false (.comp (.name 14) (.rng (eJ 3)) [] (.tup [(.idx (eV 1) (eV 14)),(.idx (.lst false (.disp [(eS [110,111,110,101]),(eS [114,101,97,100]),(eS [119,114,105,116,101])])) (.bin .mod (.idx (eV 3) (eV 14)) (eJ 3)))])))]),
 .asg (.name 5) (.lst true (.disp [])),
 .for (.name 6) (.rng (eJ 15)) [.asg (.name 7) (.idx (eV 1) (.bin .fdiv (eV 6) (eJ 5))),.asg (.name 8) (.idx (.bin .add (.lst false (.disp [(eS [114,101,97,100]),(eS [119,114,105,116,101]),(eS [100,114,111,112])])) (.lst false (.of (eV 2)))) (.bin .mod (eV 6) (eJ 5))),.asg (.name 9) (.idx (eV 3) (.bin .add (eJ 3) (eV 6))),.ife (.val (.cmp .gt (.bin .fdiv (eV 9) (eJ 32)) (eJ 0))) [.exp (.me .append (eV 5) [(.tup [(eS [104,97,110,100]),(eV 7),(eV 8),(.idx (eV 1) (.bin .mod (.bin .mod (.bin .fdiv (eV 9) (eJ 8)) (eJ 4)) (eJ 3))),(.call 27 [(eV 9),(eV 8),(eV 2)])])])] []],
 .for (.name 6) (.rng (eJ 4)) [.asg (.name 7) (.idx (.lst false (.disp [(eS [104]),(eS [107])])) (.bin .fdiv (eV 6) (eJ 2))),.asg (.name 10) (.idx (eV 2) (.bin .mod (eV 6) (eJ 2))),.asg (.name 9) (.idx (eV 3) (.bin .add (eJ 18) (.bin .mul (eJ 2) (eV 6)))),.asg (.name 11) (.idx (.lst false (.disp [(.lst false (.disp [(eS [97,110,121])])),(.lst false (.disp [(eS [97,110,121])])),(.lst false (.disp [(eS [108,97,115,116]),(eS [109,111,114,101])])),(.lst false (.disp [(eS [108,97,115,116]),(eS [109,111,114,101])])),(.lst false (.disp [(eS [108,97,115,116])])),(.lst false (.disp [(eS [109,111,114,101])])),(.lst false (.disp [])),(.lst false (.disp [(eS [119,97,105,116])]))])) (.bin .fdiv (eV 9) (eJ 32))),.for (.name 12) (.seq (eV 11)) [.asg (.name 13) (.call 28 [(.idx (eV 3) (.bin .add (.bin .add (eJ 18) (.bin .mul (eJ 2) (eV 6))) (.bi .int [(.cmp .eq (eV 12) (eS [109,111,114,101]))]))),(eV 2)]),.ife (.val (.cmp .eq (eV 12) (eS [119,97,105,116]))) [.exp (.me .append (eV 5) [(.tup [(eS [104,111,117,115,101]),(eV 7),(eV 10),(eS [97,110,121]),(eV 7),(.tup [(.tup [(eS [119,97,105,116])])])])])] [.exp (.me .append (eV 5) [(.tup [(eS [104,111,117,115,101]),(eV 7),(eV 10),(eV 12),(.idx (.lst false (.disp [(eS [104]),(eS [107])])) (.bin .mod (.bin .fdiv (.idx (eV 3) (.bin .add (eJ 19) (.bin .mul (eJ 2) (eV 6)))) (eJ 16)) (eJ 2))),(eV 13)])])]]],
 .ret (.tup [(eV 4),(.tup [(eS [104]),(eS [107])]),(.bi .tuple [(eV 5)])])]
/- _law_value (30): 0 _law_d,1 _law_last,2 _law_version -/
def zim:List S:=[
 .ife (.val (.cmp .eq (.bin .mod (eV 0) (eJ 4)) (eJ 0))) [.ret (.con .non)] [],
 .ife (.val (.cmp .eq (.bin .mod (eV 0) (eJ 4)) (eJ 1))) [.ret (eV 1)] [],
 .asg (.name 2) (.bin .mod (.bin .fdiv (eV 0) (eJ 4)) (eX 1 0)),
 .ret (.tup [(eV 2),(.bin .mul (eJ 7) (eV 2))])]
/- _law_way (31): 0 _law_d,1 _law_last,2 _law_kinds,3 _law_some -/
def zl5:List S:=[
 .asg (.name 3) (.lst false (.disp [(.tup [(eX 2 0),(.call 30 [(.bin .fdiv (eV 0) (eJ 3)),(eV 1)])]),(.tup [(eX 2 1),(.call 30 [(.bin .fdiv (eV 0) (eJ 64)),(eV 1)])])])),
 .ife (.val (.cmp .eq (.bin .mod (.bin .fdiv (eV 0) (eJ 512)) (eJ 2)) (eJ 1))) [.asg (.name 3) (.lst false (.rev (eV 3)))] [],
 .ret (.bi .tuple [(.sli (eV 3) (.con .non) (.bin .mod (eV 0) (eJ 3)))])]
/- _law_line (32): 0 _law_cell,1 _law_last,2 _law_states,3 _law_kinds,4 _law_ds,5 _law_want,6 _law_ways -/
def zjY:List S:=[
 .asg (.name 4) (.call 25 [(eV 0),(eJ 1024),(eJ 6)]),
 .asg (.name 5) (.bin .add (.bin .sub (.bin .mod (.bin .fdiv (eV 0) (eJ 3)) (.bin .sub (.bin .mul (eJ 2) (.bin .pow (eJ 10) (eJ 40))) (eJ 1))) (.bin .pow (eJ 10) (eJ 40))) (eJ 1)),
 .asg (.name 6) (.tup [(.call 31 [(eX 4 2),(eV 1),(eV 3)]),(.call 31 [(eX 4 3),(eV 1),(eV 3)]),(.bin .mod (eX 4 4) (eJ 4))]),
 .ret (.bin .add (.tup [(.idx (eV 2) (.bin .mod (eX 4 0) (eJ 3))),(.call 30 [(eX 4 1),(eV 1)]),(eV 5)]) (eV 6))]
/- _law_deed (33): 0 _law_cell,1 _law_many,2 _law_ds,3 _law_hand,4 _law_word,5 _law_k -/
def zkj:List S:=[
 .asg (.name 2) (.call 25 [(eV 0),(eJ 16),(eJ 4)]),
 .asg (.name 3) (.bin .sub (.bin .mod (eX 2 0) (.bin .add (eV 1) (.bi .int [(.cmp .eq (eX 2 3) (eJ 0))]))) (.bin .mul (.bi .int [(.cmp .eq (eX 2 3) (eJ 1))]) (.bin .add (eV 1) (eJ 1)))),
 .asg (.name 4) (.idx (.lst false (.disp [(eS [114,101,97,100]),(eS [119,114,105,116,101]),(eS [100,114,111,112])])) (.bin .mod (eX 2 2) (eJ 3))),
 .ife (.and (.val (.cmp .eq (.bin .mod (eX 2 1) (eJ 4)) (eJ 0))) (.val (.cmp .eq (eV 4) (eS [119,114,105,116,101])))) [.ret (.tup [(eS [97,115,107]),(eV 3),(eV 4),(.bin .add (.bin .sub (.bin .mod (.bin .fdiv (eV 0) (eJ 16)) (.bin .sub (.bin .mul (eJ 2) (.bin .pow (eJ 10) (eJ 40))) (eJ 1))) (.bin .pow (eJ 10) (eJ 40))) (eJ 1))])] [],
 .ife (.val (.cmp .eq (.bin .mod (eX 2 1) (eJ 4)) (eJ 0))) [.ret (.tup [(eS [97,115,107]),(eV 3),(eV 4)])] [],
 .asg (.name 5) (.bin .sub (.bin .add (.bin .fdiv (.bin .mod (eX 2 2) (eJ 8)) (eJ 5)) (.bin .mul (.bin .fdiv (eX 2 2) (eJ 8)) (.bi .int [(.cmp .gt (eX 2 3) (eJ 12))]))) (.bin .mul (eJ 2) (.bi .int [(.cmp .eq (eX 2 3) (eJ 12))]))),
 .ret (.tup [(.idx (.lst false (.disp [(eS [116,97,107,101]),(eS [103,101,116]),(eS [103,101,116])])) (.bin .sub (.bin .mod (eX 2 1) (eJ 4)) (eJ 1))),(eV 3),(eV 5)])]
/- _law_row (34): 0 _law_table_here,1 _law_standing,2 _law_deed_here,3 _law_lines,4 _law_line_here,5 _law_row_here,6 _law_meant,7 _law_others,8 ?1?_law_k -/
def znm:List S:=[
 .asg (.name 3) (eX 1 3),
 .asg (.name 4) (.idx (eV 3) (eX 2 1)),
 .for (.name 5) (.seq (eX 0 2)) [.ife (.and (.val (.cmp .ne (eX 2 0) (eS [103,101,116]))) (.and (.val (.cmp .eq (eX 5 0) (eS [104,97,110,100]))) (.val (.cmp .eq (eX 5 1) (eX 4 0))))) [.ife (.val (.cmp .eq (eX 5 2) (eX 2 2))) [.ret (eV 5)] [],.ife (.and (.val (.cmp .eq (eX 2 0) (eS [116,97,107,101]))) (.val (.cmp .eq (eX 5 2) (.idx (.idx (eX 4 3) (eX 2 2)) (eJ 0))))) [.ret (eV 5)] []] [],.asg (.name 6) (.and (.cmp .eq (eX 2 0) (eS [103,101,116])) (.and (.cmp .eq (eX 5 0) (eS [104,111,117,115,101])) (.cmp .eq (eX 5 1) (eX 1 0)))),.ife (.and (.val (eV 6)) (.val (.cmp .eq (eX 5 2) (.idx (.idx (eX 4 4) (eX 2 2)) (eJ 0))))) [.asg (.name 7) (.lst false (.comp (.name 8) (.rng (.bi .len [(eV 3)])) [(.and (.val (.cmp .ne (eV 8) (eX 2 1))) (.val (.cmp .eq (.bin .mod (.idx (.idx (eV 3) (eV 8)) (eJ 5)) (eJ 2)) (eJ 1))))] (eV 8))),.ife (.or (.val (.cmp .eq (eX 5 3) (eS [97,110,121]))) (.val (.cmp .eq (.cmp .eq (eX 5 3) (eS [108,97,115,116])) (.cmp .eq (eV 7) (.lst false (.disp [])))))) [.ret (eV 5)] []] []],
 .ret (.con .non)]
/- _law_none (35): 0 _law_table_here,1 _law_standing,2 _law_deed_here,3 _law_line_here,4 _law_row_here -/
def zkB:List S:=[
 .ife (.or (.val (.cmp .lt (eX 2 1) (eJ 0))) (.val (.cmp .ge (eX 2 1) (.bi .len [(eX 1 3)])))) [.ret (.con (.bl true))] [],
 .asg (.name 3) (.idx (eX 1 3) (eX 2 1)),
 .ife (.val (.cmp .eq (eX 2 0) (eS [116,97,107,101]))) [.ret (.not (.chn .le .lt (eJ 0) (eX 2 2) (.bi .len [(eX 3 3)])))] [],
 .ife (.and (.val (.cmp .eq (eX 2 0) (eS [103,101,116]))) (.not (.val (.chn .le .lt (eJ 0) (eX 2 2) (.bi .len [(eX 3 4)]))))) [.ret (.con (.bl true))] [],
 .asg (.name 4) (.call 34 [(eV 0),(eV 1),(eV 2)]),
 .ife (.val (.cmp .eq (eX 2 0) (eS [97,115,107]))) [.ret (.cmp .isN (eV 4) (.con .non))] [],
 .ret (.and (.cmp .isnotN (eV 4) (.con .non)) (.cmp .eq (.idx (eV 4) (.neg (eJ 1))) (.tup [(.tup [(eS [119,97,105,116])])])))]
/- _law_posted (36): 0 _law_lines,1 _law_hand,2 _law_way_here,3 _law_letter -/
def zgw:List S:=[
 .ife (.val (.cmp .gt (.bi .len [(.idx (.oix (eV 0) (eV 1)) (eV 2))]) (eJ 1))) [.ret (.con (.bl false))] [],
 .setI (.oix (eV 0) (eV 1)) (eV 2) (.bin .add (.idx (.oix (eV 0) (eV 1)) (eV 2)) (.tup [(eV 3)])),
 .ret (.con (.bl true))]
/- _law_hand_act (37): 0 _law_state,1 _law_hand,2 _law_act,3 _law_value_here,4 _law_line_here,5 _law_sent -/
def zeA:List S:=[
 .asg (.name 4) (.oix (.rix (eV 0) "lines") (eV 1)),
 .ife (.val (.cmp .eq (eX 2 0) (eS [107,101,101,112]))) [.setI (eV 4) (eJ 1) (eV 3)] [],
 .ife (.val (.cmp .eq (eX 2 0) (eS [108,111,115,101]))) [.setI (eV 4) (eJ 1) (.con .non)] [],
 .ife (.val (.cmp .eq (eX 2 0) (eS [112,117,116]))) [.setR (eV 0) "last" (.tup [(.bin .add (.idx (.rix (eV 0) "last") (eJ 0)) (eJ 1)),(eX 4 2)]),.setI (eV 4) (eJ 1) (.rix (eV 0) "last"),.setR (eV 0) "answer" (.tup [(eS [119,114,111,116,101]),(eV 1),(eX 4 2)])] [],
 .ife (.val (.cmp .eq (eX 2 0) (eS [116,101,108,108]))) [.ife (.or (.val (.cmp .isN (eX 4 1) (.con .non))) (.val (.cmp .ne (.idx (eX 4 1) (eJ 0)) (.idx (.rix (eV 0) "last") (eJ 0))))) [.ret (.tup [(eS [111,108,100])])] [],.setR (eV 0) "answer" (.tup [(eS [114,101,97,100]),(eV 1),(.idx (eX 4 1) (eJ 1))])] [],
 .ife (.val (.cmp .eq (eX 2 0) (eS [115,101,110,100]))) [.asg (.name 5) (.idx (.lst false (.disp [(.con .non),(eX 4 1)])) (.bi .int [(.cmp .eq (eX 2 2) (eS [118,97,108,117,101]))])),.ife (.not (.val (.call 36 [(.rix (eV 0) "lines"),(eV 1),(eJ 4),(.tup [(eX 2 1),(eV 5)])]))) [.ret (.tup [(eS [102,117,108,108])])] []] [],
 .ret (.con .non)]
/- _law_house_act (38): 0 _law_state,1 _law_hand,2 _law_act,3 _law_value_here,4 _law_lines,5 _law_sent,6 _law_to,7 _law_line_here,8 ?1?_law_k,9 ?2?_law_k,10 ?3?_law_k -/
def zdU:List S:=[
 .asg (.name 4) (.rix (eV 0) "lines"),
 .ife (.val (.cmp .eq (eX 2 0) (eS [107,101,101,112]))) [.setR (eV 0) "store" (eV 3)] [],
 .ife (.val (.cmp .isin (eX 2 0) (.lst false (.disp [(eS [115,101,110,100]),(eS [111,119,110,101,114]),(eS [111,116,104,101,114,115])])))) [.asg (.name 5) (.idx (.lst false (.disp [(.con .non),(.rix (eV 0) "store")])) (.bi .int [(.cmp .eq (eX 2 2) (eS [118,97,108,117,101]))])),.asg (.name 6) (.lst false (.disp [(eV 1)])),.ife (.val (.cmp .eq (eX 2 0) (eS [111,119,110,101,114]))) [.asg (.name 6) (.lst false (.comp (.name 8) (.rng (.olen (eV 4))) [(.val (.cmp .gt (.idx (.oix (eV 4) (eV 8)) (eJ 5)) (eJ 1)))] (eV 8)))] [],.ife (.val (.cmp .eq (eX 2 0) (eS [111,116,104,101,114,115]))) [.asg (.name 6) (.lst false (.comp (.name 9) (.rng (.olen (eV 4))) [(.and (.val (.cmp .ne (eV 9) (eV 1))) (.val (.cmp .eq (.bin .mod (.idx (.oix (eV 4) (eV 9)) (eJ 5)) (eJ 2)) (eJ 1))))] (eV 9)))] [],.ife (.val (.cmp .ne (.lst false (.comp (.name 10) (.seq (eV 6)) [(.not (.val (.call 36 [(eV 4),(eV 10),(eJ 3),(.tup [(eX 2 1),(eV 5)])])))] (eV 10))) (.lst false (.disp [])))) [.ret (.tup [(eS [102,117,108,108])])] []] [],
 .ife (.val (.cmp .eq (eX 2 0) (eS [111,119,110]))) [.setI (.oix (eV 4) (eV 1)) (eJ 5) (.bin .add (.bin .mod (.idx (.oix (eV 4) (eV 1)) (eJ 5)) (eJ 2)) (eJ 2))] [],
 .ife (.val (.cmp .eq (eX 2 0) (eS [115,104,97,114,101]))) [.setI (.oix (eV 4) (eV 1)) (eJ 5) (.bin .add (.bin .mul (.bin .fdiv (.idx (.oix (eV 4) (eV 1)) (eJ 5)) (eJ 2)) (eJ 2)) (eJ 1))] [],
 .ife (.val (.cmp .eq (eX 2 0) (eS [102,111,114,103,101,116]))) [.setI (.oix (eV 4) (eV 1)) (eJ 5) (eJ 0)] [],
 .ife (.val (.cmp .eq (eX 2 0) (eS [99,108,101,97,114]))) [.for (.name 7) (.seq (eV 4)) [.setI (eV 7) (eJ 5) (eJ 0)]] [],
 .ret (.con .non)]
/- _law_clashes (39): 0 _law_table_here,1 _law_lines,2 _law_rights,3 ?1?_law_line_here,4 ?2?_law_right -/
def zft:List S:=[
 .asg (.name 2) (.lst false (.comp (.name 3) (.seq (eV 1)) [] (.dix (eX 0 0) (eX 3 0)))),
 .ret (.and (.cmp .isin (eS [119,114,105,116,101]) (eV 2)) (.cmp .gt (.bi .len [(.lst false (.comp (.name 4) (.seq (eV 2)) [(.val (.cmp .ne (eV 4) (eS [110,111,110,101])))] (eV 4)))]) (eJ 1)))]
/- _law_done (40): 0 _law_table_here,1 _law_standing,2 _law_deed_here,3 _law_row_here,4 _law_lines,5 _law_state,6 _law_value_here,7 _law_way_here,8 _law_letters,9 _law_rest,10 _law_act,11 _law_fault,12 _law_house,13 _law_made,14 _law_behind,15 ?1?_law_line_here,16 ?2?_law_line_here -/
def zbg:List S:=[
 .asg (.name 3) (.call 34 [(eV 0),(eV 1),(eV 2)]),
 .ife (.val (.cmp .isN (eV 3) (.con .non))) [.ret (.tup [(eV 1),(.con .non),(.tup [(eS [110,111,114,111,119])])])] [],
 .asg (.name 4) (.lstO (.name 15) (.seq (eX 1 3)) [] (.lst true (.of (eV 15)))),
 .asg (.name 5) (.rnew ["lines", "store", "last", "answer"] [(eV 4),(eX 1 1),(eX 1 2),(.con .non)]),
 .asg (.name 6) (.con .non),
 .asg (.name 7) (.idx (.lst false (.disp [(eJ 4),(eJ 3)])) (.bi .int [(.cmp .eq (eX 2 0) (eS [116,97,107,101]))])),
 .ife (.and (.val (.cmp .eq (eX 2 0) (eS [97,115,107]))) (.val (.cmp .eq (eX 2 2) (eS [119,114,105,116,101])))) [.setI (.oix (eV 4) (eX 2 1)) (eJ 2) (eX 2 3)] [],
 .ife (.val (.cmp .ne (eX 2 0) (eS [97,115,107]))) [.asg (.name 8) (.idx (.oix (eV 4) (eX 2 1)) (eV 7)),.asg (.name 6) (.idx (.idx (eV 8) (eX 2 2)) (eJ 1)),.ife (.val (.cmp .notin (.tup [(eS [115,116,97,121])]) (.idx (eV 3) (.neg (eJ 1))))) [.asg (.name 9) (.bin .add (.sli (eV 8) (.con .non) (eX 2 2)) (.sli (eV 8) (.bin .add (eX 2 2) (eJ 1)) (.con .non))),.setI (.oix (eV 4) (eX 2 1)) (eV 7) (eV 9)] []] [],
 .for (.name 10) (.seq (.idx (eV 3) (.neg (eJ 1)))) [.ife (.val (.cmp .eq (eX 3 0) (eS [104,97,110,100]))) [.asg (.name 11) (.call 37 [(eV 5),(eX 2 1),(eV 10),(eV 6)])] [.asg (.name 11) (.call 38 [(eV 5),(eX 2 1),(eV 10),(eV 6)])],.ife (.val (.cmp .isnotN (eV 11) (.con .non))) [.ret (.tup [(eV 1),(.con .non),(eV 11)])] []],
 .asg (.name 12) (eX 1 0),
 .ife (.val (.cmp .eq (eX 3 0) (eS [104,97,110,100]))) [.setI (.oix (eV 4) (eX 2 1)) (eJ 0) (eX 3 3)] [.asg (.name 12) (eX 3 4)],
 .ife (.val (.call 39 [(eV 0),(eV 4)])) [.ret (.tup [(eV 1),(.con .non),(.tup [(eS [99,108,97,115,104])])])] [],
 .asg (.name 13) (.bi .tuple [(.lst false (.comp (.name 16) (.seq (eV 4)) [] (.bi .tuple [(eV 16)])))]),
 .asg (.name 14) (.tup [(eV 12),(.rix (eV 5) "store"),(.rix (eV 5) "last")]),
 .ret (.tup [(.bin .add (eV 14) (.tup [(eV 13)])),(.rix (eV 5) "answer"),(.con .non)])]
/- _law_asked (41): 0 _law_table_here,1 _law_standing,2 _law_deed_here,3 _law_found,4 e -/
def zhG:List S:=[
 .asg (.name 3) (.con .non),
 .tryv 23 [(eV 0),(eV 1),(eV 2)] 0 3 4 [("NoDeed",true),("BadTable",false),("ValueError",true)],
 .ret (eV 3)]
/- law (42): 0 _law_script,1 _law_states,2 _law_kinds,3 _law_table_here,4 _law_last,5 _law_many,6 _law_lines,7 _law_house,8 _law_store,9 _law_standing,10 _law_cell,11 _law_deed_here,12 _law_due,13 ?1?_law_k -/
def ztc:List S:=[
 .asg (.tup [(.name 1),(.name 2)]) (.call 26 [(.call 24 [(eV 0),(eJ 7)])]),
 .asg (.name 3) (.call 29 [(.call 24 [(eV 0),(eJ 0)]),(eV 1),(eV 2)]),
 .asg (.name 4) (.tup [(.bin .add (eJ 1) (.bin .mod (.call 24 [(eV 0),(eJ 1)]) (.bin .pow (eJ 10) (eJ 9)))),(.bin .mod (.call 24 [(eV 0),(eJ 1)]) (.bin .pow (eJ 10) (eJ 40)))]),
 .asg (.name 5) (.bin .add (eJ 1) (.bin .mod (.call 24 [(eV 0),(eJ 2)]) (eJ 4))),
 .asg (.name 6) (.bi .tuple [(.lst false (.comp (.name 13) (.rng (eV 5)) [] (.call 32 [(.call 24 [(eV 0),(.bin .add (eJ 3) (eV 13))]),(eV 4),(eV 1),(eV 2)])))]),
 .asg (.name 7) (.idx (.lst false (.disp [(eS [104]),(eS [107])])) (.bin .mod (.bin .fdiv (.call 24 [(eV 0),(eJ 2)]) (eJ 4)) (eJ 2))),
 .asg (.name 8) (.call 30 [(.bin .mod (.bin .fdiv (.call 24 [(eV 0),(eJ 2)]) (eJ 8)) (eJ 256)),(eV 4)]),
 .asg (.name 9) (.tup [(eV 7),(eV 8),(eV 4),(eV 6)]),
 .for (.name 10) (.seq (.bin .add (.lst false (.disp [(.call 24 [(eV 0),(eJ 8)])])) (.sli (eV 0) (eJ 9) (eJ 39)))) [.asg (.name 11) (.call 33 [(eV 10),(eV 5)]),.asg (.name 12) (.tup [(.con (.bl true)),(.con (.bl false)),(.con (.bl true))]),.ife (.not (.val (.call 35 [(eV 3),(eV 9),(eV 11)]))) [.asg (.name 12) (.call 40 [(eV 3),(eV 9),(eV 11)])] [],.ife (.val (.cmp .ne (.call 41 [(eV 3),(eV 9),(eV 11)]) (eV 12))) [.ret (.con (.bl false))] [],.ife (.val (.cmp .isN (eX 12 2) (.con .non))) [.asg (.name 9) (eX 12 0)] []],
 .ret (.con (.bl true))]
/- OpenLine.__init__ (43): 0 self,1 line -/
def zb3:List S:=[
 .setN "OpenLine" (eV 0) "state" (eX 1 0),
 .setN "OpenLine" (eV 0) "value" (eX 1 1),
 .setN "OpenLine" (eV 0) "want" (eX 1 2),
 .setN "OpenLine" (eV 0) "to" (eX 1 3),
 .setN "OpenLine" (eV 0) "back" (eX 1 4),
 .setN "OpenLine" (eV 0) "flags" (eX 1 5)]
/- OpenLine.as_tuple (44): 0 self -/
def zbh:List S:=[
 .ret (.tup [(.fld (eV 0) "state"),(.fld (eV 0) "value"),(.fld (eV 0) "want"),(.fld (eV 0) "to"),(.fld (eV 0) "back"),(.fld (eV 0) "flags")])]
/- Hall.__init__ (45): 0 self,1 standing,2 ?1?line -/
def zd2:List S:=[
 .setN "Hall" (eV 0) "state" (eX 1 0),
 .setN "Hall" (eV 0) "store" (eX 1 1),
 .setN "Hall" (eV 0) "last" (eX 1 2),
 .setN "Hall" (eV 0) "lines" (.lstO (.name 2) (.seq (eX 1 3)) [] (.make "OpenLine" 43 [(eV 2)])),
 .setN "Hall" (eV 0) "answer" (.con .non),
 .setN "Hall" (eV 0) "broken" (.con .non)]
/- Hall.as_tuple (46): 0 self,1 lines,2 ?1?line -/
def zbW:List S:=[
 .asg (.name 1) (.bi .tuple [(.lst false (.comp (.name 2) (.seq (.fld (eV 0) "lines")) [] (.mc "OpenLine" "as_tuple" 44 (eV 2) [])))]),
 .ret (.tup [(.fld (eV 0) "state"),(.fld (eV 0) "store"),(.fld (eV 0) "last"),(eV 1)])]
/- Hall.write_value (47): 0 self,1 hand,2 line -/
def zbw:List S:=[
 .asg (.name 2) (.oix (.fld (eV 0) "lines") (eV 1)),
 .setF (eV 0) "last" (.tup [(.bin .add (.idx (.fld (eV 0) "last") (eJ 0)) (eJ 1)),(.fld (eV 2) "want")]),
 .setF (eV 2) "value" (.fld (eV 0) "last"),
 .setF (eV 0) "answer" (.tup [(eS [119,114,111,116,101]),(eV 1),(.fld (eV 2) "want")])]
/- Hall.tell_value (48): 0 self,1 hand,2 line -/
def zbF:List S:=[
 .asg (.name 2) (.oix (.fld (eV 0) "lines") (eV 1)),
 .ife (.or (.val (.cmp .isN (.fld (eV 2) "value") (.con .non))) (.not (.val (.call 6 [(.fld (eV 2) "value"),(.fld (eV 0) "last")])))) [.setF (eV 0) "broken" (.tup [(eS [111,108,100])])] [.setF (eV 0) "answer" (.tup [(eS [114,101,97,100]),(eV 1),(.idx (.fld (eV 2) "value") (eJ 1))])]]
/- Hall.send_to_house (49): 0 self,1 hand,2 kind,3 load,4 line -/
def za8:List S:=[
 .asg (.name 4) (.oix (.fld (eV 0) "lines") (eV 1)),
 .setF (eV 4) "back" (.mc "Hall" "posted" 51 (eV 0) [(.fld (eV 4) "back"),(.call 7 [(eV 2),(eV 3),(.fld (eV 4) "value")])])]
/- Hall.send_to_hand (50): 0 self,1 hand,2 kind,3 load,4 line -/
def zbl:List S:=[
 .asg (.name 4) (.oix (.fld (eV 0) "lines") (eV 1)),
 .setF (eV 4) "to" (.mc "Hall" "posted" 51 (eV 0) [(.fld (eV 4) "to"),(.call 7 [(eV 2),(eV 3),(.fld (eV 0) "store")])])]
/- Hall.posted (51): 0 self,1 way,2 letter -/
def zcK:List S:=[
 .ife (.val (.cmp .ge (.bi .len [(eV 1)]) (.glo (.int 2)))) [.setF (eV 0) "broken" (.tup [(eS [102,117,108,108])]),.ret (eV 1)] [],
 .ret (.bin .add (eV 1) (.tup [(eV 2)]))]
/- Hall.hands_with (52): 0 self,1 flag,2 ?1?hand,3 ?1?line -/
def zbB:List S:=[
 .ret (.lst false (.comp (.tup [(.name 2),(.name 3)]) (.enu (.fld (eV 0) "lines")) [(.val (.bin .band (.fld (eV 3) "flags") (eV 1)))] (eV 2)))]
/- Hall.other_sharers (53): 0 self,1 sender,2 ?1?hand -/
def za5:List S:=[
 .ret (.lst false (.comp (.name 2) (.seq (.mc "Hall" "hands_with" 52 (eV 0) [(.glo (.int 1))])) [(.val (.cmp .ne (eV 2) (eV 1)))] (eV 2)))]
/- Hall.forget_all (54): 0 self,1 line -/
def zbD:List S:=[
 .for (.name 1) (.seq (.fld (eV 0) "lines")) [.setF (eV 1) "flags" (eJ 0)]]
def P:List F:=[⟨2,4,zgA,false,[],false⟩,⟨3,3,zgg,false,[],false⟩,⟨4,5,zfg,false,[],false⟩,⟨2,3,zh1,false,[],false⟩,⟨1,1,ziK,false,[],false⟩,⟨2,4,zlN,false,[],false⟩,⟨2,2,zcl,false,[],false⟩,⟨3,3,zfM,false,[],false⟩,⟨3,3,zdE,false,[],false⟩,⟨2,3,zjU,false,[],false⟩,⟨3,5,zcZ,false,[],false⟩,⟨3,4,ziA,false,[],true⟩,⟨3,4,zkh,false,[],true⟩,⟨3,5,zif,false,[],true⟩,⟨3,3,zjE,false,[],true⟩,⟨3,5,zfN,false,[],true⟩,⟨2,2,zix,false,[],false⟩,⟨4,6,zdQ,false,[],true⟩,⟨4,5,zdT,false,[],true⟩,⟨4,5,zc1,false,[],true⟩,⟨4,5,zc5,false,[],true⟩,⟨3,4,zbX,false,[],true⟩,⟨3,3,ze5,false,[],false⟩,⟨3,4,zpW,false,[],false⟩,⟨2,2,ze9,false,[],false⟩,⟨3,7,zgh,false,[],false⟩,⟨1,2,zhJ,false,[],false⟩,⟨3,6,zdJ,false,[],false⟩,⟨2,5,zcU,false,[],false⟩,⟨3,15,ziI,false,[],false⟩,⟨2,3,zim,false,[],false⟩,⟨3,4,zl5,false,[],false⟩,⟨4,7,zjY,false,[],false⟩,⟨2,6,zkj,false,[],false⟩,⟨3,9,znm,false,[],false⟩,⟨3,5,zkB,false,[],false⟩,⟨4,4,zgw,false,[],false⟩,⟨4,6,zeA,false,[],true⟩,⟨4,11,zdU,false,[],true⟩,⟨2,5,zft,false,[],false⟩,⟨3,17,zbg,false,[],false⟩,⟨3,5,zhG,false,[],false⟩,⟨1,14,ztc,false,[],false⟩,⟨2,2,zb3,false,[],true⟩,⟨1,1,zbh,false,[],false⟩,⟨2,3,zd2,false,[],true⟩,⟨1,3,zbW,false,[],false⟩,⟨2,3,zbw,false,[],true⟩,⟨2,3,zbF,false,[],true⟩,⟨4,5,za8,false,[],true⟩,⟨4,5,zbl,false,[],true⟩,⟨3,3,zcK,false,[],true⟩,⟨2,4,zbB,false,[],false⟩,⟨2,3,za5,false,[],false⟩,⟨1,2,zbD,false,[],true⟩]
variable {Q:R->Sto->Prop}
abbrev Tx:=List Nat
abbrev Val:=Option (Int×Int)
def prD(p:Int×Int):D:=.tup [.int p.1,.int p.2]
def valD:Val->D|none=>.non|some p=>prD p
abbrev Lt:=Tx×Val
def letD(p:Lt):D:=.tup [.str p.1,valD p.2]
def wayD(w:List Lt):D:=.tup (w.map letD)
structure Ln where
 st:Tx
 v:Val
 want:Int
 to:List Lt
 back:List Lt
 fl:Nat
def lnD(l:Ln):D:=.tup [.str l.st,valD l.v,.int l.want,wayD l.to,wayD l.back,.int l.fl]
structure Hl where
 s:Tx
 sr:Val
 la:Int×Int
 ls:List Ln
 ans:D
 brk:D
def opnF(l:Ln):List (Ya×R):=[("state",.d (.str l.st)),("value",.d (valD l.v)),("want",.d (.int l.want)),("to",.d (wayD l.to)),("back",.d (wayD l.back)),("flags",.d (.int l.fl))]
def halF(X:Hl)(q:Nat):List (Ya×R):=[("state",.d (.str X.s)),("store",.d (valD X.sr)),("last",.d (prD X.la)),("lines",.loc q),("answer",.d X.ans),("broken",.d X.brk)]
theorem zm1(n:Nat)(k:Q (.d .non) (h++[.ins "OpenLine" (opnF l)])):Ok (zad P (n+1) 43 [.loc h.length,.d (lnD l)] (h++[.ins "OpenLine" []])) Q:=by refine cl rfl rfl rfl ?_;refine st zag ⟨rfl,(by decide:0<900),?_⟩;rw[zau];refine st zag ⟨rfl,(by decide:1<900),?_⟩;rw[zau];refine st zag ⟨rfl,(by decide:2<900),?_⟩;rw[zau];refine st zag ⟨rfl,(by decide:3<900),?_⟩;rw[zau];refine st zag ⟨rfl,(by decide:4<900),?_⟩;rw[zau];refine st zag ⟨rfl,(by decide:5<900),?_⟩;rw[zau];exact zae.mpr k
def zaK(p:Nat)(n:Nat):List Nat:=(YO n).map (p+·)
abbrev lnO(l:Ln):Ob:=.ins "OpenLine" (opnF l)
def halS(p:Nat)(X:Hl):Sto:=.ins "Hall" (halF X (p+1+X.ls.length))::(X.ls.map lnO++[.ols (zaK (p+1) X.ls.length)])
def stdD(s:Tx)(a:Val)(b:Int×Int)(ls:List Ln):D:=.tup [.str s,valD a,prD b,.tup (ls.map lnD)]
theorem ziM(n:Nat)(k:Q (.d .non) (h++halS h.length ⟨s,a,b,ls,.non,.non⟩)):Ok (zad P (n+2) 45 [.loc h.length,.d (stdD s a b ls)] (h++[.ins "Hall" []])) Q:=by
 refine cl rfl rfl rfl ?_;refine st zag ⟨rfl,(by decide:0<900),?_⟩;rw[zau];refine st zag ⟨rfl,(by decide:1<900),?_⟩;rw[zau];refine st zag ⟨rfl,(by decide:2<900),?_⟩;rw[zau];refine ask ?_;rw[Zt];refine zb0 (g:=dI∘lnD) (λi ys h'=>i<=ls.length/\ys=zaK (h.length+1) i/\h'=h++.ins "Hall" [("state",.d (.str s)),("store",.d (valD a)),("last",.d (prD b))]::((ls.take i).map lnO)) ?_ ?_ ⟨by omega,rfl,rfl⟩
 ·rintro i l ys h' hl ⟨hi,rfl,rfl⟩
  have hi2:i<ls.length:=(Z9.mp hl).1
  have e1:h++.ins "Hall" [("state",.d (.str s)),("store",.d (valD a)),("last",.d (prD b))]::((ls.take (i+1)).map lnO)=(h++.ins "Hall" [("state",.d (.str s)),("store",.d (valD a)),("last",.d (prD b))]::((ls.take i).map lnO))++[.ins "OpenLine" (opnF l)]:=by rw[YL,hl];simp
  have e2:(h++.ins "Hall" [("state",.d (.str s)),("store",.d (valD a)),("last",.d (prD b))]::((ls.take i).map lnO)).length=h.length+1+i:=by simp;exact OYb hi2
  rw[e1];generalize (h++.ins "Hall" [("state",.d (.str s)),("store",.d (valD a)),("last",.d (prD b))]::((ls.take i).map lnO))=h1 at e2⊢;refine go ?_;refine ask (zm1 n ⟨rfl,?_⟩);refine st zag ?_;refine⟨rfl,by omega,?_,rfl⟩;rw[e2];unfold zaK;rw[Wi,Zd];rfl
 ·rintro ys h' ⟨hi,rfl,rfl⟩
  rw[Zm];ac_rfl;simp only[Zj,Yf,Zu,Zr,Z4];refine st zag ⟨rfl,(by decide:3<900),?_⟩;rw[zau];refine st zag ⟨rfl,(by decide:4<900),?_⟩;rw[zau];refine st zag ⟨rfl,(by decide:5<900),?_⟩;rw[zau];refine zae.mpr ?_
  have e:halS h.length ⟨s,a,b,ls,.non,.non⟩=.ins "Hall" (halF ⟨s,a,b,ls,.non,.non⟩ (h.length+(ls.length+1)))::(ls.map lnO++[.ols (zaK (h.length+1) ls.length)]):=by unfold halS;rw[show h.length+1+ls.length=h.length+(ls.length+1) by omega]
  rw[e] at k;exact k
structure zcF(h:Sto)(p:Nat)(X:Hl)(q:Nat):Prop where
 hall:h[p]?=some (.ins "Hall" (halF X q))
 ols:h[q]?=some (.ols (zaK (p+1) X.ls.length))
 ln:∀i l,X.ls[i]?=some l->h[p+1+i]?=some (.ins "OpenLine" (opnF l))
theorem za0{p n:Nat}{i:Int}(h0:0<=i)(h1:i<n):at' (zaK p n) i=some (p+i.toNat):=by unfold at' ixn zaK;simp only[Z4,Xe,if_pos h0,if_pos h1];rw[ZX,Za (by exact OZU h0 h1)];rfl
theorem za1:(zaK p n).length=n:=by simp[zaK]
theorem zpD:zcF (h++halS h.length X++t) h.length X (h.length+1+X.ls.length):=by
 unfold halS;refine⟨?_,?_,λi l e=>?_⟩
 ·rw [Zj,ZS (Z0 _),XM]
  rfl
 ·rw [Zj,ZS (by exact OZN),show h.length+1+X.ls.length-h.length=X.ls.length+1 by exact OZM]
  simp
 ·have hi:i<X.ls.length:=(Z9.mp e).1
  rw[Zj,ZS (by exact OZN),show h.length+1+i-h.length=i+1 by exact OZM];simp only[Yf,YS,Zj];rw[ZM (by simpa using hi),ZX,e];rfl
theorem zaa:zcF (h++halS h.length X) h.length X (h.length+1+X.ls.length):=by
 have:=zpD (h:=h) (X:=X) (t:=[])
 rwa [Ze] at this
theorem zb1(hk:k<X.ls.length):(h++halS h.length X).set (h.length+1+k) (.ins "OpenLine" (opnF l))=h++halS h.length {X with ls:=X.ls.set k l}:=by unfold halS;rw[Y7 _ _ (by exact OZN),show h.length+1+k-h.length=k+1 by exact OZM,List.set_cons_succ,List.set_append_left _ _ (by simpa using hk),<-List.map_set];simp only[YU];rfl
theorem zc3{Y:Hl}(e:Y.ls.length=X.ls.length)(e2:Y.ls=X.ls):(h++halS h.length X).set h.length (.ins "Hall" (halF Y (h.length+1+X.ls.length)))=h++halS h.length Y:=by unfold halS;rw[zau,e2]
abbrev kask:Tx:=[97,115,107]
abbrev zjp:Tx:=[116,97,107,101]
abbrev kget:Tx:=[103,101,116]
abbrev zeb:Tx:=[104,97,110,100]
abbrev zaI:Tx:=[104,111,117,115,101]
abbrev kany:Tx:=[97,110,121]
abbrev zbT:Tx:=[108,97,115,116]
abbrev zcy:Tx:=[109,111,114,101]
abbrev zgc:Tx:=[114,101,97,100]
abbrev zaB:Tx:=[119,114,105,116,101]
abbrev zoa:Tx:=[100,114,111,112]
abbrev zdz:Tx:=[119,97,105,116]
abbrev zcG:Tx:=[110,111,110,101]
abbrev zoP:Tx:=[107,101,101,112]
abbrev zu6:Tx:=[108,111,115,101]
abbrev kput:Tx:=[112,117,116]
abbrev zsZ:Tx:=[116,101,108,108]
abbrev zlM:Tx:=[115,101,110,100]
abbrev kown:Tx:=[111,119,110]
abbrev zup:Tx:=[115,104,97,114,101]
abbrev zrn:Tx:=[102,111,114,103,101,116]
abbrev zsv:Tx:=[99,108,101,97,114]
abbrev zeL:Tx:=[115,116,97,121]
abbrev zql:Tx:=[111,119,110,101,114]
abbrev znx:Tx:=[111,116,104,101,114,115]
abbrev zaW:Tx:=[118,97,108,117,101]
abbrev zn1:Tx:=[98,97,114,101]
abbrev zqm:Tx:=[119,114,111,116,101]
abbrev kold:Tx:=[111,108,100]
abbrev zih:Tx:=[102,117,108,108]
abbrev zeB:Tx:=[110,111,114,111,119]
abbrev zjW:Tx:=[99,108,97,115,104]
inductive HA where|keep | lose | put | tell|send (m l:Tx)
inductive OA where|keep | own | share | forget | clear | stay|send (w:Nat) (m l:Tx)
def zo6(w:Nat):Tx:=if w=0 then zlM else if w=1 then zql else znx
def haD:HA->D|.keep=>.tup [.str zoP]|.lose=>.tup [.str zu6]|.put=>.tup [.str kput]|.tell=>.tup [.str zsZ]|.send m l=>.tup [.str zlM,.str m,.str l]
def oaD:OA->D|.keep=>.tup [.str zoP]|.own=>.tup [.str kown]|.share=>.tup [.str zup]|.forget=>.tup [.str zrn]|.clear=>.tup [.str zsv]|.stay=>.tup [.str zeL]|.send w m l=>.tup [.str (zo6 w),.str m,.str l]
inductive Acts where|hand (as:List HA)|house (as:List OA)|wait
def zeM:Acts->D|.hand as=>.tup (as.map haD)|.house as=>.tup (as.map oaD)|.wait=>.tup [.tup [.str zdz]]
structure Row where
 k:Tx
 m:List Tx
 nx:Tx
 acts:Acts
def rowD(r:Row):D:=.tup (.str r.k::(r.m.map D.str++[.str r.nx,zeM r.acts]))
structure Row.Ok(r:Row):Prop where
 m:2<=r.m.length
 hand:r.k=zeb->∃as,r.acts=.hand as
 house:r.k=zaI->r.acts=.wait\/∃as,r.acts=.house as
structure Tab where
 hands:List (Tx×Tx)
 h0:Tx
 hs:List D
 rows:List Row
def hnD(p:Tx×Tx):D:=.tup [.str p.1,.str p.2]
def tabD(T:Tab):D:=.tup [.tup (T.hands.map hnD),.tup (.str T.h0::T.hs),.tup (T.rows.map rowD)]
structure Tab.Ok(T:Tab):Prop where
 rows:∀r∈T.rows,r.Ok
 few:T.rows.length<=100
 hands:T.hands≠[]
def optR:Option Row->D|some d=>rowD d|none=>.non
def zgv(hd:List D):D->Bool|.tup r=>D.eqbs (r.take hd.length) hd|_=>false
def zcn(rows:List Row)(hd:List D):Option Row:=rows.find? λr=>zgv hd (rowD r)
theorem zdl(n:Nat){T:Tab}(hdep:(D.tup hd).dep<=60)(kq:Q (.d (optR (zcn T.rows hd))) h):Ok (zad P (n+1) 3 [.d (tabD T),.d (.tup hd)] h) Q:=by
 refine cl rfl rfl rfl ?_;refine ask ?_;show Ok (loop _ _ ((T.rows.map rowD).map dI) _ _) _;refine zbI (xs:=T.rows.map rowD) (λi σ h'=>h'=h/\zcn T.rows hd=zcn (T.rows.drop i) hd/\∃v,σ=[some (.d (tabD T)),some (.d (.tup hd)),v]) ?_ ?_ ⟨rfl,rfl,none,rfl⟩
 ·rintro i r σ h' hr ⟨rfl,hf,v,rfl⟩
  rw[ZX,ZL] at hr;obtain⟨r,hr,rfl⟩:=hr;have hi:=(Z9.mp hr).1
  have hd1:T.rows.drop i=r::T.rows.drop (i+1):=by rw[ZG hi,(Z9.mp hr).2]
  rw[hd1] at hf;refine gb ?_;ac_rfl;rw[cutN];refine st (zgZ (zfW hdep)) ?_;refine br (λc=>?_) (λc=>?_)
  ·ac_rfl
   rw[hf] at kq;unfold zcn at kq
   rw[Xd (by unfold zgv;exact c)] at kq
   exact f0 kq
  ·ac_rfl
   rw[hf];unfold zcn
   rw[Xc (p:=λr=>zgv hd (rowD r)) (a:=r) (show ¬zgv hd (rowD r)=true by intro z;cases c.symm.trans z)]
   exact⟨rfl,rfl,rfl,_,rfl⟩
 ·rintro σ h' ⟨rfl,hf,v,rfl⟩
  rw[Z4,YM (Z0 _)] at hf;rw[hf] at kq;exact f0 kq
theorem dep3:(D.tup [.str a,.str b,.str c]).dep<=60:=by simp[D.dep,D.deps]
theorem dep4:(D.tup [.str a,.str b,.str c,.str d]).dep<=60:=by simp[D.dep,D.deps]
def zbj(T:Tab)(s e:Tx):Option Row:=zcn T.rows [.str zeb,.str s,.str e]
theorem zez(n:Nat){T:Tab}(kq:Q (.d (optR (zbj T s e))) h):Ok (zad P (n+2) 1 [.d (tabD T),.d (.str s),.d (.str e)] h) Q:=by refine cl rfl rfl rfl ?_;exact ask (zdl n dep3 (f0 kq))
def za6(T:Tab)(s m:Tx)(last:Bool):Option Row:=(zcn T.rows [.str zaI,.str s,.str m,.str kany]).or (zcn T.rows [.str zaI,.str s,.str m,.str (if last then zbT else zcy)])
theorem zgJ(n:Nat){T:Tab}(kq:Q (.d (optR (za6 T s m last))) h):Ok (zad P (n+2) 2 [.d (tabD T),.d (.str s),.d (.str m),.d (.bl last)] h) Q:=by
 refine cl rfl rfl rfl ?_;unfold za6 at kq;refine ask (zdl n dep4 ?_)
 cases e:zcn T.rows [.str zaI,.str s,.str m,.str kany] with
 |some r=>rw[e] at kq;exact f0 kq
 |none=>
  rw[e] at kq
  refine br (λc=>?_) (λc=>?_)<;>subst c<;>ac_rfl<;>exact ask (zdl n dep4 (f0 kq))
variable {Q:R->Sto->Prop}
def zrd(w:Tx)(l:Ln):List Lt:=if w=zjp then l.to else l.back
theorem zeX(n:Nat){h:Sto}{k:Nat}{d:List D}{w:Tx}{l:Ln}(H:zcF h p X q)(el:X.ls[k]?=some l)(kq:Q (.d (wayD (zrd w l))) h):Ok (zad P (n+1) 9 [.loc p,.d (.tup (.str w::.int k::d))] h) Q:=by
 refine cl rfl rfl rfl ?_;have hk:k<X.ls.length:=(Z9.mp el).1;have e4:=H.ln k l el;refine st H.hall ?_;refine st zke ?_;refine st H.ols ?_;refine st (za0 (by omega) (by exact OZ7 hk)) ?_;refine st zjO ?_;refine br (λc=>?_) (λc=>?_)
 ·have c':w=zjp:=Z3 c
  refine st e4 ?_;refine f0 ?_;unfold zrd at kq
  rwa [if_pos c'] at kq
 ·have c':¬w=zjp:=ne_of_beq_false c
  refine st e4 ?_;refine f0 ?_;unfold zrd at kq
  rwa [if_neg c'] at kq
def hasF(f:Nat)(l:Ln):Bool:=((l.fl &&& f:Nat):Int) != 0
def zk4(f:Nat)(ls:List Ln):List (Int×Ln):=(nums 0 ls).filter λp=>hasF f p.2
theorem zsb{ls:List Ln}:zav 0 ((zaK p ls.length).map λl=>Ite.r (.loc l))=some ((nums 0 ls).map λx=>Ite.en x.1 (.loc (p+x.1.toNat))):=by
 have gen:∀(ls:List Ln) (i:Nat),zav (i:Int) (((List.range' i ls.length).map (p+·)).map λl=>Ite.r (.loc l))=some ((nums (i:Int) ls).map λx=>Ite.en x.1 (.loc (p+x.1.toNat))):=by
  intro ls
  induction ls with
  |nil=>intro i;rfl
  |cons l ls ih=>
   intro i
   have:=ih (i+1)
   push_cast at this
   simp only[Zr,List.range'_succ,ZC,zav,this,nums,ZA]
 unfold zaK;rw[List.range_eq_range'];exact gen ls 0
theorem zcc{ls:List α}{x:Int×α}(h:x∈nums 0 ls):0<=x.1/\x.1<ls.length/\ls[x.1.toNat]?=some x.2:=by obtain⟨j,hj,e⟩:=XH h;obtain⟨h1,h2⟩:=zl3 ls 0 j x (by rw[Z6 hj,e]);have h3:=(Z9.mp h2).1;rw[show x.1.toNat=j by exact OXT h1];exact⟨by omega,by exact OXI h1 h3,h2⟩
theorem zb7{α β:Type}{p:α->Bool}{g:α->β}:∀xs:List α,xs.filterMap (λx=>if p x then some (g x) else none)=(xs.filter p).map g
 | []=>rfl
 |x::xs=>by
  rw[YZ,List.filter_cons,zb7 xs]
  cases p x<;>rfl
def hwD(f:Nat)(ls:List Ln):List D:=(zk4 f ls).map λp=>D.int p.1
theorem zcY(n:Nat){f:Nat}(H:zcF h p X q)(kq:Q (.d (.lst (hwD f X.ls))) h):Ok (zad P (n+1) 52 [.loc p,.d (.int f)] h) Q:=by
 refine cl rfl rfl rfl ?_;refine st H.hall ?_;refine st H.ols ?_;refine st zsb ?_;refine ask (zaV (g:=λx=>if hasF f x.2 then some (.int x.1) else none) (λx hx=>?_) (zcv H.ols H.ols) ?_)
 ·obtain ⟨h1,h2,h3⟩:=zcc hx
  have e4:=H.ln _ _ h3;refine gc ?_;refine st e4 ?_;refine br (λc=>?_) (λc=>?_)
  ·ac_rfl
   exact⟨(if_pos (show hasF f x.2=true from c)).symm,rfl⟩
  ·ac_rfl
   exact⟨(if_neg (show ¬hasF f x.2=true by intro z;cases c.symm.trans z)).symm,rfl⟩
 ·rw [zb7]
  exact f0 kq
def oth(k:Nat)(ls:List Ln):List (Int×Ln):=(zk4 1 ls).filter λp=>p.1 != (k:Int)
theorem zfr(n:Nat){k:Nat}(H:zcF h p X q)(kq:Q (.d (.lst ((oth k X.ls).map λp=>D.int p.1))) h):Ok (zad P (n+2) 53 [.loc p,.d (.int k)] h) Q:=by
 refine cl rfl rfl rfl ?_;refine st H.hall ⟨rfl,rfl,?_⟩;refine ask (zcY n (f:=1) H ?_);refine ask ?_;show Ok (zaO none _ ((hwD 1 X.ls).map dI) _) _;unfold hwD;rw[Zt];refine zaV (d:=dI∘λp:Int×Ln=>D.int p.1) (g:=λx:Int×Ln=>if x.1 != (k:Int) then some (.int x.1) else none) (λx hx=>?_) zee ?_
 ·refine gc ?_
  refine br (λc=>?_) (λc=>?_)
  ·ac_rfl
   exact⟨(if_pos c).symm,rfl⟩
  ·ac_rfl
   exact⟨(if_neg (show ¬(x.1 != (k:Int))=true by intro z;cases c.symm.trans z)).symm,rfl⟩
 ·rw [zb7]
  exact f0 kq
theorem zl6(n:Nat){p k:Nat}{T:Tab}{t:List D}{ev:Tx}{Q:R->Sto->Prop}(H:zcF h p X q)(el:X.ls[k]?=some l)(kq:Q (.d (optR (zbj T l.st ev))) h):
  Ok (zad P (n+3) 10 [.d (tabD T),.loc p,.d (.tup (.str kask::.int k::.str ev::t))] h) Q:=by
 refine cl rfl rfl rfl ?_;have hk:k<X.ls.length:=(Z9.mp el).1;have e4:=H.ln k l el;refine st H.hall ?_;refine st zke ?_;refine st H.ols ?_;refine st (za0 (by omega) (by exact OZ7 hk)) ?_;refine st e4 ?_;refine st zjO ?_;refine st zqp ?_;exact ask (zez (n) (f0 kq))
theorem zgV{w:List Lt}{j:Nat}(ej:w[j]?=some lt):idxD (wayD w) (.int j)=some (letD lt):=zck (by omega) (by rw[ZA,ZX,ej];rfl)
theorem zka(n:Nat){p k j:Nat}{T:Tab}{Q:R->Sto->Prop}(H:zcF h p X q)(el:X.ls[k]?=some l)(ej:l.to[j]?=some lt)(kq:Q (.d (optR (zbj T l.st lt.1))) h):
  Ok (zad P (n+3) 10 [.d (tabD T),.loc p,.d (.tup [.str zjp,.int k,.int j])] h) Q:=by
 refine cl rfl rfl rfl ?_;have hk:k<X.ls.length:=(Z9.mp el).1;have e4:=H.ln k l el;refine st H.hall ?_;refine st H.ols ?_;refine st (za0 (by omega) (by exact OZ7 hk)) ?_;refine st e4 ?_;refine ask (zeX (n+1) H el ?_);refine st (zgV ej) ?_;exact ask (zez n (f0 kq))
theorem znE(n:Nat){p k j:Nat}{T:Tab}{Q:R->Sto->Prop}(H:zcF h p X q)(el:X.ls[k]?=some l)(ej:l.back[j]?=some lt)(kq:Q (.d (optR (za6 T X.s lt.1 (oth k X.ls).isEmpty))) h):
  Ok (zad P (n+3) 10 [.d (tabD T),.loc p,.d (.tup [.str kget,.int k,.int j])] h) Q:=by
 refine cl rfl rfl rfl ?_;have hk:k<X.ls.length:=(Z9.mp el).1;have e4:=H.ln k l el;refine st H.hall ?_;refine st H.ols ?_;refine st (za0 (by omega) (by exact OZ7 hk)) ?_;refine st e4 ?_;refine ask (zeX (n+1) H el ?_);refine st (zgV ej) ?_;refine st H.hall ?_;refine st H.hall ⟨rfl,rfl,?_⟩;refine ask (zfr n H ?_)
 have e:(!(!((oth k X.ls).map λp=>D.int p.1).isEmpty))=(oth k X.ls).isEmpty:=by cases oth k X.ls<;>rfl
 ac_rfl;rw[e];exact ask (zgJ n (f0 kq))
theorem zoV(o:Option Row):zay (optR o)=o.isNone:=by cases o<;>rfl
def zhV:Acts->Bool|.wait=>true|_=>false
def goes:Option Row->Bool|none=>true|some r=>!zhV r.acts
theorem zhM(a:Acts):(zeM a).eqb (.tup [.tup [.str zdz]])=zhV a:=by
 cases a with
 |wait=>rfl
 |hand as=>
  cases as with|nil=>rfl|cons a r=>cases a<;>rfl
 | house as=>
  cases as with
  |nil=>rfl
  | cons a r=>
   cases a with
   | send w m l=>
    unfold zeM;simp only[ZC,oaD,zo6,zhV];show(D.eqb (.tup [.str _,.str m,.str l]) (.tup [.str zdz])&&_)=false
    have:D.eqb (.tup [.str (if w=0 then zlM else if w=1 then zql else znx),.str m,.str l]) (.tup [.str zdz])=false:=by show((_==_)&&false)=false;exact YF _
    rw[this];rfl
   |_=>rfl
theorem zdp(r:Row):idxD (rowD r) (.int (-1))=some (zeM r.acts):=by unfold rowD;rw[show(D.str r.k::(r.m.map D.str++[.str r.nx,zeM r.acts]))=(D.str r.k::(r.m.map D.str++[.str r.nx]))++[zeM r.acts] by simp];simp only[idxD,zqz]
theorem zqi(r:Row):idxD (rowD r) (.int (-2))=some (.str r.nx):=by
 unfold rowD;simp only[idxD,at',ixn,Zr,Zu,Z4,XA];rw[if_neg (by decide),if_pos (by omega)]
 have e:((-2:Int)+((r.m.length+(0+1+1)+1:Nat):Int)).toNat=r.m.length+1:=by exact OYn
 show(D.str r.k::(r.m.map D.str++[.str r.nx,zeM r.acts]))[((-2:Int)+((r.m.length+(0+1+1)+1:Nat):Int)).toNat]?=_;rw[e,YS,ZS (by simp)];simp
theorem zfv(n:Nat){o:Option Row}(kq:Q (.d (.bl (!goes o))) h):Ok (zad P (n+1) 4 [.d (optR o)] h) Q:=by
 refine cl rfl rfl rfl ?_
 cases o with|none=>exact f0 kq|some r=>refine st (zdp r) ?_;refine st (zgZ (zfW (show(D.tup [.tup [.str [119,97,105,116]]]).dep<=60 by simp[D.dep,D.deps]))) ?_;rw[zhM];refine f0 ?_;simp only[goes,Wo] at kq;exact kq
inductive Deed where|ask (k:Int) (ev:Tx) (x:Option Int)|take (k j:Int)|get (k j:Int)
def Deed.k:Deed->Int|.ask k _ _=>k|.take k _=>k|.get k _=>k
def zaP:Deed->D|.ask k ev none=>.tup [.str kask,.int k,.str ev]|.ask k ev (some x)=>.tup [.str kask,.int k,.str ev,.int x]|.take k j=>.tup [.str zjp,.int k,.int j]|.get k j=>.tup [.str kget,.int k,.int j]
def zfm(ev:Tx):Bool:=ev==zgc||(ev==zaB||ev==zoa)
def zbJ(T:Tab)(X:Hl)(l:Ln):Deed->Option Row
 |.ask _ ev _=>zbj T l.st ev
 |.take _ j=>match l.to[j.toNat]? with
  |some lt=>zbj T l.st lt.1|none=>none
 |.get k j=>match l.back[j.toNat]? with
  |some lt=>za6 T X.s lt.1 (oth k.toNat X.ls).isEmpty|none=>none
def mayL(T:Tab)(X:Hl)(l:Ln):Deed->Bool|.ask k ev x=>zfm ev&&(zbj T l.st ev).isSome|.take k j=>decide (0<=j)&&decide (j<l.to.length)&&goes (zbJ T X l (.take k j))|.get k j=>decide (0<=j)&&decide (j<l.back.length)&&goes (zbJ T X l (.get k j))
def mayB(T:Tab)(X:Hl)(d:Deed):Bool:=if 0<=d.k then(match X.ls[d.k.toNat]? with
 |some l=>mayL T X l d
 |none=>false) else false
theorem znD(d:Deed):∃w t,zaP d=.tup (.str w::.int d.k::t):=by
 cases d with|ask k ev x=>cases x<;>exact⟨_,_,rfl⟩|take k j=>exact⟨_,_,rfl⟩|get k j=>exact⟨_,_,rfl⟩
theorem zrV{a b:Bool}(c:a=true↔b=true):a=b:=by cases a<;>cases b<;>simp_all
theorem zki(n:Nat){p:Nat}{T:Tab}{d:Deed}(H:zcF h p X q)(kq:Q (.d (.bl (mayB T X d))) h):
  Ok (zad P (n+4) 8 [.d (tabD T),.loc p,.d (zaP d)] h) Q:=by
 refine cl rfl rfl rfl ?_;obtain⟨w,t,ed⟩:=znD d;rw[ed];refine st zke ?_;refine br (λc=>?_) (λc0=>?_)
 ·have c:=of_decide_eq_true c
  unfold mayB at kq;rw[if_neg (by exact OZL c)] at kq;exact f0 kq
 have c0:=of_decide_eq_false c0;refine st zke ?_;refine st H.hall ?_;refine st H.ols ?_;refine br (λc=>?_) (λc1=>?_)
 ·have c:((zaK (p+1) X.ls.length).length:Int)<=d.k:=of_decide_eq_true c
  rw[za1] at c;unfold mayB at kq;rw[if_pos (by omega),Y9 (by exact OX5 c c0)] at kq;exact f0 kq
 have c1:¬((zaK (p+1) X.ls.length).length:Int)<=d.k:=of_decide_eq_false c1;rw[za1] at c1;obtain⟨k,ek⟩:∃k:Nat,d.k=k:=⟨d.k.toNat,by exact OZK c0⟩
 have hk:k<X.ls.length:=by omega
 have el:X.ls[k]?=some X.ls[k]:=Z6 hk;generalize X.ls[k]=l at el
 have em:mayB T X d=mayL T X l d:=by unfold mayB;rw[if_pos (by omega),ek,ZA,el]
 rw[em] at kq;rw[<-ed]
 cases d with
 | ask k' ev x=>
  obtain rfl:k'=k:=ek
  have ed:∃t,zaP (.ask k ev x)=.tup (.str kask::.int k::.str ev::t):=by cases x<;>exact⟨_,rfl⟩
  obtain⟨t,ed⟩:=ed;rw[ed];refine st zjO ?_;refine st zqp ?_
  have e5:([D.str [114,101,97,100],D.str [119,114,105,116,101],D.str [100,114,111,112]].any λy=>y.eqb (.str ev))=zfm ev:=by
   refine zrV ?_;simp only[W0,List.any_nil,Bool.or_false,YK,zfm,D.eqb,beq_iff_eq]
   constructor<;>(rintro(h | h | h)<;>simp[h])
  refine br (λc=>?_) (λc=>?_)
  ·have c:=e5.symm.trans c
   refine ask (zl6 n H el ?_);refine f0 ?_
   rw[zoV,show(!(zbj T l.st ev).isNone)=(zbj T l.st ev).isSome by cases zbj T l.st ev<;>rfl]
   simp only[mayL] at kq;rw[c,Zn] at kq;exact kq
  ·have c:=e5.symm.trans c
   refine f0 ?_;simp only[mayL] at kq;rw[c,Zh] at kq;exact kq
 | take k' j=>
  obtain rfl:k'=k:=ek;refine br (λc=>?_) (λc2=>?_)
  ·have c:=of_decide_eq_true c
   refine f0 ?_;simp only[mayL] at kq;rw[decide_eq_false (by exact OZL c),Zh,Zh] at kq;exact kq
  have c2:=of_decide_eq_false c2;refine ask (zeX (n+2) H el ?_);ac_rfl;rw[Z4];refine br (λc=>?_) (λc3=>?_)
  ·have c:=of_decide_eq_true c
   have c:(l.to.length:Int)<=j:=c;refine f0 ?_;simp only[mayL] at kq;rw[decide_eq_false (by exact OZn c:¬j<(l.to.length:Int)),YF,Zh] at kq;exact kq
  have c3:¬(l.to.length:Int)<=j:=of_decide_eq_false c3;obtain⟨j,rfl⟩:∃i:Nat,j=i:=⟨j.toNat,by exact OZK c2⟩;have ej:l.to[j]?=some l.to[j]:=Z6 (by exact OZm c3);refine ask (zka n H el ej ?_);refine ask (zfv (n+2) ?_);refine f0 ?_;rw[Wo];simp only[mayL,zbJ] at kq;rw[decide_eq_true (by omega:(0:Int)<=j),decide_eq_true (by exact OZl c3:(j:Int)<(l.to.length:Int)),Zn,Zn,ZA,ej] at kq;exact kq
 | get k' j=>
  obtain rfl:k'=k:=ek;refine br (λc=>?_) (λc2=>?_)
  ·have c:=of_decide_eq_true c
   refine f0 ?_;simp only[mayL] at kq;rw[decide_eq_false (by exact OZL c),Zh,Zh] at kq;exact kq
  have c2:=of_decide_eq_false c2;refine ask (zeX (n+2) H el ?_);ac_rfl;rw[Z4];refine br (λc=>?_) (λc3=>?_)
  ·have c:=of_decide_eq_true c
   have c:(l.back.length:Int)<=j:=c;refine f0 ?_;simp only[mayL] at kq;rw[decide_eq_false (by exact OZn c:¬j<(l.back.length:Int)),YF,Zh] at kq;exact kq
  have c3:¬(l.back.length:Int)<=j:=of_decide_eq_false c3;obtain⟨j,rfl⟩:∃i:Nat,j=i:=⟨j.toNat,by exact OZK c2⟩;have ej:l.back[j]?=some l.back[j]:=Z6 (by exact OZm c3);refine ask (znE n H el ej ?_);refine ask (zfv (n+2) ?_);refine f0 ?_;rw[Wo];simp only[mayL,zbJ] at kq;rw[decide_eq_true (by omega:(0:Int)<=j),decide_eq_true (by exact OZl c3:(j:Int)<(l.back.length:Int)),Zn,Zn,ZA,ej] at kq;exact kq
variable {Q:R->Sto->Prop}
def bad(w:Tx):D:=.tup [.str w]
def load(ld:Tx)(v:Val):Val:=if ld=zaW then v else none
def post(w:List Lt)(x:Lt):List Lt:=if 2<=w.length then w else w++[x]
def pbrk(w:List Lt)(b:D):D:=if 2<=w.length then bad zih else b
theorem ze1(n:Nat)(kq:Q (.d (letD (m,load ld v))) h):Ok (zad P (n+1) 7 [.d (.str m),.d (.str ld),.d (valD v)] h) Q:=by
 refine cl rfl rfl rfl ?_;refine br (λc=>?_) (λc=>?_)
 ·have c':ld=zaW:=Z3 c
  unfold load at kq;rw[if_pos c'] at kq;exact f0 kq
 ·have c':¬ld=zaW:=ne_of_beq_false c
  unfold load at kq;rw[if_neg c'] at kq;exact f0 kq
theorem ziV(n:Nat){a b:Int×Int}(k:Q (.d (.bl (a.1==b.1))) h):Ok (zad P (n+1) 6 [.d (prD a),.d (prD b)] h) Q:=by refine cl rfl rfl rfl ?_;exact f0 k
theorem zqy{w:List Lt}(hw:w.length<2)(x:Lt):fit ((w.map letD).length+[letD x].length)=true:=decide_eq_true (by unfold big;simp;omega)
theorem zfJ(n:Nat){X:Hl}{w:List Lt}{x:Lt}(kq:Q (.d (wayD (post w x))) (h++halS h.length {X with brk:=pbrk w X.brk})):Ok (zad P (n+1) 51 [.loc h.length,.d (wayD w),.d (letD x)] (h++halS h.length X)) Q:=by
 refine cl rfl rfl rfl ?_;refine br (λc=>?_) (λc=>?_)
 ·have c':(2:Int)<=((w.map letD).length:Int):=of_decide_eq_true c
  have c':2<=w.length:=by simpa using(by exact_mod_cast c':2<=(w.map letD).length)
  refine st zaa.hall ⟨rfl,(by decide:6<900),?_⟩;unfold post pbrk at kq;rw[if_pos c',if_pos c'] at kq;refine zae.mpr ?_;have e:=zc3 (h:=h) (X:=X) (Y:={X with brk:=bad zih}) rfl rfl;rw[<-e] at kq;exact kq
 ·have c':¬(2:Int)<=((w.map letD).length:Int):=of_decide_eq_false c
  have c':¬2<=w.length:=by intro z;apply c';simp;omega
  have e:bop .add (wayD w) (.tup [letD x])=some (wayD (w++[x])):=by show(if fit ((w.map letD).length+[letD x].length) then some (D.tup (w.map letD++[letD x])) else none)=_;rw[if_pos (zqy (by omega) x)];unfold wayD;rw[Zd];rfl
  refine st e ?_;unfold post pbrk at kq;rw[if_neg c',if_neg c'] at kq;exact zae.mpr kq
def zoW(X:Hl)(k:Nat)(l:Ln)(m ld:Tx):Hl:={X with ls:=X.ls.set k {l with back:=post l.back (m,load ld l.v)},brk:=pbrk l.back X.brk}
def zh0(X:Hl)(k:Nat)(l:Ln)(x:Lt):Hl:={X with ls:=X.ls.set k {l with to:=post l.to x},brk:=pbrk l.to X.brk}
theorem zc0{X:Hl}{p k:Nat}(hk:k<X.ls.length):at' (zaK (p+1) X.ls.length) (k:Int)=some (p+1+k):=by rw[za0 (by omega) (by exact OZ7 hk),ZA]
theorem zlA(n:Nat){X:Hl}{k:Nat}{l:Ln}{m ld:Tx}(el:X.ls[k]?=some l)(kq:Q (.d .non) (h++halS h.length (zoW X k l m ld))):Ok (zad P (n+2) 49 [.loc h.length,.d (.int k),.d (.str m),.d (.str ld)] (h++halS h.length X)) Q:=by have hk:k<X.ls.length:=(Z9.mp el).1;refine cl rfl rfl rfl ?_;refine st zaa.hall ?_;refine st zaa.ols ?_;refine st (zc0 hk) ?_;refine st zaa.hall ⟨rfl,rfl,?_⟩;refine st (zaa.ln k l el) ?_;refine st (zaa.ln k l el) ?_;refine ask (ze1 n ?_);refine ask (zfJ n ?_);ac_rfl;refine st ((zaa (h:=h) (X:={X with brk:=pbrk l.back X.brk})).ln k l el) ⟨rfl,(by decide:6<900),?_⟩;refine zae.mpr ?_;have e:=zb1 (h:=h) (X:={X with brk:=pbrk l.back X.brk}) (l:={l with back:=post l.back (m,load ld l.v)}) hk;rw[show h++halS h.length (zoW X k l m ld)=_ from e.symm] at kq;exact kq
theorem zlj(n:Nat){X:Hl}{k:Nat}{l:Ln}{m ld:Tx}(el:X.ls[k]?=some l)(kq:Q (.d .non) (h++halS h.length (zh0 X k l (m,load ld X.sr)))):Ok (zad P (n+2) 50 [.loc h.length,.d (.int k),.d (.str m),.d (.str ld)] (h++halS h.length X)) Q:=by have hk:k<X.ls.length:=(Z9.mp el).1;refine cl rfl rfl rfl ?_;refine st zaa.hall ?_;refine st zaa.ols ?_;refine st (zc0 hk) ?_;refine st zaa.hall ⟨rfl,rfl,?_⟩;refine st (zaa.ln k l el) ?_;refine st zaa.hall ?_;refine ask (ze1 n ?_);refine ask (zfJ n ?_);ac_rfl;refine st ((zaa (h:=h) (X:={X with brk:=pbrk l.to X.brk})).ln k l el) ⟨rfl,(by decide:6<900),?_⟩;refine zae.mpr ?_;have e:=zb1 (h:=h) (X:={X with brk:=pbrk l.to X.brk}) (l:={l with to:=post l.to (m,load ld X.sr)}) hk;rw[show h++halS h.length (zh0 X k l (m,load ld X.sr))=_ from e.symm] at kq;exact kq
def putV(X:Hl)(k:Nat)(l:Ln):Hl:={X with la:=(X.la.1+1,l.want),ls:=X.ls.set k {l with v:=some (X.la.1+1,l.want)},ans:=.tup [.str zqm,.int k,.int l.want]}
theorem zlm(n:Nat){X:Hl}{k:Nat}{l:Ln}(el:X.ls[k]?=some l)(kq:Q (.d .non) (h++halS h.length (putV X k l))):Ok (zad P (n+1) 47 [.loc h.length,.d (.int k)] (h++halS h.length X)) Q:=by
 have hk:k<X.ls.length:=(Z9.mp el).1;refine cl rfl rfl rfl ?_;refine st zaa.hall ?_;refine st zaa.ols ?_;refine st (zc0 hk) ?_;refine st zaa.hall ?_;refine st (zaa.ln k l el) ?_;refine st zaa.hall ⟨rfl,(by decide:6<900),?_⟩;have e1:=zc3 (h:=h) (X:=X) (Y:={X with la:=(X.la.1+1,l.want)}) rfl rfl;rw[show putF ("last":Ya) (R.d (.tup [.int (X.la.1+1),.int l.want])) (halF X (h.length+1+X.ls.length))=halF {X with la:=(X.la.1+1,l.want)} (h.length+1+X.ls.length) from rfl,e1];refine st zaa.hall ?_;refine st ((zaa (h:=h) (X:={X with la:=(X.la.1+1,l.want)})).ln k l el) ⟨rfl,(by decide:6<900),?_⟩;have e2:=zb1 (h:=h) (X:={X with la:=(X.la.1+1,l.want)}) (l:={l with v:=some (X.la.1+1,l.want)}) hk;rw[show putF ("value":Ya) (R.d (prD (X.la.1+1,l.want))) (opnF l)=opnF {l with v:=some (X.la.1+1,l.want)} from rfl,e2]
 have el2:({X with la:=(X.la.1+1,l.want),ls:=X.ls.set k {l with v:=some (X.la.1+1,l.want)}}:Hl).ls[k]?=some {l with v:=some (X.la.1+1,l.want)}:=by show(X.ls.set k _)[k]?=_;rw[ZH hk]
 refine st (zaa.ln k _ el2) ?_;refine st zaa.hall ⟨rfl,(by decide:6<900),?_⟩;have e3:=zc3 (h:=h) (X:={X with la:=(X.la.1+1,l.want),ls:=X.ls.set k {l with v:=some (X.la.1+1,l.want)}}) (Y:=putV X k l) rfl rfl;refine zae.mpr ?_;rw[<-e3] at kq;exact kq
def zdd(X:Hl)(k:Nat)(l:Ln):Hl:=match l.v with|none=>{X with brk:=bad kold}|some p=>if p.1=X.la.1 then {X with ans:=.tup [.str zgc,.int k,.int p.2]} else {X with brk:=bad kold}
theorem zmm(n:Nat){X:Hl}{k:Nat}{l:Ln}(el:X.ls[k]?=some l)(kq:Q (.d .non) (h++halS h.length (zdd X k l))):Ok (zad P (n+2) 48 [.loc h.length,.d (.int k)] (h++halS h.length X)) Q:=by
 have hk:k<X.ls.length:=(Z9.mp el).1;refine cl rfl rfl rfl ?_;refine st zaa.hall ?_;refine st zaa.ols ?_;refine st (zc0 hk) ?_;refine st (zaa.ln k l el) ?_;have eb:=zc3 (h:=h) (X:=X) (Y:={X with brk:=bad kold}) rfl rfl;obtain⟨l1,v,l2,l3,l4,l5⟩:=l
 cases v with
 |none=>refine st zaa.hall ⟨rfl,(by decide:6<900),?_⟩;refine zae.mpr ?_;have kq:Q (.d .non) (h++halS h.length {X with brk:=bad kold}):=kq;rw[<-eb] at kq;exact kq
 | some p=>
  refine st (zaa.ln k _ el) ?_;refine st zaa.hall ?_;refine ask (ziV n ?_);refine br (λc=>?_) (λc=>?_)
  ·have c:(!(p.1==X.la.1))=true:=c
   have c':¬p.1=X.la.1:=by simpa using c
   simp only[zdd,if_neg c'] at kq;refine st zaa.hall ⟨rfl,(by decide:6<900),?_⟩;refine zae.mpr ?_;rw[<-eb] at kq;exact kq
  ·have c:(!(p.1==X.la.1))=false:=c
   have c':p.1=X.la.1:=by simpa using c
   simp only[zdd,if_pos c'] at kq;refine st (zaa.ln k _ el) ?_;refine st zaa.hall ⟨rfl,(by decide:6<900),?_⟩;refine zae.mpr ?_;have ea:=zc3 (h:=h) (X:=X) (Y:={X with ans:=.tup [.str zgc,.int k,.int p.2]}) rfl rfl;rw[<-ea] at kq;exact kq
def doHA(X:Hl)(k:Nat)(l:Ln)(v:Val):HA->Hl|.keep=>{X with ls:=X.ls.set k {l with v:=v}}|.lose=>{X with ls:=X.ls.set k {l with v:=none}}|.put=>putV X k l|.tell=>zdd X k l|.send m ld=>zoW X k l m ld
theorem zlR(n:Nat){X:Hl}{k:Nat}{l:Ln}{v:Val}{a:HA}(el:X.ls[k]?=some l)(kq:Q (.d .non) (h++halS h.length (doHA X k l v a))):Ok (zad P (n+3) 18 [.loc h.length,.d (.int k),.d (valD v),.d (haD a)] (h++halS h.length X)) Q:=by
 have hk:k<X.ls.length:=(Z9.mp el).1;refine cl rfl rfl rfl ?_;refine st zaa.hall ?_;refine st zaa.ols ?_;refine st (zc0 hk) ?_
 cases a with|keep=>refine st (zaa.ln k l el) ⟨rfl,(by decide:6<900),?_⟩;refine zae.mpr ?_;rw[show h++halS h.length (doHA X k l v .keep)=_ from(zb1 hk).symm] at kq;exact kq|lose=>refine st (zaa.ln k l el) ⟨rfl,(by decide:6<900),?_⟩;refine zae.mpr ?_;rw[show h++halS h.length (doHA X k l v .lose)=_ from(zb1 hk).symm] at kq;exact kq|put=>refine st zaa.hall ⟨rfl,rfl,?_⟩;exact ask (zlm (n+1) el (zae.mpr kq))|tell=>refine st zaa.hall ⟨rfl,rfl,?_⟩;exact ask (zmm n el (zae.mpr kq))|send m ld=>refine st zaa.hall ⟨rfl,rfl,?_⟩;exact ask (zlA n el (zae.mpr kq))
theorem zhl{a:HA}:(doHA X k l v a).ls.length=X.ls.length:=by
 cases a with
 |tell=>
  show(zdd X k l).ls.length=_;unfold zdd
  split
  ·rfl
  ·split<;>rfl
 |_=>simp[doHA,putV,zoW]
def zdu(k:Nat)(v:Val):List HA->Hl->Hl
 | [],X=>X
 |a::as,X=>match X.ls[k]? with
  |some l=>if zay (doHA X k l v a).brk then zdu k v as (doHA X k l v a) else doHA X k l v a|none=>X
def toSt(X:Hl)(k:Nat)(nx:Tx):Hl:=if zay X.brk then(match X.ls[k]? with
 |some l=>{X with ls:=X.ls.set k {l with st:=nx}}
 |none=>X) else X
theorem zfx(n:Nat){X:Hl}{k:Nat}{v:Val}{r:Row}{as:List HA}(hk:k<X.ls.length)(hb:zay X.brk=true)(er:r.acts=.hand as)(kq:Q (.d .non) (h++halS h.length (toSt (zdu k v as X) k r.nx))):Ok (zad P (n+4) 17 [.loc h.length,.d (.int k),.d (valD v),.d (rowD r)] (h++halS h.length X)) Q:=by
 refine cl rfl rfl rfl ?_;refine st (zdp r) ?_;rw[er];refine ask ?_;show Ok (loop _ _ ((as.map haD).map dI) _ _) _;refine zbI (xs:=as.map haD) (λi σ h'=>∃Y,h'=h++halS h.length Y/\zay Y.brk=true/\k<Y.ls.length/\zdu k v as X=zdu k v (as.drop i) Y/\∃w,σ=[some (.loc h.length),some (.d (.int k)),some (.d (valD v)),some (.d (rowD r)),w,none]) ?_ ?_ ⟨X,rfl,hb,hk,rfl,none,rfl⟩
 ·rintro i a σ h' ha ⟨Y,rfl,hY,hkY,e,w,rfl⟩
  rw[ZX,ZL] at ha;obtain⟨a,ha,rfl⟩:=ha;have hi:=(Z9.mp ha).1
  have hd1:as.drop i=a::as.drop (i+1):=by rw[ZG hi,(Z9.mp ha).2]
  have el:Y.ls[k]?=some Y.ls[k]:=Z6 hkY;generalize Y.ls[k]=l at el;rw[hd1] at e;simp only[zdu,el] at e;refine gb ?_;refine ask (zlR n el ?_);refine st zaa.hall ?_;refine br (λc=>?_) (λc=>?_)
  ·have c:(!zay (doHA Y k l v a).brk)=true:=c
   have c':¬zay (doHA Y k l v a).brk=true:=by intro z;rw[z] at c;cases c
   rw[if_neg c'] at e;refine zae.mpr ?_;rw[e] at kq;unfold toSt at kq;rw[if_neg c'] at kq;exact kq
  ·have c:(!zay (doHA Y k l v a).brk)=false:=c
   have c':zay (doHA Y k l v a).brk=true:=by simpa using c
   rw[if_pos c'] at e
   exact⟨rfl,_,rfl,c',by rw[zhl];exact hkY,e,_,rfl⟩
 ·rintro σ h' ⟨Y,rfl,hY,hkY,e,w,rfl⟩
  rw[Z4,YM (Z0 _)] at e;simp only[zdu] at e;rw[e] at kq;have el:Y.ls[k]?=some Y.ls[k]:=Z6 hkY;generalize Y.ls[k]=l at el;unfold toSt at kq;rw[if_pos hY] at kq;simp only[el] at kq;refine st zaa.hall ?_;refine st zaa.ols ?_;refine st (zc0 hkY) ?_;refine st (zqi r) ?_;ac_rfl;refine st (zaa.ln k l el) ⟨rfl,(by decide:6<900),?_⟩;refine zae.mpr ?_;rw[<-zb1 hkY] at kq;exact kq
variable {Q:R->Sto->Prop}
def recv(X:Hl)(k:Nat)(w:Nat):List Nat:=if w=0 then[k] else if w=1 then(zk4 2 X.ls).map (·.1.toNat) else(oth k X.ls).map (·.1.toNat)
theorem zhv{ls:List Ln}{xs:List (Int×Ln)}(h:∀x∈xs,x∈nums 0 ls):(xs.map (·.1.toNat)).map (λi:Nat=>D.int (i:Int))=xs.map λp=>D.int p.1:=by
 rw[Zt];refine XG λx hx=>?_
 have:=(zcc (h x hx)).1
 show D.int ((x.1.toNat:Nat):Int)=D.int x.1;rw[Zb this]
theorem zd1{f:Nat}{ls:List Ln}:∀x∈zk4 f ls,x∈nums 0 ls:=λx hx=>(WW.mp hx).1
theorem zji{ls:List Ln}:∀x∈oth k ls,x∈nums 0 ls:=λx hx=>zd1 x (WW.mp hx).1
theorem zgI{w:Nat}(hk:k<X.ls.length):∀i∈recv X k w,i<X.ls.length:=by
 intro i hi;unfold recv at hi
 split at hi
 ·simp at hi;omega
 ·split at hi
  ·obtain ⟨x,hx,rfl⟩:=Y0.mp hi
   have:=zcc (zd1 x hx)
   exact OYm this hk
  ·obtain ⟨x,hx,rfl⟩:=Y0.mp hi
   have:=zcc (zji x hx)
   exact OX4 this
theorem zmY(n:Nat){X:Hl}{k w:Nat}(H:zcF h p X q)(kq:Q (.d (.lst ((recv X k w).map λi:Nat=>D.int (i:Int)))) h):Ok (zad P (n+3) 22 [.loc p,.d (.int k),.d (.str (zo6 w))] h) Q:=by
 refine cl rfl rfl rfl ?_
 match w with|0=>exact f0 kq|1=>refine st H.hall ⟨rfl,rfl,?_⟩;refine ask (zcY (n+1) (f:=2) H ?_);unfold recv at kq;rw[if_neg (by decide),if_pos rfl,zhv zd1] at kq;exact f0 kq|w+2=>refine st H.hall ⟨rfl,rfl,?_⟩;refine ask (zfr n H ?_);unfold recv at kq;rw[if_neg (by exact OZk),if_neg (by exact OZj),zhv zji] at kq;exact f0 kq
def zas(x:Lt)(X:Hl)(i:Nat):Hl:=match X.ls[i]? with|some l=>zh0 X i l x|none=>X
theorem zet(x:Lt)(X:Hl)(i:Nat):(zas x X i).ls.length=X.ls.length:=by
 unfold zas zh0
 split
 ·simp
 ·rfl
def zoR(X:Hl)(k w:Nat)(m ld:Tx):Hl:=(recv X k w).foldl (zas (m,load ld X.sr)) X
theorem zfs(x:Lt):∀(is:List Nat) (X:Hl),(is.foldl (zas x) X).ls.length=X.ls.length| [],X=>rfl|i::is,X=>by rw[Wh,zfs x is,zet]
theorem zel(n:Nat){X:Hl}{k w:Nat}{m ld:Tx}(hk:k<X.ls.length)(kq:Q (.d .non) (h++halS h.length (zoR X k w m ld))):Ok (zad P (n+4) 21 [.loc h.length,.d (.int k),.d (oaD (.send w m ld))] (h++halS h.length X)) Q:=by
 refine cl rfl rfl rfl ?_;refine ask (zmY n zaa ?_);refine ask ?_;show Ok (loop none _ (((recv X k w).map λi:Nat=>D.int (i:Int)).map dI) _ _) _;have hl:=zgI (w:=w) hk;unfold zoR at kq;generalize recv X k w=is at hl kq⊢;refine zbI (xs:=is.map λi:Nat=>D.int (i:Int)) (λi σ h'=>∃Y,h'=h++halS h.length Y/\Y.sr=X.sr/\Y.ls.length=X.ls.length/\is.foldl (zas (m,load ld X.sr)) X=(is.drop i).foldl (zas (m,load ld X.sr)) Y/\∃v,σ=[some (.loc h.length),some (.d (.int k)),some (.d (oaD (.send w m ld))),v]) ?_ ?_ ⟨X,rfl,rfl,rfl,rfl,none,rfl⟩
 ·rintro i a σ h' ha ⟨Y,rfl,hY,hkY,e,v,rfl⟩
  rw[ZX,ZL] at ha;obtain⟨a,ha,rfl⟩:=ha;have hi:=(Z9.mp ha).1
  have hd1:is.drop i=a::is.drop (i+1):=by rw[ZG hi,(Z9.mp ha).2]
  have hlt:=hl a (ZT ha);have el:Y.ls[a]?=some Y.ls[a]:=Z6 (by exact OZ9 hlt hkY);generalize Y.ls[a]=l at el;rw[hd1,Wh] at e
  have es:zas (m,load ld X.sr) Y a=zh0 Y a l (m,load ld Y.sr):=by unfold zas;rw[el,hY]
  refine gb ?_;refine st zaa.hall ⟨rfl,rfl,?_⟩;refine ask (zlj (n+1) (m:=m) (ld:=ld) el ?_);refine⟨rfl,_,rfl,?_,?_,?_,_,rfl⟩
  ·exact hY
  ·rw[<-es,zet];exact hkY
  ·rw[<-es];exact e
 ·rintro σ h' ⟨Y,rfl,hY,hkY,e,v,rfl⟩
  rw[Z4,YM (Z0 _)] at e;rw[e] at kq;exact zae.mpr kq
def noF(l:Ln):Ln:={l with fl:=0}
def forget(X:Hl):Hl:={X with ls:=X.ls.map noF}
theorem zja(n:Nat){X:Hl}(kq:Q (.d .non) (h++halS h.length (forget X))):Ok (zad P (n+1) 54 [.loc h.length] (h++halS h.length X)) Q:=by
 refine cl rfl rfl rfl ?_;refine st zaa.hall ?_;refine st zaa.ols ?_;refine ask ?_;refine zce (g:=λl=>Ite.r (.loc l)) (xs:=zaK (h.length+1) X.ls.length) (λi σ h'=>∃Y,h'=h++halS h.length {X with ls:=Y}/\Y=(X.ls.take i).map noF++X.ls.drop i/\∃v,σ=[some (.loc h.length),v]) ?_ ?_ ⟨X.ls,rfl,rfl,none,rfl⟩
 ·rintro i a σ h' ha ⟨Y,rfl,eY,v,rfl⟩
  have hi:=(Z9.mp ha).1;rw[za1] at hi
  have ea:a=h.length+1+i:=by unfold zaK at ha;rw[ZX,Za hi] at ha;cases ha;rfl
  subst ea
  have hlY:Y.length=X.ls.length:=by rw[eY];simp;exact OZi hi
  have eX:X.ls[i]?=some X.ls[i]:=Z6 hi;generalize X.ls[i]=l at eX
  have hm:((X.ls.take i).map noF).length=i:=by simp;exact OZh hi hlY.symm
  have hd1:X.ls.drop i=l::X.ls.drop (i+1):=by rw[ZG hi,(Z9.mp eX).2]
  have el:Y[i]?=some l:=by rw[eY,ZS (by exact OZ2 hm),hm,XM,hd1];rfl
  refine gb ?_;refine st ((zaa (h:=h) (X:={X with ls:=Y})).ln i l el) ⟨rfl,(by decide:6<900),?_⟩
  have e2:=zb1 (h:=h) (X:={X with ls:=Y}) (l:=noF l) (k:=i) (by show i<Y.length;exact OZg hi hm.symm hlY)
  rw[show putF ("flags":Ya) (R.d (.int 0)) (opnF l)=opnF (noF l) from rfl,e2];refine⟨?_,Y.set i (noF l),rfl,?_,_,rfl⟩
  ·have h1:=(zaa (h:=h) (X:={X with ls:=Y})).ols
   have h2:=(zaa (h:=h) (X:={X with ls:=Y.set i (noF l)})).ols;simp only[YU,hlY] at h1 h2;exact zcv h1 h2
  ·rw [eY,Y7 _ _ (by exact OZ2 hm),hm,XM,hd1,YL,eX]
   simp
 ·rintro σ h' ⟨Y,rfl,eY,v,rfl⟩
  rw[za1,Zm,W7,Ze] at eY;subst eY;exact zae.mpr kq
def doOA(X:Hl)(k:Nat)(l:Ln)(v:Val):OA->Hl|.keep=>{X with sr:=v}|.own=>{X with ls:=X.ls.set k {l with fl:=l.fl ||| 2}}|.share=>{X with ls:=X.ls.set k {l with fl:=l.fl ||| 1}}|.forget=>{X with ls:=X.ls.set k {l with fl:=0}}|.clear=>forget X|.stay=>X|.send w m ld=>zoR X k w m ld
theorem zcM{a:OA}:(doOA X k l v a).ls.length=X.ls.length:=by
 cases a with|send w m ld=>exact zfs _ _ _|_=>simp[doOA,forget]
theorem zlT(n:Nat){X:Hl}{k:Nat}{l:Ln}{v:Val}{a:OA}(el:X.ls[k]?=some l)(kq:Q (.d .non) (h++halS h.length (doOA X k l v a))):Ok (zad P (n+5) 20 [.loc h.length,.d (.int k),.d (valD v),.d (oaD a)] (h++halS h.length X)) Q:=by
 have hk:k<X.ls.length:=(Z9.mp el).1;refine cl rfl rfl rfl ?_;refine st zaa.hall ?_;refine st zaa.ols ?_;refine st (zc0 hk) ?_
 cases a with
 |keep=>refine st zaa.hall ⟨rfl,(by decide:6<900),?_⟩;refine zae.mpr ?_;rw[show h++halS h.length (doOA X k l v .keep)=_ from(zc3 (X:=X) (Y:={X with sr:=v}) rfl rfl).symm] at kq;exact kq|own=>refine st (zaa.ln k l el) ?_;refine st (zaa.ln k l el) ⟨rfl,(by decide:6<900),?_⟩;refine zae.mpr ?_;rw[show h++halS h.length (doOA X k l v .own)=_ from(zb1 hk).symm] at kq;exact kq|share=>refine st (zaa.ln k l el) ?_;refine st (zaa.ln k l el) ⟨rfl,(by decide:6<900),?_⟩;refine zae.mpr ?_;rw[show h++halS h.length (doOA X k l v .share)=_ from(zb1 hk).symm] at kq;exact kq|forget=>refine st (zaa.ln k l el) ⟨rfl,(by decide:6<900),?_⟩;refine zae.mpr ?_;rw[show h++halS h.length (doOA X k l v .forget)=_ from(zb1 hk).symm] at kq;exact kq|clear=>refine st zaa.hall ⟨rfl,rfl,?_⟩;exact ask (zja (n+3) (zae.mpr kq))|stay=>exact zae.mpr kq
 |send w m ld=>
  match w with|0=>exact ask (zel n hk (zae.mpr kq))|1=>exact ask (zel n hk (zae.mpr kq))|w+2=>exact ask (zel n hk (zae.mpr kq))
def zc6(k:Nat)(v:Val):List OA->Hl->Hl
 | [],X=>X
 |a::as,X=>match X.ls[k]? with
  |some l=>if zay (doOA X k l v a).brk then zc6 k v as (doOA X k l v a) else doOA X k l v a|none=>X
def toHs(X:Hl)(nx:Tx):Hl:=if zay X.brk then {X with s:=nx} else X
theorem znN(n:Nat){X:Hl}{k:Nat}{v:Val}{r:Row}{as:List OA}(hk:k<X.ls.length)(hb:zay X.brk=true)(er:r.acts=.house as)(kq:Q (.d .non) (h++halS h.length (toHs (zc6 k v as X) r.nx))):Ok (zad P (n+6) 19 [.loc h.length,.d (.int k),.d (valD v),.d (rowD r)] (h++halS h.length X)) Q:=by
 refine cl rfl rfl rfl ?_;refine st (zdp r) ?_;rw[er];refine ask ?_;show Ok (loop _ _ ((as.map oaD).map dI) _ _) _;refine zbI (xs:=as.map oaD) (λi σ h'=>∃Y,h'=h++halS h.length Y/\zay Y.brk=true/\k<Y.ls.length/\zc6 k v as X=zc6 k v (as.drop i) Y/\∃w,σ=[some (.loc h.length),some (.d (.int k)),some (.d (valD v)),some (.d (rowD r)),w]) ?_ ?_ ⟨X,rfl,hb,hk,rfl,none,rfl⟩
 ·rintro i a σ h' ha ⟨Y,rfl,hY,hkY,e,w,rfl⟩
  rw[ZX,ZL] at ha;obtain⟨a,ha,rfl⟩:=ha;have hi:=(Z9.mp ha).1
  have hd1:as.drop i=a::as.drop (i+1):=by rw[ZG hi,(Z9.mp ha).2]
  have el:Y.ls[k]?=some Y.ls[k]:=Z6 hkY;generalize Y.ls[k]=l at el;rw[hd1] at e;simp only[zc6,el] at e;refine gb ?_;refine ask (zlT n el ?_);refine st zaa.hall ?_;refine br (λc=>?_) (λc=>?_)
  ·have c:(!zay (doOA Y k l v a).brk)=true:=c
   have c':¬zay (doOA Y k l v a).brk=true:=by intro z;rw[z] at c;cases c
   rw[if_neg c'] at e;refine zae.mpr ?_;rw[e] at kq;unfold toHs at kq;rw[if_neg c'] at kq;exact kq
  ·have c:(!zay (doOA Y k l v a).brk)=false:=c
   have c':zay (doOA Y k l v a).brk=true:=by simpa using c
   rw[if_pos c'] at e
   exact⟨rfl,_,rfl,c',by rw[zcM];exact hkY,e,_,rfl⟩
 ·rintro σ h' ⟨Y,rfl,hY,hkY,e,w,rfl⟩
  rw[Z4,YM (Z0 _)] at e;simp only[zc6] at e;rw[e] at kq;unfold toHs at kq;rw[if_pos hY] at kq;refine st (zqi r) ?_;ac_rfl;refine st zaa.hall ⟨rfl,(by decide:6<900),?_⟩;refine zae.mpr ?_;rw[show h++halS h.length {Y with s:=r.nx}=_ from(zc3 (X:=Y) (Y:={Y with s:=r.nx}) rfl rfl).symm] at kq;exact kq
variable {Q:R->Sto->Prop}
theorem zjS{α:Type}{xs:List α}{n:Nat}:cut xs (some (n:Int)) none=xs.drop n:=by
 unfold cut sIx;simp only[if_neg (show ¬(n:Int)<0 by omega),ZA]
 rcases Nat.le_total n xs.length with k | k
 ·rw[Nat.min_eq_left k,Xf (by simp)]
 ·rw [Nat.min_eq_right k,Yx (Z0 _),Yx k]
  simp
def wout(w:List Lt)(j:Nat):List Lt:=w.take j++w.drop (j+1)
theorem zex(n:Nat){w:List Lt}{j:Nat}(hw:w.length<=100)(kq:Q (.d (wayD (wout w j))) h):Ok (zad P (n+1) 16 [.d (wayD w),.d (.int j)] h) Q:=by
 refine cl rfl rfl rfl ?_
 have e3:bop .add (.tup (cut (w.map letD) none (some (j:Int)))) (.tup (cut (w.map letD) (some ((j:Int)+1)) none))=some (wayD (wout w j)):=by
  rw[cutN,show((j:Int)+1)=((j+1:Nat):Int) by simp,zjS,<-Wu,<-List.map_drop]
  have hf:fit (((w.take j).map letD).length+((w.drop (j+1)).map letD).length)=true:=decide_eq_true (by unfold big;simp;exact OYl hw)
  show(if fit (((w.take j).map letD).length+((w.drop (j+1)).map letD).length) then some (D.tup ((w.take j).map letD++(w.drop (j+1)).map letD)) else none)=_;rw[if_pos hf,<-Zd];rfl
 refine st e3 ?_;exact f0 kq
structure HlOk(X:Hl):Prop where
 ways:∀l∈X.ls,l.to.length<=2/\l.back.length<=2
 few:X.ls.length<=10
def zno(X:Hl)(k:Nat)(l:Ln)(ev:Tx)(x:Option Int)(as:List HA)(nx:Tx):Hl:=
 toSt (zdu k none as (match x with
  |some n=>{X with ls:=X.ls.set k {l with want:=n}}
  |none=>X)) k nx
theorem zpi(n:Nat){X:Hl}{k:Nat}{l:Ln}{ev:Tx}{x:Option Int}{r:Row}{as:List HA}(el:X.ls[k]?=some l)(hb:zay X.brk=true)(hx:ev=zaB↔x.isSome=true)(er:r.acts=.hand as)(kq:Q (.d .non) (h++halS h.length (zno X k l ev x as r.nx))):
  Ok (zad P (n+5) 12 [.loc h.length,.d (zaP (.ask k ev x)),.d (rowD r)] (h++halS h.length X)) Q:=by
 have hk:k<X.ls.length:=(Z9.mp el).1;refine cl rfl rfl rfl ?_
 cases x with
 |none=>
  have hne:¬ev=zaB:=λc=>by simpa using hx.mp c
  refine bf (show(ev==zaB)=false by simpa using hne) ?_;exact ask (zfx n (v:=none) hk hb er (zae.mpr kq))
 |some x=>have he:ev=zaB:=hx.mpr rfl;subst he;refine st zaa.hall ?_;refine st zaa.ols ?_;refine st (zc0 hk) ?_;refine st (zaa.ln k l el) ⟨rfl,(by decide:6<900),?_⟩;rw[show putF ("want":Ya) (R.d (.int x)) (opnF l)=opnF {l with want:=x} from rfl,zb1 hk];exact ask (zfx n (v:=none) (X:={X with ls:=X.ls.set k {l with want:=x}}) (by simpa using hk) hb er (zae.mpr kq))
def zhQ(X:Hl)(k:Nat)(l:Ln)(j:Nat)(v:Val)(as:List HA)(nx:Tx):Hl:=toSt (zdu k v as {X with ls:=X.ls.set k {l with to:=wout l.to j}}) k nx
theorem zmi(n:Nat){X:Hl}{k j:Nat}{l:Ln}{lt:Lt}{r:Row}{as:List HA}(el:X.ls[k]?=some l)(ej:l.to[j]?=some lt)(hw:l.to.length<=2)(hb:zay X.brk=true)(er:r.acts=.hand as)(kq:Q (.d .non) (h++halS h.length (zhQ X k l j lt.2 as r.nx))):
  Ok (zad P (n+5) 13 [.loc h.length,.d (zaP (.take k j)),.d (rowD r)] (h++halS h.length X)) Q:=by
 have hk:k<X.ls.length:=(Z9.mp el).1;refine cl rfl rfl rfl ?_;refine st zaa.hall ?_;refine st zaa.ols ?_;refine st (zc0 hk) ?_;refine st (zaa.ln k l el) ?_;refine st (zgV ej) ?_;refine st (zaa.ln k l el) ?_;refine ask (zex (n+3) (by exact OZf hw) ?_);ac_rfl;refine st (zaa.ln k l el) ⟨rfl,(by decide:6<900),?_⟩;rw[show putF ("to":Ya) (R.d (wayD (wout l.to j))) (opnF l)=opnF {l with to:=wout l.to j} from rfl,zb1 hk];exact ask (zfx n (v:=lt.2) (X:={X with ls:=X.ls.set k {l with to:=wout l.to j}}) (by simpa using hk) hb er (zae.mpr kq))
def zgp(as:List OA):Bool:=as.any λa=>match a with|.stay=>true|_=>false
def gotX(X:Hl)(k:Nat)(l:Ln)(j:Nat)(as:List OA):Hl:=if zgp as then X else {X with ls:=X.ls.set k {l with back:=wout l.back j}}
theorem zjL(as:List OA):((as.map oaD).any λy=>y.eqb (.tup [.str zeL]))=zgp as:=by
 unfold zgp;rw[WO]
 congr 1
 funext a
 cases a with|send w m l=>show(D.eqb (.tup [.str (zo6 w),.str m,.str l]) (.tup [.str zeL]))=false;show((_==_)&&false)=false;exact YF _|_=>rfl
theorem zpb(n:Nat){X:Hl}{k j:Nat}{l:Ln}{lt:Lt}{r:Row}{as:List OA}(el:X.ls[k]?=some l)(ej:l.back[j]?=some lt)(hw:l.back.length<=2)(er:r.acts=.house as)(kq:Q (.d (valD lt.2)) (h++halS h.length (gotX X k l j as))):
  Ok (zad P (n+2) 15 [.loc h.length,.d (zaP (.get k j)),.d (rowD r)] (h++halS h.length X)) Q:=by
 have hk:k<X.ls.length:=(Z9.mp el).1;refine cl rfl rfl rfl ?_;refine st zaa.hall ?_;refine st zaa.ols ?_;refine st (zc0 hk) ?_;refine st (zaa.ln k l el) ?_;refine st (zgV ej) ?_;refine st (zdp r) ?_;rw[er];unfold gotX at kq;have es:=zjL as;refine br (λc=>?_) (λc=>?_)
 ·have c:(!(as.map oaD).any λy=>y.eqb (.tup [.str zeL]))=true:=c
  rw[es] at c
  have c':¬zgp as=true:=by intro z;rw[z] at c;cases c
  rw[if_neg c'] at kq;refine st (zaa.ln k l el) ?_;refine ask (zex n (by exact OZf hw) ?_);ac_rfl;refine st (zaa.ln k l el) ⟨rfl,(by decide:6<900),?_⟩;refine zae.mpr ?_;rw[show h++halS h.length {X with ls:=X.ls.set k {l with back:=wout l.back j}}=_ from(zb1 hk).symm] at kq;exact kq
 ·have c:(!(as.map oaD).any λy=>y.eqb (.tup [.str zeL]))=false:=c
  rw[es] at c
  have c':zgp as=true:=by simpa using c
  rw[if_pos c'] at kq;exact zae.mpr kq
def zpo(X:Hl)(k:Nat)(l:Ln)(j:Nat)(v:Val)(as:List OA)(nx:Tx):Hl:=toHs (zc6 k v as (gotX X k l j as)) nx
theorem zur{X:Hl}:(gotX X k l j as).ls.length=X.ls.length:=by
 unfold gotX
 split
 ·rfl
 ·simp
theorem zqr{X:Hl}:(gotX X k l j as).brk=X.brk:=by
 unfold gotX
 split<;>rfl
theorem zoN(n:Nat){X:Hl}{k j:Nat}{l:Ln}{lt:Lt}{r:Row}{as:List OA}(el:X.ls[k]?=some l)(ej:l.back[j]?=some lt)(hw:l.back.length<=2)(hb:zay X.brk=true)(er:r.acts=.house as)(kq:Q (.d .non) (h++halS h.length (zpo X k l j lt.2 as r.nx))):
  Ok (zad P (n+7) 14 [.loc h.length,.d (zaP (.get k j)),.d (rowD r)] (h++halS h.length X)) Q:=by
 have hk:k<X.ls.length:=(Z9.mp el).1;refine cl rfl rfl rfl ?_;refine ask (zpb (n+4) el ej hw er ?_)
 exact ask (znN n (v:=lt.2) (by rw[zur];exact hk) (by rw[zqr];exact hb) er (zae.mpr kq))
def rgt(zs:List (Tx×Tx))(s:Tx):Tx:=match zs.find? (λp=>p.1==s) with|some p=>p.2|none=>zcG
theorem zlt(n:Nat){T:Tab}(k:Q (.d (.str (rgt T.hands s))) h):Ok (zad P (n+1) 0 [.d (tabD T),.d (.str s)] h) Q:=by
 refine cl rfl rfl rfl ?_;ac_rfl;rw[Zt];refine ask (zce (g:=dI∘hnD) (xs:=T.hands) (λi σ h'=>h'=h/\rgt T.hands s=rgt (T.hands.drop i) s/\∃v2 v3,σ=[some (R.d (tabD T)),some (R.d (.str s)),v2,v3]) ?_ ?_ ⟨rfl,rfl,none,none,rfl⟩)
 ·rintro i p σ h' hx ⟨rfl,hf,v2,v3,rfl⟩
  have hi:=(Z9.mp hx).1
  have hd1:T.hands.drop i=p::T.hands.drop (i+1):=by rw[ZG hi,(Z9.mp hx).2]
  rw[hd1] at hf;refine gb ?_;refine br (λc=>?_) (λc=>?_)
  ·have c:(p.1==s)=true:=c
   have e:rgt T.hands s=p.2:=by rw[hf];unfold rgt;rw[Xd (by exact c)]
   rw[e] at k;exact f0 k
  ·have c:(p.1==s)=false:=c
   have e:rgt T.hands s=rgt (T.hands.drop (i+1)) s:=by rw[hf];unfold rgt;rw[Xc (by rw[c];simp)]
   exact⟨rfl,rfl,e,_,_,rfl⟩
 ·rintro σ h' ⟨rfl,hf,v2,v3,rfl⟩
  rw[YM (Z0 _)] at hf;rw[hf] at k;exact f0 k
def clB(T:Tab)(ls:List Ln):Bool:=(ls.any λl=>rgt T.hands l.st==zaB)&&decide (1<(ls.length:Int)-(ls.countP λl=>rgt T.hands l.st==zcG:Nat))
theorem zlG{α β:Type}{g:α->β}:∀xs:List α,xs.filterMap (λx=>some (g x))=xs.map g| []=>rfl|x::xs=>by rw[YZ,zlG xs];rfl
theorem zny{α:Type}{l:Option Nat}{dD:α->D}{g:α->D}{xs:List α}{Q:List D->Sto->Prop}(e:∀x∈xs,Ok (f (dI (dD x)) h) λo h1=>o=some (g x)/\h1=h)(s:zaM l h h=true)(q:Q (xs.map g) h):Ok (zaO l f ((xs.map dD).map dI) h) Q:=by rw[Zt];refine zaV (d:=dI∘dD) (g:=λx=>some (g x)) e s ?_;rw[zlG];exact q
theorem zkW(n:Nat){T:Tab}{ls:List Ln}(k:Q (.d (.bl (clB T ls))) h):Ok (zad P (n+2) 5 [.d (tabD T),.d (stdD s v u ls)] h) Q:=by
 refine cl rfl rfl rfl ?_;refine ask (zny (dD:=lnD) (g:=λl=>D.str (rgt T.hands l.st)) (λl hl=>?_) zee ?_)
 ·refine gc ?_
  refine ask (zlt n ?_);exact⟨rfl,rfl⟩
 ·have e1:((ls.map λl=>D.str (rgt T.hands l.st)).any λy=>y.eqb (.str zaB))=ls.any λl=>rgt T.hands l.st==zaB:=by rw[WO];rfl
  have e2:((ls.map λl=>D.str (rgt T.hands l.st)).countP λy=>y.eqb (.str zcG))=ls.countP λl=>rgt T.hands l.st==zcG:=by rw[List.countP_map];rfl
  refine br (λc=>?_) (λc=>?_)
  ·have c:=e1.symm.trans c
   ac_rfl;rw[e2,Z4];refine f0 ?_;unfold clB at k;rw[c,Zn] at k;exact k
  ·have c:=e1.symm.trans c
   refine f0 ?_;unfold clB at k;rw[c,Zh] at k;exact k
def stdH(X:Hl):D:=stdD X.s X.sr X.la X.ls
theorem zk3(n:Nat){l:Ln}{p:Nat}(e:h[p]?=some (.ins "OpenLine" (opnF l)))(kq:Q (.d (lnD l)) h):Ok (zad P (n+1) 44 [.loc p] h) Q:=by refine cl rfl rfl rfl ?_;refine st e ?_;refine st e ?_;refine st e ?_;refine st e ?_;refine st e ?_;refine st e ?_;exact f0 kq
theorem zgl(n:Nat){X:Hl}(H:zcF h p X q)(kq:Q (.d (stdH X)) h):Ok (zad P (n+2) 46 [.loc p] h) Q:=by
 refine cl rfl rfl rfl ?_;refine st H.hall ?_;refine st H.ols ?_;refine ask ?_;refine zb0 (g:=λl=>Ite.r (.loc l)) (xs:=zaK (p+1) X.ls.length) (λi ys h'=>h'=h/\ys=(X.ls.take i).map lnD) ?_ ?_ ⟨rfl,rfl⟩
 ·rintro i a ys h' ha ⟨rfl,rfl⟩
  have hi:=(Z9.mp ha).1;rw[za1] at hi
  have ea:a=p+1+i:=by unfold zaK at ha;rw[ZX,Za hi] at ha;cases ha;rfl
  subst ea;have eX:X.ls[i]?=some X.ls[i]:=Z6 hi;generalize X.ls[i]=l at eX;refine gc ?_;refine st (H.ln i l eX) ⟨rfl,rfl,?_⟩;refine ask (zk3 n (H.ln i l eX) ?_);refine⟨zcv H.ols H.ols,rfl,?_⟩;rw[YL,eX];simp
 ·rintro ys h' ⟨rfl,rfl⟩
  rw[za1,Zm];refine st H.hall ?_;refine st H.hall ?_;refine st H.hall ?_;exact f0 kq
variable {Q:R->Sto->Prop}
theorem zoS{r:Row}{x:Tx}{t:List D}(e:zgv (.str x::t) (rowD r)=true):r.k=x:=by have e:(D.eqb (.str r.k) (.str x)&&_)=true:=e;rw[Z8] at e;exact Z3 (show(r.k==x)=true from e.1)
theorem zeY{T:Tab}{x:Tx}{t:List D}(e:zcn T.rows (.str x::t)=some r):r.k=x:=zoS (List.find?_some (p:=λr=>zgv (.str x::t) (rowD r)) e)
theorem hand_row{T:Tab}{s w:Tx}(O:T.Ok)(e:zbj T s w=some r):∃as,r.acts=.hand as:=(O.rows r (YJ e)).hand (zeY e)
theorem house_row{T:Tab}{s m:Tx}{last:Bool}(O:T.Ok)(e:za6 T s m last=some r)(g:goes (some r)=true):∃as,r.acts=.house as:=by
 have hr:r.acts=.wait\/∃as,r.acts=.house as:=by
  unfold za6 at e
  rcases Option.or_eq_some_iff.mp e with e|⟨_,e⟩<;>exact(O.rows r (YJ e)).house (zeY e)
 rcases hr with h | h
 ·have g:(!zhV r.acts)=true:=g
  rw[h] at g;cases g
 ·exact h
def zeh(X:Hl)(l:Ln)(r:Row):Deed->Hl
 |.ask k ev x=>match r.acts with
  |.hand as=>zno X k.toNat l ev x as r.nx|_=>X
 |.take k j=>match r.acts with
  |.hand as=>zhQ X k.toNat l j.toNat (match l.to[j.toNat]? with | some lt=>lt.2 | none=>none) as r.nx|_=>X
 |.get k j=>match r.acts with
  |.house as=>zpo X k.toNat l j.toNat (match l.back[j.toNat]? with | some lt=>lt.2 | none=>none) as r.nx|_=>X
def zat(T:Tab)(Y:Hl):Hl:=if zay Y.brk&&clB T Y.ls then {Y with brk:=bad zjW} else Y
def zhD(T:Tab)(X:Hl)(d:Deed):Hl:=match X.ls[d.k.toNat]? with
 |none=>X
 |some l=>match zbJ T X l d with
  |none=>{X with brk:=bad zeB}|some r=>zat T (zeh X l r d)
def Deed.Ok:Deed->Prop|.ask _ ev x=>ev=zaB↔x.isSome=true|_=>True
theorem zfy{T:Tab}{X Y:Hl}{n:Nat}{d:D}{r:D}(kq:Q (.d .non) (h++halS h.length (zat T Y))):
  wSs (zad P (n+3)) [.ife (.and (.val (.cmp .isN (.fld (.var 1) "broken") (.con .non))) (.val (.call 5 [(.var 0),(.mc "Hall" "as_tuple" 46 (.var 1) [])]))) [.setF (.var 1) "broken" (.tup [(.con (.str [99,108,97,115,104]))])] []]
   [some (.d (tabD T)),some (.loc h.length),some (.d d),some (.d r)] (h++halS h.length Y) (kF (h++halS h.length X) true false Q):=by
 refine st zaa.hall ?_;unfold zat at kq;refine br (λc=>?_) (λc=>?_)
 ·have c:zay Y.brk=true:=c
  rw[c,Zn] at kq;refine st zaa.hall ⟨rfl,rfl,?_⟩;refine ask (zgl (n+1) zaa ?_);refine ask (zkW (n+1) ?_);refine br (λc2=>?_) (λc2=>?_)
  ·rw [if_pos c2] at kq
   refine st zaa.hall ⟨rfl,(by decide:6<900),?_⟩;refine zae.mpr ?_;rw[show h++halS h.length {Y with brk:=bad zjW}=_ from(zc3 (X:=Y) (Y:={Y with brk:=bad zjW}) rfl rfl).symm] at kq;exact kq
  ·rw [if_neg (by rw[c2];decide)] at kq
   exact zae.mpr kq
 ·have c:zay Y.brk=false:=c
  rw[c,Zh,if_neg (by decide)] at kq;exact zae.mpr kq
theorem zlL(n:Nat){T:Tab}{X:Hl}{d:Deed}(O:T.Ok)(hX:HlOk X)(hb:zay X.brk=true)(hd:d.Ok)(hm:mayB T X d=true)(kq:Q (.d .non) (h++halS h.length (zhD T X d))):
  Ok (zad P (n+8) 11 [.d (tabD T),.loc h.length,.d (zaP d)] (h++halS h.length X)) Q:=by
 unfold mayB at hm
 split at hm
 case isFalse=>cases hm
 rename_i hk0
 split at hm
 case h_2=>cases hm
 rename_i l el;have hw:=hX.ways l (ZT el);have hk:d.k.toNat<X.ls.length:=(Z9.mp el).1;obtain⟨k,ek⟩:∃k:Nat,d.k=k:=⟨d.k.toNat,by exact OXH hk0⟩;unfold zhD at kq;rw[el] at kq;simp only at kq;refine cl rfl rfl rfl ?_
 cases d with
 |ask k' ev x=>
  obtain rfl:k'=k:=ek;rw[show(Deed.ask (k:Int) ev x).k.toNat=k from rfl] at el;simp only[mayL,Z8] at hm;simp only[zbJ] at kq;obtain⟨r,er⟩:=Yo.mp hm.2;rw[er] at kq;obtain⟨as,ea⟩:=hand_row O er;simp only[zeh,ea,ZA] at kq
  have ed:∃t,zaP (.ask k ev x)=.tup (.str kask::.int k::.str ev::t):=by cases x<;>exact⟨_,rfl⟩
  have hd:ev=zaB↔x.isSome=true:=hd;obtain⟨t,ed⟩:=ed;rw[ed];refine ask (zl6 (n+4) zaa el ?_);rw[er];refine st zjO ?_;rw[<-ed];refine ask (zpi (n+2) el hb hd ea ?_);exact zfy (n:=n+4) kq
 | take k' j=>
  obtain rfl:k'=k:=ek;rw[show(Deed.take (k:Int) j).k.toNat=k from rfl] at el;simp only[mayL,Z8,decide_eq_true_eq] at hm;obtain⟨j,rfl⟩:∃i:Nat,j=i:=⟨j.toNat,by exact OZe hm⟩;have ej:l.to[j]?=some l.to[j]:=Z6 (by exact OZd hm);generalize l.to[j]=lt at ej;simp only[zbJ,ZA,ej] at kq hm;refine ask (zka (n+4) zaa el ej ?_)
  cases er:zbj T l.st lt.1 with|none=>rw[er] at kq;refine st zaa.hall ⟨rfl,(by decide:6<900),?_⟩;refine zae.mpr ?_;have e:=zc3 (h:=h) (X:=X) (Y:={X with brk:=bad zeB}) rfl rfl;simp only at kq;rw[<-e] at kq;exact kq|some r=>rw[er] at kq;obtain⟨as,ea⟩:=hand_row O er;simp only[zeh,ea,ZA,ej] at kq;refine ask (zmi (n+2) el ej hw.1 hb ea ?_);exact zfy (n:=n+4) kq
 | get k' j=>
  obtain rfl:k'=k:=ek;rw[show(Deed.get (k:Int) j).k.toNat=k from rfl] at el;simp only[mayL,Z8,decide_eq_true_eq] at hm;obtain⟨j,rfl⟩:∃i:Nat,j=i:=⟨j.toNat,by exact OZe hm⟩;have ej:l.back[j]?=some l.back[j]:=Z6 (by exact OZd hm);generalize l.back[j]=lt at ej;simp only[zbJ,ZA,ej] at kq hm;refine ask (znE (n+4) zaa el ej ?_)
  cases er:za6 T X.s lt.1 (oth k X.ls).isEmpty with|none=>rw[er] at kq;refine st zaa.hall ⟨rfl,(by decide:6<900),?_⟩;refine zae.mpr ?_;have e:=zc3 (h:=h) (X:=X) (Y:={X with brk:=bad zeB}) rfl rfl;simp only at kq;rw[<-e] at kq;exact kq|some r=>rw[er] at kq hm;obtain⟨as,ea⟩:=house_row O er hm.2;simp only[zeh,ea,ZA,ej] at kq;refine ask (zoN n el ej hw.2 hb ea ?_);exact zfy (n:=n+4) kq
structure Sd where
 s:Tx
 sr:Val
 la:Int×Int
 ls:List Ln
def sdD(S:Sd):D:=stdD S.s S.sr S.la S.ls
def hlOf(S:Sd):Hl:=⟨S.s,S.sr,S.la,S.ls,.non,.non⟩
def sdOf(X:Hl):Sd:=⟨X.s,X.sr,X.la,X.ls⟩
def may1(T:Tab)(S:Sd)(d:Deed):Bool:=mayB T (hlOf S) d
def zeI(T:Tab)(S:Sd)(d:Deed):Hl:=zhD T (hlOf S) d
def zfR(T:Tab)(S:Sd)(d:Deed):D:=if zay (zeI T S d).brk then .tup [sdD (sdOf (zeI T S d)),(zeI T S d).ans,.non] else .tup [sdD S,.non,(zeI T S d).brk]
theorem znA(n:Nat){T:Tab}{S:Sd}{d:Deed}(O:T.Ok)(hS:HlOk (hlOf S))(hd:d.Ok)(hm:may1 T S d=true)(kq:Q (.d (zfR T S d)) h):
  Ok (zad P (n+9) 23 [.d (tabD T),.d (sdD S),.d (zaP d)] h) Q:=by
 refine cl rfl rfl rfl ?_;refine ask (ziM (n+6) ⟨rfl,?_⟩);refine ask (zki (n+4) (X:=hlOf S) zaa ?_);have hm:mayB T (hlOf S) d=true:=hm;rw[hm];refine ask (zlL n O hS rfl hd hm ?_);refine st zaa.hall ?_;unfold zfR zeI at kq;refine br (λc=>?_) (λc=>?_)
 ·have c:(!zay (zhD T (hlOf S) d).brk)=true:=c
  rw[if_neg (by intro z;rw[z] at c;cases c)] at kq
  refine st zaa.hall ?_;exact fa kq
 ·have c:(!zay (zhD T (hlOf S) d).brk)=false:=c
  rw[if_pos (by simpa using c)] at kq;refine st zaa.hall ⟨rfl,rfl,?_⟩;refine ask (zgl (n+6) zaa ?_);refine st zaa.hall ?_;exact fa kq
theorem zsM:P.length<=1000:=by decide
theorem zs6(n:Nat){T:Tab}{S:Sd}{d:Deed}(hm:may1 T S d=false)(kq:Q (.d (.int 0)) h):
  Ok (zad P (n+9) (xof 23) [.d (tabD T),.d (sdD S),.d (zaP d)] h) Q:=by
 refine clX zsM rfl rfl rfl ?_;refine x_nx ?_;refine ask (ziM (n+6) ⟨rfl,?_⟩);refine x_if ?_;refine ask (zki (n+4) (X:=hlOf S) zaa ?_);have hm:mayB T (hlOf S) d=false:=hm;rw[hm];refine⟨rfl,?_⟩;exact fa kq
end K21
namespace K21
open IT
variable {Q:R->Sto->Prop}
variable {h:Sto}{Q:R->Sto->Prop}
def lnL(l:Ln):List D:=[.str l.st,valD l.v,.int l.want,wayD l.to,wayD l.back,.int l.fl]
abbrev lnB(l:Ln):Ob:=.lst (lnL l)
def rcF(X:Hl)(q:Nat):List (Ya×R):=[("lines",.loc q),("store",.d (valD X.sr)),("last",.d (prD X.la)),("answer",.d X.ans)]
def lwS(b:Nat)(X:Hl):Sto:=X.ls.map lnB++[.ols (zaK b X.ls.length),.rcd (rcF X (b+X.ls.length))]
structure LwAt(h:Sto)(b:Nat)(X:Hl):Prop where
 rc:h[b+X.ls.length+1]?=some (.rcd (rcF X (b+X.ls.length)))
 ols:h[b+X.ls.length]?=some (.ols (zaK b X.ls.length))
 ln:∀k l,X.ls[k]?=some l->h[b+k]?=some (.lst (lnL l))
theorem zai{X:Hl}:LwAt (h++lwS h.length X) h.length X:=by
 refine⟨?_,?_,λk l e=>?_⟩
 ·rw [ZS (by exact OZc),lwS,ZS (by simp;exact OZb)]
  simp only[Z4];rw[show h.length+X.ls.length+1-h.length-X.ls.length=1 by exact OZa];rfl
 ·rw [ZS (by omega),lwS,ZS (by simp)]
  simp only[Z4];rw[show h.length+X.ls.length-h.length-X.ls.length=0 by omega];rfl
 ·have hk:k<X.ls.length:=(Z9.mp e).1
  rw[ZS (by omega),lwS,ZM (by simp;omega),Nat.add_sub_cancel_left,ZX,e]
  rfl
theorem zb6{X:Hl}{k:Nat}{l:Ln}(hk:k<X.ls.length):(h++lwS h.length X).set (h.length+k) (.lst (lnL l))=h++lwS h.length {X with ls:=X.ls.set k l}:=by rw[Y7 _ _ (by omega),Nat.add_sub_cancel_left,lwS,List.set_append_left _ _ (by simpa using hk),lwS];simp only[YU,List.map_set];rfl
theorem zkx{X Y:Hl}(e:Y.ls=X.ls):(h++lwS h.length X).set (h.length+X.ls.length+1) (.rcd (rcF Y (h.length+X.ls.length)))=h++lwS h.length Y:=by
 rw[Y7 _ _ (by exact OZc),lwS,Y7 _ _ (by simp;exact OZb),lwS,e]
 simp only[Z4];rw[show h.length+X.ls.length+1-h.length-X.ls.length=1 by exact OZa];rfl
theorem zeF{X:Hl}{b k:Nat}(hk:k<X.ls.length):at' (zaK b X.ls.length) (k:Int)=some (b+k):=by rw[za0 (by omega) (by exact OZ7 hk),ZA]
def wayN(w:Nat)(l:Ln):List Lt:=if w=4 then l.back else l.to
def zkR(w:Nat)(l:Ln)(x:List Lt):Ln:=if w=4 then {l with back:=x} else {l with to:=x}
theorem zkd{α:Type}{xs:List α}{k:Nat}{l:α}(e:xs[k]?=some l):xs.set k l=xs:=by obtain⟨hk,e⟩:=Z9.mp e;subst e;exact List.set_getElem_self hk
theorem fset{k:Bool}{x:D}{h0:Sto}{l:Nat}{xs ys:List D}(e:h0[l]?=some (.lst xs))(q:Q (.d x) (h0.set l (.lst ys))):Ok (fin h0 false k (.d x) (h0.set l (.lst ys))) Q:=by
 refine fd ?_ ?_
 ·have:=zil (t:=[]) (ys:=ys) e
  rwa [Ze] at this
 ·rw [Xf (by simp)]
  exact q
theorem zbO(n:Nat){X:Hl}{k w:Nat}{l:Ln}{x:Lt}(hw:w=3\/w=4)(el:X.ls[k]?=some l)(kq:Q (.d (.bl (decide ((wayN w l).length<2)))) (h++lwS h.length {X with ls:=X.ls.set k (zkR w l (post (wayN w l) x))})):
  Ok (zad P (n+1) 36 [.loc (h.length+X.ls.length),.d (.int k),.d (.int w),.d (letD x)] (h++lwS h.length X)) Q:=by
 have hk:k<X.ls.length:=(Z9.mp el).1;refine cl rfl rfl rfl ?_;refine st zai.ols ?_;refine st (zeF hk) ?_;ac_rfl;refine st (zai.ln k l el) ?_
 rcases hw with rfl | rfl
 ·ac_rfl
  refine br (λc=>?_) (λc=>?_)
  ·have c:decide ((1:Int)<((l.to.map letD).length:Nat))=true:=c
   have c:=of_decide_eq_true c;rw[Z4] at c
   have e1:decide ((wayN 3 l).length<2)=false:=decide_eq_false (by show ¬l.to.length<2;exact OY9 c)
   have e2:zkR 3 l (post (wayN 3 l) x)=l:=by show {l with to:=post l.to x}=l;rw[show post l.to x=l.to from if_pos (by exact OY8 c)]
   rw[e1,e2,zkd el] at kq;exact f0 kq
  ·have c:decide ((1:Int)<((l.to.map letD).length:Nat))=false:=c
   have c:=of_decide_eq_false c;rw[Z4] at c;refine st zai.ols ?_;refine st (zeF hk) ?_;ac_rfl;refine st (zai.ln k l el) ?_;refine st (show bop .add (wayD l.to) (.tup [letD x])=some (.tup (l.to.map letD++[letD x])) from if_pos (zqy (by exact OZT c) x)) ?_;refine st zai.ols ?_;refine st (zeF hk) ?_;ac_rfl;refine st (zai.ln k l el) ?_
   have e1:decide ((wayN 3 l).length<2)=true:=decide_eq_true (by show l.to.length<2;exact OZT c)
   have e2:lnL (zkR 3 l (post (wayN 3 l) x))=(lnL l).set 3 (.tup (l.to.map letD++[letD x])):=by show lnL {l with to:=post l.to x}=_;rw[show post l.to x=l.to++[x] from if_neg (by exact OY7 c)];simp[lnL,wayD]
   rw[e1,<-zb6 hk,e2] at kq;exact fset (zai.ln k l el) kq
 ·ac_rfl
  refine br (λc=>?_) (λc=>?_)
  ·have c:decide ((1:Int)<((l.back.map letD).length:Nat))=true:=c
   have c:=of_decide_eq_true c;rw[Z4] at c
   have e1:decide ((wayN 4 l).length<2)=false:=decide_eq_false (by show ¬l.back.length<2;exact OY9 c)
   have e2:zkR 4 l (post (wayN 4 l) x)=l:=by show {l with back:=post l.back x}=l;rw[show post l.back x=l.back from if_pos (by exact OY8 c)]
   rw[e1,e2,zkd el] at kq;exact f0 kq
  ·have c:decide ((1:Int)<((l.back.map letD).length:Nat))=false:=c
   have c:=of_decide_eq_false c;rw[Z4] at c;refine st zai.ols ?_;refine st (zeF hk) ?_;ac_rfl;refine st (zai.ln k l el) ?_;refine st (show bop .add (wayD l.back) (.tup [letD x])=some (.tup (l.back.map letD++[letD x])) from if_pos (zqy (by exact OZT c) x)) ?_;refine st zai.ols ?_;refine st (zeF hk) ?_;ac_rfl;refine st (zai.ln k l el) ?_
   have e1:decide ((wayN 4 l).length<2)=true:=decide_eq_true (by show l.back.length<2;exact OZT c)
   have e2:lnL (zkR 4 l (post (wayN 4 l) x))=(lnL l).set 4 (.tup (l.back.map letD++[letD x])):=by show lnL {l with back:=post l.back x}=_;rw[show post l.back x=l.back++[x] from if_neg (by exact OY7 c)];simp[lnL,wayD]
   rw[e1,<-zb6 hk,e2] at kq;exact fset (zai.ln k l el) kq
end K21
namespace K21
open IT
variable {Q:R->Sto->Prop}
variable {h:Sto}{Q:R->Sto->Prop}
theorem zos{X:Hl}{q:Nat}:((rcF X q).map WX).Nodup:=by
 show([("lines":Ya), "store", "last", "answer"]:List Ya).Nodup
 decide
theorem zgR{ld:Tx}{v:Val}:idxD (.lst [.non,valD v]) (.int (if(D.str ld).eqb (.str zaW)=true then 1 else 0))=some (valD (load ld v)):=by
 have e:(D.str ld).eqb (.str zaW)=(ld==zaW):=rfl;unfold load
 by_cases c:ld=zaW
 ·rw[e,if_pos (by rw[c];decide),if_pos c];rfl
 ·rw[e,if_neg (by simpa using c),if_neg c];rfl
theorem zlg(n:Nat){X:Hl}{k:Nat}{l:Ln}{v:Val}{a:HA}(hb:X.brk=.non)(el:X.ls[k]?=some l)(kq:Q (.d (doHA X k l v a).brk) (h++lwS h.length (doHA X k l v a))):
  Ok (zad P (n+2) 37 [.loc (h.length+X.ls.length+1),.d (.int k),.d (haD a),.d (valD v)] (h++lwS h.length X)) Q:=by
 have hk:k<X.ls.length:=(Z9.mp el).1;refine cl rfl rfl rfl ?_;refine st zai.rc ?_;refine st zai.ols ?_;refine st (zeF hk) ?_
 cases a with
 |keep=>refine st (zai.ln k l el) ?_;rw[show h++lwS h.length (doHA X k l v .keep)=_ from(zb6 hk).symm,show(doHA X k l v .keep).brk=.non from hb] at kq;exact zae.mpr kq|lose=>refine st (zai.ln k l el) ?_;rw[show h++lwS h.length (doHA X k l v .lose)=_ from(zb6 hk).symm,show(doHA X k l v .lose).brk=.non from hb] at kq;exact zae.mpr kq
 | put=>
  refine st zai.rc ?_;refine st (zai.ln k l el) ?_;refine st zai.rc ⟨rfl,zos,(by decide:4<=15),?_⟩;have e1:=zkx (h:=h) (X:=X) (Y:={X with la:=(X.la.1+1,l.want)}) rfl;rw[show putF ("last":Ya) (R.d (.tup [.int (X.la.1+1),.int l.want])) (rcF X (h.length+X.ls.length))=rcF {X with la:=(X.la.1+1,l.want)} (h.length+X.ls.length) from rfl,e1];refine st (zai (X:={X with la:=(X.la.1+1,l.want)})).rc ?_;refine st ((zai (X:={X with la:=(X.la.1+1,l.want)})).ln k l el) ?_;have e2:=zb6 (h:=h) (X:={X with la:=(X.la.1+1,l.want)}) (l:={l with v:=some (X.la.1+1,l.want)}) hk
  have el2:({X with la:=(X.la.1+1,l.want),ls:=X.ls.set k {l with v:=some (X.la.1+1,l.want)}}:Hl).ls[k]?=some {l with v:=some (X.la.1+1,l.want)}:=by show(X.ls.set k _)[k]?=_;rw[ZH hk]
  have ll:=(zai (h:=h) (X:={X with la:=(X.la.1+1,l.want),ls:=X.ls.set k {l with v:=some (X.la.1+1,l.want)}})).ln k _ el2;have rr:=(zai (h:=h) (X:={X with la:=(X.la.1+1,l.want),ls:=X.ls.set k {l with v:=some (X.la.1+1,l.want)}})).rc;have e3:=zkx (h:=h) (X:={X with la:=(X.la.1+1,l.want),ls:=X.ls.set k {l with v:=some (X.la.1+1,l.want)}}) (Y:=putV X k l) rfl;simp only[YU] at rr e3;rw[show h++lwS h.length (doHA X k l v .put)=_ from e3.symm,show(doHA X k l v .put).brk=.non from hb,<-e2] at kq;rw[<-e2] at ll rr;refine st ll ?_;refine st rr ⟨rfl,zos,(by decide:4<=15),?_⟩;exact zae.mpr kq
 | tell=>
  refine st (zai.ln k l el) ?_;obtain⟨l1,v',l2,l3,l4,l5⟩:=l
  cases v' with
  |none=>exact zae.mpr kq
  | some p=>
   refine st (zai.ln k _ el) ?_;refine st zai.rc ?_;refine br (λc=>?_) (λc=>?_)
   ·have c:(!(p.1==X.la.1))=true:=c
    have c':¬p.1=X.la.1:=by simpa using c
    simp only[doHA,zdd,if_neg c'] at kq;exact zae.mpr kq
   ·have c:(!(p.1==X.la.1))=false:=c
    have c':p.1=X.la.1:=by simpa using c
    simp only[doHA,zdd,if_pos c'] at kq;refine st (zai.ln k _ el) ?_;refine st zai.rc ⟨rfl,zos,(by decide:4<=15),?_⟩;have ea:=zkx (h:=h) (X:=X) (Y:={X with ans:=.tup [.str zgc,.int k,.int p.2]}) rfl;rw[<-ea,hb] at kq;exact zae.mpr kq
 | send m ld=>
  refine st (zai.ln k l el) ?_;refine st zgR ?_;refine st zai.rc ?_;refine ask (zbO n (x:=(m,load ld l.v)) (.inr rfl) el ?_);have kq:Q (.d (pbrk l.back X.brk)) (h++lwS h.length {X with ls:=X.ls.set k (zkR 4 l (post (wayN 4 l) (m,load ld l.v)))}):=kq
  by_cases c:l.back.length<2
  ·rw [show decide ((wayN 4 l).length<2)=true from decide_eq_true c]
   rw[show pbrk l.back X.brk=X.brk from if_neg (by exact OY6 c),hb] at kq;exact zae.mpr kq
  ·rw [show decide ((wayN 4 l).length<2)=false from decide_eq_false c]
   rw[show pbrk l.back X.brk=bad zih from if_pos (by exact OY5 c)] at kq;exact zae.mpr kq
end K21
namespace K21
open IT
variable {Q:R->Sto->Prop}
variable {h:Sto}{Q:R->Sto->Prop}
theorem zjB{x:Lt}{X:Hl}{i:Nat}{l:Ln}(el:X.ls[i]?=some l):zas x X i=zh0 X i l x:=by unfold zas;rw[el]
theorem zdb{f:Ite->M (Option D)}{X:Hl}{x:Lt}{is:List Nat}{Q:List D->Sto->Prop}(hi:∀i∈is,i<X.ls.length)
  (hf:∀(Y:Hl) (i:Nat) (l:Ln),Y.ls.length=X.ls.length->Y.ls[i]?=some l->Ok (f (dI (.int (i:Int))) (h++lwS h.length Y)) λo h1=>o=(if l.to.length<2 then none else some (.int (i:Int)))/\h1=h++lwS h.length (zh0 Y i l x))
  (q:∀ys,(is.foldl (zas x) X).brk=(if ys.isEmpty then X.brk else bad zih)->Q ys (h++lwS h.length (is.foldl (zas x) X))):
  Ok (zaO none f ((is.map λi:Nat=>D.int (i:Int)).map dI) (h++lwS h.length X)) Q:=by
 refine zn9 (λj ys h'=>h'=h++lwS h.length ((is.take j).foldl (zas x) X)/\((is.take j).foldl (zas x) X).brk=if ys.isEmpty then X.brk else bad zih) ?_ ?_ ⟨by simp,by simp⟩
 ·rintro j x0 ys h' e ⟨rfl,eb⟩
  rw[ZX,ZL] at e;obtain⟨i,ei,rfl⟩:=e;have hil:=hi i (ZT ei);have hlen:=zfs x (is.take j) X;have el:((is.take j).foldl (zas x) X).ls[i]?=some (((is.take j).foldl (zas x) X).ls[i]'(by exact OZ9 hil hlen)):=Z6 _;generalize hl:(((is.take j).foldl (zas x) X).ls[i]'(by exact OZ9 hil hlen))=l at el;refine(hf _ i l hlen el).mono λo h1 ⟨eo,eh⟩=>⟨rfl,?_⟩
  have et:is.take (j+1)=is.take j++[i]:=by rw[YL,ei];rfl
  have es:(is.take (j+1)).foldl (zas x) X=zh0 ((is.take j).foldl (zas x) X) i l x:=by rw[et,List.foldl_append];exact zjB el
  rw[es];refine⟨eh,?_⟩;show pbrk l.to _=_;unfold pbrk;rw[eb,eo]
  by_cases c:l.to.length<2
  ·rw[if_neg (by exact OY6 c),if_pos c]
  ·rw [if_pos (by exact OY5 c),if_neg c]
   simp
 ·rintro ys h' ⟨rfl,eb⟩
  rw[Z4,Zm] at eb;rw[Z4,Zm];exact q ys eb
theorem zdF{α:Type}:∀(ls:List α) (i:Int),zcq i ls.length=(nums i ls).map λp=>D.int p.1| [],_=>rfl|_::ls,i=>by rw[Zr,zcq,nums,ZC,zdF ls]
theorem fl2{a:Nat}(h:a<=3):decide ((1:Int)<(a:Int))=(((a &&& 2:Nat):Int) != 0):=by
 have:a=0\/a=1\/a=2\/a=3:=by exact OZZ h
 rcases this with rfl | rfl | rfl | rfl<;>decide
theorem fl1{a:Nat}(h:a<=3):((a:Int)%2==1)=(((a &&& 1:Nat):Int) != 0):=by
 have:a=0\/a=1\/a=2\/a=3:=by exact OZZ h
 rcases this with rfl | rfl | rfl | rfl<;>decide
theorem zsl{a:Nat}(h:a<=3):(a:Int)%2+2=((a ||| 2:Nat):Int):=by
 have:a=0\/a=1\/a=2\/a=3:=by exact OZZ h
 rcases this with rfl | rfl | rfl | rfl<;>decide
theorem zol{a:Nat}(h:a<=3):(a:Int) / 2*2+1=((a ||| 1:Nat):Int):=by
 have:a=0\/a=1\/a=2\/a=3:=by exact OZZ h
 rcases this with rfl | rfl | rfl | rfl<;>decide
def FlOk(X:Hl):Prop:=∀l∈X.ls,l.fl<=3
@[elab_as_elim] theorem pst{l':Ln}{P:Bool->Prop}(h1:l'.to.length<2->P true)(h2:¬l'.to.length<2->P false):P (decide ((wayN 3 l').length<2)):=by
 by_cases c:l'.to.length<2
 ·exact (decide_eq_true (show(wayN 3 l').length<2 from c)).symm ▸ h1 c
 ·exact (decide_eq_false (show¬(wayN 3 l').length<2 from c)).symm ▸ h2 c
theorem zlk(n:Nat){X:Hl}{k:Nat}{l:Ln}{v:Val}{a:OA}(hb:X.brk=.non)(hf:FlOk X)(few:X.ls.length<=10)(el:X.ls[k]?=some l)(kq:Q (.d (doOA X k l v a).brk) (h++lwS h.length (doOA X k l v a))):
  Ok (zad P (n+2) 38 [.loc (h.length+X.ls.length+1),.d (.int k),.d (oaD a),.d (valD v)] (h++lwS h.length X)) Q:=by
 have hk:k<X.ls.length:=(Z9.mp el).1;have hl3:l.fl<=3:=hf l (ZT el);refine cl rfl rfl rfl ?_;refine st zai.rc ?_
 cases a with
 |keep=>refine st zai.rc ⟨rfl,zos,(by decide:4<=15),?_⟩;have e1:=zkx (h:=h) (X:=X) (Y:={X with sr:=v}) rfl;rw[show h++lwS h.length (doOA X k l v .keep)=_ from e1.symm,show(doOA X k l v .keep).brk=.non from hb] at kq;exact zae.mpr kq
 |own=>
  refine st zai.ols ?_;refine st (zeF hk) ?_;refine st (zai.ln k l el) ?_;refine st zai.ols ?_;refine st (zeF hk) ?_;refine st (zai.ln k l el) ?_;have e1:=zb6 (h:=h) (X:=X) (l:={l with fl:=l.fl ||| 2}) hk
  rw[show h++lwS h.length (doOA X k l v .own)=_ from e1.symm,show(doOA X k l v .own).brk=.non from hb,show lnL {l with fl:=l.fl ||| 2}=(lnL l).set 5 (.int ((l.fl:Int)%2+2)) by rw[zsl hl3];rfl] at kq
  exact zae.mpr kq
 |share=>
  refine st zai.ols ?_;refine st (zeF hk) ?_;refine st (zai.ln k l el) ?_;refine st (zlD (a:=(l.fl:Int) / 2) (b:=2) (by rw[zjH (a:=2) (by decide) (by decide),Bool.or_true])) ?_;refine st zai.ols ?_;refine st (zeF hk) ?_;refine st (zai.ln k l el) ?_;have e1:=zb6 (h:=h) (X:=X) (l:={l with fl:=l.fl ||| 1}) hk
  rw[show h++lwS h.length (doOA X k l v .share)=_ from e1.symm,show(doOA X k l v .share).brk=.non from hb,show lnL {l with fl:=l.fl ||| 1}=(lnL l).set 5 (.int ((l.fl:Int) / 2*2+1)) by rw[zol hl3];rfl] at kq
  exact zae.mpr kq
 |forget=>refine st zai.ols ?_;refine st (zeF hk) ?_;refine st (zai.ln k l el) ?_;have e1:=zb6 (h:=h) (X:=X) (l:={l with fl:=0}) hk;rw[show h++lwS h.length (doOA X k l v .forget)=_ from e1.symm,show(doOA X k l v .forget).brk=.non from hb] at kq;exact zae.mpr kq|stay=>rw[show(doOA X k l v .stay).brk=.non from hb] at kq;exact zae.mpr kq
 | clear=>
  refine st zai.ols ?_;refine ask ?_;refine zce (g:=λl=>Ite.r (.loc l)) (xs:=zaK h.length X.ls.length) (λi σ h'=>∃Y,h'=h++lwS h.length {X with ls:=Y}/\Y=(X.ls.take i).map noF++X.ls.drop i/\∃w,σ=[some (.loc (h.length+X.ls.length+1)),some (.d (.int k)),some (.d (oaD .clear)),some (.d (valD v)),some (.loc (h.length+X.ls.length)),none,none,w,none,none,none]) ?_ ?_ ⟨X.ls,rfl,rfl,none,rfl⟩
  ·rintro i a σ h' ha ⟨Y,rfl,eY,w,rfl⟩
   have hi:=(Z9.mp ha).1;rw[za1] at hi
   have ea:a=h.length+i:=by unfold zaK at ha;rw[ZX,Za hi] at ha;cases ha;rfl
   subst ea
   have hlY:Y.length=X.ls.length:=by rw[eY];simp;exact OZi hi
   have eX:X.ls[i]?=some X.ls[i]:=Z6 hi;generalize X.ls[i]=l' at eX
   have hm:((X.ls.take i).map noF).length=i:=by simp;exact OZh hi hlY.symm
   have hd1:X.ls.drop i=l'::X.ls.drop (i+1):=by rw[ZG hi,(Z9.mp eX).2]
   have el':Y[i]?=some l':=by rw[eY,ZS (by exact OZ2 hm),hm,XM,hd1];rfl
   refine gb ?_;refine st ((zai (h:=h) (X:={X with ls:=Y})).ln i l' el') ?_
   have e2:=zb6 (h:=h) (X:={X with ls:=Y}) (l:=noF l') (k:=i) (by show i<Y.length;exact OZg hi hm.symm hlY)
   refine⟨?_,Y.set i (noF l'),e2,?_,_,rfl⟩
   ·have h1:=(zai (h:=h) (X:={X with ls:=Y})).ols
    have h2:=(zai (h:=h) (X:={X with ls:=Y.set i (noF l')})).ols;simp only[YU,hlY] at h1 h2;rw[<-e2] at h2;exact zcv h1 h2
   ·rw [eY,Y7 _ _ (by exact OZ2 hm),hm,XM,hd1,YL,eX]
    simp
  ·rintro σ h' ⟨Y,rfl,eY,w,rfl⟩
   rw[za1,Zm,W7,Ze] at eY;subst eY;rw[show(doOA X k l v .clear).brk=.non from hb] at kq;exact zae.mpr kq
 | send w m ld=>
  have es:∀w',(k<X.ls.length)->(zoR X k w' m ld).brk=((recv X k w').foldl (zas (m,load ld X.sr)) X).brk:=λ_ _=>rfl
  rcases w with _ | _ | w
  ·ac_rfl
   refine st zai.rc ?_;refine st zgR ?_;refine ask (zdb (is:=recv X k 0) (x:=(m,load ld X.sr)) (zgI hk) (λY i l' eY el'=>?_) λys eb=>?_)
   ·refine gc ?_
    rw[<-eY];refine ask (zbO n (x:=(m,load ld X.sr)) (.inl rfl) el' ?_)
    refine pst (λc=>⟨(if_pos c).symm,rfl⟩) λc=>⟨(if_neg c).symm,rfl⟩
   ·have kq:Q (.d ((recv X k 0).foldl (zas (m,load ld X.sr)) X).brk) (h++lwS h.length ((recv X k 0).foldl (zas (m,load ld X.sr)) X)):=kq
    rw[eb] at kq
    cases ys with|nil=>rw[show(if([]:List D).isEmpty=true then X.brk else bad zih)=.non from hb] at kq;exact zae.mpr kq|cons y ys=>refine st (zg3 (zfW (by simp[D.dep,D.deps]))) ?_;exact zae.mpr kq
  ·ac_rfl
   refine st zai.rc ?_;refine st zgR ?_;refine st zai.ols ?_
   refine⟨by rw[za1];exact OZJ few,?_⟩
   rw[za1,ZA,zdF,Zt];refine ask (zaV (d:=λp:Int×Ln=>dI (.int p.1)) (g:=λp=>if hasF 2 p.2 then some (.int p.1) else none) (λp hp=>?_) rfl ?_)
   ·obtain ⟨h0,h1,h2⟩:=zcc hp
    refine gc ?_;refine st zai.ols ?_;refine st (za0 h0 h1) ?_;refine st (zai.ln _ _ h2) ?_;have e2:=fl2 (hf _ (ZT h2));refine br (λc=>?_) (λc=>?_)
    ·have c:decide ((1:Int)<(p.2.fl:Int))=true:=c
     exact⟨by rw[show hasF 2 p.2=true from by unfold hasF;rw[<-e2];exact c];rfl,rfl⟩
    ·have c:decide ((1:Int)<(p.2.fl:Int))=false:=c
     exact⟨by rw[show hasF 2 p.2=false from by unfold hasF;rw[<-e2];exact c];rfl,rfl⟩
   rw[zb7,show((nums 0 X.ls).filter λp=>hasF 2 p.2).map (λp=>D.int p.1)=(recv X k 1).map (λi:Nat=>D.int (i:Int)) from by unfold recv;rw[if_neg (by decide),if_pos rfl,zhv zd1];rfl]
   refine ask (zdb (is:=recv X k 1) (x:=(m,load ld X.sr)) (zgI hk) (λY i l' eY el'=>?_) λys eb=>?_)
   ·refine gc ?_
    rw[<-eY];refine ask (zbO n (x:=(m,load ld X.sr)) (.inl rfl) el' ?_)
    refine pst (λc=>⟨(if_pos c).symm,rfl⟩) λc=>⟨(if_neg c).symm,rfl⟩
   ·have kq:Q (.d ((recv X k 1).foldl (zas (m,load ld X.sr)) X).brk) (h++lwS h.length ((recv X k 1).foldl (zas (m,load ld X.sr)) X)):=kq
    rw[eb] at kq
    cases ys with|nil=>rw[show(if([]:List D).isEmpty=true then X.brk else bad zih)=.non from hb] at kq;exact zae.mpr kq|cons y ys=>refine st (zg3 (zfW (by simp[D.dep,D.deps]))) ?_;exact zae.mpr kq
  ·ac_rfl
   refine st zai.rc ?_;refine st zgR ?_;refine st zai.ols ?_
   refine⟨by rw[za1];exact OZJ few,?_⟩
   rw[za1,ZA,zdF,Zt];refine ask (zaV (d:=λp:Int×Ln=>dI (.int p.1)) (g:=λp=>if hasF 1 p.2&&(p.1 != (k:Int)) then some (.int p.1) else none) (λp hp=>?_) rfl ?_)
   ·obtain ⟨h0,h1,h2⟩:=zcc hp
    refine gc ?_;have e2:=fl1 (hf _ (ZT h2));refine br (λc=>?_) (λc=>?_)
    ·have c:(!(p.1==(k:Int)))=true:=c
     refine st zai.ols ?_;refine st (za0 h0 h1) ?_;refine st (zai.ln _ _ h2) ?_;refine br (λc2=>?_) (λc2=>?_)
     ·have c2:((p.2.fl:Int)%2==1)=true:=c2
      exact⟨by rw[show hasF 1 p.2=true from by unfold hasF;rw[<-e2];exact c2,show(p.1 != (k:Int))=true from c];rfl,rfl⟩
     ·have c2:((p.2.fl:Int)%2==1)=false:=c2
      exact⟨by rw[show hasF 1 p.2=false from by unfold hasF;rw[<-e2];exact c2];rfl,rfl⟩
    ·have c:(!(p.1==(k:Int)))=false:=c
     exact⟨by rw[show(p.1 != (k:Int))=false from c,YF];rfl,rfl⟩
   rw[zb7,show((nums 0 X.ls).filter λp=>hasF 1 p.2&&(p.1 != (k:Int))).map (λp=>D.int p.1)=(recv X k (w+2)).map (λi:Nat=>D.int (i:Int)) from by unfold recv;rw[if_neg (by exact OZk),if_neg (by exact OZj),zhv zji];unfold oth zk4;rw[List.filter_filter];simp only[Bool.and_comm]]
   refine ask (zdb (is:=recv X k (w+2)) (x:=(m,load ld X.sr)) (zgI hk) (λY i l' eY el'=>?_) λys eb=>?_)
   ·refine gc ?_
    rw[<-eY];refine ask (zbO n (x:=(m,load ld X.sr)) (.inl rfl) el' ?_)
    refine pst (λc=>⟨(if_pos c).symm,rfl⟩) λc=>⟨(if_neg c).symm,rfl⟩
   ·have kq:Q (.d ((recv X k (w+2)).foldl (zas (m,load ld X.sr)) X).brk) (h++lwS h.length ((recv X k (w+2)).foldl (zas (m,load ld X.sr)) X)):=kq
    rw[eb] at kq
    cases ys with|nil=>rw[show(if([]:List D).isEmpty=true then X.brk else bad zih)=.non from hb] at kq;exact zae.mpr kq|cons y ys=>refine st (zg3 (zfW (by simp[D.dep,D.deps]))) ?_;exact zae.mpr kq
end K21
namespace K21
open IT
variable {Q:R->Sto->Prop}
variable {h:Sto}{Q:R->Sto->Prop}
structure TbOk(T:Tab):Prop where
 ok:T.Ok
 form:∀r∈T.rows,(r.k=zeb/\∃a b,r.m=[a,b])\/(r.k=zaI/\∃a b c,r.m=[a,b,c]/\(c=kany\/c=zbT\/c=zcy))
 whens:∀r∈T.rows,∀r'∈T.rows,r.k=zaI->r'.k=zaI->r.m.take 2=r'.m.take 2->r.m[2]?=some kany->r'.m[2]?=some kany
 names:(T.hands.map (·.1)).Nodup
 nx:∀r∈T.rows,r.k=zeb->r.nx∈T.hands.map (·.1)
def prH(s e:Tx)(r:Row):Bool:=r.k==zeb&&(r.m[0]?==some s&&r.m[1]?==some e)
def prO(s m:Tx)(no:Bool)(r:Row):Bool:=r.k==zaI&&(r.m[0]?==some s&&(r.m[1]?==some m&&(r.m[2]?==some kany||((r.m[2]?==some zbT)==no))))
theorem zeN{α:Type}{p:α->Bool}{xs:List α}{i:Nat}{x:α}(e:xs[i]?=some x)(hn:∀y∈xs.take i,p y=false)(hx:p x=true):xs.find? p=some x:=by
 have hi:=(Z9.mp e).1
 have e1:xs=xs.take i++x::xs.drop (i+1):=by rw[<-(Z9.mp e).2,<-ZG hi,List.take_append_drop]
 rw[e1,List.find?_append]
 have:(xs.take i).find? p=none:=X3.mpr λy hy=>by rw[hn y hy];decide
 rw[this];simp[hx]
theorem zaQ{α:Type}{p:α->Bool}{xs:List α}{i:Nat}{x:α}(e:xs[i]?=some x)(hn:∀y∈xs.take i,p y=false)(hx:p x=false):∀y∈xs.take (i+1),p y=false:=by
 intro y hy;rw[YL,e] at hy
 rcases Zl.mp hy with hy | hy
 ·exact hn y hy
 ·simp at hy;subst hy;exact hx
theorem zij{ls:List Ln}{k:Int}{l:Ln}(h0:0<=k)(el:ls[k.toNat]?=some l):idxD (.tup (ls.map lnD)) (.int k)=some (lnD l):=zck h0 (by rw[ZX,el];rfl)
theorem zkn(n:Nat){T:Tab}{S:Sd}{k:Int}{ev:Tx}{x:Option Int}{l:Ln}(O:TbOk T)(h0:0<=k)(el:S.ls[k.toNat]?=some l)(kq:Q (.d (optR (T.rows.find? (prH l.st ev)))) h):
  Ok (zad P (n+1) 34 [.d (tabD T),.d (sdD S),.d (zaP (.ask k ev x))] h) Q:=by
 have key:∀dd:D,idxD dd (.int 0)=some (.str kask)->idxD dd (.int 1)=some (.int k)->idxD dd (.int 2)=some (.str ev)->Ok (zad P (n+1) 34 [.d (tabD T),.d (sdD S),.d dd] h) Q:=by
  intro dd i0 i1 i2;refine cl rfl rfl rfl ?_;refine st i1 ?_;refine st (zij h0 el) ?_;refine ask ?_;show Ok (loop _ _ ((T.rows.map rowD).map dI) _ _) _;refine zbI (xs:=T.rows.map rowD) (λi σ h'=>h'=h/\(∀y∈T.rows.take i,prH l.st ev y=false)/\∃w:Option R×Option R×Option R,σ=[some (.d (tabD T)),some (.d (sdD S)),some (.d dd),some (.d (.tup (S.ls.map lnD))),some (.d (lnD l)),w.1,w.2.1,w.2.2,none]) ?_ ?_ ⟨rfl,by simp,(none,none,none),rfl⟩
  ·rintro i d σ h' e ⟨rfl,hn,w,rfl⟩
   rw[ZX,ZL] at e;obtain⟨r,er,rfl⟩:=e;have hm:=ZT er;have fm:=O.form r hm;obtain⟨rk,rm,rn,ra⟩:=r
   rcases fm with⟨rfl,a,b,rfl⟩|⟨rfl,a,b,c,rfl,_⟩
   ·refine gb ?_
    refine st i0 ?_;refine br (λc=>?_) (λc=>?_)
    ·have c:(a==l.st)=true:=c
     refine st i2 ?_;refine br (λc2=>?_) (λc2=>?_)
     ·have c2:(b==ev)=true:=c2
      rw[zeN er hn (by simp[prH,Z3 c,Z3 c2])] at kq;exact f0 kq
     ·have c2:(b==ev)=false:=c2
      refine st i0 ?_;refine st i0 ?_;exact⟨rfl,rfl,zaQ er hn (by simp[prH,ne_of_beq_false c2]),(_,_,_),rfl⟩
    ·have c:(a==l.st)=false:=c
     refine st i0 ?_;exact⟨rfl,rfl,zaQ er hn (by simp[prH,ne_of_beq_false c]),(_,_,_),rfl⟩
   ·refine gb ?_
    refine st i0 ?_;refine st i0 ?_;exact⟨rfl,rfl,zaQ er hn (by simp[prH]),(_,_,_),rfl⟩
  ·rintro σ h' ⟨rfl,hn,w,rfl⟩
   rw[Z4,Zm] at hn
   rw[X3.mpr λy hy=>by rw[hn y hy];decide] at kq
   exact f0 kq
 cases x with|none=>exact key _ rfl rfl rfl|some z=>exact key _ rfl rfl rfl
theorem zhX(n:Nat){T:Tab}{S:Sd}{k j:Int}{l:Ln}{lt:Lt}(O:TbOk T)(h0:0<=k)(el:S.ls[k.toNat]?=some l)(j0:0<=j)(ej:l.to[j.toNat]?=some lt)(kq:Q (.d (optR (T.rows.find? (prH l.st lt.1)))) h):
  Ok (zad P (n+1) 34 [.d (tabD T),.d (sdD S),.d (zaP (.take k j))] h) Q:=by
 have ew:idxD (wayD l.to) (.int j)=some (letD lt):=zck j0 (by rw[ZX,ej];rfl)
 refine cl rfl rfl rfl ?_;refine st (zij h0 el) ?_;refine ask ?_;show Ok (loop _ _ ((T.rows.map rowD).map dI) _ _) _;refine zbI (xs:=T.rows.map rowD) (λi σ h'=>h'=h/\(∀y∈T.rows.take i,prH l.st lt.1 y=false)/\∃w:Option R×Option R×Option R,σ=[some (.d (tabD T)),some (.d (sdD S)),some (.d (zaP (.take k j))),some (.d (.tup (S.ls.map lnD))),some (.d (lnD l)),w.1,w.2.1,w.2.2,none]) ?_ ?_ ⟨rfl,by simp,(none,none,none),rfl⟩
 ·rintro i d σ h' e ⟨rfl,hn,w,rfl⟩
  rw[ZX,ZL] at e;obtain⟨r,er,rfl⟩:=e;have hm:=ZT er;have fm:=O.form r hm;obtain⟨rk,rm,rn,ra⟩:=r
  rcases fm with⟨rfl,a,b,rfl⟩|⟨rfl,a,b,c,rfl,_⟩
  ·refine gb ?_
   refine br (λc=>?_) (λc=>?_)
   ·have c:(a==l.st)=true:=c
    refine st ew ?_;refine br (λc2=>?_) (λc2=>?_)
    ·have c2:(b==lt.1)=true:=c2
     rw[zeN er hn (by simp[prH,Z3 c,Z3 c2])] at kq;exact f0 kq
    ·have c2:(b==lt.1)=false:=c2
     exact⟨rfl,rfl,zaQ er hn (by simp[prH,ne_of_beq_false c2]),(_,_,_),rfl⟩
   ·have c:(a==l.st)=false:=c
    exact⟨rfl,rfl,zaQ er hn (by simp[prH,ne_of_beq_false c]),(_,_,_),rfl⟩
  ·refine gb ?_
   exact⟨rfl,rfl,zaQ er hn (by simp[prH]),(_,_,_),rfl⟩
 ·rintro σ h' ⟨rfl,hn,w,rfl⟩
  rw[Z4,Zm] at hn
  rw[X3.mpr λy hy=>by rw[hn y hy];decide] at kq
  exact f0 kq
theorem zhs(n:Nat){T:Tab}{S:Sd}{k j:Int}{l:Ln}{lt:Lt}(O:TbOk T)(hf:∀l∈S.ls,l.fl<=3)(few:S.ls.length<=10)(h0:0<=k)(el:S.ls[k.toNat]?=some l)(j0:0<=j)(ej:l.back[j.toNat]?=some lt)(kq:Q (.d (optR (T.rows.find? (prO S.s lt.1 (oth k.toNat S.ls).isEmpty)))) h):
  Ok (zad P (n+1) 34 [.d (tabD T),.d (sdD S),.d (zaP (.get k j))] h) Q:=by
 have ew:idxD (wayD l.back) (.int j)=some (letD lt):=zck j0 (by rw[ZX,ej];rfl)
 refine cl rfl rfl rfl ?_;refine st (zij h0 el) ?_;refine ask ?_;show Ok (loop _ _ ((T.rows.map rowD).map dI) _ _) _;refine zbI (xs:=T.rows.map rowD) (λi σ h'=>h'=h/\(∀y∈T.rows.take i,prO S.s lt.1 (oth k.toNat S.ls).isEmpty y=false)/\∃w:Option R×Option R×Option R,σ=[some (.d (tabD T)),some (.d (sdD S)),some (.d (zaP (.get k j))),some (.d (.tup (S.ls.map lnD))),some (.d (lnD l)),w.1,w.2.1,w.2.2,none]) ?_ ?_ ⟨rfl,by simp,(none,none,none),rfl⟩
 ·rintro i d σ h' e ⟨rfl,hn,w,rfl⟩
  rw[ZX,ZL] at e;obtain⟨r,er,rfl⟩:=e;have hm:=ZT er;have fm:=O.form r hm;obtain⟨rk,rm,rn,ra⟩:=r
  rcases fm with⟨rfl,a,b,rfl⟩|⟨rfl,a,b,c,rfl,_⟩
  ·refine gb ?_
   exact⟨rfl,rfl,zaQ er hn (by simp[prO]),(_,_,_),rfl⟩
  ·refine gb ?_
   refine br (λc1=>?_) (λc1=>?_)
   ·have c1:(a==S.s)=true:=c1
    refine st ew ?_;refine br (λc2=>?_) (λc2=>?_)
    ·have c2:(b==lt.1)=true:=c2
     refine⟨by rw[Z4];exact OZJ few,?_⟩
     rw[Z4,ZA,zdF,show V3 dI ((nums 0 S.ls).map λp=>D.int p.1)=(nums 0 S.ls).map λp=>dI (D.int p.1) from Zt];refine ask (zaV (d:=λp:Int×Ln=>dI (.int p.1)) (g:=λp=>if hasF 1 p.2&&(p.1 != k) then some (D.int p.1) else none) (λp hp=>?_) rfl ?_)
     ·obtain ⟨p0,p1,p2⟩:=zcc hp
      have e2:=fl1 (hf _ (ZT p2));refine gc ?_;refine br (λc3=>?_) (λc3=>?_)
      ·have c3:(!(p.1==k))=true:=c3
       refine st (zij p0 p2) ?_;refine br (λc4=>?_) (λc4=>?_)
       ·have c4:((p.2.fl:Int)%2==1)=true:=c4
        exact⟨by rw[show hasF 1 p.2=true from by unfold hasF;rw[<-e2];exact c4,show(p.1 != k)=true from c3];rfl,rfl⟩
       ·have c4:((p.2.fl:Int)%2==1)=false:=c4
        exact⟨by rw[show hasF 1 p.2=false from by unfold hasF;rw[<-e2];exact c4];rfl,rfl⟩
      ·have c3:(!(p.1==k))=false:=c3
       exact⟨by rw[show(p.1 != k)=false from c3,YF];rfl,rfl⟩
     have eo:(((nums 0 S.ls).filter λp=>hasF 1 p.2&&(p.1 != k)).map λp=>D.int p.1)=(oth k.toNat S.ls).map λp=>D.int p.1:=by unfold oth zk4;rw[List.filter_filter,Zb h0];simp only[Bool.and_comm]
     rw[zb7,eo];refine br (λc3=>?_) (λc3=>?_)
     ·have c3:(c==kany)=true:=c3
      rw[zeN er hn (by simp[prO,Z3 c1,Z3 c2,Z3 c3])] at kq;exact f0 kq
     ·have c3:(c==kany)=false:=c3
      refine st (zgZ (zfW (by simp[D.dep,D.deps]))) ?_
      have e5:(D.lst ((oth k.toNat S.ls).map λp=>D.int p.1)).eqb (.lst [])=(oth k.toNat S.ls).isEmpty:=by cases oth k.toNat S.ls<;>rfl
      rw[e5];refine br (λc4=>?_) (λc4=>?_)
      ·have c4:((c==zbT)==(oth k.toNat S.ls).isEmpty)=true:=c4
       rw[zeN er hn (by simp only[prO,Z3 c1,Z3 c2];simpa using .inr (by simpa using c4))] at kq
       exact f0 kq
      ·have c4:((c==zbT)==(oth k.toNat S.ls).isEmpty)=false:=c4
       refine⟨rfl,rfl,zaQ er hn ?_,(_,_,_),rfl⟩;simp only[prO,Z3 c1,Z3 c2]
       simpa[ne_of_beq_false c3] using c4
    ·have c2:(b==lt.1)=false:=c2
     exact⟨rfl,rfl,zaQ er hn (by simp[prO,ne_of_beq_false c2]),(_,_,_),rfl⟩
   ·have c1:(a==S.s)=false:=c1
    exact⟨rfl,rfl,zaQ er hn (by simp[prO,ne_of_beq_false c1]),(_,_,_),rfl⟩
 ·rintro σ h' ⟨rfl,hn,w,rfl⟩
  rw[Z4,Zm] at hn
  rw[X3.mpr λy hy=>by rw[hn y hy];decide] at kq
  exact f0 kq
end K21
namespace K21
open IT
variable {Q:R->Sto->Prop}
variable {h:Sto}{Q:R->Sto->Prop}
theorem zbb{α:Type}{p q:α->Bool}:∀{xs:List α},(∀x∈xs,p x=q x)->xs.find? p=xs.find? q| [],_=>rfl|x::xs,e=>by rw[X0,X0,e x (by simp),zbb λy hy=>e y (by simp[hy])]
theorem zqZ{α:Type}{p q:α->Bool}{xs:List α}(no:∀x∈xs,∀y∈xs,p x=true->q y=true->False):xs.find? (λx=>p x||q x)=(xs.find? p).or (xs.find? q):=by
 cases e:xs.find? p with
 | none=>
  have hn:=X3.mp e
  rw [zbb (q:=q) λx hx=>by
   have:=hn x hx
   simp only[Bool.not_eq_true] at this
   rw[this,Ww]]
  rfl
 | some x=>
  have hx:=List.find?_some e;have hm:=YJ e
  rw [zbb (q:=p) λy hy=>by
   cases hq:q y with
   |false=>rw[Bool.or_false]
   |true=>exact(no x hm y hy hx hq).elim,e]
  rfl
theorem zd0{T:Tab}{s e:Tx}(O:TbOk T):T.rows.find? (prH s e)=zbj T s e:=by
 refine zbb λr hr=>?_;have fm:=O.form r hr;obtain⟨rk,rm,rn,ra⟩:=r
 rcases fm with⟨rfl,a,b,rfl⟩|⟨rfl,a,b,c,rfl,_⟩
 ·show (true&&((some a==some s)&&(some b==some e)))=(true&&((a==s)&&((b==e)&&true)))
  rw[Zn,Yv];rfl
 ·rfl
theorem zeq{T:Tab}{s m:Tx}{no:Bool}(O:TbOk T):T.rows.find? (prO s m no)=za6 T s m no:=by
  have e1:zcn T.rows [.str zaI,.str s,.str m,.str kany]=T.rows.find? λr=>r.k==zaI&&(r.m[0]?==some s&&(r.m[1]?==some m&&r.m[2]?==some kany)):=by
    refine(zbb λr hr=>?_).symm;have fm:=O.form r hr;obtain⟨rk,rm,rn,ra⟩:=r
    rcases fm with⟨rfl,a,b,rfl⟩|⟨rfl,a,b,c,rfl,_⟩
    · rfl
    · show (true&&((some a==some s)&&((some b==some m)&&(some c==some kany))))=(true&&((a==s)&&((b==m)&&((c==kany)&&true))))
      rw[Yv (c==kany)];rfl
  have e2:zcn T.rows [.str zaI,.str s,.str m,.str (if no then zbT else zcy)]=T.rows.find? λr=>r.k==zaI&&(r.m[0]?==some s&&(r.m[1]?==some m&&r.m[2]?==some (if no then zbT else zcy))):=by
    refine(zbb λr hr=>?_).symm;have fm:=O.form r hr;obtain⟨rk,rm,rn,ra⟩:=r
    rcases fm with⟨rfl,a,b,rfl⟩|⟨rfl,a,b,c,rfl,_⟩
    · rfl
    · show (true&&((some a==some s)&&((some b==some m)&&(some c==some (if no then zbT else zcy)))))=(true&&((a==s)&&((b==m)&&((c==(if no then zbT else zcy))&&true))))
      rw[Yv (c==_)];rfl
  unfold za6;rw[e1,e2,<-zqZ]
  · refine zbb λr hr=>?_
    have fm:=O.form r hr;obtain⟨rk,rm,rn,ra⟩:=r
    rcases fm with⟨rfl,a,b,rfl⟩|⟨rfl,a,b,c,rfl,hc⟩
    · rfl
    · show (true&&((some a==some s)&&((some b==some m)&&((some c==some kany)||((some c==some zbT)==no)))))=((true&&((some a==some s)&&((some b==some m)&&(some c==some kany))))||(true&&((some a==some s)&&((some b==some m)&&(some c==some (if no then zbT else zcy))))))
      have hw:((some c==some kany)||((some c==some zbT)==no))=((some c==some kany)||(some c==some (if no then zbT else zcy))):=by rcases hc with rfl | rfl | rfl<;>cases no<;>decide
      rw[hw]
      cases (some a==some s)<;>cases (some b==some m)<;>simp
  · intro r hr r' hr' h1 h2
    simp only[Z8,beq_iff_eq] at h1 h2;obtain⟨k1,a1,b1,c1⟩:=h1;obtain⟨k2,a2,b2,c2⟩:=h2
    have tk:∀r:Row,r.m[0]?=some s->r.m[1]?=some m->r.m.take 2=[s,m]:=by
      intro r z1 z2
      cases e:r.m with
      |nil=>rw[e] at z1;cases z1
      | cons x t=>
        cases t with|nil=>rw[e] at z2;cases z2|cons y t=>rw[e] at z1 z2;cases z1;cases z2;rfl
    have:=O.whens r hr r' hr' k1 k2 (by rw[tk r a1 b1,tk r' a2 b2]) c1
    rw[c2] at this
    cases no<;>exact absurd this (by decide)
end K21
namespace K21
open IT
variable {Q:R->Sto->Prop}
variable {h:Sto}{Q:R->Sto->Prop}
structure SdOk(T:Tab)(S:Sd):Prop where
 ways:∀l∈S.ls,l.to.length<=2/\l.back.length<=2
 few:S.ls.length<=10
 fl:∀l∈S.ls,l.fl<=3
 st:∀l∈S.ls,l.st∈T.hands.map (·.1)
def Deed.Fine(d:Deed):Prop:=match d with|.ask _ ev x=>zfm ev=true/\(ev=zaB↔x.isSome=true)|_=>True
theorem zqn{S:Sd}{k:Int}:(k<0\/(S.ls.length:Int)<=k)\/∃l,0<=k/\k<S.ls.length/\S.ls[k.toNat]?=some l:=by
 by_cases c:k<0\/(S.ls.length:Int)<=k
 ·exact .inl c
 ·exact .inr ⟨S.ls[k.toNat]'(by exact OYa c),by omega,by omega,Z6 _⟩
theorem zmg{T:Tab}{S:Sd}{d:Deed}(c:d.k<0\/(S.ls.length:Int)<=d.k):may1 T S d=false:=by
 unfold may1 mayB
 by_cases c0:0<=d.k
 ·rw[if_pos c0,show(hlOf S).ls[d.k.toNat]?=none from Y9 (by show S.ls.length<=_;exact OYq c0 c)]
 ·rw[if_neg c0]
theorem zqh{T:Tab}{S:Sd}{d:Deed}{l:Ln}(c0:0<=d.k)(el:S.ls[d.k.toNat]?=some l):may1 T S d=mayL T (hlOf S) l d:=by unfold may1 mayB;rw[if_pos c0,show(hlOf S).ls[d.k.toNat]?=some l from el]
theorem znc{T:Tab}{s e:Tx}(O:TbOk T):goes (zbj T s e)=true:=by
 cases er:zbj T s e with|none=>rfl|some r=>obtain⟨as,ea⟩:=hand_row O.ok er;show(!zhV r.acts)=true;rw[ea];rfl
theorem zk1(n:Nat){T:Tab}{S:Sd}{d:Deed}(O:TbOk T)(hS:SdOk T S)(hd:d.Fine)(kq:Q (.d (.bl (!may1 T S d))) h):
  Ok (zad P (n+2) 35 [.d (tabD T),.d (sdD S),.d (zaP d)] h) Q:=by
 have key:∀dd:D,idxD dd (.int 1)=some (.int d.k)->dd=zaP d->Ok (zad P (n+2) 35 [.d (tabD T),.d (sdD S),.d dd] h) Q:=by
  intro dd i1 edd;refine cl rfl rfl rfl ?_;refine st i1 ?_
  rcases zqn (S:=S) (k:=d.k) with c|⟨l,c0,c1,el⟩
  ·rw [zmg c] at kq
   by_cases c2:d.k<0
   ·refine br (λ_=>f0 kq) (λc3=>?_)
    have c3:decide (d.k<0)=false:=c3;exact absurd c2 (of_decide_eq_false c3)
   ·refine br (λ_=>f0 kq) (λ_=>?_)
    refine st i1 ?_;refine br (λ_=>f0 kq) (λc3=>?_);have c3:decide (((S.ls.map lnD).length:Nat)<=d.k)=false:=c3
    have:=of_decide_eq_false c3
    rw[Z4] at this;exact OYk c this c2
  ·rw [zqh c0 el] at kq
   refine br (λc3=>?_) (λ_=>?_)
   ·have c3:decide (d.k<0)=true:=c3
    have:=of_decide_eq_true c3
    omega
   refine st i1 ?_;refine br (λc3=>?_) (λ_=>?_)
   ·have c3:decide (((S.ls.map lnD).length:Nat)<=d.k)=true:=c3
    have:=of_decide_eq_true c3
    rw[Z4] at this;omega
   refine st i1 ?_;refine st (zij c0 el) ?_;subst edd
   cases d with
   |ask k ev x=>
    have i0:idxD (zaP (.ask k ev x)) (.int 0)=some (.str kask):=by cases x<;>rfl
    refine st i0 ?_;refine st i0 ?_;refine ask (zkn n O c0 el ?_);rw[zd0 O];refine st i0 ?_;have kq:Q (.d (.bl (!(zfm ev&&(zbj T l.st ev).isSome)))) h:=kq;rw[hd.1,Zn] at kq
    cases er:zbj T l.st ev with|none=>rw[er] at kq;exact f0 kq|some r=>rw[er] at kq;exact f0 kq
   | take k j=>
    have kq:Q (.d (.bl (!(decide (0<=j)&&decide (j<l.to.length)&&goes (zbJ T (hlOf S) l (.take k j)))))) h:=kq
    have hg:goes (zbJ T (hlOf S) l (.take k j))=true:=by
     show goes (match l.to[j.toNat]? with | some lt=>zbj T l.st lt.1 | none=>none)=true
     cases l.to[j.toNat]? with|none=>rfl|some lt=>exact znc O
    rw[hg,Yv] at kq;refine br (λc3=>?_) (λc3=>?_)
    ·have c3:decide (0<=j)=true:=c3
     rw[c3,Zn] at kq;refine f0 ?_;show Q (.d (.bl (!decide (j<((l.to.map letD).length:Nat))))) h;rw[Z4];exact kq
    ·have c3:decide (0<=j)=false:=c3
     rw[c3,Zh] at kq;refine f0 ?_;show Q (.d (.bl (!decide (0<=j)))) h;rw[c3];exact kq
   | get k j=>
    have kq:Q (.d (.bl (!(decide (0<=j)&&decide (j<l.back.length)&&goes (zbJ T (hlOf S) l (.get k j)))))) h:=kq;refine br (λc3=>?_) (λc3=>?_)
    ·have c3:decide (0<=j)=true:=c3
     have j0:=of_decide_eq_true c3;rw[c3,Zn] at kq
     by_cases c4:j<l.back.length
     ·rw [decide_eq_true c4,Zn] at kq
      refine br (λc5=>?_) (λ_=>?_)
      ·have c5:(!decide (j<((l.back.map letD).length:Nat)))=true:=c5
       rw[Z4,decide_eq_true c4] at c5;cases c5
      ·have ej:l.back[j.toNat]?=some (l.back[j.toNat]'(by exact OZU j0 c4)):=Z6 _
       generalize (l.back[j.toNat]'(by exact OZU j0 c4))=lt at ej;refine ask (zhs n O hS.fl hS.few c0 el j0 ej ?_);rw[zeq O];have kq:Q (.d (.bl (!goes (match l.back[j.toNat]? with | some lt=>za6 T S.s lt.1 (oth k.toNat S.ls).isEmpty | none=>none)))) h:=kq;rw[ej] at kq;have kq:Q (.d (.bl (!goes (za6 T S.s lt.1 (oth k.toNat S.ls).isEmpty)))) h:=kq;show wSs _ _ _ _ _;generalize za6 T S.s lt.1 (oth k.toNat S.ls).isEmpty=o at kq
       cases o with|none=>exact f0 kq|some r=>refine st (zdp r) ?_;refine st (zgZ (zfW (show(D.tup [.tup [.str [119,97,105,116]]]).dep<=60 by simp[D.dep,D.deps]))) ?_;rw[zhM];refine f0 ?_;simp only[goes,Wo] at kq;exact kq
     ·rw [decide_eq_false c4,Zh] at kq
      refine br (λc5=>f0 kq) (λc5=>?_);have c5:(!decide (j<((l.back.map letD).length:Nat)))=false:=c5;rw[Z4,decide_eq_false c4] at c5;cases c5
    ·have c3:decide (0<=j)=false:=c3
     rw[c3,Zh] at kq
     exact bt (show(!decide (0<=j))=true by rw[c3];rfl) (f0 kq)
 cases d with|ask k ev x=>cases x<;>exact key _ rfl rfl|take k j=>exact key _ rfl rfl|get k j=>exact key _ rfl rfl
end K21
namespace K21
open IT
variable {Q:R->Sto->Prop}
variable {h:Sto}{Q:R->Sto->Prop}
theorem zit{f:Ite->M (Option D)}{X:Hl}{b:Nat}{g:Ln->D}{Q:List D->Sto->Prop}(H:LwAt h b X)(step:∀i l,X.ls[i]?=some l->Ok (f (Ite.r (.loc (b+i))) h) λo h1=>o=some (g l)/\h1=h)(q:Q (X.ls.map g) h):
  Ok (zaO (some (b+X.ls.length)) f ((zaK b X.ls.length).map λl=>Ite.r (.loc l)) h) Q:=by
 refine zb0 (g:=λl=>Ite.r (.loc l)) (xs:=zaK b X.ls.length) (λi ys h'=>h'=h/\ys=(X.ls.take i).map g) ?_ ?_ ⟨rfl,rfl⟩
 ·rintro i a ys h' ha ⟨rfl,rfl⟩
  have hi:=(Z9.mp ha).1;rw[za1] at hi
  have ea:a=b+i:=by unfold zaK at ha;rw[ZX,Za hi] at ha;cases ha;rfl
  subst ea;have eX:X.ls[i]?=some X.ls[i]:=Z6 hi;generalize X.ls[i]=l at eX;refine(step i l eX).mono λo h1 q_=>?_;obtain⟨eo,eh⟩:=q_;subst eo eh;refine⟨zcv H.ols H.ols,rfl,?_⟩;rw[YL,eX];simp
 ·rintro ys h' ⟨rfl,rfl⟩
  rw[za1,Zm];exact q
theorem zh4:∀zs:List (Tx×Tx),prs (zs.map hnD)=some (zs.map λp=>(p.1,D.str p.2))| []=>rfl|z::zs=>by show(match prs (zs.map hnD) with | some l=>some ((z.1,D.str z.2)::l) | none=>none)=_;rw[zh4 zs];rfl
theorem zj2:∀{zs:List (Tx×Tx)} {s:Tx},s∈zs.map (·.1)->(zs.map λp=>(p.1,D.str p.2)).lookup s=some (.str (rgt zs s))
 | [],s,hs=>by simp at hs
 | z::zs,s,hs=>by
  rw[ZC,Zw];unfold rgt
  by_cases c:z.1=s
  ·rw [Xd (by simpa using c)]
   simp[c]
  ·rw [Xc (by simpa using c),show(s==z.1)=false from beq_eq_false_iff_ne.mpr (Y5 c)]
   rcases ZQ.mp hs with e | e
   ·exact absurd e.symm c
   ·exact zj2 e
theorem zqs{T:Tab}{s:Tx}(nd:(T.hands.map (·.1)).Nodup)(few:T.hands.length<=10)(hs:s∈T.hands.map (·.1)):dixD (.tup (T.hands.map hnD)) (.str s)=some (.str (rgt T.hands s)):=by
 show(match prs (T.hands.map hnD) with | some l=>if fit l.length&&decide (l.map WX).Nodup then l.lookup s else none | none=>none)=_;rw[zh4];dsimp only;rw[if_pos]
 ·exact zj2 hs
 ·rw [Z8,Z4]
  refine⟨decide_eq_true (by unfold big;omega),decide_eq_true ?_⟩
  rw[Zt];exact nd
theorem zkc{α:Type}(p:α->Bool):∀ls:List α,(((ls.filter λl=>!p l).length:Nat):Int)=(ls.length:Int)-(ls.countP p:Nat)
 | []=>rfl
 |x::xs=>by
  have:=zkc p xs
  cases c:p x with|true=>rw[List.filter_cons_of_neg (by simp[c]),List.countP_cons_of_pos (by simp[c]),Zr];push_cast;exact OYF this|false=>rw[List.filter_cons_of_pos (by simp[c]),List.countP_cons_of_neg (by simp[c]),Zr,Zr];push_cast;exact OYE this
theorem zi6(n:Nat){T:Tab}{X:Hl}(O:TbOk T)(hf:T.hands.length<=10)(hs:∀l∈X.ls,l.st∈T.hands.map (·.1))(kq:Q (.d (.bl (clB T X.ls))) (h++lwS h.length X)):
  Ok (zad P (n+1) 39 [.d (tabD T),.loc (h.length+X.ls.length)] (h++lwS h.length X)) Q:=by
 refine cl rfl rfl rfl ?_;refine st zai.ols ?_;refine ask (zit (g:=λl=>D.str (rgt T.hands l.st)) zai (λi l el=>?_) ?_)
 ·refine gc ?_
  refine st (zai.ln i l el) ?_;refine st (zqs O.names hf (hs l (ZT el))) ?_;exact⟨rfl,rfl⟩
 ·have e1:((X.ls.map λl=>D.str (rgt T.hands l.st)).any λy=>y.eqb (.str zaB))=X.ls.any λl=>rgt T.hands l.st==zaB:=by rw[WO];rfl
  refine br (λc=>?_) (λc=>?_)
  ·have c:=e1.symm.trans c
   refine ask (zkO (g:=λd=>if d.eqb (.str zcG) then none else some d) (λd hd=>?_) zee ?_)
   ·obtain ⟨l,hl,rfl⟩:=Y0.mp hd
    refine gc ?_;refine br (λc2=>?_) (λc2=>?_)
    ·have c2:(!(D.str (rgt T.hands l.st)).eqb (.str zcG))=true:=c2
     exact⟨by rw[show(D.str (rgt T.hands l.st)).eqb (.str zcG)=false by simpa using c2];rfl,rfl⟩
    ·have c2:(!(D.str (rgt T.hands l.st)).eqb (.str zcG))=false:=c2
     exact⟨by rw[show(D.str (rgt T.hands l.st)).eqb (.str zcG)=true by simpa using c2];rfl,rfl⟩
   ·have e3:((X.ls.map λl=>D.str (rgt T.hands l.st)).filterMap λd=>if d.eqb (.str zcG) then none else some d).length=(X.ls.filter λl=>!(rgt T.hands l.st==zcG)).length:=by
     generalize X.ls=ls
     induction ls with
     |nil=>rfl
     |cons l ls ih=>
      rw[ZC,YZ]
      cases c2:(rgt T.hands l.st==zcG) with|true=>rw[show(D.str (rgt T.hands l.st)).eqb (.str zcG)=true from c2,if_pos rfl,List.filter_cons_of_neg (by simp[c2])];exact ih|false=>rw[show(D.str (rgt T.hands l.st)).eqb (.str zcG)=false from c2,if_neg (by decide),List.filter_cons_of_pos (by simp[c2])];exact congrArg (·+1) ih
    ac_rfl;rw[e3];refine f0 ?_;unfold clB at kq;rw[c,Zn,<-zkc] at kq;exact kq
  ·have c:=e1.symm.trans c
   refine f0 ?_;unfold clB at kq;rw[c,Zh] at kq;exact kq
end K21
namespace K21
open IT
variable {Q:R->Sto->Prop}
variable {h:Sto}{Q:R->Sto->Prop}
def LOk(T:Tab)(l:Ln):Prop:=(l.to.length<=2/\l.back.length<=2)/\l.fl<=3/\l.st∈T.hands.map (·.1)
def zb2(T:Tab)(ls:List Ln):Prop:=∀l∈ls,LOk T l
theorem zb2.set{T:Tab}{ls:List Ln}{k:Nat}{l:Ln}(h:zb2 T ls)(hl:LOk T l):zb2 T (ls.set k l):=λx hx=>by
 rcases List.mem_or_eq_of_mem_set hx with e | e
 ·exact h x e
 ·rw[e];exact hl
theorem zjI{w:List Lt}{x:Lt}(h:w.length<=2):(post w x).length<=2:=by
 unfold post
 split
 ·exact h
 ·simp;omega
theorem ztR{a:Nat}(h:a<=3):a ||| 2<=3/\a ||| 1<=3:=by
 have:a=0\/a=1\/a=2\/a=3:=by exact OZZ h
 rcases this with rfl | rfl | rfl | rfl<;>decide
theorem zqq{T:Tab}{X:Hl}{k:Nat}{l:Ln}{v:Val}{a:HA}(h:zb2 T X.ls)(el:X.ls[k]?=some l):zb2 T (doHA X k l v a).ls/\(doHA X k l v a).s=X.s:=by
 have hl:=h l (ZT el)
 cases a with
 |keep=>exact⟨h.set hl,rfl⟩|lose=>exact⟨h.set hl,rfl⟩|put=>exact⟨h.set hl,rfl⟩
 |tell=>
  show zb2 T (zdd X k l).ls/\(zdd X k l).s=X.s;unfold zdd
  split
  ·exact⟨h,rfl⟩
  ·split<;>exact⟨h,rfl⟩
 |send m ld=>exact⟨h.set ⟨⟨hl.1.1,zjI hl.1.2⟩,hl.2⟩,rfl⟩
theorem zd5{T:Tab}{X:Hl}{x:Lt}{i:Nat}(h:zb2 T X.ls):zb2 T (zas x X i).ls/\(zas x X i).s=X.s:=by
 unfold zas
 split
 ·rename_i l el
  have hl:=h l (ZT el);exact⟨h.set ⟨⟨zjI hl.1.1,hl.1.2⟩,hl.2⟩,rfl⟩
 ·exact⟨h,rfl⟩
theorem ziO{T:Tab}{x:Lt}:∀(is:List Nat) {X:Hl},zb2 T X.ls->zb2 T (is.foldl (zas x) X).ls/\(is.foldl (zas x) X).s=X.s| [],X,h=>⟨h,rfl⟩|i::is,X,h=>by obtain⟨a,b⟩:=ziO (x:=x) is (zd5 (x:=x) (i:=i) h).1;exact⟨a,b.trans (zd5 h).2⟩
theorem ziD{T:Tab}{X:Hl}{k:Nat}{l:Ln}{v:Val}{a:OA}(h:zb2 T X.ls)(el:X.ls[k]?=some l):zb2 T (doOA X k l v a).ls/\(doOA X k l v a).s=X.s:=by
 have hl:=h l (ZT el)
 cases a with
 |keep=>exact⟨h,rfl⟩|own=>exact⟨h.set ⟨hl.1,(ztR hl.2.1).1,hl.2.2⟩,rfl⟩|share=>exact⟨h.set ⟨hl.1,(ztR hl.2.1).2,hl.2.2⟩,rfl⟩|forget=>exact⟨h.set ⟨hl.1,X9 _,hl.2.2⟩,rfl⟩
 |clear=>
  refine⟨λx hx=>?_,rfl⟩;obtain⟨y,hy,rfl⟩:=Y0.mp hx
  have:=h y hy
  exact⟨this.1,X9 _,this.2.2⟩
 |stay=>exact⟨h,rfl⟩|send w m ld=>exact ziO _ h
theorem zpO{d:D}(h:zay d=true):d=.non:=by cases d<;>first | rfl | cases h
def resH(S:Sd)(Z:Hl):D:=if zay Z.brk then .tup [sdD (sdOf Z),Z.ans,.non] else .tup [sdD S,.non,Z.brk]
theorem zm8{S:Sd}{T:Tab}{Z:Hl}(c:¬zay Z.brk=true):resH S (zat T Z)=.tup [sdD S,.non,Z.brk]:=by
 unfold zat
 rw[if_neg (by intro z;rw[Z8] at z;exact c z.1)]
 exact if_neg c
theorem zrG{S:Sd}{T:Tab}{Z:Hl}(hb:Z.brk=.non):resH S (zat T Z)=if clB T Z.ls then .tup [sdD S,.non,bad zjW] else .tup [sdD (sdOf Z),Z.ans,.non]:=by
 unfold zat;rw[hb]
 cases c:clB T Z.ls with|true=>rfl|false=>show resH S Z=_;unfold resH;rw[hb];rfl
theorem lend(n:Nat){T:Tab}{S:Sd}{Z:Hl}{dd rr:D}{v:Val}{w7 w8 w9 w10 w11:Option R}(O:TbOk T)(hf:T.hands.length<=10)(hZ:zb2 T Z.ls)(hb:Z.brk=.non)(kq:Q (.d (resH S (zat T Z))) h):
  wSs (zad P (n+2)) (zbg.drop 11) [some (.d (tabD T)),some (.d (sdD S)),some (.d dd),some (.d rr),some (.loc (h.length+Z.ls.length)),some (.loc (h.length+Z.ls.length+1)),some (.d (valD v)),w7,w8,w9,w10,w11,some (.d (.str Z.s)),none,none,none,none] (h++lwS h.length Z) (kF h false false Q):=by
 rw[zrG hb] at kq;refine ask (zi6 (n+1) O hf (λl hl=>(hZ l hl).2.2) ?_);refine br (λc=>?_) (λc=>?_)
 ·have c:clB T Z.ls=true:=c
  rw[if_pos c] at kq;exact fa kq
 ·have c:clB T Z.ls=false:=c
  rw[if_neg (by rw[c];decide)] at kq
  refine st zai.ols ?_;refine ask (zit (g:=lnD) zai (λi l el=>?_) ?_)
  ·refine gc ?_
   refine st (zai.ln i l el) ?_;exact⟨rfl,rfl⟩
  ·ac_rfl
   refine st zai.rc ?_;refine st zai.rc ?_;refine st zai.rc ?_;exact fa kq
theorem ztK(n:Nat){X:Hl}{k p:Nat}{l:Ln}{v:Val}{a:HA}(hp:p=h.length+X.ls.length+1)(hb:X.brk=.non)(el:X.ls[k]?=some l)(kq:Q (.d (doHA X k l v a).brk) (h++lwS h.length (doHA X k l v a))):
  Ok (zad P (n+2) 37 [.loc p,.d (.int k),.d (haD a),.d (valD v)] (h++lwS h.length X)) Q:=by
 subst hp;exact zlg n hb el kq
theorem zsA(n:Nat){X:Hl}{k p:Nat}{l:Ln}{v:Val}{a:OA}(hp:p=h.length+X.ls.length+1)(hb:X.brk=.non)(hf:FlOk X)(few:X.ls.length<=10)(el:X.ls[k]?=some l)(kq:Q (.d (doOA X k l v a).brk) (h++lwS h.length (doOA X k l v a))):
  Ok (zad P (n+2) 38 [.loc p,.d (.int k),.d (oaD a),.d (valD v)] (h++lwS h.length X)) Q:=by
 subst hp;exact zlk n hb hf few el kq
theorem zeo(n:Nat){T:Tab}{S:Sd}{X:Hl}{r:Row}{as:List HA}{k:Nat}{v:Val}{dd:D}{w7 w8 w9:Option R}(O:TbOk T)(hf:T.hands.length<=10)(i1:idxD dd (.int 1)=some (.int (k:Int)))(hr:r∈T.rows)(rk:r.k=zeb)(er:r.acts=.hand as)
  (hX:zb2 T X.ls) (hs:X.s=S.s) (hk:k<X.ls.length) (hb:X.brk=.non) (kq:Q (.d (resH S (zat T (toSt (zdu k v as X) k r.nx)))) h):
  wSs (zad P (n+2)) (zbg.drop 8) [some (.d (tabD T)),some (.d (sdD S)),some (.d dd),some (.d (rowD r)),some (.loc (h.length+X.ls.length)),some (.loc (h.length+X.ls.length+1)),some (.d (valD v)),w7,w8,w9,none,none,none,none,none,none,none] (h++lwS h.length X) (kF h false false Q):=by
 have fm:=O.form r hr;have hnx:=O.nx r hr rk;obtain⟨rk',rm,rn,ra⟩:=r;have rk:rk'=zeb:=rk;have er:ra=.hand as:=er;subst rk er
 rcases fm with⟨_,a,b,em⟩|⟨z,_⟩
 ·have em:rm=[a,b]:=em
  subst em;refine ask ?_;show Ok (loop _ _ ((as.map haD).map dI) _ _) _;refine zbI (xs:=as.map haD) (λi σ h'=>∃Y,h'=h++lwS h.length Y/\Y.brk=.non/\Y.ls.length=X.ls.length/\zb2 T Y.ls/\Y.s=S.s/\zdu k v as X=zdu k v (as.drop i) Y/\∃w:Option R×Option R,σ=[some (.d (tabD T)),some (.d (sdD S)),some (.d dd),some (.d (rowD ⟨zeb,[a,b],rn,.hand as⟩)),some (.loc (h.length+X.ls.length)),some (.loc (h.length+X.ls.length+1)),some (.d (valD v)),w7,w8,w9,w.1,w.2,none,none,none,none,none]) ?_ ?_ ⟨X,rfl,hb,rfl,hX,hs,rfl,(none,none),rfl⟩
  ·rintro i a' σ h' ha ⟨Y,rfl,hY,hlY,hAY,hsY,e,w,rfl⟩
   rw[ZX,ZL] at ha;obtain⟨a',ha,rfl⟩:=ha;have hi:=(Z9.mp ha).1
   have hd1:as.drop i=a'::as.drop (i+1):=by rw[ZG hi,(Z9.mp ha).2]
   have el:Y.ls[k]?=some (Y.ls[k]'(by exact OZ9 hk hlY)):=Z6 _;generalize (Y.ls[k]'(by exact OZ9 hk hlY))=l at el;rw[hd1] at e;simp only[zdu,el] at e;refine gb ?_;refine st i1 ?_;refine ask (ztK n (by rw[hlY]) hY el ?_);refine br (λc=>?_) (λc=>?_)
   ·have c:(!zay (doHA Y k l v a').brk)=true:=c
    have c':¬zay (doHA Y k l v a').brk=true:=by intro z;rw[z] at c;cases c
    rw[if_neg c'] at e;rw[e,show toSt (doHA Y k l v a') k rn=doHA Y k l v a' from if_neg c',zm8 c'] at kq;exact fa kq
   ·have c:(!zay (doHA Y k l v a').brk)=false:=c
    have c':zay (doHA Y k l v a').brk=true:=by simpa using c
    rw[if_pos c'] at e;have hA:=zqq (v:=v) (a:=a') hAY el
    exact⟨rfl,_,rfl,zpO c',by rw[zhl];exact hlY,hA.1,hA.2.trans hsY,e,(_,_),rfl⟩
  ·rintro σ h' ⟨Y,rfl,hY,hlY,hAY,hsY,e,w,rfl⟩
   rw[Z4,W7] at e;have e:zdu k v as X=Y:=e;rw[e] at kq;have el:Y.ls[k]?=some (Y.ls[k]'(by exact OZ9 hk hlY)):=Z6 _;generalize (Y.ls[k]'(by exact OZ9 hk hlY))=l at el
   have hkY:k<Y.ls.length:=by exact OZ9 hk hlY
   rw[show toSt Y k rn={Y with ls:=Y.ls.set k {l with st:=rn}} by unfold toSt;rw[hY,el];rfl] at kq
   rw[<-hlY];refine st i1 ?_;refine st zai.ols ?_;refine st (zeF hkY) ?_;refine st (zai.ln k l el) ?_;have t:=lend (h:=h) n (S:=S) (Z:={Y with ls:=Y.ls.set k {l with st:=rn}}) (dd:=dd) (rr:=rowD ⟨zeb,[a,b],rn,.hand as⟩) (v:=v) (w7:=w7) (w8:=w8) (w9:=w9) (w10:=w.1) (w11:=w.2) O hf (hAY.set ⟨(hAY l (ZT el)).1,(hAY l (ZT el)).2.1,hnx⟩) hY kq;rw[<-zb6 hkY] at t;simp only[YU,hsY] at t
   conv at t=>whnf
   exact t
 ·cases z
end K21
namespace K21
open IT
variable {Q:R->Sto->Prop}
variable {h:Sto}{Q:R->Sto->Prop}
theorem zfS(n:Nat){T:Tab}{S:Sd}{X:Hl}{r:Row}{as:List OA}{k:Nat}{v:Val}{dd:D}{w7 w8 w9:Option R}(O:TbOk T)(hf:T.hands.length<=10)(i1:idxD dd (.int 1)=some (.int (k:Int)))(hr:r∈T.rows)(rk:r.k=zaI)(er:r.acts=.house as)
  (hX:zb2 T X.ls) (few:X.ls.length<=10) (hk:k<X.ls.length) (hb:X.brk=.non) (kq:Q (.d (resH S (zat T (toHs (zc6 k v as X) r.nx)))) h):
  wSs (zad P (n+2)) (zbg.drop 8) [some (.d (tabD T)),some (.d (sdD S)),some (.d dd),some (.d (rowD r)),some (.loc (h.length+X.ls.length)),some (.loc (h.length+X.ls.length+1)),some (.d (valD v)),w7,w8,w9,none,none,none,none,none,none,none] (h++lwS h.length X) (kF h false false Q):=by
 have fm:=O.form r hr;obtain⟨rk',rm,rn,ra⟩:=r;have rk:rk'=zaI:=rk;have er:ra=.house as:=er;subst rk er
 rcases fm with⟨z,_⟩|⟨_,a,b,c,em,_⟩
 ·cases z
 ·have em:rm=[a,b,c]:=em
  subst em;refine ask ?_;show Ok (loop _ _ ((as.map oaD).map dI) _ _) _;refine zbI (xs:=as.map oaD) (λi σ h'=>∃Y,h'=h++lwS h.length Y/\Y.brk=.non/\Y.ls.length=X.ls.length/\zb2 T Y.ls/\zc6 k v as X=zc6 k v (as.drop i) Y/\∃w:Option R×Option R,σ=[some (.d (tabD T)),some (.d (sdD S)),some (.d dd),some (.d (rowD ⟨zaI,[a,b,c],rn,.house as⟩)),some (.loc (h.length+X.ls.length)),some (.loc (h.length+X.ls.length+1)),some (.d (valD v)),w7,w8,w9,w.1,w.2,none,none,none,none,none]) ?_ ?_ ⟨X,rfl,hb,rfl,hX,rfl,(none,none),rfl⟩
  ·rintro i a' σ h' ha ⟨Y,rfl,hY,hlY,hAY,e,w,rfl⟩
   rw[ZX,ZL] at ha;obtain⟨a',ha,rfl⟩:=ha;have hi:=(Z9.mp ha).1
   have hd1:as.drop i=a'::as.drop (i+1):=by rw[ZG hi,(Z9.mp ha).2]
   have el:Y.ls[k]?=some (Y.ls[k]'(by exact OZ9 hk hlY)):=Z6 _;generalize (Y.ls[k]'(by exact OZ9 hk hlY))=l at el;rw[hd1] at e;simp only[zc6,el] at e;refine gb ?_;refine st i1 ?_;refine ask (zsA n (by rw[hlY]) hY (λl hl=>(hAY l hl).2.1) (by omega) el ?_);refine br (λc=>?_) (λc=>?_)
   ·have c:(!zay (doOA Y k l v a').brk)=true:=c
    have c':¬zay (doOA Y k l v a').brk=true:=by intro z;rw[z] at c;cases c
    rw[if_neg c'] at e;rw[e,show toHs (doOA Y k l v a') rn=doOA Y k l v a' from if_neg c',zm8 c'] at kq;exact fa kq
   ·have c:(!zay (doOA Y k l v a').brk)=false:=c
    have c':zay (doOA Y k l v a').brk=true:=by simpa using c
    rw[if_pos c'] at e;have hA:=ziD (v:=v) (a:=a') hAY el
    exact⟨rfl,_,rfl,zpO c',by rw[zcM];exact hlY,hA.1,e,(_,_),rfl⟩
  ·rintro σ h' ⟨Y,rfl,hY,hlY,hAY,e,w,rfl⟩
   rw[Z4,W7] at e;have e:zc6 k v as X=Y:=e;rw[e] at kq
   rw[show toHs Y rn={Y with s:=rn} by unfold toHs;rw[hY];rfl] at kq
   have t:=lend (h:=h) n (S:=S) (Z:={Y with s:=rn}) (dd:=dd) (rr:=rowD ⟨zaI,[a,b,c],rn,.house as⟩) (v:=v) (w7:=w7) (w8:=w8) (w9:=w9) (w10:=w.1) (w11:=w.2) O hf hAY hY kq;simp only[hlY] at t
   conv at t=>whnf
   exact t
theorem zrW{f:Ite->M (Option Nat)}{ls:List Ln}{Q:List Nat->Sto->Prop}(step:∀(h1:Sto) (l:Ln),Ok (f (dI (lnD l)) h1) λo h2=>o=some h1.length/\h2=h1++[lnB l])(q:Q (zaK h.length ls.length) (h++ls.map lnB)):
  Ok (zaO none f ((ls.map lnD).map dI) h) Q:=by
 rw[Zt];refine zb0 (g:=dI∘lnD) (λi ys h'=>i<=ls.length/\ys=zaK h.length i/\h'=h++(ls.take i).map lnB) ?_ ?_ ⟨by omega,rfl,by simp⟩
 ·rintro i l ys h' hl ⟨hi,rfl,rfl⟩
  have hi2:i<ls.length:=(Z9.mp hl).1;refine(step _ l).mono λo h2 q_=>?_;obtain⟨eo,eh⟩:=q_;subst eo eh;refine⟨rfl,by omega,?_,?_⟩
  ·have e2:(h++(ls.take i).map lnB).length=h.length+i:=by simp;omega
   rw[e2];unfold zaK;rw[Wi,Zd];rfl
  ·rw [YL,hl]
   simp
 ·rintro ys h' ⟨hi,rfl,rfl⟩
  rw[Zm];exact q
theorem zvt{S:Sd}:(h++S.ls.map lnB++[Ob.ols (zaK h.length S.ls.length)]++[Ob.rcd []]).set (h.length+S.ls.length+1) (.rcd (rcF (hlOf S) (h.length+S.ls.length)))=h++lwS h.length (hlOf S):=by
 rw[Y7 _ _ (by simp;omega),show h.length+S.ls.length+1-(h++S.ls.map lnB++[Ob.ols (zaK h.length S.ls.length)]).length=0 by simp;omega,lwS]
 simp only[Zj];rfl
end K21
namespace K21
open IT
variable {Q:R->Sto->Prop}
variable {h:Sto}{Q:R->Sto->Prop}
theorem SdOk.all{T:Tab}{S:Sd}(h:SdOk T S):zb2 T S.ls:=λl hl=>⟨h.ways l hl,h.fl l hl,h.st l hl⟩
theorem lmid(n:Nat){T:Tab}{S:Sd}{dd:D}{r:Row}{j0:Nat}(few:S.ls.length<=10)
  (kq:wSs (zad P (n+3)) (zbg.drop 4) [some (.d (tabD T)),some (.d (sdD S)),some (.d dd),some (.d (rowD r)),some (.loc (h.length+S.ls.length)),some (.loc (h.length+S.ls.length+1)),none,none,none,none,none,none,none,none,none,none,none] (h++lwS h.length (hlOf S)) (kF h false false Q)):
  wSs (zad P (n+3)) (zbg.drop 2) [some (.d (tabD T)),some (.d (sdD S)),some (.d dd),some (.d (rowD r)),none,none,none,none,none,none,none,none,none,none,none,none,none] h (kF h false false Q):=by
 refine ask (zrW (λh1 l=>?_) ?_)
 ·refine go ?_
  refine st zag ?_;exact⟨rfl,rfl⟩
 ·ac_rfl
  have l1:Yq (h++V3 lnB S.ls)=h.length+S.ls.length:=by simp
  have l2:Yq (h++V3 lnB S.ls++[Ob.ols (zaK h.length S.ls.length)])=h.length+S.ls.length+1:=by simp;omega
  have g1:(h++V3 lnB S.ls++[Ob.ols (zaK h.length S.ls.length)]++[Ob.rcd []])[h.length+S.ls.length+1]?=some (.rcd []):=by rw[<-l2];exact zag
  rw[<-zvt] at kq;rw[l2,l1];refine st g1 ⟨⟨rfl,rfl,by decide,by decide,by decide⟩,?_⟩
  conv at kq=>whnf
  exact kq
end K21
namespace K21
open IT
variable {Q:R->Sto->Prop}
variable {h:Sto}{Q:R->Sto->Prop}
theorem zmT{b n:Nat}{k:Int}(h0:0<=k)(h1:k<n):at' (zaK b n) k=some (b+k.toNat):=za0 h0 h1
theorem zeO{T:Tab}{s e:Tx}{r:Row}(er:zbj T s e=some r):r∈T.rows/\r.k=zeb:=⟨YJ er,zeY er⟩
theorem zmN{T:Tab}{s m:Tx}{no:Bool}{r:Row}(er:za6 T s m no=some r):r∈T.rows/\r.k=zaI:=by
 unfold za6 at er
 rcases Option.or_eq_some_iff.mp er with e|⟨_,e⟩<;>exact⟨YJ e,zeY e⟩
theorem zmz(n:Nat){T:Tab}{S:Sd}{k:Int}{ev:Tx}{x:Option Int}{l:Ln}{r:Row}(O:TbOk T)(hf:T.hands.length<=10)(hS:SdOk T S)(hx:ev=zaB↔x.isSome=true)(h0:0<=k)(el:S.ls[k.toNat]?=some l)(er:zbj T l.st ev=some r)
  (kq:Q (.d (resH S (zat T (zeh (hlOf S) l r (.ask k ev x))))) h):Ok (zad P (n+4) 40 [.d (tabD T),.d (sdD S),.d (zaP (.ask k ev x))] h) Q:=by
 obtain⟨hr,rk⟩:=zeO er;obtain⟨as,ea⟩:=hand_row O.ok er;have hk:k.toNat<S.ls.length:=(Z9.mp el).1
 have h1:k<S.ls.length:=by exact OZV h0 hk
 have kq:Q (.d (resH S (zat T (match r.acts with | .hand as=>zno (hlOf S) k.toNat l ev x as r.nx | _=>hlOf S)))) h:=kq;rw[ea] at kq;have kq:Q (.d (resH S (zat T (zno (hlOf S) k.toNat l ev x as r.nx)))) h:=kq
 have i1:idxD (zaP (.ask k ev x)) (.int 1)=some (.int ((k.toNat:Nat):Int)):=by rw[Zb h0];cases x<;>rfl
 have t4:wSs (zad P (n+3)) (zbg.drop 4) [some (.d (tabD T)),some (.d (sdD S)),some (.d (zaP (.ask k ev x))),some (.d (rowD r)),some (.loc (h.length+S.ls.length)),some (.loc (h.length+S.ls.length+1)),none,none,none,none,none,none,none,none,none,none,none] (h++lwS h.length (hlOf S)) (kF h false false Q):=by
  cases x with
  |none=>
   have hne:¬ev=zaB:=λc=>by simpa using hx.mp c
   refine bf (show(ev==zaB)=false by simpa using hne) ?_;have t:=zeo (h:=h) (n+1) (S:=S) (X:=hlOf S) (v:=none) (w7:=some (.d (.int 4))) (w8:=none) (w9:=none) O hf i1 hr rk ea hS.all rfl hk rfl kq
   conv at t=>whnf
   exact t
  |some z=>
   have he:ev=zaB:=hx.mpr rfl;subst he;refine st zai.ols ?_;refine st (zmT (n:=(hlOf S).ls.length) h0 h1) ?_;refine st ((zai (h:=h) (X:=hlOf S)).ln _ l el) ?_;have es:(h++lwS h.length (hlOf S)).set (h.length+k.toNat) (.lst (lnL {l with want:=z}))=h++lwS h.length ⟨S.s,S.sr,S.la,S.ls.set k.toNat {l with want:=z},.non,.non⟩:=zb6 (X:=hlOf S) hk;have t:=zeo (h:=h) (n+1) (S:=S) (X:=⟨S.s,S.sr,S.la,S.ls.set k.toNat {l with want:=z},.non,.non⟩) (v:=none) (w7:=some (.d (.int 4))) (w8:=none) (w9:=none) O hf i1 hr rk ea (hS.all.set (hS.all l (ZT el))) rfl (by simpa using hk) rfl kq;rw[<-es] at t;simp only[YU] at t
   conv at t=>whnf
   exact t
 refine cl rfl rfl rfl ?_;refine ask (zkn (n+2) O h0 el ?_);rw[zd0 O,er];have t:=lmid n (j0:=0) hS.few t4
 conv at t=>whnf
 exact t
theorem zjj(as:List HA):((as.map haD).any λy=>y.eqb (.tup [.str zeL]))=false:=by
 rw[WO];refine List.any_eq_false.mpr λa _=>?_
 cases a with
 |send m l=>
  have e:((zlM==zeL)&&false)=false:=YF _;show ¬((zlM==zeL)&&false)=true;rw[e]
  decide
 |_=>decide
theorem zl9{w:List Lt}{j:Int}(j0:0<=j)(hw:w.length<=2):bop .add (.tup (cut (w.map letD) none (some j))) (.tup (cut (w.map letD) (some (j+1)) none))=some (wayD (wout w j.toNat)):=by
 have ej:j=((j.toNat:Nat):Int):=(Zb j0).symm;generalize j.toNat=i at ej;subst ej;rw[cutN,show((i:Int)+1)=((i+1:Nat):Int) by simp,zjS,<-Wu,<-List.map_drop]
 have hf:fit (((w.take i).map letD).length+((w.drop (i+1)).map letD).length)=true:=decide_eq_true (by unfold big;simp;exact OYj hw)
 show(if fit (((w.take i).map letD).length+((w.drop (i+1)).map letD).length) then some (D.tup ((w.take i).map letD++(w.drop (i+1)).map letD)) else none)=_;rw[if_pos hf,<-Zd];rfl
theorem zhz{w:List Lt}{j:Nat}(h:w.length<=2):(wout w j).length<=2:=by unfold wout;simp;exact OYi h
theorem zkG(n:Nat){T:Tab}{S:Sd}{k j:Int}{l:Ln}{lt:Lt}{r:Row}(O:TbOk T)(hf:T.hands.length<=10)(hS:SdOk T S)(h0:0<=k)(el:S.ls[k.toNat]?=some l)(j0:0<=j)(ej:l.to[j.toNat]?=some lt)(er:zbj T l.st lt.1=some r)
  (kq:Q (.d (resH S (zat T (zeh (hlOf S) l r (.take k j))))) h):Ok (zad P (n+4) 40 [.d (tabD T),.d (sdD S),.d (zaP (.take k j))] h) Q:=by
 obtain⟨hr,rk⟩:=zeO er;obtain⟨as,ea⟩:=hand_row O.ok er;have hk:k.toNat<S.ls.length:=(Z9.mp el).1
 have h1:k<S.ls.length:=by exact OZV h0 hk
 have hl:=hS.all l (ZT el)
 have ew:idxD (wayD l.to) (.int j)=some (letD lt):=zck j0 (by rw[ZX,ej];rfl)
 have kq:Q (.d (resH S (zat T (match r.acts with | .hand as=>zhQ (hlOf S) k.toNat l j.toNat (match l.to[j.toNat]? with | some lt=>lt.2 | none=>none) as r.nx | _=>hlOf S)))) h:=kq;rw[ea,ej] at kq;have kq:Q (.d (resH S (zat T (zhQ (hlOf S) k.toNat l j.toNat lt.2 as r.nx)))) h:=kq
 have i1:idxD (zaP (.take k j)) (.int 1)=some (.int ((k.toNat:Nat):Int)):=by rw[Zb h0];rfl
 have t4:wSs (zad P (n+3)) (zbg.drop 4) [some (.d (tabD T)),some (.d (sdD S)),some (.d (zaP (.take k j))),some (.d (rowD r)),some (.loc (h.length+S.ls.length)),some (.loc (h.length+S.ls.length+1)),none,none,none,none,none,none,none,none,none,none,none] (h++lwS h.length (hlOf S)) (kF h false false Q):=by
  refine st zai.ols ?_;refine st (zmT (n:=(hlOf S).ls.length) h0 h1) ?_;ac_rfl;refine st ((zai (h:=h) (X:=hlOf S)).ln _ l el) ?_;refine st ew ?_;refine st (zdp r) ?_;rw[ea]
  refine bt (show(!(as.map haD).any λy=>y.eqb (.tup [.str zeL]))=true by rw[zjj];rfl) ?_
  refine st (zl9 j0 hl.1.1) ?_;refine st zai.ols ?_;refine st (zmT (n:=(hlOf S).ls.length) h0 h1) ?_;ac_rfl;refine st ((zai (h:=h) (X:=hlOf S)).ln _ l el) ?_;have es:(h++lwS h.length (hlOf S)).set (h.length+k.toNat) (.lst (lnL {l with to:=wout l.to j.toNat}))=h++lwS h.length ⟨S.s,S.sr,S.la,S.ls.set k.toNat {l with to:=wout l.to j.toNat},.non,.non⟩:=zb6 (X:=hlOf S) hk;have t:=zeo (h:=h) (n+1) (S:=S) (X:=⟨S.s,S.sr,S.la,S.ls.set k.toNat {l with to:=wout l.to j.toNat},.non,.non⟩) (v:=lt.2) (w7:=some (.d (.int 3))) (w8:=some (.d (wayD l.to))) (w9:=some (.d (wayD (wout l.to j.toNat)))) O hf i1 hr rk ea (hS.all.set ⟨⟨zhz hl.1.1,hl.1.2⟩,hl.2⟩) rfl (by simpa using hk) rfl kq;rw[<-es] at t;simp only[YU] at t
  conv at t=>whnf
  exact t
 refine cl rfl rfl rfl ?_;refine ask (zhX (n+2) O h0 el j0 ej ?_);rw[zd0 O,er];have t:=lmid n (j0:=0) hS.few t4
 conv at t=>whnf
 exact t
theorem zmQ(n:Nat){T:Tab}{S:Sd}{k j:Int}{l:Ln}{lt:Lt}{r:Row}(O:TbOk T)(hf:T.hands.length<=10)(hS:SdOk T S)(h0:0<=k)(el:S.ls[k.toNat]?=some l)(j0:0<=j)(ej:l.back[j.toNat]?=some lt)(er:za6 T S.s lt.1 (oth k.toNat S.ls).isEmpty=some r)(hg:goes (some r)=true)
  (kq:Q (.d (resH S (zat T (zeh (hlOf S) l r (.get k j))))) h):Ok (zad P (n+4) 40 [.d (tabD T),.d (sdD S),.d (zaP (.get k j))] h) Q:=by
 obtain⟨hr,rk⟩:=zmN er;obtain⟨as,ea⟩:=house_row O.ok er hg;have hk:k.toNat<S.ls.length:=(Z9.mp el).1
 have h1:k<S.ls.length:=by exact OZV h0 hk
 have hl:=hS.all l (ZT el)
 have ew:idxD (wayD l.back) (.int j)=some (letD lt):=zck j0 (by rw[ZX,ej];rfl)
 have kq:Q (.d (resH S (zat T (match r.acts with | .house as=>zpo (hlOf S) k.toNat l j.toNat (match l.back[j.toNat]? with | some lt=>lt.2 | none=>none) as r.nx | _=>hlOf S)))) h:=kq;rw[ea,ej] at kq;have kq:Q (.d (resH S (zat T (toHs (zc6 k.toNat lt.2 as (gotX (hlOf S) k.toNat l j.toNat as)) r.nx)))) h:=kq
 have i1:idxD (zaP (.get k j)) (.int 1)=some (.int ((k.toNat:Nat):Int)):=by rw[Zb h0];rfl
 have t4:wSs (zad P (n+3)) (zbg.drop 4) [some (.d (tabD T)),some (.d (sdD S)),some (.d (zaP (.get k j))),some (.d (rowD r)),some (.loc (h.length+S.ls.length)),some (.loc (h.length+S.ls.length+1)),none,none,none,none,none,none,none,none,none,none,none] (h++lwS h.length (hlOf S)) (kF h false false Q):=by
  refine st zai.ols ?_;refine st (zmT (n:=(hlOf S).ls.length) h0 h1) ?_;ac_rfl;refine st ((zai (h:=h) (X:=hlOf S)).ln _ l el) ?_;refine st ew ?_;refine st (zdp r) ?_;rw[ea];have es0:=zjL as;unfold gotX at kq
  cases c:zgp as with
  |true=>
   rw[c] at es0;rw[if_pos c] at kq
   refine bf (show(!(as.map oaD).any λy=>y.eqb (.tup [.str zeL]))=false by rw[es0];rfl) ?_
   have t:=zfS (h:=h) (n+1) (S:=S) (X:=hlOf S) (v:=lt.2) (w7:=some (.d (.int 4))) (w8:=some (.d (wayD l.back))) (w9:=none) O hf i1 hr rk ea hS.all hS.few hk rfl kq
   conv at t=>whnf
   exact t
  |false=>
   rw[c] at es0
   rw[if_neg (by rw[c];decide)] at kq
   refine bt (show(!(as.map oaD).any λy=>y.eqb (.tup [.str zeL]))=true by rw[es0];rfl) ?_
   refine st (zl9 j0 hl.1.2) ?_;refine st zai.ols ?_;refine st (zmT (n:=(hlOf S).ls.length) h0 h1) ?_;ac_rfl;refine st ((zai (h:=h) (X:=hlOf S)).ln _ l el) ?_;have es:(h++lwS h.length (hlOf S)).set (h.length+k.toNat) (.lst (lnL {l with back:=wout l.back j.toNat}))=h++lwS h.length ⟨S.s,S.sr,S.la,S.ls.set k.toNat {l with back:=wout l.back j.toNat},.non,.non⟩:=zb6 (X:=hlOf S) hk;have t:=zfS (h:=h) (n+1) (S:=S) (X:=⟨S.s,S.sr,S.la,S.ls.set k.toNat {l with back:=wout l.back j.toNat},.non,.non⟩) (v:=lt.2) (w7:=some (.d (.int 4))) (w8:=some (.d (wayD l.back))) (w9:=some (.d (wayD (wout l.back j.toNat)))) O hf i1 hr rk ea (hS.all.set ⟨⟨hl.1.1,zhz hl.1.2⟩,hl.2⟩) (by simpa using hS.few) (by simpa using hk) rfl kq;rw[<-es] at t;simp only[YU] at t
   conv at t=>whnf
   exact t
 refine cl rfl rfl rfl ?_;refine ask (zhs (n+2) O hS.fl hS.few h0 el j0 ej ?_);rw[zeq O,er];have t:=lmid n (j0:=0) hS.few t4
 conv at t=>whnf
 exact t
end K21
namespace K21
open IT
variable {Q:R->Sto->Prop}
variable {h:Sto}{Q:R->Sto->Prop}
theorem zn4{T:Tab}{S:Sd}{d:Deed}{l:Ln}(el:S.ls[d.k.toNat]?=some l):zfR T S d=match zbJ T (hlOf S) l d with
  |none=>.tup [sdD S,.non,bad zeB]
  |some r=>resH S (zat T (zeh (hlOf S) l r d)):=by
 show resH S (match (hlOf S).ls[d.k.toNat]? with | none=>hlOf S | some l=>match zbJ T (hlOf S) l d with | none=>{hlOf S with brk:=bad zeB} | some r=>zat T (zeh (hlOf S) l r d))=_;rw[show(hlOf S).ls[d.k.toNat]?=some l from el];dsimp only
 cases zbJ T (hlOf S) l d<;>rfl
theorem zlf(n:Nat){T:Tab}{S:Sd}{d:Deed}(O:TbOk T)(hf:T.hands.length<=10)(hS:SdOk T S)(hd:d.Fine)(hm:may1 T S d=true)(kq:Q (.d (zfR T S d)) h):
  Ok (zad P (n+4) 40 [.d (tabD T),.d (sdD S),.d (zaP d)] h) Q:=by
 rcases zqn (S:=S) (k:=d.k) with c|⟨l,c0,c1,el⟩
 ·rw[zmg c] at hm;cases hm
 rw[zqh c0 el] at hm;rw[zn4 el] at kq
 cases d with
 |ask k ev x=>have hm:(zfm ev&&(zbj T l.st ev).isSome)=true:=hm;rw[Z8] at hm;obtain⟨r,er⟩:=Yo.mp hm.2;have kq:Q (.d (match zbj T l.st ev with | none=>.tup [sdD S,.non,bad zeB] | some r=>resH S (zat T (zeh (hlOf S) l r (.ask k ev x))))) h:=kq;rw[er] at kq;exact zmz n O hf hS hd.2 c0 el er kq
 | take k j=>
  have hm:(decide (0<=j)&&decide (j<l.to.length)&&goes (zbJ T (hlOf S) l (.take k j)))=true:=hm;simp only[Z8,decide_eq_true_eq] at hm;have ej:l.to[j.toNat]?=some (l.to[j.toNat]'(by exact OZS hm)):=Z6 _;generalize (l.to[j.toNat]'(by exact OZS hm))=lt at ej
  have er0:zbJ T (hlOf S) l (.take k j)=zbj T l.st lt.1:=by show(match l.to[j.toNat]? with | some lt=>zbj T l.st lt.1 | none=>none)=_;rw[ej]
  rw[er0] at kq
  cases er:zbj T l.st lt.1 with|none=>rw[er] at kq;refine cl rfl rfl rfl ?_;refine ask (zhX (n+2) O c0 el hm.1.1 ej ?_);rw[zd0 O,er];exact f0 kq|some r=>rw[er] at kq;exact zkG n O hf hS c0 el hm.1.1 ej er kq
 | get k j=>
  have hm:(decide (0<=j)&&decide (j<l.back.length)&&goes (zbJ T (hlOf S) l (.get k j)))=true:=hm;simp only[Z8,decide_eq_true_eq] at hm;have ej:l.back[j.toNat]?=some (l.back[j.toNat]'(by exact OZS hm)):=Z6 _;generalize (l.back[j.toNat]'(by exact OZS hm))=lt at ej
  have er0:zbJ T (hlOf S) l (.get k j)=za6 T S.s lt.1 (oth k.toNat S.ls).isEmpty:=by show(match l.back[j.toNat]? with | some lt=>za6 T S.s lt.1 (oth k.toNat S.ls).isEmpty | none=>none)=_;rw[ej]
  rw[er0] at kq hm
  cases er:za6 T S.s lt.1 (oth k.toNat S.ls).isEmpty with|none=>rw[er] at kq;refine cl rfl rfl rfl ?_;refine ask (zhs (n+2) O hS.fl hS.few c0 el hm.1.1 ej ?_);rw[zeq O,er];exact f0 kq|some r=>rw[er] at kq hm;exact zmQ n O hf hS c0 el hm.1.1 ej er hm.2 kq
theorem zqK{d:Deed}(h:d.Fine):d.Ok:=by
 cases d with|ask k ev x=>exact h.2|_=>trivial
theorem zlp(n:Nat){T:Tab}{S:Sd}{d:Deed}(O:TbOk T)(hS:SdOk T S)(hd:d.Fine)(hm:may1 T S d=true)(kq:Q (.d (zfR T S d)) h):Ok (zad P (n+10) 41 [.d (tabD T),.d (sdD S),.d (zaP d)] h) Q:=by refine cl rfl rfl rfl ?_;refine .inl ?_;refine ask (znA n O.ok ⟨hS.ways,hS.few⟩ (zqK hd) hm ?_);exact f0 kq
theorem znH(n:Nat){T:Tab}{S:Sd}{d:Deed}(hm:may1 T S d=false)(kq:Q (.d (.tup [.bl true,.bl false,.bl true])) h):Ok (zad P (n+10) 41 [.d (tabD T),.d (sdD S),.d (zaP d)] h) Q:=by have hx:=zs6 n (h:=h) (Q:=λr h'=>r=.d (.int 0)/\h'=h) hm ⟨rfl,rfl⟩;obtain⟨r,h',e,rfl,rfl⟩:=hx;refine cl rfl rfl rfl ?_;refine .inr ⟨zoE zsM (by decide) e,ask ⟨_,_,e,rfl,?_⟩⟩;exact f0 kq
theorem zsx{xs:List D}{i:Int}(h0:0<=i)(h1:i<xs.length):∃x,xs[i.toNat]?=some x/\idxD (.lst xs) (.int i)=some x:=by
 have h2:i.toNat<xs.length:=by exact OZU h0 h1
 refine⟨xs[i.toNat],Z6 h2,?_⟩;show at' xs i=_;unfold at' ixn;simp only[if_pos h0,if_pos h1];exact Z6 h2
theorem zaA{α:Type}{f:α->D}{xs:List α}{i:Int}(h0:0<=i)(h1:i<xs.length):∃a,a∈xs/\idxD (.lst (xs.map f)) (.int i)=some (f a):=by obtain⟨x,e1,e2⟩:=zsx (xs:=xs.map f) h0 (by simpa using h1);rw[ZX,ZL] at e1;obtain⟨a,ea,rfl⟩:=e1;exact⟨a,ZT ea,e2⟩
theorem zaZ(n:Nat){cs:List Int}{k:Nat}(kq:∀v,Q (.d (.int v)) h):Ok (zad P (n+1) 24 [.d (.lst (cs.map D.int)),.d (.int k)] h) Q:=by
 refine cl rfl rfl rfl ?_;ac_rfl;rw[Z4];refine br (λc=>?_) (λc=>?_)
 ·have c:(k:Int)<(cs.length:Int):=of_decide_eq_true c
  obtain⟨a,_,e⟩:=zaA (f:=D.int) (xs:=cs) (i:=k) (by omega) c;refine st e ?_;exact f0 (kq a)
 ·exact f0 (kq 0)
theorem zoG{a b:Int}(h1:-(2^64)<b)(h2:b<2^64):bop .mul (.int a) (.int b)=some (.int (a*b)):=zlD (by rw[zjH h1 h2,Bool.or_true])
theorem zuB{a b:Int}{t:Bool}:idxD (.lst [.int a,.int b]) (.int (if t then 1 else 0))=some (.int (if t then b else a)):=by cases t<;>rfl
theorem zcb(m:Nat):zcq 0 m=(YO m).map λi:Nat=>D.int (i:Int):=by
 have gen:∀(m i:Nat),zcq (i:Int) m=(List.range' i m).map λj:Nat=>D.int (j:Int):=by
  intro m
  induction m with
  |zero=>intro i;rfl
  |succ m ih=>
   intro i
   have:=ih (i+1)
   push_cast at this
   rw[zcq,this,List.range'_succ,ZC]
 rw[List.range_eq_range'];exact gen m 0
def Dig(z:Int)(ds:List Int):Prop:=∀d∈ds,0<=d/\d<z
theorem zdw(n:Nat){c z:Int}{m:Nat}{h:Sto}(z0:0<z)(z1:z<=5000)(hm:m<=100)(kq:∀ds:List Int,ds.length=m->Dig z ds->Q (.d (.lst (ds.map D.int))) h):Ok (zad P (n+1) 25 [.d (.int c),.d (.int z),.d (.int m)] h) Q:=by
 refine cl rfl rfl rfl ?_;refine st (zoG (by decide) (by decide)) ?_;refine⟨⟨by omega,by omega⟩,?_⟩;rw[ZA,zcb,Zt];refine ask ?_;refine zce (g:=dI∘λi:Nat=>D.int (i:Int)) (xs:=YO m) (λi σ h'=>i<=m/\∃ds mx rs,h'=h++[.lst (ds.map D.int)]/\ds.length=i/\Dig z ds/\0<=mx/\mx<2147483647/\∃v,σ=[some (.d (.int c)),some (.d (.int z)),some (.d (.int m)),some (.loc h.length),some (.d (.int mx)),some (.d (.int rs)),v]) ?_ ?_ ⟨by omega,[],_,_,rfl,rfl,by simp[Dig],XZ _ (by decide),X2 _ (by decide),none,rfl⟩
 ·rintro i k σ h' hk ⟨hi,ds,mx,rs,rfl,hl,hd,m0,m1,v,rfl⟩
  have hi2:=(Z9.mp hk).1
  have hi2:i<m:=by simpa using hi2
  obtain rfl:k=i:=by rw[Za hi2] at hk;cases hk;rfl
  have hq:0<=mx / 1009/\mx / 1009<=2147483647:=⟨Wg m0 (by decide),by omega⟩;refine gb ?_;refine st (zoG (by exact OYA hq) (by exact OYz hq)) ?_;refine st zag ?_;have hx:∀y:Int,0<=y%z/\y%z<z:=λy=>⟨XZ _ (by omega),X2 _ z0⟩
  have hD:∀x:Int,0<=x/\x<z->Dig z (ds++[x]):=λx hx d hd'=>by
   rcases Zl.mp hd' with z | z
   ·exact hd d z
   ·rw[Y2.mp z];exact hx
  refine st (zhi z0) ?_;refine st (zhi z0) ?_;refine br (λc1=>?_) (λc1=>?_)
  ·refine st zuB ?_
   refine st zag ⟨by simp[big];exact OY4 hl hi2 hm,?_⟩
   rw[zau];refine st (zjX z0 (by exact OY3 z0 z1)) ?_
   refine⟨rfl,by omega,ds++[_],_,_,by rw[Zd];rfl,by simp;omega,hD _ ?_,XZ _ (by decide),X2 _ (by decide),_,rfl⟩
   split
   ·exact hx _
   ·exact hx _
  ·refine st zag ⟨by simp[big];exact OY4 hl hi2 hm,?_⟩
   rw[zau];refine st (zjX z0 (by exact OY3 z0 z1)) ?_
   refine⟨rfl,by omega,ds++[_],_,_,by rw[Zd];rfl,by simp;omega,hD _ (hx _),XZ _ (by decide),X2 _ (by decide),_,rfl⟩
 ·rintro σ h' ⟨hi,ds,mx,rs,rfl,hl,hd,m0,m1,v,rfl⟩
  rw[Xe] at hl;exact zqB (kq ds hl hd)
end K21
namespace K21
open IT
variable {Q:R->Sto->Prop}
variable {h:Sto}{Q:R->Sto->Prop}
structure WdOk(ss:List Tx)(m n:Tx):Prop where
 three:∃a b c,ss=[a,b,c]
 nd:ss.Nodup
 ne:m≠n
theorem zal(c:Int){m:Int}(h:0<m):0<=c%m/\c%m<m:=⟨XZ _ (by exact OZI h),X2 _ h⟩
def zts:List (List Tx):=[[[97],[98],[99]],[zgc,zaB,zoa],[zdz,zoP,[97]]]
def zt5:List (Tx×Tx):=[([109],[110]),(zeL,zdz),(kput,zsZ),(zoP,kown)]
theorem zkP(n:Nat){c:Int}(kq:∀ss m k,WdOk ss m k->Q (.d (.tup [.lst (ss.map D.str),.tup [.str m,.str k]])) h):Ok (zad P (n+1) 26 [.d (.int c)] h) Q:=by
 obtain⟨ss,hs,e1⟩:=zaA (f:=λs:List Tx=>D.lst (s.map D.str)) (xs:=zts) (i:=c%3) (zal c (by decide)).1 (zal c (by decide)).2;obtain⟨kk,hk,e2⟩:=zaA (f:=λp:Tx×Tx=>D.tup [.str p.1,.str p.2]) (xs:=zt5) (i:=c / 3%4) (zal _ (by decide)).1 (zal _ (by decide)).2;refine cl rfl rfl rfl ?_;refine st e1 ?_;refine st e2 ?_;refine f0 (kq ss kk.1 kk.2 ?_)
 have a1:(∃a b c,ss=[a,b,c])/\ss.Nodup:=by
  simp only[zts,ZQ,Zq,or_false] at hs
  rcases hs with rfl | rfl | rfl<;>exact⟨⟨_,_,_,rfl⟩,by decide⟩
 have a2:kk.1≠kk.2:=by
  simp only[zt5,ZQ,Zq,or_false] at hk
  rcases hk with rfl | rfl | rfl | rfl<;>decide
 exact⟨a1.1,a1.2,a2⟩
def zuO(m n:Tx):List (List HA):=[[],[.tell],[.put],[.send m zn1],[.send n zaW,.lose],[.lose,.send m zaW],[.put,.send n zaW],[.tell,.lose]]
def zuS(m n:Tx):List (List HA):=[[],[.keep],[.keep,.tell],[.keep,.put],[.put,.keep],[.keep,.send n zaW],[.lose,.send m zaW],[.keep,.tell,.send n zn1,.send m zaW]]
def zuT(m n:Tx):List (List OA):=[[.keep],[.own,.send 0 m zaW],[.share,.send 0 n zaW],[.forget],[.send 2 n zn1,.stay],[.send 1 m zaW,.keep,.send 1 n zaW],[.keep,.clear,.send 2 m zaW,.send 0 n zaW],[.send 0 m zn1,.send 2 n zaW,.own,.share]]
theorem zk6(n:Nat){d:Int}{ev m k:Tx}(kq:∀as,Q (.d (zeM (.hand as))) h):Ok (zad P (n+1) 27 [.d (.int d),.d (.str ev),.d (.tup [.str m,.str k])] h) Q:=by
 obtain⟨a1,_,e1⟩:=zaA (f:=λas:List HA=>zeM (.hand as)) (xs:=zuO m k) (i:=d%8) (zal d (by decide)).1 (zal d (by decide)).2;obtain⟨a2,_,e2⟩:=zaA (f:=λas:List HA=>zeM (.hand as)) (xs:=zuS m k) (i:=d%8) (zal d (by decide)).1 (zal d (by decide)).2;refine cl rfl rfl rfl ?_;refine st zag ?_;ac_rfl;refine br (λc=>?_) (λc=>?_)
 ·ac_rfl
  refine st zag ?_;refine st zag ?_;ac_rfl;refine st zag ⟨(by decide:7<big),?_⟩;rw[zau];refine st zag ?_;refine st e2 ?_;simp only[Zj];exact fa (kq a2)
 ·ac_rfl
  refine st zag ?_;refine st e1 ?_;simp only[Zj];exact fa (kq a1)
theorem zk9(n:Nat){d:Int}{m k:Tx}(kq:∀as,Q (.d (zeM (.house as))) h):Ok (zad P (n+1) 28 [.d (.int d),.d (.tup [.str m,.str k])] h) Q:=by obtain⟨a1,_,e1⟩:=zaA (f:=λas:List OA=>zeM (.house as)) (xs:=zuT m k) (i:=d%8) (zal d (by decide)).1 (zal d (by decide)).2;refine cl rfl rfl rfl ?_;refine st zag ?_;ac_rfl;refine st zag ⟨(by decide:4<big),?_⟩;rw[zau];refine st zag ?_;ac_rfl;refine st zag ⟨(by decide:5<big),?_⟩;rw[zau];refine st zag ?_;refine st zag ⟨(by decide:6<big),?_⟩;rw[zau];refine st zag ?_;refine st zag ⟨(by decide:7<big),?_⟩;rw[zau];refine st zag ?_;refine st e1 ?_;exact fa (kq a1)
theorem zcP(n:Nat){d:Int}{la:Int×Int}(h1:0<la.1)(kq:∀v,Q (.d (valD v)) h):Ok (zad P (n+1) 30 [.d (.int d),.d (prD la)] h) Q:=by refine cl rfl rfl rfl ?_;refine br (λ_=>f0 (kq none)) (λ_=>?_);refine br (λ_=>f0 (kq (some la))) (λ_=>?_);refine st (zhi h1) ?_;ac_rfl;exact f0 (kq (some (_,_)))
theorem znG{α:Type}{xs:List α}{i:Int}(h0:0<=i):cut xs none (some i)=xs.take i.toNat:=by have e:i=((i.toNat:Nat):Int):=(Zb h0).symm;generalize i.toNat=j at e;subst e;rw[cutN]
theorem zh3(n:Nat){d:Int}{la:Int×Int}{m k:Tx}(h1:0<la.1)(kq:∀w:List Lt,w.length<=2->Q (.d (wayD w)) h):Ok (zad P (n+2) 31 [.d (.int d),.d (prD la),.d (.tup [.str m,.str k])] h) Q:=by
 have fin:∀(a b:Lt),(cut [letD a,letD b] none (some (d%3)))=(([a,b]:List Lt).take (d%3).toNat).map letD:=λa b=>by rw[znG (zal d (by decide)).1,Wu];rfl
 refine cl rfl rfl rfl ?_;refine ask (zcP n h1 λv0=>?_);refine ask (zcP n h1 λv1=>?_);ac_rfl;refine br (λ_=>?_) (λ_=>?_)
 ·refine f0 ?_
  show Q (.d (.tup (cut [letD (k,v1),letD (m,v0)] none (some (d%3))))) h;rw[fin]
  exact kq _ (by simp;exact OY2)
 ·refine f0 ?_
  show Q (.d (.tup (cut [letD (m,v0),letD (k,v1)] none (some (d%3))))) h;rw[fin]
  exact kq _ (by simp;exact OY2)
theorem zbs{z:Int}{ds:List Int}{i:Nat}(hd:Dig z ds)(hi:i<ds.length):∃x,0<=x/\x<z/\idxD (.lst (ds.map D.int)) (.int (i:Int))=some (.int x):=by obtain⟨a,ha,e⟩:=zaA (f:=D.int) (xs:=ds) (i:=(i:Int)) (by omega) (by exact OZ7 hi);exact⟨a,(hd a ha).1,(hd a ha).2,e⟩
theorem zlU(n:Nat){c:Int}{la:Int×Int}{ss:List Tx}{m k:Tx}(h1:0<la.1)(W:WdOk ss m k)(kq:∀l:Ln,(l.to.length<=2/\l.back.length<=2)->l.fl<=3->l.st∈ss->Q (.d (lnD l)) h):
  Ok (zad P (n+3) 32 [.d (.int c),.d (prD la),.d (.lst (ss.map D.str)),.d (.tup [.str m,.str k])] h) Q:=by
 refine cl rfl rfl rfl ?_;refine ask (zdw (n+1) (z:=1024) (m:=6) (by decide) (by decide) (by decide) λds hl hd=>?_);obtain⟨d0,a0,b0,e0⟩:=zbs (i:=0) hd (by omega);obtain⟨d1,a1,b1,e1⟩:=zbs (i:=1) hd (by omega);obtain⟨d2,a2,b2,e2⟩:=zbs (i:=2) hd (by omega);obtain⟨d3,a3,b3,e3⟩:=zbs (i:=3) hd (by omega);obtain⟨d4,a4,b4,e4⟩:=zbs (i:=4) hd (by omega);obtain⟨sa,sb,sc,es⟩:=W.three
 obtain⟨st0,hs,e5⟩:=zaA (f:=D.str) (xs:=ss) (i:=d0%3) (zal d0 (by decide)).1 (by rw[es];exact(zal d0 (by decide)).2)
 refine st e2 ?_;refine ask (zh3 n h1 λw2 hw2=>?_);ac_rfl;refine st e3 ?_;refine ask (zh3 n h1 λw3 hw3=>?_);refine st e4 ?_;ac_rfl;refine st e0 ?_;refine st e5 ?_;refine st e1 ?_;refine ask (zcP (n+1) h1 λv=>?_);refine f0 ?_;have hm:=zal d4 (m:=4) (by decide)
 have kq2:∀w:Int,Q (.d (.tup [.str st0,valD v,.int w,wayD w2,wayD w3,.int (d4%4)])) h:=λw=>by
  have:=kq ⟨st0,v,w,w2,w3,(d4%4).toNat⟩ ⟨hw2,hw3⟩ (by show(d4%4).toNat<=3;exact OYH hm) hs
  unfold lnD at this;dsimp only at this;rw[Zb hm.1] at this;exact this
 exact kq2 _
theorem zkD(n:Nat){c:Int}{mny:Nat}(hm:1<=mny/\mny<=10)(kq:∀d:Deed,d.Fine->Q (.d (zaP d)) h):Ok (zad P (n+2) 33 [.d (.int c),.d (.int mny)] h) Q:=by
 refine cl rfl rfl rfl ?_;refine ask (zdw n (z:=16) (m:=4) (by decide) (by decide) (by decide) λds hl hd=>?_);obtain⟨d0,a0,b0,e0⟩:=zbs (i:=0) hd (by omega);obtain⟨d1,a1,b1,e1⟩:=zbs (i:=1) hd (by omega);obtain⟨d2,a2,b2,e2⟩:=zbs (i:=2) hd (by omega);obtain⟨d3,a3,b3,e3⟩:=zbs (i:=3) hd (by omega);refine st e0 ?_;refine st e3 ?_;ac_rfl;obtain⟨wd,hw,e4⟩:=zaA (f:=D.str) (xs:=[zgc,zaB,zoa]) (i:=d2%3) (zal d2 (by decide)).1 (zal d2 (by decide)).2
 have ask:zfm wd=true:=by
  simp only[ZQ,Zq,or_false] at hw
  rcases hw with rfl | rfl | rfl<;>decide
 refine st (zhi (by split<;>omega)) ?_
 refine st e3 ?_;ac_rfl;refine st (zoG (by omega) (by omega)) ?_;refine st e2 ?_;refine st e4 ?_;refine st e1 ?_;refine br (λc1=>?_) (λc1=>?_)
 ·have c1:(d1%4==0)=true:=c1
  refine br (λc2=>?_) (λc2=>?_)
  ·have c2:(wd==zaB)=true:=c2
   have e5:=Z3 c2;subst e5;refine f0 ?_;exact kq (.ask _ zaB (some _)) ⟨rfl,by simp⟩
  ·have c2:(wd==zaB)=false:=c2
   refine st e1 ?_;refine bt c1 ?_;refine f0 ?_;exact kq (.ask _ wd none) ⟨ask,by simpa using ne_of_beq_false c2⟩
 ·have c1:(d1%4==0)=false:=c1
  refine st e1 ?_;refine bf c1 ?_;refine st e2 ?_;ac_rfl;refine st e2 ?_;ac_rfl;refine st e3 ?_;ac_rfl
  refine st (zoG (by split<;>decide) (by split<;>decide)) ?_
  refine st e3 ?_;refine st e1 ?_;have h4:=zal d1 (m:=4) (by decide);have h5:d1%4≠0:=ne_of_beq_false c1
  obtain⟨w2,hw2,e6⟩:=zaA (f:=D.str) (xs:=[zjp,kget,kget]) (i:=d1%4-1) (by exact OYP h4 h5) (by show d1%4-1<3;exact OYD h4)
  refine st e6 ?_;simp only[ZQ,Zq,or_false] at hw2
  have hw3:w2=zjp\/w2=kget:=by
   rcases hw2 with e | e | e
   ·exact .inl e
   ·exact .inr e
   ·exact .inr e
  rcases hw3 with rfl | rfl
  ·exact f0 (kq (.take _ _) trivial)
  ·exact f0 (kq (.get _ _) trivial)
end K21
namespace K21
open IT
variable {Q:R->Sto->Prop}
variable {h:Sto}{Q:R->Sto->Prop}
theorem zfd{f:Ite->M (Option D)}{x:Ite}{xs:List Ite}{y:D}{Q:List D->Sto->Prop}(e:Ok (f x h) λo h1=>o=some y/\h1=h)(q:Ok (zaO none f xs h) λys h1=>Q (y::ys) h1):Ok (zaO none f (x::xs) h) Q:=by obtain⟨o,h1,e1,rfl,rfl⟩:=e;obtain⟨ys,h2,e2,q⟩:=q;refine⟨y::ys,h2,?_,q⟩;simp only[zaO,e1,zaM,if_true,bnd,e2];rfl
theorem zmI{f:Ite->M (Option D)}{Q:List D->Sto->Prop}(q:Q [] h):Ok (zaO none f [] h) Q:=⟨[],h,rfl,q⟩
theorem zeU{z:Int}{ds:List Int}{i:Int}(hd:Dig z ds)(h0:0<=i)(hi:i<ds.length):∃x,0<=x/\x<z/\idxD (.lst (ds.map D.int)) (.int i)=some (.int x):=by obtain⟨a,ha,e⟩:=zaA (f:=D.int) (xs:=ds) (i:=i) h0 hi;exact⟨a,(hd a ha).1,(hd a ha).2,e⟩
def ztP(ss:List Tx)(r:Row):Prop:=r.k=zeb/\(∃a b,r.m=[a,b])/\(∃as,r.acts=.hand as)/\r.nx∈ss
def hsOf(k:Nat):Tx:=if k / 2=0 then[104] else[107]
def kdOf(m n:Tx)(k:Nat):Tx:=if k%2=0 then m else n
def zqJ(m n:Tx)(k:Nat)(r:Row):Prop:=r.k=zaI/\(∃w,r.m=[hsOf k,kdOf m n k,w]/\(w=kany\/w=zbT\/w=zcy))/\(r.acts=.wait\/∃as,r.acts=.house as)
def zuI(rows:List Row):Prop:=∀r∈rows,∀r'∈rows,r.k=zaI->r'.k=zaI->r.m.take 2=r'.m.take 2->r.m[2]?=some kany->r'.m[2]?=some kany
structure zhK(ss:List Tx)(m n:Tx)(k:Nat)(rows:List Row):Prop where
 each:∀r∈rows,ztP ss r\/∃k',k'<k/\zqJ m n k' r
 whens:zuI rows
 few:rows.length<=15+2*k
theorem zo3{m n:Tx}(ne:m≠n){i j:Nat}(hi:i<4)(hj:j<4)(e1:hsOf i=hsOf j)(e2:kdOf m n i=kdOf m n j):i=j:=by
 have h1:i / 2=j / 2:=by
  unfold hsOf at e1
  by_cases a:i / 2=0<;>by_cases b:j / 2=0
  ·exact OYM a b
  ·rw[if_pos a,if_neg b] at e1;exact absurd e1 (by decide)
  ·rw[if_neg a,if_pos b] at e1;exact absurd e1 (by decide)
  ·exact OYO hi hj a b
 have h2:i%2=j%2:=by
  unfold kdOf at e2
  by_cases a:i%2=0<;>by_cases b:j%2=0
  ·exact OYX a h1 b
  ·rw[if_pos a,if_neg b] at e2;exact absurd e2 ne
  ·rw[if_neg a,if_pos b] at e2;exact absurd e2.symm ne
  ·exact OYW h1 a b
 exact OYL h2 h1
theorem znQ{ss:List Tx}{m n:Tx}{k:Nat}{rows new:List Row}(ne:m≠n)(hk:k<4)(o:zhK ss m n k rows)(hn:∀r∈new,zqJ m n k r)(hl:new.length<=2)(fl:(∀r∈new,r.m[2]?=some kany)\/∀r∈new,r.m[2]?≠some kany):zhK ss m n (k+1) (rows++new):=by
 have apart:∀r∈rows,∀r'∈new,r.k=zaI->r.m.take 2=r'.m.take 2->False:=λr hr r' hr' kr et=>by
  rcases o.each r hr with c|⟨k',hk',c⟩
  ·have:=c.1.symm.trans kr
   cases this
  ·obtain ⟨_,⟨w,em,_⟩,_⟩:=c
   obtain⟨_,⟨w',em',_⟩,_⟩:=hn r' hr';rw[em,em'] at et;have et:[hsOf k',kdOf m n k']=[hsOf k,kdOf m n k]:=et;simp only[List.cons.injEq,and_true] at et
   have:=zo3 ne (by omega) hk et.1 et.2
   omega
 refine⟨λr hr=>?_,λr hr r' hr' kr kr' et ea=>?_,by rw[Zu];have:=o.few;exact OXS this hl⟩
 ·rcases Zl.mp hr with c | c
  ·rcases o.each r c with d|⟨k',hk',d⟩
   ·exact .inl d
   ·exact .inr ⟨k',by omega,d⟩
  ·exact .inr ⟨k,by omega,hn r c⟩
 ·rcases Zl.mp hr with c | c<;>rcases Zl.mp hr' with c' | c'
  ·exact o.whens r c r' c' kr kr' et ea
  ·exact(apart r c r' c' kr et).elim
  ·exact(apart r' c' r c kr' et.symm).elim
  ·rcases fl with f | f
   ·exact f r' c'
   ·exact absurd ea (f r c)
theorem zvy{ss:List Tx}{m n:Tx}{rows:List Row}{zs:List (Tx×Tx)}(W:WdOk ss m n)(ez:zs.map (·.1)=ss)(o:zhK ss m n 4 rows):TbOk ⟨zs,[104],[.str [107]],rows⟩:=by
 refine⟨⟨λr hr=>?_,by have:=o.few;show rows.length<=100;omega,?_⟩,λr hr=>?_,o.whens,by show(zs.map (·.1)).Nodup;rw[ez];exact W.nd,λr hr rk=>?_⟩
 ·rcases o.each r hr with⟨c1,⟨a,b,c2⟩,c3,c4⟩|⟨k',_,c1,⟨w,c2,_⟩,c3⟩
  ·exact⟨by rw[c2];simp,λ_=>c3,λz=>by(rw[c1] at z;cases z)⟩
  ·exact⟨by rw[c2];simp,λz=>by(rw[c1] at z;cases z),λ_=>c3⟩
 ·intro z
  have z:zs=[]:=z;rw[z] at ez;obtain⟨a,b,c,e⟩:=W.three;rw[e] at ez;cases ez
 ·rcases o.each r hr with⟨c1,c2,c3,c4⟩|⟨k',_,c1,⟨w,c2,c3⟩,_⟩
  ·exact .inl ⟨c1,c2⟩
  ·exact .inr ⟨c1,_,_,w,c2,c3⟩
 ·rcases o.each r hr with⟨c1,c2,c3,c4⟩|⟨k',_,c1,_⟩
  ·show r.nx∈zs.map (·.1)
   rw[ez];exact c4
  ·rw[c1] at rk;cases rk
def zsa:List (List Tx):=[[kany],[kany],[zbT,zcy],[zbT,zcy],[zbT],[zcy],[],[zdz]]
theorem zoY{ws:List Tx}(h:ws∈zsa):∃b:Bool,(∀w∈ws,(b=true/\(w=kany\/w=zdz))\/(b=false/\(w=zbT\/w=zcy)))/\ws.length<=2:=by
 simp only[zsa,ZQ,Zq,or_false] at h
 have one:∀x:Tx,(x=kany\/x=zdz)->∃b:Bool,(∀w∈[x],(b=true/\(w=kany\/w=zdz))\/(b=false/\(w=zbT\/w=zcy)))/\([x]:List Tx).length<=2:=λx hx=>⟨true,λw hw=>by rw[Y2.mp hw];exact .inl ⟨rfl,hx⟩,by simp⟩
 have two:∀xs:List Tx,(∀x∈xs,x=zbT\/x=zcy)->xs.length<=2->∃b:Bool,(∀w∈xs,(b=true/\(w=kany\/w=zdz))\/(b=false/\(w=zbT\/w=zcy)))/\xs.length<=2:=λxs hx hl=>⟨false,λw hw=>.inr ⟨rfl,hx w hw⟩,hl⟩
 rcases h with rfl | rfl | rfl | rfl | rfl | rfl | rfl | rfl
 ·exact one _ (.inl rfl)
 ·exact one _ (.inl rfl)
 ·exact two _ (by simp) (by simp)
 ·exact two _ (by simp) (by simp)
 ·exact two _ (by simp) (by simp)
 ·exact two _ (by simp) (by simp)
 ·exact two _ (by simp) (by simp)
 ·exact one _ (.inr rfl)
theorem zlw(n:Nat){c:Int}{ss:List Tx}{m k:Tx}(W:WdOk ss m k)(kq:∀T:Tab,TbOk T->T.hands.map (·.1)=ss->Q (.d (tabD T)) h):
  Ok (zad P (n+2) 29 [.d (.int c),.d (.lst (ss.map D.str)),.d (.tup [.str m,.str k])] h) Q:=by
 obtain⟨sa,sb,sc,es⟩:=W.three;refine cl rfl rfl rfl ?_;refine ask (zdw n (z:=256) (m:=30) (by decide) (by decide) (by decide) λds hl hd=>?_);obtain⟨d0,a0,b0,e0⟩:=zbs (i:=0) hd (by omega);obtain⟨d1,a1,b1,e1⟩:=zbs (i:=1) hd (by omega);obtain⟨d2,a2,b2,e2⟩:=zbs (i:=2) hd (by omega);obtain⟨r0,_,f0'⟩:=zaA (f:=D.str) (xs:=[zcG,zgc,zaB]) (i:=d0%3) (zal d0 (by decide)).1 (zal d0 (by decide)).2;obtain⟨r1,_,f1'⟩:=zaA (f:=D.str) (xs:=[zcG,zgc,zaB]) (i:=d1%3) (zal d1 (by decide)).1 (zal d1 (by decide)).2;obtain⟨r2,_,f2'⟩:=zaA (f:=D.str) (xs:=[zcG,zgc,zaB]) (i:=d2%3) (zal d2 (by decide)).1 (zal d2 (by decide)).2;refine⟨by decide,?_⟩;refine ask ?_;show Ok (zaO none _ [dI (.int 0),dI (.int 1),dI (.int 2)] _) _;refine zfd (y:=.tup [.str sa,.str r0]) ?_ (zfd (y:=.tup [.str sb,.str r1]) ?_ (zfd (y:=.tup [.str sc,.str r2]) ?_ (zmI ?_)))
 ·refine gc ?_
  subst es;refine st e0 ?_;refine st f0' ?_;exact⟨rfl,rfl⟩
 ·refine gc ?_
  subst es;refine st e1 ?_;refine st f1' ?_;exact⟨rfl,rfl⟩
 ·refine gc ?_
  subst es;refine st e2 ?_;refine st f2' ?_;exact⟨rfl,rfl⟩
 refine⟨by decide,?_⟩;obtain⟨T4,e4⟩:∃T4,T4=D.tup [.tup [.str sa,.str r0],.tup [.str sb,.str r1],.tup [.str sc,.str r2]]:=⟨_,rfl⟩;rw[show WL 15=15 from rfl,zcb,Zt];refine ask ?_;refine zce (g:=dI∘λi:Nat=>D.int (i:Int)) (xs:=YO 15) (λi σ h'=>∃rows:List Row,h'=h++[.lst (rows.map rowD)]/\rows.length<=i/\(∀r∈rows,ztP ss r)/\∃w:Option R×Option R×Option R×Option R,σ=[some (.d (.int c)),some (.d (.lst (ss.map D.str))),some (.d (.tup [.str m,.str k])),some (.d (.lst (ds.map D.int))),some (.d T4),some (.loc h.length),w.1,w.2.1,w.2.2.1,w.2.2.2,none,none,none,none,none]) ?_ ?_ ⟨[],rfl,by simp,by simp,(none,none,none,none),by subst e4;rfl⟩
 ·rintro i i' σ h' hi ⟨rows,rfl,hlen,hrows,w,rfl⟩
  have hi2:i<15:=by simpa using(Z9.mp hi).1
  obtain rfl:i'=i:=by rw[Za hi2] at hi;cases hi;rfl
  obtain⟨s7,hs7,g7⟩:=zaA (f:=D.str) (xs:=ss) (i:=(i':Int) / 5) (Wg (by omega) (by decide)) (by rw[es];show(i':Int) / 5<3;omega)
  obtain⟨s8,hs8,g8⟩:=zaA (f:=D.str) (xs:=[zgc,zaB,zoa,m,k]) (i:=(i':Int)%5) (zal _ (by decide)).1 (zal _ (by decide)).2;obtain⟨d9,a9,b9,g9⟩:=zeU (i:=3+(i':Int)) hd (by omega) (by omega)
  obtain⟨s9,hs9,g10⟩:=zaA (f:=D.str) (xs:=ss) (i:=d9 / 8%4%3) (zal _ (by decide)).1 (by rw[es];exact(zal _ (by decide)).2)
  refine gb ?_;refine st g7 ?_;refine st g8 ?_;refine st g9 ?_;refine br (λc1=>?_) (λc1=>?_)
  ·ac_rfl
   refine st zag ?_;refine st g10 ?_;refine ask (zk6 n λas=>?_)
   refine st zag ⟨by simp[big];omega,?_⟩
   rw[zau]
   refine⟨rfl,rows++[⟨zeb,[s7,s8],s9,.hand as⟩],by rw[Zd];rfl,by simp;omega,λr hr=>?_,(_,_,_,_),rfl⟩
   rcases Zl.mp hr with z | z
   ·exact hrows r z
   ·rw [Y2.mp z]
    exact⟨rfl,⟨s7,s8,rfl⟩,⟨as,rfl⟩,hs9⟩
  ·exact⟨rfl,rows,rfl,by omega,hrows,(_,_,_,_),rfl⟩
 ·rintro σ h' ⟨rows,rfl,hlen,hrows,w,rfl⟩
  have R0:zhK ss m k 0 rows:=by
   refine⟨λr hr=>.inl (hrows r hr),λr hr r' hr' kr=>?_,by simpa using hlen⟩
   have:=(hrows r hr).1.symm.trans kr
   cases this
  refine⟨by decide,?_⟩;rw[show WL 4=4 from rfl,zcb,Zt];refine ask ?_;refine zce (g:=dI∘λi:Nat=>D.int (i:Int)) (xs:=YO 4) (λi σ h'=>∃rows:List Row,h'=h++[.lst (rows.map rowD)]/\zhK ss m k i rows/\∃w:(Option R×Option R×Option R×Option R)×Option R×Option R×Option R×Option R,σ=[some (.d (.int c)),some (.d (.lst (ss.map D.str))),some (.d (.tup [.str m,.str k])),some (.d (.lst (ds.map D.int))),some (.d T4),some (.loc h.length),w.1.1,w.1.2.1,w.1.2.2.1,w.1.2.2.2,w.2.1,w.2.2.1,w.2.2.2.1,w.2.2.2.2,none]) ?_ ?_ ⟨rows,rfl,R0,((_,_,_,_),_,_,_,_),rfl⟩
  ·clear hlen hrows R0 rows
   rintro i i' σ h' hi ⟨rows,rfl,R0,v,rfl⟩
   have hi2:i<4:=by simpa using(Z9.mp hi).1
   obtain rfl:i'=i:=by rw[Za hi2] at hi;cases hi;rfl
   have g7:idxD (.lst [.str [104],.str [107]]) (.int ((i':Int) / 2))=some (.str (hsOf i')):=by
    have:i'=0\/i'=1\/i'=2\/i'=3:=by exact OY1 hi2
    rcases this with rfl | rfl | rfl | rfl<;>rfl
   have g10:idxD (.tup [.str m,.str k]) (.int ((i':Int)%2))=some (.str (kdOf m k i')):=by
    have:i'=0\/i'=1\/i'=2\/i'=3:=by exact OY1 hi2
    rcases this with rfl | rfl | rfl | rfl<;>rfl
   obtain⟨d9,a9,b9,g9⟩:=zeU (i:=18+2*(i':Int)) hd (by omega) (by exact OXR hi2 hl);obtain⟨d8,a8,b8,g8⟩:=zeU (i:=19+2*(i':Int)) hd (by omega) (by exact OXQ hi2 hl)
   obtain⟨ws,hws,gw⟩:=zaA (f:=λw:List Tx=>D.lst (w.map D.str)) (xs:=zsa) (i:=d9 / 32) (Wg a9 (by decide)) (by show d9 / 32<8;omega)
   obtain⟨nx,_,gx⟩:=zaA (f:=D.str) (xs:=[([104]:Tx),[107]]) (i:=d8 / 16%2) (zal _ (by decide)).1 (zal _ (by decide)).2;obtain⟨b,hb,hw2⟩:=zoY hws;refine gb ?_;refine st g7 ?_;refine st g10 ?_;refine st g9 ?_;refine st gw ?_;refine ask ?_;show Ok (loop none _ ((ws.map D.str).map dI) _ _) _;refine zbI (xs:=ws.map D.str) (λj σ h'=>∃new:List Row,h'=h++[.lst ((rows++new).map rowD)]/\new.length<=j/\(∀r∈new,zqJ m k i' r/\(r.m[2]?==some kany)=b)/\∃u:Option R×Option R,σ=[some (.d (.int c)),some (.d (.lst (ss.map D.str))),some (.d (.tup [.str m,.str k])),some (.d (.lst (ds.map D.int))),some (.d T4),some (.loc h.length),some (.d (.int i')),some (.d (.str (hsOf i'))),v.1.2.2.1,some (.d (.int d9)),some (.d (.str (kdOf m k i'))),some (.d (.lst (ws.map D.str))),u.1,u.2,none]) ?_ ?_ ⟨[],by rw[Ze],by simp,by simp,(_,_),rfl⟩
   ·rintro j x σ h' hx ⟨new,rfl,hln,hnew,u,rfl⟩
    rw[ZX,ZL] at hx;obtain⟨w,hx,rfl⟩:=hx;have hwm:=hb w (ZT hx);have hj:j<ws.length:=(Z9.mp hx).1;have hrf:=R0.few
    obtain⟨d7,a7,b7,gd⟩:=zeU (i:=18+2*(i':Int)+(if(D.str w).eqb (.str zcy)=true then 1 else 0)) hd (by split<;>omega) (by split<;>omega)
    refine gb ?_;refine st gd ?_;refine ask (zk9 n λas=>?_);refine br (λc1=>?_) (λc1=>?_)
    ·have c1:(w==zdz)=true:=c1
     have ew:=Z3 c1;refine st zag ?_
     refine st zag ⟨by simp[big];exact OY0 hrf hln hi2 hj hw2,?_⟩
     rw[zau]
     refine⟨rfl,new++[⟨zaI,[hsOf i',kdOf m k i',kany],hsOf i',.wait⟩],by rw[<-Zj,Zd (l₂:=[_])];rfl,by simp;omega,λr hr=>?_,(_,_),rfl⟩
     rcases Zl.mp hr with z | z
     ·exact hnew r z
     ·rw [Y2.mp z]
      refine⟨⟨rfl,⟨kany,rfl,.inl rfl⟩,.inl rfl⟩,?_⟩
      rcases hwm with⟨rfl,_⟩|⟨_,e | e⟩
      ·rfl
      ·rw[ew] at e;exact absurd e (by decide)
      ·rw[ew] at e;exact absurd e (by decide)
    ·have c1:(w==zdz)=false:=c1
     have ew:w≠zdz:=ne_of_beq_false c1;refine st zag ?_;refine st g8 ?_;refine st gx ?_
     refine st zag ⟨by simp[big];exact OY0 hrf hln hi2 hj hw2,?_⟩
     rw[zau]
     refine⟨rfl,new++[⟨zaI,[hsOf i',kdOf m k i',w],nx,.house as⟩],by rw[<-Zj,Zd (l₂:=[_])];rfl,by simp;omega,λr hr=>?_,(_,_),rfl⟩
     rcases Zl.mp hr with z | z
     ·exact hnew r z
     ·rw [Y2.mp z]
      rcases hwm with⟨rfl,e | e⟩|⟨rfl,e | e⟩
      ·exact⟨⟨rfl,⟨w,rfl,.inl e⟩,.inr ⟨as,rfl⟩⟩,by rw[e];rfl⟩
      ·exact absurd e ew
      ·exact⟨⟨rfl,⟨w,rfl,.inr (.inl e)⟩,.inr ⟨as,rfl⟩⟩,by rw[e];rfl⟩
      ·exact⟨⟨rfl,⟨w,rfl,.inr (.inr e)⟩,.inr ⟨as,rfl⟩⟩,by rw[e];rfl⟩
   ·rintro σ h' ⟨new,rfl,hln,hnew,u,rfl⟩
    rw[Z4] at hln;refine⟨rfl,rows++new,rfl,znQ W.ne hi2 R0 (λr hr=>(hnew r hr).1) (by omega) ?_,((some _,some _,v.1.2.2.1,some _),some _,some _,u.1,u.2),rfl⟩
    cases b with
    |true=>exact .inl λr hr=>Z3 (hnew r hr).2
    |false=>exact .inr λr hr=>ne_of_beq_false (hnew r hr).2
  ·rintro σ h' ⟨rows,rfl,R0,v,rfl⟩
   rw[Xe] at R0;refine st zag ?_
   subst e4;have:=kq ⟨[(sa,r0),(sb,r1),(sc,r2)],[104],[.str [107]],rows⟩ (zvy W (by rw[es];rfl) R0) (by rw[es];rfl)
   exact fa this
end K21
namespace K21
open IT
variable {Q:R->Sto->Prop}
structure Stt(T:Tab)(X:Hl):Prop where
 all:zb2 T X.ls
 few:X.ls.length<=10
 ans:X.ans.dep<=1
 brk:X.brk.dep<=1
theorem zef(w:Tx):(bad w).dep<=1:=by simp[bad,D.dep,D.deps]
theorem zsr{T:Tab}{X:Hl}{k:Nat}{l:Ln}{v:Val}{a:HA}(h:Stt T X)(el:X.ls[k]?=some l):Stt T (doHA X k l v a):=by
 refine⟨(zqq h.all el).1,by rw[zhl];exact h.few,?_,?_⟩
 ·cases a with
  |put=>show(D.tup [.str zqm,.int k,.int l.want]).dep<=1;simp[D.dep,D.deps]
  | tell=>
   show(zdd X k l).ans.dep<=1;unfold zdd
   split
   ·exact h.ans
   ·split
    ·simp[D.dep,D.deps]
    ·exact h.ans
  |_=>exact h.ans
 ·cases a with
  | tell=>
   show(zdd X k l).brk.dep<=1;unfold zdd
   split
   ·exact zef _
   ·split
    ·exact h.brk
    ·exact zef _
  |send m ld=>
   show(pbrk l.back X.brk).dep<=1;unfold pbrk
   split
   ·exact zef _
   ·exact h.brk
  |_=>exact h.brk
theorem zm6{T:Tab}{X:Hl}{x:Lt}{i:Nat}(h:Stt T X):Stt T (zas x X i):=by
 refine⟨(zd5 h.all).1,by rw[zet];exact h.few,?_,?_⟩
 ·unfold zas
  split
  ·exact h.ans
  ·exact h.ans
 ·unfold zas
  split
  ·show (pbrk _ X.brk).dep<=1
   unfold pbrk
   split
   ·exact zef _
   ·exact h.brk
  ·exact h.brk
theorem zkv{T:Tab}{x:Lt}:∀(is:List Nat) {X:Hl},Stt T X->Stt T (is.foldl (zas x) X)| [],_,h=>h|_::is,_,h=>zkv is (zm6 h)
theorem zs3{T:Tab}{X:Hl}{k:Nat}{l:Ln}{v:Val}{a:OA}(h:Stt T X)(el:X.ls[k]?=some l):Stt T (doOA X k l v a):=by
 cases a with|send w m ld=>exact zkv _ h|keep=>exact⟨h.all,h.few,h.ans,h.brk⟩|own=>exact⟨(ziD (v:=v) (a:=.own) h.all el).1,by rw[zcM];exact h.few,h.ans,h.brk⟩|share=>exact⟨(ziD (v:=v) (a:=.share) h.all el).1,by rw[zcM];exact h.few,h.ans,h.brk⟩|forget=>exact⟨(ziD (v:=v) (a:=.forget) h.all el).1,by rw[zcM];exact h.few,h.ans,h.brk⟩|clear=>exact⟨(ziD (v:=v) (a:=.clear) h.all el).1,by rw[zcM];exact h.few,h.ans,h.brk⟩|stay=>exact h
theorem zmA{T:Tab}{k:Nat}{v:Val}:∀(as:List HA) {X:Hl},Stt T X->Stt T (zdu k v as X)
 | [],_,h=>h
 | a::as,X,h=>by
  unfold zdu
  split
  ·rename_i l el
   split
   ·exact zmA as (zsr h el)
   ·exact zsr h el
  ·exact h
theorem zpT{T:Tab}{k:Nat}{v:Val}:∀(as:List OA) {X:Hl},Stt T X->Stt T (zc6 k v as X)
 | [],_,h=>h
 | a::as,X,h=>by
  unfold zc6
  split
  ·rename_i l el
   split
   ·exact zpT as (zs3 h el)
   ·exact zs3 h el
  ·exact h
theorem zlS{T:Tab}{X:Hl}{k:Nat}{nx:Tx}(h:Stt T X)(hn:nx∈T.hands.map (·.1)):Stt T (toSt X k nx):=by
 unfold toSt
 split
 ·split
  ·rename_i l el
   have hl:=h.all l (ZT el);exact⟨h.all.set ⟨hl.1,hl.2.1,hn⟩,by simpa using h.few,h.ans,h.brk⟩
  ·exact h
 ·exact h
theorem zrf{T:Tab}{X:Hl}{nx:Tx}(h:Stt T X):Stt T (toHs X nx):=by
 unfold toHs
 split
 ·exact⟨h.all,h.few,h.ans,h.brk⟩
 ·exact h
theorem zlc{T:Tab}{X:Hl}(h:Stt T X):Stt T (zat T X):=by
 unfold zat
 split
 ·exact⟨h.all,h.few,h.ans,zef _⟩
 ·exact h
theorem zui{T:Tab}{S:Sd}(h:SdOk T S):Stt T (hlOf S):=⟨h.all,h.few,by show D.non.dep<=1;simp[D.dep],by show D.non.dep<=1;simp[D.dep]⟩
theorem ztf{T:Tab}{S:Sd}{l:Ln}{r:Row}{d:Deed}(O:TbOk T)(hS:SdOk T S)(el:S.ls[d.k.toNat]?=some l)(er:zbJ T (hlOf S) l d=some r):Stt T (zeh (hlOf S) l r d):=by
 have hl:=hS.all l (ZT el);have h0:=zui hS;have up:∀(k:Nat) (l':Ln),LOk T l'->Stt T ⟨S.s,S.sr,S.la,S.ls.set k l',.non,.non⟩:=λk l' h'=>⟨hS.all.set h',by simpa using hS.few,h0.ans,h0.brk⟩
 cases d with
 | ask k ev x=>
  obtain⟨hr,rk⟩:=zeO (T:=T) (s:=l.st) (e:=ev) er;show Stt T (match r.acts with | .hand as=>zno (hlOf S) k.toNat l ev x as r.nx | _=>hlOf S)
  split
  ·refine zlS (zmA _ ?_) (O.nx r hr rk)
   cases x with|none=>exact h0|some z=>exact up _ _ hl
  ·exact h0
 | take k j=>
  show Stt T (match r.acts with | .hand as=>zhQ (hlOf S) k.toNat l j.toNat (match l.to[j.toNat]? with | some lt=>lt.2 | none=>none) as r.nx | _=>hlOf S);have er:(match l.to[j.toNat]? with | some lt=>zbj T l.st lt.1 | none=>none)=some r:=er
  have hm:r∈T.rows/\r.k=zeb:=by
   cases e:l.to[j.toNat]? with|none=>rw[e] at er;cases er|some lt=>rw[e] at er;exact zeO er
  split
  ·exact zlS (zmA _ (up _ _ ⟨⟨zhz hl.1.1,hl.1.2⟩,hl.2⟩)) (O.nx r hm.1 hm.2)
  ·exact h0
 | get k j=>
  show Stt T (match r.acts with | .house as=>zpo (hlOf S) k.toNat l j.toNat (match l.back[j.toNat]? with | some lt=>lt.2 | none=>none) as r.nx | _=>hlOf S)
  split
  ·refine zrf (zpT _ ?_)
   unfold gotX
   split
   ·exact h0
   ·exact up _ _ ⟨⟨hl.1.1,zhz hl.1.2⟩,hl.2⟩
  ·exact h0
theorem zlZ{T:Tab}{S:Sd}{d:Deed}(O:TbOk T)(hS:SdOk T S):Stt T (zeI T S d):=by
 show Stt T (match (hlOf S).ls[d.k.toNat]? with | none=>hlOf S | some l=>match zbJ T (hlOf S) l d with | none=>{hlOf S with brk:=bad zeB} | some r=>zat T (zeh (hlOf S) l r d));have h0:=zui hS
 cases el:(hlOf S).ls[d.k.toNat]? with
 |none=>exact h0
 |some l=>
  show Stt T (match zbJ T (hlOf S) l d with | none=>{hlOf S with brk:=bad zeB} | some r=>zat T (zeh (hlOf S) l r d))
  cases er:zbJ T (hlOf S) l d with|none=>exact⟨h0.all,h0.few,h0.ans,zef _⟩|some r=>exact zlc (ztf O hS el er)
theorem Stt.sd{T:Tab}{X:Hl}(h:Stt T X):SdOk T (sdOf X):=⟨λl hl=>(h.all l hl).1,h.few,λl hl=>(h.all l hl).2.1,λl hl=>(h.all l hl).2.2⟩
theorem zi3(v:Val):(valD v).dep<=1:=by cases v<;>simp[valD,prD,D.dep,D.deps]
theorem zg1{α:Type}{f:α->D}{b:Nat}:∀xs:List α,(∀x∈xs,(f x).dep<=b)->D.deps (xs.map f)<=b
 | [],_=>by simp[D.deps]
 |x::xs,h=>by rw[ZC,D.deps];have h1:=h x (by simp);have h2:=zg1 xs λy hy=>h y (by simp[hy]);exact OXP h1 h2
theorem zlO(w:List Lt):(wayD w).dep<=3:=by
 unfold wayD;rw[D.dep]
 have:=zg1 (f:=letD) (b:=2) w λx _=>by
  have:=zi3 x.2
  simp[letD,D.dep,D.deps];omega
 omega
theorem ztE(l:Ln):(lnD l).dep<=4:=by have h1:=zi3 l.v;have h2:=zlO l.to;have h3:=zlO l.back;simp[lnD,D.dep,D.deps];exact OYx h1 h2 h3
theorem zp6(S:Sd):(sdD S).dep<=6:=by have h1:=zi3 S.sr;have h2:D.deps (S.ls.map lnD)<=4:=zg1 S.ls λl _=>ztE l;simp[sdD,stdD,prD,D.dep,D.deps];exact OX3 h1 h2
theorem zpj{T:Tab}{S:Sd}{d:Deed}(O:TbOk T)(hS:SdOk T S):(zfR T S d).dep<=60:=by
 have h:=zlZ (d:=d) O hS;have h1:=h.ans;have h2:=h.brk;have h3:=zp6 (sdOf (zeI T S d));have h4:=zp6 S;unfold zfR
 split
 ·simp[D.dep,D.deps];exact OYZ h3 h1
 ·simp[D.dep,D.deps];exact OYZ h4 h2
end K21
namespace K21
open IT
variable {Q:R->Sto->Prop}
variable {h:Sto}{Q:R->Sto->Prop}
mutual
theorem zkp:∀x:D,x.eqb x=true|.non=>rfl|.bl b=>by simp[D.eqb]|.int i=>by simp[D.eqb]|.str s=>by simp[D.eqb]|.tup xs=>eqbs_self xs|.lst xs=>eqbs_self xs
theorem eqbs_self:∀xs:List D,D.eqbs xs xs=true| []=>rfl|x::xs=>by rw[D.eqbs,zkp x,eqbs_self xs];rfl
end
theorem zr3{α β:Type}{f:α->β}{xs:List α}{a b:Option Int}:cut (xs.map f) a b=(cut xs a b).map f:=by unfold cut;rw[Wu,List.map_drop,Z4]
theorem zrh{α:Type}{xs:List α}{a b:Option Int}:(cut xs a b).length<=xs.length:=by unfold cut;simp;exact OZD
theorem law_call(n:Nat){ns:List Int}(hl:ns.length<=63)(kq:Q (.d (.bl true)) h):Ok (zad P (n+12) 42 [.d (.lst (ns.map .int))] h) Q:=by
 refine cl rfl rfl rfl ?_;refine ask (zaZ (n+10) (k:=7) λc7=>?_);refine ask (zkP (n+10) λss m k W=>?_);refine ask (zaZ (n+10) (k:=0) λc0=>?_);refine ask (zlw (n+9) W λT O eT=>?_);refine ask (zaZ (n+10) (k:=1) λc1=>?_);refine ask (zaZ (n+10) (k:=1) λc1'=>?_);refine ask (zaZ (n+10) (k:=2) λc2=>?_);ac_rfl
 have h9:0<1+c1%10^WL 9:=by
  have:=XZ c1 (b:=10^WL 9) (by decide)
  exact OYG this
 generalize 1+c1%10^WL 9=la1 at h9;generalize c1' % 10^WL 40=la2
 obtain⟨mm,em,hm⟩:∃mm:Nat,1+c2%4=(mm:Int)/\1<=mm/\mm<=4:=⟨(1+c2%4).toNat,by have:=zal c2 (m:=4) (by decide);exact OYV this,by have:=zal c2 (m:=4) (by decide);exact OYK this,by have:=zal c2 (m:=4) (by decide);exact OYJ this⟩
 rw[em];refine⟨by exact OYs em,?_⟩;rw[ZA,zcb,Zt]
 refine ask (zb0 (g:=dI∘λi:Nat=>D.int (i:Int)) (xs:=YO mm) (λi ys h'=>h'=h/\∃ls:List Ln,ys=ls.map lnD/\ls.length=i/\zb2 T ls) ?_ ?_ ⟨rfl,[],rfl,rfl,by intro l hl;cases hl⟩)
 ·rintro i i' ys h' hi ⟨rfl,ls,rfl,hll,hA⟩
  have hi2:i<mm:=by simpa using(Z9.mp hi).1
  obtain rfl:i'=i:=by rw[Za hi2] at hi;cases hi;rfl
  refine gc ?_;ac_rfl
  rw[show(3:Int)+(i':Int)=((3+i':Nat):Int) by push_cast;rfl]
  refine ask (zaZ (n+10) λc3=>?_);refine ask (zlU (n+8) (la:=(la1,la2)) h9 W λl l1 l2 l3=>?_)
  refine⟨rfl,rfl,ls++[l],by rw[Zd];rfl,by simp;omega,λx hx=>?_⟩
  rcases Zl.mp hx with z | z
  ·exact hA x z
  ·rw [Y2.mp z]
   exact⟨l1,l2,by rw[eT];exact l3⟩
 ·rintro ys h' ⟨rfl,ls,rfl,hll,hA⟩
  rw[Xe] at hll;refine ask (zaZ (n+10) (k:=2) λc4=>?_);obtain⟨hs,_,g7⟩:=zaA (f:=D.str) (xs:=[([104]:Tx),[107]]) (i:=c4 / 4%2) (zal _ (by decide)).1 (zal _ (by decide)).2;refine st g7 ?_;refine ask (zaZ (n+10) (k:=2) λc5=>?_);refine ask (zcP (n+10) (la:=(la1,la2)) h9 λsv=>?_);refine ask (zaZ (n+10) (k:=8) λc8=>?_)
  have hf:T.hands.length<=10:=by
   obtain⟨a,b,c,e⟩:=W.three
   have:(T.hands.map (·.1)).length=3:=by rw[eT,e];rfl
   rw[Z4] at this;omega
  have ecat:bop .add (.lst [.int c8]) (.lst (cut (ns.map D.int) (some 9) (some 39)))=some (.lst ((c8::cut ns (some 9) (some 39)).map D.int)):=by
   rw[zr3]
   have:=zrh (xs:=ns) (a:=some 9) (b:=some 39)
   show(if fit ([D.int c8].length+((cut ns (some 9) (some 39)).map D.int).length) then some (D.lst ([D.int c8]++(cut ns (some 9) (some 39)).map D.int)) else none)=_
   have hfit:fit ([D.int c8].length+((cut ns (some 9) (some 39)).map D.int).length)=true:=decide_eq_true (by unfold big;simp;omega)
   rw[if_pos hfit];rfl
  refine st ecat ?_;generalize c8::cut ns (some 9) (some 39)=cs;refine ask ?_;show Ok (loop none _ ((cs.map D.int).map dI) _ _) _
  have hS0:SdOk T ⟨hs,sv,(la1,la2),ls⟩:=⟨λl hl=>(hA l hl).1,by show ls.length<=10;omega,λl hl=>(hA l hl).2.1,λl hl=>(hA l hl).2.2⟩
  refine zbI (xs:=cs.map D.int) (λi σ h''=>h''=h'/\∃S:Sd,SdOk T S/\∃w:Option R×Option R×Option R,σ=[some (.d (.lst (ns.map D.int))),some (.d (.lst (ss.map D.str))),some (.d (.tup [.str m,.str k])),some (.d (tabD T)),some (.d (prD (la1,la2))),some (.d (.int mm)),some (.d (.tup (ls.map lnD))),some (.d (.str hs)),some (.d (valD sv)),some (.d (sdD S)),w.1,w.2.1,w.2.2,none]) ?_ ?_ ⟨rfl,_,hS0,(none,none,none),rfl⟩
  ·rintro i x σ h'' hx ⟨rfl,S,hS,w,rfl⟩
   rw[ZX,ZL] at hx;obtain⟨cc,_,rfl⟩:=hx;refine gb ?_;refine ask (zkD (n+9) ⟨hm.1,by omega⟩ λd hd=>?_);refine ask (zk1 (n+9) O hS hd ?_)
   cases hm1:may1 T S d with
   | true=>
    refine ask (zlf (n+7) O hf hS hd hm1 ?_);refine ask (zlp (n+1) O hS hd hm1 ?_);ac_rfl;refine st (zg3 (zsS (zpj O hS))) ?_
    refine bf (show(!(zfR T S d).eqb (zfR T S d))=false by rw[zkp];rfl) ?_
    by_cases c:zay (zeI T S d).brk=true
    ·have e:zfR T S d=.tup [sdD (sdOf (zeI T S d)),(zeI T S d).ans,.non]:=if_pos c
     rw[e];exact⟨rfl,rfl,_,(zlZ O hS).sd,(_,_,_),rfl⟩
    ·have e:zfR T S d=.tup [sdD S,.non,(zeI T S d).brk]:=if_neg c
     rw[e];refine bf (show zay (zeI T S d).brk=false by simpa using c) ?_;exact⟨rfl,rfl,S,hS,(_,_,_),rfl⟩
   |false=>refine ask (znH (n+1) hm1 ?_);exact⟨rfl,rfl,S,hS,(_,_,_),rfl⟩
  ·rintro σ h'' ⟨rfl,S,hS,w,rfl⟩
   exact f0 kq
theorem zoJ{ns:List Int}(hl:ns.length<=63):zad P 12 42 [.d (.lst (ns.map .int))] []=some (.d (.bl true),[]):=by obtain⟨r,h,e,rfl,rfl⟩:=law_call 0 (h:=[]) (Q:=λr h=>r=.d (.bl true)/\h=[]) hl ⟨rfl,rfl⟩;exact e
open PySem PySem.Spec L2 IT
def fns:List (Str×Nat×List D):=[(("right_of",2,[]):Str×Nat×List D),(("hand_row",3,[]):Str×Nat×List D),(("house_row",4,[]):Str×Nat×List D),(("row_for",2,[]):Str×Nat×List D),(("is_wait",1,[]):Str×Nat×List D),(("clash",2,[]):Str×Nat×List D),(("has_version_of",2,[]):Str×Nat×List D),(("letter_of",3,[]):Str×Nat×List D),(("may_be_done",3,[]):Str×Nat×List D),(("way_of",2,[]):Str×Nat×List D),(("row_for_deed",3,[]):Str×Nat×List D),(("do_deed",3,[]):Str×Nat×List D),(("do_ask",3,[]):Str×Nat×List D),(("do_take",3,[]):Str×Nat×List D),(("do_get",3,[]):Str×Nat×List D),(("got_value",3,[]):Str×Nat×List D),(("without",2,[]):Str×Nat×List D),(("do_hand_row",4,[]):Str×Nat×List D),(("do_hand_act",4,[]):Str×Nat×List D),(("do_house_row",4,[]):Str×Nat×List D),(("do_house_act",4,[]):Str×Nat×List D),(("send_from_house",3,[]):Str×Nat×List D),(("receivers",3,[]):Str×Nat×List D),(("step",3,[]):Str×Nat×List D),(("_law_cell_at",2,[]):Str×Nat×List D),(("_law_digits",3,[]):Str×Nat×List D),(("_law_words",1,[]):Str×Nat×List D),(("_law_hand_acts",3,[]):Str×Nat×List D),(("_law_house_acts",2,[]):Str×Nat×List D),(("_law_table",3,[]):Str×Nat×List D),(("_law_value",2,[]):Str×Nat×List D),(("_law_way",3,[]):Str×Nat×List D),(("_law_line",4,[]):Str×Nat×List D),(("_law_deed",2,[]):Str×Nat×List D),(("_law_row",3,[]):Str×Nat×List D),(("_law_none",3,[]):Str×Nat×List D),(("_law_posted",4,[]):Str×Nat×List D),(("_law_hand_act",4,[]):Str×Nat×List D),(("_law_house_act",4,[]):Str×Nat×List D),(("_law_clashes",2,[]):Str×Nat×List D),(("_law_done",3,[]):Str×Nat×List D),(("_law_asked",3,[]):Str×Nat×List D),(("law",1,[]):Str×Nat×List D)]
def cls:List zmx:=[⟨"OpenLine",43,["state", "value", "want", "to", "back", "flags"],[("as_tuple",44)]⟩,⟨"Hall",45,["state", "store", "last", "lines", "answer", "broken"],[("as_tuple",46),("write_value",47),("tell_value",48),("send_to_house",49),("send_to_hand",50),("posted",51),("hands_with",52),("other_sharers",53),("forget_all",54)]⟩]
def globs:List (Str×D):=[("ASKS",(.tup [(.str [114,101,97,100]),(.str [119,114,105,116,101]),(.str [100,114,111,112])])),("OWNS",(.int 2)),("SHARES",(.int 1)),("WAITS",(.tup [(.tup [(.str [119,97,105,116])])])),("WAY_HOLDS",(.int 2))]
def exs:List zeG:=[⟨"NoDeed",["CopyError"],[("NoDeed",true),("BadTable",false),("ValueError",true)]⟩]
def gds:List (Str×List (List Nat×D)):=[]
def bd(n:Nat):Stmt:=PySem.Challenge.pw_copyclerk_k21_one_deed.main.body.getD n (.Pass ⟨0,0,0,0⟩)
abbrev Cd(b:List S)(n p:List Str)(s:Stmt):Prop:=n.Nodup/\(∀x∈p,(zah s).names.lookup x=some .local\/(zah s).names.lookup x=some .cell)/\(∀y∈(zah s).names,y.2≠.free)/\chkSs b ⟨n,(zah s).names,fns,globs,true,cls,gds,exs⟩ (zbo s)=true
theorem Cd.sc{b:List S}{n p:List Str}{s:Stmt}(c:Cd b n p s)(h1:(zah s).kind=.function)(h2:(zah s).isCoroutine=false)(h3:(zah s).isGenerator=false)(h4:n.take p.length=p):zfL n p (zah s):=⟨h1,h2,h3,c.1,h4,c.2.1,c.2.2.1⟩
def zgo:Stmt:=bd 3
def zla:List Str:=["table", "state", "name", "right"]
def zeu:List Str:=["table", "state"]
theorem zlx:Cd zgA zla zeu zgo:=by decide +kernel
def zgq:Stmt:=bd 4
def zkZ:List Str:=["table", "state", "event"]
def zd7:List Str:=["table", "state", "event"]
theorem zlz:Cd zgg zkZ zd7 zgq:=by decide +kernel
def zfw:Stmt:=bd 5
def zjn:List Str:=["table", "state", "kind", "last", "row"]
def zdj:List Str:=["table", "state", "kind", "last"]
theorem zjo:Cd zfg zjn zdj zfw:=by decide +kernel
def ziC:Stmt:=bd 6
def zmw:List Str:=["table", "head", "row"]
def zfI:List Str:=["table", "head"]
theorem zmq:Cd zh1 zmw zfI ziC:=by decide +kernel
def zh5:Stmt:=bd 7
def zmy:List Str:=["row"]
def zfq:List Str:=["row"]
theorem znk:Cd ziK zmy zfq zh5:=by decide +kernel
def znj:Stmt:=bd 9
def zqQ:List Str:=["table", "standing", "rights", "?1?line"]
def zjx:List Str:=["table", "standing"]
theorem zqw:Cd zlN zqQ zjx znj:=by decide +kernel
def zco:Stmt:=bd 10
def zeK:List Str:=["value", "last"]
def zbr:List Str:=["value", "last"]
theorem zeH:Cd zcl zeK zbr zco:=by decide +kernel
def zfB:Stmt:=bd 17
def zi0:List Str:=["kind", "load", "value"]
def zdr:List Str:=["kind", "load", "value"]
theorem zjb:Cd zfM zi0 zdr zfB:=by decide +kernel
def zdP:Stmt:=bd 19
def zhu:List Str:=["table", "hall", "deed"]
def zcj:List Str:=["table", "hall", "deed"]
theorem zgU:Cd zdE zhu zcj zdP:=by decide +kernel
def zkw:Stmt:=bd 20
def znX:List Str:=["hall", "deed", "line"]
def zgK:List Str:=["hall", "deed"]
theorem zoi:Cd zjU znX zgK zkw:=by decide +kernel
def zcT:Stmt:=bd 21
def zf5:List Str:=["table", "hall", "deed", "state", "kind"]
def zbU:List Str:=["table", "hall", "deed"]
theorem zge:Cd zcZ zf5 zbU zcT:=by decide +kernel
def zie:Stmt:=bd 22
def zmB:List Str:=["table", "hall", "deed", "row"]
def zff:List Str:=["table", "hall", "deed"]
theorem zlQ:Cd ziA zmB zff zie:=by decide +kernel
def zkl:Stmt:=bd 23
def zoq:List Str:=["hall", "deed", "row", "line"]
def zho:List Str:=["hall", "deed", "row"]
theorem zpa:Cd zkh zoq zho zkl:=by decide +kernel
def ziw:Stmt:=bd 24
def znn:List Str:=["hall", "deed", "row", "line", "value"]
def ze8:List Str:=["hall", "deed", "row"]
theorem zmd:Cd zif znn ze8 ziw:=by decide +kernel
def zkr:Stmt:=bd 25
def zpq:List Str:=["hall", "deed", "row"]
def zhh:List Str:=["hall", "deed", "row"]
theorem zoO:Cd zjE zpq zhh zkr:=by decide +kernel
def zfX:Stmt:=bd 26
def zi2:List Str:=["hall", "deed", "row", "line", "value"]
def zdn:List Str:=["hall", "deed", "row"]
theorem zjD:Cd zfN zi2 zdn zfX:=by decide +kernel
def ziB:Stmt:=bd 27
def zl4:List Str:=["way", "number"]
def zfl:List Str:=["way", "number"]
theorem zmL:Cd zix zl4 zfl ziB:=by decide +kernel
def zdA:Stmt:=bd 28
def zg2:List Str:=["hall", "hand", "value", "row", "act", "line"]
def zcd:List Str:=["hall", "hand", "value", "row"]
theorem zg8:Cd zdQ zg2 zcd zdA:=by decide +kernel
def zdK:Stmt:=bd 29
def zgC:List Str:=["hall", "hand", "value", "act", "line"]
def zcg:List Str:=["hall", "hand", "value", "act"]
theorem zgS:Cd zdT zgC zcg zdK:=by decide +kernel
def zcV:Stmt:=bd 30
def zf7:List Str:=["hall", "sender", "value", "row", "act"]
def zbS:List Str:=["hall", "sender", "value", "row"]
theorem zgf:Cd zc1 zf7 zbS zcV:=by decide +kernel
def zc4:Stmt:=bd 31
def zf1:List Str:=["hall", "sender", "value", "act", "line"]
def zbR:List Str:=["hall", "sender", "value", "act"]
theorem zf6:Cd zc5 zf1 zbR zc4:=by decide +kernel
def zb8:Stmt:=bd 32
def zek:List Str:=["hall", "sender", "act", "hand"]
def zbd:List Str:=["hall", "sender", "act"]
theorem zer:Cd zbX zek zbd zb8:=by decide +kernel
def zfc:Stmt:=bd 33
def zjk:List Str:=["hall", "sender", "word"]
def zdf:List Str:=["hall", "sender", "word"]
theorem zi4:Cd ze5 zjk zdf zfc:=by decide +kernel
def zqf:Stmt:=bd 39
def zsI:List Str:=["table", "standing", "deed", "hall"]
def zmc:List Str:=["table", "standing", "deed"]
theorem zst:Cd zpW zsI zmc zqf:=by decide +kernel
def ze4:Stmt:=bd 41
def zi8:List Str:=["_law_script", "_law_k"]
def zdx:List Str:=["_law_script", "_law_k"]
theorem zjt:Cd ze9 zi8 zdx ze4:=by decide +kernel
def zgk:Stmt:=bd 42
def zln:List Str:=["_law_cell", "_law_size", "_law_many", "_law_found", "_law_mix", "_law_rest", "_law_k"]
def zd8:List Str:=["_law_cell", "_law_size", "_law_many"]
theorem zls:Cd zgh zln zd8 zgk:=by decide +kernel
def zib:Stmt:=bd 43
def znp:List Str:=["_law_cell", "_law_states"]
def ze2:List Str:=["_law_cell"]
theorem zmX:Cd zhJ znp ze2 zib:=by decide +kernel
def zdL:Stmt:=bd 44
def zg0:List Str:=["_law_d", "_law_event", "_law_kinds", "_law_m", "_law_n", "_law_some"]
def zch:List Str:=["_law_d", "_law_event", "_law_kinds"]
theorem zhm:Cd zdJ zg0 zch zdL:=by decide +kernel
def zcX:Stmt:=bd 45
def zfZ:List Str:=["_law_d", "_law_kinds", "_law_m", "_law_n", "_law_some"]
def zbV:List Str:=["_law_d", "_law_kinds"]
theorem zf9:Cd zcU zfZ zbV zcX:=by decide +kernel
def zhC:Stmt:=bd 46
def znz:List Str:=["_law_cell", "_law_states", "_law_kinds", "_law_ds", "_law_hands", "_law_rows", "_law_k", "_law_state", "_law_event", "_law_d", "_law_kind", "_law_whens", "_law_when", "_law_acts", "?1?_law_k"]
def zfn:List Str:=["_law_cell", "_law_states", "_law_kinds"]
theorem zmO:Cd ziI znz zfn zhC:=by decide +kernel
def zh8:Stmt:=bd 47
def zne:List Str:=["_law_d", "_law_last", "_law_version"]
def zfU:List Str:=["_law_d", "_law_last"]
theorem zmC:Cd zim zne zfU zh8:=by decide +kernel
def zmu:Stmt:=bd 48
def zra:List Str:=["_law_d", "_law_last", "_law_kinds", "_law_some"]
def zjg:List Str:=["_law_d", "_law_last", "_law_kinds"]
theorem zrr:Cd zl5 zra zjg zmu:=by decide +kernel
def zj3:Stmt:=bd 49
def zoI:List Str:=["_law_cell", "_law_last", "_law_states", "_law_kinds", "_law_ds", "_law_want", "_law_ways"]
def zg7:List Str:=["_law_cell", "_law_last", "_law_states", "_law_kinds"]
theorem zo8:Cd zjY zoI zg7 zj3:=by decide +kernel
def zjG:Stmt:=bd 50
def zog:List Str:=["_law_cell", "_law_many", "_law_ds", "_law_hand", "_law_word", "_law_k"]
def zg5:List Str:=["_law_cell", "_law_many"]
theorem zpA:Cd zkj zog zg5 zjG:=by decide +kernel
def zlK:Stmt:=bd 51
def zrk:List Str:=["_law_table_here", "_law_standing", "_law_deed_here", "_law_lines", "_law_line_here", "_law_row_here", "_law_meant", "_law_others", "?1?_law_k"]
def ziY:List Str:=["_law_table_here", "_law_standing", "_law_deed_here"]
theorem zsf:Cd znm zrk ziY zlK:=by decide +kernel
def zkb:Stmt:=bd 52
def zpB:List Str:=["_law_table_here", "_law_standing", "_law_deed_here", "_law_line_here", "_law_row_here"]
def zgE:List Str:=["_law_table_here", "_law_standing", "_law_deed_here"]
theorem zo0:Cd zkB zpB zgE zkb:=by decide +kernel
def zgx:Stmt:=bd 53
def zlB:List Str:=["_law_lines", "_law_hand", "_law_way_here", "_law_letter"]
def zej:List Str:=["_law_lines", "_law_hand", "_law_way_here", "_law_letter"]
theorem zkI:Cd zgw zlB zej zgx:=by decide +kernel
def zeE:Stmt:=bd 54
def ziu:List Str:=["_law_state", "_law_hand", "_law_act", "_law_value_here", "_law_line_here", "_law_sent"]
def zcD:List Str:=["_law_state", "_law_hand", "_law_act", "_law_value_here"]
theorem zhN:Cd zeA ziu zcD zeE:=by decide +kernel
def zdH:Stmt:=bd 55
def zgN:List Str:=["_law_state", "_law_hand", "_law_act", "_law_value_here", "_law_lines", "_law_sent", "_law_to", "_law_line_here", "?1?_law_k", "?2?_law_k", "?3?_law_k"]
def zci:List Str:=["_law_state", "_law_hand", "_law_act", "_law_value_here"]
theorem zhk:Cd zdU zgN zci zdH:=by decide +kernel
def zfi:Stmt:=bd 56
def zjy:List Str:=["_law_table_here", "_law_lines", "_law_rights", "?1?_law_line_here", "?2?_law_right"]
def zdk:List Str:=["_law_table_here", "_law_lines"]
theorem zjd:Cd zft zjy zdk zfi:=by decide +kernel
def zj9:Stmt:=bd 57
def zn5:List Str:=["_law_table_here", "_law_standing", "_law_deed_here", "_law_row_here", "_law_lines", "_law_state", "_law_value_here", "_law_way_here", "_law_letters", "_law_rest", "_law_act", "_law_fault", "_law_house", "_law_made", "_law_behind", "?1?_law_line_here", "?2?_law_line_here"]
def zgG:List Str:=["_law_table_here", "_law_standing", "_law_deed_here"]
theorem zoH:Cd zbg zn5 zgG zj9:=by decide +kernel
def zid:Stmt:=bd 58
def zmf:List Str:=["_law_table_here", "_law_standing", "_law_deed_here", "_law_found", "e"]
def ze7:List Str:=["_law_table_here", "_law_standing", "_law_deed_here"]
theorem zmt:Cd zhG zmf ze7 zid:=by decide +kernel
def zsu:Stmt:=bd 59
def zvr:List Str:=["_law_script", "_law_states", "_law_kinds", "_law_table_here", "_law_last", "_law_many", "_law_lines", "_law_house", "_law_store", "_law_standing", "_law_cell", "_law_deed_here", "_law_due", "?1?_law_k"]
def zq3:List Str:=["_law_script"]
theorem zvf:Cd ztc zvr zq3 zsu:=by decide +kernel
def zbY:Stmt:=zbt (bd 15) 0
def zei:List Str:=["self", "line"]
def zbc:List Str:=["self", "line"]
theorem zea:Cd zb3 zei zbc zbY:=by decide +kernel
def zbm:Stmt:=zbt (bd 15) 1
def zcz:List Str:=["self"]
def zaH:List Str:=["self"]
theorem zcA:Cd zbh zcz zaH zbm:=by decide +kernel
def zdC:Stmt:=zbt (bd 16) 0
def zgP:List Str:=["self", "standing", "?1?line"]
def zca:List Str:=["self", "standing"]
theorem zht:Cd zd2 zgP zca zdC:=by decide +kernel
def zbZ:Stmt:=zbt (bd 16) 1
def zec:List Str:=["self", "lines", "?1?line"]
def zbf:List Str:=["self"]
theorem zen:Cd zbW zec zbf zbZ:=by decide +kernel
def zbv:Stmt:=zbt (bd 16) 2
def zcQ:List Str:=["self", "hand", "line"]
def zaN:List Str:=["self", "hand"]
theorem zcR:Cd zbw zcQ zaN zbv:=by decide +kernel
def zbE:Stmt:=zbt (bd 16) 3
def zdv:List Str:=["self", "hand", "line"]
def zaU:List Str:=["self", "hand"]
theorem zdc:Cd zbF zdv zaU zbE:=by decide +kernel
def za7:Stmt:=zbt (bd 16) 4
def zct:List Str:=["self", "hand", "kind", "load", "line"]
def zaF:List Str:=["self", "hand", "kind", "load"]
theorem zcp:Cd za8 zct zaF za7:=by decide +kernel
def zbk:Stmt:=zbt (bd 16) 5
def zcw:List Str:=["self", "hand", "kind", "load", "line"]
def zaJ:List Str:=["self", "hand", "kind", "load"]
theorem zcx:Cd zbl zcw zaJ zbk:=by decide +kernel
def zcJ:Stmt:=zbt (bd 16) 6
def zfE:List Str:=["self", "way", "letter"]
def zbz:List Str:=["self", "way", "letter"]
theorem ze0:Cd zcK zfE zbz zcJ:=by decide +kernel
def zbH:Stmt:=zbt (bd 16) 7
def zdt:List Str:=["self", "flag", "?1?hand", "?1?line"]
def zaS:List Str:=["self", "flag"]
theorem zda:Cd zbB zdt zaS zbH:=by decide +kernel
def za9:Stmt:=zbt (bd 16) 8
def zcs:List Str:=["self", "sender", "?1?hand"]
def zaE:List Str:=["self", "sender"]
theorem zcr:Cd za5 zcs zaE za9:=by decide +kernel
def zbC:Stmt:=zbt (bd 16) 9
def zc7:List Str:=["self", "line"]
def zaT:List Str:=["self"]
theorem zc9:Cd zbD zc7 zaT zbC:=by decide +kernel
inductive DI(K:Z7)(n:Str)(s:Stmt)(dV:Value)(f:Addr)(v:FuncData):Prop|mk {oc kV dc pm cd ct:Value} {od an:Option Addr} {sl:Array (Option Value)} (a:ZR K ZV n=some (some (.ref f))) (l:K.lookup f=some ⟨oc,od,.func v,sl⟩) (e:v=Yp n n (zdh s) (zbo s) (zah s) dV kV dc pm an cd ct) (c:Xn K cd n=true) (k:Zf K (.ref f)=true)
inductive MI(K:Z7)(C:Addr)(n q:Str)(s:Stmt)(f:Addr)(v:FuncData):Prop|mk {oc kV dc pm cd ct:Value} {od an:Option Addr} {sl:Array (Option Value)} (a:ZK K (.ref C) n=some (some (.ref f))) (i:WR K (.ref f)=true) (l:K.lookup f=some ⟨oc,od,.func v,sl⟩) (e:v=Yp n q (zdh s) (zbo s) (zah s) .none kV dc pm an cd ct) (c:Xn K cd q=true) (k:Zf K (.ref f)=true)
section
variable {K:Z7}{n q:Str}{s:Stmt}{dV:Value}{f C:Addr}{v:FuncData}{N ps:List Str}{i:Nat}{B:F}(h5:(zah s).kind=.function)(h6:(zah s).isCoroutine=false)(h7:(zah s).isGenerator=false)(h8:N.take ps.length=ps)(e:P[i]?=some B)(h1:B.np=ps.length)(h2:B.ns=N.length)(h3:B.dfl=[])(c:Cd B.body N ps s)
include h5 h6 h7 h8 e h1 h2 h3 c
theorem dat0(F:Fun2 K n q s f v)(h:∀us:List Value,us.length=ps.length->bindArgs v ⟨us,[]⟩=pure (ps.zip us)):zf3 K fns cls P globs gds exs i n q s f v N ps B:=
 ⟨e, F,c.sc h5 h6 h7 h8,h1,h2,by
  rw[h3]
  exact ⟨[],λ_ _=>.nil,λj hj=>by
   obtain rfl:j=0:=Nat.le_zero.mp hj
   exact⟨[],.all h,.nil⟩⟩,c.2.2.2⟩
theorem DI.dat(D:DI K n s .none f v)(h:∀kV dc pm an cd ct,∀us:List Value,us.length=ps.length->bindArgs (Yp n n (zdh s) (zbo s) (zah s) .none kV dc pm an cd ct) ⟨us,[]⟩=pure (ps.zip us)):zf3 K fns cls P globs gds exs i n n s f v N ps B:=by obtain⟨_,l,E,c',k⟩:=D;subst E;exact dat0 h5 h6 h7 h8 e h1 h2 h3 c (zlI l c' k) (h _ _ _ _ _ _)
theorem MI.dat(D:MI K C n q s f v)(h:∀kV dc pm an cd ct,∀us:List Value,us.length=ps.length->bindArgs (Yp n q (zdh s) (zbo s) (zah s) .none kV dc pm an cd ct) ⟨us,[]⟩=pure (ps.zip us)):zf3 K fns cls P globs gds exs i n q s f v N ps B:=by obtain⟨_,_,l,E,c',k⟩:=D;subst E;exact dat0 h5 h6 h7 h8 e h1 h2 h3 c (zlI l c' k) (h _ _ _ _ _ _)
end
section
variable {K:Z7}{n q:Str}{s:Stmt}{dV:Value}{f C:Addr}{v:FuncData}
theorem DI.mg{mg:Str->Option Value}{h:Heap}(D:DI K n s dV f v)(X:K.In h)(G:h.Ns ZV mg):mg n=some (.ref f):=by obtain⟨a,_,_,_,_⟩:=D;exact Y1 X G a
theorem MI.a(D:MI K C n q s f v):ZK K (.ref C) n=some (some (.ref f)):=by obtain⟨a,_,_,_,_,_⟩:=D;exact a
theorem MI.j(D:MI K C n q s f v):WR K (.ref f)=true:=by obtain⟨_,a,_,_,_,_⟩:=D;exact a
theorem MI.k(D:MI K C n q s f v):Zf K (.ref f)=true:=by obtain⟨_,_,_,_,_,a⟩:=D;exact a
end
inductive DL(K:Z7):Nat->List F->List Addr->List FuncData->List (List Str)->Prop|nil (i:Nat):DL K i [] [] [] []|cons {i:Nat} {B:F} {Bs:List F} {f:Addr} {fs:List Addr} {v:FuncData} {vs:List FuncData} {p:List Str} {ps:List (List Str)} {x q:Str} {st:Stmt} {N:List Str} (d:zf3 K fns cls P globs gds exs i x q st f v N p B) (r:DL K (i+1) Bs fs vs ps):DL K i (B::Bs) (f::fs) (v::vs) (p::ps)
theorem DL.get{K:Z7}{v0:FuncData}{B:F}{i:Nat}{Bs:List F}{fs:List Addr}{vs:List FuncData}{ps:List (List Str)}(L:DL K i Bs fs vs ps):∀j,Bs[j]?=some B->∃x q st N,zf3 K fns cls P globs gds exs (i+j) x q st (fs.getD j 0) (vs.getD j v0) N (ps.getD j []) B:=by
 induction L with
 |nil i=>intro j e;simp at e
 | cons d r ih=>
  intro j e
  cases j with|zero=>cases e;exact⟨_,_,_,_,d⟩|succ j=>obtain⟨x,q,st,N,z⟩:=ih j (by simpa using e);rw[Nat.add_right_comm] at z;exact⟨x,q,st,N,z⟩
inductive FL(mg:Str->Option Value):List (Str×Nat×List D)->List Addr->List F->Prop|nil (fs:List Addr) (Bs:List F):FL mg [] fs Bs|cons {p:Str×Nat×List D} {ps:List (Str×Nat×List D)} {f:Addr} {fs:List Addr} {B:F} {Bs:List F} (h:mg p.1=some (.ref f)) (h1:B.np=p.2.1) (h2:B.dfl=p.2.2) (r:FL mg ps fs Bs):FL mg (p::ps) (f::fs) (B::Bs)
theorem FL.get{mg:Str->Option Value}{p:Str×Nat×List D}{ps:List (Str×Nat×List D)}{fs:List Addr}{Bs:List F}(L:FL mg ps fs Bs):∀j,ps[j]?=some p->mg p.1=some (.ref (fs.getD j 0))/\∃B,Bs[j]?=some B/\B.np=p.2.1/\B.dfl=p.2.2:=by
 induction L with
 |nil=>intro j e;simp at e
 |cons h h1 h2 r ih=>
  intro j e
  cases j with|zero=>cases e;exact⟨h,_,rfl,h1,h2⟩|succ j=>exact ih j (by simpa using e)
theorem all_mk{l:Wj}{w:World}{K:Z7}{h:Heap}{mg:Str->Option Value}{fa f1 f2 f3 f4 f5 f6 f7 f8 f9 f10 f11 f12 f13 f14 f15 f16 f17 f18 f19 f20 f21 f22 f23 f24 f25 f26 f27 f28 f29 f30 f31 f32 f33 f34 f35 f36 f37 f38 f39 f40 f41 f42 f43 f44 f45 f46 f47 f48 f49 f50 f51 f52 f53 f54 f55 ga0 ga1 ga2 Qx Qh1:Addr}(X:K.In h)(G:h.Ns ZV mg)(hfa:mg "law"=some (.ref fa))
  {gs1 gs2 gs3:Array (Option Value)} {v1 v2 v3 v4 v5 v6 v7 v8 v9 v10 v11 v12 v13 v14 v15 v16 v17 v18 v19 v20 v21 v22 v23 v24 v25 v26 v27 v28 v29 v30 v31 v32 v33 v34 v35 v36 v37 v38 v39 v40 v41 v42 v43 v44 v45 v46 v47 v48 v49 v50 v51 v52 v53 v54 v55:FuncData}
  {Qz Qo Qw xN_NoDeed:Addr}
  {xnm_NoDeed xq_NoDeed:Str} {xbs_NoDeed xsub_NoDeed:List Value} {xhd_NoDeed xab_NoDeed:Bool} {xsn_NoDeed:List Str} {xcol_NoDeed:Option Bool} {xdd_NoDeed:Option Addr} {xk0_NoDeed xk1_NoDeed xk2_NoDeed xk3_NoDeed xk5_NoDeed:Option Value}
  {yc_CopyError:Value} {yd_CopyError:Option Addr} {ycd_CopyError:ClassData} {ys_CopyError:Array (Option Value)}
  {tk0 tk1 tk2 tk3 tk4 tk5 tk6:Tok}
  {gn1 gn2 gn3:Nat}
  (D1:DI K "right_of" zgo .none f1 v1)
  (D2:DI K "hand_row" zgq .none f2 v2)
  (D3:DI K "house_row" zfw .none f3 v3)
  (D4:DI K "row_for" ziC .none f4 v4)
  (D5:DI K "is_wait" zh5 .none f5 v5)
  (D6:DI K "clash" znj .none f6 v6)
  (D7:DI K "has_version_of" zco .none f7 v7)
  (D8:DI K "letter_of" zfB .none f8 v8)
  (D9:DI K "may_be_done" zdP .none f9 v9)
  (D10:DI K "way_of" zkw .none f10 v10)
  (D11:DI K "row_for_deed" zcT .none f11 v11)
  (D12:DI K "do_deed" zie .none f12 v12)
  (D13:DI K "do_ask" zkl .none f13 v13)
  (D14:DI K "do_take" ziw .none f14 v14)
  (D15:DI K "do_get" zkr .none f15 v15)
  (D16:DI K "got_value" zfX .none f16 v16)
  (D17:DI K "without" ziB .none f17 v17)
  (D18:DI K "do_hand_row" zdA .none f18 v18)
  (D19:DI K "do_hand_act" zdK .none f19 v19)
  (D20:DI K "do_house_row" zcV .none f20 v20)
  (D21:DI K "do_house_act" zc4 .none f21 v21)
  (D22:DI K "send_from_house" zb8 .none f22 v22)
  (D23:DI K "receivers" zfc .none f23 v23)
  (D24:DI K "step" zqf .none f24 v24)
  (D25:DI K "_law_cell_at" ze4 .none f25 v25)
  (D26:DI K "_law_digits" zgk .none f26 v26)
  (D27:DI K "_law_words" zib .none f27 v27)
  (D28:DI K "_law_hand_acts" zdL .none f28 v28)
  (D29:DI K "_law_house_acts" zcX .none f29 v29)
  (D30:DI K "_law_table" zhC .none f30 v30)
  (D31:DI K "_law_value" zh8 .none f31 v31)
  (D32:DI K "_law_way" zmu .none f32 v32)
  (D33:DI K "_law_line" zj3 .none f33 v33)
  (D34:DI K "_law_deed" zjG .none f34 v34)
  (D35:DI K "_law_row" zlK .none f35 v35)
  (D36:DI K "_law_none" zkb .none f36 v36)
  (D37:DI K "_law_posted" zgx .none f37 v37)
  (D38:DI K "_law_hand_act" zeE .none f38 v38)
  (D39:DI K "_law_house_act" zdH .none f39 v39)
  (D40:DI K "_law_clashes" zfi .none f40 v40)
  (D41:DI K "_law_done" zj9 .none f41 v41)
  (D42:DI K "_law_asked" zid .none f42 v42)
  (D43:DI K "law" zsu .none f43 v43)
  (D44:MI K Qx "__init__" "OpenLine.__init__" zbY f44 v44)
  (D45:MI K Qx "as_tuple" "OpenLine.as_tuple" zbm f45 v45)
  (D46:MI K Qh1 "__init__" "Hall.__init__" zdC f46 v46)
  (D47:MI K Qh1 "as_tuple" "Hall.as_tuple" zbZ f47 v47)
  (D48:MI K Qh1 "write_value" "Hall.write_value" zbv f48 v48)
  (D49:MI K Qh1 "tell_value" "Hall.tell_value" zbE f49 v49)
  (D50:MI K Qh1 "send_to_house" "Hall.send_to_house" za7 f50 v50)
  (D51:MI K Qh1 "send_to_hand" "Hall.send_to_hand" zbk f51 v51)
  (D52:MI K Qh1 "posted" "Hall.posted" zcJ f52 v52)
  (D53:MI K Qh1 "hands_with" "Hall.hands_with" zbH f53 v53)
  (D54:MI K Qh1 "other_sharers" "Hall.other_sharers" za9 f54 v54)
  (D55:MI K Qh1 "forget_all" "Hall.forget_all" zbC f55 v55)
  (Qv:ZR K ZV "OpenLine"=some (some (.ref Qx))) (Qr:Yj K Qx Str.empty=true) (Qp:YD K Qx=true) (Qs:Xo K Qx=true) (Ql:ZK K (.ref Qx) "__setattr__"=some (some (.builtin "object.__setattr__"))) (Qm:WU K Qx=true) (Qn:Zf K (.ref Qx)=true)
  (Qb:ZK K (.ref Qx) "state"=some none)
  (Qa:ZK K (.ref Qx) "value"=some none)
  (Qe:ZK K (.ref Qx) "want"=some none)
  (Qg:ZK K (.ref Qx) "to"=some none)
  (Qd:ZK K (.ref Qx) "back"=some none)
  (Qc:ZK K (.ref Qx) "flags"=some none)
  (Qg1:ZR K ZV "Hall"=some (some (.ref Qh1))) (Qc1:Yj K Qh1 Str.empty=true) (Qa1:YD K Qh1=true) (Qd1:Xo K Qh1=true) (Qb1:ZK K (.ref Qh1) "__setattr__"=some (some (.builtin "object.__setattr__"))) (Qf1:WU K Qh1=true) (Qe1:Zf K (.ref Qh1)=true)
  (Qj:ZK K (.ref Qh1) "state"=some none)
  (Qi:ZK K (.ref Qh1) "store"=some none)
  (Qq:ZK K (.ref Qh1) "last"=some none)
  (Qk:ZK K (.ref Qh1) "lines"=some none)
  (Qf:ZK K (.ref Qh1) "answer"=some none)
  (Qh:ZK K (.ref Qh1) "broken"=some none)
  (y1:K.lookup ga0=some ⟨.type "tuple",none,.seq #[(.str (YT "read") tk0),(.str (YT "write") tk1),(.str (YT "drop") tk2)] gn1,gs1⟩)
  (x0:ZR K ZV "ASKS"=some (some (.ref ga0)))
  (x1:ZR K ZV "OWNS"=some (some (.int 2 tk3)))
  (x2:ZR K ZV "SHARES"=some (some (.int 1 tk4)))
  (y2:K.lookup ga1=some ⟨.type "tuple",none,.seq #[(.str (YT "wait") tk5)] gn2,gs2⟩)
  (y3:K.lookup ga2=some ⟨.type "tuple",none,.seq #[(.ref ga1)] gn3,gs3⟩)
  (x3:ZR K ZV "WAITS"=some (some (.ref ga2)))
  (x4:ZR K ZV "WAY_HOLDS"=some (some (.int 2 tk6)))
  (Qy:ZR K ZV "NoDeed"=some (some (.ref Qz)))
  (q1_NoDeed:K.lookup Qz=some (excClassObj xnm_NoDeed xq_NoDeed Qz xN_NoDeed xbs_NoDeed (.ref Qo::veM) xhd_NoDeed xsn_NoDeed xsub_NoDeed xab_NoDeed xcol_NoDeed xdd_NoDeed xk0_NoDeed xk1_NoDeed xk2_NoDeed xk3_NoDeed xk5_NoDeed "ValueError.__new__"))
  (q2_NoDeed:Xi K xN_NoDeed=true) (q3_NoDeed:ZR K xN_NoDeed "__init__"=some none) (q7_NoDeed:Yc K (.ref Qz) (.ref Qz)=some true)
  (q4_CopyError:K.lookup Qo=some ⟨yc_CopyError,yd_CopyError,.cls ycd_CopyError,ys_CopyError⟩) (q5_CopyError:Xi K ycd_CopyError.ns=true) (q6_CopyError:ZR K ycd_CopyError.ns "__init__"=some none)
  (Qt:ZR K ZV "CopyError"=some (some (.ref Qo)))
  (Qu:ZR K ZV "BadTable"=some (some (.ref Qw)))
  (qz_ValueError:ZR K ZV "ValueError"=some none)
  (q8_NoDeed_CopyError:Yc K (.ref Qz) (.ref Qo)=some true)
  (qk_NoDeed_NoDeed:Yb K (.ref Qz) (.ref Qz)=some true)
  (qk_NoDeed_BadTable:Yb K (.ref Qz) (.ref Qw)=some false)
  (qk_NoDeed_ValueError:Yb K (.ref Qz) (.type "ValueError")=some true)
  (qa_NoDeed:ZK K (.ref Qz) "__getattribute__"=some (some (.builtin "BaseException.__getattribute__"))) (qb_NoDeed:ZK K (.ref Qz) "__getattr__"=some none) (qc_NoDeed:ZK K (.ref Qz) "__class__"=some (some (.builtin "object.__class__"))) (qd_NoDeed:PySem.W.mroIn K Qz (.type "BaseException")=some true) (qe_NoDeed:PySem.W.mroIn K Qz (.type "object")=some true) (qf_NoDeed:YD K Qz=true)
  (z1:ZR K ZV "len"=some none)
  (z2:ZR K ZV "sum"=some none)
  (z3:ZR K ZV "tuple"=some none)
  (z4:ZR K ZV "int"=some none)
  (z5:ZR K ZV "range"=some none)
  (z6:ZR K ZV "all"=some none)
  (z7:ZR K ZV "any"=some none)
  (z8:ZR K ZV "max"=some none)
  (z9:ZR K ZV "min"=some none)
  (z10:ZR K ZV "list"=some none)
  (z11:ZR K ZV "isinstance"=some none)
  (z12:ZR K ZV "str"=some none)
  (z13:ZR K ZV "bool"=some none)
  (z14:ZR K ZV "dict"=some none)
  (z15:ZR K ZV "enumerate"=some none)
  (z16:ZR K ZV "sorted"=some none)
  (z17:ZR K ZV "set"=some none)
  : ∃fd:FuncData,(∀(s:Shared) (v:Value),V5 s fd ⟨[v],[]⟩ [("_law_script",v)])/\∀base:Heap,K.In base->base.Ns ZV mg->FnOk l.prog w K mg base CX0 24 fa fd ["_law_script"] (spF K 1 (zad P 12 42)):=by
 have e:=hfa.symm.trans (D43.mg X G);cases e
 have blt:∀x∈zeS,mg x=none:=by
  intro x hx;simp only[zeS,ZQ,Zq,or_false] at hx
  rcases hx with rfl | rfl | rfl | rfl | rfl | rfl | rfl | rfl | rfl | rfl | rfl | rfl | rfl | rfl | rfl | rfl | rfl
  ·exact ZD X G z1
  ·exact ZD X G z2
  ·exact ZD X G z3
  ·exact ZD X G z4
  ·exact ZD X G z5
  ·exact ZD X G z6
  ·exact ZD X G z7
  ·exact ZD X G z8
  ·exact ZD X G z9
  ·exact ZD X G z10
  ·exact ZD X G z11
  ·exact ZD X G z12
  ·exact ZD X G z13
  ·exact ZD X G z14
  ·exact ZD X G z15
  ·exact ZD X G z16
  ·exact ZD X G z17
 have gl:∀(x:Str) (d:D),globs.lookup x=some d->∃u v,mg x=some u/\RelV v u/\∀A H,RepD K A H d v:=by
  intro x d e;unfold globs at e;rw[Zw] at e
  split at e
  ·rename_i hx
   have hx:=Z3 hx;subst hx;cases e
   exact⟨_,(V.ref ga0),Y1 X G x0,rfl,λA H=>by simp only[RepD];exact⟨ga0,[(V.str (YT "read")),(V.str (YT "write")),(V.str (YT "drop"))],rfl,.inr ⟨_,_,_,y1,rfl,rfl,rfl,by show 3<=sizeLine;decide,(.cons ⟨_,rfl⟩ (.cons ⟨_,rfl⟩ (.cons ⟨_,rfl⟩ .nil)))⟩,(.cons (by simp only[RepD];rfl) (.cons (by simp only[RepD];rfl) (.cons (by simp only[RepD];rfl) .nil)))⟩⟩
  rw[Zw] at e
  split at e
  ·rename_i hx
   have hx:=Z3 hx;subst hx;cases e;exact⟨_,(V.int 2),Y1 X G x1,⟨_,rfl⟩,λA H=>by simp only[RepD]⟩
  rw[Zw] at e
  split at e
  ·rename_i hx
   have hx:=Z3 hx;subst hx;cases e;exact⟨_,(V.int 1),Y1 X G x2,⟨_,rfl⟩,λA H=>by simp only[RepD]⟩
  rw[Zw] at e
  split at e
  ·rename_i hx
   have hx:=Z3 hx;subst hx;cases e
   exact⟨_,(V.ref ga2),Y1 X G x3,rfl,λA H=>by simp only[RepD];exact⟨ga2,[(V.ref ga1)],rfl,.inr ⟨_,_,_,y3,rfl,rfl,rfl,by show 1<=sizeLine;decide,(.cons rfl .nil)⟩,(.cons (by simp only[RepD];exact⟨ga1,[(V.str (YT "wait"))],rfl,.inr ⟨_,_,_,y2,rfl,rfl,rfl,by show 1<=sizeLine;decide,(.cons ⟨_,rfl⟩ .nil)⟩,(.cons (by simp only[RepD];rfl) .nil)⟩) .nil)⟩⟩
  rw[Zw] at e
  split at e
  ·rename_i hx
   have hx:=Z3 hx;subst hx;cases e;exact⟨_,(V.int 2),Y1 X G x4,⟨_,rfl⟩,λA H=>by simp only[RepD]⟩
  cases e
 let exA:List Addr:=[Qz]
 let addr:Nat->Addr:=λn=>[f1,f2,f3,f4,f5,f6,f7,f8,f9,f10,f11,f12,f13,f14,f15,f16,f17,f18,f19,f20,f21,f22,f23,f24,f25,f26,f27,f28,f29,f30,f31,f32,f33,f34,f35,f36,f37,f38,f39,f40,f41,f42,fa,f44,f45,f46,f47,f48,f49,f50,f51,f52,f53,f54,f55].getD n 0
 let psOf:Nat->List Str:=λn=>[zeu,zd7,zdj,zfI,zfq,zjx,zbr,zdr,zcj,zgK,zbU,zff,zho,ze8,zhh,zdn,zfl,zcd,zcg,zbS,zbR,zbd,zdf,zmc,zdx,zd8,ze2,zch,zbV,zfn,zfU,zjg,zg7,zg5,ziY,zgE,zej,zcD,zci,zdk,zgG,ze7,zq3,zbc,zaH,zca,zbf,zaN,zaU,zaF,zaJ,zbz,zaS,zaE,zaT].getD n []
 let fdOf:Nat->FuncData:=λn=>[v1,v2,v3,v4,v5,v6,v7,v8,v9,v10,v11,v12,v13,v14,v15,v16,v17,v18,v19,v20,v21,v22,v23,v24,v25,v26,v27,v28,v29,v30,v31,v32,v33,v34,v35,v36,v37,v38,v39,v40,v41,v42,v43,v44,v45,v46,v47,v48,v49,v50,v51,v52,v53,v54,v55].getD n v1
 have T:Txt w K mg fns cls P globs gds exs exA addr fdOf psOf:=by
  refine⟨λfi B e=>?_,blt,gl,λfi p e=>?_,?_,?_,?_,λc x e=>?_,by decide⟩
  ·have L:DL K 0 P [f1,f2,f3,f4,f5,f6,f7,f8,f9,f10,f11,f12,f13,f14,f15,f16,f17,f18,f19,f20,f21,f22,f23,f24,f25,f26,f27,f28,f29,f30,f31,f32,f33,f34,f35,f36,f37,f38,f39,f40,f41,f42,fa,f44,f45,f46,f47,f48,f49,f50,f51,f52,f53,f54,f55] [v1,v2,v3,v4,v5,v6,v7,v8,v9,v10,v11,v12,v13,v14,v15,v16,v17,v18,v19,v20,v21,v22,v23,v24,v25,v26,v27,v28,v29,v30,v31,v32,v33,v34,v35,v36,v37,v38,v39,v40,v41,v42,v43,v44,v45,v46,v47,v48,v49,v50,v51,v52,v53,v54,v55] [zeu,zd7,zdj,zfI,zfq,zjx,zbr,zdr,zcj,zgK,zbU,zff,zho,ze8,zhh,zdn,zfl,zcd,zcg,zbS,zbR,zbd,zdf,zmc,zdx,zd8,ze2,zch,zbV,zfn,zfU,zjg,zg7,zg5,ziY,zgE,zej,zcD,zci,zdk,zgG,ze7,zq3,zbc,zaH,zca,zbf,zaN,zaU,zaF,zaJ,zbz,zaS,zaE,zaT]:=.cons (DI.dat rfl rfl rfl rfl rfl rfl rfl rfl zlx D1 λ_ _ _ _ _ _=>us2 λ_ _=>rfl) (.cons (DI.dat rfl rfl rfl rfl rfl rfl rfl rfl zlz D2 λ_ _ _ _ _ _=>us3 λ_ _ _=>rfl) (.cons (DI.dat rfl rfl rfl rfl rfl rfl rfl rfl zjo D3 λ_ _ _ _ _ _=>us4 λ_ _ _ _=>rfl) (.cons (DI.dat rfl rfl rfl rfl rfl rfl rfl rfl zmq D4 λ_ _ _ _ _ _=>us2 λ_ _=>rfl) (.cons (DI.dat rfl rfl rfl rfl rfl rfl rfl rfl znk D5 λ_ _ _ _ _ _=>us1 λ_=>rfl) (.cons (DI.dat rfl rfl rfl rfl rfl rfl rfl rfl zqw D6 λ_ _ _ _ _ _=>us2 λ_ _=>rfl) (.cons (DI.dat rfl rfl rfl rfl rfl rfl rfl rfl zeH D7 λ_ _ _ _ _ _=>us2 λ_ _=>rfl) (.cons (DI.dat rfl rfl rfl rfl rfl rfl rfl rfl zjb D8 λ_ _ _ _ _ _=>us3 λ_ _ _=>rfl) (.cons (DI.dat rfl rfl rfl rfl rfl rfl rfl rfl zgU D9 λ_ _ _ _ _ _=>us3 λ_ _ _=>rfl) (.cons (DI.dat rfl rfl rfl rfl rfl rfl rfl rfl zoi D10 λ_ _ _ _ _ _=>us2 λ_ _=>rfl) (.cons (DI.dat rfl rfl rfl rfl rfl rfl rfl rfl zge D11 λ_ _ _ _ _ _=>us3 λ_ _ _=>rfl) (.cons (DI.dat rfl rfl rfl rfl rfl rfl rfl rfl zlQ D12 λ_ _ _ _ _ _=>us3 λ_ _ _=>rfl) (.cons (DI.dat rfl rfl rfl rfl rfl rfl rfl rfl zpa D13 λ_ _ _ _ _ _=>us3 λ_ _ _=>rfl) (.cons (DI.dat rfl rfl rfl rfl rfl rfl rfl rfl zmd D14 λ_ _ _ _ _ _=>us3 λ_ _ _=>rfl) (.cons (DI.dat rfl rfl rfl rfl rfl rfl rfl rfl zoO D15 λ_ _ _ _ _ _=>us3 λ_ _ _=>rfl) (.cons (DI.dat rfl rfl rfl rfl rfl rfl rfl rfl zjD D16 λ_ _ _ _ _ _=>us3 λ_ _ _=>rfl) (.cons (DI.dat rfl rfl rfl rfl rfl rfl rfl rfl zmL D17 λ_ _ _ _ _ _=>us2 λ_ _=>rfl) (.cons (DI.dat rfl rfl rfl rfl rfl rfl rfl rfl zg8 D18 λ_ _ _ _ _ _=>us4 λ_ _ _ _=>rfl) (.cons (DI.dat rfl rfl rfl rfl rfl rfl rfl rfl zgS D19 λ_ _ _ _ _ _=>us4 λ_ _ _ _=>rfl) (.cons (DI.dat rfl rfl rfl rfl rfl rfl rfl rfl zgf D20 λ_ _ _ _ _ _=>us4 λ_ _ _ _=>rfl) (.cons (DI.dat rfl rfl rfl rfl rfl rfl rfl rfl zf6 D21 λ_ _ _ _ _ _=>us4 λ_ _ _ _=>rfl) (.cons (DI.dat rfl rfl rfl rfl rfl rfl rfl rfl zer D22 λ_ _ _ _ _ _=>us3 λ_ _ _=>rfl) (.cons (DI.dat rfl rfl rfl rfl rfl rfl rfl rfl zi4 D23 λ_ _ _ _ _ _=>us3 λ_ _ _=>rfl) (.cons (DI.dat rfl rfl rfl rfl rfl rfl rfl rfl zst D24 λ_ _ _ _ _ _=>us3 λ_ _ _=>rfl) (.cons (DI.dat rfl rfl rfl rfl rfl rfl rfl rfl zjt D25 λ_ _ _ _ _ _=>us2 λ_ _=>rfl) (.cons (DI.dat rfl rfl rfl rfl rfl rfl rfl rfl zls D26 λ_ _ _ _ _ _=>us3 λ_ _ _=>rfl) (.cons (DI.dat rfl rfl rfl rfl rfl rfl rfl rfl zmX D27 λ_ _ _ _ _ _=>us1 λ_=>rfl) (.cons (DI.dat rfl rfl rfl rfl rfl rfl rfl rfl zhm D28 λ_ _ _ _ _ _=>us3 λ_ _ _=>rfl) (.cons (DI.dat rfl rfl rfl rfl rfl rfl rfl rfl zf9 D29 λ_ _ _ _ _ _=>us2 λ_ _=>rfl) (.cons (DI.dat rfl rfl rfl rfl rfl rfl rfl rfl zmO D30 λ_ _ _ _ _ _=>us3 λ_ _ _=>rfl) (.cons (DI.dat rfl rfl rfl rfl rfl rfl rfl rfl zmC D31 λ_ _ _ _ _ _=>us2 λ_ _=>rfl) (.cons (DI.dat rfl rfl rfl rfl rfl rfl rfl rfl zrr D32 λ_ _ _ _ _ _=>us3 λ_ _ _=>rfl) (.cons (DI.dat rfl rfl rfl rfl rfl rfl rfl rfl zo8 D33 λ_ _ _ _ _ _=>us4 λ_ _ _ _=>rfl) (.cons (DI.dat rfl rfl rfl rfl rfl rfl rfl rfl zpA D34 λ_ _ _ _ _ _=>us2 λ_ _=>rfl) (.cons (DI.dat rfl rfl rfl rfl rfl rfl rfl rfl zsf D35 λ_ _ _ _ _ _=>us3 λ_ _ _=>rfl) (.cons (DI.dat rfl rfl rfl rfl rfl rfl rfl rfl zo0 D36 λ_ _ _ _ _ _=>us3 λ_ _ _=>rfl) (.cons (DI.dat rfl rfl rfl rfl rfl rfl rfl rfl zkI D37 λ_ _ _ _ _ _=>us4 λ_ _ _ _=>rfl) (.cons (DI.dat rfl rfl rfl rfl rfl rfl rfl rfl zhN D38 λ_ _ _ _ _ _=>us4 λ_ _ _ _=>rfl) (.cons (DI.dat rfl rfl rfl rfl rfl rfl rfl rfl zhk D39 λ_ _ _ _ _ _=>us4 λ_ _ _ _=>rfl) (.cons (DI.dat rfl rfl rfl rfl rfl rfl rfl rfl zjd D40 λ_ _ _ _ _ _=>us2 λ_ _=>rfl) (.cons (DI.dat rfl rfl rfl rfl rfl rfl rfl rfl zoH D41 λ_ _ _ _ _ _=>us3 λ_ _ _=>rfl) (.cons (DI.dat rfl rfl rfl rfl rfl rfl rfl rfl zmt D42 λ_ _ _ _ _ _=>us3 λ_ _ _=>rfl) (.cons (DI.dat rfl rfl rfl rfl rfl rfl rfl rfl zvf D43 λ_ _ _ _ _ _=>us1 λ_=>rfl) (.cons (MI.dat rfl rfl rfl rfl rfl rfl rfl rfl zea D44 λ_ _ _ _ _ _=>us2 λ_ _=>rfl) (.cons (MI.dat rfl rfl rfl rfl rfl rfl rfl rfl zcA D45 λ_ _ _ _ _ _=>us1 λ_=>rfl) (.cons (MI.dat rfl rfl rfl rfl rfl rfl rfl rfl zht D46 λ_ _ _ _ _ _=>us2 λ_ _=>rfl) (.cons (MI.dat rfl rfl rfl rfl rfl rfl rfl rfl zen D47 λ_ _ _ _ _ _=>us1 λ_=>rfl) (.cons (MI.dat rfl rfl rfl rfl rfl rfl rfl rfl zcR D48 λ_ _ _ _ _ _=>us2 λ_ _=>rfl) (.cons (MI.dat rfl rfl rfl rfl rfl rfl rfl rfl zdc D49 λ_ _ _ _ _ _=>us2 λ_ _=>rfl) (.cons (MI.dat rfl rfl rfl rfl rfl rfl rfl rfl zcp D50 λ_ _ _ _ _ _=>us4 λ_ _ _ _=>rfl) (.cons (MI.dat rfl rfl rfl rfl rfl rfl rfl rfl zcx D51 λ_ _ _ _ _ _=>us4 λ_ _ _ _=>rfl) (.cons (MI.dat rfl rfl rfl rfl rfl rfl rfl rfl ze0 D52 λ_ _ _ _ _ _=>us3 λ_ _ _=>rfl) (.cons (MI.dat rfl rfl rfl rfl rfl rfl rfl rfl zda D53 λ_ _ _ _ _ _=>us2 λ_ _=>rfl) (.cons (MI.dat rfl rfl rfl rfl rfl rfl rfl rfl zcr D54 λ_ _ _ _ _ _=>us2 λ_ _=>rfl) (.cons (MI.dat rfl rfl rfl rfl rfl rfl rfl rfl zc9 D55 λ_ _ _ _ _ _=>us1 λ_=>rfl) (.nil _)))))))))))))))))))))))))))))))))))))))))))))))))))))))
   have z:=DL.get (v0:=v1) L fi e;rw[Nat.zero_add] at z;exact z
  ·exact FL.get (show FL mg fns [f1,f2,f3,f4,f5,f6,f7,f8,f9,f10,f11,f12,f13,f14,f15,f16,f17,f18,f19,f20,f21,f22,f23,f24,f25,f26,f27,f28,f29,f30,f31,f32,f33,f34,f35,f36,f37,f38,f39,f40,f41,f42,fa,f44,f45,f46,f47,f48,f49,f50,f51,f52,f53,f54,f55] P from .cons (D1.mg X G) rfl rfl (.cons (D2.mg X G) rfl rfl (.cons (D3.mg X G) rfl rfl (.cons (D4.mg X G) rfl rfl (.cons (D5.mg X G) rfl rfl (.cons (D6.mg X G) rfl rfl (.cons (D7.mg X G) rfl rfl (.cons (D8.mg X G) rfl rfl (.cons (D9.mg X G) rfl rfl (.cons (D10.mg X G) rfl rfl (.cons (D11.mg X G) rfl rfl (.cons (D12.mg X G) rfl rfl (.cons (D13.mg X G) rfl rfl (.cons (D14.mg X G) rfl rfl (.cons (D15.mg X G) rfl rfl (.cons (D16.mg X G) rfl rfl (.cons (D17.mg X G) rfl rfl (.cons (D18.mg X G) rfl rfl (.cons (D19.mg X G) rfl rfl (.cons (D20.mg X G) rfl rfl (.cons (D21.mg X G) rfl rfl (.cons (D22.mg X G) rfl rfl (.cons (D23.mg X G) rfl rfl (.cons (D24.mg X G) rfl rfl (.cons (D25.mg X G) rfl rfl (.cons (D26.mg X G) rfl rfl (.cons (D27.mg X G) rfl rfl (.cons (D28.mg X G) rfl rfl (.cons (D29.mg X G) rfl rfl (.cons (D30.mg X G) rfl rfl (.cons (D31.mg X G) rfl rfl (.cons (D32.mg X G) rfl rfl (.cons (D33.mg X G) rfl rfl (.cons (D34.mg X G) rfl rfl (.cons (D35.mg X G) rfl rfl (.cons (D36.mg X G) rfl rfl (.cons (D37.mg X G) rfl rfl (.cons (D38.mg X G) rfl rfl (.cons (D39.mg X G) rfl rfl (.cons (D40.mg X G) rfl rfl (.cons (D41.mg X G) rfl rfl (.cons (D42.mg X G) rfl rfl (.cons (D43.mg X G) rfl rfl (.nil _ _)))))))))))))))))))))))))))))))))))))))))))) fi e
  ·intro ci hc
   unfold cls at hc;simp only[ZQ,Zq,or_false] at hc
   rcases hc with rfl | rfl
   ·exact⟨Qx,_,Y1 X G Qv,Qv,⟨Qr,Qp,Qs,Ql⟩,⟨Qm,D44.a,D44.j,Qn⟩,rfl,rfl⟩
   ·exact⟨Qh1,_,Y1 X G Qg1,Qg1,⟨Qc1,Qa1,Qd1,Qb1⟩,⟨Qf1,D46.a,D46.j,Qe1⟩,rfl,rfl⟩
  ·intro ci hc
   unfold cls at hc;simp only[ZQ,Zq,or_false] at hc
   rcases hc with rfl | rfl
   ·intro pm hp
    simp only[ZQ,Zq,or_false] at hp
    rcases hp with rfl
    ·exact⟨Qx,_,Qv,⟨Qr,Qp,Qs,Ql⟩,⟨D45.a,D45.j,D45.k⟩,rfl,rfl⟩
   ·intro pm hp
    simp only[ZQ,Zq,or_false] at hp
    rcases hp with rfl | rfl | rfl | rfl | rfl | rfl | rfl | rfl | rfl
    ·exact⟨Qh1,_,Qg1,⟨Qc1,Qa1,Qd1,Qb1⟩,⟨D47.a,D47.j,D47.k⟩,rfl,rfl⟩
    ·exact⟨Qh1,_,Qg1,⟨Qc1,Qa1,Qd1,Qb1⟩,⟨D48.a,D48.j,D48.k⟩,rfl,rfl⟩
    ·exact⟨Qh1,_,Qg1,⟨Qc1,Qa1,Qd1,Qb1⟩,⟨D49.a,D49.j,D49.k⟩,rfl,rfl⟩
    ·exact⟨Qh1,_,Qg1,⟨Qc1,Qa1,Qd1,Qb1⟩,⟨D50.a,D50.j,D50.k⟩,rfl,rfl⟩
    ·exact⟨Qh1,_,Qg1,⟨Qc1,Qa1,Qd1,Qb1⟩,⟨D51.a,D51.j,D51.k⟩,rfl,rfl⟩
    ·exact⟨Qh1,_,Qg1,⟨Qc1,Qa1,Qd1,Qb1⟩,⟨D52.a,D52.j,D52.k⟩,rfl,rfl⟩
    ·exact⟨Qh1,_,Qg1,⟨Qc1,Qa1,Qd1,Qb1⟩,⟨D53.a,D53.j,D53.k⟩,rfl,rfl⟩
    ·exact⟨Qh1,_,Qg1,⟨Qc1,Qa1,Qd1,Qb1⟩,⟨D54.a,D54.j,D54.k⟩,rfl,rfl⟩
    ·exact⟨Qh1,_,Qg1,⟨Qc1,Qa1,Qd1,Qb1⟩,⟨D55.a,D55.j,D55.k⟩,rfl,rfl⟩
  ·intro ci hc
   unfold cls at hc;simp only[ZQ,Zq,or_false] at hc
   rcases hc with rfl | rfl
   ·intro fl hf A hA
    cases (Qv.symm.trans hA)
    simp only[ZQ,Zq,or_false] at hf
    rcases hf with rfl | rfl | rfl | rfl | rfl | rfl
    ·exact Qb
    ·exact Qa
    ·exact Qe
    ·exact Qg
    ·exact Qd
    ·exact Qc
   ·intro fl hf A hA
    cases (Qg1.symm.trans hA)
    simp only[ZQ,Zq,or_false] at hf
    rcases hf with rfl | rfl | rfl | rfl | rfl | rfl
    ·exact Qj
    ·exact Qi
    ·exact Qq
    ·exact Qk
    ·exact Qf
    ·exact Qh
  ·unfold exs at e
   match c,e with
   | 0,e=>cases e;exact⟨Qz,Y1 X G Qy,rfl,⟨_,_,_,_,_,_,_,_,_,_,_,_,_,_,_,_,q1_NoDeed,q2_NoDeed,q3_NoDeed,λh Xh=>(zpC Xh q4_CopyError q5_CopyError q6_CopyError .base)⟩,q7_NoDeed,⟨(λy hy=>by
     simp only[ZQ,Zq,or_false] at hy
     rcases hy with rfl
     ·exact⟨Qo,Y1 X G Qt,q8_NoDeed_CopyError⟩),
    .inr ⟨⟨qa_NoDeed,qb_NoDeed,qc_NoDeed,qd_NoDeed,qe_NoDeed⟩,qf_NoDeed,⟨_,_,_,_,q1_NoDeed⟩⟩,
    (fun p hp=>by
     simp only[ZQ,Zq,or_false] at hp
     rcases hp with rfl | rfl | rfl
     ·exact .own Qz (Y1 X G Qy) qk_NoDeed_NoDeed
     ·exact .own Qw (Y1 X G Qu) qk_NoDeed_BadTable
     ·exact .blt "ValueError" (ZD X G qz_ValueError) (by decide +kernel) (by decide) qk_NoDeed_ValueError)⟩⟩
   |n+1,e=>exact absurd (Z9.mp e).1 (by show ¬(n+1<1);omega)
 obtain⟨_,_,E,_,_⟩:=D43;subst E;exact⟨_,λs v=>.of_eq rfl,λbase _ _=>zqO T 12 42 _ rfl⟩
theorem walk{l:Wj}{q:Zx}{loose:List Str}{XP:(Str->Option Value)->Heap->Prop}{YP:World->Heap->Prop}{d:DefRec}{K:Params->Z7}(hn:l.most=some 63)(hdf:d.params.defaults=[])
  (hY:∀(w:World) (h:Heap),YP w h->(K w.params).In h)
  (F:∀(w:World) (mg:Str->Option Value) (fa:Addr) (h:Heap),(K w.params).In h->h.Ns ZV mg->mg d.name=some (.ref fa) →
   ∃fd:FuncData,(∀(s:Shared) (u:Value),V5 s fd ⟨[u],[]⟩ [("_law_script",u)])/\∀base:Heap,(K w.params).In base->base.Ns ZV mg->FnOk l.prog w (K w.params) mg base CX0 24 fa fd ["_law_script"] (spF (K w.params) 1 (zad P 12 42))):
  PySem.W.WalkO q loose XP YP l.row.toRowW d [] (λf vs=>PySem.call f vs):=
 L2.walk_of (n:=63) (k:=24) (x:="_law_script") (CX:=λ_=>CX0) (sp:=λw=>spF (K w.params) 1 (zad P 12 42)) hn (by decide) hdf ⟨rfl,by decide,by decide⟩ hY F
  (λ_ _ a ns hl _ hS=>zlF hS (zoJ hl)) λ_ _ _ _ _ z=>z
end K21
open PySem PySem.W PyProof.Rows
inductive PySem.W.Fast:Prop|tw8247976667879239404|tw8092683550109421031|tw6116476735353712|tw7419640337080709123|tw6905905329906130830|tw12265829012622612479|tw7527843734170020081|tw3824365890334455309|tw8861730874787264781|tw14627617881617315547|tw8364153195104522584|tw14364897227809684337|tw18297540443758031335|tw14178664665951332827|tw2192046709014278719|tw5045154024353155477|tw1428568386831877894|tw15164296411281941190|tw12864770030068771936|tw15199687205846138673|tw17844801291749552696|tw16346155761664887750|tw12324429533752800329|tw15673534927972269412|tw15822429865060316653|tw8697432672150109916|tw2826117664686448307|tw1079355732133714581|tw9904965778025122301|tw12677398404250260549|tw5125313881495759539|tw14165144143036413481|tw14463434155798535711|tw14950835545986309780|tw2476256098869607541|tw15759172178350853151|tw8347128502771392831|tw16991558605383005245|tw12324308204820116822|tw9702621796896299913|tw17957179775448837327|tw6067762145132082931|tw14009263736035915758|tw2981268133537435892|tw15927996971254801137|tw1313297488278169111|tw1552071645803698505|tw11528476311702966174|tw18166654105107235855|tw2759394197424636059|tw13863396870785886490|tw10405036147785697806|tw6752603264723360745|tw6377548879328680057|tw15815051876501359927|tw7781493560865952624|tw8980377123185637877|tw1988317774102682240|tw992852886501011691|tw16161997849878908627|tw2699522905378757021|tw1958905301424263643|tw6406995781945143908|tw13168205667358693582|tw1609255053100016296|tw314945269385266102|tw15590943357565629198|tw6684798205192792280|tw7694099691037725502|tw9362708181408083502|tw12403365473672271409|tw14979169235587351802|tw5023627595007838784|tw16163210182563978836|tw6555084558016966263|tw14337236025754472235|tw12791732732359519143|tw15684447732968704030|tw15866718049645566580|tw5131238012868658725|tw6192239418856608463|tw12104166504491846904|tw4011897701940886145|tw9689866830111272136|tw17952813339506815372|tw1283959857032856420|tw14921963050381290335|tw9125237523215678639|tw6619879059917746649|tw1408078874707380095|tw14812776032918017964|tw11502935426143130382|tw15013794626837052647|tw9386240152277665040|tw7289652003404831998|tw7864053719662173735|tw3338643969848350773|tw253208531602335802|tw15753160485609012372|tw12760264405023874427|tw2819787623674614281|tw11858006588196154170|tw9116513006399101640|tw48543749330092487|tw10643877157080898779|tw7445678834469862402|tw15373813311345629483|tw8362165830167638592|tw16081296093397035044|tw10709674279589144200|tw16786018688533929187|tw16979677503443794795|tw13519620912163448281|tw10681594772353441912|tw1337142540102990005|tw11548715710469949142|tw13443874275790253013|tw10155659604621085707|tw10758067396218378010|tw5321141325267889229|tw1793738824499203221|tw2771861486773009612|tw18179590855047084142|tw11014793592898388300|tw14543007516511457061|tw11897487648871063385|tw7893682293976536959|tw7253545454196499716|tw1492645445274339163|tw6955095211411570938|tw10375661267395687396|tw536738013742095470|tw17309222615094633527|tw13835459534852684802|tw13074938133276383086|tw17007491149379912734|tw17657174513775269695|tw3534929578401539830|tw3681435200619585979|tw6500584538248524816|tw5476406707865198659|tw294901665840400207|tw12830822016052110940|tw5235295825396257261|tw9092693546316668570|tw10692592406331893610|tw14352075501655106914|tw18351466129293373127|tw4274938680253322028|tw11472683436544767955|tw4874612079922573604|tw17826028428164936719|tw14821670614706640742|tw4123500988835616713|tw17996418163799095765|tw8218455784007008850|tw11439613212605127181|tw11900972869712673837|tw14312735170670818357|tw14448203640899781114|tw3344899131832469919|tw7449143048445461428|tw17576031164760111324|tw14565050324282211743|tw16931321525041684431|tw5185370784695940002|tw15906127121528471849|tw10397496633556126765|tw13524245860619138595|tw2069633219031130835|tw10838718780681289727|tw4762844013036465021|tw9671104821310403014|tw754325969391989999|tw14927285309563847938|tw3929790783101058390|tw11513642192595083679|tw6222511112346532811|tw2575302643724115617|tw8723509642562758605|tw13381707607191695163|tw856176053146838160|tw16468038277255753760|tw3843972656357064472|tw348262043472391033|tw1458477851522840038|tw18293735051154555637|tw16253475515096789231|tw7006298463160346948|tw902500445661833009|tw7819648394834754384|tw14099328212199431841|tw2024578926787485453|tw3031530012784569600|tw14876538106416016237|tw1453437400422335083|tw15385799247738712102|tw11966028581612528072|tw7045555058772769080|tw14963722949580563769|tw13818639082979393908|tw882918986996770855|tw4930022681795284982|tw9696760740784520552|tw3444848583717433594|tw11217222662956840439|tw5468699641893352415|tw1777715692265780761|tw14514129355032545787|tw8004794338064567895|tw13709361315803699184|tw14447022518484847575|tw6887403277527994094|tw11580072130653006011|tw9785462696924300798|tw13021965241377186886|tw3400385773097773333|tw11099718836728758528|tw17559028136558824764|tw11649819795661835190|tw17138200874344410167|tw15974273194456657058|tw11778195629294897579|tw13717754317766860759|tw9300193303453781335|tw11253596453296137401|tw11343842407462840222|tw12951953018857155519|tw3678637376988941057|tw14514147160946585244|tw13059455474795923704|tw2870266569714809348|tw10719770428904781535|tw14734849675334950035|tw4458150316622024380|tw14393119703410819569|tw10970104347274897322|tw3132078371123174006|tw6345748850392508029|tw10505925518210969531|tw10847277381722722495|tw12069313481114218383|tw1574572206372714156|tw17907200811686310007|tw17238590107380623513|tw5402744673292783862|tw6410574089812728234|tw11136875220568392095|tw14737682209435802279|tw5418472636541262772|tw11170922482743762016|tw14322139441547377557|tw9420622479933008562|tw7192353420438079753|tw9701436300436144707|tw5356991761393669549|tw3256911980599439146|tw7962704478171062685|tw8179209744747452802|tw12041955331351093636|tw16394184368355331999|tw7589586447983552830|tw13093436763829494138|tw15318727436580425885|tw7356221895163728849|tw17698430923193201529|tw9997230232029448450|tw3509498634727957|tw12079490989701525150|tw2732833225541550258|tw13437203867415906393|tw3283282869858239604|tw9090459930206902897|tw5259598851912752289|tw5991662551976528845|tw14770887616123210504|tw4348142050715216832|tw980670118215987637|tw2206658140654287752|tw12235734085840535793|tw498761939042819612|tw14417138616823709010|tw6981952080139969048|tw7806055775535327177|tw16175250210100034766|tw9320813087243359369|tw15774975287367398487|tw2247350258034230610|tw17514571806375662423|tw2131584815765647067|tw18400556007260585942|tw6373580587556027676|tw450391696062320574|tw16482406157573865173|tw623879076919059094|tw1007115925809185793|tw18296453020614120792|tw2340739609643583401|tw14772274296649933227|tw1225937000325937622|tw3840758738141597288|tw2420204264858614028|tw2506594710782368093|tw104908148202961106|tw16839797879606517296|tw11666941882419714263|tw15982913877317726428|tw14061699480786143412|tw10733771807206958825|tw14092234476916125587|tw6493024844515801903|tw11764794430874604292|tw4474994364336837475|tw13196279596952540671|tw3347990396700371864|tw9729072323857503608|tw14168558057654946616|tw5164354323614617571|tw12450228829936859952|tw11400239094872661139|tw5222145829678066138|tw11142958077800092148|tw473867042551128043|tw6150448850729974644|tw10236462715231279742|tw7846939985267178352|tw657939664210561634|tw15927166259111101641|tw18261406624021181868|tw9341343063240781483|tw10081509654182725004|tw5346844726185259541|tw7827952650168814737|tw197298666217936281|tw3659121567913721266|tw13885951941650340969|tw14407818465058496544|tw2964786669847670700|tw5230225250597849502|tw14430787005339136631|tw17262950111775089246|tw13695601060333559505|tw11095898955211593176|tw18375036306489322216|tw7429985505879428929|tw13051007206528330030|tw11239951323380802873|tw18171020640480316213|tw6662075818442582207|tw2562462689565447625|tw550783777851828646|tw15434833667904520623|tw17749801358568632570|tw5515817932167245261|tw7517116236057483443|tw16652540446845384820|tw15385475791242715826|tw14363733180660007985|tw11955790030538429907|tw11758675034452777232|tw9764690395444237362|tw5042095910760572398|tw4772377203341359100|tw3052832739316662455|tw14286393176432955323|tw6603850188446976616|tw17313793158852511290|tw11191255606925352874|tw12911304987807183698|tw8264671047330160574|tw5162643327401191428|tw17506480970243091768|tw724889372138929420|tw16260469314527321795|tw8616952266976904202|tw2957684129931819903|tw15260319387678728882|tw15328542206185546292|tw12633701225521465110|tw8700784092451170218|tw11850714344767309453|tw7417817197401425772|tw617445695032771269|tw16382334390882642776|tw7670795413638762864|tw11304108059124565104|tw11152401697134723669|tw13340315933428007768|tw58529696188625074|tw3366051075703367298|tw15791624639421026161|tw12481417729947578632|tw1803802166058155432|tw821778176175375202|tw4012091514629667544|tw12830155423023905247|tw16538868906340823946|tw7135393788363111546|tw540779354234940414|tw4299059589497819802|tw13957532482628545361|tw369411100051047861|tw1835317099032474823|tw623568273160682749|tw4627135404459832092|tw7569330230841913324|tw18055660341961578664|tw9288127829967177549|tw1112140750363031480|tw3902064186458319835|tw10468037763996550283|tw2101389275725402537|tw15353288890573264608|tw12300145332026549009|tw17590862277893629234|tw15841202663767993350
set_option maxRecDepth 100000 in
set_option maxHeartbeats 0 in
theorem PySem.Challenge.cw_copyclerk_k21_one_deed_holds : PySem.Challenge.rw_copyclerk_k21_one_deed.Holds := by
 w_on;o_law;z_head;(case hw=>w_witness2)
 k_fill
 refine IT.toX (λ_=>rfl) (K21.walk (l:=XY) rfl rfl (λw h Y=>Y) ?F)
 case F=>
  intro w mg fa h KX G hmg
  refine' K21.all_mk KX G hmg ?D1 ?D2 ?D3 ?D4 ?D5 ?D6 ?D7 ?D8 ?D9 ?D10 ?D11 ?D12 ?D13 ?D14 ?D15 ?D16 ?D17 ?D18 ?D19 ?D20 ?D21 ?D22 ?D23 ?D24 ?D25 ?D26 ?D27 ?D28 ?D29 ?D30 ?D31 ?D32 ?D33 ?D34 ?D35 ?D36 ?D37 ?D38 ?D39 ?D40 ?D41 ?D42 ?D43 ?D44 ?D45 ?D46 ?D47 ?D48 ?D49 ?D50 ?D51 ?D52 ?D53 ?D54 ?D55 ?Qv ?Qr ?Qp ?Qs ?Ql ?Qm ?Qn ?Qb ?Qa ?Qe ?Qg ?Qd ?Qc ?Qg1 ?Qc1 ?Qa1 ?Qd1 ?Qb1 ?Qf1 ?Qe1 ?Qj ?Qi ?Qq ?Qk ?Qf ?Qh ?y1 ?x0 ?x1 ?x2 ?y2 ?y3 ?x3 ?x4 ?Qy ?q1_NoDeed ?q2_NoDeed ?q3_NoDeed ?q7_NoDeed ?q4_CopyError ?q5_CopyError ?q6_CopyError ?Qt ?Qu ?qz_ValueError ?q8_NoDeed_CopyError ?qk_NoDeed_NoDeed ?qk_NoDeed_BadTable ?qk_NoDeed_ValueError ?qa_NoDeed ?qb_NoDeed ?qc_NoDeed ?qd_NoDeed ?qe_NoDeed ?qf_NoDeed ?z1 ?z2 ?z3 ?z4 ?z5 ?z6 ?z7 ?z8 ?z9 ?z10 ?z11 ?z12 ?z13 ?z14 ?z15 ?z16 ?z17
  (case Qv=>k_is)
  (case Qg1=>k_is)
  (case Qy=>k_is)
  (case Qt=>k_is)
  (case Qu=>k_is)
  all_goals(try(apply K21.DI.mk (e:=rfl)<;>k_is))
  all_goals(try(apply K21.MI.mk (e:=rfl)<;>k_is))
  (case Qr=>k_is)
  (case Qp=>k_is)
  (case Qs=>k_is)
  (case Ql=>k_is)
  (case Qm=>k_is)
  (case Qn=>k_is)
  (case Qb=>k_is)
  (case Qa=>k_is)
  (case Qe=>k_is)
  (case Qg=>k_is)
  (case Qd=>k_is)
  (case Qc=>k_is)
  (case Qc1=>k_is)
  (case Qa1=>k_is)
  (case Qd1=>k_is)
  (case Qb1=>k_is)
  (case Qf1=>k_is)
  (case Qe1=>k_is)
  (case Qj=>k_is)
  (case Qi=>k_is)
  (case Qq=>k_is)
  (case Qk=>k_is)
  (case Qf=>k_is)
  (case Qh=>k_is)
  (case q1_NoDeed=>k_is)
  (case q2_NoDeed=>kernel_rfl)
  (case q3_NoDeed=>k_is)
  (case q7_NoDeed=>kernel_rfl)
  (case q4_CopyError=>k_is)
  (case q5_CopyError=>kernel_rfl)
  (case q6_CopyError=>k_is)
  (case qz_ValueError=>(first | k_is | kernel_rfl))
  (case q8_NoDeed_CopyError=>(first | k_is | kernel_rfl))
  (case qk_NoDeed_NoDeed=>(first | k_is | kernel_rfl))
  (case qk_NoDeed_BadTable=>(first | k_is | kernel_rfl))
  (case qk_NoDeed_ValueError=>(first | k_is | kernel_rfl))
  (case qa_NoDeed=>(first | k_is | kernel_rfl))
  (case qb_NoDeed=>(first | k_is | kernel_rfl))
  (case qc_NoDeed=>(first | k_is | kernel_rfl))
  (case qd_NoDeed=>(first | k_is | kernel_rfl))
  (case qe_NoDeed=>(first | k_is | kernel_rfl))
  (case qf_NoDeed=>(first | k_is | kernel_rfl))
  (case x0=>k_is)
  (case y1=>k_is)
  (case x1=>k_is)
  (case x2=>k_is)
  (case x3=>k_is)
  (case y3=>k_is)
  (case y2=>k_is)
  (case x4=>k_is)
  (case z1=>k_is)
  (case z2=>k_is)
  (case z3=>k_is)
  (case z4=>k_is)
  (case z5=>k_is)
  (case z6=>k_is)
  (case z7=>k_is)
  (case z8=>k_is)
  (case z9=>k_is)
  (case z10=>k_is)
  (case z11=>k_is)
  (case z12=>k_is)
  (case z13=>k_is)
  (case z14=>k_is)
  (case z15=>k_is)
  (case z16=>k_is)
  (case z17=>k_is)
