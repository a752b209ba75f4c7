import PyProof.Rows.All
import Wide.All
import OpenK.AllK
import Wide.FinOn
import Lean
import PyProof.EqAt
import PyProof.EqKinds
import PyProof.TupleCall
import PyProof.StrLawsTight
import PyProof.StrLawsChain
import KE.KSortTup
import PyProof.EnumIter
import PyProof.EnumMake
import PyProof.EnumFor
import KE.KDictOf
import PyProof.AttrMissHeap
import PyProof.Walks
import PyProof.WalksMore
import PyProof.P3In
import PyProof.DictIter
import OpenK.KOwn
import PyProof.ExcClass3
import PyProof.ExcBaseAll.ValueError
import PyProof.RulesAs
import PyProof.RulesDel
import PyProof.Rows.Catch
import PyProof.ExcArgsOwn
import PyProof.IsiBase
import KE.KIsAll
import PyProof.FString
import PyProof.ReprStr
import PyProof.StrOps2
import PyProof.MeetsSeq
import PyProof.Rows.StrInSeq3
import PyProof.StrLawsIn
import PyProof.StrLawsTight
import PyProof.SetRoads
import PySem.Challenge.RW_turnstack_k06_no_card
set_option Elab.async false
set_option linter.all false
set_option maxRecDepth 100000
inductive Ex2 {A1 A2 : Type} (p : A1 → A2 → Prop) : Prop
  | mk (a1 : A1) (a2 : A2) (h : p a1 a2) : Ex2 p
inductive Ex3 {A1 A2 A3 : Type} (p : A1 → A2 → A3 → Prop) : Prop
  | mk (a1 : A1) (a2 : A2) (a3 : A3) (h : p a1 a2 a3) : Ex3 p
inductive Ex4 {A1 A2 A3 A4 : Type} (p : A1 → A2 → A3 → A4 → Prop) : Prop
  | mk (a1 : A1) (a2 : A2) (a3 : A3) (a4 : A4) (h : p a1 a2 a3 a4) : Ex4 p
inductive Ex5 {A1 A2 A3 A4 A5 : Type} (p : A1 → A2 → A3 → A4 → A5 → Prop) : Prop
  | mk (a1 : A1) (a2 : A2) (a3 : A3) (a4 : A4) (a5 : A5) (h : p a1 a2 a3 a4 a5) : Ex5 p
inductive Ex6 {A1 A2 A3 A4 A5 A6 : Type} (p : A1 → A2 → A3 → A4 → A5 → A6 → Prop) : Prop
  | mk (a1 : A1) (a2 : A2) (a3 : A3) (a4 : A4) (a5 : A5) (a6 : A6) (h : p a1 a2 a3 a4 a5 a6) : Ex6 p
inductive Ex7 {A1 A2 A3 A4 A5 A6 A7 : Type} (p : A1 → A2 → A3 → A4 → A5 → A6 → A7 → Prop) : Prop
  | mk (a1 : A1) (a2 : A2) (a3 : A3) (a4 : A4) (a5 : A5) (a6 : A6) (a7 : A7) (h : p a1 a2 a3 a4 a5 a6 a7) : Ex7 p
inductive Ex8 {A1 A2 A3 A4 A5 A6 A7 A8 : Type} (p : A1 → A2 → A3 → A4 → A5 → A6 → A7 → A8 → Prop) : Prop
  | mk (a1 : A1) (a2 : A2) (a3 : A3) (a4 : A4) (a5 : A5) (a6 : A6) (a7 : A7) (a8 : A8) (h : p a1 a2 a3 a4 a5 a6 a7 a8) : Ex8 p
inductive Ex9 {A1 A2 A3 A4 A5 A6 A7 A8 A9 : Type} (p : A1 → A2 → A3 → A4 → A5 → A6 → A7 → A8 → A9 → Prop) : Prop
  | mk (a1 : A1) (a2 : A2) (a3 : A3) (a4 : A4) (a5 : A5) (a6 : A6) (a7 : A7) (a8 : A8) (a9 : A9) (h : p a1 a2 a3 a4 a5 a6 a7 a8 a9) : Ex9 p
set_option maxHeartbeats 0
noncomputable section
open List renaming length_map→yaa,mem_singleton→yca,mem_cons→yda,length_append→yha,length_cons→yia,mem_cons_of_mem→yla,mem_append→yna,getElem?_eq_getElem→yoa,mem_cons_self→yqa,mem_of_getElem?→yva,size_toArray→ybb,not_mem_nil→ycb,map_append→ydb,mem_append_right→yeb,mem_map→ykb,getElem?_eq_some_iff→ylb,length_take→ypb,append_nil→yrb,map_cons→ytb,take_add_one→ywb,getElem?_map→yxb,all_eq_true→yyb,getElem?_eq_none→yzb,mem_append_left→ycc,getElem?_append_right→yfc,length_singleton→yjc,replicate→ykc,length_drop→ylc,getD_eq_getElem?_getD→ypc,take_of_length_le→yxc,cons_ne_nil→yad,take_length→ybd,flatten_cons→ycd,append_assoc→ydd,getElem?_cons_succ→ymd,lookup→yqd,getElem?_append_left→ytd,lookup_cons→yxd,mem_filterMap→yke,length_replicate→yle,getElem?_drop→yme,length→ype,filterMap_cons→ygf,replicate_succ→yif,length_eq_zero_iff→ykf,cons_append→ynf,range→yof,drop_drop→yrf,getElem?_set_self→ysf,nil_append→yzf,length_nil→ybg,Nodup→ygg,getElem?_set_ne→yig,mem_of_mem_drop→ykg,flatten_append→yqg,mem_map_of_mem→yrg,getElem?_cons_zero→yxg,sum_cons→ych,drop_zero→yoh,map_map→yrh,take_append_drop→yth,drop_length→yvh,mem_of_mem_take→yzh,nodup_cons→yli,length_eraseIdx_of_lt→ywi,drop_left→ynj,getElem?_take_of_lt→yrj,Perm→yxj,length_range→yyj,sublist_append_left→yck,nodup_append→ydk,getElem?_replicate→ygk,pairwise_singleton→ylk,map_drop→ynk,of_mem_zip→yal,map_nil→ybl,getElem?_toArray→yjl,sum_append→yll,contains_iff_mem→yml,nodup_nil→ywl,length_pos_iff→ydm,pairwise_cons→yvm,map_take→yxm,count_eq_zero→yym,take_sublist→yfn,push_toArray→yhn,getElem_mem→ywn,foldl→ygo
open PySem.W renaming Frag→yba,findIn→yya,kitOne→yfb,nsIn→yob,mg_of→yac,mg_none_of→yoc,kia_one→ytc,hideAll_none→yed,emptyDict→yjd,hideAll→ykd,keepIn→yzd,instObj→yfe,plainGet→yje,hasDictIn→yue,fnOf→ydf,hideAll_get→yff,funFrames_hide→ytf,of_hideAll→yuf,plainOver→yeg,looks_findIn→yjg,codeIn→ylg,subIn→ybh,specialIn→yih,clsIn→yci,plainGet_of→yii,isFn→yaj,callWith_K→ycj,lookIn→yjj,methodObj→yoj,cellsFrom_some→yrk,takerIn→yvk,makesIn→ywk,takesIn→yxk,methodCall_KW→yyk,OpenLaw→ycl,looks_subIn→ybm,mroIn→yim,kitx_list→yan,kitx_dict→ybn,handedIn→yun,Looks→yjo,WalkO→yko,excIn→ylo
open PySem.Str renaming join→yea,append_assoc→yuc,empty→yji,ofString→yfl,length→yol,length_append→yon
open PySem renaming wpAny_bind→yfa,wpAny_pure→yra,sizeLine→yua,boot_len→yza,mainGlobals→ygb,Program→ysb,starEach→yec,wpAny_mono→ymc,NameKind→ync,strKind→yqc,wpAny_truthy_bool→yhd,compareOp→yid,FuncData→ypd,wpAny_holding→ysd,wpAny_setState_of→yde,wpAny_loadPart_at→yee,wpAny_setField_rec→yne,SetTable→yre,wpAny_passesOwn→yte,wpAny_newObj_type→ywe,slot_dict_getitem→yye,codeAny_builtin→yze,mem_of_lookup→yhf,wpAny_getItem_str_slice→yjf,wpAny_call_entry→ymf,bootBuiltins→ywf,wpAny_askSetting→yng,codeAny→yog,wpAny_comprehension_free→ysg,wpAny_execs_nil→yug,attributeBase→yvg,wpAny_Call_Name_kw→ywg,wpAny_callSpecial?_slot→yyg,wpAny_ite_split→yah,Builtin→ygh,foldedSetIterable→yhh,sliceBounds→ykh,codeAny_mono→yqh,codeAny_call_builtin→ywh,plainId_quiet→ybi,call_meets→yei,letOwnedTupleGo→ygi,keywordEach→yki,noteFrame→ymi,post_val_or_str→yni,pickOrder→yoi,binaryOp→yzi,reprText→ygj,intText?→ykj,assignEach→ypj,wpAny_pyIter_list→yqj,typeIs_str→ysj,scanBound→yuj,fits_of_scanBound→yvj,behindInMarks→yfk,excClassObj→yjk,checkBuiltinCall→ypk,codeAny_compStart_list→ysk,Within→yuk,Keyword→yzk,builtinLookup_eq_fast→yhl,setNext→yil,compEnvC→ypl,relayAll→yql,isInstance→yrl,setsByText→ysl,isSubtype_type→yvl,holding→yxl,relabel→yyl,notedBy→yzl,wpAny_field→ycm,wpAny_standAt→yhm,backToKw→ykm,setField→yqm,seqItems?→yrm,strLen_append→ytm,wpAny_load→yzm,BindsTo→ydn,leaving→yen,callerA→ygn,ElemsOf→yln,passOn→ysn,sliceRange→yxn,Operator→yyn,swapsWith→yzn,getMethod→yao,putSet_of→yco,setFlight→yeo,call→yho
open PySem.Heap renaming get?_push_of_some→yga,lt_size→ysa,get?_push_size→ywa,get?_update_other→ywc,get?_update_self→yvd,size_push→yoe,SameBut→ycf,FlyingW→yfj
open Option renaming bind_eq_some_iff→yja,map_eq_some_iff→yvb,toList_some→yzg,toList_none→yej,getD_none→yvn
open Nat renaming lt_of_lt_of_le→yka,le_trans→ypa,le_refl→yxa,ne_of_lt→yjb,zero_le→ydc,lt_irrefl→yhc,lt_succ_self→ylf,le_of_lt→yxf,le_succ→yjh,lt_succ_of_lt→ymh,add_le_add_right→yyh,mul_le_mul_right→yai,ne_of_gt→yyi,le_of_eq→ybj,sub_self→yhj,add_sub_cancel_left→ykk,lt_of_le_of_lt→ylm,toDigits→yrn,lt_or_ge→ytn,add_mul→yfo
open PySem.Txt renaming split→yma,slice_le→ydl,slice→ynm
open PySem.F renaming plainAttrs_str→yta,slot_str_join→yhb,type_str_join→yib,slot_str_split→yyc,type_str_split→yzc,called_set→ynd,plainAttrs_list→yyd,slot_list_append→yaf,type_list_append→ybf,typeOf_object_class→ysh,excBase_ValueError→yxi,args_str_split_2→ydj,plain_extend_loop→ymj,entry_str_split→ytj,plain_list_iadd→yik,slot_str_split→yok,plain_set_new→ygl,slot_set_iter→ykl,excAttr_ValueError→yul,slot_gs_get→ysm
open Bool renaming false_ne_true→yab,false_and→yqb,and_eq_true→yub,true_and→ybc,eq_false_iff→ygc,and_false→yvc,eq_iff_iff→yhi,false_or→ymk,false_eq_true→ymm,not_eq_true'→yin
open Array renaming length_toList→ymb,getElem?_eq_getElem→yud,getElem?_toList→ywd,toList_append→yge,getElem?_eq_some_iff→yie,getD_eq_getD_getElem?→yag,getElem?_eq_none→yfh,toList_inj→yuh,toArray_toList→yxh,size_append→yak,all_toList→yqk,toList_push→ymn
open Option.some renaming inj→ynb
open PySem.Builtin.Str renaming occurrences→yic,partsBetween→yxe,strKind→ypg,strSliceIndices→yti
open Int renaming eq_ofNat_of_zero_le→yrc,natAbs_natCast→yod,emod_lt_of_pos→yvf,toNat_natCast→yfg,emod_nonneg→ydh,toNat_of_nonneg→yem
open Ne renaming symm→ysc
open PySem.SeqAt renaming shaped→yfd,EqAt→yrd,canLay_of_shaped→ytk
open PySem.StrLaws renaming join_split→ygd,glued_eq_join→yel
open PyProof.Rows.F renaming plain_set_update_loop→yae,entry_set_update_loop→ymg
open PySem.PyData renaming canLay0→ybe,eqvAll→yhg,eqv→ylh,canLayAll0→ynh,depthAll→yui,depth→yij,strOk→ynl
open False renaming elim→yce
open PyProof.Rows renaming boot_isinstance→yhe,callWith_type1→yyf,subscriptTail_builtinR→yeh,boot_str→yph,sortedS→yri,AllBare→yek,StrsAre→yhk
open PyProof.Rows.KTD renaming datumAt→yqe,datLooks→ytg,isSome_datumAt→ywm,Dat→ykn,TextTab→ybo,tabLook→ydo,inKeys→yio
open PySem.Around renaming under_plainId→yse,under→ypn
open PySem.Builtin.List renaming listTooLong→yve,listLengthHint→ypi,listExtendWith→yqi,listSameRef→yzj
open Classical renaming em→yef
open PySem.SetTable renaming grown→ypf,below→yqf
open PySem.PassesOwn renaming never→ycg
open PySem.Value renaming isStrOf→ydg,isStrOf_shape→yfi
open PySem.Obj renaming mapSeq→ydi,putSet→ywj,data_mapFields→yum
open List.cons renaming injEq→ysi
open PySem.Calls renaming Name_function_global→yvi,evalArgs_plain→ytl,spliced_cons→yjm,spliced_nil→ycn
open List.Perm renaming refl→ylj
open List.Sublist renaming refl→ybk
open PySem.Heap.SameBut renaming update→yam,refl→yjn
open PySem.SeqAt.EqAt renaming int_str→yfm,str_int→ygm
open PySem.Code renaming quiet_builtin→yom,isFrame→yqn
open PySem.Shared renaming TypeIs→ypm
open PySem.SetTable.below renaming go→ynn
open Prod.mk renaming injEq→ymo
open PySem.pickOrder renaming go→yno
namespace L2
open PySem PySem.Spec PyProof.Rows
abbrev Key:=Sum Int Str
def zwvb:Key->Value->Bool
 | .inl k,v=>Value.isInt k v
 | .inr x,v=>ydg x v
def keyH (w:World):Key->Int
 | .inl k=>hashInt k
 | .inr x=>hashStr w x
theorem zxe:∀{k:Key} {v:Value},zwvb k v=true->(Ex2 λi t=>k=Sum.inl i∧v=Value.int i t)∨(Ex2 λx t=>k=Sum.inr x∧v=Value.str x t)
 | .inl i,v,h=>by
  obtain⟨t,e⟩:=Value.isInt_shape (k:=i) (v:=v) h;exact .inl ⟨i,t,rfl,e⟩
 | .inr x,v,h=>by
  obtain⟨t,e⟩:=yfi (x:=x) (v:=v) h;exact .inr ⟨x,t,rfl,e⟩
theorem zvvb (a b:Int):decide ((Sum.inl a:Key)=Sum.inl b)=(a==b):=by
 by_cases e:a=b
 ·subst e;simp
 ·have h:¬ (Sum.inl a:Key)=Sum.inl b:=λq=>e (Sum.inl.inj q);rw[decide_eq_false h];exact (beq_eq_false_iff_ne.mpr e).symm
theorem zsvb (a b:Str):decide ((Sum.inr a:Key)=Sum.inr b)=decide (a=b):=by
 by_cases e:a=b
 ·subst e;simp
 ·have h:¬ (Sum.inr a:Key)=Sum.inr b:=λq=>e (Sum.inr.inj q);rw[decide_eq_false h,decide_eq_false e]
theorem zuvb (a:Int)(b:Str):decide ((Sum.inl a:Key)=Sum.inr b)=false:=decide_eq_false (λq=>nomatch q)
theorem ztvb (a:Str)(b:Int):decide ((Sum.inr a:Key)=Sum.inl b)=false:=decide_eq_false (λq=>nomatch q)
def zoeb (prog:ysb)(w:World):PySem.KeyKind prog w Key where
 is:=zwvb
 hash:=keyH w
 inj:=λv a b ha hb=>by
  rcases zxe ha with⟨i,t,rfl,rfl⟩|⟨x,t,rfl,rfl⟩
  ·rcases zxe hb with⟨j,u,rfl,e⟩|⟨y,u,rfl,e⟩
   ·injection e with e1 _;rw[e1]
   ·exact nomatch e
  ·rcases zxe hb with⟨j,u,rfl,e⟩|⟨y,u,rfl,e⟩
   ·exact nomatch e
   ·injection e with e1 _;rw[e1]
 byValue:=λk v h=>by
  rcases zxe h with⟨i,t,rfl,rfl⟩|⟨x,t,rfl,rfl⟩<;>rfl
 pyHash:=λhv h=>by
  rcases zxe hv with⟨i,t,rfl,rfl⟩|⟨x,t,rfl,rfl⟩
  ·exact wpAny_pyHash_int h
  ·exact wpAny_pyHash_str h
 eqBool:=λhu hv h=>by
  rcases zxe hu with⟨i,t,rfl,rfl⟩|⟨x,t,rfl,rfl⟩
  ·rcases zxe hv with⟨j,u,rfl,rfl⟩|⟨y,u,rfl,rfl⟩
   ·rw[zvvb] at h;exact wpAny_eqBool_int h
   ·rw[zuvb] at h;exact yfm i t y u _ _ _ _ h
  ·rcases zxe hv with⟨j,u,rfl,rfl⟩|⟨y,u,rfl,rfl⟩
   ·rw[ztvb] at h;exact ygm x t j u _ _ _ _ h
   ·rw[zsvb] at h;exact wpAny_eqBool_str h
 «strs»:=λk x t v h=>by
  rcases zxe h with⟨i,u,rfl,e⟩|⟨y,u,rfl,e⟩
  ·exact nomatch e
  ·injection e with e1 _
   subst e1;cases v<;>rfl
end L2
namespace L2
open PySem PySem.Spec PyProof.Rows
inductive V where
 | non|bl (b:Bool)|int (i:Int)|str (x:Str)|byt (b:Array UInt8)|flt (b:UInt64)|ref (a:Addr)|ty (n:String)
 deriving DecidableEq
def RelV:V->Value->Prop
 | .non,u=>u=Value.none
 | .bl b,u=>u=Value.bool b
 | .int i,u=>∃t,u=Value.int i t
 | .str x,u=>∃t,u=Value.str x t
 | .byt b,u=>∃t,u=Value.bytes b t
 | .flt b,u=>∃t,u=Value.float b t
 | .ref a,u=>u=Value.ref a
 | .ty n,u=>u=Value.type n
abbrev Vals:List V->List Value->Prop:=Paired RelV
theorem Vals.length {xs:List V}{us:List Value}(r:Vals xs us):xs.length=us.length:=Paired.length r
theorem Vals.get:∀{xs:List V} {us:List Value} {i:Nat} {x:V},Vals xs us->xs[i]?=some x->∃u,us[i]?=some u∧RelV x u
 | _,_,_,_,.nil,e=>by simp at e
 | _,_,0,_,.cons r _,e=>by simp at e;subst e;exact⟨_,rfl,r⟩
 | _,_,i+1,x,.cons _ t,e=>by
  obtain⟨u,h1,h2⟩:=Vals.get (i:=i) (x:=x) t (by simpa using e);exact⟨u,by simpa using h1,h2⟩
theorem Vals.set {x:V}{u:Value}(r:RelV x u):∀{xs:List V} {us:List Value} (i:Nat),Vals xs us->Vals (xs.set i x) (us.set i u)
 | _,_,_,.nil=>.nil
 | _,_,0,.cons _ t=>.cons r t
 | _,_,i+1,.cons q t=>.cons q (Vals.set r i t)
theorem Vals.append:∀{xs ys:List V} {us ws:List Value},Vals xs us->Vals ys ws->Vals (xs++ys) (us++ws)
 | _,_,_,_,.nil,s=>s
 | _,_,_,_,.cons r t,s=>.cons r (Vals.append t s)
theorem Vals.take:∀{xs:List V} {us:List Value} (n:Nat),Vals xs us->Vals (xs.take n) (us.take n)
 | _,_,0,_=>.nil
 | _,_,_+1,.nil=>.nil
 | _,_,n+1,.cons r t=>.cons r (Vals.take n t)
theorem Vals.drop:∀{xs:List V} {us:List Value} (n:Nat),Vals xs us->Vals (xs.drop n) (us.drop n)
 | _,_,0,r=>r
 | _,_,_+1,.nil=>.nil
 | _,_,n+1,.cons _ t=>Vals.drop n t
def RelO:Option V->Option Value->Prop
 | some v,some u=>RelV v u
 | none,none=>True
 | _,_=>False
def KV {κ:Type}:List (κ×V)->List (κ×Value)->Prop:=Paired λ(p:κ×V) (q:κ×Value)=>p.1=q.1∧RelV p.2 q.2
def kV:Key->V
 | .inl i=>.int i
 | .inr x=>.str x
inductive HO where
 | lst (xs:List V)
 | tup (xs:List V)
 | dK (kvs:List (Key×V))|dT (kvs:List (List Key×V))
 | set (S:Int->Bool) (n:Nat)
 | ins (C dx:Addr) (fs:List (Str×V))
 | own (x:Addr)
 | xd (fs:List (Str×V))
 | met (f x:Addr)
 | rng (lo hi:Int)
 | frz (o:Obj) (u:HO)
 | tbl (ps:Array Value)
 | ext (φ:Heap->Prop)
abbrev Hp:=Addr->Option HO
def upd (H:Hp)(a:Addr)(o:HO):Hp:=λb=>if b=a then some o else H b
theorem zda {H:Hp}{a:Addr}{o:HO}:upd H a o a=some o:=by unfold upd;rw[if_pos rfl]
theorem zfb {H:Hp}{a b:Addr}{o:HO}(h:b≠a):upd H a o b=H b:=by unfold upd;rw[if_neg h]
theorem zsl {H:Hp}{a:Addr}{o u:HO}:upd (upd H a o) a u=upd H a u:=by
 funext b;unfold upd;split<;>rfl
theorem zfm {H:Hp}{a b:Addr}{o u:HO}(h:H a=some o)(h':H b=some u)(d:o≠u):a≠b:=by
 intro e;subst e;rw[h] at h';exact d (ynb h')
theorem zva {H:Hp}{a b:Addr}{o:HO}(h:H a=some o)(h':H b=none):a≠b:=by
 intro e;subst e;rw[h] at h';cases h'
section
variable (P:ysb)(w:World)
def zol (H:Hp)(h:Heap)(a:Addr):HO->Prop
 | .lst xs=>xs.length≤yua∧Ex2 λ(its:List Value) (n:Nat)=>Vals xs its∧h.get? a=some { cls:=.type "list",data:=.seq its.toArray n }
 | .tup xs=>xs.length≤yua∧∃its:List Value,Vals xs its∧IsTup h a its.toArray
 | .dK kvs=>kvs.length≤yua∧(a==sysModules)=false∧∃vs,KV kvs vs∧h.DictOf (zoeb P w) a vs
 | .dT kvs=>kvs.length≤yua∧(a==sysModules)=false∧∃xs:List (List Key×Addr×Value),
   Paired (λ(p:List Key×V) (q:List Key×Addr×Value)=>p.1=q.1∧H q.2.1=some (.tup (p.1.map kV))∧RelV p.2 q.2.2) kvs xs ∧
   Ex3 λo es ep=>h.get? a=some o∧o.ExactDict∧o.data = .dict es ep∧es.toList=xs.map (entryOfKey (tupleKind (zoeb P w)))∧(xs.map (·.1)).Nodup
 | .set S n=>h.SetOf (intKind P w) a S n
 | .ins C dx fs=>H dx=some (.own a)∧fs.length≤1000∧dx≠a∧h.get? a=some (yfe C dx) ∧
   ∃mA,h.Ns1 dx mA∧(∀f,RelO (fs.lookup f) (mA f))∧yuk mA (fs.map (·.1))
 | .own _=>∃o,h.get? a=some o
 | .xd fs=>∃mA,h.Ns1 a mA∧∀f,RelO (fs.lookup f) (mA f)
 | .rng lo hi=>Ex3 λt u v=>h.get? a=some { cls:=.type "range",data:=.fields #[.int lo t,.int hi u,.int 1 v] }
 | .frz o u=>h.get? a=some o∧zol H h a u
 | .tbl ps=>h.get? a=some { cls:=.none,data:=.fields ps }
 | .met f x=>h.get? a=some (yoj (.ref f) (.ref x))
 | .ext φ=>φ h∧(∃o,h.get? a=some o)∧∀h1 h2:Heap,φ h1->(∀o,h1.get? a=some o->h2.get? a=some o)->φ h2
def HOk (H:Hp)(h:Heap):Prop:=∀a o,H a=some o->zol P w H h a o
end
section
variable {P:ysb}{w:World}{H H':Hp}{h h':Heap}{a:Addr}{o:HO}
theorem zol.lt (x:zol P w H h a o):a<h.objs.size:=by
 cases o with
 | lst xs=>obtain⟨_,_,_,_,e⟩:=x;exact ysa e
 | tup xs=>obtain⟨_,_,_,p⟩:=x;exact p.lt
 | dK kvs=>obtain⟨_,_,_,_,o,_,_,e,_⟩:=x;exact ysa e
 | dT kvs=>obtain⟨_,_,_,_,o,_,_,e,_⟩:=x;exact ysa e
 | set S n=>obtain⟨o,_,_,_,e,_⟩:=x;exact ysa e
 | ins C dx fs=>obtain⟨_,_,_,e,_⟩:=x;exact ysa e
 | own y=>obtain⟨_,e⟩:=x;exact ysa e
 | xd fs=>obtain⟨_,⟨_,_,_,e,_⟩,_⟩:=x;exact ysa e
 | rng lo hi=>obtain⟨_,_,_,e⟩:=x;exact ysa e
 | frz ob u=>obtain⟨e,_⟩:=x;exact ysa e
 | tbl ps=>exact ysa (show h.get? a=some _ from x)
 | met f y=>exact ysa (show h.get? a=some _ from x)
 | ext φ=>obtain⟨_,⟨_,e⟩,_⟩:=x;exact ysa e
theorem Paired.mapP {α β:Type}{F G:α->β->Prop}:∀{l₁:List α} {l₂:List β},Paired F l₁ l₂->(∀a b,F a b->G a b)->Paired G l₁ l₂
 | _,_,.nil,_=>.nil
 | _,_,.cons r t,f=>.cons (f _ _ r) (Paired.mapP t f)
theorem zol.stay (x:zol P w H h a o)(k:∀b u,(b=a∨H b=some (.own a))->h.get? b=some u->h'.get? b=some u)
  (ho:∀b,H b=some (.own a)->H' b=some (.own a)) (ht:∀b xs,H b=some (.tup xs)->H' b=some (.tup xs)):zol P w H' h' a o:=by
 induction o with
 | lst xs=>obtain⟨z,its,n,r,e⟩:=x;exact⟨z,its,n,r,k _ _ (.inl rfl) e⟩
 | tup xs=>obtain⟨z,its,r,ob,e,c⟩:=x;exact⟨z,its,r,ob,k _ _ (.inl rfl) e,c⟩
 | dK kvs=>obtain⟨z,y,vs,r,ob,es,ep,e,c⟩:=x;exact⟨z,y,vs,r,ob,es,ep,k _ _ (.inl rfl) e,c⟩
 | dT kvs =>
  obtain⟨z,y,xs,r,ob,es,ep,e,c⟩:=x;exact⟨z,y,xs,Paired.mapP r λp q z=>⟨z.1,ht _ _ z.2.1,z.2.2⟩,ob,es,ep,k _ _ (.inl rfl) e,c⟩
 | set S n=>obtain⟨ob,es,ep,t,e,c⟩:=x;exact⟨ob,es,ep,t,k _ _ (.inl rfl) e,c⟩
 | ins C dx fs =>
  obtain⟨d,z,ne,e,mA,⟨od,es,ep,e2,c⟩,r⟩:=x;exact⟨ho _ d,z,ne,k _ _ (.inl rfl) e,mA,⟨od,es,ep,k _ _ (.inr d) e2,c⟩,r⟩
 | own y=>obtain⟨ob,e⟩:=x;exact⟨ob,k _ _ (.inl rfl) e⟩
 | xd fs=>obtain⟨mA,⟨od,es,ep,e,c⟩,r⟩:=x;exact⟨mA,⟨od,es,ep,k _ _ (.inl rfl) e,c⟩,r⟩
 | rng lo hi=>obtain⟨t,u,v,e⟩:=x;exact⟨t,u,v,k _ _ (.inl rfl) e⟩
 | frz ob u ih=>obtain⟨e,q⟩:=x;exact⟨k _ _ (.inl rfl) e,ih q⟩
 | tbl ps =>
  have e:h.get? a=some { cls:=.none,data:=.fields ps }:=x;show h'.get? a=some { cls:=.none,data:=.fields ps }
  exact k a _ (.inl rfl) e
 | met f y =>
  have e:h.get? a=some (yoj (.ref f) (.ref y)):=x;show h'.get? a=some (yoj (.ref f) (.ref y))
  exact k a _ (.inl rfl) e
 | ext φ=>obtain⟨p,⟨o,e⟩,st⟩:=x;exact⟨st _ _ p λo q=>k _ _ (.inl rfl) q,⟨o,k _ _ (.inl rfl) e⟩,st⟩
theorem HOk.lt (x:HOk P w H h)(e:H a=some o):a<h.objs.size:=(x a o e).lt
theorem HOk.fresh (x:HOk P w H h)(e:h.objs.size≤a):H a=none:=by
 cases q:H a with
 | none=>rfl
 | some u=>exact absurd (yka (x.lt q) e) (yhc _)
theorem HOk.kept (x:HOk P w H h)(k:∀b u,h.get? b=some u->h'.get? b=some u):HOk P w H h':=λa o e =>
 (x a o e).stay (λb u _ q=>k b u q) (λ_ q=>q) λ_ _ q=>q
theorem HOk.laid (x:HOk P w H h)(k:∀b u,h.get? b=some u->h'.get? b=some u)(hp:h.objs.size≤a)(new:zol P w (upd H a o) h' a o):HOk P w (upd H a o) h':=λb u e=>by
 have hn:=x.fresh hp
 by_cases hb:b=a
 ·subst hb;rw[zda] at e;cases e;exact new
 ·rw[zfb hb] at e;exact (x b u e).stay (λc v _ q=>k c v q) (λc q=>by rw[zfb (zva q hn)];exact q) λc xs q=>by rw[zfb (zva q hn)];exact q
end
def Rd (H:Hp)(a:Addr)(u:HO):Prop:=H a=some u∨∃o,H a=some (.frz o u)
theorem Rd.ok {P:ysb}{w:World}{H:Hp}{h:Heap}{a:Addr}{u:HO}(r:Rd H a u)(x:HOk P w H h):zol P w H h a u:=by
 rcases r with r|⟨o,r⟩
 ·exact x a u r
 ·obtain⟨_,q⟩:=x a _ r;exact q
def Mut:Option HO->Prop
 | some (.lst _)=>True
 | some (.dK _)=>True
 | some (.dT _)=>True
 | some (.set _ _)=>True
 | some (.ins _ _ _)=>True
 | some (.ext _)=>True
 | _=>False
section
variable {P:ysb}{w:World}{H:Hp}{h h':Heap}{x e:Addr}{o':HO}
theorem HOk.write (ok:HOk P w H h)(mu:Mut (H x))(he:e=x∨H e=some (.own x))(k:∀b u,b≠e->h.get? b=some u->h'.get? b=some u)(heo:∃u,h'.get? e=some u)
  (new:zol P w (upd H x o') h' x o'):HOk P w (upd H x o') h':=λb u q=>by
 have nown:∀c y,H c=some (.own y)->c≠x:=λc y r z=>by subst z;rw[r] at mu;exact mu
 have ntup:∀c xs,H c=some (.tup xs)->c≠x:=λc xs r z=>by subst z;rw[r] at mu;exact mu
 by_cases hb:b=x
 ·subst hb;rw[zda] at q;cases q;exact new
 ·rw[zfb hb] at q
  by_cases hbe:b=e
  ·have q':H b=some (.own x):=by
    rcases he with z|z
    ·exact absurd (hbe.trans z) hb
    ·rw[hbe];exact z
   rw[q] at q';cases q';obtain⟨v,hv⟩:=heo;exact⟨v,by rw[hbe];exact hv⟩
  ·refine (ok b u q).stay (λc v hc r=>k c v ?_ r) (λc r=>by rw[zfb (nown c b r)];exact r) λc xs r=>by rw[zfb (ntup c xs r)];exact r
   rcases hc with rfl|hc
   ·exact hbe
   ·rintro rfl
    rcases he with z|z
    ·exact nown c b hc z
    ·rw[hc] at z;cases z;exact hb rfl
end
structure Un (fs ex:List Addr)(H H':Hp)(h h':Heap):Prop where
 keep:∀b o,h.get? b=some o->H b=none->b∉fs->b∉ex->h'.get? b=some o
 slot:∀b o,h.get? b=some o->H b=none->b∈fs->b∉ex->∃sl,h'.get? b=some { o with slots:=sl }
 free:∀b o,h.get? b=some o->H b=none->b∉ex->H' b=none
 there:∀b o,h.get? b=some o->b∉ex->∃o',h'.get? b=some o'
 tups:∀b xs,H b=some (.tup xs)->H' b=some (.tup xs)
 frzs:∀b o u,H b=some (.frz o u)->H' b=some (.frz o u)
 tbls:∀b ps,H b=some (.tbl ps)->∃more,H' b=some (.tbl (ps++more))
section
variable {fs fs' ex ex':List Addr}{H H1 H2:Hp}{h h1 h2 h':Heap}{a x e:Addr}{o:HO}
theorem Un.any (u:Un fs ex H H1 h h1){b:Addr}{ob:Obj}(q:h.get? b=some ob)(n:H b=none)(hx:b∉ex):∃sl,h1.get? b=some { ob with slots:=sl }:=by
 by_cases hb:b∈fs
 ·exact u.slot b ob q n hb hx
 ·exact⟨ob.slots,u.keep b ob q n hb hx⟩
theorem Un.kept (k:∀b u,h.get? b=some u->h'.get? b=some u):Un fs ex H H h h' :=
 ⟨λb ob q _ _ _=>k b ob q,λb ob q _ _ _=>⟨ob.slots,k b ob q⟩,λ_ _ _ n _=>n,λb ob q _=>⟨ob,k b ob q⟩,λ_ _ q=>q,λ_ _ _ q=>q,λ_ ps q=>⟨#[],by rw[q];simp⟩⟩
theorem Un.refl:Un fs ex H H h h:=Un.kept λ_ _ q=>q
theorem Un.laid (k:∀b u,h.get? b=some u->h'.get? b=some u)(hp:h.objs.size≤a)(hn:H a=none):Un fs ex H (upd H a o) h h' where
 keep:=λb u q _ _ _=>k b u q
 slot:=λb u q _ _ _=>⟨u.slots,k b u q⟩
 free:=λb u q n _=>by rw[zfb (yjb (yka (ysa q) hp))];exact n
 there:=λb u q _=>⟨u,k b u q⟩
 tups:=λb xs q=>by rw[zfb (zva q hn)];exact q
 frzs:=λb u xs q=>by rw[zfb (zva q hn)];exact q
 tbls:=λb ps q=>⟨#[],by rw[zfb (zva q hn),q];simp⟩
theorem Un.write (mu:Mut (H x))(he:e=x∨H e=some (.own x))(k:∀b u,b≠e->h.get? b=some u->h'.get? b=some u)(heo:∃u,h'.get? e=some u):Un fs ex H (upd H x o) h h':=by
 have hx:∀b,H b=none->b≠x:=λb n z=>by subst z;rw[n] at mu;exact mu
 have hb:∀b,H b=none->b≠e:=λb n z=>by
  subst z
  rcases he with r|r
  ·exact hx b n r
  ·rw[n] at r;cases r
 have hm:∀b u,H b=some u->¬ Mut (some u)->b≠x:=λb u q nm z=>by subst z;rw[q] at mu;exact nm mu
 refine⟨λb u q n _ _=>k b u (hb b n) q,λb u q n _ _=>⟨u.slots,k b u (hb b n) q⟩,λb u q n _=>by rw[zfb (hx b n)];exact n,λb u q _=>?_,
  λb xs q=>by rw[zfb (hm b _ q λz=>z)];exact q,λb u xs q=>by rw[zfb (hm b _ q λz=>z)];exact q,λb ps q=>⟨#[],by rw[zfb (hm b _ q λz=>z),q];simp⟩⟩
 by_cases hbe:b=e
 ·subst hbe;exact heo
 ·exact⟨u,k b u hbe q⟩
end
def trk (h:Heap)(H:Hp):List Addr:=(yof h.objs.size).filter λa=>(H a).isSome
def hidT (h:Heap)(H:Hp):Heap:=ykd h (trk h H)
theorem zalb (h:Heap)(H:Hp):(hidT h H).objs.size=h.objs.size:=PySem.W.hideAll_size _ _
theorem zeob {h:Heap}{H:Hp}{b:Addr}{o:Obj}(e:h.get? b=some o)(n:H b=none):(hidT h H).get? b=some o :=
 yff _ e λhm=>by
  have q:(H b).isSome=true:=(List.mem_filter.mp hm).2;rw[n] at q;simp at q
theorem zasb {h:Heap}{H:Hp}{b:Addr}{o:Obj}(e:(hidT h H).get? b=some o):h.get? b=some o∧H b=none:=by
 have e':h.get? b=some o:=yuf (trk h H) e;refine⟨e',?_⟩;cases q:H b with
 | none=>rfl
 | some x =>
  have hm:b∈trk h H:=List.mem_filter.mpr ⟨List.mem_range.mpr (ysa e'),by simp[q]⟩;have z:(hidT h H).get? b=none:=yed (trk h H) hm;rw[z] at e;cases e
def zetb (g h:Heap)(L:Addr):List (Addr×Obj):=(yof h.objs.size).filterMap λa=>if a=L∨(g.get? a).isSome=true then none else (h.get? a).map λo=>(a,o)
def rest (g h:Heap)(L d:Addr):List (Addr×Obj):=(zetb g h L).filter λp=>decide (p.1≠d)
end L2
namespace L2
open PySem PySem.Spec PyProof.Rows
structure Mod (K:yba)(mg:Str->Option Value)(base:Heap):Prop where
 kin:K.In base
 glob:base.Ns ygb mg
 blt:∃mb,base.Ns builtinsNs mb∧∀x:Str,x ≠ "__name__"->mb x=ywf x
 nolimit:base.NoLimit
structure Cx where
 prog:ysb
 w:World
 K:yba
 mg:Str->Option Value
 base:Heap
 A:Around
 N:List Str
 s₀:Shared
 H₀:Hp
 env:Env
 outer:List Env
 stack:List Env
 ex:List Addr
 fn:Str->Bool
 calm:Bool
 pn:List (Addr×Obj)
 xe:Value->Shared->Prop
def frs (l:List Env):List Addr:=l.filterMap (·.frame)
abbrev Cx.fs (X:Cx):List Addr:=frs X.outer
def Vis (sc:Scope)(x:Str):Prop:=sc.names.lookup x=some .local∨sc.names.lookup x=some .cell∨sc.names.lookup x=some .free
def Loc (sc:Scope)(x:Str):Prop:=sc.names.lookup x=some .local∨sc.names.lookup x=some .cell
def Look (env:Env)(h:Heap)(m:Str->Option Value)(x:Str)(u:Value):Prop :=
 (env.kindOf x=some .local∧m x=some u)∨((env.kindOf x=some .cell∨env.kindOf x=some .free)∧∃c,env.cells.lookup x=some c∧h.IsCell c (some u))
structure Cx.Ok (X:Cx):Prop where
 mod:Mod X.K X.mg X.base
 kind:X.env.scope.kind = .function
 glob:X.env.globals=ygb
 blt:X.env.builtins=builtinsNs
 above:X.s₀.heap.objs.size≤X.env.locals
 inj:∀x y c,X.env.cells.lookup x=some c->X.env.cells.lookup y=some c->x=y
 has:∀x,(X.env.kindOf x=some .cell∨X.env.kindOf x=some .free)->∃c,X.env.cells.lookup x=some c
 cab:∀x c,X.fn x=true->X.env.cells.lookup x=some c->X.s₀.heap.objs.size≤c
 hd:X.calm=true->X.A.handled=none
 frames:X.A.frames=some X.stack
 stk:X.stack=X.outer∨(X.stack=X.env::X.outer∧X.env.frame=some X.env.locals)
 exf:∀b∈X.ex,b≠X.env.locals∧∀x c,X.env.cells.lookup x=some c->c≠b
 bs:∀b o,X.base.get? b=some o->X.s₀.heap.get? b=some o∧X.H₀ b=none
 bsz:X.base.objs.size≤X.s₀.heap.objs.size
 noex:∀b o,X.base.get? b=some o->b∉X.ex
 exfs:∀b∈X.ex,b∉X.fs
 funs:X.s₀.heap.FunFrames X.base X.outer
 frf:∀b∈X.fs,X.H₀ b=none
structure Inv (X:Cx)(pins:List (Addr×Obj))(σ:List (Option V))(H:Hp)(s:Shared):Prop where
 ok:X.Ok
 os:s.os=X.s₀.os
 bare:yek s.gens
 base:Un X.fs X.ex X.H₀ H X.s₀.heap s.heap
 loc:∃m,s.heap.Ns X.env.locals m∧∀(i:Nat) (x:Str) (v:V),X.N[i]?=some x->σ[i]?=some (some v)->Vis X.env.scope x->∃u,RelV v u∧Look X.env s.heap m x u
 cell:∀x c,X.env.cells.lookup x=some c->∃v,s.heap.IsCell c v
 free:H X.env.locals=none
 freeC:∀x c,X.env.cells.lookup x=some c->H c=none
 pin:∀p∈X.pn++pins,s.heap.get? p.1=some p.2∧H p.1=none∧p.1≠X.env.locals∧p.1∉X.fs∧∀v,p.2.data ≠ .cell v
 hok:HOk X.prog X.w H s.heap
 len:σ.length=X.N.length
section
variable {X:Cx}{pins:List (Addr×Obj)}{σ:List (Option V)}{H H':Hp}{s:Shared}{h':Heap}
theorem Cx.Ok.nofr (ok:X.Ok){b:Addr}{o:Obj}(e:X.base.get? b=some o):b∉X.fs:=λhb=>by
 have:=(ok.funs.mem hb).1;rw[e] at this;cases this
theorem Inv.bs (I:Inv X pins σ H s):∀b o,X.base.get? b=some o->s.heap.get? b=some o∧H b=none:=λb o e =>
 ⟨I.base.keep b o (I.ok.bs b o e).1 (I.ok.bs b o e).2 (I.ok.nofr e) (I.ok.noex b o e),I.base.free b o (I.ok.bs b o e).1 (I.ok.bs b o e).2 (I.ok.noex b o e)⟩
theorem Inv.bk (I:Inv X pins σ H s):∀b o,X.base.get? b=some o->s.heap.get? b=some o:=λb o e=>(I.bs b o e).1
theorem Inv.mod (I:Inv X pins σ H s):Mod X.K X.mg X.base:=I.ok.mod
theorem Inv.kIn (I:Inv X pins σ H s):X.K.In s.heap:=I.ok.mod.kin.keeps I.bk
theorem Inv.lt (I:Inv X pins σ H s):X.env.locals<s.heap.objs.size:=let ⟨_,hn,_⟩:=I.loc;hn.lt
theorem Inv.sz (I:Inv X pins σ H s):X.s₀.heap.objs.size≤s.heap.objs.size:=ypa I.ok.above (yxf I.lt)
theorem Inv.nofs (I:Inv X pins σ H s){a:Addr}(h:s.heap.objs.size≤a):a∉X.fs:=λhb=>by
 obtain⟨_,o,ho,_⟩:=I.ok.funs.mem hb;exact absurd (yka (ysa ho) (ypa I.sz h)) (yhc _)
theorem Inv.cne (I:Inv X pins σ H s):∀x c,X.env.cells.lookup x=some c->c≠X.env.locals:=λx c e z=>by
 obtain⟨v,o,ho,hd⟩:=I.cell x c e;obtain⟨m,⟨o',es,ep,ho',hd',_⟩,_⟩:=I.loc;rw[z,ho'] at ho;cases ho;rw[hd'] at hd;cases hd
theorem Inv.funs (I:Inv X pins σ H s):s.heap.FunFrames X.base X.outer:=by
 have all:∀(l:List Env),(∀b∈frs l,b∈X.fs)->X.s₀.heap.FunFrames X.base l->s.heap.FunFrames X.base l:=by
  intro l
  induction l with
  | nil=>intro _ _;trivial
  | cons env r ih =>
   intro hs hl;obtain⟨hk,⟨L,o,hf,hn,ho,hd⟩,hr⟩:=hl;have hL:L∈X.fs:=hs L (by unfold frs;rw[ygf,hf];exact yqa);obtain⟨sl,e⟩:=I.base.slot L o ho (I.ok.frf L hL) hL λz=>I.ok.exfs L z hL;exact⟨hk,⟨L,_,hf,hn,e,hd⟩,ih (λb hb=>hs b (by unfold frs;rw[ygf,hf];exact yla _ hb)) hr⟩
 exact all X.outer (λ_ hb=>hb) I.ok.funs
theorem Inv.stack (I:Inv X pins σ H s):s.heap.FunFrames X.base X.stack:=by
 rcases I.ok.stk with e|⟨e,hf⟩
 ·rw[e];exact I.funs
 ·rw[e];obtain⟨m,hn,_⟩:=I.loc;refine .cons (by rw[I.ok.kind];decide) hf hn ?_ I.funs;exact Heap.get?_none_of_le (ypa I.ok.bsz I.ok.above)
theorem Inv.zbu (I:Inv X pins σ H s):∀b∈frs X.stack,b∈X.env.locals::X.fs:=λb hb=>by
 rcases I.ok.stk with e|⟨e,hf⟩
 ·rw[e] at hb;exact yla _ hb
 ·rw[e] at hb;unfold frs at hb;rw[ygf,hf] at hb;exact hb
theorem Inv.zxdb (I:Inv X pins σ H s):∀b∈frs X.stack,H b=none:=λb hb=>by
 rcases yda.mp (I.zbu b hb) with e|hb
 ·rw[e];exact I.free
 ·obtain⟨_,o,ho,_⟩:=I.ok.funs.mem hb;exact I.base.free b o ho (I.ok.frf b hb) λz=>I.ok.exfs b z hb
theorem Inv.step {g':Array GenState}{t':Nat}{d':Drawn}{ch:List Addr}(I:Inv X pins σ H s)
  (hch:∀b∈ch,(b∈X.ex∨X.s₀.heap.objs.size≤b)∧b≠X.env.locals∧(∀x c,X.env.cells.lookup x=some c->c≠b)∧∀p∈X.pn++pins,p.1≠b)
  (keep:∀b o,b≠X.env.locals->b∉X.fs->b∉ch->s.heap.get? b=some o->H b=none->h'.get? b=some o)
  (slot:∀b o,b≠X.env.locals->b∈X.fs->b∉ch->s.heap.get? b=some o->H b=none->∃sl,h'.get? b=some { o with slots:=sl }) (free:∀b o,b∉ch->s.heap.get? b=some o->H b=none->H' b=none)
  (there:∀b o,b∉ch->s.heap.get? b=some o->∃o',h'.get? b=some o')
  (tups:∀b xs,H b=some (.tup xs)->H' b=some (.tup xs)) (frzs:∀b o u,H b=some (.frz o u)->H' b=some (.frz o u)) (tbls:∀b ps,H b=some (.tbl ps)->∃more,H' b=some (.tbl (ps++more)))
  (ns:∀m,s.heap.Ns X.env.locals m->h'.Ns X.env.locals m) (hok:HOk X.prog X.w H' h') (hg:yek g') :
  Inv X pins σ H' { s with heap:=h',gens:=g',drawn:=d',toks:=t' }:=by
 have neL:∀b o,X.s₀.heap.get? b=some o->b≠X.env.locals:=λb o e=>yjb (yka (ysa e) I.ok.above);have neC:∀b o,X.s₀.heap.get? b=some o->b∉X.ex->b∉ch:=λb o e hx hb=>by
  rcases (hch b hb).1 with z|z
  ·exact hx z
  ·exact absurd (yka (ysa e) z) (yhc _)
 have cellK:∀x c,X.env.cells.lookup x=some c->∀v,s.heap.IsCell c v->h'.IsCell c v:=λx c e v ⟨o,ho,hd⟩=>by
  have nch:c∉ch:=λz=>(hch c z).2.2.1 x c e rfl
  by_cases hc:c∈X.fs
  ·obtain⟨sl,q⟩:=slot c o (I.cne x c e) hc nch ho (I.freeC x c e);exact⟨_,q,hd⟩
  ·exact⟨o,keep c o (I.cne x c e) hc nch ho (I.freeC x c e),hd⟩
 refine⟨I.ok,I.os,hg,⟨λb o e n hb hx=>?_,λb o e n hb hx=>?_,λb o e n hx=>?_,λb o e hx=>?_,λb xs e=>tups b xs (I.base.tups b xs e),λb o xs e=>frzs b o xs (I.base.frzs b o xs e),λb ps e=>?_⟩,?_,λx c e=>?_,?_,λx c e=>?_,λp hp=>?_,hok,I.len⟩
 ·exact keep b o (neL b o e) hb (neC b o e hx) (I.base.keep b o e n hb hx) (I.base.free b o e n hx)
 ·obtain⟨sl,e1⟩:=I.base.slot b o e n hb hx;obtain⟨sl',e2⟩:=slot b _ (neL b o e) hb (neC b o e hx) e1 (I.base.free b o e n hx);exact⟨sl',e2⟩
 ·obtain⟨o',e1⟩:=I.base.there b o e hx;exact free b o' (neC b o e hx) e1 (I.base.free b o e n hx)
 ·obtain⟨o',e1⟩:=I.base.there b o e hx;exact there b o' (neC b o e hx) e1
 ·obtain⟨m1,e1⟩:=I.base.tbls b ps e;obtain⟨m2,e2⟩:=tbls b _ e1;exact⟨m1++m2,by rw[e2,Array.append_assoc]⟩
 ·obtain⟨m,hn,hl⟩:=I.loc;refine⟨m,ns m hn,λi x v e1 e2 e3=>?_⟩;obtain⟨u,r,l⟩:=hl i x v e1 e2 e3;refine⟨u,r,?_⟩
  rcases l with l|⟨k,c,e,z⟩
  ·exact .inl l
  ·exact .inr ⟨k,c,e,cellK x c e _ z⟩
 ·obtain⟨v,z⟩:=I.cell x c e;exact⟨v,cellK x c e v z⟩
 ·obtain⟨m,⟨o,_,_,ho,_⟩,_⟩:=I.loc;exact free _ o (λz=>(hch _ z).2.1 rfl) ho I.free
 ·obtain⟨v,o,ho,hd⟩:=I.cell x c e;exact free c o (λz=>(hch c z).2.2.1 x c e rfl) ho (I.freeC x c e)
 ·obtain⟨e,n,ne,nf,d⟩:=I.pin p hp;have nch:p.1∉ch:=λz=>(hch p.1 z).2.2.2 p hp rfl;exact⟨keep p.1 p.2 ne nf nch e n,free p.1 p.2 nch e n,ne,nf,d⟩
theorem Inv.un {t':Nat}(I:Inv X pins σ H s)(u:Un X.fs [] H H' s.heap h')(hok:HOk X.prog X.w H' h'):Inv X pins σ H' { s with heap:=h',toks:=t' }:=by
 obtain⟨m,⟨o,es,ep,ho,r⟩,_⟩:=id I.loc;obtain⟨sl,hL⟩:=u.any ho I.free (by simp);exact I.step (g':=s.gens) (d':=s.drawn) (ch:=[]) (λ_ z=>nomatch z) (λb o _ hb _ e n=>u.keep b o e n hb (by simp)) (λb o _ hb _ e n=>u.slot b o e n hb (by simp)) (λb o _ e n=>u.free b o e n (by simp)) (λb o _ e=>u.there b o e (by simp)) u.tups u.frzs u.tbls (λm' hm=>by
  obtain⟨o',es',ep',ho',r'⟩:=hm;rw[ho] at ho';cases ho';exact⟨_,es',ep',hL,r'⟩) hok I.bare
theorem Inv.call {g':Array GenState}{t':Nat}{d':Drawn}{ch:List Addr}(I:Inv X pins σ H s)(u:Un (frs X.stack) ch H H' s.heap h')(hok:HOk X.prog X.w H' h')(hg:yek g')
  (hch:∀b∈ch,(b∈X.ex∨X.s₀.heap.objs.size≤b)∧b≠X.env.locals∧(∀x c,X.env.cells.lookup x=some c->c≠b)∧∀p∈X.pn++pins,p.1≠b) :
  Inv X pins σ H' { s with heap:=h',gens:=g',drawn:=d',toks:=t' }:=by
 obtain⟨m,⟨o,es,ep,ho,r⟩,_⟩:=id I.loc;obtain⟨sl,hL⟩:=u.any ho I.free λz=>(hch _ z).2.1 rfl;exact I.step (ch:=ch) hch (λb o hL hb hc e n=>u.keep b o e n (λz=>(yda.mp (I.zbu b z)).elim hL hb) hc) (λb o _ _ hc e n=>u.any e n hc) (λb o hc e n=>u.free b o e n hc) (λb o hc e=>u.there b o e hc) u.tups u.frzs u.tbls (λm' hm=>by
  obtain⟨o',es',ep',ho',r'⟩:=hm;rw[ho] at ho';cases ho';exact⟨_,es',ep',hL,r'⟩) hok hg
theorem Inv.turned {t':Nat}{it:Addr}(I:Inv X pins σ H s)(k:∀b o,b≠it->s.heap.get? b=some o->h'.get? b=some o)(hn:H it=none)(hL:it≠X.env.locals)
  (h1:it∈X.ex∨X.s₀.heap.objs.size≤it) (h2:∀x c,X.env.cells.lookup x=some c->c≠it) (h3:∀p∈X.pn++pins,p.1≠it):Inv X pins σ H { s with heap:=h',toks:=t' }:=by
 have nit:∀b u,H b=some u->b≠it:=λb u e z=>by rw[z,hn] at e;cases e
 refine I.step (g':=s.gens) (d':=s.drawn) (ch:=[it]) (λb hb=>?_) (λb o _ _ hc e _=>k b o (λz=>hc (by simp[z])) e) (λb o _ _ hc e _=>⟨o.slots,k b o (λz=>hc (by simp[z])) e⟩) (λ_ _ _ _ n=>n)
  (λb o hc e=>⟨o,k b o (λz=>hc (by simp[z])) e⟩) (λ_ _ e=>e) (λ_ _ _ e=>e) (λb ps e=>⟨#[],by rw[e];simp⟩) (λm hm=>?_) (λb u e=>?_) I.bare
 ·have e:b=it:=by simpa using hb
  subst e;exact⟨h1,hL,h2,h3⟩
 ·obtain⟨o,es,ep,ho,r⟩:=hm;exact⟨o,es,ep,k _ o (ysc hL) ho,r⟩
 ·refine (I.hok b u e).stay (λc v hc q=>k c v ?_ q) (λ_ q=>q) λ_ _ q=>q
  rcases hc with z|z
  ·rw[z];exact nit b u e
  ·exact nit c _ z
theorem Inv.tok (I:Inv X pins σ H s)(t:Nat):Inv X pins σ H { s with toks:=t }:=I.un (h':=s.heap) (t':=t) Un.refl I.hok
theorem Inv.kept {t':Nat}(I:Inv X pins σ H s)(k:∀b u,s.heap.get? b=some u->h'.get? b=some u):Inv X pins σ H { s with heap:=h',toks:=t' }:=I.un (Un.kept k) (I.hok.kept k)
theorem Inv.laid {a:Addr}{o:HO}{t':Nat}(I:Inv X pins σ H s)(k:∀b u,s.heap.get? b=some u->h'.get? b=some u)(hp:s.heap.objs.size≤a)(new:zol X.prog X.w (upd H a o) h' a o) :
  Inv X pins σ (upd H a o) { s with heap:=h',toks:=t' }:=I.un (Un.laid k hp (I.hok.fresh hp)) (I.hok.laid k hp new)
theorem Inv.write {x e:Addr}{o:HO}{t':Nat}(I:Inv X pins σ H s)(mu:Mut (H x))(he:e=x∨H e=some (.own x))(k:∀b u,b≠e->s.heap.get? b=some u->h'.get? b=some u)(heo:∃u,h'.get? e=some u)
  (new:zol X.prog X.w (upd H x o) h' x o):Inv X pins σ (upd H x o) { s with heap:=h',toks:=t' }:=I.un (Un.write mu he k heo) (I.hok.write mu he k heo new)
theorem Inv.weak {σ':List (Option V)}(I:Inv X pins σ H s)(hl:σ'.length=σ.length)(w:∀(i:Nat) v,σ'[i]?=some (some v)->σ[i]?=some (some v)):Inv X pins σ' H s :=
 ⟨I.ok,I.os,I.bare,I.base,let ⟨m,hn,hl'⟩:=I.loc;⟨m,hn,λi x v e1 e2 e3=>hl' i x v e1 (w i v e2) e3⟩,I.cell,I.free,I.freeC,I.pin,I.hok,hl.trans I.len⟩
theorem Inv.ztm {pins':List (Addr×Obj)}(I:Inv X pins σ H s)(h:∀p∈pins',s.heap.get? p.1=some p.2∧H p.1=none∧p.1≠X.env.locals∧p.1∉X.fs∧∀v,p.2.data ≠ .cell v):Inv X pins' σ H s :=
 ⟨I.ok,I.os,I.bare,I.base,I.loc,I.cell,I.free,I.freeC,λp hp=>(yna.mp hp).elim (λz=>I.pin p (ycc _ z)) (h p),I.hok,I.len⟩
theorem zmz {N:List Str}(hN:N.Nodup){i j:Nat}{x:Str}(a:N[i]?=some x)(b:N[j]?=some x):i=j:=by
 obtain⟨h1,e1⟩:=ylb.mp a;obtain⟨h2,e2⟩:=ylb.mp b;exact (List.getElem_inj hN).mp (e1.trans e2.symm)
theorem zwab {M:Model}{A:Around}{E:Value->Shared->Prop}{i:Nat}{x:Str}{v:V}{u:Value}{Q:Unit->Shared->Prop}(I:Inv X pins σ H s)(hN:X.N.Nodup)(hi:X.N[i]?=some x)(hx:Loc X.env.scope x)(r:RelV v u)
  (h:∀s',Inv X pins (σ.set i (some v)) H s'->(∃a,ycf a s.heap s'.heap∧(a=X.env.locals∨X.env.cells.lookup x=some a))->Q () s') (hf:X.fn x=true∨X.env.scope.names.lookup x=some .local:=by first|exact .inl rfl|exact .inr rfl|assumption):wpAny M A (storeName X.env x u) Q E s:=by
 obtain⟨m,hn,hl⟩:=id I.loc;have hcls:(X.env.scope.kind == .class||(X.env.scope.kind == .module&&X.env.locals != X.env.globals))=false:=by rw[I.ok.kind];rfl
 have hiσ:i<σ.length:=by rw[I.len];exact (ylb.mp hi).1
 have cne:=I.cne;have tracked:∀{a:Addr} {h':Heap},(∃o,s.heap.get? a=some o∧H a=none)->ycf a s.heap h'->HOk X.prog X.w H h':=λ{a h'} ha hs b ob e=>by
  obtain⟨_,_,hfree⟩:=ha;refine (I.hok b ob e).stay (λc w' hc q=>(hs.2 c ?_).trans q) (λ_ q=>q) λ_ _ q=>q;rintro rfl
  rcases hc with rfl|hc
  ·rw[hfree] at e;cases e
  ·rw[hfree] at hc;cases hc
 rcases hx with hk|hk
 ·refine wpAny_storeName_local hk hn (λh' hn' hs=>?_) hcls;obtain⟨oL,_,_,hoL,_⟩:=id hn;refine h _ ⟨I.ok,I.os,I.bare,⟨λb o e n hb hx=>?_,λb o e n hb hx=>?_,I.base.free,λb o e hx=>?_,I.base.tups,I.base.frzs,I.base.tbls⟩,⟨_,hn',λj y v' e1 e2 e3=>?_⟩,λy c e=>?_,I.free,I.freeC,λp hp=>?_,tracked ⟨oL,hoL,I.free⟩ hs,by simpa using I.len⟩ ⟨_,hs,.inl rfl⟩
  ·exact (hs.2 b (yjb (yka (ysa e) I.ok.above))).trans (I.base.keep b o e n hb hx)
  ·obtain⟨sl,e1⟩:=I.base.slot b o e n hb hx;exact⟨sl,(hs.2 b (yjb (yka (ysa e) I.ok.above))).trans e1⟩
  ·obtain⟨o',e1⟩:=I.base.there b o e hx;exact⟨o',(hs.2 b (yjb (yka (ysa e) I.ok.above))).trans e1⟩
  ·by_cases hj:j=i
   ·subst hj;rw[hi] at e1;cases e1;rw[ysf hiσ] at e2;cases e2;exact⟨u,r,.inl ⟨hk,by simp⟩⟩
   ·rw[yig (ysc hj)] at e2;obtain⟨u',r',q⟩:=hl j y v' e1 e2 e3;refine⟨u',r',?_⟩
    rcases q with⟨k,e⟩|⟨k,c,e,z⟩
    ·refine .inl ⟨k,?_⟩;have:y≠x:=λe=>hj (zmz hN e1 (e▸hi));simp[this,e]
    ·exact .inr ⟨k,c,e,z.sameBut hs (cne y c e)⟩
  ·obtain⟨w',z⟩:=I.cell y c e;exact⟨w',z.sameBut hs (cne y c e)⟩
  ·obtain⟨e,n,ne,nf,d⟩:=I.pin p hp;exact⟨(hs.2 p.1 ne).trans e,n,ne,nf,d⟩
 ·have hfn:X.fn x=true:=by
   rcases hf with z|z
   ·exact z
   ·rw[z] at hk;cases hk
  obtain⟨c,hc⟩:=I.ok.has x (.inl hk);obtain⟨w',z⟩:=I.cell x c hc;refine wpAny_storeName_cell I.ok.kind hk hc z (λh' hc' hs=>?_);obtain⟨oc,hoc,hocd⟩:=id z;refine h { s with heap:=h' } ⟨I.ok,I.os,I.bare,⟨λb o e n hb hx=>?_,λb o e n hb hx=>?_,I.base.free,λb o e hx=>?_,I.base.tups,I.base.frzs,I.base.tbls⟩,⟨m,hn.sameBut hs (ysc (cne x c hc)),λj y v' e1 e2 e3=>?_⟩,λy c' e=>?_,I.free,I.freeC,λp hp=>?_,tracked ⟨oc,hoc,I.freeC x c hc⟩ hs,by simpa using I.len⟩ ⟨c,hs,.inr hc⟩
  ·exact (hs.2 b (yjb (yka (ysa e) (I.ok.cab x c hfn hc)))).trans (I.base.keep b o e n hb hx)
  ·obtain⟨sl,e1⟩:=I.base.slot b o e n hb hx;exact⟨sl,(hs.2 b (yjb (yka (ysa e) (I.ok.cab x c hfn hc)))).trans e1⟩
  ·obtain⟨o',e1⟩:=I.base.there b o e hx;exact⟨o',(hs.2 b (yjb (yka (ysa e) (I.ok.cab x c hfn hc)))).trans e1⟩
  ·by_cases hj:j=i
   ·subst hj;rw[hi] at e1;cases e1;rw[ysf hiσ] at e2;cases e2;exact⟨u,r,.inr ⟨.inl hk,c,hc,hc'⟩⟩
   ·rw[yig (ysc hj)] at e2;obtain⟨u',r',q⟩:=hl j y v' e1 e2 e3;refine⟨u',r',?_⟩
    rcases q with q|⟨k,c',e,z'⟩
    ·exact .inl q
    ·refine .inr ⟨k,c',e,z'.sameBut hs ?_⟩;rintro rfl;exact hj (zmz hN e1 (I.ok.inj _ _ _ e hc▸hi))
  ·by_cases hcc:c'=c
   ·subst hcc;exact⟨_,hc'⟩
   ·obtain⟨w2,z2⟩:=I.cell y c' e;exact⟨w2,z2.sameBut hs hcc⟩
  ·obtain⟨e,n,ne,nf,d⟩:=I.pin p hp;refine⟨(hs.2 p.1 ?_).trans e,n,ne,nf,d⟩;intro q;rw[q,hoc] at e;have q':oc=p.2:=ynb e;exact d w' (by rw[← q'];exact hocd)
theorem zup {M:Model}{A:Around}{E:Value->Shared->Prop}{i:Nat}{x:Str}{v:V}{u:Value}{Q:Unit->Shared->Prop}(I:Inv X pins σ H s)(hN:X.N.Nodup)(hi:X.N[i]?=some x)(hx:Loc X.env.scope x)(r:RelV v u)
  (h:∀s',Inv X pins (σ.set i (some v)) H s'->Q () s') (hf:X.fn x=true∨X.env.scope.names.lookup x=some .local:=by first|exact .inl rfl|exact .inr rfl|assumption):wpAny M A (storeName X.env x u) Q E s :=
 zwab I hN hi hx r (λs' I' _=>h s' I') hf
theorem Inv.call' {s':Shared}{ch:List Addr}(I:Inv X pins σ H s)(ho:s'.os=s.os)(u:Un (frs X.stack) ch H H' s.heap s'.heap)(hok:HOk X.prog X.w H' s'.heap)(hg:yek s'.gens)
  (hch:∀b∈ch,(b∈X.ex∨X.s₀.heap.objs.size≤b)∧b≠X.env.locals∧(∀x c,X.env.cells.lookup x=some c->c≠b)∧∀p∈X.pn++pins,p.1≠b):Inv X pins σ H' s':=by
 obtain⟨h',g',d',t',o'⟩:=s';have e:o'=s.os:=ho;subst e;exact I.call (g':=g') (t':=t') (d':=d') u hok hg hch
end
abbrev XK:=Value->Option Addr->Hp->Prop
abbrev St:=List (Option V)
abbrev VK:=V->Hp->Prop
abbrev TE:=St->Hp->VK->Prop
abbrev TT:=St->Hp->(Bool->Hp->Prop)->Prop
abbrev TA:=St->Hp->(List V->Hp->Prop)->Prop
structure Ends where
 nx:St->Hp->Prop
 rt:VK
 bk:St->Hp->Prop:=λ_ _=>False
 ct:St->Hp->Prop:=λ_ _=>False
abbrev TS:=Ends->St->Hp->Prop
def EP (X:Cx)(pins:List (Addr×Obj))(σ:St)(Q:VK)(u:Value)(s':Shared):Prop:=Ex2 λv H'=>Inv X pins σ H' s'∧RelV v u∧Q v H'
def TP (X:Cx)(pins:List (Addr×Obj))(σ:St)(Q:Bool->Hp->Prop)(b:Bool)(s':Shared):Prop:=∃H',Inv X pins σ H' s'∧Q b H'
def AP (X:Cx)(pins:List (Addr×Obj))(σ:St)(Q:List V->Hp->Prop)(us:List Value)(s':Shared):Prop:=Ex2 λvs H'=>Inv X pins σ H' s'∧Vals vs us∧Q vs H'
def SP (X:Cx)(pins:List (Addr×Obj))(D:Ends)(f:Flow)(s':Shared):Prop :=
 match f with
 | .next=>∃ σ' H',Inv X pins σ' H' s'∧D.nx σ' H'
 | .brk=>∃ σ' H',Inv X pins σ' H' s'∧D.bk σ' H'
 | .cont=>∃ σ' H',Inv X pins σ' H' s'∧D.ct σ' H'
 | .ret u=>∃v σ' H',Inv X pins σ' H' s'∧RelV v u∧D.rt v H'
def PE (X:Cx)(e:Expr)(t:TE):Prop :=
 ∀(pins:List (Addr×Obj)) (s:Shared) (σ:St) (H:Hp) (Q:VK),Inv X pins σ H s->t σ H Q->wpAny (model X.prog X.w) X.A (eval e X.env) (EP X pins σ Q) X.xe s
def PT (X:Cx)(e:Expr)(t:TT):Prop :=
 ∀(pins:List (Addr×Obj)) (s:Shared) (σ:St) (H:Hp) (Q:Bool->Hp->Prop),Inv X pins σ H s->t σ H Q->wpAny (model X.prog X.w) X.A (isTrue e X.env (eval e X.env)) (TP X pins σ Q) X.xe s
def PW (X:Cx)(e:Expr)(t:TT):Prop :=
 ∀(whole:Sem Value) (pins:List (Addr×Obj)) (s:Shared) (σ:St) (H:Hp) (Q:Bool->Hp->Prop),Inv X pins σ H s->t σ H Q->wpAny (model X.prog X.w) X.A (isTrue e X.env whole) (TP X pins σ Q) X.xe s
theorem PW.pt {X:Cx}{e:Expr}{t:TT}(h:PW X e t):PT X e t:=h _
def PA (X:Cx)(es:List Expr)(t:TA):Prop :=
 ∀(pos:Pos) (pins:List (Addr×Obj)) (s:Shared) (σ:St) (H:Hp) (Q:List V->Hp->Prop),Inv X pins σ H s->t σ H Q->wpAny (model X.prog X.w) X.A (spliced (backTo pos (yec es X.env))) (AP X pins σ Q) X.xe s
def PS (X:Cx)(st:Stmt)(t:TS):Prop :=
 ∀(pins:List (Addr×Obj)) (s:Shared) (σ:St) (H:Hp) (D:Ends),Inv X pins σ H s->t D σ H->wpAny (model X.prog X.w) X.A (exec st X.env) (SP X pins D) X.xe s
def PSs (X:Cx)(st:List Stmt)(t:TS):Prop :=
 ∀(pins:List (Addr×Obj)) (s:Shared) (σ:St) (H:Hp) (D:Ends),Inv X pins σ H s->t D σ H->wpAny (model X.prog X.w) X.A (execs st X.env) (SP X pins D) X.xe s
theorem thn {α:Type}{t:Sem α}{Q Q':α->Shared->Prop}{M:Model}{A:Around}{E:Value->Shared->Prop}{s:Shared}(h:wpAny M A t Q E s)(hQ:∀a s,Q a s->Q' a s):wpAny M A t Q' E s:=ymc h hQ λ_ _ x=>x
end L2
namespace L2
open PySem PySem.Spec PyProof.Rows
section
variable {X:Cx}
def tVar (i:Nat):TE:=fun σ H Q=>∃v,σ[i]?=some (some v)∧Q v H
def tC (v:V):TE:=λ_ H Q=>Q v H
theorem zyub {i:Nat}{x:Str}{pos:Pos}(hN:X.N[i]?=some x)(hv:Vis X.env.scope x)(hd:(x==("__debug__":Str))=false:=by decide)(hcd:(x==("__classdict__":Str))=false:=by decide):PE X (.Name x pos) (tVar i):=by
 intro pins s σ H Q I h;obtain⟨v,e,h⟩:=h;obtain⟨m,hn,hl⟩:=I.loc;obtain⟨u,r,l⟩:=hl i x v hN e hv;have fin:EP X pins σ Q u s:=⟨v,H,I,r,h⟩
 rcases l with⟨hk,hm⟩|⟨hk,c,hc,hcell⟩
 ·exact wpAny_Name (wpAny_loadName_local I.ok.kind hk hn hm fin) hd
 ·rcases hk with hk|hk
  ·exact wpAny_Name (wpAny_loadName_cell I.ok.kind hk hc hcell fin) hd
  ·exact wpAny_Name (wpAny_loadName_free I.ok.kind hk hc hcell fin hcd) hd
theorem zga {i j pos}:PE X (.Constant (.int i) j pos) (tC (.int i)):=λ_ _ _ H _ I h=>wpAny_Constant_int ⟨.int i,H,I.tok _,⟨_,rfl⟩,h⟩
theorem zyh {b j pos}:PE X (.Constant (.bool b) j pos) (tC (.bl b)):=λ_ _ _ H _ I h=>Constant_bool ⟨.bl b,H,I,rfl,h⟩
theorem zcy {j pos}:PE X (.Constant .none j pos) (tC .non):=λ_ _ _ H _ I h=>Constant_none ⟨.non,H,I,rfl,h⟩
theorem zea {x j pos}:PE X (.Constant (.str x) j pos) (tC (.str x)):=λ_ _ _ H _ I h=>Calls.Constant_str ⟨.str x,H,I.tok _,⟨_,rfl⟩,h⟩
def Gl (X:Cx)(x:Str):Prop:=X.env.kindOf x=some .globalImplicit
theorem zvv {E:Value->Shared->Prop}{pins:List (Addr×Obj)}{s:Shared}{σ:St}{H:Hp}{x:Str}{u:Value}{pos:Pos}{Q:Value->Shared->Prop}(I:Inv X pins σ H s)(hg:Gl X x)(hm:X.mg x=some u)(h:Q u s)
  (hd:(x==("__debug__":Str))=false:=by decide):wpAny (model X.prog X.w) X.A (eval (.Name x pos) X.env) Q E s :=
 yvi I.ok.kind hg (Calls.loadGlobal_global (by rw[I.ok.glob];exact I.mod.glob.keeps I.bk) hm h) hd
theorem zicb {E:Value->Shared->Prop}{pins:List (Addr×Obj)}{s:Shared}{σ:St}{H:Hp}{x:Str}{u:Value}{pos:Pos}{Q:Value->Shared->Prop}(I:Inv X pins σ H s)(hg:Gl X x)(hm:X.mg x=none)(hv:ywf x=some u)(h:Q u s)
  (hn:x ≠ "__name__":=by decide) (hd:(x==("__debug__":Str))=false:=by decide):wpAny (model X.prog X.w) X.A (eval (.Name x pos) X.env) Q E s:=by
 obtain⟨mb,h1,h2⟩:=I.mod.blt;exact yvi I.ok.kind hg (Calls.loadGlobal_builtin (by rw[I.ok.glob];exact I.mod.glob.keeps I.bk) hm (by rw[I.ok.blt];exact h1.keeps I.bk) ((h2 x hn).trans hv) h) hd
theorem zle {x:Str}{v:V}{u:Value}{pos:Pos}(hg:Gl X x)(hm:X.mg x=some u)(r:RelV v u)(hd:(x==("__debug__":Str))=false:=by decide):PE X (.Name x pos) (tC v) :=
 λ_ _ _ H _ I h=>zvv I hg hm ⟨v,H,I,r,h⟩ hd
theorem zlkb {x:Str}{v:V}{u:Value}{pos:Pos}(hg:Gl X x)(hm:X.mg x=none)(hv:ywf x=some u)(r:RelV v u)(hn:x ≠ "__name__":=by decide)(hd:(x==("__debug__":Str))=false:=by decide):PE X (.Name x pos) (tC v) :=
 λ_ _ _ H _ I h=>zicb I hg hm hv ⟨v,H,I,r,h⟩ hn hd
variable {a b:Expr}{ta tb:TE}{pos:Pos}
def tB (t:TE):TT:=fun σ H Q=>t σ H λx H1=>∃c,x = .bl c∧Q c H1
theorem zxh {e:Expr}{t:TE}(h:PE X e t)(he:∀whole,isTrue e X.env whole=(do let v ← whole;standAt e.pos;yxl [v] (truthy v)):=by intro _;rfl):PT X e (tB t):=by
 intro pins s σ H Q I hw;refine isTrue_plain (thn (h pins s σ H _ I hw) λv s1 ⟨x,H1,I1,r1,q1⟩=>?_) (he _);obtain⟨d,rfl,q⟩:=q1;cases r1;exact yhd ⟨H1,I1,q⟩
variable {tA tB':TT}{rest:List Expr}
def tAnd (t u:TT):TT:=fun σ H Q=>t σ H λc H1=>if c=true then u σ H1 Q else Q false H1
def tOr (t u:TT):TT:=fun σ H Q=>t σ H λc H1=>if c=true then Q true H1 else u σ H1 Q
def tNot (t:TT):TT:=fun σ H Q=>t σ H λc H1=>Q (!c) H1
theorem zlr (ha:PT X a tA):PW X (.BoolOp .And [a] pos) tA:=by
 intro wh pins s σ H Q I h;refine isTrue_and (thn (ha pins s σ H Q I h) λc s1 e=>?_);cases c with
 | true=>exact isTrue_and_nil e
 | false=>exact e
theorem zdq (ha:PT X a tA):PW X (.BoolOp .Or [a] pos) tA:=by
 intro wh pins s σ H Q I h;refine isTrue_or (thn (ha pins s σ H Q I h) λc s1 e=>?_);cases c with
 | false=>exact isTrue_or_nil e
 | true=>exact e
theorem zby (ha:PT X a tA)(hb:PW X (.BoolOp .And (b::rest) pos) tB'):PW X (.BoolOp .And (a::b::rest) pos) (tAnd tA tB'):=by
 intro wh pins s σ H Q I h;refine isTrue_and (thn (ha pins s σ H _ I h) λc s1 ⟨H1,I1,q1⟩=>?_);cases c with
 | true=>exact hb wh pins s1 σ H1 Q I1 q1
 | false=>exact⟨H1,I1,q1⟩
theorem zmo (ha:PT X a tA)(hb:PW X (.BoolOp .Or (b::rest) pos) tB'):PW X (.BoolOp .Or (a::b::rest) pos) (tOr tA tB'):=by
 intro wh pins s σ H Q I h;refine isTrue_or (thn (ha pins s σ H _ I h) λc s1 ⟨H1,I1,q1⟩=>?_);cases c with
 | true=>exact⟨H1,I1,q1⟩
 | false=>exact hb wh pins s1 σ H1 Q I1 q1
theorem zak (ha:PT X a tA):PT X (.UnaryOp .Not a pos) (tNot tA):=by
 intro pins s σ H Q I h;exact isTrue_not (ha pins s σ H (λc H1=>Q (!c) H1) I h)
def zdxb (ta tb:TE):TE:=fun σ H Q=>ta σ H λx H1=>∃c,x = .bl c∧if c=true then tb σ H1 Q else Q (.bl false) H1
def tOrV (ta tb:TE):TE:=fun σ H Q=>ta σ H λx H1=>∃c,x = .bl c∧if c=true then Q (.bl true) H1 else tb σ H1 Q
theorem zum {op}{t:TE}(h:PE X a t):PE X (.BoolOp op [a] pos) t:=λpins s σ H Q I hw=>BoolOp_one (h pins s σ H Q I hw)
theorem zco (ha:PE X a ta)(hb:PE X (.BoolOp .And (b::rest) pos) tb):PE X (.BoolOp .And (a::b::rest) pos) (zdxb ta tb):=by
 intro pins s σ H Q I h;refine BoolOp_and (thn (ha pins s σ H _ I h) λv s1 ⟨x,H1,I1,r1,q1⟩=>?_);obtain⟨c,rfl,q1⟩:=q1;cases r1;refine yhd ?_;cases c with
 | true=>exact hb pins s1 σ H1 Q I1 q1
 | false=>exact⟨.bl false,H1,I1,rfl,q1⟩
theorem zzub (ha:PE X a ta)(hb:PE X (.BoolOp .Or (b::rest) pos) tb):PE X (.BoolOp .Or (a::b::rest) pos) (tOrV ta tb):=by
 intro pins s σ H Q I h;refine BoolOp_or (thn (ha pins s σ H _ I h) λv s1 ⟨x,H1,I1,r1,q1⟩=>?_);obtain⟨c,rfl,q1⟩:=q1;cases r1;refine yhd ?_;cases c with
 | false=>exact hb pins s1 σ H1 Q I1 q1
 | true=>exact⟨.bl true,H1,I1,rfl,q1⟩
def tIf (t:TT)(ta tb:TE):TE:=fun σ H Q=>t σ H λc H1=>if c=true then ta σ H1 Q else tb σ H1 Q
theorem zwgb {c:Expr}(hc:PT X c tA)(ha:PE X a ta)(hb:PE X b tb):PE X (.IfExp c a b pos) (tIf tA ta tb):=by
 intro pins s σ H Q I h;refine wpAny_IfExp (thn (hc pins s σ H _ I h) λd s1 ⟨H1,I1,q1⟩=>?_);cases d with
 | true=>exact ha pins s1 σ H1 Q I1 q1
 | false=>exact hb pins s1 σ H1 Q I1 q1
end
end L2
namespace L2
open PySem PySem.Spec PyProof.Rows
def SqL (K:yba)(H:Hp)(a:Addr)(xs:List V):Prop :=
 Rd H a (.lst xs) ∨
  Ex3 λ(o:Obj) (its:Array Value) (n:Nat)=>K.lookup a=some o∧o.cls = .type "list" ∧ o.dict=none∧o.data = .seq its n∧its.size≤yua∧Vals xs its.toList
def SqT (K:yba)(H:Hp)(a:Addr)(xs:List V):Prop :=
 Rd H a (.tup xs) ∨
  Ex3 λ(o:Obj) (its:Array Value) (n:Nat)=>K.lookup a=some o∧o.cls = .type "tuple" ∧ o.data = .seq its n∧its.size≤yua∧Vals xs its.toList
def absV:Value->Option V
 | .none=>some .non
 | .bool b=>some (.bl b)
 | .int i _=>some (.int i)
 | .str x _=>some (.str x)
 | .bytes b _=>some (.byt b)
 | .float b _=>some (.flt b)
 | .ref a=>some (.ref a)
 | .type n=>some (.ty n)
 | _=>none
theorem RelV.abs {x:V}{u:Value}(r:RelV x u):absV u=some x:=by
 cases x with
 | non=>cases r;rfl
 | bl _=>cases r;rfl
 | int _=>obtain⟨t,rfl⟩:=r;rfl
 | str _=>obtain⟨t,rfl⟩:=r;rfl
 | byt _=>obtain⟨t,rfl⟩:=r;rfl
 | flt _=>obtain⟨t,rfl⟩:=r;rfl
 | ref _=>cases r;rfl
 | ty _=>cases r;rfl
theorem RelV.inj {x y:V}{u:Value}(r:RelV x u)(q:RelV y u):x=y:=ynb (r.abs.symm.trans q.abs)
theorem Vals.inj:∀{xs ys:List V} {us:List Value},Vals xs us->Vals ys us->xs=ys
 | _,_,_,.nil,.nil=>rfl
 | _,_,_,.cons r t,.cons r' t'=>by rw[r.inj r',Vals.inj t t']
section
variable {X:Cx}{pins:List (Addr×Obj)}{σ:St}{H:Hp}{s:Shared}{a:Addr}{xs ys:List V}
theorem SqL.of {K:yba}(h:H a=some (.lst xs)):SqL K H a xs:=.inl (.inl h)
theorem SqT.of {K:yba}(h:H a=some (.tup xs)):SqT K H a xs:=.inl (.inl h)
theorem Inv.list (I:Inv X pins σ H s)(h:SqL X.K H a xs):∃its:List Value,Vals xs its∧PlainL s.heap a its.toArray∧xs.length≤yua:=by
 rcases h with h|⟨o,its,n,hk,hc,hd,hs,hz,r⟩
 ·obtain⟨z,its,n,r,e⟩:=h.ok I.hok;exact⟨its,r,⟨_,n,e,rfl,rfl,rfl⟩,z⟩
 ·refine⟨its.toList,r,⟨o,n,I.kIn a o hk,hc,hd,by simpa using hs⟩,?_⟩;have e:=r.length;simp only[ymb] at e;omega
theorem Inv.tuple (I:Inv X pins σ H s)(h:SqT X.K H a xs):∃its:List Value,Vals xs its∧IsTup s.heap a its.toArray∧xs.length≤yua:=by
 rcases h with h|⟨o,its,n,hk,hc,hs,hz,r⟩
 ·obtain⟨z,its,r,p⟩:=h.ok I.hok;exact⟨its,r,p,z⟩
 ·refine⟨its.toList,r,⟨o,I.kIn a o hk,hc,n,by simpa using hs⟩,?_⟩;have e:=r.length;simp only[ymb] at e;omega
theorem Inv.zwnb (I:Inv X pins σ H s)(h:SqL X.K H a xs)(h':SqL X.K H a ys):xs=ys:=by
 obtain⟨its,r,⟨o,n,e,_,_,d⟩,_⟩:=I.list h;obtain⟨its',r',⟨o',n',e',_,_,d'⟩,_⟩:=I.list h';rw[e] at e';cases e';rw[d] at d';injection d' with d1 _
 have:its=its':=by simpa using congrArg Array.toList d1
 subst this;exact r.inj r'
theorem Inv.zzib (I:Inv X pins σ H s)(h:SqT X.K H a xs)(h':SqT X.K H a ys):xs=ys:=by
 obtain⟨its,r,⟨o,e,_,n,d⟩,_⟩:=I.tuple h;obtain⟨its',r',⟨o',e',_,n',d'⟩,_⟩:=I.tuple h';rw[e] at e';cases e';rw[d] at d';injection d' with d1 _
 have:its=its':=by simpa using congrArg Array.toList d1
 subst this;exact r.inj r'
end
abbrev Cx.wish (X:Cx)(E:Value->Shared->Prop):Cx:={ X with xe:=E }
abbrev Cx.nox (X:Cx):Cx:=X.wish λ_ _=>False
theorem Cx.Ok.wish {X:Cx}(ok:X.Ok)(E:Value->Shared->Prop):(X.wish E).Ok :=
 ⟨ok.mod,ok.kind,ok.glob,ok.blt,ok.above,ok.inj,ok.has,ok.cab,ok.hd,ok.frames,ok.stk,ok.exf,ok.bs,ok.bsz,ok.noex,ok.exfs,ok.funs,ok.frf⟩
theorem Cx.Ok.zas {X:Cx}{E:Value->Shared->Prop}(ok:(X.wish E).Ok):X.Ok :=
 ⟨ok.mod,ok.kind,ok.glob,ok.blt,ok.above,ok.inj,ok.has,ok.cab,ok.hd,ok.frames,ok.stk,ok.exf,ok.bs,ok.bsz,ok.noex,ok.exfs,ok.funs,ok.frf⟩
section
variable {X:Cx}{pins:List (Addr×Obj)}{σ:St}{H:Hp}{s:Shared}{E:Value->Shared->Prop}
theorem Inv.wish (I:Inv X pins σ H s)(E:Value->Shared->Prop):Inv (X.wish E) pins σ H s:=⟨I.ok.wish E,I.os,I.bare,I.base,I.loc,I.cell,I.free,I.freeC,I.pin,I.hok,I.len⟩
theorem Inv.zas (I:Inv (X.wish E) pins σ H s):Inv X pins σ H s:=⟨I.ok.zas,I.os,I.bare,I.base,I.loc,I.cell,I.free,I.freeC,I.pin,I.hok,I.len⟩
theorem SP.zas {D:Ends}{f:Flow}{s':Shared}(h:SP (X.wish E) pins D f s'):SP X pins D f s':=by
 cases f with
 | next=>obtain⟨σ',H',I,q⟩:=h;exact⟨σ',H',I.zas,q⟩
 | brk=>obtain⟨σ',H',I,q⟩:=h;exact⟨σ',H',I.zas,q⟩
 | cont=>obtain⟨σ',H',I,q⟩:=h;exact⟨σ',H',I.zas,q⟩
 | ret u=>obtain⟨v,σ',H',I,r,q⟩:=h;exact⟨v,σ',H',I.zas,r,q⟩
theorem PSs.nox {st:List Stmt}{t:TS}(h:PSs X.nox st t):PSs X st t:=λpins s σ H D I hw =>
 ymc (h pins s σ H D (I.wish _) hw) (λ_ _ q=>q.zas) λ_ _ z=>yce z
end
section
variable {X:Cx}{st:Stmt}{rest:List Stmt}{t u:TS}{e:Expr}{te:TE}{pos:Pos}
def zgqb:TS:=λD σ H=>D.nx σ H
def tSeq (t u:TS):TS:=λD σ H=>t { D with nx:=u D } σ H
theorem zra:PSs X [] zgqb:=λ_ _ σ H _ I h=>yug ⟨σ,H,I,h⟩
theorem zca (h1:PS X st t)(h2:PSs X rest u):PSs X (st::rest) (tSeq t u):=by
 intro pins s σ H D I h;refine wpAny_execs_cons (thn (h1 pins s σ H { D with nx:=u D } I h) λf s1 q=>?_);cases f with
 | next =>
  obtain⟨σ',H',I',q⟩:=q;exact h2 pins s1 σ' H' D I' q
 | ret v=>exact q
 | brk=>exact q
 | cont=>exact q
theorem zia (h1:PS X st t):PSs X [st] t:=by
 intro pins s σ H D I h;refine wpAny_execs_cons (thn (h1 pins s σ H D I h) λf s1 q=>?_);cases f with
 | next=>exact yug q
 | ret v=>exact q
 | brk=>exact q
 | cont=>exact q
theorem Inv.quiet {pins:List (Addr×Obj)}{σ:St}{H:Hp}{s:Shared}(I:Inv X pins σ H s):interactive X.env=false:=by simp[interactive,I.ok.kind]
def zaxb (te:TE):TS:=λD σ H=>te σ H λ_ H1=>D.nx σ H1
theorem zsk (he:PE X e te)(hs:yzn e none pos.line X.env=pure false:=by rfl):PS X (.Expr e pos) (zaxb te):=by
 intro pins s σ H D I h;exact wpAny_Expr_any (thn (he pins s σ H _ I h) λv s1 ⟨x,H1,I1,r1,q1⟩=>⟨σ,H1,I1,q1⟩) I.quiet hs
def tRet (te:TE):TS:=λD σ H=>te σ H D.rt
theorem zpa (he:PE X e te):PS X (.Return (some e) pos) (tRet te):=by
 intro pins s σ H D I h;exact wpAny_Return_some (thn (he pins s σ H _ I h) λv s1 ⟨x,H1,I1,r1,q1⟩=>⟨x,σ,H1,I1,r1,q1⟩)
def tIfS (c:TT)(t u:TS):TS:=λD σ H=>c σ H λb H1=>if b=true then t D σ H1 else u D σ H1
theorem zqb {c:Expr}{a b:List Stmt}{tc:TT}(hc:PT X c tc)(ha:PSs X a t)(hb:PSs X b u):PS X (.If c a b pos) (tIfS tc t u):=by
 intro pins s σ H D I h;refine wpAny_If (thn (hc pins s σ H _ I h) λd s1 ⟨H1,I1,q1⟩=>?_);cases d with
 | true=>exact ha pins s1 σ H1 D I1 q1
 | false=>exact hb pins s1 σ H1 D I1 q1
end
abbrev TG:=V->St->Hp->(St->Hp->Prop)->Prop
abbrev TGs:=List V->St->Hp->(St->Hp->Prop)->Prop
def PG (X:Cx)(target:Expr)(t:TG):Prop :=
 ∀(pins:List (Addr×Obj)) (s:Shared) (σ:St) (H:Hp) (v:V) (u:Value) (Q:St->Hp->Prop),Inv X pins σ H s->RelV v u->t v σ H Q →
  wpAny (model X.prog X.w) X.A (assign target X.env u) (λ_ s'=>∃ σ' H',Inv X pins σ' H' s'∧Q σ' H') X.xe s
def PGs (X:Cx)(ts:List Expr)(t:TGs):Prop :=
 ∀(pins:List (Addr×Obj)) (s:Shared) (σ:St) (H:Hp) (vs:List V) (us:List Value) (Q:St->Hp->Prop),Inv X pins σ H s->Vals vs us->t vs σ H Q →
  wpAny (model X.prog X.w) X.A (assignInOrder ((ypj ts X.env).map (·.2)) us) (λ_ s'=>∃ σ' H',Inv X pins σ' H' s'∧Q σ' H') X.xe s
abbrev TSet:=V->V->V->Hp->(Hp->Prop)->Prop
def PSet (X:Cx)(t:TSet):Prop :=
 ∀(pins:List (Addr×Obj)) (s:Shared) (σ:St) (H:Hp) (o i v:V) (ov iv u:Value) (Q:Hp->Prop),Inv X pins σ H s->RelV o ov->RelV i iv->RelV v u->t o i v H Q →
  wpAny (model X.prog X.w) X.A (setItem ov iv u) (λ_ s'=>∃H',Inv X pins σ H' s'∧Q H') X.xe s
abbrev TIp:=V->V->Hp->VK->Prop
def PIp (X:Cx)(op:yyn)(t:TIp):Prop :=
 ∀(pins:List (Addr×Obj)) (s:Shared) (σ:St) (H:Hp) (x y:V) (v u:Value) (Q:VK),Inv X pins σ H s->RelV x v->RelV y u->t x y H Q →
  wpAny (model X.prog X.w) X.A (inplaceOp op v u) (EP X pins σ Q) X.xe s
section
variable {X:Cx}{pos:Pos}
def zwz (i:Nat):TG:=λv σ H Q=>Q (σ.set i (some v)) H
theorem zwd {i:Nat}{x:Str}(hN:X.N.Nodup)(hi:X.N[i]?=some x)(hx:Loc X.env.scope x)(hf:X.fn x=true∨X.env.scope.names.lookup x=some .local:=by first|exact .inl rfl|exact .inr rfl|assumption):PG X (.Name x pos) (zwz i):=by
 intro pins s σ H v u Q I r h;exact wpAny_assign_Name (zup I hN hi hx r (λs' I'=>⟨_,H,I',h⟩) hf)
def gNil:TGs:=λvs σ H Q=>vs=[]∧Q σ H
def zrxb (t:TG)(u:TGs):TGs:=λvs σ H Q=>Ex2 λv r=>vs=v::r∧t v σ H fun σ' H'=>u r σ' H' Q
theorem zcz:PGs X [] gNil:=by
 intro pins s σ H vs us Q I r h;obtain⟨e,h⟩:=h;subst e;cases r;exact assignInOrder_nil ⟨σ,H,I,h⟩
theorem zbk {e:Expr}{es:List Expr}{t:TG}{u:TGs}(h1:PG X e t)(h2:PGs X es u)
  (hs:(ypj (e::es) X.env).map (·.2)=assign e X.env::(ypj es X.env).map (·.2):=by rfl):PGs X (e::es) (zrxb t u):=by
 intro pins s σ H vs us Q I r h;obtain⟨v,vr,e1,h⟩:=h;subst e1;cases r with
 | cons r rr =>
  rw[hs];refine assignInOrder_cons (thn (h1 pins s σ H _ _ _ I r h) λ_ s1 ⟨σ1,H1,I1,q1⟩=>?_);exact h2 pins s1 σ1 H1 _ _ Q I1 rr q1
def gTup (K:yba)(n:Nat)(t:TGs):TG:=λv σ H Q=>Ex2 λa xs=>v = .ref a∧SqT K H a xs∧xs.length=n∧t xs σ H Q
theorem zvgb {es:List Expr}{k:Nat}{t:TGs}{n:Nat}(hc:X.calm=true)(h:PGs X es t)
  (hn:(ypj es X.env).length=n:=by rfl) (hst:(ypj es X.env).findIdx? (·.1)=none:=by rfl):PG X (.Tuple es k pos) (gTup X.K n t):=by
 intro pins s σ H v u Q I r hw;obtain⟨a,xs,e1,hq,hl,hw⟩:=hw;subst e1;cases r;obtain⟨its,rv,ht,hz⟩:=I.tuple hq;refine assign_Tuple_tuple (I.ok.hd hc) ht (by simp[hn,← hl,rv.length]) hst λh' hx=>?_;have I1:Inv X pins σ H { s with heap:=h' }:=I.kept (t':=s.toks) λb o e=>hx b o (yjb (ysa e)) e;exact h pins _ σ H xs _ Q I1 (by simpa using rv) hw
def gSub (to ti:TE)(t:TSet):TG:=λv σ H Q=>to σ H λo H1=>ti σ H1 λi H2=>t o i v H2 λH3=>Q σ H3
theorem zwub {o i:Expr}{to ti:TE}{t:TSet}(ho:PE X o to)(hi:PE X i ti)(hs:PSet X t)
  (ha:∀v,assign (.Subscript o i pos) X.env v=(do
   let ov ← yxl [v] (eval o X.env)
   let iv ← yxl [v,ov] (eval i X.env)
   standAt pos
   yxl [v,ov,iv] (setItem ov iv v)
   release [v,ov,iv] []):=by intro _;rfl):PG X (.Subscript o i pos) (gSub to ti t):=by
 intro pins s σ H v u Q I r h;rw[ha];refine yfa (ysd (thn (ho pins s σ H _ I h) λov s1 ⟨x,H1,I1,r1,q1⟩=>?_));refine yfa (ysd (thn (hi pins s1 σ H1 _ I1 q1) λiv s2 ⟨y,H2,I2,r2,q2⟩=>?_));refine yfa (yhm (yfa (ysd (thn (hs pins s2 σ H2 x y v ov iv u _ I2 r1 r2 r q2) λ_ s3 ⟨H3,I3,q3⟩=>?_))));exact wpAny_release ⟨σ,H3,I3,q3⟩
def tAsg (te:TE)(g:TG):TS:=λD σ H=>te σ H λx H1=>g x σ H1 D.nx
theorem ztgb {tg e:Expr}{te:TE}{g:TG}(he:PE X e te)(hg:PG X tg g)(hs:swapsWithSole [tg] e pos.line X.env=pure false:=by rfl)(hw:swappedStores [tg] e X.env=pure none:=by rfl)
  (h1:(ypj [tg] X.env).map (·.2)=[assign tg X.env]:=by rfl):PS X (.Assign [tg] e pos) (tAsg te g):=by
 intro pins s σ H D I h;refine wpAny_Assign_stores (thn (he pins s σ H _ I h) λv s1 ⟨x,H1,I1,r1,q1⟩=>?_) hs hw;rw[h1];exact thn (hg pins s1 σ H1 x v _ I1 r1 q1) λ_ s2 q=>q
theorem zta {i:Nat}{x:Str}{e:Expr}{te:TE}{pos':Pos}(hN:X.N.Nodup)(hi:X.N[i]?=some x)(hx:Loc X.env.scope x)(he:PE X e te)(hs:yzn e (some (.Name x pos')) pos.line X.env=pure false:=by rfl)(hf:X.fn x=true∨X.env.scope.names.lookup x=some .local:=by first|exact .inl rfl|exact .inr rfl|assumption) :
  PS X (.Assign [.Name x pos'] e pos) (tAsg te (zwz i)):=by
 intro pins s σ H D I h;refine wpAny_Assign_Name (thn (he pins s σ H _ I h) λv s1 ⟨y,H1,I1,r1,q1⟩=>?_) hs;exact zup I1 hN hi hx r1 (λs2 I2=>⟨_,H1,I2,q1⟩) hf
def tAug (i:Nat)(te:TE)(ti:TIp):TS:=λD σ H=>∃x,σ[i]?=some (some x)∧te σ H λy H1=>ti x y H1 λz H2=>D.nx (σ.set i (some z)) H2
theorem zvub {i:Nat}{x:Str}{e:Expr}{te:TE}{op:yyn}{ti:TIp}{pos':Pos}(hN:X.N.Nodup)(hi:X.N[i]?=some x)(hx:Loc X.env.scope x)(he:PE X e te)(ho:PIp X op ti)(hf:X.fn x=true∨X.env.scope.names.lookup x=some .local:=by first|exact .inl rfl|exact .inr rfl|assumption) :
  PS X (.AugAssign (.Name x pos') op e pos) (tAug i te ti):=by
 intro pins s σ H D I h;obtain⟨v,e1,h⟩:=h;obtain⟨m,hn,hl⟩:=I.loc;have vis:Vis X.env.scope x:=by rcases hx with k|k;exact .inl k;exact .inr (.inl k)
 obtain⟨u,r,l⟩:=hl i x v hi e1 vis;refine wpAny_AugAssign_Name ?_;have go:wpAny (model X.prog X.w) X.A (eval e X.env) (λw s₂=>wpAny (model X.prog X.w) X.A (inplaceOp op u w) (λr s₃=>wpAny (model X.prog X.w) X.A (storeName X.env x r) (λ_=>SP X pins D .next) X.xe s₃) X.xe s₂) X.xe s:=by
  refine thn (he pins s σ H _ I h) λw s1 ⟨y,H1,I1,r1,q1⟩=>?_;refine thn (ho pins s1 σ H1 v y u w _ I1 r r1 q1) λz s2 ⟨zv,H2,I2,r2,q2⟩=>?_;exact zup I2 hN hi hx r2 (λs3 I3=>⟨_,H2,I3,q2⟩) hf
 rcases l with⟨hk,hm⟩|⟨hk,c,hc,hcell⟩
 ·exact wpAny_loadName_local I.ok.kind hk hn hm go
 ·rcases hk with hk|hk
  ·exact wpAny_loadName_cell I.ok.kind hk hc hcell go
  ·rcases hx with k|k
   ·have:X.env.scope.names.lookup x=some .free:=hk;rw[k] at this;cases this
   ·have:X.env.scope.names.lookup x=some .free:=hk;rw[k] at this;cases this
def ipI (f:Int->Int->Int):TIp:=λx y H Q=>Ex2 λi j=>x = .int i∧y = .int j∧Q (.int (f i j)) H
theorem zzvb:PIp X .Add (ipI λi j=>i+j):=by
 intro pins s σ H x y v u Q I r1 r2 h;obtain⟨i,j,e1,e2,q⟩:=h;subst e1;subst e2;obtain⟨t,rfl⟩:=r1;obtain⟨t',rfl⟩:=r2;exact iadd_int ⟨.int _,H,I.tok _,⟨_,rfl⟩,q⟩
end
section
variable {X:Cx}{pos:Pos}
def zwtb (c:TT)(tb:TS):TS:=λD σ H=>∃W:Nat->St->Hp->Prop,(∃m,W m σ H)∧∀m σ H,W m σ H →
 c σ H λb H1=>if b=true then ∃N:St->Hp->Prop,(∀ σ' H',N σ' H'->∃m',m'<m∧W m' σ' H')∧tb { D with nx:=N,ct:=N,bk:=D.nx } σ H1 else D.nx σ H1
theorem zsgb {c:Expr}{body:List Stmt}{tc:TT}{tb:TS}(hp:PassesOwn (model X.prog X.w) X.A X.env X.xe)(hc:PT X c tc)(hb:PSs X body tb):PS X (.While c body [] pos) (zwtb tc tb):=by
 intro pins s σ H D I h;obtain⟨W,⟨m0,w0⟩,turn⟩:=h;refine wpAny_While (codeAny_whileLoop (λn s'=>∃ σ' H',Inv X pins σ' H' s'∧W n σ' H') ?_ m0 ⟨σ,H,I,w0⟩);rintro n s1 ⟨σ1,H1,I1,w1⟩;refine yte hp (thn (hc pins s1 σ1 H1 _ I1 (turn n σ1 H1 w1)) λb s2 ⟨H2,I2,q2⟩=>?_);cases b with
 | true =>
  obtain⟨N,hN,q2⟩:=q2;rw[if_pos rfl];refine yte hp (thn (hb pins s2 σ1 H2 _ I2 q2) λf s3 q3=>?_);cases f with
  | next =>
   obtain⟨σ3,H3,I3,n3⟩:=q3;obtain⟨m',hm,w3⟩:=hN σ3 H3 n3;exact⟨m',hm,σ3,H3,I3,w3⟩
  | cont =>
   obtain⟨σ3,H3,I3,n3⟩:=q3;obtain⟨m',hm,w3⟩:=hN σ3 H3 n3;exact⟨m',hm,σ3,H3,I3,w3⟩
  | brk=>exact q3
  | ret v=>exact q3
 | false =>
  rw[if_neg yab];exact yug ⟨σ1,H2,I2,q2⟩
end
structure It where
 go:Nat->Hp->Prop
 yld:Nat->Hp->V->Hp->Prop
 stop:Nat->Hp->Prop
def FpOk (X:Cx)(pins:List (Addr×Obj))(H:Hp)(b:Addr):Prop :=
 H b=none∧b≠X.env.locals∧b∉X.fs∧(b∈X.ex∨X.s₀.heap.objs.size≤b)∧(∀x c,X.env.cells.lookup x=some c->c≠b)∧∀p∈X.pn++pins,p.1≠b
theorem Inv.fpOk {X:Cx}{pins:List (Addr×Obj)}{σ:St}{H H':Hp}{s:Shared}{b:Addr}(I:Inv X pins σ H s)(hb:s.heap.objs.size≤b)(hn:H' b=none):FpOk X pins H' b:=by
 refine⟨hn,yyi (yka I.lt hb),I.nofs hb,.inr (ypa I.sz hb),λx c e z=>?_,λp hp z=>?_⟩
 ·obtain⟨v,q⟩:=I.cell x c e;exact absurd (yka q.lt (by rw[z];exact hb)) (yhc _)
 ·exact absurd (yka (ysa (I.pin p hp).1) (by rw[z];exact hb)) (yhc _)
structure Turn (P:ysb)(w:World)(K:yba)(tg:Expr)(J:It)(fp:List Addr)(it:Addr)(tn:Nat->Heap->Prop):Prop where
 mem:it∈fp
 obj:∀i h,tn i h->∀b∈fp,∃o,h.get? b=some o∧∀v,o.data ≠ .cell v
 keep:∀i h h',tn i h->(∀b∈fp,∀o,h.get? b=some o->h'.get? b=some o)->tn i h'
 item:∀(X:Cx),X.prog=P->X.w=w->X.K=K->X.calm=true->∀(i:Nat) (pins:List (Addr×Obj)) (s:Shared) (σ:St) (H:Hp) (E:Value->Shared->Prop),Inv X pins σ H s->(∀b∈fp,FpOk X pins H b)->tn i s.heap->J.go i H →
  wpAny (model P w) X.A (pyNext (.ref it)) (λr s1=>∃u,r=some u ∧
   wpAny (model P w) X.A (ygi tg (.ref it) u) (λ_ s2=>Ex2 λx H'=>Inv X pins σ H' s2∧RelV x u∧J.yld i H x H'∧tn (i+1) s2.heap∧∀b∈fp,H' b=none) E s1) E s
 done:∀(X:Cx),X.prog=P->X.w=w->X.K=K->X.calm=true->∀(i:Nat) (pins:List (Addr×Obj)) (s:Shared) (σ:St) (H:Hp) (E:Value->Shared->Prop),Inv X pins σ H s->(∀b∈fp,FpOk X pins H b)->tn i s.heap->J.stop i H →
  wpAny (model P w) X.A (pyNext (.ref it)) (λr s1=>r=none∧Inv X pins σ H s1) E s
 self:∀(A:Around) (i:Nat) (s:Shared) (Q:Value->Shared->Prop) (E:Value->Shared->Prop),tn i s.heap->Q (.ref it) s->wpAny (model P w) A (pyIter (.ref it)) Q E s
abbrev TI:=St->Hp->(It->Hp->Prop)->Prop
def PIE (X:Cx)(pins:List (Addr×Obj))(σ:St)(tg:Expr)(R:It->Hp->Prop)(itv:Value)(s2:Shared):Prop :=
 Ex5 λ(it:Addr) (fp:List Addr) (tn:Nat->Heap->Prop) (J:It) (H':Hp)=>itv = .ref it∧Inv X pins σ H' s2∧Turn X.prog X.w X.K tg J fp it tn∧tn 0 s2.heap∧(∀b∈fp,FpOk X pins H' b)∧R J H'
def PI (X:Cx)(tg iter:Expr)(wi:TI):Prop :=
 ∀(pins:List (Addr×Obj)) (s:Shared) (σ:St) (H:Hp) (R:It->Hp->Prop),Inv X pins σ H s->wi σ H R →
  wpAny (model X.prog X.w) X.A (eval iter X.env) (λv s1=>wpAny (model X.prog X.w) X.A (pyIter v) (PIE X pins σ tg R) X.xe s1) X.xe s
theorem zelb {M:Model}{A:Around}{E:Value->Shared->Prop}{s:Shared}{tg:Expr}{it:Addr}{u:Value}{o:Obj}{n:String}{vs:Array Value}{Q:Unit->Shared->Prop}(ho:s.heap.get? it=some o)(hc:o.cls = .type n)(hd:o.data = .fields vs)
  (hn:["enumerate","zip","dict_itemiterator","dict_reverseitemiterator","odict_iterator","itertools.zip_longest","itertools.pairwise"].contains n=false) (hQ:Q () s):wpAny M A (ygi tg (.ref it) u) Q E s:=by
 unfold ygi;cases tg<;>first
  | exact yra hQ
  | (cases u<;>first
    | exact yra hQ
    | (refine yfa (yzm ho ?_)
       rw[hc,hd];show wpAny M A (if (["enumerate","zip","dict_itemiterator","dict_reverseitemiterator","odict_iterator","itertools.zip_longest","itertools.pairwise"].contains n&&vs[0]?==some (rawInt _))=true then _ else _) Q E s
       rw[if_neg (by intro h;rw[hn,yqb] at h;cases h)];exact yra hQ))
def Itl (K:yba)(a:Addr):It :=
 ⟨λi H=>Ex2 λxs x=>SqL K H a xs∧xs[i]?=some x,λi H x H'=>H'=H∧∀xs,SqL K H a xs->xs[i]?=some x,λi H=>∃xs,SqL K H a xs∧xs.length≤i⟩
def Itt (K:yba)(a:Addr):It :=
 ⟨λi H=>Ex2 λxs x=>SqT K H a xs∧xs[i]?=some x,λi H x H'=>H'=H∧∀xs,SqT K H a xs->xs[i]?=some x,λi H=>∃xs,SqT K H a xs∧xs.length≤i⟩
def Itr (lo:Int)(n:Nat):It:=⟨λi _=>i<n,λi H x H'=>H'=H∧x = .int (lo+i),λi _=>n≤i⟩
theorem zyib {P:ysb}{w:World}{K:yba}{tg:Expr}(a it:Addr):Turn P w K tg (Itl K a) [it] it (λi h=>h.IsListIter it a i) where
 mem:=by simp
 obj:=λi h st b hb=>by
  have e:b=it:=by simpa using hb
  subst e;obtain⟨o,e,c,d⟩:=st;exact⟨o,e,λv z=>by rw[d] at z;cases z⟩
 keep:=λi h h' st k=>st.at λo e=>k it (by simp) o e
 item:=by
  intro X hP hw hK hc i pins s σ H E I hf st hg;subst hP hw hK;obtain⟨xs,x,hq,hx⟩:=hg;obtain⟨its,rv,p,hz⟩:=I.list hq;obtain⟨u,hu,ru⟩:=rv.get hx;obtain⟨f0,f1,f2,f3,f4,f5⟩:=hf it (by simp);refine wpAny_pyNext_list_item st p.isList (x:=u) (by simpa using hu) λh' st' sb=>?_;have I1:Inv X pins σ H { s with heap:=h' }:=I.turned (t':=s.toks) (λb o hb e=>(sb.2 b hb).trans e) f0 f1 f3 f4 f5;obtain⟨o,e,c,d⟩:=id st';exact⟨u,rfl,zelb (s:={ s with heap:=h' }) e c d (by decide) ⟨x,H,I1,ru,⟨rfl,λys hy=>by rw[I.zwnb hy hq];exact hx⟩,st',λb hb=>(hf b hb).1⟩⟩
 done:=by
  intro X hP hw hK hc i pins s σ H E I hf st hg;subst hP hw hK;obtain⟨xs,hq,hx⟩:=hg;obtain⟨its,rv,p,hz⟩:=I.list hq;obtain⟨f0,f1,f2,f3,f4,f5⟩:=hf it (by simp);have hl:=rv.length;exact wpAny_pyNext_list_end (I.ok.hd hc) st p.isList (by simp;omega) λh' eb=>⟨rfl,I.turned (t':=s.toks) (λb o hb e=>eb b o hb e) f0 f1 f3 f4 f5⟩
 self:=λ_ _ _ _ _ st h=>wpAny_pyIter_listiter st h
theorem zrhb {P:ysb}{w:World}{K:yba}{tg:Expr}(a it:Addr):Turn P w K tg (Itt K a) [it] it (λi h=>h.IsTupleIter it a i) where
 mem:=by simp
 obj:=λi h st b hb=>by
  have e:b=it:=by simpa using hb
  subst e;obtain⟨o,e,c,d⟩:=st;exact⟨o,e,λv z=>by rw[d] at z;cases z⟩
 keep:=λi h h' st k=>st.at λo e=>k it (by simp) o e
 item:=by
  intro X hP hw hK hc i pins s σ H E I hf st hg;subst hP hw hK;obtain⟨xs,x,hq,hx⟩:=hg;obtain⟨its,rv,p,hz⟩:=I.tuple hq;obtain⟨u,hu,ru⟩:=rv.get hx;obtain⟨f0,f1,f2,f3,f4,f5⟩:=hf it (by simp);refine wpAny_pyNext_tuple_item st (show s.heap.IsTuple a its.toArray from p) (x:=u) (by simpa using hu) λh' st' sb=>?_;have I1:Inv X pins σ H { s with heap:=h' }:=I.turned (t':=s.toks) (λb o hb e=>(sb.2 b hb).trans e) f0 f1 f3 f4 f5;obtain⟨o,e,c,d⟩:=id st';exact⟨u,rfl,zelb (s:={ s with heap:=h' }) e c d (by decide) ⟨x,H,I1,ru,⟨rfl,λys hy=>by rw[I.zzib hy hq];exact hx⟩,st',λb hb=>(hf b hb).1⟩⟩
 done:=by
  intro X hP hw hK hc i pins s σ H E I hf st hg;subst hP hw hK;obtain⟨xs,hq,hx⟩:=hg;obtain⟨its,rv,p,hz⟩:=I.tuple hq;obtain⟨f0,f1,f2,f3,f4,f5⟩:=hf it (by simp);have hl:=rv.length;exact wpAny_pyNext_tuple_end (I.ok.hd hc) st (show s.heap.IsTuple a its.toArray from p) (by simp;omega) λh' eb=>⟨rfl,I.turned (t':=s.toks) (λb o hb e=>eb b o hb e) f0 f1 f3 f4 f5⟩
 self:=λ_ _ _ _ _ st h=>wpAny_pyIter_tupleiter st h
theorem zshb {P:ysb}{w:World}{K:yba}{tg:Expr}(it:Addr)(lo:Int)(n:Nat):Turn P w K tg (Itr lo n) [it] it (λi h=>IsRangeIter h it (lo+(i:Nat)*1) ((n:Int)-(i:Nat)) 1) where
 mem:=by simp
 obj:=λi h st b hb=>by
  have e:b=it:=by simpa using hb
  subst e;exact⟨_,st,λv z=>by
   have z':Data.fields _=Data.cell v:=z;cases z'⟩
 keep:=λi h h' st k=>k it (by simp) _ st
 item:=by
  intro X hP hw hK hc i pins s σ H E I hf st hg;subst hP hw hK;obtain⟨f0,f1,f2,f3,f4,f5⟩:=hf it (by simp);have W:=Walks.range (prog:=X.prog) (w:=X.w) (I.ok.hd hc) it lo 1 n;refine W.item i s _ _ hg st λv h' tk hv st' kk=>?_;obtain⟨t,rfl⟩:=hv;have I1:Inv X pins σ H { s with heap:=h',toks:=tk }:=I.turned (λb o hb e=>kk b o (by simpa using hb) e) f0 f1 f3 f4 f5;refine⟨_,rfl,zelb (s:={ s with heap:=h',toks:=tk }) (n:="range_iterator") st' rfl rfl (by decide) ⟨.int (lo+i),H,I1,⟨t,?_⟩,⟨rfl,rfl⟩,st',λb hb=>(hf b hb).1⟩⟩;rw[Int.mul_one]
 done:=by
  intro X hP hw hK hc i pins s σ H E I hf st hg;subst hP hw hK;obtain⟨f0,f1,f2,f3,f4,f5⟩:=hf it (by simp);exact wpAny_pyNext_range_end (I.ok.hd hc) st (by have:n≤i:=hg;omega) λh' eb=>⟨rfl,I.turned (t':=s.toks) (λb o hb e=>eb b o hb e) f0 f1 f3 f4 f5⟩
 self:=λ_ _ _ _ _ st h=>wpAny_pyIter_rangeiter st h
end L2
namespace L2
open PySem PySem.Spec PyProof.Rows
section
variable {X:Cx}{tg:Expr}
def zqxb (K:yba)(tl:TE):TI:=fun σ H R=>tl σ H λx H1=>∃a,x = .ref a∧(∃xs,SqL K H1 a xs)∧R (Itl K a) H1
def iTup (K:yba)(tl:TE):TI:=fun σ H R=>tl σ H λx H1=>∃a,x = .ref a∧(∃xs,SqT K H1 a xs)∧R (Itt K a) H1
theorem zbz {l:Expr}{tl:TE}(hl:PE X l tl):PI X tg l (zqxb X.K tl):=by
 intro pins s σ H R I h;refine thn (hl pins s σ H _ I h) λv s1 ⟨x,H1,I1,r1,q1⟩=>?_;obtain⟨a,e,⟨xs,hq⟩,q⟩:=q1;subst e;cases r1;obtain⟨its,rv,p,hz⟩:=I1.list hq;refine yqj p.isList ?_;refine⟨s1.heap.objs.size,[s1.heap.objs.size],_,_,H1,rfl,I1.kept (t':=s1.toks) λb o e=>yga _ e,zyib a _,⟨_,ywa _ rfl,rfl,rfl⟩,λb hb=>?_,q⟩;have e:b=s1.heap.objs.size:=by simpa using hb
 subst e;exact I1.fpOk (yxa _) (I1.hok.fresh (yxa _))
theorem zdpb {l:Expr}{tl:TE}(hl:PE X l tl):PI X tg l (iTup X.K tl):=by
 intro pins s σ H R I h;refine thn (hl pins s σ H _ I h) λv s1 ⟨x,H1,I1,r1,q1⟩=>?_;obtain⟨a,e,⟨xs,hq⟩,q⟩:=q1;subst e;cases r1;obtain⟨its,rv,p,hz⟩:=I1.tuple hq;refine wpAny_pyIter_tuple (show s1.heap.IsTuple a its.toArray from p) ?_;refine⟨s1.heap.objs.size,[s1.heap.objs.size],_,_,H1,rfl,I1.kept (t':=s1.toks) λb o e=>yga _ e,zrhb a _,⟨_,ywa _ rfl,rfl,rfl⟩,λb hb=>?_,q⟩;have e:b=s1.heap.objs.size:=by simpa using hb
 subst e;exact I1.fpOk (yxa _) (I1.hok.fresh (yxa _))
theorem zbnb {pins:List (Addr×Obj)}{σ:St}{H:Hp}{s:Shared}{R:It->Hp->Prop}{E:Value->Shared->Prop}{lo hi:Int}{t u v:Tok}{tk:Nat}(I:Inv X pins σ H s)(h1:-(2 ^ 62)≤lo)(h2:lo<2 ^ 62)(h3:-(2 ^ 62)≤hi)(h4:hi<2 ^ 62)
  (q:R (Itr lo (hi-lo).toNat) H):wpAny (model X.prog X.w) X.A (pyIter (.ref s.heap.objs.size)) (PIE X pins σ tg R) E { s with heap:=s.heap.push { cls:=.type "range",data:=.fields #[.int lo t,.int hi u,.int 1 v] },toks:=tk }:=by
 refine wpAny_pyIter_range (IsRange.new ..) (small_one h1 h2 h3 h4) ?_;have I1:Inv X pins σ H { s with heap:=s.heap.push { cls:=.type "range",data:=.fields #[.int lo t,.int hi u,.int 1 v] },toks:=tk }:=I.kept λb o e=>yga _ e;refine⟨(s.heap.push { cls:=.type "range",data:=.fields #[.int lo t,.int hi u,.int 1 v] }).objs.size,[(s.heap.push { cls:=.type "range",data:=.fields #[.int lo t,.int hi u,.int 1 v] }).objs.size],_,_,H,rfl,
  I1.kept (t':=tk) λb o e=>yga _ e,zshb _ lo (hi-lo).toNat,?_,λb hb=>?_,q⟩
 ·have e1:lo+((0:Nat):Int)*1=lo:=by simp
  have e2:(((hi-lo).toNat:Nat):Int)-((0:Nat):Int)=ygh.Range.rangeSize lo hi 1:=by rw[rangeSize_one];split<;>omega
  show IsRangeIter _ _ (lo+((0:Nat):Int)*1) ((((hi-lo).toNat:Nat):Int)-((0:Nat):Int)) 1
  rw[e1,e2];exact ywa _ rfl
 ·have e:b=(s.heap.push { cls:=.type "range",data:=.fields #[.int lo t,.int hi u,.int 1 v] }).objs.size:=by simpa using hb
  subst e;exact I1.fpOk (yxa _) (I1.hok.fresh (yxa _))
def zpxb (ta:TA):TI:=fun σ H R=>ta σ H λvs H1=>∃j:Int,vs=[.int j] ∧ -(2 ^ 62)≤j∧j<2 ^ 62∧R (Itr 0 j.toNat) H1
theorem zeq {a:Expr}{ta:TA}{p pos:Pos}(hg:Gl X "range")(hm:X.mg "range" = none)(ha:PA X [a] ta)(hs:yec [a] X.env=[(false,eval a X.env)]:=by rfl):PI X tg (.Call (.Name "range" p) [a] [] pos) (zpxb ta):=by
 intro pins s σ H R I h;refine Call_ (zicb I hg hm boot_range (yyf (thn (ha pos pins s σ H _ I h) λus s1 ⟨vs,H1,I1,r1,q1⟩=>?_) hs rfl));obtain⟨j,e,q1,q2,q⟩:=q1;subst e;cases r1 with
 | cons r rr =>
  cases rr;obtain⟨t,rfl⟩:=r;exact call_range_1 (zbnb I1 (by omega) (by omega) q1 q2 (by simpa using q))
def tFor (wi:TI)(g:TG)(tb:TS):TS:=λD σ H=>wi σ H λJ H1=>∃W:Nat->Nat->St->Hp->Prop,(∃m,W 0 m σ H1)∧∀i m σ H,W i m σ H →
 (J.stop i H∧D.nx σ H)∨(J.go i H∧∃N:St->Hp->Prop,(∀ σ' H',N σ' H'->∃m',m'<m∧W (i+1) m' σ' H')∧∀x H',J.yld i H x H'->g x σ H' fun σ2 H2=>tb { D with nx:=N,ct:=N,bk:=D.nx } σ2 H2)
def zps (fp:List Addr)(h:Heap):List (Addr×Obj):=fp.filterMap λb=>(h.get? b).map λo=>(b,o)
theorem zmn {fp:List Addr}{h:Heap}{b:Addr}{o:Obj}(hb:b∈fp)(e:h.get? b=some o):(b,o)∈zps fp h:=yke.mpr ⟨b,hb,by rw[e];rfl⟩
theorem znkb {fp:List Addr}{h:Heap}{p:Addr×Obj}(hp:p∈zps fp h):p.1∈fp∧h.get? p.1=some p.2:=by
 obtain⟨b,hb,e⟩:=yke.mp hp;cases q:h.get? b with
 | none=>rw[q] at e;cases e
 | some o =>
  rw[q] at e;have e':(b,o)=p:=ynb e;subst e';exact⟨hb,q⟩
theorem Inv.pinned {pins:List (Addr×Obj)}{σ:St}{H:Hp}{s:Shared}{fp:List Addr}(I:Inv X pins σ H s)(hf:∀b∈fp,FpOk X pins H b)(ho:∀b∈fp,∃o,s.heap.get? b=some o∧∀v,o.data ≠ .cell v):Inv X (pins++zps fp s.heap) σ H s :=
 I.ztm λp hp=>(yna.mp hp).elim (λz=>I.pin p (yeb _ z)) λz=>by
  obtain⟨hb,e⟩:=znkb z;obtain⟨f0,f1,f2,_⟩:=hf p.1 hb;obtain⟨o,e',d⟩:=ho p.1 hb;rw[e] at e';cases e';exact⟨e,f0,f1,f2,d⟩
theorem Inv.zry {pins pl:List (Addr×Obj)}{σ:St}{H:Hp}{s:Shared}(I:Inv X (pins++pl) σ H s):Inv X pins σ H s:=I.ztm λp hp=>I.pin p (yeb _ (ycc _ hp))
theorem znbb {iter:Expr}{body:List Stmt}{wi:TI}{g:TG}{tb:TS}{pos:Pos}(hp:PassesOwn (model X.prog X.w) X.A X.env X.xe)(hc:X.calm=true)(hi:PI X tg iter wi)(hg:PG X tg g)(hb:PSs X body tb)
  (hs:∀x,yhh iter X.env x=pure x:=by intro _;rfl):PS X (.For tg iter body [] pos) (tFor wi g tb):=by
 intro pins s σ H D I h;refine wpAny_For (thn (hi pins s σ H _ I h) λv s1 h1=>thn h1 λitv s2 h2=>?_) hs;obtain⟨it,fp,tn,J,H2,e,I2,T,st2,f2,W,⟨m0,w0⟩,turn⟩:=h2;subst e;have stat:∀{H':Hp},(∀b∈fp,H' b=none)->∀b∈fp,FpOk X pins H' b:=λhn b hb=>⟨hn b hb,(f2 b hb).2⟩;refine codeAny_forLoop_any (λn s'=>∃i σ' H',Inv X pins σ' H' s'∧tn i s'.heap∧(∀b∈fp,H' b=none)∧W i n σ' H') ?_ m0 ⟨0,σ,H2,I2,st2,λb hb=>(f2 b hb).1,w0⟩;rintro n s3 ⟨i,σ3,H3,I3,st3,fr3,w3⟩
 rcases turn i n σ3 H3 w3 with⟨stop,qn⟩|⟨go,N,hN,step⟩
 ·refine yte hp (thn (T.done X rfl rfl rfl hc i pins s3 σ3 H3 X.xe I3 (stat fr3) st3 stop) λr s4 ⟨hr,I4⟩=>?_);subst hr;exact yug ⟨σ3,H3,I4,qn⟩
 ·refine yte hp (thn (T.item X rfl rfl rfl hc i pins s3 σ3 H3 X.xe I3 (stat fr3) st3 go) λr s4 ⟨u,hr,h4⟩=>?_);subst hr;refine yte hp (thn h4 λ_ s5 ⟨x,H5,I5,r5,y5,st5,fr5⟩=>?_);have I5':=I5.pinned (stat fr5) (T.obj _ _ st5);refine yte hp (thn (hg _ s5 σ3 H5 x u _ I5' r5 (step x H5 y5)) λ_ s6 ⟨σ6,H6,I6,q6⟩=>?_);refine yte hp (thn (hb _ s6 σ6 H6 _ I6 q6) λf s7 q7=>?_);have again:∀{σ7:St} {H7:Hp},Inv X (pins++zps fp s5.heap) σ7 H7 s7->N σ7 H7->∃m,m<n∧∃i σ' H',Inv X pins σ' H' s7∧tn i s7.heap∧(∀b∈fp,H' b=none)∧W i m σ' H':=λ{σ7 H7} I7 n7=>by
   obtain⟨m',hm,w7⟩:=hN σ7 H7 n7;refine⟨m',hm,i+1,σ7,H7,I7.zry,T.keep _ _ _ st5 λb hb o e=>(I7.pin (b,o) (yeb _ (yeb _ (zmn hb e)))).1,λb hb=>?_,w7⟩;obtain⟨o,e,d⟩:=T.obj _ _ st5 b hb;exact (I7.pin (b,o) (yeb _ (yeb _ (zmn hb e)))).2.1
  cases f with
  | next=>obtain⟨σ7,H7,I7,n7⟩:=q7;exact again I7 n7
  | cont=>obtain⟨σ7,H7,I7,n7⟩:=q7;exact again I7 n7
  | brk=>obtain⟨σ7,H7,I7,q7⟩:=q7;exact⟨σ7,H7,I7.zry,q7⟩
  | ret v=>obtain⟨x7,σ7,H7,I7,r7,q7⟩:=q7;exact⟨x7,σ7,H7,I7.zry,r7,q7⟩
end
theorem zkob {K:yba}{a:Addr}{xs:List V}{g:TG}{tb:TS}{D:Ends}{σ:St}{H:Hp}(Pv:Nat->St->Hp->Prop)(h0:Pv 0 σ H)(hl:∀i σ H,i≤xs.length->Pv i σ H->SqL K H a xs)
  (hs:∀i x σ H,xs[i]?=some x->Pv i σ H->g x σ H fun σ2 H2=>tb { D with nx:=Pv (i+1),ct:=Pv (i+1),bk:=D.nx } σ2 H2) (hd:∀ σ H,Pv xs.length σ H->D.nx σ H) :
  ∃W:Nat->Nat->St->Hp->Prop,(∃m,W 0 m σ H)∧∀i m σ H,W i m σ H →
   ((Itl K a).stop i H∧D.nx σ H)∨((Itl K a).go i H∧∃N:St->Hp->Prop,(∀ σ' H',N σ' H'->∃m',m'<m∧W (i+1) m' σ' H')∧∀x H',(Itl K a).yld i H x H'->g x σ H' fun σ2 H2=>tb { D with nx:=N,ct:=N,bk:=D.nx } σ2 H2):=by
 refine⟨λi m σ H=>m=xs.length-i∧i≤xs.length∧Pv i σ H,⟨xs.length,by simp,ydc _,h0⟩,?_⟩;rintro i m σ H ⟨rfl,hi,p⟩;have q:=hl i σ H hi p
 by_cases hlt:i<xs.length
 ·refine .inr ⟨⟨xs,xs[i],q,by simp[hlt]⟩,Pv (i+1),fun σ' H' p'=>⟨xs.length-(i+1),by omega,rfl,hlt,p'⟩,λx H' y=>?_⟩;obtain⟨e,y⟩:=y;subst e;exact hs i x σ _ (y xs q) p
 ·have e:i=xs.length:=by omega
  subst e;exact .inl ⟨⟨xs,q,yxa _⟩,hd σ H p⟩
theorem zilb {lo:Int}{n:Nat}{g:TG}{tb:TS}{D:Ends}{σ:St}{H:Hp}(Pv:Nat->St->Hp->Prop)(h0:Pv 0 σ H)
  (hs:∀i σ H,i<n->Pv i σ H->g (.int (lo+i)) σ H fun σ2 H2=>tb { D with nx:=Pv (i+1),ct:=Pv (i+1),bk:=D.nx } σ2 H2) (hd:∀ σ H,Pv n σ H->D.nx σ H) :
  ∃W:Nat->Nat->St->Hp->Prop,(∃m,W 0 m σ H)∧∀i m σ H,W i m σ H →
   ((Itr lo n).stop i H∧D.nx σ H)∨((Itr lo n).go i H∧∃N:St->Hp->Prop,(∀ σ' H',N σ' H'->∃m',m'<m∧W (i+1) m' σ' H')∧∀x H',(Itr lo n).yld i H x H'->g x σ H' fun σ2 H2=>tb { D with nx:=N,ct:=N,bk:=D.nx } σ2 H2):=by
 refine⟨λi m σ H=>m=n-i∧i≤n∧Pv i σ H,⟨n,by simp,ydc _,h0⟩,?_⟩;rintro i m σ H ⟨rfl,hi,p⟩
 by_cases hlt:i<n
 ·refine .inr ⟨hlt,Pv (i+1),fun σ' H' p'=>⟨n-(i+1),by omega,rfl,hlt,p'⟩,λx H' y=>?_⟩;obtain⟨e,y⟩:=y;subst e y;exact hs i σ _ hlt p
 ·have e:i=n:=by omega
  subst e;exact .inl ⟨yxa _,hd σ H p⟩
end L2
namespace L2
open PySem PySem.Spec PyProof.Rows
abbrev R2:=V->V->Hp->VK->Prop
def OpR (X:Cx)(f:Value->Value->Sem Value)(r:R2):Prop :=
 ∀(pins:List (Addr×Obj)) (s:Shared) (σ:St) (H:Hp) (x y:V) (v u:Value) (Q:VK),Inv X pins σ H s->RelV x v->RelV y u->r x y H Q →
  wpAny (model X.prog X.w) X.A (f v u) (EP X pins σ Q) X.xe s
def UnR (X:Cx)(f:Value->Sem Value)(r:V->Hp->VK->Prop):Prop :=
 ∀(pins:List (Addr×Obj)) (s:Shared) (σ:St) (H:Hp) (x:V) (v:Value) (Q:VK),Inv X pins σ H s->RelV x v->r x H Q →
  wpAny (model X.prog X.w) X.A (f v) (EP X pins σ Q) X.xe s
def zim (X:Cx)(f:Value)(r:List V->Hp->VK->Prop):Prop :=
 ∀(pins:List (Addr×Obj)) (s:Shared) (σ:St) (H:Hp) (xs:List V) (us:List Value) (Q:VK),Inv X pins σ H s->Vals xs us->r xs H Q →
  wpAny (model X.prog X.w) X.A (call f us) (EP X pins σ Q) X.xe s
def TruR (X:Cx)(r:V->Hp->(Bool->Hp->Prop)->Prop):Prop :=
 ∀(pins:List (Addr×Obj)) (s:Shared) (σ:St) (H:Hp) (x:V) (v:Value) (Q:Bool->Hp->Prop),Inv X pins σ H s->RelV x v->r x H Q →
  wpAny (model X.prog X.w) X.A (truthy v) (TP X pins σ Q) X.xe s
def tOp (r:R2)(ta tb:TE):TE:=fun σ H Q=>ta σ H λx H1=>tb σ H1 λy H2=>r x y H2 Q
def tUn (r:V->Hp->VK->Prop)(ta:TE):TE:=fun σ H Q=>ta σ H λx H1=>r x H1 Q
def rI (C:Int->Int->Prop)(g:Int->Int->V):R2:=λx y H Q=>Ex2 λi j=>x = .int i∧y = .int j∧C i j∧Q (g i j) H
def rI0 (g:Int->Int->V):R2:=λx y H Q=>Ex2 λi j=>x = .int i∧y = .int j∧Q (g i j) H
def rU (g:Int->V):V->Hp->VK->Prop:=λx H Q=>∃i,x = .int i∧Q (g i) H
section
variable {X:Cx}{a b c:Expr}{ta tb tc:TE}{pos:Pos}
theorem binT (ha:PE X a ta)(hb:PE X b tb){pins:List (Addr×Obj)}{s:Shared}{σ:St}{H:Hp}{R:V->V->Hp->Prop}(I:Inv X pins σ H s)
  (h:ta σ H λx H1=>tb σ H1 λy H2=>R x y H2) {Q:Value->Shared->Prop} {f:Value->Value->Sem Value}
  (hf:∀v u s2 x y H2,Inv X pins σ H2 s2->RelV x v->RelV y u->R x y H2->wpAny (model X.prog X.w) X.A (f v u) Q X.xe s2) :
  wpAny (model X.prog X.w) X.A (eval a X.env) (λv s₁=>wpAny (model X.prog X.w) X.A (eval b X.env) (λu s₂=>wpAny (model X.prog X.w) X.A (f v u) Q X.xe s₂) X.xe s₁) X.xe s:=by
 refine thn (ha pins s σ H _ I h) λv s1 ⟨x,H1,I1,r1,q1⟩=>?_;refine thn (hb pins s1 σ H1 _ I1 q1) λu s2 ⟨y,H2,I2,r2,q2⟩=>?_;exact hf v u s2 x y H2 I2 r1 r2 q2
theorem zcb {op:yyn}{r:R2}(ho:OpR X (yzi op) r)(ha:PE X a ta)(hb:PE X b tb):PE X (.BinOp a op b pos) (tOp r ta tb):=by
 intro pins s σ H Q I h;exact wpAny_BinOp (binT ha hb I h λv u s2 x y H2 I2 rx ry q=>ho pins s2 σ H2 x y v u Q I2 rx ry q)
theorem zieb {op:UnaryOp}{r:V->Hp->VK->Prop}(ho:UnR X (unaryOp op) r)(ha:PE X a ta):PE X (.UnaryOp op a pos) (tUn r ta):=by
 intro pins s σ H Q I h;exact UnaryOp_ (thn (ha pins s σ H _ I h) λv s1 ⟨x,H1,I1,r1,q1⟩=>ho pins s1 σ H1 x v Q I1 r1 q1)
theorem opI {f:Value->Value->Sem Value}{C:Int->Int->Prop}{g:Int->Int->Int}
  (rule:∀(i j:Int) (t u:Tok) (s:Shared) (Q:Value->Shared->Prop) (E:Value->Shared->Prop),C i j->Q (.int (g i j) s.toks) { s with toks:=s.toks+1 }->wpAny (model X.prog X.w) X.A (f (.int i t) (.int j u)) Q E s) :
  OpR X f (rI C λi j=>.int (g i j)):=by
 intro pins s σ H x y v u Q I rx ry h;obtain⟨i,j,rfl,rfl,hc,q⟩:=h;obtain⟨t,rfl⟩:=rx;obtain⟨t',rfl⟩:=ry;exact rule i j t t' s _ _ hc ⟨.int (g i j),H,I.tok _,⟨_,rfl⟩,q⟩
theorem opI0 {f:Value->Value->Sem Value}{g:Int->Int->Int}
  (rule:∀(i j:Int) (t u:Tok) (s:Shared) (Q:Value->Shared->Prop) (E:Value->Shared->Prop),Q (.int (g i j) s.toks) { s with toks:=s.toks+1 }->wpAny (model X.prog X.w) X.A (f (.int i t) (.int j u)) Q E s) :
  OpR X f (rI0 λi j=>.int (g i j)):=by
 intro pins s σ H x y v u Q I rx ry h;obtain⟨i,j,rfl,rfl,q⟩:=h;obtain⟨t,rfl⟩:=rx;obtain⟨t',rfl⟩:=ry;exact rule i j t t' s _ _ ⟨.int (g i j),H,I.tok _,⟨_,rfl⟩,q⟩
theorem opB0 {f:Value->Value->Sem Value}{g:Int->Int->Bool}
  (rule:∀(i j:Int) (t u:Tok) (s:Shared) (Q:Value->Shared->Prop) (E:Value->Shared->Prop),Q (.bool (g i j)) s->wpAny (model X.prog X.w) X.A (f (.int i t) (.int j u)) Q E s) :
  OpR X f (rI0 λi j=>.bl (g i j)):=by
 intro pins s σ H x y v u Q I rx ry h;obtain⟨i,j,rfl,rfl,q⟩:=h;obtain⟨t,rfl⟩:=rx;obtain⟨t',rfl⟩:=ry;exact rule i j t t' s _ _ ⟨.bl (g i j),H,I,rfl,q⟩
def CDiv (i j:Int):Prop:=0<j∧j<1073741824
def CMul (i j:Int):Prop:=(-(2 ^ 64)<i∧i<2 ^ 64)∨(-(2 ^ 64)<j∧j<2 ^ 64)
theorem CMul.ok {i j:Int}(h:CMul i j):IntMulOk i j:=by
 rcases h with⟨h1,h2⟩|⟨h1,h2⟩
 ·exact .of_left (intBits_le_64 h1 h2)
 ·exact .of_right (intBits_le_64 h1 h2)
theorem zfd:OpR X (yzi .Add) (rI0 λi j=>.int (i+j)):=opI0 λ_ _ _ _ _ _ _ q=>add_int q
theorem zjv:OpR X (yzi .Sub) (rI0 λi j=>.int (i-j)):=opI0 λ_ _ _ _ _ _ _ q=>sub_int q
theorem zqbb:OpR X (yzi .Mult) (rI CMul λi j=>.int (i*j)):=opI λ_ _ _ _ _ _ _ hc q=>mul_int q hc.ok
theorem zmkb:OpR X (yzi .FloorDiv) (rI CDiv λi j=>.int (i / j)):=opI λi j _ _ _ _ _ hc q=>by
 have h1:(0:Int)<j:=hc.1;have h2:j<1073741824:=hc.2;exact floordiv_int (by omega) (by rw[Int.fdiv_eq_ediv_of_nonneg i (by omega)];exact q) (.inl (PyProof.noPylong_small (by omega)))
theorem zdy:OpR X (yzi .Mod) (rI (λ_ j=>0<j) λi j=>.int (i % j)):=opI λi j _ _ _ _ _ hc q=>by
 have h1:(0:Int)<j:=hc;exact mod_int' (by omega) (by rw[Int.fmod_eq_emod_of_nonneg i (by omega)];exact q)
theorem unI {f:Value->Sem Value}{g:Int->Int}
  (rule:∀(i:Int) (t:Tok) (s:Shared) (Q:Value->Shared->Prop) (E:Value->Shared->Prop),Q (.int (g i) s.toks) { s with toks:=s.toks+1 }->wpAny (model X.prog X.w) X.A (f (.int i t)) Q E s) :
  UnR X f (rU λi=>.int (g i)):=by
 intro pins s σ H x v Q I rx h;obtain⟨i,rfl,q⟩:=h;obtain⟨t,rfl⟩:=rx;exact rule i t s _ _ ⟨.int (g i),H,I.tok _,⟨_,rfl⟩,q⟩
theorem zxt:UnR X (unaryOp .USub) (rU λi=>.int (-i)):=unI λ_ _ _ _ _ q=>neg_int q
end
def scal:V->V->Bool
 | .non,.non=>true|.non,.int _=>true|.int _,.non=>true|.non,.bl _=>true|.bl _,.non=>true|.non,.str _=>true|.str _,.non=>true
 | .int _,.int _=>true|.bl _,.bl _=>true|.str _,.str _=>true|.byt _,.byt _=>true
 | .int _,.str _=>true|.str _,.int _=>true|.bl _,.str _=>true|.str _,.bl _=>true
 | _,_=>false
def rEq:R2:=λx y H Q=>scal x y=true∧Q (.bl (decide (x=y))) H
def rNe:R2:=λx y H Q=>scal x y=true∧Q (.bl (!decide (x=y))) H
theorem zuk {i j:Int}:decide (V.int i=V.int j)=(i==j):=by
 rw[yhi];simp
theorem zopb {i j:Bool}:decide (V.bl i=V.bl j)=(i==j):=by
 rw[yhi];simp
theorem zlj {i j:Str}:decide (V.str i=V.str j)=(i==j):=by
 rw[yhi];simp
theorem zplb {i j:Array UInt8}:decide (V.byt i=V.byt j)=(i.toList==j.toList):=by
 rw[yhi];cases i;cases j;simp
section
variable {X:Cx}{a b c:Expr}{ta tb tc:TE}{pos:Pos}
theorem zgd {pins:List (Addr×Obj)}{σ:St}{H:Hp}{s:Shared}{Q:VK}{k k':Bool}(I:Inv X pins σ H s)(q:Q (.bl k) H)(e:k=k'):EP X pins σ Q (.bool k') s:=by
 subst e;exact⟨.bl k,H,I,rfl,q⟩
theorem zed:OpR X (yid .Eq) rEq:=by
 intro pins s σ H x y v u Q I rx ry h;obtain⟨hs,q⟩:=h;cases x with
 | non =>
  cases rx;cases y with
  | non=>cases ry;exact PySem.EqNone.eq_none_none (zgd I q (by simp))
  | bl j=>cases ry;exact PySem.EqNone.eq_none_bool (zgd I q (by simp))
  | int j=>obtain⟨t',rfl⟩:=ry;exact PySem.EqNone.eq_none_int (zgd I q (by simp))
  | str j=>obtain⟨t',rfl⟩:=ry;exact PySem.EqNone.eq_none_str (zgd I q (by simp))
  | _=>exact absurd (show false=true from hs) yab
 | bl i =>
  cases rx;cases y with
  | non=>cases ry;exact PySem.EqNone.eq_bool_none (zgd I q (by simp))
  | bl j=>cases ry;exact eq_bool (zgd I q zopb)
  | str j=>obtain⟨t',rfl⟩:=ry;exact PySem.EqMixed.eq_bool_str (zgd I q (by simp))
  | _=>exact absurd (show false=true from hs) yab
 | int i =>
  obtain⟨t,rfl⟩:=rx;cases y with
  | non=>cases ry;exact PySem.EqNone.eq_int_none (zgd I q (by simp))
  | int j=>obtain⟨t',rfl⟩:=ry;exact eq_int (zgd I q zuk)
  | str j=>obtain⟨t',rfl⟩:=ry;exact PySem.EqMixed.eq_int_str (zgd I q (by simp))
  | _=>exact absurd (show false=true from hs) yab
 | str i =>
  obtain⟨t,rfl⟩:=rx;cases y with
  | non=>cases ry;exact PySem.EqNone.eq_str_none (zgd I q (by simp))
  | bl j=>cases ry;exact PySem.EqMixed.eq_str_bool (zgd I q (by simp))
  | int j=>obtain⟨t',rfl⟩:=ry;exact PySem.EqMixed.eq_str_int (zgd I q (by simp))
  | str j=>obtain⟨t',rfl⟩:=ry;exact eq_str (zgd I q zlj)
  | _=>exact absurd (show false=true from hs) yab
 | byt i =>
  obtain⟨t,rfl⟩:=rx;cases y with
  | byt j=>obtain⟨t',rfl⟩:=ry;exact PySem.W.eq_bytes (zgd I q zplb)
  | _=>exact absurd (show false=true from hs) yab
 | _=>cases y<;>exact absurd (show false=true from hs) yab
theorem zjeb:OpR X (yid .NotEq) rNe:=by
 intro pins s σ H x y v u Q I rx ry h;obtain⟨hs,q⟩:=h;cases x with
 | non =>
  cases rx;cases y with
  | non=>cases ry;exact PySem.EqNone.ne_none_none (zgd I q (by simp))
  | bl j=>cases ry;exact PySem.EqNone.ne_none_bool (zgd I q (by simp))
  | int j=>obtain⟨t',rfl⟩:=ry;exact PySem.EqNone.ne_none_int (zgd I q (by simp))
  | str j=>obtain⟨t',rfl⟩:=ry;exact PySem.EqNone.ne_none_str (zgd I q (by simp))
  | _=>exact absurd (show false=true from hs) yab
 | bl i =>
  cases rx;cases y with
  | non=>cases ry;exact PySem.EqNone.ne_bool_none (zgd I q (by simp))
  | bl j=>cases ry;exact ne_bool (zgd I q (congrArg not zopb))
  | str j=>obtain⟨t',rfl⟩:=ry;exact PySem.EqMixed.ne_bool_str (zgd I q (by simp))
  | _=>exact absurd (show false=true from hs) yab
 | int i =>
  obtain⟨t,rfl⟩:=rx;cases y with
  | non=>cases ry;exact PySem.EqNone.ne_int_none (zgd I q (by simp))
  | int j=>obtain⟨t',rfl⟩:=ry;exact ne_int (zgd I q (congrArg not zuk))
  | str j=>obtain⟨t',rfl⟩:=ry;exact PySem.EqMixed.ne_int_str (zgd I q (by simp))
  | _=>exact absurd (show false=true from hs) yab
 | str i =>
  obtain⟨t,rfl⟩:=rx;cases y with
  | non=>cases ry;exact PySem.EqNone.ne_str_none (zgd I q (by simp))
  | bl j=>cases ry;exact PySem.EqMixed.ne_str_bool (zgd I q (by simp))
  | int j=>obtain⟨t',rfl⟩:=ry;exact PySem.EqMixed.ne_str_int (zgd I q (by simp))
  | str j=>obtain⟨t',rfl⟩:=ry;exact ne_str (zgd I q (congrArg not zlj))
  | _=>exact absurd (show false=true from hs) yab
 | byt i =>
  obtain⟨t,rfl⟩:=rx;cases y with
  | byt j=>obtain⟨t',rfl⟩:=ry;exact PySem.W.ne_bytes (zgd I q (congrArg not zplb))
  | _=>exact absurd (show false=true from hs) yab
 | _=>cases y<;>exact absurd (show false=true from hs) yab
theorem znr:OpR X (yid .Lt) (rI0 λi j=>.bl (decide (i<j))):=opB0 λ_ _ _ _ _ _ _ q=>lt_int q
theorem zknb:OpR X (yid .LtE) (rI0 λi j=>.bl (decide (i≤j))):=opB0 λ_ _ _ _ _ _ _ q=>le_int q
theorem zdx:OpR X (yid .Gt) (rI0 λi j=>.bl (decide (j<i))):=opB0 λ_ _ _ _ _ _ _ q=>gt_int q
theorem zlnb:OpR X (yid .GtE) (rI0 λi j=>.bl (decide (j≤i))):=opB0 λ_ _ _ _ _ _ _ q=>ge_int q
theorem zrbb:OpR X (yid .In) (λx y H Q=>Ex2 λi j=>x = .str i∧y = .str j∧Q (.bl (!(yic j i 0 j.length 1).isEmpty)) H):=by
 intro pins s σ H x y v u Q I rx ry h;obtain⟨i,j,rfl,rfl,q⟩:=h;obtain⟨t,rfl⟩:=rx;obtain⟨t',rfl⟩:=ry;exact in_str (zgd I q rfl)
theorem zcvb:OpR X (yid .Is) (λx y H Q=>y = .non∧Q (.bl (decide (x = .non))) H):=by
 intro pins s σ H x y v u Q I rx ry h;obtain⟨rfl,q⟩:=h;cases ry;refine is_none_gen (zgd I q ?_);cases x<;>first
  | (cases rx;rfl)
  | (obtain⟨t,rfl⟩:=rx;rfl)
theorem zxrb:OpR X (yid .IsNot) (λx y H Q=>y = .non∧Q (.bl (!decide (x = .non))) H):=by
 intro pins s σ H x y v u Q I rx ry h;obtain⟨rfl,q⟩:=h;cases ry;refine isnot_none_gen (zgd I q ?_);cases x<;>first
  | (cases rx;rfl)
  | (obtain⟨t,rfl⟩:=rx;rfl)
theorem zxa (b:Expr){op:CmpOp}(h:op ≠ .In:=by decide)(h2:op ≠ .NotIn:=by decide):yfk op b=false:=by
 have e1:(op==CmpOp.In)=false:=by cases op<;>first|rfl|exact absurd rfl h
 have e2:(op==CmpOp.NotIn)=false:=by cases op<;>first|rfl|exact absurd rfl h2
 cases b<;>simp[yfk,e1,e2]
theorem zkd {op:CmpOp}{r:R2}(ho:OpR X (yid op) r)(ha:PE X a ta)(hb:PE X b tb)(hm:yfk op b=false):PE X (.Compare a [op] [b] pos) (tOp r ta tb):=by
 intro pins s σ H Q I h;exact wpAny_Compare1 (binT ha hb I h λv u s2 x y H2 I2 rx ry q=>ho pins s2 σ H2 x y v u Q I2 rx ry q) hm
def zytb (t:TE):TT:=fun σ H Q=>t σ H λx H'=>∃k,x = .bl k∧Q k H'
theorem zma {op:CmpOp}{r:R2}(ho:OpR X (yid op) r)(ha:PE X a ta)(hb:PE X b tb)(hm:yfk op b=false):PT X (.Compare a [op] [b] pos) (zytb (tOp r ta tb)):=by
 intro pins s σ H Q I h;refine wpAny_isTrue_Compare1 (thn (ha pins s σ H _ I h) λv s1 ⟨x,H1,I1,r1,q1⟩=>thn (hb pins s1 σ H1 _ I1 q1) λu s2 ⟨y,H2,I2,r2,q2⟩ =>
  thn (ho pins s2 σ H2 x y v u _ I2 r1 r2 q2) λc s3 ⟨z,H3,I3,r3,k,e,q3⟩=>?_) hm
 subst e;cases r3;exact yhd ⟨H3,I3,q3⟩
def zzob (r r':R2)(ta tb tc:TE):TE:=fun σ H Q=>ta σ H λx H1=>tb σ H1 λy H2=>r x y H2 λz H3=>∃k,z = .bl k ∧
 (if k=true then tc σ H3 λw' H4=>r' y w' H4 Q else Q (.bl false) H3)
theorem zez {op op':CmpOp}{r r':R2}(ho:OpR X (yid op) r)(ho':OpR X (yid op') r')(ha:PE X a ta)(hb:PE X b tb)(hc:PE X c tc)
  (hm:lastMarks [op,op'] [b,c]=false:=by with_unfolding_all rfl):PE X (.Compare a [op,op'] [b,c] pos) (zzob r r' ta tb tc):=by
 intro pins s σ H Q I h;refine Compare_chain (thn (ha pins s σ H _ I h) λv s1 ⟨x,H1,I1,r1,q1⟩=>chain_link (thn (hb pins s1 σ H1 _ I1 q1) λu s2 ⟨y,H2,I2,r2,q2⟩ =>
  thn (ho pins s2 σ H2 x y v u _ I2 r1 r2 q2) λd s3 ⟨z,H3,I3,r3,k,e,q3⟩=>?_)) hm
 subst e;cases r3;refine yhd ?_;cases k with
 | false=>exact ite_ff ⟨.bl false,H3,I3,rfl,q3⟩
 | true=>exact ite_tt (chain_last (thn (hc pins s3 σ H3 _ I3 q3) λw' s4 ⟨z',H4,I4,r4,q4⟩=>ho' pins s4 σ H4 y z' u w' Q I4 r2 r4 q4))
theorem zdnb {op op':CmpOp}{r r':R2}(ho:OpR X (yid op) r)(ho':OpR X (yid op') r')(ha:PE X a ta)(hb:PE X b tb)(hc:PE X c tc)
  (hm:lastMarks [op,op'] [b,c]=false:=by with_unfolding_all rfl):PT X (.Compare a [op,op'] [b,c] pos) (zytb (zzob r r' ta tb tc)):=by
 intro pins s σ H Q I h;refine isTrue_chain (thn (ha pins s σ H _ I h) λv s1 ⟨x,H1,I1,r1,q1⟩=>test_link (thn (hb pins s1 σ H1 _ I1 q1) λu s2 ⟨y,H2,I2,r2,q2⟩ =>
  thn (ho pins s2 σ H2 x y v u _ I2 r1 r2 q2) λd s3 ⟨z,H3,I3,r3,k,e,q3⟩=>?_)) hm
 subst e;cases r3;refine yhd ?_;cases k with
 | false =>
  obtain⟨k',e',q'⟩:=q3;cases e';exact ite_ff ⟨H3,I3,q'⟩
 | true =>
  refine ite_tt (test_last (thn (hc pins s3 σ H3 _ I3 q3) λw' s4 ⟨z',H4,I4,r4,q4⟩=>thn (ho' pins s4 σ H4 y z' u w' _ I4 r2 r4 q4) λd' s5 ⟨z2,H5,I5,r5,k2,e2,q5⟩=>?_));subst e2;cases r5;exact yhd ⟨H5,I5,q5⟩
def TruV (K:yba)(x:V)(H:Hp)(k:Bool):Prop :=
 match x with
 | .non=>k=false
 | .bl b=>k=b
 | .int i=>k=(i != 0)
 | .str y=>y.length≤yua∧k=((y.length:Int) != 0)
 | .byt y=>y.size≤yua∧k=((y.size:Int) != 0)
 | .ref p=>(∃xs,SqL K H p xs∧k = !xs.isEmpty)∨(∃xs,SqT K H p xs∧k = !xs.isEmpty)∨∃kvs,H p=some (.dK kvs)∧k = !kvs.isEmpty
 | _=>False
theorem zkib {κ:Type}{kvs:List (κ×V)}{vs:List (κ×Value)}(r:KV kvs vs):(!vs.isEmpty) = !kvs.isEmpty:=by
 cases r<;>rfl
theorem zfy {xs:List V}{its:List Value}(r:Vals xs its):(!its.toArray.isEmpty) = !xs.isEmpty:=by
 cases r<;>simp
theorem ztv:(yua:Nat)<2 ^ 63:=by rw[sizeLine_eq];decide
theorem zqtb:TruR X (λx H Q=>∃k,TruV X.K x H k∧Q k H):=by
 intro pins s σ H x v Q I rx h;obtain⟨k,e,q⟩:=h;have hl:=ztv;have hs:yua=16777216:=sizeLine_eq;cases x with
 | non =>
  cases rx;have e':k=false:=e;subst e';exact truthy_none ⟨H,I,q⟩
 | bl b =>
  cases rx;have e':k=b:=e;subst e';exact yhd ⟨H,I,q⟩
 | int i =>
  obtain⟨t,rfl⟩:=rx;have e':k=(i != 0):=e;subst e';exact PySem.P.truthy_int ⟨H,I,q⟩
 | str y =>
  obtain⟨t,rfl⟩:=rx;obtain⟨hy,e'⟩:y.length≤yua∧k=((y.length:Int) != 0):=e;subst e';exact PySem.P.truthy_str (by omega) ⟨H,I.tok _,q⟩
 | byt y =>
  obtain⟨t,rfl⟩:=rx;obtain⟨hy,e'⟩:y.size≤yua∧k=((y.size:Int) != 0):=e;subst e';exact PySem.W.truthy_bytes (by omega) ⟨H,I.tok _,q⟩
 | ref p =>
  cases rx;have e':(∃xs,SqL X.K H p xs∧k = !xs.isEmpty)∨(∃xs,SqT X.K H p xs∧k = !xs.isEmpty)∨∃kvs,H p=some (.dK kvs)∧k = !kvs.isEmpty:=e
  rcases e' with⟨xs,hx,e'⟩|⟨xs,hx,e'⟩|⟨kvs,hx,e'⟩
  ·subst e';obtain⟨its,r,pl,hz⟩:=I.list hx;have hlen:=r.length;exact wpAny_truthy_list pl.isList (by simp only[ybb];omega) ⟨H,I.tok _,by rw[zfy r];exact q⟩
  ·subst e';obtain⟨its,r,pl,hz⟩:=I.tuple hx;have hlen:=r.length;exact truthy_tuple pl (by simp only[ybb];omega) ⟨H,I.tok _,by rw[zfy r];exact q⟩
  ·subst e';obtain⟨hz,hS,vs,r,m⟩:kvs.length≤yua∧(p==sysModules)=false∧∃vs,KV kvs vs∧s.heap.DictOf (zoeb X.prog X.w) p vs:=I.hok p _ hx;have hlen:kvs.length=vs.length:=Paired.length r;exact wpAny_truthy_dict hS m (by omega) ⟨H,I.tok _,by rw[zkib r];exact q⟩
 | _=>exact (show False from e).elim
theorem zcnb (ha:PE X a ta)(he:∀whole,isTrue a X.env whole=(do let v ← whole;standAt a.pos;yxl [v] (truthy v))) :
  PT X a (fun σ H Q=>ta σ H λx H'=>∃k,TruV X.K x H' k∧Q k H'):=by
 intro pins s σ H Q I h;exact isTrue_plain (thn (ha pins s σ H _ I h) λv s1 ⟨x,H1,I1,r1,q1⟩=>zqtb pins s1 σ H1 x v Q I1 r1 q1) (he _)
theorem zsa:OpR X (yzi .Add) (λx y H Q=>Ex2 λi j=>x = .str i∧y = .str j∧i.length+j.length≤yua∧Q (.str (i++j)) H):=by
 intro pins s σ H x y v u Q I rx ry h;obtain⟨i,j,rfl,rfl,hz,q⟩:=h;obtain⟨t,rfl⟩:=rx;obtain⟨t',rfl⟩:=ry;exact add_str (λt' tk=>⟨.str (i++j),H,I.tok _,⟨_,rfl⟩,q⟩) hz
theorem vals1 {x:V}{us:List Value}(r:Vals [x] us):∃u,us=[u]∧RelV x u:=by
 cases r with
 | cons r1 r2=>cases r2;exact⟨_,rfl,r1⟩
theorem vals2 {x y:V}{us:List Value}(r:Vals [x,y] us):Ex2 λu w'=>us=[u,w']∧RelV x u∧RelV y w':=by
 cases r with
 | cons r1 r2 =>
  cases r2 with
  | cons r3 r4=>cases r4;exact⟨_,_,rfl,r1,r3⟩
theorem zwcb:zim X (.type "int") (λxs H Q=>(∃i,xs=[.int i]∧Q (.int i) H)∨∃k,xs=[.bl k]∧Q (.int (if k then 1 else 0)) H):=by
 intro pins s σ H xs us Q I r h
 rcases h with⟨i,rfl,q⟩|⟨k,rfl,q⟩
 ·obtain⟨u,rfl,t,rfl⟩:=vals1 r;exact call_int_int ⟨.int i,H,I,⟨_,rfl⟩,q⟩
 ·obtain⟨u,rfl,r1⟩:=vals1 r;cases r1;exact call_int_bool ⟨.int (if k then 1 else 0),H,I.tok _,⟨_,rfl⟩,q⟩
theorem zpf:zim X (.type "str") (λxs H Q=>∃i,xs=[.int i]∧i.natAbs.log2<1920∧Q (.str (toString i)) H):=by
 intro pins s σ H xs us Q I r h;obtain⟨i,rfl,hz,q⟩:=h;obtain⟨u,rfl,t,rfl⟩:=vals1 r;exact PySem.P.str_of_int hz ⟨.str _,H,I.tok _,⟨_,rfl⟩,q⟩
end
end L2
namespace L2
open PySem PySem.Spec PyProof.Rows
structure ObjM (h:Heap)(x dx C:Addr)(mA:Str->Option Value):Prop where
 obj:h.get? x=some (yfe C dx)
 ns:h.Ns1 dx mA
 ne:dx≠x
theorem zrkb {h:Heap}{dx:Addr}{mA:Str->Option Value}(n:h.Ns1 dx mA):∃od,h.get? dx=some od∧∀name,yjj name od=some (mA name):=by
 obtain⟨o,es,ep,ho,hd,hk,_,hm⟩:=n;refine⟨o,ho,λname=>?_⟩;have e:=hm name;unfold nsFind findBy at e;rw[← Array.find?_toList] at e;unfold yjj;rw[hd];dsimp only
 split
 ·rename_i y q;rw[q] at e;exact congrArg some e
 ·rename_i q;rw[q] at e;have a:es.toList.any (·.refKey)=false:=by
   rw[List.any_eq_false];intro y hy;obtain⟨z,t,hkey⟩:=hk y (Array.mem_toList_iff.mp hy);simp[DictEntry.refKey,hkey]
  have a':¬ es.toList.any (·.refKey)=true:=by rw[a];exact yab
  rw[if_neg a'];exact congrArg some e
theorem ObjM.look {h:Heap}{x dx C:Addr}{mA:Str->Option Value}(I:ObjM h x dx C mA):∃od,PySem.W.InstAt h x (yfe C dx) C (some od)∧∀name,yjj name od=some (mA name) :=
 let ⟨od,ho,hl⟩:=zrkb I.ns
 ⟨od,⟨I.obj,rfl,rfl,ho⟩,hl⟩
section
variable {prog:ysb}{w:World}{A:Around}{E:Value->Shared->Prop}{s:Shared}{K:yba}{x dx C f:Addr}{mA:Str->Option Value}{name:Str}{v:Value}
theorem get_map {expr:Bool}{Q:Value->Shared->Prop}(X:K.In s.heap)(I:ObjM s.heap x dx C mA)(hg:yje K C name=true)(hh:yue K C=true)
  (ha:yya K (.ref C) name=some none) (hv:mA name=some v) (hv':yun v=true) (h:Q v { s with toks:=s.toks+1 }) :
  wpAny (model prog w) A (getAttr (.ref x) name expr) Q E s:=by
 obtain⟨od,J,hl⟩:=I.look;exact PySem.W.get_value X J (yii hg).1 (PySem.W.findObj_own hh ha rfl (by rw[hl,hv])) hv' h
theorem zjob {pl:Sem Bool}{Q:Value×List Value->Shared->Prop}(X:K.In s.heap)(I:ObjM s.heap x dx C mA)(hg:yje K C name=true)
  (hf:yya K (.ref C) name=some (some (.ref f))) (ht:yaj K (.ref f)=true) (hv:mA name=none) (h:Q (.ref f,[.ref x]) s) :
  wpAny (model prog w) A (yao (.ref x) name pl) Q E s:=by
 obtain⟨od,J,hl⟩:=I.look;exact PySem.W.method_fn X J (yii hg).1 (yii hg).2 hf (beq_iff_eq.mp ht) (by show (yjj name od).map (·.isSome)=some false;rw[hl,hv];rfl) h
theorem zarb {ns:List Str}{Q:Unit->Shared->Prop}(X:K.In s.heap)(I:ObjM s.heap x dx C mA)
  (hs:yya K (.ref C) "__setattr__" = some (some (.builtin "object.__setattr__"))) (hp:yeg K C=true) (ht:yvk K C name=some none) (hh:yue K C=true)
  (hw:yuk mA ns) (hsz:ns.length≤yua)
  (h:∀h',ObjM h' x dx C (λy=>if y=name then some v else mA y)->ycf dx s.heap h'->Q () { s with heap:=h',toks:=s.toks+2 }) :
  wpAny (model prog w) A (setAttr (.ref x) name v) Q E s:=by
 obtain⟨od,J,hl⟩:=I.look;refine PySem.W.set_plain X J hs (PySem.W.osa_open (s:={ s with toks:=s.toks+1 }) (r:=none) X J hp ht λb=>?_);obtain⟨cd,hc,hd'⟩:=PySem.W.any_some hh;have hx:s.heap.get? x=some ⟨.ref C,some dx,.plain,#[]⟩:=I.obj;refine yfa (yra (yfa (yfa (wpAny_loadPart hx (yfa (yjo.here (s:={ s with toks:=s.toks+1 }) (PySem.W.looks_clsIn X hc) ?_))))));rw[hd'];refine yra (a:=some dx) (yfa (yra (yfa ?_)));refine wpAny_nsSet1 (s:={ s with toks:=s.toks+1 }) I.ns λh' hn2 hs2=>?_;obtain⟨oD,esD,epD,hoD,hdD,hcD⟩:=hn2.count (yuk.cons name v hw);refine yfa (wpAny_lookBehind hoD (by rw[hdD];exact pastItsLine_dict (ypa hcD (by rw[yia];omega))) ?_);exact yra (h _ ⟨(hs2.2 _ (ysc I.ne)).trans I.obj,hn2,I.ne⟩ hs2)
theorem zunb {R:Result->Shared->Prop}{vs:List Value}{kw:List (Str×Value)}(X:K.In s.heap)(hm:ywk K C=true)
  (hi:yya K (.ref C) "__init__" = some (some (.ref f))) (hf:PySem.W.typeIn K (.ref f)=some (.type "function"))
  (h:yog (model prog w) (A.under (.builtin "type.__call__" ⟨.ref C::vs,kw⟩)) (.call (.ref f) ⟨.ref (s.heap.objs.size+1)::vs,kw⟩) (PySem.W.InitBack (s.heap.objs.size+1) R)
   { s with heap:=(s.heap.push yjd).push (yfe C s.heap.objs.size) }) :
  yog (model prog w) A (.call (.ref C) ⟨vs,kw⟩) R s:=by
 obtain⟨hh,g,d,t,os⟩:=s;exact PySem.W.make_core (PySem.W.makes_of X hm) (yjg X hi) (λself=>PySem.W.bind_fn X self hf) (.inl rfl) h
end
def putF (f:Str)(v:V):List (Str×V)->List (Str×V)
 | []=>[(f,v)]
 | (g,x)::r=>if g=f then (g,v)::r else (g,x)::putF f v r
theorem zsv (f g:Str)(v:V):∀fs:List (Str×V),(putF f v fs).lookup g=if g=f then some v else fs.lookup g
 | []=>by
  show yqd g [(f,v)]=_
  by_cases h:g=f
  ·have hb:(g==f)=true:=beq_iff_eq.mpr h;simp only[yqd,hb,if_pos h]
  ·have hb:(g==f)=false:=beq_eq_false_iff_ne.mpr h;simp only[yqd,hb,if_neg h]
 | (k,x)::r=>by
  have ih:=zsv f g v r;rw[show putF f v ((k,x)::r)=(if k=f then (k,v)::r else (k,x)::putF f v r) from rfl]
  by_cases hk:k=f
  ·rw[if_pos hk]
   by_cases h:g=k
   ·have hb:(g==k)=true:=beq_iff_eq.mpr h;simp only[yqd,hb,if_pos (h.trans hk)]
   ·have hb:(g==k)=false:=beq_eq_false_iff_ne.mpr h;simp only[yqd,hb,if_neg (λe:g=f=>h (e.trans hk.symm))]
  ·rw[if_neg hk]
   by_cases h:g=k
   ·have hb:(g==k)=true:=beq_iff_eq.mpr h;simp only[yqd,hb,if_neg (λe:g=f=>hk (h.symm.trans e))]
   ·have hb:(g==k)=false:=beq_eq_false_iff_ne.mpr h;simp only[yqd,hb];exact ih
theorem zwv (f:Str)(v:V):∀fs:List (Str×V),f∈(putF f v fs).map (·.1)∧∀g,g∈fs.map (·.1)->g∈(putF f v fs).map (·.1)
 | []=>⟨by simp[putF],λg h=>by simp at h⟩
 | (k,x)::r=>by
  obtain⟨i1,i2⟩:=zwv f v r;rw[show putF f v ((k,x)::r)=(if k=f then (k,v)::r else (k,x)::putF f v r) from rfl]
  by_cases hk:k=f
  ·rw[if_pos hk];subst hk;exact⟨by simp,λg h=>by simpa using h⟩
  ·rw[if_neg hk];refine⟨?_,λg h=>?_⟩
   ·rw[ytb];exact yla _ i1
   ·rw[ytb] at h ⊢
    rcases yda.mp h with e|e
    ·exact yda.mpr (.inl e)
    ·exact yla _ (i2 g e)
theorem zuv (f:Str)(v:V):∀fs:List (Str×V),(putF f v fs).length≤fs.length+1
 | []=>by simp[putF]
 | (k,x)::r=>by
  have ih:=zuv f v r;rw[show putF f v ((k,x)::r)=(if k=f then (k,v)::r else (k,x)::putF f v r) from rfl]
  by_cases hk:k=f
  ·rw[if_pos hk,yia,yia];omega
  ·rw[if_neg hk,yia,yia];omega
theorem RelO.some_of {v:V}{o:Option Value}(r:RelO (some v) o):∃u,o=some u∧RelV v u:=by
 cases o with
 | none=>exact (show False from r).elim
 | some u=>exact⟨u,rfl,r⟩
theorem RelO.none_of {o:Option Value}(r:RelO none o):o=none:=by
 cases o with
 | none=>rfl
 | some u=>exact (show False from r).elim
theorem zdlb {v:V}{u:Value}(r:RelV v u):yun u=true:=by
 cases v with
 | non=>cases (show u=Value.none from r);rfl
 | bl b=>cases (show u=Value.bool b from r);rfl
 | int i=>obtain⟨t,e⟩:=(show ∃t,u=Value.int i t from r);cases e;rfl
 | str x=>obtain⟨t,e⟩:=(show ∃t,u=Value.str x t from r);cases e;rfl
 | byt b=>obtain⟨t,e⟩:=(show ∃t,u=Value.bytes b t from r);cases e;rfl
 | flt b=>obtain⟨t,e⟩:=(show ∃t,u=Value.float b t from r);cases e;rfl
 | ref a=>cases (show u=Value.ref a from r);rfl
 | ty n=>cases (show u=Value.type n from r);rfl
section
variable {P:ysb}{w:World}{H H':Hp}{h h':Heap}{a C dx:Addr}{fs fs':List (Str×V)}
theorem zsz (hok:HOk P w H h)(e:H a=some (.ins C dx fs)):∃mA,ObjM h a dx C mA∧(∀f,RelO (fs.lookup f) (mA f))∧yuk mA (fs.map (·.1))∧fs.length≤1000∧H dx=some (.own a):=by
 obtain⟨d,z,ne,ob,mA,n,r,q⟩:=(show zol P w H h a (.ins C dx fs) from hok a _ e);exact⟨mA,⟨ob,n,ne⟩,r,q,z,d⟩
end
structure Cls (K:yba)(C:Addr):Prop where
 pg:yje K C yji=true
 hd:yue K C=true
 po:yeg K C=true
 sa:yya K (.ref C) "__setattr__" = some (some (.builtin "object.__setattr__"))
theorem Cls.get {K:yba}{C:Addr}(c:Cls K C)(f:Str):yje K C f=true:=c.pg
def zki (K:yba)(C:Addr)(f:Str):Prop:=yya K (.ref C) f=some none
theorem zki.taker {K:yba}{C:Addr}{f:Str}(n:zki K C f):yvk K C f=some none:=by
 unfold yvk;rw[show yya K (.ref C) f=some none from n];rfl
structure Con (K:yba)(C:Addr)(f:Str)(v:V)(u:Value):Prop where
 at_:yya K (.ref C) f=some (some u)
 rel:RelV v u
 get:yih K u "__get__" = some none
 cp:PySem.W.copiedNames.contains f=false
structure Meth (K:yba)(C:Addr)(m:Str)(f:Addr):Prop where
 at_:yya K (.ref C) m=some (some (.ref f))
 fn:yaj K (.ref f)=true
 kp:yzd K (.ref f)=true
section
variable {X:Cx}{pins:List (Addr×Obj)}{σ:St}{H:Hp}{s:Shared}{a C dx:Addr}{fs:List (Str×V)}{f:Str}{v:V}{A:Around}{E:Value->Shared->Prop}
theorem zjy {b:Bool}{Q:Value->Shared->Prop}(I:Inv X pins σ H s)(e:H a=some (.ins C dx fs))(c:Cls X.K C)(n:zki X.K C f)(l:fs.lookup f=some v)
  (h:∀u s',Inv X pins σ H s'->RelV v u->Q u s'):wpAny (model X.prog X.w) A (getAttr (.ref a) f b) Q E s:=by
 obtain⟨mA,O,r,_,_,_⟩:=zsz I.hok e;obtain⟨u,hu,ru⟩:=RelO.some_of (v:=v) (o:=mA f) (by rw[← l];exact r f);exact get_map I.kIn O (c.get f) c.hd n hu (zdlb ru) (h u _ (I.tok _) ru)
theorem ziy {m:Str}{g:Addr}{pl:Sem Bool}{Q:Value×List Value->Shared->Prop}(I:Inv X pins σ H s)(e:H a=some (.ins C dx fs))(c:Cls X.K C)(k:Meth X.K C m g)(l:fs.lookup m=none)
  (h:Q (.ref g,[.ref a]) s):wpAny (model X.prog X.w) A (yao (.ref a) m pl) Q E s:=by
 obtain⟨mA,O,r,_,_,_⟩:=zsz I.hok e;have hn:mA m=none:=RelO.none_of (by rw[← l];exact r m);exact zjob I.kIn O (c.get m) k.at_ k.fn hn h
theorem zvx {y:V}{u:Value}{Q:Unit->Shared->Prop}(I:Inv X pins σ H s)(e:H a=some (.ins C dx fs))(c:Cls X.K C)(n:zki X.K C f)(hl:fs.length<1000)(ry:RelV y u)
  (h:∀s',Inv X pins σ (upd H a (.ins C dx (putF f y fs))) s'->Q () s'):wpAny (model X.prog X.w) A (setAttr (.ref a) f u) Q E s:=by
 obtain⟨mA,O,r,wi,_,ho⟩:=zsz I.hok e;have hz:(fs.map (·.1)).length≤yua:=by rw[yaa,sizeLine_eq];omega
 refine zarb I.kIn O c.sa c.po n.taker c.hd wi hz λh' O' sb=>h _ ?_;have hd:∃o,h'.get? dx=some o:=let ⟨o,_,_,e',_⟩:=O'.ns;⟨o,e'⟩;refine I.write (x:=a) (e:=dx) (by rw[e];exact True.intro) (.inr ho) (λb q hb z=>(sb.2 b hb).trans z) hd ?_;refine⟨by rw[zfb O.ne];exact ho,?_,O.ne,O'.obj,_,O'.ns,λg=>?_,λg hg=>?_⟩
 ·have:=zuv f y fs;omega
 ·show RelO ((putF f y fs).lookup g) (if g=f then some u else mA g);rw[zsv]
  by_cases q:g=f
  ·rw[if_pos q,if_pos q];exact ry
  ·rw[if_neg q,if_neg q];exact r g
 ·by_cases q:g=f
  ·rw[q];exact (zwv f y fs).1
  ·refine (zwv f y fs).2 g (wi g λz=>hg ?_);show (if g=f then some u else mA g)=none
   rw[if_neg q];exact z
theorem Inv.made (I:Inv X pins σ H s):Inv X pins σ (upd (upd H s.heap.objs.size (.own (s.heap.objs.size+1))) (s.heap.objs.size+1) (.ins C s.heap.objs.size []))
  { s with heap:=(s.heap.push yjd).push (yfe C s.heap.objs.size) }:=by
 have e1:(s.heap.push yjd).get? s.heap.objs.size=some yjd:=ywa s.heap rfl;have e2:((s.heap.push yjd).push (yfe C s.heap.objs.size)).get? (s.heap.objs.size+1)=some (yfe C s.heap.objs.size):=by
  have:=ywa (s.heap.push yjd) (o:=yfe C s.heap.objs.size) rfl
  rwa [yoe] at this
 have e3:(s.heap.push yjd).Ns s.heap.objs.size (λ_=>none):=⟨yjd,#[],_,e1,rfl,(λe he=>absurd he (by simp)),λ_=>rfl⟩;have I1:=I.laid (a:=s.heap.objs.size) (o:=.own (s.heap.objs.size+1)) (h':=s.heap.push yjd) (t':=s.toks) (λb u q=>yga _ q) (yxa _) ⟨_,e1⟩;refine I1.laid (a:=s.heap.objs.size+1) (o:=.ins C s.heap.objs.size []) (t':=s.toks) (λb u q=>yga _ q) (ybj (yoe _ _)) ?_;have ne:s.heap.objs.size≠s.heap.objs.size+1:=yjb (ylf _);refine⟨by rw[zfb ne,zda],ydc _,ne,e2,λ_=>none,(Heap.Ns1.of_empty e3).at λo q=>yga _ q,λ_=>True.intro,λy hy=>absurd rfl hy⟩
theorem zatb {prog:ysb}{w:World}{env:Env}{e:Expr}{f:Str}{pos:Pos}{s:Shared}{Q:Value->Shared->Prop}(hb:yvg e f env (eval e env)=eval e env)
  (h:wpAny (model prog w) A (eval e env) (λo s₁=>wpAny (model prog w) A (getAttr o f true) Q E s₁) E s):wpAny (model prog w) A (eval (.Attribute e f pos) env) Q E s :=
 Attribute_any_ h (by rw[arm_eval_Attribute,hb])
end
def tFld (K:yba)(ta:TE)(f:Str):TE:=fun σ H Q=>ta σ H λx H1=>Ex5 λa C dx fs v=>x = .ref a∧H1 a=some (.ins C dx fs)∧Cls K C∧zki K C f∧fs.lookup f=some v∧Q v H1
def sFld (K:yba)(ta tv:TE)(f:Str):TS:=λD σ H=>tv σ H λy H1=>ta σ H1 λx H2=>Ex4 λa C dx fs=>x = .ref a∧H2 a=some (.ins C dx fs)∧Cls K C∧zki K C f∧fs.length<1000 ∧
 D.nx σ (upd H2 a (.ins C dx (putF f y fs)))
def InOp (X:Cx)(op:yyn)(rd:V->V->Hp->VK->Prop):Prop :=
 ∀(pins:List (Addr×Obj)) (s:Shared) (σ:St) (H:Hp) (x y:V) (u v:Value) (Q:VK),Inv X pins σ H s->RelV x u->RelV y v->rd x y H Q->wpAny (model X.prog X.w) X.A (inplaceOp op u v) (EP X pins σ Q) X.xe s
def zerb (K:yba)(ta tv:TE)(rd:V->V->Hp->VK->Prop)(f:Str):TS:=λD σ H=>ta σ H λx H1=>Ex5 λa C dx fs v=>x = .ref a∧H1 a=some (.ins C dx fs)∧Cls K C∧zki K C f∧fs.lookup f=some v ∧
 tv σ H1 λy H2=>rd v y H2 λz H3=>Ex2 λdx' fs'=>H3 a=some (.ins C dx' fs')∧fs'.length<1000∧D.nx σ (upd H3 a (.ins C dx' (putF f z fs')))
section
variable {X:Cx}{o e value:Expr}{f:Str}{pos pos' tpos:Pos}{ta tv:TE}
theorem zfj (he:PE X e ta)(hb:yvg e f X.env (eval e X.env)=eval e X.env):PE X (.Attribute e f pos) (tFld X.K ta f):=by
 intro pins s σ H Q I h;refine zatb hb (thn (he pins s σ H _ I h) λu s1 ⟨x,H1,I1,rx,a,C,dx,fs,v,ex,ea,c,n,l,q⟩=>?_);subst ex;obtain rfl:u=Value.ref a:=rx;exact zjy I1 ea c n l λu' s2 I2 ru=>⟨v,H1,I2,ru,q⟩
theorem zbo (ha:PE X o ta)(hv:PE X value tv)(hs:yzn value (some (.Attribute o f pos')) pos.line X.env=pure false):PS X (.Assign [.Attribute o f pos'] value pos) (sFld X.K ta tv f):=by
 intro pins s σ H D I h;refine plainObj_wpAny_Assign_Attribute (thn (hv pins s σ H _ I h) λu s1 ⟨y,H1,I1,ry,q⟩=>thn (ha pins s1 σ H1 _ I1 q) λov s2 ⟨x,H2,I2,rx,a,C,dx,fs,ex,ea,c,n,l,q2⟩=>?_) hs;subst ex;obtain rfl:ov=Value.ref a:=rx;exact zvx I2 ea c n l ry λs3 I3=>⟨σ,_,I3,q2⟩
theorem zekb {op:yyn}{rd:V->V->Hp->VK->Prop}(ha:PE X o ta)(hv:PE X value tv)(hop:InOp X op rd):PS X (.AugAssign (.Attribute o f tpos) op value pos) (zerb X.K ta tv rd f):=by
 intro pins s σ H D I h;refine wpAny_AugAssign_AttributeAny (thn (ha pins s σ H _ I h) λov s1 ⟨x,H1,I1,rx,a,C,dx,fs,v,ex,ea,c,n,l,q⟩=>?_);subst ex;obtain rfl:ov=Value.ref a:=rx;refine zjy I1 ea c n l λu s2 I2 ru=>thn (hv pins s2 σ H1 _ I2 q) λw3 s3 ⟨y,H2,I3,ry,q3⟩=>thn (hop pins s3 σ H2 v y u w3 _ I3 ru ry q3) λw4 s4 ⟨z,H3,I4,rz,dx',fs',ea',l',q4⟩=>?_;exact zvx I4 ea' c n l' rz λs5 I5=>⟨σ,_,I5,q4⟩
def rAdd:V->V->Hp->VK->Prop:=λx y H Q=>Ex2 λi j=>x = .int i∧y = .int j∧Q (.int (i+j)) H
theorem zawb:InOp X .Add rAdd:=by
 rintro pins s σ H x y u v Q I rx ry ⟨i,j,rfl,rfl,q⟩;obtain⟨t,rfl⟩:=(show ∃t,u=Value.int i t from rx);obtain⟨t',rfl⟩:=(show ∃t',v=Value.int j t' from ry);exact PyProof.Rows.iadd_int ⟨.int (i+j),H,I.tok _,⟨_,rfl⟩,q⟩
end
section
variable {X:Cx}{pins:List (Addr×Obj)}{σ:St}{H:Hp}{s:Shared}{A:Around}{E:Value->Shared->Prop}{Q:Value->Shared->Prop}{c:Value}{b:Bool}
inductive TyOf (K:yba)(H:Hp):V->Value->Prop where
 | non:TyOf K H .non (.type "NoneType")
 | bl (x:Bool):TyOf K H (.bl x) (.type "bool")
 | int (i:Int):TyOf K H (.int i) (.type "int")
 | str (x:Str):TyOf K H (.str x) (.type "str")
 | flt (x:UInt64):TyOf K H (.flt x) (.type "float")
 | lst {a:Addr} {xs:List V} (e:H a=some (.lst xs)):TyOf K H (.ref a) (.type "list")
 | frz {a:Addr} {o:Obj} {xs:List V} (e:H a=some (.frz o (.lst xs))):TyOf K H (.ref a) (.type "list")
 | tup {a:Addr} {xs:List V} (e:H a=some (.tup xs)):TyOf K H (.ref a) (.type "tuple")
 | dK {a:Addr} {kvs:List (Key×V)} (e:H a=some (.dK kvs)):TyOf K H (.ref a) (.type "dict")
 | dT {a:Addr} {kvs:List (List Key×V)} (e:H a=some (.dT kvs)):TyOf K H (.ref a) (.type "dict")
 | ins {a C dx:Addr} {fs:List (Str×V)} (e:H a=some (.ins C dx fs)) (cl:Cls K C) (ha:yya K (.ref C) "__class__" = some (some (.builtin "object.__class__")))
   (hn:yih K (.builtin "object.__class__") "__get__" = some (some (.builtin "getset_descriptor.__get__"))) (htk:yxk K (.builtin "object.__class__")=some true)
   (hm:yim K C (.type "object")=some true):TyOf K H (.ref a) (.ref C)
theorem zncb {x:V}{u t:Value}(I:Inv X pins σ H s)(rx:RelV x u)(ty:TyOf X.K H x t)(e:yfb X.K t c=some b)(h:∀tk,Q (.bool b) { s with toks:=tk }) :
  wpAny (model X.prog X.w) A (call (.builtin "isinstance") [u,c]) Q E s:=by
 cases ty with
 | non=>cases (show u=Value.none from rx);exact ytc PySem.W.kitx_none I.kIn True.intro e (λz=>nomatch z) h
 | bl y=>cases (show u=Value.bool y from rx);exact ytc PySem.W.kitx_bool I.kIn True.intro e (λz=>nomatch z) h
 | int i=>obtain⟨t,q⟩:=(show ∃t,u=Value.int i t from rx);cases q;exact ytc PySem.W.kitx_int I.kIn True.intro e (λz=>nomatch z) h
 | str y=>obtain⟨t,q⟩:=(show ∃t,u=Value.str y t from rx);cases q;exact ytc PySem.W.kitx_str I.kIn True.intro e (λz=>nomatch z) h
 | flt y=>obtain⟨t,q⟩:=(show ∃t,u=Value.float y t from rx);cases q;exact ytc PySem.W.kitx_float I.kIn True.intro e (λz=>nomatch z) h
 | @lst a xs ea =>
  cases (show u=Value.ref a from rx);obtain⟨_,_,n,_,h1⟩:=(show zol X.prog X.w H s.heap a (.lst xs) from I.hok a _ ea);exact ytc yan I.kIn ⟨_,h1,rfl⟩ e (λz=>nomatch z) h
 | @frz a ob xs ea =>
  cases (show u=Value.ref a from rx);obtain⟨_,_,_,n,_,h1⟩:=(show zol X.prog X.w H s.heap a (.frz ob (.lst xs)) from I.hok a _ ea);exact ytc yan I.kIn ⟨_,h1,rfl⟩ e (λz=>nomatch z) h
 | @tup a xs ea =>
  cases (show u=Value.ref a from rx);obtain⟨_,_,_,p⟩:=(show zol X.prog X.w H s.heap a (.tup xs) from I.hok a _ ea);obtain⟨o,h1,h2,_⟩:=p;exact ytc PySem.W.kitx_tuple I.kIn ⟨o,h1,h2⟩ e (λz=>nomatch z) h
 | @dK a kvs ea =>
  cases (show u=Value.ref a from rx);obtain⟨_,_,vs,_,p⟩:=(show zol X.prog X.w H s.heap a (.dK kvs) from I.hok a _ ea);obtain⟨o,es,ep,h1,h2,_⟩:=p;exact ytc ybn I.kIn ⟨o,h1,h2.1⟩ e (λz=>nomatch z) h
 | @dT a kvs ea =>
  cases (show u=Value.ref a from rx);obtain⟨_,_,xs,_,o,es,ep,h1,h2,_⟩:=(show zol X.prog X.w H s.heap a (.dT kvs) from I.hok a _ ea);exact ytc ybn I.kIn ⟨o,h1,h2.1⟩ e (λz=>nomatch z) h
 | @ins a C dx fs ea cl ha hn htk hm =>
  cases (show u=Value.ref a from rx);obtain⟨mA,O,_⟩:=zsz I.hok ea;obtain⟨od,J,_⟩:=O.look;exact ytc (PySem.W.kitx_own (cl.get _) cl.hd ha hn htk hm) I.kIn J e (λz=>nomatch z) h
end
end L2
namespace L2
open PySem PySem.Spec PyProof.Rows
structure Room (k:Nat)(A:Around):Prop where
 hd:A.handled=none
 dp:A.depth+3*k+5<recursionLimit
 un:A.units+16*k+200<cLine
theorem Room.mono {j k:Nat}{A:Around}(r:Room k A)(h:j≤k):Room j A:=⟨r.hd,by have:=r.dp;omega,by have:=r.un;omega⟩
theorem Room.deeper {k:Nat}{A:Around}(r:Room (k+1) A)(env:Env):Room k (A.deeper env) :=
 ⟨r.hd,by have:=r.dp;show A.depth+1+3*k+5<_;omega,by have:=r.un;show A.units+3+16*k+200<_;omega⟩
theorem zfib {A:Around}{C:Addr}{us:List Value}{kw:List (Str×Value)}:(A.under (.builtin "type.__call__" ⟨.ref C::us,kw⟩)).depth=A.depth+1:=by
 first|rfl|simp[ypn,Code.weight,Code.isCreation,Code.isGuard,Code.isCaller,Code.frames,yqn,guardIds]
theorem zeib {A:Around}{C:Addr}{us:List Value}{kw:List (Str×Value)}:(A.under (.builtin "type.__call__" ⟨.ref C::us,kw⟩)).units=A.units+1:=by
 first|rfl|simp[ypn,Code.cUnits,Code.frames,yqn]
theorem Room.make {k:Nat}{A:Around}(r:Room (k+1) A)(C:Addr)(us:List Value)(kw:List (Str×Value)):Room k (A.under (.builtin "type.__call__" ⟨.ref C::us,kw⟩)) :=
 ⟨r.hd,by have:=r.dp;rw[zfib];omega,by have:=r.un;rw[zeib];omega⟩
theorem Room.depth {k:Nat}{A:Around}(r:Room k A):A.depth<recursionLimit:=by have:=r.dp;omega
theorem Room.units {k:Nat}{A:Around}(r:Room k A):A.units+64<cLine:=by have:=r.un;omega
def tNil:TA:=λ_ H Q=>Q [] H
def zbxb (ta:TE)(tr:TA):TA:=fun σ H Q=>ta σ H λx H1=>tr σ H1 λxs H2=>Q (x::xs) H2
section
variable {X:Cx}{e:Expr}{es:List Expr}{te:TE}{t:TA}{pos:Pos}
theorem zba:PA X [] tNil:=λ_ _ _ _ H Q I h=>ycn ⟨[],H,I,.nil,h⟩
theorem zaa (ha:PE X e te)(hr:PA X es t)(hs:yec (e::es) X.env=(false,eval e X.env)::yec es X.env:=by rfl):PA X (e::es) (zbxb te t):=by
 intro pos pins s σ H Q I h;rw[hs];show wpAny _ _ (spliced ((false,eval e X.env)::backTo pos (yec es X.env))) _ _ s
 refine yjm (thn (ha pins s σ H _ I h) λu s1 ⟨x,H1,I1,r1,q1⟩=>?_);exact thn (hr pos pins s1 σ H1 _ I1 q1) λus s2 ⟨xs,H2,I2,r2,q2⟩=>⟨x::xs,H2,I2,.cons r1 r2,q2⟩
def tTup (t:TA):TE:=fun σ H Q=>t σ H λxs H1=>xs.length≤yua∧∀p,H1 p=none->Q (.ref p) (upd H1 p (.tup xs))
def tLst (t:TA):TE:=fun σ H Q=>t σ H λxs H1=>xs.length≤yua∧∀p,H1 p=none->Q (.ref p) (upd H1 p (.lst xs))
theorem zqc {x1}(h:PA X es t):PE X (.Tuple es x1 pos) (tTup t):=by
 intro pins s σ H Q I hq;refine wpAny_Tuple_spliced (thn (h pos pins s σ H _ I hq) λus s1 ⟨xs,H1,I1,r,z,q⟩=>⟨by rw[← r.length];exact z,?_⟩);have hf:H1 s1.heap.objs.size=none:=I1.hok.fresh (yxa _);refine⟨.ref s1.heap.objs.size,upd H1 s1.heap.objs.size (.tup xs),I1.laid (t':=s1.toks) (λb u e=>yga _ e) (yxa _) ?_,rfl,q _ hf⟩;exact⟨z,us,r,⟨_,ywa _ rfl,rfl,_,rfl⟩⟩
theorem zob (h:PA X es t):PE X (.List es pos) (tLst t):=by
 intro pins s σ H Q I hq;refine wpAny_List_spliced (thn (h pos pins s σ H _ I hq) λus s1 ⟨xs,H1,I1,r,z,q⟩=>⟨by rw[← r.length];exact z,?_⟩);have hf:H1 s1.heap.objs.size=none:=I1.hok.fresh (yxa _);refine⟨.ref s1.heap.objs.size,upd H1 s1.heap.objs.size (.lst xs),I1.laid (t':=s1.toks) (λb u e=>yga _ e) (yxa _) ?_,rfl,q _ hf⟩;exact⟨z,us,0,r,ywa _ rfl⟩
end
abbrev Sp:=List V->Hp->VK->XK->Prop
abbrev CXT:=List Env->Hp->Shared->XK->Value->Shared->Prop
structure Env0 (P:ysb)(w:World)(K:yba)(mg:Str->Option Value)(base:Heap)(A:Around)(outer:List Env)(s:Shared)(H:Hp):Prop where
 frames:A.frames=some outer
 mod:Mod K mg base
 bs:∀b o,base.get? b=some o->s.heap.get? b=some o∧H b=none
 bsz:base.objs.size≤s.heap.objs.size
 funs:s.heap.FunFrames base outer
 frf:∀b∈frs outer,H b=none
 hok:HOk P w H s.heap
 bare:yek s.gens
def CE (outer:List Env)(P:ysb)(w:World)(H:Hp)(s:Shared)(Q:VK)(u:Value)(s':Shared):Prop :=
 Ex2 λv H'=>s'.os=s.os∧yek s'.gens∧Un (frs outer) [] H H' s.heap s'.heap∧HOk P w H' s'.heap∧RelV v u∧Q v H'
def CR (CX:CXT)(outer:List Env)(P:ysb)(w:World)(H:Hp)(s:Shared)(Q:VK)(E:XK)(r:Result)(s':Shared):Prop :=
 match r with
 | .ok (.ret u)=>CE outer P w H s Q u s'
 | .ok _=>False
 | .error e=>CX outer H s E e s'
structure FnOk (P:ysb)(w:World)(K:yba)(mg:Str->Option Value)(base:Heap)(CX:CXT)(k:Nat)(f:Addr)(fd:ypd)(ps:List Str)(sp:Sp):Prop where
 len:∀vs H Q E,sp vs H Q E->vs.length=ps.length
 run:∀(A:Around) (outer:List Env) (s:Shared) (H:Hp) (args:Args) (us:List Value) (vs:List V) (Q:VK) (E:XK),Room k A->Env0 P w K mg base A outer s H->ydn s fd args (ps.zip us)->Vals vs us->sp vs H Q E →
  yog (model P w) A (.call (.ref f) args) (CR CX outer P w H s Q E) s
theorem FnOk.mono {P:ysb}{w:World}{K:yba}{mg:Str->Option Value}{base:Heap}{CX:CXT}{j k:Nat}{f:Addr}{fd:ypd}{ps:List Str}{sp:Sp}(F:FnOk P w K mg base CX j f fd ps sp)(h:j≤k) :
  FnOk P w K mg base CX k f fd ps sp:=⟨F.len,λA outer s H args us vs Q E hr=>F.run A outer s H args us vs Q E (hr.mono h)⟩
theorem FnOk.imp {P:ysb}{w:World}{K:yba}{mg:Str->Option Value}{base:Heap}{CX:CXT}{k:Nat}{f:Addr}{fd:ypd}{ps:List Str}{sp sp':Sp}(F:FnOk P w K mg base CX k f fd ps sp)
  (h:∀vs H Q E,sp' vs H Q E->sp vs H Q E):FnOk P w K mg base CX k f fd ps sp' :=
 ⟨λvs H Q E q=>F.len vs H Q E (h _ _ _ _ q),λA outer s H args us vs Q E hr he hb hv hs=>F.run A outer s H args us vs Q E hr he hb hv (h _ _ _ _ hs)⟩
theorem Env0.make {P:ysb}{w:World}{K:yba}{mg:Str->Option Value}{base:Heap}{A:Around}{outer:List Env}{s:Shared}{H:Hp}(e:Env0 P w K mg base A outer s H)(C:Addr)(us:List Value)(kw:List (Str×Value)) :
  Env0 P w K mg base (A.under (.builtin "type.__call__" ⟨.ref C::us,kw⟩)) outer s H:=⟨by first|exact e.frames|(simpa [ypn,Code.envs,yqn,pushEnvs] using e.frames),e.mod,e.bs,e.bsz,e.funs,e.frf,e.hok,e.bare⟩
section
variable {X:Cx}{pins:List (Addr×Obj)}{σ:St}{H:Hp}{s s':Shared}
theorem Inv.env0 (I:Inv X pins σ H s):Env0 X.prog X.w X.K X.mg X.base X.A X.stack s H :=
 ⟨I.ok.frames,I.ok.mod,I.bs,ypa I.ok.bsz I.sz,I.stack,I.zxdb,I.hok,I.bare⟩
theorem Inv.after {Q:VK}{u:Value}(I:Inv X pins σ H s)(h:CE X.stack X.prog X.w H s Q u s'):EP X pins σ Q u s':=by
 obtain⟨v,H',os,bare,un,hok,r,q⟩:=h;obtain⟨hh,g,d,t,os'⟩:=s';obtain rfl:os'=s.os:=os;exact⟨v,H',I.call (h':=hh) (g':=g) (d':=d) (t':=t) (ch:=[]) un hok bare (λb z=>absurd z (by simp)),r,q⟩
end
def zcxb (sp:Sp)(dvs:List V)(E:XK)(t:TA):TE:=fun σ H Q=>t σ H λvs H1=>sp (vs++dvs) H1 Q E
def zaub (C:Addr)(m:Str)(sp:Sp)(dvs:List V)(E:XK)(ta:TE)(t:TA):TE:=fun σ H Q=>ta σ H λx H1=>Ex3 λa dx fs=>x = .ref a∧H1 a=some (.ins C dx fs)∧fs.lookup m=none ∧
 t σ H1 λvs H2=>sp (x::(vs++dvs)) H2 Q E
def zzwb (C:Addr)(sp:Sp)(dvs:List V)(E:XK)(t:TA):TE:=fun σ H Q=>t σ H λvs H1=>∀x dx,H1 x=none->H1 dx=none->dx≠x →
 sp (.ref x::(vs++dvs)) (upd (upd H1 dx (.own x)) x (.ins C dx [])) (λv H2=>v = .non∧Q (.ref x) H2) E
def Binds (K:yba)(fd:ypd)(ps:List Str)(ds:List Value):Prop :=
 ∀(s:Shared) (us:List Value),K.In s.heap->(us++ds).length=ps.length->ydn s fd ⟨us,[]⟩ (ps.zip (us++ds))
theorem Binds.all {K:yba}{fd:ypd}{ps:List Str}(h:∀us:List Value,us.length=ps.length->bindArgs fd ⟨us,[]⟩=pure (ps.zip us)):Binds K fd ps []:=λs us _ hl=>by
 rw[yrb] at hl ⊢;exact .of_eq (h us hl)
def Passes (CX:CXT)(X:Cx)(E:XK):Prop:=∀(pins:List (Addr×Obj)) (σ:St) (H:Hp) (s:Shared) (e:Value) (s':Shared),Inv X pins σ H s->CX X.stack H s E e s'->X.xe e s'
section
variable {X:Cx}{CX:CXT}{k:Nat}{f C:Addr}{fd:ypd}{ps:List Str}{sp:Sp}{dvs:List V}{ds:List Value}{E:XK}{x m:Str}{p pos apos:Pos}{e o:Expr}{es:List Expr}{ta:TE}{t:TA}
theorem ztjb {pins:List (Addr×Obj)}{σ:St}{H:Hp}{s:Shared}{Q:VK}{us:List Value}{vs:List V}(F:FnOk X.prog X.w X.K X.mg X.base CX k f fd ps sp)(hr:Room k X.A)(hb:Binds X.K fd ps ds)(hd:Vals dvs ds)(hx:Passes CX X E)
  (I:Inv X pins σ H s) (r:Vals vs us) (h:sp (vs++dvs) H Q E):wpAny (model X.prog X.w) X.A (call (.ref f) us) (EP X pins σ Q) X.xe s:=by
 have r2:Vals (vs++dvs) (us++ds):=r.append hd;have hl:(us++ds).length=ps.length:=by rw[← r2.length];exact F.len _ _ _ _ h
 refine wpAny_call (yqh (F.run X.A X.stack s H ⟨us,[]⟩ (us++ds) (vs++dvs) Q E hr I.env0 (hb s us I.kIn hl) r2 h) λr s' hq=>?_);cases r with
 | error e=>exact hx pins σ H s e s' I hq
 | ok fl =>
  cases fl with
  | ret u=>exact I.after hq
  | next=>exact yce hq
  | brk=>exact yce hq
  | cont=>exact yce hq
theorem zka (F:FnOk X.prog X.w X.K X.mg X.base CX k f fd ps sp)(hr:Room k X.A)(hg:Gl X x)(hm:X.mg x=some (.ref f))(hk:yzd X.K (.ref f)=true)(hb:Binds X.K fd ps ds)(hd:Vals dvs ds)(hx:Passes CX X E)
  (ha:PA X (e::es) t) (hdb:(x==("__debug__":Str))=false:=by decide) (he:yec (e::es) X.env=(false,eval e X.env)::yec es X.env:=by rfl) (hpl:(backTo pos (yec es X.env)).any (·.1)=false:=by rfl) :
  PE X (.Call (.Name x p) (e::es) [] pos) (zcxb sp dvs E t):=by
 intro pins s σ H Q I h;refine ywg (zvv I hg hm ?_ hdb);refine ycj (h₀:=X.base) I.ok.mod.kin hk (thn (ha pos pins s σ H _ I h) λus s1 ⟨vs,H1,I1,r,q⟩=>⟨I1.kIn,?_⟩) he hpl;exact ztjb F hr hb hd hx I1 r q
theorem zej {pl:Sem Bool}(he:PE X o ta)(c:Cls X.K C)(hm:Meth X.K C m f)(F:FnOk X.prog X.w X.K X.mg X.base CX k f fd ps sp)(hr:Room k X.A)(hb:Binds X.K fd ps ds)(hd:Vals dvs ds)(hx:Passes CX X E)(ha:PA X (e::es) t)
  (hst:yec (e::es) X.env=(false,eval e X.env)::yec es X.env:=by rfl) (hpl:(backTo pos (yec es X.env)).any (·.1)=false:=by rfl)
  (ht:eval (.Call (.Attribute o m apos) (e::es) [] pos) X.env=(do
   let ov ← eval o X.env
   standAt apos.atName
   let (f,first) ← yxl [ov] (yao ov m pl)
   callWith pos f first (backTo pos (yec (e::es) X.env)) (ykm pos (yki [] X.env))):=by rfl) :
  PE X (.Call (.Attribute o m apos) (e::es) [] pos) (zaub C m sp dvs E ta t):=by
 intro pins s σ H Q I h;refine yyk (pl:=pl) (thn (he pins s σ H _ I h) λu s1 ⟨x,H1,I1,rx,a,dx,fs,ex,ea,l,q⟩=>?_) ht;subst ex;obtain rfl:u=Value.ref a:=rx;refine ziy I1 ea c hm l ?_;refine ycj (first:=[.ref a]) (h₀:=X.base) I.ok.mod.kin hm.kp (thn (ha pos pins s1 σ H1 _ I1 q) λus s2 ⟨vs,H2,I2,r,q2⟩=>⟨I2.kIn,?_⟩) hst hpl;exact ztjb (us:=.ref a::us) (vs:=.ref a::vs) F hr hb hd hx I2 (.cons rfl r) q2
theorem zkc {pl:Sem Bool}(he:PE X o ta)(c:Cls X.K C)(hm:Meth X.K C m f)(F:FnOk X.prog X.w X.K X.mg X.base CX k f fd ps sp)(hr:Room k X.A)(hb:Binds X.K fd ps ds)(hd:Vals dvs ds)(hx:Passes CX X E)
  (ht:eval (.Call (.Attribute o m apos) [] [] pos) X.env=(do
   let ov ← eval o X.env
   standAt apos.atName
   let (f,first) ← yxl [ov] (yao ov m pl)
   callWith pos f first (backTo pos (yec [] X.env)) (ykm pos (yki [] X.env))):=by rfl) :
  PE X (.Call (.Attribute o m apos) [] [] pos) (zaub C m sp dvs E ta tNil):=by
 intro pins s σ H Q I h;refine yyk (pl:=pl) (thn (he pins s σ H _ I h) λu s1 ⟨x,H1,I1,rx,a,dx,fs,ex,ea,l,q⟩=>?_) ht;subst ex;obtain rfl:u=Value.ref a:=rx;refine ziy I1 ea c hm l ?_;exact PySem.W.callWith_K0 (first:=[.ref a]) I1.kIn hm.kp (ztjb (us:=[.ref a]) (vs:=[.ref a]) F hr hb hd hx I1 (.cons rfl .nil) q)
structure Mk (K:yba)(C f:Addr):Prop where
 makes:ywk K C=true
 init:yya K (.ref C) "__init__" = some (some (.ref f))
 fn:yaj K (.ref f)=true
 kp:yzd K (.ref C)=true
theorem zwmb {pins:List (Addr×Obj)}{σ:St}{H:Hp}{s:Shared}{Q:VK}{us:List Value}{vs:List V}(M:Mk X.K C f)(F:FnOk X.prog X.w X.K X.mg X.base CX k f fd ps sp)(hr:Room (k+1) X.A)(hb:Binds X.K fd ps ds)(hd:Vals dvs ds)
  (hx:Passes CX X E) (I:Inv X pins σ H s) (r:Vals vs us)
  (h:∀x dx,H x=none->H dx=none->dx≠x->sp (.ref x::(vs++dvs)) (upd (upd H dx (.own x)) x (.ins C dx [])) (λv H2=>v = .non∧Q (.ref x) H2) E) :
  wpAny (model X.prog X.w) X.A (call (.ref C) us) (EP X pins σ Q) X.xe s:=by
 have hq:=h (s.heap.objs.size+1) s.heap.objs.size (I.hok.fresh (yjh _)) (I.hok.fresh (yxa _)) (yjb (ylf _));have I2:=Inv.made (C:=C) I;have r2:Vals (V.ref (s.heap.objs.size+1)::(vs++dvs)) (Value.ref (s.heap.objs.size+1)::(us++ds)):=.cons rfl (r.append hd);have hl:(Value.ref (s.heap.objs.size+1)::us++ds).length=ps.length:=by
  have e:=r2.length;rw[F.len _ _ _ _ hq] at e;exact e.symm
 refine wpAny_call (zunb (f:=f) I.kIn M.makes M.init (beq_iff_eq.mp M.fn) (yqh (F.run _ X.stack _ _ ⟨Value.ref (s.heap.objs.size+1)::us,[]⟩ (Value.ref (s.heap.objs.size+1)::(us++ds)) _ _ E (hr.make C us [])
  (I2.env0.make C us []) (hb _ (Value.ref (s.heap.objs.size+1)::us) I2.kIn hl) r2 hq) λr s' hq'=>?_))
 cases r with
 | error e=>exact hx pins σ _ _ e s' I2 hq'
 | ok fl =>
  cases fl with
  | ret u =>
   obtain⟨v,H',I3,rv,ev,q3⟩:=I2.after hq';subst ev;exact⟨rv,⟨V.ref (s.heap.objs.size+1),H',I3,rfl,q3⟩⟩
  | next=>exact yce hq'
  | brk=>exact yce hq'
  | cont=>exact yce hq'
theorem zdz (M:Mk X.K C f)(F:FnOk X.prog X.w X.K X.mg X.base CX k f fd ps sp)(hr:Room (k+1) X.A)(hg:Gl X x)(hm:X.mg x=some (.ref C))(hb:Binds X.K fd ps ds)(hd:Vals dvs ds)(hx:Passes CX X E)
  (ha:PA X (e::es) t) (hdb:(x==("__debug__":Str))=false:=by decide) (he:yec (e::es) X.env=(false,eval e X.env)::yec es X.env:=by rfl) (hpl:(backTo pos (yec es X.env)).any (·.1)=false:=by rfl) :
  PE X (.Call (.Name x p) (e::es) [] pos) (zzwb C sp dvs E t):=by
 intro pins s σ H Q I h;refine ywg (zvv I hg hm ?_ hdb);refine ycj (h₀:=X.base) I.ok.mod.kin M.kp (thn (ha pos pins s σ H _ I h) λus s1 ⟨vs,H1,I1,r,q⟩=>⟨I1.kIn,?_⟩) he hpl;exact zwmb M F hr hb hd hx I1 r q
end
section
variable {X:Cx}{CX:CXT}{k:Nat}{f C:Addr}{fd:ypd}{ps ks:List Str}{sp:Sp}{E:XK}{x m:Str}{p pos apos kpos:Pos}{e o:Expr}{es:List Expr}{kws:List yzk}{te ta:TE}{t tk:TA}{nm:Option Str}
structure zwxb (K:yba)(fd:ypd)(ps ks:List Str)(g:List Value->List Value->List Value)(gV:List V->List V->List V):Prop where
 to:∀(s:Shared) (us ws:List Value),K.In s.heap->(g us ws).length=ps.length->ydn s fd ⟨us,ks.zip ws⟩ (ps.zip (g us ws))
 rel:∀{vs:List V} {us:List Value} {zs:List V} {ws:List Value},Vals vs us->Vals zs ws->Vals (gV vs zs) (g us ws)
variable {g:List Value->List Value->List Value}{gV:List V->List V->List V}
end
structure zdb (N P:List Str)(sc:Scope):Prop where
 kind:sc.kind = .function
 co:sc.isCoroutine=false
 gen:sc.isGenerator=false
 nd:N.Nodup
 pre:N.take P.length=P
 par:∀x∈P,sc.names.lookup x=some .local∨sc.names.lookup x=some .cell
 nofree:∀y∈sc.names,y.2 ≠ .free
theorem zbdb {kindOf:Str->Option ync}{x:Str}:∀{binds:List (Str×Value)} {m:Str->Option Value},(∀v,(x,v)∉binds)->bindL kindOf binds m x=m x
 | [],_,_=>rfl
 | (n,v)::r,m,h=>by
  unfold bindL;rw[zbdb λw hw=>h w (yla _ hw)]
  split
  ·have:x≠n:=by rintro rfl;exact h v yqa
   simp[this]
  ·rfl
theorem zddb {kindOf:Str->Option ync}{x:Str}:∀{binds:List (Str×Value)} {m:Str->Option Value},(∀v,(x,v)∉binds)->bindC kindOf binds m x=m x
 | [],_,_=>rfl
 | (n,v)::r,m,h=>by
  unfold bindC;rw[zddb λw hw=>h w (yla _ hw)]
  split
  ·rfl
  ·have:x≠n:=by rintro rfl;exact h v yqa
   simp[this]
theorem zcdb {kindOf:Str->Option ync}{x:Str}{v:Value}:∀{P:List Str} {vs:List Value} {i:Nat} {m:Str->Option Value},P.Nodup->P[i]?=some x->vs[i]?=some v->kindOf x=some .local →
  bindL kindOf (P.zip vs) m x=some v
 | [],_,_,_,_,h,_,_=>by simp at h
 | _::_,[],_,_,_,_,h,_=>by simp at h
 | p::P,w::vs,0,m,nd,h1,h2,hk=>by
  simp at h1 h2;subst h1;subst h2;show bindL kindOf ((p,w)::P.zip vs) m p=_
  unfold bindL;rw[zbdb λv hv=>(yli.mp nd).1 (yal hv).1,if_pos hk];simp
 | p::P,w::vs,i+1,m,nd,h1,h2,hk=>by
  show bindL kindOf ((p,w)::P.zip vs) m x=_
  unfold bindL;exact zcdb (i:=i) (yli.mp nd).2 (by simpa using h1) (by simpa using h2) hk
theorem zedb {kindOf:Str->Option ync}{x:Str}{v:Value}:∀{P:List Str} {vs:List Value} {i:Nat} {m:Str->Option Value},P.Nodup->P[i]?=some x->vs[i]?=some v->kindOf x≠some .local →
  bindC kindOf (P.zip vs) m x=some v
 | [],_,_,_,_,h,_,_=>by simp at h
 | _::_,[],_,_,_,_,h,_=>by simp at h
 | p::P,w::vs,0,m,nd,h1,h2,hk=>by
  simp at h1 h2;subst h1;subst h2;show bindC kindOf ((p,w)::P.zip vs) m p=_
  unfold bindC;rw[zddb λv hv=>(yli.mp nd).1 (yal hv).1,if_neg hk];simp
 | p::P,w::vs,i+1,m,nd,h1,h2,hk=>by
  show bindC kindOf ((p,w)::P.zip vs) m x=_
  unfold bindC;exact zedb (i:=i) (yli.mp nd).2 (by simpa using h1) (by simpa using h2) hk
def start (N:List Str)(vs:List V):St:=vs.map some++ykc (N.length-vs.length) none
def cxOf (CX:CXT)(P:ysb)(w:World)(K:yba)(mg:Str->Option Value)(base:Heap)(N:List Str)(qual:Str)(scope:Scope)(f:Addr)(cd:Value)(A:Around)(outer:List Env)(s:Shared)(H:Hp)(E:XK):Cx where
 prog:=P
 w:=w
 K:=K
 mg:=mg
 base:=base
 A:=A.deeper (envOfC qual scope s.heap.objs.size f cd)
 N:=N
 s₀:=s
 H₀:=H
 env:=envOfC qual scope s.heap.objs.size f cd
 outer:=outer
 stack:=envOfC qual scope s.heap.objs.size f cd::outer
 ex:=[]
 calm:=true
 fn:=λ_=>true
 pn:=[]
 xe:=λe s'=>wpAny (model P w) (A.deeper (envOfC qual scope s.heap.objs.size f cd)) (yen (envOfC qual scope s.heap.objs.size f cd) e) (λ_ s''=>CX outer H s E e s'') (λe' s''=>CX outer H s E e' s'') s'
theorem zmhb {sc:Scope}{n:Nat}{x:Str}(h:sc.names.lookup x=some .cell):∃c,(cellsFrom n sc.names []).lookup x=some c:=by
 have q:=yrk sc.names n [] (.inl h);exact Option.isSome_iff_exists.mp q
theorem zwkb {CX:CXT}{P:ysb}{w:World}{K:yba}{mg:Str->Option Value}{base:Heap}{N ps:List Str}{qual:Str}{scope:Scope}{f:Addr}{cd:Value}{A:Around}{outer:List Env}{s s1:Shared}{H:Hp}{E:XK}{us:List Value}{vs:List V}
  (S:zdb N ps scope) (hd:A.handled=none) (e0:Env0 P w K mg base A outer s H) (hl:vs.length=ps.length) (r:Vals vs us)
  (x:InCallC s s.heap.objs.size (bindL (envOfC qual scope s.heap.objs.size f cd).kindOf (ps.zip us) λ_=>none) (cellsFrom (s.heap.objs.size+1) scope.names []) (bindC (envOfC qual scope s.heap.objs.size f cd).kindOf (ps.zip us) λ_=>none) s1) :
  Inv (cxOf CX P w K mg base N qual scope f cd A outer s H E) [] (start N vs) H s1:=by
 have hpl:ps.length≤N.length:=by have:=congrArg ype S.pre;rw[ypb] at this;omega
 obtain⟨h1,tk,rfl,hk⟩:=x.done;have noA:∀b:Addr,b∉(cxOf CX P w K mg base N qual scope f cd A outer s H E).ex:=λb z=>absurd (show b∈([]:List Addr) from z) (by simp);refine⟨⟨e0.mod,S.kind,rfl,rfl,yxa _,λy z c h1 h2=>?_,λy hy=>?_,λy c _ h=>?_,λ_=>hd,Around.frames_deeper e0.frames,.inr ⟨rfl,rfl⟩,λb z=>absurd z (noA b),e0.bs,e0.bsz,λb _ _=>noA b,λb z=>absurd z (noA b),e0.funs,e0.frf⟩,
  rfl,e0.bare,Un.kept hk,⟨_,x.toInCall.ns,λi y v h1 h2 h3=>?_⟩,λy c h=>⟨_,x.cell y c h⟩,e0.hok.fresh (yxa _),λy c h=>?_,λp hp=>absurd (show p∈([]:List (Addr×Obj)) from hp) (by simp),e0.hok.kept hk,?_⟩
 ·exact name_of_addr x.apart (yhf h1) (yhf h2)
 ·have hy:scope.names.lookup y=some .cell∨scope.names.lookup y=some .free:=hy
  rcases hy with hy|hy
  ·exact zmhb hy
  ·exact absurd rfl (S.nofree _ (yhf hy))
 ·exact yxf (x.above y c (yhf h))
 ·have hi:i<vs.length:=by
   unfold start at h2
   by_cases hi:i<vs.length
   ·exact hi
   ·rw[yfc (by simpa using hi)] at h2;rw[ygk] at h2
    split at h2<;>cases h2
  have ha:vs[i]?=some v:=by
   unfold start at h2;rw[ytd (by simpa using hi),yxb] at h2;cases e:vs[i]? with
   | none=>rw[e] at h2;cases h2
   | some a=>rw[e] at h2;cases h2;rfl
  obtain⟨u,hu,rv⟩:=r.get ha;have hp:ps[i]?=some y:=by
   rw[← S.pre,yrj (by omega)];exact h1
  have ndP:ps.Nodup:=by rw[← S.pre];exact S.nd.sublist (yfn _ _)
  refine⟨u,rv,?_⟩
  rcases S.par y (yva hp) with k|k
  ·exact .inl ⟨k,zcdb ndP hp hu k⟩
  ·obtain⟨c,e⟩:=zmhb (n:=s.heap.objs.size+1) k;refine .inr ⟨.inl k,c,e,?_⟩;have q:=x.cell y c e;rw[zedb ndP hp hu (by show scope.names.lookup y≠_;rw[k];decide)] at q;exact q
 ·exact e0.hok.fresh (yxf (x.above y c (yhf h)))
 ·unfold start;show _=N.length
  rw[yha,yaa,yle];omega
theorem zdwb {CX:CXT}{P:ysb}{w:World}{K:yba}{mg:Str->Option Value}{base:Heap}{k:Nat}{f:Addr}{name qual:Str}{params:Arguments}{body:List Stmt}{scope:Scope}{dV kV doc pm cdv ct oc:Value}{an od:Option Addr}
  {osl:Array (Option Value)} {N ps:List Str} {sp:Sp} (lk:K.lookup f=some ⟨oc,od,.func (ydf name qual params body scope dV kV doc pm an cdv ct),osl⟩) (hcd:ylg K cdv qual=true) (S:zdb N ps scope)
  (len:∀vs H Q E,sp vs H Q E->vs.length=ps.length)
  (hbody:∀(A:Around) (outer:List Env) (s:Shared) (H:Hp) (vs:List V) (Q:VK) (E:XK),Room k (A.deeper (envOfC qual scope s.heap.objs.size f cdv))->sp vs H Q E →
   ∃t,PSs (cxOf CX P w K mg base N qual scope f cdv A outer s H E) body t∧t { nx:=λ_ H'=>Q .non H',rt:=Q } (start N vs) H) :
  FnOk P w K mg base CX (k+1) f (ydf name qual params body scope dV kV doc pm an cdv ct) ps sp:=by
 refine⟨len,λA outer s H args us vs Q E hr e0 hb r hsp=>?_⟩;have hl:=len _ _ _ _ hsp;have KX:K.In s.heap:=e0.mod.kin.keeps λb o e=>(e0.bs b o e).1;have lim:s.heap.NoLimit:=e0.mod.nolimit.keeps λb o e=>(e0.bs b o e).1;have hkind:∀y∈ps.zip us,scope.names.lookup y.1=some .local∨(scope.names.lookup y.1=some .cell∧((cellsFrom (s.heap.objs.size+1) scope.names []).lookup y.1).isSome=true):=λ⟨n,v⟩ hy=>by
  rcases S.par n (yal hy).1 with q|q
  ·exact .inl q
  ·exact .inr ⟨q,yrk _ _ _ (.inl q)⟩
 refine codeAny_call_function hr.depth (KX _ _ lk) rfl S.co S.gen rfl (PySem.W.codeRec_of KX hcd) (hb _ _ _ _ ?_);refine wpAny_newFunctionEnv_cells S.kind hkind λenv he s1 x=>?_;subst he;refine⟨lim.keeps x.toInCall.keep,codeAny_func ?_⟩;obtain⟨t,ht,hq⟩:=hbody A outer s H vs Q E (hr.deeper _) hsp;have I:Inv (cxOf CX P w K mg base N qual scope f cdv A outer s H E) [] (start N vs) H s1:=zwkb S hr.hd e0 hl r x;refine ymc (ht [] s1 (start N vs) H _ I hq) (λfl s' hs=>?_) λe s' hs=>hs;have fin:∀{σ':St} {H':Hp} {v:V} {u:Value},Inv (cxOf CX P w K mg base N qual scope f cdv A outer s H E) [] σ' H' s'->RelV v u->Q v H'->CE outer P w H s Q u s' :=
  λ{σ' H' v u} J rv q=>⟨v,H',J.os,J.bare,J.base,J.hok,rv,q⟩
 cases fl with
 | ret u =>
  obtain⟨v,σ',H',J,rv,q⟩:=hs;exact fin J rv q
 | next =>
  obtain⟨σ',H',J,q⟩:=hs;exact fin (v:=V.non) (u:=Value.none) J rfl q
 | brk =>
  obtain⟨_,_,_,q⟩:=hs;exact yce q
 | cont =>
  obtain⟨_,_,_,q⟩:=hs;exact yce q
end L2
namespace L2
open PySem PySem.Spec PyProof.Rows
section
variable {X:Cx}{x:Str}{p pos:Pos}{e:Expr}{es:List Expr}{t:TA}{id T:String}{r:List V->Hp->VK->Prop}
def tCB (r:List V->Hp->VK->Prop)(t:TA):TE:=fun σ H Q=>t σ H λvs H1=>r vs H1 Q
theorem zza (hc:zim X (.builtin id) r)(hg:Gl X x)(hm:X.mg x=none)(hv:ywf x=some (.builtin id))(ha:PA X (e::es) t)(hn:x ≠ "__name__":=by decide)(hdb:(x==("__debug__":Str))=false:=by decide)
  (he:yec (e::es) X.env=(false,eval e X.env)::yec es X.env:=by rfl) (hpl:(backTo pos (yec es X.env)).any (·.1)=false:=by rfl):PE X (.Call (.Name x p) (e::es) [] pos) (tCB r t):=by
 intro pins s σ H Q I h;refine ywg (zicb I hg hm hv ?_ hn hdb);exact PyProof.Rows.callWith_builtin1 (thn (ha pos pins s σ H _ I h) λus s1 ⟨vs,H1,I1,r1,q1⟩=>hc pins s1 σ H1 vs us Q I1 r1 q1) he hpl
theorem zrc (hc:zim X (.type T) r)(hg:Gl X x)(hm:X.mg x=none)(hv:ywf x=some (.type T))(ha:PA X (e::es) t)(hn:x ≠ "__name__":=by decide)(hdb:(x==("__debug__":Str))=false:=by decide)
  (he:yec (e::es) X.env=(false,eval e X.env)::yec es X.env:=by rfl) (hpl:(backTo pos (yec es X.env)).any (·.1)=false:=by rfl):PE X (.Call (.Name x p) (e::es) [] pos) (tCB r t):=by
 intro pins s σ H Q I h;refine ywg (zicb I hg hm hv ?_ hn hdb);exact yyf (thn (ha pos pins s σ H _ I h) λus s1 ⟨vs,H1,I1,r1,q1⟩=>hc pins s1 σ H1 vs us Q I1 r1 q1) he hpl
end
end L2
namespace HT
open PySem PyProof.Rows
section
open PySem.SeqAt
open PySem.AutoSeq1 (wpAny_loadPart')
open PySem.MeetsSeq PySem.MeetsSeq2 PySem.MeetsSeq3
end
section
variable {prog:ysb}{w:World}{A:Around}{E:Value->Shared->Prop}{s:Shared}
def sIx (n d:Nat):Option Int->Nat
 | none=>d
 | some v=>if v<0 then (v+(n:Int)).toNat else min v.toNat n
theorem zpgb (n d:Nat):sIx n d none=d:=rfl
theorem zsjb (n d k:Nat):sIx n d (some (k:Int))=min k n:=by
 show (if (k:Int)<0 then ((k:Int)+(n:Int)).toNat else min (k:Int).toNat n)=min k n
 rw[if_neg (by omega),yfg]
end
end HT
namespace L2
open PySem PySem.Spec PyProof.Rows
abbrev TO:=St->Hp->(Option Int->Hp->Prop)->Prop
def PO (X:Cx)(e:Option Expr)(t:TO):Prop :=
 ∀(pins:List (Addr×Obj)) (s:Shared) (σ:St) (H:Hp) (Q:Option Int->Hp->Prop),Inv X pins σ H s->t σ H Q →
  wpAny (model X.prog X.w) X.A (evalPart e X.env) (λu s'=>Ex2 λo H'=>Inv X pins σ H' s'∧IsPart u o∧Q o H') X.xe s
def zfqb:TO:=λ_ H Q=>Q none H
def zywb (t:TE):TO:=fun σ H Q=>t σ H λx H1=>∃i,x = .int i∧Q (some i) H1
section
variable {X:Cx}{e:Expr}{te:TE}{lo hi:Option Expr}{tl th:TO}{pos p2:Pos}
theorem zud:PO X none zfqb:=by
 intro pins s σ H Q I h;rw[evalPart_none];exact yra ⟨none,H,I,.none,h⟩
theorem ztd (h:PE X e te):PO X (some e) (zywb te):=by
 intro pins s σ H Q I hw;rw[evalPart_some];refine thn (h pins s σ H _ I hw) λu s1 ⟨x,H1,I1,r1,q1⟩=>?_;obtain⟨i,rfl,q⟩:=q1;obtain⟨t,rfl⟩:=r1;exact⟨some i,H1,I1,.int i t,q⟩
def SlR (X:Cx)(r:V->Option Int->Option Int->Hp->VK->Prop):Prop :=
 ∀(pins:List (Addr×Obj)) (s:Shared) (σ:St) (H:Hp) (x:V) (v vl vu:Value) (lo hi:Option Int) (sl:Addr) (Q:VK),Inv X pins σ H s->RelV x v->s.heap.IsSliceOf sl vl vu .none->IsPart vl lo->IsPart vu hi->r x lo hi H Q →
  Ex2 λT id=>typeLookup (.type T) "__getitem__" = pure (some (.builtin id))∧s.TypeIs v T∧wpAny (model X.prog X.w) X.A (getItem v (.ref sl)) (EP X pins σ Q) X.xe s
def tSl (r:V->Option Int->Option Int->Hp->VK->Prop)(te:TE)(tl th:TO):TE:=fun σ H Q=>te σ H λx H1=>tl σ H1 λl H2=>th σ H2 λu H3=>r x l u H3 Q
theorem zlc {r:V->Option Int->Option Int->Hp->VK->Prop}(hr:SlR X r)(he:PE X e te)(hl:PO X lo tl)(hu:PO X hi th):PE X (.Subscript e (.Slice lo hi none p2) pos) (tSl r te tl th):=by
 intro pins s σ H Q I h;refine Subscript_ (thn (he pins s σ H _ I h) λv s1 ⟨x,H1,I1,r1,q1⟩=>?_);refine wpAny_Slice (thn (hl pins s1 σ H1 _ I1 q1) λvl s2 ⟨l,H2,I2,pl,q2⟩=>thn (hu pins s2 σ H2 _ I2 q2) λvu s3 ⟨u,H3,I3,pu,q3⟩=>?_);rw[evalPart_none];refine yra ?_;have I4:Inv X pins σ H3 { s3 with heap:=s3.heap.push { cls:=.type "slice",data:=.fields #[vl,vu,.none] } }:=I3.kept (t':=s3.toks) λb ob q=>yga _ q;obtain⟨T,id,hT,ht,hg⟩:=hr pins { s3 with heap:=s3.heap.push { cls:=.type "slice",data:=.fields #[vl,vu,.none] } } σ H3 x v vl vu l u s3.heap.objs.size Q I4 r1 (Heap.IsSliceOf.new ..) pl pu q3;show wpAny (model X.prog X.w) X.A (subscriptTail e (.Slice lo hi none p2) v (.ref s3.heap.objs.size)) (EP X pins σ Q) X.xe { s3 with heap:=s3.heap.push { cls:=.type "slice",data:=.fields #[vl,vu,.none] } }
 exact tail_any (ops:=[.ref s3.heap.objs.size,v]) ht hT hg (by with_unfolding_all rfl)
def cutV (xs:List V)(lo hi:Option Int):List V:=(xs.drop (HT.sIx xs.length 0 lo)).take (HT.sIx xs.length xs.length hi-HT.sIx xs.length 0 lo)
theorem zxeb (xs:List V)(lo hi:Option Int):(cutV xs lo hi).length≤xs.length:=by
 unfold cutV;rw[ypb,ylc];omega
end
end L2
namespace L2
open PySem PySem.Spec PyProof.Rows
def ixN (n:Nat)(i:Int):Option Nat:=if 0≤i then (if i<n then some i.toNat else none) else if -(n:Int)≤i then some (i+n).toNat else none
def atI {α:Type}(xs:List α)(i:Int):Option α:=(ixN xs.length i).bind λj=>xs[j]?
theorem zukb {n:Nat}{i:Int}{j:Nat}(h:ixN n i=some j):seqIndex? i n=some j∧j<n ∧ -(n:Int)≤i∧i<n:=by
 unfold ixN at h
 by_cases h0:0≤i
 ·rw[if_pos h0] at h
  by_cases h1:i<n
  ·rw[if_pos h1] at h;have e:i.toNat=j:=ynb h;exact⟨by rw[seqIndex_of h0 h1,e],by omega,by omega,h1⟩
  ·rw[if_neg h1] at h;cases h
 ·rw[if_neg h0] at h
  by_cases h1:-(n:Int)≤i
  ·rw[if_pos h1] at h;have e:(i+n).toNat=j:=ynb h;exact⟨by rw[seqIndex_neg (by omega) h1,e],by omega,h1,by omega⟩
  ·rw[if_neg h1] at h;cases h
theorem zlfb {α:Type}{xs:List α}{i:Int}{v:α}(h:atI xs i=some v):∃j,seqIndex? i xs.length=some j∧xs[j]?=some v∧j<xs.length ∧ -(xs.length:Int)≤i∧i<xs.length:=by
 unfold atI at h;cases e:ixN xs.length i with
 | none=>rw[e] at h;cases h
 | some j =>
  rw[e] at h;obtain⟨h1,h2,h3,h4⟩:=zukb e;exact⟨j,h1,h,h2,h3,h4⟩
theorem zec {α:Type}{xs:List α}{j:Nat}{v:α}(h:xs[j]?=some v):atI xs (j:Int)=some v:=by
 have hj:j<xs.length:=(ylb.mp h).1;have e:ixN xs.length (j:Int)=some j:=by
  unfold ixN;rw[if_pos (by omega),if_pos (by omega)];simp
 unfold atI;rw[e];exact h
def zjtb (b:Expr):Prop:=∀o i,subscripted b false o i=operate [o,i] (getItem o i)
def IxR (X:Cx)(r:R2):Prop :=
 ∀(value slice:Expr) (pins:List (Addr×Obj)) (s:Shared) (σ:St) (H:Hp) (x y:V) (v u:Value) (Q:VK),Inv X pins σ H s->RelV x v->RelV y u->r x y H Q →
  subscripted slice false v u=operate [v,u] (getItem v u)->wpAny (model X.prog X.w) X.A (subscriptTail value slice v u) (EP X pins σ Q) X.xe s
def MtR (X:Cx)(id:String)(r:V->List V->Hp->VK->Prop):Prop :=
 ∀(pins:List (Addr×Obj)) (s:Shared) (σ:St) (H:Hp) (x:V) (xs:List V) (v:Value) (us:List Value) (Q:VK),Inv X pins σ H s->RelV x v->Vals xs us->r x xs H Q →
  wpAny (model X.prog X.w) X.A (call (.builtin id) (v::us)) (EP X pins σ Q) X.xe s
section
variable {X:Cx}{a b:Expr}{ta tb:TE}{pos:Pos}
theorem zlb {r:R2}(hr:IxR X r)(ha:PE X a ta)(hb:PE X b tb)(hs:zjtb b):PE X (.Subscript a b pos) (tOp r ta tb):=by
 intro pins s σ H Q I h;exact Subscript_ (binT ha hb I h λv u s2 x y H2 I2 rx ry q=>hr a b pins s2 σ H2 x y v u Q I2 rx ry q (hs _ _))
def rIxL (K:yba):R2:=λx y H Q=>Ex4 λp xs i v=>x = .ref p∧y = .int i∧SqL K H p xs∧atI xs i=some v∧Q v H
def rIxT (K:yba):R2:=λx y H Q=>Ex4 λp xs i v=>x = .ref p∧y = .int i∧SqT K H p xs∧atI xs i=some v∧Q v H
def rIxS:R2:=λx y H Q=>Ex3 λz i c=>x = .str z∧y = .int i∧z.length≤yua∧atI z.cps.toList i=some c∧Q (.str ⟨#[c]⟩) H
theorem zbb:IxR X (rIxL X.K):=by
 intro value slice pins s σ H x y v u Q I rx ry h hs;obtain⟨p,xs,i,z,rfl,rfl,hq,he,q⟩:=h;cases rx;obtain⟨t,rfl⟩:=ry;obtain⟨its,r,pl,hz⟩:=I.list hq;obtain⟨j,h1,h2,h3,h4,h5⟩:=zlfb he;obtain⟨w,ew,rw'⟩:=r.get h2;have hl:=r.length;have hn:=ztv;have fin:EP X pins σ Q w s:=⟨z,H,I,rw',q⟩
 by_cases h0:0≤i
 ·have hj:i.toNat=j:=by
   rw[seqIndex_of h0 h5] at h1;exact ynb h1
  exact item_listR pl.isList h0 (by omega) (by rw[hj];simpa using ew) fin hs
 ·have hj:(i+(its.toArray.size:Int)).toNat=j:=by
   rw[seqIndex_neg (by omega) h4] at h1;rw[ybb,← hl];exact ynb h1
  exact yeh (x:=w) pl.isList.typeIs slot_list_getitem.lookup
   (wpAny_getItem_list_neg (Q:=λr s'=>r=w∧EP X pins σ Q r s') pl.isList (by omega) (by rw[ybb]<;>omega) (by omega) (by rw[hj];simpa using ew) ⟨rfl,fin⟩) hs
theorem zuf:IxR X (rIxT X.K):=by
 intro value slice pins s σ H x y v u Q I rx ry h hs;obtain⟨p,xs,i,z,rfl,rfl,hq,he,q⟩:=h;cases rx;obtain⟨t,rfl⟩:=ry;obtain⟨its,r,pl,hz⟩:=I.tuple hq;obtain⟨j,h1,h2,h3,h4,h5⟩:=zlfb he;obtain⟨w,ew,rw'⟩:=r.get h2;have hl:=r.length;have hn:=ztv;have fin:EP X pins σ Q w s:=⟨z,H,I,rw',q⟩;exact yeh (x:=w) pl.typeIs slot_tuple_getitem.lookup
  (getItem_tuple (j:=j) (Q:=λr s'=>r=w∧EP X pins σ Q r s') pl (by omega) (by omega) (by rw[ybb,← hl];exact h1) (by simpa using ew) ⟨rfl,fin⟩) hs
theorem zlcb:IxR X rIxS:=by
 intro value slice pins s σ H x y v u Q I rx ry h hs;obtain⟨z,i,c,rfl,rfl,hz,he,q⟩:=h;obtain⟨t,rfl⟩:=rx;obtain⟨t',rfl⟩:=ry;obtain⟨j,h1,h2,h3,h4,h5⟩:=zlfb he;have hl:z.cps.toList.length=z.length:=by simp[yol]
 rw[hl] at h1 h4 h5;have hn:=ztv;exact tail_any (ysj s z t) slot_str_getitem.lookup (getItem_str (c:=c) (by
  have e1:decide (i < -(2 ^ 63:Int))=false:=decide_eq_false (by omega);have e2:decide (i≥2 ^ 63)=false:=decide_eq_false (by omega);rw[e1,e2,Bool.or_false]) (by rw[h1];simpa using h2) ⟨.str ⟨#[c]⟩,H,I.tok _,⟨_,rfl⟩,q⟩) hs
theorem zdib (its:List Value)(n j:Nat)(u:Value):ydi (·.setIfInBounds j u) { cls:=.type "list",data:=.seq its.toArray n }={ cls:=.type "list",data:=.seq (its.set j u).toArray n }:=by
 simp[ydi]
theorem Inv.lst {pins:List (Addr×Obj)}{σ:St}{H:Hp}{s:Shared}{p:Addr}{xs:List V}(I:Inv X pins σ H s)(h:H p=some (.lst xs)) :
  Ex2 λ(its:List Value) (n:Nat)=>Vals xs its∧s.heap.get? p=some { cls:=.type "list",data:=.seq its.toArray n }∧xs.length≤yua:=by
 obtain⟨z,its,n,r,e⟩:=I.hok p _ h;exact⟨its,n,r,e,z⟩
theorem Inv.znvb {pins:List (Addr×Obj)}{σ:St}{H:Hp}{s:Shared}{p:Addr}{xs ys:List V}{its its':List Value}{n n':Nat}{f:Obj->Obj}(I:Inv X pins σ H s)(h:H p=some (.lst xs))
  (ho:s.heap.get? p=some { cls:=.type "list",data:=.seq its.toArray n }) (hf:f { cls:=.type "list",data:=.seq its.toArray n }={ cls:=.type "list",data:=.seq its'.toArray n' }) (r:Vals ys its') (hz:ys.length≤yua) (t:Nat) :
  Inv X pins σ (upd H p (.lst ys)) { s with heap:=s.heap.update p f,toks:=t }:=by
 have e:(s.heap.update p f).get? p=some { cls:=.type "list",data:=.seq its'.toArray n' }:=by
  rw[yvd f ho (by rw[hf]<;>rfl),hf]
 refine I.write (x:=p) (e:=p) (by rw[h];trivial) (.inl rfl) (λb u hb q=>(ywc _ _ (ysc hb)).trans q) ⟨_,e⟩ ?_;exact⟨hz,its',n',r,e⟩
def zgxb:V->V->V->Hp->(Hp->Prop)->Prop:=λo i v H Q=>Ex4 λp xs k j=>o = .ref p∧i = .int k∧H p=some (.lst xs)∧ixN xs.length k=some j∧Q (upd H p (.lst (xs.set j v)))
theorem set_list:PSet X zgxb:=by
 intro pins s σ H o i v ov iv u Q I ro ri rv h;obtain⟨p,xs,k,j,rfl,rfl,hp,hj,q⟩:=h;cases ro;obtain⟨t,rfl⟩:=ri;obtain⟨its,n,r,ho,hz⟩:=I.lst hp;obtain⟨h1,h2,h3,h4⟩:=zukb hj;have hl:=r.length;have hn:=ztv;have I':Inv X pins σ (upd H p (.lst (xs.set j v))) { s with heap:=s.heap.update p (ydi (·.setIfInBounds j u)) } :=
  I.znvb hp ho (zdib its n j u) (r.set rv j) (by rw[List.length_set];exact hz) s.toks
 by_cases h0:0≤k
 ·have hk:k.toNat=j:=by
   rw[seqIndex_of h0 h4] at h1;exact ynb h1
  exact PySem.W.ki_setAt ho h0 (by omega) (by rw[ybb,← hl];exact h4) (by rw[hk];exact⟨_,I',q⟩)
 ·have hk:(k+(its.toArray.size:Int)).toNat=j:=by
   rw[seqIndex_neg (by omega) h3] at h1;rw[ybb,← hl];exact ynb h1
  exact PySem.W.ki_setBack ho (by omega) (by rw[ybb,← hl];exact h3) (by omega) (by rw[hk];exact⟨_,I',q⟩)
theorem zbbb (lo hi:Option Int)(n:Nat):(ykh lo hi none n).1=((HT.sIx n 0 lo:Nat):Int)∧(ykh lo hi none n).2.1=((HT.sIx n n hi:Nat):Int)∧(ykh lo hi none n).2.2=1:=by
 refine⟨?_,?_,rfl⟩
 ·cases lo with
  | none=>simp[ykh,HT.sIx]
  | some i =>
   simp only[ykh,HT.sIx,yvn,show (1:Int)>0 by decide,if_true]
   by_cases h:i<0
   ·simp only[h,if_true]<;>omega
   ·simp only[h,if_false]<;>omega
 ·cases hi with
  | none=>simp[ykh,HT.sIx]
  | some i =>
   simp only[ykh,HT.sIx,yvn,show (1:Int)>0 by decide,if_true]
   by_cases h:i<0
   ·simp only[h,if_true]<;>omega
   ·simp only[h,if_false]<;>omega
theorem zty (its:List Value)(lo hi:Option Int):slicePick its.toArray lo hi none=((its.drop (HT.sIx its.length 0 lo)).take (HT.sIx its.length its.length hi-HT.sIx its.length 0 lo)).toArray:=by
 obtain⟨h1,h2,h3⟩:=zbbb lo hi its.toArray.size;unfold slicePick;rw[h1,h2,h3];simp only[sliceRange_one,pick_run,ybb]<;>rfl
def rSlL (K:yba):V->Option Int->Option Int->Hp->VK->Prop:=λx lo hi H Q=>Ex2 λa xs=>x = .ref a∧SqL K H a xs∧∀p,H p=none->Q (.ref p) (upd H p (.lst (cutV xs lo hi)))
theorem zgf:SlR X (rSlL X.K):=by
 intro pins s σ H x v vl vu lo hi sl Q I rx hs pl pu h;obtain⟨a,xs,rfl,hx,q⟩:=h;cases rx;obtain⟨its,r,ht,hz⟩:=I.list hx;have hlen:=r.length;refine⟨"list",_,slot_list_getitem.lookup,ht.isList.typeIs,?_⟩;refine wpAny_getItem_list_slice ht.isList hs pl pu .none (by simp) ?_ (by rw[ybb]<;>omega);rw[zty,← hlen];refine⟨.ref s.heap.objs.size,_,I.laid (t':=s.toks) (o:=.lst (cutV xs lo hi)) (λb ob q=>yga _ q) (yxa _) ?_,rfl,q _ (I.hok.fresh (yxa _))⟩;exact⟨ypa (zxeb xs lo hi) hz,_,0,(r.drop (HT.sIx xs.length 0 lo)).take (HT.sIx xs.length xs.length hi-HT.sIx xs.length 0 lo),ywa _ rfl⟩
def zaab:V->Bool
 | .non=>true
 | .bl _=>true
 | .int _=>true
 | .str _=>true
 | _=>false
def eqV:V->V->Bool
 | .non,.non=>true
 | .bl a,.bl b=>a==b
 | .bl a,.int b=>(if a then 1 else 0)==b
 | .int a,.bl b=>a==(if b then 1 else 0)
 | .int a,.int b=>a==b
 | .str a,.str b=>a==b
 | _,_=>false
theorem zfwb {A:Around}{s:Shared}{y x:V}{u v:Value}(ry:RelV y u)(rx:RelV x v)(fy:zaab y=true)(fx:zaab x=true):yrd A s u v (eqV y x):=by
 cases y with
 | non =>
  cases ry;cases x with
  | non=>cases rx;exact yrd.same _
  | bl b=>cases rx;exact yrd.none_bool b
  | int b=>obtain⟨t,rfl⟩:=rx;exact yrd.none_int b t
  | str b=>obtain⟨t,rfl⟩:=rx;exact yrd.none_str b t
  | _=>exact absurd (show false=true from fx) yab
 | bl a =>
  cases ry;cases x with
  | non=>cases rx;exact yrd.bool_none a
  | bl b=>cases rx;exact yrd.bool_bool a b
  | int b=>obtain⟨t,rfl⟩:=rx;exact yrd.bool_int a b t
  | str b=>obtain⟨t,rfl⟩:=rx;exact yrd.bool_str a b t
  | _=>exact absurd (show false=true from fx) yab
 | int a =>
  obtain⟨t',rfl⟩:=ry;cases x with
  | non=>cases rx;exact yrd.int_none a t'
  | bl b=>cases rx;exact yrd.int_bool a t' b
  | int b=>obtain⟨t,rfl⟩:=rx;exact yrd.int_int a t' b t
  | str b=>obtain⟨t,rfl⟩:=rx;exact yfm a t' b t
  | _=>exact absurd (show false=true from fx) yab
 | str a =>
  obtain⟨t',rfl⟩:=ry;cases x with
  | non=>cases rx;exact yrd.str_none a t'
  | bl b=>cases rx;exact yrd.str_bool a t' b
  | int b=>obtain⟨t,rfl⟩:=rx;exact ygm a t' b t
  | str b=>obtain⟨t,rfl⟩:=rx;exact yrd.str_str a t' b t
  | _=>exact absurd (show false=true from fx) yab
 | _=>exact absurd (show false=true from fy) yab
def eqU (x:V)(u:Value):Bool:=match u with
 | .none=>eqV .non x
 | .bool b=>eqV (.bl b) x
 | .int i _=>eqV (.int i) x
 | .str z _=>eqV (.str z) x
 | _=>false
theorem zlpb {x y:V}{u:Value}(r:RelV y u)(f:zaab y=true):eqU x u=eqV y x:=by
 cases y with
 | non=>cases r;rfl
 | bl b=>cases r;rfl
 | int i=>obtain⟨t,rfl⟩:=r;rfl
 | str z=>obtain⟨t,rfl⟩:=r;rfl
 | _=>exact absurd (show false=true from f) yab
theorem zrw {x:V}:∀{xs:List V} {us:List Value},Vals xs us->xs.all zaab=true->us.any (eqU x)=xs.any λy=>eqV y x
 | _,_,.nil,_=>rfl
 | y::xs,u::us,.cons r t,f=>by
  rw[List.all_cons,yub] at f;rw[List.any_cons,List.any_cons,zlpb r f.1,zrw t f.2]
theorem zkq {A:Around}{s:Shared}{x:V}{v:Value}(rx:RelV x v)(fx:zaab x=true):∀{xs:List V} {us:List Value},Vals xs us->xs.all zaab=true->∀u∈us,yrd A s u v (eqU x u)
 | _,_,.nil,_=>λu hu=>by cases hu
 | y::xs,u::us,.cons r t,f=>λu' hu=>by
  rw[List.all_cons,yub] at f
  rcases yda.mp hu with rfl|hu
  ·rw[zlpb r f.1];exact zfwb r rx f.1 fx
  ·exact zkq rx fx t f.2 u' hu
def inV (x:V)(xs:List V):Bool:=xs.any λy=>eqV y x
def rIn (K:yba)(neg:Bool):R2:=λx y H Q=>Ex2 λp xs=>y = .ref p∧(SqL K H p xs∨SqT K H p xs)∧zaab x=true∧xs.all zaab=true∧Q (.bl (if neg then !inV x xs else inV x xs)) H
theorem zzc:OpR X (yid .In) (rIn X.K false):=by
 intro pins s σ H x y v u Q I rx ry h;obtain⟨p,xs,rfl,hq,fx,fs,q⟩:=h;cases ry
 rcases hq with hq|hq
 ·obtain⟨its,r,pl,hz⟩:=I.list hq;refine SeqAt.in_listAt (eqU x) pl.isList (λw hw=>zkq rx fx r fs w (by simpa using hw)) ⟨.bl _,H,I,rfl,?_⟩;rw[show its.toArray.any (eqU x)=its.any (eqU x) by simp,zrw r fs];exact q
 ·obtain⟨its,r,pl,hz⟩:=I.tuple hq;refine SeqAt.in_tupleAt (eqU x) pl (λw hw=>zkq rx fx r fs w (by simpa using hw)) ⟨.bl _,H,I,rfl,?_⟩;rw[show its.toArray.any (eqU x)=its.any (eqU x) by simp,zrw r fs];exact q
theorem zck:OpR X (yid .NotIn) (rIn X.K true):=by
 intro pins s σ H x y v u Q I rx ry h;obtain⟨p,xs,rfl,hq,fx,fs,q⟩:=h;cases ry
 rcases hq with hq|hq
 ·obtain⟨its,r,pl,hz⟩:=I.list hq;refine SeqAt.notIn_listAt (eqU x) pl.isList (λw hw=>zkq rx fx r fs w (by simpa using hw)) ⟨.bl _,H,I,rfl,?_⟩;rw[show its.toArray.any (eqU x)=its.any (eqU x) by simp,zrw r fs];exact q
 ·obtain⟨its,r,pl,hz⟩:=I.tuple hq;refine SeqAt.notIn_tupleAt (eqU x) pl (λw hw=>zkq rx fx r fs w (by simpa using hw)) ⟨.bl _,H,I,rfl,?_⟩;rw[show its.toArray.any (eqU x)=its.any (eqU x) by simp,zrw r fs];exact q
theorem zqs:OpR X (yid .NotIn) (λx y H Q=>Ex2 λi j=>x = .str i∧y = .str j∧Q (.bl (!(!(yic j i 0 j.length 1).isEmpty))) H):=by
 intro pins s σ H x y v u Q I rx ry h;obtain⟨i,j,rfl,rfl,q⟩:=h;obtain⟨t,rfl⟩:=rx;obtain⟨t',rfl⟩:=ry;exact notIn_str ⟨.bl _,H,I,rfl,q⟩
theorem zya:zim X (.builtin "len") (λxs H Q=>Ex2 λp ys=>xs=[.ref p]∧(SqL X.K H p ys∨SqT X.K H p ys)∧Q (.int ys.length) H):=by
 intro pins s σ H xs us Q I r h;obtain⟨p,ys,rfl,hq,q⟩:=h;obtain⟨u,rfl,rx⟩:=vals1 r;cases rx;have hn:=ztv
 rcases hq with hq|hq
 ·obtain⟨its,r',pl,hz⟩:=I.list hq;have hlen:=r'.length;exact Calls.call_len_list pl.isList (by simp only[ybb]<;>omega) ⟨.int ys.length,H,I.tok _,⟨s.toks+1,by rw[ybb,hlen]⟩,q⟩
 ·obtain⟨its,r',pl,hz⟩:=I.tuple hq;have hlen:=r'.length;exact len_tuple pl (by simp only[ybb]<;>omega) ⟨.int ys.length,H,I.tok _,⟨s.toks+1,by rw[ybb,hlen]⟩,q⟩
theorem zqf:zim X (.builtin "len") (λxs H Q=>∃z,xs=[.str z]∧z.length≤yua∧Q (.int z.length) H):=by
 intro pins s σ H xs us Q I r h;obtain⟨z,rfl,hz,q⟩:=h;obtain⟨u,rfl,t,rfl⟩:=vals1 r;have hn:=ztv;exact len_str (by omega) ⟨.int z.length,H,I.tok _,⟨_,rfl⟩,q⟩
theorem zxl:zim X (.type "tuple") (λxs H Q=>Ex2 λp ys=>xs=[.ref p]∧((SqL X.K H p ys∧∀l,H l=none->Q (.ref l) (upd H l (.tup ys)))∨(SqT X.K H p ys∧Q (.ref p) H))):=by
 intro pins s σ H xs us Q I r h;obtain⟨p,ys,rfl,h⟩:=h;obtain⟨u,rfl,rx⟩:=vals1 r;cases rx
 rcases h with⟨hq,q⟩|⟨hq,q⟩
 ·obtain⟨its,r',pl,hz⟩:=I.list hq;have hlen:=r'.length;refine call_tuple_list pl.isList (λh' kp=>?_) (by simp only[ybb]<;>omega);have I1:Inv X pins σ H { s with heap:=h' }:=I.kept (t':=s.toks) kp;have I2:Inv X pins σ (upd H h'.objs.size (.tup ys)) { s with heap:=h'.push { cls:=.type "tuple",data:=.seq its.toArray } } :=
   I1.laid (t':=s.toks) (λb o e=>yga _ e) (yxa _) (show zol X.prog X.w _ _ _ (.tup ys) from⟨hz,its,r',IsTup.new _ _⟩)
  exact⟨.ref h'.objs.size,_,I2,rfl,q _ (I1.hok.fresh (yxa _))⟩
 ·obtain⟨its,r',pl,hz⟩:=I.tuple hq;exact call_tuple_same pl ⟨.ref p,H,I,rfl,q⟩
def tyV (K:yba)(T:String)(x:V)(H:Hp):Prop:=match x with
 | .str _=>T = "str"
 | .int _=>T = "int"
 | .ref p=>(T = "list" ∧ ∃xs,SqL K H p xs)∨(T = "tuple" ∧ ∃o,K.lookup p=some o∧o.cls = .type "tuple" ∧ o.dict=none) ∨
   (T = "dict" ∧ ((∃kvs,H p=some (.dK kvs))∨∃kvs,H p=some (.dT kvs)))∨(T = "set" ∧ Ex2 λS n=>H p=some (.set S n))
 | _=>False
theorem zptb {pins:List (Addr×Obj)}{σ:St}{H:Hp}{s:Shared}{T:String}{x:V}{v:Value}(I:Inv X pins σ H s)(r:RelV x v)(ty:tyV X.K T x H) :
  s.TypeIs v T∧∀a,v = .ref a->∃ob,s.heap.get? a=some ob∧ob.dict=none:=by
 cases x with
 | str z =>
  obtain⟨t,rfl⟩:=r;cases (show T = "str" from ty);exact⟨ysj s z t,λ_ e=>nomatch e⟩
 | int i =>
  obtain⟨t,rfl⟩:=r;cases (show T = "int" from ty);exact⟨typeIs_int s i t,λ_ e=>nomatch e⟩
 | ref p =>
  cases r
  rcases ty with⟨rfl,xs,hq⟩|⟨rfl,o,hk,hc,hd⟩|⟨rfl,hk⟩|⟨rfl,S,n,hk⟩
  ·obtain⟨its,_,pl,_⟩:=I.list hq;refine⟨pl.isList.typeIs,λa e=>?_⟩;cases e;obtain⟨o,n,e,c,hd,_⟩:=pl;exact⟨o,e,hd⟩
  ·refine⟨⟨o,I.kIn p o hk,hc⟩,λa e=>?_⟩;cases e;exact⟨o,I.kIn _ o hk,hd⟩
  ·have z:∃o,s.heap.get? p=some o∧o.ExactDict:=by
    rcases hk with⟨kvs,hk⟩|⟨kvs,hk⟩
    ·obtain⟨_,_,_,_,o,_,_,e,ex,_⟩:=I.hok p _ hk;exact⟨o,e,ex⟩
    ·obtain⟨_,_,_,_,o,_,_,e,ex,_⟩:=I.hok p _ hk;exact⟨o,e,ex⟩
   obtain⟨o,e,ex⟩:=z;refine⟨⟨o,e,ex.1⟩,λa e2=>?_⟩;cases e2;exact⟨o,e,ex.2.1⟩
  ·obtain⟨o,_,_,_,e,ex,_⟩:=I.hok p _ hk;refine⟨⟨o,e,ex.1⟩,λa e2=>?_⟩;cases e2;exact⟨o,e,ex.2.1⟩
 | _=>exact yce ty
def tBM (K:yba)(T:String)(r:V->List V->Hp->VK->Prop)(to:TE)(t:TA):TE:=fun σ H Q=>to σ H λx H1=>tyV K T x H1∧t σ H1 λxs H2=>r x xs H2 Q
variable {o e:Expr}{es:List Expr}{to:TE}{t:TA}{name:Str}{apos cpos:Pos}{T id:String}{r:V->List V->Hp->VK->Prop}
theorem zog (pa:PlainAttrs T)(slot:Slot T name id)(hty:typeOf (.builtin id)=pure (.type "method_descriptor"))(hm:MtR X id r)(ho:PE X o to)(ha:PA X (e::es) t)
  (hbase:yvg o name X.env (eval o X.env)=eval o X.env:=by rfl)
  (hfew:((backTo cpos (yec (e::es) X.env)).all (λx=>!x.1)&&(ykm cpos (yki [] X.env)).all (λx=>x.1.isSome)
   && decide ((e::es).length+([]:List yzk).length+(if ([]:List yzk).isEmpty then 0 else 1)<30))=true:=by rfl)
  (hline:(apos.endLine==cpos.line)=true:=by rfl) (hs:yec (e::es) X.env=(false,eval e X.env)::yec es X.env:=by rfl) (hplain:(backTo cpos (yec es X.env)).any (·.1)=false:=by rfl) :
  PE X (.Call (.Attribute o name apos) (e::es) [] cpos) (tBM X.K T r to t):=by
 intro pins s σ H Q I h;refine wpAny_Call_method_late hbase hfew hline rfl (thn (ho pins s σ H _ I h) λv s1 ⟨x,H1,I1,r1,ty,q1⟩=>?_);obtain⟨h1,h2⟩:=zptb I1 r1 ty;refine⟨T,id,pa,slot,hty,h1,h2,?_⟩;have hA:=ha cpos pins s1 σ H1 _ I1 q1;rw[hs] at hA ⊢;refine Calls.callWith_builtin (by show (false||(backTo cpos (yec es X.env)).any (·.1))=false;rw[hplain]<;>rfl) (ytl ?_);exact thn hA λus s2 ⟨vs,H2,I2,r2,q2⟩=>hm pins s2 σ H2 x vs v us Q I2 r1 r2 q2
end
end L2
namespace L2
open PySem PySem.Spec PyProof.Rows
def MtM (X:Cx)(id:String)(r:V->List V->Hp->VK->Prop):Prop :=
 ∀(pins:List (Addr×Obj)) (s:Shared) (σ:St) (H:Hp) (x:V) (xs:List V) (v:Value) (us:List Value) (Q:VK),Inv X pins σ H s->RelV x v->Vals xs us->r x xs H Q →
  wpAny (model X.prog X.w) X.A (call (.builtin id) (v::us)) (EP X pins σ Q) X.xe s
theorem Vals.one:∀{x:V} {us:List Value},Vals [x] us->∃u,us=[u]∧RelV x u
 | _,_,.cons r .nil=>⟨_,rfl,r⟩
theorem Vals.rep {xs:List V}{us:List Value}(h:Vals xs us):∀k:Nat,Vals (ykc k xs).flatten (ykc k us).flatten
 | 0=>.nil
 | k+1=>by
  rw[yif,yif,ycd,ycd];exact Vals.append h (Vals.rep h k)
theorem foldl_rep (its:List Value):∀(k:Nat) (acc:List Value),
  ygo (λx1 x2=>x1++x2) acc.toArray (ykc k its.toArray)=(acc++(ykc k its).flatten).toArray
 | 0,acc=>by simp
 | k+1,acc=>by
  have e:acc.toArray++its.toArray=(acc++its).toArray:=by simp
  have e2:(acc++its)++(ykc k its).flatten=acc++(ykc (k+1) its).flatten:=by
   rw[yif,ycd,ydd]
  rw[← e2,← foldl_rep its k (acc++its),← e,yif,List.foldl_cons]
section
variable {X:Cx}{pins:List (Addr×Obj)}{σ:St}{H:Hp}{s:Shared}{l b:Addr}{xs ys zs:List V}
theorem Inv.lset {its its':List Value}{n:Nat}{f:Array Value->Array Value}{t':Nat}(I:Inv X pins σ H s)(hH:H l=some (.lst xs))
  (e:s.heap.get? l=some { cls:=.type "list",data:=.seq its.toArray n }) (hf:f its.toArray=its'.toArray) (hv:Vals ys its') (hz:ys.length≤yua) :
  Inv X pins σ (upd H l (.lst ys)) { s with heap:=s.heap.update l (ydi f),toks:=t' }:=by
 have q:=PySem.IsL.update e f;rw[hf] at q;refine I.write (x:=l) (e:=l) (by rw[hH];exact trivial) (.inl rfl) (λb' u hb hu=>(ywc s.heap (ydi f) (ysc hb)).trans hu) ⟨_,q⟩ ?_;exact⟨hz,its',_,hv,q⟩
theorem Inv.lnew {its:List Value}{t':Nat}(I:Inv X pins σ H s)(hv:Vals ys its)(hz:ys.length≤yua) :
  Inv X pins σ (upd H s.heap.objs.size (.lst ys)) { s with heap:=s.heap.push { cls:=.type "list",data:=.seq its.toArray },toks:=t' } :=
 I.laid (λ_ _ q=>yga _ q) (yxa _) ⟨hz,its,0,hv,ywa _ rfl⟩
theorem Inv.fresh (I:Inv X pins σ H s):H s.heap.objs.size=none:=I.hok.fresh (yxa _)
theorem Inv.lstM (I:Inv X pins σ H s)(hH:H l=some (.lst xs)):xs.length≤yua∧Ex2 λ(its:List Value) (n:Nat)=>Vals xs its∧xs.length=its.length∧s.heap.get? l=some { cls:=.type "list",data:=.seq its.toArray n }:=by
 obtain⟨z,its,n,r,e⟩:=I.hok l _ hH;exact⟨z,its,n,r,r.length,e⟩
theorem zahb {n:Nat}(h:n≤yua):yve n=false:=by
 unfold yve;exact decide_eq_false (by omega)
end
section
variable {X:Cx}
def zjrb:V->List V->Hp->VK->Prop:=λx vs H Q=>Ex3 λl xs y=>x = .ref l∧vs=[y]∧H l=some (.lst xs)∧xs.length<yua∧Q .non (upd H l (.lst (xs++[y])))
theorem zjq:MtM X "list.append" zjrb:=by
 intro pins s σ H x vs v us Q I rx rv h;obtain⟨l,xs,y,rfl,rfl,hH,hz,q⟩:=h;cases rx;obtain⟨u,rfl,ru⟩:=rv.one;obtain⟨z,its,n,r,hl,e⟩:=I.lstM hH;refine yei F.slot_list_append ⟨_,e,rfl⟩ F.entry_list_append (F.args_list_append_2 _ _) (PySem.list_append l its.toArray n u (by rw[ybb];omega)) ⟨e,?_⟩;refine⟨.non,_,I.lset (its':=its++[u]) hH e (by simp) (r.append (.cons ru .nil)) ?_,rfl,q⟩;rw[yha,yjc];omega
def zirb:V->List V->Hp->VK->Prop:=λx vs H Q=>Ex4 λl b xs zs=>x = .ref l∧vs=[.ref b]∧H l=some (.lst xs)∧H b=some (.lst zs)∧xs.length+zs.length≤yua∧Q .non (upd H l (.lst (xs++zs)))
theorem zokb:MtM X "list.extend" zirb:=by
 intro pins s σ H x vs v us Q I rx rv h;obtain⟨l,b,xs,zs,rfl,rfl,hH,hB,hz,q⟩:=h;cases rx;obtain⟨u,rfl,ru⟩:=rv.one;cases ru;obtain⟨z,its,n,r,hl,e⟩:=I.lstM hH;obtain⟨z2,its2,n2,r2,hl2,e2⟩:=I.lstM hB;have hsz:its.toArray.size+its2.toArray.size≤yua:=by rw[ybb,ybb];omega
 have hlong:¬ (!its.toArray.isEmpty&&yve (its.toArray.size+its2.toArray.size))=true:=by
  rw[zahb hsz,yvc];exact yab
 refine yei F.slot_list_extend ⟨_,e,rfl⟩ F.entry_list_extend (F.args_list_extend_2 _ _)
  (AutoSeq1.list_extend_list_list_0 l its.toArray n b its2.toArray n2 hlong (by rw[ybb];omega) (by omega)) ⟨e,e2,?_⟩
 refine⟨.non,_,I.lset (its':=its++its2) hH e (by simp) (r.append r2) ?_,rfl,q⟩;rw[yha];omega
def rCat:R2:=λx y H Q=>Ex4 λl b xs zs=>x = .ref l∧y = .ref b∧H l=some (.lst xs)∧H b=some (.lst zs)∧xs.length+zs.length≤yua∧∀p,H p=none->Q (.ref p) (upd H p (.lst (xs++zs)))
theorem zze:OpR X (yzi .Add) rCat:=by
 intro pins s σ H x y v u Q I rx ry h;obtain⟨l,b,xs,zs,rfl,rfl,hH,hB,hz,q⟩:=h;cases rx;cases ry;obtain⟨z,its,n,r,hl,e⟩:=I.lstM hH;obtain⟨z2,its2,n2,r2,hl2,e2⟩:=I.lstM hB;refine PySem.P.add_list e e2 ?_ (by rw[ybb,ybb];omega);have ea:its.toArray++its2.toArray=(its++its2).toArray:=by simp
 rw[ea];exact⟨.ref _,_,I.lnew (t':=s.toks) (r.append r2) (by rw[yha];omega),rfl,q _ I.fresh⟩
def rRep:R2:=λx y H Q=>Ex3 λl k xs=>x = .ref l∧y = .int k∧H l=some (.lst xs) ∧ -(2 ^ 63)≤k∧k<2 ^ 63∧xs.length*k.toNat≤yua ∧
 ∀p,H p=none->Q (.ref p) (upd H p (.lst (ykc k.toNat xs).flatten))
theorem len_rep {α:Type}(xs:List α)(k:Nat):(ykc k xs).flatten.length=k*xs.length:=by
 induction k with
 | zero=>simp
 | succ k ih=>rw[yif,ycd,yha,ih,Nat.succ_mul,Nat.add_comm]
theorem zbvb:OpR X (yzi .Mult) rRep:=by
 intro pins s σ H x y v u Q I rx ry h;obtain⟨l,k,xs,rfl,rfl,hH,h1,h2,hz,q⟩:=h;cases rx;obtain⟨t,rfl⟩:=ry;obtain⟨z,its,n,r,hl,e⟩:=I.lstM hH;have hlen:its.toArray.size*k.toNat≤yua:=by rw[ybb,← hl];exact hz
 have hcap:¬ its.toArray.size*k.toNat>(2 ^ 63-1) / 8:=by
  have:(yua:Nat)≤(2 ^ 63-1) / 8:=by decide
  omega
 have hfit:¬ (!Builtin.List.listFitsIndex k)=true:=by
  rw[fitsIndex_both h1 h2];exact yab
 have hlong:¬ yve (its.toArray.size*k.toNat)=true:=by
  rw[zahb hlen];exact yab
 have hnew:ygo (λx1 x2=>x1++x2) #[] (ykc (if its.toArray.isEmpty=true then 0 else k.toNat) its.toArray)=(ykc k.toNat its).flatten.toArray:=by
  have f0:∀m:Nat,ygo (λx1 x2=>x1++x2) #[] (ykc m its.toArray)=(ykc m its).flatten.toArray:=λm=>by
   have:=foldl_rep its m [];rw[yzf] at this;exact this
  rw[f0];cases its with
  | nil=>simp
  | cons a r'=>rw[if_neg (by simp)]
 refine wpAny_binaryOp_repeat_ref (T:="list") (U:="int") (by decide) ⟨_,e,rfl⟩ (λs'=>typeIs_int s' k t) noFill_list_mul F.fills_int_mul F.slot_int_rmul repeat_list F.slot_int_index.lookup
  (yei F.slot_int_rmul (typeIs_int s k t) F.entry_int_rmul (F.args_int_rmul_2 _ _) (int___rmul___int_list k t l its.toArray n)
   ⟨e,rfl,⟨_,e,rfl⟩,yei F.slot_list_mul ⟨_,e,rfl⟩ F.entry_list_mul (F.args_list_mul_2 _ _) (AutoListH.list___mul___list_int_3 l its.toArray n k t hfit hcap hlong) ⟨e,?_⟩⟩)
 rw[hnew];exact⟨.ref _,_,I.lnew (t':=s.toks) (r.rep k.toNat) (by rw[len_rep,Nat.mul_comm];exact hz),rfl,q _ I.fresh⟩
end
section
variable {prog:ysb}{w:World}{A:Around}{E:Value->Shared->Prop}{s:Shared}
end
section
variable {X:Cx}
end
end L2
namespace Att
open PySem PySem.W PySem.Calls PyProof.Rows
theorem zzv {P:Params}{h:Heap}:∀(ns:List Int) (vs:List Value),WellAll P h vs (ns.map WData.int)->IntsAre vs ns:=by
 intro ns
 induction ns with
 | nil =>
  intro vs w;rw[ybl] at w;cases w;exact .nil
 | cons n ns ih =>
  intro vs w;rw[ytb] at w;cases w with
  | cons a b =>
   cases a;exact .cons _ _ (ih _ b)
theorem zqjb {l:OpenLaw}{n:Nat}(hn:l.most=some n){P:Params}{h:Heap}{args:List WData}{vals:List Value}
  (hpre:l.row.toRowW.claim.pre args=true) (hwl:WellAll P h vals args) :
  Ex3 λa vs ns=>vals=[Value.ref a]∧args=[WData.list (ns.map WData.int)]∧h.get? a=some { cls:=.type "list",data:=.seq vs.toArray }∧IntsAre vs ns∧ns.length≤n:=by
 have hsh:WShape.hasAll [] args [.list .int]=true:=(pre_splitW hpre).1;have hc:l.pre.holds [] { args:=args }=true:=(pre_splitW hpre).2;obtain⟨d,r,rfl,h1,h2⟩:=hasAllW_cons hsh;obtain rfl:=hasAllW_nil h2;obtain⟨xs,rfl,h3⟩:=hasW_list h1;obtain⟨ns,rfl⟩:=items_int h3;have hlen:ns.length≤n:=by
  unfold OpenLaw.pre at hc;have h4:(WTm.not (.lt (.lit (.int (n:Int))) (.len (.arg 0)))).holds [] { args:=[.list (ns.map .int)] }=true:=by
   have h4:=(holds_andW hc).1;rw[hn] at h4;exact h4
  have h5:=condW_of h4 (w_not (w_lt w_lit (w_len_list (w_arg rfl))));rw[yaa] at h5;refine Nat.le_of_not_lt λq=>?_;have q':(n:Int)<((ns.length:Nat):Int):=by omega
  first
   | (rw[decide_eq_true q'] at h5;exact absurd h5 (by decide))
   | (simp at h5;omega)
 cases hwl with
 | cons w1 w2 =>
  cases w2;cases w1 with
  | list ho hall=>exact⟨_,_,ns,rfl,rfl,ho,zzv ns _ hall,hlen⟩
theorem zfkb (l:OpenLaw)(args:List WData):l.row.toRowW.claim.post args (.bool true) args=true :=
 postW_of (r:=l.row.toRowW) (X:=(true==true))
  (show WShape.has [] (.bool true) .bool=true by first|rfl|decide|simp[WShape.has,WShape.arms,WShape.armsAll])
  (show (WTm.eq .res (.lit (.bool true))).value [] { args:=args,res:=some (.bool true),after:=args }=some (.bool (true==true)) from w_eq_bool (w_res rfl) w_lit) rfl
theorem zkfb {l:OpenLaw}{n:Nat}{q:ysb}{loose:List Str}{XP:(Str->Option Value)->Heap->Prop}{YP:World->Heap->Prop}{d:DefRec}
  (hn:l.most=some n) (hdf:d.params.defaults=[])
  (call:∀(w:World) (s₀ s₁:Shared) (mg mb:Str->Option Value) (fa:Addr) (o:Obj) (pm cd doc:Value) (a:Addr) (vs:List Value) (ns:List Int),
   Ground q loose [] XP w s₀ mg mb s₁.heap->YP w s₁.heap →
   s₁.heap.get? fa=some o->o.data = .func (docDef d.name d.params d.body d.scope pm cd doc)->s₁.heap.CodeRec cd d.name->mg d.name=some (.ref fa) →
   s₁.heap.get? a=some { cls:=.type "list",data:=.seq vs.toArray }->IntsAre vs ns->ns.length≤n->s₁.gens=#[] →
   yog (model l.prog w) ygn (.call (.ref fa) ⟨[.ref a],[]⟩) (λr s'=>r = .ok (.ret (.bool true))∧OldK s₁.heap s'.heap∧s'.os=s₁.os∧yek s'.gens) s₁) :
  WalkO q loose XP YP l.row.toRowW d [] (λf vs=>yho f vs):=by
 intro w s₀ s₁ mg mb G Y fa o pm cd doc dV kV ho hd hcd hD hmg hg args vals as hpre hlay hrd hwl hlo;obtain rfl:dV = .none:=Dflts.none hD hdf;obtain rfl:kV = .none:=Dflts.noKw hD;obtain⟨a,vs,ns,rfl,rfl,hobj,hints,hlen⟩:=zqjb hn hpre hwl;refine enter_call (yqh (call w s₀ s₁ mg mb fa o pm cd doc a vs ns G Y ho (fd_plain hd) hcd hmg hobj hints hlen hg) λr s' hq=>?_);obtain⟨rfl,h2,h3,h4⟩:=hq;exact⟨.inl ⟨.bool true,.bool true,[],rfl,λ_=>rfl,.bool true,zfkb l _,λ_=>⟨List.Pairwise.nil,λ_ hm=>(nomatch hm)⟩⟩,h2,h3,h4⟩
section
variable {prog:ysb}{w:World}{A:Around}{E:Value->Shared->Prop}{s:Shared}{K:Frag}
end
end Att
namespace L2
open PySem PySem.Spec PyProof.Rows
theorem ztab:∀{vs:List Value} {ns:List Int},IntsAre vs ns->Vals (ns.map V.int) vs
 | _,_,.nil=>.nil
 | _,_,.cons n t h=>.cons ⟨t,rfl⟩ (ztab h)
def Only (H:Hp):Prop:=∀b,H b=none∨Ex2 λo xs=>H b=some (.frz o (.lst xs))
theorem zynb {P:ysb}{w:World}{K:yba}{mg mb:Str->Option Value}{CX:CXT}{k:Nat}{fa a:Addr}{fd:ypd}{x:Str}{sp:Sp}{s₁:Shared}{vs:List Value}{ns:List Int}
  (KX:K.In s₁.heap) (hns:s₁.heap.Ns ygb mg) (hb:s₁.heap.Ns builtinsNs mb) (hbb:∀x:Str,x ≠ "__name__"->mb x=ywf x) (hlim:s₁.heap.NoLimit) (hg:s₁.gens=#[])
  (ha:s₁.heap.get? a=some { cls:=.type "list",data:=.seq vs.toArray }) (hi:IntsAre vs ns) (hl:ns.length≤yua) (hr:Room k ygn)
  (F:∀base:Heap,K.In base->base.Ns ygb mg->FnOk P w K mg base CX k fa fd [x] sp) (hbind:∀(s:Shared) (u:Value),ydn s fd ⟨[u],[]⟩ [(x,u)])
  (hsp:∀H:Hp,Only H->SqL K H a (ns.map V.int)->sp [.ref a] H (λv _=>v = .bl true) λ_ _ _=>False)
  (hCX:∀H e s',CX [] H s₁ (λ_ _ _=>False) e s'->False) :
  yog (model P w) ygn (.call (.ref fa) ⟨[.ref a],[]⟩) (λr s'=>r = .ok (.ret (.bool true))∧OldK s₁.heap s'.heap∧s'.os=s₁.os∧yek s'.gens) s₁:=by
 have rv:=ztab hi;have lenV:=hi.length;have core:∀H:Hp,Only H->SqL K H a (ns.map V.int)->HOk P w H s₁.heap->(∀b,H b≠none->b=a)->(H a≠none->K.lookup a=none) →
   yog (model P w) ygn (.call (.ref fa) ⟨[.ref a],[]⟩) (λr s'=>r = .ok (.ret (.bool true))∧OldK s₁.heap s'.heap∧s'.os=s₁.os∧yek s'.gens) s₁:=by
  intro H hO hS hok hA hK;have base_of:∀{b:Addr} {o:Obj},s₁.heap.get? b=some o->H b=none->(hidT s₁.heap H).get? b=some o:=λe n=>zeob e n;have noA:∀{b:Addr} {o:Obj} {es:Array DictEntry} {ep:Nat},s₁.heap.get? b=some o->o.data = .dict es ep->H b=none:=λ{b o es ep} e d=>by
   cases q:H b with
   | none=>rfl
   | some u =>
    have e':b=a:=hA b (by rw[q];simp);subst e';rw[ha] at e;cases e;have d':Data.seq vs.toArray _=Data.dict es ep:=d;cases d'
  have nsK:∀{b:Addr} {m:Str->Option Value},s₁.heap.Ns b m->(hidT s₁.heap H).Ns b m:=λ{b m} ⟨o,es,ep,e,d,r⟩=>⟨o,es,ep,base_of e (noA e d),d,r⟩;have hKb:K.In (hidT s₁.heap H):=λb o e=>base_of (KX b o e) (by
   cases q:H b with
   | none=>rfl
   | some u =>
    have e':b=a:=hA b (by rw[q];simp);subst e';rw[hK (by rw[q];simp)] at e;cases e)
  have hM:Mod K mg (hidT s₁.heap H):=⟨hKb,nsK hns,⟨mb,nsK hb,hbb⟩,let ⟨mc,h1,h2⟩:=hlim;⟨mc,nsK h1,h2⟩⟩;have e0:Env0 P w K mg (hidT s₁.heap H) ygn [] s₁ H:=⟨rfl,hM,λb o e=>zasb e,ybj (zalb _ _),trivial,λb hb=>absurd (show b∈([]:List Addr) from hb) (by simp),hok,.of_eq hg⟩;refine yqh ((F _ hKb (nsK hns)).run ygn [] s₁ H ⟨[.ref a],[]⟩ [.ref a] [.ref a] _ _ hr e0 (hbind s₁ (.ref a)) (.cons rfl .nil) (hsp H hO hS)) λr s' h=>?_;cases r with
  | error e=>exact (hCX H e s' h).elim
  | ok fl =>
   cases fl with
   | next=>exact yce h
   | brk=>exact yce h
   | cont=>exact yce h
   | ret u =>
    obtain⟨v,H',os,bare,un,hok',r',q⟩:=h;have q':v = .bl true:=q;subst q';obtain rfl:u=Value.bool true:=r';refine⟨rfl,OldK.of_keep λb o e=>?_,os,bare⟩;cases q:H b with
    | none=>exact un.keep b o e q (by intro z;exact absurd (show b∈([]:List Addr) from z) (by simp)) (by simp)
    | some u =>
     rcases hO b with z|⟨ob,xs,z⟩
     ·rw[q] at z;cases z
     ·have z2:=un.frzs b ob _ z;obtain⟨e1,_⟩:=hok b _ z;obtain⟨e2,_⟩:=hok' b _ z2;rw[e] at e1;cases e1;exact e2
 cases hk:K.lookup a with
 | some o =>
  have e:=KX a o hk;rw[ha] at e;cases e;refine core (λ_=>none) (λ_=>.inl rfl) (.inr ⟨_,vs.toArray,_,hk,rfl,rfl,rfl,by rw[ybb,lenV];exact hl,by simpa using rv⟩) (λb u z=>by have z':(none:Option HO)=some u:=z;cases z') (λb z=>absurd rfl z) λz=>absurd rfl z
 | none =>
  refine core (λb=>if b=a then some (.frz { cls:=.type "list",data:=.seq vs.toArray } (.lst (ns.map V.int))) else none) (λb=>?_) (.inl (.inr ⟨{ cls:=.type "list",data:=.seq vs.toArray },if_pos rfl⟩)) (λb u z=>?_) (λb z=>?_) λ_=>hk
  ·by_cases hb:b=a
   ·exact .inr ⟨_,_,if_pos hb⟩
   ·exact .inl (if_neg hb)
  ·by_cases hb:b=a
   ·have z':=(if_pos hb).symm.trans z;cases z';subst hb;exact⟨ha,by rw[yaa];exact hl,vs,_,rv,ha⟩
   ·have z':=(if_neg hb).symm.trans z;cases z'
  ·by_cases hb:b=a
   ·exact hb
   ·exact absurd (if_neg hb) z
end L2
namespace L2
open PySem PySem.Spec PyProof.Rows
theorem zbqb {l:ycl}{n k:Nat}{q:ysb}{loose:List Str}{XP:(Str->Option Value)->Heap->Prop}{YP:World->Heap->Prop}{d:DefRec}{K:Params->yba}{CX:World->CXT}{sp:World->Sp}{x:Str}
  (hn:l.most=some n) (hn2:n≤yua) (hdf:d.params.defaults=[]) (hr:Room k ygn)
  (hY:∀(w:World) (h:Heap),YP w h->(K w.params).In h)
  (F:∀(w:World) (mg:Str->Option Value) (fa:Addr) (h:Heap),(K w.params).In h->h.Ns ygb mg->mg d.name=some (.ref fa) →
   ∃fd:ypd,(∀(s:Shared) (u:Value),ydn s fd ⟨[u],[]⟩ [(x,u)]) ∧
    ∀base:Heap,(K w.params).In base->base.Ns ygb mg->FnOk l.prog w (K w.params) mg base (CX w) k fa fd [x] (sp w))
  (hsp:∀(w:World) (H:Hp) (a:Addr) (ns:List Int),ns.length≤n->Only H->SqL (K w.params) H a (ns.map V.int)->sp w [.ref a] H (λv _=>v = .bl true) λ_ _ _=>False)
  (hCX:∀(w:World) (H:Hp) (s:Shared) (e:Value) (s':Shared),CX w [] H s (λ_ _ _=>False) e s'->False) :
  yko q loose XP YP l.row.toRowW d [] (λf vs=>yho f vs):=by
 refine Att.zkfb hn hdf λw s₀ s₁ mg mb fa o pm cd doc a vs ns G Y ho hd hcd hmg hobj hints hlen hg=>?_;have KX:=hY w _ Y;obtain⟨fd,hb,hF⟩:=F w mg fa _ KX G.T.g hmg;exact zynb KX G.T.g G.T.b G.T.builtins G.T.nolimit hg hobj hints (ypa hlen hn2) hr hF hb (λH hO hS=>hsp w H a ns hlen hO hS) λH e s'=>hCX w H s₁ e s'
end L2
namespace L2
open PySem PySem.Spec PyProof.Rows
def inClass (s:Stmt)(j:Nat):Stmt:=match s with
 | .ClassDef _ _ _ body _ _ _ _ _ _ _=>body.getD j (.Pass ⟨0,0,0,0⟩)
 | _=>.Pass ⟨0,0,0,0⟩
def zqo (s:Stmt):Arguments:=match s with
 | .FunctionDef _ a _ _ _ _ _ _ _ _=>a
 | _=>{ posonlyargs:=[],args:=[],vararg:=none,kwonlyargs:=[],kw_defaults:=[],kwarg:=none,defaults:=[] }
def zah (s:Stmt):List Stmt:=match s with
 | .FunctionDef _ _ b _ _ _ _ _ _ _=>b
 | _=>[]
def zla (s:Stmt):Scope:=match s with
 | .FunctionDef _ _ _ _ _ _ sc _ _ _=>sc
 | _=>{ kind:=.function,names:=[],isGenerator:=false,isCoroutine:=false }
abbrev CX0:CXT:=λ_ _ _ _ _ _=>False
abbrev E0:XK:=λ_ _ _=>False
theorem zib {X:Cx}:Passes CX0 X E0:=λ_ _ _ _ _ _ _ h=>h.elim
structure Fun (K:yba)(x qual:Str)(st:Stmt)(f:Addr)(fd:ypd):Prop where
 ex:Ex9 λ(oc:Value) (od:Option Addr) (kV doc pm:Value) (an:Option Addr) (cdv ct:Value) (osl:Array (Option Value)) =>
  fd=ydf x qual (zqo st) (zah st) (zla st) .none kV doc pm an cdv ct∧K.lookup f=some ⟨oc,od,.func fd,osl⟩∧ylg K cdv qual=true
 kp:yzd K (.ref f)=true
section
variable {P:ysb}{w:World}{K:yba}{mg:Str->Option Value}{base:Heap}
theorem Fun.ok {x qual:Str}{st:Stmt}{f:Addr}{fd:ypd}{N ps:List Str}{k:Nat}{sp:Sp}(F:Fun K x qual st f fd)(S:zdb N ps (zla st))(len:∀vs H Q E,sp vs H Q E->vs.length=ps.length)
  (hbody:∀(cdv:Value) (A:Around) (outer:List Env) (s:Shared) (H:Hp) (vs:List V) (Q:VK) (E:XK),Room k (A.deeper (envOfC qual (zla st) s.heap.objs.size f cdv))->sp vs H Q E →
   ∃t,PSs (cxOf CX0 P w K mg base N qual (zla st) f cdv A outer s H E).nox (zah st) t∧t { nx:=λ_ H'=>Q .non H',rt:=Q } (start N vs) H):FnOk P w K mg base CX0 (k+1) f fd ps sp:=by
 obtain⟨oc,od,kV,doc,pm,an,cdv,ct,osl,rfl,lk,hcd⟩:=F.ex;refine zdwb lk hcd S len λA outer s H vs Q E hr hsp=>?_;obtain⟨t,h,q⟩:=hbody cdv A outer s H vs Q E hr hsp;exact⟨t,h.nox,q⟩
theorem Fun.binds {x qual:Str}{st:Stmt}{f:Addr}{fd:ypd}{ps:List Str}(F:Fun K x qual st f fd)
  (h:∀(kV doc pm:Value) (an:Option Addr) (cdv ct:Value) (us:List Value),us.length=ps.length->bindArgs (ydf x qual (zqo st) (zah st) (zla st) .none kV doc pm an cdv ct) ⟨us,[]⟩=pure (ps.zip us)):Binds K fd ps []:=by
 obtain⟨oc,od,kV,doc,pm,an,cdv,ct,osl,rfl,lk,hcd⟩:=F.ex;exact .all (h kV doc pm an cdv ct)
theorem zflb {x qual:Str}{st:Stmt}{f:Addr}{oc:Value}{od an:Option Addr}{osl:Array (Option Value)}{kV doc pm cdv ct:Value}(l:K.lookup f=some ⟨oc,od,.func (ydf x qual (zqo st) (zah st) (zla st) .none kV doc pm an cdv ct),osl⟩)
  (c:ylg K cdv qual=true) (k:yzd K (.ref f)=true):Fun K x qual st f (ydf x qual (zqo st) (zah st) (zla st) .none kV doc pm an cdv ct):=⟨⟨oc,od,kV,doc,pm,an,cdv,ct,osl,rfl,l,c⟩,k⟩
end
theorem zwp {n:Nat}(h:n≤1000):n<yua:=ylm h (by decide)
section
variable {X:Cx}
theorem pv (i:Nat){x:Str}{pos:Pos}(hN:X.N[i]?=some x:=by rfl)(hv:Vis X.env.scope x:=by first|exact Or.inl rfl|exact Or.inr (Or.inl rfl)|exact Or.inr (Or.inr rfl))(hd:(x==("__debug__":Str))=false:=by decide)
  (hcd:(x==("__classdict__":Str))=false:=by decide):PE X (.Name x pos) (tVar i):=zyub hN hv hd hcd
end
theorem iteF {A B:Prop}(h:B):if false=true then A else B:=by
 rw[if_neg yab];exact h
theorem iteT {A B:Prop}(h:A):if true=true then A else B:=by
 rw[if_pos rfl];exact h
theorem ite2 {c A B:Prop}[Decidable c](h1:c->A)(h2:¬ c->B):if c then A else B:=by
 by_cases h:c
 ·rw[if_pos h];exact h1 h
 ·rw[if_neg h];exact h2 h
def Same (H H':Hp):Prop:=∀b o,H b=some o->H' b=some o
theorem Same.refl (H:Hp):Same H H:=λ_ _ h=>h
theorem Same.trans {H H1 H2:Hp}(a:Same H H1)(b:Same H1 H2):Same H H2:=λc o h=>b c o (a c o h)
end L2
namespace L2
open PySem PySem.Spec PyProof.Rows
def clGo (cells:List (Str×Addr)):List (Str×ync)->List (Str×Addr)->List (Str×Addr)
 | [],cs=>cs
 | (n,k)::r,cs=>clGo cells r (if k == .free then (match cells.lookup n with|some c=>(n,c)::cs|none=>cs) else cs)
def clOf (sc:Scope)(cells:List (Str×Addr)):List (Str×Addr):=clGo cells sc.names []
theorem zsr {sc:Scope}{env:Env}(h:∀y∈sc.names,y.2 = .free->∃c,env.cells.lookup y.1=some c):closureFor sc env=pure (clOf sc env.cells):=by
 have go:∀(l:List (Str×ync)) (cs:List (Str×Addr)),(∀y∈l,y.2 = .free->∃c,env.cells.lookup y.1=some c) →
   (forIn l cs (λ(x:Str×ync) (r:List (Str×Addr))=>(match x with|(name,kind)=>if kind==ync.free then (do let c ← cellOf env name;pure (ForInStep.yield ((name,c)::r))) else pure (ForInStep.yield r):Sem (ForInStep (List (Str×Addr))))))=pure (clGo env.cells l cs):=by
  intro l
  induction l with
  | nil=>intro cs _;rfl
  | cons y r ih =>
   intro cs h;obtain⟨n,k⟩:=y;have hr:∀y∈r,y.2 = .free->∃c,env.cells.lookup y.1=some c:=λy hy=>h y (yla _ hy);rw[List.forIn_cons]
   by_cases hk:k = .free
   ·subst hk;obtain⟨c,e⟩:=h (n,.free) yqa rfl;have e':env.cells.lookup n=some c:=e;simp only[beq_self_eq_true,if_true,cellOf,e',pure_bind,clGo];exact ih _ hr
   ·have hb:(k==ync.free)=false:=by simpa using hk
    simp only[hb,ymm,if_false,pure_bind,clGo];exact ih _ hr
 unfold closureFor clOf;refine Eq.trans (bind_pure _) ?_;exact go sc.names [] h
theorem zpn {cells:List (Str×Addr)}:∀(l:List (Str×ync)) (cs:List (Str×Addr)),(∀x c,cs.lookup x=some c->cells.lookup x=some c)->∀x c,(clGo cells l cs).lookup x=some c->cells.lookup x=some c
 | [],_,h,x,c,e=>h x c e
 | (n,k)::r,cs,h,x,c,e=>by
  refine zpn r _ (λy d z=>?_) x c e
  by_cases hk:(k==ync.free)=true
  ·rw[if_pos hk] at z;cases q:cells.lookup n with
   | none=>rw[q] at z;exact h y d z
   | some a =>
    rw[q] at z;have z':yqd y ((n,a)::cs)=some d:=z;rw[yxd] at z';cases hy:y==n with
    | true =>
     rw[hy] at z';have ey:y=n:=(by simpa using hy);rw[ey,q];exact z'
    | false =>
     rw[hy] at z';exact h y d z'
  ·rw[if_neg hk] at z;exact h y d z
theorem zlhb {cells:List (Str×Addr)}:∀(l:List (Str×ync)) (cs:List (Str×Addr)) (x:Str),((x,ync.free)∈l∧(∃c,cells.lookup x=some c))∨(∃c,cs.lookup x=some c)->∃c,(clGo cells l cs).lookup x=some c
 | [],cs,x,h=>by
  rcases h with⟨h,_⟩|h
  ·cases h
  ·exact h
 | (n,k)::r,cs,x,h=>by
  refine zlhb r _ x ?_;have put:(∃c,cs.lookup x=some c)->∃c,(if (k==ync.free)=true then (match cells.lookup n with|some c=>(n,c)::cs|none=>cs) else cs).lookup x=some c:=λ⟨c,e⟩=>by
   by_cases hk:(k==ync.free)=true
   ·rw[if_pos hk];cases q:cells.lookup n with
    | none=>exact⟨c,e⟩
    | some a =>
     show ∃c,yqd x ((n,a)::cs)=some c
     rw[yxd];cases hy:x==n with
     | true=>exact⟨a,rfl⟩
     | false=>exact⟨c,e⟩
   ·rw[if_neg hk];exact⟨c,e⟩
  rcases h with⟨h,c,e⟩|h
  ·rcases yda.mp h with z|z
   ·injection z with z1 z2
    subst z1;subst z2;refine .inr ⟨c,?_⟩;show yqd x (match cells.lookup x with|some c=>(x,c)::cs|none=>cs)=some c
    rw[e];show yqd x ((x,c)::cs)=some c
    rw[yxd,beq_self_eq_true]
   ·exact .inl ⟨z,c,e⟩
  ·exact .inr (put h)
theorem zms {env:Env}:∀{l:List (Str×ync)} {x:Str},(∀y∈l,y.2≠ync.cell) →
  ((l.map λ(n,k)=>if (k==ync.free&&env.scope.kind == .function&&env.kindOf n==some .cell) then (n,ync.cell) else (n,k)).lookup x=some .cell ∨
   (l.map λ(n,k)=>if (k==ync.free&&env.scope.kind == .function&&env.kindOf n==some .cell) then (n,ync.cell) else (n,k)).lookup x=some .free)->(x,ync.free)∈l
 | [],x,_,h=>by rcases h with h|h<;>simp at h
 | (n,k)::r,x,hc,h=>by
  rw[ytb] at h;have nk:k≠ync.cell:=hc (n,k) yqa
  by_cases hx:x=n
  ·subst hx;have kf:k = .free:=by
    by_cases q:(k==ync.free&&env.scope.kind == .function&&env.kindOf x==some .cell)=true
    ·rw[yub,yub] at q
     simpa using q.1.1
    ·have e:(match (x,k) with|(n,k)=>if (k==ync.free&&env.scope.kind == .function&&env.kindOf n==some .cell)=true then (n,ync.cell) else (n,k))=(x,k):=if_neg q;rw[e,yxd,beq_self_eq_true] at h
     rcases h with h|h
     ·exact absurd (ynb h) nk
     ·exact ynb h
   subst kf;exact yqa
  ·refine yla _ (zms (env:=env) (λy hy=>hc y (yla _ hy)) ?_);have hb:(x==n)=false:=by simpa using hx
   by_cases q:(k==ync.free&&env.scope.kind == .function&&env.kindOf n==some .cell)=true
   ·have e:(match (n,k) with|(n,k)=>if (k==ync.free&&env.scope.kind == .function&&env.kindOf n==some .cell)=true then (n,ync.cell) else (n,k))=(n,ync.cell):=if_pos q;rw[e,yxd,hb] at h;exact h
   ·have e:(match (n,k) with|(n,k)=>if (k==ync.free&&env.scope.kind == .function&&env.kindOf n==some .cell)=true then (n,ync.cell) else (n,k))=(n,k):=if_neg q;rw[e,yxd,hb] at h;exact h
def blk (X:Cx)(N':List Str)(sc:Scope)(fp:List Addr)(s:Shared)(H:Hp)(C:Addr):Cx where
 prog:=X.prog
 w:=X.w
 K:=X.K
 mg:=X.mg
 base:=X.base
 A:=X.A
 N:=N'
 s₀:=s
 H₀:=H
 env:=ypl sc (clOf sc X.env.cells) C X.env
 outer:=X.stack
 stack:=X.stack
 ex:=fp
 fn:=λ_=>false
 calm:=X.calm
 pn:=[]
 xe:=λ_ _=>False
inductive Caps (X:Cx)(sc:Scope):List Str->List Nat->Prop where
 | nil:Caps X sc [] []
 | cons {x:Str} {j:Nat} {cap:List Str} {js:List Nat} (hj:X.N[j]?=some x) (hk:X.env.kindOf x=some .cell∨X.env.kindOf x=some .free)
   (hr:(yyl sc X.env).names.lookup x=some .cell∨(yyl sc X.env).names.lookup x=some .free):Caps X sc cap js->Caps X sc (x::cap) (j::js)
structure zvd (X:Cx)(sc:Scope):Prop where
 kind:sc.kind = .function
 cell:∀y∈sc.names,y.2 ≠ .cell
 names:∀y∈sc.names,y.2 = .local->sc.names.lookup y.1=some .local
 free:∀y∈sc.names,y.2 = .free->X.env.kindOf y.1=some .cell∨X.env.kindOf y.1=some .free
def zkwb (sc:Scope)(nm:List (Str×ync)):Bool:=sc.names.all λy=>y.2 != .cell&&(y.2 != .local||sc.names.lookup y.1==some .local)&&(y.2 != .free||(nm.lookup y.1==some .cell||nm.lookup y.1==some .free))
theorem zvd.chk {X:Cx}{sc:Scope}(hk:sc.kind = .function)(h:zkwb sc X.env.scope.names=true):zvd X sc:=by
 have a:=yyb.mp h;refine⟨hk,λy hy e=>?_,λy hy e=>?_,λy hy e=>?_⟩
 ·have q:=a y hy;rw[e] at q;simp at q
 ·have q:=a y hy;rw[e] at q
  simpa using q
 ·have q:=a y hy;rw[e] at q;have q':X.env.scope.names.lookup y.1=some .cell∨X.env.scope.names.lookup y.1=some .free:=by simpa using q
  exact q'
def zbf (n:Nat)(js:List Nat)(σ:St):St:=ykc n none++js.map λj=>(σ[j]?).join
theorem Caps.len {X:Cx}{sc:Scope}:∀{cap:List Str} {js:List Nat},Caps X sc cap js->cap.length=js.length
 | _,_,.nil=>rfl
 | _,_,.cons _ _ _ c=>by rw[yia,yia,c.len]
theorem Caps.get {X:Cx}{sc:Scope}:∀{cap:List Str} {js:List Nat},Caps X sc cap js->∀{i:Nat} {x:Str},cap[i]?=some x →
  ∃j,js[i]?=some j∧X.N[j]?=some x∧(X.env.kindOf x=some .cell∨X.env.kindOf x=some .free)∧((yyl sc X.env).names.lookup x=some .cell∨(yyl sc X.env).names.lookup x=some .free)
 | _,_,.nil,i,x,e=>by simp at e
 | _,_,.cons hj hk hr c,0,x,e=>by
  rw[yxg] at e;cases e;exact⟨_,rfl,hj,hk,hr⟩
 | _,_,.cons hj hk hr c,i+1,x,e=>by
  rw[ymd] at e;obtain⟨j,h1,h2⟩:=c.get e;exact⟨j,by rw[ymd];exact h1,h2⟩
theorem zzlb {X:Cx}{sc:Scope}{own cap:List Str}{js:List Nat}{σ:St}(C:Caps X sc cap js):(zbf own.length js σ).length=(own++cap).length:=by
 unfold zbf;rw[yha,yle,yaa,yha,C.len]
theorem zadb {n:Nat}{js:List Nat}{σ:St}{i:Nat}{v:V}(e:(zbf n js σ)[i]?=some (some v)):n≤i∧∃j,js[i-n]?=some j∧σ[j]?=some (some v):=by
 unfold zbf at e
 by_cases h:i<n
 ·rw[ytd (by simpa using h),ygk,if_pos h] at e;cases e
 ·refine⟨by omega,?_⟩;rw[yfc (by rw[yle];omega),yle,yxb] at e;cases q:js[i-n]? with
  | none=>rw[q] at e;cases e
  | some j =>
   rw[q] at e;have e':(σ[j]?).join=some v:=ynb e;refine⟨j,rfl,?_⟩;cases z:σ[j]? with
   | none=>rw[z] at e';cases e'
   | some o =>
    rw[z] at e';have e2:o=some v:=e';rw[e2]
theorem zqn {n:Nat}{js:List Nat}{σ σ2:St}(hd:σ2.drop n=(zbf n js σ).drop n){i:Nat}{v:V}(e:(zbf n js σ)[i]?=some (some v)):σ2[i]?=some (some v):=by
 have h:=(zadb e).1;have q:(σ2.drop n)[i-n]?=((zbf n js σ).drop n)[i-n]?:=by rw[hd]
 rw[yme,yme,show n+(i-n)=i by omega] at q;rw[q];exact e
def PTs (X:Cx)(ifs:List Expr)(t:TT):Prop :=
 ∀(pins:List (Addr×Obj)) (s:Shared) (σ:St) (H:Hp) (Q:Bool->Hp->Prop),Inv X pins σ H s->t σ H Q →
  wpAny (model X.prog X.w) X.A (forIn ifs true λc r=>if r=true then do let ok ← isTrue c X.env (eval c X.env);pure (ForInStep.yield ok) else pure (ForInStep.yield r)) (TP X pins σ Q) X.xe s
def zxtb:TT:=λ_ H Q=>Q true H
theorem zvl {X:Cx}:PTs X [] zxtb:=λ_ _ _ H _ I h=>wpAny_tests_nil ⟨H,I,h⟩
theorem zlrb {X:Cx}{c:Expr}{t:TT}(hc:PT X c t):PTs X [c] t:=λpins s σ H Q I h=>wpAny_tests_one (hc pins s σ H Q I h)
theorem zzs {prog:ysb}{w:World}{A:Around}{R:Result->Shared->Prop}{s:Shared}{elt tg iter:Expr}{ifs:List Expr}{scope:Scope}{pos:Pos}{it acc:Value}{env:Env}(I:Nat->Shared->Prop)
  (turn:∀n s,I n s->wpAny (model prog w) A (pyNext it) (λr s₁=>match r with
   | none=>R (.ok .next) s₁
   | some v=>wpAny (model prog w) A (ygi tg it v) (λ_ s₀=>wpAny (model prog w) A (assign tg env v) (λ_ s₂ =>
     wpAny (model prog w) A (forIn ifs true λc r=>if r=true then do let ok ← isTrue c env (eval c env);pure (ForInStep.yield ok) else pure (ForInStep.yield r)) (λok s₃ =>
      if ok=true then wpAny (model prog w) A (eval elt env) (λx s₄ =>
       wpAny (model prog w) A (call (.builtin "list.append") [acc,x]) (λ_ s₅=>∃m,m<n∧I m s₅) (yzl (model prog w) A env λe s'=>R (.error e) s') s₄) (yzl (model prog w) A env λe s'=>R (.error e) s') s₃
      else ∃m,m<n∧I m s₃) (yzl (model prog w) A env λe s'=>R (.error e) s') s₂) (yzl (model prog w) A env λe s'=>R (.error e) s') s₀) (yzl (model prog w) A env λe s'=>R (.error e) s') s₁)
    (yzl (model prog w) A env λe s'=>R (.error e) s') s)
  (n:Nat) (h:I n s) :
  yog (model prog w) A (.compLoop (.ListComp elt [⟨tg,iter,ifs,0⟩] scope pos) 0 it acc env) R s:=by
 refine codeAny_loop rfl I (λn s hI=>?_) n h;show wpAny _ A ((compTurn (.ListComp elt [⟨tg,iter,ifs,0⟩] scope pos) 0 it acc env).onRaise (λx=>do ymi x env;theTreesLotGoes x)) _ _ s
 refine wpAny_noted ?_;rw[compTurn_list];refine yfa (yhm (yfa (ymc (turn n s hI) (λr s₁ h₁=>?_) λ_ _ h'=>h')));cases r with
 | none=>exact yra h₁
 | some v =>
  refine yfa (ymc h₁ (λ_ s₀ h₀=>?_) λ_ _ h'=>h');refine yfa (ymc h₀ (λ_ s₂ h₂=>yfa (ymc h₂ (λok s₃ h₃=>?_) λ_ _ h'=>h')) λ_ _ h'=>h');cases ok with
  | false=>exact yra ⟨rfl,h₃⟩
  | true =>
   exact yfa (yfa (ymc h₃ (λx s₄ h₄=>yfa (ymc h₄ (λ_ s₅ h₅=>yra (yra ⟨rfl,h₅⟩)) λ_ _ h'=>h')) λ_ _ h'=>h'))
def zigb (J:It)(H1:Hp)(g:TG)(tt:TT)(te:TE)(n:Nat)(js:List Nat)(σ:St)(Q:VK):Prop:=∃W:Nat->Nat->List V->Hp->Prop,(∃m,W 0 m [] H1)∧∀i m ys H,W i m ys H →
 (J.stop i H∧ys.length≤yua∧∀p,H p=none->Q (.ref p) (upd H p (.lst ys))) ∨
 (J.go i H∧ys.length≤yua∧∃N:List V->Hp->Prop,(∀ys' H',N ys' H'->∃m',m'<m∧W (i+1) m' ys' H')∧∀x H',J.yld i H x H'->g x (zbf n js σ) H' fun σ2 H2=>σ2.drop n=(zbf n js σ).drop n∧tt σ2 H2 λb H3 =>
  if b=true then te σ2 H3 λy H4=>N (ys++[y]) H4 else N ys H3)
def ziqb (wi:TI)(g:TG)(tt:TT)(te:TE)(n:Nat)(js:List Nat):TE:=fun σ H Q=>wi σ H λJ H1=>zigb J H1 g tt te n js σ Q
section
variable {X:Cx}
theorem Vals.snoc {xs:List V}{us:List Value}{x:V}{u:Value}(r:Vals xs us)(q:RelV x u):Vals (xs++[x]) (us++[u]):=r.append (.cons q .nil)
theorem zzcb {pins:List (Addr×Obj)}{σ:St}{H:Hp}{s s3:Shared}{sc:Scope}{own cap:List Str}{js:List Nat}{fp:List Addr}{C:Addr}{tn:Nat->Heap->Prop}{h₁:Heap}{tk:Nat}{m:Str->Option Value}(I:Inv X pins σ H s)(S:zvd X sc)(cp:Caps X sc cap js)
  (hob:∀b∈fp,∃o,s.heap.get? b=some o∧∀v,o.data ≠ .cell v) (hf:∀b∈fp,FpOk X pins H b) (hC:s.heap.objs.size≤C) (hn:h₁.Ns C m) (old:∀b o,s.heap.get? b=some o->h₁.get? b=some o) :
  Inv (blk X (own++cap) sc fp s H C) [] (zbf own.length js σ) H { s with heap:=h₁,toks:=tk }:=by
 have sub:∀x c,(clOf sc X.env.cells).lookup x=some c->X.env.cells.lookup x=some c:=zpn sc.names [] (λx c e=>by simp at e);have has:∀x,((yyl sc X.env).names.lookup x=some .cell∨(yyl sc X.env).names.lookup x=some .free)->∃c,(clOf sc X.env.cells).lookup x=some c:=λx hx=>by
  have hm:=zms (env:=X.env) (l:=sc.names) (x:=x) S.cell hx;exact zlhb sc.names [] x (.inl ⟨hm,I.ok.has x (S.free _ hm rfl)⟩)
 refine⟨⟨I.ok.mod,S.kind,I.ok.glob,I.ok.blt,hC,λx y c e1 e2=>I.ok.inj x y c (sub x c e1) (sub y c e2),has,(λx c e=>by cases e),I.ok.hd,I.ok.frames,.inl rfl,λb hb=>?_,I.bs,ypa I.ok.bsz I.sz,λb o e hb=>?_,λb hb z=>?_,I.stack,I.zxdb⟩,
  rfl,I.bare,Un.kept old,⟨m,hn,λi x v h1 h2 h3=>?_⟩,λx c e=>?_,I.hok.fresh hC,λx c e=>I.freeC x c (sub x c e),λp hp=>absurd (show p∈([]:List (Addr×Obj)) from hp) (by simp),I.hok.kept old,zzlb cp⟩
 ·obtain⟨o,e,_⟩:=hob b hb;refine⟨yjb (yka (ysa e) hC),λx c e=>?_⟩;exact (hf b hb).2.2.2.2.1 x c (sub x c e)
 ·obtain⟨_,_,_,h4,_,_⟩:=hf b hb
  rcases h4 with z|z
  ·exact I.ok.noex b o e z
  ·exact absurd (yka (ysa e) (ypa I.ok.bsz z)) (yhc _)
 ·obtain⟨_,h2,h3,_⟩:=hf b hb
  rcases yda.mp (I.zbu b z) with q|q
  ·exact h2 q
  ·exact h3 q
 ·obtain⟨hni,j,hj,hv⟩:=zadb h2;have h1':(own++cap)[i]?=some x:=h1;rw[yfc hni] at h1';obtain⟨j',e1,e2,e3,e4⟩:=cp.get h1';rw[hj] at e1;cases e1;obtain⟨m0,hn0,hl0⟩:=I.loc;have vis:Vis X.env.scope x:=.inr e3;obtain⟨u,ru,lk⟩:=hl0 j x v e2 hv vis;refine⟨u,ru,?_⟩
  rcases lk with⟨k,_⟩|⟨k,c,ec,hc⟩
  ·exfalso
   rcases e3 with q|q
   ·rw[q] at k;cases k
   ·rw[q] at k;cases k
  ·obtain⟨c',ec'⟩:=has x e4;have q:=sub x c' ec';rw[ec] at q;cases q;exact .inr ⟨e4,c,ec',hc.keeps old⟩
 ·obtain⟨v,z⟩:=I.cell x c (sub x c e);exact⟨v,z.keeps old⟩
theorem zzeb {pins pn:List (Addr×Obj)}{σ σ':St}{H H':Hp}{s s':Shared}{sc:Scope}{N':List Str}{fp:List Addr}{C D:Addr}{h':Heap}{ys:List V}{its:List Value}{nn:Nat}(I:Inv X pins σ H s)(J:Inv (blk X N' sc fp s H C) pn σ' H' s')
  (hf:∀b∈fp,FpOk X pins H b) (hC:s.heap.objs.size≤C) (hD:s.heap.objs.size≤D) (hDC:D≠C) (hn:H' D=none) (ho:s'.heap.get? D=some { cls:=.type "list",data:=.seq its.toArray nn }) (hz:ys.length≤yua) (rv:Vals ys its)
  (hs:ycf C s'.heap h'):Inv X pins σ (upd H' D (.lst ys)) { s' with heap:=h' }:=by
 have u:Un (frs X.stack) fp H H' s.heap s'.heap:=J.base;have low:∀b o,s.heap.get? b=some o->b≠C∧b≠D:=λb o e=>⟨yjb (yka (ysa e) hC),yjb (yka (ysa e) hD)⟩;have kp:∀b o,b≠C->s'.heap.get? b=some o->h'.get? b=some o:=λb o hb e=>(hs.2 b hb).trans e;have u2:Un (frs X.stack) fp H (upd H' D (.lst ys)) s.heap h':=by
  refine⟨λb o e n hb hx=>kp b o (low b o e).1 (u.keep b o e n hb hx),λb o e n hb hx=>?_,λb o e n hx=>?_,λb o e hx=>?_,λb xs e=>?_,λb o xs e=>?_,λb ps e=>?_⟩
  ·obtain⟨sl,q⟩:=u.slot b o e n hb hx;exact⟨sl,kp b _ (low b o e).1 q⟩
  ·rw[zfb (low b o e).2];exact u.free b o e n hx
  ·obtain⟨o',q⟩:=u.there b o e hx;exact⟨o',kp b _ (low b o e).1 q⟩
  ·have q:=u.tups b xs e;rw[zfb (zva q hn)];exact q
  ·have q:=u.frzs b o xs e;rw[zfb (zva q hn)];exact q
  ·obtain⟨more,q⟩:=u.tbls b ps e;exact⟨more,by rw[zfb (zva q hn)];exact q⟩
 have nC:H' C=none:=J.free;have hok:HOk X.prog X.w (upd H' D (.lst ys)) h':=λb o e=>by
  by_cases hb:b=D
  ·subst hb;rw[zda] at e;cases e;exact⟨hz,its,nn,rv,kp b _ hDC ho⟩
  ·rw[zfb hb] at e;refine (J.hok b o e).stay (λc v hc q=>kp c v ?_ q) (λc q=>?_) λc xs q=>?_
   ·rintro rfl
    rcases hc with z|z
    ·rw[← z,nC] at e;cases e
    ·rw[nC] at z;cases z
   ·rw[zfb (zva q hn)];exact q
   ·rw[zfb (zva q hn)];exact q
 have os:=J.os;have bare:=J.bare;obtain⟨hh,g,d,t,os'⟩:=s';obtain rfl:os'=s.os:=os;have z:=I.call (h':=h') (g':=g) (d':=d) (t':=t) (ch:=fp) u2 hok bare λb hb=>⟨(hf b hb).2.2.2.1,(hf b hb).2.1,(hf b hb).2.2.2.2.1,(hf b hb).2.2.2.2.2⟩;exact z
theorem zylb {elt iter tg:Expr}{ifs:List Expr}{sc:Scope}{pos:Pos}{own cap:List Str}{js:List Nat}{g:TG}{tt:TT}{te:TE}{Qf:List V->Hp->Prop}{RR:Value->Addr->Result->Shared->Prop}{E:Value->Shared->Prop}
  {pins:List (Addr×Obj)} {σ:St} {H2:Hp} {s2:Shared} {it:Addr} {fp:List Addr} {tn:Nat->Heap->Prop} {J:It} {W:Nat->Nat->List V->Hp->Prop} {m0:Nat}
  (hc:X.calm=true) (S:zvd X sc) (cp:Caps X sc cap js)
  (hg:∀fp s H C,PG (blk X (own++cap) sc fp s H C) tg g) (ht:∀fp s H C,PTs (blk X (own++cap) sc fp s H C) ifs tt) (he:∀fp s H C,PE (blk X (own++cap) sc fp s H C) elt te)
  (I2:Inv X pins σ H2 s2) (T:Turn X.prog X.w X.K tg J fp it tn) (st2:tn 0 s2.heap) (f2:∀b∈fp,FpOk X pins H2 b) (w0:W 0 m0 [] H2)
  (turn:∀i m ys H,W i m ys H->(J.stop i H∧ys.length≤yua∧Qf ys H) ∨
   (J.go i H∧ys.length≤yua∧∃N:List V->Hp->Prop,(∀ys' H',N ys' H'->∃m',m'<m∧W (i+1) m' ys' H')∧∀x H',J.yld i H x H'->g x (zbf own.length js σ) H' fun σ2 H2=>σ2.drop own.length=(zbf own.length js σ).drop own.length∧tt σ2 H2 λb H3 =>
    if b=true then te σ2 H3 λy H4=>N (ys++[y]) H4 else N ys H3))
  (hRR:∀D C H4 s4 pn ys its nn,s2.heap.objs.size≤D->s2.heap.objs.size≤C->D≠C->Inv (blk X (own++cap) sc fp s2 H2 C) pn (zbf own.length js σ) H4 s4->H4 D=none->s4.heap.get? D=some { cls:=.type "list",data:=.seq its.toArray nn } →
   ys.length≤yua->Vals ys its->Qf ys H4->RR (.ref D) C (.ok .next) s4) :
  wpAny (model X.prog X.w) X.A (newList []) (λacc s₃=>wpAny (model X.prog X.w) X.A (newFunctionEnv sc X.env.globals (clOf sc X.env.cells) [] X.env.qual none .none (some X.env)) (λcenv s₄ =>
   yog (model X.prog X.w) X.A (.compStart (.ListComp elt [⟨tg,iter,ifs,0⟩] sc pos) 0 (.ref it) acc { cenv with scope:=yyl sc X.env }) (RR acc cenv.locals) s₄) E s₃) E s2:=by
 refine ywe (wpAny_newFunctionEnv S.cell (by intro y hy;simp at hy) (λh₁ hns₁ hsb₁=>?_) S.kind);dsimp only at hns₁ hsb₁ ⊢;generalize hH2:s2.heap.push { cls:=.type "list",dict:=none,data:=.seq ([]:List Value).toArray }=HH at hns₁ hsb₁ ⊢;generalize hDd:s2.heap.objs.size=D at hns₁ hsb₁ ⊢;generalize hCc:HH.objs.size=C at hns₁ hsb₁ ⊢;have hC:C=D+1:=by rw[← hCc,← hH2,yoe,hDd]
 have hDC:D≠C:=by rw[hC];exact yjb (ylf _)
 have hCle:s2.heap.objs.size≤C:=by rw[hDd,hC];exact yjh _
 have hDle:s2.heap.objs.size≤D:=ybj hDd;have below:∀b,b<s2.heap.objs.size->b≠C∧b≠D:=λb hb=>⟨yjb (yka hb hCle),yjb (yka hb hDle)⟩;have old:∀b o,s2.heap.get? b=some o->h₁.get? b=some o:=λb o e=>hsb₁.extBut b o (below b (ysa e)).1 (yga _ (hH2▸yga _ e));have q0:HH.get? D=some { cls:=.type "list",data:=.seq ([]:List Value).toArray 0 }:=by
  rw[← hH2,← hDd];exact ywa _ rfl
 have hacc:h₁.get? D=some { cls:=.type "list",data:=.seq ([]:List Value).toArray 0 }:=hsb₁.extBut _ _ hDC (yga _ q0);have fpo:=T.obj 0 _ st2;have fplt:∀b∈fp,b<s2.heap.objs.size:=λb hb=>by obtain⟨o,e,_⟩:=fpo b hb;exact ysa e
 have st3:tn 0 h₁:=T.keep 0 _ _ st2 λb hb o e=>old b o e;have I3:∀tk,Inv (blk X (own++cap) sc fp s2 H2 C) [] (zbf own.length js σ) H2 { s2 with heap:=h₁,toks:=tk }:=λtk=>zzcb (s3:=s2) (tn:=tn) I2 S cp fpo f2 hCle hns₁ old;have stkD:∀b,s2.heap.objs.size≤b->b∉frs X.stack:=λb hb hm=>by
  obtain⟨_,o,e,_⟩:=I2.stack.mem hm;exact absurd (yka (ysa e) hb) (yhc _)
 have nD:H2 D=none:=I2.hok.fresh hDle;have stat:∀{pn:List (Addr×Obj)} {H':Hp},(∀p∈pn,p.1=D)->(∀b∈fp,H' b=none)->∀b∈fp,FpOk (blk X (own++cap) sc fp s2 H2 C) pn H' b:=λ{pn H'} hp hn b hb=>by
  refine⟨hn b hb,(below b (fplt b hb)).1,λz=>?_,.inl hb,λx c e=>?_,λp hp' z=>?_⟩
  ·obtain⟨_,h2,h3,_⟩:=f2 b hb
   rcases yda.mp (I2.zbu b z) with q|q
   ·exact h2 q
   ·exact h3 q
  ·exact (f2 b hb).2.2.2.2.1 x c (zpn sc.names [] (λx c e=>by simp at e) x c e)
  ·have e:=hp p (by simpa [blk] using hp');rw[e] at z;exact (below b (fplt b hb)).2 z.symm
 have pinD:∀{H':Hp} {s':Shared} {o:Obj},Inv (blk X (own++cap) sc fp s2 H2 C) [] (zbf own.length js σ) H' s'->H' D=none->s'.heap.get? D=some o->(∀v,o.data ≠ .cell v)->Inv (blk X (own++cap) sc fp s2 H2 C) [(D,o)] (zbf own.length js σ) H' s':=λ{H' s' o} I' n e d =>
  I'.ztm λp hp=>by
   have q:p=(D,o):=(by simpa using hp);subst q;exact⟨e,n,hDC,stkD D hDle,d⟩
 have loop:∀s₃:Shared,s₃={ s2 with heap:=h₁,toks:=s2.toks+([]:List (Str×Value)).length } →
   yog (model X.prog X.w) X.A (.compLoop (.ListComp elt [⟨tg,iter,ifs,0⟩] sc pos) 0 (.ref it) (.ref D) (ypl sc (clOf sc X.env.cells) C X.env)) (RR (.ref D) C) s₃:=by
  rintro s₃ rfl;refine zzs (λk s'=>Ex5 λi ys its nn H'=>Inv (blk X (own++cap) sc fp s2 H2 C) [] (zbf own.length js σ) H' s'∧tn i s'.heap∧(∀b∈fp,H' b=none)∧H' D=none ∧
   s'.heap.get? D=some { cls:=.type "list",data:=.seq its.toArray nn }∧Vals ys its∧W i k ys H') ?_ m0 ⟨0,[],[],0,H2,I3 _,st3,λb hb=>(f2 b hb).1,nD,hacc,.nil,w0⟩
  rintro k s3 ⟨i,ys,its,nn,H3,I3,st3,fr3,d3,o3,rv3,w3⟩;have I3':=pinD I3 d3 o3 (λv z=>by cases z);have only:∀p∈[(D,({ cls:=.type "list",data:=.seq its.toArray nn }:Obj))],p.1=D:=λp hp=>by
   rw[yca.mp hp]
  rcases turn i k ys H3 w3 with⟨stop,hz,qn⟩|⟨go,hz,N,hN,step⟩
  ·refine ymc (T.done (blk X (own++cap) sc fp s2 H2 C) rfl rfl rfl hc i _ s3 _ H3 (λ_ _=>False) I3' (stat only fr3) st3 stop) (λr s4 ⟨hr,I4⟩=>?_) λ_ _ z=>z.elim;subst hr;have o4:=(I4.pin (D,_) (yeb _ (yca.mpr rfl))).1;exact hRR D C H3 s4 _ ys its nn hDle hCle hDC I4 d3 o4 hz rv3 qn
  ·refine ymc (T.item (blk X (own++cap) sc fp s2 H2 C) rfl rfl rfl hc i _ s3 _ H3 (λ_ _=>False) I3' (stat only fr3) st3 go) (λr s4 ⟨u,hr,h4⟩=>?_) λ_ _ z=>z.elim;subst hr;refine ymc h4 (λ_ s5 ⟨x,H5,I5,r5,y5,st5,fr5⟩=>?_) λ_ _ z=>z.elim;have I5':=I5.pinned (stat only fr5) (T.obj _ _ st5);refine ymc (hg fp s2 H2 C _ s5 _ H5 x u _ I5' r5 (step x H5 y5)) (λ_ s6 ⟨σ6,H6,I6,d6,q6⟩=>?_) λ_ _ z=>z.elim;refine ymc (ht fp s2 H2 C _ s6 σ6 H6 _ I6 q6) (λok s7 ⟨H7,I7,q7⟩=>?_) λ_ _ z=>z.elim;have memD:∀{o:Obj},(D,o)∈(blk X (own++cap) sc fp s2 H2 C).pn++([(D,o)]++zps fp s5.heap):=yeb _ (ycc _ (yca.mpr rfl));have memF:∀{b:Addr} {o o':Obj},b∈fp->s5.heap.get? b=some o->(b,o)∈(blk X (own++cap) sc fp s2 H2 C).pn++([(D,o')]++zps fp s5.heap):=λhb e=>yeb _ (yeb _ (zmn hb e));have σlen:(zbf own.length js σ).length=σ6.length:=by
    have a:=I6.len;have b:=I5.len;exact b.trans a.symm
   cases ok with
   | false =>
    have q7':N ys H7:=q7;obtain⟨m',hm,w7⟩:=hN _ _ q7';refine⟨m',hm,i+1,ys,its,nn,H7,(I7.ztm λp hp=>absurd hp (by simp)).weak σlen (λj v e=>zqn d6 e),T.keep _ _ _ st5 λb hb o e=>(I7.pin (b,o) (memF hb e)).1,λb hb=>?_,(I7.pin (D,_) memD).2.1,(I7.pin (D,_) memD).1,rv3,w7⟩;obtain⟨o,e,_⟩:=T.obj _ _ st5 b hb;exact (I7.pin (b,o) (memF hb e)).2.1
   | true =>
    have q7':te σ6 H7 λy H4=>N (ys++[y]) H4:=q7;refine ymc (he fp s2 H2 C _ s7 σ6 H7 _ I7 q7') (λyv s8 ⟨y,H8,I8,r8,n8'⟩=>?_) λ_ _ z=>z.elim;obtain⟨m',hm,w8⟩:=hN _ _ n8';have o8:=(I8.pin (D,_) memD).1;have n8:=(I8.pin (D,_) memD).2.1;refine append_at (hsz:=by rw[ybb,← rv3.length];exact hz) o8 λh9 hs9 hD9=>?_;have I8':=(I8.ztm (pins':=[]) λp hp=>absurd hp (by simp)).weak σlen (λj v e=>zqn d6 e);have I9:=I8'.turned (h':=h9) (t':=s8.toks) (it:=D) (λb o hb e=>(hs9.2 b hb).trans e) n8 hDC (.inr hDle) (λx c e z=>by
     obtain⟨v,q⟩:=I2.cell x c (zpn sc.names [] (λx c e=>by simp at e) x c e);exact absurd (yka q.lt (by rw[z];exact hDle)) (yhc _)) (λp hp=>absurd (show p∈([]:List (Addr×Obj)) from hp) (by simp))
    refine⟨m',hm,i+1,ys++[y],its++[yv],nn+1,H8,I9,T.keep _ _ _ st5 λb hb o e=>(hs9.2 b (below b (fplt b hb)).2).trans (I8.pin (b,o) (memF hb e)).1,λb hb=>?_,n8,?_,rv3.snoc r8,w8⟩
    ·obtain⟨o,e,_⟩:=T.obj _ _ st5 b hb;exact (I8.pin (b,o) (memF hb e)).2.1
    ·rw[hD9,yhn]
 exact ysk (loop _ rfl) (T.self X.A 0 _ _ _ st3 (loop _ rfl))
theorem zvm {elt iter tg:Expr}{ifs:List Expr}{sc:Scope}{pos:Pos}{own cap:List Str}{js:List Nat}{wi:TI}{g:TG}{tt:TT}{te:TE}(hc:X.calm=true)(S:zvd X sc)(cp:Caps X sc cap js)(hi:PI X tg iter wi)
  (hg:∀fp s H C,PG (blk X (own++cap) sc fp s H C) tg g) (ht:∀fp s H C,PTs (blk X (own++cap) sc fp s H C) ifs tt) (he:∀fp s H C,PE (blk X (own++cap) sc fp s H C) elt te)
  (hs:∀x,yhh iter X.env x=pure x:=by intro _;rfl):PE X (.ListComp elt [⟨tg,iter,ifs,0⟩] sc pos) (ziqb wi g tt te own.length js):=by
 intro pins s σ H Q I h;rw[eval_ListComp];refine ysg (use:=none) rfl hs (zsr λy hy hf=>I.ok.has y.1 (S.free y hy hf)) S.kind S.names (thn (hi pins s σ H _ I h) λv s1 h1=>thn h1 λitv s2 h2=>?_);obtain⟨it,fp,tn,J,H2,e,I2,T,st2,f2,W,⟨m0,w0⟩,turn⟩:=h2;subst e;refine zylb (RR:=λacc C=>compPost (model X.prog X.w) X.A X.xe none (EP X pins σ Q) acc C) (Qf:=λys H=>∀p,H p=none->Q (.ref p) (upd H p (.lst ys))) hc S cp hg ht he I2 T st2 f2 w0 turn ?_;intro D C H4 s4 pn ys its nn hD hC hDC I4 n4 o4 hz rv q;obtain⟨m,hn,_⟩:=I4.loc;exact⟨m,hn,λh' hs'=>⟨.ref D,upd H4 D (.lst ys),zzeb I2 I4 f2 hC hD hDC n4 o4 hz rv hs',rfl,q D n4⟩⟩
end
def Its (x:Str):It:=⟨λi _=>i<x.cps.size,λi H v H'=>H'=H∧∃c,x.cps[i]?=some c∧v = .str ⟨#[c]⟩,λi _=>i=x.cps.size⟩
section
variable {X:Cx}{tg:Expr}
def iStr (tl:TE):TI:=fun σ H R=>tl σ H λv H1=>∃x,v = .str x∧R (Its x) H1
theorem zzt {P:ysb}{w:World}{K:yba}{tg:Expr}{ty:String}(x:Str)(t:Tok)(it:Addr)(hty:["enumerate","zip","dict_itemiterator","dict_reverseitemiterator","odict_iterator","itertools.zip_longest","itertools.pairwise"].contains ty=false)
  (W:∀A:Around,A.handled=none->Walks P w A it [it] [it] x.cps.size (SignAt x) (λi h=>h.IsStrIter it ty x t i))
  (hself:∀(A:Around) (i:Nat) (s:Shared) (Q:Value->Shared->Prop) (E:Value->Shared->Prop),s.heap.IsStrIter it ty x t i->Q (.ref it) s->wpAny (model P w) A (pyIter (.ref it)) Q E s) :
  Turn P w K tg (Its x) [it] it (λi h=>h.IsStrIter it ty x t i) where
 mem:=by simp
 obj:=λi h st b hb=>by
  have e:b=it:=by simpa using hb
  subst e;obtain⟨o,e,c,d⟩:=st;exact⟨o,e,λv z=>by rw[d] at z;cases z⟩
 keep:=λi h h' st k=>by
  obtain⟨o,e,r⟩:=st;exact⟨o,k it (by simp) o e,r⟩
 item:=by
  intro X hP hw hK hc i pins s σ H E I hf st hg;subst hP hw hK;obtain⟨f0,f1,f2,f3,f4,f5⟩:=hf it (by simp);refine (W X.A (I.ok.hd hc)).item i s _ _ hg st λv h' tk hv st' kk=>?_;obtain⟨c,u,hcx,rfl⟩:=hv;have I1:Inv X pins σ H { s with heap:=h',toks:=tk }:=I.turned (λb o hb e=>kk b o (by simpa using hb) e) f0 f1 f3 f4 f5;obtain⟨o,e,c',d⟩:=id st';exact⟨_,rfl,zelb (s:={ s with heap:=h',toks:=tk }) e c' d hty ⟨.str ⟨#[c]⟩,H,I1,⟨u,rfl⟩,⟨rfl,c,hcx,rfl⟩,st',λb hb=>(hf b hb).1⟩⟩
 done:=by
  intro X hP hw hK hc i pins s σ H E I hf st hg;subst hP hw hK;obtain⟨f0,f1,f2,f3,f4,f5⟩:=hf it (by simp);have le:i=x.cps.size:=hg;subst le;exact (W X.A (I.ok.hd hc)).done s _ _ st λh' tk kk=>⟨rfl,I.turned (λb o hb e=>kk b o (by simpa using hb) e) f0 f1 f3 f4 f5⟩
 self:=hself
theorem zugb {l:Expr}{tl:TE}(hl:PE X l tl):PI X tg l (iStr tl):=by
 intro pins s σ H R I h;refine thn (hl pins s σ H _ I h) λv s1 ⟨y,H1,I1,r1,q1⟩=>?_;obtain⟨x,e,q⟩:=q1;subst e;obtain⟨t,rfl⟩:=r1;have fp:∀b∈[s1.heap.objs.size],FpOk X pins H1 b:=λb hb=>by
  have e:b=s1.heap.objs.size:=by simpa using hb
  subst e;exact I1.fpOk (yxa _) (I1.hok.fresh (yxa _))
 cases ha:x.cps.all (· < 128)
 ·refine wpAny_pyIter_wide ha ?_;exact⟨s1.heap.objs.size,[s1.heap.objs.size],_,Its x,H1,rfl,I1.kept (t':=s1.toks) λb o e=>yga _ e,zzt x t _ (by decide) (λA hA=>Walks.strWide hA _ x t) (λA i s Q E st h=>wpAny_pyIter_striter_wide st h),⟨_,ywa _ rfl,rfl,rfl⟩,fp,q⟩
 ·refine wpAny_pyIter_ascii ha ?_;exact⟨s1.heap.objs.size,[s1.heap.objs.size],_,Its x,H1,rfl,I1.kept (t':=s1.toks) λb o e=>yga _ e,zzt x t _ (by decide) (λA hA=>Walks.strAscii hA _ x t) (λA i s Q E st h=>wpAny_pyIter_striter_ascii st h),⟨_,ywa _ rfl,rfl,rfl⟩,fp,q⟩
end
theorem zglb {x:Str}{g:TG}{tb:TS}{D:Ends}{σ:St}{H:Hp}(Pv:Nat->St->Hp->Prop)(h0:Pv 0 σ H)
  (hs:∀i c σ H,x.cps[i]?=some c->Pv i σ H->g (.str ⟨#[c]⟩) σ H fun σ2 H2=>tb { D with nx:=Pv (i+1),ct:=Pv (i+1),bk:=D.nx } σ2 H2) (hd:∀ σ H,Pv x.cps.size σ H->D.nx σ H) :
  ∃W:Nat->Nat->St->Hp->Prop,(∃m,W 0 m σ H)∧∀i m σ H,W i m σ H →
   ((Its x).stop i H∧D.nx σ H)∨((Its x).go i H∧∃N:St->Hp->Prop,(∀ σ' H',N σ' H'->∃m',m'<m∧W (i+1) m' σ' H')∧∀v H',(Its x).yld i H v H'->g v σ H' fun σ2 H2=>tb { D with nx:=N,ct:=N,bk:=D.nx } σ2 H2):=by
 refine⟨λi m σ H=>m=x.cps.size-i∧i≤x.cps.size∧Pv i σ H,⟨x.cps.size,by simp,ydc _,h0⟩,?_⟩;rintro i m σ H ⟨rfl,hi,p⟩
 by_cases hlt:i<x.cps.size
 ·refine .inr ⟨hlt,Pv (i+1),fun σ' H' p'=>⟨x.cps.size-(i+1),by omega,rfl,hlt,p'⟩,λv H' y=>?_⟩;obtain⟨e,c,hc,ev⟩:=y;subst e ev;exact hs i c σ _ hc p
 ·have e:i=x.cps.size:=by omega
  subst e;exact .inl ⟨rfl,hd σ H p⟩
theorem zgab {J:It}{len:Nat}{x:Nat->V}{H1:Hp}{g:TG}{tt:TT}{te:TE}{n:Nat}{js:List Nat}{σ:St}{Q:VK}(Pv:Nat->List V->Hp->Prop)(hgo:∀i ys H,Pv i ys H->i<len->J.go i H)(hst:∀ys H,Pv len ys H->J.stop len H)
  (hy:∀i ys H v H',Pv i ys H->i<len->J.yld i H v H'->H'=H∧v=x i) (h0:Pv 0 [] H1) (hz:∀i ys H,Pv i ys H->ys.length≤yua)
  (hs:∀i ys H,i<len->Pv i ys H->g (x i) (zbf n js σ) H fun σ2 H2=>σ2.drop n=(zbf n js σ).drop n∧tt σ2 H2 λb H3=>if b=true then te σ2 H3 λy H4=>Pv (i+1) (ys++[y]) H4 else Pv (i+1) ys H3)
  (hd:∀ys H,Pv len ys H->∀p,H p=none->Q (.ref p) (upd H p (.lst ys))):zigb J H1 g tt te n js σ Q:=by
 refine⟨λi m ys H=>m=len-i∧i≤len∧Pv i ys H,⟨len,by simp,ydc _,h0⟩,?_⟩;rintro i m ys H ⟨rfl,hi,p⟩
 by_cases hlt:i<len
 ·refine .inr ⟨hgo i ys H p hlt,hz i ys H p,Pv (i+1),λys' H' p'=>⟨len-(i+1),by omega,rfl,hlt,p'⟩,λv H' y=>?_⟩;obtain⟨e,ev⟩:=hy i ys H v H' p hlt y;subst e ev;exact hs i ys _ hlt p
 ·have e:i=len:=by omega
  subst e;exact .inl ⟨hst ys H p,hz _ ys H p,hd ys H p⟩
theorem zoob {t:Str}{H1:Hp}{g:TG}{tt:TT}{te:TE}{n:Nat}{js:List Nat}{σ:St}{Q:VK}(Pv:Nat->List V->Hp->Prop)(h0:Pv 0 [] H1)(hz:∀i ys H,Pv i ys H->ys.length≤yua)
  (hs:∀i c ys H,t.cps[i]?=some c->Pv i ys H->g (.str ⟨#[c]⟩) (zbf n js σ) H fun σ2 H2=>σ2.drop n=(zbf n js σ).drop n∧tt σ2 H2 λb H3=>if b=true then te σ2 H3 λy H4=>Pv (i+1) (ys++[y]) H4 else Pv (i+1) ys H3)
  (hd:∀ys H,Pv t.cps.size ys H->∀p,H p=none->Q (.ref p) (upd H p (.lst ys))):zigb (Its t) H1 g tt te n js σ Q:=by
 refine zgab (len:=t.cps.size) (x:=λi=>.str ⟨#[t.cps.getD i 0]⟩) Pv (λi ys H _ h=>h) (λys H _=>rfl) (λi ys H v H' _ hlt y=>?_) h0 hz (λi ys H hlt p=>?_) hd
 ·obtain⟨e,c,hc,ev⟩:=y;refine⟨e,?_⟩;rw[ev,yag,hc];rfl
 ·have hc:t.cps[i]?=some (t.cps.getD i 0):=by
   rw[yag,yud hlt];rfl
  exact hs i _ ys H hc p
theorem zew {K:yba}{a:Addr}{xs:List V}{H1:Hp}{g:TG}{tt:TT}{te:TE}{n:Nat}{js:List Nat}{σ:St}{Q:VK}(Pv:Nat->List V->Hp->Prop)(hl:∀i ys H,Pv i ys H->SqL K H a xs)(h0:Pv 0 [] H1)(hz:∀i ys H,Pv i ys H->ys.length≤yua)
  (hs:∀i x ys H,xs[i]?=some x->Pv i ys H->g x (zbf n js σ) H fun σ2 H2=>σ2.drop n=(zbf n js σ).drop n∧tt σ2 H2 λb H3=>if b=true then te σ2 H3 λy H4=>Pv (i+1) (ys++[y]) H4 else Pv (i+1) ys H3)
  (hd:∀ys H,Pv xs.length ys H->∀p,H p=none->Q (.ref p) (upd H p (.lst ys))):zigb (Itl K a) H1 g tt te n js σ Q:=by
 refine zgab (len:=xs.length) (x:=λi=>xs.getD i .non) Pv (λi ys H p hlt=>⟨xs,xs[i],hl i ys H p,by simp[hlt]⟩) (λys H p=>⟨xs,hl _ ys H p,yxa _⟩) (λi ys H v H' p hlt y=>?_) h0 hz (λi ys H hlt p=>?_) hd
 ·obtain⟨e,y⟩:=y;refine⟨e,?_⟩;rw[ypc,y xs (hl i ys H p)];rfl
 ·refine hs i _ ys H ?_ p;rw[ypc,yoa hlt];rfl
theorem zkhb {K:yba}{a:Addr}{xs:List V}{H1:Hp}{g:TG}{tt:TT}{te:TE}{n:Nat}{js:List Nat}{σ:St}{Q:VK}(Pv:Nat->List V->Hp->Prop)(hl:∀i ys H,Pv i ys H->SqT K H a xs)(h0:Pv 0 [] H1)(hz:∀i ys H,Pv i ys H->ys.length≤yua)
  (hs:∀i x ys H,xs[i]?=some x->Pv i ys H->g x (zbf n js σ) H fun σ2 H2=>σ2.drop n=(zbf n js σ).drop n∧tt σ2 H2 λb H3=>if b=true then te σ2 H3 λy H4=>Pv (i+1) (ys++[y]) H4 else Pv (i+1) ys H3)
  (hd:∀ys H,Pv xs.length ys H->∀p,H p=none->Q (.ref p) (upd H p (.lst ys))):zigb (Itt K a) H1 g tt te n js σ Q:=by
 refine zgab (len:=xs.length) (x:=λi=>xs.getD i .non) Pv (λi ys H p hlt=>⟨xs,xs[i],hl i ys H p,by simp[hlt]⟩) (λys H p=>⟨xs,hl _ ys H p,yxa _⟩) (λi ys H v H' p hlt y=>?_) h0 hz (λi ys H hlt p=>?_) hd
 ·obtain⟨e,y⟩:=y;refine⟨e,?_⟩;rw[ypc,y xs (hl i ys H p)];rfl
 ·refine hs i _ ys H ?_ p;rw[ypc,yoa hlt];rfl
theorem zrr {lo:Int}{len:Nat}{H1:Hp}{g:TG}{tt:TT}{te:TE}{n:Nat}{js:List Nat}{σ:St}{Q:VK}(Pv:Nat->List V->Hp->Prop)(h0:Pv 0 [] H1)(hz:∀i ys H,Pv i ys H->ys.length≤yua)
  (hs:∀i ys H,i<len->Pv i ys H->g (.int (lo+i)) (zbf n js σ) H fun σ2 H2=>σ2.drop n=(zbf n js σ).drop n∧tt σ2 H2 λb H3=>if b=true then te σ2 H3 λy H4=>Pv (i+1) (ys++[y]) H4 else Pv (i+1) ys H3)
  (hd:∀ys H,Pv len ys H->∀p,H p=none->Q (.ref p) (upd H p (.lst ys))):zigb (Itr lo len) H1 g tt te n js σ Q :=
 zgab (len:=len) (x:=λi=>.int (lo+i)) Pv (λi ys H _ h=>h) (λys H _=>yxa _) (λi ys H v H' _ hlt y=>y) h0 hz (λi ys H hlt p=>hs i ys H hlt p) hd
section
variable {X:Cx}
def rSlS:V->Option Int->Option Int->Hp->VK->Prop:=λx lo hi H Q=>∃t,x = .str t∧t.length≤yua∧∀t',t'=ynm t lo hi->t'.length≤t.length->Q (.str t') H
theorem ztx:SlR X rSlS:=by
 intro pins s σ H x v vl vu lo hi sl Q I rx hs pl pu h;obtain⟨t,rfl,hz,q⟩:=h;obtain⟨tk,rfl⟩:=rx;have fin:∀{l u:Option (Int×Tok)},l.map (·.1)=lo->u.map (·.1)=hi->(∀k t',EP X pins σ Q (.str (ynm t (l.map (·.1)) (u.map (·.1))) t') { s with toks:=k }):=λ{l u} e1 e2 k t' =>
  ⟨.str _,H,I.tok k,⟨t',rfl⟩,by rw[e1,e2];exact q _ rfl (PyProof.Txt.length_slice_le t _ _)⟩
 refine⟨"str",_,F.slot_str_getitem.lookup,ysj _ _ _,?_⟩;cases pl with
 | none =>
  cases pu with
  | none=>exact yjf (l:=none) (u:=none) (st:=none) hs rfl (yni ⟨ypa (ydl t _ _) hz,λt' k=>fin (l:=none) (u:=none) rfl rfl k t'⟩)
  | int j tj=>exact yjf (l:=none) (u:=some (j,tj)) (st:=none) hs rfl (yni ⟨ypa (ydl t _ _) hz,λt' k=>fin (l:=none) (u:=some (j,tj)) rfl rfl k t'⟩)
 | int i ti =>
  cases pu with
  | none=>exact yjf (l:=some (i,ti)) (u:=none) (st:=none) hs rfl (yni ⟨ypa (ydl t _ _) hz,λt' k=>fin (l:=some (i,ti)) (u:=none) rfl rfl k t'⟩)
  | int j tj=>exact yjf (l:=some (i,ti)) (u:=some (j,tj)) (st:=none) hs rfl (yni ⟨ypa (ydl t _ _) hz,λt' k=>fin (l:=some (i,ti)) (u:=some (j,tj)) rfl rfl k t'⟩)
theorem zvib:∀{bs:List Bool} {us:List Value},Vals (bs.map V.bl) us->us=bs.map Value.bool
 | [],us,r=>by rw[ybl] at r;cases r;rfl
 | b::bs,us,r=>by
  rw[ytb] at r;cases r with
  | cons r1 r2=>rw[ytb,zvib r2,show _=Value.bool b from r1]
theorem zrt (hc:X.calm=true):zim X (.builtin "all") (λxs H Q=>Ex2 λ(a:Addr) (bs:List Bool)=>xs=[.ref a]∧SqL X.K H a (bs.map V.bl)∧Q (.bl (bs.all id)) H):=by
 intro pins s σ H xs us Q I r h;obtain⟨a,bs,rfl,hq,q⟩:=h;obtain⟨u,rfl,ru⟩:=vals1 r;cases ru;obtain⟨its,rv,p,hz⟩:=I.list hq;have e:=zvib rv;have hlt:a<s.heap.objs.size:=by obtain⟨o,n,e,_⟩:=p;exact ysa e
 refine call_all_walk (yqj p.isList ?_);refine⟨s.heap.objs.size,_,_,_,_,_,λi=>bs.getD i true,rfl,Walks.list (show X.A.in1.handled=none from I.ok.hd hc) s.heap.objs.size a (yjb hlt) its.toArray,⟨⟨_,ywa _ rfl,rfl,rfl⟩,p.isList.push _⟩,?_,?_⟩
 ·intro i v s' Q' E' hP hQ;have hP':its[i]?=some v:=by simpa using hP
  rw[e,yxb] at hP';cases z:bs[i]? with
  | none=>rw[z] at hP';cases hP'
  | some b =>
   rw[z] at hP';have ev:Value.bool b=v:=ynb hP';subst ev;have hQ':Q' (bs.getD i true) s':=hQ;rw[ypc,z] at hQ';exact yhd hQ'
 ·intro h' tk kk;refine⟨.bl _,H,I.kept (t':=tk) λb o e=>kk b o (λz=>?_) (yga _ e),?_,q⟩
  ·have z':b=s.heap.objs.size:=by simpa using z
   exact absurd (ysa e) (by rw[z'];exact yhc _)
  ·show Value.bool _=Value.bool _
   congr 1
   rw[ybb,e,yaa];have go:∀l:List Bool,(yof l.length).all (λi=>l.getD i true)=l.all id:=λl=>by
    have q:=range_getD l true;have e2:((yof l.length).map λj=>l.getD j true).all id=(yof l.length).all λi=>l.getD i true:=by
     rw[List.all_map];rfl
    rw[← e2,q]
   exact go bs
theorem zgw:zim X (.builtin "isinstance") (λxs H Q=>Ex4 λx c t b=>xs=[x,c]∧TyOf X.K H x t∧((∃n,c = .ty n∧yfb X.K t (.type n)=some b)∨(∃a,c = .ref a∧yfb X.K t (.ref a)=some b))∧Q (.bl b) H):=by
 intro pins s σ H xs us Q I r h;obtain⟨x,c,t,b,rfl,ty,hc,q⟩:=h;obtain⟨u,u',rfl,r1,r2⟩:=vals2 r
 rcases hc with⟨n,rfl,e⟩|⟨a,rfl,e⟩
 ·cases (show u'=Value.type n from r2);exact zncb I r1 ty e λtk=>⟨.bl b,H,I.tok tk,rfl,q⟩
 ·cases (show u'=Value.ref a from r2);exact zncb I r1 ty e λtk=>⟨.bl b,H,I.tok tk,rfl,q⟩
mutual
inductive DV (K:yba)(H:Hp):V->PyData->Prop where
 | non:DV K H .non .none
 | bl (b:Bool):DV K H (.bl b) (.bool b)
 | int (i:Int):DV K H (.int i) (.int i)
 | str (x:Str):DV K H (.str x) (.str x)
 | lst {a:Addr} {xs:List V} {ds:List PyData}:SqL K H a xs->DVs K H xs ds->DV K H (.ref a) (.list ds)
 | tup {a:Addr} {xs:List V} {ds:List PyData}:SqT K H a xs->DVs K H xs ds->DV K H (.ref a) (.tuple ds)
inductive DVs (K:yba)(H:Hp):List V->List PyData->Prop where
 | nil:DVs K H [] []
 | cons {x:V} {d:PyData} {xs:List V} {ds:List PyData}:DV K H x d->DVs K H xs ds->DVs K H (x::xs) (d::ds)
end
mutual
theorem DV.reads {pins:List (Addr×Obj)}{σ:St}{H:Hp}{s:Shared}(I:Inv X pins σ H s):∀{x:V} {d:PyData} {u:Value},DV X.K H x d->RelV x u->∃as,Reads s.heap u d as
 | _,_,_,.non,r=>by cases r;exact⟨_,.none⟩
 | _,_,_,.bl b,r=>by cases r;exact⟨_,.bool b⟩
 | _,_,_,.int i,r=>by obtain⟨t,rfl⟩:=r;exact⟨_,.int i t⟩
 | _,_,_,.str x,r=>by obtain⟨t,rfl⟩:=r;exact⟨_,.str x t⟩
 | _,_,_,.lst hq hs,r=>by
  cases r;obtain⟨its,rv,⟨o,n,e,c,_,d⟩,_⟩:=I.list hq;obtain⟨as,q⟩:=hs.reads I rv;exact⟨_,.list e c d (by simpa using q)⟩
 | _,_,_,.tup hq hs,r=>by
  cases r;obtain⟨its,rv,⟨o,e,c,n,d⟩,_⟩:=I.tuple hq;obtain⟨as,q⟩:=hs.reads I rv;exact⟨_,.tuple e c d (by simpa using q)⟩
theorem DVs.reads {pins:List (Addr×Obj)}{σ:St}{H:Hp}{s:Shared}(I:Inv X pins σ H s):∀{xs:List V} {ds:List PyData} {us:List Value},DVs X.K H xs ds->Vals xs us->∃as,ReadsAll s.heap us ds as
 | _,_,_,.nil,.nil=>⟨_,.nil⟩
 | _,_,_,.cons h hs,.cons r rs=>by
  obtain⟨as,q⟩:=h.reads I r;obtain⟨bs,p⟩:=hs.reads I rs;exact⟨_,.cons q p⟩
end
theorem zsbb (hu:X.A.units+64<cLine):OpR X (yid .Eq) (λx y H Q=>Ex2 λd e=>DV X.K H x d∧DV X.K H y e∧yfd d=true∧yfd e=true∧Q (.bl (ylh d e)) H):=by
 intro pins s σ H x y v u Q I rx ry h;obtain⟨d,e,hd,he,s1,s2,q⟩:=h;obtain⟨as,r1⟩:=hd.reads I rx;obtain⟨bs,r2⟩:=he.reads I ry;exact eq_dataH r1 r2 s1 s2 hu ⟨.bl _,H,I,rfl,q⟩
theorem zepb (hu:X.A.units+64<cLine):OpR X (yid .NotEq) (λx y H Q=>Ex2 λd e=>DV X.K H x d∧DV X.K H y e∧yfd d=true∧yfd e=true∧Q (.bl (!PyData.eqv d e)) H):=by
 intro pins s σ H x y v u Q I rx ry h;obtain⟨d,e,hd,he,s1,s2,q⟩:=h;obtain⟨as,r1⟩:=hd.reads I rx;obtain⟨bs,r2⟩:=he.reads I ry;exact ne_dataH r1 r2 s1 s2 hu ⟨.bl _,H,I,rfl,q⟩
end
end L2
namespace L2
open PySem PyProof.Rows
set_option genInjectivity false in
structure Gf (K:yba)(mg:Str->Option Value)(x q:Str)(st:Stmt) where
 f:Addr
 d:ypd
 F:Fun K x q st f d
 m:mg x=some (.ref f)
set_option genInjectivity false in
structure Mf (K:yba)(C:Addr)(x q:Str)(st:Stmt) where
 f:Addr
 d:ypd
 F:Fun K x q st f d
 M:Meth K C x f
set_option genInjectivity false in
structure If (K:yba)(C:Addr)(x q:Str)(st:Stmt) where
 f:Addr
 d:ypd
 F:Fun K x q st f d
 M:Mk K C f
section
variable {K:yba}{mg:Str->Option Value}{h:Heap}{C f:Addr}{x q:Str}{st:Stmt}{oc:Value}{od an:Option Addr}{sl:Array (Option Value)}{kV dc pm cd ct:Value}
def gf_of (X:K.In h)(G:h.Ns ygb mg)(a:yob K ygb x=some (some (.ref f)))
  (l:K.lookup f=some ⟨oc,od,.func (ydf x q (zqo st) (zah st) (zla st) .none kV dc pm an cd ct),sl⟩) (c:ylg K cd q=true) (k:yzd K (.ref f)=true):Gf K mg x q st :=
 ⟨f,_,zflb l c k,yac X G a⟩
def mf_of (a:yya K (.ref C) x=some (some (.ref f)))(i:yaj K (.ref f)=true)
  (l:K.lookup f=some ⟨oc,od,.func (ydf x q (zqo st) (zah st) (zla st) .none kV dc pm an cd ct),sl⟩) (c:ylg K cd q=true) (k:yzd K (.ref f)=true):Mf K C x q st :=
 ⟨f,_,zflb l c k,⟨a,i,k⟩⟩
def if_of (a:yya K (.ref C) "__init__" = some (some (.ref f)))(i:yaj K (.ref f)=true)
  (l:K.lookup f=some ⟨oc,od,.func (ydf x q (zqo st) (zah st) (zla st) .none kV dc pm an cd ct),sl⟩) (c:ylg K cd q=true) (k:yzd K (.ref f)=true)
  (mk:ywk K C=true) (kc:yzd K (.ref C)=true):If K C x q st :=
 ⟨f,_,zflb l c k,⟨mk,a,i,kc⟩⟩
theorem zrvb {fa:Addr}(g:Gf K mg x q st)(e:mg x=some (.ref fa)):g.f=fa:=by
 have z:=g.m.symm.trans e;injection z with z
 injection z
end
section
variable {P:ysb}{w:World}{K:yba}{mg:Str->Option Value}{base:Heap}{C:Addr}{x q:Str}{st:Stmt}{N ps:List Str}{k:Nat}{sp:Sp}
theorem Gf.ok (g:Gf K mg x q st)(S:zdb N ps (zla st))
  (hb:∀(f:Addr) (cdv:Value) (A:Around) (outer:List Env) (s:Shared) (H:Hp) (vs:List V) (Q:VK) (E:XK),Room k (A.deeper (envOfC q (zla st) s.heap.objs.size f cdv))->sp vs H Q E->let X:=(cxOf CX0 P w K mg base N q (zla st) f cdv A outer s H E).nox;∃t,PSs X (zah st) t∧t { nx:=λ_ H'=>Q .non H',rt:=Q } (start N vs) H)
  (len:∀vs H Q E,sp vs H Q E->vs.length=ps.length:=by intro _ _ _ _ h;cases h;rename_i h;rw[h.1];rfl):FnOk P w K mg base CX0 (k+1) g.f g.d ps sp:=g.F.ok S len (hb g.f)
theorem Mf.ok (g:Mf K C x q st)(S:zdb N ps (zla st))
  (hb:∀(f:Addr) (cdv:Value) (A:Around) (outer:List Env) (s:Shared) (H:Hp) (vs:List V) (Q:VK) (E:XK),Room k (A.deeper (envOfC q (zla st) s.heap.objs.size f cdv))->sp vs H Q E->let X:=(cxOf CX0 P w K mg base N q (zla st) f cdv A outer s H E).nox;∃t,PSs X (zah st) t∧t { nx:=λ_ H'=>Q .non H',rt:=Q } (start N vs) H)
  (len:∀vs H Q E,sp vs H Q E->vs.length=ps.length:=by intro _ _ _ _ h;cases h;rename_i h;rw[h.1];rfl):FnOk P w K mg base CX0 (k+1) g.f g.d ps sp:=g.F.ok S len (hb g.f)
theorem If.ok (g:If K C x q st)(S:zdb N ps (zla st))
  (hb:∀(f:Addr) (cdv:Value) (A:Around) (outer:List Env) (s:Shared) (H:Hp) (vs:List V) (Q:VK) (E:XK),Room k (A.deeper (envOfC q (zla st) s.heap.objs.size f cdv))->sp vs H Q E->let X:=(cxOf CX0 P w K mg base N q (zla st) f cdv A outer s H E).nox;∃t,PSs X (zah st) t∧t { nx:=λ_ H'=>Q .non H',rt:=Q } (start N vs) H)
  (len:∀vs H Q E,sp vs H Q E->vs.length=ps.length:=by intro _ _ _ _ h;cases h;rename_i h;rw[h.1];rfl):FnOk P w K mg base CX0 (k+1) g.f g.d ps sp:=g.F.ok S len (hb g.f)
theorem FnOk.up {CX:CXT}{f:Addr}{d:ypd}{m:Nat}(h:FnOk P w K mg base CX k f d ps sp)(le:k≤m:=by first|decide|omega):FnOk P w K mg base CX m f d ps sp:=h.mono le
end
theorem sz0:0≤yua:=by decide
theorem sz1:1≤yua:=by decide
theorem sz2:2≤yua:=by decide
theorem sz3:3≤yua:=by decide
theorem sz4:4≤yua:=by decide
theorem sz5:5≤yua:=by decide
theorem sz6:6≤yua:=by decide
theorem sz7:7≤yua:=by decide
def scB (N P:List Str)(sc:Scope):Bool :=
 decide (sc.kind = .function)&&(!sc.isCoroutine&&(!sc.isGenerator&&(decide N.Nodup&&(decide (N.take P.length=P) &&
  (P.all (λx=>decide (sc.names.lookup x=some .local∨sc.names.lookup x=some .cell))&&sc.names.all λy=>decide (y.2 ≠ .free))))))
theorem scOf {N P:List Str}{sc:Scope}(h:scB N P sc=true):zdb N P sc:=by
 unfold scB at h;simp only[yub,yin,decide_eq_true_eq,yyb] at h;obtain⟨a,b,c,d,e,f,g⟩:=h;exact⟨a,b,c,d,e,f,g⟩
end L2
namespace L2
open PySem PySem.Spec PyProof.Rows
section
variable {X:Cx}
theorem zjm:∀{ys:List Str} {us:List Value},Vals (ys.map V.str) us->yhk us ys
 | [],us,r=>by rw[ybl] at r;cases r;exact .nil
 | y::ys,us,r=>by
  rw[ytb] at r;cases r with
  | cons r1 r2 =>
   obtain⟨t,e⟩:=r1;subst e;exact .cons y t (zjm r2)
theorem zvab:∀l:List (Str×Tok),Vals ((l.map (·.1)).map V.str) (strValues l)
 | []=>.nil
 | (x,t)::r=>.cons ⟨t,rfl⟩ (zvab r)
theorem zof:MtR X "str.join" (λx xs H Q=>Ex3 λsep a ys=>x = .str sep∧xs=[.ref a]∧SqL X.K H a (ys.map V.str)∧(ys.map (·.length)).sum+ys.length*sep.length≤16777216∧Q (.str (yea sep ys)) H):=by
 intro pins s σ H x xs v us Q I rx rs h;obtain⟨sep,a,ys,rfl,rfl,hq,hz,q⟩:=h;obtain⟨t,rfl⟩:=rx;obtain⟨u,rfl,ru⟩:=vals1 rs;cases ru;obtain⟨its,rv,p,_⟩:=I.list hq;refine join_list (items:=its.toArray) (ys:=ys) p.isList (by simpa using zjm rv) hz λt' k=>⟨.str _,H,I.tok k,⟨t',rfl⟩,?_⟩;have e:Txt.join sep ys=yea sep ys:=by first|rfl|exact yel sep ys
 rw[e];exact q
theorem zdk:MtR X "str.split" (λx xs H Q=>Ex2 λt y=>x = .str t∧xs=[.str y]∧(y.length==0)=false∧t.length+2≤yua∧∀l,H l=none->Q (.ref l) (upd H l (.lst ((yma t y).map V.str)))):=by
 intro pins s σ H x xs v us Q I rx rs h;obtain⟨x,y,rfl,rfl,hy,hsz,q⟩:=h;obtain⟨t,rfl⟩:=rx;obtain⟨u,rfl,ru⟩:=vals1 rs;obtain⟨tu,rfl⟩:=ru;have hn:(yxe x (yic x y 0 x.length (x.length+1)) y.length).length≤yua:=by
  have e1:=StrLaws.occ_length_le x y 0 x.length (x.length+1);rw[length_partsBetween];omega
 have fin:∀(l:List (Str×Tok)) (k:Nat),l.map (·.1)=yma x y->l.length≤yua->EP X pins σ Q (.ref s.heap.objs.size) { s with heap:=s.heap.push { cls:=.type "list",data:=.seq (strValues l).toArray },toks:=k }:=λl k e hl=>by
  refine⟨.ref s.heap.objs.size,upd H s.heap.objs.size (.lst ((yma x y).map V.str)),I.laid (t':=k) (λb o e=>yga _ e) (yxa _) ⟨?_,strValues l,_,?_,ywa _ rfl⟩,rfl,q _ (I.hok.fresh (yxa _))⟩
  ·rw[← e,yaa,yaa];exact hl
  ·rw[← e];exact zvab l
 cases h1:(decide (x.length<y.length)||decide (ypg x<ypg y))
 ·cases hf:(yic x y 0 x.length (x.length+1)).isEmpty
  ·refine yei yok (ysj _ _ _) ytj (ydj _ _) (meets_str_split_sep x y t tu h1 hy hf (by omega) hn) ?_;show wants _ _ _ { s with toks:=_,heap:=s.heap.push { cls:=.type "list",data:=.seq (strsFrom s.toks (yxe x (yic x y 0 x.length (x.length+1)) y.length)).toArray } }
   rw[strsFrom_eq];refine fin (numbered s.toks _) _ ((numbered_texts _ _).trans ((if_neg (ne_true_of_eq_false h1)).trans (if_neg (ne_true_of_eq_false hf))).symm) ?_;have e:=congrArg ype (numbered_texts s.toks (yxe x (yic x y 0 x.length (x.length+1)) y.length));rw[yaa] at e;omega
  ·exact yei yok (ysj _ _ _) ytj (ydj _ _) (meets_str_split_not_found x y t tu h1 hy hf)
    (fin [(x,t)] s.toks ((if_neg (ne_true_of_eq_false h1)).trans (if_pos hf)).symm (by show 1≤yua;decide))
 ·exact yei yok (ysj _ _ _) ytj (ydj _ _) (meets_str_split_cannot_occur x y t tu h1)
   (fin [(x,t)] s.toks (if_pos h1).symm (by show 1≤yua;decide))
theorem zucb:zim X (.type "str") (λxs H Q=>∃x,xs=[.str x]∧Q (.str x) H):=by
 intro pins s σ H xs us Q I r h;obtain⟨x,rfl,q⟩:=h;obtain⟨u,rfl,t,rfl⟩:=vals1 r;exact PySem.P.str_of_str ⟨.str x,H,I,⟨t,rfl⟩,q⟩
theorem zjab:zim X (.type "int") (λxs H Q=>Ex2 λx n=>xs=[.str x]∧ykj x=some n∧x.length≤640∧Q (.int n) H):=by
 intro pins s σ H xs us Q I r h;obtain⟨x,n,rfl,hn,hl,q⟩:=h;obtain⟨u,rfl,t,rfl⟩:=vals1 r;exact PySem.W.KIN.call_text hn hl ⟨.int n,H,I.tok _,⟨_,rfl⟩,q⟩
theorem zmrb {i:Nat}{x:Str}{elt iter tg:Expr}{ifs:List Expr}{sc:Scope}{pos spos pos':Pos}{own cap:List Str}{js:List Nat}{wi:TI}{g:TG}{tt:TT}{te:TE}(hN:X.N.Nodup)(hix:X.N[i]?=some x)(hx:Loc X.env.scope x)
  (hc:X.calm=true) (S:zvd X sc) (cp:Caps X sc cap js) (hi:PI X tg iter wi)
  (hg:∀fp s H C,PG (blk X (own++cap) sc fp s H C) tg g) (ht:∀fp s H C,PTs (blk X (own++cap) sc fp s H C) ifs tt) (he:∀fp s H C,PE (blk X (own++cap) sc fp s H C) elt te)
  (hsw:yzn (.ListComp elt [⟨tg,iter,ifs,0⟩] sc pos) (some (.Name x pos')) spos.line X.env=pure true:=by rfl) (hs:∀x,yhh iter X.env x=pure x:=by intro _;rfl)
  (hf:X.fn x=true∨X.env.scope.names.lookup x=some .local:=by first|exact .inl rfl|exact .inr rfl|assumption) :
  PS X (.Assign [.Name x pos'] (.ListComp elt [⟨tg,iter,ifs,0⟩] sc pos) spos) (tAsg (ziqb wi g tt te own.length js) (zwz i)):=by
 intro pins s σ H D I h;rw[exec_Assign_Name_used _ _ _ _ hsw];refine yfa (yhm (yfa ?_));show wpAny _ X.A (do let _ ← comprehension (.ListComp elt [⟨tg,iter,ifs,0⟩] sc pos) sc X.env _ (newList []) false (eval iter X.env) (some (assign (.Name x pos') X.env))) _ _ s
 refine yfa (ymc (ysg (use:=some (assign (.Name x pos') X.env)) (Q:=λ_ s'=>SP X pins D .next s') rfl hs (zsr λy hy hf=>I.ok.has y.1 (S.free y hy hf)) S.kind S.names
  (thn (hi pins s σ H _ I h) λv s1 h1=>thn h1 λitv s2 h2=>?_)) (λ_ s' hq=>yra (yra hq)) λ_ _ e=>e)
 obtain⟨it,fp,tn,J,H2,e,I2,T,st2,f2,W,⟨m0,w0⟩,turn⟩:=h2;subst e;refine zylb (RR:=λacc C=>compPost (model X.prog X.w) X.A X.xe (some (assign (.Name x pos') X.env)) (λ_ s'=>SP X pins D .next s') acc C) (Qf:=λys H=>∀p,H p=none->D.nx (σ.set i (some (.ref p))) (upd H p (.lst ys))) hc S cp hg ht he I2 T st2 f2 w0 turn ?_;intro DD C H4 s4 pn ys its nn hD hC hDC I4 n4 o4 hz rv q;have I5:Inv X pins σ (upd H4 DD (.lst ys)) s4:=zzeb (h':=s4.heap) I2 I4 f2 hC hD hDC n4 o4 hz rv (yjn ..);obtain⟨m,hn,_⟩:=I4.loc;have hn':s4.heap.Ns C m:=hn;show wpAny _ X.A (assign (.Name x pos') X.env (.ref DD)) _ _ s4
 refine wpAny_assign_Name (zwab I5 hN hix hx (v:=.ref DD) (u:=.ref DD) rfl (λs6 I6 ⟨a,hsb,ha⟩=>?_) hf);have lt2:X.env.locals<s2.heap.objs.size:=I2.lt;have cellC:∀y c,X.env.cells.lookup y=some c->c≠C:=λy c e=>by
  obtain⟨v,z⟩:=I2.cell y c e;exact yjb (yka z.lt hC)
 have aC:C≠a:=by
  rcases ha with rfl|ha
  ·exact yyi (yka lt2 hC)
  ·exact ysc (cellC _ _ ha)
 refine⟨m,hn'.sameBut hsb aC,λh' hs'=>?_⟩;have nC:(upd H4 DD (.lst ys)) C=none:=by rw[zfb (ysc hDC)];exact I4.free
 have I7:=I6.turned (h':=h') (t':=s6.toks) (it:=C) (λb o hb e=>(hs'.2 b hb).trans e) nC (yyi (yka lt2 hC)) (.inr (ypa I2.sz hC)) cellC (λp hp=>by
  exact yjb (yka (ysa (I2.pin p hp).1) hC))
 exact⟨_,_,I7,q DD n4⟩
def Itv (K:yba)(a:Addr)(xs:List V):It :=
 ⟨λi H=>SqL K H a xs∧i<xs.length,λi H x H'=>H'=H∧xs[xs.length-1-i]?=some x,λi H=>SqL K H a xs∧i=xs.length⟩
def iRev (K:yba)(ta:TA):TI:=fun σ H R=>ta σ H λvs H1=>Ex2 λa xs=>vs=[.ref a]∧SqL K H1 a xs∧R (Itv K a xs) H1
theorem zpmb {P:ysb}{w:World}{K:yba}{tg:Expr}(a it:Addr)(xs:List V):Turn P w K tg (Itv K a xs) [it] it (λi h=>i≤xs.length∧h.IsRevIter it a ((xs.length:Int)-1-(i:Int))) where
 mem:=by simp
 obj:=λi h st b hb=>by
  have e:b=it:=by simpa using hb
  subst e;obtain⟨_,o,e,c,d⟩:=st;exact⟨o,e,λv z=>by rw[d] at z;cases z⟩
 keep:=λi h h' st k=>⟨st.1,st.2.at λo e=>k it (by simp) o e⟩
 item:=by
  intro X hP hw hK hc i pins s σ H E I hf st hg;subst hP hw hK;obtain⟨hq,hlt⟩:=hg;obtain⟨f0,f1,f2,f3,f4,f5⟩:=hf it (by simp);obtain⟨its,rv,p,hz⟩:=I.list hq;have hl:=rv.length;have hx:xs[xs.length-1-i]?=some (xs[xs.length-1-i]'(by omega)):=yoa (by omega);obtain⟨u,hu,ru⟩:=rv.get hx;have hit:=st.2;rw[show (xs.length:Int)-1-(i:Int)=((xs.length-1-i:Nat):Int) by omega] at hit;refine wpAny_pyNext_rev_item hit p.isList (x:=u) (by simpa using hu) λh' hit' hs'=>?_;rw[show ((xs.length-1-i:Nat):Int)-1=(xs.length:Int)-1-((i+1:Nat):Int) by omega] at hit';have I1:Inv X pins σ H { s with heap:=h' }:=I.turned (t':=s.toks) (λb o hb e=>(hs'.2 b hb).trans e) f0 f1 f3 f4 f5;obtain⟨o,e,c',d⟩:=id hit';exact⟨u,rfl,zelb (s:={ s with heap:=h' }) e c' d (by decide) ⟨_,H,I1,ru,⟨rfl,hx⟩,⟨hlt,hit'⟩,λb hb=>(hf b hb).1⟩⟩
 done:=by
  intro X hP hw hK hc i pins s σ H E I hf st hg;subst hP hw hK;obtain⟨hq,e⟩:=hg;obtain⟨f0,f1,f2,f3,f4,f5⟩:=hf it (by simp);have hit:=st.2;rw[show (xs.length:Int)-1-(i:Int) = -1 by omega] at hit;exact wpAny_pyNext_rev_end (I.ok.hd hc) hit λh' he'=>⟨rfl,I.turned (t':=s.toks) (λb o hb e=>he' b o hb e) f0 f1 f3 f4 f5⟩
 self:=λ_ _ _ _ _ st h=>wpAny_pyIter_revIter st.2 h
theorem boot_reversed:ywf "reversed" = some (.type "reversed"):=by decide +kernel
theorem zgeb {tg a:Expr}{ta:TA}{p pos:Pos}(hg:Gl X "reversed")(hm:X.mg "reversed" = none)(ha:PA X [a] ta)(hs:yec [a] X.env=[(false,eval a X.env)]:=by rfl):PI X tg (.Call (.Name "reversed" p) [a] [] pos) (iRev X.K ta):=by
 intro pins s σ H R I h;refine Call_ (zicb I hg hm boot_reversed (yyf (thn (ha pos pins s σ H _ I h) λus s1 ⟨vs,H1,I1,r1,q1⟩=>?_) hs rfl));obtain⟨b,xs,e,hq,q⟩:=q1;subst e;obtain⟨u,rfl,ru⟩:=vals1 r1;cases ru;obtain⟨its,rv,pl,hz⟩:=I1.list hq;have hl:=rv.length;refine call_reversed_list pl.isList ?_;have hit:(s1.heap.push (revObj b ((its.toArray.size:Int)-1))).IsRevIter s1.heap.objs.size b ((xs.length:Int)-1-((0:Nat):Int)):=by
  refine⟨_,ywa _ rfl,rfl,?_⟩;show Data.fields #[.ref b,rawInt _]=Data.fields #[.ref b,rawInt _]
  rw[ybb,← hl,show (xs.length:Int)-1-((0:Nat):Int)=(xs.length:Int)-1 by omega]
 refine wpAny_pyIter_revIter (s:={ s1 with heap:=s1.heap.push (revObj b ((its.toArray.size:Int)-1)) }) hit ?_;refine⟨s1.heap.objs.size,[s1.heap.objs.size],_,_,H1,rfl,I1.kept (t':=s1.toks) λb o e=>yga _ e,zpmb b _ xs,⟨ydc _,hit⟩,λc hc=>?_,q⟩;have e:c=s1.heap.objs.size:=by simpa using hc
 subst e;exact I1.fpOk (yxa _) (I1.hok.fresh (yxa _))
end
theorem zrsb {K:yba}{a:Addr}{xs:List V}{g:TG}{tb:TS}{D:Ends}{σ:St}{H:Hp}(Pv:Nat->St->Hp->Prop)(h0:Pv 0 σ H)(hl:∀i σ H,i≤xs.length->Pv i σ H->SqL K H a xs)
  (hs:∀i x σ H,i<xs.length->xs[xs.length-1-i]?=some x->Pv i σ H->g x σ H fun σ2 H2=>tb { D with nx:=Pv (i+1),ct:=Pv (i+1),bk:=D.nx } σ2 H2) (hd:∀ σ H,Pv xs.length σ H->D.nx σ H) :
  ∃W:Nat->Nat->St->Hp->Prop,(∃m,W 0 m σ H)∧∀i m σ H,W i m σ H →
   ((Itv K a xs).stop i H∧D.nx σ H)∨((Itv K a xs).go i H∧∃N:St->Hp->Prop,(∀ σ' H',N σ' H'->∃m',m'<m∧W (i+1) m' σ' H')∧∀x H',(Itv K a xs).yld i H x H'->g x σ H' fun σ2 H2=>tb { D with nx:=N,ct:=N,bk:=D.nx } σ2 H2):=by
 refine⟨λi m σ H=>m=xs.length-i∧i≤xs.length∧Pv i σ H,⟨xs.length,by simp,ydc _,h0⟩,?_⟩;rintro i m σ H ⟨rfl,hi,p⟩;have q:=hl i σ H hi p
 by_cases hlt:i<xs.length
 ·refine .inr ⟨⟨q,hlt⟩,Pv (i+1),fun σ' H' p'=>⟨xs.length-(i+1),by omega,rfl,hlt,p'⟩,λx H' y=>?_⟩;obtain⟨e,y⟩:=y;subst e;exact hs i x σ _ hlt y p
 ·have e:i=xs.length:=by omega
  subst e;exact .inl ⟨⟨q,rfl⟩,hd σ H p⟩
end L2
namespace L2
open PySem PySem.Spec PyProof.Rows
section
variable {X:Cx}{a:Addr}{D:List (Str×ykn)}
theorem zpbb (T:ybo X.base a D):OpR X (yid .NotIn) (λx y H Q=>∃k,x = .str k∧y = .ref a∧Q (.bl (!KTD.inKeys k D)) H):=by
 intro pins s σ H x y v u Q I rx ry h;obtain⟨k,rfl,rfl,q⟩:=h;obtain⟨t,rfl⟩:=rx;cases ry;exact KTD.notin_text ⟨T,I.bk⟩ ⟨.bl _,H,I.tok _,rfl,q⟩
theorem zipb (T:ybo X.base a D):IxR X (λx y H Q=>Ex2 λk i=>x = .ref a∧y = .str k∧yqe k D=some (.flat (.int i))∧Q (.int i) H):=by
 intro value slice pins s σ H x y v u Q I rx ry h hs;obtain⟨k,i,rfl,rfl,hd,q⟩:=h;cases rx;obtain⟨tk,rfl⟩:=ry;have T':KTD.Here X.base s.heap a D:=⟨T,I.bk⟩;refine subscriptTail_builtin_flat T'.typeIs yye.lookup ?_ hs;unfold getItem
 try with_reducible refine ysd ?_
 refine yfa (wpAny_sequenceKey T'.typeIs (by decide) ?_);refine yfa (yyg (name:=yfl "__getitem__") T'.typeIs yye
  (ymf yye T'.typeIs entry_dict_getitem ?_ (args_dict_getitem _ _)))
 show wpAny _ _ (dictGet a (.str k tk) >>= _) _ _ s
 refine yfa (KTD.dictGet_text T' (λd v ha hv=>?_) λhn=>?_)
 ·rw[hd] at ha;cases ha;have hv':Reads s.heap v (.int i) []:=hv s.heap;obtain⟨t,rfl⟩:∃t,v=Value.int i t:=by
   cases hv' with
   | int _ t=>exact⟨t,rfl⟩
  have fin:EP X pins σ Q (.int i t) { s with toks:=s.toks+1 }:=⟨.int i,H,I.tok _,⟨t,rfl⟩,q⟩;exact yra ⟨Value.int i t,rfl,yra ⟨λb z=>(nomatch z),fin⟩⟩
 ·rw[hd] at hn;cases hn
end
end L2
namespace L2
open PySem PySem.Spec PyProof.Rows
section
variable {X:Cx}
@[irreducible] def rStrAny:List V->Hp->VK->Prop:=λxs H Q=>(∃x,xs=[.str x]∧Q (.str x) H)∨∃i:Int,xs=[.int i]∧i.natAbs.log2<1920∧Q (.str (toString i)) H
theorem znk:zim X (.type "str") rStrAny:=by
 intro pins s σ H xs us Q I r h;unfold rStrAny at h
 rcases h with h|h
 ·exact zucb pins s σ H xs us Q I r h
 ·exact zpf pins s σ H xs us Q I r h
end
end L2
namespace L2
open PySem PySem.Spec PyProof.Rows
section
variable (K:yba){X:Cx}{a b o e:Expr}{es:List Expr}{ta tb to te:TE}{t:TA}{name f:Str}{apos cpos pos:Pos}{T id:String}{r:V->List V->Hp->VK->Prop}
theorem zaob (hK:X.K=K:=by rfl):IxR X (rIxL K):=hK▸zbb
theorem zavb (pa:PlainAttrs T)(slot:Slot T name id)(hty:typeOf (.builtin id)=pure (.type "method_descriptor"))(hm:MtR X id r)(ho:PE X o to)(ha:PA X (e::es) t)
  (hbase:yvg o name X.env (eval o X.env)=eval o X.env:=by rfl)
  (hfew:((backTo cpos (yec (e::es) X.env)).all (λx=>!x.1)&&(ykm cpos (yki [] X.env)).all (λx=>x.1.isSome)
   && decide ((e::es).length+([]:List yzk).length+(if ([]:List yzk).isEmpty then 0 else 1)<30))=true:=by rfl)
  (hline:(apos.endLine==cpos.line)=true:=by rfl) (hs:yec (e::es) X.env=(false,eval e X.env)::yec es X.env:=by rfl) (hplain:(backTo cpos (yec es X.env)).any (·.1)=false:=by rfl) (hK:X.K=K:=by rfl) :
  PE X (.Call (.Attribute o name apos) (e::es) [] cpos) (tBM K T r to t):=hK▸zog pa slot hty hm ho ha hbase hfew hline hs hplain
end
end L2
namespace SSet
open PySem PySem.Spec PyProof.Rows
theorem zovb (t:yre)(n:Nat):(t.orStandIn n).led=t.led∧(t.plain=false->(t.orStandIn n).plain=false):=by
 unfold yre.orStandIn
 split
 ·exact⟨rfl,id⟩
 ·exact⟨rfl,λ_=>rfl⟩
theorem zisb (t:yre)(es:Array (Int×Value))(h:Int)(x:Value):(layNew t es h x).2.1.led=t.led:=by
 unfold layNew
 split
 ·exact (zovb _ _).1
 ·rfl
theorem zskb (t:yre)(es:Array (Int×Value))(k:Nat):(yql t es k).2.1.led=t.led∧(t.plain=false->(yql t es k).2.1.plain=false):=by
 unfold yql
 split
 ·rename_i u order e;have q:u.led=t.led∧u.plain=t.plain:=by
   unfold yre.relaid yre.laid at e;simp only[bind,Option.bind,pure] at e
   split at e
   ·cases e
   ·injection e with e
    injection e with e _
    rw[← e];exact⟨rfl,rfl⟩
  dsimp only
  split
  ·exact⟨q.1,λz=>q.2.trans z⟩
  ·exact⟨rfl,λ_=>rfl⟩
 ·exact⟨rfl,λ_=>rfl⟩
def SS (prog:ysb)(w:World)(h:Heap)(a:Addr)(D:List Str)(b:Bool):Prop :=
 ∃o es ep t,h.get? a=some o∧o.ExactSet∧o.data = .set es ep t∧yln (yqc prog w) es.toList∧(es.toList.map λe=>strOf e.2).Perm D∧es.size<yuj∧t.fits es.size=true∧t.led=b∧(es.size=0∨t.plain=false)
section
variable {prog:ysb}{w:World}{A:Around}{E:Value->Shared->Prop}{s:Shared}
theorem SS.keep {h h':Heap}{a:Addr}{D:List Str}{b:Bool}(x:SS prog w h a D b)(k:∀o,h.get? a=some o->h'.get? a=some o):SS prog w h' a D b:=by
 obtain⟨o,es,ep,t,ho,r⟩:=x;exact⟨o,es,ep,t,k _ ho,r⟩
theorem zmpb {es:List (Int×Value)}(h:yln (yqc prog w) es){e:Int×Value}(he:e∈es):∃x t,e.2 = .str x t∧e.1=(yqc prog w).hash x:=by
 obtain⟨⟨k,hk,hh⟩,_⟩:=h e he;obtain⟨t,et⟩:=yfi (x:=k) (v:=e.2) hk;exact⟨k,t,et,hh⟩
theorem zpeb {es:List (Int×Value)}{D:List Str}{x:Str}(hel:yln (yqc prog w) es)(hp:(es.map λe=>strOf e.2).Perm D) :
  x∈D↔∃e∈es,(yqc prog w).is x e.2=true:=by
 rw[← hp.mem_iff,ykb]
 constructor
 ·rintro⟨e,he,rfl⟩;obtain⟨y,t,e1,_⟩:=zmpb hel he;refine⟨e,he,?_⟩;rw[e1];show ydg y (.str y t)=true
  simp[ydg]
 ·rintro⟨e,he,hi⟩;obtain⟨t,e1⟩:=yfi (x:=x) (v:=e.2) hi;exact⟨e,he,by rw[e1];rfl⟩
theorem zmgb {g:Bool->Sem Unit}(hg:∀(b:Bool) (s₁:Shared) (Q':Unit->Shared->Prop),Q' () s₁->wpAny (model prog w) A (g b) Q' E s₁)
  {a:Addr} {o:Obj} {es:Array (Int×Value)} {ep:Nat} {t:yre} (ho:s.heap.get? a=some o) (hex:o.ExactSet) (hd:o.data = .set es ep t)
  {fs:Array (Int×Value)} {u:yre} {D:List Str} {b:Bool} (hel:yln (yqc prog w) fs.toList) (hp:(fs.toList.map λe=>strOf e.2).Perm D) (hb:fs.size<yuj) (hf:u.fits fs.size=true) (hl:u.led=b) (hpl:u.plain=false)
  {dm:Bool} {R:Option Bool->Shared->Prop} (h:∀h',ycf a s.heap h'->SS prog w h' a D b->R (some true) { s with heap:=h' }) :
  wpAny (model prog w) A (do
    storeSet a fs u
    if (!dm&&u.tooFull)=true then do
        g (yql u fs (ypf fs.size)).2.2
        storeSet a (yql u fs (ypf fs.size)).1 (yql u fs (ypf fs.size)).2.1
        pure (some true)
     else pure (some true)) R E s:=by
 have lim:∀{n:Nat},n<yuj->n≤yua:=λz=>yvj z;refine yfa (wpAny_storeSet_of ho hd ?_ (lim hb));have k1:(s.heap.update a (ywj fs u)).get? a=some { o with data:=.set fs (ep+1) u }:=by
  have z:=yvd (ywj fs u) ho (by rw[yco fs u hd];rfl);rw[yco fs u hd] at z;exact z
 have b1:=yam s.heap a (ywj fs u)
 split
 ·have p2:=relayAll_perm u fs (ypf fs.size);have f2:=relayAll_fits u fs (ypf fs.size);obtain⟨l2,q2⟩:=zskb u fs (ypf fs.size);generalize yql u fs (ypf fs.size)=R2 at p2 f2 l2 q2 ⊢;obtain⟨fs2,u2,gv⟩:=R2;dsimp only at p2 f2 l2 q2 ⊢;have z2:fs2.size=fs.size:=by rw[← ymb,p2.length_eq,ymb]
  refine yfa (hg _ _ _ ?_);refine yfa (wpAny_storeSet_of k1 rfl ?_ (lim (by rw[z2];exact hb)));have k2:((s.heap.update a (ywj fs u)).update a (ywj fs2 u2)).get? a=some { o with data:=.set fs2 (ep+1+1) u2 }:=by
   have z:=yvd (ywj fs2 u2) k1 (by rw[yco fs2 u2 rfl];rfl);rw[yco fs2 u2 rfl] at z;exact z
  exact yra (h _ (b1.trans (yam _ a _)) ⟨_,fs2,_,u2,k2,hex,rfl,yln.perm hel p2,(p2.map _).trans hp,by rw[z2];exact hb,f2,l2.trans hl,.inr (q2 hpl)⟩)
 ·exact yra (h _ b1 ⟨_,fs,_,u,k1,hex,rfl,hel,hp,hb,hf,hl,.inr hpl⟩)
theorem add_str {a:Addr}{D:List Str}{b:Bool}{x:Str}{tk:Tok}{Q:Bool->Shared->Prop}(hS:SS prog w s.heap a D b)(hroom:D.length+1<yuj)
  (h:∀h' r,ycf a s.heap h'->SS prog w h' a (if x∈D then D else D++[x]) b->Q r { s with heap:=h' }) :
  wpAny (model prog w) A (setAddHashed a (.str x tk) ((yqc prog w).hash x)) Q E s:=by
 obtain⟨o,es,ep,t,ho,hex,hd,hel,hp,hb,hf,hl,hpl⟩:=hS;have key:(yqc prog w).is x (.str x tk)=true:=by
  show ydg x (.str x tk)=true
  simp[ydg]
 have hz:es.size=D.length:=by rw[← hp.length_eq,yaa,ymb]
 unfold setAddHashed setAddHashedIn;refine ysd (yfa (yde ho hd hf ?_));dsimp only;rw[byScan_of (x:=.str x tk) rfl hb hel];simp only[↓reduceIte];unfold setAddByScan;refine yfa (yfa (wpAny_rule (yfa (wpAny_setScan_of key ho hd hf hel ?_))));have mi:=zpeb (x:=x) hel hp;cases hr:List.findIdx? (λe=>(yqc prog w).is x e.2) es.toList with
 | some j =>
  obtain⟨hj,hpj,_⟩:=List.findIdx?_eq_some_iff_getElem.mp hr;have hin:x∈D:=mi.mpr ⟨_,ywn hj,hpj⟩;dsimp only;refine yra (yra ?_);have z:=h s.heap false (yjn a s.heap);rw[if_pos hin] at z;exact z ⟨o,es,ep,t,ho,hex,hd,hel,hp,hb,hf,hl,hpl⟩
 | none =>
  have hno:¬ x∈D:=λhin=>by
   obtain⟨e,he,hi⟩:=mi.mp hin;have z:=List.findIdx?_eq_none_iff.mp hr e he;rw[hi] at z;cases z
  simp only[if_neg hno] at h;dsimp only;have p1:=layNew_perm t es ((yqc prog w).hash x) (.str x tk);have f1:=layNew_fits t es ((yqc prog w).hash x) (.str x tk);have l1:=zisb t es ((yqc prog w).hash x) (.str x tk);generalize layNew t es ((yqc prog w).hash x) (.str x tk)=L at p1 f1 l1 ⊢;obtain⟨fs,u,dm,gave⟩:=L;dsimp only at p1 f1 l1 ⊢;rw[ymn] at p1;have el1:yln (yqc prog w) fs.toList:=(hel.push key rfl).perm p1;have pp:(fs.toList.map λe=>strOf e.2).Perm (D++[x]):=by
   refine (p1.map _).trans ?_;rw[ydb];exact yxj.append hp (ylj _)
  have z1:fs.size=D.length+1:=by rw[← ymb,p1.length_eq,yha,ymb,hz];rfl
  have give:∀(c:Bool) (s₁:Shared) (Q':Unit->Shared->Prop),Q' () s₁->wpAny (model prog w) A (match c with|true=>rule "set.scan.the-table-gave-way"|false=>pure ()) Q' E s₁:=λc s₁ Q' q=>by
   cases c
   ·exact yra q
   ·exact wpAny_rule q
  refine yfa (give _ _ _ ?_)
  split
  ·refine yfa ?_;rw[hashByValue_scannable 8 (x:=.str x tk) rfl];refine yra ?_;refine zmgb (b:=b) (D:=D++[x]) give ho hex hd el1 pp (by omega) (yre.fits_plain_off f1) (l1.trans hl) rfl ?_;intro h' sb S';exact yra (h h' _ sb S')
  ·rename_i np;refine yfa (yra ?_);simp only[↓reduceIte];refine zmgb (b:=b) (D:=D++[x]) give ho hex hd el1 pp (by omega) f1 (l1.trans hl) (by simpa using np) ?_;intro h' sb S';exact yra (h h' _ sb S')
def dd (xs:List Str):List Str:=xs.foldl (λD x=>if x∈D then D else D++[x]) []
theorem zro (xs:List Str)(x:Str):dd (xs++[x])=if x∈dd xs then dd xs else dd xs++[x]:=by
 unfold dd;rw[List.foldl_append];rfl
theorem znob:∀n (xs:List Str),(dd (xs.take n)).length≤n
 | 0,xs=>yxa 0
 | n+1,xs=>by
  have ih:=znob n xs;rw[ywb];cases e:xs[n]? with
  | none =>
   rw[yej,yrb];omega
  | some x =>
   rw[yzg,zro]
   split
   ·omega
   ·rw[yha,yjc];omega
theorem znmb {R:Result->Shared->Prop}{I S:Addr}{fp wr:List Addr}{n:Nat}{P:Nat->Value->Prop}{St:Nat->Heap->Prop}{b:Bool}(W:Walks prog w A.in1 I fp wr n P St)(hSf:S∉fp)(xs:List Str)
  (hval:∀i v,P i v->∃x t,xs[i]?=some x∧v = .str x t) (hn:n+1<yuj) :
  ∀(k i:Nat) (s:Shared),n-i=k->i≤n->St i s.heap->SS prog w s.heap S (dd (xs.take i)) b →
   (∀h' tk,SS prog w h' S (dd (xs.take n)) b->(∀c o,c∉S::wr->s.heap.get? c=some o->h'.get? c=some o)->R (.ok (.ret .none)) { s with heap:=h',toks:=tk }) →
   yog (model prog w) A (.builtin "set.update.loop" ⟨[.ref S,.ref I],[]⟩) R s:=by
 have nw:S∉wr:=λz=>hSf (W.sub _ z);intro k
 induction k with
 | zero =>
  intro i s hk hi st hS hR;obtain rfl:i=n:=by omega
  refine yze ymg ?_;rw[yse yae _];show wpAny _ A.in1 (pyNext (.ref I) >>= _) _ _ s
  refine yfa (W.done s _ _ st λh' tk keep=>?_);show wpAny _ A.in1 (ret Value.none) _ _ _
  exact yra (hR h' tk (hS.keep λo e=>keep S o nw e) λc o hc e=>keep c o (λz=>hc (yla _ z)) e)
 | succ k ih =>
  intro i s hk hi st hS hR;have hlt:i<n:=by omega
  refine yze ymg ?_;rw[yse yae _];show wpAny _ A.in1 (pyNext (.ref I) >>= _) _ _ s
  refine yfa (W.item i s _ _ hlt st λv h1 tk hP st1 keep=>?_);obtain⟨x,t,hx,rfl⟩:=hval i v hP;have hS1:SS prog w h1 S (dd (xs.take i)) b:=hS.keep λo e=>keep S o nw e;show wpAny _ A.in1 (yxl [Value.str x t] (setAdd S (.str x t)) >>= _) _ _ _
  refine yfa (ysd ?_);unfold setAdd;refine ysd (yfa ((yqc prog w).pyHash (k:=x) (by show ydg x (.str x t)=true;simp[ydg]) ?_));have hle:=znob i xs;refine add_str (b:=b) (D:=dd (xs.take i)) (s:={ s with heap:=h1,toks:=tk+1 }) hS1 (by omega) λh2 r sb S2=>?_;have e2:(if x∈dd (xs.take i) then dd (xs.take i) else dd (xs.take i)++[x])=dd (xs.take (i+1)):=by
   rw[ywb,hx,yzg,zro]
  rw[e2] at S2;refine yra ⟨ybi yae _,ih (i+1) _ (by omega) hlt (W.frame _ h1 _ st1 λc hc o e=>?_) S2 λh3 tk3 S3 keep3=>?_⟩
  ·rw[sb.2 c (λz:c=S=>hSf (by rw[← z];exact hc))];exact e
  ·refine hR h3 tk3 S3 λc o hc e=>keep3 c o hc ?_;show h2.get? c=some o
   rw[sb.2 c (λz:c=S=>hc (by rw[z];exact yqa))];exact keep c o (λz=>hc (yla _ z)) e
abbrev empt (w:World):Obj:={ cls:=.type "set",dict:=none,data:=.set #[] 0 (.fresh 0 0 (!w.params.followText "set-order")) }
theorem zbsb (v:Value){Q1:Value->Shared->Prop}(h:Q1 (.ref s.heap.objs.size) { s with heap:=s.heap.push (empt w) }) :
  yog (model prog w) A (.call (.builtin "set.__new__") ⟨[.type "set",v],[]⟩) (wants Q1 E) s:=by
 refine codeAny_of_tree ?_;have sb:=sub_set_self;show wpAny _ A.in1 (ypk "set.__new__" ⟨[.type "set",v],[]⟩ >>= λ_=>again (.builtin "set.__new__" ⟨[.type "set",v],[]⟩)) _ _ s
 refine yfa (wpAny_of_eq (PySem.F.newCall_set_1 v) (yra ⟨ybi ygl _,yze PySem.F.entry_set_new ?_⟩));rw[yse ygl _];obtain⟨hp,gn,dr,tk,os⟩:=s;unfold ygh.«set.__new__»;unfold ygh.Frozenset.newClass;dsimp only
 wp_walk
 refine yng (yra ?_);dsimp only[newObj];refine yfa (wpAny_alloc (yra (yra ?_)));exact h
theorem zgjb:∀{us:List Value} {xs:List Str},yhk us xs->∀(i:Nat) (v:Value),us[i]?=some v->∃x t,xs[i]?=some x∧v = .str x t
 | _,_,.nil,i,v,e=>by simp at e
 | _,_,.cons x t r,0,v,e=>by
  rw[yxg] at e;cases e;exact⟨x,t,rfl,rfl⟩
 | _,_,.cons x t r,i+1,v,e=>by
  rw[ymd] at e;obtain⟨y,u,h1,h2⟩:=zgjb r i v e;exact⟨y,u,by rw[ymd];exact h1,h2⟩
theorem zwsb (h:Heap):SS prog w (h.push (empt w)) h.objs.size [] (!w.params.followText "set-order") :=
 ⟨_,#[],0,_,ywa _ rfl,⟨rfl,rfl,rfl⟩,rfl,λe he=>by simp at he,.nil,by decide,by rfl,rfl,.inl rfl⟩
theorem set_list {l:Addr}{its:Array Value}{xs:List Str}{Q:Value->Shared->Prop}(hh:A.handled=none)(hl:s.heap.IsList l its)(hi:yhk its.toList xs)(hb:its.size+1<yuj)
  (h:∀(h':Heap) (tk:Nat),SS prog w h' s.heap.objs.size (dd xs) (!w.params.followText "set-order")->(∀c o,s.heap.get? c=some o->h'.get? c=some o)->Q (.ref s.heap.objs.size) { s with heap:=h',toks:=tk }) :
  wpAny (model prog w) A (call (.type "set") [.ref l]) Q E s:=by
 obtain⟨cM,tM,mro⟩:=ynd.mro;have made:=ynd.made;have subs:=ynd.sub;have notT:=ynd.notType;have canC:=ynd.canCreate;have chk:=PySem.F.typeCall_set_1 (.ref l);refine wpAny_call (codeAny_of_tree ?_);show wpAny _ _ (callAny (.type "set") ⟨[.ref l],[]⟩) _ _ _
 refine yra ⟨yom _ (by decide +kernel),yze PySem.F.entry_type_call ?_⟩;rw[Around.under_plain (weight_type_call_type "set" [Value.ref l] []) rfl]
 repeat (any_goals (first|assumption|wp_step))
 refine yqh (zbsb (.ref l) (E:=E) (Q1:=λob s1=>ob = .ref s.heap.objs.size∧s1={ s with heap:=s.heap.push (empt w) }) ⟨rfl,rfl⟩) λr s1 hr=>?_;cases r with
 | error e=>exact hr
 | ok fl =>
  cases fl with
  | ret ob =>
   obtain⟨rfl,rfl⟩:=hr;have g0:(s.heap.push (empt w)).get? s.heap.objs.size=some (empt w):=ywa _ rfl;have ty0:ypm { s with heap:=s.heap.push (empt w) } (.ref s.heap.objs.size) "set":=⟨_,g0,rfl⟩;have lk:=ynd.init.lookup;have bd:=ynd.init.bind (.ref s.heap.objs.size)
   repeat (any_goals (first|assumption|wp_step))
   refine yqh (ywh (R:=wants (λr s2=>r = .none∧∃h' tk,s2={ s with heap:=h',toks:=tk }∧SS prog w h' s.heap.objs.size (dd xs) (!w.params.followText "set-order") ∧
     (∀c o,s.heap.get? c=some o->h'.get? c=some o)) E) ynd.init.plain PySem.F.entry_set_init (check_set_init_1 ty0 ?_)) λr2 s2 hr2=>?_
   ·obtain⟨ol,e1,e2,nl,e3⟩:=hl;obtain⟨oc,od,oD,osl⟩:=ol;dsimp only at e2 e3;subst e2 e3;have e1':(s.heap.push (empt w)).get? l=some { cls:=.type "list",dict:=od,data:=.seq its nl,slots:=osl }:=yga _ e1;have q1:=PySem.F.sub_list_set;have q2:=PySem.F.sub_list_frozenset;have q3:(Value.type "list" == Value.type "dict")=false:=by decide
    have L1:(s.heap.push (empt w)).IsList l its:=⟨_,e1',rfl,nl,rfl⟩;have lt:l<s.heap.objs.size:=ysa e1;unfold ygh.«set.__init__» noKeywords ygh.Frozenset.updateFrom;generalize hPI:pyIter=PI
    wp_walk
    subst hPI;refine yqj L1 (yfa (wpAny_runValue ?_));have ne:l≠(s.heap.push (empt w)).objs.size:=by
     rw[yoe];exact yjb (ymh lt)
    have nf:s.heap.objs.size∉[(s.heap.push (empt w)).objs.size,l]:=by
     rw[yoe];intro z
     rcases yda.mp z with z|z
     ·exact absurd z (yjb (ylf _))
     ·exact absurd (yca.mp z) (yyi lt)
    have hv:∀(i:Nat) (v:Value),its[i]?=some v->∃x t,xs[i]?=some x∧v = .str x t:=λi v e=>zgjb hi i v (by rw[ywd];exact e);have hx:xs.take its.size=xs:=yxc (by rw[← ymb,hi.length];exact yxa _);refine znmb (b:=!w.params.followText "set-order") (Walks.list (by simp[hh]) _ l ne its) nf xs hv hb (its.size-0) 0 _ (by omega) (ydc _) ⟨⟨_,ywa _ rfl,rfl,rfl⟩,L1.push _⟩ ?S0 ?R0
    case S0=>exact (zwsb s.heap).keep λo e=>yga _ e
    case R0 =>
     intro h' tk S' keep;rw[hx] at S';show wpAny _ _ _ _ _ _
     refine yra ?_;show wpAny _ _ (ret Value.none) _ _ _
     refine yra ⟨rfl,h',tk,rfl,S',λc o e=>?_⟩;have clt:=ysa e;refine keep c o ?_ (yga _ (yga _ e));rw[yoe];intro z
     rcases yda.mp z with z|z
     ·exact absurd z (yjb clt)
     ·exact absurd (yca.mp z) (yjb (ymh clt))
   ·cases r2 with
    | error e=>exact hr2
    | ok fl2 =>
     cases fl2 with
     | ret r =>
      obtain⟨rfl,h',tk,rfl,S',keep⟩:=hr2
      repeat (any_goals (first|assumption|wp_step))
      exact h _ _ S' keep
     | next=>exact hr2.elim
     | brk=>exact hr2.elim
     | cont=>exact hr2.elim
  | next=>exact hr.elim
  | brk=>exact hr.elim
  | cont=>exact hr.elim
end
end SSet
namespace SSet
open PySem PySem.Spec PyProof.Rows
theorem zuy:Slot "set_iterator" "__next__" "set_iterator.__next__":=.of (owner:="set_iterator") (n:="__next__") (by rw[typeLookup_type,yhl];kernel_rfl) (by decide +kernel) (by decide +kernel) (by decide +kernel) (by first|exact .inl (by decide +kernel)|exact .inr (by decide +kernel)) (by rw[yvl];kernel_rfl)
theorem zusb:entryFor table "set_iterator.__next__" = some ygh.«set_iterator.__next__»:=entryFor_of_fast (by kernel_rfl)
theorem zdtb (v:Value):argsOk "set_iterator.__next__" ⟨[v],[]⟩:=by unfold argsOk;kernel_rfl
theorem zvsb:entryFor table "set.__iter__" = some ygh.«frozenset.__iter__»:=entryFor_alias (id':="frozenset.__iter__") (by kernel_rfl) rfl (by decide +kernel) (by kernel_rfl)
theorem zmjb:Slot "set_iterator" "__iter__" "set_iterator.__iter__":=.of (owner:="set_iterator") (n:="__iter__") (by rw[typeLookup_type,yhl];kernel_rfl) (by decide +kernel) (by decide +kernel) (by decide +kernel) (by first|exact .inl (by decide +kernel)|exact .inr (by decide +kernel)) (by rw[yvl];kernel_rfl)
theorem ztsb:entryFor table "set_iterator.__iter__" = some ygh.«dict_keyiterator.__iter__»:=entryFor_alias (id':="dict_keyiterator.__iter__") (by kernel_rfl) rfl (by decide +kernel) (by kernel_rfl)
theorem zctb (v:Value):argsOk "set_iterator.__iter__" ⟨[v],[]⟩:=by unfold argsOk;kernel_rfl
def zoab (h:Heap)(it a:Addr)(first:Value)(i n ep:Nat):Prop:=h.get? it=some { cls:=.type "set_iterator",dict:=none,data:=.fields #[first,rawInt i,.ref a,rawInt n,rawInt ep],slots:=#[] }
def SObj (h:Heap)(a:Addr)(es:Array (Int×Value))(ep:Nat)(t:yre):Prop:=∃o,h.get? a=some o∧o.cls = .type "set" ∧ o.data = .set es ep t∧t.fits es.size=true
theorem SObj.keep {h h':Heap}{a:Addr}{es:Array (Int×Value)}{ep:Nat}{t:yre}(x:SObj h a es ep t)(k:∀o,h.get? a=some o->h'.get? a=some o):SObj h' a es ep t:=by
 obtain⟨o,ho,r⟩:=x;exact⟨o,k _ ho,r⟩
section
variable {prog:ysb}{w:World}{A:Around}{E:Value->Shared->Prop}{s:Shared}
theorem zoab.typeIs {it a:Addr}{f:Value}{i n ep:Nat}(h:zoab s.heap it a f i n ep):s.TypeIs (.ref it) "set_iterator":=⟨_,h,rfl⟩
theorem zxab {Q:Option Value->Shared->Prop}{F:Fin->Shared->Prop}(hh:A.handled=none)(hQ:∀h',(∀b o,s.heap.get? b=some o->h'.get? b=some o)->Q none { s with heap:=h' }) :
  wpAny (model prog w) A.in1 (newExc (.type "StopIteration") [] >>= λx=>raiseNew x) F (λe s'=>wpAny (model prog w) A (do
     let b ← yrl e (Value.type "StopIteration")
     if b=true then pure none else throw e) Q E s') s:=by
 refine yfa ?_;simp only[newExc,newTuple];refine yfa (ywe ?_ (by size_fits));refine yfa (m:=firstArgMember _ _) (wpAny_of_eq (a:=Value.none) (by first|rfl|(simp only[firstArgMember];rfl)) (ywe ?_ (by size_fits)));simp only[raiseNew];refine yfa (wpAny_handled ?_);rw[show A.in1.handled=none from hh];refine yfa (yra (wpAny_throw ?_));refine yfa (wpAny_isInstance (b:=true) (T:="StopIteration") ⟨_,ywa _ rfl,rfl⟩ isSubtype_stop ?_);exact yra (hQ _ λb o e=>yga _ (yga _ e))
theorem znz {it a:Addr}{f:Value}{i n ep:Nat}{es:Array (Int×Value)}{t:yre}{Q:Option Value->Shared->Prop}(hit:zoab s.heap it a f i n ep)(hs:SObj s.heap a es ep t)(hn:es.size=n)
  (h:wpAny (model prog w) A.in1 (match f with
      | Value.int slot tok=>do
       let r ← yil a slot.toNat i ep
       match r with
        | some (x,nx)=>do
         yqm (Value.ref it) 0 (rawInt nx)
         yqm (Value.ref it) 1 (rawInt ((i:Int)+1))
         ret x
        | none=>do
         yqm (Value.ref it) 2 Value.none
         let y ← newExc (Value.type "StopIteration") []
         raiseNew y
      | x=>do
       let r ← yrm f
       match r with
        | some places =>
         match places[i]? with
         | some (Value.int place tok)=>do
          let x ← setNextDrawn a place.toNat ep
          yqm (Value.ref it) 1 (rawInt ((i:Int)+1))
          ret x
         | some val=>unsupported "internal:set_iterator"
         | none=>do
          yqm (Value.ref it) 0 (rawInt 0)
          yqm (Value.ref it) 2 Value.none
          let y ← newExc (Value.type "StopIteration") []
          raiseNew y
        | x=>unsupported "internal:set_iterator")
   (λfin s'=>∃v,fin=Fin.done (Flow.ret v)∧wpAny (model prog w) A (pure (some v)) Q E s')
   (λe s'=>wpAny (model prog w) A (do
     let b ← yrl e (Value.type "StopIteration")
     if b=true then pure none else throw e) Q E s') s):wpAny (model prog w) A (pyNext (.ref it)) Q E s:=by
 obtain⟨oS,hoS,hcS,hdS,hf⟩:=id hs;unfold pyNext;refine yfa (wpAny_attempt (yyg (name:=yfl "__next__") hit.typeIs zuy (ymf zuy hit.typeIs zusb ?_ (zdtb _))));unfold ygh.«set_iterator.__next__»;refine yfa (yra ?_);refine yfa (wpAny_fieldsOf hit rfl ?_);show wpAny _ _ (setEntries a >>= _) _ _ _
 refine yfa (wpAny_setEntries_of hoS hdS hf ?_);rw[if_neg (by rw[hn];simp[rawInt])];exact h
theorem zcib {it a tp:Addr}{i n ep:Nat}{es:Array (Int×Value)}{t:yre}{pl:Array Value}{j:Nat}{tk:Tok}{e:Int×Value}{Q:Option Value->Shared->Prop}
  (hit:zoab s.heap it a (.ref tp) i n ep) (hs:SObj s.heap a es ep t) (hn:es.size=n) (htp:IsTup s.heap tp pl) (hpl:pl[i]?=some (.int j tk)) (he:es[j]?=some e)
  (hQ:∀h',zoab h' it a (.ref tp) (i+1) n ep->ycf it s.heap h'->Q (some e.2) { s with heap:=h' }):wpAny (model prog w) A (pyNext (.ref it)) Q E s:=by
 obtain⟨oS,hoS,hcS,hdS,hf⟩:=id hs;refine znz hit hs hn ?_;dsimp only;obtain⟨oT,hoT,hcT,nT,hdT⟩:=htp;have sq:∀{Q':Option (Array Value)->Shared->Prop},Q' (some pl) s->wpAny (model prog w) A.in1 (yrm (.ref tp)) Q' (λe s'=>wpAny (model prog w) A (do
     let b ← yrl e (Value.type "StopIteration")
     if b=true then pure none else throw e) Q E s') s:=λq=>by
  unfold yrm;refine yfa (yzm hoT ?_);rw[hdT];exact yra q
 refine yfa (sq ?_);dsimp only;rw[hpl];dsimp only;rw[yfg];unfold setNextDrawn;refine yfa (yfa (yde hoS hdS hf ?_));dsimp only;rw[if_neg (by simp),he];refine yra ?_;refine yfa (yne hit (by simp) λh' g sb=>?_);refine yra ⟨_,rfl,yra (hQ h' ?_ sb)⟩;exact g
theorem zklb {it a tp:Addr}{i n ep:Nat}{es:Array (Int×Value)}{t:yre}{pl:Array Value}{Q:Option Value->Shared->Prop}(hh:A.handled=none)
  (hit:zoab s.heap it a (.ref tp) i n ep) (hs:SObj s.heap a es ep t) (hn:es.size=n) (htp:IsTup s.heap tp pl) (hpl:pl[i]?=none)
  (hQ:∀h',(∀b o,b≠it->s.heap.get? b=some o->h'.get? b=some o)->Q none { s with heap:=h' }):wpAny (model prog w) A (pyNext (.ref it)) Q E s:=by
 refine znz hit hs hn ?_;dsimp only;obtain⟨oT,hoT,hcT,nT,hdT⟩:=htp;have sq:∀{Q':Option (Array Value)->Shared->Prop},Q' (some pl) s->wpAny (model prog w) A.in1 (yrm (.ref tp)) Q' (λe s'=>wpAny (model prog w) A (do
     let b ← yrl e (Value.type "StopIteration")
     if b=true then pure none else throw e) Q E s') s:=λq=>by
  unfold yrm;refine yfa (yzm hoT ?_);rw[hdT];exact yra q
 refine yfa (sq ?_);dsimp only;rw[hpl];dsimp only;refine yfa (yne hit (by simp) λh1 g1 sb1=>?_);refine yfa (yne g1 (by simp) λh2 g2 sb2=>?_);refine zxab hh λh' k=>hQ h' λb o nb e=>k b o ?_;show h2.get? b=some o
 rw[sb2.2 b nb,sb1.2 b nb];exact e
end
end SSet
namespace SSet
open PySem PySem.Spec PyProof.Rows
theorem pull {α:Type}:∀{l:List α} {i:Nat} (h:i<l.length),(l[i]::l.eraseIdx i).Perm l
 | [],i,h=>by simp at h
 | x::r,0,h=>ylj _
 | x::r,i+1,h=>by
  have ih:=pull (l:=r) (i:=i) (by simpa using h);exact (yxj.swap x _ _).trans (yxj.cons x ih)
theorem zkkb {α:Type}(nx:Nat->Nat):∀(k j:Nat) (left:List α) (out:Array α),left.length=k->(yno nx k j left out).toList.Perm (out.toList++left)
 | 0,j,left,out,h=>by
  have e:left=[]:=ykf.mp h;subst e;rw[yrb];exact ylj _
 | k+1,j,left,out,h=>by
  have hlt:nx j % left.length<left.length:=Nat.mod_lt _ (by omega);unfold yno;rw[yoa hlt];dsimp only;refine (zkkb nx k (j+1) _ _ (by rw[ywi hlt];omega)).trans ?_;rw[ymn,ydd];exact yxj.append_left _ (pull hlt)
theorem zgkb {α:Type}(nx:Nat->Nat)(xs:Array α):(yoi nx xs).toList.Perm xs.toList:=by
 have q:=zkkb nx xs.size 0 xs.toList #[] (by simp);unfold yoi
 simpa using q
section
variable {prog:ysb}{w:World}{A:Around}{E:Value->Shared->Prop}{s:Shared}
theorem zoib {src:Source}{n:Nat}{Q:Nat->Shared->Prop}(hn:n≠0)(h:∀i d,i<n->Q i { s with drawn:=d }):wpAny (model prog w) A (choose src n) Q E s:=fun Γ p hΓ=>by
 unfold choose;show Sem.wp _ _ (.choose src n .pure) _ _ _ _
 rw[Sem.wp_choose];exact⟨hn,h _ _ (Nat.mod_lt _ (by omega))⟩
theorem zfhb {α:Type}:∀(n:Nat) (xs:List α) (s:Shared) (Q:List α->Shared->Prop),xs.length=n->(∀ys d,ys.Perm xs->Q ys { s with drawn:=d })->wpAny (model prog w) A (drawOrder n xs) Q E s
 | 0,xs,s,Q,hl,h=>by
  have e:xs=[]:=ykf.mp hl;subst e;exact yra (h [] s.drawn (ylj _))
 | n+1,[],s,Q,hl,h=>by cases hl
 | n+1,x::r,s,Q,hl,h=>by
  unfold drawOrder;refine yfa (zoib (by simp) λi d hi=>?_);rw[yoa hi];dsimp only;refine yfa (zfhb n _ _ _ (by rw[ywi hi];omega) λys d2 hp=>?_);exact yra (h _ d2 ((yxj.cons _ hp).trans (pull hi)))
theorem zmcb {it a:Addr}{f:Value}{i n ep:Nat}{Q:Value->Shared->Prop}(hit:zoab s.heap it a f i n ep)(h:Q (.ref it) s):wpAny (model prog w) A (pyIter (.ref it)) Q E s:=by
 refine wpAny_pyIter_slot hit.typeIs zmjb (ymf zmjb hit.typeIs ztsb ?_ (zctb _));show wpAny _ _ (ret (Value.ref it)) _ _ s
 exact yra ⟨_,rfl,"set_iterator",_,hit.typeIs,zuy.lookup,h⟩
theorem zudb (hh:A.handled=none){it a tp:Addr}(h1:a≠it)(h2:tp≠it)(es:Array (Int×Value))(ep:Nat)(t:yre)(js:List Nat)(hl:js.length=es.size)(hj:∀j∈js,j<es.size) :
  Walks prog w A it [it,a,tp] [it] es.size (λi v=>∃j e,js[i]?=some j∧es[j]?=some e∧v=e.2) (λi h=>zoab h it a (.ref tp) i es.size ep∧SObj h a es ep t∧IsTup h tp (js.map λ(j:Nat)=>rawInt j).toArray) where
 sub:=λb hb=>by
  have e:b=it:=by simpa using hb
  rw[e];exact yqa
 frame:=λi h h' st k=>⟨k it (by simp) _ st.1,st.2.1.keep λo e=>k a (by simp) o e,let ⟨o,e,r⟩:=st.2.2;⟨o,k tp (by simp) o e,r⟩⟩
 item:=λi s Q E hi st hQ=>by
  have hi':i<js.length:=by omega
  have ej:js[i]?=some js[i]:=yoa hi';have hlt:js[i]<es.size:=hj _ (ywn hi');have ee:es[js[i]]?=some es[js[i]]:=yud hlt;refine zcib (j:=js[i]) (tk:=0) (e:=es[js[i]]) st.1 st.2.1 rfl st.2.2 ?_ ee λh' g sb=>?_
  ·rw[yjl,yxb,ej];rfl
  ·exact hQ _ h' s.toks ⟨_,_,ej,ee,rfl⟩ ⟨g,st.2.1.keep λo e=>(sb.2 a h1).trans e,let ⟨o,e,r⟩:=st.2.2;⟨o,(sb.2 tp h2).trans e,r⟩⟩ λb o hb e=>(sb.2 b λz=>hb (by rw[z];exact yqa)).trans e
 done:=λs Q E st hQ=>by
  refine zklb hh st.1 st.2.1 rfl st.2.2 ?_ λh' k=>hQ h' s.toks λb o hb e=>k b o (λz=>hb (by rw[z];exact yqa)) e;rw[yjl,yxb,yzb (by omega)];rfl
 self:=λi s Q E st h=>zmcb st.1 h
theorem zsab (hh:A.handled=none){it a:Addr}(h1:a≠it)(es:Array (Int×Value))(ep:Nat)(t:yre)(ord:List Value)(R:Nat->Nat->Prop)
  (hs:∀(A:Around) (E:Value->Shared->Prop) (i slot:Nat) (s:Shared) (Q:Option (Value×Nat)->Shared->Prop),i<es.size->R slot i->SObj s.heap a es ep t->(∀x nx,ord[i]?=some x->R nx (i+1)->Q (some (x,nx)) s)->wpAny (model prog w) A (yil a slot i ep) Q E s)
  (he:∀(A:Around) (E:Value->Shared->Prop) (slot:Nat) (s:Shared) (Q:Option (Value×Nat)->Shared->Prop),R slot es.size->SObj s.heap a es ep t->Q none s->wpAny (model prog w) A (yil a slot es.size ep) Q E s) :
  Walks prog w A it [it,a] [it] es.size (λi v=>ord[i]?=some v) (λi h=>(∃slot:Nat,zoab h it a (rawInt slot) i es.size ep∧R slot i)∧SObj h a es ep t) where
 sub:=λb hb=>by
  have e:b=it:=by simpa using hb
  rw[e];exact yqa
 frame:=λi h h' ⟨⟨slot,g,r⟩,so⟩ k=>⟨⟨slot,k it (by simp) _ g,r⟩,so.keep λo e=>k a (by simp) o e⟩
 item:=λi s Q E hi st hQ=>by
  obtain⟨⟨slot,g,r⟩,so⟩:=st;refine znz g so rfl ?_;show wpAny _ _ (yil a ((slot:Int).toNat) i ep >>= _) _ _ _
  rw[yfg];refine yfa (hs _ _ i slot s _ hi r so λx nx hx r'=>?_);dsimp only;refine yfa (yne g (by simp) λh2 g2 sb2=>?_);refine yfa (yne g2 (by simp) λh3 g3 sb3=>?_);have sb:∀b,b≠it->h3.get? b=s.heap.get? b:=λb nb=>(sb3.2 b nb).trans (sb2.2 b nb);refine yra ⟨_,rfl,yra (hQ _ h3 s.toks hx ⟨⟨nx,g3,r'⟩,so.keep λo e=>(sb a h1).trans e⟩ λb o hb e=>(sb b λz=>hb (by rw[z];exact yqa)).trans e)⟩
 done:=λs Q E st hQ=>by
  obtain⟨⟨slot,g,r⟩,so⟩:=st;refine znz g so rfl ?_;show wpAny _ _ (yil a ((slot:Int).toNat) es.size ep >>= _) _ _ _
  rw[yfg];refine yfa (he _ _ slot s _ r so ?_);dsimp only;refine yfa (yne g (by simp) λh2 g2 sb2=>?_);refine zxab hh λh' k=>hQ h' s.toks λb o hb e=>k b o ?_;exact (sb2.2 b λz=>hb (by rw[z];exact yqa)).trans e
 self:=λi s Q E ⟨⟨slot,g,_⟩,_⟩ h=>zmcb g h
end
end SSet
namespace SSet
open PySem PySem.Spec PyProof.Rows
theorem zzp {α:Type}{vs ord:List α}(hl:vs.length=ord.length)(h:∀(i:Nat) v,vs[i]?=some v->ord[i]?=some v):vs=ord:=by
 refine List.ext_getElem? λi=>?_
 by_cases hi:i<vs.length
 ·rw[yoa hi];exact (h i _ (yoa hi)).symm
 ·rw[yzb (by omega),yzb (by omega)]
section
variable {prog:ysb}{w:World}{A:Around}{E:Value->Shared->Prop}{s:Shared}
theorem zbab {es:List (Int×Value)}{D:List Str}{vs:List Value}(hel:yln (yqc prog w) es)(hp:(es.map λe=>strOf e.2).Perm D)(hv:vs.Perm (es.map (·.2))):∃ys,yhk vs ys∧ys.Perm D:=by
 refine⟨vs.map strOf,strsAre_map vs λv hm=>?_,?_⟩
 ·obtain⟨e,he,rfl⟩:=ykb.mp (hv.mem_iff.mp hm);obtain⟨x,t,e1,_⟩:=zmpb hel he;exact⟨x,t,e1⟩
 ·refine (hv.map strOf).trans ?_;rw[yrh];exact hp
theorem znib {es:Array (Int×Value)}{js:List Nat}(hj:js.Perm (yof es.size)){vs:List Value}(hl:vs.length=es.size)(h:∀(i:Nat) v,vs[i]?=some v->∃j e,js[i]?=some j∧es[j]?=some e∧v=e.2):vs.Perm (es.toList.map (·.2)):=by
 have ev:vs=js.map λj=>(es.toList.getD j (0,.none)).2:=by
  refine zzp (by rw[yaa,hj.length_eq,yyj,hl]) λi v hv=>?_;obtain⟨j,e,h1,h2,rfl⟩:=h i v hv;rw[yxb,h1];show some (es.toList.getD j (0,.none)).2=some e.2
  rw[ypc,ywd,h2];rfl
 rw[ev];refine (hj.map _).trans (yxj.of_eq ?_);refine zzp (by simp) λi v hv=>?_;rw[yxb] at hv
 by_cases hi:i<es.size
 ·rw[List.getElem?_range hi] at hv;have hv':(es.toList.getD i (0,.none)).2=v:=ynb hv;rw[yxb,← hv',ypc,yoa (by simpa using hi)];rfl
 ·rw[yzb (by simp;omega)] at hv;cases hv
theorem zbob {a:Addr}{D:List Str}{Q:Value->Shared->Prop}(hh:A.handled=none)(hS:SS prog w s.heap a D (!w.params.followText "set-order"))
  (h:∀(h':Heap) (d':Drawn) (I:Addr) (n:Nat) (fp:List Addr) (P:Nat->Value->Prop) (St:Nat->Heap->Prop),(∀b o,s.heap.get? b=some o->h'.get? b=some o)->s.heap.objs.size≤I->(∀b∈fp,b=a∨s.heap.objs.size≤b) →
   Walks prog w A I fp [I] n P St->St 0 h'->n=D.length->(∀vs:List Value,vs.length=n->(∀(i:Nat) v,vs[i]?=some v->P i v)->∃ys,yhk vs ys∧ys.Perm D)->Q (.ref I) { s with heap:=h',drawn:=d' }) :
  wpAny (model prog w) A (pyIter (.ref a)) Q E s:=by
 obtain⟨o,es,ep,t,ho,hex,hd,hel,hp,hb,hf,hl,hpl⟩:=hS;have hT:s.TypeIs (.ref a) "set":=⟨o,ho,hex.1⟩;have so:SObj s.heap a es ep t:=⟨o,ho,hex.1,hd,hf⟩;have hz:es.size=D.length:=by rw[← hp.length_eq,yaa,ymb]
 have alt:a<s.heap.objs.size:=ysa ho;refine wpAny_pyIter_slot hT ykl (ymf ykl hT zvsb ?_ (PySem.F.args_set_iter_1 _));unfold ygh.«frozenset.__iter__»;refine yfa (m:=ygh.Frozenset.slot0 "__iter__" _) (yra ?_);refine yfa (m:=ygh.Frozenset.sizeOf a) (yfa (wpAny_setEntries_of ho hd hf (yra ?_)));refine yfa (m:=setDrawn a) (yfa (yde ho hd hf (yfa (m:=ysl) (yfa (yng (yra (yra ?_)))))));dsimp only;have jp:∀{first:Value} {h1:Heap} {d1:Drawn},SObj h1 a es ep t->Q (.ref h1.objs.size) { s with heap:=h1.push { cls:=.type "set_iterator",dict:=none,data:=.fields #[first,rawInt (0:Nat),.ref a,rawInt es.size,rawInt ep],slots:=#[] },drawn:=d1 } →
   wpAny (model prog w) A.in1 (do
    let e ← setEpoch a
    let v ← newFields "set_iterator" [first,rawInt 0,Value.ref a,rawInt es.size,rawInt e]
    ret v) (λfin s'=>∃v,fin=Fin.done (Flow.ret v)∧∃T' r,s'.TypeIs v T'∧typeLookup (Value.type T') (yfl "__next__")=pure (some r)∧Q v s') E { s with heap:=h1,drawn:=d1 }:=by
  intro first h1 d1 ⟨o1,e1,e2,e3,e4⟩ q
  refine yfa (m:=setEpoch a) (yfa (yde e1 e3 e4 (yra ?_)));refine yfa (m:=newFields _ _) (ywe (yra ⟨_,rfl,"set_iterator",_,⟨_,ywa _ rfl,rfl⟩,zuy.lookup,?_⟩));exact q
 split
 ·rename_i hc;have hc':(!w.params.followText "set-order" && (!t.plain&&decide (es.size>1)))=true:=hc;refine yfa (zfhb es.size (yof es.size) s _ (by simp) λjs d1 pj=>?_);refine yfa (wpAny_newTuple ?_ (by rw[yaa,pj.length_eq,yyj];exact yvj hb));have jl:js.length=es.size:=by rw[pj.length_eq,yyj]
  have jm:∀j∈js,j<es.size:=λj hj=>List.mem_range.mp (pj.mem_iff.mp hj);refine jp (so.keep λo e=>yga _ e) ?_;have sz:(s.heap.push { cls:=.type "tuple",data:=.seq (js.map λ(j:Nat)=>rawInt j).toArray }).objs.size=s.heap.objs.size+1:=yoe _ _;refine h _ d1 _ es.size _ _ _ (λb o e=>yga _ (yga _ e)) (by rw[sz];exact yjh _) ?_ (zudb (a:=a) (tp:=s.heap.objs.size) hh ?_ ?_ es ep t js jl jm) ⟨?_,?_,?_⟩ hz λvs hv hP=>zbab hel hp (znib pj hv hP)
  ·intro b hb';rw[sz] at hb'
   rcases yda.mp hb' with z|z
   ·exact .inr (by rw[z];exact yjh _)
   ·rcases yda.mp z with z|z
    ·exact .inl z
    ·exact .inr (by rw[yca.mp z];exact yxa _)
  ·rw[sz];exact yjb (ymh alt)
  ·rw[sz];exact yjb (ylf _)
  ·exact ywa _ rfl
  ·exact so.keep λo e=>yga _ (yga _ e)
  ·exact⟨_,yga _ (ywa _ rfl),rfl,_,rfl⟩
 ·rename_i hc;have hc':¬ (!w.params.followText "set-order" && (!t.plain&&decide (es.size>1)))=true:=hc;refine yfa (yra (jp (h1:=s.heap) (d1:=s.drawn) so ?_));have fpk:∀b∈[s.heap.objs.size,a],b=a∨s.heap.objs.size≤b:=λb hb'=>by
   rcases yda.mp hb' with z|z
   ·exact .inr (by rw[z];exact yxa _)
   ·exact .inl (yca.mp z)
  have ne:a≠s.heap.objs.size:=yjb alt;cases ft:w.params.followText "set-order" with
  | true =>
   have bt:∀{A':Around} {E':Value->Shared->Prop} {s':Shared} {Q':Bool->Shared->Prop},Q' true s'->wpAny (model prog w) A' ysl Q' E' s':=λ{A' E' s' Q'} q=>by
    unfold ysl;refine yfa (yng (yra ?_));show Q' (w.params.followText "set-order") s'
    rw[ft];exact q
   have stp:∀(A:Around) (E:Value->Shared->Prop) (i slot:Nat) (s:Shared) (Q:Option (Value×Nat)->Shared->Prop),SObj s.heap a es ep t->Q (((yoi (w.params.setOrder a ep) es)[i]?).map λe=>(e.2,slot)) s->wpAny (model prog w) A (yil a slot i ep) Q E s:=by
    intro A E i slot s Q ⟨o1,e1,e2,e3,e4⟩ q;unfold yil;refine yfa (yde e1 e3 e4 ?_);dsimp only;refine yfa (bt ?_);rw[if_pos rfl,if_neg (by simp)];unfold setWalk;refine yfa (yfa (yde e1 e3 e4 (yfa (bt ?_))));rw[if_pos rfl];exact yfa (yng (yra (yra q)))
   have po:=zgkb (w.params.setOrder a ep) es;have pz:(yoi (w.params.setOrder a ep) es).size=es.size:=(by rw[← ymb,po.length_eq,ymb]);refine h _ s.drawn _ es.size _ _ _ (λb o e=>yga _ e) (yxa _) fpk (zsab (a:=a) hh ne es ep t ((yoi (w.params.setOrder a ep) es).toList.map (·.2)) (λslot _=>slot=0) ?_ ?_) ⟨⟨0,ywa _ rfl,rfl⟩,so.keep λo e=>yga _ e⟩ hz λvs hv hP=>?_
   ·intro A E i slot s Q hi r so' q;have e1:(yoi (w.params.setOrder a ep) es)[i]?=some (yoi (w.params.setOrder a ep) es)[i]:=yud (by omega);refine stp A E i slot s Q so' ?_;rw[e1];exact q _ _ (by rw[yxb,ywd,e1];rfl) r
   ·intro A E slot s Q r so' q;refine stp A E _ slot s Q so' ?_;rw[yfh (by omega)];exact q
   ·refine zbab hel hp ?_;have e1:vs=(yoi (w.params.setOrder a ep) es).toList.map (·.2):=zzp (by rw[hv,yaa,ymb,pz]) hP;rw[e1];exact po.map _
  | false =>
   rw[ft] at hc' hl;have sm:es.size≤1:=by
    rcases hpl with z|z
    ·omega
    ·rw[z] at hc';simp at hc';exact hc'
   have bt:∀{A':Around} {E':Value->Shared->Prop} {s':Shared} {Q':Bool->Shared->Prop},Q' false s'->wpAny (model prog w) A' ysl Q' E' s':=λ{A' E' s' Q'} q=>by
    unfold ysl;refine yfa (yng (yra ?_));show Q' (w.params.followText "set-order") s'
    rw[ft];exact q
   have stp:∀(A:Around) (E:Value->Shared->Prop) (i slot:Nat) (s:Shared) (Q:Option (Value×Nat)->Shared->Prop),SObj s.heap a es ep t->Q (match es[yqf t.place slot]?,t.place[yqf t.place slot]? with|some (_,x),some j=>some (x,j+1)|_,_=>none) s->wpAny (model prog w) A (yil a slot i ep) Q E s:=by
    intro A E i slot s Q ⟨o1,e1,e2,e3,e4⟩ q;unfold yil;refine yfa (yde e1 e3 e4 ?_);dsimp only;refine yfa (bt ?_);rw[if_neg (by simp)];have nd:¬ (!t.plain&&decide (es.size>1))=true:=by
     rw[decide_eq_false (by omega),yvc];exact yab
    refine yah (λz=>absurd z nd) (λ_=>?_);have nl:¬ (!t.led && !es.isEmpty)=true:=by
     rw[hl];simp
    refine yfa (yah (λz=>absurd z nl) (λ_=>yra ?_));exact yra q
   have ps:t.place.size=es.size:=by
    have z:=hf;unfold yre.fits at z;simp at z;exact z.1
   refine h _ s.drawn _ es.size _ _ _ (λb o e=>yga _ e) (yxa _) fpk (zsab (a:=a) hh ne es ep t (es.toList.map (·.2)) (λslot i=>(i=0∧slot=0)∨(i=1∧∃j,t.place=#[j]∧slot=j+1)) ?_ ?_) ⟨⟨0,ywa _ rfl,.inl ⟨rfl,rfl⟩⟩,so.keep λo e=>yga _ e⟩ hz λvs hv hP=>?_
   ·intro A E i slot s Q hi r so' q;have i0:i=0:=(by omega);subst i0;have s0:slot=0:=by
     rcases r with⟨_,z⟩|⟨z,_⟩
     ·exact z
     ·cases z
    subst s0;obtain⟨j,ej⟩:∃j,t.place=#[j]:=by
     rcases Array.size_eq_one_iff.mp (show t.place.size=1 by omega) with⟨j,z⟩
     exact⟨j,z⟩
    have e1:es[0]?=some es[0]:=yud hi;refine stp A E 0 0 s Q so' ?_;have bl:yqf t.place 0=0:=by
     rw[ej];simp[yqf,ynn]
    rw[bl,e1,ej];exact q _ _ (by rw[yxb,ywd,e1];rfl) (.inr ⟨rfl,j,ej,rfl⟩)
   ·intro A E slot s Q r so' q;refine stp A E _ slot s Q so' ?_;have en:es[yqf t.place slot]?=none:=by
     rcases r with⟨z,y⟩|⟨z,j,ej,y⟩
     ·exact yfh (by omega)
     ·have bl:yqf t.place slot=1:=by
       rw[ej,y];simp[yqf,ynn]
      rw[bl];exact yfh (by omega)
    rw[en];exact q
   ·refine zbab hel hp ?_;have e1:vs=es.toList.map (·.2):=zzp (by rw[hv,yaa,ymb]) hP;rw[e1]
end
end SSet
namespace SSet
open PySem PySem.Spec PyProof.Rows PySem.W
section
variable {prog:ysb}{w:World}{A:Around}{E:Value->Shared->Prop}{s:Shared}
theorem zdob {r:Addr}{Q:Bool->Shared->Prop}(ty:s.TypeIs (.ref r) "set")(q:Q false s):wpAny (model prog w) A (ypi (.ref r)) Q E s:=by
 unfold ypi;refine yfa (wpAny_specialOf ty PySem.F.slot_set_len.lookup ?_);generalize hx:("set.__len__":String)=nm
 wp_delta
 rw[show splitId nm=some ("set","__len__") from by subst hx;decide +kernel];subst hx;refine yfa (wpAny_isInstance (b:=true) (T:="set") ty (by rw[yvl];kernel_rfl) ?_);refine yah (λz=>absurd z (by decide)) (λ_=>?_);refine yah (λ_=>?_) (λz=>absurd (by decide +kernel) z);exact yfa (wpAny_typeOf ty (yra q))
theorem zyeb {a:Addr}{D:List Str}{R:List Value->Shared->Prop}(hh:A.handled=none)(hS:SS prog w s.heap a D (!w.params.followText "set-order"))
  (h:∀(h':Heap) (d':Drawn) (tk:Nat) (vs:List Value) (ys:List Str),(∀b o,s.heap.get? b=some o->h'.get? b=some o)->s.heap.objs.size<h'.objs.size->yhk vs ys->ys.Perm D->R vs { s with heap:=h',drawn:=d',toks:=tk }) :
  wpAny (model prog w) A (collect (.ref a)) R E s:=by
 obtain⟨oA,hoA⟩:∃o,s.heap.get? a=some o:=let ⟨o,_,_,_,e,_⟩:=hS;⟨o,e⟩;have alt:a<s.heap.objs.size:=ysa hoA;have dz:D.length≤yua:=by
  obtain⟨o,es,ep,t,_,_,_,_,hp,hb,_⟩:=hS;rw[← hp.length_eq,yaa,ymb];exact yvj hb
 have nSa:s.heap.objs.size≠a:=yyi alt;unfold collect;refine yfa (wpAny_runValue (yze entry_proto_collect' ?_));rw[yse PySem.F.plain_proto_collect _];show wpAny _ A.in1 (newList [] >>= λl=>again (.builtin "list.__iadd__" ⟨[l,.ref a],[]⟩)) _ _ s
 refine yfa (ywe (yra ⟨ybi yik _,yze entry_list_iadd' ?_⟩));rw[yse yik _];show wpAny _ A.in1 (yqi (.ref s.heap.objs.size) (.ref a) (.ref s.heap.objs.size)) _ _ _
 unfold yqi;have S1:SS prog w (s.heap.push { cls:=.type "list",data:=.seq ([]:List Value).toArray }) a D (!w.params.followText "set-order"):=hS.keep λo e=>yga _ e;have g1:(s.heap.push { cls:=.type "list",data:=.seq ([]:List Value).toArray }).get? s.heap.objs.size=some { cls:=.type "list",dict:=none,data:=.seq #[] 0,slots:=#[] }:=ywa _ rfl;have k1:∀b o,s.heap.get? b=some o->(s.heap.push { cls:=.type "list",data:=.seq ([]:List Value).toArray }).get? b=some o:=λb o e=>yga _ e;generalize s.heap.push { cls:=.type "list",data:=.seq ([]:List Value).toArray }=h1 at S1 g1 k1 ⊢;have ty1:ypm { s with heap:=h1 } (.ref a) "set":=by
  obtain⟨o,es,ep,t,ho,hex,_⟩:=S1;exact⟨o,ho,hex.1⟩
 refine yfa (wpAny_typeOf (T:="set") ty1 ?_);have ns:yzj (.ref s.heap.objs.size) (.ref a)=false:=by simp[yzj,nSa]
 simp only[ns,show (Value.type "set" == Value.type "list")=false by decide,show (Value.type "set" == Value.type "tuple")=false by decide,Bool.or_false,ymm,if_false];refine yfa (zbob (s:={ s with heap:=h1 }) (A:=A.in1) hh S1 λh2 d2 I n fp P St k2 hI hfp W st hn hv=>?_);have ty2:ypm { s with heap:=h2,drawn:=d2 } (.ref a) "set":=by
  obtain⟨o,e,c⟩:=ty1;exact⟨o,k2 _ _ e,c⟩
 have slt:s.heap.objs.size<h1.objs.size:=ysa g1;have nf:s.heap.objs.size∉fp:=λz=>by
  rcases hfp _ z with z|z
  ·exact nSa z
  ·exact absurd (yka slt z) (yhc _)
 have key:∀(R':Result->Shared->Prop) (h3:Heap) (c:Nat),St 0 h3->(∀b o,b≠s.heap.objs.size->h2.get? b=some o->h3.get? b=some o)->h3.get? s.heap.objs.size=some { cls:=.type "list",dict:=none,data:=.seq #[] c,slots:=#[] } →
   (∀(h4:Heap) (tk:Nat) (vs:List Value) (ys:List Str) (c':Nat),(∀b o,s.heap.get? b=some o->h4.get? b=some o)->yhk vs ys->ys.Perm D->h4.get? s.heap.objs.size=some { cls:=.type "list",dict:=none,data:=.seq vs.toArray c',slots:=#[] }->R' (.ok (.ret (.ref s.heap.objs.size))) { s with heap:=h4,drawn:=d2,toks:=tk }) →
   yog (model prog w) A (.builtin "list.extend.loop" ⟨[.ref s.heap.objs.size,.ref I,.ref s.heap.objs.size],[]⟩) R' { s with heap:=h3,drawn:=d2 }:=by
  intro R' h3 c st3 k3 g3 hR;refine codeAny_extend_loopS W.toS (by omega) s.heap.objs.size nf _ n 0 _ #[] c rfl (ydc _) st3 g3 (ItemsOf.nil _) λs' acc c' mv g' ia=>?_;rw[Moved.eq_with mv];obtain⟨ys,sy,py⟩:=hv acc.toList (by rw[ymb];exact ia.1) λi v e=>ia.2 i v (by rw[← ywd];exact e);refine hR s'.heap s'.toks acc.toList ys c' (λb o e=>?_) sy py (by rw[yxh];exact g');have nb:b≠s.heap.objs.size:=yjb (ysa e);refine mv.heap b o (λz=>?_) (k3 b o nb (k2 b o (k1 b o e)))
  rcases yda.mp z with z|z
  ·exact nb z
  ·have bi:b=I:=yca.mp z;have:=ysa (k1 b o e);rw[bi] at this;exact absurd (yka this hI) (yhc _)
 have g2:=k2 _ _ g1;have fin:∀(h4:Heap) (tk:Nat) (vs:List Value) (ys:List Str) (c':Nat),(∀b o,s.heap.get? b=some o->h4.get? b=some o)->yhk vs ys->ys.Perm D->h4.get? s.heap.objs.size=some { cls:=.type "list",dict:=none,data:=.seq vs.toArray c',slots:=#[] } →
   wpAny (model prog w) A (load s.heap.objs.size >>= λo=>match o.data with
    | .seq xs _=>pure xs.toList
    | _=>unsupported "internal:collect") R E { s with heap:=h4,drawn:=d2,toks:=tk }:=λh4 tk vs ys c' k4 sy py g4=>by
  refine yfa (yzm g4 ?_);show wpAny _ _ (pure vs.toArray.toList) _ _ _
  exact yra (h h4 d2 tk vs ys k4 (ysa g4) sy py)
 refine yfa (ysd (zdob ty2 ?_));refine yah (λ_=>?_) (λ_=>yra ⟨ybi ymj _,key _ h2 0 st (λb o _ e=>e) g2 fin⟩);refine yfa (wpAny_rule (yfa ?_));show wpAny _ _ (updateSeq s.heap.objs.size (·.push .none) >>= λ_=>updateSeq s.heap.objs.size (·.pop)) _ _ _
 refine yfa (wpAny_updateSeq g2 rfl ?_);have g3:=yvd (ydi (·.push Value.none)) g2 rfl;refine wpAny_updateSeq (hz:=by seq_fits) g3 rfl ?_;have g4:=yvd (ydi (·.pop)) g3 rfl;refine yra ⟨ybi ymj _,key _ _ _ ?_ (λb o nb e=>?_) g4 fin⟩
 ·refine W.frame 0 _ _ st λb hb o e=>?_;have nb:s.heap.objs.size≠b:=λz=>nf (z▸hb);exact (ywc _ _ nb).trans ((ywc _ _ nb).trans e)
 ·exact (ywc _ _ (ysc nb)).trans ((ywc _ _ (ysc nb)).trans e)
theorem zuhb {a:Addr}{D:List Str}{Q:Value->Shared->Prop}(hh:A.handled=none)(hS:SS prog w s.heap a D (!w.params.followText "set-order"))(h64:D.length<64)
  (h:∀(h':Heap) (d':Drawn) (tk:Nat) (p:Addr) (vs:List Value) (ys:List Str) (n:Nat),(∀b o,s.heap.get? b=some o->h'.get? b=some o)->s.heap.objs.size≤p->h'.get? p=some { cls:=.type "list",data:=.seq vs.toArray n }->yhk vs ys->ys.Perm D->yri ys=true →
   Q (.ref p) { s with heap:=h',drawn:=d',toks:=tk }):wpAny (model prog w) A (call (.builtin "sorted") [.ref a]) Q E s:=by
 refine Calls.call_function_entry kind_sorted plain_sorted entry_sorted (args_sorted1 _) ?_;unfold ygh.«sorted»;refine yfa (m:=checkCount "sorted" 1 1 _) (yra (yfa (zyeb (A:=A.in1) hh hS λh1 d1 tk vs ys k1 lt1 sy py=>?_)));have vl:vs.length<64:=by rw[sy.length,py.length_eq];exact h64
 refine yfa (wpAny_newList ?_ (ypa (yxf vl) (by decide)));have g1:(h1.push (seqObj "list" vs.toArray 0)).get? h1.objs.size=some (seqObj "list" vs.toArray 0):=ywa _ rfl;refine yfa (ysd (ymf slot_list_sort ⟨_,g1,rfl⟩ entry_list_sort (list_sort_treeK strKind_oneLt g1 sy.keysOf (λv1 v2 rest e=>keyKind_strs (by rw[← e];exact sy)) vl λst' a1 a2=>⟨_,rfl,?_⟩) (args_list_sort _)));obtain⟨zs,z1,z2,z3⟩:=sorted_out_str sy a1 a2;obtain⟨e,he⟩:=sortedHeap_at (vs:=vs) (out:=(arrOf st').map (·.2)) g1;refine yra ⟨_,rfl,h _ d1 tk h1.objs.size ((arrOf st').map (·.2)).toList zs e (λb o q=>?_) (yxf lt1) ?_ z1 (z2.trans py) z3⟩
 ·have q1:=k1 b o q;have bl:=ysa q1;rw[sortedHeap_old (yjb bl) (by rw[size_push'];exact ymh bl)];exact yga _ q1
 ·rw[yxh];exact he
end
end SSet
namespace L2
open PySem PySem.Spec PyProof.Rows
theorem strs_vals':∀{vs:List Value} {ys:List Str},yhk vs ys->Vals (ys.map V.str) vs
 | _,_,.nil=>.nil
 | _,_,.cons x t r=>.cons ⟨t,rfl⟩ (strs_vals' r)
def setO (X:Cx)(l:Addr)(D:List Str):HO:=.ext λh=>SSet.SS X.prog X.w h l D (!X.w.params.followText "set-order")
section
variable {X:Cx}
theorem Inv.zgrb {pins:List (Addr×Obj)}{σ:St}{H:Hp}{s:Shared}(I:Inv X pins σ H s)(d:Drawn):Inv X pins σ H { s with drawn:=d } :=
 I.call (h':=s.heap) (g':=s.gens) (d':=d) (t':=s.toks) (ch:=[]) (Un.kept λb o e=>e) I.hok I.bare (λb z=>absurd z (by simp))
theorem zvq (hc:X.calm=true):zim X (.type "set") (λxs H Q=>Ex2 λp ys=>xs=[.ref p]∧SqL X.K H p (ys.map V.str)∧ys.length≤1000∧∀l,H l=none->Q (.ref l) (upd H l (setO X l (SSet.dd ys)))):=by
 intro pins s σ H xs us Q I r h;obtain⟨p,ys,rfl,hq,hy,q⟩:=h;obtain⟨u,rfl,ru⟩:=vals1 r;cases ru;obtain⟨its,rv,pl,hz⟩:=I.list hq;have sy:=zjm rv;have il:its.length=ys.length:=sy.length;refine SSet.set_list (xs:=ys) (I.ok.hd hc) pl.isList (by simpa using sy) (by rw[ybb,il];have:yuj=4096:=rfl;omega) λh' tk S k=>?_;have I1:Inv X pins σ (upd H s.heap.objs.size (setO X s.heap.objs.size (SSet.dd ys))) { s with heap:=h',toks:=tk }:=I.laid (t':=tk) (λb o e=>k b o e) (yxa _) ⟨S,let ⟨o,_,_,_,e,_⟩:=S;⟨o,e⟩,λh1 h2 x y=>x.keep y⟩;exact⟨.ref s.heap.objs.size,_,I1,rfl,q _ (I.hok.fresh (yxa _))⟩
theorem zfw (hc:X.calm=true):zim X (.builtin "sorted") (λxs H Q=>Ex2 λl D=>xs=[.ref l]∧H l=some (setO X l D)∧D.length<64∧∀p ys,H p=none->ys.Perm D->yri ys=true->Q (.ref p) (upd H p (.lst (ys.map V.str)))):=by
 intro pins s σ H xs us Q I r h;obtain⟨l,D,rfl,hl,h64,q⟩:=h;obtain⟨u,rfl,ru⟩:=vals1 r;cases ru;obtain⟨S,_,_⟩:=I.hok l _ hl;refine SSet.zuhb (I.ok.hd hc) S h64 λh' d' tk p vs ys n k hp g sy py so=>?_;have I0:=I.zgrb d';have vl:vs.length≤yua:=by
  rw[sy.length,py.length_eq];exact ypa (yxf h64) (by decide)
 have I1:Inv X pins σ (upd H p (.lst (ys.map V.str))) { s with heap:=h',drawn:=d',toks:=tk }:=I0.laid (t':=tk) (λb o e=>k b o e) hp ⟨by rw[yaa,← sy.length];exact vl,vs,n,strs_vals' sy,g⟩;exact⟨.ref p,_,I1,rfl,q p ys (I.hok.fresh hp) py so⟩
end
end L2
namespace L2
open PySem PySem.Spec PyProof.Rows
theorem zlob {x:Str}:∀{v:Value},KTD.flatLooks (.str x) v=true->RelV (.str x) v
 | .str y t,h=>⟨t,by rw[show x=y from beq_iff_eq.mp h]⟩
theorem zky:∀{ss:List Str} {vs:List Value},KTD.flatsLook (ss.map PyData.str) vs=true->Vals (ss.map V.str) vs
 | [],[],_=>.nil
 | x::ss,v::vs,h=>by
  rw[ytb] at h;have h':(KTD.flatLooks (.str x) v&&KTD.flatsLook (ss.map PyData.str) vs)=true:=h;rw[yub] at h';exact .cons (zlob h'.1) (zky h'.2)
def TupK (K:yba)(a:Addr)(ss:List Str):Prop:=ytg (λb=>K.lookup b) (.tup (ss.map PyData.str)) (.ref a)=true
theorem TupK.sq {K:yba}{a:Addr}{ss:List Str}(h:TupK K a ss)(hz:ss.length≤1000)(H:Hp):SqT K H a (ss.map V.str):=by
 unfold TupK ytg at h;simp only at h
 split at h
 ·rename_i o ho;rw[yub] at h;obtain⟨e1,e2⟩:=h
  split at e2
  ·rename_i vs n hd;have V:=zky e2;have hl:=V.length;refine .inr ⟨o,vs,n,ho,beq_iff_eq.mp e1,hd,?_,V⟩;rw[yaa] at hl;have:vs.size=ss.length:=by simpa using hl.symm
   rw[this];exact ypa hz (by decide)
  ·cases e2
 ·cases h
theorem zvnb {K:yba}{ss:List Str}:∀{v:Value},ytg (λb=>K.lookup b) (.tup (ss.map PyData.str)) v=true->∃b,v = .ref b∧TupK K b ss
 | .ref b,h=>⟨b,rfl,h⟩
section
variable {X:Cx}{a:Addr}{D:List (Str×ykn)}
abbrev TabK (K:yba)(a:Addr)(D:List (Str×ykn)):Prop:=ydo (ytg λb=>K.lookup b) (λb=>K.lookup b) a D=true
theorem zjsb {K:yba}(hK:X.K=K)(l:TabK K a D):IxR X (λx y H Q=>Ex2 λk ss=>x = .ref a∧y = .str k∧yqe k D=some (.tup (ss.map PyData.str))∧∀b,TupK K b ss->Q (.ref b) H):=by
 subst hK;intro value slice pins s σ H x y v u Q I rx ry h hs;obtain⟨k,ss,rfl,rfl,hat,q⟩:=h;cases rx;obtain⟨tk,rfl⟩:=ry;obtain⟨_,o,es,ep,ho,hc,hd,hr⟩:=KTD.tab_of_look (R:=λd v=>ytg (λb=>X.K.lookup b) d v=true) (λ_ _ z=>z) (h:=s.heap) (λb o z=>I.kIn b o z) l;obtain⟨z,hz,hl⟩:=hr.find_some hat
 obtain⟨b,rfl,hb⟩:=zvnb hl;have ty:s.TypeIs (.ref a) "dict":=⟨o,ho,hc.1⟩;refine yeh (x:=.ref b) ty yye.lookup ?_ hs;unfold getItem
 try with_reducible refine ysd ?_
 refine yfa (wpAny_sequenceKey ty (by decide) ?_);refine yfa (yyg (name:=yfl "__getitem__") ty yye
  (ymf yye ty entry_dict_getitem ?_ (args_dict_getitem _ _)))
 have fin:∀k',EP X pins σ Q (.ref b) { s with toks:=k' }:=λk'=>⟨.ref b,H,I.tok _,rfl,q b hb⟩;have fnd:findBy (λk v=>v.isStr k) es k=some (.ref b):=by
  rw[← hz];obtain⟨l⟩:=es;simp[findBy]
 show wpAny _ _ (dictGet a (.str k tk) >>= _) _ _ s
 refine yfa ?_;unfold dictGet
 try with_reducible refine ysd ?_
 refine yfa (wpAny_pyHash_str (yfa (KTD.kt_dictFind_strs (s:={ s with toks:=s.toks+1 }) ho hd (by obtain⟨l⟩:=es;simpa using hr.exact) ?_)));rw[findBy_of_findIdx?] at fnd;cases hi:es.findIdx? λe=>e.key.isStr k with
 | none=>rw[hi] at fnd;cases fnd
 | some i =>
  rw[hi] at fnd;refine yfa (wpAny_dictEntries (s:={ s with toks:=s.toks+1 }) ho hd (yra ?_));rw[show es[i]?.map (·.val)=some (.ref b) from fnd];exact yra ⟨_,rfl,yra ⟨rfl,fin _⟩⟩
end
structure Isi (K:yba)(C:Addr):Prop where
 ha:yya K (.ref C) "__class__" = some (some (.builtin "object.__class__"))
 hn:yih K (.builtin "object.__class__") "__get__" = some (some (.builtin "getset_descriptor.__get__"))
 ht:yxk K (.builtin "object.__class__")=some true
 hm:yim K C (.type "object")=some true
 oStr:yfb K (.ref C) (.type "str")=some false
 oInt:yfb K (.ref C) (.type "int")=some false
 oTup:yfb K (.ref C) (.type "tuple")=some false
 oLst:yfb K (.ref C) (.type "list")=some false
 sO:yfb K (.type "str") (.ref C)=some false
 iO:yfb K (.type "int") (.ref C)=some false
theorem Isi.self {K:yba}{C:Addr}(h:Isi K C):yfb K (.ref C) (.ref C)=some true:=by
 unfold yfb;rw[if_pos (by simp)]
theorem Isi.ty {K:yba}{C a dx:Addr}{fs:List (Str×V)}{H:Hp}(h:Isi K C)(cl:Cls K C)(e:H a=some (.ins C dx fs)):TyOf K H (.ref a) (.ref C):=.ins e cl h.ha h.hn h.ht h.hm
end L2
namespace L2
open PySem PySem.Spec PyProof.Rows
section
variable {X:Cx}
theorem zqnb:MtR X "str.join" (λx xs H Q=>Ex3 λsep a ys=>x = .str sep∧xs=[.ref a]∧SqT X.K H a (ys.map V.str)∧(ys.map (·.length)).sum+ys.length*sep.length≤16777216∧Q (.str (yea sep ys)) H):=by
 intro pins s σ H x xs v us Q I rx rs h;obtain⟨sep,a,ys,rfl,rfl,hq,hz,q⟩:=h;obtain⟨t,rfl⟩:=rx;obtain⟨u,rfl,ru⟩:=vals1 rs;cases ru;obtain⟨its,rv,p,_⟩:=I.tuple hq;refine join_tuple (items:=its.toArray) (ys:=ys) p (by simpa using zjm rv) hz λt' k=>⟨.str _,H,I.tok k,⟨t',rfl⟩,?_⟩;have e:Txt.join sep ys=yea sep ys:=by first|rfl|exact yel sep ys
 rw[e];exact q
theorem zdm:zim X (.builtin "sorted") (λxs H Q=>Ex2 λl zs=>xs=[.ref l]∧SqL X.K H l (zs.map V.str)∧zs.length<64∧∀p ys,H p=none->ys.Perm zs->yri ys=true->Q (.ref p) (upd H p (.lst (ys.map V.str)))):=by
 intro pins s σ H xs us Q I r h;obtain⟨l,zs,rfl,hl,h64,q⟩:=h;obtain⟨u,rfl,ru⟩:=vals1 r;cases ru;obtain⟨its,rv,pl,_⟩:=I.list hl;have sy:=zjm rv;refine sorted_strs (vs:=its) (ss:=zs) pl.isList sy (by rw[sy.length];exact h64) λout ys a1 a2 a3=>?_;obtain⟨e,he⟩:=sortedAll_at s.heap its out;have vl:out.toList.length≤yua:=by
  rw[a1.length,a2.length_eq];exact ypa (yxf h64) (by decide)
 have I1:Inv X pins σ (upd H (s.heap.objs.size+1) (.lst (ys.map V.str))) { s with heap:=sortedAll s.heap its out }:=I.laid (t':=s.toks) (λb o e=>sortedAll_old e) (yjh _) ⟨by rw[yaa,← a1.length];exact vl,out.toList,e,strs_vals' a1,by rw[yxh];exact he⟩;exact⟨.ref (s.heap.objs.size+1),_,I1,rfl,q _ ys (I.hok.fresh (yjh _)) a2 a3⟩
end
end L2
namespace TSort
open PySem PyProof.Rows
abbrev IL:=List Int
section keys
variable (k:Value->IL)
def ka (xs:Array Keyed)(i:Nat):IL:=((xs[i]?).map λp=>k p.1).getD []
def Up (xs:Array Keyed)(n:Nat):Prop:=∀i j,i<j->j<n->ka k xs i<ka k xs j
variable {k}
end keys
structure Ok (a0:Array Keyed)(kd:SortKind)(st:SortSt):Prop where
 perm:(arrOf st).Perm a0
 kind:kindOf st=kd
 none:failedOf st=none
 pend:pendingOf st=#[]
section
variable {pr:ysb}{wo:World}{Ar:Around}{Ex:Value->Shared->Prop}{sh:Shared}{k:Value->IL}{a0:Array Keyed}{kd:SortKind}
structure Cmp (pr:ysb)(wo:World)(Ar:Around)(Ex:Value->Shared->Prop)(sh:Shared)(k:Value->IL)(a0:Array Keyed)(kd:SortKind):Prop where
 lt:∀(x y:Keyed) (st:SortSt) (R:Option Bool->SortSt->Prop),kindOf st=kd->x∈a0.toList->y∈a0.toList->k x.1≠k y.1->R (some (decide (k x.1<k y.1))) st->wpS (model pr wo) Ar Ex sh (lt' x y) R st
 un:(a0.toList.map λp=>k p.1).Nodup
end
end TSort
namespace TSort
open PySem PyProof.Rows
section
variable {pr:ysb}{wo:World}{Ar:Around}{Ex:Value->Shared->Prop}{sh:Shared}{k:Value->IL}{a0:Array Keyed}{kd:SortKind}
structure Fin (k:Value->IL)(a0:Array Keyed)(st:SortSt):Prop where
 perm:(arrOf st).Perm a0
 none:failedOf st=none
 pend:pendingOf st=#[(0,a0.size,0)]
 up:Up k (arrOf st) a0.size
end
end TSort
namespace TSort
open PySem PyProof.Rows
def kf (f:Addr->IL):Value->IL
 | .ref a=>f a
 | _=>[]
section
variable {pr:ysb}{wo:World}{Ar:Around}{Ex:Value->Shared->Prop}{sh:Shared}
end
end TSort
namespace TSort
open PySem PyProof.Rows
section
variable {pr:ysb}{wo:World}{Ar:Around}{Ex:Value->Shared->Prop}{sh:Shared}
end
end TSort
namespace L2
open PySem PyProof.Rows
section
variable {X:Cx}
end
end L2
namespace L2
open PySem PyProof.Rows
section
variable {pr:ysb}{wo:World}{Ar:Around}{Ex:Value->Shared->Prop}
end
section
variable {X:Cx}
end
end L2
namespace L2
open PySem PyProof.Rows
section
variable {X:Cx}
inductive TyB (K:yba)(H:Hp):V->Value->Prop where
 | non:TyB K H .non (.type "NoneType")
 | bl (x:Bool):TyB K H (.bl x) (.type "bool")
 | int (i:Int):TyB K H (.int i) (.type "int")
 | str (x:Str):TyB K H (.str x) (.type "str")
 | lst {a:Addr} {xs:List V} (e:SqL K H a xs):TyB K H (.ref a) (.type "list")
 | tup {a:Addr} {xs:List V} (e:SqT K H a xs):TyB K H (.ref a) (.type "tuple")
end
end L2
namespace L2
open PySem PySem.Spec PyProof.Rows
section
variable {κ:Type}[DecidableEq κ]
def valV (kvs:List (κ×V))(k:κ):Option V:=(kvs.find? λkv=>decide (kv.1=k)).map (·.2)
end
section
variable {P:ysb}{w:World}{H:Hp}{h:Heap}{a:Addr}
end
section
variable {X:Cx}{pins:List (Addr×Obj)}{σ:St}{H:Hp}{s:Shared}{a:Addr}{y v:V}{u r:Value}{o:Option V}{A:Around}{E:Value->Shared->Prop}
end
section
variable {X:Cx}{pins:List (Addr×Obj)}{σ:St}{H:Hp}{s:Shared}{a:Addr}{kvs:List (Key×V)}{k:Key}{u:Value}{A:Around}{E:Value->Shared->Prop}
end
section
variable {X:Cx}{o i e value:Expr}{pos pos' tpos:Pos}{td ty tv:TE}
end
section
variable {X:Cx}{pos:Pos}
end
structure M1 (X:Cx)(o:Expr)(m:Str)(apos:Pos)(e:Expr)(cpos:Pos):Prop where
 base:yvg o m X.env (eval o X.env)=eval o X.env
 few:((backTo cpos (yec [e] X.env)).all (λx=>!x.1)&&(ykm cpos (yki [] X.env)).all (λx=>x.1.isSome)
  && decide (([e]:List Expr).length+([]:List yzk).length+(if ([]:List yzk).isEmpty then 0 else 1)<30))=true
 line:(apos.endLine==cpos.line)=true
 trees:backTo cpos (yec [e] X.env)=[(false,eval e X.env)]
structure M2 (X:Cx)(o:Expr)(m:Str)(apos:Pos)(e f:Expr)(cpos:Pos):Prop where
 base:yvg o m X.env (eval o X.env)=eval o X.env
 few:((backTo cpos (yec [e,f] X.env)).all (λx=>!x.1)&&(ykm cpos (yki [] X.env)).all (λx=>x.1.isSome)
  && decide (([e,f]:List Expr).length+([]:List yzk).length+(if ([]:List yzk).isEmpty then 0 else 1)<30))=true
 line:(apos.endLine==cpos.line)=true
 trees:backTo cpos (yec [e,f] X.env)=[(false,eval e X.env),(false,eval f X.env)]
section
variable {X:Cx}{pins:List (Addr×Obj)}{σ:St}{H:Hp}{s:Shared}{a:Addr}{y d:V}{u r:Value}{o:Option V}{A:Around}{E:Value->Shared->Prop}
end
section
variable {X:Cx}{o e f:Expr}{apos cpos:Pos}{td ty tx:TE}
end
section
variable {X:Cx}{pins:List (Addr×Obj)}{σ:St}{H:Hp}{s:Shared}{a:Addr}{kvs:List (Key×V)}{A:Around}{E:Value->Shared->Prop}
end
section
variable {X:Cx}{pins:List (Addr×Obj)}{σ:St}{H:Hp}{s:Shared}{a:Addr}{y:V}{u:Value}{A:Around}{E:Value->Shared->Prop}
end
end L2
namespace L2
open PySem PyProof.Rows
section
variable {pr:ysb}{wo:World}{Ar:Around}{Ex:Value->Shared->Prop}{sh:Shared}
end
section
variable {X:Cx}{pins:List (Addr×Obj)}{σ:St}{H:Hp}{s:Shared}{h':Heap}
end
section
variable {X:Cx}
end
end L2
namespace L2
open PySem PyProof.Rows
section
variable {X:Cx}{e st:Expr}{te ts:TE}{p2 pos:Pos}
end
end L2
namespace DL
open PySem PySem.Spec PyProof.Rows
section
variable {prog:ysb}{w:World}{A:Around}{E:Value->Shared->Prop}{s:Shared}
section
variable {κ:Type}[DecidableEq κ]{knd:KeyKind prog w κ}
end
end
end DL
namespace L2
open PySem PyProof.Rows
section
variable {X:Cx}
end
end L2
namespace SSet
open PySem PySem.Spec PyProof.Rows
section
variable {prog:ysb}{w:World}{A:Around}{E:Value->Shared->Prop}{s:Shared}
end
end SSet
namespace L2
open PySem PyProof.Rows
section
variable {X:Cx}
end
end L2
namespace L2
open PySem PySem.Spec PyProof.Rows PySem.MeetsSeq
section
variable {X:Cx}
end
end L2
namespace L2
open PySem PyProof.Rows
section
variable {X:Cx}
end
end L2
namespace DK
open PySem PySem.Spec PyProof.Rows
section
variable {prog:ysb}{w:World}{A:Around}{E:Value->Shared->Prop}{s:Shared}
end
end DK
namespace L2
open PySem PyProof.Rows
section
variable {X:Cx}{pins:List (Addr×Obj)}{σ:St}{H:Hp}{s:Shared}
end
section
variable {X:Cx}
end
end L2
namespace L2
open PySem PyProof.Rows
section
variable {X:Cx}
end
end L2
namespace L2
open PySem PyProof.Rows
section
open PySem.SeqAt PySem.MeetsSeq
open AutoSeq1 (wpAny_loadPart')
end
section
variable {X:Cx}
end
section
open TSort
end
section
variable {pr:ysb}{wo:World}{A:Around}{R:Result->Shared->Prop}{I S:Addr}{fp wr:List Addr}{n:Nat}{P:Nat->Value->Prop}{St:Nat->Heap->Prop}{h0:Heap}
end
section
variable {pr:ysb}{wo:World}{A:Around}{E:Value->Shared->Prop}{s:Shared}
end
section
variable {X:Cx}
end
end L2
namespace L2
open PySem PySem.Spec PyProof.Rows
def XAt (h:Heap)(x:Addr)(cls:Value)(T:Addr):Prop:=∃(oe oT:Obj) (vs ts:Array Value) (a0:Value),h.get? x=some oe∧(oe.cls=cls∧vs[0]?=some a0)∧oe.data = .fields vs∧vs[1]?=some (.ref T)∧T≠x∧h.get? T=some oT∧oT.data = .fields ts∧ts[3]?=some .none
def CX1 (P:ysb)(w:World):CXT:=λouter H s E e s'=>∃(x T:Addr) (cls:Value) (H':Hp),e = .ref x∧s'.os=s.os∧yek s'.gens∧Un (frs outer) [] H H' s.heap s'.heap∧HOk P w H' s'.heap∧XAt s'.heap x cls T∧s.heap.get? x=none∧s.heap.get? T=none∧H' x=none∧H' T=none∧E cls none H'
theorem HOk.obj {P:ysb}{w:World}{H:Hp}{h:Heap}(x:HOk P w H h){a:Addr}{o:HO}(e:H a=some o):∃u,h.get? a=some u:=by
 have z:=x a o e;cases o with
 | lst xs=>obtain⟨_,_,_,_,e⟩:=z;exact⟨_,e⟩
 | tup xs=>obtain⟨_,_,_,ob,e,_⟩:=z;exact⟨_,e⟩
 | dK kvs=>obtain⟨_,_,_,_,o,_,_,e,_⟩:=z;exact⟨_,e⟩
 | dT kvs=>obtain⟨_,_,_,_,o,_,_,e,_⟩:=z;exact⟨_,e⟩
 | set S n=>obtain⟨o,_,_,_,e,_⟩:=z;exact⟨_,e⟩
 | ins C dx fs=>obtain⟨_,_,_,e,_⟩:=z;exact⟨_,e⟩
 | own y=>exact z
 | xd fs=>obtain⟨_,⟨_,_,_,e,_⟩,_⟩:=z;exact⟨_,e⟩
 | rng lo hi=>obtain⟨_,_,_,e⟩:=z;exact⟨_,e⟩
 | frz ob u=>obtain⟨e,_⟩:=z;exact⟨_,e⟩
 | tbl ps=>exact⟨_,show h.get? a=some _ from z⟩
 | met f y=>exact⟨_,show h.get? a=some _ from z⟩
 | ext φ=>exact z.2.1
section
variable {X:Cx}{pins:List (Addr×Obj)}{σ:St}{H:Hp}{s:Shared}{E:XK}
theorem zgsb (J:Inv X pins σ H s)(hs:X.stack=X.env::X.outer)(hex:X.ex=[]){B h':Heap}{x:Addr}{cls a0:Value}(fl:yfj B X.outer x cls a0 h')(up:∀b o,b=X.env.locals∨b∈X.fs->s.heap.get? b=some o->(∀vs,o.data ≠ .fields vs)->∃sl,h'.get? b=some { o with slots:=sl })
  (hB:∀b o,s.heap.get? b=some o->b∉frs X.stack->(H b≠none∨X.s₀.heap.get? b≠none)->B.get? b=some o) (n1:X.s₀.heap.get? x=none) (f1:H x=none) (e:E cls none H) :
  CX1 X.prog X.w X.outer X.H₀ X.s₀ E (.ref x) { s with heap:=h' }:=by
 obtain⟨k1,k2,k3,oe,vs,T,oT,ts,g1,g2,g3,g4,g5,g6,g7,g8,g9⟩:=fl;have nst:∀b,b∈frs X.stack->b=X.env.locals∨b∈X.fs:=λb hb=>yda.mp (J.zbu b hb);have old:∀{b:Addr} {o:Obj},X.s₀.heap.get? b=some o->b≠X.env.locals:=λ{b o} q z=>by
  exact absurd (yka (ysa q) J.ok.above) (by rw[z];exact yhc _)
 have stays:∀b o,s.heap.get? b=some o->b∉frs X.stack->(H b≠none∨X.s₀.heap.get? b≠none)->h'.get? b=some o:=λb o q n t=>k1 b o (hB b o q n t);have noEx:∀b,b∉X.ex:=λb z=>by rw[hex] at z;cases z
 have frf:∀b∈X.fs,∃o,s.heap.get? b=some o∧∀vs,o.data ≠ .fields vs:=λb hb=>(J.funs.mem hb).2;have un:Un X.fs [] X.H₀ H X.s₀.heap h':=by
  refine⟨λb o q n nf _=>?_,λb o q n nf _=>?_,λb o q n _=>J.base.free b o q n (noEx b),λb o q _=>?_,J.base.tups,J.base.frzs,J.base.tbls⟩
  ·refine stays b o (J.base.keep b o q n nf (noEx b)) (λz=>?_) (.inr (by rw[q];intro z;cases z))
   rcases nst b z with y|y
   ·exact old q y
   ·exact nf y
  ·obtain⟨sl,q2⟩:=J.base.slot b o q n nf (noEx b);obtain⟨o2,q3,q4⟩:=frf b nf;rw[q2] at q3;cases q3;obtain⟨sl2,q5⟩:=up b _ (.inr nf) q2 q4;exact⟨sl2,q5⟩
  ·obtain⟨o2,q2⟩:=J.base.there b o q (noEx b)
   by_cases c:b∈X.fs
   ·obtain⟨o3,q3,q4⟩:=frf b c;obtain⟨sl,q5⟩:=up b _ (.inr c) q3 q4;exact⟨_,q5⟩
   ·refine⟨o2,stays b o2 q2 (λz=>?_) (.inr (by rw[q];intro z;cases z))⟩
    rcases nst b z with y|y
    ·exact old q y
    ·exact c y
 have hok:HOk X.prog X.w H h':=λb u q=>(J.hok b u q).stay (λc v hc r=>by
  have tr:H c≠none:=by
   rcases hc with z|z
   ·rw[z,q];intro y;cases y
   ·rw[z];intro y;cases y
  exact stays c v r (λz=>tr (J.zxdb c z)) (.inl tr)) (λ_ z=>z) λ_ _ z=>z
 have Tn:T∉frs X.stack:=λz=>by
  rcases nst T z with y|y
  ·obtain⟨m,⟨o,es,ep,ho,hd,_⟩,_⟩:=J.loc;obtain⟨sl,q⟩:=up _ o (.inl rfl) ho λvs q=>by rw[hd] at q;cases q
   rw[y,q] at g7;cases g7;rw[show ({ o with slots:=sl }:Obj).data=o.data from rfl,hd] at g8;cases g8
  ·obtain⟨o3,q3,q4⟩:=frf T y;obtain⟨sl,q5⟩:=up T _ (.inr y) q3 q4;rw[q5] at g7;cases g7;exact q4 ts g8
 have bn:∀{o:Obj},s.heap.get? T=some o->(H T≠none∨X.s₀.heap.get? T≠none)->False:=λ{o} q t=>by
  have:=hB T o q Tn t;rw[g5] at this;cases this
 refine⟨x,T,cls,H,rfl,J.os,J.bare,un,hok,⟨oe,oT,vs,ts,a0,g1,g2,g3,g4,g6,g7,g8,g9⟩,n1,?_,f1,?_,e⟩
 ·cases q:X.s₀.heap.get? T with
  | none=>rfl
  | some o =>
   obtain⟨o2,q2⟩:=J.base.there T o q (noEx T);exact (bn q2 (.inr (by rw[q];intro z;cases z))).elim
 ·cases q:H T with
  | none=>rfl
  | some u =>
   obtain⟨o2,q2⟩:=HOk.obj J.hok q;exact (bn q2 (.inl (by rw[q];intro z;cases z))).elim
theorem leave1 (J:Inv X pins σ H s)(hs:X.stack=X.env::X.outer)(hex:X.ex=[]){x T:Addr}{cls:Value}{E':Value->Shared->Prop}(xa:XAt s.heap x cls T)(n1:X.s₀.heap.get? x=none)(n2:X.s₀.heap.get? T=none)(f1:H x=none)(f2:H T=none)(e:E cls none H) :
  wpAny (model X.prog X.w) X.A (yen X.env (.ref x)) (λ_ s'=>CX1 X.prog X.w X.outer X.H₀ X.s₀ E (.ref x) s') E' s:=by
 obtain⟨oe,oT,vs,ts,a0,g1,g2,g3,g4,g6,g7,g8,g9⟩:=xa;have hf:X.env.frame=some X.env.locals:=by
  rcases J.ok.stk with z|z
  ·rw[hs] at z;have:=congrArg ype z;simp at this
  ·exact z.2
 have hin:∀env∈X.env::X.outer,∀b,env.frame=some b->b∈frs X.stack++[x,T]:=λenv he b hb=>ycc _ (by rw[hs];exact yke.mpr ⟨env,he,hb⟩);have mx:x∈frs X.stack++[x,T]:=yeb _ (by simp);have mT:T∈frs X.stack++[x,T]:=yeb _ (by simp);have fl:yfj (ykd s.heap (frs X.stack++[x,T])) (X.env::X.outer) x cls a0 s.heap :=
  ⟨λb o q=>yuf _ q,yed _ mx,ytf (by rw[← hs];exact J.stack) hin,oe,vs,T,oT,ts,g1,g2,g3,g4,yed _ mT,g6,g7,g8,g9⟩
 refine wpAny_leaves_onW (by rw[← hs];exact J.ok.frames) hf fl λh' fl' up=>zgsb J hs hex fl' (λb o _=>up b o) (λb o q n t=>?_) n1 f1 e;refine yff _ q λz=>?_
 rcases yna.mp z with y|y
 ·exact n y
 ·simp only[yda,ycb,or_false] at y
  rcases y with y|y
  ·rw[y] at t
   rcases t with t|t
   ·exact t f1
   ·exact t n1
  ·rw[y] at t
   rcases t with t|t
   ·exact t f2
   ·exact t n2
theorem zpvb (J:Inv X pins σ H s)(hs:X.stack=X.env::X.outer)(hex:X.ex=[]){x:Addr}{cls:Value}{args:List Value}{h1:Heap}{E':Value->Shared->Prop}(mx:Heap.MadeExcOf s.heap h1 x cls args)(e:E cls none H) :
  wpAny (model X.prog X.w) X.A (yen X.env (.ref x)) (λ_ s'=>CX1 X.prog X.w X.outer X.H₀ X.s₀ E (.ref x) s') E' { s with heap:=h1 }:=by
 have hf:X.env.frame=some X.env.locals:=by
  rcases J.ok.stk with z|z
  ·rw[hs] at z;have:=congrArg ype z;simp at this
  ·exact z.2
 have hin:∀env∈X.env::X.outer,∀b,env.frame=some b->b∈frs X.stack:=λenv he b hb=>by rw[hs];exact yke.mpr ⟨env,he,hb⟩
 have J1:Inv X pins σ H { s with heap:=h1 }:=J.call (h':=h1) (g':=s.gens) (d':=s.drawn) (t':=s.toks) (ch:=[]) (Un.kept λb o q=>mx.keeps b o q) (J.hok.kept λb o q=>mx.keeps b o q) J.bare (λb z=>absurd z (by simp));have n1:X.s₀.heap.get? x=none:=by
  cases q:X.s₀.heap.get? x with
  | none=>rfl
  | some o =>
   obtain⟨o2,q2⟩:=J.base.there x o q (by rw[hex];intro z;cases z);rw[mx.new] at q2;cases q2
 have f1:H x=none:=by
  cases q:H x with
  | none=>rfl
  | some u =>
   obtain⟨o2,q2⟩:=HOk.obj J.hok q;rw[mx.new] at q2;cases q2
 refine wpAny_leaves_madeW (s:={ s with heap:=h1 }) (h:=s.heap) (base:=ykd s.heap (frs X.stack)) (by rw[← hs];exact J.ok.frames) hf (λb o q=>yuf _ q) (ytf (by rw[← hs];exact J.stack) hin) mx λh' t fl' _ _ up=>?_;have z:=zgsb (s:={ s with heap:=h1 }) J1 hs hex fl' (λb o _=>up b o) (λb o q n t=>?_) n1 f1 e
 ·exact z
 ·have there:∃o2,s.heap.get? b=some o2:=by
   rcases t with t|t
   ·cases q2:H b with
    | none=>exact absurd q2 t
    | some u=>exact HOk.obj J.hok q2
   ·cases q2:X.s₀.heap.get? b with
    | none=>exact absurd q2 t
    | some u=>exact J.base.there b u q2 (by rw[hex];intro z;cases z)
  obtain⟨o2,q2⟩:=there;have q3:=mx.keeps b o2 q2;have q':h1.get? b=some o:=q;rw[q'] at q3;cases q3;exact yff _ q2 n
end
section
variable {P:ysb}{w:World}{K:yba}{mg:Str->Option Value}{base:Heap}{N:List Str}{qual:Str}{scope:Scope}{f:Addr}{cd:Value}{A:Around}{outer:List Env}{s:Shared}{H:Hp}{E:XK}
theorem zxd:Passes (CX1 P w) (cxOf (CX1 P w) P w K mg base N qual scope f cd A outer s H E) E:=by
 intro pins σ H1 s1 e s' I h;obtain⟨x,T,cls,H',rfl,os,bare,un,hok,xa,n1,n2,f1,f2,he⟩:=h;have J:=I.call' (H':=H') (ch:=[]) os un hok bare (λb z=>absurd z (by simp));have up:∀{b:Addr},s1.heap.get? b=none->s.heap.get? b=none:=λ{b} q=>by
  cases q2:s.heap.get? b with
  | none=>rfl
  | some o =>
   obtain⟨o2,q3⟩:=I.base.there b o q2 (λz=>by cases z);rw[q] at q3;cases q3
 exact leave1 J rfl rfl xa (up n1) (up n2) f1 f2 he
end
end L2
namespace L2
open PySem PySem.Spec PyProof.Rows
abbrev zntb:List Value:=[.type "ValueError",.type "Exception",.type "BaseException",.type "object"]
def ExcC (K:yba)(C:Addr):Prop:=ylo K C zntb "ValueError.__new__" = true
theorem zteb {K:yba}{h:Heap}{C:Addr}(X:K.In h)(q:ExcC K C) :
  ∃bm N nm qn bs hdct sn sub ab col dd k0 k1 k2 k3 k5 mN,h.get? C=some (yjk nm qn C N bs bm hdct sn sub ab col dd k0 k1 k2 k3 k5 "ValueError.__new__")∧h.Ns N mN∧mN "__init__" = none∧OwnTail h zntb bm:=by
 unfold ExcC ylo at q
 split at q
 ·rename_i dd cd sl ho
  split at q
  ·rename_i C' bm k0 k1 k2 k3 n k5 hm hs;simp only[yub,beq_iff_eq,yin] at q;obtain⟨⟨⟨⟨⟨rfl,rfl⟩,hdel⟩,ht⟩,hok⟩,hni⟩:=q;obtain⟨nm,bs,mro,ns,qn,hd,sn,sub,ab,col,del⟩:=cd;dsimp only at hm hdel hok hni;subst hm hdel;have hsl:sl=#[k0,k1,k2,k3,some (.builtin "ValueError.__new__"),k5]:=by
    obtain⟨l⟩:=sl;simp only at hs;rw[hs]
   subst hsl;exact⟨bm,ns,nm,qn,bs,hd,sn,sub,ab,col,dd,k0,k1,k2,k3,k5,_,X _ _ ho,.of_isNs (PySem.W.isNs_of_in X hok),PySem.W.nsMap_none_of_in X hok hni,PySem.W.tail_of_in X ht⟩
  ·cases q
 ·cases q
def Raises (X:Cx)(E:XK):Prop:=∀(pins:List (Addr×Obj)) (σ:St) (H:Hp) (s:Shared) (x:Addr) (cls:Value) (args:List Value) (h1:Heap),Inv X pins σ H s->Heap.MadeExcOf s.heap h1 x cls args->E cls none H->X.xe (.ref x) { s with heap:=h1 }
theorem zsm {P:ysb}{w:World}{K:yba}{mg:Str->Option Value}{base:Heap}{N:List Str}{qual:Str}{scope:Scope}{f:Addr}{cd:Value}{A:Around}{outer:List Env}{s:Shared}{H:Hp}{E:XK}:Raises (cxOf (CX1 P w) P w K mg base N qual scope f cd A outer s H E) E :=
 λpins σ H1 s1 x cls args h1 I mx e=>zpvb I rfl rfl mx e
def zztb (C:Addr)(E:XK)(te:TE):TS:=λ_ σ H=>te σ H λ_ H1=>E (.ref C) none H1
theorem zxg {X:Cx}{e:Expr}{te:TE}{x:Str}{np cpos pos:Pos}{C:Addr}{E:XK}(hc:X.calm=true)(hg:Gl X x)(hm:X.mg x=some (.ref C))(q:ExcC X.K C)(R:Raises X E)(he:PE X e te)
  (hdb:(x==("__debug__":Str))=false:=by decide) (hst:backTo cpos (yec [e] X.env)=(false,eval e X.env)::[]:=by rfl) :
  PS X (.Raise (some (.Call (.Name x np) [e] [] cpos)) none pos) (zztb C E te):=by
 intro pins s σ H D I h;obtain⟨bm,N,nm,qn,bs,hdct,sn,sub,ab,col,dd,k0,k1,k2,k3,k5,mN,hC,hN,hni,TL⟩:=zteb I.mod.kin q;refine wpAny_Raise_call_subU (C:=C) (nm:=nm) (q:=qn) (N:=N) (bs:=bs) (bm:=bm) (hdct:=hdct) (sn:=sn) (sub:=sub) (ab:=ab) (col:=col) (dd:=dd) (k0:=k0) (k1:=k1) (k2:=k2) (k3:=k3) (k5:=k5) (mN:=mN)
  yxi (by decide) yxi (TL.hasType (by decide)) (I.ok.hd hc) (by rw[hst];rfl) hni (zvv I hg hm ⟨rfl,?_⟩ hdb)
 rw[hst];refine ytl (yjm (thn (he pins s σ H _ I h) λv s1 ⟨y,H1,I1,r,q1⟩=>ycn ⟨rfl,(by show 1≤yua;decide),I1.bk _ _ hC,hN.keeps I1.bk,TL.keeps I1.bk,λh' e mx=>R pins σ H1 s1 e _ _ h' I1 mx q1⟩))
end L2
namespace L2
open PySem PySem.Spec PyProof.Rows
def subIn (K:yba)(C D:Addr):Bool:=match K.lookup C with
 | some ⟨_,_,.cls cd,_⟩=>cd.mro.contains (.ref D)
 | _=>false
theorem zbub {K:yba}{h:Heap}{C D:Addr}(X:K.In h)(q:subIn K C D=true){nm qn:Str}{N:Addr}{bs bm:List Value}{hdct:Bool}{sn:List Str}{sub:List Value}{ab:Bool}{col:Option Bool}{dd:Option Addr}{k0 k1 k2 k3 k5:Option Value}{newId:String}
  (hC:h.get? C=some (yjk nm qn C N bs bm hdct sn sub ab col dd k0 k1 k2 k3 k5 newId)):(Value.ref C::bm).contains (.ref D)=true:=by
 unfold subIn at q
 split at q
 ·rename_i c d cd sl ho;have z:=X _ _ ho;rw[hC] at z;unfold yjk at z;injection z with z
  injection z with _ _ z3 _
  injection z3 with z3
  rw[← z3] at q;exact q
 ·cases q
section
variable {M:Model}{A:Around}{E:Value->Shared->Prop}
theorem zfx {C D N N':Addr}{nm q nm' q':Str}{bs bm bs' bm':List Value}{hdct hdct':Bool}{sn sn':List Str}{sub sub':List Value}{ab ab':Bool}{col col':Option Bool}{dd dd':Option Addr}{k0 k1 k2 k3 k5 l0 l1 l2 l3 l5:Option Value}{newId newId':String}
  {h:Heap} {g:Array GenState} {d:Drawn} {t:Nat} {os:OsState} {e:Addr} {oe:Obj} {Q:Bool->Shared->Prop}
  (hC:h.get? C=some (yjk nm q C N bs bm hdct sn sub ab col dd k0 k1 k2 k3 k5 newId)) (hD:h.get? D=some (yjk nm' q' D N' bs' bm' hdct' sn' sub' ab' col' dd' l0 l1 l2 l3 l5 newId'))
  (he:h.get? e=some oe) (hcls:oe.cls = .ref C) (hbase:bm'.contains (.type "BaseException")=true) (hsub:(Value.ref C::bm).contains (.ref D)=true)
  (hq:Q true ⟨h,g,d,t,os⟩):wpAny M A (excMatches (.ref e) (.ref D)) Q E ⟨h,g,d,t,os⟩:=by
 have hcB:(Value.ref D::bm').contains (.type "BaseException")=true:=by rw[List.contains_cons,hbase,Bool.or_true]
 have f:=tc_notTuple;unfold excMatches
 repeat (first|(with_reducible refine yee he ?_;rw[hcls])|with_reducible refine yee hD ?_|(with_reducible refine wpAny_isSubtype_exc hD ?_;rw[hcB])|(with_reducible refine wpAny_isSubtype_exc hC ?_;rw[hsub])|wp_step)
 exact hq
end
def excO (x:Addr)(cls:Value):HO:=.ext λh=>∃o,h.get? x=some o∧o.cls=cls
abbrev Cx.held (X:Cx)(x:Addr)(E:Value->Shared->Prop):Cx:={ X with A:=X.A.mark (some (.ref x)),calm:=false,xe:=E }
section
variable {X:Cx}{pins:List (Addr×Obj)}{σ:St}{H:Hp}{s:Shared}
theorem Inv.held (I:Inv X pins σ H s)(x:Addr)(E:Value->Shared->Prop):Inv (X.held x E) pins σ H s :=
 ⟨⟨I.ok.mod,I.ok.kind,I.ok.glob,I.ok.blt,I.ok.above,I.ok.inj,I.ok.has,I.ok.cab,(λz=>by cases z),I.ok.frames,I.ok.stk,I.ok.exf,I.ok.bs,I.ok.bsz,I.ok.noex,I.ok.exfs,I.ok.funs,I.ok.frf⟩,I.os,I.bare,I.base,I.loc,I.cell,I.free,I.freeC,I.pin,I.hok,I.len⟩
theorem Inv.zjgb {x:Addr}{E:Value->Shared->Prop}(ok:X.Ok)(I:Inv (X.held x E) pins σ H s):Inv X pins σ H s :=
 ⟨ok,I.os,I.bare,I.base,I.loc,I.cell,I.free,I.freeC,I.pin,I.hok,I.len⟩
theorem Inv.zdub (J:Inv X pins σ H s){x T:Addr}(n1:X.s₀.heap.get? x=none)(n2:X.s₀.heap.get? T=none)(f1:H x=none)(f2:H T=none)(px:∀p∈X.pn++pins,p.1≠x∧p.1≠T)(hex:X.ex=[])
  {h':Heap} (k1:(ykd s.heap (frs X.stack++[x,T])).StaysIn h') (up:s.heap.UpToSlots h'):Inv X pins σ H { s with heap:=h' }:=by
 have noEx:∀b,b∉X.ex:=λb z=>by rw[hex] at z;cases z
 have nst:∀b,b∈frs X.stack->b=X.env.locals∨b∈X.fs:=λb hb=>yda.mp (J.zbu b hb);have keep:∀b o,s.heap.get? b=some o->b≠X.env.locals->b∉X.fs->b≠x->b≠T->h'.get? b=some o:=λb o q h1 h2 h3 h4=>by
  refine k1 b o (yff _ q λz=>?_)
  rcases yna.mp z with y|y
  ·rcases nst b y with w|w
   ·exact h1 w
   ·exact h2 w
  ·simp only[yda,ycb,or_false] at y
   rcases y with w|w
   ·exact h3 w
   ·exact h4 w
 have old:∀{b:Addr} {o:Obj},X.s₀.heap.get? b=some o->b≠X.env.locals∧b≠x∧b≠T:=λ{b o} q =>
  ⟨λz=>absurd (yka (ysa q) J.ok.above) (by rw[z];exact yhc _),(λz=>by rw[z,n1] at q;cases q),(λz=>by rw[z,n2] at q;cases q)⟩
 have cellUp:∀{c:Addr} {v:Option Value},s.heap.IsCell c v->h'.IsCell c v:=λ{c v} hc=>by
  obtain⟨o,ho,hd⟩:=hc;obtain⟨sl,q⟩:=up c o ho λvs z=>by rw[hd] at z;cases z
  exact⟨_,q,hd⟩
 refine⟨J.ok,J.os,J.bare,?_,?_,λy c hc=>?_,J.free,J.freeC,λp hp=>?_,λb u q=>?_,J.len⟩
 ·refine⟨λb o q n nf _=>?_,λb o q n nf _=>?_,J.base.free,λb o q _=>?_,J.base.tups,J.base.frzs,J.base.tbls⟩
  ·obtain⟨o1,o2,o3⟩:=old q;exact keep b o (J.base.keep b o q n nf (noEx b)) o1 nf o2 o3
  ·obtain⟨sl,q2⟩:=J.base.slot b o q n nf (noEx b);obtain⟨_,o2,q3,q4⟩:=J.funs.mem nf;rw[q2] at q3;cases q3;obtain⟨sl2,q5⟩:=up b _ q2 q4;exact⟨sl2,q5⟩
  ·obtain⟨o2,q2⟩:=J.base.there b o q (noEx b);obtain⟨p1,p2,p3⟩:=old q
   by_cases c:b∈X.fs
   ·obtain⟨_,o3,q3,q4⟩:=J.funs.mem c;obtain⟨sl,q5⟩:=up b _ q3 q4;exact⟨_,q5⟩
   ·exact⟨o2,keep b o2 q2 p1 c p2 p3⟩
 ·obtain⟨m,hn,hl⟩:=J.loc;refine⟨m,up.ns hn,λi y v e1 e2 e3=>?_⟩;obtain⟨u,r,lk⟩:=hl i y v e1 e2 e3;refine⟨u,r,?_⟩
  rcases lk with z|⟨z,c,hc,hi⟩
  ·exact .inl z
  ·exact .inr ⟨z,c,hc,cellUp hi⟩
 ·obtain⟨v,hv⟩:=J.cell y c hc;exact⟨v,cellUp hv⟩
 ·obtain⟨p1,p2,p3,p4,p5⟩:=J.pin p hp;obtain⟨e1,e2⟩:=px p hp;exact⟨keep _ _ p1 p3 p4 e1 e2,p2,p3,p4,p5⟩
 ·refine (J.hok b u q).stay (λc v hc r=>?_) (λ_ z=>z) λ_ _ z=>z;have tr:H c≠none:=by
   rcases hc with z|z
   ·rw[z,q];intro y;cases y
   ·rw[z];intro y;cases y
  refine keep c v r (λz=>?_) (λz=>?_) (λz=>?_) λz=>?_
  ·rw[z] at tr;exact tr J.free
  ·exact tr (J.base.free c _ (J.ok.funs.mem z).2.choose_spec.1 (J.ok.frf c z) (noEx c))
  ·rw[z] at tr;exact tr f1
  ·rw[z] at tr;exact tr f2
theorem Inv.track (I:Inv X pins σ H s){x:Addr}{o:HO}(f1:H x=none)(n1:X.s₀.heap.get? x=none)(hl:x≠X.env.locals)(hc:∀y c,X.env.cells.lookup y=some c->c≠x)(px:∀p∈X.pn++pins,p.1≠x)
  (new:zol X.prog X.w (upd H x o) s.heap x o):Inv X pins σ (upd H x o) s:=by
 refine⟨I.ok,I.os,I.bare,?_,I.loc,I.cell,by rw[zfb (ysc hl)];exact I.free,λy c h=>by rw[zfb (hc y c h)];exact I.freeC y c h,λp hp=>?_,λb u q=>?_,I.len⟩
 ·exact⟨I.base.keep,I.base.slot,λb u q n ne=>by rw[zfb λz=>by rw[z,n1] at q;cases q];exact I.base.free b u q n ne,I.base.there,λb xs q=>by rw[zfb λz=>by have:=I.base.tups b xs q;rw[z,f1] at this;cases this];exact I.base.tups b xs q,λb ob u q=>by rw[zfb λz=>by have:=I.base.frzs b ob u q;rw[z,f1] at this;cases this];exact I.base.frzs b ob u q,λb ps q=>by
   obtain⟨more,z⟩:=I.base.tbls b ps q;exact⟨more,by rw[zfb λw=>by rw[w,f1] at z;cases z];exact z⟩⟩
 ·obtain⟨p1,p2,p3⟩:=I.pin p hp;exact⟨p1,by rw[zfb (px p hp)];exact p2,p3⟩
 ·by_cases e:b=x
  ·subst e;rw[zda] at q;cases q;exact new
  ·rw[zfb e] at q;refine (I.hok b u q).stay (λ_ _ _ r=>r) (λc z=>?_) λc xs z=>?_
   ·rw[zfb λw=>by rw[w,f1] at z;cases z];exact z
   ·rw[zfb λw=>by rw[w,f1] at z;cases z];exact z
end
end L2
namespace L2
open PySem PySem.Spec PyProof.Rows
section
variable {X:Cx}{pins:List (Addr×Obj)}{σ:St}{H:Hp}{s:Shared}
theorem ztp {M:Model}{A:Around}{E:Value->Shared->Prop}{k:Nat}{n:Str}{pos:Pos}{Q:Unit->Shared->Prop}(I:Inv X pins σ H s)(hN:X.N.Nodup)(hi:X.N[k]?=some n)(hl:X.env.scope.names.lookup n=some .local)
  (h:∀s',Inv X pins (σ.set k none) H s'->Q () s'):wpAny M A (do bindName X.env n .none;unbindBehindTheSuite X.env n pos) Q E s:=by
 refine yfa (wpAny_bindName (zup (v:=.non) I hN hi (.inl hl) rfl (λs1 I1=>?_) (.inr hl)));unfold unbindBehindTheSuite;refine wpAny_onRaise ?_;obtain⟨m,hn,hlk⟩:=id I1.loc;have hk:k<σ.length:=by rw[I.len];exact (ylb.mp hi).1
 obtain⟨u,_,lk⟩:=hlk k n .non hi (by rw[ysf hk]) (.inl hl);have mn:m n=some u:=by
  rcases lk with z|⟨z,_⟩
  ·exact z.2
  ·have z':X.env.scope.names.lookup n=some .cell∨X.env.scope.names.lookup n=some .free:=z;rw[hl] at z'
   rcases z' with y|y<;>cases y
 have hcls:(X.env.scope.kind == .class||(X.env.scope.kind == .module&&X.env.locals != X.env.globals))=false:=by rw[I.ok.kind];rfl
 have cne:=I1.cne;obtain⟨oL,esL,epL,hoL,hdL,_⟩:=id hn;refine wpAny_unbindName_local hl hn mn hcls λh' u' hn' hs=>h _ ⟨I1.ok,I1.os,I1.bare,⟨λb o e n' hb hx=>?_,λb o e n' hb hx=>?_,I1.base.free,λb o e hx=>?_,I1.base.tups,I1.base.frzs,I1.base.tbls⟩,⟨_,hn',λj y v' e1 e2 e3=>?_⟩,λy c e=>?_,I1.free,I1.freeC,λp hp=>?_,λb ob e=>?_,?_⟩
 ·exact (hs.2 b (yjb (yka (ysa e) I.ok.above))).trans (I1.base.keep b o e n' hb hx)
 ·obtain⟨sl,e1⟩:=I1.base.slot b o e n' hb hx;exact⟨sl,(hs.2 b (yjb (yka (ysa e) I.ok.above))).trans e1⟩
 ·obtain⟨o',e1⟩:=I1.base.there b o e hx;exact⟨o',(hs.2 b (yjb (yka (ysa e) I.ok.above))).trans e1⟩
 ·by_cases hj:j=k
  ·subst hj;rw[ysf hk] at e2;cases e2
  ·rw[yig (ysc hj)] at e2;obtain⟨u2,r,q⟩:=hlk j y v' e1 (by rw[yig (ysc hj)];exact e2) e3;refine⟨u2,r,?_⟩
   rcases q with⟨q1,q2⟩|⟨q1,c,q2,q3⟩
   ·have:y≠n:=λz=>hj (zmz hN e1 (z▸hi));exact .inl ⟨q1,by simp[this,q2]⟩
   ·exact .inr ⟨q1,c,q2,q3.sameBut hs (cne y c q2)⟩
 ·obtain⟨w',z⟩:=I1.cell y c e;exact⟨w',z.sameBut hs (cne y c e)⟩
 ·obtain⟨e,n',ne,nf,d⟩:=I1.pin p hp;exact⟨(hs.2 p.1 ne).trans e,n',ne,nf,d⟩
 ·refine (I1.hok b ob e).stay (λc w' hc q=>(hs.2 c ?_).trans q) (λ_ q=>q) λ_ _ q=>q;rintro rfl
  rcases hc with z|z
  ·rw[← z,I1.free] at e;cases e
  ·rw[I1.free] at z;cases z
 ·rw[List.length_set];exact I.len
def Catches (K:yba)(D0:Addr)(cls:Value):Prop:=∃C,cls = .ref C∧ExcC K C∧subIn K C D0=true
def zmub (k:Nat)(D:Ends):Ends:={ nx:=fun σ H=>D.nx (σ.set k none) H,rt:=D.rt,bk:=fun σ H=>D.bk (σ.set k none) H,ct:=fun σ H=>D.ct (σ.set k none) H }
def tryX (X:Cx)(D0:Addr)(k:Nat)(ts:TS)(D:Ends):XK:=λcls _ H=>Catches X.K D0 cls∧∀(σ:St) (x:Addr),σ.length=X.N.length->H x=none->ts (zmub k D) (σ.set k (some (.ref x))) (upd H x (excO x cls))
theorem zoxb {D0:Addr}{k:Nat}{ts:TS}{D:Ends}{x T:Addr}{cls:Value}{y n:Str}{np hpos:Pos}{b₀:Stmt}{suite:List Stmt}(J:Inv X pins σ H s)(hs:X.stack=X.env::X.outer)(hex:X.ex=[])
  (xa:XAt s.heap x cls T) (n1:X.s₀.heap.get? x=none) (n2:X.s₀.heap.get? T=none) (f1:H x=none) (f2:H T=none) (px:∀p∈X.pn++pins,p.1≠x∧p.1≠T) (cx:∀z c,X.env.cells.lookup z=some c->c≠x)
  (e:tryX X D0 k ts D cls none H) (hg:Gl X y) (hm:X.mg y=some (.ref D0)) (q0:ExcC X.K D0) (hN:X.N.Nodup) (hi:X.N[k]?=some n) (hl:X.env.scope.names.lookup n=some .local) (hsu:∀z,PSs (X.held z λ_ _=>False) (b₀::suite) ts)
  (hdb:(y==("__debug__":Str))=false:=by decide) :
  wpAny (model X.prog X.w) X.A (ymi (.ref x) X.env) (λ_ s₂=>wpAny (model X.prog X.w) X.A (yeo (.ref x) none) (λ_ s₃=>wpAny (model X.prog X.w) X.A (handleBy (.ref x) X.env [.ExceptHandler (some (.Name y np)) (some n) (b₀::suite) hpos]) (SP X pins D) X.xe s₃) X.xe s₂) X.xe s:=by
 obtain⟨oe,oT,vs,ts',a0,g1,g2,g3,g4,g6,g7,g8,g9⟩:=xa;obtain⟨⟨C,rfl,qC,qs⟩,et⟩:=e;have hf:X.env.frame=some X.env.locals:=by
  rcases J.ok.stk with z|z
  ·rw[hs] at z;have:=congrArg ype z;simp at this
  ·exact z.2
 have hin:∀env∈X.env::X.outer,∀b,env.frame=some b->b∈frs X.stack++[x,T]:=λenv he b hb=>ycc _ (by rw[hs];exact yke.mpr ⟨env,he,hb⟩);have mx:x∈frs X.stack++[x,T]:=yeb _ (by simp);have mT:T∈frs X.stack++[x,T]:=yeb _ (by simp);have fl:yfj (ykd s.heap (frs X.stack++[x,T])) (X.env::X.outer) x (.ref C) a0 s.heap :=
  ⟨λb o q=>yuf _ q,yed _ mx,ytf (by rw[← hs];exact J.stack) hin,oe,vs,T,oT,ts',g1,g2,g3,g4,yed _ mT,g6,g7,g8,g9⟩
 refine wpAny_looks_onW (by rw[← hs];exact J.ok.frames) hf fl λh4 held4 up4=>?_;refine wpAny_landsW (s:={ s with heap:=h4 }) held4 λh5 fl5 up5=>?_;have up45:=up4.trans up5;have J5:=J.zdub n1 n2 f1 f2 px hex fl5.1 up45;refine wpAny_handleBy_cons (codeAny_handlers_test (zvv (X:=X.held x λ_ _=>False) (J5.held x _) hg hm ?_ hdb)) (by intro q;cases q);obtain⟨bm,N,nm,qn,bs,hdct,sn,sub,ab,col,dd,k0,k1,k2,k3,k5,mN,hC,hN',hni,TL⟩:=zteb J5.kIn qC;obtain⟨bm',N',nm',qn',bs',hdct',sn',sub',ab',col',dd',l0,l1,l2,l3,l5,mN',hD,hN'',hni',TL'⟩:=zteb J5.kIn q0;obtain⟨ob,hob,hobc⟩:=fl5.there;refine zfx hC hD hob hobc (TL'.hasType (by decide)) (zbub J5.kIn qs hC) ?_;refine codeAny_handlers_suite_as ?_;refine lands_againW (s:={ s with heap:=h5 }) fl5 λh6 fl6 up6=>?_;have J6:=J.zdub n1 n2 f1 f2 px hex fl6.1 (up45.trans up6);obtain⟨ob6,hob6,hobc6⟩:=fl6.there;have xl:x≠X.env.locals:=λz=>by
  obtain⟨m,⟨o,es,ep,ho,hd,_⟩,_⟩:=J.loc;rw[← z,g1] at ho;cases ho;rw[g3] at hd;cases hd
 have J6t:=((J6.held x λ_ _=>False).track (x:=x) (o:=excO x (.ref C)) f1 n1 xl cx (λp hp=>(px p hp).1) ⟨⟨ob6,hob6,hobc6⟩,⟨ob6,hob6⟩,λh1 h2 ⟨o,e1,e2⟩ kk=>⟨o,kk o e1,e2⟩⟩);refine zup (X:=X.held x λ_ _=>False) (v:=.ref x) J6t hN hi (.inl hl) rfl (λs7 I7=>?_) (.inr hl);refine ymc (hsu x pins s7 _ _ (zmub k D) I7 (et σ x J.len f1)) (λf s8 sp=>?_) λ_ _ z=>yce z;cases f with
 | next =>
  obtain⟨σ',H',I8,q8⟩:=sp;exact ztp (I8.zjgb J.ok) hN hi hl λs9 I9=>⟨_,_,I9,q8⟩
 | brk =>
  obtain⟨σ',H',I8,q8⟩:=sp;exact ztp (I8.zjgb J.ok) hN hi hl λs9 I9=>⟨_,_,I9,q8⟩
 | cont =>
  obtain⟨σ',H',I8,q8⟩:=sp;exact ztp (I8.zjgb J.ok) hN hi hl λs9 I9=>⟨_,_,I9,q8⟩
 | ret u =>
  obtain⟨v,σ',H',I8,r8,q8⟩:=sp;exact ztp (I8.zjgb J.ok) hN hi hl λs9 I9=>⟨v,_,_,I9,r8,q8⟩
end
end L2
namespace L2
open PySem PySem.Spec PyProof.Rows
abbrev Cx.tried (X:Cx)(E:Value->Shared->Prop)(pn:List (Addr×Obj)):Cx:={ X with xe:=E,pn:=pn }
section
variable {X:Cx}{pins:List (Addr×Obj)}{σ:St}{H:Hp}{s:Shared}
theorem Cx.Ok.tried {X:Cx}(ok:X.Ok)(E:Value->Shared->Prop)(pn:List (Addr×Obj)):(X.tried E pn).Ok :=
 ⟨ok.mod,ok.kind,ok.glob,ok.blt,ok.above,ok.inj,ok.has,ok.cab,ok.hd,ok.frames,ok.stk,ok.exf,ok.bs,ok.bsz,ok.noex,ok.exfs,ok.funs,ok.frf⟩
theorem Inv.tried (I:Inv X pins σ H s)(E:Value->Shared->Prop):Inv (X.tried E (X.pn++pins)) [] σ H s :=
 ⟨I.ok.tried E _,I.os,I.bare,I.base,I.loc,I.cell,I.free,I.freeC,λp hp=>I.pin p (by rw[yrb] at hp;exact hp),I.hok,I.len⟩
theorem Inv.zwt {E:Value->Shared->Prop}{pins':List (Addr×Obj)}(ok:X.Ok)(I:Inv (X.tried E (X.pn++pins)) pins' σ H s):Inv X pins σ H s :=
 ⟨ok,I.os,I.bare,I.base,I.loc,I.cell,I.free,I.freeC,λp hp=>I.pin p (ycc _ hp),I.hok,I.len⟩
end
section
variable {X:Cx}
theorem zuub {tb:XK->TS}{ts:TS}{D0:Addr}{k:Nat}{y n:Str}{np hpos pos:Pos}{body:List Stmt}{b₀:Stmt}{suite:List Stmt}(hs:X.stack=X.env::X.outer)(hex:X.ex=[])(hg:Gl X y)(hm:X.mg y=some (.ref D0))(q0:ExcC X.K D0)
  (hN:X.N.Nodup) (hi:X.N[k]?=some n) (hl:X.env.scope.names.lookup n=some .local) (hb:∀(E1:XK) (E:Value->Shared->Prop) (pn:List (Addr×Obj)),Passes (CX1 X.prog X.w) (X.tried E pn) E1->PSs (X.tried E pn) body (tb E1))
  (hsu:∀z,PSs (X.held z λ_ _=>False) (b₀::suite) ts) (hdb:(y==("__debug__":Str))=false:=by decide) :
  PS X (.Try body [.ExceptHandler (some (.Name y np)) (some n) (b₀::suite) hpos] [] [] pos) (λD σ H=>tb (tryX X D0 k ts D) D σ H):=by
 intro pins s σ H D I h;refine wpAny_Try_except ?_;have P:Passes (CX1 X.prog X.w) (X.tried (λe s₁=>wpAny (model X.prog X.w) X.A (ymi e X.env) (λ_ s₂=>wpAny (model X.prog X.w) X.A (yeo e none) (λ_ s₃=>wpAny (model X.prog X.w) X.A (handleBy e X.env [.ExceptHandler (some (.Name y np)) (some n) (b₀::suite) hpos]) (SP X pins D) X.xe s₃) X.xe s₂) X.xe s₁) (X.pn++pins)) (tryX X D0 k ts D):=by
  intro pins' σ' H1 s1 e s' I1 hx;obtain⟨x,T,cls,H2,rfl,os,bare,un,hok,xa,n1,n2,f1,f2,he⟩:=hx;have J':=I1.call' (H':=H2) (ch:=[]) os un hok bare (λb z=>absurd z (by simp));have J:Inv X pins σ' H2 s':=J'.zwt I.ok;have up:∀{b:Addr},s1.heap.get? b=none->X.s₀.heap.get? b=none:=λ{b} q=>by
   cases q2:X.s₀.heap.get? b with
   | none=>rfl
   | some o =>
    obtain⟨o2,q3⟩:=I1.base.there b o q2 (λz=>by rw[show (X.tried _ _).ex=X.ex from rfl,hex] at z;cases z);rw[q] at q3;cases q3
  refine zoxb J hs hex xa (up n1) (up n2) f1 f2 (λp hp=>?_) (λz c hc w=>?_) he hg hm q0 hN hi hl hsu hdb
  ·obtain⟨p1,_⟩:=I1.pin p (ycc _ hp);exact⟨(λw=>by rw[w,n1] at p1;cases p1),(λw=>by rw[w,n2] at p1;cases p1)⟩
  ·obtain⟨v,o,ho,_⟩:=I1.cell z c hc;rw[w,n1] at ho;cases ho
 refine ymc (hb _ _ _ P [] s σ H D (I.tried _) h) (λf s₁ sp=>?_) λe s₁ z=>z;have sp':SP X pins D f s₁:=by
  cases f with
  | next=>obtain⟨σ',H',J,q⟩:=sp;exact⟨σ',H',J.zwt I.ok,q⟩
  | brk=>obtain⟨σ',H',J,q⟩:=sp;exact⟨σ',H',J.zwt I.ok,q⟩
  | cont=>obtain⟨σ',H',J,q⟩:=sp;exact⟨σ',H',J.zwt I.ok,q⟩
  | ret u=>obtain⟨v,σ',H',J,r,q⟩:=sp;exact⟨v,σ',H',J.zwt I.ok,r,q⟩
 cases f with
 | next=>exact yug sp'
 | brk=>exact sp'
 | cont=>exact sp'
 | ret u=>exact sp'
end
end L2
namespace L2
open PySem PySem.Spec PyProof.Rows
structure ExcQ (K:yba)(C:Addr):Prop where
 ga:yya K (.ref C) "__getattribute__" = some (some (.builtin "BaseException.__getattribute__"))
 gt:yya K (.ref C) "__getattr__" = some none
 cl:yya K (.ref C) "__class__" = some (some (.builtin "object.__class__"))
 be:ybh K (.ref C) (.type "BaseException")=some true
 ob:ybh K (.ref C) (.type "object")=some true
 is:(yci K C).isSome=true
section
variable {prog:ysb}{w:World}{A:Around}{E:Value->Shared->Prop}{K:yba}{h:Heap}{g:Array GenState}{d:Drawn}{t:Nat}{os:OsState}{a C:Addr}{o:Obj}
theorem zltb {R:Result->Shared->Prop}(Z:ExcQ K C)(X:K.In h)(hx:h.get? a=some o)(hc:o.cls = .ref C)(hq:R (.ok (.ret (.ref C))) ⟨h,g,d,t,os⟩) :
  yog (model prog w) A (.call (.builtin "getset_descriptor.__get__") ⟨[.builtin "object.__class__",.ref a,.ref C],[]⟩) R ⟨h,g,d,t,os⟩:=by
 have hT5:(⟨h,g,d,t,os⟩:Shared).TypeIs (.builtin "object.__class__") "getset_descriptor":=ysh;have f8:=ybm (M:=model prog w) X Z.ob;rw[← F.owner_object_class] at f8;refine ywh ysm.plain F.entry_gs_get (ysm.check _ _ _ _ _ _ _ _ hT5 (F.args_gs_get _ _ _) ?_)
 repeat (any_goals (first|assumption|(with_reducible refine yee hx ?_;rw[hc])|with_reducible refine f8.at ?_|wp_step))
 refine⟨yom _ (by decide +kernel),yze F.entry_object_class ?_⟩
 repeat (any_goals (first|assumption|(with_reducible refine yee hx ?_;rw[hc])|wp_step))
theorem zkmb {M:Model}{nameV:Value}{Q:Unit->Shared->Prop}(Z:ExcQ K C)(X:K.In h)(hx:h.get? a=some o)(hc:o.cls = .ref C)(hq:Q () ⟨h,g,d,t,os⟩) :
  wpAny M A (ypk "BaseException.__getattribute__" ⟨[.ref a,nameV],[]⟩) Q E ⟨h,g,d,t,os⟩:=by
 have hk:builtinKind "BaseException.__getattribute__" = some .slot:=by decide +kernel
 have hsplit:splitId "BaseException.__getattribute__" = some ("BaseException","__getattribute__"):=by decide +kernel
 have f8:=ybm (M:=M) X Z.be;have ha:=F.args_bexc_ga (.ref a) nameV;simp only[ypk,hk,hsplit];refine yfa ?_
 ·unfold yrl
  repeat (first|(with_reducible refine yee hx ?_;rw[hc])|with_reducible refine f8.at ?_|wp_step)
  exact hq
theorem zjmb {tk:Tok}{Q:Fin->Shared->Prop}(Z:ExcQ K C)(X:K.In h)(hx:h.get? a=some o)(hc:o.cls = .ref C)(hq:Q (.done (.ret (.ref C))) ⟨h,g,d,t,os⟩) :
  wpAny (model prog w) A (ygh.«object.__getattribute__» ⟨[.ref a,.str "__class__" tk],[]⟩) Q E ⟨h,g,d,t,os⟩:=by
 have hT5:(⟨h,g,d,t,os⟩:Shared).TypeIs (.builtin "object.__class__") "getset_descriptor":=ysh;have f4:=yjg (M:=model prog w) X Z.cl;have f5:=ysh;have f6:=ysm.lookup;have f7:=F.slot_gs_set.lookup
 repeat (any_goals (first|assumption|(with_reducible refine yee hx ?_;rw[hc])|with_reducible refine f4.at ?_|wp_step))
 refine zltb Z X hx hc ?_
 repeat (any_goals (first|assumption|wp_step))
theorem zwpb {tk:Tok}{R:Result->Shared->Prop}(Z:ExcQ K C)(X:K.In h)(hx:h.get? a=some o)(hc:o.cls = .ref C)(hq:R (.ok (.ret (.ref C))) ⟨h,g,d,t,os⟩) :
  yog (model prog w) A (.call (.builtin "BaseException.__getattribute__") ⟨[.ref a,.str "__class__" tk],[]⟩) R ⟨h,g,d,t,os⟩ :=
 ywh yul.ga.plain F.entry_bexc_ga (zkmb Z X hx hc (zjmb Z X hx hc hq))
theorem zwwb {tk:Tok}{Q:Value->Shared->Prop}(Z:ExcQ K C)(X:K.In h)(hx:h.get? a=some o)(hc:o.cls = .ref C)(hq:Q (.ref C) ⟨h,g,d,t,os⟩) :
  wpAny (model prog w) A (getAttrBy (.ref a) (.str "__class__" tk) false) Q E ⟨h,g,d,t,os⟩:=by
 have f3:=yul.ga.bind (.ref a);have f1:=yjg (M:=model prog w) X Z.ga;have f2:=yjg (M:=model prog w) X Z.gt;have hx2:(Value.builtin "BaseException.__getattribute__" == Value.builtin "object.__getattribute__")=false:=by decide +kernel
 have hx1:(onTheHeap (Value.ref C)&&Value.builtin "BaseException.__getattribute__" == Value.builtin "object.__getattribute__")=false:=by rw[hx2];rfl
 repeat (any_goals (first|assumption|(with_reducible refine yee hx ?_;rw[hc])|with_reducible refine f1.at ?_|with_reducible refine f2.at ?_|wp_step))
 refine zwpb Z X hx hc ?_
 repeat (any_goals (first|assumption|wp_step))
theorem zxpb {Q:Option Value->Shared->Prop}(Z:ExcQ K C)(X:K.In h)(hx:h.get? a=some o)(hc:o.cls = .ref C)(hq:Q (some (.ref C)) ⟨h,g,d,t+1,os⟩):wpAny (model prog w) A (getAttr? (.ref a) "__class__") Q E ⟨h,g,d,t,os⟩:=by
 unfold getAttr? getAttrBy?
 repeat (any_goals (first|assumption|with_reducible apply zwwb Z X hx hc|wp_step))
theorem zbhb {x:Addr}(Z:ExcQ K C):PySem.W.KitX K (.ref x) (.ref C) (λh=>∃o,h.get? x=some o∧o.cls = .ref C) where
 ty:=λM h _ p=>by
  obtain⟨o,h1,h2⟩:=p;exact h2▸(yjo.ld h1).andThen .now
 it:=λ_ _ X _=>by
  have z0:=Z.is;unfold yci at z0
  split at z0
  ·rename_i c' d' cd' sl' ho;intro A' Q' E' s' k q;unfold isType loadHead;exact yfa (wpAny_loadPart (k _ _ (X _ _ ho)) (yra q))
  ·cases z0
 ne:=λh tp dd its n sl X htp=>by
  refine ygc.mpr λq=>?_;have e:C=tp:=Value.ref.inj (beq_iff_eq.mp q);subst e;have z0:=Z.is;unfold yci at z0
  split at z0
  ·rename_i c' d' cd' sl' ho;have z:=(X _ _ ho).symm.trans htp;cases z
  ·cases z0
 ca:=λ{_ _ _ _ _ s} X p k=>by
  obtain⟨h,g,d,t,os⟩:=s;obtain⟨o,h1,h2⟩:=p;exact zxpb Z X h1 h2 k
end
end L2
namespace L2
open PySem PySem.Spec PyProof.Rows
section
variable {X:Cx}{K:yba}
theorem zvcb:zim X (.builtin "isinstance") (λxs H Q=>∃(a C:Addr) (c:V) (b:Bool),xs=[.ref a,c]∧H a=some (excO a (.ref C))∧ExcQ X.K C∧((∃n,c = .ty n∧yfb X.K (.ref C) (.type n)=some b)∨(∃D,c = .ref D∧yfb X.K (.ref C) (.ref D)=some b))∧Q (.bl b) H):=by
 intro pins s σ H xs us Q I r h;obtain⟨a,C,c,b,rfl,hx,Z,hc,q⟩:=h;obtain⟨u,u',rfl,rx,r2⟩:=vals2 r;cases (show u=Value.ref a from rx);have fin:∀tk,EP X pins σ Q (.bool b) { s with toks:=tk }:=λtk=>⟨.bl b,H,I.tok tk,rfl,q⟩;have S:=(I.hok a _ hx).1
 rcases hc with⟨n,rfl,e⟩|⟨D,rfl,e⟩
 ·cases (show u'=Value.type n from r2);exact ytc (zbhb Z) I.kIn S e (λz=>nomatch z) fin
 ·cases (show u'=Value.ref D from r2);exact ytc (zbhb Z) I.kIn S e (λz=>nomatch z) fin
theorem zsf (K:yba)(hK:X.K=K:=by rfl):zim X (.builtin "isinstance") (λxs H Q=>∃(a C:Addr) (c:V) (b:Bool),xs=[.ref a,c]∧H a=some (excO a (.ref C))∧ExcQ K C∧((∃n,c = .ty n∧yfb K (.ref C) (.type n)=some b)∨(∃D,c = .ref D∧yfb K (.ref C) (.ref D)=some b))∧Q (.bl b) H):=hK▸zvcb
end
end L2
namespace L2
open PySem PySem.Spec PyProof.Rows Builtin.Str
theorem zaeb {q c:Nat}(h:c<256):(reprChar q c).length≤4:=by
 have z:∀c:Fin 256,(yrn 16 c.1).length≤2:=by decide +kernel
 have z1:=z ⟨c,h⟩;simp only at z1;unfold reprChar
 split
 ·show 2≤4;decide
 split
 ·decide
 split
 ·decide
 split
 ·decide
 split
 ·show 1≤4;decide
 first|rw[if_pos h]|skip
 show (92::120::(ykc (2-((yrn 16 c).map Char.toNat).length) 48++(yrn 16 c).map Char.toNat)).length≤4
 simp only[yha,yia,yle,yaa];omega
theorem zfrb {x:Str}(h:∀c∈x.cps.toList,c<256):(ygj x).length≤4*x.length+2:=by
 rw[← reprLen_eq];have go:∀(l:List Nat) (n:Nat),(∀c∈l,c<256)->l.foldl (λn c=>n+(reprChar (reprQuote x) c).length) n≤4*l.length+n:=by
  intro l
  induction l with
  | nil=>intro n _;simp
  | cons a r ih =>
   intro n hl;rw[List.foldl_cons];have h1:=ih (n+(reprChar (reprQuote x) a).length) λc hc=>hl c (yla _ hc);have h2:=zaeb (q:=reprQuote x) (hl a (yqa ..));rw[yia];omega
 have h1:=go x.cps.toList 2 h;rw[Array.foldl_toList] at h1;exact h1
def tFR (te tc:TE):TE:=fun σ H Q=>te σ H λv H1=>∃x,v = .str x∧(ygj x).length≤1000000∧tc σ H1 λv2 H2=>∃y,v2 = .str y∧y.length≤1000∧Q (.str (yji++ygj x++y)) H2
theorem zzhb {X:Cx}{e c:Expr}{te tc:TE}{p1 p2:Pos}(he:PE X e te)(hc:PE X c tc):PE X (.JoinedStr [.FormattedValue e 114 none p1,c] p2) (tFR te tc):=by
 intro pins s σ H Q I h;refine wpAny_JoinedStr ?_;show wpAny _ _ (eval (.FormattedValue e 114 none p1) X.env) _ _ _
 refine wpAny_FormattedValue_repr (thn (he pins s σ H _ I h) λv s1 ⟨y,H1,I1,r,q1⟩=>?_);obtain⟨x,rfl,hx,q2⟩:=q1;obtain⟨t,rfl⟩:=r;have l1:(ygj x).length≤yua:=ypa hx (by decide);have e0:(yji++ygj x).length≤yua:=by
  rw[ytm];show 0+_≤_
  rw[Nat.zero_add];exact l1
 refine wpAny_pyReprObj_str ?_ l1;refine formatField_str (λt' tk=>⟨ygj x,t',rfl,e0,?_⟩) l1;have I2:=I1.tok tk;show wpAny _ _ (eval c X.env) _ _ _
 refine thn (hc pins _ σ H1 _ I2 q2) λv2 s2 ⟨y2,H2,I3,r2,y,ey,hy,q3⟩=>?_;subst ey;obtain⟨t2,rfl⟩:=r2;have e1:(yji++ygj x++y).length≤yua:=by
  rw[ytm,ytm];show 0+_+_≤_
  have:yua=16777216:=rfl;omega
 exact⟨y,t2,rfl,e1,e1,.str (yji++ygj x++y),H2,I3.tok _,⟨_,rfl⟩,q3⟩
end L2
namespace L2
open PySem PySem.Spec PyProof.Rows
section
variable {P:ysb}{w:World}{K:yba}{mg:Str->Option Value}{base:Heap}{C:Addr}{x q:Str}{st:Stmt}{N ps:List Str}{k:Nat}{sp:Sp}{CX:CXT}
theorem Fun.okx {f:Addr}{fd:ypd}(F:Fun K x q st f fd)(S:zdb N ps (zla st))(len:∀vs H Q E,sp vs H Q E->vs.length=ps.length)
  (hbody:∀(cdv:Value) (A:Around) (outer:List Env) (s:Shared) (H:Hp) (vs:List V) (Q:VK) (E:XK),Room k (A.deeper (envOfC q (zla st) s.heap.objs.size f cdv))->sp vs H Q E →
   ∃t,PSs (cxOf CX P w K mg base N q (zla st) f cdv A outer s H E) (zah st) t∧t { nx:=λ_ H'=>Q .non H',rt:=Q } (start N vs) H):FnOk P w K mg base CX (k+1) f fd ps sp:=by
 obtain⟨oc,od,kV,doc,pm,an,cdv,ct,osl,rfl,lk,hcd⟩:=F.ex;exact zdwb lk hcd S len λA outer s H vs Q E hr hsp=>hbody cdv A outer s H vs Q E hr hsp
theorem Gf.okx (g:Gf K mg x q st)(S:zdb N ps (zla st))
  (hb:∀(f:Addr) (cdv:Value) (A:Around) (outer:List Env) (s:Shared) (H:Hp) (vs:List V) (Q:VK) (E:XK),Room k (A.deeper (envOfC q (zla st) s.heap.objs.size f cdv))->sp vs H Q E->let X:=cxOf (CX1 P w) P w K mg base N q (zla st) f cdv A outer s H E;∃t,PSs X (zah st) t∧t { nx:=λ_ H'=>Q .non H',rt:=Q } (start N vs) H)
  (len:∀vs H Q E,sp vs H Q E->vs.length=ps.length:=by intro _ _ _ _ h;cases h;rename_i h;rw[h.1];rfl):FnOk P w K mg base (CX1 P w) (k+1) g.f g.d ps sp:=g.F.okx S len (hb g.f)
theorem Mf.okx (g:Mf K C x q st)(S:zdb N ps (zla st))
  (hb:∀(f:Addr) (cdv:Value) (A:Around) (outer:List Env) (s:Shared) (H:Hp) (vs:List V) (Q:VK) (E:XK),Room k (A.deeper (envOfC q (zla st) s.heap.objs.size f cdv))->sp vs H Q E->let X:=cxOf (CX1 P w) P w K mg base N q (zla st) f cdv A outer s H E;∃t,PSs X (zah st) t∧t { nx:=λ_ H'=>Q .non H',rt:=Q } (start N vs) H)
  (len:∀vs H Q E,sp vs H Q E->vs.length=ps.length:=by intro _ _ _ _ h;cases h;rename_i h;rw[h.1];rfl):FnOk P w K mg base (CX1 P w) (k+1) g.f g.d ps sp:=g.F.okx S len (hb g.f)
end
structure ExK (K:yba)(mg:Str->Option Value)(n:Str) where
 c:Addr
 m:mg n=some (.ref c)
 q:ExcC K c
 z:ExcQ K c
end L2
namespace L2
open PySem PySem.Spec PyProof.Rows
theorem zqv {e:Value}{a b:Env}(h:a.frame=b.frame):ymi e a=ymi e b:=by
 unfold ymi PySem.frameOf;rw[h]
section
variable {M:Model}{A:Around}{E:Value->Shared->Prop}{s:Shared}
theorem zjib {base:Heap}{env:Env}{outer:List Env}{L e:Addr}{cls a0 fl:Value}{Q:Unit->Shared->Prop}
  (hfr:A.frames=some (env::outer)) (hl:s.heap.FunFrames base (env::outer)) (hf:env.frame=some L) (ht:s.heap.TracedAtW base e cls a0 fl) (hkb:base.StaysIn s.heap) (hen:base.get? e=none)
  (hQ:∀h',yfj base outer e cls a0 h'->s.heap.UpToSlots h'->Q () { s with heap:=h' }):wpAny M A (yen env (.ref e)) Q E s:=by
 by_cases c:fl=rawInt L
 ·subst c;unfold yen;refine yfa (wpAny_noteFrame_againW hf ht ?_);exact wpAny_setFlight_noneW hkb hl ht λh' k1 k2 k3 k4=>hQ h' ⟨k1,hen,k2.2.2,k3⟩ λb o hb hn=>⟨o.slots,k4 b o hb hn⟩
 ·obtain⟨oe,vs,T,oT,ts,he,⟨hcls,h0⟩,hd,h1,hnT,hTe,hT,hdT,h3⟩:=ht;subst hcls;unfold yen ymi;simp only[hf];refine yfa (yfa (ycm he hd h1 ?_));rw[if_pos (show (Value.ref T != Value.none)=true from by simp)];refine yfa (ycm hT hdT h3 ?_);rw[if_neg (show ¬ ((fl==rawInt L)=true) from by simpa using c)];refine yfa (wpAny_setField hT hdT (yie.mp h3).1 ?_);have other:∀b,b≠T->(s.heap.update T (Obj.mapFields (·.setIfInBounds 3 Value.none))).get? b=s.heap.get? b:=λb hb=>ywc _ _ (ysc hb);have noRecord:∀b o,s.heap.get? b=some o->(∀vs,o.data ≠ .fields vs)->b≠T:=λb o hb hnf q=>by
   rw[q,hT] at hb;injection hb with hb;subst hb;exact hnf ts hdT
  refine wpAny_newEntryW hfr (hl.of_keeps λb o hb hnf=>⟨o,(other b (noRecord b o hb hnf)).trans hb,rfl⟩) hf ((other e (ysc hTe)).trans he)
   (λb o hbo=>(other b λq=>by rw[q,hnT] at hbo;cases hbo).trans (hkb b o hbo)) hen hd (yie.mp h1).1 h0 ?_
  rintro h' ⟨k1,⟨_,_,k2⟩,k3,k4⟩;exact hQ h' ⟨k1,hen,k2,k3⟩ λb o hb hnf=>k4 b o ((other b (noRecord b o hb hnf)).trans hb) hnf
theorem zaib {α:Type}{base:Heap}{l:List Env}{e:Addr}{cls a0 fl:Value}{what:String}{cenv:Env}{Q:α->Shared->Prop}(hkb:base.StaysIn s.heap)(hl:s.heap.FunFrames base l)(ht:s.heap.TracedAtW base e cls a0 fl)
  (h:∀h' fl',base.StaysIn h'->h'.FunFrames base l->h'.TracedAtW base e cls a0 fl'->(∀b o,s.heap.get? b=some o->(∀vs,o.data ≠ .fields vs)->h'.get? b=some o)->E (.ref e) { s with heap:=h' }):wpAny M A (ysn what (.ref e) cenv:Sem α) Q E s:=by
 obtain⟨oe,vs,T,oT,ts,he,hcls,hd,h1,hnT,hTe,hT,hdT,h3⟩:=ht;have hsz3:3<ts.size:=(yie.mp h3).1;have other:∀b,b≠T->(s.heap.update T (Obj.mapFields (·.setIfInBounds 3 (cenv.frame.elim Value.none λf=>rawInt f)))).get? b=s.heap.get? b :=
  λb hb=>ywc _ _ (ysc hb)
 have noRecord:∀b o,s.heap.get? b=some o->(∀vs,o.data ≠ .fields vs)->b≠T:=λb o hb hnf q=>by
  rw[q,hT] at hb;injection hb with hb;subst hb;exact hnf ts hdT
 have fin:wpAny M A (yeo (.ref e) cenv.frame) (λ_ s'=>wpAny M A (throw (.ref e):Sem α) Q E s') E s:=by
  unfold yeo;refine yfa (ycm he hd h1 ?_);rw[if_pos (show (Value.ref T != Value.none)=true from by simp)];refine wpAny_setField hT hdT hsz3 (wpAny_throw (h _ (cenv.frame.elim Value.none λf=>rawInt f) (λb o hbo=>(other b λq=>by rw[q,hnT] at hbo;cases hbo).trans (hkb b o hbo))
   (hl.of_keeps λb o hb hnf=>⟨o,(other b (noRecord b o hb hnf)).trans hb,rfl⟩) ?_ λb o hb hnf=>(other b (noRecord b o hb hnf)).trans hb))
  exact⟨oe,vs,T,_,_,(other e (ysc hTe)).trans he,hcls,hd,h1,hnT,hTe,yvd _ hT (Obj.isFreed_of_fields (yum hdT _)),yum hdT _,by simp[hsz3]⟩
 unfold ysn;refine yfa (ycm he hd h1 ?_);rw[if_neg (show ¬ ((Value.ref T==Value.none)=true) from by simp)]
 first
  | exact yfa (yra (yfa fin))
  | exact yfa fin
end
theorem zkpb {h h' base:Heap}{C:Addr}(hs:ycf C h h'):∀{l:List Env},C∉frs l->h.FunFrames base l->h'.FunFrames base l
 | [],_,_=>trivial
 | env::r,n,⟨hk,⟨L,o,hf,hn,ho,hd⟩,hr⟩=>by
  have e:frs (env::r)=L::frs r:=by
   unfold frs;rw[ygf,hf]
  rw[e] at n;exact⟨hk,⟨L,o,hf,hn,(hs.2 L (λz=>n (by rw[z];exact yqa))).trans ho,hd⟩,zkpb hs (λz=>n (yla _ z)) hr⟩
def xeC (X:Cx)(sc:Scope)(C:Addr):Value->Shared->Prop:=yzl (model X.prog X.w) X.A (ypl sc (clOf sc X.env.cells) C X.env) λx s'=>∃m,s'.heap.Ns C m∧∀h',ycf C s'.heap h'->∀cenv:Env,cenv.locals=C->wpAny (model X.prog X.w) X.A (ysn "comprehension.variables-let-go" x cenv:Sem Value) (λ_ _=>False) X.xe { s' with heap:=h' }
def blkx (X:Cx)(N':List Str)(sc:Scope)(fp:List Addr)(s:Shared)(H:Hp)(C:Addr):Cx:={ blk X N' sc fp s H C with xe:=xeC X sc C }
def OkB (X:Cx)(fp:List Addr)(s:Shared)(H:Hp)(C:Addr):Prop:=∃pins,∃ σ,Inv X pins σ H s∧(∀b∈fp,FpOk X pins H b)∧s.heap.objs.size≤C
theorem Inv.toX {X:Cx}{N':List Str}{sc:Scope}{fp:List Addr}{s s':Shared}{H H':Hp}{C:Addr}{pn:List (Addr×Obj)}{σ:St}(I:Inv (blk X N' sc fp s H C) pn σ H' s'):Inv (blkx X N' sc fp s H C) pn σ H' s' :=
 ⟨⟨I.ok.mod,I.ok.kind,I.ok.glob,I.ok.blt,I.ok.above,I.ok.inj,I.ok.has,I.ok.cab,I.ok.hd,I.ok.frames,I.ok.stk,I.ok.exf,I.ok.bs,I.ok.bsz,I.ok.noex,I.ok.exfs,I.ok.funs,I.ok.frf⟩,I.os,I.bare,I.base,I.loc,I.cell,I.free,I.freeC,I.pin,I.hok,I.len⟩
theorem Inv.ofX {X:Cx}{N':List Str}{sc:Scope}{fp:List Addr}{s s':Shared}{H H':Hp}{C:Addr}{pn:List (Addr×Obj)}{σ:St}(I:Inv (blkx X N' sc fp s H C) pn σ H' s'):Inv (blk X N' sc fp s H C) pn σ H' s' :=
 ⟨⟨I.ok.mod,I.ok.kind,I.ok.glob,I.ok.blt,I.ok.above,I.ok.inj,I.ok.has,I.ok.cab,I.ok.hd,I.ok.frames,I.ok.stk,I.ok.exf,I.ok.bs,I.ok.bsz,I.ok.noex,I.ok.exfs,I.ok.funs,I.ok.frf⟩,I.os,I.bare,I.base,I.loc,I.cell,I.free,I.freeC,I.pin,I.hok,I.len⟩
section
variable {X:Cx}
theorem zysb {pins pn:List (Addr×Obj)}{σ σ':St}{H H':Hp}{s s':Shared}{sc:Scope}{N':List Str}{fp:List Addr}{C:Addr}(I:Inv X pins σ H s)(J:Inv (blk X N' sc fp s H C) pn σ' H' s')(hf:∀b∈fp,FpOk X pins H b):Inv X pins σ H' s' :=
 I.call' (ch:=fp) J.os J.base J.hok J.bare λb hb=>⟨(hf b hb).2.2.2.1,(hf b hb).2.1,(hf b hb).2.2.2.2.1,(hf b hb).2.2.2.2.2⟩
end
section
variable {P:ysb}{w:World}{K:yba}{mg:Str->Option Value}{base:Heap}{N:List Str}{qual:Str}{scope:Scope}{f:Addr}{cd:Value}{A:Around}{outer:List Env}{s:Shared}{H:Hp}{E:XK}{N':List Str}{sc:Scope}{fp:List Addr}{s2:Shared}{H2:Hp}{C:Addr}
theorem zlxb (ob:OkB (cxOf (CX1 P w) P w K mg base N qual scope f cd A outer s H E) fp s2 H2 C):Passes (CX1 P w) (blkx (cxOf (CX1 P w) P w K mg base N qual scope f cd A outer s H E) N' sc fp s2 H2 C) E:=by
 intro pn σ' H1 s1 e s' I h;obtain⟨x,T,cls,H',rfl,os,bare,un,hok,xa,n1,n2,f1,f2,he⟩:=h;obtain⟨pins,σ,I2,hf,hC⟩:=ob;have Jb:=I.ofX.call' (H':=H') (ch:=[]) os un hok bare (λb z=>absurd z (by simp));have J:=zysb I2 Jb hf;obtain⟨oe,oT,vs,ts,a0,g1,g2,g3,g4,g6,g7,g8,g9⟩:=xa;obtain⟨mC,hmC,_⟩:=Jb.loc;have hmC':s'.heap.Ns C mC:=hmC;generalize hX:cxOf (CX1 P w) P w K mg base N qual scope f cd A outer s H E=X at *;have hs:X.stack=X.env::X.outer:=by rw[← hX];rfl
 have hex:X.ex=[]:=by rw[← hX];rfl
 have hfr:X.env.frame=some X.env.locals:=by rw[← hX];rfl
 have up1:∀{b:Addr},s1.heap.get? b=none->X.s₀.heap.get? b=none:=λ{b} q=>by
  cases q2:X.s₀.heap.get? b with
  | none=>rfl
  | some o =>
   exfalso;obtain⟨o2,q3⟩:=I2.base.there b o q2 (by rw[hex];intro z;cases z);have lt2:=ysa q3
   by_cases m:b∈fp
   ·rcases (hf b m).2.2.2.1 with z|z
    ·rw[hex] at z;cases z
    ·exact absurd (yka (ysa q2) z) (yhc _)
   ·obtain⟨o4,q4⟩:=I.base.there b o2 q3 m;rw[q] at q4;cases q4
 have nC:X.s₀.heap.get? C=none:=by
  cases q2:X.s₀.heap.get? C with
  | none=>rfl
  | some o =>
   obtain⟨o2,q3⟩:=I2.base.there C o q2 (by rw[hex];intro z;cases z);exact absurd (yka (ysa q3) hC) (yhc _)
 have fC:H' C=none:=Jb.free;have xC:x≠C:=λz=>by
  obtain⟨o,es,ep,ho,hd,_⟩:=hmC';rw[← z,g1] at ho;cases ho;rw[g3] at hd;cases hd
 have TC:T≠C:=λz=>by
  obtain⟨o,es,ep,ho,hd,_⟩:=hmC';rw[← z,g7] at ho;cases ho;rw[g8] at hd;cases hd
 have stC:C∉frs X.stack:=λz=>by
  obtain⟨_,o,e,_⟩:=I2.stack.mem z;exact absurd (yka (ysa e) hC) (yhc _)
 have hin:∀env∈X.env::X.outer,∀b,env.frame=some b->b∈frs X.stack++[x,T,C]:=λenv he b hb=>ycc _ (by rw[hs];exact yke.mpr ⟨env,he,hb⟩);have mx:x∈frs X.stack++[x,T,C]:=yeb _ (by simp);have mT:T∈frs X.stack++[x,T,C]:=yeb _ (by simp);have mC:C∈frs X.stack++[x,T,C]:=yeb _ (by simp);have nb:(ykd s'.heap (frs X.stack++[x,T,C])).get? C=none:=yed _ mC;have fl:yfj (ykd s'.heap (frs X.stack++[x,T,C])) (X.env::X.outer) x cls a0 s'.heap :=
  ⟨λb o q=>yuf _ q,yed _ mx,ytf (by rw[← hs];exact J.stack) hin,oe,vs,T,oT,ts,g1,g2,g3,g4,yed _ mT,g6,g7,g8,g9⟩
 show wpAny (model X.prog X.w) X.A (ymi (.ref x) (ypl sc (clOf sc X.env.cells) C X.env)) _ _ s'
 rw[zqv (a:=ypl sc (clOf sc X.env.cells) C X.env) (b:=X.env) rfl];refine wpAny_looks_onW (by rw[← hs];exact J.ok.frames) hfr fl λh4 held4 up4=>?_;have ns4:=up4.ns hmC';refine⟨_,ns4,λh5 hs5 cenv _=>?_⟩;obtain⟨b1,b2,b3,oe',vs',T',oT',ts',k1,k2,k3,k4,k5,k6,k7,k8,k9⟩:=held4;have xs:∀{b:Addr} {o:Obj} {us:Array Value},h4.get? b=some o->o.data = .fields us->b≠C:=λ{b o us} q d z=>by
  obtain⟨o2,es,ep,ho,hd,_⟩:=ns4;have ho':h4.get? C=some o2:=ho;rw[← z,q] at ho';cases ho';rw[d] at hd;cases hd
 have st5:(ykd s'.heap (frs X.stack++[x,T,C])).StaysIn h5:=λb o q=>(hs5.2 b (λz=>by rw[z,nb] at q;cases q)).trans (b1 b o q);have ff5:h5.FunFrames (ykd s'.heap (frs X.stack++[x,T,C])) (X.env::X.outer):=zkpb hs5 (by rw[← hs];exact stC) b3;have tr5:h5.TracedAtW (ykd s'.heap (frs X.stack++[x,T,C])) x cls a0 (rawInt X.env.locals):=⟨oe',vs',T',oT',ts',(hs5.2 x xC).trans k1,k2,k3,k4,k5,k6,(hs5.2 T' (xs k7 k8)).trans k7,k8,k9⟩;have hxe:∀e s',wpAny (model X.prog X.w) X.A (yen X.env e) (λ_ s''=>CX1 X.prog X.w X.outer X.H₀ X.s₀ E e s'') (λe' s''=>CX1 X.prog X.w X.outer X.H₀ X.s₀ E e' s'') s'->X.xe e s':=by
  rw[← hX];exact λ_ _ z=>z
 have lf:∀b,b=X.env.locals∨b∈X.fs->b∈frs X.stack:=λb z=>by
  rw[hs];unfold frs;rw[ygf,hfr]
  rcases z with z|z
  ·rw[z];exact yqa
  ·exact yla _ z
 refine zaib (s:={ s' with heap:=h5 }) st5 ff5 tr5 λh6 fl' st6 ff6 tr6 kp6=>?_;refine hxe _ _ (zjib (s:={ s' with heap:=h6 }) (by rw[← hs];exact J.ok.frames) ff6 hfr tr6 st6 b2 λh7 fl7 up7=>?_);refine zgsb (s:=s') J hs hex fl7 (λb o hb q hn=>?_) (λb o q n t=>?_) (up1 n1) f1 he
 ·obtain⟨sl4,q4⟩:=up4 b o q hn;have bC:b≠C:=λz=>stC (by rw[← z];exact lf b hb);have q6:=kp6 b _ ((hs5.2 b bC).trans q4) hn;obtain⟨sl7,q7⟩:=up7 b _ q6 hn;exact⟨sl7,q7⟩
 ·refine yff _ q λz=>?_
  rcases yna.mp z with y|y
  ·exact n y
  ·simp only[yda,ycb,or_false] at y
   rcases y with y|y|y
   ·rw[y] at t;exact t.elim (λt=>t f1) (λt=>t (up1 n1))
   ·rw[y] at t;exact t.elim (λt=>t f2) (λt=>t (up1 n2))
   ·rw[y] at t;exact t.elim (λt=>t fC) (λt=>t nC)
end
section
variable {X:Cx}
theorem zuob {elt iter tg:Expr}{ifs:List Expr}{sc:Scope}{pos:Pos}{own cap:List Str}{js:List Nat}{g:TG}{tt:TT}{te:TE}{Qf:List V->Hp->Prop}{RR:Value->Addr->Result->Shared->Prop}{E:Value->Shared->Prop}
  {pins:List (Addr×Obj)} {σ:St} {H2:Hp} {s2:Shared} {it:Addr} {fp:List Addr} {tn:Nat->Heap->Prop} {J:It} {W:Nat->Nat->List V->Hp->Prop} {m0:Nat}
  (hc:X.calm=true) (S:zvd X sc) (cp:Caps X sc cap js)
  (hg:∀fp s H C,OkB X fp s H C->PG (blkx X (own++cap) sc fp s H C) tg g) (ht:∀fp s H C,OkB X fp s H C->PTs (blkx X (own++cap) sc fp s H C) ifs tt) (he:∀fp s H C,OkB X fp s H C->PE (blkx X (own++cap) sc fp s H C) elt te)
  (I2:Inv X pins σ H2 s2) (T:Turn X.prog X.w X.K tg J fp it tn) (st2:tn 0 s2.heap) (f2:∀b∈fp,FpOk X pins H2 b) (w0:W 0 m0 [] H2)
  (turn:∀i m ys H,W i m ys H->(J.stop i H∧ys.length≤yua∧Qf ys H) ∨
   (J.go i H∧ys.length≤yua∧∃N:List V->Hp->Prop,(∀ys' H',N ys' H'->∃m',m'<m∧W (i+1) m' ys' H')∧∀x H',J.yld i H x H'->g x (zbf own.length js σ) H' fun σ2 H2=>σ2.drop own.length=(zbf own.length js σ).drop own.length∧tt σ2 H2 λb H3 =>
    if b=true then te σ2 H3 λy H4=>N (ys++[y]) H4 else N ys H3))
  (hRR:∀D C H4 s4 pn ys its nn,s2.heap.objs.size≤D->s2.heap.objs.size≤C->D≠C->Inv (blk X (own++cap) sc fp s2 H2 C) pn (zbf own.length js σ) H4 s4->H4 D=none->s4.heap.get? D=some { cls:=.type "list",data:=.seq its.toArray nn } →
   ys.length≤yua->Vals ys its->Qf ys H4->RR (.ref D) C (.ok .next) s4)
  (hXE:∀D C e s',xeC X sc C e s'->yzl (model X.prog X.w) X.A (ypl sc (clOf sc X.env.cells) C X.env) (λe s'=>RR D C (.error e) s') e s') :
  wpAny (model X.prog X.w) X.A (newList []) (λacc s₃=>wpAny (model X.prog X.w) X.A (newFunctionEnv sc X.env.globals (clOf sc X.env.cells) [] X.env.qual none .none (some X.env)) (λcenv s₄ =>
   yog (model X.prog X.w) X.A (.compStart (.ListComp elt [⟨tg,iter,ifs,0⟩] sc pos) 0 (.ref it) acc { cenv with scope:=yyl sc X.env }) (RR acc cenv.locals) s₄) E s₃) E s2:=by
 refine ywe (wpAny_newFunctionEnv S.cell (by intro y hy;simp at hy) (λh₁ hns₁ hsb₁=>?_) S.kind);dsimp only at hns₁ hsb₁ ⊢;generalize hH2:s2.heap.push { cls:=.type "list",dict:=none,data:=.seq ([]:List Value).toArray }=HH at hns₁ hsb₁ ⊢;generalize hDd:s2.heap.objs.size=D at hns₁ hsb₁ ⊢;generalize hCc:HH.objs.size=C at hns₁ hsb₁ ⊢;have hC:C=D+1:=by rw[← hCc,← hH2,yoe,hDd]
 have hDC:D≠C:=by rw[hC];exact yjb (ylf _)
 have hCle:s2.heap.objs.size≤C:=by rw[hDd,hC];exact yjh _
 have hDle:s2.heap.objs.size≤D:=ybj hDd;have below:∀b,b<s2.heap.objs.size->b≠C∧b≠D:=λb hb=>⟨yjb (yka hb hCle),yjb (yka hb hDle)⟩;have old:∀b o,s2.heap.get? b=some o->h₁.get? b=some o:=λb o e=>hsb₁.extBut b o (below b (ysa e)).1 (yga _ (hH2▸yga _ e));have q0:HH.get? D=some { cls:=.type "list",data:=.seq ([]:List Value).toArray 0 }:=by
  rw[← hH2,← hDd];exact ywa _ rfl
 have hacc:h₁.get? D=some { cls:=.type "list",data:=.seq ([]:List Value).toArray 0 }:=hsb₁.extBut _ _ hDC (yga _ q0);have fpo:=T.obj 0 _ st2;have obk:OkB X fp s2 H2 C:=⟨pins,σ,I2,f2,hCle⟩;have fplt:∀b∈fp,b<s2.heap.objs.size:=λb hb=>by obtain⟨o,e,_⟩:=fpo b hb;exact ysa e
 have st3:tn 0 h₁:=T.keep 0 _ _ st2 λb hb o e=>old b o e;have I3:∀tk,Inv (blkx X (own++cap) sc fp s2 H2 C) [] (zbf own.length js σ) H2 { s2 with heap:=h₁,toks:=tk }:=λtk=>(zzcb (s3:=s2) (tn:=tn) I2 S cp fpo f2 hCle hns₁ old).toX;have stkD:∀b,s2.heap.objs.size≤b->b∉frs X.stack:=λb hb hm=>by
  obtain⟨_,o,e,_⟩:=I2.stack.mem hm;exact absurd (yka (ysa e) hb) (yhc _)
 have nD:H2 D=none:=I2.hok.fresh hDle;have stat:∀{pn:List (Addr×Obj)} {H':Hp},(∀p∈pn,p.1=D)->(∀b∈fp,H' b=none)->∀b∈fp,FpOk (blkx X (own++cap) sc fp s2 H2 C) pn H' b:=λ{pn H'} hp hn b hb=>by
  refine⟨hn b hb,(below b (fplt b hb)).1,λz=>?_,.inl hb,λx c e=>?_,λp hp' z=>?_⟩
  ·obtain⟨_,h2,h3,_⟩:=f2 b hb
   rcases yda.mp (I2.zbu b z) with q|q
   ·exact h2 q
   ·exact h3 q
  ·exact (f2 b hb).2.2.2.2.1 x c (zpn sc.names [] (λx c e=>by simp at e) x c e)
  ·have e:=hp p (by simpa [blkx,blk] using hp');rw[e] at z;exact (below b (fplt b hb)).2 z.symm
 have pinD:∀{H':Hp} {s':Shared} {o:Obj},Inv (blkx X (own++cap) sc fp s2 H2 C) [] (zbf own.length js σ) H' s'->H' D=none->s'.heap.get? D=some o->(∀v,o.data ≠ .cell v)->Inv (blkx X (own++cap) sc fp s2 H2 C) [(D,o)] (zbf own.length js σ) H' s':=λ{H' s' o} I' n e d =>
  I'.ztm λp hp=>by
   have q:p=(D,o):=(by simpa using hp);subst q;exact⟨e,n,hDC,stkD D hDle,d⟩
 have loop:∀s₃:Shared,s₃={ s2 with heap:=h₁,toks:=s2.toks+([]:List (Str×Value)).length } →
   yog (model X.prog X.w) X.A (.compLoop (.ListComp elt [⟨tg,iter,ifs,0⟩] sc pos) 0 (.ref it) (.ref D) (ypl sc (clOf sc X.env.cells) C X.env)) (RR (.ref D) C) s₃:=by
  rintro s₃ rfl;refine zzs (λk s'=>∃i ys its nn H',Inv (blkx X (own++cap) sc fp s2 H2 C) [] (zbf own.length js σ) H' s'∧tn i s'.heap∧(∀b∈fp,H' b=none)∧H' D=none ∧
   s'.heap.get? D=some { cls:=.type "list",data:=.seq its.toArray nn }∧Vals ys its∧W i k ys H') ?_ m0 ⟨0,[],[],0,H2,I3 _,st3,λb hb=>(f2 b hb).1,nD,hacc,.nil,w0⟩
  rintro k s3 ⟨i,ys,its,nn,H3,I3,st3,fr3,d3,o3,rv3,w3⟩;have I3':=pinD I3 d3 o3 (λv z=>by cases z);have only:∀p∈[(D,({ cls:=.type "list",data:=.seq its.toArray nn }:Obj))],p.1=D:=λp hp=>by
   rw[yca.mp hp]
  rcases turn i k ys H3 w3 with⟨stop,hz,qn⟩|⟨go,hz,N,hN,step⟩
  ·refine ymc (T.done (blkx X (own++cap) sc fp s2 H2 C) rfl rfl rfl hc i _ s3 _ H3 (λ_ _=>False) I3' (stat only fr3) st3 stop) (λr s4 ⟨hr,I4⟩=>?_) λ_ _ z=>z.elim;subst hr;have o4:=(I4.pin (D,_) (yeb _ (yca.mpr rfl))).1;exact hRR D C H3 s4 _ ys its nn hDle hCle hDC I4.ofX d3 o4 hz rv3 qn
  ·refine ymc (T.item (blkx X (own++cap) sc fp s2 H2 C) rfl rfl rfl hc i _ s3 _ H3 (λ_ _=>False) I3' (stat only fr3) st3 go) (λr s4 ⟨u,hr,h4⟩=>?_) λ_ _ z=>z.elim;subst hr;refine ymc h4 (λ_ s5 ⟨x,H5,I5,r5,y5,st5,fr5⟩=>?_) λ_ _ z=>z.elim;have I5':=I5.pinned (stat only fr5) (T.obj _ _ st5);refine ymc (hg fp s2 H2 C obk _ s5 _ H5 x u _ I5' r5 (step x H5 y5)) (λ_ s6 ⟨σ6,H6,I6,d6,q6⟩=>?_) λe s z=>hXE _ _ _ _ z;refine ymc (ht fp s2 H2 C obk _ s6 σ6 H6 _ I6 q6) (λok s7 ⟨H7,I7,q7⟩=>?_) λe s z=>hXE _ _ _ _ z;have memD:∀{o:Obj},(D,o)∈(blkx X (own++cap) sc fp s2 H2 C).pn++([(D,o)]++zps fp s5.heap):=yeb _ (ycc _ (yca.mpr rfl));have memF:∀{b:Addr} {o o':Obj},b∈fp->s5.heap.get? b=some o->(b,o)∈(blkx X (own++cap) sc fp s2 H2 C).pn++([(D,o')]++zps fp s5.heap):=λhb e=>yeb _ (yeb _ (zmn hb e));have σlen:(zbf own.length js σ).length=σ6.length:=by
    have a:=I6.len;have b:=I5.len;exact b.trans a.symm
   cases ok with
   | false =>
    have q7':N ys H7:=q7;obtain⟨m',hm,w7⟩:=hN _ _ q7';refine⟨m',hm,i+1,ys,its,nn,H7,(I7.ztm λp hp=>absurd hp (by simp)).weak σlen (λj v e=>zqn d6 e),T.keep _ _ _ st5 λb hb o e=>(I7.pin (b,o) (memF hb e)).1,λb hb=>?_,(I7.pin (D,_) memD).2.1,(I7.pin (D,_) memD).1,rv3,w7⟩;obtain⟨o,e,_⟩:=T.obj _ _ st5 b hb;exact (I7.pin (b,o) (memF hb e)).2.1
   | true =>
    have q7':te σ6 H7 λy H4=>N (ys++[y]) H4:=q7;refine ymc (he fp s2 H2 C obk _ s7 σ6 H7 _ I7 q7') (λyv s8 ⟨y,H8,I8,r8,n8'⟩=>?_) λe s z=>hXE _ _ _ _ z;obtain⟨m',hm,w8⟩:=hN _ _ n8';have o8:=(I8.pin (D,_) memD).1;have n8:=(I8.pin (D,_) memD).2.1;refine append_at (hsz:=by rw[ybb,← rv3.length];exact hz) o8 λh9 hs9 hD9=>?_;have I8':=(I8.ztm (pins':=[]) λp hp=>absurd hp (by simp)).weak σlen (λj v e=>zqn d6 e);have I9:=I8'.turned (h':=h9) (t':=s8.toks) (it:=D) (λb o hb e=>(hs9.2 b hb).trans e) n8 hDC (.inr hDle) (λx c e z=>by
     obtain⟨v,q⟩:=I2.cell x c (zpn sc.names [] (λx c e=>by simp at e) x c e);exact absurd (yka q.lt (by rw[z];exact hDle)) (yhc _)) (λp hp=>absurd (show p∈([]:List (Addr×Obj)) from hp) (by simp))
    refine⟨m',hm,i+1,ys++[y],its++[yv],nn+1,H8,I9,T.keep _ _ _ st5 λb hb o e=>(hs9.2 b (below b (fplt b hb)).2).trans (I8.pin (b,o) (memF hb e)).1,λb hb=>?_,n8,?_,rv3.snoc r8,w8⟩
    ·obtain⟨o,e,_⟩:=T.obj _ _ st5 b hb;exact (I8.pin (b,o) (memF hb e)).2.1
    ·rw[hD9,yhn]
 exact ysk (loop _ rfl) (T.self X.A 0 _ _ _ st3 (loop _ rfl))
theorem zjnb {elt iter tg:Expr}{ifs:List Expr}{sc:Scope}{pos:Pos}{own cap:List Str}{js:List Nat}{wi:TI}{g:TG}{tt:TT}{te:TE}(hc:X.calm=true)(S:zvd X sc)(cp:Caps X sc cap js)(hi:PI X tg iter wi)
  (hg:∀fp s H C,OkB X fp s H C->PG (blkx X (own++cap) sc fp s H C) tg g) (ht:∀fp s H C,OkB X fp s H C->PTs (blkx X (own++cap) sc fp s H C) ifs tt) (he:∀fp s H C,OkB X fp s H C->PE (blkx X (own++cap) sc fp s H C) elt te)
  (hs:∀x,yhh iter X.env x=pure x:=by intro _;rfl):PE X (.ListComp elt [⟨tg,iter,ifs,0⟩] sc pos) (ziqb wi g tt te own.length js):=by
 intro pins s σ H Q I h;rw[eval_ListComp];refine ysg (use:=none) rfl hs (zsr λy hy hf=>I.ok.has y.1 (S.free y hy hf)) S.kind S.names (thn (hi pins s σ H _ I h) λv s1 h1=>thn h1 λitv s2 h2=>?_);obtain⟨it,fp,tn,J,H2,e,I2,T,st2,f2,W,⟨m0,w0⟩,turn⟩:=h2;subst e;refine zuob (RR:=λacc C=>compPost (model X.prog X.w) X.A X.xe none (EP X pins σ Q) acc C) (Qf:=λys H=>∀p,H p=none->Q (.ref p) (upd H p (.lst ys))) hc S cp hg ht he I2 T st2 f2 w0 turn ?_ (λ_ _ _ _ z=>z);intro D C H4 s4 pn ys its nn hD hC hDC I4 n4 o4 hz rv q;obtain⟨m,hn,_⟩:=I4.loc;exact⟨m,hn,λh' hs'=>⟨.ref D,upd H4 D (.lst ys),zzeb I2 I4 f2 hC hD hDC n4 o4 hz rv hs',rfl,q D n4⟩⟩
end
end L2
namespace L2
open PySem PySem.Spec PyProof.Rows
section
variable {X:Cx}
theorem ziab:zim X (.builtin "len") (λxs H Q=>∃l D,xs=[.ref l]∧H l=some (setO X l D)∧D.length≤1000∧Q (.int D.length) H):=by
 intro pins s σ H xs us Q I r h;obtain⟨l,D,rfl,hl,hz,q⟩:=h;obtain⟨u,rfl,ru⟩:=vals1 r;cases ru;obtain⟨⟨o,es,ep,t,ho,hex,hd,_,hp,_,hf,_⟩,_,_⟩:=I.hok l _ hl;have hn:es.size=D.length:=by
  have z:=hp.length_eq
  simpa using z
 exact PySem.call_len_set ho hex hd hf (by omega) ⟨.int D.length,H,I.tok _,⟨s.toks+1,by rw[hn]⟩,q⟩
end
end L2
namespace L2
open PySem PySem.Spec PyProof.Rows
section
variable {X:Cx}
end
end L2
namespace Wm
open PySem
theorem zqlb {c:Nat}:∀{x y a b:List Nat},c∉x->c∉y->x++c::a=y++c::b->x=y∧a=b
 | [],[],a,b,_,_,h=>⟨rfl,by simpa using h⟩
 | [],y::ys,a,b,_,hy,h=>by
  exfalso;simp only[yzf,ynf,ysi] at h;exact hy (by rw[← h.1];exact yqa)
 | x::xs,[],a,b,hx,_,h=>by
  exfalso;simp only[yzf,ynf,ysi] at h;exact hx (by rw[h.1];exact yqa)
 | x::xs,y::ys,a,b,hx,hy,h=>by
  simp only[ynf,ysi] at h;obtain⟨h1,h2⟩:=h;obtain⟨e1,e2⟩:=zqlb (λz=>hx (yla _ z)) (λz=>hy (yla _ z)) h2;exact⟨by rw[h1,e1],e2⟩
def jl (c:Nat):List (List Nat)->List Nat
 | []=>[]
 | [x]=>x
 | x::y::r=>x++c::jl c (y::r)
theorem zgpb {c:Nat}:∀{xs ys:List (List Nat)},xs≠[]->ys≠[]->(∀x∈xs,c∉x)->(∀y∈ys,c∉y)->jl c xs=jl c ys->xs=ys
 | [],_,h,_,_,_,_=>absurd rfl h
 | _,[],_,h,_,_,_=>absurd rfl h
 | [x],[y],_,_,_,_,h=>by
  have h':x=y:=h;rw[h']
 | [x],y::z::r,_,_,hx,_,h=>by
  exfalso;have h':x=y++c::jl c (z::r):=h;exact hx x yqa (by rw[h'];simp)
 | x::z::r,[y],_,_,_,hy,h=>by
  exfalso;have h':x++c::jl c (z::r)=y:=h;exact hy y yqa (by rw[← h'];simp)
 | x::z::r,y::z'::r',_,_,hx,hy,h=>by
  have h':x++c::jl c (z::r)=y++c::jl c (z'::r'):=h;obtain⟨e1,e2⟩:=zqlb (hx x yqa) (hy y yqa) h';rw[e1,zgpb (by simp) (by simp) (λq hq=>hx q (yla _ hq)) (λq hq=>hy q (yla _ hq)) e2]
theorem zpo (c:Nat):∀ws:List Str,(yea ⟨#[c]⟩ ws).cps.toList=jl c (ws.map λw=>w.cps.toList)
 | []=>rfl
 | [x]=>rfl
 | x::y::r=>by
  have ih:=zpo c (y::r);show (x++(⟨#[c]⟩:Str)++yea ⟨#[c]⟩ (y::r)).cps.toList=x.cps.toList++c::jl c ((y::r).map λw=>w.cps.toList)
  rw[← ih];show ((x.cps++#[c])++(yea ⟨#[c]⟩ (y::r)).cps).toList=_
  simp
theorem toList_inj {xs ys:List Str}(h:(xs.map λw=>w.cps.toList)=(ys.map λw=>w.cps.toList)):xs=ys:=by
 induction xs generalizing ys with
 | nil=>cases ys with
  | nil=>rfl
  | cons y r=>simp at h
 | cons x r ih=>cases ys with
  | nil=>simp at h
  | cons y s =>
   simp only[ytb,ysi] at h;have e:x=y:=by
    obtain⟨a⟩:=x;obtain⟨b⟩:=y;have h1:a.toList=b.toList:=h.1;rw[yuh.mp h1]
   rw[e,ih h.2]
theorem znh (x y:Str):yma x y≠[]:=by
 unfold yma
 split
 ·simp
 ·split
  ·simp
  ·unfold yxe;cases yic x y 0 x.length (x.length+1)<;>simp
theorem zer {c:Nat}{ws:List Str}(hne:ws≠[])(hf:∀w∈ws,c∉w.cps.toList):yma (yea ⟨#[c]⟩ ws) ⟨#[c]⟩=ws:=by
 refine toList_inj (zgpb (c:=c) (by simpa using znh _ _) (by simpa using hne) (λx hx=>?_) (λx hx=>?_) ?_)
 ·obtain⟨w,hw,rfl⟩:=ykb.mp hx;exact StrLaws.split_free _ c w hw
 ·obtain⟨w,hw,rfl⟩:=ykb.mp hx;exact hf w hw
 ·rw[← zpo,← zpo,ygd]
theorem zgk (s:Str):∀ws:List Str,(yea s ws).length≤(ws.map (·.length)).sum+ws.length*s.length
 | []=>ydc _
 | [x]=>by
  show x.length≤_
  simp only[ytb,ybl,ych,List.sum_nil,yjc];omega
 | x::y::r=>by
  have ih:=zgk s (y::r);show (x++s++yea s (y::r)).length≤_
  rw[yon,yon];simp only[ytb,ych,yia,yfo,Nat.one_mul] at ih ⊢;omega
theorem join_cons (s x:Str){r:List Str}(h:r≠[]):yea s (x::r)=x++s++yea s r:=by
 cases r with
 | nil=>exact absurd rfl h
 | cons y r=>rfl
theorem zehb (s:Str):∀{xs ys:List Str},xs≠[]->ys≠[]->yea s (xs++ys)=yea s xs++s++yea s ys
 | [],_,h,_=>absurd rfl h
 | [x],ys,_,h=>by rw[List.singleton_append,join_cons s x h];rfl
 | x::y::r,ys,_,h=>by
  have ih:=zehb s (xs:=y::r) (by simp) h;rw[ynf,join_cons s x (by simp),ih,join_cons s x (by simp)];simp only[yuc]
theorem zxv (s:Str):∀{xss:List (List Str)},(∀xs∈xss,xs≠[])->yea s (xss.map (yea s))=yea s xss.flatten
 | [],_=>rfl
 | [xs],_=>by simp[yea]
 | xs::ys::r,h=>by
  have ih:=zxv s (xss:=ys::r) (λq hq=>h q (yla _ hq));have hx:=h xs yqa;have hy:=h ys (yla _ yqa);have ne:(ys::r).flatten≠[]:=by
   rw[ycd];intro z;exact hy (List.append_eq_nil_iff.mp z).1
  rw[ytb,join_cons s _ (by simp),ih,ycd (l:=xs),zehb s hx ne]
inductive Wh where
 | all|self|mine|mark (n:Str)|force (i:Nat)|not (a:Wh)|both (a b:Wh)|any (a b:Wh)
def Wh.word:Wh->Str
 | .all=>"all"
 | .self=>"self"
 | .mine=>"mine"
 | .mark _=>"mark"
 | .force _=>"force"
 | .not _=>"not"
 | .both _ _=>"both"
 | .any _ _=>"any"
inductive Wv where
 | non|name (n:Str)|num (i:Nat)
def Wh.val:Wh->Wv
 | .mark n=>.name n
 | .force i=>.num i
 | _=>.non
def Wh.parts:Wh->List Wh
 | .not a=>[a]
 | .both a b=>[a,b]
 | .any a b=>[a,b]
 | _=>[]
def Wv.words:Wv->List Str
 | .non=>[]
 | .name n=>[n]
 | .num i=>[toString (i:Int)]
def Wh.words:Wh->List Str
 | .all=>["all"]
 | .self=>["self"]
 | .mine=>["mine"]
 | .mark n=>["mark",n]
 | .force i=>["force",toString (i:Int)]
 | .not a=>"not" :: a.words
 | .both a b=>"both" :: (a.words++b.words)
 | .any a b=>"any" :: (a.words++b.words)
def Wh.size:Wh->Nat
 | .not a=>a.size+1
 | .both a b=>a.size+b.size+1
 | .any a b=>a.size+b.size+1
 | _=>1
theorem Wh.zjt (w:Wh):w.words=w.word::(w.val.words++(w.parts.map Wh.words).flatten):=by
 cases w<;>simp[Wh.words,Wh.word,Wh.val,Wv.words,Wh.parts]
theorem Wh.zve (w:Wh):w.words≠[]:=by
 rw[w.zjt];simp
theorem Wh.size_eq (w:Wh):w.size=1+(w.parts.map Wh.size).sum:=by
 cases w<;>simp[Wh.size,Wh.parts]<;>omega
theorem Wh.size_pos (w:Wh):0<w.size:=by
 rw[w.size_eq];omega
def Wh.flat:Wh->List (Str×Wv)
 | .not a=>("not",.non)::a.flat
 | .both a b=>("both",.non)::(a.flat++b.flat)
 | .any a b=>("any",.non)::(a.flat++b.flat)
 | w=>[(w.word,w.val)]
theorem Wh.zssb (w:Wh):w.flat=(w.word,w.val)::(w.parts.map Wh.flat).flatten:=by
 cases w<;>simp[Wh.flat,Wh.word,Wh.val,Wh.parts]
theorem Wh.zyz (w:Wh):w.flat.length=w.size:=by
 induction w<;>simp[Wh.flat,Wh.size, *]
def mkWh (word:Str)(v:Wv)(ps:List Wh):Wh :=
 match v with
 | .name n=>.mark n
 | .num i=>.force i
 | .non=>match ps with
  | [a]=>.not a
  | [a,b]=>if word = "both" then .both a b else .any a b
  | _=>if word = "all" then .all else if word = "self" then .self else .mine
def arity (word:Str):Nat:=if word = "not" then 1 else if word = "both" then 2 else if word = "any" then 2 else 0
def znl:List (Str×Wv)->List Wh
 | []=>[]
 | (w,v)::r=>mkWh w v ((znl r).take (arity w))::(znl r).drop (arity w)
theorem zoy (w:Wh):∀r:List (Str×Wv),znl (w.flat++r)=w::znl r:=by
 induction w with
 | not a ih =>
  intro r;show mkWh _ _ ((znl (a.flat++r)).take 1)::(znl (a.flat++r)).drop 1=_
  rw[ih r];rfl
 | both a b iha ihb =>
  intro r;show mkWh _ _ ((znl ((a.flat++b.flat)++r)).take 2)::(znl ((a.flat++b.flat)++r)).drop 2=_
  rw[ydd,iha,ihb];rfl
 | any a b iha ihb =>
  intro r;show mkWh _ _ ((znl ((a.flat++b.flat)++r)).take 2)::(znl ((a.flat++b.flat)++r)).drop 2=_
  rw[ydd,iha,ihb];rfl
 | _=>intro r;rfl
def zgm (ws:List Wh):List (Str×Wv):=(ws.map Wh.flat).flatten
def zcl (ws:List Wh):List Str:=(ws.map Wh.words).flatten
def zdl (ws:List Wh):Nat:=(ws.map Wh.size).sum
theorem zon (w:Wh)(ws:List Wh):zgm (w::ws)=(w.word,w.val)::zgm (w.parts++ws):=by
 unfold zgm;rw[ytb,ycd,w.zssb,ydb,yqg];rfl
theorem zgo (w:Wh)(ws:List Wh):zcl (w::ws)=w.word::(w.val.words++zcl (w.parts++ws)):=by
 unfold zcl;rw[ytb,ycd,w.zjt,ydb,yqg];simp
theorem zfr (w:Wh)(ws:List Wh):zdl (w::ws)=1+zdl (w.parts++ws):=by
 unfold zdl;rw[ytb,ych,w.size_eq,ydb,yll];omega
theorem zcbb {ws:List Wh}(h:ws≠[]):0<zdl ws:=by
 cases ws with
 | nil=>exact absurd rfl h
 | cons w r=>rw[zfr];omega
def znd (n:Str):Prop:=1≤n.length∧n.length≤8∧∀c∈n.cps.toList,97≤c∧c≤122
def Wh.ok:Wh->Prop
 | .mark n=>znd n
 | .force i=>i<1000
 | .not a=>a.ok
 | .both a b=>a.ok∧b.ok
 | .any a b=>a.ok∧b.ok
 | _=>True
theorem Wh.zkz {w:Wh}(h:w.ok):∀p∈w.parts,p.ok:=by
 cases w with
 | not a =>
  intro p hp;have e:p=a:=by simpa [Wh.parts] using hp
  rw[e];exact h
 | both a b =>
  intro p hp;have e:p=a∨p=b:=by simpa [Wh.parts] using hp
  rcases e with e|e<;>rw[e]
  ·exact h.1
  ·exact h.2
 | any a b =>
  intro p hp;have e:p=a∨p=b:=by simpa [Wh.parts] using hp
  rcases e with e|e<;>rw[e]
  ·exact h.1
  ·exact h.2
 | _=>intro p hp;simp[Wh.parts] at hp
theorem zpv:∀i:Nat,i<1000->∀c∈(toString (i:Int):Str).cps.toList,48≤c∧c≤57:=by decide +kernel
theorem ztk:∀i:Nat,i<1000->1≤(toString (i:Int):Str).length∧(toString (i:Int):Str).length≤3:=by decide +kernel
def zuw (u:Str):Prop:=32∉u.cps.toList∧1≤u.length∧u.length≤8
theorem zgcb {n:Str}(h:znd n):zuw n:=⟨λz=>absurd (h.2.2 32 z).1 (by decide),h.1,h.2.1⟩
theorem zzgb {i:Nat}(h:i<1000):zuw (toString (i:Int):Str):=by
 have q:=ztk i h;exact⟨λz=>absurd (zpv i h 32 z).1 (by decide),q.1,by omega⟩
theorem Wh.zrl (w:Wh):zuw w.word:=by
 have h:∀u∈(["all","self","mine","mark","force","not","both","any"]:List Str),32∉u.cps.toList∧1≤u.length∧u.length≤8:=by decide +kernel
 refine h _ ?_;cases w<;>simp[Wh.word]
theorem Wh.zqy {w:Wh}(h:w.ok):∀u∈w.words,zuw u:=by
 induction w with
 | not a ih =>
  intro u hu
  rcases yda.mp hu with e|e
  ·rw[e];exact Wh.zrl (.not a)
  ·exact ih h u e
 | both a b iha ihb =>
  intro u hu
  rcases yda.mp hu with e|e
  ·rw[e];exact Wh.zrl (.both a b)
  ·rcases yna.mp e with e|e
   ·exact iha h.1 u e
   ·exact ihb h.2 u e
 | any a b iha ihb =>
  intro u hu
  rcases yda.mp hu with e|e
  ·rw[e];exact Wh.zrl (.any a b)
  ·rcases yna.mp e with e|e
   ·exact iha h.1 u e
   ·exact ihb h.2 u e
 | mark n =>
  intro u hu;have e:u = "mark" ∨ u=n:=by simpa [Wh.words] using hu
  rcases e with e|e<;>rw[e]
  ·exact Wh.zrl (.mark n)
  ·exact zgcb h
 | force i =>
  intro u hu;have e:u = "force" ∨ u=toString (i:Int):=by simpa [Wh.words] using hu
  rcases e with e|e<;>rw[e]
  ·exact Wh.zrl (.force i)
  ·exact zzgb h
 | all=>intro u hu;have e:u = "all":=by simpa [Wh.words] using hu
        rw[e];exact Wh.zrl .all
 | self=>intro u hu;have e:u = "self":=by simpa [Wh.words] using hu
         rw[e];exact Wh.zrl .self
 | mine=>intro u hu;have e:u = "mine":=by simpa [Wh.words] using hu
         rw[e];exact Wh.zrl .mine
theorem Wh.zut (w:Wh):w.words.length≤2*w.size:=by
 induction w<;>simp[Wh.words,Wh.size]<;>omega
theorem zun {l:List Nat}{k:Nat}(h:∀x∈l,x≤k):l.sum≤l.length*k:=by
 induction l with
 | nil=>simp
 | cons x r ih =>
  have a:=h x yqa;have b:=ih λy hy=>h y (yla _ hy);rw[ych,yia,yfo,Nat.one_mul];omega
def step:List Wh->List Wh
 | []=>[]
 | h::t=>h.parts++t
def pend (w:Wh):Nat->List Wh
 | 0=>[w]
 | j+1=>step (pend w j)
theorem zbw (w:Wh):zgm [w]=w.flat:=by simp[zgm]
theorem zcr (w:Wh):zcl [w]=w.words:=by simp[zcl]
theorem ziv (w:Wh):∀j,zgm (pend w j)=w.flat.drop j
 | 0=>by rw[yoh];exact zbw w
 | j+1=>by
  have ih:=ziv w j;show zgm (step (pend w j))=_
  cases e:pend w j with
  | nil =>
   rw[e] at ih;have z:w.flat.drop j=[]:=ih.symm;rw[← yrf (i:=1),z];rfl
  | cons h t =>
   rw[e,zon] at ih;show zgm (h.parts++t)=_
   have z:=congrArg (List.drop 1) ih;rw[yrf] at z
   simpa using z
theorem zgv (w:Wh)(j:Nat):zdl (pend w j)=w.size-j:=by
 have a:∀ws:List Wh,(zgm ws).length=zdl ws:=by
  intro ws
  induction ws with
  | nil=>rfl
  | cons x r ih =>
   have e1:zgm (x::r)=x.flat++zgm r:=(by simp[zgm]);have e2:zdl (x::r)=x.size+zdl r:=(by simp[zdl]);rw[e1,e2,yha,x.zyz,ih]
 rw[← a,ziv,ylc,w.zyz]
theorem zvrb {w:Wh}{j:Nat}(h:j<w.size):Ex2 λx t=>pend w j=x::t:=by
 cases e:pend w j with
 | nil =>
  have z:=zgv w j;rw[e] at z;have z':0=w.size-j:=z;omega
 | cons x t=>exact⟨x,t,rfl⟩
theorem zinb (w:Wh):pend w w.size=[]:=by
 cases e:pend w w.size with
 | nil=>rfl
 | cons x t =>
  have z:=zgv w w.size;rw[e] at z;have p:=zcbb (ws:=x::t) (by simp);omega
theorem zwrb {w x:Wh}{t:List Wh}{j:Nat}(e:pend w j=x::t):w.flat[j]?=some (x.word,x.val):=by
 have z:=ziv w j;rw[e,zon] at z;have q:(w.flat.drop j)[0]?=some (x.word,x.val):=by rw[← z];rfl
 rw[yme] at q
 simpa using q
def Wh.depth:Wh->Nat
 | .not a=>a.depth+1
 | .both a b=>max a.depth b.depth+1
 | .any a b=>max a.depth b.depth+1
 | _=>1
theorem Wh.zuq (w:Wh):w.depth≤w.size:=by
 induction w<;>simp[Wh.depth,Wh.size]<;>omega
theorem Wh.zueb (w:Wh):∀p∈w.parts,p.depth+1≤w.depth:=by
 cases w<;>simp[Wh.parts,Wh.depth]<;>omega
theorem zxz {α:Type}(l:List α):(l.map λx=>[x]).flatten=l:=by
 induction l with
 | nil=>rfl
 | cons x r ih=>rw[ytb,ycd,ih];rfl
theorem zcqb (w:Wh):yea " " (w.word::(w.val.words++w.parts.map λp=>yea " " p.words))=yea " " w.words:=by
 have e:(w.word::(w.val.words++w.parts.map λp=>yea " " p.words))=((w.word::w.val.words).map λx=>[x]).map (yea " ")++(w.parts.map Wh.words).map (yea " "):=by
  rw[yrh,yrh];have e1:((w.word::w.val.words).map (yea " " ∘ λx=>[x]))=w.word::w.val.words:=by
   have:(yea " " ∘ λx=>[x])=id:=by funext x;rfl
   rw[this,List.map_id]
  rw[e1];rfl
 rw[e,← ydb,zxv]
 ·rw[yqg,w.zjt,zxz];rfl
 ·intro xs hx
  rcases yna.mp hx with q|q
  ·obtain⟨x,_,rfl⟩:=ykb.mp q;simp
  ·obtain⟨x,_,rfl⟩:=ykb.mp q;exact x.zve
end Wm
namespace Wm
open PySem
def plain (w:Wh):Prop:=w.ok∧w.size≤9
structure Deed where
 each:Str
 kind:Str
 amt:Wv
 whom:Wh
def zym:List Str:=["each","one"]
def zqa:List Str:=["leave","hurt","gain","lack","lose","score","draw"]
def zxc:List Str:=["come","leave","hurt","gain","lack","lose","score","draw"]
def zje:List Str:=["lose","score","draw"]
def changes:List Str:=["mute","steal","gain","lack","be","more","less","per"]
def sorts:List Str:=["hold","when","instead","may"]
inductive zql:Str->Wv->Prop
 | leave:zql "leave" .non
 | gain {n:Str}:znd n->zql "gain" (.name n)
 | lack {n:Str}:znd n->zql "lack" (.name n)
 | hurt {i:Nat}:i<1000->zql "hurt" (.num i)
 | lose {i:Nat}:i<1000->zql "lose" (.num i)
 | score {i:Nat}:i<1000->zql "score" (.num i)
 | draw {i:Nat}:i<1000->zql "draw" (.num i)
structure Deed.ok (d:Deed):Prop where
 each:d.each∈zym
 amt:zql d.kind d.amt
 whom:plain d.whom
def Deed.words (d:Deed):List Str:=d.each::d.kind::(d.amt.words++d.whom.words)
inductive Hv where
 | v (x:Wv)|w (y:Wh)
def Hv.words:Hv->List Str
 | .v x=>x.words
 | .w y=>y.words
inductive zvf:Str->Hv->Prop
 | mute:zvf "mute" (.v .non)
 | steal:zvf "steal" (.v .non)
 | gain {n:Str}:znd n->zvf "gain" (.v (.name n))
 | lack {n:Str}:znd n->zvf "lack" (.v (.name n))
 | be {i:Nat}:i<1000->zvf "be" (.v (.num i))
 | more {i:Nat}:i<1000->zvf "more" (.v (.num i))
 | less {i:Nat}:i<1000->zvf "less" (.v (.num i))
 | per {y:Wh}:plain y->zvf "per" (.w y)
inductive TurnOk:Str->Wv->Prop
 | none:TurnOk "none" .non
 | here:TurnOk "here" .non
 | less {i:Nat}:i<1000->TurnOk "less" (.num i)
 | more {i:Nat}:i<1000->TurnOk "more" (.num i)
 | as {n:Str}:n∈zje->TurnOk "as" (.name n)
def turns:Str->List Str:=λk =>
 if k = "leave" then ["none","here"] else if k = "hurt" then ["none","here","less","more"] else if k = "gain" then ["none","here"] else if k = "lack" then ["none","here"]
 else ["none","less","more","as"]
inductive Rule where
 | hold (word:Str) (val:Hv) (whom:Wh)
 | wen (kind:Str) (whom:Wh) (deed:Deed)
 | instead (kind:Str) (whom:Wh) (word:Str) (val:Wv)
 | may (cost:Nat) (deed:Deed)
def Rule.ok:Rule->Prop
 | .hold w v y=>zvf w v∧plain y
 | .wen k y d=>k∈zxc∧plain y∧d.ok
 | .instead k y w v=>k∈zqa∧plain y∧w∈turns k∧TurnOk w v
 | .may c d=>c<1000∧d.ok
def Rule.words:Rule->List Str
 | .hold w v y=>"hold" :: w::(v.words++y.words)
 | .wen k y d=>"when" :: k::(y.words++("do":Str)::d.words)
 | .instead k y w v=>"instead" :: k::(y.words++("do":Str)::w::v.words)
 | .may c d=>"may" :: toString (c:Int) :: "do" :: d.words
theorem zql.kind {k:Str}{v:Wv}(h:zql k v):k∈zqa:=by cases h<;>decide
theorem zvf.word {k:Str}{v:Hv}(h:zvf k v):k∈changes:=by cases h<;>decide
theorem Rule.zve (r:Rule):r.words≠[]:=by cases r<;>exact yad _ _
def zur (u:Str):Prop:=zuw u∧47∉u.cps.toList
theorem ziq {n:Str}(h:znd n):zur n:=⟨zgcb h,λz=>absurd (h.2.2 47 z).1 (by decide)⟩
theorem zjl {i:Nat}(h:i<1000):zur (toString (i:Int):Str):=⟨zzgb h,λz=>absurd (zpv i h 47 z).1 (by decide)⟩
def goodW (u:Str):Bool:=!u.cps.toList.contains 32 && !u.cps.toList.contains 47&&decide (1≤u.length)&&decide (u.length≤8)
theorem zik {u:Str}(h:goodW u=true):zur u:=by
 unfold goodW at h;rw[yub,yub,yub] at h;obtain⟨⟨⟨a,b⟩,c⟩,d⟩:=h;refine⟨⟨λz=>?_,of_decide_eq_true c,of_decide_eq_true d⟩,λz=>?_⟩
 ·rw[yml.mpr z] at a;cases a
 ·rw[yml.mpr z] at b;cases b
theorem ztn {l:List Str}(h:l.all goodW=true){u:Str}(hu:u∈l):zur u:=zik (yyb.mp h u hu)
theorem Wh.zlg {w:Wh}(h:w.ok):∀u∈w.words,zur u:=by
 induction w with
 | all=>intro u hu;exact ztn (l:=["all"]) (by decide +kernel) hu
 | self=>intro u hu;exact ztn (l:=["self"]) (by decide +kernel) hu
 | mine=>intro u hu;exact ztn (l:=["mine"]) (by decide +kernel) hu
 | mark n =>
  intro u hu
  rcases yda.mp hu with rfl|hu
  ·exact zik (by decide +kernel)
  ·rw[yca.mp hu];exact ziq h
 | force i =>
  intro u hu
  rcases yda.mp hu with rfl|hu
  ·exact zik (by decide +kernel)
  ·rw[yca.mp hu];exact zjl h
 | not a ih =>
  intro u hu
  rcases yda.mp hu with rfl|hu
  ·exact zik (by decide +kernel)
  ·exact ih h u hu
 | both a b ia ib =>
  intro u hu
  rcases yda.mp hu with rfl|hu
  ·exact zik (by decide +kernel)
  ·rcases yna.mp hu with hu|hu
   ·exact ia h.1 u hu
   ·exact ib h.2 u hu
 | any a b ia ib =>
  intro u hu
  rcases yda.mp hu with rfl|hu
  ·exact zik (by decide +kernel)
  ·rcases yna.mp hu with hu|hu
   ·exact ia h.1 u hu
   ·exact ib h.2 u hu
theorem zql.words {k:Str}{v:Wv}(h:zql k v):∀u∈v.words,zur u:=by
 intro u hu;cases h with
 | leave=>cases hu
 | gain h=>rw[yca.mp hu];exact ziq h
 | lack h=>rw[yca.mp hu];exact ziq h
 | hurt h=>rw[yca.mp hu];exact zjl h
 | lose h=>rw[yca.mp hu];exact zjl h
 | score h=>rw[yca.mp hu];exact zjl h
 | draw h=>rw[yca.mp hu];exact zjl h
theorem TurnOk.words {k:Str}{v:Wv}(h:TurnOk k v):∀u∈v.words,zur u:=by
 intro u hu;cases h with
 | none=>cases hu
 | here=>cases hu
 | less h=>rw[yca.mp hu];exact zjl h
 | more h=>rw[yca.mp hu];exact zjl h
 | as h=>rw[yca.mp hu];exact ztn (l:=zje) (by decide +kernel) h
theorem TurnOk.word {k:Str}{v:Wv}(h:TurnOk k v):zur k:=by cases h<;>exact zik (by decide +kernel)
theorem zvf.words {k:Str}{v:Hv}(h:zvf k v):∀u∈v.words,zur u:=by
 intro u hu;cases h with
 | mute=>cases hu
 | steal=>cases hu
 | gain h=>rw[yca.mp hu];exact ziq h
 | lack h=>rw[yca.mp hu];exact ziq h
 | be h=>rw[yca.mp hu];exact zjl h
 | more h=>rw[yca.mp hu];exact zjl h
 | less h=>rw[yca.mp hu];exact zjl h
 | per h=>exact Wh.zlg h.1 u hu
theorem Deed.zlg {d:Deed}(h:d.ok):∀u∈d.words,zur u:=by
 intro u hu
 rcases yda.mp hu with rfl|hu
 ·exact ztn (l:=zym) (by decide +kernel) h.each
 rcases yda.mp hu with rfl|hu
 ·exact ztn (l:=zqa) (by decide +kernel) h.amt.kind
 rcases yna.mp hu with hu|hu
 ·exact h.amt.words u hu
 ·exact Wh.zlg h.whom.1 u hu
theorem Rule.zlg {r:Rule}(h:r.ok):∀u∈r.words,zur u:=by
 intro u hu;cases r with
 | hold w v y =>
  rcases yda.mp hu with rfl|hu
  ·exact zik (by decide +kernel)
  rcases yda.mp hu with rfl|hu
  ·exact ztn (l:=changes) (by decide +kernel) h.1.word
  rcases yna.mp hu with hu|hu
  ·exact h.1.words u hu
  ·exact Wh.zlg h.2.1 u hu
 | wen k y d =>
  rcases yda.mp hu with rfl|hu
  ·exact zik (by decide +kernel)
  rcases yda.mp hu with rfl|hu
  ·exact ztn (l:=zxc) (by decide +kernel) h.1
  rcases yna.mp hu with hu|hu
  ·exact Wh.zlg h.2.1.1 u hu
  rcases yda.mp hu with rfl|hu
  ·exact zik (by decide +kernel)
  ·exact Deed.zlg h.2.2 u hu
 | instead k y w v =>
  rcases yda.mp hu with rfl|hu
  ·exact zik (by decide +kernel)
  rcases yda.mp hu with rfl|hu
  ·exact ztn (l:=zqa) (by decide +kernel) h.1
  rcases yna.mp hu with hu|hu
  ·exact Wh.zlg h.2.1.1 u hu
  rcases yda.mp hu with rfl|hu
  ·exact zik (by decide +kernel)
  rcases yda.mp hu with rfl|hu
  ·exact h.2.2.2.word
  ·exact h.2.2.2.words u hu
 | may c d =>
  rcases yda.mp hu with rfl|hu
  ·exact zik (by decide +kernel)
  rcases yda.mp hu with rfl|hu
  ·exact zjl h.1
  rcases yda.mp hu with rfl|hu
  ·exact zik (by decide +kernel)
  ·exact Deed.zlg h.2 u hu
end Wm
namespace Wm
open PySem PySem.StrLaws PySem.Builtin.Str
def SL:Str:=⟨#[32,47,32]⟩
theorem zny {s sub:Str}{hi:Nat}:∀{cuts cuts':List Nat} {a f f':Nat},ChainG s sub hi a cuts f->(∀k,f≤k->¬ At s sub hi k)->ChainG s sub hi a cuts' f'->(∀k,f'≤k->¬ At s sub hi k)->cuts=cuts'
 | [],[],_,_,_,_,_,_,_=>rfl
 | [],c::r,a,f,f',h,n,h',n'=>by
  have e:f=a:=h;subst e;exact absurd h'.2.1 (n c h'.1)
 | c::r,[],a,f,f',h,n,h',n'=>by
  have e:f'=a:=h';subst e;exact absurd h.2.1 (n' c h.1)
 | c::r,c'::r',a,f,f',h,n,h',n'=>by
  rcases Nat.lt_trichotomy c c' with z|z|z
  ·exact absurd h.2.1 (h'.2.2.1 c h.1 z)
  ·subst z;rw[zny h.2.2.2 n h'.2.2.2 n']
  ·exact absurd h'.2.1 (h.2.2.1 c' h'.1 z)
theorem zcab (x:Str)(a b:Nat):(x.cps.extract a b).toList=(x.cps.toList.drop a).take (b-a):=by
 rw[Array.toList_extract,List.extract_eq_take_drop]
theorem ztpb {x:Str}{hi k:Nat}(h:At x SL hi k):x.cps.toList[k+1]?=some 47:=by
 have e:x.cps.extract k (k+3)=#[32,47,32]:=by
  have:=h.2;unfold subAt at this;exact beq_iff_eq.mp this
 have q:=congrArg (λz=>z.toList[1]?) e;simp only[zcab] at q;rw[yrj (by omega),yme] at q;exact q
theorem at_of {x:Str}{pre r:List Nat}(e:x.cps.toList=pre++32::47::32::r):At x SL x.length pre.length:=by
 have hl:=congrArg ype e;rw[yha] at hl;simp only[yia,ymb] at hl;refine⟨?_,?_⟩
 ·show pre.length+3≤x.cps.size;omega
 ·unfold subAt;rw[beq_iff_eq];apply yuh.mp;rw[zcab,e,ynj];show ((32::47::32::r:List Nat).take (pre.length+3-pre.length))=[32,47,32]
  rw[ykk];rfl
def jl3:List (List Nat)->List Nat
 | []=>[]
 | [p]=>p
 | p::q::r=>p++32::47::32::jl3 (q::r)
def cutsOf:Nat->List (List Nat)->List Nat
 | a,p::q::r=>(a+p.length)::cutsOf (a+p.length+3) (q::r)
 | _,_=>[]
def lastOf:Nat->List (List Nat)->Nat
 | a,p::q::r=>lastOf (a+p.length+3) (q::r)
 | a,_=>a
theorem zxvb:∀ws:List Str,(yea SL ws).cps.toList=jl3 (ws.map λw=>w.cps.toList)
 | []=>rfl
 | [x]=>rfl
 | x::y::r=>by
  have e:yea SL (x::y::r)=x++SL++yea SL (y::r):=rfl;rw[e];show ((x.cps++SL.cps)++(yea SL (y::r)).cps).toList=_
  rw[yge,yge,zxvb (y::r),ydd];rfl
theorem zapb {x:Str}{pre p r:List Nat}{b:Nat}(e:x.cps.toList=pre++(p++r))(hb:b=pre.length+p.length)(q:Str)(hq:q.cps.toList=p):strSub x pre.length b=q:=by
 obtain⟨c⟩:=q;have z:x.cps.extract pre.length b=c:=by
  apply yuh.mp;rw[zcab,e,ynj,hb,ykk,List.take_left];exact hq.symm
 show (⟨x.cps.extract pre.length b⟩:Str)=⟨c⟩
 rw[z]
theorem zjhb {x:Str}:∀{ps:List Str} {pre:List Nat},ps≠[]->(∀p∈ps,47∉p.cps.toList)->x.cps.toList=pre++jl3 (ps.map λw=>w.cps.toList) →
  ChainG x SL x.length pre.length (cutsOf pre.length (ps.map λw=>w.cps.toList)) (lastOf pre.length (ps.map λw=>w.cps.toList))∧(∀k,lastOf pre.length (ps.map λw=>w.cps.toList)≤k->¬ At x SL x.length k)∧partsFrom x 3 pre.length (cutsOf pre.length (ps.map λw=>w.cps.toList))=ps
 | [],_,h,_,_=>absurd rfl h
 | [p],pre,_,hf,e=>by
  have e':x.cps.toList=pre++p.cps.toList:=e;refine⟨rfl,λk hk hA=>?_,?_⟩
  ·have hk':pre.length≤k:=hk;have m:=ztpb hA;rw[e',yfc (by omega)] at m;exact hf p (yca.mpr rfl) (yva m)
  ·show [strSub x pre.length x.length]=[p];rw[zapb (r:=[]) (by rw[yrb];exact e') ?_ p rfl];have hl:=congrArg ype e';rw[yha,ymb] at hl;exact hl
 | p::q::r,pre,_,hf,e=>by
  have e':x.cps.toList=pre++(p.cps.toList++32::47::32::jl3 ((q::r).map λw=>w.cps.toList)):=e;have e1:x.cps.toList=(pre++p.cps.toList)++32::47::32::jl3 ((q::r).map λw=>w.cps.toList):=by rw[e',ydd]
  have e2:x.cps.toList=(pre++p.cps.toList++[32,47,32])++jl3 ((q::r).map λw=>w.cps.toList):=by rw[e1,ydd (pre++p.cps.toList)];rfl
  obtain⟨c1,c2,c3⟩:=zjhb (ps:=q::r) (pre:=pre++p.cps.toList++[32,47,32]) (yad _ _) (λy hy=>hf y (yla _ hy)) e2;have el:(pre++p.cps.toList++[32,47,32]).length=pre.length+p.cps.toList.length+3:=by
   rw[yha,yha];rfl
  rw[el] at c1 c2 c3;have eA:=at_of e1;rw[yha] at eA;refine⟨⟨Nat.le_add_right _ _,eA,λk h1 h2 hA=>?_,c1⟩,c2,?_⟩
  ·have m:=ztpb hA
   rcases ytn (k+1) (pre.length+p.cps.toList.length) with z|z
   ·rw[e',yfc (by omega),ytd (by omega)] at m;exact hf p yqa (yva m)
   ·have h2':k<pre.length+p.cps.toList.length:=h2;have ek:k+1=(pre++p.cps.toList).length:=(by rw[yha];omega);rw[e1,ek,yfc (yxa _),yhj] at m;exact absurd m (by simp)
  ·show strSub x pre.length (pre.length+p.cps.toList.length)::partsFrom x 3 (pre.length+p.cps.toList.length+3) (cutsOf (pre.length+p.cps.toList.length+3) ((q::r).map λw=>w.cps.toList))=p::q::r;rw[c3,zapb e' rfl p rfl]
theorem zeub {ps:List Str}(hne:ps≠[])(hf:∀p∈ps,47∉p.cps.toList):yma (yea SL ps) SL=ps:=by
 obtain⟨f,hG,hn⟩:=occ_tight (yea SL ps) SL (by decide);obtain⟨c1,c2,c3⟩:=zjhb (x:=yea SL ps) (ps:=ps) (pre:=[]) hne hf (zxvb ps);have u:=zny hG hn c1 c2;unfold yma;rw[u];have one:cutsOf ([]:List Nat).length (ps.map λw=>w.cps.toList)=[]->[yea SL ps]=ps:=λz=>by
  cases ps with
  | nil=>exact absurd rfl hne
  | cons p r =>
   cases r with
   | nil=>rfl
   | cons q r=>cases z
 split
 ·rename_i hc;rw[Bool.or_eq_true,decide_eq_true_eq,decide_eq_true_eq] at hc;apply one
  rcases hc with h|h
  ·cases hcut:cutsOf ([]:List Nat).length (ps.map λw=>w.cps.toList) with
   | nil=>rfl
   | cons c r =>
    rw[hcut] at c1;have:=c1.2.1.1;omega
  ·exfalso;have ek:ypg SL=1:=(by decide +kernel);rw[ek] at h;unfold ypg at h
   split at h
   ·omega
   ·split at h
    ·omega
    ·omega
 ·split
  ·rename_i he;exact one (List.isEmpty_iff.mp he)
  ·rw[partsBetween_eq];exact c3
end Wm
namespace Wm
open PySem PySem.Spec PyProof.Rows
def leS (a b:Str):Prop:=a.cps.toList≤b.cps.toList
theorem zqvb {a b:Str}(h:ltCps b.cps.toList a.cps.toList=false):leS a b:=by
 rw[ltCps_eq] at h;exact List.not_lt.mp (of_decide_eq_false h)
theorem ztkb {a b c:Str}(h:leS a b)(g:leS b c):leS a c:=List.le_trans h g
theorem zxnb {a b:Str}(h:leS a b)(g:leS b a):a=b:=by
 have e:=List.le_antisymm h g;obtain⟨x⟩:=a;obtain⟨y⟩:=b;rw[show x=y from yuh.mp e]
theorem zfbb:∀(p:Str) (l:List Str),risingS p l=true->(p::l).Pairwise leS
 | p,[],_=>ylk _ _
 | p,x::r,h=>by
  have h':(!ltCps x.cps.toList p.cps.toList&&risingS x r)=true:=h;rw[yub] at h';have h1:leS p x:=zqvb (by have:=h'.1;revert this;cases ltCps x.cps.toList p.cps.toList<;>simp);have h2:=zfbb x r h'.2;rw[yvm];refine⟨λb hb=>?_,h2⟩
  rcases yda.mp hb with rfl|hb
  ·exact h1
  ·exact ztkb h1 ((yvm.mp h2).1 b hb)
theorem zabb:∀{l:List Str},yri l=true->l.Pairwise leS
 | [],_=>.nil
 | x::r,h=>zfbb x r h
theorem zdu {xs ys:List Str}(hp:xs.Perm ys)(hx:yri xs=true)(hy:yri ys=true):xs=ys :=
 yxj.eq_of_pairwise (le:=leS) (λ_ _ _ _ h g=>zxnb h g) (zabb hx) (zabb hy) hp
theorem zeab {xs:List Str}(h:xs.Nodup):SSet.dd xs=xs:=by
 have key:∀n,n≤xs.length->SSet.dd (xs.take n)=xs.take n:=by
  intro n
  induction n with
  | zero=>intro _;rfl
  | succ n ih =>
   intro hn;have hlt:n<xs.length:=hn;rw[ywb,yoa hlt];show SSet.dd (xs.take n++[xs[n]])=xs.take n++[xs[n]]
   rw[SSet.zro,ih (by omega),if_neg];intro hm;obtain⟨i,hi,e⟩:=List.getElem_of_mem hm;rw[ypb] at hi;rw[List.getElem_take] at e;exact (List.pairwise_iff_getElem.mp h) i n (by omega) hlt (by omega) e
 have:=key xs.length (yxa _)
 rwa [ybd] at this
structure Marks (ms:List Str):Prop where
 ok:∀m∈ms,znd m
 nd:ms.Nodup
 so:yri ms=true
 le:ms.length≤20
def CM:Str:=⟨#[44]⟩
def zce:List Str->Str
 | []=>"-"
 | m::r=>yea CM (m::r)
theorem zor {c:Nat}:∀{ws:List Str} {d:Nat},d∈(yea ⟨#[c]⟩ ws).cps.toList->d=c∨∃w∈ws,d∈w.cps.toList
 | [],d,h=>by cases h
 | [x],d,h=>.inr ⟨x,yca.mpr rfl,h⟩
 | x::y::r,d,h=>by
  have e:yea ⟨#[c]⟩ (x::y::r)=x++⟨#[c]⟩++yea ⟨#[c]⟩ (y::r):=rfl;rw[e] at h;have h':d∈((x.cps++#[c])++(yea ⟨#[c]⟩ (y::r)).cps).toList:=h;rw[yge,yge] at h'
  rcases yna.mp h' with h'|h'
  ·rcases yna.mp h' with h'|h'
   ·exact .inr ⟨x,yqa,h'⟩
   ·exact .inl (yca.mp h')
  ·rcases zor h' with z|⟨w,hw,z⟩
   ·exact .inl z
   ·exact .inr ⟨w,yla _ hw,z⟩
theorem zek {ms:List Str}(h:Marks ms)(hne:ms≠[]):∀d∈(zce ms).cps.toList,d=44∨(97≤d∧d≤122):=by
 cases ms with
 | nil=>exact absurd rfl hne
 | cons m r =>
  intro d hd
  rcases zor (c:=44) hd with z|⟨w,hw,z⟩
  ·exact .inl z
  ·exact .inr ((h.ok w hw).2.2 d z)
theorem zpkb {ms:List Str}(h:Marks ms)(hne:ms≠[]):zce ms ≠ "-":=by
 intro z;have:=zek h hne 45 (by rw[z];decide +kernel);omega
theorem zkl {ms:List Str}(h:Marks ms):1≤(zce ms).length∧(zce ms).length≤180:=by
 cases ms with
 | nil=>exact⟨by decide,by decide⟩
 | cons m r =>
  have a:=zgk CM (m::r);have c:=zun (l:=(m::r).map (·.length)) (k:=8) (λx hx=>by
   obtain⟨u,hu,rfl⟩:=ykb.mp hx;exact (h.ok u hu).2.1)
  rw[yaa] at c;have e:CM.length=1:=rfl;rw[e] at a;have l:=h.le;refine⟨?_,?_⟩
  ·have m1:=(h.ok m yqa).1;cases r with
   | nil=>exact m1
   | cons y r =>
    have e2:yea CM (m::y::r)=m++CM++yea CM (y::r):=rfl;show 1≤(yea CM (m::y::r)).length
    rw[e2];show 1≤((m.cps++CM.cps)++(yea CM (y::r)).cps).size
    rw[yak,yak];have:m.length=m.cps.size:=rfl;omega
  ·show (yea CM (m::r)).length≤180;omega
theorem zqeb {ms:List Str}(h:Marks ms)(hne:ms≠[]):yma (zce ms) CM=ms:=by
 cases ms with
 | nil=>exact absurd rfl hne
 | cons m r=>exact zer (c:=44) (yad _ _) (λw hw z=>absurd ((h.ok w hw).2.2 44 z).1 (by decide))
structure Crd where
 name:Str
 cost:Nat
 force:Nat
 marks:List Str
 rules:List Rule
structure Crd.ok (c:Crd):Prop where
 name:znd c.name
 cost:c.cost<1000
 force:c.force<1000
 marks:Marks c.marks
 rules:∀r∈c.rules,r.ok
 few:c.rules.length≤3
def Crd.head (c:Crd):List Str:=[c.name,toString (c.cost:Int),toString (c.force:Int),zce c.marks]
def zdd (r:Rule):Str:=yea " " r.words
def Crd.text (c:Crd):Str:=yea SL (yea " " c.head::c.rules.map zdd)
theorem ztcb {c d:Nat}{ws:List Str}(h:∀w∈ws,d∉w.cps.toList)(n:d≠c):d∉(yea ⟨#[c]⟩ ws).cps.toList:=λz=>by
 rcases zor z with e|⟨w,hw,z⟩
 ·exact n e
 ·exact h w hw z
theorem zreb {ms:List Str}(h:Marks ms):32∉(zce ms).cps.toList∧47∉(zce ms).cps.toList:=by
 by_cases e:ms=[]
 ·subst e;exact⟨by decide,by decide⟩
 ·exact⟨λz=>by have:=zek h e 32 z;omega,λz=>by have:=zek h e 47 z;omega⟩
theorem Crd.zscb {c:Crd}(h:c.ok):∀u∈c.head,32∉u.cps.toList∧47∉u.cps.toList:=by
 intro u hu;simp only[Crd.head,yda,ycb,or_false] at hu
 rcases hu with rfl|rfl|rfl|rfl
 ·exact⟨(ziq h.name).1.1,(ziq h.name).2⟩
 ·exact⟨(zjl h.cost).1.1,(zjl h.cost).2⟩
 ·exact⟨(zjl h.force).1.1,(zjl h.force).2⟩
 ·exact zreb h.marks
theorem Crd.zmib {c:Crd}(h:c.ok):yma (yea " " c.head) " " = c.head:=zer (c:=32) (yad _ _) (λu hu=>(Crd.zscb h u hu).1)
theorem Crd.znn {c:Crd}(h:c.ok):(yea " " c.head).length≤300:=by
 have a:=zgk " " c.head;have c':=zun (l:=c.head.map (·.length)) (k:=180) (λx hx=>by
  obtain⟨u,hu,rfl⟩:=ykb.mp hx;simp only[Crd.head,yda,ycb,or_false] at hu
  rcases hu with rfl|rfl|rfl|rfl
  ·have:=h.name.2.1;omega
  ·have:=(ztk _ h.cost).2;omega
  ·have:=(ztk _ h.force).2;omega
  ·exact (zkl h.marks).2)
 have e:(" ":Str).length=1:=rfl;rw[e] at a;have s:(c.head.map (·.length)).sum=c.name.length+((toString (c.cost:Int):Str).length+((toString (c.force:Int):Str).length+((zce c.marks).length+0))):=rfl;have hl:c.head.length=4:=rfl;rw[s,hl] at a;have b1:=h.name.2.1;have b2:=(ztk _ h.cost).2;have b3:=(ztk _ h.force).2;have b4:=(zkl h.marks).2;omega
theorem Crd.split {c:Crd}(h:c.ok):yma c.text SL=yea " " c.head::c.rules.map zdd:=by
 refine zeub (yad _ _) λp hp=>?_
 rcases yda.mp hp with rfl|hp
 ·exact ztcb (λu hu=>(Crd.zscb h u hu).2) (by decide)
 ·obtain⟨r,hr,rfl⟩:=ykb.mp hp;exact ztcb (λu hu=>(Rule.zlg (h.rules r hr) u hu).2) (by decide)
end Wm
namespace Wm
open PySem PySem.Spec PyProof.Rows
end Wm
namespace K06
open PySem L2 PyProof.Rows Wm
variable {P:ysb}{w:World}{K:yba}{mg:Str->Option Value}{base:Heap}
def top (i:Nat):Stmt:=PySem.Challenge.pw_turnstack_k06_no_card.main.body.getD i (.Pass ⟨0,0,0,0⟩)
abbrev zebb:Stmt:=top 13
abbrev zimb:List Str:=["word"]
abbrev zxw:List Str:=["word"]
theorem zvhb:zdb zimb zxw (zla zebb):=scOf (by decide +kernel)
abbrev ztu:Stmt:=top 14
abbrev zwfb:List Str:=["word"]
abbrev zdp:List Str:=["word"]
theorem zdbb:zdb zwfb zdp (zla ztu):=scOf (by decide +kernel)
abbrev zxx:Stmt:=top 15
abbrev zsib:List Str:=["word","most"]
abbrev zwr:List Str:=["word","most"]
theorem zzdb:zdb zsib zwr (zla zxx):=scOf (by decide +kernel)
abbrev zni:Stmt:=inClass (top 16) 0
abbrev zgt:List Str:=["self","text"]
abbrev zri:List Str:=["self","text"]
theorem zir:zdb zgt zri (zla zni):=scOf (by decide +kernel)
abbrev zpm:Stmt:=inClass (top 16) 1
abbrev zsdb:List Str:=["self"]
abbrev zgn:List Str:=["self"]
theorem zyy:zdb zsdb zgn (zla zpm):=scOf (by decide +kernel)
abbrev zmg:Stmt:=inClass (top 16) 2
abbrev znp:List Str:=["self","known","word"]
abbrev zrg:List Str:=["self","known"]
theorem zsi:zdb znp zrg (zla zmg):=scOf (by decide +kernel)
abbrev zgh:Stmt:=inClass (top 16) 3
abbrev zyr:List Str:=["self","word"]
abbrev zlh:List Str:=["self"]
theorem zwj:zdb zyr zlh (zla zgh):=scOf (by decide +kernel)
abbrev zng:Stmt:=inClass (top 16) 4
abbrev zop:List Str:=["self","word"]
abbrev zsg:List Str:=["self"]
theorem zti:zdb zop zsg (zla zng):=scOf (by decide +kernel)
abbrev zrk:Stmt:=inClass (top 16) 5
abbrev zsx:List Str:=["self"]
abbrev zbl:List Str:=["self"]
theorem zju:zdb zsx zbl (zla zrk):=scOf (by decide +kernel)
abbrev zbj:Stmt:=inClass (top 17) 0
abbrev zzw:List Str:=["self","word","value","parts"]
abbrev zqj:List Str:=["self","word","value","parts"]
theorem zbt:zdb zzw zqj (zla zbj):=scOf (by decide +kernel)
abbrev zjo:Stmt:=inClass (top 17) 1
abbrev zegb:List Str:=["self","words"]
abbrev zmh:List Str:=["self"]
theorem zfs:zdb zegb zmh (zla zjo):=scOf (by decide +kernel)
abbrev zku:Stmt:=top 18
abbrev znfb:List Str:=["words","taken","missing","word"]
abbrev zyl:List Str:=["words"]
theorem zrh:zdb znfb zyl (zla zku):=scOf (by decide +kernel)
abbrev zgs:Stmt:=top 19
abbrev zndb:List Str:=["words","word"]
abbrev zbn:List Str:=["words","word"]
theorem zvy:zdb zndb zbn (zla zgs):=scOf (by decide +kernel)
abbrev zrjb:Stmt:=top 20
abbrev zktb:List Str:=["taken","whoms","word","value","many"]
abbrev zmfb:List Str:=["taken"]
theorem zln:zdb zktb zmfb (zla zrjb):=scOf (by decide +kernel)
abbrev zcj:Stmt:=inClass (top 29) 0
abbrev zax:List Str:=["self","name","cost","force","marks","rules"]
abbrev zrj:List Str:=["self","name","cost","force","marks","rules"]
theorem zct:zdb zax zrj (zla zcj):=scOf (by decide +kernel)
abbrev zsu:Stmt:=top 30
abbrev zvfb:List Str:=["text","texts","words","name","cost","force","marks"]
abbrev zcp:List Str:=["text"]
theorem zjf:zdb zvfb zcp (zla zsu):=scOf (by decide +kernel)
abbrev zks:Stmt:=top 31
abbrev zqdb:List Str:=["word","marks"]
abbrev zen:List Str:=["word"]
theorem zyp:zdb zqdb zen (zla zks):=scOf (by decide +kernel)
abbrev zru:Stmt:=top 32
abbrev zufb:List Str:=["text","words","first","rule"]
abbrev zbp:List Str:=["text"]
theorem zif:zdb zufb zbp (zla zru):=scOf (by decide +kernel)
abbrev zmu:Stmt:=top 33
abbrev zpfb:List Str:=["words","word","value","whom"]
abbrev zwo:List Str:=["words"]
theorem zuj:zdb zpfb zwo (zla zmu):=scOf (by decide +kernel)
abbrev zaj:Stmt:=top 34
abbrev zmp:List Str:=["words","word"]
abbrev zqg:List Str:=["words","word"]
theorem zrn:zdb zmp zqg (zla zaj):=scOf (by decide +kernel)
abbrev zlu:Stmt:=top 35
abbrev zofb:List Str:=["words","kind","whom"]
abbrev zvo:List Str:=["words"]
theorem zlm:zdb zofb zvo (zla zlu):=scOf (by decide +kernel)
abbrev zvn:Stmt:=top 36
abbrev zmx:List Str:=["words","kind","whom","word"]
abbrev zvk:List Str:=["words"]
theorem zvg:zdb zmx zvk (zla zvn):=scOf (by decide +kernel)
abbrev zfl:Stmt:=top 37
abbrev zxr:List Str:=["words","word"]
abbrev zjh:List Str:=["words","word"]
theorem zxp:zdb zxr zjh (zla zfl):=scOf (by decide +kernel)
abbrev zwx:Stmt:=top 38
abbrev zrib:List Str:=["words","cost"]
abbrev zvr:List Str:=["words"]
theorem zfu:zdb zrib zvr (zla zwx):=scOf (by decide +kernel)
abbrev znu:Stmt:=top 39
abbrev zqfb:List Str:=["words","each","kind","amount","whom"]
abbrev zxo:List Str:=["words"]
theorem zsh:zdb zqfb zxo (zla znu):=scOf (by decide +kernel)
abbrev zaq:Stmt:=top 40
abbrev zpab:List Str:=["words","kind"]
abbrev zzl:List Str:=["words","kind"]
theorem zcx:zdb zpab zzl (zla zaq):=scOf (by decide +kernel)
abbrev zqu:Stmt:=top 41
abbrev ztfb:List Str:=["card","head"]
abbrev zap:List Str:=["card"]
theorem zds:zdb ztfb zap (zla zqu):=scOf (by decide +kernel)
abbrev zjs:Stmt:=top 42
abbrev zpdb:List Str:=["marks"]
abbrev zdn:List Str:=["marks"]
theorem zxy:zdb zpdb zdn (zla zjs):=scOf (by decide +kernel)
abbrev zou:Stmt:=top 43
abbrev zrfb:List Str:=["rule","words"]
abbrev zyo:List Str:=["rule"]
theorem zth:zdb zrfb zyo (zla zou):=scOf (by decide +kernel)
abbrev zis:Stmt:=top 44
abbrev zodb:List Str:=["value"]
abbrev zcn:List Str:=["value"]
theorem zwy:zdb zodb zcn (zla zis):=scOf (by decide +kernel)
abbrev zpu:Stmt:=top 45
abbrev zsfb:List Str:=["deed","amount"]
abbrev zzo:List Str:=["deed"]
theorem zcs:zdb zsfb zzo (zla zpu):=scOf (by decide +kernel)
abbrev zwu:Stmt:=top 47
abbrev zzfb:List Str:=["_law_state","_law_most","_law_script","_law_at","_law_cell"]
abbrev zfp:List Str:=["_law_state","_law_most"]
theorem zuh:zdb zzfb zfp (zla zwu):=scOf (by decide +kernel)
abbrev zls:Stmt:=top 48
abbrev zrdb:List Str:=["_law_state","_law_many","_law_letters","_law_size","_law_at","_law_base","_law_turn","_law_names_here","_law_k","_law_sign"]
abbrev zfn:List Str:=["_law_state","_law_many"]
theorem zid:zdb zrdb zfn (zla zls):=scOf (by decide +kernel)
abbrev zyu:Stmt:=top 49
abbrev zbgb:List Str:=["_law_state","_law_names_here","_law_way"]
abbrev zjp:List Str:=["_law_state","_law_names_here"]
theorem zes:zdb zbgb zjp (zla zyu):=scOf (by decide +kernel)
abbrev zuu:Stmt:=top 50
abbrev zxfb:List Str:=["_law_state","_law_names_here","_law_left","_law_way","_law_words","_law_used","_law_more","_law_again"]
abbrev zkh:List Str:=["_law_state","_law_names_here","_law_left"]
theorem zne:zdb zxfb zkh (zla zuu):=scOf (by decide +kernel)
abbrev zyn:Stmt:=top 51
abbrev zpx:List Str:=["_law_word","_law_sign"]
abbrev zyk:List Str:=["_law_word"]
theorem zmm:zdb zpx zyk (zla zyn):=scOf (by decide +kernel)
abbrev zbm:Stmt:=top 52
abbrev zft:List Str:=["_law_word","_law_sign"]
abbrev zqi:List Str:=["_law_word"]
theorem zel:zdb zft zqi (zla zbm):=scOf (by decide +kernel)
abbrev zxj:Stmt:=top 53
abbrev zzq:List Str:=["_law_words","_law_at","_law_need","_law_used","_law_word"]
abbrev zbh:List Str:=["_law_words","_law_at"]
theorem ztb:zdb zzq zbh (zla zxj):=scOf (by decide +kernel)
abbrev zav:Stmt:=top 54
abbrev zdgb:List Str:=["_law_state","_law_text","_law_way","_law_at","_law_signs","_law_sign","_law_words","_law_k","_law_j","_law_some"]
abbrev zlp:List Str:=["_law_state","_law_text"]
theorem zyc:zdb zdgb zlp (zla zav):=scOf (by decide +kernel)
abbrev zxu:Stmt:=top 55
abbrev zagb:List Str:=["_law_state","_law_names_here","_law_way","_law_whom_here","_law_other","_law_number","_law_some","_law_deed","_law_held","_law_turn"]
abbrev zgp:List Str:=["_law_state","_law_names_here"]
theorem zae:zdb zagb zgp (zla zxu):=scOf (by decide +kernel)
abbrev zzu:Stmt:=top 56
abbrev zcgb:List Str:=["_law_state","_law_names_here","_law_many","_law_marks","_law_head"]
abbrev zkp:List Str:=["_law_state","_law_names_here","_law_many"]
theorem znm:zdb zcgb zkp (zla zzu):=scOf (by decide +kernel)
abbrev zyj:Stmt:=top 57
abbrev zar:List Str:=["_law_words","_law_at"]
abbrev zch:List Str:=["_law_words","_law_at"]
theorem zio:zdb zar zch (zla zyj):=scOf (by decide +kernel)
abbrev zzn:Stmt:=top 58
abbrev zqx:List Str:=["_law_words"]
abbrev zzk:List Str:=["_law_words"]
theorem ziu:zdb zqx zzk (zla zzn):=scOf (by decide +kernel)
abbrev zwn:Stmt:=top 59
abbrev znx:List Str:=["_law_kind","_law_turn"]
abbrev zwk:List Str:=["_law_kind","_law_turn"]
theorem zgu:zdb znx zwk (zla zwn):=scOf (by decide +kernel)
abbrev zxn:Stmt:=top 60
abbrev zox:List Str:=["_law_words","_law_kinds","_law_at"]
abbrev zxk:List Str:=["_law_words"]
theorem zyi:zdb zox zxk (zla zxn):=scOf (by decide +kernel)
abbrev zom:Stmt:=top 61
abbrev zyw:List Str:=["_law_text","_law_names_here","_law_name"]
abbrev zpj:List Str:=["_law_text"]
theorem zmi:zdb zyw zpj (zla zom):=scOf (by decide +kernel)
abbrev zao:Stmt:=top 62
abbrev zrx:List Str:=["_law_text","_law_parts","_law_head"]
abbrev zal:List Str:=["_law_text"]
theorem zzi:zdb zrx zal (zla zao):=scOf (by decide +kernel)
abbrev zvu:Stmt:=top 63
abbrev zyfb:List Str:=["_law_text","_law_found","e","_law_others"]
abbrev zep:List Str:=["_law_text"]
theorem zvj:zdb zyfb zep (zla zvu):=scOf (by decide +kernel)
abbrev zlub:Stmt:=top 64
abbrev zvxb:List Str:=["_law_script","_law_state","_law_names_here","_law_way","_law_good","_law_bad","_law_due"]
abbrev zqwb:List Str:=["_law_script"]
theorem zam:zdb zvxb zqwb (zla zlub):=scOf (by decide +kernel)
abbrev zvw:Str:="abcdefghijklmnopqrstuvwxyz"
abbrev zww:Str:="0123456789"
abbrev zdh:List (Str×ykn):=[("all",.flat (.int 0)),("self",.flat (.int 0)),("mine",.flat (.int 0)),("mark",.flat (.int 0)),("force",.flat (.int 0)),("not",.flat (.int 1)),("both",.flat (.int 2)),("any",.flat (.int 2))]
abbrev zggb:List (Str×ykn):=[("leave",.tup ((["none","here"]:List Str).map PyData.str)),("hurt",.tup ((["none","here","less","more"]:List Str).map PyData.str)),("gain",.tup ((["none","here"]:List Str).map PyData.str)),("lack",.tup ((["none","here"]:List Str).map PyData.str)),("lose",.tup ((["none","less","more","as"]:List Str).map PyData.str)),("score",.tup ((["none","less","more","as"]:List Str).map PyData.str)),("draw",.tup ((["none","less","more","as"]:List Str).map PyData.str))]
theorem onlZ {m:List Value->Prop}(h:m [])(us:List Value)(hl:us.length=0):m us:=by rw[ykf.mp hl];exact h
theorem onlS {m:List Value->Prop}{k:Nat}(h:∀a,∀us,us.length=k->m (a::us))(us:List Value)(hl:us.length=k+1):m us:=by
 obtain⟨a,t,rfl⟩:=List.exists_cons_of_length_eq_add_one hl;exact h a t (Nat.succ.inj hl)
@[elab_as_elim] theorem onl1 {m:List Value->Prop} (h:∀a,m [a]) (us:List Value) (hl:us.length=1):m us:=(onlS (m:=λt=>m (t)) λa=>onlZ (h a)) us hl
@[elab_as_elim] theorem onl2 {m:List Value->Prop} (h:∀a b,m [a,b]) (us:List Value) (hl:us.length=2):m us:=(onlS (m:=λt=>m (t)) λa=>onlS (m:=λt=>m (a::t)) λb=>onlZ (h a b)) us hl
@[elab_as_elim] theorem onl3 {m:List Value->Prop} (h:∀a b c,m [a,b,c]) (us:List Value) (hl:us.length=3):m us:=(onlS (m:=λt=>m (t)) λa=>onlS (m:=λt=>m (a::t)) λb=>onlS (m:=λt=>m (a::b::t)) λc=>onlZ (h a b c)) us hl
@[elab_as_elim] theorem onl4 {m:List Value->Prop} (h:∀a b c d,m [a,b,c,d]) (us:List Value) (hl:us.length=4):m us:=(onlS (m:=λt=>m (t)) λa=>onlS (m:=λt=>m (a::t)) λb=>onlS (m:=λt=>m (a::b::t)) λc=>onlS (m:=λt=>m (a::b::c::t)) λd=>onlZ (h a b c d)) us hl
@[elab_as_elim] theorem onl5 {m:List Value->Prop} (h:∀a b c d e,m [a,b,c,d,e]) (us:List Value) (hl:us.length=5):m us:=(onlS (m:=λt=>m (t)) λa=>onlS (m:=λt=>m (a::t)) λb=>onlS (m:=λt=>m (a::b::t)) λc=>onlS (m:=λt=>m (a::b::c::t)) λd=>onlS (m:=λt=>m (a::b::c::d::t)) λe=>onlZ (h a b c d e)) us hl
@[elab_as_elim] theorem onl6 {m:List Value->Prop} (h:∀a b c d e f,m [a,b,c,d,e,f]) (us:List Value) (hl:us.length=6):m us:=(onlS (m:=λt=>m (t)) λa=>onlS (m:=λt=>m (a::t)) λb=>onlS (m:=λt=>m (a::b::t)) λc=>onlS (m:=λt=>m (a::b::c::t)) λd=>onlS (m:=λt=>m (a::b::c::d::t)) λe=>onlS (m:=λt=>m (a::b::c::d::e::t)) λf=>onlZ (h a b c d e f)) us hl
set_option genInjectivity false in
set_option genSizeOf false in
structure Tf (K:yba)(mg:Str->Option Value) where
 zug:Gf K mg "is_name" "is_name" zebb
 zig:Gf K mg "is_number" "is_number" ztu
 zfh:Gf K mg "is_whole" "is_whole" zxx
 zzb:Gf K mg "take_whom" "take_whom" zku
 zcf:Gf K mg "take_value" "take_value" zgs
 zfo:Gf K mg "built" "built" zrjb
 zgg:Gf K mg "read_card" "read_card" zsu
 zef:Gf K mg "read_marks" "read_marks" zks
 zfg:Gf K mg "read_rule" "read_rule" zru
 zcg:Gf K mg "take_hold" "take_hold" zmu
 zfc:Gf K mg "take_change_value" "take_change_value" zaj
 zbg:Gf K mg "take_when" "take_when" zlu
 zde:Gf K mg "take_instead" "take_instead" zvn
 zsc:Gf K mg "take_turn_value" "take_turn_value" zfl
 zeh:Gf K mg "take_may" "take_may" zwx
 zpe:Gf K mg "take_deed" "take_deed" znu
 zqe:Gf K mg "take_amount" "take_amount" zaq
 zeg:Gf K mg "show_card" "show_card" zqu
 zdf:Gf K mg "show_marks" "show_marks" zjs
 zdg:Gf K mg "show_rule" "show_rule" zou
 zyd:Gf K mg "show_value" "show_value" zis
 zre:Gf K mg "show_deed" "show_deed" zpu
 zfa:Gf K mg "_law_take" "_law_take" zwu
 zff:Gf K mg "_law_names" "_law_names" zls
 zkg:Gf K mg "_law_leaf" "_law_leaf" zyu
 zmb:Gf K mg "_law_whom" "_law_whom" zuu
 znb:Gf K mg "_law_is_name" "_law_is_name" zyn
 zab:Gf K mg "_law_is_number" "_law_is_number" zbm
 zna:Gf K mg "_law_behind_whom" "_law_behind_whom" zxj
 zue:Gf K mg "_law_bent" "_law_bent" zav
 zjg:Gf K mg "_law_rule" "_law_rule" zxu
 zte:Gf K mg "_law_card" "_law_card" zzu
 zxb:Gf K mg "_law_behind_deed" "_law_behind_deed" zyj
 zge:Gf K mg "_law_is_hold" "_law_is_hold" zzn
 zee:Gf K mg "_law_is_turn" "_law_is_turn" zwn
 zfe:Gf K mg "_law_is_rule" "_law_is_rule" zxn
 zpd:Gf K mg "_law_is_marks" "_law_is_marks" zom
 zie:Gf K mg "_law_is_card" "_law_is_card" zao
 zse:Gf K mg "_law_told" "_law_told" zvu
 zuib:Gf K mg "law" "law" zlub
set_option genInjectivity false in
set_option genSizeOf false in
structure Tx (K:yba)(mg:Str->Option Value) extends Tf K mg where
 zgc:Addr
 zjb:Cls K zgc
 zseb:mg "Words" = some (.ref zgc)
 zoc:If K zgc "__init__" "Words.__init__" zni
 zwc:Mf K zgc "take" "Words.take" zpm
 zwa:Mf K zgc "take_one_of" "Words.take_one_of" zmg
 zvb:Mf K zgc "take_name" "Words.take_name" zgh
 zeb:Mf K zgc "take_number" "Words.take_number" zng
 zld:Mf K zgc "finish" "Words.finish" zrk
 zwe:zki K zgc "words"
 zbe:zki K zgc "place"
 znc:Addr
 zpg:Cls K znc
 zqkb:mg "Whom" = some (.ref znc)
 zqd:If K znc "__init__" "Whom.__init__" zbj
 zwb:Mf K znc "told" "Whom.told" zjo
 zij:zki K znc "word"
 ztg:zki K znc "value"
 zzh:zki K znc "parts"
 zpcb:Isi K znc
 zml:Addr
 zmj:Cls K zml
 zfpb:mg "Card" = some (.ref zml)
 zrd:If K zml "__init__" "Card.__init__" zcj
 zjj:zki K zml "name"
 zkj:zki K zml "cost"
 zci:zki K zml "force"
 zbi:zki K zml "marks"
 zai:zki K zml "rules"
 zsj:mg "ValueError" = none
 ztdb:mg "all" = none
 zqhb:mg "int" = none
 zvc:mg "isinstance" = none
 zme:mg "len" = none
 zeo:mg "range" = none
 zjn:mg "reversed" = none
 ztib:mg "set" = none
 zin:mg "sorted" = none
 zrp:mg "str" = none
 zbr:mg "tuple" = none
 e_NoCard:ExK K mg "NoCard"
 e_FightError:ExK K mg "FightError"
 zst:Addr
 zot:mg "NotNow" = some (.ref zst)
 zwq:Addr
 zoq:mg "NotSame" = some (.ref zwq)
 zxq:Addr
 zpq:mg "NoFight" = some (.ref zxq)
 znab:Addr
 zvz:mg "NoRow" = some (.ref znab)
 u_NoCard_FightError:L2.subIn K e_NoCard.c e_FightError.c=true
 v_NoCard_NoCard:yfb K (.ref e_NoCard.c) (.ref e_NoCard.c)=some true
 v_NoCard_ValueError:yfb K (.ref e_NoCard.c) (.type "ValueError")=some true
 v_NoCard_NotNow:yfb K (.ref e_NoCard.c) (.ref zst)=some false
 v_NoCard_NotSame:yfb K (.ref e_NoCard.c) (.ref zwq)=some false
 v_NoCard_NoFight:yfb K (.ref e_NoCard.c) (.ref zxq)=some false
 v_NoCard_NoRow:yfb K (.ref e_NoCard.c) (.ref znab)=some false
 zjcb:Tok
 zqq:mg "LETTERS" = some (.str zvw zjcb)
 zkcb:Tok
 zrq:mg "FIGURES" = some (.str zww zkcb)
 zxs:Tok
 zlk:mg "MOST_WORDS" = some (.int 9 zxs)
 zuo:Addr
 zqr:mg "PARTS" = some (.ref zuo)
 zrz:ydo (ytg λb=>K.lookup b) (λb=>K.lookup b) zuo zdh=true
 zys:Tok
 zmk:mg "MOST_RULES" = some (.int 3 zys)
 ztw:Addr
 zuz:mg "SORTS" = some (.ref ztw)
 zqz:TupK K ztw ["hold","when","instead","may"]
 zan:Addr
 zsq:mg "CHANGES" = some (.ref zan)
 zlq:TupK K zan ["mute","steal","gain","lack","be","more","less","per"]
 zji:Addr
 zkk:mg "WHEN_KINDS" = some (.ref zji)
 zfk:TupK K zji ["come","leave","hurt","gain","lack","lose","score","draw"]
 zrf:Addr
 zfi:mg "DEED_KINDS" = some (.ref zrf)
 zei:TupK K zrf ["leave","hurt","gain","lack","lose","score","draw"]
 zzf:Addr
 zqh:mg "PLAYER_KINDS" = some (.ref zzf)
 zph:TupK K zzf ["lose","score","draw"]
 zmab:Addr
 ztz:mg "TURNS" = some (.ref zmab)
 zpz:TabK K zmab zggb
theorem zjdb (T:Tx K mg):Binds K T.zug.d zxw []:=T.zug.F.binds λ_ _ _ _ _ _ us hl=>onl1 (λ_=>rfl) us hl
theorem zgfb (T:Tx K mg):Binds K T.zig.d zdp []:=T.zig.F.binds λ_ _ _ _ _ _ us hl=>onl1 (λ_=>rfl) us hl
theorem zqib (T:Tx K mg):Binds K T.zfh.d zwr []:=T.zfh.F.binds λ_ _ _ _ _ _ us hl=>onl2 (λ_ _=>rfl) us hl
theorem zem (T:Tx K mg):Binds K T.zoc.d zri []:=T.zoc.F.binds λ_ _ _ _ _ _ us hl=>onl2 (λ_ _=>rfl) us hl
theorem zgi (T:Tx K mg):Binds K T.zwc.d zgn []:=T.zwc.F.binds λ_ _ _ _ _ _ us hl=>onl1 (λ_=>rfl) us hl
theorem zkb (T:Tx K mg):Binds K T.zwa.d zrg []:=T.zwa.F.binds λ_ _ _ _ _ _ us hl=>onl2 (λ_ _=>rfl) us hl
theorem ztf (T:Tx K mg):Binds K T.zvb.d zlh []:=T.zvb.F.binds λ_ _ _ _ _ _ us hl=>onl1 (λ_=>rfl) us hl
theorem zic (T:Tx K mg):Binds K T.zeb.d zsg []:=T.zeb.F.binds λ_ _ _ _ _ _ us hl=>onl1 (λ_=>rfl) us hl
theorem zdo (T:Tx K mg):Binds K T.zld.d zbl []:=T.zld.F.binds λ_ _ _ _ _ _ us hl=>onl1 (λ_=>rfl) us hl
theorem zpw (T:Tx K mg):Binds K T.zqd.d zqj []:=T.zqd.F.binds λ_ _ _ _ _ _ us hl=>onl4 (λ_ _ _ _=>rfl) us hl
theorem zih (T:Tx K mg):Binds K T.zwb.d zmh []:=T.zwb.F.binds λ_ _ _ _ _ _ us hl=>onl1 (λ_=>rfl) us hl
theorem znj (T:Tx K mg):Binds K T.zzb.d zyl []:=T.zzb.F.binds λ_ _ _ _ _ _ us hl=>onl1 (λ_=>rfl) us hl
theorem zfdb (T:Tx K mg):Binds K T.zcf.d zbn []:=T.zcf.F.binds λ_ _ _ _ _ _ us hl=>onl2 (λ_ _=>rfl) us hl
theorem zzsb (T:Tx K mg):Binds K T.zfo.d zmfb []:=T.zfo.F.binds λ_ _ _ _ _ _ us hl=>onl1 (λ_=>rfl) us hl
theorem zqw (T:Tx K mg):Binds K T.zrd.d zrj []:=T.zrd.F.binds λ_ _ _ _ _ _ us hl=>onl6 (λ_ _ _ _ _ _=>rfl) us hl
theorem zffb (T:Tx K mg):Binds K T.zgg.d zcp []:=T.zgg.F.binds λ_ _ _ _ _ _ us hl=>onl1 (λ_=>rfl) us hl
theorem zidb (T:Tx K mg):Binds K T.zef.d zen []:=T.zef.F.binds λ_ _ _ _ _ _ us hl=>onl1 (λ_=>rfl) us hl
theorem zefb (T:Tx K mg):Binds K T.zfg.d zbp []:=T.zfg.F.binds λ_ _ _ _ _ _ us hl=>onl1 (λ_=>rfl) us hl
theorem zbfb (T:Tx K mg):Binds K T.zcg.d zwo []:=T.zcg.F.binds λ_ _ _ _ _ _ us hl=>onl1 (λ_=>rfl) us hl
theorem zto (T:Tx K mg):Binds K T.zfc.d zqg []:=T.zfc.F.binds λ_ _ _ _ _ _ us hl=>onl2 (λ_ _=>rfl) us hl
theorem zafb (T:Tx K mg):Binds K T.zbg.d zvo []:=T.zbg.F.binds λ_ _ _ _ _ _ us hl=>onl1 (λ_=>rfl) us hl
theorem zgx (T:Tx K mg):Binds K T.zde.d zvk []:=T.zde.F.binds λ_ _ _ _ _ _ us hl=>onl1 (λ_=>rfl) us hl
theorem ztr (T:Tx K mg):Binds K T.zsc.d zjh []:=T.zsc.F.binds λ_ _ _ _ _ _ us hl=>onl2 (λ_ _=>rfl) us hl
theorem zpib (T:Tx K mg):Binds K T.zeh.d zvr []:=T.zeh.F.binds λ_ _ _ _ _ _ us hl=>onl1 (λ_=>rfl) us hl
theorem zjw (T:Tx K mg):Binds K T.zpe.d zxo []:=T.zpe.F.binds λ_ _ _ _ _ _ us hl=>onl1 (λ_=>rfl) us hl
theorem zlab (T:Tx K mg):Binds K T.zqe.d zzl []:=T.zqe.F.binds λ_ _ _ _ _ _ us hl=>onl2 (λ_ _=>rfl) us hl
theorem zdfb (T:Tx K mg):Binds K T.zeg.d zap []:=T.zeg.F.binds λ_ _ _ _ _ _ us hl=>onl1 (λ_=>rfl) us hl
theorem zgdb (T:Tx K mg):Binds K T.zdf.d zdn []:=T.zdf.F.binds λ_ _ _ _ _ _ us hl=>onl1 (λ_=>rfl) us hl
theorem zcfb (T:Tx K mg):Binds K T.zdg.d zyo []:=T.zdg.F.binds λ_ _ _ _ _ _ us hl=>onl1 (λ_=>rfl) us hl
theorem zat (T:Tx K mg):Binds K T.zyd.d zcn []:=T.zyd.F.binds λ_ _ _ _ _ _ us hl=>onl1 (λ_=>rfl) us hl
theorem zkw (T:Tx K mg):Binds K T.zre.d zzo []:=T.zre.F.binds λ_ _ _ _ _ _ us hl=>onl1 (λ_=>rfl) us hl
theorem zua (T:Tx K mg):Binds K T.zfa.d zfp []:=T.zfa.F.binds λ_ _ _ _ _ _ us hl=>onl2 (λ_ _=>rfl) us hl
theorem zkdb (T:Tx K mg):Binds K T.zff.d zfn []:=T.zff.F.binds λ_ _ _ _ _ _ us hl=>onl2 (λ_ _=>rfl) us hl
theorem zjfb (T:Tx K mg):Binds K T.zkg.d zjp []:=T.zkg.F.binds λ_ _ _ _ _ _ us hl=>onl2 (λ_ _=>rfl) us hl
theorem zoj (T:Tx K mg):Binds K T.zmb.d zkh []:=T.zmb.F.binds λ_ _ _ _ _ _ us hl=>onl3 (λ_ _ _=>rfl) us hl
theorem zyf (T:Tx K mg):Binds K T.znb.d zyk []:=T.znb.F.binds λ_ _ _ _ _ _ us hl=>onl1 (λ_=>rfl) us hl
theorem zcd (T:Tx K mg):Binds K T.zab.d zqi []:=T.zab.F.binds λ_ _ _ _ _ _ us hl=>onl1 (λ_=>rfl) us hl
theorem zyb (T:Tx K mg):Binds K T.zna.d zbh []:=T.zna.F.binds λ_ _ _ _ _ _ us hl=>onl2 (λ_ _=>rfl) us hl
theorem zow (T:Tx K mg):Binds K T.zue.d zlp []:=T.zue.F.binds λ_ _ _ _ _ _ us hl=>onl2 (λ_ _=>rfl) us hl
theorem zifb (T:Tx K mg):Binds K T.zjg.d zgp []:=T.zjg.F.binds λ_ _ _ _ _ _ us hl=>onl2 (λ_ _=>rfl) us hl
theorem znw (T:Tx K mg):Binds K T.zte.d zkp []:=T.zte.F.binds λ_ _ _ _ _ _ us hl=>onl3 (λ_ _ _=>rfl) us hl
theorem zpk (T:Tx K mg):Binds K T.zxb.d zch []:=T.zxb.F.binds λ_ _ _ _ _ _ us hl=>onl2 (λ_ _=>rfl) us hl
theorem zkx (T:Tx K mg):Binds K T.zge.d zzk []:=T.zge.F.binds λ_ _ _ _ _ _ us hl=>onl1 (λ_=>rfl) us hl
theorem zix (T:Tx K mg):Binds K T.zee.d zwk []:=T.zee.F.binds λ_ _ _ _ _ _ us hl=>onl2 (λ_ _=>rfl) us hl
theorem zjx (T:Tx K mg):Binds K T.zfe.d zxk []:=T.zfe.F.binds λ_ _ _ _ _ _ us hl=>onl1 (λ_=>rfl) us hl
theorem zmw (T:Tx K mg):Binds K T.zpd.d zpj []:=T.zpd.F.binds λ_ _ _ _ _ _ us hl=>onl1 (λ_=>rfl) us hl
theorem zlx (T:Tx K mg):Binds K T.zie.d zal []:=T.zie.F.binds λ_ _ _ _ _ _ us hl=>onl1 (λ_=>rfl) us hl
theorem zlw (T:Tx K mg):Binds K T.zse.d zep []:=T.zse.F.binds λ_ _ _ _ _ _ us hl=>onl1 (λ_=>rfl) us hl
theorem zau (T:Tx K mg)(kb:K.In base):ybo base T.zuo zdh:=KTD.text_of_look (λb o q=>kb b o q) T.zrz
abbrev LL:Str:="abcdefghijklmnopqrstuvwxyz"
abbrev FF:Str:="0123456789"
def inS (c:Nat)(u:Str):Bool:=!(yic u ⟨#[c]⟩ 0 u.length 1).isEmpty
def allIn (t u:Str):Bool:=(t.cps.toList.map λc=>inS c u).all id
def zcm (t:Str):Bool:=decide (V.str t=V.str "0")||(!decide (V.str ⟨#[t.cps.getD 0 0]⟩=V.str "0"))
def short (t:Str)(n:Int):Bool:=decide ((1:Int)≤((t.length:Nat):Int))&&decide (((t.length:Nat):Int)≤n)
def isName (t:Str):Bool:=short t 8&&allIn t LL
def isWhole (t:Str)(n:Int):Bool:=short t n&&(allIn t FF&&zcm t)
def isNumber (t:Str):Bool:=isWhole t 3
theorem zrb {n:Nat}(h:n≤16777216):n≤yua:=h
theorem small {n:Nat}(h:n≤1000):n≤yua:=yxf (zwp h)
theorem zpy {t u:Str}{i c:Nat}(hc:t.cps[i]?=some c)(ha:((t.cps.toList.take i).map λc=>inS c u).all id=true)(h:inS c u=true):((t.cps.toList.take (i+1)).map λc=>inS c u).all id=true:=by
 have e:t.cps.toList[i]?=some c:=by simpa using hc
 rw[ywb,e,ydb,List.all_append,ha];simp[h]
theorem zsw {t u:Str}(ha:((t.cps.toList.take t.cps.size).map λc=>inS c u).all id=true):allIn t u=true:=by
 unfold allIn;rw[yxc (by simp)] at ha;exact ha
theorem zldb {t u:Str}{i c:Nat}(hc:t.cps[i]?=some c)(h:¬ inS c u=true):allIn t u=false:=by
 unfold allIn;have e:t.cps.toList[i]?=some c:=by simpa using hc
 have hm:c∈t.cps.toList:=yva e;cases q:((t.cps.toList.map λc=>inS c u).all id) with
 | false=>rfl
 | true =>
  have z:=yyb.mp q (inS c u) (ykb.mpr ⟨c,hm,rfl⟩);exact absurd z h
theorem zly {t:Str}(h:(1:Int)≤((t.length:Nat):Int)):atI t.cps.toList 0=some (t.cps.getD 0 0):=by
 have hl:0<t.cps.size:=by
  have e:t.length=t.cps.size:=rfl;omega
 have e:t.cps.toList[0]?=some (t.cps.getD 0 0):=by
  rw[ywd,yag,yud hl];rfl
 exact zec (j:=0) e
theorem zui {α:Type}{xs:List α}{i:Int}(h0:0≤i)(h:i<(xs.length:Int)):∃v,atI xs i=some v∧v∈xs:=by
 have hk:i.toNat<xs.length:=by omega
 have e:xs[i.toNat]?=some xs[i.toNat]:=yoa hk;have q:=zec e;rw[show ((i.toNat:Nat):Int)=i by omega] at q;exact⟨_,q,yva e⟩
theorem zbtb {ns:List Int}{i:Int}(h0:0≤i)(h:i<(ns.length:Int)):∃z,atI (ns.map V.int) i=some (.int z):=by
 obtain⟨v,hv,hm⟩:=zui (xs:=ns.map V.int) h0 (by rw[yaa];exact h);obtain⟨z,_,rfl⟩:=ykb.mp hm;exact⟨z,hv⟩
theorem len_app (a b:Str):(a++b).length=a.length+b.length:=by
 show (a.cps++b.cps).size=a.cps.size+b.cps.size
 rw[yak]
def But (p:Addr)(H H':Hp):Prop:=∀b o,b≠p->H b=some o->H' b=some o
theorem But.refl (p:Addr)(H:Hp):But p H H:=λ_ _ _ h=>h
theorem But.trans {p:Addr}{H H1 H2:Hp}(a:But p H H1)(b:But p H1 H2):But p H H2:=λc o n h=>b c o n (a c o n h)
theorem But.laid {p q:Addr}{H:Hp}{o:HO}(h:H q=none):But p H (upd H q o):=λb u n e=>by rw[zfb (zva e h)];exact e
theorem But.put {p:Addr}{H:Hp}{o:HO}:But p H (upd H p o):=λb u n e=>by rw[zfb n];exact e
theorem But.same {p:Addr}{H H':Hp}(h:Same H H'):But p H H':=λb o _ e=>h b o e
theorem zja {H:Hp}{p:Addr}(h:H p=none)(o:HO):Same H (upd H p o):=λb u q=>by rw[zfb (zva q h)];exact q
def SqF (K:yba)(H:Hp)(a:Addr)(xs:List V):Prop :=
 (∃o,H a=some (.frz o (.lst xs)))∨Ex3 λ(o:Obj) (its:Array Value) (n:Nat)=>K.lookup a=some o∧o.cls = .type "list" ∧ o.dict=none∧o.data = .seq its n∧its.size≤yua∧Vals xs its.toList
theorem SqF.sq {K:yba}{H:Hp}{a:Addr}{xs:List V}(h:SqF K H a xs):SqL K H a xs:=by
 rcases h with⟨o,h⟩|h
 ·exact .inl (.inr ⟨o,h⟩)
 ·exact .inr h
theorem SqF.of {K:yba}{H:Hp}{a:Addr}{xs:List V}(O:Only H)(h:SqL K H a xs):SqF K H a xs:=by
 rcases h with (h|⟨o,h⟩)|h
 ·rcases O a with z|⟨o,ys,z⟩
  ·rw[z] at h;cases h
  ·rw[z] at h;cases h
 ·exact .inl ⟨o,h⟩
 ·exact .inr h
theorem SqF.keep {K:yba}{H H':Hp}{a:Addr}{xs:List V}(h:SqF K H a xs)(k:∀o u,H a=some (.frz o u)->H' a=some (.frz o u)):SqF K H' a xs:=by
 rcases h with⟨o,h⟩|h
 ·exact .inl ⟨o,k _ _ h⟩
 ·exact .inr h
structure Tk (K:yba)(H:Hp)(p:Addr)(k:Int):Prop where
 ex:Ex2 λa (ns:List Int)=>H p=some (.lst [.ref a,.int k])∧SqF K H a (ns.map V.int)∧ns.length≤63
 lo:0≤k
theorem Tk.go {K:yba}{H H':Hp}{p:Addr}{k:Int}(T:Tk K H p k)(h:But p H H')(e:H' p=H p):Tk K H' p k:=by
 obtain⟨⟨a,ns,h1,h2,h3⟩,lo⟩:=T;exact⟨⟨a,ns,e.trans h1,h2.keep λo u z=>h a _ (zfm z h1 (by intro y;cases y)) z,h3⟩,lo⟩
theorem Tk.ne {K:yba}{H:Hp}{p q:Addr}{k:Int}(T:Tk K H p k)(h:H q=none):p≠q:=by
 obtain⟨⟨a,ns,h1,_⟩,_⟩:=T;exact zva h1 h
theorem Tk.laid {K:yba}{H:Hp}{p q:Addr}{k:Int}{o:HO}(T:Tk K H p k)(h:H q=none):Tk K (upd H q o) p k:=T.go (But.laid h) (zfb (T.ne h))
theorem Tk.same {K:yba}{H H':Hp}{p:Addr}{k:Int}(T:Tk K H p k)(h:Same H H'):Tk K H' p k:=by
 obtain⟨⟨a,ns,h1,h2,h3⟩,lo⟩:=T;exact⟨⟨a,ns,h p _ h1,h2.keep λo u z=>h _ _ z,h3⟩,lo⟩
theorem Tk.other {K:yba}{H:Hp}{p q:Addr}{k:Int}{us vs:List V}(T:Tk K H p k)(hq:H q=some (.lst us))(n:p≠q):Tk K (upd H q (.lst vs)) p k:=by
 obtain⟨⟨a,ns,h1,h2,h3⟩,lo⟩:=T;exact⟨⟨a,ns,by rw[zfb n];exact h1,h2.keep λo u z=>by rw[zfb (zfm z hq (by intro y;cases y))];exact z,h3⟩,lo⟩
theorem Tk.begin {K:yba}{H:Hp}{p a:Addr}{ns:List Int}(hp:H p=none)(hS:SqF K H a (ns.map V.int))(h63:ns.length≤63):Tk K (upd H p (.lst [.ref a,.int 0])) p 0 :=
 ⟨⟨a,ns,zda,hS.keep λo u z=>by rw[zfb (zva z hp)];exact z,h63⟩,Int.le_refl 0⟩
def ziub (K:yba):Sp:=λvs H Q _=>Ex3 λp (k m:Int)=>vs=[.ref p,.int m]∧Tk K H p k∧k≤1000000∧0<m∧∀(r:Int) H',0≤r->r<m->But p H H'->Tk K H' p (k+1)->Q (.int r) H'
def zbpb:Sp:=λvs H Q _=>∃t:Str,vs=[.str t]∧t.length≤10000∧∀H',Same H H'->Q (.bl (isName t)) H'
def zngb:Sp:=λvs H Q _=>∃t:Str,vs=[.str t]∧t.length≤10000∧∀H',Same H H'->Q (.bl (isNumber t)) H'
def zqqb:Sp:=λvs H Q _=>Ex2 λ(t:Str) (n:Int)=>vs=[.str t,.int n]∧t.length≤10000∧∀H',Same H H'->Q (.bl (isWhole t n)) H'
def ztmb (K:yba):Sp:=λvs H Q _=>Ex2 λa (ns:List Int)=>vs=[.ref a]∧SqF K H a (ns.map V.int)∧ns.length≤63∧∀H',Q (.bl true) H'
abbrev ztub:R2:=λx y H Q=>Ex2 λi j=>x = .str i∧y = .str j∧Q (.bl (!(yic j i 0 j.length 1).isEmpty)) H
theorem zmy {t L:Str}{σ:L2.St}{H:Hp}{Q:VK}(hz:t.length≤yua)(q:∀p,H p=none->Q (.ref p) (upd H p (.lst ((t.cps.toList.map λc=>inS c L).map V.bl)))) :
  zigb (Its t) H (zwz 0) zxtb (tOp ztub (tVar 0) (tC (.str L))) 1 [] σ Q:=by
 refine zoob (λi ys H'=>H'=H∧i≤t.cps.size∧ys=((t.cps.toList.take i).map λc=>inS c L).map V.bl) ⟨rfl,ydc _,rfl⟩ ?_ ?_ ?_
 ·rintro i ys H' ⟨_,hi,rfl⟩;rw[yaa,yaa,ypb];have e:t.length=t.cps.toList.length:=by simp[yol]
  omega
 ·rintro i c ys H' hc ⟨rfl,hi,rfl⟩;refine⟨rfl,_,rfl,_,_,rfl,rfl,rfl,?_,?_⟩
  ·have hlt:i<t.cps.size:=(yie.mp hc).1;exact hlt
  ·have e:t.cps.toList[i]?=some c:=by simpa using hc
   rw[ywb,e,ydb,ydb];rfl
 ·rintro ys H' ⟨rfl,_,rfl⟩ p hp;have q':=q p hp;rw[yxc (by simp)];exact q'
theorem zcub {t:Str}{r:Int}(h0:0≤r)(h1:r<((t.length:Nat):Int)):∃c,atI t.cps.toList r=some c:=by
 obtain⟨v,hv,_⟩:=zui (xs:=t.cps.toList) h0 (by
  have e:t.length=t.cps.toList.length:=by simp[yol]
  omega)
 exact⟨v,hv⟩
section
variable {P:ysb}{w:World}{K:yba}{mg:Str->Option Value}{base:Heap}{f:Addr}{fd:ypd}
theorem zey (T:Tx K mg):FnOk P w K mg base CX0 2 T.zug.f T.zug.d zxw zbpb:=by
 refine T.zug.ok zvhb ?_;rintro f c A o s H vs Q E hr ⟨t,rfl,hz,q⟩ X;have hz':=zrb (ypa hz (by decide));refine⟨_,  (zia (zpa (zco (zez zknb zknb zga (zza zqf rfl T.zme yza (zaa (pv 0) zba)) zga) (zum (zza (zrt rfl) rfl T.ztdb boot_all (zaa (zvm (own:=["sign"]) (cap:=[]) rfl (zvd.chk rfl rfl) .nil (zugb (pv 0)) (λ_ _ _ _=>(zwd (i:=0) (show ygg (["sign"]:List Str) by decide +kernel) rfl (.inl rfl))) (λ_ _ _ _=>zvl) (λ_ _ _ _=>by exact (zkd zrbb (pv 0) (zle (v:=.str zvw) rfl T.zqq ⟨_,rfl⟩) rfl))) zba)))))),?_⟩;refine⟨_,rfl,t,rfl,hz',_,_,rfl,rfl,_,rfl,?_⟩;refine ite2 (λc1=>?_) (λc1=>?_)
 ·refine⟨_,_,rfl,rfl,_,rfl,?_⟩;refine ite2 (λc2=>?_) (λc2=>?_)
  ·refine⟨_,rfl,t,rfl,?_⟩;refine zmy hz' λp hp=>?_;refine⟨p,_,rfl,SqL.of zda,?_⟩;have q':=q (upd H p (.lst ((t.cps.toList.map λc=>inS c LL).map V.bl))) (zja hp _);have e:isName t=allIn t LL:=by
    unfold isName short;rw[c1,c2,ybc,ybc]
   rw[e] at q';exact q'
  ·have q':=q H (Same.refl H);have e:isName t=false:=by
    unfold isName short;rw[ygc.mpr c2,yvc,yqb]
   rw[e] at q';exact q'
 ·refine⟨_,rfl,iteF ?_⟩;have q':=q H (Same.refl H);have e:isName t=false:=by
   unfold isName short;rw[ygc.mpr c1,yqb,yqb]
  rw[e] at q';exact q'
theorem zleb (T:Tx K mg):FnOk P w K mg base CX0 1 T.zfh.f T.zfh.d zwr zqqb:=by
 refine T.zfh.ok zzdb ?_;rintro f c A o s H vs Q E hr ⟨t,n,rfl,hz,q⟩ X;have hz':=zrb (ypa hz (by decide));refine⟨_,  (zca (zqb (PW.pt (zmo (zak (zdnb zknb zknb zga (zza zqf rfl T.zme yza (zaa (pv 0) zba)) (pv 1))) (zdq (zak (zxh (zza (zrt rfl) rfl T.ztdb boot_all (zaa (zvm (own:=["sign"]) (cap:=[]) rfl (zvd.chk rfl rfl) .nil (zugb (pv 0)) (λ_ _ _ _=>(zwd (i:=0) (show ygg (["sign"]:List Str) by decide +kernel) rfl (.inl rfl))) (λ_ _ _ _=>zvl) (λ_ _ _ _=>by exact (zkd zrbb (pv 0) (zle (v:=.str zww) rfl T.zrq ⟨_,rfl⟩) rfl))) zba)))))))
   (zia (zpa zyh))
   zra)
  (zia (zpa (zzub (zkd zed (pv 0) zea (zxa _)) (zum (zkd zjeb (zlb zlcb (pv 0) zga (λ_ _=>rfl)) zea (zxa _))))))),?_⟩
 refine⟨_,rfl,t,rfl,hz',_,_,rfl,rfl,_,rfl,?_⟩;refine ite2 (λc1=>?_) (λc1=>?_)
 ·refine⟨_,rfl,_,_,rfl,rfl,_,rfl,?_⟩;refine ite2 (λc2=>?_) (λc2=>?_)
  ·refine iteT ?_;have q':=q H (Same.refl H);have c2':decide (((t.length:Nat):Int)≤n)=false:=(by simpa using c2);have e:isWhole t n=false:=by
    unfold isWhole short;rw[c2',yvc,yqb]
   rw[e] at q';exact q'
  ·have c2':decide (((t.length:Nat):Int)≤n)=true:=by simpa using c2
   refine⟨_,rfl,t,rfl,?_⟩;refine zmy hz' λp hp=>?_;refine⟨p,_,rfl,SqL.of zda,_,rfl,?_⟩;have S1:=zja hp (.lst ((t.cps.toList.map λc=>inS c FF).map V.bl));have q':=q _ S1;have e0:isWhole t n=(allIn t FF&&zcm t):=by
    unfold isWhole short;rw[c1,c2',ybc,ybc]
   rw[e0] at q';refine ite2 (λc3=>?_) (λc3=>?_)
   ·have c3':allIn t FF=false:=by simpa [allIn] using c3
    rw[c3',yqb] at q';exact q'
   ·have c3':allIn t FF=true:=by simpa [allIn] using c3
    rw[c3',ybc] at q';refine⟨_,rfl,rfl,_,rfl,?_⟩;refine ite2 (λc4=>?_) (λc4=>?_)
    ·have e:zcm t=true:=by
      unfold zcm;rw[c4,Bool.true_or]
     rw[e] at q';exact q'
    ·refine⟨_,rfl,t,_,_,rfl,rfl,hz',zly (of_decide_eq_true c1),rfl,?_⟩;have e:zcm t=(!decide (V.str ⟨#[t.cps.getD 0 0]⟩=V.str "0")):=by
      unfold zcm;rw[ygc.mpr c4,ymk]
     rw[e] at q';exact q'
 ·refine⟨_,rfl,iteT (iteT ?_)⟩;have q':=q H (Same.refl H);have e:isWhole t n=false:=by
   unfold isWhole short;rw[ygc.mpr c1,yqb,yqb]
  rw[e] at q';exact q'
theorem zacb (T:Tx K mg):FnOk P w K mg base CX0 2 T.zig.f T.zig.d zdp zngb:=by
 refine T.zig.ok zdbb ?_;rintro f c A o s H vs Q E hr ⟨t,rfl,hz,q⟩ X;refine⟨_,  (zia (zpa (zka (zleb T) hr rfl T.zfh.m T.zfh.F.kp (zqib T) .nil zib (zaa (pv 0) (zaa zga zba))))),?_⟩;exact⟨_,rfl,t,3,rfl,hz,q⟩
end
section
seal PySem.wpAny
theorem zbwb:∀c:Nat,c<123->97≤c->inS c LL=true:=by decide +kernel
theorem zoo {n:Str}(h:znd n):isName n=true:=by
 unfold isName short allIn;obtain⟨h1,h2,h3⟩:=h;rw[decide_eq_true (by omega),decide_eq_true (by omega),ybc,ybc,yyb];intro b hb;obtain⟨c,hc,rfl⟩:=ykb.mp hb;exact zbwb c (by have:=h3 c hc;omega) (h3 c hc).1
theorem zdcb:∀i:Nat,i<1000->isNumber (toString (i:Int):Str)=true:=by decide +kernel
theorem zmeb:∀i:Nat,i<1000->ykj (toString (i:Int):Str)=some (i:Int):=by decide +kernel
theorem zoh {f:Str}{v:V}{r:List (Str×V)}:yqd f ((f,v)::r)=some v:=by rw[yxd,beq_self_eq_true]
theorem zmc {f g:Str}{v:V}{r:List (Str×V)}(h:¬ f=g):yqd f ((g,v)::r)=yqd f r:=by
 have e:(f==g)=false:=by simpa using h
 rw[yxd,e]
theorem zmr {f:Str}{v:V}:putF f v []=[(f,v)]:=rfl
theorem zkrb {f:Str}{v u:V}{r:List (Str×V)}:putF f v ((f,u)::r)=(f,v)::r:=by
 show (if f=f then (f,v)::r else (f,u)::putF f v r)=_
 rw[if_pos rfl]
theorem zul {f g:Str}{v u:V}{r:List (Str×V)}(h:¬ g=f):putF f v ((g,u)::r)=(g,u)::putF f v r:=by
 show (if g=f then (g,v)::r else (g,u)::putF f v r)=_
 rw[if_neg h]
def wfs (l:Addr)(k:Int):List (Str×V):=[("words",.ref l),("place",.int k)]
theorem zgvb:¬ (("words":Str) = "place"):=by decide +kernel
theorem znxb:¬ (("place":Str) = "words"):=by decide +kernel
theorem zvt (l:Addr)(k:Int):(wfs l k).lookup ("words":Str)=some (.ref l):=zoh
theorem zsp (l:Addr)(k:Int):(wfs l k).lookup ("place":Str)=some (.int k):=(zmc znxb).trans zoh
theorem zaqb (l:Addr)(k j:Int):putF "place" (.int j) (wfs l k)=wfs l j:=(zul zgvb).trans (congrArg _ zkrb)
theorem zlmb (l:Addr)(j:Int):putF "place" (.int j) (putF "words" (.ref l) [])=wfs l j:=(zul zgvb).trans rfl
theorem zzd (l:Addr)(k:Int){m:Str}(h1:¬ m = "words")(h2:¬ m = "place"):(wfs l k).lookup m=none:=(zmc h1).trans ((zmc h2).trans rfl)
def WAt (C:Addr)(H:Hp)(p:Addr)(ws:List Str)(k:Nat):Prop:=Ex2 λdx l=>H p=some (.ins C dx (wfs l (k:Int)))∧H l=some (.lst (ws.map V.str))
theorem WAt.at {C:Addr}{H H':Hp}{p:Addr}{ws:List Str}{k:Nat}(h:WAt C H p ws k)(s:Same H H'):WAt C H' p ws k:=by
 obtain⟨dx,l,h1,h2⟩:=h;exact⟨dx,l,s _ _ h1,s _ _ h2⟩
theorem WAt.go {C:Addr}{H:Hp}{p dx l:Addr}{ws:List Str}{k j:Nat}(h1:H p=some (.ins C dx (wfs l (k:Int))))(h2:H l=some (.lst (ws.map V.str))):WAt C (upd H p (.ins C dx (wfs l (j:Int)))) p ws j:=by
 have n:l≠p:=zfm h2 h1 (by intro z;cases z);exact⟨dx,l,zda,by rw[zfb n];exact h2⟩
theorem But.of_same {p:Addr}{H H1 H2:Hp}(a:But p H H1)(b:Same H1 H2):But p H H2:=a.trans (But.same b)
theorem zjc {ws:List Str}{k:Nat}{u:Str}(h:ws[k]?=some u):atI (ws.map V.str) (k:Int)=some (.str u):=zec (by rw[yxb,h];rfl)
def WdOk (u:Str):Prop:=u.length≤10000∧∀c∈u.cps.toList,c<256
theorem WdOk.rp {u:Str}(h:WdOk u):(ygj u).length≤1000000:=by
 have:=zfrb h.2;have:=h.1;omega
def zpqb (C:Addr):Sp:=λvs H Q _=>Ex3 λp dx (t:Str)=>vs=[.ref p,.str t]∧H p=some (.ins C dx [])∧t.length≤1000000∧∀H',WAt C H' p (yma t " ") 0->But p H H'->Q .non H'
def zlqb (C N:Addr):Sp:=λvs H Q E=>Ex3 λp (ws:List Str) (k:Nat)=>vs=[.ref p]∧WAt C H p ws k∧k≤ws.length∧(∀u H',ws[k]?=some u->WAt C H' p ws (k+1)->But p H H'->Q (.str u) H')∧(ws[k]?=none->E (.ref N) none H)
def znqb (C N:Addr):Sp:=λvs H Q E=>Ex3 λp (ws:List Str) (k:Nat)=>vs=[.ref p]∧WAt C H p ws k∧k≤ws.length∧(∀u∈ws,WdOk u)∧(∀u H',ws[k]?=some u->isName u=true->WAt C H' p ws (k+1)->But p H H'->Q (.str u) H')∧((∀u,ws[k]?=some u->isName u=false)->∀H',But p H H'->E (.ref N) none H')
def zjjb (C N:Addr):Sp:=λvs H Q E=>Ex3 λp (ws:List Str) (k:Nat)=>vs=[.ref p]∧WAt C H p ws k∧k≤ws.length∧(∀u∈ws,WdOk u)∧(∀(i:Nat) H',ws[k]?=some (toString (i:Int):Str)->i<1000->WAt C H' p ws (k+1)->But p H H'->Q (.int i) H')∧((∀u,ws[k]?=some u->isNumber u=false)->∀H',But p H H'->E (.ref N) none H')
def zkjb (C N:Addr):Sp:=λvs H Q E=>Ex3 λp (ws:List Str) (k:Nat)=>vs=[.ref p]∧WAt C H p ws k∧k≤ws.length∧(k=ws.length->Q .non H)∧(k<ws.length->E (.ref N) none H)
theorem zygb (T:Tx K mg):FnOk P w K mg base CX0 2 T.zoc.f T.zoc.d zri (zpqb T.zgc):=by
 refine T.zoc.ok zir ?_;rintro f c A o s H vs Q E hr ⟨p,dx,t,rfl,hp,ht,q⟩ X;refine⟨_,  (zca (zbo (pv 0) (zog yta yyc yzc zdk (pv 1) (zaa zea zba)) rfl)
  (zia (zbo (pv 0) zga rfl))),?_⟩
 refine⟨_,rfl,rfl,t,_,rfl,rfl,(by decide +kernel),(ypa (yyh ht 2) (by decide)),λl hl=>?_⟩;have npl:p≠l:=zva hp hl;refine⟨_,rfl,p,_,dx,_,rfl,(by rw[zfb npl];exact hp),T.zjb,T.zwe,(by show 0<1000;decide),?_⟩;refine⟨_,rfl,p,_,dx,_,rfl,zda,T.zjb,T.zbe,(by show 1<1000;decide),?_⟩;refine q _ ⟨dx,l,?_,?_⟩ ?_
 ·rw[zda,zlmb];rfl
 ·rw[zfb npl.symm,zfb npl.symm,zda]
 ·exact (But.laid hl).trans (But.put.trans But.put)
theorem zzg (T:Tx K mg):FnOk P w K mg base (CX1 P w) 2 T.zwc.f T.zwc.d zgn (zlqb T.zgc T.e_NoCard.c):=by
 refine T.zwc.okx zyy ?_;rintro f c A o s H vs Q E hr ⟨p,ws,k,rfl,⟨dx,l,h1,h2⟩,hk,q,qe⟩ X;refine⟨_,  (zca (zqb (zma zed (zfj (pv 0) rfl) (zza zya rfl T.zme yza (zaa (zfj (pv 0) rfl) zba)) (zxa _))
   (zia (zxg rfl rfl T.e_NoCard.m T.e_NoCard.q zsm zea))
   zra)
  (zca (zekb (pv 0) zga zawb)
  (zia (zpa (zlb zbb (zfj (pv 0) rfl) (zcb zjv (zfj (pv 0) rfl) zga) (λ_ _=>rfl)))))),?_⟩
 have n:l≠p:=zfm h2 h1 (by intro z;cases z);refine⟨_,rfl,p,_,dx,_,_,rfl,h1,T.zjb,T.zbe,zsp _ _,_,rfl,p,_,dx,_,_,rfl,h1,T.zjb,T.zwe,zvt _ _,l,_,rfl,.inl (SqL.of h2),rfl,_,rfl,?_⟩;refine ite2 (λc=>?_) (λc=>?_)
 ·have c':=of_decide_eq_true c;injection c' with c'
  rw[yaa] at c';exact qe (yzb (by omega))
 ·have c2:=λz=>c (decide_eq_true z);have hk2:k<ws.length:=by
   rcases ytn k ws.length with z|z
   ·exact z
   ·exfalso;apply c2;rw[yaa,show k=ws.length by omega]
  have hu:=yoa hk2;refine⟨_,rfl,p,_,dx,_,_,rfl,h1,T.zjb,T.zbe,zsp _ _,_,_,rfl,rfl,dx,_,h1,(by show 2<1000;decide),?_⟩;rw[zaqb];refine⟨_,rfl,p,_,dx,_,_,rfl,zda,T.zjb,T.zwe,zvt _ _,_,rfl,p,_,dx,_,_,rfl,zda,T.zjb,T.zbe,zsp _ _,_,_,rfl,rfl,l,_,_,_,rfl,rfl,SqL.of (by rw[zfb n];exact h2),(by rw[Int.add_sub_cancel];exact zjc hu),?_⟩;exact q _ _ hu (WAt.go (j:=k+1) h1 h2) But.put
theorem zwm (T:Tx K mg):FnOk P w K mg base (CX1 P w) 2 T.zld.f T.zld.d zbl (zkjb T.zgc T.e_NoCard.c):=by
 refine T.zld.okx zju ?_;rintro f c A o s H vs Q E hr ⟨p,ws,k,rfl,⟨dx,l,h1,h2⟩,hk,q,qe⟩ X;refine⟨_,  (zia (zqb (zma znr (zfj (pv 0) rfl) (zza zya rfl T.zme yza (zaa (zfj (pv 0) rfl) zba)) (zxa _))
   (zia (zxg rfl rfl T.e_NoCard.m T.e_NoCard.q zsm zea))
   zra)),?_⟩
 refine⟨_,rfl,p,_,dx,_,_,rfl,h1,T.zjb,T.zbe,zsp _ _,_,rfl,p,_,dx,_,_,rfl,h1,T.zjb,T.zwe,zvt _ _,l,_,rfl,.inl (SqL.of h2),_,_,rfl,rfl,_,rfl,?_⟩;refine ite2 (λc=>?_) (λc=>?_)
 ·have c':=of_decide_eq_true c;rw[yaa] at c';exact qe (by omega)
 ·have c2:¬ ((k:Int)<(((ws.map V.str).length:Nat):Int)):=λz=>c (decide_eq_true z);rw[yaa] at c2;exact q (by omega)
theorem zaf (T:Tx K mg):FnOk P w K mg base (CX1 P w) 3 T.zvb.f T.zvb.d zlh (znqb T.zgc T.e_NoCard.c):=by
 refine T.zvb.okx zwj ?_;rintro f c A o s H vs Q E hr ⟨p,ws,k,rfl,W,hk,ok,q,qe⟩ X;refine⟨_,  (zca (zta (i:=1) zwj.nd rfl (.inl rfl) (zkc (pv 0) T.zjb T.zwc.M (zzg T) hr (zgi T) .nil zxd))
  (zca (zqb (zak (zxh (zka (zey T) hr rfl T.zug.m T.zug.F.kp (zjdb T) .nil zib (zaa (pv 1) zba))))
   (zia (zxg rfl rfl T.e_NoCard.m T.e_NoCard.q zsm (zzhb (pv 1) zea)))
   zra)
  (zia (zpa (pv 1))))),?_⟩
 obtain⟨dx,l,h1,h2⟩:=id W;refine⟨_,rfl,p,dx,_,rfl,h1,zzd _ _ (by decide +kernel) (by decide +kernel),p,ws,k,rfl,W,hk,λu H1 hu W1 B1=>?_,λz=>qe (λu y=>by rw[z] at y;cases y) _ (But.refl p H)⟩;have hw:=ok u (yva hu);refine⟨_,rfl,u,rfl,hw.1,λH2 S2=>?_⟩;cases e:isName u with
 | true =>
  refine⟨_,rfl,iteF ?_⟩;exact⟨_,rfl,q u H2 hu e (W1.at S2) (B1.of_same S2)⟩
 | false =>
  refine⟨_,rfl,iteT ?_⟩;exact⟨_,rfl,u,rfl,hw.rp,_,rfl,(by decide +kernel),qe (λu' y=>by rw[hu] at y;cases y;exact e) H2 (B1.of_same S2)⟩
theorem zcc (T:Tx K mg)(hn:∀u:Str,isNumber u=true->∃i:Nat,i<1000∧u=(toString (i:Int):Str)):FnOk P w K mg base (CX1 P w) 3 T.zeb.f T.zeb.d zsg (zjjb T.zgc T.e_NoCard.c):=by
 refine T.zeb.okx zti ?_;rintro f c A o s H vs Q E hr ⟨p,ws,k,rfl,W,hk,ok,q,qe⟩ X;refine⟨_,  (zca (zta (i:=1) zti.nd rfl (.inl rfl) (zkc (pv 0) T.zjb T.zwc.M (zzg T) hr (zgi T) .nil zxd))
  (zca (zqb (zak (zxh (zka (zacb T) hr rfl T.zig.m T.zig.F.kp (zgfb T) .nil zib (zaa (pv 1) zba))))
   (zia (zxg rfl rfl T.e_NoCard.m T.e_NoCard.q zsm (zzhb (pv 1) zea)))
   zra)
  (zia (zpa (zrc zjab rfl T.zqhb boot_int (zaa (pv 1) zba)))))),?_⟩
 obtain⟨dx,l,h1,h2⟩:=id W;refine⟨_,rfl,p,dx,_,rfl,h1,zzd _ _ (by decide +kernel) (by decide +kernel),p,ws,k,rfl,W,hk,λu H1 hu W1 B1=>?_,λz=>qe (λu y=>by rw[z] at y;cases y) _ (But.refl p H)⟩;have hw:=ok u (yva hu);refine⟨_,rfl,u,rfl,hw.1,λH2 S2=>?_⟩;cases e:isNumber u with
 | true =>
  obtain⟨i,hi,rfl⟩:=hn u e;have hl:=ztk i hi;refine⟨_,rfl,iteF ?_⟩;exact⟨_,rfl,_,_,rfl,zmeb i hi,(by omega),q i H2 hu hi (W1.at S2) (B1.of_same S2)⟩
 | false =>
  refine⟨_,rfl,iteT ?_⟩;exact⟨_,rfl,u,rfl,hw.rp,_,rfl,(by decide +kernel),qe (λu' y=>by rw[hu] at y;cases y;exact e) H2 (B1.of_same S2)⟩
def valV:Wv->V
 | .non=>.non
 | .name n=>.str n
 | .num i=>.int i
def hfs (w:Str)(v:V)(t:Addr):List (Str×V):=[("word",.str w),("value",v),("parts",.ref t)]
theorem zmxb:¬ (("value":Str) = "word"):=by decide +kernel
theorem zevb:¬ (("word":Str) = "value"):=by decide +kernel
theorem zjvb:¬ (("parts":Str) = "word"):=by decide +kernel
theorem zfvb:¬ (("word":Str) = "parts"):=by decide +kernel
theorem zkvb:¬ (("parts":Str) = "value"):=by decide +kernel
theorem zivb:¬ (("value":Str) = "parts"):=by decide +kernel
theorem zfob (w:Str)(v:V)(t:Addr):(hfs w v t).lookup ("word":Str)=some (.str w):=zoh
theorem zrcb (w:Str)(v:V)(t:Addr):(hfs w v t).lookup ("value":Str)=some v:=(zmc zmxb).trans zoh
theorem zblb (w:Str)(v:V)(t:Addr):(hfs w v t).lookup ("parts":Str)=some (.ref t):=(zmc zjvb).trans ((zmc zkvb).trans zoh)
theorem zgob (w:Str)(v:V)(t:Addr):putF "parts" (.ref t) (putF "value" v (putF "word" (.str w) []))=hfs w v t:=by
 rw[zmr,zul zevb,zmr,zul zfvb,zul zivb,zmr];rfl
theorem zgy (w:Str)(v:V)(t:Addr){m:Str}(h1:¬ m = "word")(h2:¬ m = "value")(h3:¬ m = "parts"):(hfs w v t).lookup m=none:=(zmc h1).trans ((zmc h2).trans ((zmc h3).trans rfl))
theorem znsb {C D dx dy t l:Addr}{w:Str}{v:V}{k:Int}:HO.ins D dx (hfs w v t)≠HO.ins C dy (wfs l k):=by
 intro z;injection z with _ _ z
 exact absurd (congrArg ype z) (by show ¬ (3=2);decide)
mutual
inductive IsW (D:Addr)(H:Hp):V->Wh->Prop where
 | mk {a dx t:Addr} {vs:List V} {w:Wh} (h1:H a=some (.ins D dx (hfs w.word (valV w.val) t))) (h2:H t=some (.tup vs)) (h3:IsWs D H vs w.parts):IsW D H (.ref a) w
inductive IsWs (D:Addr)(H:Hp):List V->List Wh->Prop where
 | nil:IsWs D H [] []
 | cons {v:V} {w:Wh} {vs:List V} {ws:List Wh}:IsW D H v w->IsWs D H vs ws->IsWs D H (v::vs) (w::ws)
end
mutual
theorem IsW.same {D:Addr}{H H':Hp}(s:Same H H'):∀{v:V} {w:Wh},IsW D H v w->IsW D H' v w
 | _,_,.mk h1 h2 h3=>.mk (s _ _ h1) (s _ _ h2) (h3.same s)
theorem IsWs.same {D:Addr}{H H':Hp}(s:Same H H'):∀{vs:List V} {ws:List Wh},IsWs D H vs ws->IsWs D H' vs ws
 | _,_,.nil=>.nil
 | _,_,.cons h t=>.cons (h.same s) (t.same s)
end
mutual
theorem IsW.but {D C p dy l:Addr}{k:Int}{H H':Hp}(b:But p H H')(hp:H p=some (.ins C dy (wfs l k))):∀{v:V} {w:Wh},IsW D H v w->IsW D H' v w
 | _,_,.mk h1 h2 h3=>.mk (b _ _ (zfm h1 hp znsb) h1) (b _ _ (zfm h2 hp (by intro z;cases z)) h2) (h3.but b hp)
theorem IsWs.but {D C p dy l:Addr}{k:Int}{H H':Hp}(b:But p H H')(hp:H p=some (.ins C dy (wfs l k))):∀{vs:List V} {ws:List Wh},IsWs D H vs ws->IsWs D H' vs ws
 | _,_,.nil=>.nil
 | _,_,.cons h t=>.cons (h.but b hp) (t.but b hp)
end
theorem IsWs.length {D:Addr}{H:Hp}:∀{vs:List V} {ws:List Wh},IsWs D H vs ws->vs.length=ws.length
 | _,_,.nil=>rfl
 | _,_,.cons _ t=>by rw[yia,yia,t.length]
theorem IsWs.split {D:Addr}{H:Hp}:∀{xs:List Wh} {vs:List V} {ys:List Wh},IsWs D H vs (xs++ys)->IsWs D H (vs.take xs.length) xs∧IsWs D H (vs.drop xs.length) ys
 | [],vs,ys,h=>⟨by rw[ybg,List.take_zero];exact .nil,by rw[ybg,yoh];exact h⟩
 | x::xs,_,ys,.cons h t=>by
  obtain⟨a,b⟩:=IsWs.split (xs:=xs) t;exact⟨.cons h a,b⟩
theorem IsWs.get {D:Addr}{H:Hp}:∀{vs:List V} {ws:List Wh} {i:Nat} {v:V},IsWs D H vs ws->vs[i]?=some v->∃w,ws[i]?=some w∧IsW D H v w
 | _,_,_,_,.nil,e=>by simp at e
 | _,_,0,_,.cons h t,e=>by
  rw[yxg] at e;cases e;exact⟨_,rfl,h⟩
 | _,_,i+1,_,.cons h t,e=>by
  rw[ymd] at e;obtain⟨w,h1,h2⟩:=t.get e;exact⟨w,by rw[ymd];exact h1,h2⟩
theorem zdw (xs:List V)(n:Nat):cutV xs none (some (n:Int))=xs.take n:=by
 unfold cutV;rw[HT.zpgb,HT.zsjb,yoh,Nat.sub_zero]
 by_cases h:n≤xs.length
 ·rw[Nat.min_eq_left h]
 ·rw[Nat.min_eq_right (by omega),yxc (yxa _),yxc (by omega)]
theorem zll (xs:List V)(n:Nat):cutV xs (some (n:Int)) none=xs.drop n:=by
 unfold cutV;rw[HT.zpgb,HT.zsjb]
 by_cases h:n≤xs.length
 ·rw[Nat.min_eq_left h,yxc (by rw[ylc];exact yxa _)]
 ·rw[Nat.min_eq_right (by omega),yhj,List.take_zero,List.drop_eq_nil_of_le (by omega)]
theorem zux (w:Wh):∀p∈w.parts,p.size<w.size:=by
 cases w<;>simp[Wh.parts,Wh.size]<;>omega
theorem zfz (w:Wh):w.parts.length≤2:=by
 cases w<;>simp[Wh.parts]
theorem zyob (w:Wh):w.val.words.length≤1:=by
 cases w<;>simp[Wh.val,Wv.words]
theorem zyt {w:Wh}(h:w.ok)(hs:w.size≤9):(yea " " w.words).length≤200:=by
 have a:=zgk " " w.words;have b:=w.zut;have c:=zun (l:=w.words.map (·.length)) (k:=8) (λx hx=>by
  obtain⟨u,hu,rfl⟩:=ykb.mp hx;exact (Wh.zqy h u hu).2.2)
 rw[yaa] at c;have e:(" ":Str).length=1:=rfl;rw[e] at a;omega
theorem zotb {w:Wh}(h:w.ok):∀u∈w.val.words,zuw u:=by
 intro u hu;refine Wh.zqy h u ?_;rw[w.zjt];exact yla _ (ycc _ hu)
theorem zcjb {w:Wh}(h:w.ok)(hs:w.size≤9):((w.word::(w.val.words++w.parts.map λp=>yea " " p.words)).map (·.length)).sum+(w.word::(w.val.words++w.parts.map λp=>yea " " p.words)).length*(" ":Str).length≤16777216:=by
 have c:=zun (l:=(w.word::(w.val.words++w.parts.map λp=>yea " " p.words)).map (·.length)) (k:=200) (λx hx=>by
  obtain⟨u,hu,rfl⟩:=ykb.mp hx
  rcases yda.mp hu with e|e
  ·rw[e];have:=(w.zrl).2.2;omega
  ·rcases yna.mp e with e|e
   ·have:=(zotb h u e).2.2;omega
   ·obtain⟨p,hp,rfl⟩:=ykb.mp e;exact zyt (Wh.zkz h p hp) (by have:=zux w p hp;omega))
 have n1:=zfz w;have n2:=zyob w;have e:(" ":Str).length=1:=rfl;rw[e];rw[yaa] at c;have l:(w.word::(w.val.words++w.parts.map λp=>yea " " p.words)).length=1+(w.val.words.length+w.parts.length):=by
  rw[yia,yha,yaa];omega
 rw[l] at c ⊢;omega
theorem zdi:∀i:Nat,i<1000->i.log2<1920:=by decide +kernel
theorem zxgb (w:Wh):yqe w.word zdh=some (.flat (.int (w.parts.length:Nat))):=by
 cases w<;>rfl
def zgub (D:Addr):Sp:=λvs H Q _=>Ex5 λx dx t (u:Str) v=>vs=[.ref x,.str u,v,.ref t]∧H x=some (.ins D dx [])∧Q .non (upd H x (.ins D dx (hfs u v t)))
def zzab (D:Addr)(n:Nat):Sp:=λvs H Q _=>Ex2 λv (w:Wh)=>vs=[v]∧IsW D H v w∧w.ok∧w.depth≤n∧w.size≤9∧∀H',Same H H'->Q (.str (yea " " w.words)) H'
theorem zyrb (T:Tx K mg):FnOk P w K mg base CX0 2 T.zqd.f T.zqd.d zqj (zgub T.znc):=by
 refine T.zqd.ok zbt ?_;rintro f c A o s H vs Q E hr ⟨x,dx,t,u,v,rfl,hx,q⟩ X;refine⟨_,  (zca (zbo (pv 0) (pv 1) rfl)
  (zca (zbo (pv 0) (pv 2) rfl)
  (zia (zbo (pv 0) (pv 3) rfl)))),?_⟩
 refine⟨_,rfl,_,rfl,x,_,dx,_,rfl,hx,T.zpg,T.zij,(by show 0<1000;decide),?_⟩;refine⟨_,rfl,_,rfl,x,_,dx,_,rfl,zda,T.zpg,T.ztg,(by show 1<1000;decide),?_⟩;refine⟨_,rfl,_,rfl,x,_,dx,_,rfl,zda,T.zpg,T.zzh,(by rw[zmr,zul zevb,zmr];show 2<1000;decide),?_⟩;show Q .non _
 rw[zsl,zsl,zgob];exact q
theorem zbjb (T:Tx K mg){n:Nat}(zfgb:FnOk P w K mg base CX0 (n+2) T.zwb.f T.zwb.d zmh (zzab T.znc n)):FnOk P w K mg base CX0 (n+3) T.zwb.f T.zwb.d zmh (zzab T.znc (n+1)):=by
 refine T.zwb.ok zfs ?_;rintro f c A o s H vs Q E hr ⟨v,y,rfl,W,ok,hd,hs,q⟩ X;refine⟨_,  (zca (zta (i:=1) zfs.nd rfl (.inl rfl) (zob (zaa (zfj (pv 0) rfl) zba)))
  (zca (zqb (zma zxrb (zfj (pv 0) rfl) zcy (zxa _))
   (zia (zsk (zog yyd yaf ybf zjq (pv 1) (zaa (zrc znk rfl T.zrp yph (zaa (zfj (pv 0) rfl) zba)) zba))))
   zra)
  (zca (zsk (zog yyd PySem.F.slot_list_extend PySem.F.type_list_extend zokb (pv 1) (zaa (zvm (own:=["part"]) (cap:=[]) rfl (zvd.chk rfl rfl) .nil (zdpb (zfj (pv 0) rfl)) (λ_ _ _ _=>(zwd (i:=0) (show ygg (["part"]:List Str) by decide +kernel) rfl (.inl rfl))) (λ_ _ _ _=>zvl) (λ_ _ _ _=>by exact (zkc (pv 0) T.zpg T.zwb.M zfgb hr (zih T) .nil zib))) zba)))
  (zia (zpa (zog yta yhb yib zof zea (zaa (pv 1) zba))))))),?_⟩
 cases W with
 | @mk a dx t ps _ h1 h2 h3 =>
 refine⟨_,rfl,a,_,dx,_,_,rfl,h1,T.zpg,T.zij,zfob _ _ _,sz1,λl hl=>?_⟩;have nal:a≠l:=zva h1 hl;have ntl:t≠l:=zva h2 hl;refine⟨_,rfl,a,_,dx,_,_,rfl,(by rw[zfb nal];exact h1),T.zpg,T.ztg,zrcb _ _ _,rfl,_,rfl,?_⟩;have S1:Same H (upd H l (.lst [.str y.word])):=zja hl _;refine ite2 (λc=>?g1) (λc=>?g2)
 case' g1 =>
  have nv:valV y.val ≠ .non:=by simpa using c
  have ev:∃u,y.val.words=[u]∧((valV y.val = .str u)∨∃i:Nat,i<1000∧valV y.val = .int i∧u=(toString (i:Int):Str)):=by
   cases y with
   | mark m=>exact⟨m,rfl,.inl rfl⟩
   | force i=>exact⟨_,rfl,.inr ⟨i,ok,rfl,rfl⟩⟩
   | _=>exact absurd rfl nv
  obtain⟨u,eu,hv⟩:=ev;have rd:∀H0 (Q':VK),Q' (.str u) H0->rStrAny [valV y.val] H0 Q':=by
   intro H0 Q' z;unfold rStrAny
   rcases hv with e|⟨i,hi,e,rfl⟩
   ·exact .inl ⟨u,by rw[e],z⟩
   ·exact .inr ⟨i,by rw[e],(by rw[yod];exact zdi i hi),z⟩
  refine⟨_,rfl,.inl ⟨rfl,_,SqL.of zda⟩,_,rfl,a,_,dx,_,valV y.val,rfl,(by rw[zfb nal];exact h1),T.zpg,T.ztg,zrcb _ _ _,?_⟩;show rStrAny [valV y.val] _ _
  refine rd _ _ ?_;refine⟨l,_,_,rfl,rfl,zda,(by show 1<yua;decide),?_⟩;rw[zsl];have e2:upd H l (.lst ([.str y.word]++[.str u])) l=some (.lst ((y.word::y.val.words).map V.str)):=by rw[zda,eu];rfl
  have S2:Same H (upd H l (.lst ([.str y.word]++[.str u]))):=zja hl _;generalize upd H l (.lst ([.str y.word]++[.str u]))=H2 at *
 case' g2 =>
  have nv:valV y.val = .non:=by simpa using c
  have eu:y.val.words=[]:=by
   cases y with
   | mark m=>exact absurd nv (by intro z;cases z)
   | force i=>exact absurd nv (by intro z;cases z)
   | _=>rfl
  have e2:upd H l (.lst [.str y.word]) l=some (.lst ((y.word::y.val.words).map V.str)):=by rw[zda,eu];rfl
  have S2:=S1;clear S1;generalize upd H l (.lst [.str y.word])=H2 at *
 all_goals
  refine⟨_,rfl,.inl ⟨rfl,_,SqL.of e2⟩,_,rfl,a,_,dx,_,_,rfl,S2 _ _ h1,T.zpg,T.zzh,zblb _ _ _,t,rfl,⟨_,SqT.of (S2 _ _ h2)⟩,?_⟩;refine zkhb (xs:=ps) (λi ys H'=>Same H2 H'∧i≤ps.length∧ys=(y.parts.take i).map λp=>V.str (yea " " p.words)) (λi ys H' z=>SqT.of (z.1 _ _ (S2 _ _ h2))) ⟨Same.refl _,ydc _,rfl⟩ ?_ ?_ ?_
  ·rintro i ys H' ⟨_,_,rfl⟩;rw[yaa,ypb];have:=zfz y;exact small (by omega)
  ·rintro i x ys H' hx ⟨S3,hi,rfl⟩;obtain⟨p,hp,hw⟩:=h3.get hx;have hm:p∈y.parts:=yva hp;have hw':=hw.same (S2.trans S3);cases hw' with
   | @mk a' dx' t' ps' _ k1 k2 k3 =>
   refine⟨rfl,_,rfl,a',dx',_,rfl,k1,zgy _ _ _ (by decide +kernel) (by decide +kernel) (by decide +kernel),.ref a',p,rfl,.mk k1 k2 k3,Wh.zkz ok p hm,?_,?_,λH4 S4=>⟨S3.trans S4,?_,?_⟩⟩
   ·have:=y.zueb p hm;omega
   ·have:=zux y p hm;omega
   ·exact (ylb.mp hx).1
   ·rw[ywb,hp,ydb];rfl
  ·rintro ys H' ⟨S3,_,rfl⟩ b hb;have e3:=S3 _ _ e2;have nlb:l≠b:=zva e3 hb;have hlen:=h3.length;have hpl:=zfz y;have hvl:=zyob y;rw[yxc (by omega)];refine⟨l,b,_,_,rfl,rfl,(by rw[zfb nlb];exact e3),zda,?_,?_⟩
   ·rw[yaa,yaa,yia];exact small (by omega)
   ·refine⟨rfl,_,rfl," ",l,(y.word::(y.val.words++y.parts.map λp=>yea " " p.words)),rfl,rfl,SqL.of ?_,zcjb ok hs,?_⟩
    ·rw[zda];simp[Function.comp_def]
    ·have S4:Same H' (upd H' b (.lst (y.parts.map λp=>V.str (yea " " p.words)))):=zja hb _;rw[zcqb];refine q _ λc o e=>?_;have ncl:c≠l:=zva e hl;rw[zfb ncl];exact S4 _ _ (S3 _ _ (S2 _ _ e))
theorem zdjb (T:Tx K mg):FnOk P w K mg base CX0 2 T.zwb.f T.zwb.d zmh (zzab T.znc 0):=by
 have no:∀vs H Q E,¬ zzab T.znc 0 vs H Q E:=λvs H Q E h=>by
  obtain⟨v,y,_,_,_,hd,_⟩:=h;have:1≤y.depth:=by cases y<;>simp[Wh.depth]
  omega
 exact⟨λvs H Q E h=>absurd h (no vs H Q E),λA outer s H args us vs Q E _ _ _ _ h=>absurd h (no vs H Q E)⟩
theorem zkn (T:Tx K mg):∀n:Nat,FnOk P w K mg base CX0 (n+2) T.zwb.f T.zwb.d zmh (zzab T.znc n)
 | 0=>zdjb T
 | n+1=>zbjb T (zkn T n)
def TkAt (H:Hp)(l:Addr)(fl:List (Str×Wv)):Prop:=∃as:List Addr,H l=some (.lst (as.map V.ref))∧as.length=fl.length∧∀(i:Nat) a (x:Str×Wv),as[i]?=some a->fl[i]?=some x->H a=some (.tup [.str x.1,valV x.2])
theorem TkAt.same {H H':Hp}{l:Addr}{fl:List (Str×Wv)}(h:TkAt H l fl)(s:Same H H'):TkAt H' l fl:=by
 obtain⟨as,h1,h2,h3⟩:=h;exact⟨as,s _ _ h1,h2,λi a x e1 e2=>s _ _ (h3 i a x e1 e2)⟩
theorem TkAt.but {H H':Hp}{l p C dy wl:Addr}{k:Int}{fl:List (Str×Wv)}(h:TkAt H l fl)(b:But p H H')(hp:H p=some (.ins C dy (wfs wl k))):TkAt H' l fl:=by
 obtain⟨as,h1,h2,h3⟩:=h;exact⟨as,b _ _ (zfm h1 hp (by intro z;cases z)) h1,h2,λi a x e1 e2=>b _ _ (zfm (h3 i a x e1 e2) hp (by intro z;cases z)) (h3 i a x e1 e2)⟩
theorem TkAt.snoc {H:Hp}{l a:Addr}{fl:List (Str×Wv)}{x:Str×Wv}(h:TkAt H l fl)(ha:H a=some (.tup [.str x.1,valV x.2])){as:List Addr}(hl:H l=some (.lst (as.map V.ref))):TkAt (upd H l (.lst (as.map V.ref++[.ref a]))) l (fl++[x]):=by
 obtain⟨as',h1,h2,h3⟩:=h;have e:as'=as:=by
  rw[h1] at hl;injection hl with hl
  injection hl with hl
  exact List.map_inj_right (λx y z=>by injection z) |>.mp hl
 subst e;refine⟨as'++[a],?_,?_,λi b y e1 e2=>?_⟩
 ·rw[zda,ydb];rfl
 ·rw[yha,yha,h2];rfl
 ·by_cases hi:i<as'.length
  ·rw[ytd hi] at e1;rw[ytd (by omega)] at e2;have z:=h3 i b y e1 e2;rw[zfb (zfm z h1 (by intro z;cases z))];exact z
  ·have hi2:i<(as'++[a]).length:=(ylb.mp e1).1;rw[yha,yjc] at hi2;have ei:i=as'.length:=(by omega);rw[yfc (by omega),ei,yhj] at e1;rw[yfc (by omega),ei,h2,yhj] at e2;cases e1;cases e2;rw[zfb (zfm ha h1 (by intro z;cases z))];exact ha
def zyqb (D:Addr):Sp:=λvs H Q _=>Ex2 λl (y:Wh)=>vs=[.ref l]∧TkAt H l y.flat∧y.size≤9∧∀v H',Same H H'->IsW D H' v y->Q v H'
theorem zdc {ws rest:List Str}{k:Nat}{u:Str}(h:ws.drop k=u::rest):ws[k]?=some u∧ws.drop (k+1)=rest:=by
 constructor
 ·have e:(ws.drop k)[0]?=some u:=by rw[h];rfl
  rw[yme] at e
  simpa using e
 ·rw[← yrf,h];rfl
theorem zmnb (T:Tx K mg)(kb:K.In base):FnOk P w K mg base CX0 4 T.zfo.f T.zfo.d zmfb (zyqb T.znc):=by
 refine T.zfo.ok zln ?_;rintro f c A o s H vs Q E hr ⟨l,y,rfl,⟨as,h1,h2,h3⟩,hs,q⟩ X;refine⟨_,  (zca (zta (i:=1) zln.nd rfl (.inl rfl) (zob zba))
  (zca (znbb ycg rfl (zgeb rfl T.zjn (zaa (pv 0) zba)) (zvgb (n:=2) rfl (zbk (zwd (i:=2) zln.nd rfl (.inl rfl)) (zbk (zwd (i:=3) zln.nd rfl (.inl rfl)) zcz)))
   (zca (zta (i:=4) zln.nd rfl (.inl rfl) (zlb (zipb (zau T kb)) (zle (v:=.ref T.zuo) rfl T.zqr rfl) (pv 2) (λ_ _=>rfl)))
   (zia (zta (i:=1) zln.nd rfl (.inl rfl) (zcb zze (zob (zaa (zdz T.zqd.M (zyrb T) hr rfl T.zqkb (zpw T) .nil zib (zaa (pv 2) (zaa (pv 3) (zaa (zrc zxl rfl T.zbr boot_tuple (zaa (zlc zgf (pv 1) zud (ztd (pv 4))) zba)) zba)))) zba)) (zlc zgf (pv 1) (ztd (pv 4)) zud))))))
  (zia (zpa (zlb zbb (pv 1) zga (λ_ _=>rfl)))))),?_⟩
 refine⟨sz0,λw0 hw0=>?_⟩;have S0:Same H (upd H w0 (.lst [])):=zja hw0 _;have fl:=y.zyz;have len:(as.map V.ref).length=y.size:=by rw[yaa,h2,fl]
 refine⟨_,rfl,l,as.map V.ref,rfl,SqL.of (S0 _ _ h1),?_⟩;refine zrsb (xs:=as.map V.ref) (λi σ H'=>Ex5 λwl vs o2 o3 o4=>σ=[some (.ref l),some (.ref wl),o2,o3,o4]∧Same H H'∧H' wl=some (.lst vs)∧IsWs T.znc H' vs (pend y (y.size-i))) ⟨w0,[],_,_,_,rfl,S0,zda,by rw[Nat.sub_zero,zinb];exact .nil⟩ (λi σ H' _ ⟨_,_,_,_,_,_,S',_⟩=>SqL.of (S' _ _ h1)) ?_ ?_
 ·rintro i x σ H' hi hx ⟨wl,vs,o2,o3,o4,rfl,S1,e1,W1⟩;rw[len] at hi hx;have hj:y.size-1-i<y.size:=by omega
  obtain⟨z,t,ez⟩:=zvrb hj;have ef:=zwrb ez;rw[yxb] at hx;cases ea:as[y.size-1-i]? with
  | none =>
   rw[ea] at hx;cases hx
  | some a =>
  rw[ea] at hx;cases hx;have ha:=S1 _ _ (h3 _ _ _ ea ef);have ep:pend y (y.size-i)=z.parts++t:=by
   rw[show y.size-i=(y.size-1-i)+1 by omega];show step (pend y (y.size-1-i))=_
   rw[ez];rfl
  rw[ep] at W1;obtain⟨Wp,Wt⟩:=W1.split;have vl:=W1.length;rw[yha] at vl;have szp:=zgv y (y.size-i);have lez:(z.parts++t).length≤zdl (z.parts++t):=by
   have go:∀l:List Wh,l.length≤zdl l:=by
    intro l
    induction l with
    | nil=>exact ydc _
    | cons x r ih =>
     have e2:zdl (x::r)=x.size+zdl r:=(by simp[zdl]);have:=x.size_pos;rw[e2,yia];omega
   exact go _
  rw[ep] at szp;rw[yha] at lez;refine⟨a,_,rfl,SqT.of ha,rfl,_,_,rfl,_,_,rfl,rfl,?_⟩;refine⟨_,rfl,_,_,rfl,rfl,zxgb z,?_⟩;refine⟨_,rfl,_,rfl,_,rfl,_,rfl,_,rfl,wl,vs,rfl,SqL.of e1,λs1 hs1=>?_⟩;have S2:=zja hs1 (.lst (cutV vs none (some ((z.parts.length:Nat):Int))));refine⟨s1,_,rfl,.inl ⟨SqL.of zda,λtp htp=>?_⟩⟩;have S3:=zja htp (.tup (cutV vs none (some ((z.parts.length:Nat):Int))));intro x dx nx ndx nex;refine⟨x,dx,tp,z.word,valV z.val,rfl,zda,rfl,?_⟩;rw[zsl];have etp:=zva (b:=x) (zda (H:=upd H' s1 (.lst (cutV vs none (some ((z.parts.length:Nat):Int))))) (a:=tp) (o:=.tup (cutV vs none (some ((z.parts.length:Nat):Int))))) nx;have etd:=zva (b:=dx) (zda (H:=upd H' s1 (.lst (cutV vs none (some ((z.parts.length:Nat):Int))))) (a:=tp) (o:=.tup (cutV vs none (some ((z.parts.length:Nat):Int))))) ndx;generalize hH3:upd (upd H' s1 (.lst (cutV vs none (some ((z.parts.length:Nat):Int))))) tp (.tup (cutV vs none (some ((z.parts.length:Nat):Int))))=H3 at *;have e3:H3 tp=some (.tup (vs.take z.parts.length)):=by rw[← hH3,zda,zdw]
  have S4:Same H3 (upd (upd H3 dx (.own x)) x (.ins T.znc dx (hfs z.word (valV z.val) tp))):=λb o e=>by
   rw[zfb (zva e nx),zfb (zva e ndx)];exact e
  have e4:upd (upd H3 dx (.own x)) x (.ins T.znc dx (hfs z.word (valV z.val) tp)) x=some (.ins T.znc dx (hfs z.word (valV z.val) tp)):=zda;generalize upd (upd H3 dx (.own x)) x (.ins T.znc dx (hfs z.word (valV z.val) tp))=H4 at *;have S14:Same H' H4:=S2.trans (S3.trans S4);refine⟨sz1,λq1 hq1=>?_⟩;have S5:=zja hq1 (.lst [.ref x]);refine⟨_,rfl,_,rfl,_,rfl,wl,vs,rfl,SqL.of (S5 _ _ (S14 _ _ e1)),λs2 hs2=>?_⟩;have e5:upd H4 q1 (.lst [.ref x]) q1=some (.lst [.ref x]):=zda;generalize upd H4 q1 (.lst [.ref x])=H5 at *;have S6:=zja hs2 (.lst (cutV vs (some ((z.parts.length:Nat):Int)) none));have e6:upd H5 s2 (.lst (cutV vs (some ((z.parts.length:Nat):Int)) none)) s2=some (.lst (vs.drop z.parts.length)):=by rw[zda,zll]
  generalize upd H5 s2 (.lst (cutV vs (some ((z.parts.length:Nat):Int)) none))=H6 at *;refine⟨q1,s2,_,_,rfl,rfl,S6 _ _ e5,e6,?_,λr hr'=>?_⟩
  ·rw[ylc,yjc];exact small (by omega)
  have S7:=zja hr' (.lst ([.ref x]++vs.drop z.parts.length));have S37:Same H3 (upd H6 r (.lst ([.ref x]++vs.drop z.parts.length))):=S4.trans (S5.trans (S6.trans S7));have S17:Same H' (upd H6 r (.lst ([.ref x]++vs.drop z.parts.length))):=S14.trans (S5.trans (S6.trans S7));refine⟨r,_,_,_,_,rfl,S1.trans S17,zda,?_⟩;rw[show y.size-(i+1)=y.size-1-i by omega,ez];exact .cons (.mk ((S5.trans (S6.trans S7)) _ _ e4) (S37 _ _ e3) (Wp.same S17)) (Wt.same S17)
 ·rintro σ H' ⟨wl,vs,o2,o3,o4,rfl,S1,e1,W1⟩;rw[len,yhj] at W1;have W1':IsWs T.znc H' vs [y]:=W1;cases W1' with
  | cons hv ht =>
  cases ht;exact⟨_,rfl,wl,_,_,_,rfl,rfl,SqL.of e1,rfl,q _ H' S1 hv⟩
theorem zlsb {c:Nat}{u:Str}:inS c u=true↔c∈u.cps.toList:=by
 unfold inS;rw[StrLaws.found_one,decide_eq_true_eq]
theorem zswb:∀c∈LL.cps.toList,97≤c∧c≤122:=by decide +kernel
theorem zvwb:∀c∈FF.cps.toList,48≤c∧c<58:=by decide +kernel
theorem zmdb {t u:Str}(h:allIn t u=true):∀c∈t.cps.toList,c∈u.cps.toList:=by
 unfold allIn at h;rw[yyb] at h;intro c hc;exact zlsb.mp (h _ (yrg hc))
theorem zogb {t:Str}{n:Int}(h:short t n=true):1≤t.length∧(t.length:Int)≤n:=by
 unfold short at h;rw[yub,decide_eq_true_eq,decide_eq_true_eq] at h;omega
theorem zyv {u:Str}(h:isName u=true):znd u:=by
 unfold isName at h;rw[yub] at h;obtain⟨h1,h2⟩:=h;have z:=zogb h1;exact⟨z.1,by omega,λc hc=>zswb c (zmdb h2 c hc)⟩
theorem num1:∀x:Nat,x<10->(⟨#[48+x]⟩:Str)=(toString ((x:Nat):Int):Str):=by decide +kernel
theorem num2:∀x:Nat,x<10->∀y:Nat,y<10->x≠0->(⟨#[48+x,48+y]⟩:Str)=(toString ((10*x+y:Nat):Int):Str):=by decide +kernel
theorem num3:∀x:Nat,x<10->∀y:Nat,y<10->∀z:Nat,z<10->x≠0->(⟨#[48+x,48+y,48+z]⟩:Str)=(toString ((100*x+10*y+z:Nat):Int):Str):=by decide +kernel
theorem zxf (u:Str)(h:isNumber u=true):∃i:Nat,i<1000∧u=(toString (i:Int):Str):=by
 unfold isNumber isWhole at h;rw[yub,yub] at h;obtain⟨h1,h2,h3⟩:=h;have z:=zogb h1;have d:=λc hc=>zvwb c (zmdb h2 c hc);obtain⟨⟨l⟩⟩:=u;have zl:1≤l.length∧(l.length:Int)≤3:=z;have nz:∀(a b:Nat) (r:List Nat),l=a::b::r->a≠48:=by
  rintro a b r rfl e;subst e;unfold zcm at h3;rw[Bool.or_eq_true,decide_eq_true_eq] at h3
  rcases h3 with h3|h3
  ·injection h3 with h3
   have:=congrArg yol h3;have e1:(⟨(48::b::r).toArray⟩:Str).length=r.length+2:=(by show (48::b::r).toArray.size=_;simp);rw[e1] at this;exact absurd this (by show ¬ (r.length+2=1);omega)
  ·exact absurd h3 (show ¬ ((!decide (V.str ⟨#[48]⟩=V.str "0"))=true) by decide +kernel)
 match l,zl,d,nz with
 | [a],_,d,_ =>
  have:=d a (by simp);exact⟨a-48,by omega,by rw[← num1 (a-48) (by omega),show 48+(a-48)=a by omega]⟩
 | [a,b],_,d,nz =>
  have h1:=d a (by simp);have h2:=d b (by simp);have h3:=nz _ _ _ rfl;exact⟨10*(a-48)+(b-48),by omega,by rw[← num2 (a-48) (by omega) (b-48) (by omega) (by omega),show 48+(a-48)=a by omega,show 48+(b-48)=b by omega]⟩
 | [a,b,c],_,d,nz =>
  have h1:=d a (by simp);have h2:=d b (by simp);have h4:=d c (by simp);have h3:=nz _ _ _ rfl;exact⟨100*(a-48)+10*(b-48)+(c-48),by omega,by rw[← num3 (a-48) (by omega) (b-48) (by omega) (c-48) (by omega) (by omega),show 48+(a-48)=a by omega,show 48+(b-48)=b by omega,show 48+(c-48)=c by omega]⟩
 | a::b::c::e::r,hz,_,_=>exact absurd hz.2 (by simp only[yia];omega)
def ar (u:Str):Option Nat:=match yqe u zdh with
 | some (.flat (.int i))=>some i.toNat
 | _=>none
def rdV (ws:List Str)(u:Str)(k:Nat):Option (Wv×Nat) :=
 if u = "mark" then (ws[k]?).bind λn=>if isName n=true then some (.name n,k+1) else none
 else if u = "force" then (ws[k]?).bind λn=>if isNumber n=true then (ykj n).map λi=>(.num i.toNat,k+1) else none
 else some (.non,k)
def rd1 (ws:List Str)(k:Nat):Option (Str×Nat×Wv×Nat):=(ws[k]?).bind λu=>(ar u).bind λa=>(rdV ws u (k+1)).map λ(v,j)=>(u,a,v,j)
def rdL (ws:List Str):Nat->Nat->Nat->List (Str×Wv)->Option (List (Str×Wv)×Nat)
 | _,0,k,fl=>some (fl,k)
 | 0,_+1,_,_=>none
 | f+1,n+1,k,fl=>(rd1 ws k).bind λ(u,a,v,j)=>rdL ws f (n+a) j (fl++[(u,v)])
theorem zcw {u:Str}{d:ykn}:∀{D:List (Str×ykn)},yqe u D=some d->(u,d)∈D
 | [],h=>by cases h
 | (x,e)::D,h=>by
  have h':(if decide (u=x)=true then some e else yqe u D)=some d:=h
  by_cases c:u=x
  ·rw[if_pos (decide_eq_true c)] at h';cases h';rw[c];exact yqa
  ·rw[if_neg (by simpa using c)] at h';exact yla _ (zcw h')
theorem zohb {u:Str}{a:Nat}(h:ar u=some a):(u = "all" ∧ a=0)∨(u = "self" ∧ a=0)∨(u = "mine" ∧ a=0)∨(u = "mark" ∧ a=0)∨(u = "force" ∧ a=0)∨(u = "not" ∧ a=1)∨(u = "both" ∧ a=2)∨(u = "any" ∧ a=2):=by
 unfold ar at h;cases e:yqe u zdh with
 | none =>
  rw[e] at h;cases h
 | some d =>
  rw[e] at h;have m:=zcw e;simp only[zdh,yda,ycb,or_false,ymo] at m
  rcases m with⟨m1,m2⟩|⟨m1,m2⟩|⟨m1,m2⟩|⟨m1,m2⟩|⟨m1,m2⟩|⟨m1,m2⟩|⟨m1,m2⟩|⟨m1,m2⟩<;>subst m2<;>have h':=ynb h
  ·exact .inl ⟨m1,h'.symm⟩
  ·exact .inr (.inl ⟨m1,h'.symm⟩)
  ·exact .inr (.inr (.inl ⟨m1,h'.symm⟩))
  ·exact .inr (.inr (.inr (.inl ⟨m1,h'.symm⟩)))
  ·exact .inr (.inr (.inr (.inr (.inl ⟨m1,h'.symm⟩))))
  ·exact .inr (.inr (.inr (.inr (.inr (.inl ⟨m1,h'.symm⟩)))))
  ·exact .inr (.inr (.inr (.inr (.inr (.inr (.inl ⟨m1,h'.symm⟩))))))
  ·exact .inr (.inr (.inr (.inr (.inr (.inr (.inr ⟨m1,h'.symm⟩))))))
theorem zko {ws:List Str}{u:Str}{k:Nat}(h1:u ≠ "mark")(h2:u ≠ "force"):rdV ws u k=some (.non,k):=by
 unfold rdV;rw[if_neg h1,if_neg h2]
theorem drop_cons {ws:List Str}{k:Nat}{u:Str}(h:ws[k]?=some u):ws.drop k=u::ws.drop (k+1):=by
 obtain⟨hk,rfl⟩:=ylb.mp h;exact List.drop_eq_getElem_cons hk
theorem zlt {ws:List Str}{k j:Nat}{v:Wv}(h:rdV ws "mark" k=some (v,j)):∃n,v = .name n∧znd n∧j=k+1∧ws[k]?=some n:=by
 unfold rdV at h;rw[if_pos rfl] at h;cases e:ws[k]? with
 | none=>rw[e] at h;cases h
 | some n =>
  rw[e] at h;have h':(if isName n=true then some ((.name n:Wv),k+1) else none)=some (v,j):=h
  by_cases c:isName n=true
  ·rw[if_pos c] at h';cases h';exact⟨n,rfl,zyv c,rfl,rfl⟩
  ·rw[if_neg c] at h';cases h'
theorem zvh {ws:List Str}{k j:Nat}{v:Wv}(h:rdV ws "force" k=some (v,j)):∃i:Nat,v = .num i∧i<1000∧j=k+1∧ws[k]?=some (toString (i:Int):Str):=by
 unfold rdV at h;rw[if_neg (by decide +kernel),if_pos rfl] at h;cases e:ws[k]? with
 | none=>rw[e] at h;cases h
 | some n =>
  rw[e] at h;have h':(if isNumber n=true then (ykj n).map λi=>((.num i.toNat:Wv),k+1) else none)=some (v,j):=h
  by_cases c:isNumber n=true
  ·rw[if_pos c] at h';obtain⟨i,hi,rfl⟩:=zxf n c;rw[zmeb i hi] at h';have h2:=ynb h';injection h2 with h3 h4
   exact⟨i,h3.symm,hi,h4.symm,rfl⟩
  ·rw[if_neg c] at h';cases h'
theorem zsub {ws:List Str}{k j a:Nat}{u:Str}{v:Wv}(h:rd1 ws k=some (u,a,v,j)):ws[k]?=some u∧ar u=some a∧rdV ws u (k+1)=some (v,j):=by
 unfold rd1 at h;cases e:ws[k]? with
 | none=>rw[e] at h;cases h
 | some x =>
  rw[e] at h;have h':((ar x).bind λa=>(rdV ws x (k+1)).map λ(v,j)=>(x,a,v,j))=some (u,a,v,j):=h;cases e2:ar x with
  | none=>rw[e2] at h';cases h'
  | some b =>
   rw[e2] at h';have h2:((rdV ws x (k+1)).map λ(v,j)=>(x,b,v,j))=some (u,a,v,j):=h';cases e3:rdV ws x (k+1) with
   | none=>rw[e3] at h2;cases h2
   | some y =>
    rw[e3] at h2;obtain⟨v',j'⟩:=y;have h3:=ynb h2;cases h3;exact⟨rfl,e2,e3⟩
theorem zqub {ws:List Str}{k j a:Nat}{u:Str}{v:Wv}(h:rd1 ws k=some (u,a,v,j))(ps:List Wh)(hp:ps.length=a)(ok:∀p∈ps,p.ok) :
  ∃y:Wh,y.word=u∧y.val=v∧y.parts=ps∧y.ok∧ws.drop k=(u::v.words)++ws.drop j:=by
 obtain⟨h1,h2,h3⟩:=zsub h;have plain:u ≠ "mark"->u ≠ "force"->v = .non∧ws.drop k=(u::v.words)++ws.drop j:=λn1 n2=>by
  rw[zko n1 n2] at h3;have h4:=ynb h3;injection h4 with h5 h6
  subst h5 h6;exact⟨rfl,drop_cons h1⟩
 have nil:a=0->ps=[]:=λz=>ykf.mp (hp.trans z)
 rcases zohb h2 with⟨e,z⟩|⟨e,z⟩|⟨e,z⟩|⟨e,z⟩|⟨e,z⟩|⟨e,z⟩|⟨e,z⟩|⟨e,z⟩
 ·obtain⟨p1,p2⟩:=plain (by rw[e];decide +kernel) (by rw[e];decide +kernel);exact⟨.all,e.symm,p1.symm,(nil z).symm,True.intro,p2⟩
 ·obtain⟨p1,p2⟩:=plain (by rw[e];decide +kernel) (by rw[e];decide +kernel);exact⟨.self,e.symm,p1.symm,(nil z).symm,True.intro,p2⟩
 ·obtain⟨p1,p2⟩:=plain (by rw[e];decide +kernel) (by rw[e];decide +kernel);exact⟨.mine,e.symm,p1.symm,(nil z).symm,True.intro,p2⟩
 ·rw[e] at h3;obtain⟨n,rfl,ok1,rfl,h4⟩:=zlt h3;exact⟨.mark n,e.symm,rfl,(nil z).symm,ok1,by rw[drop_cons h1,drop_cons h4];rfl⟩
 ·rw[e] at h3;obtain⟨i,rfl,ok1,rfl,h4⟩:=zvh h3;exact⟨.force i,e.symm,rfl,(nil z).symm,ok1,by rw[drop_cons h1,drop_cons h4];rfl⟩
 ·obtain⟨p1,p2⟩:=plain (by rw[e];decide +kernel) (by rw[e];decide +kernel)
  match ps,hp.trans z,ok with
  | [x],_,ok=>exact⟨.not x,e.symm,p1.symm,rfl,ok x (by simp),p2⟩
 ·obtain⟨p1,p2⟩:=plain (by rw[e];decide +kernel) (by rw[e];decide +kernel)
  match ps,hp.trans z,ok with
  | [x,y],_,ok=>exact⟨.both x y,e.symm,p1.symm,rfl,⟨ok x (by simp),ok y (by simp)⟩,p2⟩
 ·obtain⟨p1,p2⟩:=plain (by rw[e];decide +kernel) (by rw[e];decide +kernel)
  match ps,hp.trans z,ok with
  | [x,y],_,ok=>exact⟨.any x y,e.symm,p1.symm,rfl,⟨ok x (by simp),ok y (by simp)⟩,p2⟩
theorem znub {ws:List Str}:∀{f n k:Nat} {fl fl':List (Str×Wv)} {j:Nat},rdL ws f n k fl=some (fl',j)->∃ys:List Wh,ys.length=n∧(∀y∈ys,y.ok)∧fl'=fl++zgm ys∧zdl ys≤f∧ws.drop k=zcl ys++ws.drop j:=by
 intro f
 induction f with
 | zero =>
  intro n k fl fl' j h;cases n with
  | zero =>
   have h2:=ynb (show some (fl,k)=some (fl',j) by rw[← h];simp[rdL]);cases h2;exact⟨[],rfl,by simp,by simp[zgm],by simp[zdl],by simp[zcl]⟩
  | succ n=>simp[rdL] at h
 | succ f ih =>
  intro n k fl fl' j h;cases n with
  | zero =>
   have h2:=ynb (show some (fl,k)=some (fl',j) by rw[← h];simp[rdL]);cases h2;exact⟨[],rfl,by simp,by simp[zgm],by simp[zdl],by simp[zcl]⟩
  | succ n =>
   have h2:((rd1 ws k).bind λ(u,a,v,j)=>rdL ws f (n+a) j (fl++[(u,v)]))=some (fl',j):=h;cases e:rd1 ws k with
   | none=>rw[e] at h2;cases h2
   | some x =>
    obtain⟨u,a,v,i⟩:=x;rw[e] at h2;obtain⟨ys,l1,o1,f1,s1,d1⟩:=ih (show rdL ws f (n+a) i (fl++[(u,v)])=some (fl',j) from h2);obtain⟨y,y1,y2,y3,y4,y5⟩:=zqub e (ys.take a) (by rw[ypb];omega) (λp hp=>o1 p (yzh hp));have ep:y.parts++ys.drop a=ys:=(by rw[y3];exact yth a ys);refine⟨y::ys.drop a,by rw[yia,ylc];omega,?_,?_,?_,?_⟩
    ·intro p hp
     rcases yda.mp hp with z|z
     ·rw[z];exact y4
     ·exact o1 p (ykg z)
    ·rw[zon,ep,y1,y2,f1,ydd];rfl
    ·rw[zfr,ep];omega
    ·rw[zgo,ep,y1,y2,y5,d1];simp
theorem zbeb {ws:List Str}{k j:Nat}{fl:List (Str×Wv)}(h:rdL ws 9 1 k []=some (fl,j)):∃y:Wh,y.ok∧y.size≤9∧fl=y.flat∧ws.drop k=y.words++ws.drop j:=by
 obtain⟨ys,l1,o1,f1,s1,d1⟩:=znub h
 match ys,l1,o1,f1,s1,d1 with
 | [y],_,o1,f1,s1,d1 =>
  rw[yzf,zbw] at f1;rw[zcr] at d1;exact⟨y,o1 y (by simp),(by simpa [zdl] using s1),f1,d1⟩
theorem ztxb (y:Wh):ar y.word=some y.parts.length:=by
 unfold ar;rw[zxgb];rfl
theorem zad {i:Nat}(h:i<1000){ws:List Str}{k:Nat}(e:ws[k]?=some (toString (i:Int):Str)):rdV ws "force" k=some (.num i,k+1):=by
 unfold rdV;rw[if_neg (by decide +kernel),if_pos rfl,e];show (if isNumber (toString (i:Int):Str)=true then _ else _)=_
 rw[if_pos (zdcb i h),zmeb i h];rfl
theorem zrub {ws rest:List Str}{k:Nat}{y:Wh}(ok:y.ok)(h:ws.drop k=y.word::(y.val.words++rest)):rd1 ws k=some (y.word,y.parts.length,y.val,k+1+y.val.words.length)∧ws.drop (k+1+y.val.words.length)=rest:=by
 obtain⟨u1,u2⟩:=zdc h;have dr:ws.drop (k+1+y.val.words.length)=rest:=by rw[← yrf,u2,ynj]
 refine⟨?_,dr⟩;have z:rdV ws y.word (k+1)=some (y.val,k+1+y.val.words.length):=by
  cases y with
  | mark n =>
   have e:=(zdc (rest:=rest) u2).1;show rdV ws "mark" (k+1)=_
   unfold rdV;rw[if_pos rfl,e];show (if isName n=true then _ else _)=_
   rw[if_pos (zoo ok)];rfl
  | force i=>exact zad ok (zdc (rest:=rest) u2).1
  | not a=>exact zko (show ("not":Str) ≠ "mark" by decide +kernel) (show ("not":Str) ≠ "force" by decide +kernel)
  | both a b=>exact zko (show ("both":Str) ≠ "mark" by decide +kernel) (show ("both":Str) ≠ "force" by decide +kernel)
  | any a b=>exact zko (show ("any":Str) ≠ "mark" by decide +kernel) (show ("any":Str) ≠ "force" by decide +kernel)
  | _=>exact zko (by decide +kernel) (by decide +kernel)
 unfold rd1;rw[u1];show (ar y.word).bind _=_
 rw[ztxb];show (rdV ws y.word (k+1)).map _=_
 rw[z];rfl
theorem zoub {ws:List Str}:∀{f k:Nat} {fl:List (Str×Wv)} {ys:List Wh} {rest:List Str},(∀y∈ys,y.ok)->zdl ys≤f->ws.drop k=zcl ys++rest->rdL ws f ys.length k fl=some (fl++zgm ys,k+(zcl ys).length):=by
 intro f
 induction f with
 | zero =>
  intro k fl ys rest ok hs hd;cases ys with
  | nil=>simp[rdL,zgm,zcl]
  | cons y t=>exact absurd (zcbb (ws:=y::t) (by simp)) (by omega)
 | succ f ih =>
  intro k fl ys rest ok hs hd;cases ys with
  | nil=>simp[rdL,zgm,zcl]
  | cons y t =>
   rw[zgo] at hd;obtain⟨z1,z2⟩:=zrub (rest:=zcl (y.parts++t)++rest) (ok y (by simp)) (by rw[hd];simp);show ((rd1 ws k).bind λ(u,a,v,j)=>rdL ws f (t.length+a) j (fl++[(u,v)]))=_
   rw[z1];show rdL ws f (t.length+y.parts.length) (k+1+y.val.words.length) (fl++[(y.word,y.val)])=_
   have zz:=ih (k:=k+1+y.val.words.length) (fl:=fl++[(y.word,y.val)]) (ys:=y.parts++t) (rest:=rest) (λp hp=>by
    rcases yna.mp hp with e|e
    ·exact Wh.zkz (ok y (by simp)) p e
    ·exact ok p (yla _ e)) (by rw[zfr] at hs;omega) z2
   rw[yha] at zz;rw[Nat.add_comm t.length,zz,zon,zgo];simp;omega
theorem zzmb {ws rest:List Str}{k:Nat}{y:Wh}(ok:y.ok)(hs:y.size≤9)(hd:ws.drop k=y.words++rest):rdL ws 9 1 k []=some (y.flat,k+y.words.length):=by
 have z:=zoub (ws:=ws) (f:=9) (k:=k) (fl:=[]) (ys:=[y]) (rest:=rest) (λp hp=>by rw[yca.mp hp];exact ok) (by simpa [zdl] using hs) (by rw[zcr];exact hd);rw[zbw,zcr] at z;exact z
theorem zbv {ws:List Str}{k:Nat}{n:Str}(e:ws[k]?=some n)(h:isName n=true):rdV ws "mark" k=some (.name n,k+1):=by
 unfold rdV;rw[if_pos rfl,e];show (if isName n=true then _ else _)=_
 rw[if_pos h]
theorem zqm {ws:List Str}{k:Nat}(h:∀u,ws[k]?=some u->isName u=false):rdV ws "mark" k=none:=by
 unfold rdV;rw[if_pos rfl];cases e:ws[k]? with
 | none=>rfl
 | some n =>
  show (if isName n=true then _ else _)=_
  rw[if_neg (by rw[h n e];simp)]
theorem zdj {ws:List Str}{k:Nat}(h:∀u,ws[k]?=some u->isNumber u=false):rdV ws "force" k=none:=by
 unfold rdV;rw[if_neg (by decide +kernel),if_pos rfl];cases e:ws[k]? with
 | none=>rfl
 | some n =>
  show (if isNumber n=true then _ else _)=_
  rw[if_neg (by rw[h n e];simp)]
theorem zod {ws:List Str}{k:Nat}{u:Str}(h:ws[k]?=some u):k+1≤ws.length:=(ylb.mp h).1
def zfxb (C N:Addr):Sp:=λvs H Q E=>Ex4 λp (ws:List Str) (k:Nat) (u:Str)=>vs=[.ref p,.str u]∧WAt C H p ws k∧k≤ws.length∧(∀u∈ws,WdOk u)∧(∀v j H',rdV ws u k=some (v,j)->j≤ws.length->WAt C H' p ws j->But p H H'->Q (valV v) H')∧(rdV ws u k=none->∀H',But p H H'->E (.ref N) none H')
theorem zgz (T:Tx K mg):FnOk P w K mg base (CX1 P w) 4 T.zcf.f T.zcf.d zbn (zfxb T.zgc T.e_NoCard.c):=by
 refine T.zcf.okx zvy ?_;rintro f c A o s H vs Q E hr ⟨p,ws,k,u,rfl,W,hk,ok,q,qe⟩ X;refine⟨_,  (zca (zqb (zma zed (pv 1) zea (zxa _))
   (zia (zpa (zkc (pv 0) T.zjb T.zvb.M (zaf T) hr (ztf T) .nil zxd)))
   zra)
  (zca (zqb (zma zed (pv 1) zea (zxa _))
   (zia (zpa (zkc (pv 0) T.zjb T.zeb.M (zcc T zxf) hr (zic T) .nil zxd)))
   zra)
  (zia (zpa zcy)))),?_⟩
 obtain⟨dx,l,h1,h2⟩:=id W;refine⟨_,rfl,rfl,_,rfl,?_⟩;refine ite2 (λc=>?_) (λc=>?_)
 ·have c':=of_decide_eq_true c;injection c' with c'
  subst c';exact⟨_,rfl,p,dx,_,rfl,h1,zzd _ _ (by decide +kernel) (by decide +kernel),p,ws,k,rfl,W,hk,ok,λn H1 hn nm W1 B1=>q _ _ H1 (zbv hn nm) (zod hn) W1 B1,λz H1 B1=>qe (zqm z) H1 B1⟩
 have n1:u ≠ "mark":=λz=>c (by rw[z];exact decide_eq_true rfl);refine⟨_,rfl,rfl,_,rfl,?_⟩;refine ite2 (λc=>?_) (λc=>?_)
 ·have c':=of_decide_eq_true c;injection c' with c'
  subst c';exact⟨_,rfl,p,dx,_,rfl,h1,zzd _ _ (by decide +kernel) (by decide +kernel),p,ws,k,rfl,W,hk,ok,λi H1 hn hi W1 B1=>q (.num i) _ H1 (zad hi hn) (zod hn) W1 B1,λz H1 B1=>qe (zdj z) H1 B1⟩
 have n2:u ≠ "force":=λz=>c (by rw[z];exact decide_eq_true rfl);exact q .non k H (zko n1 n2) hk W (But.refl p H)
theorem znwb {u:Str}(h:yio u zdh=true):∃a:Nat,ar u=some a∧yqe u zdh=some (.flat (.int (a:Int))):=by
 rw[← ywm] at h;unfold ar;cases e:yqe u zdh with
 | none=>rw[e] at h;cases h
 | some d =>
  have m:=zcw e;simp only[zdh,yda,ycb,or_false,ymo] at m
  rcases m with⟨m1,m2⟩|⟨m1,m2⟩|⟨m1,m2⟩|⟨m1,m2⟩|⟨m1,m2⟩|⟨m1,m2⟩|⟨m1,m2⟩|⟨m1,m2⟩<;>subst m2<;>exact⟨_,rfl,rfl⟩
theorem zmwb {u:Str}(h:yio u zdh=false):ar u=none:=by
 rw[← ywm] at h;unfold ar;cases e:yqe u zdh with
 | none=>rfl
 | some d=>rw[e] at h;cases h
theorem zpub {ws:List Str}{f n k:Nat}{fl:List (Str×Wv)}:rdL ws (f+1) (n+1) k fl=(rd1 ws k).bind λ(u,a,v,j)=>rdL ws f (n+a) j (fl++[(u,v)]):=rfl
theorem zcq {ws:List Str}{f n k:Nat}{fl:List (Str×Wv)}(h:rd1 ws k=none):rdL ws (f+1) (n+1) k fl=none:=by
 rw[zpub,h];rfl
theorem zeeb {ws:List Str}{k:Nat}(h:ws[k]?=none):rd1 ws k=none:=by
 unfold rd1;rw[h];rfl
theorem zrgb {ws:List Str}{k:Nat}{u:Str}(h:ws[k]?=some u)(z:ar u=none):rd1 ws k=none:=by
 unfold rd1;rw[h];show (ar u).bind _=_
 rw[z];rfl
theorem zlo {ws:List Str}{k a:Nat}{u:Str}(h:ws[k]?=some u)(z:ar u=some a):rd1 ws k=(rdV ws u (k+1)).map λ(v,j)=>(u,a,v,j):=by
 unfold rd1;rw[h];show (ar u).bind _=_
 rw[z];rfl
theorem zymb {ws:List Str}{f k:Nat}{fl:List (Str×Wv)}:rdL ws f 0 k fl=some (fl,k):=by
 cases f<;>rfl
def zexb (C D N:Addr):Sp:=λvs H Q E=>Ex3 λp (ws:List Str) (k:Nat)=>vs=[.ref p]∧WAt C H p ws k∧k≤ws.length∧(∀u∈ws,WdOk u)∧(∀(y:Wh) (j:Nat) v H',rdL ws 9 1 k []=some (y.flat,j)->y.ok->y.size≤9->ws.drop k=y.words++ws.drop j->j≤ws.length->WAt C H' p ws j->But p H H'->IsW D H' v y->Q v H')∧(rdL ws 9 1 k []=none->∀H',But p H H'->E (.ref N) none H')
theorem ztbb (T:Tx K mg)(kb:K.In base):FnOk P w K mg base (CX1 P w) 5 T.zzb.f T.zzb.d zyl (zexb T.zgc T.znc T.e_NoCard.c):=by
 refine T.zzb.okx zrh ?_;rintro f c A o s H vs Q E hr ⟨p,ws,k,rfl,W,hk,ok,q,qe⟩ X;refine⟨_,  (zca (zta (i:=1) zrh.nd rfl (.inl rfl) (zob zba))
  (zca (zta (i:=2) zrh.nd rfl (.inl rfl) zga)
  (zca (zsgb PassesOwn.leaving (zma zdx (pv 2) zga (zxa _))
   (zca (zqb (zma zed (zza zya rfl T.zme yza (zaa (pv 1) zba)) (zle (v:=.int 9) rfl T.zlk ⟨_,rfl⟩) (zxa _))
    (zia (zxg rfl rfl T.e_NoCard.m T.e_NoCard.q zsm zea))
    zra)
   (zca (zta (i:=3) zrh.nd rfl (.inl rfl) (zkc (pv 0) T.zjb T.zwc.M (zzg T).up hr (zgi T) .nil zxd))
   (zca (zqb (zma (zpbb (zau T kb)) (pv 3) (zle (v:=.ref T.zuo) rfl T.zqr rfl) rfl)
    (zia (zxg rfl rfl T.e_NoCard.m T.e_NoCard.q zsm (zzhb (pv 3) zea)))
    zra)
   (zca (zsk (zog yyd yaf ybf zjq (pv 1) (zaa (zqc (zaa (pv 3) (zaa (zka (zgz T) hr rfl T.zcf.m T.zcf.F.kp (zfdb T) .nil zxd (zaa (pv 0) (zaa (pv 3) zba))) zba))) zba)))
   (zia (zvub (i:=2) zrh.nd rfl (.inl rfl) (zcb zjv (zlb (zipb (zau T kb)) (zle (v:=.ref T.zuo) rfl T.zqr rfl) (pv 3) (λ_ _=>rfl)) zga) zzvb)))))))
  (zia (zpa (zka (zmnb T kb) hr rfl T.zfo.m T.zfo.F.kp (zzsb T) .nil zib (zaa (pv 1) zba))))))),?_⟩
 refine⟨sz0,λl hl=>?_⟩;refine⟨λm σ H'=>Ex5 λ(j k' n:Nat) (fl:List (Str×Wv)) o=>m=9-j∧σ=[some (.ref p),some (.ref l),some (.int (n:Nat)),o]∧j≤9∧fl.length=j∧But p H H'∧WAt T.zgc H' p ws k'∧k'≤ws.length∧rdL ws 9 1 k []=rdL ws (9-j) n k' fl∧TkAt H' l fl,⟨_,0,k,1,[],none,rfl,rfl,ydc _,rfl,But.laid hl,W.at (zja hl _),hk,rfl,[],zda,rfl,λi a x e=>by simp at e⟩,?_⟩;rintro m σ H' ⟨j,k',n,fl,o,rfl,rfl,hj,hfl,B,W',hk',hr',TA⟩;refine⟨_,rfl,_,_,rfl,rfl,_,rfl,?_⟩;obtain⟨as,t1,t2,t3⟩:=id TA;refine ite2 (λc=>?_) (λc=>?_)
 ·have c':(0:Int)<((n:Nat):Int):=of_decide_eq_true c;obtain⟨n',rfl⟩:∃n',n=n'+1:=⟨n-1,by omega⟩;refine⟨_,fun σ' H' n=>n,?_⟩;refine⟨_,rfl,l,_,rfl,.inl (SqL.of t1),rfl,_,rfl,?_⟩;refine ite2 (λc1=>?_) (λc1=>?_)
  ·have c1':=of_decide_eq_true c1;injection c1' with c1'
   rw[yaa] at c1';have e9:j=9:=(by omega);subst e9;exact qe (by rw[hr'];rfl) H' B
  have hj9:j<9:=by
   rcases ytn j 9 with z|z
   ·exact z
   ·exfalso;apply c1;rw[yaa,t2,hfl,show j=9 by omega];rfl
  have ef:9-j=(9-(j+1))+1:=by omega
  obtain⟨dx,wl,w1,w2⟩:=id W';refine⟨_,rfl,p,dx,_,rfl,w1,zzd _ _ (by decide +kernel) (by decide +kernel),p,ws,k',rfl,W',hk',λu H1 u1 W1 B1=>?_,λz=>qe (by rw[hr',ef];exact zcq (zeeb z)) H' B⟩;have kws:k'<ws.length:=(ylb.mp u1).1;have hw:=ok u (yva u1);refine⟨_,rfl,_,rfl,rfl,_,rfl,?_⟩;cases ek:yio u zdh with
  | false =>
   refine iteT ?_;exact⟨_,rfl,u,rfl,hw.rp,_,rfl,(by decide +kernel),qe (by rw[hr',ef];exact zcq (zrgb u1 (zmwb ek))) H1 (B.trans B1)⟩
  | true =>
  refine iteF ?_;obtain⟨a,ea,ed⟩:=znwb ek;have TA1:=TA.but B1 w1;obtain⟨dx1,wl1,w11,w12⟩:=id W1;have t11:=B1 _ _ (zfm t1 w1 (by intro z;cases z)) t1;refine⟨_,rfl,.inl ⟨rfl,_,SqL.of t11⟩,_,rfl,_,rfl,_,rfl,p,ws,k'+1,u,rfl,W1,kws,ok,λv j' H2 hv hj' W2 B2=>?_,λz H2 B2=>qe (by rw[hr',ef];exact zcq (by rw[zlo u1 ea,z];rfl)) H2 ((B.trans B1).trans B2)⟩;have TA2:=TA1.but B2 w11;have t12:=B2 _ _ (zfm t11 w11 (by intro z;cases z)) t11;refine⟨sz2,λb hb=>?_⟩;have S3:=zja hb (.tup [.str u,valV v]);have TA3:=TA2.same S3;have t13:=S3 _ _ t12;have e3:upd H2 b (.tup [.str u,valV v]) b=some (.tup [.str u,valV v]):=zda;generalize upd H2 b (.tup [.str u,valV v])=H3 at *;have W3:=W2.at S3;obtain⟨dx3,wl3,w31,w32⟩:=id W3;have npl:p≠l:=zfm w31 t13 (by intro z;cases z);have nwl:wl3≠l:=by
   intro z;rw[z,t13] at w32;injection w32 with w32
   injection w32 with w32
   cases ws with
   | nil=>exact absurd kws (by simp)
   | cons u r =>
    cases as with
    | nil=>simp at w32
    | cons b r'=>simp at w32
  refine⟨l,_,_,rfl,rfl,t13,?_,?_⟩
  ·rw[yaa];exact zwp (by omega)
  have TA4:=TA3.snoc (x:=(u,v)) e3 t13;have W4:WAt T.zgc (upd H3 l (.lst (as.map V.ref++[.ref b]))) p ws j':=⟨dx3,wl3,by rw[zfb npl];exact w31,by rw[zfb nwl];exact w32⟩;have B4:But p H (upd H3 l (.lst (as.map V.ref++[.ref b]))):=λb o n e=>by
   rw[zfb (zva e hl)];exact S3 _ _ (B2 _ _ n (B1 _ _ n (B _ _ n e)))
  have em:(((n'+1:Nat):Nat):Int)+(((a:Nat):Int)-1)=(((n'+a:Nat):Nat):Int):=by omega
  refine⟨_,rfl,_,rfl,_,_,rfl,rfl,ed,_,_,rfl,rfl,_,_,rfl,rfl,?_⟩;refine⟨9-(j+1),by omega,j+1,j',n'+a,fl++[(u,v)],_,rfl,(by rw[← em];rfl),hj9,(by rw[yha,hfl];rfl),B4,W4,hj',?_,TA4⟩;rw[hr',ef,zpub,zlo u1 ea,hv];rfl
 ·have c':¬ (0:Int)<((n:Nat):Int):=of_decide_eq_false (ygc.mpr c);have en:n=0:=by omega
  subst en;rw[zymb] at hr';obtain⟨y,y1,y2,y3,y4⟩:=zbeb hr';subst y3;refine⟨_,rfl,l,y,rfl,TA,y2,λv H2 S2 IW=>?_⟩;exact q y k' v H2 hr' y1 y2 y4 hk' (W'.at S2) (B.of_same S2) IW
theorem zpr {u:Str}:∀{ss:List Str},u∈ss->inV (.str u) (ss.map V.str)=true
 | x::ss,h=>by
  show (eqV (.str x) (.str u)||inV (.str u) (ss.map V.str))=true
  rcases yda.mp h with rfl|h
  ·have e:eqV (.str u) (.str u)=true:=by show (u==u)=true;simp
   rw[e];rfl
  ·rw[zpr h,Bool.or_true]
theorem zaw:∀ss:List Str,(ss.map V.str).all zaab=true
 | []=>rfl
 | _::ss=>zaw ss
def Kn (K:yba)(H:Hp)(t:Addr)(ss:List Str):Prop:=TupK K t ss∨H t=some (.tup (ss.map V.str))
theorem Kn.sq {K:yba}{H H':Hp}{t p C dx l:Addr}{k:Int}{ss:List Str}(h:Kn K H t ss)(hz:ss.length≤1000)(hp:H p=some (.ins C dx (wfs l k)))(b:But p H H'):SqT K H' t (ss.map V.str):=by
 rcases h with h|h
 ·exact h.sq hz H'
 ·exact SqT.of (b _ _ (zfm h hp (by intro z;cases z)) h)
theorem ztq {ws xs ys:List Str}{k:Nat}(h:ws.drop k=xs++ys):ws.drop (k+xs.length)=ys:=by
 rw[← yrf,h,ynj]
def amtV:Wv->V
 | .non=>.int 0
 | .name n=>.str n
 | .num i=>.int i
def HvAt (D:Addr)(H:Hp)(x:V):Hv->Prop
 | .v y=>x=valV y
 | .w y=>IsW D H x y
def zbx (D:Addr)(H:Hp)(v:V)(d:Deed):Prop:=Ex2 λa x=>v = .ref a∧H a=some (.tup [.str d.each,.str d.kind,amtV d.amt,x])∧IsW D H x d.whom
def zpl (D:Addr)(H:Hp)(v:V):Rule->Prop
 | .hold w y z=>Ex3 λa x u=>v = .ref a∧H a=some (.tup [.str "hold",.str w,x,u])∧HvAt D H x y∧IsW D H u z
 | .wen k y d=>Ex3 λa x u=>v = .ref a∧H a=some (.tup [.str "when",.str k,x,u])∧IsW D H x y∧zbx D H u d
 | .instead k y w z=>Ex2 λa x=>v = .ref a∧H a=some (.tup [.str "instead",.str k,x,.str w,valV z])∧IsW D H x y
 | .may c d=>Ex2 λa u=>v = .ref a∧H a=some (.tup [.str "may",.int c,u])∧zbx D H u d
theorem HvAt.same {D:Addr}{H H':Hp}(s:Same H H'){x:V}:∀{y:Hv},HvAt D H x y->HvAt D H' x y
 | .v _,h=>h
 | .w _,h=>IsW.same s h
theorem HvAt.but {D C p dy l:Addr}{k:Int}{H H':Hp}(b:But p H H')(hp:H p=some (.ins C dy (wfs l k))){x:V}:∀{y:Hv},HvAt D H x y->HvAt D H' x y
 | .v _,h=>h
 | .w _,h=>IsW.but b hp h
theorem zbx.same {D:Addr}{H H':Hp}(s:Same H H'){v:V}{d:Deed}(h:zbx D H v d):zbx D H' v d:=by
 obtain⟨a,x,e,h1,h2⟩:=h;exact⟨a,x,e,s _ _ h1,h2.same s⟩
theorem zpl.same {D:Addr}{H H':Hp}(s:Same H H'){v:V}:∀{r:Rule},zpl D H v r->zpl D H' v r
 | .hold w y z,⟨a,x,u,e,h,p,q⟩=>⟨a,x,u,e,s _ _ h,p.same s,q.same s⟩
 | .wen k y d,⟨a,x,u,e,h,p,q⟩=>⟨a,x,u,e,s _ _ h,p.same s,q.same s⟩
 | .instead k y w z,⟨a,x,e,h,p⟩=>⟨a,x,e,s _ _ h,p.same s⟩
 | .may c d,⟨a,u,e,h,p⟩=>⟨a,u,e,s _ _ h,p.same s⟩
theorem zxib {k:Str}(h:k∈zqa):yqe k zggb=some (.tup ((turns k).map PyData.str)):=by
 simp only[zqa,yda,ycb,or_false] at h
 rcases h with rfl|rfl|rfl|rfl|rfl|rfl|rfl<;>rfl
theorem zwib (k:Str):(turns k).length≤1000:=by
 unfold turns
 repeat' split
 all_goals decide
def spRd {α:Type}(C N:Addr)(R:List Str->Nat->Option (α×Nat))(Rel:Hp->V->α->Prop)(xs:List V):Sp:=λvs H Q E=>Ex3 λp (ws:List Str) (k:Nat)=>vs = .ref p::xs∧WAt C H p ws k∧k≤ws.length∧(∀u∈ws,WdOk u)∧(∀x j v H',R ws k=some (x,j)->j≤ws.length->WAt C H' p ws j->But p H H'->Rel H' v x->Q v H')∧(R ws k=none->∀H',But p H H'->E (.ref N) none H')
theorem zbc {u:Str}{ss:List Str}:inV (.str u) (ss.map V.str)=true↔u∈ss:=by
 refine⟨λh=>?_,zpr⟩;unfold inV at h;obtain⟨y,hy,e⟩:=List.any_eq_true.mp h;obtain⟨z,hz,rfl⟩:=ykb.mp hy;have e':z=u:=by simpa [eqV] using e
 rw[← e'];exact hz
def zac (ss:List Str)(ws:List Str)(k:Nat):Option (Str×Nat):=(ws[k]?).bind λu=>if u∈ss then some (u,k+1) else none
def zfub (K:yba)(C N:Addr):Sp:=λvs H Q E=>Ex5 λp t (ws:List Str) (k:Nat) (ss:List Str)=>vs=[.ref p,.ref t]∧WAt C H p ws k∧k≤ws.length∧(∀u∈ws,WdOk u)∧ss.length≤1000∧Kn K H t ss∧(∀u H',ws[k]?=some u->u∈ss->zac ss ws k=some (u,k+1)->k+1≤ws.length->WAt C H' p ws (k+1)->But p H H'->Q (.str u) H')∧(zac ss ws k=none->∀H',But p H H'->E (.ref N) none H')
theorem zgb (T:Tx K mg):FnOk P w K mg base (CX1 P w) 3 T.zwa.f T.zwa.d zrg (zfub K T.zgc T.e_NoCard.c):=by
 refine T.zwa.okx zsi ?_;rintro f c A o s H vs Q E hr ⟨p,t,ws,k,ss,rfl,W,hk,ok,hz,hs,q,qe⟩ X;refine⟨_,  (zca (zta (i:=2) zsi.nd rfl (.inl rfl) (zkc (pv 0) T.zjb T.zwc.M (zzg T) hr (zgi T) .nil zxd))
  (zca (zqb (zma zck (pv 2) (pv 1) rfl)
   (zia (zxg rfl rfl T.e_NoCard.m T.e_NoCard.q zsm (zzhb (pv 2) zea)))
   zra)
  (zia (zpa (pv 2))))),?_⟩
 obtain⟨dx,l,h1,h2⟩:=id W;refine⟨_,rfl,p,dx,_,rfl,h1,zzd _ _ (by decide +kernel) (by decide +kernel),p,ws,k,rfl,W,hk,λu H1 hu W1 B1=>?_,λz=>qe (by unfold zac;rw[z];rfl) _ (But.refl p H)⟩;have hw:=ok u (yva hu);refine⟨_,rfl,_,rfl,t,_,rfl,.inr (hs.sq hz h1 B1),rfl,zaw ss,_,rfl,?_⟩;refine ite2 (λc=>?_) (λc=>?_)
 ·have n:u∉ss:=λz=>by
   have e:(if true=true then !inV (.str u) (ss.map V.str) else inV (.str u) (ss.map V.str))=false:=(by rw[zpr z];rfl);exact yab (e.symm.trans c)
  exact⟨_,rfl,u,rfl,hw.rp,_,rfl,(by decide +kernel),qe (by unfold zac;rw[hu];exact if_neg n) H1 B1⟩
 ·have m:u∈ss:=by
   rcases yef (u∈ss) with z|z
   ·exact z
   ·exfalso;apply c;have e:inV (.str u) (ss.map V.str)=false:=ygc.mpr λy=>z (zbc.mp y);show (!inV (.str u) (ss.map V.str))=true
    rw[e];rfl
  exact⟨_,rfl,q u H1 hu m (by unfold zac;rw[hu];exact if_pos m) (zod hu) W1 B1⟩
def zzj (ws:List Str)(k:Nat):Option (Wv×Nat):=rdV ws "mark" k
def zlf (ws:List Str)(k:Nat):Option (Wv×Nat):=rdV ws "force" k
def zwh (u:Str)(ws:List Str)(k:Nat):Option (Wv×Nat):=if u = "leave" then some (.non,k) else if u∈(["gain","lack"]:List Str) then zzj ws k else zlf ws k
def zkf (u:Str)(ws:List Str)(k:Nat):Option (Wv×Nat):=if u∈(["less","more"]:List Str) then zlf ws k else if u = "as" then (zac zje ws k).map λx=>(.name x.1,x.2) else some (.non,k)
def rdW (ws:List Str)(k:Nat):Option (Wh×Nat):=(rdL ws 9 1 k []).bind λx=>(znl x.1).head?.map λy=>(y,x.2)
theorem zujb {ws:List Str}{k j:Nat}{y:Wh}(h:rdL ws 9 1 k []=some (y.flat,j)):rdW ws k=some (y,j):=by
 unfold rdW;rw[h];have z:=zoy y [];rw[yrb] at z;show (znl y.flat).head?.map _=_
 rw[z];rfl
theorem zvjb {ws:List Str}{k:Nat}(h:rdL ws 9 1 k []=none):rdW ws k=none:=by
 unfold rdW;rw[h];rfl
theorem zex (T:Tx K mg)(u:Str):FnOk P w K mg base (CX1 P w) 4 T.zqe.f T.zqe.d zzl (spRd T.zgc T.e_NoCard.c (zwh u) (λ_ v x=>v=amtV x) [.str u]):=by
 refine T.zqe.okx zcx ?_;rintro f c A o s H vs Q E hr ⟨p,ws,k,rfl,W,hk,ok,q,qe⟩ X;refine⟨_,  (zca (zqb (zma zed (pv 1) zea (zxa _))
   (zia (zpa zga))
   zra)
  (zca (zqb (zma zzc (pv 1) (zqc (zaa zea (zaa zea zba))) rfl)
   (zia (zpa (zkc (pv 0) T.zjb T.zvb.M (zaf T) hr (ztf T) .nil zxd)))
   zra)
  (zia (zpa (zkc (pv 0) T.zjb T.zeb.M (zcc T zxf) hr (zic T) .nil zxd))))),?_⟩
 obtain⟨dx,l,h1,h2⟩:=id W;refine⟨_,rfl,rfl,_,rfl,?_⟩;refine ite2 (λc=>?_) (λc=>?_)
 ·have c':=of_decide_eq_true c;injection c' with c'
  exact q .non k _ H (by unfold zwh;rw[if_pos c']) hk W (But.refl p H) rfl
 have n1:u ≠ "leave":=λz=>c (by rw[z];exact decide_eq_true rfl);refine⟨_,rfl,sz2,λtp htp=>⟨tp,_,rfl,.inr (SqT.of zda),rfl,rfl,_,rfl,?_⟩⟩;have S1:=zja htp (.tup [.str "gain",.str "lack"]);have W1:=W.at S1;have B1:But p H (upd H tp (.tup [.str "gain",.str "lack"])):=But.same S1;obtain⟨dx1,l1,h11,h12⟩:=id W1;refine ite2 (λc=>?_) (λc=>?_)
 ·have m:=zbc (ss:=["gain","lack"]).mp c;exact⟨_,rfl,p,dx1,_,rfl,h11,zzd _ _ (by decide +kernel) (by decide +kernel),p,ws,k,rfl,W1,hk,ok,λn H2 hn nm W2 B2=>q (.name n) _ _ H2 (by unfold zwh;rw[if_neg n1,if_pos m];exact zbv hn nm) (zod hn) W2 (B1.trans B2) rfl,λz H2 B2=>qe (by unfold zwh;rw[if_neg n1,if_pos m];exact zqm z) H2 (B1.trans B2)⟩
 ·have m:u∉(["gain","lack"]:List Str):=λz=>c (zbc (ss:=["gain","lack"]).mpr z);exact⟨_,rfl,p,dx1,_,rfl,h11,zzd _ _ (by decide +kernel) (by decide +kernel),p,ws,k,rfl,W1,hk,ok,λi H2 hn hi W2 B2=>q (.num i) _ _ H2 (by unfold zwh;rw[if_neg n1,if_neg m];exact zad hi hn) (zod hn) W2 (B1.trans B2) rfl,λz H2 B2=>qe (by unfold zwh;rw[if_neg n1,if_neg m];exact zdj z) H2 (B1.trans B2)⟩
def zpb (u:Str)(ws:List Str)(k:Nat):Option (Hv×Nat):=if u∈(["gain","lack"]:List Str) then (zzj ws k).map λx=>(.v x.1,x.2) else if u∈(["be","more","less"]:List Str) then (zlf ws k).map λx=>(.v x.1,x.2) else if u = "per" then (rdW ws k).map λx=>(.w x.1,x.2) else some (.v .non,k)
def zpc (ws:List Str)(k:Nat):Option (Deed×Nat):=(zac zym ws k).bind λa=>(zac zqa ws a.2).bind λb=>(zwh b.1 ws b.2).bind λc=>(rdW ws c.2).map λd=>(⟨a.1,b.1,c.1,d.1⟩,d.2)
theorem FnOk.ex {P:ysb}{w:World}{K:yba}{mg:Str->Option Value}{base:Heap}{CX:CXT}{k:Nat}{f:Addr}{fd:ypd}{ps:List Str}{ι:Type}{sp:ι->Sp}(h:∀i,FnOk P w K mg base CX k f fd ps (sp i)):FnOk P w K mg base CX k f fd ps (λvs H Q E=>∃i,sp i vs H Q E) :=
 ⟨λvs H Q E ⟨i,z⟩=>(h i).len vs H Q E z,λA outer s H args us vs Q E hr he hb hv ⟨i,z⟩=>(h i).run A outer s H args us vs Q E hr he hb hv z⟩
theorem zyg (T:Tx K mg)(kb:K.In base):FnOk P w K mg base (CX1 P w) 5 T.zzb.f T.zzb.d zyl (spRd T.zgc T.e_NoCard.c rdW (IsW T.znc) []) :=
 (ztbb T kb).imp λvs H Q E ⟨p,ws,k,e,W,hk,ok,q,qe⟩=>⟨p,ws,k,e,W,hk,ok,λy j v H' hr _ _ _ hj W' B IW=>q y j v H' (zujb hr) hj W' B IW,λz=>qe (zvjb z)⟩
theorem zfq (T:Tx K mg)(u:Str):FnOk P w K mg base (CX1 P w) 4 T.zsc.f T.zsc.d zjh (spRd T.zgc T.e_NoCard.c (zkf u) (λ_ v x=>v=valV x) [.str u]):=by
 refine T.zsc.okx zxp ?_;rintro f c A o s H vs Q E hr ⟨p,ws,k,rfl,W,hk,ok,q,qe⟩ X;refine⟨_,  (zca (zqb (zma zzc (pv 1) (zqc (zaa zea (zaa zea zba))) rfl)
   (zia (zpa (zkc (pv 0) T.zjb T.zeb.M (zcc T zxf) hr (zic T) .nil zxd)))
   zra)
  (zca (zqb (zma zed (pv 1) zea (zxa _))
   (zia (zpa (zej (pv 0) T.zjb T.zwa.M (zgb T) hr (zkb T) .nil zxd (zaa (zle (v:=.ref T.zzf) rfl T.zqh rfl) zba))))
   zra)
  (zia (zpa zcy)))),?_⟩
 refine⟨_,rfl,sz2,λtp htp=>⟨tp,_,rfl,.inr (SqT.of zda),rfl,rfl,_,rfl,?_⟩⟩;have S1:=zja htp (.tup [.str "less",.str "more"]);have W1:=W.at S1;have B1:But p H (upd H tp (.tup [.str "less",.str "more"])):=But.same S1;obtain⟨dx1,l1,h11,h12⟩:=id W1;refine ite2 (λc=>?_) (λc=>?_)
 ·have m:=zbc (ss:=["less","more"]).mp c;exact⟨_,rfl,p,dx1,_,rfl,h11,zzd _ _ (by decide +kernel) (by decide +kernel),p,ws,k,rfl,W1,hk,ok,λi H2 hn hi W2 B2=>q (.num i) _ _ H2 (by unfold zkf;rw[if_pos m];exact zad hi hn) (zod hn) W2 (B1.trans B2) rfl,λz H2 B2=>qe (by unfold zkf;rw[if_pos m];exact zdj z) H2 (B1.trans B2)⟩
 have m:u∉(["less","more"]:List Str):=λz=>c (zbc (ss:=["less","more"]).mpr z);refine⟨_,rfl,rfl,_,rfl,?_⟩;refine ite2 (λc=>?_) (λc=>?_)
 ·have c':=of_decide_eq_true c;injection c' with c'
  exact⟨_,rfl,p,dx1,_,rfl,h11,zzd _ _ (by decide +kernel) (by decide +kernel),p,T.zzf,ws,k,zje,rfl,W1,hk,ok,by decide,.inl T.zph,λx H2 hx hm hr' hj W2 B2=>q (.name x) _ _ H2 (by unfold zkf;rw[if_neg m,if_pos c',hr'];rfl) hj W2 (B1.trans B2) rfl,λz H2 B2=>qe (by unfold zkf;rw[if_neg m,if_pos c',z];rfl) H2 (B1.trans B2)⟩
 ·have n2:u ≠ "as":=λz=>c (by rw[z];exact decide_eq_true rfl);exact q .non k _ _ (by unfold zkf;rw[if_neg m,if_neg n2]) hk W1 B1 rfl
theorem zsn (T:Tx K mg)(kb:K.In base)(u:Str):FnOk P w K mg base (CX1 P w) 6 T.zfc.f T.zfc.d zqg (spRd T.zgc T.e_NoCard.c (zpb u) (HvAt T.znc) [.str u]):=by
 refine T.zfc.okx zrn ?_;rintro f c A o s H vs Q E hr ⟨p,ws,k,rfl,W,hk,ok,q,qe⟩ X;refine⟨_,  (zca (zqb (zma zzc (pv 1) (zqc (zaa zea (zaa zea zba))) rfl)
   (zia (zpa (zkc (pv 0) T.zjb T.zvb.M (zaf T).up hr (ztf T) .nil zxd)))
   zra)
  (zca (zqb (zma zzc (pv 1) (zqc (zaa zea (zaa zea (zaa zea zba)))) rfl)
   (zia (zpa (zkc (pv 0) T.zjb T.zeb.M (zcc T zxf).up hr (zic T) .nil zxd)))
   zra)
  (zca (zqb (zma zed (pv 1) zea (zxa _))
   (zia (zpa (zka (zyg T kb) hr rfl T.zzb.m T.zzb.F.kp (znj T) .nil zxd (zaa (pv 0) zba))))
   zra)
  (zia (zpa zcy))))),?_⟩
 refine⟨_,rfl,sz2,λtp htp=>⟨tp,_,rfl,.inr (SqT.of zda),rfl,rfl,_,rfl,?_⟩⟩;have S1:=zja htp (.tup [.str "gain",.str "lack"]);have W1:=W.at S1;have B1:But p H (upd H tp (.tup [.str "gain",.str "lack"])):=But.same S1;obtain⟨dx1,l1,h11,h12⟩:=id W1;refine ite2 (λc=>?_) (λc=>?_)
 ·have m:=zbc (ss:=["gain","lack"]).mp c;exact⟨_,rfl,p,dx1,_,rfl,h11,zzd _ _ (by decide +kernel) (by decide +kernel),p,ws,k,rfl,W1,hk,ok,λn H2 hn nm W2 B2=>q (.v (.name n)) _ _ H2 (by unfold zpb;rw[if_pos m,show zzj ws k=_ from zbv hn nm];rfl) (zod hn) W2 (B1.trans B2) rfl,λz H2 B2=>qe (by unfold zpb;rw[if_pos m,show zzj ws k=_ from zqm z];rfl) H2 (B1.trans B2)⟩
 have m1:u∉(["gain","lack"]:List Str):=λz=>c (zbc (ss:=["gain","lack"]).mpr z);refine⟨_,rfl,sz3,λtq htq=>⟨tq,_,rfl,.inr (SqT.of zda),rfl,rfl,_,rfl,?_⟩⟩;have S2:=S1.trans (zja htq (.tup [.str "be",.str "more",.str "less"]));have W2:=W.at S2;have B2:=But.same (p:=p) S2;obtain⟨dx2,l2,h21,h22⟩:=id W2;refine ite2 (λc=>?_) (λc=>?_)
 ·have m:=zbc (ss:=["be","more","less"]).mp c;exact⟨_,rfl,p,dx2,_,rfl,h21,zzd _ _ (by decide +kernel) (by decide +kernel),p,ws,k,rfl,W2,hk,ok,λi H3 hn hi W3 B3=>q (.v (.num i)) _ _ H3 (by unfold zpb;rw[if_neg m1,if_pos m,show zlf ws k=_ from zad hi hn];rfl) (zod hn) W3 (B2.trans B3) rfl,λz H3 B3=>qe (by unfold zpb;rw[if_neg m1,if_pos m,show zlf ws k=_ from zdj z];rfl) H3 (B2.trans B3)⟩
 have m2:u∉(["be","more","less"]:List Str):=λz=>c (zbc (ss:=["be","more","less"]).mpr z);refine⟨_,rfl,rfl,_,rfl,?_⟩;refine ite2 (λc=>?_) (λc=>?_)
 ·have c':=of_decide_eq_true c;injection c' with c'
  exact⟨_,rfl,p,ws,k,rfl,W2,hk,ok,λy j v H3 hr' hj W3 B3 IW=>q (.w y) j v H3 (by unfold zpb;rw[if_neg m1,if_neg m2,if_pos c',hr'];rfl) hj W3 (B2.trans B3) IW,λz H3 B3=>qe (by unfold zpb;rw[if_neg m1,if_neg m2,if_pos c',z];rfl) H3 (B2.trans B3)⟩
 ·have n2:u ≠ "per":=λz=>c (by rw[z];exact decide_eq_true rfl);exact q (.v .non) k _ _ (by unfold zpb;rw[if_neg m1,if_neg m2,if_neg n2]) hk W2 B2 rfl
theorem zrs (T:Tx K mg)(kb:K.In base):FnOk P w K mg base (CX1 P w) 6 T.zpe.f T.zpe.d zxo (spRd T.zgc T.e_NoCard.c zpc (zbx T.znc) []):=by
 have zqab:=(FnOk.ex λu=>zex (P:=P) (w:=w) (base:=base) T u).mono (by decide:4≤5);refine T.zpe.okx zsh ?_;rintro f c A o s H vs Q E hr ⟨p,ws,k,rfl,W,hk,ok,q,qe⟩ X;refine⟨_,  (zca (zta (i:=1) zsh.nd rfl (.inl rfl) (zej (pv 0) T.zjb T.zwa.M (zgb T).up hr (zkb T) .nil zxd (zaa (zqc (zaa zea (zaa zea zba))) zba)))
  (zca (zta (i:=2) zsh.nd rfl (.inl rfl) (zej (pv 0) T.zjb T.zwa.M (zgb T).up hr (zkb T) .nil zxd (zaa (zle (v:=.ref T.zrf) rfl T.zfi rfl) zba)))
  (zca (zta (i:=3) zsh.nd rfl (.inl rfl) (zka zqab hr rfl T.zqe.m T.zqe.F.kp (zlab T) .nil zxd (zaa (pv 0) (zaa (pv 2) zba))))
  (zca (zta (i:=4) zsh.nd rfl (.inl rfl) (zka (zyg T kb) hr rfl T.zzb.m T.zzb.F.kp (znj T) .nil zxd (zaa (pv 0) zba)))
  (zia (zpa (zqc (zaa (pv 1) (zaa (pv 2) (zaa (pv 3) (zaa (pv 4) zba))))))))))),?_⟩
 obtain⟨dx,l,h1,h2⟩:=id W;refine⟨_,rfl,p,dx,_,rfl,h1,zzd _ _ (by decide +kernel) (by decide +kernel),sz2,λtp htp=>?_⟩;have S0:=zja htp (.tup [.str "each",.str "one"]);have W0:=W.at S0;have B0:=But.same (p:=p) S0;refine⟨p,tp,ws,k,zym,rfl,W0,hk,ok,by decide,.inr zda,λa H1 ha hma hra hja W1 B1=>?_,λz H1 B1=>qe (by unfold zpc;rw[z];rfl) H1 (B0.trans B1)⟩;obtain⟨dx1,l1,h11,h12⟩:=id W1;refine⟨_,rfl,p,dx1,_,rfl,h11,zzd _ _ (by decide +kernel) (by decide +kernel),p,T.zrf,ws,k+1,zqa,rfl,W1,hja,ok,by decide,.inl T.zei,λb H2 hb hmb hrb hjb W2 B2=>?_,λz H2 B2=>qe (by unfold zpc;rw[hra];show (zac zqa ws (k+1)).bind _=_;rw[z];rfl) H2 ((B0.trans B1).trans B2)⟩;refine⟨_,rfl,_,rfl,b,p,ws,k+1+1,rfl,W2,hjb,ok,λam j v H3 hr3 hj3 W3 B3 ev=>?_,λz H3 B3=>qe (by unfold zpc;rw[hra];show (zac zqa ws (k+1)).bind _=_;rw[hrb];show (zwh b ws (k+1+1)).bind _=_;rw[z];rfl) H3 (((B0.trans B1).trans B2).trans B3)⟩;subst ev;refine⟨_,rfl,p,ws,j,rfl,W3,hj3,ok,λy j4 v4 H4 hr4 hj4 W4 B4 IW=>?_,λz H4 B4=>qe (by unfold zpc;rw[hra];show (zac zqa ws (k+1)).bind _=_;rw[hrb];show (zwh b ws (k+1+1)).bind _=_;rw[hr3];show (rdW ws j).map _=_;rw[z];rfl) H4 ((((B0.trans B1).trans B2).trans B3).trans B4)⟩;refine⟨_,rfl,_,rfl,_,rfl,_,rfl,sz4,λt ht=>?_⟩;exact q ⟨a,b,am,y⟩ j4 _ _ (by unfold zpc;rw[hra];show (zac zqa ws (k+1)).bind _=_;rw[hrb];show (zwh b ws (k+1+1)).bind _=_;rw[hr3];show (rdW ws j).map _=_;rw[hr4];rfl) hj4 (W4.at (zja ht _)) (((((B0.trans B1).trans B2).trans B3).trans B4).of_same (zja ht _)) ⟨t,v4,rfl,zda,IW.same (zja ht _)⟩
def zke (ws:List Str)(k:Nat):Option (Rule×Nat):=(zac changes ws k).bind λa=>(zpb a.1 ws a.2).bind λb=>(rdW ws b.2).map λc=>(.hold a.1 b.1 c.1,c.2)
def zoe (ws:List Str)(k:Nat):Option (Rule×Nat):=(zac zxc ws k).bind λa=>(rdW ws a.2).bind λb=>(zac ["do"] ws b.2).bind λc=>(zpc ws c.2).map λd=>(.wen a.1 b.1 d.1,d.2)
def numOf:Wv->Nat
 | .num i=>i
 | _=>0
def zoi (ws:List Str)(k:Nat):Option (Rule×Nat):=(zlf ws k).bind λa=>(zac ["do"] ws a.2).bind λb=>(zpc ws b.2).map λc=>(.may (numOf a.1) c.1,c.2)
def zsb (ws:List Str)(k:Nat):Option (Rule×Nat):=(zac zqa ws k).bind λa=>(rdW ws a.2).bind λb=>(zac ["do"] ws b.2).bind λc=>(zac (turns a.1) ws c.2).bind λd=>(zkf d.1 ws d.2).map λe=>(.instead a.1 b.1 d.1 e.1,e.2)
theorem zvbb (T:Tx K mg)(kb:K.In base):FnOk P w K mg base (CX1 P w) 7 T.zcg.f T.zcg.d zwo (spRd T.zgc T.e_NoCard.c zke (zpl T.znc) []):=by
 have zpp:=FnOk.ex λu=>zsn (P:=P) (w:=w) (base:=base) T kb u;refine T.zcg.okx zuj ?_;rintro f c A o s H vs Q E hr ⟨p,ws,k,rfl,W,hk,ok,q,qe⟩ X;refine⟨_,  (zca (zta (i:=1) zuj.nd rfl (.inl rfl) (zej (pv 0) T.zjb T.zwa.M (zgb T).up hr (zkb T) .nil zxd (zaa (zle (v:=.ref T.zan) rfl T.zsq rfl) zba)))
  (zca (zta (i:=2) zuj.nd rfl (.inl rfl) (zka zpp hr rfl T.zfc.m T.zfc.F.kp (zto T) .nil zxd (zaa (pv 0) (zaa (pv 1) zba))))
  (zca (zta (i:=3) zuj.nd rfl (.inl rfl) (zka (zyg T kb).up hr rfl T.zzb.m T.zzb.F.kp (znj T) .nil zxd (zaa (pv 0) zba)))
  (zia (zpa (zqc (zaa zea (zaa (pv 1) (zaa (pv 2) (zaa (pv 3) zba)))))))))),?_⟩
 obtain⟨dx,l,h1,h2⟩:=id W;refine⟨_,rfl,p,dx,_,rfl,h1,zzd _ _ (by decide +kernel) (by decide +kernel),p,T.zan,ws,k,changes,rfl,W,hk,ok,by decide,.inl T.zlq,λa H1 ha hma hra hja W1 B1=>?_,λz H1 B1=>qe (by unfold zke;rw[z];rfl) H1 B1⟩;refine⟨_,rfl,_,rfl,a,p,ws,k+1,rfl,W1,hja,ok,λx j v H2 hr2 hj2 W2 B2 hx=>?_,λz H2 B2=>qe (by unfold zke;rw[hra];show (zpb a ws (k+1)).bind _=_;rw[z];rfl) H2 (B1.trans B2)⟩;obtain⟨dx2,l2,h21,h22⟩:=id W2;refine⟨_,rfl,p,ws,j,rfl,W2,hj2,ok,λy j4 v4 H4 hr4 hj4 W4 B4 IW=>?_,λz H4 B4=>qe (by unfold zke;rw[hra];show (zpb a ws (k+1)).bind _=_;rw[hr2];show (rdW ws j).map _=_;rw[z];rfl) H4 ((B1.trans B2).trans B4)⟩;refine⟨_,rfl,_,rfl,_,rfl,sz4,λt ht=>?_⟩;have S:=zja ht (.tup [.str "hold",.str a,v,v4]);exact q (.hold a x y) j4 _ _ (by unfold zke;rw[hra];show (zpb a ws (k+1)).bind _=_;rw[hr2];show (rdW ws j).map _=_;rw[hr4];rfl) hj4 (W4.at S) (((B1.trans B2).trans B4).of_same S) ⟨t,v,v4,rfl,zda,(hx.but B4 h21).same S,IW.same S⟩
theorem zubb (T:Tx K mg)(kb:K.In base):FnOk P w K mg base (CX1 P w) 7 T.zbg.f T.zbg.d zvo (spRd T.zgc T.e_NoCard.c zoe (zpl T.znc) []):=by
 refine T.zbg.okx zlm ?_;rintro f c A o s H vs Q E hr ⟨p,ws,k,rfl,W,hk,ok,q,qe⟩ X;refine⟨_,  (zca (zta (i:=1) zlm.nd rfl (.inl rfl) (zej (pv 0) T.zjb T.zwa.M (zgb T).up hr (zkb T) .nil zxd (zaa (zle (v:=.ref T.zji) rfl T.zkk rfl) zba)))
  (zca (zta (i:=2) zlm.nd rfl (.inl rfl) (zka (zyg T kb).up hr rfl T.zzb.m T.zzb.F.kp (znj T) .nil zxd (zaa (pv 0) zba)))
  (zca (zsk (zej (pv 0) T.zjb T.zwa.M (zgb T).up hr (zkb T) .nil zxd (zaa (zqc (zaa zea zba)) zba)))
  (zia (zpa (zqc (zaa zea (zaa (pv 1) (zaa (pv 2) (zaa (zka (zrs T kb) hr rfl T.zpe.m T.zpe.F.kp (zjw T) .nil zxd (zaa (pv 0) zba)) zba)))))))))),?_⟩
 obtain⟨dx,l,h1,h2⟩:=id W;refine⟨_,rfl,p,dx,_,rfl,h1,zzd _ _ (by decide +kernel) (by decide +kernel),p,T.zji,ws,k,zxc,rfl,W,hk,ok,by decide,.inl T.zfk,λa H1 ha hma hra hja W1 B1=>?_,λz H1 B1=>qe (by unfold zoe;rw[z];rfl) H1 B1⟩;refine⟨_,rfl,p,ws,k+1,rfl,W1,hja,ok,λy j v H2 hr2 hj2 W2 B2 IW=>?_,λz H2 B2=>qe (by unfold zoe;rw[hra];show (rdW ws (k+1)).bind _=_;rw[z];rfl) H2 (B1.trans B2)⟩;obtain⟨dx2,l2,h21,h22⟩:=id W2;refine⟨_,rfl,p,dx2,_,rfl,h21,zzd _ _ (by decide +kernel) (by decide +kernel),sz1,λtp htp=>?_⟩;have S0:=zja htp (.tup [.str "do"]);have W3:=W2.at S0;have IW3:=IW.same S0;have B3:=(B1.trans B2).of_same S0;obtain⟨dx3,l3,h31,h32⟩:=id W3;refine⟨p,tp,ws,j,["do"],rfl,W3,hj2,ok,by decide,.inr zda,λb H4 hb hmb hrb hjb W4 B4=>?_,λz H4 B4=>qe (by unfold zoe;rw[hra];show (rdW ws (k+1)).bind _=_;rw[hr2];show (zac ["do"] ws j).bind _=_;rw[z];rfl) H4 (B3.trans B4)⟩;have IW4:=IW3.but B4 h31;obtain⟨dx4,l4,h41,h42⟩:=id W4;refine⟨_,rfl,_,rfl,_,rfl,p,ws,j+1,rfl,W4,hjb,ok,λd j5 v5 H5 hr5 hj5 W5 B5 ID=>?_,λz H5 B5=>qe (by unfold zoe;rw[hra];show (rdW ws (k+1)).bind _=_;rw[hr2];show (zac ["do"] ws j).bind _=_;rw[hrb];show (zpc ws (j+1)).map _=_;rw[z];rfl) H5 ((B3.trans B4).trans B5)⟩;refine⟨sz4,λt ht=>?_⟩;have S:=zja ht (.tup [.str "when",.str a,v,v5]);exact q (.wen a y d) j5 _ _ (by unfold zoe;rw[hra];show (rdW ws (k+1)).bind _=_;rw[hr2];show (zac ["do"] ws j).bind _=_;rw[hrb];show (zpc ws (j+1)).map _=_;rw[hr5];rfl) hj5 (W5.at S) (((B3.trans B4).trans B5).of_same S) ⟨t,v,v5,rfl,zda,(IW4.but B5 h41).same S,ID.same S⟩
theorem zkeb (T:Tx K mg)(kb:K.In base):FnOk P w K mg base (CX1 P w) 7 T.zeh.f T.zeh.d zvr (spRd T.zgc T.e_NoCard.c zoi (zpl T.znc) []):=by
 refine T.zeh.okx zfu ?_;rintro f c A o s H vs Q E hr ⟨p,ws,k,rfl,W,hk,ok,q,qe⟩ X;refine⟨_,  (zca (zta (i:=1) zfu.nd rfl (.inl rfl) (zkc (pv 0) T.zjb T.zeb.M (zcc T zxf).up hr (zic T) .nil zxd))
  (zca (zsk (zej (pv 0) T.zjb T.zwa.M (zgb T).up hr (zkb T) .nil zxd (zaa (zqc (zaa zea zba)) zba)))
  (zia (zpa (zqc (zaa zea (zaa (pv 1) (zaa (zka (zrs T kb) hr rfl T.zpe.m T.zpe.F.kp (zjw T) .nil zxd (zaa (pv 0) zba)) zba)))))))),?_⟩
 obtain⟨dx,l,h1,h2⟩:=id W;refine⟨_,rfl,p,dx,_,rfl,h1,zzd _ _ (by decide +kernel) (by decide +kernel),p,ws,k,rfl,W,hk,ok,λi H1 hn hi W1 B1=>?_,λz H1 B1=>qe (by unfold zoi;rw[show zlf ws k=none from zdj z];rfl) H1 B1⟩;have hra:zlf ws k=some (.num i,k+1):=zad hi hn;have hja:=zod hn;obtain⟨dx2,l2,h21,h22⟩:=id W1;refine⟨_,rfl,p,dx2,_,rfl,h21,zzd _ _ (by decide +kernel) (by decide +kernel),sz1,λtp htp=>?_⟩;have S0:=zja htp (.tup [.str "do"]);have W3:=W1.at S0;have B3:=B1.of_same S0;refine⟨p,tp,ws,k+1,["do"],rfl,W3,hja,ok,by decide,.inr zda,λb H4 hb hmb hrb hjb W4 B4=>?_,λz H4 B4=>qe (by unfold zoi;rw[hra];show (zac ["do"] ws (k+1)).bind _=_;rw[z];rfl) H4 (B3.trans B4)⟩;refine⟨_,rfl,_,rfl,p,ws,k+1+1,rfl,W4,hjb,ok,λd j5 v5 H5 hr5 hj5 W5 B5 ID=>?_,λz H5 B5=>qe (by unfold zoi;rw[hra];show (zac ["do"] ws (k+1)).bind _=_;rw[hrb];show (zpc ws (k+1+1)).map _=_;rw[z];rfl) H5 ((B3.trans B4).trans B5)⟩;refine⟨sz3,λt ht=>?_⟩;have S:=zja ht (.tup [.str "may",.int i,v5]);exact q (.may i d) j5 _ _ (by unfold zoi;rw[hra];show (zac ["do"] ws (k+1)).bind _=_;rw[hrb];show (zpc ws (k+1+1)).map _=_;rw[hr5];rfl) hj5 (W5.at S) (((B3.trans B4).trans B5).of_same S) ⟨t,v5,rfl,zda,ID.same S⟩
theorem zkv (T:Tx K mg)(kb:K.In base):FnOk P w K mg base (CX1 P w) 7 T.zde.f T.zde.d zvk (spRd T.zgc T.e_NoCard.c zsb (zpl T.znc) []):=by
 have zzr:=(FnOk.ex λu=>zfq (P:=P) (w:=w) (base:=base) T u).mono (by decide:4≤6);refine T.zde.okx zvg ?_;rintro f c A o s H vs Q E hr ⟨p,ws,k,rfl,W,hk,ok,q,qe⟩ X;refine⟨_,  (zca (zta (i:=1) zvg.nd rfl (.inl rfl) (zej (pv 0) T.zjb T.zwa.M (zgb T).up hr (zkb T) .nil zxd (zaa (zle (v:=.ref T.zrf) rfl T.zfi rfl) zba)))
  (zca (zta (i:=2) zvg.nd rfl (.inl rfl) (zka (zyg T kb).up hr rfl T.zzb.m T.zzb.F.kp (znj T) .nil zxd (zaa (pv 0) zba)))
  (zca (zsk (zej (pv 0) T.zjb T.zwa.M (zgb T).up hr (zkb T) .nil zxd (zaa (zqc (zaa zea zba)) zba)))
  (zca (zta (i:=3) zvg.nd rfl (.inl rfl) (zej (pv 0) T.zjb T.zwa.M (zgb T).up hr (zkb T) .nil zxd (zaa (zlb (zjsb rfl T.zpz) (zle (v:=.ref T.zmab) rfl T.ztz rfl) (pv 1) (λ_ _=>rfl)) zba)))
  (zia (zpa (zqc (zaa zea (zaa (pv 1) (zaa (pv 2) (zaa (pv 3) (zaa (zka zzr hr rfl T.zsc.m T.zsc.F.kp (ztr T) .nil zxd (zaa (pv 0) (zaa (pv 3) zba))) zba)))))))))))),?_⟩
 obtain⟨dx,l,h1,h2⟩:=id W;refine⟨_,rfl,p,dx,_,rfl,h1,zzd _ _ (by decide +kernel) (by decide +kernel),p,T.zrf,ws,k,zqa,rfl,W,hk,ok,by decide,.inl T.zei,λa H1 ha hma hra hja W1 B1=>?_,λz H1 B1=>qe (by unfold zsb;rw[z];rfl) H1 B1⟩;refine⟨_,rfl,p,ws,k+1,rfl,W1,hja,ok,λy j v H2 hr2 hj2 W2 B2 IW=>?_,λz H2 B2=>qe (by unfold zsb;rw[hra];show (rdW ws (k+1)).bind _=_;rw[z];rfl) H2 (B1.trans B2)⟩;obtain⟨dx2,l2,h21,h22⟩:=id W2;refine⟨_,rfl,p,dx2,_,rfl,h21,zzd _ _ (by decide +kernel) (by decide +kernel),sz1,λtp htp=>?_⟩;have S0:=zja htp (.tup [.str "do"]);have W3:=W2.at S0;have IW3:=IW.same S0;have B3:=(B1.trans B2).of_same S0;obtain⟨dx3,l3,h31,h32⟩:=id W3;refine⟨p,tp,ws,j,["do"],rfl,W3,hj2,ok,by decide,.inr zda,λb H4 hb hmb hrb hjb W4 B4=>?_,λz H4 B4=>qe (by unfold zsb;rw[hra];show (rdW ws (k+1)).bind _=_;rw[hr2];show (zac ["do"] ws j).bind _=_;rw[z];rfl) H4 (B3.trans B4)⟩;have IW4:=IW3.but B4 h31;obtain⟨dx4,l4,h41,h42⟩:=id W4;refine⟨_,rfl,p,dx4,_,rfl,h41,zzd _ _ (by decide +kernel) (by decide +kernel),_,rfl,_,_,rfl,rfl,zxib hma,λtb htb=>?_⟩;refine⟨p,tb,ws,j+1,turns a,rfl,W4,hjb,ok,zwib a,.inl htb,λe H5 he hme hre hje W5 B5=>?_,λz H5 B5=>qe (by unfold zsb;rw[hra];show (rdW ws (k+1)).bind _=_;rw[hr2];show (zac ["do"] ws j).bind _=_;rw[hrb];show (zac (turns a) ws (j+1)).bind _=_;rw[z];rfl) H5 ((B3.trans B4).trans B5)⟩;have IW5:=IW4.but B5 h41;obtain⟨dx5,l5,h51,h52⟩:=id W5;refine⟨_,rfl,_,rfl,_,rfl,_,rfl,_,rfl,e,p,ws,j+1+1,rfl,W5,hje,ok,λx j6 v6 H6 hr6 hj6 W6 B6 ev=>?_,λz H6 B6=>qe (by unfold zsb;rw[hra];show (rdW ws (k+1)).bind _=_;rw[hr2];show (zac ["do"] ws j).bind _=_;rw[hrb];show (zac (turns a) ws (j+1)).bind _=_;rw[hre];show (zkf e ws (j+1+1)).map _=_;rw[z];rfl) H6 (((B3.trans B4).trans B5).trans B6)⟩;subst ev;refine⟨sz5,λt ht=>?_⟩;have S:=zja ht (.tup [.str "instead",.str a,v,.str e,valV x]);exact q (.instead a y e x) j6 _ _ (by unfold zsb;rw[hra];show (rdW ws (k+1)).bind _=_;rw[hr2];show (zac ["do"] ws j).bind _=_;rw[hrb];show (zac (turns a) ws (j+1)).bind _=_;rw[hre];show (zkf e ws (j+1+1)).map _=_;rw[hr6];rfl) hj6 (W6.at S) ((((B3.trans B4).trans B5).trans B6).of_same S) ⟨t,v,rfl,zda,(IW5.but B6 h51).same S⟩
theorem zbrb {a rest:TS}{D:Ends}{σ:L2.St}{H:Hp}(M:L2.St->Hp->Prop)(hR:∀ σ' H',M σ' H'->rest D σ' H')(h:∀R:L2.St->Hp->Prop,(∀ σ' H',M σ' H'->R σ' H')->a { D with nx:=R } σ H):tSeq a rest D σ H:=h _ hR
def zmd (ws:List Str):Option Rule:=(zac sorts ws 0).bind λa=>(if a.1 = "hold" then zke ws a.2 else if a.1 = "when" then zoe ws a.2 else if a.1 = "instead" then zsb ws a.2 else zoi ws a.2).bind λr=>if r.2=ws.length then some r.1 else none
def zmqb (D N:Addr):Sp:=λvs H Q E=>∃(t:Str),vs=[.str t]∧t.length≤1000000∧(∀u∈yma t " ",WdOk u)∧(∀r v H',zmd (yma t " ")=some r->Same H H'->zpl D H' v r->Q v H')∧(zmd (yma t " ")=none->∀H',Same H H'->E (.ref N) none H')
theorem zybb (T:Tx K mg)(kb:K.In base):FnOk P w K mg base (CX1 P w) 9 T.zfg.f T.zfg.d zbp (zmqb T.znc T.e_NoCard.c):=by
 refine T.zfg.okx zif ?_;rintro f c A o s H vs Q E hr ⟨t,rfl,tl,ok,q,qe⟩ X;refine⟨_,  (zca (zta (i:=1) zif.nd rfl (.inl rfl) (zdz T.zoc.M (zygb T).up hr rfl T.zseb (zem T) .nil zib (zaa (pv 0) zba)))
  (zca (zta (i:=2) zif.nd rfl (.inl rfl) (zej (pv 1) T.zjb T.zwa.M (zgb T).up hr (zkb T) .nil zxd (zaa (zle (v:=.ref T.ztw) rfl T.zuz rfl) zba)))
  (zca (zqb (zma zed (pv 2) zea (zxa _))
   (zia (zta (i:=3) zif.nd rfl (.inl rfl) (zka (zvbb T kb).up hr rfl T.zcg.m T.zcg.F.kp (zbfb T) .nil zxd (zaa (pv 1) zba))))
   (zia (zqb (zma zed (pv 2) zea (zxa _))
    (zia (zta (i:=3) zif.nd rfl (.inl rfl) (zka (zubb T kb).up hr rfl T.zbg.m T.zbg.F.kp (zafb T) .nil zxd (zaa (pv 1) zba))))
    (zia (zqb (zma zed (pv 2) zea (zxa _))
     (zia (zta (i:=3) zif.nd rfl (.inl rfl) (zka (zkv T kb).up hr rfl T.zde.m T.zde.F.kp (zgx T) .nil zxd (zaa (pv 1) zba))))
     (zia (zta (i:=3) zif.nd rfl (.inl rfl) (zka (zkeb T kb).up hr rfl T.zeh.m T.zeh.F.kp (zpib T) .nil zxd (zaa (pv 1) zba)))))))))
  (zca (zsk (zkc (pv 1) T.zjb T.zld.M (zwm T).up hr (zdo T) .nil zxd))
  (zia (zpa (pv 3))))))),?_⟩
 refine⟨_,rfl,?_⟩;intro x dx nx ndx nex;refine⟨x,dx,_,rfl,zda,tl,λH1 W1 B1=>⟨rfl,?_⟩⟩;have S1:Same H H1:=λb o e=>B1 b o (zva e nx) (by rw[zfb (zva e nx),zfb (zva e ndx)];exact e);have sb:∀{H2:Hp},But x H1 H2->Same H H2:=λB2 b o e=>B2 b o (zva e nx) (S1 b o e);generalize yma t " " = ws at *;obtain⟨dx1,l1,w1,w2⟩:=id W1;refine⟨_,rfl,x,dx1,_,rfl,w1,zzd _ _ (by decide +kernel) (by decide +kernel),x,T.ztw,ws,0,sorts,rfl,W1,ydc _,ok,by decide,.inl T.zqz,λa H2 ha hma hra hja W2 B2=>?_,λz H2 B2=>qe (by unfold zmd;rw[z];rfl) H2 (sb B2)⟩
 try dsimp only[zwz]
 have e1:zmd ws=(if a = "hold" then zke ws 1 else if a = "when" then zoe ws 1 else if a = "instead" then zsb ws 1 else zoi ws 1).bind λr=>if r.2=ws.length then some r.1 else none:=by
  unfold zmd;rw[hra];rfl
 generalize hRR:(if a = "hold" then zke ws 1 else if a = "when" then zoe ws 1 else if a = "instead" then zsb ws 1 else zoi ws 1)=RR at e1;have no:RR=none->zmd ws=none:=λz=>by rw[e1,z];rfl
 refine zbrb (fun σ' H'=>Ex3 λ(r:Rule) (j:Nat) v=>σ'=[some (.str t),some (.ref x),some (.str a),some v]∧RR=some (r,j)∧j≤ws.length∧WAt T.zgc H' x ws j∧But x H1 H'∧zpl T.znc H' v r) ?_ ?_
 ·rintro σ' H3 ⟨r,j,v,rfl,er,hj,W3,B3,IR⟩;obtain⟨dx3,l3,w31,w32⟩:=id W3;refine⟨_,rfl,x,dx3,_,rfl,w31,zzd _ _ (by decide +kernel) (by decide +kernel),x,ws,j,rfl,W3,hj,λej=>?_,λej=>qe (by rw[e1,er];exact if_neg (by show ¬ (j=ws.length);omega)) H3 (sb B3)⟩;exact⟨_,rfl,q r v H3 (by rw[e1,er];exact if_pos ej) (sb B3) IR⟩
 ·intro R hR;refine⟨_,rfl,rfl,_,rfl,?_⟩;refine ite2 (λc=>?_) (λc=>?_)
  ·have c':=of_decide_eq_true c;injection c' with c'
   rw[if_pos c'] at hRR;exact⟨_,rfl,x,ws,1,rfl,W2,hja,ok,λr j v H3 hr' hj W3 B3 IR=>hR _ _ ⟨r,j,v,rfl,by rw[← hRR];exact hr',hj,W3,B2.trans B3,IR⟩,λz H3 B3=>qe (no (by rw[← hRR];exact z)) H3 (sb (B2.trans B3))⟩
  rw[if_neg (λz=>c (by rw[z];exact decide_eq_true rfl))] at hRR;refine⟨_,rfl,rfl,_,rfl,?_⟩;refine ite2 (λc=>?_) (λc=>?_)
  ·have c':=of_decide_eq_true c;injection c' with c'
   rw[if_pos c'] at hRR;exact⟨_,rfl,x,ws,1,rfl,W2,hja,ok,λr j v H3 hr' hj W3 B3 IR=>hR _ _ ⟨r,j,v,rfl,by rw[← hRR];exact hr',hj,W3,B2.trans B3,IR⟩,λz H3 B3=>qe (no (by rw[← hRR];exact z)) H3 (sb (B2.trans B3))⟩
  rw[if_neg (λz=>c (by rw[z];exact decide_eq_true rfl))] at hRR;refine⟨_,rfl,rfl,_,rfl,?_⟩;refine ite2 (λc=>?_) (λc=>?_)
  ·have c':=of_decide_eq_true c;injection c' with c'
   rw[if_pos c'] at hRR;exact⟨_,rfl,x,ws,1,rfl,W2,hja,ok,λr j v H3 hr' hj W3 B3 IR=>hR _ _ ⟨r,j,v,rfl,by rw[← hRR];exact hr',hj,W3,B2.trans B3,IR⟩,λz H3 B3=>qe (no (by rw[← hRR];exact z)) H3 (sb (B2.trans B3))⟩
  rw[if_neg (λz=>c (by rw[z];exact decide_eq_true rfl))] at hRR;exact⟨_,rfl,x,ws,1,rfl,W2,hja,ok,λr j v H3 hr' hj W3 B3 IR=>hR _ _ ⟨r,j,v,rfl,by rw[← hRR];exact hr',hj,W3,B2.trans B3,IR⟩,λz H3 B3=>qe (no (by rw[← hRR];exact z)) H3 (sb (B2.trans B3))⟩
theorem znjb {α:Type}(l:List α):∀(n a:Nat),((yof n).map (λk=>a+k)).filterMap (l[·]?)=(l.drop a).take n
 | 0,_=>by simp
 | n+1,a=>by
  rw[List.range_succ,ydb,List.filterMap_append,znjb l n a,ywb,yme]
  congr 1
theorem zumb (lo hi:Option Int)(n:Nat):∃a,∃m:Nat,yti lo hi 1 n=(yof m).map λk=>a+k:=by
 have key:∀(st en:Int),0≤st->∃a,∃m:Nat,yxn st en 1=(yof m).map λk=>a+k:=λst en h0=>by
  obtain⟨a,rfl⟩:=yrc h0;refine⟨a,((if (1:Int)>0 then (if (a:Int)<en then (en-a+1-1) / 1 else 0) else (if (a:Int)>en then ((a:Int)-en-1-1) / (-1) else 0):Int)).toNat,?_⟩;unfold yxn;exact List.map_congr_left λk _=>by omega
 unfold yti;refine key _ _ ?_;cases lo with
 | none=>exact Int.le_refl 0
 | some i =>
  show 0≤if (1:Int)>0 then max 0 (min (if i<0 then i+(n:Int) else i) (n:Int)) else _
  rw[if_pos (by decide)];exact Int.le_max_left _ _
theorem zljb {t:Str}{lo hi:Option Int}:(ynm t lo hi).cps.toList.Sublist t.cps.toList:=by
 unfold ynm
 split
 ·exact ybk _
 ·obtain⟨a,m,e⟩:=zumb lo hi t.length;rw[e];have z:((yof m).map (λk=>a+k)).filterMap (t.cps[·]?)=(t.cps.toList.drop a).take m:=by
   rw[← znjb t.cps.toList m a];simp
  rw[z];exact (yfn _ _).trans (List.drop_sublist _ _)
def cc (t:Str):Nat:=t.cps.toList.count 44
theorem cpsA (a b:Str):(a++b).cps.toList=a.cps.toList++b.cps.toList:=by
 show (a.cps++b.cps).toList=_
 simp
theorem zwlb (a b:Str):cc (a++b)=cc a+cc b:=by
 unfold cc;rw[cpsA,List.count_append]
def cct (ws:List Str):Nat:=(ws.map cc).sum
theorem zpi (a b:List Str):cct (a++b)=cct a+cct b:=by
 unfold cct;rw[ydb,yll]
theorem zso (u:Str):cct [u]=cc u:=by
 unfold cct;simp
theorem zzm (s:Str):∀{ws:List Str},ws≠[]->cc (yea s ws)+cc s=cct ws+ws.length*cc s
 | [],h=>absurd rfl h
 | [x],_=>by
  rw[zso];show cc x+cc s=cc x+1*cc s
  omega
 | x::y::r,_=>by
  have ih:=zzm s (ws:=y::r) (by simp);have e:yea s (x::y::r)=x++s++yea s (y::r):=rfl;have e2:cct (x::y::r)=cc x+cct (y::r):=by
   rw[← zso x,← zpi];rfl
  rw[e,zwlb,zwlb,e2,yia,yfo];omega
theorem zdhb (s:Str):∀{ws:List Str} {u:Str},u∈ws->u.cps.toList.Sublist (yea s ws).cps.toList
 | [x],u,h=>by
  rw[yca.mp h];exact ybk _
 | x::y::r,u,h=>by
  have e:yea s (x::y::r)=x++s++yea s (y::r):=rfl;rw[e,cpsA,cpsA]
  rcases yda.mp h with h|h
  ·rw[h,ydd];exact yck _ _
  ·exact (zdhb s h).trans (List.sublist_append_right _ _)
theorem zvp {t s u:Str}(h:u∈yma t s):u.cps.toList.Sublist t.cps.toList:=by
 have z:=zdhb s h;rw[show yea s (yma t s)=t from ygd t s] at z;exact z
def Sm (t:Str)(L N:Nat):Prop:=t.length≤L∧(∀c∈t.cps.toList,c<256)∧cc t≤N
theorem len_list (t:Str):t.cps.toList.length=t.length:=by simp[yol]
theorem Sm.sub {t u:Str}{L N:Nat}(h:Sm t L N)(s:u.cps.toList.Sublist t.cps.toList):Sm u L N:=by
 have z:=s.length_le;rw[len_list,len_list] at z;exact⟨ypa z h.1,λc hc=>h.2.1 c (s.subset hc),ypa (s.count_le 44) h.2.2⟩
theorem Sm.up {t:Str}{L M N O:Nat}(h:Sm t L N)(le:L≤M)(le':N≤O):Sm t M O:=⟨ypa h.1 le,h.2.1,ypa h.2.2 le'⟩
theorem Sm.app {a b:Str}{L M N O:Nat}(h:Sm a L N)(g:Sm b M O):Sm (a++b) (L+M) (N+O):=by
 refine⟨by rw[len_app];have:=h.1;have:=g.1;omega,λc hc=>?_,by rw[zwlb];have:=h.2.2;have:=g.2.2;omega⟩;rw[cpsA] at hc
 rcases yna.mp hc with z|z
 ·exact h.2.1 c z
 ·exact g.2.1 c z
theorem Sm.slice {t:Str}{L N:Nat}(h:Sm t L N)(lo hi:Option Int){t':Str}(e:t'=ynm t lo hi):Sm t' L N:=by
 rw[e];exact h.sub zljb
def tot (ws:List Str):Nat:=(ws.map (·.length)).sum+ws.length
theorem zwi (a b:List Str):tot (a++b)=tot a+tot b:=by
 unfold tot;rw[ydb,yll,yha];omega
theorem zdr (u:Str):tot [u]=u.length+1:=by
 unfold tot;simp
theorem zlgb (ws:List Str)(k:Nat):tot (ws.take k)+tot (ws.drop k)=tot ws:=by
 rw[← zwi,yth]
theorem znhb (ws:List Str)(k:Nat):cct (ws.take k)+cct (ws.drop k)=cct ws:=by
 rw[← zpi,yth]
theorem zajb (ws:List Str)(k:Nat):tot (ws.drop (k+1))≤tot (ws.drop k):=by
 rw[← yrf];have:=zlgb (ws.drop k) 1;omega
theorem zvlb (ws:List Str)(k:Nat):cct (ws.drop (k+1))≤cct (ws.drop k):=by
 rw[← yrf];have:=znhb (ws.drop k) 1;omega
theorem zqt:cc " " = 0:=by decide +kernel
theorem zmq {c:Nat}(s:Str):∀{ws:List Str},c∈(yea s ws).cps.toList->c∈s.cps.toList∨∃u∈ws,c∈u.cps.toList
 | [],h=>by cases h
 | [x],h=>.inr ⟨x,by simp,h⟩
 | x::y::r,h=>by
  have e:yea s (x::y::r)=x++s++yea s (y::r):=rfl;rw[e,cpsA,cpsA] at h
  rcases yna.mp h with h|h
  ·rcases yna.mp h with h|h
   ·exact .inr ⟨x,by simp,h⟩
   ·exact .inl h
  ·rcases zmq s h with z|⟨u,hu,z⟩
   ·exact .inl z
   ·exact .inr ⟨u,yla _ hu,z⟩
theorem zeu {ws:List Str}{L N:Nat}(h:tot ws≤L)(hc:∀u∈ws,∀c∈u.cps.toList,c<256)(hn:cct ws≤N):Sm (yea " " ws) L N:=by
 by_cases hne:ws=[]
 ·subst hne;exact⟨ydc _,(λc hc=>by cases hc),ydc _⟩
 refine⟨?_,λc z=>?_,?_⟩
 ·have a:=zgk " " ws;have e:(" ":Str).length=1:=rfl;rw[e,Nat.mul_one] at a;exact ypa a h
 ·rcases zmq " " z with y|⟨u,hu,y⟩
  ·have y':c∈[32]:=y;have e:c=32:=(by simpa using y');omega
  ·exact hc u hu c y
 ·have z:=zzm " " hne;rw[zqt] at z;omega
theorem zchb:∀{ws:List Str},ws≠[]->(yea " " ws).length+1=tot ws
 | [],h=>absurd rfl h
 | [x],_=>by
  rw[zdr];rfl
 | x::y::r,_=>by
  have ih:=zchb (ws:=y::r) (by simp);have e:yea " " (x::y::r)=x ++ " " ++ yea " " (y::r):=rfl;have e2:tot (x::y::r)=(x.length+1)+tot (y::r):=by
   rw[← zdr x,← zwi];rfl
  have e3:(" ":Str).length=1:=rfl;rw[e,len_app,len_app,e2,e3];omega
theorem zyab (t:Str):tot (yma t " ")=t.length+1:=by
 have z:=zchb (znh t " ");rw[show yea " " (yma t " ")=t from ygd t " "] at z;exact z.symm
theorem zijb (t:Str):cct (yma t " ")=cc t:=by
 have z:=zzm " " (znh t " ");rw[show yea " " (yma t " ")=t from ygd t " ",zqt] at z;omega
theorem ztj {t s:Str}{L N:Nat}(h:Sm t L N):∀u∈yma t s,Sm u L N:=λu hu=>h.sub (zvp hu)
theorem Sm.wd {t:Str}{N:Nat}(h:Sm t 10000 N):WdOk t:=⟨h.1,h.2.1⟩
theorem Sm.wds {t s:Str}{N:Nat}(h:Sm t 10000 N):∀u∈yma t s,WdOk u:=λu hu=>(ztj h u hu).wd
theorem ztob:cc "," = 1:=by decide +kernel
theorem commas {t:Str}{L N:Nat}(h:Sm t L N):(yma t ",").length≤N+1:=by
 have z:=zzm "," (znh t ",");rw[show yea "," (yma t ",")=t from ygd t ",",ztob] at z;have:=h.2.2;omega
def cfs (n:Str)(c f:Nat)(m t:Addr):List (Str×V):=[("name",.str n),("cost",.int c),("force",.int f),("marks",.ref m),("rules",.ref t)]
inductive IsRules (D:Addr)(H:Hp):List V->List Rule->Prop where
 | nil:IsRules D H [] []
 | cons {v:V} {r:Rule} {vs:List V} {rs:List Rule}:zpl D H v r->IsRules D H vs rs->IsRules D H (v::vs) (r::rs)
theorem IsRules.same {D:Addr}{H H':Hp}(s:Same H H'):∀{vs:List V} {rs:List Rule},IsRules D H vs rs->IsRules D H' vs rs
 | _,_,.nil=>.nil
 | _,_,.cons h t=>.cons (h.same s) (t.same s)
theorem IsRules.snoc {D:Addr}{H:Hp}{v:V}{r:Rule}(h:zpl D H v r):∀{vs:List V} {rs:List Rule},IsRules D H vs rs->IsRules D H (vs++[v]) (rs++[r])
 | _,_,.nil=>.cons h .nil
 | _,_,.cons h' t=>.cons h' (IsRules.snoc h t)
theorem IsRules.length {D:Addr}{H:Hp}:∀{vs:List V} {rs:List Rule},IsRules D H vs rs->vs.length=rs.length
 | _,_,.nil=>rfl
 | _,_,.cons _ t=>congrArg (· + 1) t.length
theorem IsRules.get {D:Addr}{H:Hp}:∀{vs:List V} {rs:List Rule} {i:Nat} {v:V},IsRules D H vs rs->vs[i]?=some v->∃r,rs[i]?=some r∧zpl D H v r
 | _,_,0,_,.cons h _,e=>by cases e;exact⟨_,rfl,h⟩
 | _,_,i+1,_,.cons _ t,e=>t.get (i:=i) e
def zvpb (B D:Addr)(H:Hp)(v:V)(c:Crd):Prop:=Ex5 λa dx m t vs=>v = .ref a∧H a=some (.ins B dx (cfs c.name c.cost c.force m t))∧H m=some (.tup (c.marks.map V.str))∧H t=some (.tup vs)∧IsRules D H vs c.rules
def zthb (B:Addr):Sp:=λvs H Q _=>Ex7 λx dx m t (n:Str) (c f:Nat)=>vs=[.ref x,.str n,.int c,.int f,.ref m,.ref t]∧H x=some (.ins B dx [])∧Q .non (upd H x (.ins B dx (cfs n c f m t)))
theorem zrob (n:Str)(c f:V)(m t:Addr):putF "rules" (.ref t) (putF "marks" (.ref m) (putF "force" f (putF "cost" c (putF "name" (.str n) []))))=([("name",.str n),("cost",c),("force",f),("marks",.ref m),("rules",.ref t)]:List (Str×V)):=by
 repeat (first|rw[zmr]|rw[zul (by decide +kernel)])
theorem zqk {K:yba}{H:Hp}:∀xs:List Str,DVs K H (xs.map V.str) (xs.map .str)
 | []=>.nil
 | x::r=>.cons (.str x) (zqk r)
theorem zzrb (T:Tx K mg):FnOk P w K mg base CX0 2 T.zrd.f T.zrd.d zrj (zthb T.zml):=by
 refine T.zrd.ok zct ?_;rintro f c A o s H vs Q E hr ⟨x,dx,m,t,n,c,f,rfl,hx,q⟩ X;refine⟨_,  (zca (zbo (pv 0) (pv 1) rfl)
  (zca (zbo (pv 0) (pv 2) rfl)
  (zca (zbo (pv 0) (pv 3) rfl)
  (zca (zbo (pv 0) (pv 4) rfl)
  (zia (zbo (pv 0) (pv 5) rfl)))))),?_⟩
 refine⟨_,rfl,_,rfl,x,_,dx,_,rfl,hx,T.zmj,T.zjj,(by show 0<1000;decide),?_⟩;refine⟨_,rfl,_,rfl,x,_,dx,_,rfl,zda,T.zmj,T.zkj,(by show 1<1000;decide),?_⟩;refine⟨_,rfl,_,rfl,x,_,dx,_,rfl,zda,T.zmj,T.zci,(by show 2<1000;decide),?_⟩;refine⟨_,rfl,_,rfl,x,_,dx,_,rfl,zda,T.zmj,T.zbi,(by show 3<1000;decide),?_⟩;refine⟨_,rfl,_,rfl,x,_,dx,_,rfl,zda,T.zmj,T.zai,(by show 4<1000;decide),?_⟩;show Q .non _
 rw[zsl,zsl,zsl,zsl,zrob];exact q
theorem zpnb {n:Str}(h:znd n):ybe (.str n)=true:=by
 rw[ybe];unfold ynl;rw[← yqk,yyb];intro c hc;have:=(h.2.2 c hc).2;simp;omega
theorem zoz:∀xs:List Str,(∀x∈xs,ybe (.str x)=true)->ynh (xs.map .str)=true
 | [],_=>by simp[ynh]
 | x::r,h=>by
  have h1:=h x yqa;have h2:=zoz r λy hy=>h y (yla _ hy);rw[ytb,ynh,h1,h2];rfl
theorem zdab:∀xs:List Str,yui (xs.map .str)=0
 | []=>by simp[yui]
 | x::r=>by simp[yui,yij,zdab r]
theorem zkm {ms:List Str}(h:∀m∈ms,znd m):yfd (.list (ms.map .str))=true:=by
 unfold yfd;rw[ybe,zoz ms (λx hx=>zpnb (h x hx)),yij,zdab];rfl
theorem zxm:∀xs ys:List Str,yhg (xs.map .str) (ys.map .str)=decide (xs=ys)
 | [],[]=>by simp[yhg]
 | [],y::r=>by simp[yhg]
 | x::r,[]=>by simp[yhg]
 | x::r,y::q=>by
  rw[ytb,ytb,yhg,zxm r q,ylh]
  by_cases e:x=y
  ·subst e
   by_cases f:r=q
   ·subst f;simp
   ·simp[f]
  ·simp[e]
theorem znnb (xs:List Str):(SSet.dd xs).Nodup:=by
 have key:∀n,(SSet.dd (xs.take n)).Nodup:=by
  intro n
  induction n with
  | zero=>exact ywl
  | succ n ih =>
   rw[ywb];cases e:xs[n]? with
   | none=>rw[yej,yrb];exact ih
   | some a =>
    show (SSet.dd (xs.take n++[a])).Nodup
    rw[SSet.zro]
    split
    ·exact ih
    ·rename_i z;exact ydk.mpr ⟨ih,by simp,λx hx y hy e=>z (by rw[← yca.mp hy,← e];exact hx)⟩
 have:=key xs.length
 rwa [ybd] at this
theorem zppb (xs:List Str):(SSet.dd xs).length≤xs.length:=by
 have z:=SSet.znob xs.length xs
 rwa [ybd] at z
theorem ziwb (xs:List Str):∀m∈SSet.dd xs,m∈xs:=by
 have key:∀n,∀m∈SSet.dd (xs.take n),m∈xs:=by
  intro n
  induction n with
  | zero=>intro m hm;cases hm
  | succ n ih =>
   intro m hm;rw[ywb] at hm;cases e:xs[n]? with
   | none=>rw[e,yej,yrb] at hm;exact ih m hm
   | some a =>
    rw[e,yzg,SSet.zro] at hm
    split at hm
    ·exact ih m hm
    ·rcases yna.mp hm with z|z
     ·exact ih m z
     ·rw[yca.mp z];exact yva e
 have:=key xs.length
 rwa [ybd] at this
def zbd (u:Str):Option (List Str):=if u = "-" then some [] else if ((yma u ",").map isName).all id=true∧(yma u ",").Nodup∧yri (yma u ",")=true then some (yma u ",") else none
def zsmb (N:Addr):Sp:=λvs H Q E=>∃(u:Str),vs=[.str u]∧WdOk u∧(yma u ",").length≤20∧(∀ms m H',zbd u=some ms->Same H H'->H' m=some (.tup (ms.map V.str))->Q (.ref m) H')∧(zbd u=none->∀H',Same H H'->E (.ref N) none H')
theorem zjz (T:Tx K mg):FnOk P w K mg base (CX1 P w) 3 T.zef.f T.zef.d zen (zsmb T.e_NoCard.c):=by
 refine T.zef.okx zyp ?_;rintro f c A o s H vs Q E hr ⟨u,rfl,wd,ml,q,qe⟩ X;refine⟨_,  (zca (zqb (zma zed (pv 0) zea (zxa _))
   (zia (zpa (zqc zba)))
   zra)
  (zca (zta (i:=1) zyp.nd rfl (.inl rfl) (zog yta yyc yzc zdk (pv 0) (zaa zea zba)))
  (zca (zqb (zak (zxh (zza (zrt rfl) rfl T.ztdb boot_all (zaa (zvm (own:=["mark"]) (cap:=[]) rfl (zvd.chk rfl rfl) .nil (zbz (pv 1)) (λ_ _ _ _=>(zwd (i:=0) (show ygg (["mark"]:List Str) by decide +kernel) rfl (.inl rfl))) (λ_ _ _ _=>zvl) (λ_ _ _ _=>by exact (zka (zey T) hr rfl T.zug.m T.zug.F.kp (zjdb T) .nil zib (zaa (pv 0) zba)))) zba))))
   (zia (zxg rfl rfl T.e_NoCard.m T.e_NoCard.q zsm (zzhb (pv 0) zea)))
   zra)
  (zca (zqb (zma (zepb hr.units) (pv 1) (zza (zfw rfl) rfl T.zin boot_sorted (zaa (zrc (zvq rfl) rfl T.ztib boot_set (zaa (pv 1) zba)) zba)) (zxa _))
   (zia (zxg rfl rfl T.e_NoCard.m T.e_NoCard.q zsm (zzhb (pv 0) zea)))
   zra)
  (zia (zpa (zrc zxl rfl T.zbr boot_tuple (zaa (pv 1) zba)))))))),?_⟩
 refine⟨_,rfl,rfl,_,rfl,?_⟩;refine ite2 (λc=>?_) (λc=>?_)
 ·have c':=of_decide_eq_true c;injection c' with c'
  exact⟨sz0,λa ha=>q [] a _ (by unfold zbd;rw[if_pos c']) (zja ha _) zda⟩
 have nd:u ≠ "-":=λz=>c (by rw[z];exact decide_eq_true rfl);have e0:zbd u=if ((yma u ",").map isName).all id=true∧(yma u ",").Nodup∧yri (yma u ",")=true then some (yma u ",") else none:=by
  unfold zbd;rw[if_neg nd]
 refine⟨_,rfl,rfl,_,_,rfl,rfl,(by decide +kernel),(ypa (yyh wd.1 2) (by decide)),λl hl=>?_⟩;have ok:∀m∈yma u ",",m.length≤10000:=λm hm=>by
  have z:=(zvp hm).length_le;rw[len_list,len_list] at z;exact ypa z wd.1
 generalize yma u "," = ms at *;have S1:=zja hl (.lst (ms.map V.str));have e1:upd H l (.lst (ms.map V.str)) l=some (.lst (ms.map V.str)):=zda;generalize upd H l (.lst (ms.map V.str))=H1 at *;refine⟨_,rfl,l,rfl,⟨_,SqL.of e1⟩,?_⟩;refine zew (xs:=ms.map V.str) (λi ys H'=>Same H1 H'∧i≤ms.length∧ys=((ms.take i).map isName).map V.bl) (λi ys H' z=>SqL.of (z.1 _ _ e1)) ⟨Same.refl _,ydc _,rfl⟩ ?_ ?_ ?_
 ·rintro i ys H' ⟨_,_,rfl⟩;rw[yaa,yaa,ypb];exact small (by omega)
 ·rintro i x ys H' hx ⟨S3,hi,rfl⟩;obtain⟨m,hmm,rfl⟩:∃m,ms[i]?=some m∧V.str m=x:=by
   rw[yxb] at hx;cases z:ms[i]? with
   | none=>rw[z] at hx;cases hx
   | some m=>rw[z] at hx;cases hx;exact⟨m,rfl,rfl⟩
  have hmem:=yva hmm;refine⟨rfl,_,rfl,m,rfl,ok m hmem,λH4 S4=>⟨S3.trans S4,?_,?_⟩⟩
  ·exact (ylb.mp hmm).1
  ·rw[ywb,hmm,ydb,ydb];rfl
 ·rintro ys H2 ⟨S2,_,rfl⟩ b hb;rw[yaa,ybd];have S3:=zja hb (.lst ((ms.map isName).map V.bl));refine⟨b,_,rfl,SqL.of zda,_,rfl,?_⟩;have e3:=S3 _ _ (S2 _ _ e1);generalize upd H2 b (.lst ((ms.map isName).map V.bl))=H3 at *;cases al:(ms.map isName).all id with
  | false=>exact iteT ⟨_,rfl,u,rfl,wd.rp,_,rfl,(by decide +kernel),qe (by rw[e0,if_neg (λz=>by rw[al] at z;exact yab z.1)]) H3 (S1.trans (S2.trans S3))⟩
  | true =>
  refine iteF ?_;have nm:∀m∈ms,znd m:=λm hm=>zyv (yyb.mp al _ (yrg hm));have dl:(SSet.dd ms).length<64:=ylm (zppb ms) (by omega);refine⟨_,rfl,_,rfl,l,ms,rfl,SqL.of e3,(by omega),λp hp=>?_⟩;have S4:∀o,Same H3 (upd H3 p o):=λo=>zja hp o;refine⟨p,_,rfl,zda,dl,λp2 ys hp2 py so=>?_⟩;have S5:=zja hp2 (.lst (ys.map V.str));have ny:∀m∈ys,znd m:=λm hm=>nm m (ziwb ms m (py.mem_iff.mp hm));refine⟨.list (ms.map .str),.list (ys.map .str),.lst (SqL.of (S5 _ _ (S4 _ _ _ e3))) (zqk _),.lst (SqL.of zda) (zqk _),zkm nm,zkm ny,_,rfl,?_⟩;have ev:ylh (.list (ms.map .str)) (.list (ys.map .str))=decide (ms=ys):=by
   rw[ylh,zxm]
  rw[ev]
  by_cases em:ms=ys
  ·rw[decide_eq_true em];refine iteF ?_;have dn:ms.Nodup:=(by rw[em];exact py.nodup_iff.mpr (znnb ms));refine⟨_,rfl,l,_,rfl,.inl ⟨SqL.of (S5 _ _ (S4 _ _ _ e3)),λt ht=>?_⟩⟩;exact q ms t _ (by rw[e0,if_pos ⟨al,dn,by rw[em];exact so⟩]) (λc o e=>zja ht _ _ _ (S5 _ _ (S4 _ _ _ (S3 _ _ (S2 _ _ (S1 _ _ e)))))) zda
  ·rw[decide_eq_false em];refine iteT ?_;exact⟨_,rfl,u,rfl,wd.rp,_,rfl,(by decide +kernel),qe (by rw[e0,if_neg (λz=>em (by rw[zeab z.2.1] at py;exact (zdu py so z.2.2).symm))]) _ (λc o e=>S5 _ _ (S4 _ _ _ (S3 _ _ (S2 _ _ (S1 _ _ e)))))⟩
def NoTx (K:yba)(H:Hp)(v:V):Prop:=∃ty,TyOf K H v ty∧yfb K ty (.type "str")=some false
def nameOf:Wv->Str
 | .name n=>n
 | _=>""
def zmf (ws:List Str):Option (Str×Nat×Nat×List Str):=(zzj ws 0).bind λa=>(zlf ws 1).bind λb=>(zlf ws 2).bind λc=>(ws[3]?).bind λu=>(zbd u).bind λms=>if ws.length=4 then some (nameOf a.1,numOf b.1,numOf c.1,ms) else none
def ztc:List Str->Option (List Rule)
 | []=>some []
 | t::r=>(zmd (yma t " ")).bind λx=>(ztc r).map λy=>x::y
theorem zns (t:Str):∀xs:List Str,ztc (xs++[t])=(ztc xs).bind λa=>(zmd (yma t " ")).map λr=>a++[r]
 | []=>by
  show (zmd (yma t " ")).bind _=_
  cases zmd (yma t " ")<;>rfl
 | x::xs=>by
  show (zmd (yma x " ")).bind (λz=>(ztc (xs++[t])).map λy=>z::y)=_
  rw[zns t xs];show _=((zmd (yma x " ")).bind λz=>(ztc xs).map λy=>z::y).bind _
  cases zmd (yma x " ") with
  | none=>rfl
  | some z =>
   cases ztc xs with
   | none=>rfl
   | some y=>cases zmd (yma t " ")<;>rfl
theorem zos {t:Str}(h:zmd (yma t " ")=none):∀{ts:List Str},t∈ts->ztc ts=none
 | x::r,m=>by
  show (zmd (yma x " ")).bind (λz=>(ztc r).map λy=>z::y)=_
  rcases yda.mp m with e|e
  ·rw[← e,h];rfl
  ·rw[zos h e];cases zmd (yma x " ")<;>rfl
theorem zdv:∀{ts:List Str} {rs:List Rule},ztc ts=some rs->rs.length=ts.length
 | [],rs,h=>by cases h;rfl
 | x::r,rs,h=>by
  have h':(zmd (yma x " ")).bind (λz=>(ztc r).map λy=>z::y)=some rs:=h;cases e:zmd (yma x " ") with
  | none=>rw[e] at h';cases h'
  | some z =>
   rw[e] at h';have h2:(ztc r).map (λy=>z::y)=some rs:=h';cases e2:ztc r with
   | none=>rw[e2] at h2;cases h2
   | some y =>
    rw[e2] at h2;cases h2;rw[yia,yia,zdv e2]
def zwf (t:Str):Option Crd:=if (yma t " / ").length≤4 then (zmf (yma ((yma t " / ").headD "") " ")).bind λh=>(ztc (yma t " / ").tail).map λrs=>⟨h.1,h.2.1,h.2.2.1,h.2.2.2,rs⟩ else none
def zoqb (K:yba)(B D N:Addr):Sp:=λvs H Q E=>∃v,vs=[v]∧((∃t,v = .str t∧Sm t 10000 19∧(∀(c:Crd) v H',zwf t=some c->Same H H'->zvpb B D H' v c->Q v H')∧(zwf t=none->∀H',Same H H'->E (.ref N) none H'))∨(NoTx K H v∧E (.ref N) none H))
theorem zzbb (T:Tx K mg)(kb:K.In base):FnOk P w K mg base (CX1 P w) 10 T.zgg.f T.zgg.d zcp (zoqb K T.zml T.znc T.e_NoCard.c):=by
 refine T.zgg.okx zjf ?_;rintro f c A o s H vs Q E hr ⟨v0,rfl,hv⟩ X;refine⟨_,  (zca (zqb (zak (zxh (zza zgw rfl T.zvc yhe (zaa (pv 0) (zaa (zlkb (v:=.ty "str") rfl T.zrp yph rfl) zba)))))
   (zia (zxg rfl rfl T.e_NoCard.m T.e_NoCard.q zsm zea))
   zra)
  (zca (zta (i:=1) zjf.nd rfl (.inl rfl) (zog yta yyc yzc zdk (pv 0) (zaa zea zba)))
  (zca (zqb (zma zdx (zza zya rfl T.zme yza (zaa (pv 1) zba)) (zcb zfd zga (zle (v:=.int 3) rfl T.zmk ⟨_,rfl⟩)) (zxa _))
   (zia (zxg rfl rfl T.e_NoCard.m T.e_NoCard.q zsm zea))
   zra)
  (zca (zta (i:=2) zjf.nd rfl (.inl rfl) (zdz T.zoc.M (zygb T).up hr rfl T.zseb (zem T) .nil zib (zaa (zlb zbb (pv 1) zga (λ_ _=>rfl)) zba)))
  (zca (zta (i:=3) zjf.nd rfl (.inl rfl) (zkc (pv 2) T.zjb T.zvb.M (zaf T).up hr (ztf T) .nil zxd))
  (zca (zta (i:=4) zjf.nd rfl (.inl rfl) (zkc (pv 2) T.zjb T.zeb.M (zcc T zxf).up hr (zic T) .nil zxd))
  (zca (zta (i:=5) zjf.nd rfl (.inl rfl) (zkc (pv 2) T.zjb T.zeb.M (zcc T zxf).up hr (zic T) .nil zxd))
  (zca (zta (i:=6) zjf.nd rfl (.inl rfl) (zka (zjz T).up hr rfl T.zef.m T.zef.F.kp (zidb T) .nil zxd (zaa (zkc (pv 2) T.zjb T.zwc.M (zzg T).up hr (zgi T) .nil zxd) zba)))
  (zca (zsk (zkc (pv 2) T.zjb T.zld.M (zwm T).up hr (zdo T) .nil zxd))
  (zia (zpa (zdz T.zrd.M (zzrb T).up hr rfl T.zfpb (zqw T) .nil zib (zaa (pv 3) (zaa (pv 4) (zaa (pv 5) (zaa (pv 6) (zaa (zrc zxl rfl T.zbr boot_tuple (zaa (zjnb (own:=["rule"]) (cap:=[]) rfl (zvd.chk rfl rfl) .nil (zbz (zlc zgf (pv 1) (ztd zga) zud)) (λ_ _ _ _ oB=>(zwd (i:=0) (show ygg (["rule"]:List Str) by decide +kernel) rfl (.inl rfl))) (λ_ _ _ _ oB=>zvl) (λ_ _ _ _ oB=>by exact (zka (zybb T kb) hr rfl T.zfg.m T.zfg.F.kp (zefb T) .nil (zlxb oB) (zaa (pv 0) zba)))) zba)) zba))))))))))))))))),?_⟩
 rcases hv with⟨t,rfl,sm,q,qe⟩|⟨⟨ty,ht,hk⟩,qe⟩
 case inr =>
  refine⟨_,rfl,_,_,ty,false,rfl,ht,.inl ⟨"str",rfl,hk⟩,false,rfl,?_⟩;exact iteT qe
 refine⟨_,rfl,_,_,.type "str",true,rfl,TyOf.str _,.inl ⟨"str",rfl,rfl⟩,true,rfl,?_⟩;refine iteF ?_;have tl:=sm.1;have hpt:=ztj (s:=" / ") sm;obtain⟨hd,ps,es⟩:Ex2 λhd ps=>yma t " / " = hd::ps:=by
  cases e:yma t " / " with
  | nil=>exact absurd e (znh _ _)
  | cons a b=>exact⟨a,b,rfl⟩
 have rc:zwf t=if ps.length+1≤4 then (zmf (yma hd " ")).bind λh=>(ztc ps).map λrs=>⟨h.1,h.2.1,h.2.2.1,h.2.2.2,rs⟩ else none:=by
  unfold zwf;rw[es];rfl
 refine⟨_,rfl,rfl,_,_,rfl,rfl,(by decide +kernel),(by have:yua=16777216:=rfl;omega),λl hl=>?_⟩;rw[es] at hpt ⊢;have S1:=zja hl (.lst ((hd::ps).map V.str));have e1:upd H l (.lst ((hd::ps).map V.str)) l=some (.lst ((hd::ps).map V.str)):=zda;generalize upd H l (.lst ((hd::ps).map V.str))=H1 at *;refine⟨_,rfl,l,_,rfl,.inl (SqL.of e1),_,_,rfl,rfl,_,_,rfl,rfl,_,rfl,?_⟩;refine ite2 (λz=>?_) (λz=>?_)
 ·have z':=of_decide_eq_true z;rw[yaa,yia] at z';exact qe (by rw[rc,if_neg (by omega)]) H1 S1
 have few:ps.length≤3:=by
  have z':¬ ((((hd::ps).map V.str).length:Int)>1+3):=λy=>z (decide_eq_true y);rw[yaa,yia] at z';omega
 rw[if_pos (by omega)] at rc;have smh:=hpt hd yqa;have wdh:=smh.wds (s:=" ");refine⟨_,rfl,l,_,_,_,rfl,rfl,SqL.of e1,zec (j:=0) rfl,?_⟩;intro x dx nx ndx nex;refine⟨x,dx,_,rfl,zda,(ypa smh.1 (by decide)),λH2 W2 B2=>⟨rfl,?_⟩⟩;have S2:Same H1 H2:=λb o e=>B2 b o (zva e nx) (by rw[zfb (zva e nx),zfb (zva e ndx)];exact e);have sb:∀{H':Hp},But x H2 H'->Same H H':=λB' b o e=>B' b o (zva (S1 _ _ e) nx) (S2 _ _ (S1 _ _ e));have hmk:∀u,(yma hd " ")[3]?=some u->(yma u ",").length≤20:=λu hu=>commas (ztj (s:=" ") smh u (yva hu));generalize yma hd " " = ws at *;have no:zmf ws=none->zwf t=none:=λz=>by rw[rc,z];rfl
 obtain⟨dx2,l2,at2,_⟩:=id W2;refine⟨_,rfl,x,dx2,_,rfl,at2,zzd _ _ (by decide +kernel) (by decide +kernel),x,ws,0,rfl,W2,ydc _,wdh,λn H3 hn nm W3 B3=>?_,λz H3 B3=>qe (no (by unfold zmf;rw[show zzj ws 0=none from zqm z];rfl)) H3 (sb B3)⟩;have r1:zzj ws 0=some (.name n,1):=zbv hn nm;obtain⟨dx3,l3,at3,_⟩:=id W3;refine⟨_,rfl,x,dx3,_,rfl,at3,zzd _ _ (by decide +kernel) (by decide +kernel),x,ws,1,rfl,W3,zod hn,wdh,λi H4 hi i1 W4 B4=>?_,λz H4 B4=>qe (no (by unfold zmf;rw[r1];show (zlf ws 1).bind _=_;rw[show zlf ws 1=none from zdj z];rfl)) H4 (sb (B3.trans B4))⟩;have r2:zlf ws 1=some (.num i,2):=zad i1 hi;obtain⟨dx4,l4,at4,_⟩:=id W4;refine⟨_,rfl,x,dx4,_,rfl,at4,zzd _ _ (by decide +kernel) (by decide +kernel),x,ws,2,rfl,W4,zod hi,wdh,λj H5 hj j1 W5 B5=>?_,λz H5 B5=>qe (no (by unfold zmf;rw[r1];show (zlf ws 1).bind _=_;rw[r2];show (zlf ws 2).bind _=_;rw[show zlf ws 2=none from zdj z];rfl)) H5 (sb ((B3.trans B4).trans B5))⟩;have r3:zlf ws 2=some (.num j,3):=zad j1 hj;have B25:=(B3.trans B4).trans B5;have hh:zmf ws=(ws[3]?).bind λu=>(zbd u).bind λms=>if ws.length=4 then some (n,i,j,ms) else none:=by
  unfold zmf;rw[r1];show (zlf ws 1).bind _=_
  rw[r2];show (zlf ws 2).bind _=_
  rw[r3];rfl
 obtain⟨dx5,l5,at5,_⟩:=id W5;refine⟨_,rfl,x,dx5,_,rfl,at5,zzd _ _ (by decide +kernel) (by decide +kernel),x,ws,3,rfl,W5,zod hj,λu H6 hu W6 B6=>?_,λz=>qe (no (by rw[hh,z];rfl)) H5 (sb B25)⟩;have B26:=B25.trans B6;refine⟨u,rfl,wdh u (yva hu),hmk u hu,λms m H7 hm S7 em=>?_,λz H7 S7=>qe (no (by rw[hh,hu];show (zbd u).bind _=_;rw[z];rfl)) H7 ((sb B26).trans S7)⟩;have W7:=W6.at S7;obtain⟨dx7,l7,at7,_⟩:=id W7;have S07:=(sb B26).trans S7;refine⟨_,rfl,x,dx7,_,rfl,at7,zzd _ _ (by decide +kernel) (by decide +kernel),x,ws,4,rfl,W7,zod hu,λew=>?_,λew=>qe (no (by rw[hh,hu];show (zbd u).bind _=_;rw[hm];exact if_neg (by omega))) H7 S07⟩;have hh4:zmf ws=some (n,i,j,ms):=by
  rw[hh,hu];show (zbd u).bind _=_
  rw[hm];exact if_pos ew.symm
 rw[hh4] at rc;have rc':zwf t=(ztc ps).map λrs=>⟨n,i,j,ms,rs⟩:=rc;have nlx:=zva e1 nx;have e7:H7 l=some (.lst ((hd::ps).map V.str)):=S7 _ _ (B26 _ _ nlx (S2 _ _ e1));clear W2 W3 W4 W5 W6 at2 at3 at4 at5;refine⟨_,rfl,_,rfl,_,rfl,_,rfl,_,rfl,_,rfl,l,_,rfl,SqL.of e7,λs1 hs1=>?_⟩;have ct:cutV ((hd::ps).map V.str) (some (1:Int)) none=ps.map V.str:=by
  have:=zll ((hd::ps).map V.str) 1;exact this
 rw[ct];have S8:=zja hs1 (.lst (ps.map V.str));have e8:upd H7 s1 (.lst (ps.map V.str)) s1=some (.lst (ps.map V.str)):=zda;generalize upd H7 s1 (.lst (ps.map V.str))=H8 at *;refine⟨s1,rfl,⟨_,SqL.of e8⟩,?_⟩;refine zew (xs:=ps.map V.str) (λi ys H'=>Same H8 H'∧i≤ps.length∧∃rs,ztc (ps.take i)=some rs∧IsRules T.znc H' ys rs) (λi ys H' z=>SqL.of (z.1 _ _ e8)) ⟨Same.refl _,ydc _,[],rfl,.nil⟩ ?_ ?_ ?_
 ·rintro i ys H' ⟨_,hi,rs,er,R⟩;have z:=zdv er;rw[ypb] at z;rw[R.length];exact small (by omega)
 ·rintro i v ys H' hx ⟨S3,hi,rs,er,R⟩;obtain⟨r,hrr,rfl⟩:∃r,ps[i]?=some r∧V.str r=v:=by
   rw[yxb] at hx;cases z:ps[i]? with
   | none=>rw[z] at hx;cases hx
   | some m=>rw[z] at hx;cases hx;exact⟨m,rfl,rfl⟩
  have hmem:=yva hrr;have smr:=hpt r (yla _ hmem);refine⟨rfl,_,rfl,r,rfl,(ypa smr.1 (by decide)),smr.wds,λy u H9 hy S9 IR=>⟨S3.trans S9,?_,rs++[y],?_,IsRules.snoc IR (R.same S9)⟩,λz H9 S9=>qe (by rw[rc',zos z hmem];rfl) H9 (S07.trans (S8.trans (S3.trans S9)))⟩
  ·exact (ylb.mp hrr).1
  ·rw[ywb,hrr,yzg,zns,er];show (zmd (yma r " ")).map _=_
   rw[hy];rfl
 ·rintro ys H9 ⟨S9,_,rs,er,R⟩ b hb;rw[yaa,ybd] at er;rw[er] at rc';refine⟨b,_,rfl,.inl ⟨SqL.of zda,λt ht=>?_⟩⟩;have S10:=zja hb (.lst ys);generalize upd H9 b (.lst ys)=H10 at *;have S11:=zja ht (.tup ys);have e11:upd H10 t (.tup ys) t=some (.tup ys):=zda;have Sall:Same H (upd H10 t (.tup ys)):=λb o e=>S11 _ _ (S10 _ _ (S9 _ _ (S8 _ _ (S07 _ _ e))));have em11:=S11 _ _ (S10 _ _ (S9 _ _ (S8 _ _ em)));have R11:=R.same (S10.trans S11);generalize upd H10 t (.tup ys)=H11 at *;intro y dy ny ndy ney;have S12:∀o,Same H11 (upd (upd (upd H11 dy (.own y)) y (.ins T.zml dy [])) y o):=λo b u e=>by
   rw[zsl,zfb (zva e ny),zfb (zva e ndy)];exact e
  refine⟨y,dy,m,t,n,i,j,rfl,zda,rfl,?_⟩;exact q ⟨n,i,j,ms,rs⟩ _ _ rc' (Sall.trans (S12 _)) ⟨y,dy,m,t,ys,rfl,zda,S12 _ _ _ em11,S12 _ _ _ e11,R11.same (S12 _)⟩
theorem zjd {ss ws:List Str}{k j:Nat}{u:Str}(h:zac ss ws k=some (u,j)):u∈ss∧j=k+1∧ws.drop k=u::ws.drop j:=by
 unfold zac at h;obtain⟨x,e,h⟩:=yja.mp h
 split at h
 ·rename_i m;cases h;exact⟨m,rfl,drop_cons e⟩
 ·cases h
theorem zibb {ws:List Str}{k j:Nat}{y:Wh}(h:rdW ws k=some (y,j)):plain y∧ws.drop k=y.words++ws.drop j:=by
 unfold rdW at h;obtain⟨⟨fl,i⟩,e,h⟩:=yja.mp h;obtain⟨y0,ok,hs,rfl,hd⟩:=zbeb e;have z:=zoy y0 [];rw[yrb] at z;have h':(znl y0.flat).head?.map (λy=>(y,i))=some (y,j):=h;rw[z] at h';cases h';exact⟨⟨ok,hs⟩,hd⟩
theorem zkbb {ws:List Str}{k j:Nat}{v:Wv}(h:zzj ws k=some (v,j)):∃n,v = .name n∧znd n∧ws.drop k=v.words++ws.drop j:=by
 obtain⟨n,rfl,ok,rfl,e⟩:=zlt h;exact⟨n,rfl,ok,drop_cons e⟩
theorem zmt {ws:List Str}{k j:Nat}{v:Wv}(h:zlf ws k=some (v,j)):∃i:Nat,v = .num i∧i<1000∧ws.drop k=v.words++ws.drop j:=by
 obtain⟨n,rfl,ok,rfl,e⟩:=zvh h;exact⟨n,rfl,ok,drop_cons e⟩
theorem mem2 {u a b:Str}(h:u∈([a,b]:List Str)):u=a∨u=b:=by simpa using h
theorem mem3 {u a b c:Str}(h:u∈([a,b,c]:List Str)):u=a∨u=b∨u=c:=by simpa using h
theorem zqgb {u:Str}{ws:List Str}{k j:Nat}{v:Wv}(hu:u∈zqa)(h:zwh u ws k=some (v,j)):zql u v∧ws.drop k=v.words++ws.drop j:=by
 unfold zwh at h
 by_cases c:u = "leave"
 ·rw[if_pos c] at h;cases h;rw[c];exact⟨.leave,rfl⟩
 rw[if_neg c] at h
 by_cases c2:u∈(["gain","lack"]:List Str)
 ·rw[if_pos c2] at h;obtain⟨n,rfl,ok,hd⟩:=zkbb h
  rcases mem2 c2 with e|e<;>rw[e]
  ·exact⟨.gain ok,hd⟩
  ·exact⟨.lack ok,hd⟩
 rw[if_neg c2] at h;obtain⟨n,rfl,ok,hd⟩:=zmt h;refine⟨?_,hd⟩;simp only[zqa,yda,ycb,or_false] at hu
 rcases hu with e|e|e|e|e|e|e
 ·exact absurd e c
 ·rw[e];exact .hurt ok
 ·exact absurd (by rw[e];simp) c2
 ·exact absurd (by rw[e];simp) c2
 ·rw[e];exact .lose ok
 ·rw[e];exact .score ok
 ·rw[e];exact .draw ok
theorem zxjb {u:Str}{ws:List Str}{k j:Nat}{v:Wv}(hu:u∈(["none","here","less","more","as"]:List Str))(h:zkf u ws k=some (v,j)):TurnOk u v∧ws.drop k=v.words++ws.drop j:=by
 unfold zkf at h
 by_cases c:u∈(["less","more"]:List Str)
 ·rw[if_pos c] at h;obtain⟨n,rfl,ok,hd⟩:=zmt h
  rcases mem2 c with e|e<;>rw[e]
  ·exact⟨.less ok,hd⟩
  ·exact⟨.more ok,hd⟩
 rw[if_neg c] at h
 by_cases c2:u = "as"
 ·rw[if_pos c2] at h;obtain⟨⟨x,i⟩,e,h⟩:=yvb.mp h;cases h;obtain⟨m,_,hd⟩:=zjd e;rw[c2];exact⟨.as m,hd⟩
 rw[if_neg c2] at h;cases h;refine⟨?_,rfl⟩;simp only[yda,ycb,or_false] at hu
 rcases hu with e|e|e|e|e
 ·rw[e];exact .none
 ·rw[e];exact .here
 ·exact absurd (by rw[e];simp) c
 ·exact absurd (by rw[e];simp) c
 ·exact absurd e c2
theorem zuab {k u:Str}(h:u∈turns k):u∈(["none","here","less","more","as"]:List Str):=by
 unfold turns at h
 split at h
 ·revert u;decide +kernel
 ·split at h
  ·revert u;decide +kernel
  ·split at h
   ·revert u;decide +kernel
   ·split at h
    ·revert u;decide +kernel
    ·revert u;decide +kernel
theorem zdeb {u:Str}{ws:List Str}{k j:Nat}{v:Hv}(hu:u∈changes)(h:zpb u ws k=some (v,j)):zvf u v∧ws.drop k=v.words++ws.drop j:=by
 unfold zpb at h
 by_cases c:u∈(["gain","lack"]:List Str)
 ·rw[if_pos c] at h;obtain⟨⟨x,i⟩,e,h⟩:=yvb.mp h;cases h;obtain⟨n,rfl,ok,hd⟩:=zkbb e
  rcases mem2 c with e|e<;>rw[e]
  ·exact⟨.gain ok,hd⟩
  ·exact⟨.lack ok,hd⟩
 rw[if_neg c] at h
 by_cases c2:u∈(["be","more","less"]:List Str)
 ·rw[if_pos c2] at h;obtain⟨⟨x,i⟩,e,h⟩:=yvb.mp h;cases h;obtain⟨n,rfl,ok,hd⟩:=zmt e
  rcases mem3 c2 with e|e|e<;>rw[e]
  ·exact⟨.be ok,hd⟩
  ·exact⟨.more ok,hd⟩
  ·exact⟨.less ok,hd⟩
 rw[if_neg c2] at h
 by_cases c3:u = "per"
 ·rw[if_pos c3] at h;obtain⟨⟨x,i⟩,e,h⟩:=yvb.mp h;cases h;obtain⟨pl,hd⟩:=zibb e;rw[c3];exact⟨.per pl,hd⟩
 rw[if_neg c3] at h;cases h;refine⟨?_,rfl⟩;simp only[changes,yda,ycb,or_false] at hu
 rcases hu with e|e|e|e|e|e|e|e
 ·rw[e];exact .mute
 ·rw[e];exact .steal
 ·exact absurd (by rw[e];simp) c
 ·exact absurd (by rw[e];simp) c
 ·exact absurd (by rw[e];simp) c2
 ·exact absurd (by rw[e];simp) c2
 ·exact absurd (by rw[e];simp) c2
 ·exact absurd e c3
theorem zmbb {ws:List Str}{k j:Nat}{d:Deed}(h:zpc ws k=some (d,j)):d.ok∧ws.drop k=d.words++ws.drop j:=by
 unfold zpc at h;obtain⟨⟨a,i1⟩,e1,h⟩:=yja.mp h;obtain⟨⟨b,i2⟩,e2,h⟩:=yja.mp h;obtain⟨⟨c,i3⟩,e3,h⟩:=yja.mp h;obtain⟨⟨y,i4⟩,e4,h⟩:=yvb.mp h;cases h;obtain⟨m1,_,d1⟩:=zjd e1;obtain⟨m2,_,d2⟩:=zjd e2;obtain⟨m3,d3⟩:=zqgb m2 e3;obtain⟨m4,d4⟩:=zibb e4;refine⟨⟨m1,m3,m4⟩,?_⟩;rw[d1,d2,d3,d4];unfold Deed.words;simp
theorem zzjb {ws:List Str}{r:Rule}(h:zmd ws=some r):r.ok∧r.words=ws:=by
 unfold zmd at h;obtain⟨⟨a,i0⟩,e0,h⟩:=yja.mp h;obtain⟨⟨r',i⟩,e1,hfin⟩:=yja.mp h;obtain⟨m0,rfl,d0⟩:=zjd e0;rw[yoh] at d0;have hi:i=ws.length∧r'=r:=by
  have h3:(if i=ws.length then some r' else none)=some r:=hfin
  by_cases z:i=ws.length
  ·rw[if_pos z] at h3;exact⟨z,ynb h3⟩
  ·rw[if_neg z] at h3;cases h3
 obtain⟨rfl,rfl⟩:=hi;have e1':(if a = "hold" then zke ws 1 else if a = "when" then zoe ws 1 else if a = "instead" then zsb ws 1 else zoi ws 1)=some (r',ws.length):=e1
 by_cases c:a = "hold"
 ·rw[if_pos c] at e1';unfold zke at e1';obtain⟨⟨x,i1⟩,f1,h⟩:=yja.mp e1';obtain⟨⟨y,i2⟩,f2,h⟩:=yja.mp h;obtain⟨⟨z,i3⟩,f3,h⟩:=yvb.mp h;injection h with h1 h2
  subst h1;have h2':i3=ws.length:=h2;obtain⟨m1,_,d1⟩:=zjd f1;obtain⟨m2,d2⟩:=zdeb m1 f2;obtain⟨m3,d3⟩:=zibb f3;refine⟨⟨m2,m3⟩,?_⟩;rw[d0,c];show _=("hold":Str)::ws.drop 1
  rw[d1,d2,d3,h2',yvh,yrb];rfl
 rw[if_neg c] at e1'
 by_cases c:a = "when"
 ·rw[if_pos c] at e1';unfold zoe at e1';obtain⟨⟨x,i1⟩,f1,h⟩:=yja.mp e1';obtain⟨⟨y,i2⟩,f2,h⟩:=yja.mp h;obtain⟨⟨z,i3⟩,f3,h⟩:=yja.mp h;obtain⟨⟨d,i4⟩,f4,h⟩:=yvb.mp h;injection h with h1 h2
  subst h1;have h2':i4=ws.length:=h2;obtain⟨m1,_,d1⟩:=zjd f1;obtain⟨m2,d2⟩:=zibb f2;obtain⟨m3,_,d3⟩:=zjd f3;obtain⟨m4,d4⟩:=zmbb f4;refine⟨⟨m1,m2,m4⟩,?_⟩;rw[d0,c];show _=("when":Str)::ws.drop 1
  rw[d1,d2,d3,d4,h2',yvh,yrb,yca.mp m3];rfl
 rw[if_neg c] at e1'
 by_cases c:a = "instead"
 ·rw[if_pos c] at e1';unfold zsb at e1';obtain⟨⟨x,i1⟩,f1,h⟩:=yja.mp e1';obtain⟨⟨y,i2⟩,f2,h⟩:=yja.mp h;obtain⟨⟨z,i3⟩,f3,h⟩:=yja.mp h;obtain⟨⟨t,i4⟩,f4,h⟩:=yja.mp h;obtain⟨⟨v,i5⟩,f5,h⟩:=yvb.mp h;injection h with h1 h2
  subst h1;have h2':i5=ws.length:=h2;obtain⟨m1,_,d1⟩:=zjd f1;obtain⟨m2,d2⟩:=zibb f2;obtain⟨m3,_,d3⟩:=zjd f3;obtain⟨m4,_,d4⟩:=zjd f4;obtain⟨m5,d5⟩:=zxjb (zuab m4) f5;refine⟨⟨m1,m2,m4,m5⟩,?_⟩;rw[d0,c];show _=("instead":Str)::ws.drop 1
  rw[d1,d2,d3,d4,d5,h2',yvh,yrb,yca.mp m3];rfl
 rw[if_neg c] at e1';have ca:a = "may":=by
  simp only[sorts,yda,ycb,or_false] at m0
  rcases m0 with e|e|e|e
  ·exact absurd e (by assumption)
  ·exact absurd e (by assumption)
  ·exact absurd e (by assumption)
  ·exact e
 unfold zoi at e1';obtain⟨⟨x,i1⟩,f1,h⟩:=yja.mp e1';obtain⟨⟨y,i2⟩,f2,h⟩:=yja.mp h;obtain⟨⟨d,i3⟩,f3,h⟩:=yvb.mp h;injection h with h1 h2
 subst h1;have h2':i3=ws.length:=h2;obtain⟨n,rfl,m1,d1⟩:=zmt f1;obtain⟨m2,_,d2⟩:=zjd f2;obtain⟨m3,d3⟩:=zmbb f3;refine⟨⟨m1,m3⟩,?_⟩;rw[d0,ca];show _=("may":Str)::ws.drop 1
 rw[d1,d2,d3,h2',yvh,yrb,yca.mp m2];rfl
theorem zyhb {u:Str}{ms:List Str}(hl:(yma u ",").length≤20)(h:zbd u=some ms):Marks ms∧zce ms=u:=by
 unfold zbd at h
 by_cases c:u = "-"
 ·rw[if_pos c] at h;cases h;exact⟨⟨by simp,ywl,rfl,by decide⟩,c.symm⟩
 rw[if_neg c] at h
 split at h
 ·rename_i z;cases h;refine⟨⟨λm hm=>zyv (yyb.mp z.1 _ (yrg hm)),z.2.1,z.2.2,hl⟩,?_⟩;have e:yea "," (yma u ",")=u:=ygd u ",";cases hs:yma u "," with
  | nil=>exact absurd hs (znh _ _)
  | cons a b =>
   rw[hs] at e;exact e
 ·cases h
theorem zbkb {ws:List Str}{n:Str}{i j:Nat}{ms:List Str}(hl:∀u,ws[3]?=some u->(yma u ",").length≤20)(h:zmf ws=some (n,i,j,ms)):znd n∧i<1000∧j<1000∧Marks ms∧ws=[n,toString (i:Int),toString (j:Int),zce ms]:=by
 unfold zmf at h;obtain⟨⟨a,i1⟩,e1,h⟩:=yja.mp h;obtain⟨⟨b,i2⟩,e2,h⟩:=yja.mp h;obtain⟨⟨c,i3⟩,e3,h⟩:=yja.mp h;obtain⟨u,e4,h⟩:=yja.mp h;obtain⟨mm,e5,h⟩:=yja.mp h
 split at h
 ·rename_i z;obtain⟨n1,rfl,k1,rfl,d1⟩:=zlt e1;obtain⟨n2,rfl,k2,rfl,d2⟩:=zvh e2;obtain⟨n3,rfl,k3,rfl,d3⟩:=zvh e3;obtain⟨k5,d5⟩:=zyhb (hl u e4) e5;cases h;refine⟨k1,k2,k3,k5,?_⟩
  match ws,z,d1,d2,d3,e4 with
  | [w0,w1,w2,w3],_,d1,d2,d3,e4 =>
   cases d1;cases e4;have d2':w1=_:=ynb d2;have d3':w2=_:=ynb d3;rw[d2',d3',d5];rfl
 ·cases h
theorem zay:∀{ts:List Str} {rs:List Rule},ztc ts=some rs->(∀r∈rs,r.ok)∧ts=rs.map zdd
 | [],rs,h=>by
  cases h;exact⟨by simp,rfl⟩
 | x::r,rs,h=>by
  have h':(zmd (yma x " ")).bind (λz=>(ztc r).map λy=>z::y)=some rs:=h;obtain⟨z,e1,h2⟩:=yja.mp h';obtain⟨y,e2,h3⟩:=yvb.mp h2;subst h3;obtain⟨o1,w1⟩:=zzjb e1;obtain⟨o2,w2⟩:=zay e2;refine⟨λq hq=>?_,?_⟩
  ·rcases yda.mp hq with e|e
   ·rw[e];exact o1
   ·exact o2 q e
  ·rw[ytb,← w2]
   congr 1
   unfold zdd;rw[w1];exact (ygd x " ").symm
theorem zdkb {t:Str}{c:Crd}(sm:Sm t 10000 19)(h:zwf t=some c):c.ok∧c.text=t:=by
 have hpt:=ztj (s:=" / ") sm;have ej:yea " / " (yma t " / ")=t:=ygd t " / ";unfold zwf at h
 split at h
 ·rename_i z;obtain⟨⟨n,i,j,ms⟩,e1,h⟩:=yja.mp h;obtain⟨rs,e2,h⟩:=yvb.mp h;subst h;cases es:yma t " / " with
  | nil=>exact absurd es (znh _ _)
  | cons hd ps =>
   rw[es] at e1 e2 z ej hpt;have smh:=hpt hd yqa;obtain⟨k1,k2,k3,k4,k5⟩:=zbkb (λu hu=>commas (ztj (s:=" ") smh u (yva hu))) e1;obtain⟨o2,w2⟩:=zay e2;have w2':ps=rs.map zdd:=w2;refine⟨⟨k1,k2,k3,k4,o2,?_⟩,?_⟩
   ·have:ps.length=rs.length:=by rw[w2',yaa]
    rw[yia] at z;show rs.length≤3
    omega
   ·show yea " / " (yea " " [n,toString (i:Int),toString (j:Int),zce ms]::rs.map zdd)=t;rw[← k5,← w2'];have k6:yea " " (yma hd " ")=hd:=ygd hd " ";show yea " / " (yea " " (yma hd " ")::ps)=t
    rw[k6];exact ej
 ·cases h
section
variable {ws rest:List Str}{k:Nat}
theorem zwg {ss:List Str}{u:Str}(m:u∈ss)(h:ws.drop k=u::rest):zac ss ws k=some (u,k+1):=by
 unfold zac;rw[(zdc h).1];exact if_pos m
theorem zgbb {y:Wh}(p:plain y)(h:ws.drop k=y.words++rest):rdW ws k=some (y,k+y.words.length):=zujb (zzmb p.1 p.2 h)
theorem zrm {n:Str}(o:znd n)(h:ws.drop k=n::rest):zzj ws k=some (.name n,k+1):=zbv (zdc h).1 (zoo o)
theorem zag {i:Nat}(o:i<1000)(h:ws.drop k=(toString (i:Int):Str)::rest):zlf ws k=some (.num i,k+1):=zad o (zdc h).1
theorem zanb {u:Str}{v:Wv}(a:zql u v)(h:ws.drop k=v.words++rest):zwh u ws k=some (v,k+v.words.length):=by
 unfold zwh;cases a with
 | leave=>rw[if_pos rfl];rfl
 | gain o=>rw[if_neg (by decide +kernel),if_pos (by decide +kernel)];exact zrm o h
 | lack o=>rw[if_neg (by decide +kernel),if_pos (by decide +kernel)];exact zrm o h
 | hurt o=>rw[if_neg (by decide +kernel),if_neg (by decide +kernel)];exact zag o h
 | lose o=>rw[if_neg (by decide +kernel),if_neg (by decide +kernel)];exact zag o h
 | score o=>rw[if_neg (by decide +kernel),if_neg (by decide +kernel)];exact zag o h
 | draw o=>rw[if_neg (by decide +kernel),if_neg (by decide +kernel)];exact zag o h
theorem zwjb {u:Str}{v:Wv}(a:TurnOk u v)(h:ws.drop k=v.words++rest):zkf u ws k=some (v,k+v.words.length):=by
 unfold zkf;cases a with
 | none=>rw[if_neg (by decide +kernel),if_neg (by decide +kernel)];rfl
 | here=>rw[if_neg (by decide +kernel),if_neg (by decide +kernel)];rfl
 | less o=>rw[if_pos (by decide +kernel)];exact zag o h
 | more o=>rw[if_pos (by decide +kernel)];exact zag o h
 | as o=>rw[if_neg (by decide +kernel),if_pos rfl,zwg o h];rfl
theorem zceb {u:Str}{v:Hv}(a:zvf u v)(h:ws.drop k=v.words++rest):zpb u ws k=some (v,k+v.words.length):=by
 unfold zpb;cases a with
 | mute=>rw[if_neg (by decide +kernel),if_neg (by decide +kernel),if_neg (by decide +kernel)];rfl
 | steal=>rw[if_neg (by decide +kernel),if_neg (by decide +kernel),if_neg (by decide +kernel)];rfl
 | gain o=>rw[if_pos (by decide +kernel),zrm o h];rfl
 | lack o=>rw[if_pos (by decide +kernel),zrm o h];rfl
 | be o=>rw[if_neg (by decide +kernel),if_pos (by decide +kernel),zag o h];rfl
 | more o=>rw[if_neg (by decide +kernel),if_pos (by decide +kernel),zag o h];rfl
 | less o=>rw[if_neg (by decide +kernel),if_pos (by decide +kernel),zag o h];rfl
 | per o=>rw[if_neg (by decide +kernel),if_neg (by decide +kernel),if_pos rfl,zgbb o h];rfl
theorem zlbb {d:Deed}(ok:d.ok)(h:ws.drop k=d.words++rest):zpc ws k=some (d,k+d.words.length):=by
 have h1:ws.drop k=d.each::(d.kind::(d.amt.words++(d.whom.words++rest))):=by rw[h];unfold Deed.words;simp
 have h2:=(zdc h1).2;have h3:=(zdc h2).2;have h4:=ztq h3;unfold zpc;rw[zwg ok.each h1];show (zac zqa ws (k+1)).bind _=_
 rw[zwg ok.amt.kind h2];show (zwh d.kind ws (k+1+1)).bind _=_
 rw[zanb ok.amt h3];show (rdW ws (k+1+1+d.amt.words.length)).map _=_
 rw[zgbb ok.whom h4];show some (_,_)=_
 unfold Deed.words;simp only[yia,yha]
 congr 2
 omega
end
theorem zyjb {r:Rule}(ok:r.ok):zmd r.words=some r:=by
 have key:∀{a:Str} {ws:List Str} {R:Option (Rule×Nat)},r.words=a::ws->a∈sorts->R=(if a = "hold" then zke r.words 1 else if a = "when" then zoe r.words 1 else if a = "instead" then zsb r.words 1 else zoi r.words 1)->R=some (r,r.words.length)->zmd r.words=some r:=λ{a ws R} h m e1 e2=>by
  unfold zmd;rw[zwg (k:=0) m (by rw[yoh];exact h)];show (if a = "hold" then zke r.words 1 else if a = "when" then zoe r.words 1 else if a = "instead" then zsb r.words 1 else zoi r.words 1).bind _=_
  rw[← e1,e2];exact if_pos rfl
 cases r with
 | hold w v y =>
  refine key rfl (by decide +kernel) (if_pos rfl).symm ?_;obtain⟨o1,o2⟩:=ok;have h1:(Rule.hold w v y).words.drop 1=w::(v.words++(y.words++[])):=by rw[yrb];rfl
  have h2:=(zdc h1).2;have h3:=ztq h2;unfold zke;rw[zwg o1.word h1];show (zpb w _ (1+1)).bind _=_
  rw[zceb o1 h2];show (rdW _ (1+1+v.words.length)).map _=_
  rw[zgbb o2 h3];show some (_,_)=_
  unfold Rule.words;simp only[yia,yha]
  congr 2
  omega
 | wen k y d =>
  refine key rfl (by decide +kernel) (by rw[if_neg (by decide +kernel),if_pos rfl]) ?_;obtain⟨o1,o2,o3⟩:=ok;have h1:(Rule.wen k y d).words.drop 1=k::(y.words++(("do":Str)::(d.words++[]))):=by rw[yrb];rfl
  have h2:=(zdc h1).2;have h3:=ztq h2;have h4:=(zdc h3).2;unfold zoe;rw[zwg o1 h1];show (rdW _ (1+1)).bind _=_
  rw[zgbb o2 h2];show (zac ["do"] _ (1+1+y.words.length)).bind _=_
  rw[zwg (by simp) h3];show (zpc _ (1+1+y.words.length+1)).map _=_
  rw[zlbb o3 h4];show some (_,_)=_
  unfold Rule.words;simp only[yia,yha]
  congr 2
  omega
 | instead k y w v =>
  refine key rfl (by decide +kernel) (by rw[if_neg (by decide +kernel),if_neg (by decide +kernel),if_pos rfl]) ?_;obtain⟨o1,o2,o3,o4⟩:=ok;have h1:(Rule.instead k y w v).words.drop 1=k::(y.words++(("do":Str)::(w::(v.words++[])))):=by rw[yrb];rfl
  have h2:=(zdc h1).2;have h3:=ztq h2;have h4:=(zdc h3).2;have h5:=(zdc h4).2;unfold zsb;rw[zwg o1 h1];show (rdW _ (1+1)).bind _=_
  rw[zgbb o2 h2];show (zac ["do"] _ (1+1+y.words.length)).bind _=_
  rw[zwg (by simp) h3];show (zac (turns k) _ (1+1+y.words.length+1)).bind _=_
  rw[zwg o3 h4];show (zkf w _ (1+1+y.words.length+1+1)).map _=_
  rw[zwjb o4 h5];show some (_,_)=_
  unfold Rule.words;simp only[yia,yha]
  congr 2
  omega
 | may c d =>
  refine key rfl (by decide +kernel) (by rw[if_neg (by decide +kernel),if_neg (by decide +kernel),if_neg (by decide +kernel)]) ?_;obtain⟨o1,o2⟩:=ok;have h1:(Rule.may c d).words.drop 1=(toString (c:Int):Str)::(("do":Str)::(d.words++[])):=by rw[yrb];rfl
  have h2:=(zdc h1).2;have h3:=(zdc h2).2;unfold zoi;rw[zag o1 h1];show (zac ["do"] (Rule.may c d).words (1+1)).bind (λb=>(zpc (Rule.may c d).words b.2).map λx=>(Rule.may c x.1,x.2))=_
  rw[zwg (by simp) h2];show (zpc _ (1+1+1)).map _=_
  rw[zlbb o2 h3];show some (_,_)=_
  unfold Rule.words;simp only[yia,yha]
  congr 2
  omega
theorem zxhb {ms:List Str}(h:Marks ms):zbd (zce ms)=some ms:=by
 unfold zbd
 by_cases hne:ms=[]
 ·subst hne;exact if_pos rfl
 rw[if_neg (zpkb h hne)];have es:yma (zce ms) "," = ms:=zqeb h hne;rw[es];refine if_pos ⟨?_,h.nd,h.so⟩;rw[yyb];intro x hx;obtain⟨m,hm,rfl⟩:=ykb.mp hx;exact zoo (h.ok m hm)
theorem zakb {c:Crd}(h:c.ok):zmf c.head=some (c.name,c.cost,c.force,c.marks):=by
 unfold zmf;rw[zrm (k:=0) (ws:=c.head) (rest:=_) h.name rfl];show (zlf c.head 1).bind _=_
 rw[zag (k:=1) (ws:=c.head) (rest:=_) h.cost rfl];show (zlf c.head 2).bind _=_
 rw[zag (k:=2) (ws:=c.head) (rest:=_) h.force rfl];show (zbd (zce c.marks)).bind _=_
 rw[zxhb h.marks];show (if c.head.length=4 then some (c.name,c.cost,c.force,c.marks) else none)=_
 exact if_pos rfl
theorem zzx:∀{rs:List Rule},(∀r∈rs,r.ok)->ztc (rs.map zdd)=some rs
 | [],_=>rfl
 | r::rs,h=>by
  have o:=h r yqa;have e:yma (zdd r) " " = r.words:=zer (c:=32) r.zve (λu hu=>(Rule.zlg o u hu).1.1);show (zmd (yma (zdd r) " ")).bind (λz=>(ztc (rs.map zdd)).map λy=>z::y)=_
  rw[e,zyjb o,zzx λq hq=>h q (yla _ hq)];rfl
theorem zckb {c:Crd}(h:c.ok):zwf c.text=some c:=by
 have es:yma c.text " / " = yea " " c.head::c.rules.map zdd:=Crd.split h;have eh:yma (yea " " c.head) " " = c.head:=Crd.zmib h;unfold zwf;rw[es,if_pos (by rw[yia,yaa];have:=h.few;omega)];show (zmf (yma (yea " " c.head) " ")).bind _=_
 rw[eh,zakb h];show (ztc (c.rules.map zdd)).map _=_
 rw[zzx h.rules];rfl
theorem ztt (v:Wv):v.words.length≤1:=by cases v<;>simp[Wv.words]
theorem zrab {y:Wh}(h:plain y):y.words.length≤18:=by
 have a:=y.zut;have b:=h.2;omega
theorem zjpb {u:Str}{v:Hv}(h:zvf u v):v.words.length≤18:=by
 cases v with
 | v x=>exact ypa (ztt x) (by decide)
 | w y =>
  cases h with
  | per h=>exact zrab h
theorem zpt {d:Deed}(h:d.ok):d.words.length≤21:=by
 have a:=zrab h.whom;have b:=ztt d.amt;have e:d.words.length=d.amt.words.length+d.whom.words.length+1+1:=by
  show (d.each::d.kind::(d.amt.words++d.whom.words)).length=_
  rw[yia,yia,yha]
 omega
theorem zxmb {r:Rule}(h:r.ok):r.words.length≤50:=by
 cases r with
 | hold u v y =>
  have a:=zrab h.2;have b:=zjpb h.1;show (("hold":Str)::u::(v.words++y.words)).length≤50
  rw[yia,yia,yha];omega
 | wen u y d =>
  have a:=zrab h.2.1;have b:=zpt h.2.2;show (("when":Str)::u::(y.words++("do":Str)::d.words)).length≤50
  rw[yia,yia,yha,yia];omega
 | instead u y t v =>
  have a:=zrab h.2.1;have b:=ztt v;show (("instead":Str)::u::(y.words++("do":Str)::t::v.words)).length≤50
  rw[yia,yia,yha,yia,yia];omega
 | may c d =>
  have b:=zpt h.2;show (("may":Str)::(toString (c:Int):Str)::("do":Str)::d.words).length≤50
  rw[yia,yia,yia];omega
theorem text_len {ws:List Str}(h:∀u∈ws,zuw u):(yea " " ws).length≤9*ws.length:=by
 have a:=zgk " " ws;have c:=zun (l:=ws.map (·.length)) (k:=8) (λx hx=>by
  obtain⟨u,hu,rfl⟩:=ykb.mp hx;exact (h u hu).2.2)
 rw[yaa] at c;have e:(" ":Str).length=1:=rfl;rw[e] at a;omega
theorem zbq {r:Rule}(h:r.ok):(zdd r).length≤450:=by
 have a:=text_len (ws:=r.words) (λu hu=>(Rule.zlg h u hu).1);have b:=zxmb h;show (yea " " r.words).length≤450
 omega
theorem zeqb {c:Crd}(h:c.ok):c.text.length≤2000:=by
 have a:=zgk SL (yea " " c.head::c.rules.map zdd);have b:=Crd.znn h;have s:=zun (l:=(c.rules.map zdd).map (·.length)) (k:=450) (λx hx=>by
  obtain⟨t,ht,rfl⟩:=ykb.mp hx;obtain⟨r,hr,rfl⟩:=ykb.mp ht;exact zbq (h.rules r hr))
 have e:SL.length=3:=rfl;have f:=h.few;rw[ytb,ych,yia,e] at a;rw[yaa,yaa] at s;rw[yaa] at a;show (yea SL (yea " " c.head::c.rules.map zdd)).length≤2000
 have:c.rules.length*450≤3*450:=yai _ f;omega
theorem zwl (s:Str)(xs zs:List Str){ys:List Str}(h:ys≠[]):yea s (xs++(yea s ys::zs))=yea s (xs++(ys++zs)):=by
 have e:=zxv s (xss:=xs.map (λx=>[x])++(ys::zs.map λx=>[x])) (λx hx=>by
  rcases yna.mp hx with hx|hx
  ·obtain⟨y,_,rfl⟩:=ykb.mp hx;exact yad _ _
  ·rcases yda.mp hx with rfl|hx
   ·exact h
   ·obtain⟨y,_,rfl⟩:=ykb.mp hx;exact yad _ _)
 rw[yqg,ycd,zxz,zxz,ydb,ytb,yrh,yrh] at e;have i:∀l:List Str,l.map (yea s∘λx=>[x])=l:=λl=>by
  induction l with
  | nil=>rfl
  | cons x r ih=>rw[ytb,ih];rfl
 rw[i,i] at e;exact e
def SV (D:Addr)(H:Hp)(x:V)(ws:List Str):Prop :=
 (x = .non∧ws=[])∨(∃y,IsW D H x y∧plain y∧ws=[yea " " y.words])∨(∃u,x = .str u∧ws=[u])∨(∃i:Nat,i<1000∧x = .int i∧ws=[(toString (i:Int):Str)])
theorem zsy {x:V}{u:Str}(hv:(x = .str u)∨∃i:Nat,i<1000∧x = .int i∧u=(toString (i:Int):Str))(H0:Hp)(Q':VK)(z:Q' (.str u) H0):rStrAny [x] H0 Q':=by
 unfold rStrAny
 rcases hv with e|⟨i,hi,e,rfl⟩
 ·exact .inl ⟨u,by rw[e],z⟩
 ·exact .inr ⟨i,by rw[e],(by rw[yod];exact zdi i hi),z⟩
def zrqb (D:Addr):Sp:=λvs H Q _=>Ex2 λx (ws:List Str)=>vs=[x]∧SV D H x ws∧∀p H',Same H H'->H' p=some (.lst (ws.map V.str))->Q (.ref p) H'
def ztqb (D:Addr):Sp:=λvs H Q _=>Ex2 λv (d:Deed)=>vs=[v]∧zbx D H v d∧d.ok∧∀H',Same H H'->Q (.str (yea " " d.words)) H'
def zsqb (D:Addr):Sp:=λvs H Q _=>Ex2 λv (r:Rule)=>vs=[v]∧zpl D H v r∧r.ok∧∀H',Same H H'->Q (.str (zdd r)) H'
def zuqb (B D:Addr):Sp:=λvs H Q _=>Ex2 λv (c:Crd)=>vs=[v]∧zvpb B D H v c∧c.ok∧∀H',Same H H'->Q (.str c.text) H'
theorem zgq (T:Tx K mg):FnOk P w K mg base CX0 12 T.zyd.f T.zyd.d zcn (zrqb T.znc):=by
 refine T.zyd.ok zwy ?_;rintro f c A o s H vs Q E hr ⟨x,ws,rfl,hv,q⟩ X;refine⟨_,  (zca (zqb (zma zcvb (pv 0) zcy (zxa _))
   (zia (zpa (zob zba)))
   zra)
  (zca (zqb (zxh (zza zgw rfl T.zvc yhe (zaa (pv 0) (zaa (zle (v:=.ref T.znc) rfl T.zqkb rfl) zba))))
   (zia (zpa (zob (zaa (zkc (pv 0) T.zpg T.zwb.M (zkn T 9) hr (zih T) .nil zib) zba))))
   zra)
  (zia (zpa (zob (zaa (zrc znk rfl T.zrp yph (zaa (pv 0) zba)) zba)))))),?_⟩
 refine⟨_,rfl,rfl,_,rfl,?_⟩
 rcases hv with⟨rfl,rfl⟩|⟨y,W,pl,rfl⟩|⟨u,rfl,rfl⟩|⟨i,hi,rfl,rfl⟩
 ·exact iteT ⟨sz0,λl hl=>q l _ (zja hl _) zda⟩
 ·cases W with
  | @mk a dx t ps _ h1 h2 h3 =>
  refine iteF ⟨_,rfl,_,_,_,true,rfl,T.zpcb.ty T.zpg h1,.inr ⟨_,rfl,T.zpcb.self⟩,_,rfl,iteT ?_⟩;refine⟨_,rfl,a,dx,_,rfl,h1,zgy _ _ _ (by decide +kernel) (by decide +kernel) (by decide +kernel),.ref a,y,rfl,.mk h1 h2 h3,pl.1,(ypa y.zuq pl.2),pl.2,λH1 S1=>?_⟩;exact⟨sz1,λl hl=>q l _ (S1.trans (zja hl _)) zda⟩
 ·refine iteF ⟨_,rfl,_,_,_,false,rfl,TyOf.str _,.inr ⟨_,rfl,T.zpcb.sO⟩,_,rfl,iteF ?_⟩;refine⟨_,rfl,?_⟩;refine zsy (.inl rfl) _ _ ?_;exact⟨sz1,λl hl=>q l _ (zja hl _) zda⟩
 ·refine iteF ⟨_,rfl,_,_,_,false,rfl,TyOf.int _,.inr ⟨_,rfl,T.zpcb.iO⟩,_,rfl,iteF ?_⟩;refine⟨_,rfl,?_⟩;refine zsy (.inr ⟨i,hi,rfl,rfl⟩) _ _ ?_;exact⟨sz1,λl hl=>q l _ (zja hl _) zda⟩
theorem zxi {ws:List Str}{s:Str}(hs:s.length≤3)(hn:ws.length≤60)(h:∀u∈ws,u.length≤2000):(ws.map (·.length)).sum+ws.length*s.length≤16777216:=by
 have c:=zun (l:=ws.map (·.length)) (k:=2000) (λx hx=>by
  obtain⟨u,hu,rfl⟩:=ykb.mp hx;exact h u hu)
 rw[yaa] at c;have a:ws.length*2000≤60*2000:=yai _ hn;have b:ws.length*s.length≤60*3:=Nat.mul_le_mul hn hs;omega
theorem zvob {k:Str}{v:Wv}(h:zql k v)(n:k ≠ "leave"):∃u,v.words=[u]∧((amtV v = .str u)∨∃i:Nat,i<1000∧amtV v = .int i∧u=(toString (i:Int):Str)):=by
 cases h with
 | leave=>exact absurd rfl n
 | gain h=>exact⟨_,rfl,.inl rfl⟩
 | lack h=>exact⟨_,rfl,.inl rfl⟩
 | hurt h=>exact⟨_,rfl,.inr ⟨_,h,rfl,rfl⟩⟩
 | lose h=>exact⟨_,rfl,.inr ⟨_,h,rfl,rfl⟩⟩
 | score h=>exact⟨_,rfl,.inr ⟨_,h,rfl,rfl⟩⟩
 | draw h=>exact⟨_,rfl,.inr ⟨_,h,rfl,rfl⟩⟩
theorem zfmb {k:Str}{v:Wv}(h:zql k v)(n:k = "leave"):v.words=[]:=by
 cases h with
 | leave=>rfl
 | _=>exact absurd n (by decide)
theorem zss (T:Tx K mg):FnOk P w K mg base CX0 12 T.zre.f T.zre.d zzo (ztqb T.znc):=by
 refine T.zre.ok zcs ?_;rintro f c A o s H vs Q E hr ⟨x,d,rfl,⟨a,y,rfl,h1,W⟩,ok,q⟩ X;refine⟨_,  (zca (zta (i:=1) zcs.nd rfl (.inl rfl) (zwgb (zma zed (zlb zuf (pv 0) zga (λ_ _=>rfl)) zea (zxa _)) (zob zba) (zob (zaa (zrc znk rfl T.zrp yph (zaa (zlb zuf (pv 0) zga (λ_ _=>rfl)) zba)) zba))))
  (zia (zpa (zog yta yhb yib zof zea (zaa (zcb zze (zcb zze (zob (zaa (zlb zuf (pv 0) zga (λ_ _=>rfl)) (zaa (zlb zuf (pv 0) zga (λ_ _=>rfl)) zba))) (pv 1)) (zob (zaa (zkc (zlb zuf (pv 0) zga (λ_ _=>rfl)) T.zpg T.zwb.M (zkn T 9) hr (zih T) .nil zib) zba))) zba))))),?_⟩
 refine⟨_,rfl,a,_,_,_,rfl,rfl,SqT.of h1,zec (j:=1) rfl,rfl,_,rfl,?_⟩;refine ite2 (λc=>?g1) (λc=>?g2)
 case' g1 =>
  have ek:d.kind = "leave":=by
   have c':=of_decide_eq_true c;injection c' with c'
  have ea:=zfmb ok.amt ek;refine⟨sz0,λl hl=>?_⟩;have S1:=zja hl (.lst []);have e1:upd H l (.lst []) l=some (.lst (d.amt.words.map V.str)):=by rw[ea];exact zda
  generalize upd H l (.lst [])=H1 at *
 case' g2 =>
  have ek:d.kind ≠ "leave":=λz=>c (by rw[z];rfl);obtain⟨u,ea,hv⟩:=zvob ok.amt ek;refine⟨_,rfl,a,_,_,_,rfl,rfl,SqT.of h1,zec (j:=2) rfl,?_⟩;refine zsy hv _ _ ?_;refine⟨sz1,λl hl=>?_⟩;have S1:=zja hl (.lst [.str u]);have e1:upd H l (.lst [.str u]) l=some (.lst (d.amt.words.map V.str)):=by rw[ea];exact zda
  generalize upd H l (.lst [.str u])=H1 at *
 all_goals
  refine⟨rfl,_,rfl,a,_,_,_,rfl,rfl,SqT.of (S1 _ _ h1),zec (j:=0) rfl,_,rfl,a,_,_,_,rfl,rfl,SqT.of (S1 _ _ h1),zec (j:=1) rfl,sz2,λl1 hl1=>?_⟩;have S2:=zja hl1 (.lst [.str d.each,.str d.kind]);have e2:upd H1 l1 (.lst [.str d.each,.str d.kind]) l1=some (.lst [.str d.each,.str d.kind]):=zda;generalize upd H1 l1 (.lst [.str d.each,.str d.kind])=H2 at *;have al:=ztt d.amt;refine⟨_,rfl,l1,l,_,_,rfl,rfl,e2,S2 _ _ e1,(by rw[yaa];exact small (by show 2+d.amt.words.length≤1000;omega)),λp hp=>?_⟩;have S3:=zja hp (.lst ([.str d.each,.str d.kind]++d.amt.words.map V.str));have e3:upd H2 p (.lst ([.str d.each,.str d.kind]++d.amt.words.map V.str)) p=some (.lst ((d.each::d.kind::d.amt.words).map V.str)):=zda;generalize upd H2 p (.lst ([.str d.each,.str d.kind]++d.amt.words.map V.str))=H3 at *;have S03:=S1.trans (S2.trans S3);refine⟨_,rfl,a,_,_,_,rfl,rfl,SqT.of (S03 _ _ h1),zec (j:=3) rfl,?_⟩;have W3:=W.same S03;obtain⟨y1,y2⟩:=ok.whom;cases W3 with
  | @mk a' dx t ps _ k1 k2 k3 =>
  refine⟨a',dx,_,rfl,k1,zgy _ _ _ (by decide +kernel) (by decide +kernel) (by decide +kernel),.ref a',d.whom,rfl,.mk k1 k2 k3,y1,(ypa d.whom.zuq y2),y2,λH4 S4=>?_⟩;refine⟨sz1,λl2 hl2=>?_⟩;have S5:=zja hl2 (.lst [.str (yea " " d.whom.words)]);have e5:upd H4 l2 (.lst [.str (yea " " d.whom.words)]) l2=some (.lst [.str (yea " " d.whom.words)]):=zda;generalize upd H4 l2 (.lst [.str (yea " " d.whom.words)])=H5 at *;refine⟨p,l2,_,_,rfl,rfl,S5 _ _ (S4 _ _ e3),e5,(by rw[yaa];exact small (by show d.amt.words.length+1+1+1≤1000;omega)),λp2 hp2=>?_⟩;refine⟨" ",p2,(d.each::d.kind::d.amt.words)++[yea " " d.whom.words],rfl,rfl,SqL.of (by rw[zda,ydb];rfl),zxi (by decide) ?_ ?_,?_⟩
  ·rw[yha];show d.amt.words.length+1+1+1≤60
   omega
  ·intro u hu
   rcases yna.mp hu with hu|hu
   ·have hw:u∈d.words:=by
     show u∈d.each::d.kind::(d.amt.words++d.whom.words)
     rcases yda.mp hu with rfl|hu
     ·exact yqa
     ·rcases yda.mp hu with rfl|hu
      ·exact yla _ yqa
      ·exact yla _ (yla _ (ycc _ hu))
    exact ypa (Deed.zlg ok u hw).1.2.2 (by decide)
   ·rw[yca.mp hu];exact ypa (zyt y1 y2) (by decide)
  ·rw[zwl " " (d.each::d.kind::d.amt.words) [] d.whom.zve,yrb];exact q _ ((S03.trans (S4.trans S5)).trans (zja hp2 _))
def hvs:Hv->List Str
 | .v x=>x.words
 | .w y=>[yea " " y.words]
theorem zkqb {D:Addr}{H:Hp}{x:V}{u:Str}{v:Hv}(h:zvf u v)(hv:HvAt D H x v):SV D H x (hvs v):=by
 cases h with
 | mute=>exact .inl ⟨hv,rfl⟩
 | steal=>exact .inl ⟨hv,rfl⟩
 | gain h=>exact .inr (.inr (.inl ⟨_,hv,rfl⟩))
 | lack h=>exact .inr (.inr (.inl ⟨_,hv,rfl⟩))
 | be h=>exact .inr (.inr (.inr ⟨_,h,hv,rfl⟩))
 | more h=>exact .inr (.inr (.inr ⟨_,h,hv,rfl⟩))
 | less h=>exact .inr (.inr (.inr ⟨_,h,hv,rfl⟩))
 | per h=>exact .inr (.inl ⟨_,hv,h,rfl⟩)
theorem zjqb {D:Addr}{H:Hp}{u:Str}{v:Wv}(h:TurnOk u v):SV D H (valV v) v.words:=by
 cases h with
 | none=>exact .inl ⟨rfl,rfl⟩
 | here=>exact .inl ⟨rfl,rfl⟩
 | less h=>exact .inr (.inr (.inr ⟨_,h,rfl,rfl⟩))
 | more h=>exact .inr (.inr (.inr ⟨_,h,rfl,rfl⟩))
 | as h=>exact .inr (.inr (.inl ⟨_,rfl,rfl⟩))
theorem zmsb {u:Str}{v:Hv}(h:zvf u v):(hvs v).length≤1∧∀z∈hvs v,z.length≤2000:=by
 cases h with
 | per h=>exact⟨yxa _,λz hz=>by rw[yca.mp hz];exact ypa (zyt h.1 h.2) (by decide)⟩
 | mute=>exact⟨by decide,λz hz=>by cases hz⟩
 | steal=>exact⟨by decide,λz hz=>by cases hz⟩
 | gain h=>exact⟨yxa _,λz hz=>by rw[yca.mp hz];exact ypa h.2.1 (by decide)⟩
 | lack h=>exact⟨yxa _,λz hz=>by rw[yca.mp hz];exact ypa h.2.1 (by decide)⟩
 | be h=>exact⟨yxa _,λz hz=>by rw[yca.mp hz];exact ypa (ztk _ h).2 (by decide)⟩
 | more h=>exact⟨yxa _,λz hz=>by rw[yca.mp hz];exact ypa (ztk _ h).2 (by decide)⟩
 | less h=>exact⟨yxa _,λz hz=>by rw[yca.mp hz];exact ypa (ztk _ h).2 (by decide)⟩
theorem zykb (u:Str)(v:Hv)(y:Wh):yea " " ((("hold":Str)::u::hvs v)++[yea " " y.words])=zdd (.hold u v y):=by
 rw[zwl " " _ [] y.zve,yrb];cases v with
 | v x=>rfl
 | w z =>
  show yea " " ([("hold":Str),u]++(yea " " z.words::y.words))=_
  rw[zwl " " _ _ z.zve];rfl
theorem zweb (d:Deed):d.words≠[]:=yad _ _
theorem zmmb (u:Str)(y:Wh)(d:Deed):yea " " [("when":Str),u,yea " " y.words,"do",yea " " d.words]=zdd (.wen u y d):=by
 show yea " " ([("when":Str),u]++(yea " " y.words::[("do":Str),yea " " d.words]))=_
 rw[zwl " " _ _ y.zve];have e:[("when":Str),u]++(y.words++[("do":Str),yea " " d.words])=([("when":Str),u]++(y.words++[("do":Str)]))++(yea " " d.words::[]):=by simp
 rw[e,zwl " " _ _ (zweb d)];unfold zdd Rule.words;simp
theorem zocb (u:Str)(y:Wh)(t:Str)(v:Wv):yea " " ([("instead":Str),u,yea " " y.words,"do",t]++v.words)=zdd (.instead u y t v):=by
 show yea " " ([("instead":Str),u]++(yea " " y.words::("do":Str)::t::v.words))=_
 rw[zwl " " _ _ y.zve];rfl
theorem zrnb (c:Nat)(d:Deed):yea " " [("may":Str),(toString (c:Int):Str),"do",yea " " d.words]=zdd (.may c d):=by
 show yea " " ([("may":Str),(toString (c:Int):Str),"do"]++(yea " " d.words::[]))=_
 rw[zwl " " _ _ (zweb d),yrb];rfl
theorem zmlb {d:Deed}(h:d.ok):(yea " " d.words).length≤2000:=by
 have a:=text_len (ws:=d.words) (λu hu=>(Deed.zlg h u hu).1);have b:=zpt h;omega
theorem zli {u:Str}(h:zur u):u.length≤2000:=ypa h.1.2.2 (by decide)
theorem zzpb {y:Wh}(h:plain y):(yea " " y.words).length≤2000:=ypa (zyt h.1 h.2) (by decide)
theorem zii {l:List Str}(h:∀u∈l,u.length≤2000){x:Str}(hx:x.length≤2000):∀u∈x::l,u.length≤2000:=λu hu=>by
 rcases yda.mp hu with rfl|hu
 ·exact hx
 ·exact h u hu
theorem zfcb:∀u∈([]:List Str),u.length≤2000:=λu hu=>by cases hu
theorem zwbb (T:Tx K mg):FnOk P w K mg base CX0 13 T.zdg.f T.zdg.d zyo (zsqb T.znc):=by
 refine T.zdg.ok zth ?_;rintro f c A o s H vs Q E hr ⟨z,r,rfl,IR,ok,q⟩ X;refine⟨_,  (zca (zqb (zma zed (zlb zuf (pv 0) zga (λ_ _=>rfl)) zea (zxa _))
   (zia (zta (i:=1) zth.nd rfl (.inl rfl) (zcb zze (zcb zze (zob (zaa zea (zaa (zlb zuf (pv 0) zga (λ_ _=>rfl)) zba))) (zka (zgq T) hr rfl T.zyd.m T.zyd.F.kp (zat T) .nil zib (zaa (zlb zuf (pv 0) zga (λ_ _=>rfl)) zba))) (zob (zaa (zkc (zlb zuf (pv 0) zga (λ_ _=>rfl)) T.zpg T.zwb.M (zkn T 9).up hr (zih T) .nil zib) zba)))))
   (zia (zqb (zma zed (zlb zuf (pv 0) zga (λ_ _=>rfl)) zea (zxa _))
    (zia (zta (i:=1) zth.nd rfl (.inl rfl) (zob (zaa zea (zaa (zlb zuf (pv 0) zga (λ_ _=>rfl)) (zaa (zkc (zlb zuf (pv 0) zga (λ_ _=>rfl)) T.zpg T.zwb.M (zkn T 9).up hr (zih T) .nil zib) (zaa zea (zaa (zka (zss T) hr rfl T.zre.m T.zre.F.kp (zkw T) .nil zib (zaa (zlb zuf (pv 0) zga (λ_ _=>rfl)) zba)) zba))))))))
    (zia (zqb (zma zed (zlb zuf (pv 0) zga (λ_ _=>rfl)) zea (zxa _))
     (zia (zta (i:=1) zth.nd rfl (.inl rfl) (zcb zze (zob (zaa zea (zaa (zlb zuf (pv 0) zga (λ_ _=>rfl)) (zaa (zkc (zlb zuf (pv 0) zga (λ_ _=>rfl)) T.zpg T.zwb.M (zkn T 9).up hr (zih T) .nil zib) (zaa zea (zaa (zlb zuf (pv 0) zga (λ_ _=>rfl)) zba)))))) (zka (zgq T) hr rfl T.zyd.m T.zyd.F.kp (zat T) .nil zib (zaa (zlb zuf (pv 0) zga (λ_ _=>rfl)) zba)))))
     (zia (zta (i:=1) zth.nd rfl (.inl rfl) (zob (zaa zea (zaa (zrc znk rfl T.zrp yph (zaa (zlb zuf (pv 0) zga (λ_ _=>rfl)) zba)) (zaa zea (zaa (zka (zss T) hr rfl T.zre.m T.zre.F.kp (zkw T) .nil zib (zaa (zlb zuf (pv 0) zga (λ_ _=>rfl)) zba)) zba))))))))))))
  (zia (zpa (zog yta yhb yib zof zea (zaa (pv 1) zba))))),?_⟩
 cases r with
 | hold u v y =>
  obtain⟨a,x,o,rfl,h1,hv,W⟩:=IR;obtain⟨ok1,ok2⟩:=ok;have hl:=zmsb ok1;refine⟨_,rfl,a,_,_,_,rfl,rfl,SqT.of h1,zec (j:=0) rfl,rfl,_,rfl,iteT ?_⟩;refine⟨_,rfl,a,_,_,_,rfl,rfl,SqT.of h1,zec (j:=1) rfl,sz2,λl1 hl1=>?_⟩;have S1:=zja hl1 (.lst [.str "hold",.str u]);have e1:upd H l1 (.lst [.str "hold",.str u]) l1=some (.lst [.str "hold",.str u]):=zda;generalize upd H l1 (.lst [.str "hold",.str u])=H1 at *;refine⟨_,rfl,a,_,_,_,rfl,rfl,SqT.of (S1 _ _ h1),zec (j:=2) rfl,x,hvs v,rfl,zkqb ok1 (hv.same S1),λp H2 S2 e2=>?_⟩;refine⟨l1,p,_,_,rfl,rfl,S2 _ _ e1,e2,(by rw[yaa];exact small (by show 2+(hvs v).length≤1000;omega)),λp3 hp3=>?_⟩;have S3:=zja hp3 (.lst ([.str "hold",.str u]++(hvs v).map V.str));have e3:upd H2 p3 (.lst ([.str "hold",.str u]++(hvs v).map V.str)) p3=some (.lst ((("hold":Str)::u::hvs v).map V.str)):=zda;generalize upd H2 p3 (.lst ([.str "hold",.str u]++(hvs v).map V.str))=H3 at *;have S03:=S1.trans (S2.trans S3);refine⟨_,rfl,a,_,_,_,rfl,rfl,SqT.of (S03 _ _ h1),zec (j:=3) rfl,?_⟩;have W3:=W.same S03;cases W3 with
  | @mk a' dx t ps _ k1 k2 k3 =>
  refine⟨a',dx,_,rfl,k1,zgy _ _ _ (by decide +kernel) (by decide +kernel) (by decide +kernel),.ref a',y,rfl,.mk k1 k2 k3,ok2.1,(ypa y.zuq ok2.2),ok2.2,λH4 S4=>?_⟩;refine⟨sz1,λl2 hl2=>?_⟩;have S5:=zja hl2 (.lst [.str (yea " " y.words)]);have e5:upd H4 l2 (.lst [.str (yea " " y.words)]) l2=some (.lst [.str (yea " " y.words)]):=zda;generalize upd H4 l2 (.lst [.str (yea " " y.words)])=H5 at *;refine⟨p3,l2,_,_,rfl,rfl,S5 _ _ (S4 _ _ e3),e5,(by rw[yaa];exact small (by show (hvs v).length+1+1+1≤1000;omega)),λp6 hp6=>?_⟩;refine⟨rfl,_,rfl," ",p6,(("hold":Str)::u::hvs v)++[yea " " y.words],rfl,rfl,SqL.of (by rw[zda,ydb];rfl),zxi (by decide) ?_ ?_,?_⟩
  ·rw[yha];show (hvs v).length+1+1+1≤60
   omega
  ·intro z hz
   rcases yna.mp hz with hz|hz
   ·exact zii (zii hl.2 (zli (ztn (l:=changes) (by decide +kernel) ok1.word))) (by decide) z hz
   ·rw[yca.mp hz];exact zzpb ok2
  ·rw[zykb];exact q _ ((S03.trans (S4.trans S5)).trans (zja hp6 _))
 | wen u y d =>
  obtain⟨a,x,o,rfl,h1,W,ID⟩:=IR;obtain⟨ok1,ok2,ok3⟩:=ok;refine⟨_,rfl,a,_,_,_,rfl,rfl,SqT.of h1,zec (j:=0) rfl,rfl,_,rfl,iteF ?_⟩;refine⟨_,rfl,a,_,_,_,rfl,rfl,SqT.of h1,zec (j:=0) rfl,rfl,_,rfl,iteT ?_⟩;refine⟨_,rfl,a,_,_,_,rfl,rfl,SqT.of h1,zec (j:=1) rfl,_,rfl,a,_,_,_,rfl,rfl,SqT.of h1,zec (j:=2) rfl,?_⟩;cases id W with
  | @mk a' dx t ps _ k1 k2 k3 =>
  refine⟨a',dx,_,rfl,k1,zgy _ _ _ (by decide +kernel) (by decide +kernel) (by decide +kernel),.ref a',y,rfl,.mk k1 k2 k3,ok2.1,(ypa y.zuq ok2.2),ok2.2,λH4 S4=>?_⟩;refine⟨_,rfl,a,_,_,_,rfl,rfl,SqT.of (S4 _ _ h1),zec (j:=3) rfl,o,d,rfl,ID.same S4,ok3,λH5 S5=>?_⟩;refine⟨sz5,λl hl=>?_⟩;refine⟨rfl,_,rfl," ",l,[("when":Str),u,yea " " y.words,"do",yea " " d.words],rfl,rfl,SqL.of zda,zxi (by decide) (by show 5≤60;decide) ?_,?_⟩
  ·exact zii (zii (zii (zii (zii zfcb (zmlb ok3)) (by decide)) (zzpb ok2)) (zli (ztn (l:=zxc) (by decide +kernel) ok1))) (by decide)
  ·rw[zmmb];exact q _ ((S4.trans S5).trans (zja hl _))
 | instead u y t v =>
  obtain⟨a,x,rfl,h1,W⟩:=IR;obtain⟨ok1,ok2,ok3,ok4⟩:=ok;have vl:=ztt v;refine⟨_,rfl,a,_,_,_,rfl,rfl,SqT.of h1,zec (j:=0) rfl,rfl,_,rfl,iteF ?_⟩;refine⟨_,rfl,a,_,_,_,rfl,rfl,SqT.of h1,zec (j:=0) rfl,rfl,_,rfl,iteF ?_⟩;refine⟨_,rfl,a,_,_,_,rfl,rfl,SqT.of h1,zec (j:=0) rfl,rfl,_,rfl,iteT ?_⟩;refine⟨_,rfl,a,_,_,_,rfl,rfl,SqT.of h1,zec (j:=1) rfl,_,rfl,a,_,_,_,rfl,rfl,SqT.of h1,zec (j:=2) rfl,?_⟩;cases id W with
  | @mk a' dx b ps _ k1 k2 k3 =>
  refine⟨a',dx,_,rfl,k1,zgy _ _ _ (by decide +kernel) (by decide +kernel) (by decide +kernel),.ref a',y,rfl,.mk k1 k2 k3,ok2.1,(ypa y.zuq ok2.2),ok2.2,λH4 S4=>?_⟩;refine⟨_,rfl,a,_,_,_,rfl,rfl,SqT.of (S4 _ _ h1),zec (j:=3) rfl,sz5,λl hl=>?_⟩;have S5:=zja hl (.lst [.str "instead",.str u,.str (yea " " y.words),.str "do",.str t]);have e5:upd H4 l (.lst [.str "instead",.str u,.str (yea " " y.words),.str "do",.str t]) l=some (.lst [.str "instead",.str u,.str (yea " " y.words),.str "do",.str t]):=zda;generalize upd H4 l (.lst [.str "instead",.str u,.str (yea " " y.words),.str "do",.str t])=H5 at *;have h5:=S5 _ _ (S4 _ _ h1);refine⟨_,rfl,a,_,_,_,rfl,rfl,SqT.of h5,zec (j:=4) rfl,valV v,v.words,rfl,zjqb ok4,λp H6 S6 e6=>?_⟩;refine⟨l,p,_,_,rfl,rfl,S6 _ _ e5,e6,(by rw[yaa];exact small (by show 5+v.words.length≤1000;omega)),λp7 hp7=>?_⟩;refine⟨rfl,_,rfl," ",p7,[("instead":Str),u,yea " " y.words,"do",t]++v.words,rfl,rfl,SqL.of (by rw[zda,ydb];rfl),zxi (by decide) ?_ ?_,?_⟩
  ·rw[yha];show 5+v.words.length≤60
   omega
  ·intro z hz
   rcases yna.mp hz with hz|hz
   ·exact zii (zii (zii (zii (zii zfcb (zli ok4.word)) (by decide)) (zzpb ok2)) (zli (ztn (l:=zqa) (by decide +kernel) ok1))) (by decide) z hz
   ·exact zli (ok4.words z hz)
  ·rw[zocb];exact q _ ((S4.trans (S5.trans S6)).trans (zja hp7 _))
 | may c d =>
  obtain⟨a,o,rfl,h1,ID⟩:=IR;obtain⟨ok1,ok2⟩:=ok;refine⟨_,rfl,a,_,_,_,rfl,rfl,SqT.of h1,zec (j:=0) rfl,rfl,_,rfl,iteF ?_⟩;refine⟨_,rfl,a,_,_,_,rfl,rfl,SqT.of h1,zec (j:=0) rfl,rfl,_,rfl,iteF ?_⟩;refine⟨_,rfl,a,_,_,_,rfl,rfl,SqT.of h1,zec (j:=0) rfl,rfl,_,rfl,iteF ?_⟩;refine⟨_,rfl,a,_,_,_,rfl,rfl,SqT.of h1,zec (j:=1) rfl,?_⟩;refine zsy (.inr ⟨c,ok1,rfl,rfl⟩) _ _ ?_;refine⟨_,rfl,a,_,_,_,rfl,rfl,SqT.of h1,zec (j:=2) rfl,o,d,rfl,ID,ok2,λH5 S5=>?_⟩;refine⟨sz4,λl hl=>?_⟩;refine⟨rfl,_,rfl," ",l,[("may":Str),(toString (c:Int):Str),"do",yea " " d.words],rfl,rfl,SqL.of zda,zxi (by decide) (by show 4≤60;decide) ?_,?_⟩
  ·exact zii (zii (zii (zii zfcb (zmlb ok2)) (by decide)) (zli (zjl ok1))) (by decide)
  ·rw[zrnb];exact q _ (S5.trans (zja hl _))
theorem zqob (n:Str)(c f:Nat)(m t:Addr):(cfs n c f m t).lookup ("name":Str)=some (.str n):=zoh
theorem zsob (n:Str)(c f:Nat)(m t:Addr):(cfs n c f m t).lookup ("cost":Str)=some (.int c):=(zmc (by decide +kernel)).trans zoh
theorem zulb (n:Str)(c f:Nat)(m t:Addr):(cfs n c f m t).lookup ("force":Str)=some (.int f):=(zmc (by decide +kernel)).trans ((zmc (by decide +kernel)).trans zoh)
theorem ztlb (n:Str)(c f:Nat)(m t:Addr):(cfs n c f m t).lookup ("marks":Str)=some (.ref m):=(zmc (by decide +kernel)).trans ((zmc (by decide +kernel)).trans ((zmc (by decide +kernel)).trans zoh))
theorem zslb (n:Str)(c f:Nat)(m t:Addr):(cfs n c f m t).lookup ("rules":Str)=some (.ref t):=(zmc (by decide +kernel)).trans ((zmc (by decide +kernel)).trans ((zmc (by decide +kernel)).trans ((zmc (by decide +kernel)).trans zoh)))
def zydb:Sp:=λvs H Q _=>Ex2 λm (us:List Str)=>vs=[.ref m]∧H m=some (.tup (us.map V.str))∧Marks us∧Q (.str (zce us)) H
theorem ziz (T:Tx K mg):FnOk P w K mg base CX0 2 T.zdf.f T.zdf.d zdn zydb:=by
 refine T.zdf.ok zxy ?_;rintro f c A o s H vs Q E hr ⟨m,us,rfl,h2,ok,q⟩ X;refine⟨_,  (zia (zpa (zwgb (zcnb (pv 0) (λ_=>rfl)) (zog yta yhb yib zqnb zea (zaa (pv 0) zba)) zea))),?_⟩;have ml:=ok.le;refine⟨_,rfl,_,.inr (.inl ⟨_,SqT.of h2,rfl⟩),?_⟩;refine ite2 (λb=>?_) (λb=>?_)
 ·have hne:us≠[]:=by
   intro z;rw[z] at b;cases b
  have em:yea "," us=zce us:=by
   cases hc:us with
   | nil=>exact absurd hc hne
   | cons x r=>rfl
  refine⟨rfl,_,rfl,",",m,us,rfl,rfl,SqT.of h2,zxi (by decide) (by omega) (λu hu=>ypa (ok.ok u hu).2.1 (by decide)),?_⟩;rw[em];exact q
 ·have he:us=[]:=by
   cases hc:us with
   | nil=>rfl
   | cons x r=>rw[hc] at b;exact absurd rfl b
  have em:("-":Str)=zce us:=by rw[he];rfl
  rw[em];exact q
theorem zxbb (T:Tx K mg):FnOk P w K mg base CX0 14 T.zeg.f T.zeg.d zap (zuqb T.zml T.znc):=by
 refine T.zeg.ok zds ?_;rintro f c A o s H vs Q E hr ⟨z,c,rfl,⟨a,dx,m,t,vs,rfl,h1,h2,h3,R⟩,ok,q⟩ X;refine⟨_,  (zca (zta (i:=1) zds.nd rfl (.inl rfl) (zog yta yhb yib zof zea (zaa (zob (zaa (zfj (pv 0) rfl) (zaa (zrc zpf rfl T.zrp yph (zaa (zfj (pv 0) rfl) zba)) (zaa (zrc zpf rfl T.zrp yph (zaa (zfj (pv 0) rfl) zba)) (zaa (zka (ziz T).up hr rfl T.zdf.m T.zdf.F.kp (zgdb T) .nil zib (zaa (zfj (pv 0) rfl) zba)) zba))))) zba)))
  (zia (zpa (zog yta yhb yib zof zea (zaa (zcb zze (zob (zaa (pv 1) zba)) (zvm (own:=["rule"]) (cap:=[]) rfl (zvd.chk rfl rfl) .nil (zdpb (zfj (pv 0) rfl)) (λ_ _ _ _=>(zwd (i:=0) (show ygg (["rule"]:List Str) by decide +kernel) rfl (.inl rfl))) (λ_ _ _ _=>zvl) (λ_ _ _ _=>by exact (zka (zwbb T) hr rfl T.zdg.m T.zdg.F.kp (zcfb T) .nil zib (zaa (pv 0) zba))))) zba))))),?_⟩
 have ml:=ok.marks.le;refine⟨rfl,_,rfl,a,_,dx,_,_,rfl,h1,T.zmj,T.zjj,zqob _ _ _ _ _,_,rfl,a,_,dx,_,_,rfl,h1,T.zmj,T.zkj,zsob _ _ _ _ _,_,rfl,(by rw[yod];exact zdi _ ok.cost),_,rfl,a,_,dx,_,_,rfl,h1,T.zmj,T.zci,zulb _ _ _ _ _,_,rfl,(by rw[yod];exact zdi _ ok.force),_,rfl,a,_,dx,_,_,rfl,h1,T.zmj,T.zbi,ztlb _ _ _ _ _,m,c.marks,rfl,h2,ok.marks,sz4,λl hl=>?_⟩;have S1:=zja hl (.lst (c.head.map V.str));have e1:upd H l (.lst (c.head.map V.str)) l=some (.lst (c.head.map V.str)):=zda;refine⟨" ",l,c.head,rfl,rfl,SqL.of zda,zxi (by decide) (by show 4≤60;decide) ?_,?_⟩
 ·exact zii (zii (zii (zii zfcb (ypa (zkl ok.marks).2 (by decide))) (zli (zjl ok.force))) (zli (zjl ok.cost))) (zli (ziq ok.name))
 change _;refine⟨rfl,_,rfl,sz1,λl2 hl2=>?_⟩;have S2:=zja hl2 (.lst [.str (yea " " c.head)]);have e2:=(zda:upd (upd H l (.lst [.str c.name,.str (toString (c.cost:Int)),.str (toString (c.force:Int)),.str (zce c.marks)])) l2 (.lst [.str (yea " " c.head)]) l2=some (.lst [.str (yea " " c.head)]));have S02:Same H (upd (upd H l (.lst [.str c.name,.str (toString (c.cost:Int)),.str (toString (c.force:Int)),.str (zce c.marks)])) l2 (.lst [.str (yea " " c.head)])):=S1.trans S2;clear e1 S2 S1;generalize (upd (upd H l (.lst [.str c.name,.str (toString (c.cost:Int)),.str (toString (c.force:Int)),.str (zce c.marks)])) l2 (.lst [.str (yea " " c.head)]))=H2 at *;refine⟨_,rfl,a,_,dx,_,_,rfl,S02 _ _ h1,T.zmj,T.zai,zslb _ _ _ _ _,t,rfl,⟨_,SqT.of (S02 _ _ h3)⟩,?_⟩;refine zkhb (xs:=vs) (λi ys H'=>Same H2 H'∧i≤vs.length∧ys=(c.rules.take i).map λr=>V.str (zdd r)) (λi ys H' z=>SqT.of (z.1 _ _ (S02 _ _ h3))) ⟨Same.refl _,ydc _,rfl⟩ ?_ ?_ ?_
 ·rintro i ys H' ⟨_,_,rfl⟩;rw[yaa,ypb];have:=ok.few;exact small (by omega)
 ·rintro i x ys H' hx ⟨S3,hi,rfl⟩;obtain⟨r,hr',IR⟩:=R.get hx;refine⟨rfl,_,rfl,x,r,rfl,IR.same (S02.trans S3),ok.rules r (yva hr'),λH4 S4=>⟨S3.trans S4,?_,?_⟩⟩
  ·exact (ylb.mp hx).1
  ·rw[ywb,hr',ydb];rfl
 ·rintro ys H3 ⟨S3,_,rfl⟩ b3 hb3;have rl:=R.length;have few:=ok.few;rw[rl,ybd];have S4:=zja hb3 (.lst (c.rules.map λr=>V.str (zdd r)));have e4:upd H3 b3 (.lst (c.rules.map λr=>V.str (zdd r))) b3=some (.lst (c.rules.map λr=>V.str (zdd r))):=zda;generalize upd H3 b3 (.lst (c.rules.map λr=>V.str (zdd r)))=H4 at *;refine⟨l2,b3,_,_,rfl,rfl,S4 _ _ (S3 _ _ e2),e4,(by rw[yaa];exact small (by show 1+c.rules.length≤1000;omega)),λp hp=>?_⟩;refine⟨" / ",p,yea " " c.head::c.rules.map zdd,rfl,rfl,SqL.of (by rw[zda,ytb,yrh];rfl),zxi (by decide) ?_ ?_,?_⟩
  ·rw[yia,yaa];omega
  ·refine zii (λu hu=>?_) (ypa (Crd.znn ok) (by decide));obtain⟨r,hr',rfl⟩:=ykb.mp hu;exact ypa (zbq (ok.rules r hr')) (by decide)
  ·exact q _ (S02.trans (S3.trans (S4.trans (zja hp _))))
theorem ziw:ywf "ValueError" = some (.type "ValueError"):=by decide +kernel
def badV (H:Hp)(r:V):Prop:=Ex2 λt l=>r = .ref t∧H t=some (.tup [.bl true,.bl true,.ref l])∧H l=some (.lst [.bl false,.bl false,.bl false,.bl false])
def spLT (K:yba):Sp:=λvs H Q _=>∃v,vs=[v]∧((∃t,v = .str t∧Sm t 10000 19∧(∀c,zwf t=some c->∀H',Same H H'->Q (.str t) H')∧(zwf t=none->∀r H',Same H H'->badV H' r->Q r H'))∨(NoTx K H v∧∀r H',Same H H'->badV H' r->Q r H'))
theorem zts (T:Tx K mg)(kb:K.In base):FnOk P w K mg base CX0 15 T.zse.f T.zse.d zep (spLT K):=by
 refine T.zse.ok zvj ?_;rintro f c A o s H vs Q E hr ⟨v0,rfl,hv⟩ X;refine⟨_,  (zca (zuub (k:=2) rfl rfl rfl T.e_FightError.m T.e_FightError.q zvj.nd rfl rfl (λE1 E pn hP=>(zia (zta (i:=1) zvj.nd rfl (.inl rfl) (zka (zxbb T) hr rfl T.zeg.m T.zeg.F.kp (zdfb T) .nil zib (zaa (zka (zzbb T kb).up hr rfl T.zgg.m T.zgg.F.kp (zffb T) .nil hP (zaa (pv 0) zba)) zba))))) λz=>(zca (zta (i:=3) zvj.nd rfl (.inl rfl) (zob (zaa (zza (zsf K) rfl T.zvc yhe (zaa (pv 2) (zaa (zle (v:=.ref T.zst) rfl T.zot rfl) zba))) (zaa (zza (zsf K) rfl T.zvc yhe (zaa (pv 2) (zaa (zle (v:=.ref T.zwq) rfl T.zoq rfl) zba))) (zaa (zza (zsf K) rfl T.zvc yhe (zaa (pv 2) (zaa (zle (v:=.ref T.zxq) rfl T.zpq rfl) zba))) (zaa (zza (zsf K) rfl T.zvc yhe (zaa (pv 2) (zaa (zle (v:=.ref T.znab) rfl T.zvz rfl) zba))) zba))))))
   (zia (zpa (zqc (zaa (zza (zsf K) rfl T.zvc yhe (zaa (pv 2) (zaa (zle (v:=.ref T.e_NoCard.c) rfl T.e_NoCard.m rfl) zba))) (zaa (zza (zsf K) rfl T.zvc yhe (zaa (pv 2) (zaa (zlkb (v:=.ty "ValueError") rfl T.zsj ziw rfl) zba))) (zaa (pv 3) zba))))))))
  (zia (zpa (pv 1)))),?_⟩
 refine⟨_,rfl,_,rfl,?_⟩
 rcases hv with⟨t,rfl,tk,q,qe⟩|⟨nt,qe⟩
 ·refine .inl ⟨t,rfl,tk,λc v H1 hw S1 IC=>?_,λhw H1 S1=>⟨⟨_,rfl,T.e_NoCard.q,T.u_NoCard_FightError⟩,fun σ x hl hx=>?_⟩⟩
  ·obtain⟨ok,et⟩:=zdkb tk hw;refine⟨v,c,rfl,IC,ok,λH2 S2=>?_⟩;rw[et];exact⟨_,rfl,q c hw H2 (S1.trans S2)⟩
  ·match σ,hl with
   | [o0,o1,o2,o3],_ =>
   refine⟨_,rfl,x,_,_,false,rfl,zda,T.e_NoCard.z,.inr ⟨_,rfl,T.v_NoCard_NotNow⟩,_,rfl,x,_,_,false,rfl,zda,T.e_NoCard.z,.inr ⟨_,rfl,T.v_NoCard_NotSame⟩,_,rfl,x,_,_,false,rfl,zda,T.e_NoCard.z,.inr ⟨_,rfl,T.v_NoCard_NoFight⟩,_,rfl,x,_,_,false,rfl,zda,T.e_NoCard.z,.inr ⟨_,rfl,T.v_NoCard_NoRow⟩,sz4,λl hl=>?_⟩;have hx1:upd (upd H1 x (excO x (.ref T.e_NoCard.c))) l (.lst [.bl false,.bl false,.bl false,.bl false]) x=some (excO x (.ref T.e_NoCard.c)):=by
    rw[zfb (zva zda hl)];exact zda
   refine⟨_,rfl,x,_,_,true,rfl,hx1,T.e_NoCard.z,.inr ⟨_,rfl,T.v_NoCard_NoCard⟩,_,rfl,x,_,_,true,rfl,hx1,T.e_NoCard.z,.inl ⟨_,rfl,T.v_NoCard_ValueError⟩,_,rfl,sz3,λt ht=>?_⟩;exact qe hw (.ref t) _ (S1.trans ((zja hx _).trans ((zja hl _).trans (zja ht _)))) ⟨t,l,rfl,zda,zja ht _ _ _ zda⟩
 ·refine .inr ⟨nt,⟨_,rfl,T.e_NoCard.q,T.u_NoCard_FightError⟩,fun σ x hl hx=>?_⟩
  ·have S1:Same H H:=λ_ _ z=>z
   match σ,hl with
   | [o0,o1,o2,o3],_ =>
   refine⟨_,rfl,x,_,_,false,rfl,zda,T.e_NoCard.z,.inr ⟨_,rfl,T.v_NoCard_NotNow⟩,_,rfl,x,_,_,false,rfl,zda,T.e_NoCard.z,.inr ⟨_,rfl,T.v_NoCard_NotSame⟩,_,rfl,x,_,_,false,rfl,zda,T.e_NoCard.z,.inr ⟨_,rfl,T.v_NoCard_NoFight⟩,_,rfl,x,_,_,false,rfl,zda,T.e_NoCard.z,.inr ⟨_,rfl,T.v_NoCard_NoRow⟩,sz4,λl hl=>?_⟩;have hx1:upd (upd H x (excO x (.ref T.e_NoCard.c))) l (.lst [.bl false,.bl false,.bl false,.bl false]) x=some (excO x (.ref T.e_NoCard.c)):=by
    rw[zfb (zva zda hl)];exact zda
   refine⟨_,rfl,x,_,_,true,rfl,hx1,T.e_NoCard.z,.inr ⟨_,rfl,T.v_NoCard_NoCard⟩,_,rfl,x,_,_,true,rfl,hx1,T.e_NoCard.z,.inl ⟨_,rfl,T.v_NoCard_ValueError⟩,_,rfl,sz3,λt ht=>?_⟩;exact qe (.ref t) _ (S1.trans ((zja hx _).trans ((zja hl _).trans (zja ht _)))) ⟨t,l,rfl,zda,zja ht _ _ _ zda⟩
theorem zbib {t:Str}(h:decide (V.int ((t.length:Nat):Int)=V.int 1)=true):zcm t=true:=by
 have h':=of_decide_eq_true h;injection h' with h'
 obtain⟨⟨l⟩⟩:=t;have hl:l.length=1:=by
  have:((l.length:Nat):Int)=1:=h';omega
 match l,hl with
 | [c],_ =>
 unfold zcm
 by_cases e:c=48
 ·subst e;decide +kernel
 ·have z:decide (V.str ⟨#[c]⟩=V.str "0")=false:=decide_eq_false λy=>e (by
   injection y with y
   have y2:=congrArg (λs:Str=>s.cps.getD 0 0) y;exact y2)
  have z2:decide (V.str ⟨#[(⟨[c].toArray⟩:Str).cps.getD 0 0]⟩=V.str "0")=false:=z;rw[z2];simp
theorem zneb {t:Str}(h:¬ V.int ((t.length:Nat):Int)=V.int 1):zcm t = !decide (V.str ⟨#[t.cps.getD 0 0]⟩=V.str "0"):=by
 unfold zcm;have z:decide (V.str t=V.str "0")=false:=decide_eq_false λy=>h (by
  injection y with y
  rw[y];rfl)
 rw[z,ymk]
theorem znf (T:Tx K mg):FnOk P w K mg base CX0 1 T.znb.f T.znb.d zyk zbpb:=by
 refine T.znb.ok zmm ?_;rintro f c A o s H vs Q E hr ⟨t,rfl,hz,q⟩ X;have hz':=zrb (ypa hz (by decide));have q:=q H (Same.refl H);refine⟨_,  (zca (znbb ycg rfl (zugb (pv 0)) (zwd (i:=1) zmm.nd rfl (.inl rfl))
   (zia (zqb (zma zqs (pv 1) zea rfl)
    (zia (zpa zyh))
    zra)))
  (zia (zpa (zez znr znr zga (zza zqf rfl T.zme yza (zaa (pv 0) zba)) zga)))),?_⟩
 refine⟨_,rfl,t,rfl,zglb (λi σ H'=>H'=H∧((t.cps.toList.take i).map λc=>inS c LL).all id=true∧∃o,σ=[some (.str t),o]) ⟨rfl,rfl,_,rfl⟩ ?_ ?_⟩
 ·rintro i c σ H' hc ⟨rfl,ha,o,rfl⟩;refine⟨_,rfl,_,_,rfl,rfl,_,rfl,?_⟩;refine ite2 (λhn=>?_) (λhn=>?_)
  ·have z:¬ inS c LL=true:=λz=>by
    have hn':(!(inS c LL))=true:=hn;rw[z] at hn';cases hn'
   have e:isName t=false:=by
    unfold isName;rw[zldb hc z,yvc]
   rw[e] at q;exact q
  ·have z:inS c LL=true:=by
    cases e:inS c LL with
    | true=>rfl
    | false =>
     refine absurd ?_ hn;show (!(inS c LL))=true
     rw[e];rfl
   exact⟨rfl,zpy hc ha z,_,rfl⟩
 ·rintro σ H' ⟨rfl,ha,o,rfl⟩;have e:isName t=(decide ((0:Int)<((t.length:Nat):Int))&&decide (((t.length:Nat):Int)<9)):=by
   unfold isName short;rw[zsw ha,Bool.and_true]
   congr 1<;>(rw[decide_eq_decide];omega)
  rw[e] at q;refine⟨_,rfl,t,rfl,hz',_,_,rfl,rfl,_,rfl,?_⟩;refine ite2 (λc1=>?_) (λc1=>?_)
  ·rw[c1,ybc] at q;exact⟨_,_,rfl,rfl,q⟩
  ·rw[ygc.mpr c1,yqb] at q;exact q
theorem zuc (T:Tx K mg):FnOk P w K mg base CX0 1 T.zab.f T.zab.d zqi zngb:=by
 refine T.zab.ok zel ?_;rintro f c A o s H vs Q E hr ⟨t,rfl,hz,q⟩ X;have hz':=zrb (ypa hz (by decide));have q:=q H (Same.refl H);refine⟨_,  (zca (znbb ycg rfl (zugb (pv 0)) (zwd (i:=1) zel.nd rfl (.inl rfl))
   (zia (zqb (zma zqs (pv 1) zea rfl)
    (zia (zpa zyh))
    zra)))
  (zia (zpa (zco (zez znr znr zga (zza zqf rfl T.zme yza (zaa (pv 0) zba)) zga) (zum (zzub (zkd zed (zza zqf rfl T.zme yza (zaa (pv 0) zba)) zga (zxa _)) (zum (zkd zjeb (zlb zlcb (pv 0) zga (λ_ _=>rfl)) zea (zxa _))))))))),?_⟩
 refine⟨_,rfl,t,rfl,zglb (λi σ H'=>H'=H∧((t.cps.toList.take i).map λc=>inS c FF).all id=true∧∃o,σ=[some (.str t),o]) ⟨rfl,rfl,_,rfl⟩ ?_ ?_⟩
 ·rintro i c σ H' hc ⟨rfl,ha,o,rfl⟩;refine⟨_,rfl,_,_,rfl,rfl,_,rfl,?_⟩;refine ite2 (λhn=>?_) (λhn=>?_)
  ·have z:¬ inS c FF=true:=λz=>by
    have hn':(!(inS c FF))=true:=hn;rw[z] at hn';cases hn'
   have e:isNumber t=false:=by
    unfold isNumber isWhole;rw[zldb hc z,yqb,yvc]
   rw[e] at q;exact q
  ·have z:inS c FF=true:=by
    cases e:inS c FF with
    | true=>rfl
    | false =>
     refine absurd ?_ hn;show (!(inS c FF))=true
     rw[e];rfl
   exact⟨rfl,zpy hc ha z,_,rfl⟩
 ·rintro σ H' ⟨rfl,ha,o,rfl⟩;have e:isNumber t=((decide ((0:Int)<((t.length:Nat):Int))&&decide (((t.length:Nat):Int)<4))&&zcm t):=by
   unfold isNumber isWhole short;rw[zsw ha,ybc]
   congr 1
   congr 1<;>(rw[decide_eq_decide];omega)
  rw[e] at q;refine⟨_,rfl,t,rfl,hz',_,_,rfl,rfl,_,rfl,?_⟩;refine ite2 (λc1=>?_) (λc1=>?_)
  ·refine⟨_,_,rfl,rfl,_,rfl,?_⟩;refine ite2 (λc2=>?_) (λc2=>?_)
   ·rw[c1,c2,ybc,ybc] at q;refine⟨_,rfl,t,rfl,hz',rfl,_,rfl,?_⟩;refine ite2 (λc3=>?_) (λc3=>?_)
    ·rw[zbib c3] at q;exact q
    ·rw[zneb (λz=>c3 (decide_eq_true z))] at q;exact⟨_,rfl,t,_,_,rfl,rfl,hz',zly (by have:=of_decide_eq_true c1;omega),rfl,q⟩
   ·rw[ygc.mpr c2,yvc,yqb] at q;exact q
  ·rw[ygc.mpr c1,yqb,yqb] at q;exact⟨_,rfl,iteF q⟩
def pl {α:Type}:Option (α×Nat)->Int
 | some x=>(x.2:Int)
 | none=>-1
def beW (ws:List Str)(a:Int):Int:=if a<0 then -1 else pl (rdW ws a.toNat)
def spBe:Sp:=λvs H Q _=>Ex3 λl (ws:List Str) (a:Int)=>vs=[.ref l,.int a]∧H l=some (.lst (ws.map V.str))∧(∀u∈ws,WdOk u)∧∀H',Same H H'->Q (.int (beW ws a)) H'
theorem zspb {ws:List Str}{k:Nat}(h:rdL ws 9 1 k []=none):beW ws (k:Int) = -1:=by
 unfold beW;rw[if_neg (by omega),show ((k:Nat):Int).toNat=k from rfl,zvjb h];rfl
theorem zlwb {ws:List Str}{k j:Nat}{fl:List (Str×Wv)}(h:rdL ws 9 1 k []=some (fl,j)):beW ws (k:Int)=j:=by
 obtain⟨y,_,_,rfl,_⟩:=zbeb h;unfold beW;rw[if_neg (by omega),show ((k:Nat):Int).toNat=k from rfl,zujb h];rfl
def Rk (ws:List Str)(k0 j n k:Nat):Prop:=(j≤9∧∃fl,rdL ws 9 1 k0 []=rdL ws (9-j) n k fl)∨(9<j∧rdL ws 9 1 k0 []=none)
theorem Rk.bad {ws:List Str}{k0 j n k:Nat}(h:Rk ws k0 j (n+1) k)(z:rd1 ws k=none):rdL ws 9 1 k0 []=none:=by
 rcases h with⟨h1,fl,h2⟩|⟨_,h⟩
 ·refine h2.trans ?_;cases e:9-j with
  | zero=>rfl
  | succ f=>exact zcq z
 ·exact h
theorem Rk.go {ws:List Str}{k0 j n k a i:Nat}{u:Str}{v:Wv}(h:Rk ws k0 j (n+1) k)(z:rd1 ws k=some (u,a,v,i)):Rk ws k0 (j+1) (n+a) i:=by
 rcases h with⟨h1,fl,h2⟩|⟨h1,h2⟩
 ·cases e:9-j with
  | zero =>
   rw[e] at h2;exact .inr ⟨by omega,h2⟩
  | succ f =>
   rw[e] at h2;refine .inl ⟨by omega,fl++[(u,v)],?_⟩;rw[show 9-(j+1)=f by omega];have h3:rdL ws (f+1) (n+1) k fl=rdL ws f (n+a) i (fl++[(u,v)]):=by
    show (rd1 ws k).bind _=_
    rw[z];rfl
   exact h2.trans h3
 ·exact .inr ⟨by omega,h2⟩
theorem Rk.fin {ws:List Str}{k0 j k:Nat}(h:Rk ws k0 j 0 k):beW ws (k0:Int)=if j≤9 then (k:Int) else -1:=by
 rcases h with⟨h1,fl,h2⟩|⟨h1,h2⟩
 ·have e:rdL ws (9-j) 0 k fl=some (fl,k):=by cases 9-j<;>rfl
  rw[if_pos h1];exact zlwb (h2.trans e)
 ·rw[if_neg (by omega)];exact zspb h2
theorem zamb {u:Str}(h:u∈(["both","any"]:List Str)):ar u=some 2:=by
 simp only[yda,ycb,or_false] at h
 rcases h with h|h<;>rw[h]<;>rfl
theorem zcmb {u:Str}(h:u∈(["all","self","mine","mark","force"]:List Str)):ar u=some 0:=by
 simp only[yda,ycb,or_false] at h
 rcases h with h|h|h|h|h<;>rw[h]<;>rfl
theorem zbmb {u:Str}(h1:u∉(["both","any"]:List Str))(h2:u∉(["all","self","mine","mark","force"]:List Str))(h3:u ≠ "not"):ar u=none:=by
 cases e:ar u with
 | none=>rfl
 | some a =>
  exfalso
  rcases zohb e with⟨e,_⟩|⟨e,_⟩|⟨e,_⟩|⟨e,_⟩|⟨e,_⟩|⟨e,_⟩|⟨e,_⟩|⟨e,_⟩
  ·exact h2 (by rw[e];simp)
  ·exact h2 (by rw[e];simp)
  ·exact h2 (by rw[e];simp)
  ·exact h2 (by rw[e];simp)
  ·exact h2 (by rw[e];simp)
  ·exact h3 e
  ·exact h1 (by rw[e];simp)
  ·exact h1 (by rw[e];simp)
theorem zub (T:Tx K mg):FnOk P w K mg base CX0 2 T.zna.f T.zna.d zbh spBe:=by
 refine T.zna.ok ztb ?_;rintro f c A o s H vs Q E hr ⟨l,ws,a,rfl,hl,ok,q⟩ X;refine⟨_,  (zca (zta (i:=2) ztb.nd rfl (.inl rfl) zga)
  (zca (zta (i:=3) ztb.nd rfl (.inl rfl) zga)
  (zca (zsgb ycg (zma zdx (pv 2) zga (zxa _))
   (zca (zqb (PW.pt (zmo (zma znr (pv 1) zga (zxa _)) (zdq (zma zlnb (pv 1) (zza zya rfl T.zme yza (zaa (pv 0) zba)) (zxa _)))))
    (zia (zpa (zieb zxt zga)))
    zra)
   (zca (zta (i:=4) ztb.nd rfl (.inl rfl) (zlb zbb (pv 0) (pv 1) (λ_ _=>rfl)))
   (zca (zta (i:=1) ztb.nd rfl (.inl rfl) (zcb zfd (pv 1) zga))
   (zca (zta (i:=3) ztb.nd rfl (.inl rfl) (zcb zfd (pv 3) zga))
   (zca (zqb (zma zzc (pv 4) (zqc (zaa zea (zaa zea zba))) rfl)
    (zca (zqb (PW.pt (zmo (zma zlnb (pv 1) (zza zya rfl T.zme yza (zaa (pv 0) zba)) (zxa _)) (zdq (PW.pt (zby (zma zed (pv 4) zea (zxa _)) (zlr (zak (zxh (zka (znf T) hr rfl T.znb.m T.znb.F.kp (zyf T) .nil zib (zaa (zlb zbb (pv 0) (pv 1) (λ_ _=>rfl)) zba))))))))))
     (zia (zpa (zieb zxt zga)))
     zra)
    (zca (zqb (PW.pt (zby (zma zed (pv 4) zea (zxa _)) (zlr (zak (zxh (zka (zuc T) hr rfl T.zab.m T.zab.F.kp (zcd T) .nil zib (zaa (zlb zbb (pv 0) (pv 1) (λ_ _=>rfl)) zba)))))))
     (zia (zpa (zieb zxt zga)))
     zra)
    (zia (zta (i:=1) ztb.nd rfl (.inl rfl) (zcb zfd (pv 1) zga)))))
    zra)
   (zia (zqb (zma zzc (pv 4) (zqc (zaa zea (zaa zea zba))) rfl)
    (zia (zta (i:=2) ztb.nd rfl (.inl rfl) (zcb zfd (pv 2) zga)))
    (zia (zqb (zma zzc (pv 4) (zqc (zaa zea (zaa zea (zaa zea (zaa zea (zaa zea zba)))))) rfl)
     (zia (zta (i:=2) ztb.nd rfl (.inl rfl) (zcb zjv (pv 2) zga)))
     (zia (zqb (zma zjeb (pv 4) zea (zxa _))
      (zia (zpa (zieb zxt zga)))
      zra))))))))))))
  (zca (zqb (zma zdx (pv 3) zga (zxa _))
   (zia (zpa (zieb zxt zga)))
   zra)
  (zia (zpa (pv 1))))))),?_⟩
 rcases Int.lt_or_le a 0 with ha|ha
 ·have q':Q (.int (-1)) H:=by
   have z:=q H (Same.refl H);unfold beW at z;rw[if_pos ha] at z;exact z
  refine⟨λm σ H'=>σ=[some (.ref l),some (.int a),some (.int 1),some (.int 0),none]∧H'=H,⟨0,rfl,rfl⟩,?_⟩;rintro m σ H' ⟨rfl,rfl⟩;refine⟨_,rfl,_,_,rfl,rfl,_,rfl,?_⟩;refine ite2 (λc=>?_) (λc=>absurd (by decide) c);refine⟨_,fun σ' H' n=>n,?_⟩;refine⟨_,rfl,_,_,rfl,rfl,_,rfl,?_⟩;exact ite2 (λc1=>⟨_,rfl,q'⟩) (λc1=>absurd (decide_eq_true ha) c1)
 obtain⟨k0,rfl⟩:=yrc ha;have bad:rdL ws 9 1 k0 []=none->∀H',Same H H'->Q (.int (-1)) H':=λz H' S=>by
  have y:=q H' S;rw[zspb z] at y;exact y
 refine⟨λm σ H'=>Ex4 λ(j k n:Nat) o=>m=ws.length-k∧σ=[some (.ref l),some (.int (k:Nat)),some (.int (n:Nat)),some (.int (j:Nat)),o]∧Same H H'∧Rk ws k0 j n k,⟨_,0,k0,1,none,rfl,rfl,Same.refl H,.inl ⟨ydc _,[],rfl⟩⟩,?_⟩;rintro m σ H' ⟨j,k,n,o,rfl,rfl,S,R⟩;refine⟨_,rfl,_,_,rfl,rfl,_,rfl,?_⟩;have hl':=S _ _ hl;refine ite2 (λc=>?_) (λc=>?_)
 ·have c':(0:Int)<((n:Nat):Int):=of_decide_eq_true c;obtain⟨n',rfl⟩:∃n',n=n'+1:=⟨n-1,by omega⟩;refine⟨_,fun σ' H' n=>n,?_⟩;refine⟨_,rfl,_,_,rfl,rfl,_,rfl,?_⟩;refine ite2 (λc1=>absurd (of_decide_eq_true c1) (by omega)) (λc1=>?_);refine⟨_,rfl,_,rfl,l,_,rfl,.inl (SqL.of hl'),_,_,rfl,rfl,_,rfl,?_⟩;refine ite2 (λc2=>?_) (λc2=>?_)
  ·have c2':=of_decide_eq_true c2;rw[yaa] at c2';exact⟨_,rfl,bad (R.bad (zeeb (yzb (by omega)))) H' S⟩
  have c2':¬ (((k:Nat):Int)≥(((ws.map V.str).length:Nat):Int)):=λz=>c2 (decide_eq_true z);rw[yaa] at c2';have hu:=yoa (show k<ws.length by omega);generalize ws[k]=u at hu;refine⟨_,rfl,_,rfl,l,_,_,_,rfl,rfl,SqL.of hl',zjc hu,_,rfl,_,_,rfl,rfl,_,rfl,_,_,rfl,rfl,?_⟩;refine⟨_,rfl,sz2,λtp htp=>⟨tp,_,rfl,.inr (SqT.of zda),rfl,rfl,_,rfl,?_⟩⟩;have S1:=S.trans (zja htp (.tup [.str "mark",.str "force"]));have hl1:=S1 _ _ hl;have hm1:(((n'+1:Nat):Nat):Int)-1=((n':Nat):Int):=by omega
  refine ite2 (λc3=>?_) (λc3=>?_)
  ·have m3:=zbc (ss:=["mark","force"]).mp c3
   rcases yda.mp m3 with e|e
   ·subst e;refine⟨_,rfl,_,rfl,l,_,rfl,.inl (SqL.of hl1),_,_,rfl,rfl,_,rfl,?_⟩;refine ite2 (λc4=>?_) (λc4=>?_)
    ·have c4':=of_decide_eq_true c4;rw[yaa] at c4';have en:ws[k+1]?=none:=yzb (by omega);exact⟨_,rfl,bad (R.bad (by rw[zlo hu (a:=0) rfl,zqm (λu y=>by rw[en] at y;cases y)];rfl)) _ S1⟩
    have c4':¬ (((k:Nat):Int)+1≥(((ws.map V.str).length:Nat):Int)):=λz=>c4 (decide_eq_true z);rw[yaa] at c4';have hn:=yoa (show k+1<ws.length by omega);generalize ws[k+1]=nn at hn;have hw:=ok nn (yva hn);refine⟨_,rfl,rfl,_,rfl,?_⟩;refine ite2 (λ_=>?_) (λc=>absurd (decide_eq_true rfl) c);refine⟨_,rfl,_,rfl,l,_,_,_,rfl,rfl,SqL.of hl1,zjc (k:=k+1) hn,nn,rfl,hw.1,λH2 S12=>?_⟩;have S2:=S1.trans S12;have hl2:=S12 _ _ hl1;cases en:isName nn with
    | false=>exact⟨_,rfl,iteT ⟨_,rfl,bad (R.bad (by rw[zlo hu (a:=0) rfl,zqm (λu y=>by rw[hn] at y;cases y;exact en)];rfl)) _ S2⟩⟩
    | true =>
    refine⟨_,rfl,iteF ?_⟩;refine⟨_,rfl,rfl,_,rfl,?_⟩;refine ite2 (λc=>absurd c (by decide +kernel)) (λ_=>?_);refine⟨_,rfl,_,_,rfl,rfl,?_⟩;have hv:=zbv hn en;have hk2:k+2≤ws.length:=(by omega);refine⟨_,rfl,sz2,λtq htq=>⟨tq,_,rfl,.inr (SqT.of zda),rfl,rfl,_,rfl,?_⟩⟩;have S3:=S2.trans (zja htq (.tup [.str "both",.str "any"]));refine ite2 (λc5=>?_) (λc5=>?_)
    ·have ea:ar "mark" = some 2:=zamb (zbc (ss:=["both","any"]).mp c5);exact⟨_,rfl,_,_,rfl,rfl,ws.length-(k+2),by omega,j+1,k+2,n'+2,_,rfl,rfl,S3,R.go (by rw[zlo hu ea,hv];rfl)⟩
    refine⟨_,rfl,sz5,λtr htr=>⟨tr,_,rfl,.inr (SqT.of zda),rfl,rfl,_,rfl,?_⟩⟩;have S4:=S3.trans (zja htr (.tup [.str "all",.str "self",.str "mine",.str "mark",.str "force"]));refine ite2 (λc6=>?_) (λc6=>?_)
    ·have ea:ar "mark" = some 0:=zcmb (zbc (ss:=["all","self","mine","mark","force"]).mp c6);exact⟨_,rfl,_,_,rfl,rfl,ws.length-(k+2),by omega,j+1,k+2,n',_,rfl,(by rw[← hm1];rfl),S4,R.go (a:=0) (by rw[zlo hu ea,hv];rfl)⟩
    refine⟨_,rfl,rfl,_,rfl,?_⟩;refine ite2 (λc7=>?_) (λc7=>?_)
    ·have n7:("mark":Str) ≠ "not":=λz=>by rw[z] at c7;exact absurd c7 (by decide +kernel)
     exact⟨_,rfl,bad (R.bad (zrgb hu (zbmb (λz=>c5 (zbc (ss:=["both","any"]).mpr z)) (λz=>c6 (zbc (ss:=["all","self","mine","mark","force"]).mpr z)) n7))) _ S4⟩
    ·have ea:ar "mark" = some 1:=by
      have z:("mark":Str) = "not":=by
       rcases yef (("mark":Str) = "not") with z|z
       ·exact z
       ·exact absurd (show (!decide (V.str "mark" = V.str "not"))=true by rw[decide_eq_false (λy=>z (by injection y))];rfl) c7
      rw[z];rfl
     exact⟨ws.length-(k+2),by omega,j+1,k+2,n'+1,_,rfl,rfl,S4,R.go (by rw[zlo hu ea,hv];rfl)⟩
   ·have e:=yca.mp e;subst e;refine⟨_,rfl,_,rfl,l,_,rfl,.inl (SqL.of hl1),_,_,rfl,rfl,_,rfl,?_⟩;refine ite2 (λc4=>?_) (λc4=>?_)
    ·have c4':=of_decide_eq_true c4;rw[yaa] at c4';have en:ws[k+1]?=none:=yzb (by omega);exact⟨_,rfl,bad (R.bad (by rw[zlo hu (a:=0) rfl,zdj (λu y=>by rw[en] at y;cases y)];rfl)) _ S1⟩
    have c4':¬ (((k:Nat):Int)+1≥(((ws.map V.str).length:Nat):Int)):=λz=>c4 (decide_eq_true z);rw[yaa] at c4';have hn:=yoa (show k+1<ws.length by omega);generalize ws[k+1]=nn at hn;have hw:=ok nn (yva hn);refine⟨_,rfl,rfl,_,rfl,?_⟩;refine ite2 (λc=>absurd c (by decide +kernel)) (λ_=>?_);refine⟨_,rfl,rfl,_,rfl,?_⟩;refine ite2 (λ_=>?_) (λc=>absurd (decide_eq_true rfl) c);refine⟨_,rfl,_,rfl,l,_,_,_,rfl,rfl,SqL.of hl1,zjc (k:=k+1) hn,nn,rfl,hw.1,λH2 S12=>?_⟩;have S2:=S1.trans S12;have hl2:=S12 _ _ hl1;cases en:isNumber nn with
    | false=>exact⟨_,rfl,iteT ⟨_,rfl,bad (R.bad (by rw[zlo hu (a:=0) rfl,zdj (λu y=>by rw[hn] at y;cases y;exact en)];rfl)) _ S2⟩⟩
    | true =>
    refine⟨_,rfl,iteF ?_⟩;refine⟨_,rfl,_,_,rfl,rfl,?_⟩;obtain⟨ii,hii,rfl⟩:=zxf nn en;have hv:=zad hii hn;have hk2:k+2≤ws.length:=(by omega);refine⟨_,rfl,sz2,λtq htq=>⟨tq,_,rfl,.inr (SqT.of zda),rfl,rfl,_,rfl,?_⟩⟩;have S3:=S2.trans (zja htq (.tup [.str "both",.str "any"]));refine ite2 (λc5=>?_) (λc5=>?_)
    ·have ea:ar "force" = some 2:=zamb (zbc (ss:=["both","any"]).mp c5);exact⟨_,rfl,_,_,rfl,rfl,ws.length-(k+2),by omega,j+1,k+2,n'+2,_,rfl,rfl,S3,R.go (by rw[zlo hu ea,hv];rfl)⟩
    refine⟨_,rfl,sz5,λtr htr=>⟨tr,_,rfl,.inr (SqT.of zda),rfl,rfl,_,rfl,?_⟩⟩;have S4:=S3.trans (zja htr (.tup [.str "all",.str "self",.str "mine",.str "mark",.str "force"]));refine ite2 (λc6=>?_) (λc6=>?_)
    ·have ea:ar "force" = some 0:=zcmb (zbc (ss:=["all","self","mine","mark","force"]).mp c6);exact⟨_,rfl,_,_,rfl,rfl,ws.length-(k+2),by omega,j+1,k+2,n',_,rfl,(by rw[← hm1];rfl),S4,R.go (a:=0) (by rw[zlo hu ea,hv];rfl)⟩
    refine⟨_,rfl,rfl,_,rfl,?_⟩;refine ite2 (λc7=>?_) (λc7=>?_)
    ·have n7:("force":Str) ≠ "not":=λz=>by rw[z] at c7;exact absurd c7 (by decide +kernel)
     exact⟨_,rfl,bad (R.bad (zrgb hu (zbmb (λz=>c5 (zbc (ss:=["both","any"]).mpr z)) (λz=>c6 (zbc (ss:=["all","self","mine","mark","force"]).mpr z)) n7))) _ S4⟩
    ·have ea:ar "force" = some 1:=by
      have z:("force":Str) = "not":=by
       rcases yef (("force":Str) = "not") with z|z
       ·exact z
       ·exact absurd (show (!decide (V.str "force" = V.str "not"))=true by rw[decide_eq_false (λy=>z (by injection y))];rfl) c7
      rw[z];rfl
     exact⟨ws.length-(k+2),by omega,j+1,k+2,n'+1,_,rfl,rfl,S4,R.go (by rw[zlo hu ea,hv];rfl)⟩
  have S2:=S1;have m3:u∉(["mark","force"]:List Str):=λz=>c3 (zbc (ss:=["mark","force"]).mpr z);have hv:rdV ws u (k+1)=some (.non,k+1):=zko (λz=>m3 (by rw[z];simp)) (λz=>m3 (by rw[z];simp));have hk2:k+1≤ws.length:=by omega
  refine⟨_,rfl,sz2,λtq htq=>⟨tq,_,rfl,.inr (SqT.of zda),rfl,rfl,_,rfl,?_⟩⟩;have S3:=S2.trans (zja htq (.tup [.str "both",.str "any"]));refine ite2 (λc5=>?_) (λc5=>?_)
  ·have ea:ar u=some 2:=zamb (zbc (ss:=["both","any"]).mp c5);exact⟨_,rfl,_,_,rfl,rfl,ws.length-(k+1),by omega,j+1,k+1,n'+2,_,rfl,rfl,S3,R.go (by rw[zlo hu ea,hv];rfl)⟩
  refine⟨_,rfl,sz5,λtr htr=>⟨tr,_,rfl,.inr (SqT.of zda),rfl,rfl,_,rfl,?_⟩⟩;have S4:=S3.trans (zja htr (.tup [.str "all",.str "self",.str "mine",.str "mark",.str "force"]));refine ite2 (λc6=>?_) (λc6=>?_)
  ·have ea:ar u=some 0:=zcmb (zbc (ss:=["all","self","mine","mark","force"]).mp c6);exact⟨_,rfl,_,_,rfl,rfl,ws.length-(k+1),by omega,j+1,k+1,n',_,rfl,(by rw[← hm1];rfl),S4,R.go (a:=0) (by rw[zlo hu ea,hv];rfl)⟩
  refine⟨_,rfl,rfl,_,rfl,?_⟩;refine ite2 (λc7=>?_) (λc7=>?_)
  ·have n7:u ≠ "not":=λz=>by rw[z] at c7;exact absurd c7 (by decide +kernel)
   exact⟨_,rfl,bad (R.bad (zrgb hu (zbmb (λz=>c5 (zbc (ss:=["both","any"]).mpr z)) (λz=>c6 (zbc (ss:=["all","self","mine","mark","force"]).mpr z)) n7))) _ S4⟩
  ·have ea:ar u=some 1:=by
    have z:u = "not":=by
     rcases yef (u = "not") with z|z
     ·exact z
     ·exact absurd (show (!decide (V.str u=V.str "not"))=true by rw[decide_eq_false (λy=>z (by injection y))];rfl) c7
    rw[z];rfl
   exact⟨ws.length-(k+1),by omega,j+1,k+1,n'+1,_,rfl,rfl,S4,R.go (by rw[zlo hu ea,hv];rfl)⟩
 ·have c':¬ (0:Int)<((n:Nat):Int):=of_decide_eq_false (ygc.mpr c);have en:n=0:=by omega
  subst en;have rf:=R.fin;refine⟨_,rfl,_,_,rfl,rfl,_,rfl,?_⟩;refine ite2 (λc1=>?_) (λc1=>?_)
  ·have c1':=of_decide_eq_true c1;have y:=q H' S;rw[rf,if_neg (by omega)] at y;exact⟨_,rfl,y⟩
  ·have c1':¬ ((9:Int)<((j:Nat):Int)):=λz=>c1 (decide_eq_true z);have y:=q H' S;rw[rf,if_pos (by omega)] at y;exact⟨_,rfl,y⟩
theorem zewb {o:Option (Rule×Nat)}{n:Nat}:(o.bind λr=>if r.2=n then some r.1 else none).isSome=decide (pl o=(n:Int)):=by
 cases o with
 | none=>rfl
 | some x =>
  show (if x.2=n then some x.1 else none).isSome=decide ((x.2:Int)=(n:Int))
  by_cases e:x.2=n
  ·rw[if_pos e,decide_eq_true (by omega)];rfl
  ·rw[if_neg e,decide_eq_false (by omega)];rfl
def isR (ws:List Str):Bool:=(zmd ws).isSome
def zcv (a:Str)(ws:List Str):Option (Rule×Nat):=if a = "hold" then zke ws 1 else if a = "when" then zoe ws 1 else if a = "instead" then zsb ws 1 else zoi ws 1
theorem zvkb {ws:List Str}{a:Str}(h:ws[0]?=some a)(m:a∈sorts):isR ws=decide (pl (zcv a ws)=(ws.length:Int)):=by
 unfold isR zmd zac;rw[h];show ((if a∈sorts then some (a,0+1) else none).bind _).isSome=_
 rw[if_pos m];exact zewb
theorem zyvb {ws:List Str}{a:Str}(h:ws[0]?=some a)(m:a∉sorts):isR ws=false:=by
 unfold isR zmd zac;rw[h];show ((if a∈sorts then some (a,0+1) else none).bind _).isSome=_
 rw[if_neg m];rfl
theorem zobb {α β:Type}{f:α×Nat->β}{o:Option (α×Nat)}:pl (o.map λx=>(f x,x.2))=pl o:=by cases o<;>rfl
theorem zkab (ws:List Str)(k:Nat):beW ws (k:Int)=pl (rdW ws k):=by
 unfold beW;rw[if_neg (by omega)];rfl
theorem zsd {ss ws:List Str}{k:Nat}{u:Str}(h:ws[k]?=some u)(m:u∈ss):zac ss ws k=some (u,k+1):=by
 unfold zac;rw[h];exact if_pos m
theorem zye {ss ws:List Str}{k:Nat}{u:Str}(h:ws[k]?=some u)(m:u∉ss):zac ss ws k=none:=by
 unfold zac;rw[h];exact if_neg m
theorem zfv {ss ws:List Str}{k:Nat}(h:ws.length≤k):zac ss ws k=none:=by
 unfold zac;rw[yzb h];rfl
theorem zzy {ws:List Str}{k:Nat}(h:ws.length≤k):rdW ws k=none:=zvjb (zcq (zeeb (yzb h)))
theorem zgl {ws:List Str}{k:Nat}{u:Str}(h:ws[k]?=some u)(z:isNumber u=true):∃i:Nat,zlf ws k=some (.num i,k+1):=by
 obtain⟨i,hi,rfl⟩:=zxf u z;exact⟨i,zad hi h⟩
theorem zil {ws:List Str}{k:Nat}{u:Str}(h:ws[k]?=some u)(z:isNumber u=false):zlf ws k=none:=zdj λv hv=>by rw[h] at hv;cases hv;exact z
theorem zjbb {ws:List Str}{k:Nat}(h:ws.length≤k):zlf ws k=none:=zdj λv hv=>by rw[yzb h] at hv;cases hv
theorem zjr {ws:List Str}{k:Nat}{u:Str}(h:ws[k]?=some u)(z:isName u=true):zzj ws k=some (.name u,k+1):=zbv h z
theorem zkr {ws:List Str}{k:Nat}{u:Str}(h:ws[k]?=some u)(z:isName u=false):zzj ws k=none:=zqm λv hv=>by rw[h] at hv;cases hv;exact z
theorem zwhb {ws:List Str}{k:Nat}(h:ws.length≤k):zzj ws k=none:=zqm λv hv=>by rw[yzb h] at hv;cases hv
section
variable {ws:List Str}{k:Nat}{a b:Str}
theorem zveb (ha:ws[k]?=some a)(ma:a∈zym)(hb:ws[k+1]?=some b)(mb:b∈zqa){v:Wv}{j:Nat}(hv:zwh b ws (k+2)=some (v,j)):pl (zpc ws k)=beW ws (j:Int):=by
 unfold zpc;rw[zsd ha ma];show pl ((zac zqa ws (k+1)).bind _)=_
 rw[zsd hb mb];show pl ((zwh b ws (k+2)).bind _)=_
 rw[hv,zkab];exact zobb (f:=λd=>(⟨a,b,v,d.1⟩:Deed)) (o:=rdW ws j)
theorem zihb (ha:ws[k]?=some a)(ma:a∈zym)(hb:ws[k+1]?=some b)(hv:zwh b ws (k+2)=none):zpc ws k=none:=by
 unfold zpc;rw[zsd ha ma];show (zac zqa ws (k+1)).bind _=_
 by_cases mb:b∈zqa
 ·rw[zsd hb mb];show (zwh b ws (k+2)).bind _=_
  rw[hv];rfl
 ·rw[zye hb mb];rfl
theorem znlb (ha:ws[k]?=some a)(hb:ws[k+1]?=some b)(mb:b∉zqa):zpc ws k=none:=by
 unfold zpc
 by_cases ma:a∈zym
 ·rw[zsd ha ma];show (zac zqa ws (k+1)).bind _=_
  rw[zye hb mb];rfl
 ·rw[zye ha ma];rfl
theorem zolb (ha:ws[k]?=some a)(ma:a∉zym):zpc ws k=none:=by
 unfold zpc;rw[zye ha ma];rfl
theorem zghb (h:ws.length≤k+2):zpc ws k=none:=by
 cases e:zpc ws k with
 | none=>rfl
 | some x =>
  exfalso;unfold zpc at e;obtain⟨⟨a1,i1⟩,e1,e⟩:=yja.mp e;obtain⟨⟨a2,i2⟩,e2,e⟩:=yja.mp e;obtain⟨⟨a3,i3⟩,e3,e⟩:=yja.mp e;obtain⟨⟨a4,i4⟩,e4,e⟩:=yvb.mp e;obtain⟨m1,r1,_⟩:=zjd e1;obtain⟨m2,r2,_⟩:=zjd e2;obtain⟨m3,d3⟩:=zqgb m2 e3;have l3:i2≤i3:=by
   have e3':zwh a2 ws i2=some (a3,i3):=e3;unfold zwh at e3'
   by_cases c:a2 = "leave"
   ·rw[if_pos c] at e3';cases e3';exact yxa _
   ·rw[if_neg c] at e3'
    by_cases c2:a2∈(["gain","lack"]:List Str)
    ·rw[if_pos c2] at e3';obtain⟨_,_,_,r,_⟩:=zlt e3';omega
    ·rw[if_neg c2] at e3';obtain⟨_,_,_,r,_⟩:=zvh e3';omega
  have r1':i1=k+1:=r1;have r2':i2=i1+1:=r2;have z:rdW ws i3=none:=zzy (by omega);have e4':rdW ws i3=some (a4,i4):=e4;rw[z] at e4';cases e4'
end
section
variable {ws:List Str}{u:Str}
theorem zzkb (hu:ws[1]?=some u)(m:u∈changes){v:Hv}{j:Nat}(hv:zpb u ws 2=some (v,j)):pl (zke ws 1)=beW ws (j:Int):=by
 unfold zke;rw[zsd hu m];show pl ((zpb u ws 2).bind _)=_
 rw[hv,zkab];exact zobb (f:=λd=>Rule.hold u v d.1) (o:=rdW ws j)
theorem znt (hu:ws[1]?=some u)(hv:zpb u ws 2=none):zke ws 1=none:=by
 unfold zke
 by_cases m:u∈changes
 ·rw[zsd hu m];show (zpb u ws 2).bind _=_
  rw[hv];rfl
 ·rw[zye hu m];rfl
theorem zqcb (hu:ws[1]?=some u)(m:u∉changes):zke ws 1=none:=by
 unfold zke;rw[zye hu m];rfl
theorem zcob (h:ws.length≤2):zke ws 1=none:=by
 cases hu:ws[1]? with
 | none =>
  unfold zke zac;rw[hu];rfl
 | some u =>
  by_cases m:u∈changes
  ·cases hv:zpb u ws 2 with
   | none=>exact znt hu hv
   | some x =>
    obtain⟨v,j⟩:=x;have jl:2≤j:=by
     unfold zpb at hv
     split at hv
     ·rw[zwhb h] at hv;cases hv
     ·split at hv
      ·rw[zjbb h] at hv;cases hv
      ·split at hv
       ·rw[zzy h] at hv;cases hv
       ·cases hv;exact yxa _
    unfold zke;rw[zsd hu m];show (zpb u ws 2).bind _=_
    rw[hv];show (rdW ws j).map _=_
    rw[zzy (by omega)];rfl
  ·exact zqcb hu m
theorem zpob (h:u∈(["mute","steal"]:List Str)):zpb u ws 2=some (.v .non,2):=by
 rcases mem2 h with e|e<;>subst e<;>(unfold zpb;rw[if_neg (by decide +kernel),if_neg (by decide +kernel),if_neg (by decide +kernel)])
theorem zrlb (h:u∈(["gain","lack"]:List Str)):zpb u ws 2=(zzj ws 2).map λx=>(.v x.1,x.2):=by
 unfold zpb;rw[if_pos h]
theorem zrpb (h:u∈(["be","more","less"]:List Str)):zpb u ws 2=(zlf ws 2).map λx=>(.v x.1,x.2):=by
 rcases mem3 h with e|e|e<;>subst e<;>(unfold zpb;rw[if_neg (by decide +kernel),if_pos (by decide +kernel)])
theorem zqpb:zpb "per" ws 2=(rdW ws 2).map λx=>(.w x.1,x.2):=by
 unfold zpb;rw[if_neg (by decide +kernel),if_neg (by decide +kernel),if_pos rfl]
theorem zxub (hu:ws[1]?=some ("per":Str)):pl (zke ws 1)=beW ws (beW ws 2):=by
 have z2:beW ws 2=pl (rdW ws 2):=zkab ws 2;rw[z2];cases e:rdW ws 2 with
 | none =>
  rw[znt hu (by rw[zqpb,e];rfl)];rfl
 | some x =>
  exact zzkb hu (by decide +kernel) (v:=.w x.1) (j:=x.2) (by rw[zqpb,e];rfl)
end
section
variable {ws:List Str}{u x d:Str}{k i j:Nat}
theorem zlvb (hn:zlf ws 1=some (.num i,2))(hd:ws[2]?=some ("do":Str)):pl (zoi ws 1)=pl (zpc ws 3):=by
 unfold zoi;rw[hn];show pl ((zac ["do"] ws 2).bind _)=_
 rw[zsd hd (by simp)];exact zobb (f:=λc=>Rule.may i c.1) (o:=zpc ws 3)
theorem zdsb (hn:zlf ws 1=none):zoi ws 1=none:=by
 unfold zoi;rw[hn];rfl
theorem zmvb (hd:ws[2]?=some d)(n:d ≠ "do"):zoi ws 1=none:=by
 unfold zoi;cases e:zlf ws 1 with
 | none=>rfl
 | some y =>
  obtain⟨v,jj⟩:=y;obtain⟨_,_,_,r,_⟩:=zvh e;have r':jj=2:=r;subst r';show (zac ["do"] ws 2).bind _=_
  rw[zye hd (by simpa using n)];rfl
theorem zesb (h:ws.length≤3):zoi ws 1=none:=by
 cases e:zoi ws 1 with
 | none=>rfl
 | some y =>
  exfalso;unfold zoi at e;obtain⟨⟨a1,i1⟩,e1,e⟩:=yja.mp e;obtain⟨⟨a2,i2⟩,e2,e⟩:=yja.mp e;obtain⟨⟨a3,i3⟩,e3,e⟩:=yvb.mp e;obtain⟨_,_,_,r1,_⟩:=zvh e1;obtain⟨_,r2,_⟩:=zjd e2;have r2':i2=i1+1:=r2;have e3':zpc ws i2=some (a3,i3):=e3;rw[zghb (by omega)] at e3';cases e3'
def ztl (kd:Str)(ws:List Str)(k:Nat):Option (Wv×Nat):=(zac (turns kd) ws k).bind λd=>zkf d.1 ws d.2
theorem zypb (hu:ws[1]?=some u)(m:u∈zxc){y:Wh}(hw:rdW ws 2=some (y,j))(hd:ws[j]?=some ("do":Str)):pl (zoe ws 1)=pl (zpc ws (j+1)):=by
 unfold zoe;rw[zsd hu m];show pl ((rdW ws 2).bind _)=_
 rw[hw];show pl ((zac ["do"] ws j).bind _)=_
 rw[zsd hd (by simp)];exact zobb (f:=λc=>Rule.wen u y c.1) (o:=zpc ws (j+1))
theorem zksb (hu:ws[1]?=some u)(m:u∈zqa){y:Wh}(hw:rdW ws 2=some (y,j))(hd:ws[j]?=some ("do":Str)):pl (zsb ws 1)=pl (ztl u ws (j+1)):=by
 unfold zsb ztl;rw[zsd hu m];show pl ((rdW ws 2).bind _)=_
 rw[hw];show pl ((zac ["do"] ws j).bind _)=_
 rw[zsd hd (by simp)];show pl ((zac (turns u) ws (j+1)).bind _)=_
 cases e:zac (turns u) ws (j+1) with
 | none=>rfl
 | some d=>exact zobb (f:=λc=>Rule.instead u y d.1 c.1) (o:=zkf d.1 ws d.2)
theorem zycb (hu:ws[1]?=some u):(u∉zxc->zoe ws 1=none)∧(u∉zqa->zsb ws 1=none):=by
 refine⟨λm=>?_,λm=>?_⟩
 ·unfold zoe;rw[zye hu m];rfl
 ·unfold zsb;rw[zye hu m];rfl
theorem zxcb (hw:rdW ws 2=none):zoe ws 1=none∧zsb ws 1=none:=by
 refine⟨?_,?_⟩
 ·unfold zoe;cases e:zac zxc ws 1 with
  | none=>rfl
  | some y =>
   obtain⟨_,r,_⟩:=zjd e;obtain⟨y1,y2⟩:=y;have r':y2=2:=r;subst r';show (rdW ws 2).bind _=_
   rw[hw];rfl
 ·unfold zsb;cases e:zac zqa ws 1 with
  | none=>rfl
  | some y =>
   obtain⟨_,r,_⟩:=zjd e;obtain⟨y1,y2⟩:=y;have r':y2=2:=r;subst r';show (rdW ws 2).bind _=_
   rw[hw];rfl
theorem zxlb {y:Wh}(hw:rdW ws 2=some (y,j))(hd:zac ["do"] ws j=none):zoe ws 1=none∧zsb ws 1=none:=by
 refine⟨?_,?_⟩
 ·unfold zoe;cases e:zac zxc ws 1 with
  | none=>rfl
  | some y =>
   obtain⟨_,r,_⟩:=zjd e;obtain⟨y1,y2⟩:=y;have r':y2=2:=r;subst r';show (rdW ws 2).bind _=_
   rw[hw];show (zac ["do"] ws j).bind _=_
   rw[hd];rfl
 ·unfold zsb;cases e:zac zqa ws 1 with
  | none=>rfl
  | some y =>
   obtain⟨_,r,_⟩:=zjd e;obtain⟨y1,y2⟩:=y;have r':y2=2:=r;subst r';show (rdW ws 2).bind _=_
   rw[hw];show (zac ["do"] ws j).bind _=_
   rw[hd];rfl
end
def tnOk (kd:Str):List Str->Bool
 | [a]=>decide (a = "none")||(decide (a = "here")&&decide (kd∈(["leave","hurt","gain","lack"]:List Str)))
 | [a,b]=>if a∈(["less","more"]:List Str) then decide (kd∈(["hurt","lose","score","draw"]:List Str))&&isNumber b else decide (a = "as")&&(decide (kd∈(["lose","score","draw"]:List Str))&&decide (b∈(["lose","score","draw"]:List Str)))
 | _=>false
theorem zrtb:∀kd∈zqa,∀a∈(["less","more"]:List Str),decide (a∈turns kd)=decide (kd∈(["hurt","lose","score","draw"]:List Str)):=by decide +kernel
theorem zstb:∀kd∈zqa,decide (("as":Str)∈turns kd)=decide (kd∈(["lose","score","draw"]:List Str)):=by decide +kernel
theorem zdqb:∀kd∈zqa,("none":Str)∈turns kd:=by decide +kernel
theorem zejb:∀kd∈zqa,decide (("here":Str)∈turns kd)=decide (kd∈(["leave","hurt","gain","lack"]:List Str)):=by decide +kernel
theorem zomb {kd:Str}(hk:kd∈zqa){ws:List Str}{k:Nat}(hl:k≤ws.length):tnOk kd (ws.drop k)=decide (pl (ztl kd ws k)=(ws.length:Int)):=by
 have n1:∀{n:Nat},(-1:Int)≠((n:Nat):Int):=λ{n}=>by omega
 have lk:(ws.drop k).length=ws.length-k:=ylc;have no:pl (ztl kd ws k) = -1->decide (pl (ztl kd ws k)=(ws.length:Int))=false:=λz=>by rw[z];exact decide_eq_false n1
 cases hd:ws.drop k with
 | nil =>
  rw[hd,ybg] at lk;rw[no (by unfold ztl;rw[zfv (by omega)];rfl)];rfl
 | cons a r =>
  obtain⟨ha,hr⟩:=zdc hd;rw[hd,yia] at lk
  by_cases m:a∈turns kd
  case neg =>
   rw[no (by unfold ztl;rw[zye ha m];rfl)]
   match r with
   | [] =>
    show (decide (a = "none")||(decide (a = "here")&&decide (kd∈(["leave","hurt","gain","lack"]:List Str))))=false
    rw[decide_eq_false (λz=>m (by rw[z];exact zdqb kd hk)),ymk]
    by_cases h:a = "here"
    ·subst h;rw[← zejb kd hk,decide_eq_false m,yvc]
    ·rw[decide_eq_false h,yqb]
   | [b] =>
    show (if a∈(["less","more"]:List Str) then decide (kd∈(["hurt","lose","score","draw"]:List Str))&&isNumber b else decide (a = "as")&&(decide (kd∈(["lose","score","draw"]:List Str))&&decide (b∈(["lose","score","draw"]:List Str))))=false
    by_cases h:a∈(["less","more"]:List Str)
    ·rw[if_pos h,← zrtb kd hk a h,decide_eq_false m,yqb]
    ·rw[if_neg h]
     by_cases h2:a = "as"
     ·subst h2;rw[← zstb kd hk,decide_eq_false m,yqb,yvc]
     ·rw[decide_eq_false h2,yqb]
   | b::c::r=>rfl
  case pos =>
  have e0:ztl kd ws k=zkf a ws (k+1):=by
   unfold ztl;rw[zsd ha m];rfl
  rw[e0];rw[e0] at no
  by_cases h:a∈(["less","more"]:List Str)
  ·have e1:zkf a ws (k+1)=zlf ws (k+1):=by unfold zkf;rw[if_pos h]
   rw[e1];rw[e1] at no;have na:a ≠ "none" ∧ a ≠ "here":=by rcases mem2 h with e|e<;>rw[e]<;>decide +kernel
   match r,hr,lk with
   | [],hr,lk =>
    rw[ybg] at lk;rw[no (by rw[zjbb (by omega)];rfl)];show (decide (a = "none")||(decide (a = "here")&&_))=false
    rw[decide_eq_false na.1,decide_eq_false na.2];rfl
   | [b],hr,lk =>
    have lk':ws.length=k+2:=(by simp at lk;omega);show (if a∈(["less","more"]:List Str) then decide (kd∈(["hurt","lose","score","draw"]:List Str))&&isNumber b else _)=_
    rw[if_pos h,← zrtb kd hk a h,decide_eq_true m,ybc];cases z:isNumber b with
    | false=>rw[no (by rw[zil (zdc hr).1 z];rfl)]
    | true =>
     obtain⟨i,e2⟩:=zgl (zdc hr).1 z;rw[e2];show true=decide (((k+1+1:Nat):Int)=_)
     rw[decide_eq_true (by omega)]
   | b::c::r,hr,lk =>
    have lk':ws.length≥k+3:=(by simp at lk;omega);show false=_
    cases z:zlf ws (k+1) with
    | none=>rfl
    | some y =>
     obtain⟨y1,y2⟩:=y;obtain⟨_,_,_,q,_⟩:=zvh z;show false=decide (((y2:Nat):Int)=_)
     rw[decide_eq_false (by omega)]
  by_cases h2:a = "as"
  ·have e1:zkf a ws (k+1)=(zac zje ws (k+1)).map λx=>(.name x.1,x.2):=by unfold zkf;rw[if_neg h,if_pos h2]
   rw[e1];rw[e1] at no
   match r,hr,lk with
   | [],hr,lk =>
    rw[ybg] at lk;rw[no (by rw[zfv (by omega)];rfl)];rw[h2];rfl
   | [b],hr,lk =>
    have lk':ws.length=k+2:=(by simp at lk;omega);show (if a∈(["less","more"]:List Str) then _ else decide (a = "as")&&(decide (kd∈(["lose","score","draw"]:List Str))&&decide (b∈(["lose","score","draw"]:List Str))))=_
    rw[if_neg h,decide_eq_true h2,ybc,← zstb kd hk,← h2,decide_eq_true m,ybc]
    by_cases mb:b∈(["lose","score","draw"]:List Str)
    ·rw[decide_eq_true mb,zsd (zdc hr).1 (show b∈zje from mb)];show true=decide (((k+1+1:Nat):Int)=_)
     rw[decide_eq_true (by omega)]
    ·rw[decide_eq_false mb,no (by rw[zye (zdc hr).1 (show b∉zje from mb)];rfl)]
   | b::c::r,hr,lk =>
    have lk':ws.length≥k+3:=(by simp at lk;omega);show false=_
    cases z:zac zje ws (k+1) with
    | none=>rfl
    | some y =>
     obtain⟨y1,y2⟩:=y;obtain⟨_,q,_⟩:=zjd z;show false=decide (((y2:Nat):Int)=_)
     rw[decide_eq_false (by omega)]
  ·have e1:zkf a ws (k+1)=some (.non,k+1):=by unfold zkf;rw[if_neg h,if_neg h2]
   rw[e1];show _=decide (((k+1:Nat):Int)=_)
   match r,lk with
   | [],lk =>
    rw[ybg] at lk;rw[decide_eq_true (show ((k+1:Nat):Int)=(ws.length:Int) by omega)];show (decide (a = "none")||(decide (a = "here")&&decide (kd∈(["leave","hurt","gain","lack"]:List Str))))=true
    by_cases h3:a = "none"
    ·rw[decide_eq_true h3,Bool.true_or]
    ·have h4:a = "here":=by
      have z:=zuab m;simp only[yda,ycb,or_false] at z h
      rcases z with e|e|e|e|e
      ·exact absurd e h3
      ·exact e
      ·exact absurd (.inl e) h
      ·exact absurd (.inr e) h
      ·exact absurd e h2
     subst h4;rw[← zejb kd hk,decide_eq_true m];rfl
   | [b],lk =>
    have lk':ws.length=k+2:=(by simp at lk;omega);rw[decide_eq_false (show ¬ ((k+1:Nat):Int)=(ws.length:Int) by omega)];show (if a∈(["less","more"]:List Str) then _ else decide (a = "as")&&_)=false
    rw[if_neg h,decide_eq_false h2,yqb]
   | b::c::r,lk =>
    have lk':ws.length≥k+3:=(by simp at lk;omega);rw[decide_eq_false (show ¬ ((k+1:Nat):Int)=(ws.length:Int) by omega)];rfl
def spBd:Sp:=λvs H Q _=>Ex3 λl (ws:List Str) (k:Nat)=>vs=[.ref l,.int (k:Nat)]∧H l=some (.lst (ws.map V.str))∧(∀u∈ws,WdOk u)∧∀H',Same H H'->Q (.int (pl (zpc ws k))) H'
theorem zllb {b:Str}(h:b∈(["hurt","lose","score","draw"]:List Str)):b∈zqa∧b ≠ "leave" ∧ b∉(["gain","lack"]:List Str):=by
 revert b
 decide +kernel
theorem znpb {b:Str}(h:b∈(["gain","lack"]:List Str)):b∈zqa∧b ≠ "leave":=by
 revert b
 decide +kernel
theorem zgwb {b:Str}(h1:b ≠ "leave")(h2:b∉(["hurt","lose","score","draw"]:List Str))(h3:b∉(["gain","lack"]:List Str)):b∉zqa:=λz=>by
 simp only[zqa,yda,ycb,or_false] at z
 rcases z with e|e|e|e|e|e|e
 ·exact h1 e
 ·exact h2 (by rw[e];simp)
 ·exact h3 (by rw[e];simp)
 ·exact h3 (by rw[e];simp)
 ·exact h2 (by rw[e];simp)
 ·exact h2 (by rw[e];simp)
 ·exact h2 (by rw[e];simp)
theorem zdmb {b:Str}(h:b∈(["hurt","lose","score","draw"]:List Str)){ws:List Str}{k:Nat}:zwh b ws k=zlf ws k:=by
 have z:=zllb h;unfold zwh;rw[if_neg z.2.1,if_neg z.2.2]
theorem zemb {b:Str}(h:b∈(["gain","lack"]:List Str)){ws:List Str}{k:Nat}:zwh b ws k=zzj ws k:=by
 have z:=znpb h;unfold zwh;rw[if_neg z.2,if_pos h]
theorem zecb {u:Str}{ss:List Str}(h:¬ inV (.str u) (ss.map V.str)=true):u∉ss:=λz=>h (zpr z)
theorem notIn' {u:Str}{ss:List Str}(h:(!inV (.str u) (ss.map V.str))=true):u∉ss:=λz=>by
 rw[zpr z] at h;cases h
theorem isIn' {u:Str}{ss:List Str}(h:¬ (!inV (.str u) (ss.map V.str))=true):u∈ss:=by
 rcases yef (u∈ss) with z|z
 ·exact z
 ·exfalso;apply h;have e:inV (.str u) (ss.map V.str)=false:=ygc.mpr λy=>z (zbc.mp y);rw[e];rfl
theorem zlj {a b:Str}(h:decide (V.str a=V.str b)=true):a=b:=by
 have z:=of_decide_eq_true h;injection z
theorem dec_str' {a b:Str}(h:¬ decide (V.str a=V.str b)=true):a≠b:=λz=>h (by rw[z];exact decide_eq_true rfl)
theorem zgj (T:Tx K mg):FnOk P w K mg base CX0 3 T.zxb.f T.zxb.d zch spBd:=by
 refine T.zxb.ok zio ?_;rintro f c A o s H vs Q E hr ⟨l,ws,k,rfl,hl,ok,q⟩ X;have bad:zpc ws k=none->∀H',Same H H'->Q (.int (-1)) H':=λz H' S=>by
  have y:=q H' S;rw[z] at y;exact y
 refine⟨_,  (zca (zqb (PW.pt (zmo (zma znr (pv 1) zga (zxa _)) (zmo (zma zlnb (zcb zfd (pv 1) zga) (zza zya rfl T.zme yza (zaa (pv 0) zba)) (zxa _)) (zdq (zma zck (zlb zbb (pv 0) (pv 1) (λ_ _=>rfl)) (zqc (zaa zea (zaa zea zba))) rfl)))))
   (zia (zpa (zieb zxt zga)))
   zra)
  (zca (zqb (zma zed (zlb zbb (pv 0) (zcb zfd (pv 1) zga) (λ_ _=>rfl)) zea (zxa _))
   (zia (zpa (zka (zub T) hr rfl T.zna.m T.zna.F.kp (zyb T) .nil zib (zaa (pv 0) (zaa (zcb zfd (pv 1) zga) zba)))))
   zra)
  (zca (zqb (PW.pt (zby (zma zzc (zlb zbb (pv 0) (zcb zfd (pv 1) zga) (λ_ _=>rfl)) (zqc (zaa zea (zaa zea (zaa zea (zaa zea zba))))) rfl) (zlr (zxh (zka (zuc T).up hr rfl T.zab.m T.zab.F.kp (zcd T) .nil zib (zaa (zlb zbb (pv 0) (zcb zfd (pv 1) zga) (λ_ _=>rfl)) zba))))))
   (zia (zpa (zka (zub T) hr rfl T.zna.m T.zna.F.kp (zyb T) .nil zib (zaa (pv 0) (zaa (zcb zfd (pv 1) zga) zba)))))
   zra)
  (zca (zqb (PW.pt (zby (zma zzc (zlb zbb (pv 0) (zcb zfd (pv 1) zga) (λ_ _=>rfl)) (zqc (zaa zea (zaa zea zba))) rfl) (zlr (zxh (zka (znf T).up hr rfl T.znb.m T.znb.F.kp (zyf T) .nil zib (zaa (zlb zbb (pv 0) (zcb zfd (pv 1) zga) (λ_ _=>rfl)) zba))))))
   (zia (zpa (zka (zub T) hr rfl T.zna.m T.zna.F.kp (zyb T) .nil zib (zaa (pv 0) (zaa (zcb zfd (pv 1) zga) zba)))))
   zra)
  (zia (zpa (zieb zxt zga))))))),?_⟩
 refine⟨_,rfl,_,_,rfl,rfl,_,rfl,?_⟩;refine ite2 (λc=>absurd (of_decide_eq_true c) (by omega)) (λ_=>?_);refine⟨_,rfl,_,_,rfl,rfl,_,rfl,l,_,rfl,.inl (SqL.of hl),_,_,rfl,rfl,_,rfl,?_⟩;refine ite2 (λc=>?_) (λc=>?_)
 ·have c':=of_decide_eq_true c;rw[yaa] at c';exact⟨_,rfl,bad (zghb (by omega)) H (Same.refl H)⟩
 have c':¬ (((k:Nat):Int)+2≥(((ws.map V.str).length:Nat):Int)):=λz=>c (decide_eq_true z);rw[yaa] at c';have ha:=yoa (show k<ws.length by omega);generalize ws[k]=a at ha;have hb:=yoa (show k+1<ws.length by omega);generalize ws[k+1]=b at hb;have hc:=yoa (show k+2<ws.length by omega);generalize ws[k+2]=d at hc;have wd:=ok d (yva hc);refine⟨_,rfl,_,rfl,l,_,_,_,rfl,rfl,SqL.of hl,zjc ha,sz2,λtp htp=>⟨tp,_,rfl,.inr (SqT.of zda),rfl,rfl,_,rfl,?_⟩⟩;have S1:=zja htp (.tup [.str "each",.str "one"]);have hl1:=S1 _ _ hl;refine ite2 (λc1=>?_) (λc1=>?_)
 ·exact⟨_,rfl,bad (zolb ha (notIn' (ss:=["each","one"]) c1)) _ S1⟩
 have ma:a∈zym:=isIn' (ss:=["each","one"]) c1;generalize upd H tp (.tup [.str "each",.str "one"])=H1 at *;refine⟨_,rfl,_,rfl,_,_,rfl,rfl,l,_,_,_,rfl,rfl,SqL.of hl1,zjc (k:=k+1) hb,rfl,_,rfl,?_⟩;refine ite2 (λc2=>?_) (λc2=>?_)
 ·have eb:=zlj c2;subst eb;refine⟨_,rfl,_,rfl,_,_,rfl,rfl,l,ws,_,rfl,hl1,ok,λH2 S2=>?_⟩;have y:=q H2 (S1.trans S2);rw[zveb ha ma hb (by decide +kernel) (v:=.non) (j:=k+2) (by unfold zwh;rw[if_pos rfl])] at y;exact y
 have nb:=dec_str' c2;refine⟨_,rfl,_,rfl,_,_,rfl,rfl,l,_,_,_,rfl,rfl,SqL.of hl1,zjc (k:=k+1) hb,sz4,λtq htq=>⟨tq,_,rfl,.inr (SqT.of zda),rfl,rfl,_,rfl,?_⟩⟩;have S2:=S1.trans (zja htq (.tup [.str "hurt",.str "lose",.str "score",.str "draw"]));have hl2:=S2 _ _ hl;generalize upd H1 tq (.tup [.str "hurt",.str "lose",.str "score",.str "draw"])=H2 at *;refine ite2 (λc3=>?_) (λc3=>?_)
 ·have m3:=zbc (ss:=["hurt","lose","score","draw"]).mp c3;refine⟨_,rfl,_,rfl,_,_,rfl,rfl,l,_,_,_,rfl,rfl,SqL.of hl2,zjc (k:=k+2) hc,d,rfl,wd.1,λH3 S23=>?_⟩;have S3:=S2.trans S23;have hl3:=S3 _ _ hl;cases e:isNumber d with
  | true =>
   refine⟨_,rfl,iteT ?_⟩;refine⟨_,rfl,_,rfl,_,_,rfl,rfl,l,ws,_,rfl,hl3,ok,λH4 S4=>?_⟩;obtain⟨i,e2⟩:=zgl hc e;have y:=q H4 (S3.trans S4);rw[zveb ha ma hb (zllb m3).1 (j:=k+3) (by rw[zdmb m3];exact e2)] at y;exact y
  | false =>
   refine⟨_,rfl,iteF ?_⟩;refine⟨_,rfl,_,rfl,_,_,rfl,rfl,l,_,_,_,rfl,rfl,SqL.of hl3,zjc (k:=k+1) hb,sz2,λtr htr=>⟨tr,_,rfl,.inr (SqT.of zda),rfl,rfl,_,rfl,?_⟩⟩;refine ite2 (λc4=>absurd (zbc (ss:=["gain","lack"]).mp c4) (zllb m3).2.2) (λ_=>?_);exact⟨_,rfl,bad (zihb ha ma hb (by rw[zdmb m3];exact zil hc e)) _ (S3.trans (zja htr _))⟩
 ·have m3:=zecb (ss:=["hurt","lose","score","draw"]) c3;refine⟨_,rfl,_,rfl,_,_,rfl,rfl,l,_,_,_,rfl,rfl,SqL.of hl2,zjc (k:=k+1) hb,sz2,λtr htr=>⟨tr,_,rfl,.inr (SqT.of zda),rfl,rfl,_,rfl,?_⟩⟩;have S3:=S2.trans (zja htr (.tup [.str "gain",.str "lack"]));have hl3:=S3 _ _ hl;generalize upd H2 tr (.tup [.str "gain",.str "lack"])=H3 at *;refine ite2 (λc4=>?_) (λc4=>?_)
  ·have m4:=zbc (ss:=["gain","lack"]).mp c4;refine⟨_,rfl,_,rfl,_,_,rfl,rfl,l,_,_,_,rfl,rfl,SqL.of hl3,zjc (k:=k+2) hc,d,rfl,wd.1,λH4 S34=>?_⟩;have S4:=S3.trans S34;have hl4:=S4 _ _ hl;cases e:isName d with
   | true =>
    refine⟨_,rfl,iteT ?_⟩;refine⟨_,rfl,_,rfl,_,_,rfl,rfl,l,ws,_,rfl,hl4,ok,λH5 S5=>?_⟩;have y:=q H5 (S4.trans S5);rw[zveb ha ma hb (znpb m4).1 (j:=k+3) (by rw[zemb m4];exact zjr hc e)] at y;exact y
   | false =>
    refine⟨_,rfl,iteF ?_⟩;exact⟨_,rfl,bad (zihb ha ma hb (by rw[zemb m4];exact zkr hc e)) _ S4⟩
  ·exact⟨_,rfl,bad (znlb ha hb (zgwb nb m3 (zecb (ss:=["gain","lack"]) c4))) _ S3⟩
def spIh:Sp:=λvs H Q _=>Ex2 λl (ws:List Str)=>vs=[.ref l]∧H l=some (.lst (ws.map V.str))∧(∀u∈ws,WdOk u)∧∀H',Same H H'->Q (.bl (decide (pl (zke ws 1)=(ws.length:Int)))) H'
theorem zjwb {u:Str}(h1:u∉(["mute","steal"]:List Str))(h2:u∉(["gain","lack"]:List Str))(h3:u∉(["be","more","less"]:List Str))(h4:u ≠ "per"):u∉changes:=λz=>by
 simp only[changes,yda,ycb,or_false] at z
 rcases z with e|e|e|e|e|e|e|e
 ·exact h1 (by rw[e];simp)
 ·exact h1 (by rw[e];simp)
 ·exact h2 (by rw[e];simp)
 ·exact h2 (by rw[e];simp)
 ·exact h3 (by rw[e];simp)
 ·exact h3 (by rw[e];simp)
 ·exact h3 (by rw[e];simp)
 ·exact h4 e
theorem zuk (a b:Int):decide (V.int a=V.int b)=decide (a=b):=decide_eq_decide.mpr ⟨λz=>by injection z,λz=>by rw[z]⟩
theorem zaz {α:Type}{o:Option (α×Nat)}{n:Nat}(h:o=none):decide (pl o=(n:Int))=false:=by
 rw[h];exact decide_eq_false (by show ¬ ((-1:Int)=_);omega)
theorem znv (T:Tx K mg):FnOk P w K mg base CX0 3 T.zge.f T.zge.d zzk spIh:=by
 refine T.zge.ok ziu ?_;rintro f c A o s H vs Q E hr ⟨l,ws,rfl,hl,ok,q⟩ X;have bad:zke ws 1=none->∀H',Same H H'->Q (.bl false) H':=λz H' S=>by
  have y:=q H' S;rw[zaz z] at y;exact y
 refine⟨_,  (zca (zqb (zma znr (zza zya rfl T.zme yza (zaa (pv 0) zba)) zga (zxa _))
   (zia (zpa zyh))
   zra)
  (zca (zqb (zma zzc (zlb zbb (pv 0) zga (λ_ _=>rfl)) (zqc (zaa zea (zaa zea zba))) rfl)
   (zia (zpa (zkd zed (zka (zub T) hr rfl T.zna.m T.zna.F.kp (zyb T) .nil zib (zaa (pv 0) (zaa zga zba))) (zza zya rfl T.zme yza (zaa (pv 0) zba)) (zxa _))))
   zra)
  (zca (zqb (zma zzc (zlb zbb (pv 0) zga (λ_ _=>rfl)) (zqc (zaa zea (zaa zea zba))) rfl)
   (zia (zpa (zco (zka (znf T).up hr rfl T.znb.m T.znb.F.kp (zyf T) .nil zib (zaa (zlb zbb (pv 0) zga (λ_ _=>rfl)) zba)) (zum (zkd zed (zka (zub T) hr rfl T.zna.m T.zna.F.kp (zyb T) .nil zib (zaa (pv 0) (zaa zga zba))) (zza zya rfl T.zme yza (zaa (pv 0) zba)) (zxa _))))))
   zra)
  (zca (zqb (zma zzc (zlb zbb (pv 0) zga (λ_ _=>rfl)) (zqc (zaa zea (zaa zea (zaa zea zba)))) rfl)
   (zia (zpa (zco (zka (zuc T).up hr rfl T.zab.m T.zab.F.kp (zcd T) .nil zib (zaa (zlb zbb (pv 0) zga (λ_ _=>rfl)) zba)) (zum (zkd zed (zka (zub T) hr rfl T.zna.m T.zna.F.kp (zyb T) .nil zib (zaa (pv 0) (zaa zga zba))) (zza zya rfl T.zme yza (zaa (pv 0) zba)) (zxa _))))))
   zra)
  (zia (zpa (zco (zkd zed (zlb zbb (pv 0) zga (λ_ _=>rfl)) zea (zxa _)) (zum (zkd zed (zka (zub T) hr rfl T.zna.m T.zna.F.kp (zyb T) .nil zib (zaa (pv 0) (zaa (zka (zub T) hr rfl T.zna.m T.zna.F.kp (zyb T) .nil zib (zaa (pv 0) (zaa zga zba))) zba))) (zza zya rfl T.zme yza (zaa (pv 0) zba)) (zxa _)))))))))),?_⟩
 refine⟨_,rfl,l,_,rfl,.inl (SqL.of hl),_,_,rfl,rfl,_,rfl,?_⟩;refine ite2 (λc=>?_) (λc=>?_)
 ·have c':=of_decide_eq_true c;rw[yaa] at c';exact bad (zcob (by omega)) H (Same.refl H)
 have c':¬ ((((ws.map V.str).length:Nat):Int)<3):=λz=>c (decide_eq_true z);rw[yaa] at c';have hu:=yoa (show 1<ws.length by omega);generalize ws[1]=u at hu;have hd:=yoa (show 2<ws.length by omega);generalize ws[2]=d at hd;have wd:=ok d (yva hd);have fin:∀{H':Hp} {j:Nat} {v:Hv},u∈changes->zpb u ws 2=some (v,j)->Same H H'->Q (.bl (decide (V.int (beW ws (j:Int))=V.int (((ws.map V.str).length:Nat):Int)))) H':=λ{H' j v} m e S=>by
  have y:=q H' S;rw[zzkb hu m e] at y;rw[zuk,yaa];exact y
 refine⟨_,rfl,l,_,_,_,rfl,rfl,SqL.of hl,zjc (k:=1) hu,sz2,λtp htp=>⟨tp,_,rfl,.inr (SqT.of zda),rfl,rfl,_,rfl,?_⟩⟩;have S1:=zja htp (.tup [.str "mute",.str "steal"]);have hl1:=S1 _ _ hl;generalize upd H tp (.tup [.str "mute",.str "steal"])=H1 at *;refine ite2 (λc1=>?_) (λc1=>?_)
 ·have m:=zbc (ss:=["mute","steal"]).mp c1;refine⟨_,rfl,l,ws,_,rfl,hl1,ok,λH2 S2=>?_⟩;refine⟨_,rfl,l,_,rfl,.inl (SqL.of (S2 _ _ hl1)),rfl,?_⟩;exact fin (by rcases mem2 m with e|e<;>rw[e]<;>decide +kernel) (zpob m) (S1.trans S2)
 refine⟨_,rfl,l,_,_,_,rfl,rfl,SqL.of hl1,zjc (k:=1) hu,sz2,λtq htq=>⟨tq,_,rfl,.inr (SqT.of zda),rfl,rfl,_,rfl,?_⟩⟩;have S2:=S1.trans (zja htq (.tup [.str "gain",.str "lack"]));have hl2:=S2 _ _ hl;generalize upd H1 tq (.tup [.str "gain",.str "lack"])=H2 at *;refine ite2 (λc2=>?_) (λc2=>?_)
 ·have m:=zbc (ss:=["gain","lack"]).mp c2;refine⟨_,rfl,l,_,_,_,rfl,rfl,SqL.of hl2,zjc (k:=2) hd,d,rfl,wd.1,λH3 S23=>⟨_,rfl,?_⟩⟩;have S3:=S2.trans S23;have hl3:=S3 _ _ hl;cases e:isName d with
  | true =>
   refine iteT ?_;refine⟨_,rfl,l,ws,_,rfl,hl3,ok,λH4 S4=>?_⟩;refine⟨_,rfl,l,_,rfl,.inl (SqL.of (S4 _ _ hl3)),rfl,?_⟩;exact fin (j:=3) (by rcases mem2 m with e|e<;>rw[e]<;>decide +kernel) (by rw[zrlb m,zjr hd e];rfl) (S3.trans S4)
  | false=>exact iteF (bad (znt hu (by rw[zrlb m,zkr hd e];rfl)) _ S3)
 refine⟨_,rfl,l,_,_,_,rfl,rfl,SqL.of hl2,zjc (k:=1) hu,sz3,λtr htr=>⟨tr,_,rfl,.inr (SqT.of zda),rfl,rfl,_,rfl,?_⟩⟩;have S3:=S2.trans (zja htr (.tup [.str "be",.str "more",.str "less"]));have hl3:=S3 _ _ hl;generalize upd H2 tr (.tup [.str "be",.str "more",.str "less"])=H3 at *;refine ite2 (λc3=>?_) (λc3=>?_)
 ·have m:=zbc (ss:=["be","more","less"]).mp c3;refine⟨_,rfl,l,_,_,_,rfl,rfl,SqL.of hl3,zjc (k:=2) hd,d,rfl,wd.1,λH4 S34=>⟨_,rfl,?_⟩⟩;have S4:=S3.trans S34;have hl4:=S4 _ _ hl;cases e:isNumber d with
  | true =>
   refine iteT ?_;obtain⟨i,e2⟩:=zgl hd e;refine⟨_,rfl,l,ws,_,rfl,hl4,ok,λH5 S5=>?_⟩;refine⟨_,rfl,l,_,rfl,.inl (SqL.of (S5 _ _ hl4)),rfl,?_⟩;exact fin (j:=3) (by rcases mem3 m with e|e|e<;>rw[e]<;>decide +kernel) (by rw[zrpb m,e2];rfl) (S4.trans S5)
  | false=>exact iteF (bad (znt hu (by rw[zrpb m,zil hd e];rfl)) _ S4)
 refine⟨_,rfl,l,_,_,_,rfl,rfl,SqL.of hl3,zjc (k:=1) hu,rfl,_,rfl,?_⟩;refine ite2 (λc4=>?_) (λc4=>?_)
 ·have e:=zlj c4;subst e;refine⟨_,rfl,_,rfl,l,ws,_,rfl,hl3,ok,λH4 S4=>?_⟩;have hl4:=S4 _ _ hl3;refine⟨l,ws,_,rfl,hl4,ok,λH5 S5=>?_⟩;refine⟨_,rfl,l,_,rfl,.inl (SqL.of (S5 _ _ hl4)),rfl,?_⟩;have y:=q H5 (S3.trans (S4.trans S5));rw[zxub hu] at y;rw[zuk,yaa];exact y
 ·exact bad (zqcb hu (zjwb (zecb (ss:=["mute","steal"]) c1) (zecb (ss:=["gain","lack"]) c2) (zecb (ss:=["be","more","less"]) c3) (dec_str' c4))) _ S3
@[elab_as_elim] theorem laid {H:Hp} {l:Addr} {o:HO} {motive:Hp->Prop} (hl:H l=none) (h:∀H1,Same H H1->H1 l=some o->motive H1):motive (upd H l o):=h _ (zja hl o) zda
theorem zmtb {u:Str}(h:WdOk u):ybe (.str u)=true:=by
 rw[ybe];unfold ynl;rw[← yqk,yyb];intro c hc;exact decide_eq_true (by have:=h.2 c hc;omega)
theorem zgr {ms:List Str}(h:∀m∈ms,WdOk m):yfd (.list (ms.map .str))=true:=by
 unfold yfd;rw[ybe,zoz ms (λx hx=>zmtb (h x hx)),yij,zdab];rfl
theorem zxkb (u:Str)(ss:List Str):inV (.str u) (ss.map V.str)=decide (u∈ss):=by
 by_cases e:u∈ss
 ·rw[zpr e,decide_eq_true e]
 ·rw[decide_eq_false e];exact ygc.mpr λy=>e (zbc.mp y)
theorem zjlb (xs ys:List Str):ylh (.list (xs.map .str)) (.list (ys.map .str))=decide (xs=ys):=by rw[ylh,zxm]
def spIt:Sp:=λvs H Q _=>Ex3 λ(kd:Str) l (ts:List Str)=>vs=[.str kd,.ref l]∧H l=some (.lst (ts.map V.str))∧(∀u∈ts,WdOk u)∧∀H',Same H H'->Q (.bl (tnOk kd ts)) H'
theorem sh1:yfd (.list ((["none"]:List Str).map PyData.str))=true:=by decide +kernel
theorem sh2:yfd (.list ((["here"]:List Str).map PyData.str))=true:=by decide +kernel
theorem zlv (T:Tx K mg):FnOk P w K mg base CX0 3 T.zee.f T.zee.d zwk spIt:=by
 refine T.zee.ok zgu ?_;rintro f c A o s H vs Q E hr ⟨kd,l,ts,rfl,hl,ok,q⟩ X;have sh:=zgr ok;refine⟨_,  (zca (zqb (zma (zsbb hr.units) (pv 1) (zob (zaa zea zba)) (zxa _))
   (zia (zpa zyh))
   zra)
  (zca (zqb (zma (zsbb hr.units) (pv 1) (zob (zaa zea zba)) (zxa _))
   (zia (zpa (zkd zzc (pv 0) (zqc (zaa zea (zaa zea (zaa zea (zaa zea zba))))) rfl)))
   zra)
  (zca (zqb (zma zjeb (zza zya rfl T.zme yza (zaa (pv 1) zba)) zga (zxa _))
   (zia (zpa zyh))
   zra)
  (zca (zqb (zma zzc (zlb zbb (pv 1) zga (λ_ _=>rfl)) (zqc (zaa zea (zaa zea zba))) rfl)
   (zia (zpa (zco (zkd zzc (pv 0) (zqc (zaa zea (zaa zea (zaa zea (zaa zea zba))))) rfl) (zum (zka (zuc T).up hr rfl T.zab.m T.zab.F.kp (zcd T) .nil zib (zaa (zlb zbb (pv 1) zga (λ_ _=>rfl)) zba))))))
   zra)
  (zia (zpa (zco (zkd zed (zlb zbb (pv 1) zga (λ_ _=>rfl)) zea (zxa _)) (zco (zkd zzc (pv 0) (zqc (zaa zea (zaa zea (zaa zea zba)))) rfl) (zum (zkd zzc (zlb zbb (pv 1) zga (λ_ _=>rfl)) (zqc (zaa zea (zaa zea (zaa zea zba)))) rfl)))))))))),?_⟩
 refine⟨_,rfl,sz1,λp1 hp1=>?_⟩;have S1:=zja hp1 (.lst [.str "none"]);refine⟨.list (ts.map .str),.list ((["none"]:List Str).map .str),.lst (SqL.of (S1 _ _ hl)) (zqk _),.lst (SqL.of zda) (zqk ["none"]),sh,sh1,_,rfl,?_⟩;rw[zjlb];generalize upd H p1 (.lst [.str "none"])=H1 at *;refine ite2 (λc=>?_) (λc=>?_)
 ·have c':=of_decide_eq_true c;have y:=q H1 S1;rw[c'] at y;exact y
 have n1:ts≠(["none"]:List Str):=λz=>c (decide_eq_true z);refine⟨_,rfl,sz1,λp2 hp2=>?_⟩;have S2:=S1.trans (zja hp2 (.lst [.str "here"]));refine⟨.list (ts.map .str),.list ((["here"]:List Str).map .str),.lst (SqL.of (S2 _ _ hl)) (zqk _),.lst (SqL.of zda) (zqk ["here"]),sh,sh2,_,rfl,?_⟩;rw[zjlb];generalize upd H1 p2 (.lst [.str "here"])=H2 at *;refine ite2 (λc=>?_) (λc=>?_)
 ·have c':=of_decide_eq_true c;refine⟨_,rfl,sz4,λtp htp=>⟨tp,_,rfl,.inr (SqT.of zda),rfl,rfl,?_⟩⟩;have y:=q _ (S2.trans (zja htp (.tup [.str "leave",.str "hurt",.str "gain",.str "lack"])));rw[c'] at y;have e:tnOk kd ["here"]=inV (.str kd) ((["leave","hurt","gain","lack"]:List Str).map V.str):=by
   rw[zxkb];show (decide (("here":Str) = "none")||(decide (("here":Str) = "here")&&decide (kd∈(["leave","hurt","gain","lack"]:List Str))))=_
   rw[decide_eq_false (by decide +kernel),decide_eq_true rfl,ymk,ybc]
  rw[e] at y;exact y
 have n2:ts≠(["here"]:List Str):=λz=>c (decide_eq_true z);refine⟨_,rfl,l,_,rfl,.inl (SqL.of (S2 _ _ hl)),rfl,_,rfl,?_⟩;refine ite2 (λc=>?_) (λc=>?_)
 ·have c':ts.length≠2:=λz=>by
   rw[yaa,z] at c;exact absurd c (by decide)
  have y:=q H2 S2;have e:tnOk kd ts=false:=by
   match ts,c',n1,n2 with
   | [],_,_,_=>rfl
   | [a],_,n1,n2 =>
    show (decide (a = "none")||(decide (a = "here")&&_))=false
    rw[decide_eq_false (λz=>n1 (by rw[z])),decide_eq_false (λz=>n2 (by rw[z]))];rfl
   | [a,b],c',_,_=>exact absurd rfl c'
   | _::_::_::_,_,_,_=>rfl
  rw[e] at y;exact y
 have c':ts.length=2:=by
  rcases yef (ts.length=2) with z|z
  ·exact z
  ·exfalso;apply c;rw[yaa];show (!decide (V.int ((ts.length:Nat):Int)=V.int 2))=true
   rw[zuk,decide_eq_false (by omega)];rfl
 match ts,c',hl,ok,q with
 | [a,b],_,hl,ok,q =>
 have wb:=ok b (by simp);refine⟨_,rfl,l,_,_,_,rfl,rfl,SqL.of (S2 _ _ hl),zjc (k:=0) (ws:=[a,b]) rfl,sz2,λtp htp=>⟨tp,_,rfl,.inr (SqT.of zda),rfl,rfl,_,rfl,?_⟩⟩;have S3:=S2.trans (zja htp (.tup [.str "less",.str "more"]));generalize upd H2 tp (.tup [.str "less",.str "more"])=H3 at *;refine ite2 (λc3=>?_) (λc3=>?_)
 ·have m3:=zbc (ss:=["less","more"]).mp c3;have e0:tnOk kd [a,b]=(decide (kd∈(["hurt","lose","score","draw"]:List Str))&&isNumber b):=by
   show (if a∈(["less","more"]:List Str) then _ else _)=_
   rw[if_pos m3]
  rw[e0] at q;refine⟨_,rfl,sz4,λtq htq=>⟨tq,_,rfl,.inr (SqT.of zda),rfl,rfl,_,rfl,?_⟩⟩;have S4:=S3.trans (zja htq (.tup [.str "hurt",.str "lose",.str "score",.str "draw"]));generalize upd H3 tq (.tup [.str "hurt",.str "lose",.str "score",.str "draw"])=H4 at *;refine ite2 (λc4=>?_) (λc4=>?_)
  ·have m4:=zbc (ss:=["hurt","lose","score","draw"]).mp c4;refine⟨_,rfl,l,_,_,_,rfl,rfl,SqL.of (S4 _ _ hl),zjc (k:=1) (ws:=[a,b]) rfl,b,rfl,wb.1,λH5 S5=>?_⟩;have y:=q H5 (S4.trans S5);rw[decide_eq_true m4,ybc] at y;exact y
  ·have y:=q H4 S4;rw[decide_eq_false (zecb (ss:=["hurt","lose","score","draw"]) c4),yqb] at y;exact y
 have m3:=zecb (ss:=["less","more"]) c3;have e0:tnOk kd [a,b]=(decide (a = "as")&&(decide (kd∈(["lose","score","draw"]:List Str))&&decide (b∈(["lose","score","draw"]:List Str)))):=by
  show (if a∈(["less","more"]:List Str) then _ else _)=_
  rw[if_neg m3]
 rw[e0] at q;refine⟨_,rfl,l,_,_,_,rfl,rfl,SqL.of (S3 _ _ hl),zjc (k:=0) (ws:=[a,b]) rfl,rfl,_,rfl,?_⟩;refine ite2 (λc4=>?_) (λc4=>?_)
 ·have e4:=zlj c4;rw[decide_eq_true e4,ybc] at q;refine⟨_,rfl,sz3,λtq htq=>⟨tq,_,rfl,.inr (SqT.of zda),rfl,rfl,_,rfl,?_⟩⟩;have S4:=S3.trans (zja htq (.tup [.str "lose",.str "score",.str "draw"]));generalize upd H3 tq (.tup [.str "lose",.str "score",.str "draw"])=H4 at *;refine ite2 (λc5=>?_) (λc5=>?_)
  ·have m5:=zbc (ss:=["lose","score","draw"]).mp c5;rw[decide_eq_true m5,ybc,← zxkb] at q;refine⟨_,rfl,l,_,_,_,rfl,rfl,SqL.of (S4 _ _ hl),zjc (k:=1) (ws:=[a,b]) rfl,sz3,λtr htr=>⟨tr,_,rfl,.inr (SqT.of zda),rfl,rfl,?_⟩⟩;exact q _ (S4.trans (zja htr _))
  ·have y:=q H4 S4;rw[decide_eq_false (zecb (ss:=["lose","score","draw"]) c5),yqb] at y;exact y
 ·have y:=q H3 S3;rw[decide_eq_false (dec_str' c4),yqb] at y;exact y
def spIr:Sp:=λvs H Q _=>Ex2 λl (ws:List Str)=>vs=[.ref l]∧H l=some (.lst (ws.map V.str))∧ws≠[]∧ws.length≤100000∧(∀u∈ws,WdOk u)∧∀H',Same H H'->Q (.bl (isR ws)) H'
theorem zmv (T:Tx K mg):FnOk P w K mg base CX0 4 T.zfe.f T.zfe.d zxk spIr:=by
 refine T.zfe.ok zyi ?_;rintro f c A o s H vs Q E hr ⟨l,ws,rfl,hl,hne,hlen,ok,q⟩ X;refine⟨_,  (zca (zqb (zma zed (zlb zbb (pv 0) zga (λ_ _=>rfl)) zea (zxa _))
   (zia (zpa (zka (znv T) hr rfl T.zge.m T.zge.F.kp (zkx T) .nil zib (zaa (pv 0) zba))))
   zra)
  (zca (zqb (zma zed (zlb zbb (pv 0) zga (λ_ _=>rfl)) zea (zxa _))
   (zca (zqb (PW.pt (zmo (zma znr (zza zya rfl T.zme yza (zaa (pv 0) zba)) zga (zxa _)) (zmo (zak (zxh (zka (zuc T).up hr rfl T.zab.m T.zab.F.kp (zcd T) .nil zib (zaa (zlb zbb (pv 0) zga (λ_ _=>rfl)) zba)))) (zdq (zma zjeb (zlb zbb (pv 0) zga (λ_ _=>rfl)) zea (zxa _))))))
    (zia (zpa zyh))
    zra)
   (zia (zpa (zkd zed (zka (zgj T) hr rfl T.zxb.m T.zxb.F.kp (zpk T) .nil zib (zaa (pv 0) (zaa zga zba))) (zza zya rfl T.zme yza (zaa (pv 0) zba)) (zxa _)))))
   zra)
  (zca (zqb (PW.pt (zmo (zma zck (zlb zbb (pv 0) zga (λ_ _=>rfl)) (zqc (zaa zea (zaa zea zba))) rfl) (zdq (zma znr (zza zya rfl T.zme yza (zaa (pv 0) zba)) zga (zxa _)))))
   (zia (zpa zyh))
   zra)
  (zca (zta (i:=1) zyi.nd rfl (.inl rfl) (zcb zze (zob (zaa zea (zaa zea (zaa zea (zaa zea (zaa zea (zaa zea (zaa zea zba)))))))) (zcb zbvb (zob (zaa zea zba)) (zrc zwcb rfl T.zqhb boot_int (zaa (zkd zed (zlb zbb (pv 0) zga (λ_ _=>rfl)) zea (zxa _)) zba)))))
  (zca (zta (i:=2) zyi.nd rfl (.inl rfl) (zka (zub T).up hr rfl T.zna.m T.zna.F.kp (zyb T) .nil zib (zaa (pv 0) (zaa zga zba))))
  (zca (zqb (PW.pt (zmo (zma zck (zlb zbb (pv 0) zga (λ_ _=>rfl)) (pv 1) rfl) (zmo (zma znr (pv 2) zga (zxa _)) (zmo (zma zlnb (pv 2) (zza zya rfl T.zme yza (zaa (pv 0) zba)) (zxa _)) (zdq (zma zjeb (zlb zbb (pv 0) (pv 2) (λ_ _=>rfl)) zea (zxa _)))))))
   (zia (zpa zyh))
   zra)
  (zca (zqb (zma zed (zlb zbb (pv 0) zga (λ_ _=>rfl)) zea (zxa _))
   (zia (zpa (zkd zed (zka (zgj T) hr rfl T.zxb.m T.zxb.F.kp (zpk T) .nil zib (zaa (pv 0) (zaa (zcb zfd (pv 2) zga) zba))) (zza zya rfl T.zme yza (zaa (pv 0) zba)) (zxa _))))
   zra)
  (zia (zpa (zka (zlv T) hr rfl T.zee.m T.zee.F.kp (zix T) .nil zib (zaa (zlb zbb (pv 0) zga (λ_ _=>rfl)) (zaa (zlc zgf (pv 0) (ztd (zcb zfd (pv 2) zga)) zud) zba)))))))))))),?_⟩
 have hp0:0<ws.length:=ydm.mpr hne;have h0:=yoa hp0;generalize ws[0]=a at h0;refine⟨_,rfl,l,_,_,_,rfl,rfl,SqL.of hl,zjc (k:=0) h0,rfl,_,rfl,?_⟩;refine ite2 (λc=>?_) (λc=>?_)
 ·have e:=zlj c;rw[zvkb h0 (by rw[e];decide +kernel)] at q;have e2:zcv a ws=zke ws 1:=by unfold zcv;rw[if_pos e]
  rw[e2] at q;exact⟨_,rfl,l,ws,rfl,hl,ok,q⟩
 have n1:=dec_str' c;refine⟨_,rfl,l,_,_,_,rfl,rfl,SqL.of hl,zjc (k:=0) h0,rfl,_,rfl,?_⟩;refine ite2 (λc=>?_) (λc=>?_)
 ·have e:=zlj c;rw[zvkb h0 (by rw[e];decide +kernel)] at q;have e2:zcv a ws=zoi ws 1:=by
   unfold zcv;rw[if_neg n1,if_neg (by rw[e];decide +kernel),if_neg (by rw[e];decide +kernel)]
  rw[e2] at q;have bad:zoi ws 1=none->∀H',Same H H'->Q (.bl false) H':=λz H' S=>by
   have y:=q H' S;rw[zaz z] at y;exact y
  refine⟨_,rfl,l,_,rfl,.inl (SqL.of hl),_,_,rfl,rfl,_,rfl,?_⟩;refine ite2 (λc=>?_) (λc=>?_)
  ·have c':=of_decide_eq_true c;rw[yaa] at c';exact bad (zesb (by omega)) H (Same.refl H)
  have c':¬ ((((ws.map V.str).length:Nat):Int)<4):=λz=>c (decide_eq_true z);rw[yaa] at c';have h1:=yoa (show 1<ws.length by omega);generalize ws[1]=n at h1;have h2:=yoa (show 2<ws.length by omega);generalize ws[2]=d at h2;have wn:=ok n (yva h1);refine⟨_,rfl,l,_,_,_,rfl,rfl,SqL.of hl,zjc (k:=1) h1,n,rfl,wn.1,λH1 S1=>?_⟩;cases en:isNumber n with
  | false =>
   refine⟨_,rfl,iteT ?_⟩;exact bad (zdsb (zil h1 en)) H1 S1
  | true =>
  refine⟨_,rfl,iteF ?_⟩;refine⟨_,rfl,l,_,_,_,rfl,rfl,SqL.of (S1 _ _ hl),zjc (k:=2) h2,rfl,_,rfl,?_⟩;refine ite2 (λc=>?_) (λc=>?_)
  ·exact bad (zmvb h2 (λz=>by rw[z] at c;exact absurd c (by decide +kernel))) H1 S1
  have ed:d = "do":=by
   rcases yef (d = "do") with z|z
   ·exact z
   ·exact absurd (show (!decide (V.str d=V.str "do"))=true by rw[decide_eq_false (λy=>z (by injection y))];rfl) c
  subst ed;obtain⟨i,e3⟩:=zgl h1 en;rw[zlvb e3 h2] at q;refine⟨_,rfl,l,ws,3,rfl,S1 _ _ hl,ok,λH2 S2=>?_⟩;refine⟨_,rfl,l,_,rfl,.inl (SqL.of (S2 _ _ (S1 _ _ hl))),rfl,?_⟩;rw[zuk,yaa];exact q H2 (S1.trans S2)
 have n2:=dec_str' c;refine⟨_,rfl,l,_,_,_,rfl,rfl,SqL.of hl,zjc (k:=0) h0,sz2,λtp htp=>⟨tp,_,rfl,.inr (SqT.of zda),rfl,rfl,_,rfl,?_⟩⟩;have S1:=zja htp (.tup [.str "when",.str "instead"]);have hl1:=S1 _ _ hl;generalize upd H tp (.tup [.str "when",.str "instead"])=H1 at *;refine ite2 (λc=>?_) (λc=>?_)
 ·have m:=notIn' (ss:=["when","instead"]) c;have y:=q H1 S1;rw[zyvb h0 (λz=>by
   simp only[sorts,yda,ycb,or_false] at z
   rcases z with e|e|e|e
   ·exact n1 e
   ·exact m (by rw[e];simp)
   ·exact m (by rw[e];simp)
   ·exact n2 e)] at y
  exact y
 have m:=isIn' (ss:=["when","instead"]) c;have es:zcv a ws=if a = "when" then zoe ws 1 else zsb ws 1:=by
  unfold zcv;rw[if_neg n1]
  rcases mem2 m with e|e
  ·rw[if_pos e,if_pos e]
  ·have nw:¬ a = "when":=by rw[e];decide +kernel
   rw[if_neg nw,if_pos e,if_neg nw]
 rw[zvkb h0 (by rcases mem2 m with e|e<;>rw[e]<;>decide +kernel),es] at q;have bad:zoe ws 1=none∧zsb ws 1=none->∀H',Same H H'->Q (.bl false) H':=λz H' S=>by
  have y:=q H' S;rw[zaz (by rw[z.1,z.2];exact ite_self _)] at y;exact y
 refine⟨_,rfl,l,_,rfl,.inl (SqL.of hl1),_,_,rfl,rfl,_,rfl,?_⟩;refine ite2 (λc=>?_) (λc=>?_)
 ·have c':=of_decide_eq_true c;rw[yaa] at c';exact bad (zxcb (zzy (by omega))) H1 S1
 have c':¬ ((((ws.map V.str).length:Nat):Int)<3):=λz=>c (decide_eq_true z);rw[yaa] at c';have h1:=yoa (show 1<ws.length by omega);generalize ws[1]=u at h1;have bad2:(a = "when"->zoe ws 1=none)->(a ≠ "when"->zsb ws 1=none)->∀H',Same H H'->Q (.bl false) H':=λz1 z2 H' S=>by
  have y:=q H' S;rw[zaz (by
   by_cases e:a = "when"
   ·rw[if_pos e,z1 e]
   ·rw[if_neg e,z2 e])] at y
  exact y
 refine⟨sz7,λk1 hk1=>?_⟩;refine laid hk1 λH2 S12 ek1=>?_;refine⟨sz1,λk2 hk2=>?_⟩;refine laid hk2 λH3 S23 ek2=>?_;have hl3:=S23 _ _ (S12 _ _ hl1);refine⟨_,rfl,l,_,_,_,rfl,rfl,SqL.of hl3,zjc (k:=0) h0,rfl,.inr ⟨_,rfl,?_⟩⟩;have hcm:∀b:Bool,(ykc ((if b then (1:Int) else 0)).toNat [V.str "come"]).flatten=((if b then ["come"] else []:List Str)).map V.str:=λb=>by cases b<;>rfl
 have hn:∀b:Bool,0≤(if b then (1:Int) else 0)∧(if b then (1:Int) else 0)≤1:=λb=>by cases b<;>decide
 have hb2:=hn (decide (V.str a=V.str "when"));refine⟨k2,_,_,rfl,rfl,ek2,(by have:=hb2.1;omega),(by have:=hb2.2;omega),(by show 1*((if decide (V.str a=V.str "when") then (1:Int) else 0)).toNat≤yua;exact small (by omega)),λk3 hk3=>?_⟩;rw[hcm];refine laid hk3 λH4 S34 ek3=>?_;have hxl:(if decide (V.str a=V.str "when") then ["come"] else []:List Str).length≤1:=by cases decide (V.str a=V.str "when")<;>decide
 refine⟨k1,k3,_,_,rfl,rfl,S34 _ _ (S23 _ _ ek1),ek3,(by rw[yaa];exact small (by show 7+_≤1000;omega)),λk4 hk4=>?_⟩;refine laid hk4 λH5 S45 ek4=>?_;have ek:H5 k4=some (.lst ((zqa++(if decide (V.str a=V.str "when") then ["come"] else []:List Str)).map V.str)):=by rw[ek4,ydb];rfl
 have S5:Same H H5:=S1.trans (S12.trans (S23.trans (S34.trans S45)));have hl5:=S5 _ _ hl;clear ek4 ek3 ek2 ek1 hl3 hcm hn hb2;refine⟨_,rfl,l,ws,2,rfl,hl5,ok,λH6 S56=>?_⟩;have S6:=S5.trans S56;have hl6:=S6 _ _ hl;have e2:beW ws 2=pl (rdW ws 2):=zkab ws 2;rw[e2];have hkm:∀{x:Str},x∈zqa++(if decide (V.str a=V.str "when") then ["come"] else []:List Str)->(a = "when"->x∈zxc)∧(a ≠ "when"->x∈zqa):=λ{x} hx=>by
  refine⟨λe=>?_,λe=>?_⟩
  ·rw[e,if_pos (decide_eq_true rfl)] at hx
   rcases yna.mp hx with z|z
   ·exact (show ∀x∈zqa,x∈zxc by decide +kernel) x z
   ·rw[yca.mp z];decide +kernel
  ·rw[if_neg (λz=>e (zlj z)),yrb] at hx;exact hx
 have hkn:∀{x:Str},x∉zqa++(if decide (V.str a=V.str "when") then ["come"] else []:List Str)->(a = "when"->x∉zxc)∧(a ≠ "when"->x∉zqa):=λ{x} hx=>by
  refine⟨λe z=>hx ?_,λe z=>hx (ycc _ z)⟩;rw[e,if_pos (decide_eq_true rfl)];exact (show ∀x∈zxc,x∈zqa++(["come"]:List Str) by decide +kernel) x z
 generalize hks:zqa++(if decide (V.str a=V.str "when") then ["come"] else []:List Str)=ks at *;have ek6:=S56 _ _ ek;refine⟨_,rfl,l,_,_,_,rfl,rfl,SqL.of hl6,zjc (k:=1) h1,_,rfl,k4,_,rfl,.inl (SqL.of ek6),rfl,zaw ks,_,rfl,?_⟩;refine ite2 (λc=>?_) (λc=>?_)
 ·have m4:=hkn (notIn' (ss:=ks) c);exact bad2 (λe=>(zycb h1).1 (m4.1 e)) (λe=>(zycb h1).2 (m4.2 e)) H6 S6
 have m4:=hkm (isIn' (ss:=ks) c);cases hw:rdW ws 2 with
 | none =>
  refine⟨_,rfl,_,_,rfl,rfl,_,rfl,?_⟩;exact ite2 (λ_=>bad (zxcb hw) H6 S6) (λc=>absurd (show decide ((-1:Int)<0)=true by decide) c)
 | some yj =>
 obtain⟨y,j⟩:=yj;refine⟨_,rfl,_,_,rfl,rfl,_,rfl,?_⟩;refine ite2 (λc=>absurd (of_decide_eq_true c) (by show ¬ ((j:Int)<0);omega)) (λ_=>?_);refine⟨_,rfl,_,rfl,l,_,rfl,.inl (SqL.of hl6),_,_,rfl,rfl,_,rfl,?_⟩;refine ite2 (λc=>?_) (λc=>?_)
 ·have c':(j:Int)≥(((ws.map V.str).length:Nat):Int):=of_decide_eq_true c;rw[yaa] at c';exact bad (zxlb hw (zfv (by omega))) H6 S6
 have cj:¬ ((j:Int)≥(((ws.map V.str).length:Nat):Int)):=λz=>c (decide_eq_true z);rw[yaa] at cj;have hj:=yoa (show j<ws.length by omega);generalize ws[j]=d at hj;refine⟨_,rfl,_,rfl,l,_,_,_,rfl,rfl,SqL.of hl6,zjc hj,rfl,_,rfl,?_⟩;refine ite2 (λc=>?_) (λc=>?_)
 ·have nd:d ≠ "do":=λz=>by rw[z] at c;exact absurd c (by decide +kernel)
  exact bad (zxlb hw (zye hj (by simpa using nd))) H6 S6
 have ed:d = "do":=by
  rcases yef (d = "do") with z|z
  ·exact z
  ·exact absurd (show (!decide (V.str d=V.str "do"))=true by rw[decide_eq_false (λy=>z (by injection y))];rfl) c
 subst ed;refine⟨_,rfl,l,_,_,_,rfl,rfl,SqL.of hl6,zjc (k:=0) h0,rfl,_,rfl,?_⟩;refine ite2 (λc=>?_) (λc=>?_)
 ·have e:=zlj c;rw[if_pos e,zypb h1 (m4.1 e) hw hj] at q;refine⟨_,rfl,_,rfl,_,_,rfl,rfl,l,ws,j+1,rfl,hl6,ok,λH7 S7=>?_⟩;refine⟨_,rfl,l,_,rfl,.inl (SqL.of (S7 _ _ hl6)),rfl,?_⟩;rw[zuk,yaa];exact q H7 (S6.trans S7)
 ·have e:=dec_str' c;rw[if_neg e,zksb h1 (m4.2 e) hw hj,← zomb (m4.2 e) (by omega)] at q;refine⟨_,rfl,l,_,_,_,rfl,rfl,SqL.of hl6,zjc (k:=1) h1,_,rfl,_,rfl,_,_,rfl,rfl,_,rfl,l,_,rfl,SqL.of hl6,λk5 hk5=>?_⟩;have xD:cutV (ws.map V.str) (some (((j:Nat):Int)+1)) none=(ws.drop (j+1)).map V.str:=by
   have z:=zll (ws.map V.str) (j+1);rw[← ynk] at z;exact z
  rw[show pl (some (y,j))=((j:Nat):Int) from rfl,xD];refine laid hk5 λH7 S7 e7=>?_;exact⟨u,k5,ws.drop (j+1),rfl,e7,λv hv=>ok v (ykg hv),λH8 S8=>q H8 (S6.trans (S7.trans S8))⟩
theorem zxsb {xs:List Str}:∀n,n≤xs.length->(SSet.dd (xs.take n)).length=n->SSet.dd (xs.take n)=xs.take n∧(xs.take n).Nodup:=by
 intro n
 induction n with
 | zero=>intro _ _;exact⟨rfl,ywl⟩
 | succ n ih =>
  intro hn hl;have hlt:n<xs.length:=hn;have e:xs.take (n+1)=xs.take n++[xs[n]]:=by
   rw[ywb,yoa hlt];rfl
  rw[e,SSet.zro] at hl;have le:=SSet.znob n xs
  by_cases m:xs[n]∈SSet.dd (xs.take n)
  ·rw[if_pos m] at hl;omega
  ·rw[if_neg m,yha,yjc] at hl;obtain⟨i1,i2⟩:=ih (by omega) (by omega);rw[e,SSet.zro,if_neg m,i1];rw[i1] at m;exact⟨rfl,ydk.mpr ⟨i2,by simp,λx hx y hy z=>m (by rw[← yca.mp hy,← z];exact hx)⟩⟩
theorem nodup_iff {xs:List Str}:(SSet.dd xs).length=xs.length↔xs.Nodup:=by
 refine⟨λh=>?_,λh=>by rw[zeab h]⟩;have z:=zxsb (xs:=xs) xs.length (yxa _) (by rw[ybd];exact h);rw[ybd] at z;exact z.2
def spIm:Sp:=λvs H Q _=>∃(u:Str),vs=[.str u]∧WdOk u∧(yma u ",").length≤20∧∀H',Same H H'->Q (.bl (zbd u).isSome) H'
theorem zet (T:Tx K mg):FnOk P w K mg base CX0 3 T.zpd.f T.zpd.d zpj spIm:=by
 refine T.zpd.ok zmi ?_;rintro f c A o s H vs Q E hr ⟨u,rfl,wd,ml,q⟩ X;refine⟨_,  (zca (zqb (zma zed (pv 0) zea (zxa _))
   (zia (zpa zyh))
   zra)
  (zca (zta (i:=1) zmi.nd rfl (.inl rfl) (zog yta yyc yzc zdk (pv 0) (zaa zea zba)))
  (zca (znbb ycg rfl (zbz (pv 1)) (zwd (i:=2) zmi.nd rfl (.inl rfl))
   (zia (zqb (zak (zxh (zka (znf T).up hr rfl T.znb.m T.znb.F.kp (zyf T) .nil zib (zaa (pv 2) zba))))
    (zia (zpa zyh))
    zra)))
  (zia (zpa (zco (zkd (zsbb hr.units) (pv 1) (zza zdm rfl T.zin boot_sorted (zaa (pv 1) zba)) (zxa _)) (zum (zkd zed (zza ziab rfl T.zme yza (zaa (zrc (zvq rfl) rfl T.ztib boot_set (zaa (pv 1) zba)) zba)) (zza zya rfl T.zme yza (zaa (pv 1) zba)) (zxa _))))))))),?_⟩
 refine⟨_,rfl,rfl,_,rfl,?_⟩;refine ite2 (λc=>?_) (λc=>?_)
 ·have c':=zlj c;have y:=q H (Same.refl H);unfold zbd at y;rw[if_pos c'] at y;exact y
 have nd:=dec_str' c;have e0:zbd u=if ((yma u ",").map isName).all id=true∧(yma u ",").Nodup∧yri (yma u ",")=true then some (yma u ",") else none:=by
  unfold zbd;rw[if_neg nd]
 rw[e0] at q;refine⟨_,rfl,rfl,_,_,rfl,rfl,(by decide +kernel),(ypa (yyh wd.1 2) (by decide)),λl hl=>?_⟩;have okw:∀m∈yma u ",",WdOk m:=λm hm=>by
  have z:=(zvp hm).length_le;rw[len_list,len_list] at z;exact⟨ypa z wd.1,λc hc=>wd.2 c ((zvp hm).subset hc)⟩
 generalize yma u "," = ms at *;refine laid hl λH1 S1 e1=>?_;refine⟨_,rfl,l,rfl,⟨_,SqL.of e1⟩,?_⟩;refine zkob (xs:=ms.map V.str) (λi σ H'=>Same H1 H'∧((ms.take i).map isName).all id=true∧∃o,σ=[some (.str u),some (.ref l),o]) ⟨Same.refl _,rfl,_,rfl⟩ (λi σ H' _ z=>SqL.of (z.1 _ _ e1)) ?_ ?_
 ·rintro i x σ H' hx ⟨S2,ha,o,rfl⟩;obtain⟨m,hmm,rfl⟩:∃m,ms[i]?=some m∧V.str m=x:=by
   rw[yxb] at hx;cases z:ms[i]? with
   | none=>rw[z] at hx;cases hx
   | some m=>rw[z] at hx;cases hx;exact⟨m,rfl,rfl⟩
  have hm:=yva hmm;refine⟨_,rfl,m,rfl,(okw m hm).1,λH3 S3=>?_⟩;cases en:isName m with
  | true =>
   refine⟨_,rfl,iteF ⟨S2.trans S3,?_,_,rfl⟩⟩;rw[ywb,hmm,ydb,List.all_append,ha];show (true&&([m].map isName).all id)=true
   simp[en]
  | false =>
   refine⟨_,rfl,iteT ?_⟩;have y:=q H3 (S1.trans (S2.trans S3));rw[if_neg (λz=>by
    have z2:=yyb.mp z.1 _ (yrg hm);rw[show id (isName m)=isName m from rfl,en] at z2;cases z2)] at y
   exact y
 ·rintro σ H' ⟨S2,ha,o,rfl⟩;rw[yaa,ybd] at ha;have e2:=S2 _ _ e1;refine⟨_,rfl,_,rfl,l,ms,rfl,SqL.of e2,(by omega),λp2 ys hp2 py so=>?_⟩;have S3:=zja hp2 (.lst (ys.map V.str));have oky:∀m∈ys,WdOk m:=λm hm=>okw m (py.mem_iff.mp hm);refine⟨.list (ms.map .str),.list (ys.map .str),.lst (SqL.of (S3 _ _ e2)) (zqk _),.lst (SqL.of zda) (zqk _),zgr okw,zgr oky,_,rfl,?_⟩;rw[zjlb];have S03:=S1.trans (S2.trans S3);generalize upd H' p2 (.lst (ys.map V.str))=H3 at *;refine ite2 (λc=>?_) (λc=>?_)
  ·have em:=of_decide_eq_true c;have e3:=S3 _ _ e2;have sm:yri ms=true:=(by rw[em];exact so);refine⟨_,rfl,l,ms,rfl,SqL.of e3,(by omega),λp3 hp3=>?_⟩;have dl:=zppb ms;refine⟨p3,_,rfl,zda,(by omega),_,rfl,l,_,rfl,.inl (SqL.of (zja hp3 _ _ _ e3)),rfl,?_⟩;have y:=q _ (S03.trans (zja hp3 (setO X p3 (SSet.dd ms))));rw[zuk,yaa]
   by_cases nn:ms.Nodup
   ·rw[if_pos ⟨ha,nn,sm⟩] at y;rw[decide_eq_true (by rw[zeab nn])];exact y
   ·rw[if_neg (λz=>nn z.2.1)] at y;rw[decide_eq_false (λz=>nn (nodup_iff.mp (by omega)))];exact y
  ·have nm:ms≠ys:=λz=>c (decide_eq_true z);have y:=q H3 S03;rw[if_neg (λz=>nm (zdu py so z.2.2).symm)] at y;exact y
theorem zclb {a b c d:Str}:(zmf [a,b,c,d]).isSome=(isName a&&(zbd d).isSome&&(isNumber b&&isNumber c)):=by
 have ha:([a,b,c,d]:List Str)[0]?=some a:=rfl;have hb:([a,b,c,d]:List Str)[1]?=some b:=rfl;have hc:([a,b,c,d]:List Str)[2]?=some c:=rfl;unfold zmf;cases e1:isName a with
 | false=>rw[zkr ha e1];rfl
 | true =>
 rw[zjr ha e1];show ((zlf [a,b,c,d] 1).bind _).isSome=_
 cases e2:isNumber b with
 | false =>
  rw[zil hb e2];cases (zbd d)<;>rfl
 | true =>
 obtain⟨i,e3⟩:=zgl hb e2;rw[e3];show ((zlf [a,b,c,d] 2).bind _).isSome=_
 cases e4:isNumber c with
 | false =>
  rw[zil hc e4];cases (zbd d)<;>rfl
 | true =>
 obtain⟨j,e5⟩:=zgl hc e4;rw[e5];show ((zbd d).bind _).isSome=_
 cases zbd d<;>rfl
theorem znn {ws:List Str}(h:ws.length≠4):zmf ws=none:=by
 cases e:zmf ws with
 | none=>rfl
 | some x =>
  exfalso;unfold zmf at e;obtain⟨_,_,e⟩:=yja.mp e;obtain⟨_,_,e⟩:=yja.mp e;obtain⟨_,_,e⟩:=yja.mp e;obtain⟨_,_,e⟩:=yja.mp e;obtain⟨_,_,e⟩:=yja.mp e;rw[if_neg h] at e;cases e
theorem zyx:∀ts:List Str,(ztc ts).isSome=(ts.map λp=>isR (yma p " ")).all id
 | []=>rfl
 | t::r=>by
  show ((zmd (yma t " ")).bind λx=>(ztc r).map λy=>x::y).isSome=(isR (yma t " ")&&(r.map λp=>isR (yma p " ")).all id)
  rw[← zyx r];unfold isR;cases zmd (yma t " ") with
  | none=>rfl
  | some x=>cases ztc r<;>rfl
def spIc:Sp:=λvs H Q _=>∃(t:Str),vs=[.str t]∧Sm t 10000 19∧∀H',Same H H'->Q (.bl (zwf t).isSome) H'
theorem zov (T:Tx K mg):FnOk P w K mg base CX0 5 T.zie.f T.zie.d zal spIc:=by
 refine T.zie.ok zzi ?_;rintro f c A o s H vs Q E hr ⟨t,rfl,sm,q⟩ X;refine⟨_,  (zca (zta (i:=1) zzi.nd rfl (.inl rfl) (zog yta yyc yzc zdk (pv 0) (zaa zea zba)))
  (zca (zta (i:=2) zzi.nd rfl (.inl rfl) (zog yta yyc yzc zdk (zlb zbb (pv 1) zga (λ_ _=>rfl)) (zaa zea zba)))
  (zca (zqb (PW.pt (zmo (zma zjeb (zza zya rfl T.zme yza (zaa (pv 2) zba)) zga (zxa _)) (zmo (zma zdx (zza zya rfl T.zme yza (zaa (pv 1) zba)) zga (zxa _)) (zmo (zak (zxh (zka (znf T).up hr rfl T.znb.m T.znb.F.kp (zyf T) .nil zib (zaa (zlb zbb (pv 2) zga (λ_ _=>rfl)) zba)))) (zdq (zak (zxh (zka (zet T).up hr rfl T.zpd.m T.zpd.F.kp (zmw T) .nil zib (zaa (zlb zbb (pv 2) zga (λ_ _=>rfl)) zba)))))))))
   (zia (zpa zyh))
   zra)
  (zca (zqb (PW.pt (zmo (zak (zxh (zka (zuc T).up hr rfl T.zab.m T.zab.F.kp (zcd T) .nil zib (zaa (zlb zbb (pv 2) zga (λ_ _=>rfl)) zba)))) (zdq (zak (zxh (zka (zuc T).up hr rfl T.zab.m T.zab.F.kp (zcd T) .nil zib (zaa (zlb zbb (pv 2) zga (λ_ _=>rfl)) zba)))))))
   (zia (zpa zyh))
   zra)
  (zia (zpa (zza (zrt rfl) rfl T.ztdb boot_all (zaa (zvm (own:=["_law_part"]) (cap:=[]) rfl (zvd.chk rfl rfl) .nil (zbz (zlc zgf (pv 1) (ztd zga) zud)) (λ_ _ _ _=>(zwd (i:=0) (show ygg (["_law_part"]:List Str) by decide +kernel) rfl (.inl rfl))) (λ_ _ _ _=>zvl) (λ_ _ _ _=>by exact (zka (zmv T) hr rfl T.zfe.m T.zfe.F.kp (zjx T) .nil zib (zaa (zavb K yta yyc yzc zdk (pv 0) (zaa zea zba)) zba)))) zba)))))))),?_⟩
 have tl:=sm.1;have hpt:=ztj (s:=" / ") sm;obtain⟨hd,ps,es⟩:Ex2 λhd ps=>yma t " / " = hd::ps:=by
  cases e:yma t " / " with
  | nil=>exact absurd e (znh _ _)
  | cons a b=>exact⟨a,b,rfl⟩
 have rc:(zwf t).isSome=(decide (ps.length+1≤4)&&((zmf (yma hd " ")).isSome&&(ztc ps).isSome)):=by
  unfold zwf;rw[es];show (if ps.length+1≤4 then (zmf (yma hd " ")).bind (λh=>(ztc ps).map λrs=>(⟨h.1,h.2.1,h.2.2.1,h.2.2.2,rs⟩:Crd)) else none).isSome=_
  by_cases c:ps.length+1≤4
  ·rw[if_pos c,decide_eq_true c,ybc];cases zmf (yma hd " ") with
   | none=>rfl
   | some h=>cases ztc ps<;>rfl
  ·rw[if_neg c,decide_eq_false c];rfl
 rw[rc] at q;refine⟨_,rfl,rfl,_,_,rfl,rfl,(by decide +kernel),(by have:yua=16777216:=rfl;omega),λl hl=>?_⟩;rw[es] at hpt ⊢;refine laid hl λH1 S1 e1=>?_;have smh:=hpt hd yqa;have hdl:=smh.1;refine⟨_,rfl,l,_,_,_,rfl,rfl,SqL.of e1,zec (j:=0) rfl,rfl,_,_,rfl,rfl,(by decide +kernel),(by have:yua=16777216:=rfl;omega),λl2 hl2=>?_⟩;have wdh:=smh.wds (s:=" ");have hmk:∀u∈yma hd " ",(yma u ",").length≤20:=λu hu=>commas (ztj (s:=" ") smh u hu);generalize yma hd " " = ws at *;refine laid hl2 λH2 S12 e2=>?_;have S2:=S1.trans S12;have e12:=S12 _ _ e1;have bad:(zmf ws).isSome=false->∀H',Same H H'->Q (.bl false) H':=λz H' S=>by
  have y:=q H' S;rw[z,yqb,yvc] at y;exact y
 refine⟨_,rfl,l2,_,rfl,.inl (SqL.of e2),rfl,_,rfl,?_⟩;refine ite2 (λc=>?_) (λc=>?_)
 ·have c':ws.length≠4:=λz=>by
   rw[yaa,z] at c;exact absurd c (by decide)
  exact bad (by rw[znn c'];rfl) H2 S2
 have c4:ws.length=4:=by
  rcases yef (ws.length=4) with z|z
  ·exact z
  ·exfalso;apply c;rw[yaa];show (!decide (V.int ((ws.length:Nat):Int)=V.int 4))=true
   rw[zuk,decide_eq_false (by omega)];rfl
 refine⟨_,rfl,l,_,rfl,.inl (SqL.of e12),_,_,rfl,rfl,_,rfl,?_⟩;refine ite2 (λc=>?_) (λc=>?_)
 ·have c':=of_decide_eq_true c;rw[yaa,yia] at c';have y:=q H2 S2;rw[decide_eq_false (by omega),yqb] at y;exact y
 have few:ps.length+1≤4:=by
  have z':¬ ((((hd::ps).map V.str).length:Int)>4):=λy=>c (decide_eq_true y);rw[yaa,yia] at z';omega
 rw[decide_eq_true few,ybc] at q
 match ws,c4,wdh,hmk,e2,q,bad with
 | [w0,w1,w2,w3],_,wdh,hmk,e2,q,bad =>
 rw[zclb] at q bad;refine⟨_,rfl,l2,_,_,_,rfl,rfl,SqL.of e2,zjc (k:=0) (ws:=[w0,w1,w2,w3]) rfl,w0,rfl,(wdh w0 (by simp)).1,λH3 S23=>?_⟩;have S3:=S2.trans S23;cases n0:isName w0 with
 | false =>
  refine⟨_,rfl,iteT ?_⟩;exact bad (by rw[n0];rfl) H3 S3
 | true =>
 refine⟨_,rfl,iteF ?_⟩;refine⟨_,rfl,l2,_,_,_,rfl,rfl,SqL.of (S23 _ _ e2),zjc (k:=3) (ws:=[w0,w1,w2,w3]) rfl,w3,rfl,wdh w3 (by simp),hmk w3 (by simp),λH4 S34=>?_⟩;have S4:=S3.trans S34;have e4:=S34 _ _ (S23 _ _ e2);cases n3:(zbd w3).isSome with
 | false =>
  refine⟨_,rfl,iteT ?_⟩;exact bad (by rw[n3,yvc,yqb]) H4 S4
 | true =>
 refine⟨_,rfl,iteF ?_⟩;refine⟨_,rfl,l2,_,_,_,rfl,rfl,SqL.of e4,zjc (k:=1) (ws:=[w0,w1,w2,w3]) rfl,w1,rfl,(wdh w1 (by simp)).1,λH5 S45=>?_⟩;have S5:=S4.trans S45;cases n1:isNumber w1 with
 | false =>
  refine⟨_,rfl,iteT ?_⟩;exact bad (by rw[n1,yqb,yvc]) H5 S5
 | true =>
 refine⟨_,rfl,iteF ?_⟩;refine⟨_,rfl,l2,_,_,_,rfl,rfl,SqL.of (S45 _ _ e4),zjc (k:=2) (ws:=[w0,w1,w2,w3]) rfl,w2,rfl,(wdh w2 (by simp)).1,λH6 S56=>?_⟩;have S6:=S5.trans S56;cases n2:isNumber w2 with
 | false =>
  refine⟨_,rfl,iteT ?_⟩;exact bad (by rw[n2,yvc,yvc]) H6 S6
 | true =>
 refine⟨_,rfl,iteF ?_⟩;rw[n0,n1,n2,n3,Bool.and_self,Bool.and_self,ybc,zyx] at q;have e16:=S56 _ _ (S45 _ _ (S34 _ _ (S23 _ _ e12)));refine⟨_,rfl,_,rfl,l,_,rfl,SqL.of e16,λs1 hs1=>?_⟩;have ct:cutV ((hd::ps).map V.str) (some (1:Int)) none=ps.map V.str:=by
  have:=zll ((hd::ps).map V.str) 1;exact this
 rw[ct];refine laid hs1 λH8 S68 e8=>?_;have S8:=S6.trans S68;refine⟨s1,rfl,⟨_,SqL.of e8⟩,?_⟩;refine zew (xs:=ps.map V.str) (λi ys H'=>Same H8 H'∧i≤ps.length∧ys=((ps.take i).map λp=>isR (yma p " ")).map V.bl) (λi ys H' z=>SqL.of (z.1 _ _ e8)) ⟨Same.refl _,ydc _,rfl⟩ ?_ ?_ ?_
 ·rintro i ys H' ⟨_,_,rfl⟩;rw[yaa,yaa,ypb];exact small (by omega)
 ·rintro i x ys H' hx ⟨Sx,hi,rfl⟩;obtain⟨r,hrr,rfl⟩:∃r,ps[i]?=some r∧V.str r=x:=by
   rw[yxb] at hx;cases z:ps[i]? with
   | none=>rw[z] at hx;cases hx
   | some m=>rw[z] at hx;cases hx;exact⟨m,rfl,rfl⟩
  have smr:=hpt r (yla _ (yva hrr));have hrl:=smr.1;refine⟨rfl,_,rfl,rfl,_,_,rfl,rfl,(by decide +kernel),(by have:yua=16777216:=rfl;omega),λl9 hl9=>?_⟩;have st:=zyab r;refine⟨l9,yma r " ",rfl,zda,znh _ _,(by unfold tot at st;omega),smr.wds,λH9 S9=>⟨Sx.trans ((zja hl9 _).trans S9),?_,?_⟩⟩
  ·exact (ylb.mp hrr).1
  ·rw[ywb,hrr,ydb,ydb];rfl
 ·rintro ys H9 ⟨S9,_,rfl⟩ b hb;rw[yaa,ybd];refine⟨b,_,rfl,SqL.of zda,?_⟩;exact q _ (S8.trans (S9.trans (zja hb _)))
section
variable {P:ysb}{w:World}{K:yba}{mg:Str->Option Value}{base:Heap}{f:Addr}{fd:ypd}
theorem zoa (T:Tx K mg):FnOk P w K mg base CX0 2 T.zfa.f T.zfa.d zfp (ziub K):=by
 refine T.zfa.ok zuh ?_;rintro f c A o s H vs Q E hr ⟨p,k,m,rfl,TT,hk,hm,q⟩ X;refine⟨_,  (zca (zta (i:=2) zuh.nd rfl (.inl rfl) (zlb zbb (pv 0) zga (λ_ _=>rfl)))
  (zca (zta (i:=3) zuh.nd rfl (.inl rfl) (zlb zbb (pv 0) zga (λ_ _=>rfl)))
  (zca (ztgb (zcb zfd (pv 3) zga) (zwub (pv 0) zga set_list))
  (zca (zta (i:=4) zuh.nd rfl (.inl rfl) (zcb zqbb (zcb zqbb (pv 3) (pv 3)) zga))
  (zca (zqb (zma zdx (zza zya rfl T.zme yza (zaa (pv 2) zba)) zga (zxa _))
   (zia (zta (i:=4) zuh.nd rfl (.inl rfl) (zcb zfd (zcb zfd (pv 4) (zcb zdy (zlb zbb (pv 2) (zcb zdy (pv 3) (zza zya rfl T.zme yza (zaa (pv 2) zba))) (λ_ _=>rfl)) zga)) (zcb zqbb (zcb zmkb (pv 3) (zza zya rfl T.zme yza (zaa (pv 2) zba))) zga))))
   zra)
  (zia (zpa (zcb zdy (zcb zmkb (zcb zdy (zcb zqbb (zcb zfd (pv 4) zga) zga) zga) zga) (pv 1))))))))),?_⟩
 obtain⟨⟨a,ns,h1,h2,h3⟩,lo⟩:=TT;refine⟨_,rfl,p,_,_,_,rfl,rfl,SqL.of h1,rfl,?_⟩;refine⟨_,rfl,p,_,_,_,rfl,rfl,SqL.of h1,rfl,?_⟩;refine⟨_,rfl,_,_,rfl,rfl,_,rfl,p,_,_,_,rfl,rfl,h1,rfl,?_⟩;have B:But p H (upd H p (.lst [.ref a,.int (k+1)])):=But.put;have T1:Tk K (upd H p (.lst [.ref a,.int (k+1)])) p (k+1):=⟨⟨a,ns,zda,h2.keep λo u z=>by rw[zfb (zfm z h1 (by intro y;cases y))];exact z,h3⟩,by omega⟩;have S1:SqL K (upd H p (.lst [.ref a,.int (k+1)])) a (ns.map V.int):=(h2.keep λo u z=>by rw[zfb (zfm z h1 (by intro y;cases y))];exact z).sq;have hl:(ns.map V.int).length=ns.length:=yaa _;have big:∀c:Int,0≤c % m∧c % m<m:=λc=>⟨ydh c (by omega),yvf c hm⟩;refine⟨_,rfl,_,rfl,_,_,rfl,rfl,.inl ⟨by omega,by omega⟩,_,_,rfl,rfl,.inr ⟨by decide,by decide⟩,?_⟩;refine⟨_,rfl,a,_,rfl,.inl S1,_,_,rfl,rfl,_,rfl,?_⟩;refine ite2 (λc=>?_) (λc=>?_)
 ·have c':(0:Int)<(((ns.map V.int).length:Nat):Int):=of_decide_eq_true c;have n0:0≤k % (((ns.map V.int).length:Nat):Int):=ydh k (by omega);have n1:k % (((ns.map V.int).length:Nat):Int)<(((ns.map V.int).length:Nat):Int):=yvf k c';obtain⟨z,hz⟩:=zbtb (ns:=ns) n0 (by omega);refine⟨_,rfl,_,rfl,_,rfl,_,rfl,a,_,rfl,.inl S1,_,_,rfl,rfl,c',a,_,_,_,rfl,rfl,S1,hz,_,_,rfl,rfl,(by show (0:Int)<2147483647;decide),_,_,rfl,rfl,?_⟩;refine⟨_,rfl,_,rfl,a,_,rfl,.inl S1,_,_,rfl,rfl,⟨c',by omega⟩,_,_,rfl,rfl,.inr ⟨by decide,by decide⟩,_,_,rfl,rfl,?_⟩;refine⟨_,rfl,_,_,rfl,rfl,_,_,rfl,rfl,.inr ⟨by decide,by decide⟩,_,_,rfl,rfl,(by show (0:Int)<2147483629;decide),_,_,rfl,rfl,⟨by decide,by decide⟩,_,rfl,_,_,rfl,rfl,hm,?_⟩;exact q _ _ (big _).1 (big _).2 B T1
 ·refine⟨_,rfl,_,_,rfl,rfl,_,_,rfl,rfl,.inr ⟨by decide,by decide⟩,_,_,rfl,rfl,(by show (0:Int)<2147483629;decide),_,_,rfl,rfl,⟨by decide,by decide⟩,_,rfl,_,_,rfl,rfl,hm,?_⟩;exact q _ _ (big _).1 (big _).2 B T1
end
theorem zupb {c d:Bool}{U A B:Prop}(hu:(if d=true then A else B)->U)(h1:c=true->d=true->A)(h2:B):if c=true then U else (if false=true then A else B):=by
 cases c with
 | true =>
  refine iteT (hu ?_);cases d with
  | true=>exact iteT (h1 rfl rfl)
  | false=>exact iteF h2
 | false=>exact iteF (iteF h2)
theorem zuwb {r:Int}(h0:0≤r)(h1:r<26):∃c,atI LL.cps.toList r=some c∧97≤c∧c≤122:=by
 have e:LL.cps.toList.length=26:=by decide +kernel
 obtain⟨v,hv,hm⟩:=zui (xs:=LL.cps.toList) h0 (by rw[e];exact h1);have q:∀c∈LL.cps.toList,97≤c∧c≤122:=by decide +kernel
 exact⟨v,hv,q v hm⟩
def sgn (c:Nat):Str:=⟨#[c]⟩
theorem zvi:∀cs:List Nat,(yea "" (cs.map sgn)).cps.toList=cs
 | []=>rfl
 | [c]=>rfl
 | c::d::r=>by
  have ih:=zvi (d::r);have e:yea "" ((c::d::r).map sgn)=sgn c ++ "" ++ yea "" ((d::r).map sgn):=rfl;rw[e];show ((#[c]++("":Str).cps)++(yea "" ((d::r).map sgn)).cps).toList=_
  rw[yge,ih];rfl
theorem zfab (a b:Str):(a++b).cps.toList=a.cps.toList++b.cps.toList:=by
 show (a.cps++b.cps).toList=_
 rw[yge]
theorem zcsb {cs:List Nat}{a c:Nat}(h1:1≤cs.length)(h8:cs.length≤8)(ha:a<cs.length)(hc:97≤c∧c≤122)(hs:∀x∈cs,97≤x∧x≤122) :
  znd (yea "" ((cs.take a).map sgn)++sgn c++yea "" ((cs.drop (a+1)).map sgn)):=by
 have e:(yea "" ((cs.take a).map sgn)++sgn c++yea "" ((cs.drop (a+1)).map sgn)).cps.toList=cs.take a++[c]++cs.drop (a+1):=by
  rw[zfab,zfab,zvi,zvi];rfl
 have el:(yea "" ((cs.take a).map sgn)++sgn c++yea "" ((cs.drop (a+1)).map sgn)).length=cs.length:=by
  have q:=congrArg ype e;rw[ymb,yha,yha,ypb,ylc,yjc] at q;show (yea "" ((cs.take a).map sgn)++sgn c++yea "" ((cs.drop (a+1)).map sgn)).cps.size=_
  omega
 refine⟨by omega,by omega,?_⟩;rw[e];intro x hx
 rcases yna.mp hx with hx|hx
 ·rcases yna.mp hx with hx|hx
  ·exact hs x (yzh hx)
  ·have e:x=c:=by simpa using hx
   rw[e];exact hc
 ·exact hs x (ykg hx)
theorem zbs {cs:List Nat}(h:cs.length≤8):((cs.map sgn).map (·.length)).sum+(cs.map sgn).length*("":Str).length≤16777216∧(yea "" (cs.map sgn)).length≤8:=by
 have c:=zun (l:=(cs.map sgn).map (·.length)) (k:=1) (λx hx=>by
  obtain⟨u,hu,rfl⟩:=ykb.mp hx;obtain⟨c,_,rfl⟩:=ykb.mp hu;exact yxa 1)
 rw[yaa,yaa] at c;have e:("":Str).length=0:=rfl;have q:=congrArg ype (zvi cs);rw[ymb] at q;refine⟨?_,?_⟩
 ·rw[e];omega
 ·show (yea "" (cs.map sgn)).cps.size≤8;omega
theorem zrwb:∀n:Nat,n<26->LL.cps.toList[n]?=some (97+n):=by decide +kernel
theorem ztwb {r:Int}{c:Nat}(h0:0≤r)(h1:r<26)(h:atI LL.cps.toList r=some c):(c:Int)=97+r:=by
 have q:=zec (zrwb r.toNat (by omega));rw[show ((r.toNat:Nat):Int)=r by omega] at q;have e:=ynb (h.symm.trans q);omega
def nmOf (cs:List Nat)(a c:Nat):Str:=yea "" ((cs.take a).map sgn)++sgn c++yea "" ((cs.drop (a+1)).map sgn)
theorem zonb {cs:List Nat}{a c d:Nat}(h:nmOf cs a c=nmOf cs a d):c=d:=by
 have e:=congrArg (λz:Str=>z.cps.toList) h;have f:∀x,(nmOf cs a x).cps.toList=cs.take a++([x]++cs.drop (a+1)):=λx=>by
  unfold nmOf;rw[zfab,zfab,zvi,zvi,ydd];rfl
 simp only[f] at e;have e2:=List.append_cancel_left e;injection e2
structure Nm (H:Hp)(nl:Addr)(ns:List Str):Prop where
 at_:H nl=some (.lst (ns.map V.str))
 len:ns.length=4
 ok:∀n∈ns,znd n
 nd:ns.Nodup
theorem Nm.ne {K:yba}{H:Hp}{nl p:Addr}{ns:List Str}{k:Int}(h:Nm H nl ns)(t:Tk K H p k):nl≠p:=by
 obtain⟨⟨a,zs,h1,_⟩,_⟩:=t;refine zfm h.at_ h1 λz=>?_;injection z with z
 have e:=congrArg ype z;rw[yaa,h.len] at e;exact absurd e (by show ¬ (4=2);decide)
theorem Nm.but {K:yba}{H H':Hp}{nl p:Addr}{ns:List Str}{k:Int}(h:Nm H nl ns)(t:Tk K H p k)(b:But p H H'):Nm H' nl ns:=⟨b _ _ (h.ne t) h.at_,h.len,h.ok,h.nd⟩
theorem Nm.same {H H':Hp}{nl:Addr}{ns:List Str}(h:Nm H nl ns)(b:Same H H'):Nm H' nl ns:=⟨b _ _ h.at_,h.len,h.ok,h.nd⟩
def zvqb (K:yba):Sp:=λvs H Q _=>Ex2 λp (k:Int)=>vs=[.ref p,.int 4]∧Tk K H p k∧k≤100000∧∀nl (ns:List Str) (k':Int) H',But p H H'->Tk K H' p k'->k'≤k+20->Nm H' nl ns->Q (.ref nl) H'
theorem zlz (T:Tx K mg):FnOk P w K mg base CX0 3 T.zff.f T.zff.d zfn (zvqb K):=by
 refine T.zff.ok zid ?_;rintro f c A o s H vs Q E hr ⟨p,k,rfl,T0,hk,q⟩ X;refine⟨_,  (zca (zta (i:=2) zid.nd rfl (.inr rfl) zea)
  (zca (zta (i:=3) zid.nd rfl (.inl rfl) (zcb zfd zga (zka (zoa T) hr rfl T.zfa.m T.zfa.F.kp (zua T) .nil zib (zaa (pv 0) (zaa zga zba)))))
  (zca (zta (i:=4) zid.nd rfl (.inl rfl) (zka (zoa T) hr rfl T.zfa.m T.zfa.F.kp (zua T) .nil zib (zaa (pv 0) (zaa (pv 3) zba))))
  (zca (zmrb (i:=5) zid.nd rfl (.inl rfl) (own:=["_law_k"]) (cap:=["_law_letters","_law_state"]) rfl (zvd.chk rfl rfl) (.cons (j:=2) rfl (.inl rfl) (.inl rfl) (.cons (j:=0) rfl (.inl rfl) (.inl rfl) .nil)) (zeq rfl T.zeo (zaa (pv 3) zba)) (λ_ _ _ _=>(zwd (i:=0) (show ygg (["_law_k","_law_letters","_law_state"]:List Str) by decide +kernel) rfl (.inl rfl))) (λ_ _ _ _=>zvl) (λ_ _ _ _=>by exact (zlb zlcb (pv 1) (zka (zoa T) hr rfl T.zfa.m T.zfa.F.kp (zua T) .nil zib (zaa (pv 2) (zaa zga zba))) (λ_ _=>rfl))))
  (zca (zta (i:=6) zid.nd rfl (.inl rfl) (zka (zoa T) hr rfl T.zfa.m T.zfa.F.kp (zua T) .nil zib (zaa (pv 0) (zaa zga zba))))
  (zca (zta (i:=7) zid.nd rfl (.inl rfl) (zob zba))
  (zca (znbb ycg rfl (zeq rfl T.zeo (zaa (pv 1) zba)) (zwd (i:=8) zid.nd rfl (.inl rfl))
   (zca (zta (i:=9) zid.nd rfl (.inl rfl) (zlb zlcb (pv 2) (zcb zdy (zcb zfd (pv 6) (zcb zqbb zga (pv 8))) zga) (λ_ _=>rfl)))
   (zia (zsk (zog yyd yaf ybf zjq (pv 7) (zaa (zcb zsa (zcb zsa (zog yta yhb yib zof zea (zaa (zlc zgf (pv 5) zud (ztd (pv 4))) zba)) (pv 9)) (zog yta yhb yib zof zea (zaa (zlc zgf (pv 5) (ztd (zcb zfd (pv 4) zga)) zud) zba))) zba))))))
  (zia (zpa (pv 7)))))))))),?_⟩
 refine⟨_,rfl,p,k,8,rfl,T0,by omega,by decide,λr1 H1 a1 b1 B1 T1=>⟨_,_,rfl,rfl,?_⟩⟩;refine⟨_,rfl,_,rfl,p,_,1+r1,rfl,T1,by omega,by omega,λr2 H2 a2 b2 B2 T2=>?_⟩;obtain⟨m,hm⟩:∃m:Nat,1+r1=(m:Int):=⟨(1+r1).toNat,by omega⟩;obtain⟨a,rfl⟩:∃a:Nat,r2=(a:Int):=⟨r2.toNat,by omega⟩;rw[hm] at b2;have B12:But p H H2:=B1.trans B2;refine⟨_,rfl,1+r1,rfl,by omega,by omega,?_⟩;rw[hm,yfg];refine zrr (λi ys H'=>Ex2 λ(cs:List Nat) (k':Int)=>ys=(cs.map sgn).map V.str∧cs.length=i∧i≤m∧(∀c∈cs,97≤c∧c≤122)∧But p H H'∧Tk K H' p k'∧k'≤k+2+i) ⟨[],_,rfl,rfl,ydc _,by simp,B12,T2,by omega⟩ ?_ ?_ ?_
 ·rintro i ys H' ⟨cs,k',rfl,h1,h2,_⟩;rw[yaa,yaa];exact small (by omega)
 ·rintro i ys H' hi ⟨cs,k',rfl,h1,h2,h3,B',T',hk'⟩;refine⟨rfl,_,rfl,_,rfl,p,k',26,rfl,T',by omega,by decide,λr H5 r0 r1' B5 T5=>?_⟩;obtain⟨c,hc,hc'⟩:=zuwb r0 r1';refine⟨LL,r,c,rfl,rfl,(by decide +kernel),hc,cs++[c],k'+1,?_,?_,hi,?_,B'.trans B5,T5,by omega⟩
  ·rw[ydb,ydb];rfl
  ·rw[yha,h1];rfl
  ·intro x hx
   rcases yna.mp hx with hx|hx
   ·exact h3 x hx
   ·have e:x=c:=by simpa using hx
    rw[e];exact hc'
 ·rintro ys H3 ⟨cs,k3,rfl,h1,h2,h3,B3,T3,hk3⟩ bl hbl;have T4:=T3.laid (o:=.lst ((cs.map sgn).map V.str)) hbl;have B4:But p H (upd H3 bl (.lst ((cs.map sgn).map V.str))):=B3.trans (But.laid hbl);have e4:upd H3 bl (.lst ((cs.map sgn).map V.str)) bl=some (.lst ((cs.map sgn).map V.str)):=zda;have npb:bl≠p:=ysc (T3.ne hbl);generalize upd H3 bl (.lst ((cs.map sgn).map V.str))=H4 at *;refine⟨_,rfl,p,_,26,rfl,T4,by omega,by decide,λr5 H5 a5 b5 B5 T5=>?_⟩;have e5:=B5 _ _ npb e4;refine⟨sz0,λnl hnl=>?_⟩;have nbn:bl≠nl:=zva e5 hnl;have S6:Same H5 (upd H5 nl (.lst [])):=zja hnl _;have f6:upd H5 nl (.lst []) nl=some (.lst (([]:List Str).map V.str)):=zda;generalize upd H5 nl (.lst [])=H6 at *;refine⟨_,rfl,4,rfl,by decide,by decide,?_⟩;refine zilb (lo:=0) (n:=4) (λi σ H'=>Ex3 λ(ns:List Str) o8 o9=>σ=[some (.ref p),some (.int 4),some (.str LL),some (.int (1+r1)),some (.int (a:Int)),some (.ref bl),some (.int r5),some (.ref nl),o8,o9]∧H' nl=some (.lst (ns.map V.str))∧ns.length=i∧(∀n∈ns,znd n)∧ns.Nodup∧(∀n∈ns,Ex2 λ(j:Nat) (d:Nat)=>j<i∧atI LL.cps.toList ((r5+5*(0+(j:Int))) % 26)=some d∧n=nmOf cs a d)∧Same H5 H') ⟨[],_,_,rfl,f6,rfl,by simp,.nil,by simp,S6⟩ ?_ ?_
  ·rintro i σ H' hi ⟨ns,o8,o9,rfl,f',hl,hok,hnd,hwh,S'⟩;have e':=S' _ _ e5;have hq0:0≤(r5+5*(0+(i:Int))) % 26:=ydh _ (by decide);have hq1:(r5+5*(0+(i:Int))) % 26<26:=yvf _ (by decide);obtain⟨c,hc,hc'⟩:=zuwb hq0 hq1;refine⟨_,rfl,_,rfl,_,rfl,_,_,rfl,rfl,.inl ⟨by decide,by decide⟩,_,_,rfl,rfl,_,_,rfl,rfl,(by show (0:Int)<26;decide),LL,_,c,rfl,rfl,(by decide +kernel),hc,?_⟩;have tk8:=zbs (cs:=cs.take a) (by rw[ypb];omega);have dr8:=zbs (cs:=cs.drop (a+1)) (by rw[ylc];omega);have ct:cutV ((cs.map sgn).map V.str) none (some (a:Int))=((cs.take a).map sgn).map V.str:=(by rw[zdw,yxm,yxm]);have cd:cutV ((cs.map sgn).map V.str) (some ((a+1:Nat):Int)) none=((cs.drop (a+1)).map sgn).map V.str:=(by rw[zll,ynk,ynk]);refine⟨_,rfl,.inl ⟨rfl,_,SqL.of f'⟩,rfl,_,rfl,_,rfl,_,rfl,bl,_,rfl,SqL.of e',λs1 hs1=>?_⟩;rw[ct];refine⟨"",s1,_,rfl,rfl,SqL.of zda,tk8.1,_,rfl,_,_,rfl,rfl,?_,?_⟩
   ·have e1:(⟨#[c]⟩:Str).length=1:=rfl;exact small (by omega)
   have S1:=zja hs1 (.lst (((cs.take a).map sgn).map V.str));refine⟨rfl,_,rfl,_,rfl,_,_,rfl,rfl,_,rfl,bl,_,rfl,SqL.of (S1 _ _ e'),λs2 hs2=>?_⟩;have ea:(a:Int)+1=((a+1:Nat):Int):=(by omega);rw[ea,cd];refine⟨"",s2,_,rfl,rfl,SqL.of zda,dr8.1,_,_,rfl,rfl,?_,?_⟩
   ·have e1:(⟨#[c]⟩:Str).length=1:=rfl;rw[len_app];exact small (by omega)
   have S2:=zja hs2 (.lst (((cs.drop (a+1)).map sgn).map V.str));have S12:=S1.trans S2;refine⟨nl,_,_,rfl,rfl,S12 _ _ f',?_,?_⟩
   ·rw[yaa];exact zwp (by omega)
   have nm:=zcsb (cs:=cs) (a:=a) (c:=c) (by omega) (by omega) (by omega) hc' h3;have S7:Same H5 (upd (upd (upd H' s1 (.lst (((cs.take a).map sgn).map V.str))) s2 (.lst (((cs.drop (a+1)).map sgn).map V.str))) nl (.lst (ns.map V.str++[.str (yea "" ((cs.take a).map sgn)++sgn c++yea "" ((cs.drop (a+1)).map sgn))]))):=λb o e=>by
    rw[zfb (zva e hnl)];exact S12 _ _ (S' _ _ e)
   refine⟨ns++[yea "" ((cs.take a).map sgn)++sgn c++yea "" ((cs.drop (a+1)).map sgn)],_,_,rfl,?_,?_,?_,?_,?_,S7⟩
   ·rw[ydb];exact zda
   ·rw[yha,hl];rfl
   ·intro x hx
    rcases yna.mp hx with hx|hx
    ·exact hok x hx
    ·have e:=yca.mp hx;rw[e];exact nm
   ·rw[ydk];refine⟨hnd,ylk _ _,λx hx y hy z=>?_⟩;rw[yca.mp hy] at z;obtain⟨j,d,hj,hd,rfl⟩:=hwh x hx;have z':nmOf cs a d=nmOf cs a c:=z;have ed:=zonb z';subst ed;have u1:=ztwb hq0 hq1 hc;have u2:=ztwb (ydh _ (by decide)) (yvf _ (by decide)) hd;have hi':i<4:=hi;omega
   ·intro x hx
    rcases yna.mp hx with hx|hx
    ·obtain⟨j,d,hj,hd⟩:=hwh x hx;exact⟨j,d,by omega,hd⟩
    ·exact⟨i,c,by omega,hc,yca.mp hx⟩
  ·rintro σ H' ⟨ns,o8,o9,rfl,f',hl,hok,hnd,_,S'⟩;exact⟨_,rfl,q nl ns _ H' ((B4.trans B5).of_same S') (T5.same S') (by omega) ⟨f',hl,hok,hnd⟩⟩
theorem zikb {ns:List Str}{r:Int}(hl:ns.length=4)(hok:∀n∈ns,znd n)(h0:0≤r)(h1:r<8):∃n:Str,atI (ns.map V.str++[V.str "all",V.str "do",V.str "not",V.str "mark"]) r=some (.str n)∧znd n:=by
 obtain⟨v,hv,hm⟩:=zui (xs:=ns.map V.str++[V.str "all",V.str "do",V.str "not",V.str "mark"]) h0 (by rw[yha,yaa,hl];exact h1)
 rcases yna.mp hm with hm|hm
 ·obtain⟨n,hn,rfl⟩:=ykb.mp hm;exact⟨n,hv,hok n hn⟩
 ·have q:∀u∈(["all","do","not","mark"]:List Str),1≤u.length∧u.length≤8∧∀c∈u.cps.toList,97≤c∧c≤122:=by decide +kernel
  simp only[yda,ycb,or_false] at hm
  rcases hm with e|e|e|e<;>subst e<;>exact⟨_,hv,q _ (by simp)⟩
theorem zfnb {x y r:Int}(h0:0≤r)(h1:r<2)(hx:0≤x∧x<1000)(hy:0≤y∧y<6):∃i:Nat,atI [V.int x,V.int y] r=some (.int (i:Int))∧i<1000:=by
 obtain⟨v,hv,hm⟩:=zui (xs:=[V.int x,V.int y]) h0 h1;simp only[yda,ycb,or_false] at hm
 rcases hm with e|e
 ·subst e;exact⟨x.toNat,by rw[yem hx.1];exact hv,by omega⟩
 ·subst e;exact⟨y.toNat,by rw[yem hy.1];exact hv,by omega⟩
theorem zjkb {r:Int}(h0:0≤r)(h1:r<3):∃y:Wh,atI [V.str "all",V.str "self",V.str "mine"] r=some (.str y.word)∧y.words=[y.word]∧y.ok∧y.size=1:=by
 obtain⟨v,hv,hm⟩:=zui (xs:=[V.str "all",V.str "self",V.str "mine"]) h0 h1;simp only[yda,ycb,or_false] at hm
 rcases hm with e|e|e<;>subst e
 ·exact⟨.all,hv,rfl,True.intro,rfl⟩
 ·exact⟨.self,hv,rfl,True.intro,rfl⟩
 ·exact⟨.mine,hv,rfl,True.intro,rfl⟩
def zjub (K:yba):Sp:=λvs H Q _=>Ex4 λp nl (ns:List Str) (k:Int)=>vs=[.ref p,.ref nl]∧Tk K H p k∧k≤200000∧Nm H nl ns∧∀l (y:Wh) (k':Int) H',But p H H'->Tk K H' p k'->k'≤k+4->y.ok->y.size=1->H' l=some (.lst (y.words.map V.str))->Q (.ref l) H'
def zcu (K:yba)(n:Nat):Sp:=λvs H Q _=>Ex5 λp nl (ns:List Str) (k:Int) (m:Nat)=>vs=[.ref p,.ref nl,.int m]∧Tk K H p k∧k+5*m≤100000∧Nm H nl ns∧1≤m∧m≤n∧m≤9 ∧
 ∀t l (y:Wh) (k':Int) H',But p H H'->Tk K H' p k'->k'≤k+5*y.size->y.ok->y.size≤m->H' t=some (.tup [.ref l,.int y.size])->H' l=some (.lst (y.words.map V.str))->Q (.ref t) H'
theorem zit {y:Wh}(h:y.size≤9):y.words.length≤18:=by
 have:=y.zut;omega
theorem zccb (T:Tx K mg):FnOk P w K mg base CX0 3 T.zkg.f T.zkg.d zjp (zjub K):=by
 refine T.zkg.ok zes ?_;rintro f c A o s H vs Q E hr ⟨p,nl,ns,k,rfl,T0,hk,N0,q⟩ X;refine⟨_,  (zca (zta (i:=2) zes.nd rfl (.inl rfl) (zka (zoa T) hr rfl T.zfa.m T.zfa.F.kp (zua T) .nil zib (zaa (pv 0) (zaa zga zba))))
  (zca (zqb (zma znr (pv 2) zga (zxa _))
   (zia (zpa (zob (zaa zea (zaa (zlb zbb (zcb zze (pv 1) (zob (zaa zea (zaa zea (zaa zea (zaa zea zba)))))) (zka (zoa T) hr rfl T.zfa.m T.zfa.F.kp (zua T) .nil zib (zaa (pv 0) (zaa (zcb zfd (zza zya rfl T.zme yza (zaa (pv 1) zba)) zga) zba))) (λ_ _=>rfl)) zba)))))
   zra)
  (zca (zqb (zma znr (pv 2) zga (zxa _))
   (zia (zpa (zob (zaa zea (zaa (zrc zpf rfl T.zrp yph (zaa (zlb zbb (zob (zaa (zka (zoa T) hr rfl T.zfa.m T.zfa.F.kp (zua T) .nil zib (zaa (pv 0) (zaa zga zba))) (zaa (zka (zoa T) hr rfl T.zfa.m T.zfa.F.kp (zua T) .nil zib (zaa (pv 0) (zaa zga zba))) zba))) (zka (zoa T) hr rfl T.zfa.m T.zfa.F.kp (zua T) .nil zib (zaa (pv 0) (zaa zga zba))) (λ_ _=>rfl)) zba)) zba)))))
   zra)
  (zia (zpa (zob (zaa (zlb zbb (zob (zaa zea (zaa zea (zaa zea zba)))) (zka (zoa T) hr rfl T.zfa.m T.zfa.F.kp (zua T) .nil zib (zaa (pv 0) (zaa zga zba))) (λ_ _=>rfl)) zba))))))),?_⟩
 refine⟨_,rfl,p,k,7,rfl,T0,by omega,by decide,λr1 H1 a1 b1 B1 T1=>?_⟩;have N1:=N0.but T0 B1;refine⟨_,rfl,_,_,rfl,rfl,_,rfl,?_⟩;refine ite2 (λc1=>?_) (λc1=>?_)
 ·refine⟨_,rfl,sz4,λl1 hl1=>?_⟩;have S1:=zja hl1 (.lst [.str "all",.str "do",.str "not",.str "mark"]);have N2:=N1.same S1;refine⟨nl,l1,_,_,rfl,rfl,N2.at_,zda,?_,λl2 hl2=>?_⟩
  ·rw[yaa,N0.len];exact (by decide:4+4≤yua)
  have S2:=zja hl2 (.lst (ns.map V.str++[.str "all",.str "do",.str "not",.str "mark"]));have N3:=N2.same S2;have T3:=(T1.same S1).same S2;have e3:upd (upd H1 l1 (.lst [.str "all",.str "do",.str "not",.str "mark"])) l2 (.lst (ns.map V.str++[.str "all",.str "do",.str "not",.str "mark"])) l2=some (.lst (ns.map V.str++[.str "all",.str "do",.str "not",.str "mark"])):=zda;have B3:But p H (upd (upd H1 l1 (.lst [.str "all",.str "do",.str "not",.str "mark"])) l2 (.lst (ns.map V.str++[.str "all",.str "do",.str "not",.str "mark"]))):=B1.of_same (S1.trans S2);have n3:l2≠p:=ysc ((T1.same S1).ne hl2);generalize upd (upd H1 l1 (.lst [.str "all",.str "do",.str "not",.str "mark"])) l2 (.lst (ns.map V.str++[.str "all",.str "do",.str "not",.str "mark"]))=H3 at *;have el:(((ns.map V.str).length:Nat):Int)=4:=by rw[yaa,N0.len];rfl
  refine⟨_,rfl,_,rfl,nl,_,rfl,.inl (SqL.of N3.at_),_,_,rfl,rfl,p,_,_,rfl,T3,by omega,(by rw[el];decide),λr4 H4 a4 b4 B4 T4=>?_⟩;obtain⟨n,hn,hok⟩:=zikb N0.len N0.ok a4 (by rw[el] at b4;exact b4);refine⟨l2,_,_,_,rfl,rfl,SqL.of (B4 _ _ n3 e3),hn,sz2,λl3 hl3=>?_⟩;exact q l3 (.mark n) _ _ (B3.trans (B4.trans (But.laid hl3))) (T4.laid hl3) (by omega) hok rfl zda
 ·refine⟨_,rfl,_,_,rfl,rfl,_,rfl,?_⟩;refine ite2 (λc2=>?_) (λc2=>?_)
  ·refine⟨_,rfl,p,_,1000,rfl,T1,by omega,by decide,λr2 H2 a2 b2 B2 T2=>?_⟩;refine⟨_,rfl,p,_,6,rfl,T2,by omega,by decide,λr3 H3 a3 b3 B3 T3=>?_⟩;refine⟨sz2,λl1 hl1=>?_⟩;have e1:upd H3 l1 (.lst [.int r2,.int r3]) l1=some (.lst [.int r2,.int r3]):=zda;refine⟨_,rfl,p,_,2,rfl,T3.laid hl1,by omega,by decide,λr4 H4 a4 b4 B4 T4=>?_⟩;have e4:=B4 l1 _ (ysc (T3.ne hl1)) e1;obtain⟨i,hi,hi'⟩:=zfnb a4 b4 ⟨a2,b2⟩ ⟨a3,b3⟩;refine⟨l1,_,_,_,rfl,rfl,SqL.of e4,hi,_,rfl,(by rw[yod];exact zdi i hi'),sz2,λl3 hl3=>?_⟩;exact q l3 (.force i) _ _ (B1.trans (B2.trans (B3.trans ((But.laid hl1).trans (B4.trans (But.laid hl3)))))) (T4.laid hl3) (by omega) hi' rfl zda
  ·refine⟨sz3,λl1 hl1=>?_⟩;have e1:upd H1 l1 (.lst [.str "all",.str "self",.str "mine"]) l1=some (.lst [.str "all",.str "self",.str "mine"]):=zda;refine⟨_,rfl,p,_,3,rfl,T1.laid hl1,by omega,by decide,λr4 H4 a4 b4 B4 T4=>?_⟩;have e4:=B4 l1 _ (ysc (T1.ne hl1)) e1;obtain⟨y,hy,hw,hok,hsz⟩:=zjkb a4 b4;refine⟨l1,_,_,_,rfl,rfl,SqL.of e4,hy,sz1,λl3 hl3=>?_⟩;exact q l3 y _ _ (B1.trans ((But.laid hl1).trans (B4.trans (But.laid hl3)))) (T4.laid hl3) (by omega) hok hsz (by rw[hw];exact zda)
theorem zgib (T:Tx K mg){n:Nat}(zqp:FnOk P w K mg base CX0 (n+3) T.zmb.f T.zmb.d zkh (zcu K n)):FnOk P w K mg base CX0 (n+4) T.zmb.f T.zmb.d zkh (zcu K (n+1)):=by
 refine T.zmb.ok zne ?_;rintro f c A o s H vs Q E hr ⟨p,nl,ns,k,m,rfl,T0,hk,N0,m1,m2,m9,q⟩ X;refine⟨_,  (zca (zta (i:=3) zne.nd rfl (.inl rfl) (zka (zoa T).up hr rfl T.zfa.m T.zfa.F.kp (zua T) .nil zib (zaa (pv 0) (zaa zga zba))))
  (zca (zqb (PW.pt (zby (zma zdx (pv 3) zga (zxa _)) (zlr (zma zdx (pv 2) zga (zxa _)))))
   (zca (ztgb (zka zqp hr rfl T.zmb.m T.zmb.F.kp (zoj T) .nil zib (zaa (pv 0) (zaa (pv 1) (zaa (zcb zjv (pv 2) zga) zba)))) (zvgb (n:=2) rfl (zbk (zwd (i:=4) zne.nd rfl (.inl rfl)) (zbk (zwd (i:=5) zne.nd rfl (.inl rfl)) zcz))))
   (zia (zpa (zqc (zaa (zcb zze (zob (zaa zea zba)) (pv 4)) (zaa (zcb zfd (pv 5) zga) zba))))))
   zra)
  (zca (zqb (PW.pt (zby (zma zdx (pv 3) zga (zxa _)) (zlr (zma zdx (pv 2) zga (zxa _)))))
   (zca (ztgb (zka zqp hr rfl T.zmb.m T.zmb.F.kp (zoj T) .nil zib (zaa (pv 0) (zaa (pv 1) (zaa (zcb zjv (pv 2) zga) zba)))) (zvgb (n:=2) rfl (zbk (zwd (i:=4) zne.nd rfl (.inl rfl)) (zbk (zwd (i:=5) zne.nd rfl (.inl rfl)) zcz))))
   (zca (ztgb (zka zqp hr rfl T.zmb.m T.zmb.F.kp (zoj T) .nil zib (zaa (pv 0) (zaa (pv 1) (zaa (zcb zjv (zcb zjv (pv 2) zga) (pv 5)) zba)))) (zvgb (n:=2) rfl (zbk (zwd (i:=6) zne.nd rfl (.inl rfl)) (zbk (zwd (i:=7) zne.nd rfl (.inl rfl)) zcz))))
   (zia (zpa (zqc (zaa (zcb zze (zcb zze (zob (zaa (zlb zbb (zob (zaa zea (zaa zea zba))) (zcb zdy (pv 3) zga) (λ_ _=>rfl)) zba)) (pv 4)) (pv 6)) (zaa (zcb zfd (zcb zfd zga (pv 5)) (pv 7)) zba)))))))
   zra)
  (zia (zpa (zqc (zaa (zka (zccb T).up hr rfl T.zkg.m T.zkg.F.kp (zjfb T) .nil zib (zaa (pv 0) (zaa (pv 1) zba))) (zaa zga zba)))))))),?_⟩
 refine⟨_,rfl,p,k,8,rfl,T0,by omega,by decide,λr1 H1 a1 b1 B1 T1=>?_⟩;have N1:=N0.but T0 B1;refine⟨_,rfl,_,_,rfl,rfl,_,rfl,?_⟩;refine zupb (d:=decide ((1:Int)<(m:Int))) (λz=>⟨_,rfl,_,_,rfl,rfl,_,rfl,z⟩) (λc1 c2=>?_) ?_
 ·have c2':(1:Int)<(m:Int):=of_decide_eq_true c2;refine⟨_,rfl,_,rfl,_,rfl,_,_,rfl,rfl,p,nl,ns,k+1,m-1,(by rw[show ((m-1:Nat):Int)=(m:Int)-1 by omega];rfl),T1,by omega,N1,by omega,by omega,by omega,λt l y k' H2 B2 T2 hk2 ok hsz et el=>?_⟩;refine⟨t,_,rfl,SqT.of et,rfl,_,_,rfl,_,_,rfl,rfl,?_⟩;refine⟨sz1,λl1 hl1=>?_⟩;have S1:=zja hl1 (.lst [.str "not"]);refine⟨_,rfl,l1,l,_,_,rfl,rfl,zda,S1 _ _ el,?_,λl2 hl2=>?_⟩
  ·rw[yaa,yjc];have:=zit (y:=y) (by omega);exact small (by omega)
  have S2:=zja hl2 (.lst ([.str "not"]++y.words.map V.str));refine⟨_,rfl,_,_,rfl,rfl,sz2,λt2 ht2=>?_⟩;have e2:upd (upd H2 l1 (.lst [.str "not"])) l2 (.lst ([.str "not"]++y.words.map V.str)) l2=some (.lst ((Wh.not y).words.map V.str)):=zda;have S3:=zja ht2 (.tup [.ref l2,.int ((y.size:Int)+1)]);refine q t2 l2 (.not y) k' _ (B1.trans (B2.of_same (S1.trans (S2.trans S3)))) (T2.same (S1.trans (S2.trans S3))) ?_ ok ?_ ?_ (S3 _ _ e2)
  ·show k'≤k+5*((y.size+1:Nat):Int);omega
  ·show y.size+1≤m;omega
  ·rw[zda];rfl
 refine⟨_,rfl,_,_,rfl,rfl,_,rfl,?_⟩;refine zupb (d:=decide ((2:Int)<(m:Int))) (λz=>⟨_,rfl,_,_,rfl,rfl,_,rfl,z⟩) (λc1 c2=>?_) ?_
 ·have c2':(2:Int)<(m:Int):=of_decide_eq_true c2;refine⟨_,rfl,_,rfl,_,rfl,_,_,rfl,rfl,p,nl,ns,k+1,m-2,(by rw[show ((m-2:Nat):Int)=(m:Int)-2 by omega];rfl),T1,by omega,N1,by omega,by omega,by omega,λt l y k2 H2 B2 T2 hk2 ok hsz et el=>?_⟩;refine⟨t,_,rfl,SqT.of et,rfl,_,_,rfl,_,_,rfl,rfl,?_⟩;have yp:=y.size_pos;have N2:=N1.but T1 B2;refine⟨_,rfl,_,rfl,_,rfl,_,_,rfl,rfl,_,rfl,_,_,rfl,rfl,p,nl,ns,k2,m-1-y.size,(by rw[show ((m-1-y.size:Nat):Int)=(m:Int)-1-(y.size:Int) by omega];rfl),T2,by omega,N2,by omega,by omega,by omega,λt' l' y' k3 H3 B3 T3 hk3 ok' hsz' et' el'=>?_⟩;refine⟨t',_,rfl,SqT.of et',rfl,_,_,rfl,_,_,rfl,rfl,?_⟩;have nlp:l≠p:=by
   obtain⟨⟨a,zs,h1,_⟩,_⟩:=T2;refine zfm el h1 λz=>?_;injection z with z
   cases ey:y.words with
   | nil=>exact absurd ey y.zve
   | cons u r =>
    rw[ey] at z;injection z with z _
    cases z
  have el3:=B3 _ _ nlp el;refine⟨sz2,λl1 hl1=>?_⟩;have S1:=zja hl1 (.lst [.str "both",.str "any"]);have hq0:0≤r1 % 2:=ydh _ (by decide);have hq1:r1 % 2<2:=yvf _ (by decide);obtain⟨z,hz,hz'⟩:∃z:Wh,atI [V.str "both",V.str "any"] (r1 % 2)=some (.str z.word)∧z.words=z.word::(y.words++y'.words)∧z.ok∧z.size=y.size+y'.size+1:=by
   obtain⟨v,hv,hm⟩:=zui (xs:=[V.str "both",V.str "any"]) hq0 hq1;simp only[yda,ycb,or_false] at hm
   rcases hm with e|e<;>subst e
   ·exact⟨.both y y',hv,rfl,⟨ok,ok'⟩,rfl⟩
   ·exact⟨.any y y',hv,rfl,⟨ok,ok'⟩,rfl⟩
  obtain⟨zw,zok,zs⟩:=hz';refine⟨_,rfl,_,_,rfl,rfl,(by show (0:Int)<2;decide),l1,_,_,_,rfl,rfl,SqL.of zda,hz,sz1,λl2 hl2=>?_⟩;have S2:=zja hl2 (.lst [.str z.word]);have w1:=zit (y:=y) (by omega);have w2:=zit (y:=y') (by omega);refine⟨_,rfl,l2,l,_,_,rfl,rfl,zda,(S1.trans S2) _ _ el3,?_,λl3 hl3=>?_⟩
  ·rw[yaa,yjc];exact small (by omega)
  have S3:=zja hl3 (.lst ([.str z.word]++y.words.map V.str));refine⟨_,rfl,l3,l',_,_,rfl,rfl,zda,(S1.trans (S2.trans S3)) _ _ el',?_,λl4 hl4=>?_⟩
  ·rw[yha,yaa,yaa,yjc];exact small (by omega)
  have S4:=zja hl4 (.lst (([.str z.word]++y.words.map V.str)++y'.words.map V.str));refine⟨_,rfl,_,_,rfl,rfl,_,rfl,_,_,rfl,rfl,sz2,λt2 ht2=>?_⟩;have S5:=zja ht2 (.tup [.ref l4,.int (1+(y.size:Int)+(y'.size:Int))]);have S15:=S1.trans (S2.trans (S3.trans (S4.trans S5)));refine q t2 l4 z k3 _ (B1.trans (B2.trans (B3.of_same S15))) (T3.same S15) ?_ zok ?_ ?_ ?_
  ·rw[zs];omega
  ·omega
  ·rw[zda,zs,show (((y.size+y'.size+1:Nat)):Int)=1+(y.size:Int)+(y'.size:Int) by omega]
  ·refine S5 _ _ ?_;rw[zda,zw,ytb,ydb];simp
 ·refine⟨_,rfl,_,rfl,p,nl,ns,k+1,rfl,T1,by omega,N1,λl y k' H2 B2 T2 hk2 ok hsz el=>?_⟩;refine⟨sz2,λt2 ht2=>?_⟩;have S3:=zja ht2 (.tup [.ref l,.int 1]);refine q t2 l y k' _ (B1.trans (B2.of_same S3)) (T2.same S3) (by rw[hsz];omega) ok (by omega) ?_ (S3 _ _ el);rw[zda,hsz];rfl
theorem ziib (T:Tx K mg):FnOk P w K mg base CX0 3 T.zmb.f T.zmb.d zkh (zcu K 0):=by
 have no:∀vs H Q E,¬ zcu K 0 vs H Q E:=λvs H Q E h=>by
  obtain⟨p,nl,ns,k,m,_,_,_,_,m1,m2,_⟩:=h;omega
 exact⟨λvs H Q E h=>absurd h (no vs H Q E),λA outer s H args us vs Q E _ _ _ _ h=>absurd h (no vs H Q E)⟩
theorem zrv (T:Tx K mg):∀n:Nat,FnOk P w K mg base CX0 (n+3) T.zmb.f T.zmb.d zkh (zcu K n)
 | 0=>ziib T
 | n+1=>zgib T (zrv T n)
abbrev SG:Str:="abelmnortuz 0129-/,.:AZ_\n\t+*"
theorem zgmb:SG.length=28:=by decide +kernel
theorem zuxb:∀c∈SG.cps.toList,c<256:=by decide +kernel
theorem zzqb {r:Int}{c:Nat}(h:atI SG.cps.toList r=some c)(h0:0≤r):Sm ⟨#[c]⟩ 1 1:=by
 refine⟨by show 1≤1;decide,λd hd=>?_,by have z:(⟨#[c]⟩:Str).cps.toList.count 44≤_:=List.count_le_length;exact z⟩;have e:d=c:=by simpa using hd
 rw[e];have m:c∈SG.cps.toList:=by
  have z:=h;unfold atI at z;cases e:ixN SG.cps.toList.length r with
  | none=>rw[e] at z;cases z
  | some j =>
   rw[e] at z;exact yva z
 exact zuxb c m
abbrev SLw:List Str:=(["all","self","mine","mark","force","not","both","any","do","each","one","come","leave","hurt"]:List Str)++(["gain","lack","lose","score","draw","none","here","less","more","as","per","mute","/"]:List Str)++(["steal","be","hold","when","instead","may","","0","00","999","1000","-","a","abcdefghi"]:List Str)
theorem zitb:SLw.all (λu=>decide (u.length≤10)&&(decide (cc u=0)&&u.cps.toList.all λc=>decide (c<256)))=true:=by decide +kernel
theorem zphb {r:Int}(h0:0≤r)(h1:r<41):∃u:Str,atI (SLw.map V.str) r=some (.str u)∧Sm u 10 0:=by
 obtain⟨v,hv,hm⟩:=zui (xs:=SLw.map V.str) h0 h1;obtain⟨u,hu,rfl⟩:=ykb.mp hm;have z:=yyb.mp zitb u hu;rw[yub,yub,decide_eq_true_eq,decide_eq_true_eq,yyb] at z;exact⟨u,hv,z.1,λc hc=>of_decide_eq_true (z.2.2 c hc),ybj z.2.1⟩
theorem jsz {ys:List Str}{n:Nat}(h:tot ys≤n)(hn:n≤1000000):(ys.map (·.length)).sum+ys.length*(" ":Str).length≤16777216:=by
 have e:(" ":Str).length=1:=rfl;rw[e,Nat.mul_one];unfold tot at h;omega
def zkub (K:yba):Sp:=λvs H Q _=>Ex5 λp (k:Int) (t:Str) (L N:Nat)=>vs=[.ref p,.str t]∧Tk K H p k∧k≤10000∧Sm t L N∧L≤4100∧∀t' k' H',Sm t' (2*L+20) (2*N+1)->But p H H'->Tk K H' p k'->k'≤k+10->Q (.str t') H'
theorem zvs (T:Tx K mg):FnOk P w K mg base CX0 3 T.zue.f T.zue.d zlp (zkub K):=by
 refine T.zue.ok zyc ?_;rintro f c A o s H vs Q E hr ⟨p,k,t,L,N,rfl,T0,hk,sm,hL,q⟩ X;have lt:=sm.1;have hz:t.length≤yua:=zrb (by omega);refine⟨_,  (zca (zta (i:=2) zyc.nd rfl (.inl rfl) (zka (zoa T) hr rfl T.zfa.m T.zfa.F.kp (zua T) .nil zib (zaa (pv 0) (zaa zga zba))))
  (zca (zta (i:=3) zyc.nd rfl (.inl rfl) (zka (zoa T) hr rfl T.zfa.m T.zfa.F.kp (zua T) .nil zib (zaa (pv 0) (zaa (zcb zfd (zza zqf rfl T.zme yza (zaa (pv 1) zba)) zga) zba))))
  (zca (zta (i:=4) zyc.nd rfl (.inl rfl) zea)
  (zca (zta (i:=5) zyc.nd rfl (.inl rfl) (zlb zlcb (pv 4) (zka (zoa T) hr rfl T.zfa.m T.zfa.F.kp (zua T) .nil zib (zaa (pv 0) (zaa (zza zqf rfl T.zme yza (zaa (pv 4) zba)) zba))) (λ_ _=>rfl)))
  (zca (zqb (zma zed (pv 2) zga (zxa _))
   (zia (zpa (zcb zsa (zlc ztx (pv 1) zud (ztd (pv 3))) (zlc ztx (pv 1) (ztd (zcb zfd (pv 3) zga)) zud))))
   zra)
  (zca (zqb (zma zed (pv 2) zga (zxa _))
   (zia (zpa (zcb zsa (zcb zsa (zlc ztx (pv 1) zud (ztd (pv 3))) (pv 5)) (zlc ztx (pv 1) (ztd (pv 3)) zud))))
   zra)
  (zca (zqb (zma zed (pv 2) zga (zxa _))
   (zia (zpa (zcb zsa (zcb zsa (zlc ztx (pv 1) zud (ztd (pv 3))) (pv 5)) (zlc ztx (pv 1) (ztd (zcb zfd (pv 3) zga)) zud))))
   zra)
  (zca (zta (i:=6) zyc.nd rfl (.inl rfl) (zog yta yyc yzc zdk (pv 1) (zaa zea zba)))
  (zca (zta (i:=7) zyc.nd rfl (.inl rfl) (zka (zoa T) hr rfl T.zfa.m T.zfa.F.kp (zua T) .nil zib (zaa (pv 0) (zaa (zza zya rfl T.zme yza (zaa (pv 6) zba)) zba))))
  (zca (zta (i:=8) zyc.nd rfl (.inl rfl) (zka (zoa T) hr rfl T.zfa.m T.zfa.F.kp (zua T) .nil zib (zaa (pv 0) (zaa (zza zya rfl T.zme yza (zaa (pv 6) zba)) zba))))
  (zca (zqb (zma zed (pv 2) zga (zxa _))
   (zia (zpa (zog yta yhb yib zof zea (zaa (zcb zze (zlc zgf (pv 6) zud (ztd (pv 7))) (zlc zgf (pv 6) (ztd (zcb zfd (pv 7) zga)) zud)) zba))))
   zra)
  (zca (zqb (zma zed (pv 2) zga (zxa _))
   (zia (zpa (zog yta yhb yib zof zea (zaa (zcb zze (zcb zze (zlc zgf (pv 6) zud (ztd (pv 7))) (zob (zaa (zlb zbb (pv 6) (pv 8) (λ_ _=>rfl)) zba))) (zlc zgf (pv 6) (ztd (pv 7)) zud)) zba))))
   zra)
  (zca (zqb (zma zed (pv 2) zga (zxa _))
   (zia (zpa (zog yta yhb yib zof zea (zaa (zcb zze (zcb zze (zlc zgf (pv 6) zud (ztd (pv 7))) (zob (zaa (zlb zbb (pv 6) (pv 8) (λ_ _=>rfl)) zba))) (zlc zgf (pv 6) (ztd (zcb zfd (pv 7) zga)) zud)) zba))))
   zra)
  (zca (zta (i:=9) zyc.nd rfl (.inl rfl) (zob (zaa zea (zaa zea (zaa zea (zaa zea (zaa zea (zaa zea (zaa zea (zaa zea (zaa zea (zaa zea (zaa zea (zaa zea (zaa zea (zaa zea zba))))))))))))))))
  (zca (zta (i:=9) zyc.nd rfl (.inl rfl) (zcb zze (pv 9) (zob (zaa zea (zaa zea (zaa zea (zaa zea (zaa zea (zaa zea (zaa zea (zaa zea (zaa zea (zaa zea (zaa zea (zaa zea (zaa zea zba))))))))))))))))
  (zca (zta (i:=9) zyc.nd rfl (.inl rfl) (zcb zze (pv 9) (zob (zaa zea (zaa zea (zaa zea (zaa zea (zaa zea (zaa zea (zaa zea (zaa zea (zaa zea (zaa zea (zaa zea (zaa zea (zaa zea (zaa zea zba)))))))))))))))))
  (zca (zqb (zma zed (pv 2) zga (zxa _))
   (zia (zpa (zog yta yhb yib zof zea (zaa (zcb zze (zcb zze (zlc zgf (pv 6) zud (ztd (pv 7))) (zob (zaa (zlb zbb (pv 9) (zka (zoa T) hr rfl T.zfa.m T.zfa.F.kp (zua T) .nil zib (zaa (pv 0) (zaa (zza zya rfl T.zme yza (zaa (pv 9) zba)) zba))) (λ_ _=>rfl)) zba))) (zlc zgf (pv 6) (ztd (zcb zfd (pv 7) zga)) zud)) zba))))
   zra)
  (zia (zpa (zog yta yhb yib zof zea (zaa (zcb zze (zcb zze (zlc zgf (pv 6) zud (ztd (pv 7))) (zob (zaa (zlb zbb (pv 9) (zka (zoa T) hr rfl T.zfa.m T.zfa.F.kp (zua T) .nil zib (zaa (pv 0) (zaa (zza zya rfl T.zme yza (zaa (pv 9) zba)) zba))) (λ_ _=>rfl)) zba))) (zlc zgf (pv 6) (ztd (pv 7)) zud)) zba))))))))))))))))))))),?_⟩
 refine⟨_,rfl,p,k,8,rfl,T0,by omega,by decide,λway H1 w0 w1 B1 T1=>?_⟩;refine⟨_,rfl,_,rfl,t,rfl,hz,_,_,rfl,rfl,p,_,_,rfl,T1,by omega,by omega,λat1 H2 a0 a1 B2 T2=>?_⟩;refine⟨_,rfl,_,rfl,_,rfl,_,rfl,(by rw[zgmb];decide),p,_,_,rfl,T2,by omega,(by rw[zgmb];decide),λr H3 r0 r1 B3 T3=>?_⟩;obtain⟨c,hc⟩:=zcub (t:=SG) r0 r1;refine⟨_,_,c,rfl,rfl,(by rw[zgmb];decide),hc,?_⟩;have sc:=zzqb hc r0;have B:=B1.trans (B2.trans B3);have ret3:∀{t':Str},Sm t' (2*L+20) (2*N+1)->Q (.str t') H3:=λz=>q _ _ H3 z B T3 (by omega);refine⟨_,rfl,rfl,_,rfl,?_⟩;refine ite2 (λ_=>?_) (λ_=>?_)
 ·refine⟨_,rfl,_,rfl,_,rfl,t,rfl,hz,λta ea la=>?_⟩;refine⟨_,rfl,_,rfl,_,_,rfl,rfl,_,rfl,t,rfl,hz,λtb eb lb=>?_⟩;have sa:=sm.slice _ _ ea;have sb:=sm.slice _ _ eb;exact⟨_,_,rfl,rfl,zrb (by have:=sa.1;have:=sb.1;omega),ret3 ((sa.app sb).up (by omega) (by omega))⟩
 refine⟨_,rfl,rfl,_,rfl,?_⟩;refine ite2 (λ_=>?_) (λ_=>?_)
 ·refine⟨_,rfl,_,rfl,_,rfl,t,rfl,hz,λta ea la=>?_⟩;have sa:=sm.slice _ _ ea;refine⟨_,rfl,_,_,rfl,rfl,zrb (by have:=sa.1;have:=sc.1;omega),?_⟩;refine⟨_,rfl,_,rfl,_,rfl,t,rfl,hz,λtb eb lb=>?_⟩;have sb:=sm.slice _ _ eb;exact⟨_,_,rfl,rfl,zrb (by have:=(sa.app sc).1;have:=sb.1;omega),ret3 (((sa.app sc).app sb).up (by omega) (by omega))⟩
 refine⟨_,rfl,rfl,_,rfl,?_⟩;refine ite2 (λ_=>?_) (λ_=>?_)
 ·refine⟨_,rfl,_,rfl,_,rfl,t,rfl,hz,λta ea la=>?_⟩;have sa:=sm.slice _ _ ea;refine⟨_,rfl,_,_,rfl,rfl,zrb (by have:=sa.1;have:=sc.1;omega),?_⟩;refine⟨_,rfl,_,rfl,_,_,rfl,rfl,_,rfl,t,rfl,hz,λtb eb lb=>?_⟩;have sb:=sm.slice _ _ eb;exact⟨_,_,rfl,rfl,zrb (by have:=(sa.app sc).1;have:=sb.1;omega),ret3 (((sa.app sc).app sb).up (by omega) (by omega))⟩
 refine⟨_,rfl,rfl,t,_,rfl,rfl,(by decide +kernel),(by have:yua=16777216:=rfl;omega),λl hl=>?_⟩;have hws:=ztj (s:=" ") sm;have htt:=zyab t;have hct:=zijb t;have hcN:=sm.2.2;have hne:=znh t " ";generalize yma t " " = ws at *;have wl0:0<ws.length:=ydm.mpr hne;have wlt:ws.length≤4200:=by
  unfold tot at htt;omega
 have T4:=T3.laid (o:=.lst (ws.map V.str)) hl;have pl:=T3.ne hl;have B4:But p H (upd H3 l (.lst (ws.map V.str))):=B.trans (But.laid hl);have e4:upd H3 l (.lst (ws.map V.str)) l=some (.lst (ws.map V.str)):=zda;generalize upd H3 l (.lst (ws.map V.str))=H4 at *;refine⟨_,rfl,_,rfl,l,_,rfl,.inl (SqL.of e4),p,_,_,rfl,T4,by omega,(by rw[yaa];omega),λkk H5 k0 k1 B5 T5=>?_⟩;obtain⟨kn,rfl⟩:=yrc k0;have e5:=B5 _ _ (ysc pl) e4;refine⟨_,rfl,_,rfl,l,_,rfl,.inl (SqL.of e5),p,_,_,rfl,T5,by omega,(by rw[yaa];omega),λjj H6 j0 j1 B6 T6=>?_⟩;obtain⟨jn,rfl⟩:=yrc j0;have e6:=B6 _ _ (ysc pl) e5;have BB:But p H H6:=B4.trans (B5.trans B6);rw[yaa] at k1 j1;have hj:=yoa (show jn<ws.length by omega);generalize ws[jn]=wj at hj;have sj:=hws wj (yva hj);have tk1:=zlgb ws kn;have tk2:=zajb ws kn;have tk3:=znhb ws kn;have tk4:=zvlb ws kn;have cT:∀u∈ws.take kn,∀c∈u.cps.toList,c<256:=λu hu=>(hws u (yzh hu)).2.1;have cD:∀j,∀u∈ws.drop j,∀c∈u.cps.toList,c<256:=λj u hu=>(hws u (ykg hu)).2.1;have xT:cutV (ws.map V.str) none (some ((kn:Nat):Int))=(ws.take kn).map V.str:=by rw[zdw,yxm]
 have xD:∀j:Nat,cutV (ws.map V.str) (some ((j:Nat):Int)) none=(ws.drop j).map V.str:=λj=>by rw[zll,ynk]
 have xD1:cutV (ws.map V.str) (some (((kn:Nat):Int)+1)) none=(ws.drop (kn+1)).map V.str:=xD (kn+1);refine⟨_,rfl,rfl,_,rfl,?_⟩;refine ite2 (λ_=>?_) (λ_=>?_)
 ·refine⟨rfl,_,rfl,_,rfl,_,rfl,l,_,rfl,SqL.of e6,λs1 hs1=>?_⟩;rw[xT];refine laid hs1 λHa Sa ea=>?_;refine⟨_,rfl,_,rfl,_,_,rfl,rfl,_,rfl,l,_,rfl,SqL.of (Sa _ _ e6),λs2 hs2=>?_⟩;rw[xD1];refine laid hs2 λHb Sb eb=>?_;refine⟨s1,s2,_,_,rfl,rfl,Sb _ _ ea,eb,zrb (by rw[yaa,yaa,ypb,ylc];omega),λc hc=>?_⟩;rw[← ydb];refine laid hc λHc Sc ec=>?_;have tt:tot (ws.take kn++ws.drop (kn+1))≤2*L+20:=by rw[zwi];omega
  exact⟨" ",c,_,rfl,rfl,SqL.of ec,jsz tt (by omega),q _ _ Hc (zeu tt (λu hu=>(yna.mp hu).elim (cT u) (cD _ u)) (by rw[zpi];omega)) (((BB.of_same Sa).of_same Sb).of_same Sc) (((T6.same Sa).same Sb).same Sc) (by omega)⟩
 refine⟨_,rfl,rfl,_,rfl,?_⟩;refine ite2 (λ_=>?_) (λ_=>?_)
 ·refine⟨rfl,_,rfl,_,rfl,_,rfl,l,_,rfl,SqL.of e6,λs1 hs1=>?_⟩;rw[xT];refine laid hs1 λHa Sa ea=>?_;have Ta:=T6.same Sa;have Ba:=BB.of_same Sa;have el:=Sa _ _ e6;have hwj:=hj;have swj:=sj;refine⟨_,rfl,_,rfl,l,_,_,_,rfl,rfl,SqL.of el,zjc hj,sz1,λm1 hm1=>?_⟩;refine laid hm1 λHm Sm1 em=>?_;refine⟨s1,m1,_,_,rfl,rfl,Sm1 _ _ ea,em,zrb (by rw[yaa,ypb];show _+1≤16777216;omega),λc1 hc1=>?_⟩;refine laid hc1 λHn Sn en=>?_;refine⟨_,rfl,_,rfl,_,rfl,l,_,rfl,SqL.of (Sn _ _ (Sm1 _ _ el)),λs2 hs2=>?_⟩;rw[xD kn];refine laid hs2 λHb Sb eb=>?_;refine⟨c1,s2,_,_,rfl,rfl,Sb _ _ en,eb,zrb (by rw[yha,yaa,yaa,ypb,ylc];show _+1+_≤16777216;omega),λc hc=>?_⟩;rw[show ((ws.take kn).map V.str++[V.str wj])++(ws.drop (kn)).map V.str=((ws.take kn++[wj])++ws.drop (kn)).map V.str by simp];refine laid hc λHc Sc ec=>?_;have tt:tot ((ws.take kn++[wj])++ws.drop (kn))≤2*L+20:=by
   rw[zwi,zwi,zdr];have:=swj.1;omega
  exact⟨" ",c,_,rfl,rfl,SqL.of ec,jsz tt (by omega),q _ _ Hc (zeu tt (λu hu=>(yna.mp hu).elim (λhu=>(yna.mp hu).elim (cT u) (λhu=>by rw[yca.mp hu];exact swj.2.1)) (cD _ u)) (by rw[zpi,zpi,zso];have:=swj.2.2;omega)) ((((Ba.of_same Sm1).of_same Sn).of_same Sb).of_same Sc) ((((Ta.same Sm1).same Sn).same Sb).same Sc) (by omega)⟩
 refine⟨_,rfl,rfl,_,rfl,?_⟩;refine ite2 (λ_=>?_) (λ_=>?_)
 ·refine⟨rfl,_,rfl,_,rfl,_,rfl,l,_,rfl,SqL.of e6,λs1 hs1=>?_⟩;rw[xT];refine laid hs1 λHa Sa ea=>?_;have Ta:=T6.same Sa;have Ba:=BB.of_same Sa;have el:=Sa _ _ e6;have hwj:=hj;have swj:=sj;refine⟨_,rfl,_,rfl,l,_,_,_,rfl,rfl,SqL.of el,zjc hj,sz1,λm1 hm1=>?_⟩;refine laid hm1 λHm Sm1 em=>?_;refine⟨s1,m1,_,_,rfl,rfl,Sm1 _ _ ea,em,zrb (by rw[yaa,ypb];show _+1≤16777216;omega),λc1 hc1=>?_⟩;refine laid hc1 λHn Sn en=>?_;refine⟨_,rfl,_,rfl,_,_,rfl,rfl,_,rfl,l,_,rfl,SqL.of (Sn _ _ (Sm1 _ _ el)),λs2 hs2=>?_⟩;rw[xD1];refine laid hs2 λHb Sb eb=>?_;refine⟨c1,s2,_,_,rfl,rfl,Sb _ _ en,eb,zrb (by rw[yha,yaa,yaa,ypb,ylc];show _+1+_≤16777216;omega),λc hc=>?_⟩;rw[show ((ws.take kn).map V.str++[V.str wj])++(ws.drop (kn+1)).map V.str=((ws.take kn++[wj])++ws.drop (kn+1)).map V.str by simp];refine laid hc λHc Sc ec=>?_;have tt:tot ((ws.take kn++[wj])++ws.drop (kn+1))≤2*L+20:=by
   rw[zwi,zwi,zdr];have:=swj.1;omega
  exact⟨" ",c,_,rfl,rfl,SqL.of ec,jsz tt (by omega),q _ _ Hc (zeu tt (λu hu=>(yna.mp hu).elim (λhu=>(yna.mp hu).elim (cT u) (λhu=>by rw[yca.mp hu];exact swj.2.1)) (cD _ u)) (by rw[zpi,zpi,zso];have:=swj.2.2;omega)) ((((Ba.of_same Sm1).of_same Sn).of_same Sb).of_same Sc) ((((Ta.same Sm1).same Sn).same Sb).same Sc) (by omega)⟩
 refine⟨(by show 14≤yua;decide),λq1 hq1=>?_⟩;refine laid hq1 λHp1 Sp1 ep1=>?_;refine⟨_,rfl,(by show 13≤yua;decide),λq2 hq2=>?_⟩;refine laid hq2 λHp2 Sp2 ep2=>?_;refine⟨q1,q2,_,_,rfl,rfl,Sp2 _ _ ep1,ep2,(by show 27≤yua;decide),λq3 hq3=>?_⟩;refine laid hq3 λHp3 Sp3 ep3=>?_;refine⟨_,rfl,(by show 14≤yua;decide),λq4 hq4=>?_⟩;refine laid hq4 λHp4 Sp4 ep4=>?_;refine⟨q3,q4,_,_,rfl,rfl,Sp4 _ _ ep3,ep4,(by show 41≤yua;decide),λsl hsl=>?_⟩;have Tp4:=(((T6.same Sp1).same Sp2).same Sp3).same Sp4;have psl:=Tp4.ne hsl;refine laid hsl λHp5 Sp5 es=>?_;have T7:=Tp4.same Sp5;have S67:=Sp1.trans (Sp2.trans (Sp3.trans (Sp4.trans Sp5)));have B7:=BB.of_same S67;have e7:=S67 _ _ e6;refine⟨_,rfl,rfl,_,rfl,?_⟩;refine ite2 (λ_=>?_) (λ_=>?_)
 ·refine⟨rfl,_,rfl,_,rfl,_,rfl,l,_,rfl,SqL.of e7,λs1 hs1=>?_⟩;rw[xT];refine laid hs1 λHa Sa ea=>?_;refine⟨_,rfl,_,rfl,_,rfl,sl,_,rfl,.inl (SqL.of (Sa _ _ es)),p,_,_,rfl,T7.same Sa,by omega,(by show (0:Int)<41;decide),λr Hr r0 r1 Br Ta=>?_⟩;have Tz:=T7.same Sa;have Ba:=(B7.of_same Sa).trans Br;have np:∀{b:Addr} {o:HO},Ha b=some o->b≠p->Hr b=some o:=λe n=>Br _ _ n e;have el:=np (Sa _ _ e7) (ysc pl);have ea:=np ea (T7.ne hs1).symm;obtain⟨wj,hat,swj0⟩:=zphb r0 r1;have swj:Sm wj 10 0:=swj0;refine⟨sl,_,_,_,rfl,rfl,SqL.of (np (Sa _ _ es) (ysc psl)),hat,sz1,λm1 hm1=>?_⟩;refine laid hm1 λHm Sm1 em=>?_;refine⟨s1,m1,_,_,rfl,rfl,Sm1 _ _ ea,em,zrb (by rw[yaa,ypb];show _+1≤16777216;omega),λc1 hc1=>?_⟩;refine laid hc1 λHn Sn en=>?_;refine⟨_,rfl,_,rfl,_,_,rfl,rfl,_,rfl,l,_,rfl,SqL.of (Sn _ _ (Sm1 _ _ el)),λs2 hs2=>?_⟩;rw[xD1];refine laid hs2 λHb Sb eb=>?_;refine⟨c1,s2,_,_,rfl,rfl,Sb _ _ en,eb,zrb (by rw[yha,yaa,yaa,ypb,ylc];show _+1+_≤16777216;omega),λc hc=>?_⟩;rw[show ((ws.take kn).map V.str++[V.str wj])++(ws.drop (kn+1)).map V.str=((ws.take kn++[wj])++ws.drop (kn+1)).map V.str by simp];refine laid hc λHc Sc ec=>?_;have tt:tot ((ws.take kn++[wj])++ws.drop (kn+1))≤2*L+20:=by
   rw[zwi,zwi,zdr];have:=swj.1;omega
  exact⟨" ",c,_,rfl,rfl,SqL.of ec,jsz tt (by omega),q _ _ Hc (zeu tt (λu hu=>(yna.mp hu).elim (λhu=>(yna.mp hu).elim (cT u) (λhu=>by rw[yca.mp hu];exact swj.2.1)) (cD _ u)) (by rw[zpi,zpi,zso];have:=swj.2.2;omega)) ((((Ba.of_same Sm1).of_same Sn).of_same Sb).of_same Sc) ((((Ta.same Sm1).same Sn).same Sb).same Sc) (by omega)⟩
 refine⟨rfl,_,rfl,_,rfl,_,rfl,l,_,rfl,SqL.of e7,λs1 hs1=>?_⟩;rw[xT];refine laid hs1 λHa Sa ea=>?_;refine⟨_,rfl,_,rfl,_,rfl,sl,_,rfl,.inl (SqL.of (Sa _ _ es)),p,_,_,rfl,T7.same Sa,by omega,(by show (0:Int)<41;decide),λr Hr r0 r1 Br Ta=>?_⟩;have Tz:=T7.same Sa;have Ba:=(B7.of_same Sa).trans Br;have np:∀{b:Addr} {o:HO},Ha b=some o->b≠p->Hr b=some o:=λe n=>Br _ _ n e;have el:=np (Sa _ _ e7) (ysc pl);have ea:=np ea (T7.ne hs1).symm;obtain⟨wj,hat,swj0⟩:=zphb r0 r1;have swj:Sm wj 10 0:=swj0;refine⟨sl,_,_,_,rfl,rfl,SqL.of (np (Sa _ _ es) (ysc psl)),hat,sz1,λm1 hm1=>?_⟩;refine laid hm1 λHm Sm1 em=>?_;refine⟨s1,m1,_,_,rfl,rfl,Sm1 _ _ ea,em,zrb (by rw[yaa,ypb];show _+1≤16777216;omega),λc1 hc1=>?_⟩;refine laid hc1 λHn Sn en=>?_;refine⟨_,rfl,_,rfl,_,rfl,l,_,rfl,SqL.of (Sn _ _ (Sm1 _ _ el)),λs2 hs2=>?_⟩;rw[xD kn];refine laid hs2 λHb Sb eb=>?_;refine⟨c1,s2,_,_,rfl,rfl,Sb _ _ en,eb,zrb (by rw[yha,yaa,yaa,ypb,ylc];show _+1+_≤16777216;omega),λc hc=>?_⟩;rw[show ((ws.take kn).map V.str++[V.str wj])++(ws.drop (kn)).map V.str=((ws.take kn++[wj])++ws.drop (kn)).map V.str by simp];refine laid hc λHc Sc ec=>?_;have tt:tot ((ws.take kn++[wj])++ws.drop (kn))≤2*L+20:=by
  rw[zwi,zwi,zdr];have:=swj.1;omega
 exact⟨" ",c,_,rfl,rfl,SqL.of ec,jsz tt (by omega),q _ _ Hc (zeu tt (λu hu=>(yna.mp hu).elim (λhu=>(yna.mp hu).elim (cT u) (λhu=>by rw[yca.mp hu];exact swj.2.1)) (cD _ u)) (by rw[zpi,zpi,zso];have:=swj.2.2;omega)) ((((Ba.of_same Sm1).of_same Sn).of_same Sb).of_same Sc) ((((Ta.same Sm1).same Sn).same Sb).same Sc) (by omega)⟩
abbrev J (ws:List Str):Str:=yea " " ws
theorem jc:∀{a b:List Str},a≠[]->b≠[]->J a ++ " " ++ J b=J (a++b)
 | [],_,h,_=>absurd rfl h
 | _,[],_,h=>absurd rfl h
 | [x],y::r,_,_=>rfl
 | x::y::r,b::bs,_,hb=>by
  have ih:=jc (a:=y::r) (b:=b::bs) (by simp) hb;show (x ++ " " ++ J (y::r)) ++ " " ++ J (b::bs)=x ++ " " ++ J (y::r++b::bs)
  rw[← ih,yuc,yuc,yuc,yuc,yuc]
theorem zsxb:(" do ":Str) = " " ++ "do" ++ " ":=by decide +kernel
theorem t_do {a b:List Str}(ha:a≠[])(hb:b≠[]):J a ++ " do " ++ J b=J (a++(("do":Str)::b)):=by
 have e1:=jc (a:=a) (b:=["do"]) ha (by simp);have e2:=jc (a:=a++[("do":Str)]) (b:=b) (by simp) hb;rw[← e1] at e2;rw[zsxb];rw[show a++(("do":Str)::b)=a++[("do":Str)]++b by simp,← e2];show J a++(" " ++ "do" ++ " ")++J b=J a ++ " " ++ "do" ++ " " ++ J b
 rw[yuc,yuc,yuc,yuc,yuc,yuc]
theorem zvtb {e each k:Str}{v:Wv}{y:Wh}(he:e=each ++ " "):e++J (k::v.words) ++ " " ++ J y.words=J (Deed.words ⟨each,k,v,y⟩):=by
 subst he;have e1:each ++ " " ++ J (k::v.words)=J (each::k::v.words):=jc (a:=[each]) (b:=k::v.words) (by simp) (by simp);rw[e1,jc (by simp) y.zve];rfl
theorem zutb {u:Str}{v:Hv}{y:Wh}:("hold ":Str)++J (u::v.words) ++ " " ++ J y.words=zdd (.hold u v y):=by
 rw[show ("hold ":Str) = "hold" ++ " " by decide +kernel];have e1:("hold":Str) ++ " " ++ J (u::v.words)=J ("hold" :: u::v.words):=jc (a:=["hold"]) (b:=u::v.words) (by simp) (by simp);rw[e1,jc (by simp) y.zve];rfl
theorem zttb {k:Str}{y:Wh}{d:Deed}:("when ":Str)++k ++ " " ++ J y.words ++ " do " ++ J d.words=zdd (.wen k y d):=by
 rw[show ("when ":Str) = "when" ++ " " by decide +kernel];have e1:("when":Str) ++ " " ++ k ++ " " ++ J y.words=J ([("when":Str),k]++y.words):=jc (a:=["when",k]) (b:=y.words) (by simp) y.zve;rw[e1,t_do (by simp) (zweb d)];rfl
theorem zxwb {c:Nat}{d:Deed}:("may ":Str)++(toString (c:Int):Str) ++ " do " ++ J d.words=zdd (.may c d):=by
 show _=J (("may":Str)::(toString (c:Int):Str) :: "do" :: d.words)
 rw[show ("may ":Str) = "may" ++ " " by decide +kernel];generalize (toString (c:Int):Str)=n at *;have e:=t_do (a:=[("may":Str),n]) (b:=d.words) (by simp) (yad _ _);exact e
theorem zfjb {pre k w:Str}{y:Wh}{v:Wv}(he:pre=J ["instead",k] ++ " "):pre++J y.words ++ " do " ++ J (w::v.words)=zdd (.instead k y w v):=by
 subst he;rw[jc (by simp) y.zve,t_do (by simp) (by simp)];rfl
theorem js {x a b:Str}(h:x=a ++ " "):x++b=J [a,b]:=by
 rw[h];rfl
theorem zprb {i:Nat}{n0 n1:Str}(hi:i<1000)(h0:znd n0)(h1:znd n1){r:Int}(r0:0≤r)(r1:r<6) :
  Ex2 λ(k:Str) (v:Wv)=>zql k v∧atI [V.str ("lose " ++ (toString (i:Int):Str)),V.str ("hurt " ++ (toString (i:Int):Str)),V.str ("gain " ++ n0),V.str "leave",V.str ("draw " ++ (toString (i:Int):Str)),V.str ("lack " ++ n1)] r=some (.str (J (k::v.words))):=by
 obtain⟨v,hv,hm⟩:=zui (xs:=[V.str ("lose " ++ (toString (i:Int):Str)),V.str ("hurt " ++ (toString (i:Int):Str)),V.str ("gain " ++ n0),V.str "leave",V.str ("draw " ++ (toString (i:Int):Str)),V.str ("lack " ++ n1)]) r0 r1;rw[hv];simp only[yda,ycb,or_false] at hm
 rcases hm with e|e|e|e|e|e<;>rw[e]
 ·exact⟨"lose",.num i,.lose hi,by rw[js (a:="lose") (by decide +kernel)];rfl⟩
 ·exact⟨"hurt",.num i,.hurt hi,by rw[js (a:="hurt") (by decide +kernel)];rfl⟩
 ·exact⟨"gain",.name n0,.gain h0,by rw[js (a:="gain") (by decide +kernel)];rfl⟩
 ·exact⟨"leave",.non,.leave,rfl⟩
 ·exact⟨"draw",.num i,.draw hi,by rw[js (a:="draw") (by decide +kernel)];rfl⟩
 ·exact⟨"lack",.name n1,.lack h1,by rw[js (a:="lack") (by decide +kernel)];rfl⟩
theorem zsrb {r:Int}(r0:0≤r)(r1:r<2):Ex2 λ(e each:Str)=>atI [V.str "each ",V.str "one "] r=some (.str e)∧e=each ++ " " ∧ each∈zym∧e.length≤5:=by
 obtain⟨v,hv,hm⟩:=zui (xs:=[V.str "each ",V.str "one "]) r0 r1;simp only[yda,ycb,or_false] at hm
 rcases hm with e|e<;>rw[e] at hv
 ·exact⟨_,"each",hv,by decide +kernel,by decide +kernel,by decide +kernel⟩
 ·exact⟨_,"one",hv,by decide +kernel,by decide +kernel,by decide +kernel⟩
theorem zrrb {i:Nat}{n:Str}{o:Wh}(hi:i<1000)(hn:znd n)(ho:plain o){r:Int}(r0:0≤r)(r1:r<6) :
  Ex2 λ(u:Str) (v:Hv)=>zvf u v∧atI [V.str "mute",V.str "steal",V.str ("gain " ++ n),V.str ("be " ++ (toString (i:Int):Str)),V.str ("per " ++ J o.words),V.str ("less " ++ (toString (i:Int):Str))] r=some (.str (J (u::v.words))):=by
 obtain⟨v,hv,hm⟩:=zui (xs:=[V.str "mute",V.str "steal",V.str ("gain " ++ n),V.str ("be " ++ (toString (i:Int):Str)),V.str ("per " ++ J o.words),V.str ("less " ++ (toString (i:Int):Str))]) r0 r1;rw[hv];simp only[yda,ycb,or_false] at hm
 rcases hm with e|e|e|e|e|e<;>rw[e]
 ·exact⟨"mute",.v .non,.mute,rfl⟩
 ·exact⟨"steal",.v .non,.steal,rfl⟩
 ·exact⟨"gain",.v (.name n),.gain hn,by rw[js (a:="gain") (by decide +kernel)];rfl⟩
 ·exact⟨"be",.v (.num i),.be hi,by rw[js (a:="be") (by decide +kernel)];rfl⟩
 ·exact⟨"per",.w o,.per ho,by
   rw[show ("per ":Str) = "per" ++ " " by decide +kernel];exact congrArg (λx=>some (V.str x)) (jc (a:=["per"]) (b:=o.words) (by simp) o.zve)⟩
 ·exact⟨"less",.v (.num i),.less hi,by rw[js (a:="less") (by decide +kernel)];rfl⟩
theorem zfeb {ss:List Str}{r:Int}{n:Nat}(hn:ss.length=n)(r0:0≤r)(r1:r<(n:Int)):∃u,atI (ss.map V.str) r=some (.str u)∧u∈ss:=by
 obtain⟨v,hv,hm⟩:=zui (xs:=ss.map V.str) r0 (by rw[yaa,hn];exact r1);obtain⟨u,hu,rfl⟩:=ykb.mp hm;exact⟨u,hv,hu⟩
theorem zkxb {r:Int}(r0:0≤r)(r1:r<2):Ex2 λ(w:Str) (v:Wv)=>w∈turns "leave" ∧ TurnOk w v∧atI [V.str "none",V.str "here"] r=some (.str (J (w::v.words))):=by
 obtain⟨v,hv,hm⟩:=zui (xs:=[V.str "none",V.str "here"]) r0 r1;rw[hv];simp only[yda,ycb,or_false] at hm
 rcases hm with e|e<;>rw[e]
 ·exact⟨"none",.non,by decide +kernel,.none,rfl⟩
 ·exact⟨"here",.non,by decide +kernel,.here,rfl⟩
theorem zjxb {i:Nat}(hi:i<1000){r:Int}(r0:0≤r)(r1:r<4):Ex2 λ(w:Str) (v:Wv)=>w∈turns "hurt" ∧ TurnOk w v∧atI [V.str ("less " ++ (toString (i:Int):Str)),V.str "here",V.str "more 0",V.str "none"] r=some (.str (J (w::v.words))):=by
 obtain⟨v,hv,hm⟩:=zui (xs:=[V.str ("less " ++ (toString (i:Int):Str)),V.str "here",V.str "more 0",V.str "none"]) r0 r1;rw[hv];simp only[yda,ycb,or_false] at hm
 rcases hm with e|e|e|e<;>rw[e]
 ·exact⟨"less",.num i,by decide +kernel,.less hi,by rw[js (a:="less") (by decide +kernel)];rfl⟩
 ·exact⟨"here",.non,by decide +kernel,.here,rfl⟩
 ·exact⟨"more",.num 0,by decide +kernel,.more (by decide),by rw[show ("more 0":Str)=J ["more",(toString ((0:Nat):Int):Str)] by decide +kernel];rfl⟩
 ·exact⟨"none",.non,by decide +kernel,.none,rfl⟩
theorem zixb {i:Nat}(hi:i<1000){r:Int}(r0:0≤r)(r1:r<4):Ex2 λ(w:Str) (v:Wv)=>(∀kd∈zje,w∈turns kd)∧TurnOk w v∧atI [V.str "as lose",V.str "as score",V.str ("less " ++ (toString (i:Int):Str)),V.str "none"] r=some (.str (J (w::v.words))):=by
 obtain⟨v,hv,hm⟩:=zui (xs:=[V.str "as lose",V.str "as score",V.str ("less " ++ (toString (i:Int):Str)),V.str "none"]) r0 r1;rw[hv];simp only[yda,ycb,or_false] at hm
 rcases hm with e|e|e|e<;>rw[e]
 ·exact⟨"as",.name "lose",by decide +kernel,.as (by decide +kernel),by rw[show ("as lose":Str)=J ["as","lose"] by decide +kernel];rfl⟩
 ·exact⟨"as",.name "score",by decide +kernel,.as (by decide +kernel),by rw[show ("as score":Str)=J ["as","score"] by decide +kernel];rfl⟩
 ·exact⟨"less",.num i,by decide +kernel,.less hi,by rw[js (a:="less") (by decide +kernel)];rfl⟩
 ·exact⟨"none",.non,by decide +kernel,.none,rfl⟩
theorem zznb {ws:List Str}(h:∀u∈ws,zur u)(hl:ws.length≤50):(J ws).length≤450:=by
 have a:=text_len (ws:=ws) (λu hu=>(h u hu).1);show (yea " " ws).length≤450
 omega
theorem zowb {k:Str}{v:Wv}(h:zql k v):(J (k::v.words)).length≤450:=zznb (λu hu=>(yda.mp hu).elim (λe=>by rw[e];exact ztn (l:=zqa) (by decide +kernel) h.kind) (h.words u)) (by have:=ztt v;rw[yia];omega)
theorem zvdb {k:Str}{v:Wv}(h:TurnOk k v):(J (k::v.words)).length≤450:=zznb (λu hu=>(yda.mp hu).elim (λe=>by rw[e];exact h.word) (h.words u)) (by have:=ztt v;rw[yia];omega)
theorem zosb {k:Str}{v:Hv}(h:zvf k v):(J (k::v.words)).length≤450:=zznb (λu hu=>(yda.mp hu).elim (λe=>by rw[e];exact ztn (l:=changes) (by decide +kernel) h.word) (h.words u)) (by have:=zjpb h;rw[yia];omega)
theorem zxob {y:Wh}(h:plain y):(J y.words).length≤450:=ypa (zyt h.1 h.2) (by decide)
theorem zmob {d:Deed}(h:d.ok):(J d.words).length≤450:=zznb (Deed.zlg h) (by have:=zpt h;omega)
theorem zkgb {y:Wh}(ok:y.ok)(hs:y.size≤9):(y.words.map (·.length)).sum+y.words.length*(" ":Str).length≤16777216:=by
 have b:=zit hs;have c:=zun (l:=y.words.map (·.length)) (k:=8) (λx hx=>by
  obtain⟨u,hu,rfl⟩:=ykb.mp hx;exact (Wh.zqy ok u hu).2.2)
 rw[yaa] at c;have e:(" ":Str).length=1:=rfl;rw[e];omega
def zwqb (K:yba):Sp:=λvs H Q _=>Ex4 λp nl (ns:List Str) (k:Int)=>vs=[.ref p,.ref nl]∧Tk K H p k∧k≤50000∧Nm H nl ns∧∀(r:Rule) (k':Int) H',But p H H'->Tk K H' p k'->k'≤k+60->r.ok->Q (.str (zdd r)) H'
theorem zbcb (T:Tx K mg):FnOk P w K mg base CX0 9 T.zjg.f T.zjg.d zgp (zwqb K):=by
 refine T.zjg.ok zae ?_;rintro f c A o s H vs Q E hr ⟨p,nl,ns,k,rfl,T0,hk,N0,q⟩ X;refine⟨_,  (zca (zta (i:=2) zae.nd rfl (.inl rfl) (zka (zoa T).up hr rfl T.zfa.m T.zfa.F.kp (zua T) .nil zib (zaa (pv 0) (zaa zga zba))))
  (zca (zta (i:=3) zae.nd rfl (.inl rfl) (zog yta yhb yib zof zea (zaa (zlb zuf (zka (zrv T 5) hr rfl T.zmb.m T.zmb.F.kp (zoj T) .nil zib (zaa (pv 0) (zaa (pv 1) (zaa zga zba)))) zga (λ_ _=>rfl)) zba)))
  (zca (zta (i:=4) zae.nd rfl (.inl rfl) (zog yta yhb yib zof zea (zaa (zlb zuf (zka (zrv T 5) hr rfl T.zmb.m T.zmb.F.kp (zoj T) .nil zib (zaa (pv 0) (zaa (pv 1) (zaa zga zba)))) zga (λ_ _=>rfl)) zba)))
  (zca (zta (i:=5) zae.nd rfl (.inl rfl) (zrc zpf rfl T.zrp yph (zaa (zka (zoa T).up hr rfl T.zfa.m T.zfa.F.kp (zua T) .nil zib (zaa (pv 0) (zaa zga zba))) zba)))
  (zca (zta (i:=6) zae.nd rfl (.inl rfl) (zob (zaa (zcb zsa zea (pv 5)) (zaa (zcb zsa zea (pv 5)) (zaa (zcb zsa zea (zlb zbb (pv 1) zga (λ_ _=>rfl))) (zaa zea (zaa (zcb zsa zea (pv 5)) (zaa (zcb zsa zea (zlb zbb (pv 1) zga (λ_ _=>rfl))) zba))))))))
  (zca (zta (i:=7) zae.nd rfl (.inl rfl) (zcb zsa (zcb zsa (zcb zsa (zlb zbb (zob (zaa zea (zaa zea zba))) (zka (zoa T).up hr rfl T.zfa.m T.zfa.F.kp (zua T) .nil zib (zaa (pv 0) (zaa zga zba))) (λ_ _=>rfl)) (zlb zbb (pv 6) (zka (zoa T).up hr rfl T.zfa.m T.zfa.F.kp (zua T) .nil zib (zaa (pv 0) (zaa zga zba))) (λ_ _=>rfl))) zea) (pv 3)))
  (zca (zqb (zma zed (pv 2) zga (zxa _))
   (zca (zta (i:=8) zae.nd rfl (.inl rfl) (zob (zaa zea (zaa zea (zaa (zcb zsa zea (zlb zbb (pv 1) zga (λ_ _=>rfl))) (zaa (zcb zsa zea (pv 5)) (zaa (zcb zsa zea (pv 4)) (zaa (zcb zsa zea (pv 5)) zba))))))))
   (zia (zpa (zcb zsa (zcb zsa (zcb zsa zea (zlb zbb (pv 8) (zka (zoa T).up hr rfl T.zfa.m T.zfa.F.kp (zua T) .nil zib (zaa (pv 0) (zaa zga zba))) (λ_ _=>rfl))) zea) (pv 3)))))
   zra)
  (zca (zqb (zma zed (pv 2) zga (zxa _))
   (zia (zpa (zcb zsa (zcb zsa (zcb zsa (zcb zsa (zcb zsa zea (zlb zbb (zob (zaa zea (zaa zea (zaa zea (zaa zea zba))))) (zka (zoa T).up hr rfl T.zfa.m T.zfa.F.kp (zua T) .nil zib (zaa (pv 0) (zaa zga zba))) (λ_ _=>rfl))) zea) (pv 4)) zea) (pv 7))))
   zra)
  (zca (zqb (zma zed (pv 2) zga (zxa _))
   (zia (zpa (zcb zsa (zcb zsa (zcb zsa zea (pv 5)) zea) (pv 7))))
   zra)
  (zca (zqb (zma zed (pv 2) zga (zxa _))
   (zia (zpa (zcb zsa (zcb zsa (zcb zsa zea (pv 3)) zea) (zlb zbb (zob (zaa zea (zaa zea zba))) (zka (zoa T).up hr rfl T.zfa.m T.zfa.F.kp (zua T) .nil zib (zaa (pv 0) (zaa zga zba))) (λ_ _=>rfl)))))
   zra)
  (zca (zqb (zma zed (pv 2) zga (zxa _))
   (zia (zpa (zcb zsa (zcb zsa (zcb zsa zea (pv 3)) zea) (zlb zbb (zob (zaa (zcb zsa zea (pv 5)) (zaa zea (zaa zea (zaa zea zba))))) (zka (zoa T).up hr rfl T.zfa.m T.zfa.F.kp (zua T) .nil zib (zaa (pv 0) (zaa zga zba))) (λ_ _=>rfl)))))
   zra)
  (zca (zta (i:=9) zae.nd rfl (.inl rfl) (zlb zbb (zob (zaa zea (zaa zea (zaa (zcb zsa zea (pv 5)) (zaa zea zba))))) (zka (zoa T).up hr rfl T.zfa.m T.zfa.F.kp (zua T) .nil zib (zaa (pv 0) (zaa zga zba))) (λ_ _=>rfl)))
  (zia (zpa (zcb zsa (zcb zsa (zcb zsa (zcb zsa (zcb zsa zea (zlb zbb (zob (zaa zea (zaa zea (zaa zea zba)))) (zka (zoa T).up hr rfl T.zfa.m T.zfa.F.kp (zua T) .nil zib (zaa (pv 0) (zaa zga zba))) (λ_ _=>rfl))) zea) (pv 3)) zea) (pv 9)))))))))))))))),?_⟩
 refine⟨_,rfl,p,k,6,rfl,T0,by omega,by decide,λway H1 w0 w1 B1 T1=>?_⟩;have N1:=N0.but T0 B1;refine⟨rfl,_,rfl,_,rfl,p,nl,ns,_,5,rfl,T1,by omega,N1,by decide,by decide,by decide,λt l y k2 H2 B2 T2 hk2 oy hy et el=>?_⟩;refine⟨t,_,_,_,rfl,rfl,SqT.of et,rfl," ",l,y.words,rfl,rfl,SqL.of el,zkgb oy (by omega),?_⟩;have N2:=N1.but T1 B2;refine⟨rfl,_,rfl,_,rfl,p,nl,ns,_,3,rfl,T2,by omega,N2,by decide,by decide,by decide,λt3 l3 o k3 H3 B3 T3 hk3 oo ho et3 el3=>?_⟩;refine⟨t3,_,_,_,rfl,rfl,SqT.of et3,rfl," ",l3,o.words,rfl,rfl,SqL.of el3,zkgb oo (by omega),?_⟩;have N3:=N2.but T2 B3;refine⟨_,rfl,p,_,1000,rfl,T3,by omega,by decide,λnn H4 n0 n1 B4 T4=>?_⟩;have N4:=N3.but T3 B4;obtain⟨i,rfl⟩:=yrc n0;have hi:i<1000:=by omega
 refine⟨_,rfl,(by rw[yod];exact zdi i hi),?_⟩;have py:plain y:=⟨oy,by omega⟩;have po:plain o:=⟨oo,by omega⟩;have B04:=B1.trans (B2.trans (B3.trans B4));obtain⟨a0,a1,a2,a3,rfl⟩:Ex4 λa0 a1 a2 a3=>ns=[a0,a1,a2,a3]:=by
  match ns,N0.len with
  | [a0,a1,a2,a3],_=>exact⟨a0,a1,a2,a3,rfl⟩
 have o0:=N0.ok a0 (by simp);have o1:=N0.ok a1 (by simp);have o2:=N0.ok a2 (by simp);have ln:=ztk i hi;have lw:=zxob py;have lo:=zxob po;generalize hnum:(toString (i:Int):Str)=num at *;have c1:("lose ":Str).length=5:=by decide +kernel
 have c2:("hurt ":Str).length=5:=by decide +kernel
 have c3:("gain ":Str).length=5:=by decide +kernel
 have c4:("draw ":Str).length=5:=by decide +kernel
 have c5:("lack ":Str).length=5:=by decide +kernel
 have c6:(" ":Str).length=1:=by decide +kernel
 refine⟨_,rfl,_,_,rfl,rfl,zrb (by omega),_,rfl,_,_,rfl,rfl,zrb (by omega),_,rfl,nl,_,_,_,rfl,rfl,SqL.of N4.at_,zjc (k:=0) (ws:=[a0,a1,a2,a3]) rfl,_,_,rfl,rfl,zrb (by have:=o0.2.1;omega),_,rfl,_,_,rfl,rfl,zrb (by omega),_,rfl,nl,_,_,_,rfl,rfl,SqL.of N4.at_,zjc (k:=1) (ws:=[a0,a1,a2,a3]) rfl,_,_,rfl,rfl,zrb (by have:=o1.2.1;omega),sz6,λsl hsl=>?_⟩;have psl:=T4.ne hsl;refine laid hsl λH5 S45 esl=>?_;have T5:=T4.same S45;have N5:=N4.same S45;refine⟨sz2,λel hel=>?_⟩;have pel:=T5.ne hel;refine laid hel λH6 S56 eel=>?_;have T6:=T5.same S56;have N6:=N5.same S56;have B06:=B04.of_same (S45.trans S56);refine⟨_,rfl,p,_,2,rfl,T6,by omega,by decide,λr7 H7 r70 r71 B7 T7=>?_⟩;obtain⟨e,each,hat7,hee,hme,hle⟩:=zsrb r70 r71;have N7:=N6.but T6 B7;refine⟨el,_,_,_,rfl,rfl,SqL.of (B7 _ _ (ysc pel) eel),hat7,?_⟩;refine⟨_,rfl,_,rfl,p,_,6,rfl,T7,by omega,by decide,λr8 H8 r80 r81 B8 T8=>?_⟩;obtain⟨kd,v,hva,hat8⟩:=zprb (i:=i) hi o0 o1 r80 r81;rw[hnum] at hat8;have N8:=N7.but T7 B8;have lk:=zowb hva;have esl8:=B8 _ _ (ysc psl) (B7 _ _ (ysc psl) (S56 _ _ esl));refine⟨sl,_,_,_,rfl,rfl,SqL.of esl8,hat8,_,_,rfl,rfl,zrb (by omega),_,_,rfl,rfl,zrb (by rw[len_app];omega),_,rfl,_,_,rfl,rfl,zrb (by rw[len_app,len_app];show _+(J y.words).length≤_;omega),?_⟩;have ed:e++J (kd::v.words) ++ " " ++ yea " " y.words=J (Deed.words ⟨each,kd,v,y⟩):=zvtb hee;rw[ed];have dk:Deed.ok ⟨each,kd,v,y⟩:=⟨hme,hva,py⟩;generalize (⟨each,kd,v,y⟩:Deed)=d at *;have ld:=zmob dk;have B08:=B06.trans (B7.trans B8);clear esl8 hat8 hat7 esl eel;refine⟨_,rfl,rfl,_,rfl,?_⟩;refine ite2 (λ_=>?_) (λ_=>?_)
 ·have d1:("be ":Str).length=3:=by decide +kernel
  have d2:("per ":Str).length=4:=by decide +kernel
  have d3:("less ":Str).length=5:=by decide +kernel
  have d4:("hold ":Str).length=5:=by decide +kernel
  refine⟨_,rfl,nl,_,_,_,rfl,rfl,SqL.of N8.at_,zjc (k:=2) (ws:=[a0,a1,a2,a3]) rfl,_,_,rfl,rfl,zrb (by have:=o2.2.1;omega),_,rfl,_,_,rfl,rfl,zrb (by omega),_,rfl,_,_,rfl,rfl,zrb (by show _+(J o.words).length≤_;omega),_,rfl,_,_,rfl,rfl,zrb (by omega),sz6,λhl hhl=>?_⟩;have phl:=T8.ne hhl;refine laid hhl λH9 S89 ehl=>?_;refine⟨_,rfl,_,rfl,p,_,6,rfl,T8.same S89,by omega,by decide,λr Ha ra0 ra1 Ba Ta=>?_⟩;obtain⟨u,hv,hok,hat⟩:=zrrb (i:=i) hi o2 po ra0 ra1;rw[hnum] at hat
  have lh:=zosb hok;refine⟨hl,_,_,_,rfl,rfl,SqL.of (Ba _ _ (ysc phl) ehl),hat,_,_,rfl,rfl,zrb (by omega),_,_,rfl,rfl,zrb (by rw[len_app];omega),_,rfl,_,_,rfl,rfl,zrb (by rw[len_app,len_app];show _+(J y.words).length≤_;omega),?_⟩;rw[show ("hold ":Str)++J (u::hv.words) ++ " " ++ yea " " y.words=zdd (.hold u hv y) from zutb];exact q _ _ Ha ((B08.of_same S89).trans Ba) Ta (by omega) ⟨hok,py⟩
 refine⟨_,rfl,rfl,_,rfl,?_⟩;have cd:(" do ":Str).length=4:=by decide +kernel
 refine ite2 (λ_=>?_) (λ_=>?_)
 ·have d1:("when ":Str).length=5:=by decide +kernel
  refine⟨sz4,λhl hhl=>?_⟩;have phl:=T8.ne hhl;refine laid hhl λH9 S89 ehl=>?_;refine⟨_,rfl,p,_,4,rfl,T8.same S89,by omega,by decide,λr Ha ra0 ra1 Ba Ta=>?_⟩;obtain⟨u,hat,hu⟩:=zfeb (ss:=["come","leave","score","gain"]) (n:=4) rfl ra0 ra1;have mu:u∈zxc:=(show ∀x∈(["come","leave","score","gain"]:List Str),x∈zxc by decide +kernel) u hu;have lu:=(ztn (l:=zxc) (by decide +kernel) mu).1.2.2;refine⟨hl,_,_,_,rfl,rfl,SqL.of (Ba _ _ (ysc phl) ehl),hat,_,_,rfl,rfl,zrb (by omega),_,_,rfl,rfl,zrb (by rw[len_app];omega),_,rfl,_,_,rfl,rfl,zrb (by rw[len_app,len_app];show _+(J o.words).length≤_;omega),_,_,rfl,rfl,zrb (by rw[len_app,len_app,len_app];show _+(J o.words).length+_≤_;omega),_,rfl,_,_,rfl,rfl,zrb (by rw[len_app,len_app,len_app,len_app];show _+(J o.words).length+_+_≤_;omega),?_⟩;rw[show ("when ":Str)++u ++ " " ++ yea " " o.words ++ " do " ++ J d.words=zdd (.wen u o d) from zttb];exact q _ _ Ha ((B08.of_same S89).trans Ba) Ta (by omega) ⟨mu,po,dk⟩
 refine⟨_,rfl,rfl,_,rfl,?_⟩;refine ite2 (λ_=>?_) (λ_=>?_)
 ·have d1:("may ":Str).length=4:=by decide +kernel
  refine⟨_,rfl,_,_,rfl,rfl,zrb (by omega),_,_,rfl,rfl,zrb (by rw[len_app];omega),_,rfl,_,_,rfl,rfl,zrb (by rw[len_app,len_app];omega),?_⟩;rw[← hnum,show ("may ":Str)++(toString (i:Int):Str) ++ " do " ++ J d.words=zdd (.may i d) from zxwb];exact q _ _ H8 B08 T8 (by omega) ⟨hi,dk⟩
 refine⟨_,rfl,rfl,_,rfl,?_⟩;refine ite2 (λ_=>?_) (λ_=>?_)
 ·have d1:("instead leave ":Str).length=14:=by decide +kernel
  refine⟨_,rfl,_,_,rfl,rfl,zrb (by show _+(J y.words).length≤_;omega),_,_,rfl,rfl,zrb (by rw[len_app];show _+(J y.words).length+_≤_;omega),sz2,λhl hhl=>?_⟩;have phl:=T8.ne hhl;refine laid hhl λH9 S89 ehl=>?_;refine⟨_,rfl,p,_,2,rfl,T8.same S89,by omega,by decide,λr Ha ra0 ra1 Ba Ta=>?_⟩;obtain⟨u,tv,mu,tok,hat⟩:=zkxb ra0 ra1;have lt:=zvdb tok;refine⟨hl,_,_,_,rfl,rfl,SqL.of (Ba _ _ (ysc phl) ehl),hat,_,_,rfl,rfl,zrb (by rw[len_app,len_app];show _+(J y.words).length+_+_≤_;omega),?_⟩;rw[show ("instead leave ":Str)++yea " " y.words ++ " do " ++ J (u::tv.words)=zdd (.instead "leave" y u tv) from zfjb (by decide +kernel)];exact q _ _ Ha ((B08.of_same S89).trans Ba) Ta (by omega) ⟨by decide +kernel,py,mu,tok⟩
 refine⟨_,rfl,rfl,_,rfl,?_⟩;have d3:("less ":Str).length=5:=by decide +kernel
 refine ite2 (λ_=>?_) (λ_=>?_)
 ·have d1:("instead hurt ":Str).length=13:=by decide +kernel
  refine⟨_,rfl,_,_,rfl,rfl,zrb (by show _+(J y.words).length≤_;omega),_,_,rfl,rfl,zrb (by rw[len_app];show _+(J y.words).length+_≤_;omega),_,rfl,_,_,rfl,rfl,zrb (by omega),sz4,λhl hhl=>?_⟩;have phl:=T8.ne hhl;refine laid hhl λH9 S89 ehl=>?_;refine⟨_,rfl,p,_,4,rfl,T8.same S89,by omega,by decide,λr Ha ra0 ra1 Ba Ta=>?_⟩;obtain⟨u,tv,mu,tok,hat⟩:=zjxb (i:=i) hi ra0 ra1;rw[hnum] at hat
  have lt:=zvdb tok;refine⟨hl,_,_,_,rfl,rfl,SqL.of (Ba _ _ (ysc phl) ehl),hat,_,_,rfl,rfl,zrb (by rw[len_app,len_app];show _+(J y.words).length+_+_≤_;omega),?_⟩;rw[show ("instead hurt ":Str)++yea " " y.words ++ " do " ++ J (u::tv.words)=zdd (.instead "hurt" y u tv) from zfjb (by decide +kernel)];exact q _ _ Ha ((B08.of_same S89).trans Ba) Ta (by omega) ⟨by decide +kernel,py,mu,tok⟩
 refine⟨_,rfl,_,_,rfl,rfl,zrb (by omega),sz4,λhl hhl=>?_⟩;have phl:=T8.ne hhl;refine laid hhl λH9 S89 ehl=>?_;refine⟨_,rfl,p,_,4,rfl,T8.same S89,by omega,by decide,λr Ha ra0 ra1 Ba Ta=>?_⟩;obtain⟨u,tv,mu,tok,hat⟩:=zixb (i:=i) hi ra0 ra1;rw[hnum] at hat
 have lt:=zvdb tok;refine⟨hl,_,_,_,rfl,rfl,SqL.of (Ba _ _ (ysc phl) ehl),hat,?_⟩;have B0a:=(B08.of_same S89).trans Ba;refine⟨sz3,λgl hgl=>?_⟩;have pgl:=Ta.ne hgl;refine laid hgl λHb Sab egl=>?_;refine⟨_,rfl,p,_,3,rfl,Ta.same Sab,by omega,by decide,λr2 Hc rc0 rc1 Bc Tc=>?_⟩;obtain⟨x,hat2,hx⟩:=zfeb (ss:=["lose","score","draw"]) (n:=3) rfl rc0 rc1;have d4:("instead ":Str).length=8:=by decide +kernel
 have mx:x∈zqa:=(show ∀x∈(["lose","score","draw"]:List Str),x∈zqa by decide +kernel) x hx;have lx:=(ztn (l:=zqa) (by decide +kernel) mx).1.2.2;refine⟨gl,_,_,_,rfl,rfl,SqL.of (Bc _ _ (ysc pgl) egl),hat2,_,_,rfl,rfl,zrb (by omega),_,_,rfl,rfl,zrb (by rw[len_app];omega),_,rfl,_,_,rfl,rfl,zrb (by rw[len_app,len_app];show _+(J y.words).length≤_;omega),_,_,rfl,rfl,zrb (by rw[len_app,len_app,len_app];show _+(J y.words).length+_≤_;omega),_,rfl,_,_,rfl,rfl,zrb (by rw[len_app,len_app,len_app,len_app];show _+(J y.words).length+_+_≤_;omega),?_⟩;rw[show ("instead ":Str)++x ++ " " ++ yea " " y.words ++ " do " ++ J (u::tv.words)=zdd (.instead x y u tv) from zfjb (by rw[show ("instead ":Str) = "instead" ++ " " by decide +kernel];rfl)];exact q _ _ Hc ((B0a.of_same Sab).trans Bc) Tc (by omega) ⟨mx,py,mu x hx,tok⟩
theorem zsnb {ns ms zs:List Str}(hs:ms.Sublist ns)(hl:ns.length=4)(hok:∀n∈ns,znd n)(hnd:ns.Nodup)(hp:zs.Perm ms)(so:yri zs=true):Marks zs where
 ok:=λm hm=>hok m (hs.subset (hp.mem_iff.mp hm))
 nd:=hp.nodup_iff.mpr (hs.nodup hnd)
 so:=so
 le:=by
  have a:=hs.length_le;have b:=hp.length_eq;omega
theorem ztnb (zs:List Str):atI [V.str "-",V.str (yea "," zs)] (if (!PyData.eqv (.list (zs.map .str)) (.list []))=true then 1 else 0)=some (.str (zce zs)):=by
 cases zs with
 | nil=>simp[ylh,yhg];rfl
 | cons x r=>simp[ylh,yhg];rfl
structure C4 (c:Crd):Prop where
 name:znd c.name
 cost:c.cost<1000
 force:c.force<1000
 marks:Marks c.marks
 rules:∀r∈c.rules,r.ok
 ml:c.marks.length≤4
theorem zqrb {ns:List Str}{r:Int}(hl:ns.length=4)(hok:∀n∈ns,znd n)(h0:0≤r)(h1:r<4):∃n:Str,atI (ns.map V.str) r=some (.str n)∧znd n:=by
 obtain⟨u,h,m⟩:=zfeb (ss:=ns) (n:=4) hl h0 h1;exact⟨u,h,hok u m⟩
def zxqb (K:yba):Sp:=λvs H Q _=>Ex5 λp nl (ns:List Str) (k:Int) (n:Nat)=>vs=[.ref p,.ref nl,.int (n:Nat)]∧n≤4∧Tk K H p k∧k≤20000∧Nm H nl ns∧∀(c:Crd) (k':Int) H',But p H H'->Tk K H' p k'->k'≤k+400->C4 c->c.rules.length=n->Q (.str c.text) H'
theorem zus (T:Tx K mg):FnOk P w K mg base CX0 10 T.zte.f T.zte.d zkp (zxqb K):=by
 refine T.zte.ok znm ?_;rintro f c A o s H vs Q E hr ⟨p,nl,ns,k,n,rfl,hn4,T0,hk,N0,q⟩ X;refine⟨_,  (zca (zta (i:=3) znm.nd rfl (.inl rfl) (zza zdm rfl T.zin boot_sorted (zaa (zvm (own:=["_law_k"]) (cap:=["_law_names_here","_law_state"]) rfl (zvd.chk rfl rfl) (.cons (j:=1) rfl (.inl rfl) (.inl rfl) (.cons (j:=0) rfl (.inl rfl) (.inl rfl) .nil)) (zeq rfl T.zeo (zaa zga zba)) (λ_ _ _ _=>(zwd (i:=0) (show ygg (["_law_k","_law_names_here","_law_state"]:List Str) by decide +kernel) rfl (.inl rfl))) (λ_ _ _ _=>zlrb (zma zed (zka (zoa T).up hr rfl T.zfa.m T.zfa.F.kp (zua T) .nil zib (zaa (pv 2) (zaa zga zba))) zga (zxa _))) (λ_ _ _ _=>by exact (zlb (zaob K) (pv 1) (pv 0) (λ_ _=>rfl)))) zba)))
  (zca (zta (i:=4) znm.nd rfl (.inl rfl) (zob (zaa (zlb zbb (pv 1) (zka (zoa T).up hr rfl T.zfa.m T.zfa.F.kp (zua T) .nil zib (zaa (pv 0) (zaa zga zba))) (λ_ _=>rfl)) (zaa (zrc zpf rfl T.zrp yph (zaa (zka (zoa T).up hr rfl T.zfa.m T.zfa.F.kp (zua T) .nil zib (zaa (pv 0) (zaa zga zba))) zba)) (zaa (zrc zpf rfl T.zrp yph (zaa (zka (zoa T).up hr rfl T.zfa.m T.zfa.F.kp (zua T) .nil zib (zaa (pv 0) (zaa zga zba))) zba)) zba)))))
  (zca (zsk (zog yyd yaf ybf zjq (pv 4) (zaa (zlb zbb (zob (zaa zea (zaa (zog yta yhb yib zof zea (zaa (pv 3) zba)) zba))) (zrc zwcb rfl T.zqhb boot_int (zaa (zkd (zepb hr.units) (pv 3) (zob zba) (zxa _)) zba)) (λ_ _=>rfl)) zba)))
  (zia (zpa (zog yta yhb yib zof zea (zaa (zcb zze (zob (zaa (zog yta yhb yib zof zea (zaa (pv 4) zba)) zba)) (zvm (own:=["_law_k"]) (cap:=["_law_state","_law_names_here"]) rfl (zvd.chk rfl rfl) (.cons (j:=0) rfl (.inl rfl) (.inl rfl) (.cons (j:=1) rfl (.inl rfl) (.inl rfl) .nil)) (zeq rfl T.zeo (zaa (pv 2) zba)) (λ_ _ _ _=>(zwd (i:=0) (show ygg (["_law_k","_law_state","_law_names_here"]:List Str) by decide +kernel) rfl (.inl rfl))) (λ_ _ _ _=>zvl) (λ_ _ _ _=>by exact (zka (zbcb T) hr rfl T.zjg.m T.zjg.F.kp (zifb T) .nil zib (zaa (pv 1) (zaa (pv 2) zba)))))) zba))))))),?_⟩
 refine⟨4,rfl,by decide,by decide,?_⟩;refine zrr (λi ys H'=>Ex2 λ(ms:List Str) (k':Int)=>ys=ms.map V.str∧ms.Sublist (ns.take i)∧But p H H'∧Tk K H' p k'∧k'≤k+i∧i≤4) ⟨[],k,rfl,List.nil_sublist _,But.refl p H,T0,by omega,by omega⟩ ?_ ?_ ?_
 ·rintro i ys H' ⟨ms,k',rfl,hs,_,_,_,hi⟩;rw[yaa];have:=hs.length_le;rw[ypb] at this;exact small (by omega)
 ·rintro i ys H' hi ⟨ms,k',rfl,hs,B',T',hk',_⟩;have hi4:i<4:=hi;refine⟨rfl,_,rfl,p,k',2,rfl,T',by omega,by decide,λr H5 a5 b5 B5 T5=>⟨rfl,_,rfl,?_⟩⟩;have ei:ns[i]?=some (ns[i]'(by rw[N0.len];exact hi4)):=yoa _;have N5:=N0.but T0 (B'.trans B5);refine ite2 (λ_=>?_) (λ_=>?_)
  ·refine⟨_,rfl,_,rfl,nl,_,_,V.str (ns[i]'(by rw[N0.len];exact hi4)),rfl,rfl,SqL.of N5.at_,?_,ms++[ns[i]'(by rw[N0.len];exact hi4)],k'+1,?_,?_,B'.trans B5,T5,by omega,by omega⟩
   ·rw[Int.zero_add];exact zjc ei
   ·rw[ydb];rfl
   ·rw[ywb,ei];exact hs.append (ybk _)
  ·refine⟨ms,k'+1,rfl,?_,B'.trans B5,T5,by omega,by omega⟩;rw[ywb,ei];exact hs.trans (yck _ _)
 ·rintro ys H1 ⟨ms,k1,rfl,hs,B1,T1,hk1,_⟩ b hb;rw[yxc (by rw[N0.len];exact yxa 4)] at hs;have N1:=N0.but T0 B1;have Sb:=zja hb (.lst (ms.map V.str));have ml:=hs.length_le;refine⟨b,ms,rfl,SqL.of zda,(by rw[N0.len] at ml;omega),λso zs hso pz sz=>?_⟩;have MK:=zsnb hs N0.len N0.ok N0.nd pz sz;refine laid hso λH2 Sso1 e1=>?_;have Sso:=Sb.trans Sso1;have T2:=T1.same Sso;have N2:=N1.same Sso;have B2:=B1.of_same Sso;have nso:so≠p:=ysc ((T1.same Sb).ne hso);refine⟨_,rfl,_,rfl,p,_,4,rfl,T2,by omega,by decide,λr5 H5 a5 b5 B5 T5=>?_⟩;have N5:=N2.but T2 B5;obtain⟨nm,hnm,nok⟩:=zqrb N0.len N0.ok a5 b5;refine⟨nl,_,_,_,rfl,rfl,SqL.of N5.at_,hnm,?_⟩;refine⟨_,rfl,p,_,1000,rfl,T5,by omega,by decide,λx6 H6 a6 b6 B6 T6=>?_⟩;obtain⟨co,rfl⟩:=yrc a6;have hco:co<1000:=by omega
  refine⟨_,rfl,(by rw[yod];exact zdi co hco),?_⟩;refine⟨_,rfl,p,_,9,rfl,T6,by omega,by decide,λx7 H7 a7 b7 B7 T7=>?_⟩;obtain⟨fo,rfl⟩:=yrc a7;have hfo:fo<1000:=by omega
  refine⟨_,rfl,(by rw[yod];exact zdi fo hfo),?_⟩;refine⟨sz3,λhl hhl=>?_⟩;have N7:=(N5.but T5 B6).but T6 B7;have s7:=B7 _ _ nso (B6 _ _ nso (B5 _ _ nso e1));have B07:=B2.trans (B5.trans (B6.trans B7));have phl:=T7.ne hhl;have nhs:so≠hl:=zva s7 hhl;have nhn:nl≠hl:=zva N7.at_ hhl;refine laid hhl λH8 S78 e8=>?_;have T8:=T7.same S78;have N8:=N7.same S78;have s8:=S78 _ _ s7;have B08:=B07.of_same S78;refine⟨_,rfl,.inl ⟨rfl,_,SqL.of e8⟩,?_⟩;refine⟨rfl,_,rfl,",",so,zs,rfl,rfl,SqL.of s8,zxi (by decide) (by have:=MK.le;omega) (λu hu=>ypa (MK.ok u hu).2.1 (by decide)),sz2,λl9 hl9=>?_⟩;refine laid hl9 λH9 S9 e9=>?_;refine⟨_,rfl,sz0,λl10 hl10=>?_⟩;refine laid hl10 λH10 S10 e10=>?_;refine⟨.list (zs.map .str),.list [],.lst (SqL.of (S10 _ _ (S9 _ _ s8))) (zqk _),.lst (SqL.of e10) .nil,zkm MK.ok,(by unfold yfd;rw[ybe,ynh,yij,yui];rfl),.inr ⟨_,rfl,?_⟩⟩;have S810:=S9.trans S10;have e8':=S810 _ _ e8;refine⟨l9,_,_,_,rfl,rfl,SqL.of (S10 _ _ e9),ztnb zs,hl,_,_,rfl,rfl,e8',zwp (by show 3≤1000;decide),?_⟩;have T10:=T8.same S810;have N10:=N8.same S810;have B010:=B08.of_same S810;have T11:=T10.other (vs:=[V.str nm,V.str (toString (co:Int)),V.str (toString (fo:Int)),V.str (zce zs)]) e8' phl;have N11:Nm (upd H10 hl (.lst [.str nm,.str (toString (co:Int)),.str (toString (fo:Int)),.str (zce zs)])) nl ns:=⟨by rw[zfb nhn];exact N10.at_,N10.len,N10.ok,N10.nd⟩;have B011:But p H (upd H10 hl (.lst [.str nm,.str (toString (co:Int)),.str (toString (fo:Int)),.str (zce zs)])):=λb o nb e=>by
   rw[zfb]
   ·exact B010 b o nb e
   ·rintro rfl;have z:=B07 b o nb e;rw[hhl] at z;cases z
  have e11:upd H10 hl (.lst [.str nm,.str (toString (co:Int)),.str (toString (fo:Int)),.str (zce zs)]) hl=some (.lst ((Crd.mk nm co fo zs []).head.map V.str)):=zda;refine Exists.elim (⟨_,rfl⟩:∃H11,H11=upd H10 hl (.lst [.str nm,.str (toString (co:Int)),.str (toString (fo:Int)),.str (zce zs)])) λH11 eH=>?_;rw[← eH] at T11 N11 B011 e11;have cok0:(Crd.mk nm co fo zs []).ok:=⟨nok,hco,hfo,MK,by simp,by show 0≤3;decide⟩;have hls:=Crd.znn cok0;dsimp only[ynf,yzf];rw[← eH];clear eH e8' e8 e9 e10;refine⟨rfl,rfl,_,rfl," ",hl,(Crd.mk nm co fo zs []).head,rfl,rfl,SqL.of e11,zxi (by decide) (by show 4≤60;decide) (zii (zii (zii (zii zfcb (ypa (zkl MK).2 (by decide))) (zli (zjl hfo))) (zli (zjl hco))) (zli (ziq nok))),sz1,λl12 hl12=>?_⟩;have p12:=T11.ne hl12;refine laid hl12 λH12 S12 e12=>?_;have T12:=T11.same S12;have N12:=N11.same S12;have B012:=B011.of_same S12;refine⟨_,rfl,(n:Int),rfl,by omega,by omega,?_⟩;refine zrr (λi ys H'=>Ex2 λ(rs:List Rule) (k':Int)=>ys=(rs.map zdd).map V.str∧rs.length=i∧(∀r∈rs,r.ok)∧But p H12 H'∧Tk K H' p k'∧k'≤k+50+60*(i:Int)∧i≤4) ⟨[],_,rfl,rfl,by simp,But.refl p H12,T12,by omega,by omega⟩ ?_ ?_ ?_
  ·rintro i ys H' ⟨rs,k',rfl,hl',_,_,_,_,hi⟩;rw[yaa,yaa];exact small (by omega)
  ·rintro i ys H' hi ⟨rs,k',rfl,hl',ok',B',T',hk',_⟩;have hi4:i<n:=hi;refine⟨rfl,_,rfl,_,rfl,p,nl,ns,k',rfl,T',by omega,N12.but T12 B',λr k2 H2' B2' T2' hk2 rok=>⟨rs++[r],k2,?_,?_,?_,B'.trans B2',T2',?_,?_⟩⟩
   ·rw[ydb,ydb];rfl
   ·rw[yha,hl'];rfl
   ·intro r' hr'
    rcases yna.mp hr' with z|z
    ·exact ok' r' z
    ·rw[yca.mp z];exact rok
   ·omega
   ·omega
  ·rintro ys H13 ⟨rs,k',rfl,hl',ok',B13,T13,hk',_⟩ b13 hb13;have hl'':rs.length=n:=hl';have e13:=B13 _ _ (ysc p12) e12;refine laid hb13 λH14 S14 e14=>?_;refine⟨l12,b13,_,_,rfl,rfl,S14 _ _ e13,e14,small (by rw[yaa,yaa];show 1+rs.length≤1000;omega),λc15 hc15=>?_⟩;refine laid hc15 λH15 S15 e15=>?_;refine⟨" / ",c15,yea " " (Crd.mk nm co fo zs []).head::rs.map zdd,rfl,rfl,SqL.of (by rw[e15];rfl),zxi (by decide) (by rw[yia,yaa];omega) (zii (λu hu=>?_) (ypa hls (by decide))),?_⟩
   ·obtain⟨r,hr',rfl⟩:=ykb.mp hu;exact ypa (zbq (ok' r hr')) (by decide)
   ·have zl:zs.length≤4:=by
     have z1:=pz.length_eq;rw[N0.len] at ml;omega
    exact q (Crd.mk nm co fo zs rs) _ H15 (((B012.trans B13).of_same S14).of_same S15) ((T13.same S14).same S15) (by omega) ⟨nok,hco,hfo,MK,ok',zl⟩ hl''
def zyq (u:Str):Prop:=∀c∈u.cps.toList,c<256∧c≠44
theorem zws {n:Str}(h:znd n):zyq n:=λc hc=>by have:=h.2.2 c hc;omega
theorem zno {i:Nat}(h:i<1000):zyq (toString (i:Int):Str):=λc hc=>by have:=zpv i h c hc;omega
def zcwb (u:Str):Bool:=u.cps.toList.all λc=>decide (c<256)&&decide (c≠44)
theorem zjk {u:Str}(h:zcwb u=true):zyq u:=λc hc=>by
 have z:=yyb.mp h c hc;rw[yub] at z;exact⟨of_decide_eq_true z.1,of_decide_eq_true z.2⟩
theorem znq {l:List Str}(h:l.all zcwb=true){u:Str}(hu:u∈l):zyq u:=zjk (yyb.mp h u hu)
theorem _root_.Wm.Wh.words_C {w:Wh}(h:w.ok):∀u∈w.words,zyq u:=by
 induction w with
 | all=>intro u hu;exact znq (l:=["all"]) (by decide +kernel) hu
 | self=>intro u hu;exact znq (l:=["self"]) (by decide +kernel) hu
 | mine=>intro u hu;exact znq (l:=["mine"]) (by decide +kernel) hu
 | mark n =>
  intro u hu
  rcases yda.mp hu with rfl|hu
  ·exact zjk (by decide +kernel)
  ·rw[yca.mp hu];exact zws h
 | force i =>
  intro u hu
  rcases yda.mp hu with rfl|hu
  ·exact zjk (by decide +kernel)
  ·rw[yca.mp hu];exact zno h
 | not a ih =>
  intro u hu
  rcases yda.mp hu with rfl|hu
  ·exact zjk (by decide +kernel)
  ·exact ih h u hu
 | both a b ia ib =>
  intro u hu
  rcases yda.mp hu with rfl|hu
  ·exact zjk (by decide +kernel)
  ·rcases yna.mp hu with hu|hu
   ·exact ia h.1 u hu
   ·exact ib h.2 u hu
 | any a b ia ib =>
  intro u hu
  rcases yda.mp hu with rfl|hu
  ·exact zjk (by decide +kernel)
  ·rcases yna.mp hu with hu|hu
   ·exact ia h.1 u hu
   ·exact ib h.2 u hu
theorem _root_.Wm.zql.words_C {k:Str}{v:Wv}(h:zql k v):∀u∈v.words,zyq u:=by
 intro u hu;cases h with
 | leave=>cases hu
 | gain h=>rw[yca.mp hu];exact zws h
 | lack h=>rw[yca.mp hu];exact zws h
 | hurt h=>rw[yca.mp hu];exact zno h
 | lose h=>rw[yca.mp hu];exact zno h
 | score h=>rw[yca.mp hu];exact zno h
 | draw h=>rw[yca.mp hu];exact zno h
theorem _root_.Wm.TurnOk.words_C {k:Str}{v:Wv}(h:TurnOk k v):∀u∈v.words,zyq u:=by
 intro u hu;cases h with
 | none=>cases hu
 | here=>cases hu
 | less h=>rw[yca.mp hu];exact zno h
 | more h=>rw[yca.mp hu];exact zno h
 | as h=>rw[yca.mp hu];exact znq (l:=zje) (by decide +kernel) h
theorem _root_.Wm.TurnOk.word_C {k:Str}{v:Wv}(h:TurnOk k v):zyq k:=by cases h<;>exact zjk (by decide +kernel)
theorem _root_.Wm.zvf.words_C {k:Str}{v:Hv}(h:zvf k v):∀u∈v.words,zyq u:=by
 intro u hu;cases h with
 | mute=>cases hu
 | steal=>cases hu
 | gain h=>rw[yca.mp hu];exact zws h
 | lack h=>rw[yca.mp hu];exact zws h
 | be h=>rw[yca.mp hu];exact zno h
 | more h=>rw[yca.mp hu];exact zno h
 | less h=>rw[yca.mp hu];exact zno h
 | per h=>exact Wh.words_C h.1 u hu
theorem _root_.Wm.Deed.words_C {d:Deed}(h:d.ok):∀u∈d.words,zyq u:=by
 intro u hu
 rcases yda.mp hu with rfl|hu
 ·exact znq (l:=zym) (by decide +kernel) h.each
 rcases yda.mp hu with rfl|hu
 ·exact znq (l:=zqa) (by decide +kernel) h.amt.kind
 rcases yna.mp hu with hu|hu
 ·exact h.amt.words_C u hu
 ·exact Wh.words_C h.whom.1 u hu
theorem _root_.Wm.Rule.words_C {r:Rule}(h:r.ok):∀u∈r.words,zyq u:=by
 intro u hu;cases r with
 | hold w v y =>
  rcases yda.mp hu with rfl|hu
  ·exact zjk (by decide +kernel)
  rcases yda.mp hu with rfl|hu
  ·exact znq (l:=changes) (by decide +kernel) h.1.word
  rcases yna.mp hu with hu|hu
  ·exact h.1.words_C u hu
  ·exact Wh.words_C h.2.1 u hu
 | wen k y d =>
  rcases yda.mp hu with rfl|hu
  ·exact zjk (by decide +kernel)
  rcases yda.mp hu with rfl|hu
  ·exact znq (l:=zxc) (by decide +kernel) h.1
  rcases yna.mp hu with hu|hu
  ·exact Wh.words_C h.2.1.1 u hu
  rcases yda.mp hu with rfl|hu
  ·exact zjk (by decide +kernel)
  ·exact Deed.words_C h.2.2 u hu
 | instead k y w v =>
  rcases yda.mp hu with rfl|hu
  ·exact zjk (by decide +kernel)
  rcases yda.mp hu with rfl|hu
  ·exact znq (l:=zqa) (by decide +kernel) h.1
  rcases yna.mp hu with hu|hu
  ·exact Wh.words_C h.2.1.1 u hu
  rcases yda.mp hu with rfl|hu
  ·exact zjk (by decide +kernel)
  rcases yda.mp hu with rfl|hu
  ·exact h.2.2.2.word_C
  ·exact h.2.2.2.words_C u hu
 | may c d =>
  rcases yda.mp hu with rfl|hu
  ·exact zjk (by decide +kernel)
  rcases yda.mp hu with rfl|hu
  ·exact zno h.1
  rcases yda.mp hu with rfl|hu
  ·exact zjk (by decide +kernel)
  ·exact Deed.words_C h.2 u hu
theorem cz {u:Str}(h:zyq u):cc u=0:=yym.mpr λz=>(h 44 z).2 rfl
theorem czs:∀{ws:List Str},(∀u∈ws,zyq u)->cct ws=0
 | [],_=>rfl
 | u::r,h=>by
  have e:cct (u::r)=cc u+cct r:=by
   rw[← zso u,← zpi];rfl
  rw[e,cz (h u yqa),czs λv hv=>h v (yla _ hv)]
theorem zcpb {r:Rule}(h:r.ok):zyq (zdd r):=by
 have z:=zzm " " r.zve;rw[zqt,czs (Rule.words_C h)] at z;intro c hc;refine⟨?_,?_⟩
 ·rcases zmq " " hc with y|⟨u,hu,y⟩
  ·have y':c∈[32]:=y;have e:c=32:=(by simpa using y');omega
  ·exact (Rule.words_C h u hu c y).1
 ·rintro rfl;have e:cc (zdd r)=0:=by
   show cc (yea " " r.words)=0
   omega
  exact absurd hc (yym.mp e)
theorem zfsb {ms:List Str}(h:Marks ms)(hl:ms.length≤4):Sm (zce ms) 200 3:=by
 refine⟨ypa (zkl h).2 (by decide),λc hc=>?_,?_⟩
 ·by_cases e:ms=[]
  ·subst e;have hc':c∈[45]:=hc;have e2:c=45:=(by simpa using hc');omega
  ·have:=zek h e c hc;omega
 ·cases ms with
  | nil=>decide +kernel
  | cons m r =>
   have z:=zzm CM (ws:=m::r) (by simp);rw[show cc CM=1 by decide +kernel,czs (λu hu=>zws (h.ok u hu))] at z;show cc (yea CM (m::r))≤3
   omega
theorem zwdb {c:Crd}(h:C4 c)(hl:c.rules.length≤4):Sm c.text 3000 3:=by
 have ok0:(Crd.mk c.name c.cost c.force c.marks []).ok:=⟨h.name,h.cost,h.force,h.marks,by simp,by show 0≤3;decide⟩;have b0:=Crd.znn ok0;have b:(yea " " c.head).length≤300:=b0;have mk:=zfsb h.marks h.ml;have hh:cc (yea " " c.head)≤3:=by
  have z:=zzm " " (ws:=c.head) (yad _ _);rw[zqt] at z;have e:cct c.head=cc c.name+(cc (toString (c.cost:Int):Str)+(cc (toString (c.force:Int):Str)+(cc (zce c.marks)+0))):=rfl;rw[e,cz (zws h.name),cz (zno h.cost),cz (zno h.force)] at z;have:=mk.2.2;omega
 refine⟨?_,λd hd=>?_,?_⟩
 ·have a:=zgk SL (yea " " c.head::c.rules.map zdd);have s:=zun (l:=(c.rules.map zdd).map (·.length)) (k:=450) (λx hx=>by
   obtain⟨t,ht,rfl⟩:=ykb.mp hx;obtain⟨r,hr,rfl⟩:=ykb.mp ht;exact zbq (h.rules r hr))
  have e:SL.length=3:=rfl;rw[ytb,ych,yia,e] at a;rw[yaa,yaa] at s;rw[yaa] at a;show (yea SL (yea " " c.head::c.rules.map zdd)).length≤3000
  have:c.rules.length*450≤4*450:=yai _ hl;omega
 ·rcases zmq SL hd with y|⟨u,hu,y⟩
  ·have y':d∈[32,47,32]:=y;simp at y';omega
  ·rcases yda.mp hu with e|hu
   ·rw[e] at y
    rcases zmq " " y with y|⟨u,hu,y⟩
    ·have y':d∈[32]:=y;have e:d=32:=(by simpa using y');omega
    ·simp only[Crd.head,yda,ycb,or_false] at hu
     rcases hu with e|e|e|e<;>rw[e] at y
     ·exact (zws h.name d y).1
     ·exact (zno h.cost d y).1
     ·exact (zno h.force d y).1
     ·exact mk.2.1 d y
   ·obtain⟨r,hr,rfl⟩:=ykb.mp hu;exact (zcpb (h.rules r hr) d y).1
 ·have z:=zzm SL (ws:=yea " " c.head::c.rules.map zdd) (yad _ _);rw[show cc SL=0 by decide +kernel] at z;have e:cct (yea " " c.head::c.rules.map zdd)=cc (yea " " c.head)+cct (c.rules.map zdd):=rfl;rw[e,czs (λu hu=>by
   obtain⟨r,hr,rfl⟩:=ykb.mp hu;exact zcpb (h.rules r hr))] at z
  show cc (yea SL (yea " " c.head::c.rules.map zdd))≤3
  omega
theorem C4.ok3 {c:Crd}(h:C4 c)(hl:c.rules.length≤3):c.ok:=⟨h.name,h.cost,h.force,h.marks,h.rules,hl⟩
theorem zrmb {c:Crd}(h:C4 c)(hl:c.rules.length≤3):Sm c.text 2000 3:=⟨zeqb (h.ok3 hl),(zwdb h (by omega)).2.1,(zwdb h (by omega)).2.2⟩
theorem zkt {c:TT}{a rest:TS}{D:Ends}{σ:L2.St}{H:Hp}(M:L2.St->Hp->Prop)(hR:∀ σ' H',M σ' H'->rest D σ' H')(h:∀R:L2.St->Hp->Prop,(∀ σ' H',M σ' H'->R σ' H')->tIfS c a zgqb { D with nx:=R } σ H):tSeq (tIfS c a zgqb) rest D σ H:=h _ hR
abbrev dBad:PyData:=.tuple [.bool true,.bool true,.list [.bool false,.bool false,.bool false,.bool false]]
theorem badV.dv {K:yba}{H:Hp}{r:V}(h:badV H r):DV K H r dBad:=by
 obtain⟨t,l,rfl,h1,h2⟩:=h;exact .tup (SqT.of h1) (.cons (.bl _) (.cons (.bl _) (.cons (.lst (SqL.of h2) (.cons (.bl _) (.cons (.bl _) (.cons (.bl _) (.cons (.bl _) .nil))))) .nil)))
theorem badV.same {H H':Hp}{r:V}(h:badV H r)(s:Same H H'):badV H' r:=by
 obtain⟨t,l,rfl,h1,h2⟩:=h;exact⟨t,l,rfl,s _ _ h1,s _ _ h2⟩
def zpwb (K:yba)(tb:Str)(H:Hp)(bv du:V):Prop:=(bv = .str tb∧(zwf tb).isSome=true∧du = .str tb)∨(bv = .str tb∧(zwf tb).isSome=false∧badV H du)∨(NoTx K H bv∧badV H du)
theorem zojb {t:Str}{L N:Nat}(h:Sm t L N):yfd (.str t)=true:=by
 have z:=h.2.1;have y:ynl t=true:=by
  unfold ynl;rw[← yqk,yyb];intro c hc;exact decide_eq_true (by have:=z c hc;omega)
 unfold yfd;simp[ybe,PyData.canLay,yij,y]
theorem zpjb:yfd dBad=true:=by decide +kernel
theorem zqmb {K:yba}{tb:Str}{H:Hp}{bv du:V}{Q:VK}{E:XK}(tx:Sm tb 10000 19)(hc:zpwb K tb H bv du)(k:∀r H',Same H H'->(∃d,DV K H' r d∧DV K H' du d∧yfd d=true)->Q r H'):spLT K [bv] H Q E:=by
 refine⟨bv,rfl,?_⟩
 rcases hc with⟨rfl,h1,rfl⟩|⟨rfl,h1,h2⟩|⟨h1,h2⟩
 ·exact .inl ⟨tb,rfl,tx,(λ_ _ H' S=>k _ H' S ⟨.str tb,.str _,.str _,zojb tx⟩),(λz=>by rw[z] at h1;cases h1)⟩
 ·exact .inl ⟨tb,rfl,tx,(λc z=>by rw[z] at h1;cases h1),(λ_ r H' S b=>k r H' S ⟨dBad,b.dv,(h2.same S).dv,zpjb⟩)⟩
 ·exact .inr ⟨h1,λr H' S b=>k r H' S ⟨dBad,b.dv,(h2.same S).dv,zpjb⟩⟩
theorem zdvb (T:Tx K mg)(kb:K.In base):FnOk P w K mg base CX0 16 T.zuib.f T.zuib.d zqwb (ztmb K):=by
 refine T.zuib.ok zam ?_;rintro f c A o s H vs Q E hr ⟨a,ns,rfl,hS,h63,q⟩ X;refine⟨_,  (zca (zta (i:=1) zam.nd rfl (.inl rfl) (zob (zaa (pv 0) (zaa zga zba))))
  (zca (zta (i:=2) zam.nd rfl (.inl rfl) (zka (zlz T).up hr rfl T.zff.m T.zff.F.kp (zkdb T) .nil zib (zaa (pv 1) (zaa zga zba))))
  (zca (zta (i:=3) zam.nd rfl (.inl rfl) (zka (zoa T).up hr rfl T.zfa.m T.zfa.F.kp (zua T) .nil zib (zaa (pv 1) (zaa zga zba))))
  (zca (zta (i:=4) zam.nd rfl (.inl rfl) (zka (zus T).up hr rfl T.zte.m T.zte.F.kp (znw T) .nil zib (zaa (pv 1) (zaa (pv 2) (zaa (zka (zoa T).up hr rfl T.zfa.m T.zfa.F.kp (zua T) .nil zib (zaa (pv 1) (zaa zga zba))) zba)))))
  (zca (zta (i:=5) zam.nd rfl (.inl rfl) (zka (zvs T).up hr rfl T.zue.m T.zue.F.kp (zow T) .nil zib (zaa (pv 1) (zaa (pv 4) zba))))
  (zca (zqb (zma zed (zka (zoa T).up hr rfl T.zfa.m T.zfa.F.kp (zua T) .nil zib (zaa (pv 1) (zaa zga zba))) zga (zxa _))
   (zia (zta (i:=5) zam.nd rfl (.inl rfl) (zka (zvs T).up hr rfl T.zue.m T.zue.F.kp (zow T) .nil zib (zaa (pv 1) (zaa (pv 5) zba)))))
   zra)
  (zca (zqb (zma zed (pv 3) zga (zxa _))
   (zia (zta (i:=5) zam.nd rfl (.inl rfl) (zka (zus T).up hr rfl T.zte.m T.zte.F.kp (znw T) .nil zib (zaa (pv 1) (zaa (pv 2) (zaa zga zba))))))
   zra)
  (zca (zta (i:=6) zam.nd rfl (.inl rfl) (zqc (zaa zyh (zaa zyh (zaa (zob (zaa zyh (zaa zyh (zaa zyh (zaa zyh zba))))) zba)))))
  (zca (zqb (zxh (zka (zov T).up hr rfl T.zie.m T.zie.F.kp (zlx T) .nil zib (zaa (pv 5) zba)))
   (zia (zta (i:=6) zam.nd rfl (.inl rfl) (pv 5)))
   zra)
  (zca (zqb (zma zed (pv 3) zga (zxa _))
   (zca (zta (i:=5) zam.nd rfl (.inl rfl) (zlb zbb (zob (zaa zcy (zaa zga (zaa zyh (zaa (zob (zaa (pv 4) zba)) (zaa (zqc (zaa (pv 4) zba)) zba)))))) (zka (zoa T).up hr rfl T.zfa.m T.zfa.F.kp (zua T) .nil zib (zaa (pv 1) (zaa zga zba))) (λ_ _=>rfl)))
   (zia (zta (i:=6) zam.nd rfl (.inl rfl) (zqc (zaa zyh (zaa zyh (zaa (zob (zaa zyh (zaa zyh (zaa zyh (zaa zyh zba))))) zba)))))))
   zra)
  (zia (zpa (zco (zkd (zsbb hr.units) (zka (zts T kb) hr rfl T.zse.m T.zse.F.kp (zlw T) .nil zib (zaa (pv 5) zba)) (pv 6) (zxa _)) (zum (zkd (zsbb hr.units) (zka (zts T kb) hr rfl T.zse.m T.zse.F.kp (zlw T) .nil zib (zaa (pv 4) zba)) (pv 4) (zxa _)))))))))))))))),?_⟩
 refine⟨_,rfl,sz2,λp hp=>?_⟩;have T0:Tk K (upd H p (.lst [.ref a,.int 0])) p 0:=Tk.begin hp hS h63;refine⟨_,rfl,p,0,rfl,T0,by decide,λnl nms k1 H1 B1 T1 hk1 N1=>?_⟩;refine⟨_,rfl,p,_,9,rfl,T1,by omega,by decide,λway H2 w0 w1 B2 T2=>?_⟩;have N2:=N1.but T1 B2;refine⟨_,rfl,_,rfl,_,rfl,p,_,4,rfl,T2,by omega,by decide,λmany H3 m0 m1 B3 T3=>?_⟩;have N3:=N2.but T2 B3;obtain⟨mn,rfl⟩:=yrc m0;refine⟨p,nl,nms,_,mn,rfl,by omega,T3,by omega,N3,λc k4 H4 B4 T4 hk4 c4 hcl=>?_⟩;have N4:=N3.but T3 B4;have cl3:c.rules.length≤3:=by omega
 have gs:=zrmb c4 cl3;have wg:zwf c.text=some c:=zckb (c4.ok3 cl3);generalize c.text=gd at *;refine⟨_,rfl,_,rfl,p,_,gd,2000,3,rfl,T4,by omega,gs,by decide,λt5 k5 H5 sm5 B5 T5 hk5=>?_⟩;have N5:=N4.but T4 B5
 try dsimp only[zwz]
 refine zkt (fun σ' H'=>Ex2 λ(tb:Str) (kb:Int)=>σ'=[some (.ref a),some (.ref p),some (.ref nl),some (.int way),some (.str gd),some (.str tb),none]∧Sm tb 10000 19∧Tk K H' p kb∧kb≤1000∧Nm H' nl nms) ?_ ?_
 case refine_2 =>
  intro R hR;refine⟨_,rfl,p,_,2,rfl,T5,by omega,by decide,λr H6 r0 r1 B6 T6=>⟨rfl,_,rfl,?_⟩⟩;have N6:=N5.but T5 B6;refine ite2 (λ_=>?_) (λ_=>?_)
  ·refine⟨_,rfl,_,rfl,p,_,t5,4020,7,rfl,T6,by omega,sm5,by decide,λt7 k7 H7 sm7 B7 T7 hk7=>?_⟩;exact hR _ _ ⟨t7,k7,rfl,sm7.up (by decide) (by decide),T7,by omega,N6.but T6 B7⟩
  ·exact hR _ _ ⟨t5,_,rfl,sm5.up (by decide) (by decide),T6,by omega,N6⟩
 rintro σ8 H8 ⟨t8,k8,rfl,sm8,T8,hk8,N8⟩
 try dsimp only[zwz]
 refine zkt (fun σ' H'=>Ex2 λ(tb:Str) (kb:Int)=>σ'=[some (.ref a),some (.ref p),some (.ref nl),some (.int way),some (.str gd),some (.str tb),none]∧Sm tb 10000 19∧Tk K H' p kb∧kb≤2000) ?_ ?_
 case refine_2 =>
  intro R hR;refine⟨_,rfl,rfl,_,rfl,?_⟩;refine ite2 (λ_=>?_) (λ_=>?_)
  ·refine⟨_,rfl,_,rfl,p,nl,nms,_,4,rfl,by decide,T8,by omega,N8,λc9 k9 H9 B9 T9 hk9 c94 hcl9=>?_⟩;exact hR _ _ ⟨c9.text,k9,rfl,(zwdb c94 (by omega)).up (by decide) (by decide),T9,by omega⟩
  ·exact hR _ _ ⟨t8,_,rfl,sm8,T8,by omega⟩
 rintro σa Ha ⟨tb,ka,rfl,sma,Ta,hka⟩;refine⟨sz4,λdl hdl=>?_⟩;refine laid hdl λHb1 Sb1 eb1=>?_;refine⟨sz3,λdt hdt=>?_⟩;refine laid hdt λHb Sb2 eb2=>?_;have bvd:badV Hb (.ref dt):=⟨dt,dl,rfl,eb2,Sb2 _ _ eb1⟩;have Tb:=(Ta.same Sb1).same Sb2
 try dsimp only[zwz]
 refine zkt (fun σ' H'=>Ex2 λdu (kb:Int)=>σ'=[some (.ref a),some (.ref p),some (.ref nl),some (.int way),some (.str gd),some (.str tb),some du]∧Tk K H' p kb∧kb≤2000∧(((zwf tb).isSome=true∧du = .str tb)∨((zwf tb).isSome=false∧badV H' du))) ?_ ?_
 case refine_2 =>
  intro R hR;refine⟨_,rfl,tb,rfl,sma,λHc Sc=>?_⟩;cases ec:(zwf tb).isSome with
  | true=>exact⟨_,rfl,iteT ⟨_,rfl,hR _ _ ⟨.str tb,_,rfl,Tb.same Sc,by omega,.inl ⟨ec,rfl⟩⟩⟩⟩
  | false=>exact⟨_,rfl,iteF (hR _ _ ⟨.ref dt,_,rfl,Tb.same Sc,by omega,.inr ⟨ec,bvd.same Sc⟩⟩)⟩
 rintro σb He ⟨du,ke,rfl,Te,hke,hdu⟩
 try dsimp only[zwz]
 refine zkt (fun σ' H'=>Ex2 λbv du=>σ'=[some (.ref a),some (.ref p),some (.ref nl),some (.int way),some (.str gd),some bv,some du]∧zpwb K tb H' bv du) ?_ ?_
 case refine_2 =>
  intro R hR;refine⟨_,rfl,rfl,_,rfl,?_⟩;refine ite2 (λ_=>?_) (λ_=>?_)
  ·refine⟨_,rfl,sz1,λl1 hl1=>?_⟩;refine laid hl1 λHf1 Sf1 ef1=>?_;refine⟨_,rfl,sz1,λl2 hl2=>?_⟩;refine laid hl2 λHf2 Sf2 ef2=>?_;refine⟨sz5,λl3 hl3=>?_⟩;have Tf2:=(Te.same Sf1).same Sf2;have n1:=(Te.ne hl1).symm;have n2:=((Te.same Sf1).ne hl2).symm;have n3:=(Tf2.ne hl3).symm;refine laid hl3 λHf3 Sf3 ef3=>?_;have Tf3:=Tf2.same Sf3;refine⟨_,rfl,p,_,5,rfl,Tf3,by omega,by decide,λr Hr r0 r1 Br Tr=>?_⟩;obtain⟨v,hv,hm⟩:=zui (xs:=[V.non,V.int 7,V.bl true,V.ref l1,V.ref l2]) r0 r1;have g1:=Br _ _ n1 (Sf3 _ _ (Sf2 _ _ ef1));have g2:=Br _ _ n2 (Sf3 _ _ ef2);refine⟨l3,_,_,_,rfl,rfl,SqL.of (Br _ _ n3 ef3),hv,?_⟩;refine⟨sz4,λdl hdl=>?_⟩;refine laid hdl λHd1 Sd1 ed1=>?_;refine⟨sz3,λdt hdt=>?_⟩;refine laid hdt λHd2 Sd2 ed2=>?_;have bv:badV Hd2 (.ref dt):=⟨dt,dl,rfl,ed2,Sd2 _ _ ed1⟩;refine hR _ _ ⟨v,.ref dt,rfl,.inr (.inr ⟨?_,bv⟩)⟩;simp only[yda,ycb,or_false] at hm
   rcases hm with e|e|e|e|e<;>subst e
   ·exact⟨_,.non,rfl⟩
   ·exact⟨_,.int _,rfl⟩
   ·exact⟨_,.bl _,rfl⟩
   ·exact⟨_,.lst (Sd2 _ _ (Sd1 _ _ g1)),rfl⟩
   ·exact⟨_,.tup (Sd2 _ _ (Sd1 _ _ g2)),rfl⟩
  ·exact hR _ _ ⟨.str tb,du,rfl,hdu.elim (λz=>.inl ⟨rfl,z.1,z.2⟩) (λz=>.inr (.inl ⟨rfl,z.1,z.2⟩))⟩
 rintro σc Hg ⟨bv,du,rfl,hc⟩;refine⟨_,rfl,?_⟩;dsimp only[tNil,ynf,yzf,yrb];refine zqmb sma hc λr Hh Sh hd=>?_;obtain⟨d,d1,d2,d3⟩:=hd;refine⟨_,rfl,d,d,d1,d2,d3,d3,_,rfl,?_⟩;rw[SeqAt.eqv_refl _ (ytk d3)];refine iteT ?_;refine⟨_,rfl,_,rfl,.inl ⟨gd,rfl,gs.up (by decide) (by decide),λ_ _ Hj Sj=>?_,λz=>by rw[wg] at z;cases z⟩⟩;have sg:=zojb gs;refine⟨_,rfl,.str gd,.str gd,.str _,.str _,sg,sg,?_⟩;rw[SeqAt.eqv_refl _ (ytk sg)];exact q Hj
end
def mkT {K:yba}{h:Heap}{mg:Str->Option Value}(X:K.In h)(G:h.Ns ygb mg){C_Words:Addr}{C_Whom:Addr}{C_Card:Addr}{E_NoCard:Addr}{E_FightError:Addr}{A_NotNow:Addr}{A_NotSame:Addr}{A_NoFight:Addr}{A_NoRow:Addr}{t_LETTERS:Tok}{t_FIGURES:Tok}{t_MOST_WORDS:Tok}{A_PARTS:Addr}{t_MOST_RULES:Tok}{A_SORTS:Addr}{A_CHANGES:Addr}{A_WHEN_KINDS:Addr}{A_DEED_KINDS:Addr}{A_PLAYER_KINDS:Addr}{A_TURNS:Addr}(tf:Tf K mg)
  (zwob:yob K ygb "Words" = some (some (.ref C_Words)))
  (zgnb:yje K C_Words yji=true)
  (ziob:yue K C_Words=true)
  (zenb:yeg K C_Words=true)
  (zvmb:yya K (.ref C_Words) "__setattr__" = some (some (.builtin "object.__setattr__")))
  (y_Words___init__:If K C_Words "__init__" "Words.__init__" zni)
  (y_Words_take:Mf K C_Words "take" "Words.take" zpm)
  (y_Words_take_one_of:Mf K C_Words "take_one_of" "Words.take_one_of" zmg)
  (y_Words_take_name:Mf K C_Words "take_name" "Words.take_name" zgh)
  (y_Words_take_number:Mf K C_Words "take_number" "Words.take_number" zng)
  (y_Words_finish:Mf K C_Words "finish" "Words.finish" zrk)
  (zwe:yya K (.ref C_Words) "words" = some none)
  (zbe:yya K (.ref C_Words) "place" = some none)
  (zftb:yob K ygb "Whom" = some (some (.ref C_Whom)))
  (ztrb:yje K C_Whom yji=true)
  (zpsb:yue K C_Whom=true)
  (znrb:yeg K C_Whom=true)
  (zcrb:yya K (.ref C_Whom) "__setattr__" = some (some (.builtin "object.__setattr__")))
  (y_Whom___init__:If K C_Whom "__init__" "Whom.__init__" zbj)
  (y_Whom_told:Mf K C_Whom "told" "Whom.told" zjo)
  (zij:yya K (.ref C_Whom) "word" = some none)
  (ztg:yya K (.ref C_Whom) "value" = some none)
  (zzh:yya K (.ref C_Whom) "parts" = some none)
  (q1_Whom:yya K (.ref C_Whom) "__class__" = some (some (.builtin "object.__class__")))
  (q2_Whom:yih K (.builtin "object.__class__") "__get__" = some (some (.builtin "getset_descriptor.__get__")))
  (q3_Whom:yxk K (.builtin "object.__class__")=some true)
  (q4_Whom:yim K C_Whom (.type "object")=some true)
  (q5_Whom:yfb K (.ref C_Whom) (.type "str")=some false)
  (q6_Whom:yfb K (.ref C_Whom) (.type "int")=some false)
  (q7_Whom:yfb K (.ref C_Whom) (.type "tuple")=some false)
  (q8_Whom:yfb K (.ref C_Whom) (.type "list")=some false)
  (q9_Whom:yfb K (.type "str") (.ref C_Whom)=some false)
  (q10_Whom:yfb K (.type "int") (.ref C_Whom)=some false)
  (zgtb:yob K ygb "Card" = some (some (.ref C_Card)))
  (zurb:yje K C_Card yji=true)
  (zqsb:yue K C_Card=true)
  (zorb:yeg K C_Card=true)
  (zdrb:yya K (.ref C_Card) "__setattr__" = some (some (.builtin "object.__setattr__")))
  (y_Card___init__:If K C_Card "__init__" "Card.__init__" zcj)
  (zjj:yya K (.ref C_Card) "name" = some none)
  (zkj:yya K (.ref C_Card) "cost" = some none)
  (zci:yya K (.ref C_Card) "force" = some none)
  (zbi:yya K (.ref C_Card) "marks" = some none)
  (zai:yya K (.ref C_Card) "rules" = some none)
  (zsj:yob K ygb "ValueError" = some none)
  (ztdb:yob K ygb "all" = some none)
  (zqhb:yob K ygb "int" = some none)
  (zvc:yob K ygb "isinstance" = some none)
  (zme:yob K ygb "len" = some none)
  (zeo:yob K ygb "range" = some none)
  (zjn:yob K ygb "reversed" = some none)
  (ztib:yob K ygb "set" = some none)
  (zin:yob K ygb "sorted" = some none)
  (zrp:yob K ygb "str" = some none)
  (zbr:yob K ygb "tuple" = some none)
  (aE_NoCard:yob K ygb "NoCard" = some (some (.ref E_NoCard)))
  (xE_NoCard:L2.ExcC K E_NoCard)
  (n1E_NoCard:yya K (.ref E_NoCard) "__getattribute__" = some (some (.builtin "BaseException.__getattribute__")))
  (n2E_NoCard:yya K (.ref E_NoCard) "__getattr__" = some none)
  (n3E_NoCard:yya K (.ref E_NoCard) "__class__" = some (some (.builtin "object.__class__")))
  (n4E_NoCard:ybh K (.ref E_NoCard) (.type "BaseException")=some true)
  (n5E_NoCard:ybh K (.ref E_NoCard) (.type "object")=some true)
  (n6E_NoCard:(yci K E_NoCard).isSome=true)
  (aE_FightError:yob K ygb "FightError" = some (some (.ref E_FightError)))
  (xE_FightError:L2.ExcC K E_FightError)
  (n1E_FightError:yya K (.ref E_FightError) "__getattribute__" = some (some (.builtin "BaseException.__getattribute__")))
  (n2E_FightError:yya K (.ref E_FightError) "__getattr__" = some none)
  (n3E_FightError:yya K (.ref E_FightError) "__class__" = some (some (.builtin "object.__class__")))
  (n4E_FightError:ybh K (.ref E_FightError) (.type "BaseException")=some true)
  (n5E_FightError:ybh K (.ref E_FightError) (.type "object")=some true)
  (n6E_FightError:(yci K E_FightError).isSome=true)
  (zot:yob K ygb "NotNow" = some (some (.ref A_NotNow)))
  (zoq:yob K ygb "NotSame" = some (some (.ref A_NotSame)))
  (zpq:yob K ygb "NoFight" = some (some (.ref A_NoFight)))
  (zvz:yob K ygb "NoRow" = some (some (.ref A_NoRow)))
  (u_NoCard_FightError:L2.subIn K E_NoCard E_FightError=true)
  (v_NoCard_NoCard:yfb K (.ref E_NoCard) (.ref E_NoCard)=some true)
  (v_NoCard_ValueError:yfb K (.ref E_NoCard) (.type "ValueError")=some true)
  (v_NoCard_NotNow:yfb K (.ref E_NoCard) (.ref A_NotNow)=some false)
  (v_NoCard_NotSame:yfb K (.ref E_NoCard) (.ref A_NotSame)=some false)
  (v_NoCard_NoFight:yfb K (.ref E_NoCard) (.ref A_NoFight)=some false)
  (v_NoCard_NoRow:yfb K (.ref E_NoCard) (.ref A_NoRow)=some false)
  (zqq:yob K ygb "LETTERS" = some (some (.str zvw t_LETTERS)))
  (zrq:yob K ygb "FIGURES" = some (some (.str zww t_FIGURES)))
  (zlk:yob K ygb "MOST_WORDS" = some (some (.int 9 t_MOST_WORDS)))
  (zqr:yob K ygb "PARTS" = some (some (.ref A_PARTS)))
  (zrz:ydo (ytg λb=>K.lookup b) (λb=>K.lookup b) A_PARTS zdh=true)
  (zmk:yob K ygb "MOST_RULES" = some (some (.int 3 t_MOST_RULES)))
  (zuz:yob K ygb "SORTS" = some (some (.ref A_SORTS)))
  (zqz:TupK K A_SORTS ["hold","when","instead","may"])
  (zsq:yob K ygb "CHANGES" = some (some (.ref A_CHANGES)))
  (zlq:TupK K A_CHANGES ["mute","steal","gain","lack","be","more","less","per"])
  (zkk:yob K ygb "WHEN_KINDS" = some (some (.ref A_WHEN_KINDS)))
  (zfk:TupK K A_WHEN_KINDS ["come","leave","hurt","gain","lack","lose","score","draw"])
  (zfi:yob K ygb "DEED_KINDS" = some (some (.ref A_DEED_KINDS)))
  (zei:TupK K A_DEED_KINDS ["leave","hurt","gain","lack","lose","score","draw"])
  (zqh:yob K ygb "PLAYER_KINDS" = some (some (.ref A_PLAYER_KINDS)))
  (zph:TupK K A_PLAYER_KINDS ["lose","score","draw"])
  (ztz:yob K ygb "TURNS" = some (some (.ref A_TURNS)))
  (zpz:TabK K A_TURNS zggb):Tx K mg :=
 { tf with zgc:=C_Words,zseb:=yac X G zwob,zjb:=⟨zgnb,ziob,zenb,zvmb⟩,zoc:=y_Words___init__,zwc:=y_Words_take,zwa:=y_Words_take_one_of,zvb:=y_Words_take_name,zeb:=y_Words_take_number,zld:=y_Words_finish,zwe:=zwe,zbe:=zbe,znc:=C_Whom,zqkb:=yac X G zftb,zpg:=⟨ztrb,zpsb,znrb,zcrb⟩,zqd:=y_Whom___init__,zwb:=y_Whom_told,zij:=zij,ztg:=ztg,zzh:=zzh,zpcb:=⟨q1_Whom,q2_Whom,q3_Whom,q4_Whom,q5_Whom,q6_Whom,q7_Whom,q8_Whom,q9_Whom,q10_Whom⟩,zml:=C_Card,zfpb:=yac X G zgtb,zmj:=⟨zurb,zqsb,zorb,zdrb⟩,zrd:=y_Card___init__,zjj:=zjj,zkj:=zkj,zci:=zci,zbi:=zbi,zai:=zai,zsj:=yoc X G zsj,ztdb:=yoc X G ztdb,zqhb:=yoc X G zqhb,zvc:=yoc X G zvc,zme:=yoc X G zme,zeo:=yoc X G zeo,zjn:=yoc X G zjn,ztib:=yoc X G ztib,zin:=yoc X G zin,zrp:=yoc X G zrp,zbr:=yoc X G zbr,e_NoCard:=⟨E_NoCard,yac X G aE_NoCard,xE_NoCard,⟨n1E_NoCard,n2E_NoCard,n3E_NoCard,n4E_NoCard,n5E_NoCard,n6E_NoCard⟩⟩,e_FightError:=⟨E_FightError,yac X G aE_FightError,xE_FightError,⟨n1E_FightError,n2E_FightError,n3E_FightError,n4E_FightError,n5E_FightError,n6E_FightError⟩⟩,zst:=A_NotNow,zot:=yac X G zot,zwq:=A_NotSame,zoq:=yac X G zoq,zxq:=A_NoFight,zpq:=yac X G zpq,znab:=A_NoRow,zvz:=yac X G zvz,u_NoCard_FightError:=u_NoCard_FightError,v_NoCard_NoCard:=v_NoCard_NoCard,v_NoCard_ValueError:=v_NoCard_ValueError,v_NoCard_NotNow:=v_NoCard_NotNow,v_NoCard_NotSame:=v_NoCard_NotSame,v_NoCard_NoFight:=v_NoCard_NoFight,v_NoCard_NoRow:=v_NoCard_NoRow,zjcb:=t_LETTERS,zqq:=yac X G zqq,zkcb:=t_FIGURES,zrq:=yac X G zrq,zxs:=t_MOST_WORDS,zlk:=yac X G zlk,zuo:=A_PARTS,zqr:=yac X G zqr,zrz:=zrz,zys:=t_MOST_RULES,zmk:=yac X G zmk,ztw:=A_SORTS,zuz:=yac X G zuz,zqz:=zqz,zan:=A_CHANGES,zsq:=yac X G zsq,zlq:=zlq,zji:=A_WHEN_KINDS,zkk:=yac X G zkk,zfk:=zfk,zrf:=A_DEED_KINDS,zfi:=yac X G zfi,zei:=zei,zzf:=A_PLAYER_KINDS,zqh:=yac X G zqh,zph:=zph,zmab:=A_TURNS,ztz:=yac X G ztz,zpz:=zpz }
theorem all_mk {l:ycl}{w:World}{K:yba}{mg:Str->Option Value}{fa:Addr}(hfa:mg "law" = some (.ref fa))(T:Tx K mg) :
  ∃fd:ypd,(∀(s:Shared) (v:Value),ydn s fd ⟨[v],[]⟩ [("_law_script",v)])∧∀base:Heap,K.In base->base.Ns ygb mg->FnOk l.prog w K mg base CX0 16 fa fd ["_law_script"] (ztmb K):=by
 cases zrvb T.zuib hfa;refine⟨_,(λs v=>?_),λbase kb _=>zdvb T kb⟩;obtain⟨oc,od,kV,doc,pm,an,cdv,ct,osl,e,lk,hcd⟩:=T.zuib.F.ex;rw[e];exact .of_eq rfl
theorem walk {l:ycl}{q:ysb}{loose:List Str}{XP:(Str->Option Value)->Heap->Prop}{YP:World->Heap->Prop}{d:DefRec}{K:Params->yba}(hn:l.most=some 63)(hdf:d.params.defaults=[])
  (hY:∀(w:World) (h:Heap),YP w h->(K w.params).In h)
  (F:∀(w:World) (mg:Str->Option Value) fa (h:Heap),(K w.params).In h->h.Ns ygb mg->mg d.name=some (.ref fa) →
   ∃fd:ypd,(∀(s:Shared) (u:Value),ydn s fd ⟨[u],[]⟩ [("_law_script",u)])∧∀base:Heap,(K w.params).In base->base.Ns ygb mg->FnOk l.prog w (K w.params) mg base CX0 16 fa fd ["_law_script"] (ztmb (K w.params))) :
  yko q loose XP YP l.row.toRowW d [] (λf vs=>yho f vs) :=
 L2.zbqb (n:=63) (k:=16) (x:="_law_script") (CX:=λ_=>CX0) (sp:=λw=>ztmb (K w.params)) hn (by decide) hdf ⟨rfl,by decide,by decide⟩ hY F (λ_ _ a ns hl hO hS=>⟨a,ns,rfl,SqF.of hO hS,hl,λ_=>rfl⟩) λ_ _ _ _ _ z=>z
end K06
namespace PySem.W.Fast
def tw5653786483807428912:=()
def tw6938788724351470546:=()
def tw9271523217444037152:=()
def tw8048365278556590620:=()
def tw1674669957251697751:=()
def tw14250570077346692070:=()
def tw17195170723609475831:=()
def tw2554579355728994978:=()
def tw15351735197492639698:=()
def tw10798617293762779391:=()
def tw17661644332034254072:=()
def tw2326368909663047680:=()
def tw6661284230014297188:=()
def tw706365651454709152:=()
def tw16043760116494030357:=()
def tw9357784830655127122:=()
def tw2504312603514399436:=()
def tw10050516171925225855:=()
def tw14468731479368636859:=()
def tw6744162111057054348:=()
def tw13956014987937000311:=()
def tw7341425728084739292:=()
def tw1579698110062420047:=()
def tw11140058515961673894:=()
def tw4568315476292499442:=()
def tw14265524966634636254:=()
def tw12302411018690186809:=()
def tw2823000520235147807:=()
def tw9024949464904989254:=()
def tw4487037263340778658:=()
def tw6919308708967490098:=()
def tw10391409493817953941:=()
def tw18251645298531900433:=()
def tw7926283921232261429:=()
def tw6854797171717488500:=()
def tw17013030193777127173:=()
def tw18393078840025072816:=()
def tw14904420050643050788:=()
def tw1070754961368569764:=()
def tw15921153654497553874:=()
def tw9125456690299018038:=()
def tw17227684970209963842:=()
def tw4457203056989564079:=()
def tw2805030619112396908:=()
def tw17175058634961876045:=()
def tw8902147269822192853:=()
def tw16465383576205768133:=()
def tw8431491238974847809:=()
def tw15057749155663662730:=()
def tw1896475658487412487:=()
def tw13378553553196265025:=()
def tw3267592326413642655:=()
def tw15777724215385426370:=()
def tw1015884545328559700:=()
def tw5028390126374632197:=()
def tw15947381573611733563:=()
def tw15159477560557889501:=()
def tw16259171974862812155:=()
def tw62456400672245039:=()
def tw16033705886460505156:=()
def tw17790273756086419428:=()
def tw6130178501856990449:=()
def tw10469226265511359422:=()
def tw2818944036384696004:=()
def tw15139538176121163302:=()
def tw3699827224724614126:=()
def tw16604063595939900549:=()
def tw11921544230446706911:=()
def tw11247180621203481745:=()
def tw11640470284544485744:=()
def tw8835732396383272597:=()
def tw14107062821639875749:=()
def tw16143528095183686183:=()
def tw7759376113601067837:=()
def tw872083206670415860:=()
def tw11938914897764463804:=()
def tw11624324931098750958:=()
def tw17753559158265121561:=()
def tw3270008782111683444:=()
def tw3809751427614618755:=()
def tw15147125600643991561:=()
def tw11274528157557314694:=()
def tw9754569422891661955:=()
def tw12830243498905323514:=()
def tw9876219886874830457:=()
def tw18381942152844825487:=()
def tw4615279582866309445:=()
def tw9798751055846750338:=()
def tw11850015622447596621:=()
def tw2199537223602033521:=()
def tw17022056876158559606:=()
def tw9120225828481491580:=()
def tw1585880645870038470:=()
def tw9102624010314015771:=()
def tw11133583773351922516:=()
def tw13457300719304686727:=()
def tw12425545394382604953:=()
def tw10978907033994877343:=()
def tw584046076213743590:=()
def tw6559345742865451054:=()
def tw7438023972295045822:=()
def tw17837762094202201436:=()
def tw16732176147918129725:=()
def tw3094831050786268667:=()
def tw17906288884302067077:=()
def tw15934488597372492402:=()
def tw7078396595439531623:=()
def tw1263683682232614449:=()
def tw11467607050572952928:=()
def tw14818800240928882566:=()
def tw2193190804709435920:=()
def tw6943520812360542653:=()
def tw16664357077265827574:=()
def tw5406197408194108136:=()
def tw4225119728289454615:=()
def tw4415640964479800936:=()
def tw1727466366509907349:=()
def tw8743134436099488375:=()
def tw12229339939312829816:=()
def tw10651200829116351995:=()
def tw11738855888058876490:=()
def tw6900802201438402395:=()
def tw4697732673720219640:=()
def tw4564779958477925805:=()
def tw5703848872101106253:=()
def tw16880675171872756293:=()
def tw7569849918520146376:=()
def tw12127536426966612303:=()
def tw8993672203507695164:=()
def tw7194054872583532534:=()
def tw3362449723529716751:=()
def tw4209275971680238690:=()
def tw14970702701454766501:=()
def tw17775520032603732694:=()
def tw16826877827587213744:=()
def tw11216140092512037088:=()
def tw5929107665064290743:=()
def tw1333067955535703669:=()
def tw2670078922662305143:=()
def tw6921351802575267525:=()
def tw1994053584594214503:=()
def tw16393924821593384478:=()
def tw5391600741214631783:=()
def tw12241348225007618919:=()
def tw3932686633120897803:=()
def tw12220514860246241502:=()
def tw10387676909953542119:=()
def tw6973302930592359152:=()
def tw13083416595630459775:=()
def tw14435475401658109665:=()
def tw3805379367883928710:=()
def tw69115486532871697:=()
def tw16725952099970130590:=()
def tw10580467025159917038:=()
def tw17094250370736264662:=()
def tw13638752988979452187:=()
def tw10758166319556173582:=()
def tw17837404940996098069:=()
def tw14519449477827264125:=()
def tw719838352818158031:=()
def tw9432353651942891017:=()
def tw11929118646108779258:=()
def tw11208986269291214433:=()
def tw7754790717699545920:=()
def tw16900411258058706783:=()
def tw976757138946408119:=()
def tw16696702533818581863:=()
def tw3639499750432380734:=()
def tw12978422465608479999:=()
def tw13658925927391354721:=()
def tw14279062257607572674:=()
def tw1199301526569022279:=()
def tw6391124250825427372:=()
def tw12936067430191571262:=()
def tw13707441025310184941:=()
def tw1201763759245668197:=()
def tw7782139147418072251:=()
def tw5276353376915102715:=()
def tw2421343627362021387:=()
def tw2173186713230992608:=()
def tw4968227510438289446:=()
def tw2970568287741036126:=()
def tw10955617336533817553:=()
def tw11384407294993691788:=()
def tw6113963934623993321:=()
def tw1453728351698113631:=()
def tw11883521616218286746:=()
def tw3752386058897861088:=()
def tw11339942161413393148:=()
def tw18353550421264474824:=()
def tw12703207513502932544:=()
def tw1381631557818218886:=()
def tw15082879860652969247:=()
def tw6281190634149415335:=()
def tw6491846757205529868:=()
def tw18322692670626425810:=()
def tw1777868063446666554:=()
def tw8375944078823612977:=()
def tw10377099190092363839:=()
def tw4706929714362517754:=()
def tw3245590949768688193:=()
def tw13479379531720931595:=()
def tw5564189090055976280:=()
def tw16824086551980544326:=()
def tw18444597010373795881:=()
def tw3314258568017309616:=()
def tw14599462163390033377:=()
def tw10977837156314817145:=()
def tw871103554959615269:=()
def tw13834162672742392991:=()
def tw6209441745103522915:=()
def tw3934047124343852233:=()
def tw3881208733236202954:=()
def tw13342800697779467042:=()
def tw11286539519833821319:=()
def tw708995480025491270:=()
def tw11070714522735517248:=()
def tw18389771144570853939:=()
def tw1963897128942910354:=()
def tw17960077494962705529:=()
def tw8778946152897034678:=()
def tw14836810273866356591:=()
def tw10003624625811704701:=()
def tw6780840270394641019:=()
def tw17278859627706100666:=()
def tw13834289773254984830:=()
def tw3028211604074872583:=()
def tw11282304393738162388:=()
def tw8078532627304629021:=()
def tw2038623401512462302:=()
def tw10584907418051092320:=()
def tw9693387377725807025:=()
def tw3516225540321966385:=()
def tw11813819678311289764:=()
def tw4461825357298665094:=()
def tw18341209861183377812:=()
def tw2128093138930164884:=()
def tw10672577008318504046:=()
def tw9146145659462538480:=()
def tw1717734603063119648:=()
def tw12898664102991087544:=()
def tw4883324132308201477:=()
def tw18019710472008950525:=()
def tw12313595574655053723:=()
def tw8277447234009952087:=()
def tw6191118295510086470:=()
def tw3858796122200801111:=()
def tw12092251091637205787:=()
def tw13830353399541506151:=()
def tw12872350829778439758:=()
def tw17106785888465404830:=()
def tw8084103432229528838:=()
def tw1020565196323229888:=()
def tw10354213773320859421:=()
def tw9989202886748878881:=()
def tw15552157807116808554:=()
def tw16266295299629026367:=()
def tw15970294005406206241:=()
def tw1304392292036370683:=()
def tw10459215621750658787:=()
def tw7203172057499497541:=()
def tw7396182268976813238:=()
def tw17902376677955917922:=()
def tw2647985275818784487:=()
def tw4669822998012689595:=()
def tw11101828882856384825:=()
def tw8768999349349982483:=()
def tw4751231013443299879:=()
def tw1950414113867759760:=()
def tw7969556026074898546:=()
def tw3227106878534758126:=()
def tw4737190574348783410:=()
def tw2915048329650417837:=()
def tw5568485761007253073:=()
def tw205812287662530936:=()
def tw6607078416668016038:=()
def tw14338859596732598105:=()
def tw11530815374820720368:=()
def tw6851572067509353571:=()
def tw16238867083971400433:=()
def tw11262974807313886213:=()
def tw13836557910830441873:=()
def tw15331845214465709552:=()
def tw958072974297965977:=()
def tw3351315744530116824:=()
def tw935192573484806737:=()
def tw17614976036062115367:=()
def tw13146012859444951346:=()
def tw15750248543809638487:=()
def tw16632911237424666058:=()
def tw7200336093546084612:=()
def tw2434145805731831626:=()
def tw6891281930380940851:=()
def tw11294116511667047998:=()
def tw6662572761998824565:=()
def tw3238393660143637453:=()
def tw12993031504281437326:=()
def tw10582819392405509896:=()
def tw16348990957999993116:=()
end PySem.W.Fast
open PySem PySem.W PyProof.Rows
set_option maxRecDepth 100000 in
set_option maxHeartbeats 0 in
theorem PySem.Challenge.cw_turnstack_k06_no_card_holds : PySem.Challenge.rw_turnstack_k06_no_card.Holds := by
  w_on; o_law; k_head; (case hw => w_witness2)
  k_fill
  refine K06.walk (l := PySem.Challenge.rw_turnstack_k06_no_card) rfl rfl (fun w h Y => PySem.W.kIn_of Y) ?F
  case F =>
    intro w mg fa h KX G hmg
    refine' K06.all_mk hmg (K06.mkT KX G ⟨L2.gf_of KX G ?qda ?qea ?qfa ?qga, L2.gf_of KX G ?qha ?qia ?qja ?qka, L2.gf_of KX G ?qla ?qma ?qna ?qoa, L2.gf_of KX G ?qdc ?qec ?qfc ?qgc, L2.gf_of KX G ?qhc ?qic ?qjc ?qkc, L2.gf_of KX G ?qlc ?qmc ?qnc ?qoc, L2.gf_of KX G ?quc ?qvc ?qwc ?qxc, L2.gf_of KX G ?qyc ?qzc ?qad ?qbd, L2.gf_of KX G ?qcd ?qdd ?qed ?qfd, L2.gf_of KX G ?qgd ?qhd ?qid ?qjd, L2.gf_of KX G ?qkd ?qld ?qmd ?qnd, L2.gf_of KX G ?qod ?qpd ?qqd ?qrd, L2.gf_of KX G ?qsd ?qtd ?qud ?qvd, L2.gf_of KX G ?qwd ?qxd ?qyd ?qzd, L2.gf_of KX G ?qae ?qbe ?qce ?qde, L2.gf_of KX G ?qee ?qfe ?qge ?qhe, L2.gf_of KX G ?qie ?qje ?qke ?qle, L2.gf_of KX G ?qme ?qne ?qoe ?qpe, L2.gf_of KX G ?qqe ?qre ?qse ?qte, L2.gf_of KX G ?que ?qve ?qwe ?qxe, L2.gf_of KX G ?qye ?qze ?qaf ?qbf, L2.gf_of KX G ?qcf ?qdf ?qef ?qff, L2.gf_of KX G ?qgf ?qhf ?qif ?qjf, L2.gf_of KX G ?qkf ?qlf ?qmf ?qnf, L2.gf_of KX G ?qof ?qpf ?qqf ?qrf, L2.gf_of KX G ?qsf ?qtf ?quf ?qvf, L2.gf_of KX G ?qwf ?qxf ?qyf ?qzf, L2.gf_of KX G ?qag ?qbg ?qcg ?qdg, L2.gf_of KX G ?qeg ?qfg ?qgg ?qhg, L2.gf_of KX G ?qig ?qjg ?qkg ?qlg, L2.gf_of KX G ?qmg ?qng ?qog ?qpg, L2.gf_of KX G ?qqg ?qrg ?qsg ?qtg, L2.gf_of KX G ?qug ?qvg ?qwg ?qxg, L2.gf_of KX G ?qyg ?qzg ?qah ?qbh, L2.gf_of KX G ?qch ?qdh ?qeh ?qfh, L2.gf_of KX G ?qgh ?qhh ?qih ?qjh, L2.gf_of KX G ?qkh ?qlh ?qmh ?qnh, L2.gf_of KX G ?qoh ?qph ?qqh ?qrh, L2.gf_of KX G ?qsh ?qth ?quh ?qvh, L2.gf_of KX G ?qwh ?qxh ?qyh ?qzh⟩ ?qaa ?qai ?qbi ?qci ?qdi (L2.if_of ?qpa ?qqa ?qra ?qsa ?qta ?qei ?qfi) (L2.mf_of ?qua ?qva ?qwa ?qxa ?qya) (L2.mf_of ?qza ?qab ?qbb ?qcb ?qdb) (L2.mf_of ?qeb ?qfb ?qgb ?qhb ?qib) (L2.mf_of ?qjb ?qkb ?qlb ?qmb ?qnb) (L2.mf_of ?qob ?qpb ?qqb ?qrb ?qsb) ?qgi ?qhi ?qba ?qii ?qji ?qki ?qli (L2.if_of ?qtb ?qub ?qvb ?qwb ?qxb ?qmi ?qni) (L2.mf_of ?qyb ?qzb ?qac ?qbc ?qcc) ?qoi ?qpi ?qqi ?qri ?qsi ?qti ?qui ?qvi ?qwi ?qxi ?qyi ?qzi ?qaj ?qca ?qbj ?qcj ?qdj ?qej (L2.if_of ?qpc ?qqc ?qrc ?qsc ?qtc ?qfj ?qgj) ?qhj ?qij ?qjj ?qkj ?qlj ?qmj ?qnj ?qoj ?qpj ?qqj ?qrj ?qsj ?qtj ?quj ?qvj ?qwj ?qxj ?qyj ?qzj ?qak ?qbk ?qck ?qdk ?qek ?qfk ?qgk ?qhk ?qik ?qjk ?qkk ?qlk ?qmk ?qnk ?qok ?qpk ?qqk ?qrk ?qsk ?qtk ?quk ?qvk ?qwk ?qxk ?qyk ?qzk ?qal ?qbl ?qcl ?qdl ?qel ?qfl ?qgl ?qhl ?qil ?qjl ?qkl ?qll ?qml ?qnl ?qol ?qpl)
    case qaa | qba | qca | qda | qea | qfa | qga | qha | qia | qja | qka | qla | qma | qna | qoa | qpa | qqa | qra | qsa | qta | qua | qva | qwa | qxa | qya | qza | qab | qbb | qcb | qdb | qeb | qfb | qgb | qhb | qib | qjb | qkb | qlb | qmb | qnb | qob | qpb | qqb | qrb | qsb | qtb | qub | qvb | qwb | qxb | qyb | qzb | qac | qbc | qcc | qdc | qec | qfc | qgc | qhc | qic | qjc | qkc | qlc | qmc | qnc | qoc | qpc | qqc | qrc | qsc | qtc | quc | qvc | qwc | qxc | qyc | qzc | qad | qbd | qcd | qdd | qed | qfd | qgd | qhd | qid | qjd | qkd | qld | qmd | qnd | qod | qpd | qqd | qrd | qsd | qtd | qud | qvd | qwd | qxd | qyd | qzd | qae | qbe | qce | qde | qee | qfe | qge | qhe | qie | qje | qke | qle | qme | qne | qoe | qpe | qqe | qre | qse | qte | que | qve | qwe | qxe | qye | qze | qaf | qbf | qcf | qdf | qef | qff | qgf | qhf | qif | qjf | qkf | qlf | qmf | qnf | qof | qpf | qqf | qrf | qsf | qtf | quf | qvf | qwf | qxf | qyf | qzf | qag | qbg | qcg | qdg | qeg | qfg | qgg | qhg | qig | qjg | qkg | qlg | qmg | qng | qog | qpg | qqg | qrg | qsg | qtg | qug | qvg | qwg | qxg | qyg | qzg | qah | qbh | qch | qdh | qeh | qfh | qgh | qhh | qih | qjh | qkh | qlh | qmh | qnh | qoh | qph | qqh | qrh | qsh | qth | quh | qvh | qwh | qxh | qyh | qzh | qai | qbi | qci | qdi | qei | qfi | qgi | qhi | qii | qji | qki | qli | qmi | qni | qoi | qpi | qqi => k_is
    case qri | qsi | qti | qui | qvi | qwi | qxi | qyi | qzi | qaj => first | k_is | kit_is | kernel_rfl
    case qbj | qcj | qdj | qej | qfj | qgj | qhj | qij | qjj | qkj | qlj | qmj | qnj | qoj | qpj | qqj | qrj | qsj | qtj | quj | qvj | qwj | qxj => k_is
    case qyj => (unfold L2.ExcC; first | k_exc | k_is | kernel_rfl)
    case qzj | qak | qbk => k_is
    case qck | qdk | qek => first | kit_is | k_is | kernel_rfl
    case qfk => k_is
    case qgk => (unfold L2.ExcC; first | k_exc | k_is | kernel_rfl)
    case qhk | qik | qjk => k_is
    case qkk | qlk | qmk => first | kit_is | k_is | kernel_rfl
    case qnk | qok | qpk | qqk => k_is
    case qrk | qsk | qtk | quk | qvk | qwk | qxk => first | kit_is | k_is | kernel_rfl
    case qyk | qzk | qal | qbl => k_is
    case qcl => first | kernel_rfl | (unfold L2.TupK; kernel_rfl)
    case qdl | qel => k_is
    case qfl => first | kernel_rfl | (unfold L2.TupK; kernel_rfl)
    case qgl => k_is
    case qhl => first | kernel_rfl | (unfold L2.TupK; kernel_rfl)
    case qil => k_is
    case qjl => first | kernel_rfl | (unfold L2.TupK; kernel_rfl)
    case qkl => k_is
    case qll => first | kernel_rfl | (unfold L2.TupK; kernel_rfl)
    case qml => k_is
    case qnl => first | kernel_rfl | (unfold L2.TupK; kernel_rfl)
    case qol => k_is
    case qpl => first | kernel_rfl | (unfold L2.TupK; kernel_rfl)
