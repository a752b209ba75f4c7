import PyProof.Rows.All
import Wide.All
import OpenK.AllK
import Wide.FinOn
import Lean
import PyProof.EqAt
import PyProof.EqKinds
import PyProof.TupleCall
import PyProof.StrLawsTight
import PyProof.StrLawsChain
import KE.KSortTup
import PyProof.EnumIter
import PyProof.EnumMake
import PyProof.EnumFor
import KE.KDictOf
import PyProof.AttrMissHeap
import PyProof.Walks
import PyProof.WalksMore
import PyProof.P3In
import PyProof.DictIter
import PySem.Challenge.RW_turnstack_k20_rules_that_may_be_put
set_option Elab.async false
set_option linter.all false
set_option maxRecDepth 100000
inductive Ex2 {A1 A2 : Type} (p : A1 → A2 → Prop) : Prop
  | mk (a1 : A1) (a2 : A2) (h : p a1 a2) : Ex2 p
inductive Ex3 {A1 A2 A3 : Type} (p : A1 → A2 → A3 → Prop) : Prop
  | mk (a1 : A1) (a2 : A2) (a3 : A3) (h : p a1 a2 a3) : Ex3 p
inductive Ex4 {A1 A2 A3 A4 : Type} (p : A1 → A2 → A3 → A4 → Prop) : Prop
  | mk (a1 : A1) (a2 : A2) (a3 : A3) (a4 : A4) (h : p a1 a2 a3 a4) : Ex4 p
inductive Ex5 {A1 A2 A3 A4 A5 : Type} (p : A1 → A2 → A3 → A4 → A5 → Prop) : Prop
  | mk (a1 : A1) (a2 : A2) (a3 : A3) (a4 : A4) (a5 : A5) (h : p a1 a2 a3 a4 a5) : Ex5 p
inductive Ex6 {A1 A2 A3 A4 A5 A6 : Type} (p : A1 → A2 → A3 → A4 → A5 → A6 → Prop) : Prop
  | mk (a1 : A1) (a2 : A2) (a3 : A3) (a4 : A4) (a5 : A5) (a6 : A6) (h : p a1 a2 a3 a4 a5 a6) : Ex6 p
inductive Ex7 {A1 A2 A3 A4 A5 A6 A7 : Type} (p : A1 → A2 → A3 → A4 → A5 → A6 → A7 → Prop) : Prop
  | mk (a1 : A1) (a2 : A2) (a3 : A3) (a4 : A4) (a5 : A5) (a6 : A6) (a7 : A7) (h : p a1 a2 a3 a4 a5 a6 a7) : Ex7 p
inductive Ex8 {A1 A2 A3 A4 A5 A6 A7 A8 : Type} (p : A1 → A2 → A3 → A4 → A5 → A6 → A7 → A8 → Prop) : Prop
  | mk (a1 : A1) (a2 : A2) (a3 : A3) (a4 : A4) (a5 : A5) (a6 : A6) (a7 : A7) (a8 : A8) (h : p a1 a2 a3 a4 a5 a6 a7 a8) : Ex8 p
inductive Ex9 {A1 A2 A3 A4 A5 A6 A7 A8 A9 : Type} (p : A1 → A2 → A3 → A4 → A5 → A6 → A7 → A8 → A9 → Prop) : Prop
  | mk (a1 : A1) (a2 : A2) (a3 : A3) (a4 : A4) (a5 : A5) (a6 : A6) (a7 : A7) (a8 : A8) (a9 : A9) (h : p a1 a2 a3 a4 a5 a6 a7 a8 a9) : Ex9 p
inductive Ex10 {A1 A2 A3 A4 A5 A6 A7 A8 A9 A10 : Type} (p : A1 → A2 → A3 → A4 → A5 → A6 → A7 → A8 → A9 → A10 → Prop) : Prop
  | mk (a1 : A1) (a2 : A2) (a3 : A3) (a4 : A4) (a5 : A5) (a6 : A6) (a7 : A7) (a8 : A8) (a9 : A9) (a10 : A10) (h : p a1 a2 a3 a4 a5 a6 a7 a8 a9 a10) : Ex10 p
inductive Ex11 {A1 A2 A3 A4 A5 A6 A7 A8 A9 A10 A11 : Type} (p : A1 → A2 → A3 → A4 → A5 → A6 → A7 → A8 → A9 → A10 → A11 → Prop) : Prop
  | mk (a1 : A1) (a2 : A2) (a3 : A3) (a4 : A4) (a5 : A5) (a6 : A6) (a7 : A7) (a8 : A8) (a9 : A9) (a10 : A10) (a11 : A11) (h : p a1 a2 a3 a4 a5 a6 a7 a8 a9 a10 a11) : Ex11 p
inductive Ex13 {A1 A2 A3 A4 A5 A6 A7 A8 A9 A10 A11 A12 A13 : Type} (p : A1 → A2 → A3 → A4 → A5 → A6 → A7 → A8 → A9 → A10 → A11 → A12 → A13 → Prop) : Prop
  | mk (a1 : A1) (a2 : A2) (a3 : A3) (a4 : A4) (a5 : A5) (a6 : A6) (a7 : A7) (a8 : A8) (a9 : A9) (a10 : A10) (a11 : A11) (a12 : A12) (a13 : A13) (h : p a1 a2 a3 a4 a5 a6 a7 a8 a9 a10 a11 a12 a13) : Ex13 p
inductive Ex14 {A1 A2 A3 A4 A5 A6 A7 A8 A9 A10 A11 A12 A13 A14 : Type} (p : A1 → A2 → A3 → A4 → A5 → A6 → A7 → A8 → A9 → A10 → A11 → A12 → A13 → A14 → Prop) : Prop
  | mk (a1 : A1) (a2 : A2) (a3 : A3) (a4 : A4) (a5 : A5) (a6 : A6) (a7 : A7) (a8 : A8) (a9 : A9) (a10 : A10) (a11 : A11) (a12 : A12) (a13 : A13) (a14 : A14) (h : p a1 a2 a3 a4 a5 a6 a7 a8 a9 a10 a11 a12 a13 a14) : Ex14 p
inductive Ex15 {A1 A2 A3 A4 A5 A6 A7 A8 A9 A10 A11 A12 A13 A14 A15 : Type} (p : A1 → A2 → A3 → A4 → A5 → A6 → A7 → A8 → A9 → A10 → A11 → A12 → A13 → A14 → A15 → Prop) : Prop
  | mk (a1 : A1) (a2 : A2) (a3 : A3) (a4 : A4) (a5 : A5) (a6 : A6) (a7 : A7) (a8 : A8) (a9 : A9) (a10 : A10) (a11 : A11) (a12 : A12) (a13 : A13) (a14 : A14) (a15 : A15) (h : p a1 a2 a3 a4 a5 a6 a7 a8 a9 a10 a11 a12 a13 a14 a15) : Ex15 p
set_option maxHeartbeats 0
noncomputable section
open PySem renaming wpAny_bind→yaa,wpAny_pure→yfa,sizeLine→yta,mainGlobals→yza,boot_len→ymb,Program→ytb,wpAny_holding→yxb,starEach→yic,NameKind→yjc,wpAny_setField_rec→ylc,wpAny_callSpecial?_slot→yoc,strKind→ypc,wpAny_call_entry→yqc,wpAny_newObj_type→ytc,compareOp→yxc,wpAny_truthy_bool→yad,wpAny_mono→ymd,wpAny_field→yyd,wpAny_setState_of→yhe,FuncData→ype,SetTable→yef,wpAny_passesOwn→ygf,slot_dict_getitem→ymf,Builtin→ysf,mem_of_lookup→yuf,wpAny_getItem_str_slice→ywf,bootBuiltins→ydg,sliceBounds→ygg,codeAny_builtin→yig,assignEach→ypg,wpAny_askSetting→ych,wpAny_pyIter_tuple→yjh,binaryOp→ykh,wpAny_Call_Name_kw→ylh,wpAny_ite_split→ymh,wpAny_pyIter_list→yuh,wpAny_rule→yxh,codeAny_mono→yci,attributeBase→yki,plainId_quiet→yli,call_meets→yoi,wpAny_execs_nil→yri,letOwnedTupleGo→ysi,codeAny→yvi,post_val_or_str→ywi,pickOrder→yxi,firstArgMember→ysj,foldedSetIterable→yyj,wpAny_sequenceKey→ybk,slot_list_getitem→yck,typeIs_str→ydk,wpAny_getItem_list_slice→yek,wpAny_comprehension_free→yfk,scanBound→yik,fits_of_scanBound→yjk,seqItems?→ylk,wpAny_standAt→ysk,behindInMarks→ytk,keywordEach→yuk,setField→yyk,wpAny_attempt→yzk,wpAny_isInstance→yel,wpAny_pyNext_list_item→yhl,Within→yml,wpAny_pyNext_list_end→ynl,builtinLookup_eq_fast→ybm,setNext→ycm,relayAll→yim,setsByText→yjm,sliceRange_one→ynm,isSubtype_type→yom,wpAny_newTuple→ypm,holding→ysm,evalPart_none→ydn,wpAny_newList→yin,wpAny_load→ynn,BindsTo→yqn,Keyword→yrn,getItem→ysn,callerA→ytn,relabel→yun,ElemsOf→yvn,isInstance→yxn,wpAny_typeOf→yco,Operator→ylo,backToKw→ymo,raiseNew→yno,swapsWith→yoo,getMethod→ypo,slicePick→yro,notedBy→yso,putSet_of→yuo,call→yhp
open PySem.W renaming Frag→yba,findIn→yab,nsIn→ynb,kitOne→ywb,mg_none_of→ydc,mg_of→yuc,kia_one→yfd,emptyDict→ygd,keepIn→yee,instObj→yje,plainGet→yse,hasDictIn→yhf,fnOf→ynf,plainOver→yqg,codeIn→yvg,specialIn→yvh,plainGet_of→yui,isFn→yjj,callWith_K→ykj,lookIn→yqj,methodObj→yxj,cellsFrom_some→yil,takerIn→yol,makesIn→ypl,takesIn→yrl,methodCall_KW→ysl,OpenLaw→ywl,mroIn→ycn,kitx_list→yon,kitx_dict→ypn,handedIn→ygo,WalkO→yip
open PySem.Heap renaming get?_push_of_some→yca,get?_push_size→yoa,lt_size→yqa,SameBut→ywc,get?_update_other→yod,get?_update_self→yvd,size_push→ybf,ExtBut→yap
open List renaming length_map→yda,length_append→yea,length_cons→yga,mem_cons→yha,mem_cons_self→yia,mem_singleton→yja,size_toArray→yka,getElem?_eq_some_iff→yla,mem_cons_of_mem→yna,take_of_length_le→ysa,map_cons→yva,getElem?_eq_getElem→ywa,mem_map→ybb,length_take→ydb,mem_append→yhb,map_append→yib,take_add_one→ykb,mem_of_getElem?→yob,cons_ne_nil→ypb,length_filter_le→yqb,getD_eq_getElem?_getD→yrb,append_nil→ysb,getElem?_map→yvb,getElem?_cons_succ→yyb,filter_cons_of_pos→yzb,filter_cons_of_neg→yac,mem_append_right→ybc,getElem?_append_right→yec,filter_append→ymc,replicate→yrc,cons_lt_cons_iff→yyc,not_mem_nil→yzc,Nodup→ycd,flatten_cons→yhd,length_drop→ynd,range→ypd,lookup→yqd,append_assoc→yrd,getElem?_append_left→ytd,lookup_cons→yzd,getElem?_cons_zero→ybe,nodup_cons→yle,all_eq_true→yue,getElem_map→yve,length_singleton→ywe,getElem?_drop→yxe,sum_cons→yze,map_nil→ypf,map_map→yqf,filterMap_cons→yrf,replicate_succ→yvf,length_eq_zero_iff→yxf,pairwise_singleton→yzf,length→yeg,length_replicate→yfg,getElem?_eq_none→yjg,length_range→yrg,flatMap_cons→ysg,mem_append_left→yug,pairwise_iff_getElem→yzg,map_congr_left→yeh,append_eq_nil_iff→yrh,reverse_cons→ywh,drop_zero→yzh,drop_drop→yai,map→ybi,take_append_drop→yei,cons_append→yfi,mem_flatMap→yhi,mem_of_mem_take→yji,lt_trans→ymi,mem_filter→yqi,flatten_append→ycj,length_nil→ydj,filter_nil→yfj,length_eraseIdx_of_lt→yij,filterMap_map→ylj,mem_range→ypj,drop_eq_getElem_cons→yvj,drop_left→ywj,getElem?_take_of_lt→yzj,nodup_append→yqk,pairwise_map→yrk,getElem?_replicate→yvk,take_length→yfl,getElem?_set_self→ygl,of_mem_zip→ytl,nil_append→yvl,Perm→yzl,getElem?_toArray→ydm,contains_iff_mem→yhm,getElem?_set_ne→ylm,getElem?_of_mem→ymm,flatMap_append→yxm,mem_filterMap→ybn,any_cons→ygn,pairwise_cons→yln,sum_nil→yeo,getElem_mem→yio,le_antisymm→yjo,map_fst_zip→yko,not_lt→yyo,drop→ybp,filter→yep,foldl→ygp
open Nat renaming le_refl→yma,lt_of_lt_of_le→ypa,le_trans→yxa,ne_of_lt→yeb,zero_le→ylb,lt_irrefl→ysd,le_of_lt→yde,lt_or_ge→yye,le_succ→ytf,lt_succ_self→ybh,ne_of_gt→ygh,lt_succ_of_lt→yyh,add_le_add_right→yii,sub_self→yoj,add_sub_cancel_left→ycl,lt_of_succ_lt_succ→yll,le_of_eq→yql,sub_zero→ygm
open PySem.Str renaming join→yra,ofString→yof,length_append→yzn,empty→yqo,length→yfp
open Bool renaming false_ne_true→yua,and_eq_true→yhc,false_and→yed,eq_false_iff→yjd,true_and→yud,false_eq_true→yxd,and_false→yxg,eq_iff_iff→yti,false_or→ymn,true_or→yfo
open Array renaming length_toList→yya,getElem?_eq_getElem→yjb,getElem?_toList→ycc,toArray_toList→yae,toList_append→yyf,getD_eq_getD_getElem?→yhg,perm_iff_toList_perm→ytg,getElem?_eq_none→yph,toList_inj→ygi,size_append→yok,append_assoc→yan,toList_push→ywn
open PySem.F renaming plainAttrs_list→ycb,slot_list_append→yfb,type_list_append→ygb,plainAttrs_str→ydd,called_set→ykd,slot_tuple_iterator_next→yqe,slot_enumerate_next→ykg,slot_str_join→ymg,type_str_join→yng,slot_str_split→ysh,type_str_split→yth,args_tuple_iterator_next_1→yni,entry_tuple_iterator_next→yaj,args_str_split_2→ymj,plain_extend_loop→ytj,args_tuple_add_2→yak,entry_str_split→ygk,entry_tuple_add→ywk,plain_list_iadd→yal,args_enumerate_next_1→ybl,slot_str_split→ydl,slot_tuple_add→yjl,entry_enumerate_next→ykl,plain_set_new→yam,slot_set_iter→yem
open Ne renaming symm→yub
open Option.some renaming inj→yfc
open PySem.PassesOwn renaming never→ygc
open Option renaming toList_some→ykc,getD_none→yho
open PySem.Builtin.Str renaming occurrences→ync,strSliceIndices→yoe,partsBetween→ylf,strKind→ydh
open Int renaming toNat_natCast→ysc,emod_lt_of_pos→ynh,emod_nonneg→yej,le_refl→ycp
open PyProof.Rows renaming wpS_bind→yvc,wpS_pure→yce,callWith_type1→yke,slot_tuple_getitem→yif,boot_isinstance→ylg,subscriptTail_builtinR→yoh,wpS_forRange→ydi,pairsOf_size→ynj,boot_tuple→ypk,StrsAre→yxk,IntsAre→yul,pendingOf→yfm,SortKind→ykm,pairsOf_toList→yqm,AllBare→yrm,sortedS→yum,pairsOf→yvm,boot_sorted→ywm,subscriptTail→yfn,listUpdate_at→yjn,mem_zip_self→ydo,sortedAll→ywo,wpS_get→yxo,boot_list→ydp
open PySem.SeqAt renaming EqAt→ybd,shaped→yid,canLay_of_shaped→yqh
open PySem.PyData renaming depthAll→ywd,canLay0→yge,canLayAll0→yie,eqvAll→yaf,eqv→ycg,depth→yih
open PyProof.Rows.F renaming plain_set_update_loop→yfe,entry_set_update_loop→yyg
open PySem.Txt renaming split→yme,slice→yxl,slice_le→yyl
open PySem.Heap.SameBut renaming update→yne,refl→yhk
open False renaming elim→yre
open PySem.Obj renaming mapSeq→yte,putSet→ykk,data_mapFields→ykn
open PySem.Builtin.Slice renaming slicePlaces→ycf,sliceAdjust→ywg,sliceApplied→yhj
open PySem.Builtin.SmallTypes renaming nextOf→ydf,ownedTupleHandOut→yah,ownedTupleIsFree→yfh
open PySem.Around renaming under_plainId→yff,under→yao
open PySem.Builtin.Tuple renaming tupleExact→yjf
open PySem.Builtin.List renaming listTooLong→ykf,listLengthHint→yyi,listExtendWith→yzi,listSameRef→ymk
open PySem.SetTable renaming grown→yag,below→ybg
open PySem.Value renaming isStrOf→yog,isStrOf_shape→ypi
open PyProof.Rows.KTD renaming datLooks→yhh,datumAt→ytm,TextTab→yto,tabLook→yvo,Dat→yjp
open List.cons renaming injEq→ybj
open PySem.Calls renaming Name_function_global→ygj,call_function_entry→yuj
open List.Perm renaming refl→yrj,eq_of_pairwise→ynk
open PySem.SeqAt.EqAt renaming int_str→yym,str_int→yzm
open PySem.Heap.IsSliceOf renaming new→yen
open PySem.Shared renaming TypeIs→yhn
open PySem.SetTable.below renaming go→yyn
open PySem.Code renaming isFrame→ybo
open Array.Perm renaming refl→yzo
open PyProof.Rows.IsTup renaming new→ykp
open PySem.pickOrder renaming go→ylp
namespace L2
open PySem PySem.Spec PyProof.Rows
abbrev Key:=Sum Int Str
def zrpb:Key->Value->Bool
 | .inl k,v=>Value.isInt k v
 | .inr x,v=>yog x v
def keyH (w:World):Key->Int
 | .inl k=>hashInt k
 | .inr x=>hashStr w x
theorem ztd:∀{k:Key} {v:Value},zrpb k v=true->(Ex2 λi t=>k=Sum.inl i∧v=Value.int i t)∨(Ex2 λx t=>k=Sum.inr x∧v=Value.str x t)
 | .inl i,v,h=>by
  obtain⟨t,e⟩:=Value.isInt_shape (k:=i) (v:=v) h;exact .inl ⟨i,t,rfl,e⟩
 | .inr x,v,h=>by
  obtain⟨t,e⟩:=ypi (x:=x) (v:=v) h;exact .inr ⟨x,t,rfl,e⟩
theorem zqpb (a b:Int):decide ((Sum.inl a:Key)=Sum.inl b)=(a==b):=by
 by_cases e:a=b
 ·subst e;simp
 ·have h:¬ (Sum.inl a:Key)=Sum.inl b:=λq=>e (Sum.inl.inj q);rw[decide_eq_false h];exact (beq_eq_false_iff_ne.mpr e).symm
theorem znpb (a b:Str):decide ((Sum.inr a:Key)=Sum.inr b)=decide (a=b):=by
 by_cases e:a=b
 ·subst e;simp
 ·have h:¬ (Sum.inr a:Key)=Sum.inr b:=λq=>e (Sum.inr.inj q);rw[decide_eq_false h,decide_eq_false e]
theorem zppb (a:Int)(b:Str):decide ((Sum.inl a:Key)=Sum.inr b)=false:=decide_eq_false (λq=>nomatch q)
theorem zopb (a:Str)(b:Int):decide ((Sum.inr a:Key)=Sum.inl b)=false:=decide_eq_false (λq=>nomatch q)
def zlz (prog:ytb)(w:World):PySem.KeyKind prog w Key where
 is:=zrpb
 hash:=keyH w
 inj:=λv a b ha hb=>by
  rcases ztd ha with⟨i,t,rfl,rfl⟩|⟨x,t,rfl,rfl⟩
  ·rcases ztd hb with⟨j,u,rfl,e⟩|⟨y,u,rfl,e⟩
   ·injection e with e1 _;rw[e1]
   ·exact nomatch e
  ·rcases ztd hb with⟨j,u,rfl,e⟩|⟨y,u,rfl,e⟩
   ·exact nomatch e
   ·injection e with e1 _;rw[e1]
 byValue:=λk v h=>by
  rcases ztd h with⟨i,t,rfl,rfl⟩|⟨x,t,rfl,rfl⟩<;>rfl
 pyHash:=λhv h=>by
  rcases ztd hv with⟨i,t,rfl,rfl⟩|⟨x,t,rfl,rfl⟩
  ·exact wpAny_pyHash_int h
  ·exact wpAny_pyHash_str h
 eqBool:=λhu hv h=>by
  rcases ztd hu with⟨i,t,rfl,rfl⟩|⟨x,t,rfl,rfl⟩
  ·rcases ztd hv with⟨j,u,rfl,rfl⟩|⟨y,u,rfl,rfl⟩
   ·rw[zqpb] at h;exact wpAny_eqBool_int h
   ·rw[zppb] at h;exact yym i t y u _ _ _ _ h
  ·rcases ztd hv with⟨j,u,rfl,rfl⟩|⟨y,u,rfl,rfl⟩
   ·rw[zopb] at h;exact yzm x t j u _ _ _ _ h
   ·rw[znpb] at h;exact wpAny_eqBool_str h
 «strs»:=λk x t v h=>by
  rcases ztd h with⟨i,u,rfl,e⟩|⟨y,u,rfl,e⟩
  ·exact nomatch e
  ·injection e with e1 _
   subst e1;cases v<;>rfl
end L2
namespace L2
open PySem PySem.Spec PyProof.Rows
inductive V where
 | non|bl (b:Bool)|int (i:Int)|str (x:Str)|byt (b:Array UInt8)|flt (b:UInt64)|ref (a:Addr)|ty (n:String)
 deriving DecidableEq
def RelV:V->Value->Prop
 | .non,u=>u=Value.none
 | .bl b,u=>u=Value.bool b
 | .int i,u=>∃t,u=Value.int i t
 | .str x,u=>∃t,u=Value.str x t
 | .byt b,u=>∃t,u=Value.bytes b t
 | .flt b,u=>∃t,u=Value.float b t
 | .ref a,u=>u=Value.ref a
 | .ty n,u=>u=Value.type n
abbrev Vals:List V->List Value->Prop:=Paired RelV
theorem Vals.length {xs:List V}{us:List Value}(r:Vals xs us):xs.length=us.length:=Paired.length r
theorem Vals.get:∀{xs:List V} {us:List Value} {i:Nat} {x:V},Vals xs us->xs[i]?=some x->∃u,us[i]?=some u∧RelV x u
 | _,_,_,_,.nil,e=>by simp at e
 | _,_,0,_,.cons r _,e=>by simp at e;subst e;exact⟨_,rfl,r⟩
 | _,_,i+1,x,.cons _ t,e=>by
  obtain⟨u,h1,h2⟩:=Vals.get (i:=i) (x:=x) t (by simpa using e);exact⟨u,by simpa using h1,h2⟩
theorem Vals.set {x:V}{u:Value}(r:RelV x u):∀{xs:List V} {us:List Value} (i:Nat),Vals xs us->Vals (xs.set i x) (us.set i u)
 | _,_,_,.nil=>.nil
 | _,_,0,.cons _ t=>.cons r t
 | _,_,i+1,.cons q t=>.cons q (Vals.set r i t)
theorem Vals.append:∀{xs ys:List V} {us ws:List Value},Vals xs us->Vals ys ws->Vals (xs++ys) (us++ws)
 | _,_,_,_,.nil,s=>s
 | _,_,_,_,.cons r t,s=>.cons r (Vals.append t s)
theorem Vals.take:∀{xs:List V} {us:List Value} (n:Nat),Vals xs us->Vals (xs.take n) (us.take n)
 | _,_,0,_=>.nil
 | _,_,_+1,.nil=>.nil
 | _,_,n+1,.cons r t=>.cons r (Vals.take n t)
theorem Vals.drop:∀{xs:List V} {us:List Value} (n:Nat),Vals xs us->Vals (xs.drop n) (us.drop n)
 | _,_,0,r=>r
 | _,_,_+1,.nil=>.nil
 | _,_,n+1,.cons _ t=>Vals.drop n t
def RelO:Option V->Option Value->Prop
 | some v,some u=>RelV v u
 | none,none=>True
 | _,_=>False
def KV {κ:Type}:List (κ×V)->List (κ×Value)->Prop:=Paired λ(p:κ×V) (q:κ×Value)=>p.1=q.1∧RelV p.2 q.2
def kV:Key->V
 | .inl i=>.int i
 | .inr x=>.str x
inductive HO where
 | lst (xs:List V)
 | tup (xs:List V)
 | dK (kvs:List (Key×V))|dT (kvs:List (List Key×V))
 | set (S:Int->Bool) (n:Nat)
 | ins (C dx:Addr) (fs:List (Str×V))
 | own (x:Addr)
 | xd (fs:List (Str×V))
 | met (f x:Addr)
 | rng (lo hi:Int)
 | frz (o:Obj) (u:HO)
 | tbl (ps:Array Value)
 | ext (φ:Heap->Prop)
abbrev Hp:=Addr->Option HO
def upd (H:Hp)(a:Addr)(o:HO):Hp:=λb=>if b=a then some o else H b
theorem zga {H:Hp}{a:Addr}{o:HO}:upd H a o a=some o:=by unfold upd;rw[if_pos rfl]
theorem zva {H:Hp}{a b:Addr}{o:HO}(h:b≠a):upd H a o b=H b:=by unfold upd;rw[if_neg h]
theorem zwj {H:Hp}{a:Addr}{o u:HO}:upd (upd H a o) a u=upd H a u:=by
 funext b;unfold upd;split<;>rfl
theorem zel {H:Hp}{a b:Addr}{o u:HO}(h:H a=some o)(h':H b=some u)(d:o≠u):a≠b:=by
 intro e;subst e;rw[h] at h';exact d (yfc h')
theorem zka {H:Hp}{a b:Addr}{o:HO}(h:H a=some o)(h':H b=none):a≠b:=by
 intro e;subst e;rw[h] at h';cases h'
section
variable (P:ytb)(w:World)
def zwi (H:Hp)(h:Heap)(a:Addr):HO->Prop
 | .lst xs=>xs.length≤yta∧Ex2 λ(its:List Value) (n:Nat)=>Vals xs its∧h.get? a=some { cls:=.type "list",data:=.seq its.toArray n }
 | .tup xs=>xs.length≤yta∧∃its:List Value,Vals xs its∧IsTup h a its.toArray
 | .dK kvs=>kvs.length≤yta∧(a==sysModules)=false∧∃vs,KV kvs vs∧h.DictOf (zlz P w) a vs
 | .dT kvs=>kvs.length≤yta∧(a==sysModules)=false∧∃xs:List (List Key×Addr×Value),
   Paired (λ(p:List Key×V) (q:List Key×Addr×Value)=>p.1=q.1∧H q.2.1=some (.tup (p.1.map kV))∧RelV p.2 q.2.2) kvs xs ∧
   Ex3 λo es ep=>h.get? a=some o∧o.ExactDict∧o.data = .dict es ep∧es.toList=xs.map (entryOfKey (tupleKind (zlz P w)))∧(xs.map (·.1)).Nodup
 | .set S n=>h.SetOf (intKind P w) a S n
 | .ins C dx fs=>H dx=some (.own a)∧fs.length≤1000∧dx≠a∧h.get? a=some (yje C dx) ∧
   ∃mA,h.Ns1 dx mA∧(∀f,RelO (fs.lookup f) (mA f))∧yml mA (fs.map (·.1))
 | .own _=>∃o,h.get? a=some o
 | .xd fs=>∃mA,h.Ns1 a mA∧∀f,RelO (fs.lookup f) (mA f)
 | .rng lo hi=>Ex3 λt u v=>h.get? a=some { cls:=.type "range",data:=.fields #[.int lo t,.int hi u,.int 1 v] }
 | .frz o u=>h.get? a=some o∧zwi H h a u
 | .tbl ps=>h.get? a=some { cls:=.none,data:=.fields ps }
 | .met f x=>h.get? a=some (yxj (.ref f) (.ref x))
 | .ext φ=>φ h∧(∃o,h.get? a=some o)∧∀h1 h2:Heap,φ h1->(∀o,h1.get? a=some o->h2.get? a=some o)->φ h2
def HOk (H:Hp)(h:Heap):Prop:=∀a o,H a=some o->zwi P w H h a o
end
section
variable {P:ytb}{w:World}{H H':Hp}{h h':Heap}{a:Addr}{o:HO}
theorem zwi.lt (x:zwi P w H h a o):a<h.objs.size:=by
 cases o with
 | lst xs=>obtain⟨_,_,_,_,e⟩:=x;exact yqa e
 | tup xs=>obtain⟨_,_,_,p⟩:=x;exact p.lt
 | dK kvs=>obtain⟨_,_,_,_,o,_,_,e,_⟩:=x;exact yqa e
 | dT kvs=>obtain⟨_,_,_,_,o,_,_,e,_⟩:=x;exact yqa e
 | set S n=>obtain⟨o,_,_,_,e,_⟩:=x;exact yqa e
 | ins C dx fs=>obtain⟨_,_,_,e,_⟩:=x;exact yqa e
 | own y=>obtain⟨_,e⟩:=x;exact yqa e
 | xd fs=>obtain⟨_,⟨_,_,_,e,_⟩,_⟩:=x;exact yqa e
 | rng lo hi=>obtain⟨_,_,_,e⟩:=x;exact yqa e
 | frz ob u=>obtain⟨e,_⟩:=x;exact yqa e
 | tbl ps=>exact yqa (show h.get? a=some _ from x)
 | met f y=>exact yqa (show h.get? a=some _ from x)
 | ext φ=>obtain⟨_,⟨_,e⟩,_⟩:=x;exact yqa e
theorem Paired.mapP {α β:Type}{F G:α->β->Prop}:∀{l₁:List α} {l₂:List β},Paired F l₁ l₂->(∀a b,F a b->G a b)->Paired G l₁ l₂
 | _,_,.nil,_=>.nil
 | _,_,.cons r t,f=>.cons (f _ _ r) (Paired.mapP t f)
theorem zwi.stay (x:zwi P w H h a o)(k:∀b u,(b=a∨H b=some (.own a))->h.get? b=some u->h'.get? b=some u)
  (ho:∀b,H b=some (.own a)->H' b=some (.own a)) (ht:∀b xs,H b=some (.tup xs)->H' b=some (.tup xs)):zwi P w H' h' a o:=by
 induction o with
 | lst xs=>obtain⟨z,its,n,r,e⟩:=x;exact⟨z,its,n,r,k _ _ (.inl rfl) e⟩
 | tup xs=>obtain⟨z,its,r,ob,e,c⟩:=x;exact⟨z,its,r,ob,k _ _ (.inl rfl) e,c⟩
 | dK kvs=>obtain⟨z,y,vs,r,ob,es,ep,e,c⟩:=x;exact⟨z,y,vs,r,ob,es,ep,k _ _ (.inl rfl) e,c⟩
 | dT kvs =>
  obtain⟨z,y,xs,r,ob,es,ep,e,c⟩:=x;exact⟨z,y,xs,Paired.mapP r λp q z=>⟨z.1,ht _ _ z.2.1,z.2.2⟩,ob,es,ep,k _ _ (.inl rfl) e,c⟩
 | set S n=>obtain⟨ob,es,ep,t,e,c⟩:=x;exact⟨ob,es,ep,t,k _ _ (.inl rfl) e,c⟩
 | ins C dx fs =>
  obtain⟨d,z,ne,e,mA,⟨od,es,ep,e2,c⟩,r⟩:=x;exact⟨ho _ d,z,ne,k _ _ (.inl rfl) e,mA,⟨od,es,ep,k _ _ (.inr d) e2,c⟩,r⟩
 | own y=>obtain⟨ob,e⟩:=x;exact⟨ob,k _ _ (.inl rfl) e⟩
 | xd fs=>obtain⟨mA,⟨od,es,ep,e,c⟩,r⟩:=x;exact⟨mA,⟨od,es,ep,k _ _ (.inl rfl) e,c⟩,r⟩
 | rng lo hi=>obtain⟨t,u,v,e⟩:=x;exact⟨t,u,v,k _ _ (.inl rfl) e⟩
 | frz ob u ih=>obtain⟨e,q⟩:=x;exact⟨k _ _ (.inl rfl) e,ih q⟩
 | tbl ps =>
  have e:h.get? a=some { cls:=.none,data:=.fields ps }:=x;show h'.get? a=some { cls:=.none,data:=.fields ps }
  exact k a _ (.inl rfl) e
 | met f y =>
  have e:h.get? a=some (yxj (.ref f) (.ref y)):=x;show h'.get? a=some (yxj (.ref f) (.ref y))
  exact k a _ (.inl rfl) e
 | ext φ=>obtain⟨p,⟨o,e⟩,st⟩:=x;exact⟨st _ _ p λo q=>k _ _ (.inl rfl) q,⟨o,k _ _ (.inl rfl) e⟩,st⟩
theorem HOk.lt (x:HOk P w H h)(e:H a=some o):a<h.objs.size:=(x a o e).lt
theorem HOk.fresh (x:HOk P w H h)(e:h.objs.size≤a):H a=none:=by
 cases q:H a with
 | none=>rfl
 | some u=>exact absurd (ypa (x.lt q) e) (ysd _)
theorem HOk.kept (x:HOk P w H h)(k:∀b u,h.get? b=some u->h'.get? b=some u):HOk P w H h':=λa o e =>
 (x a o e).stay (λb u _ q=>k b u q) (λ_ q=>q) λ_ _ q=>q
theorem HOk.laid (x:HOk P w H h)(k:∀b u,h.get? b=some u->h'.get? b=some u)(hp:h.objs.size≤a)(new:zwi P w (upd H a o) h' a o):HOk P w (upd H a o) h':=λb u e=>by
 have hn:=x.fresh hp
 by_cases hb:b=a
 ·subst hb;rw[zga] at e;cases e;exact new
 ·rw[zva hb] at e;exact (x b u e).stay (λc v _ q=>k c v q) (λc q=>by rw[zva (zka q hn)];exact q) λc xs q=>by rw[zva (zka q hn)];exact q
end
def Rd (H:Hp)(a:Addr)(u:HO):Prop:=H a=some u∨∃o,H a=some (.frz o u)
theorem Rd.ok {P:ytb}{w:World}{H:Hp}{h:Heap}{a:Addr}{u:HO}(r:Rd H a u)(x:HOk P w H h):zwi P w H h a u:=by
 rcases r with r|⟨o,r⟩
 ·exact x a u r
 ·obtain⟨_,q⟩:=x a _ r;exact q
def Mut:Option HO->Prop
 | some (.lst _)=>True
 | some (.dK _)=>True
 | some (.dT _)=>True
 | some (.set _ _)=>True
 | some (.ins _ _ _)=>True
 | some (.ext _)=>True
 | _=>False
section
variable {P:ytb}{w:World}{H:Hp}{h h':Heap}{x e:Addr}{o':HO}
theorem HOk.write (ok:HOk P w H h)(mu:Mut (H x))(he:e=x∨H e=some (.own x))(k:∀b u,b≠e->h.get? b=some u->h'.get? b=some u)(heo:∃u,h'.get? e=some u)
  (new:zwi P w (upd H x o') h' x o'):HOk P w (upd H x o') h':=λb u q=>by
 have nown:∀c y,H c=some (.own y)->c≠x:=λc y r z=>by subst z;rw[r] at mu;exact mu
 have ntup:∀c xs,H c=some (.tup xs)->c≠x:=λc xs r z=>by subst z;rw[r] at mu;exact mu
 by_cases hb:b=x
 ·subst hb;rw[zga] at q;cases q;exact new
 ·rw[zva hb] at q
  by_cases hbe:b=e
  ·have q':H b=some (.own x):=by
    rcases he with z|z
    ·exact absurd (hbe.trans z) hb
    ·rw[hbe];exact z
   rw[q] at q';cases q';obtain⟨v,hv⟩:=heo;exact⟨v,by rw[hbe];exact hv⟩
  ·refine (ok b u q).stay (λc v hc r=>k c v ?_ r) (λc r=>by rw[zva (nown c b r)];exact r) λc xs r=>by rw[zva (ntup c xs r)];exact r
   rcases hc with rfl|hc
   ·exact hbe
   ·rintro rfl
    rcases he with z|z
    ·exact nown c b hc z
    ·rw[hc] at z;cases z;exact hb rfl
end
structure Un (fs ex:List Addr)(H H':Hp)(h h':Heap):Prop where
 keep:∀b o,h.get? b=some o->H b=none->b∉fs->b∉ex->h'.get? b=some o
 slot:∀b o,h.get? b=some o->H b=none->b∈fs->b∉ex->∃sl,h'.get? b=some { o with slots:=sl }
 free:∀b o,h.get? b=some o->H b=none->b∉ex->H' b=none
 there:∀b o,h.get? b=some o->b∉ex->∃o',h'.get? b=some o'
 tups:∀b xs,H b=some (.tup xs)->H' b=some (.tup xs)
 frzs:∀b o u,H b=some (.frz o u)->H' b=some (.frz o u)
 tbls:∀b ps,H b=some (.tbl ps)->∃more,H' b=some (.tbl (ps++more))
section
variable {fs fs' ex ex':List Addr}{H H1 H2:Hp}{h h1 h2 h':Heap}{a x e:Addr}{o:HO}
theorem Un.any (u:Un fs ex H H1 h h1){b:Addr}{ob:Obj}(q:h.get? b=some ob)(n:H b=none)(hx:b∉ex):∃sl,h1.get? b=some { ob with slots:=sl }:=by
 by_cases hb:b∈fs
 ·exact u.slot b ob q n hb hx
 ·exact⟨ob.slots,u.keep b ob q n hb hx⟩
theorem Un.kept (k:∀b u,h.get? b=some u->h'.get? b=some u):Un fs ex H H h h' :=
 ⟨λb ob q _ _ _=>k b ob q,λb ob q _ _ _=>⟨ob.slots,k b ob q⟩,λ_ _ _ n _=>n,λb ob q _=>⟨ob,k b ob q⟩,λ_ _ q=>q,λ_ _ _ q=>q,λ_ ps q=>⟨#[],by rw[q];simp⟩⟩
theorem Un.refl:Un fs ex H H h h:=Un.kept λ_ _ q=>q
theorem Un.laid (k:∀b u,h.get? b=some u->h'.get? b=some u)(hp:h.objs.size≤a)(hn:H a=none):Un fs ex H (upd H a o) h h' where
 keep:=λb u q _ _ _=>k b u q
 slot:=λb u q _ _ _=>⟨u.slots,k b u q⟩
 free:=λb u q n _=>by rw[zva (yeb (ypa (yqa q) hp))];exact n
 there:=λb u q _=>⟨u,k b u q⟩
 tups:=λb xs q=>by rw[zva (zka q hn)];exact q
 frzs:=λb u xs q=>by rw[zva (zka q hn)];exact q
 tbls:=λb ps q=>⟨#[],by rw[zva (zka q hn),q];simp⟩
theorem Un.write (mu:Mut (H x))(he:e=x∨H e=some (.own x))(k:∀b u,b≠e->h.get? b=some u->h'.get? b=some u)(heo:∃u,h'.get? e=some u):Un fs ex H (upd H x o) h h':=by
 have hx:∀b,H b=none->b≠x:=λb n z=>by subst z;rw[n] at mu;exact mu
 have hb:∀b,H b=none->b≠e:=λb n z=>by
  subst z
  rcases he with r|r
  ·exact hx b n r
  ·rw[n] at r;cases r
 have hm:∀b u,H b=some u->¬ Mut (some u)->b≠x:=λb u q nm z=>by subst z;rw[q] at mu;exact nm mu
 refine⟨λb u q n _ _=>k b u (hb b n) q,λb u q n _ _=>⟨u.slots,k b u (hb b n) q⟩,λb u q n _=>by rw[zva (hx b n)];exact n,λb u q _=>?_,
  λb xs q=>by rw[zva (hm b _ q λz=>z)];exact q,λb u xs q=>by rw[zva (hm b _ q λz=>z)];exact q,λb ps q=>⟨#[],by rw[zva (hm b _ q λz=>z),q];simp⟩⟩
 by_cases hbe:b=e
 ·subst hbe;exact heo
 ·exact⟨u,k b u hbe q⟩
end
def trk (h:Heap)(H:Hp):List Addr:=(ypd h.objs.size).filter λa=>(H a).isSome
def hidT (h:Heap)(H:Hp):Heap:=PySem.W.hideAll h (trk h H)
theorem zigb (h:Heap)(H:Hp):(hidT h H).objs.size=h.objs.size:=PySem.W.hideAll_size _ _
theorem zgjb {h:Heap}{H:Hp}{b:Addr}{o:Obj}(e:h.get? b=some o)(n:H b=none):(hidT h H).get? b=some o :=
 PySem.W.hideAll_get _ e λhm=>by
  have q:(H b).isSome=true:=(yqi.mp hm).2;rw[n] at q;simp at q
theorem zgmb {h:Heap}{H:Hp}{b:Addr}{o:Obj}(e:(hidT h H).get? b=some o):h.get? b=some o∧H b=none:=by
 have e':h.get? b=some o:=PySem.W.of_hideAll (trk h H) e;refine⟨e',?_⟩;cases q:H b with
 | none=>rfl
 | some x =>
  have hm:b∈trk h H:=yqi.mpr ⟨ypj.mpr (yqa e'),by simp[q]⟩;have z:(hidT h H).get? b=none:=PySem.W.hideAll_none (trk h H) hm;rw[z] at e;cases e
def zknb (g h:Heap)(L:Addr):List (Addr×Obj):=(ypd h.objs.size).filterMap λa=>if a=L∨(g.get? a).isSome=true then none else (h.get? a).map λo=>(a,o)
def rest (g h:Heap)(L d:Addr):List (Addr×Obj):=(zknb g h L).filter λp=>decide (p.1≠d)
end L2
namespace L2
open PySem PySem.Spec PyProof.Rows
structure Mod (K:yba)(mg:Str->Option Value)(base:Heap):Prop where
 kin:K.In base
 glob:base.Ns yza mg
 blt:∃mb,base.Ns builtinsNs mb∧∀x:Str,x ≠ "__name__"->mb x=ydg x
 nolimit:base.NoLimit
structure Cx where
 prog:ytb
 w:World
 K:yba
 mg:Str->Option Value
 base:Heap
 A:Around
 N:List Str
 s₀:Shared
 H₀:Hp
 env:Env
 outer:List Env
 stack:List Env
 ex:List Addr
 fn:Str->Bool
 calm:Bool
 pn:List (Addr×Obj)
 xe:Value->Shared->Prop
def frs (l:List Env):List Addr:=l.filterMap (·.frame)
abbrev Cx.fs (X:Cx):List Addr:=frs X.outer
def Vis (sc:Scope)(x:Str):Prop:=sc.names.lookup x=some .local∨sc.names.lookup x=some .cell∨sc.names.lookup x=some .free
def Loc (sc:Scope)(x:Str):Prop:=sc.names.lookup x=some .local∨sc.names.lookup x=some .cell
def Look (env:Env)(h:Heap)(m:Str->Option Value)(x:Str)(u:Value):Prop :=
 (env.kindOf x=some .local∧m x=some u)∨((env.kindOf x=some .cell∨env.kindOf x=some .free)∧∃c,env.cells.lookup x=some c∧h.IsCell c (some u))
structure Cx.Ok (X:Cx):Prop where
 mod:Mod X.K X.mg X.base
 kind:X.env.scope.kind = .function
 glob:X.env.globals=yza
 blt:X.env.builtins=builtinsNs
 above:X.s₀.heap.objs.size≤X.env.locals
 inj:∀x y c,X.env.cells.lookup x=some c->X.env.cells.lookup y=some c->x=y
 has:∀x,(X.env.kindOf x=some .cell∨X.env.kindOf x=some .free)->∃c,X.env.cells.lookup x=some c
 cab:∀x c,X.fn x=true->X.env.cells.lookup x=some c->X.s₀.heap.objs.size≤c
 hd:X.calm=true->X.A.handled=none
 frames:X.A.frames=some X.stack
 stk:X.stack=X.outer∨(X.stack=X.env::X.outer∧X.env.frame=some X.env.locals)
 exf:∀b∈X.ex,b≠X.env.locals∧∀x c,X.env.cells.lookup x=some c->c≠b
 bs:∀b o,X.base.get? b=some o->X.s₀.heap.get? b=some o∧X.H₀ b=none
 bsz:X.base.objs.size≤X.s₀.heap.objs.size
 noex:∀b o,X.base.get? b=some o->b∉X.ex
 exfs:∀b∈X.ex,b∉X.fs
 funs:X.s₀.heap.FunFrames X.base X.outer
 frf:∀b∈X.fs,X.H₀ b=none
structure Inv (X:Cx)(pins:List (Addr×Obj))(σ:List (Option V))(H:Hp)(s:Shared):Prop where
 ok:X.Ok
 os:s.os=X.s₀.os
 bare:yrm s.gens
 base:Un X.fs X.ex X.H₀ H X.s₀.heap s.heap
 loc:∃m,s.heap.Ns X.env.locals m∧∀(i:Nat) (x:Str) (v:V),X.N[i]?=some x->σ[i]?=some (some v)->Vis X.env.scope x->∃u,RelV v u∧Look X.env s.heap m x u
 cell:∀x c,X.env.cells.lookup x=some c->∃v,s.heap.IsCell c v
 free:H X.env.locals=none
 freeC:∀x c,X.env.cells.lookup x=some c->H c=none
 pin:∀p∈X.pn++pins,s.heap.get? p.1=some p.2∧H p.1=none∧p.1≠X.env.locals∧p.1∉X.fs∧∀v,p.2.data ≠ .cell v
 hok:HOk X.prog X.w H s.heap
 len:σ.length=X.N.length
section
variable {X:Cx}{pins:List (Addr×Obj)}{σ:List (Option V)}{H H':Hp}{s:Shared}{h':Heap}
theorem Cx.Ok.nofr (ok:X.Ok){b:Addr}{o:Obj}(e:X.base.get? b=some o):b∉X.fs:=λhb=>by
 have:=(ok.funs.mem hb).1;rw[e] at this;cases this
theorem Inv.bs (I:Inv X pins σ H s):∀b o,X.base.get? b=some o->s.heap.get? b=some o∧H b=none:=λb o e =>
 ⟨I.base.keep b o (I.ok.bs b o e).1 (I.ok.bs b o e).2 (I.ok.nofr e) (I.ok.noex b o e),I.base.free b o (I.ok.bs b o e).1 (I.ok.bs b o e).2 (I.ok.noex b o e)⟩
theorem Inv.bk (I:Inv X pins σ H s):∀b o,X.base.get? b=some o->s.heap.get? b=some o:=λb o e=>(I.bs b o e).1
theorem Inv.mod (I:Inv X pins σ H s):Mod X.K X.mg X.base:=I.ok.mod
theorem Inv.kIn (I:Inv X pins σ H s):X.K.In s.heap:=I.ok.mod.kin.keeps I.bk
theorem Inv.fr (I:Inv X pins σ H s):∃m,Fr X.base X.env.locals s.heap m :=
 let ⟨m,hn,_⟩:=I.loc
 ⟨m,hn,I.bk,yxa I.ok.bsz I.ok.above⟩
theorem Inv.lt (I:Inv X pins σ H s):X.env.locals<s.heap.objs.size:=let ⟨_,hn,_⟩:=I.loc;hn.lt
theorem Inv.sz (I:Inv X pins σ H s):X.s₀.heap.objs.size≤s.heap.objs.size:=yxa I.ok.above (yde I.lt)
theorem Inv.nofs (I:Inv X pins σ H s){a:Addr}(h:s.heap.objs.size≤a):a∉X.fs:=λhb=>by
 obtain⟨_,o,ho,_⟩:=I.ok.funs.mem hb;exact absurd (ypa (yqa ho) (yxa I.sz h)) (ysd _)
theorem Inv.cne (I:Inv X pins σ H s):∀x c,X.env.cells.lookup x=some c->c≠X.env.locals:=λx c e z=>by
 obtain⟨v,o,ho,hd⟩:=I.cell x c e;obtain⟨m,⟨o',es,ep,ho',hd',_⟩,_⟩:=I.loc;rw[z,ho'] at ho;cases ho;rw[hd'] at hd;cases hd
theorem Inv.funs (I:Inv X pins σ H s):s.heap.FunFrames X.base X.outer:=by
 have all:∀(l:List Env),(∀b∈frs l,b∈X.fs)->X.s₀.heap.FunFrames X.base l->s.heap.FunFrames X.base l:=by
  intro l
  induction l with
  | nil=>intro _ _;trivial
  | cons env r ih =>
   intro hs hl;obtain⟨hk,⟨L,o,hf,hn,ho,hd⟩,hr⟩:=hl;have hL:L∈X.fs:=hs L (by unfold frs;rw[yrf,hf];exact yia);obtain⟨sl,e⟩:=I.base.slot L o ho (I.ok.frf L hL) hL λz=>I.ok.exfs L z hL;exact⟨hk,⟨L,_,hf,hn,e,hd⟩,ih (λb hb=>hs b (by unfold frs;rw[yrf,hf];exact yna _ hb)) hr⟩
 exact all X.outer (λ_ hb=>hb) I.ok.funs
theorem Inv.stack (I:Inv X pins σ H s):s.heap.FunFrames X.base X.stack:=by
 rcases I.ok.stk with e|⟨e,hf⟩
 ·rw[e];exact I.funs
 ·rw[e];obtain⟨m,hn,_⟩:=I.loc;refine .cons (by rw[I.ok.kind];decide) hf hn ?_ I.funs;exact Heap.get?_none_of_le (yxa I.ok.bsz I.ok.above)
theorem Inv.zkbb (I:Inv X pins σ H s):∀b∈frs X.stack,b∈X.env.locals::X.fs:=λb hb=>by
 rcases I.ok.stk with e|⟨e,hf⟩
 ·rw[e] at hb;exact yna _ hb
 ·rw[e] at hb;unfold frs at hb;rw[yrf,hf] at hb;exact hb
theorem Inv.zpeb (I:Inv X pins σ H s):∀b∈frs X.stack,H b=none:=λb hb=>by
 rcases yha.mp (I.zkbb b hb) with e|hb
 ·rw[e];exact I.free
 ·obtain⟨_,o,ho,_⟩:=I.ok.funs.mem hb;exact I.base.free b o ho (I.ok.frf b hb) λz=>I.ok.exfs b z hb
theorem Inv.step {g':Array GenState}{t':Nat}{d':Drawn}{ch:List Addr}(I:Inv X pins σ H s)
  (hch:∀b∈ch,(b∈X.ex∨X.s₀.heap.objs.size≤b)∧b≠X.env.locals∧(∀x c,X.env.cells.lookup x=some c->c≠b)∧∀p∈X.pn++pins,p.1≠b)
  (keep:∀b o,b≠X.env.locals->b∉X.fs->b∉ch->s.heap.get? b=some o->H b=none->h'.get? b=some o)
  (slot:∀b o,b≠X.env.locals->b∈X.fs->b∉ch->s.heap.get? b=some o->H b=none->∃sl,h'.get? b=some { o with slots:=sl }) (free:∀b o,b∉ch->s.heap.get? b=some o->H b=none->H' b=none)
  (there:∀b o,b∉ch->s.heap.get? b=some o->∃o',h'.get? b=some o')
  (tups:∀b xs,H b=some (.tup xs)->H' b=some (.tup xs)) (frzs:∀b o u,H b=some (.frz o u)->H' b=some (.frz o u)) (tbls:∀b ps,H b=some (.tbl ps)->∃more,H' b=some (.tbl (ps++more)))
  (ns:∀m,s.heap.Ns X.env.locals m->h'.Ns X.env.locals m) (hok:HOk X.prog X.w H' h') (hg:yrm g') :
  Inv X pins σ H' { s with heap:=h',gens:=g',drawn:=d',toks:=t' }:=by
 have neL:∀b o,X.s₀.heap.get? b=some o->b≠X.env.locals:=λb o e=>yeb (ypa (yqa e) I.ok.above);have neC:∀b o,X.s₀.heap.get? b=some o->b∉X.ex->b∉ch:=λb o e hx hb=>by
  rcases (hch b hb).1 with z|z
  ·exact hx z
  ·exact absurd (ypa (yqa e) z) (ysd _)
 have cellK:∀x c,X.env.cells.lookup x=some c->∀v,s.heap.IsCell c v->h'.IsCell c v:=λx c e v ⟨o,ho,hd⟩=>by
  have nch:c∉ch:=λz=>(hch c z).2.2.1 x c e rfl
  by_cases hc:c∈X.fs
  ·obtain⟨sl,q⟩:=slot c o (I.cne x c e) hc nch ho (I.freeC x c e);exact⟨_,q,hd⟩
  ·exact⟨o,keep c o (I.cne x c e) hc nch ho (I.freeC x c e),hd⟩
 refine⟨I.ok,I.os,hg,⟨λb o e n hb hx=>?_,λb o e n hb hx=>?_,λb o e n hx=>?_,λb o e hx=>?_,λb xs e=>tups b xs (I.base.tups b xs e),λb o xs e=>frzs b o xs (I.base.frzs b o xs e),λb ps e=>?_⟩,?_,λx c e=>?_,?_,λx c e=>?_,λp hp=>?_,hok,I.len⟩
 ·exact keep b o (neL b o e) hb (neC b o e hx) (I.base.keep b o e n hb hx) (I.base.free b o e n hx)
 ·obtain⟨sl,e1⟩:=I.base.slot b o e n hb hx;obtain⟨sl',e2⟩:=slot b _ (neL b o e) hb (neC b o e hx) e1 (I.base.free b o e n hx);exact⟨sl',e2⟩
 ·obtain⟨o',e1⟩:=I.base.there b o e hx;exact free b o' (neC b o e hx) e1 (I.base.free b o e n hx)
 ·obtain⟨o',e1⟩:=I.base.there b o e hx;exact there b o' (neC b o e hx) e1
 ·obtain⟨m1,e1⟩:=I.base.tbls b ps e;obtain⟨m2,e2⟩:=tbls b _ e1;exact⟨m1++m2,by rw[e2,yan]⟩
 ·obtain⟨m,hn,hl⟩:=I.loc;refine⟨m,ns m hn,λi x v e1 e2 e3=>?_⟩;obtain⟨u,r,l⟩:=hl i x v e1 e2 e3;refine⟨u,r,?_⟩
  rcases l with l|⟨k,c,e,z⟩
  ·exact .inl l
  ·exact .inr ⟨k,c,e,cellK x c e _ z⟩
 ·obtain⟨v,z⟩:=I.cell x c e;exact⟨v,cellK x c e v z⟩
 ·obtain⟨m,⟨o,_,_,ho,_⟩,_⟩:=I.loc;exact free _ o (λz=>(hch _ z).2.1 rfl) ho I.free
 ·obtain⟨v,o,ho,hd⟩:=I.cell x c e;exact free c o (λz=>(hch c z).2.2.1 x c e rfl) ho (I.freeC x c e)
 ·obtain⟨e,n,ne,nf,d⟩:=I.pin p hp;have nch:p.1∉ch:=λz=>(hch p.1 z).2.2.2 p hp rfl;exact⟨keep p.1 p.2 ne nf nch e n,free p.1 p.2 nch e n,ne,nf,d⟩
theorem Inv.un {t':Nat}(I:Inv X pins σ H s)(u:Un X.fs [] H H' s.heap h')(hok:HOk X.prog X.w H' h'):Inv X pins σ H' { s with heap:=h',toks:=t' }:=by
 obtain⟨m,⟨o,es,ep,ho,r⟩,_⟩:=id I.loc;obtain⟨sl,hL⟩:=u.any ho I.free (by simp);exact I.step (g':=s.gens) (d':=s.drawn) (ch:=[]) (λ_ z=>nomatch z) (λb o _ hb _ e n=>u.keep b o e n hb (by simp)) (λb o _ hb _ e n=>u.slot b o e n hb (by simp)) (λb o _ e n=>u.free b o e n (by simp)) (λb o _ e=>u.there b o e (by simp)) u.tups u.frzs u.tbls (λm' hm=>by
  obtain⟨o',es',ep',ho',r'⟩:=hm;rw[ho] at ho';cases ho';exact⟨_,es',ep',hL,r'⟩) hok I.bare
theorem Inv.call {g':Array GenState}{t':Nat}{d':Drawn}{ch:List Addr}(I:Inv X pins σ H s)(u:Un (frs X.stack) ch H H' s.heap h')(hok:HOk X.prog X.w H' h')(hg:yrm g')
  (hch:∀b∈ch,(b∈X.ex∨X.s₀.heap.objs.size≤b)∧b≠X.env.locals∧(∀x c,X.env.cells.lookup x=some c->c≠b)∧∀p∈X.pn++pins,p.1≠b) :
  Inv X pins σ H' { s with heap:=h',gens:=g',drawn:=d',toks:=t' }:=by
 obtain⟨m,⟨o,es,ep,ho,r⟩,_⟩:=id I.loc;obtain⟨sl,hL⟩:=u.any ho I.free λz=>(hch _ z).2.1 rfl;exact I.step (ch:=ch) hch (λb o hL hb hc e n=>u.keep b o e n (λz=>(yha.mp (I.zkbb b z)).elim hL hb) hc) (λb o _ _ hc e n=>u.any e n hc) (λb o hc e n=>u.free b o e n hc) (λb o hc e=>u.there b o e hc) u.tups u.frzs u.tbls (λm' hm=>by
  obtain⟨o',es',ep',ho',r'⟩:=hm;rw[ho] at ho';cases ho';exact⟨_,es',ep',hL,r'⟩) hok hg
theorem Inv.turned {t':Nat}{it:Addr}(I:Inv X pins σ H s)(k:∀b o,b≠it->s.heap.get? b=some o->h'.get? b=some o)(hn:H it=none)(hL:it≠X.env.locals)
  (h1:it∈X.ex∨X.s₀.heap.objs.size≤it) (h2:∀x c,X.env.cells.lookup x=some c->c≠it) (h3:∀p∈X.pn++pins,p.1≠it):Inv X pins σ H { s with heap:=h',toks:=t' }:=by
 have nit:∀b u,H b=some u->b≠it:=λb u e z=>by rw[z,hn] at e;cases e
 refine I.step (g':=s.gens) (d':=s.drawn) (ch:=[it]) (λb hb=>?_) (λb o _ _ hc e _=>k b o (λz=>hc (by simp[z])) e) (λb o _ _ hc e _=>⟨o.slots,k b o (λz=>hc (by simp[z])) e⟩) (λ_ _ _ _ n=>n)
  (λb o hc e=>⟨o,k b o (λz=>hc (by simp[z])) e⟩) (λ_ _ e=>e) (λ_ _ _ e=>e) (λb ps e=>⟨#[],by rw[e];simp⟩) (λm hm=>?_) (λb u e=>?_) I.bare
 ·have e:b=it:=by simpa using hb
  subst e;exact⟨h1,hL,h2,h3⟩
 ·obtain⟨o,es,ep,ho,r⟩:=hm;exact⟨o,es,ep,k _ o (yub hL) ho,r⟩
 ·refine (I.hok b u e).stay (λc v hc q=>k c v ?_ q) (λ_ q=>q) λ_ _ q=>q
  rcases hc with z|z
  ·rw[z];exact nit b u e
  ·exact nit c _ z
theorem Inv.tok (I:Inv X pins σ H s)(t:Nat):Inv X pins σ H { s with toks:=t }:=I.un (h':=s.heap) (t':=t) Un.refl I.hok
theorem Inv.kept {t':Nat}(I:Inv X pins σ H s)(k:∀b u,s.heap.get? b=some u->h'.get? b=some u):Inv X pins σ H { s with heap:=h',toks:=t' }:=I.un (Un.kept k) (I.hok.kept k)
theorem Inv.laid {a:Addr}{o:HO}{t':Nat}(I:Inv X pins σ H s)(k:∀b u,s.heap.get? b=some u->h'.get? b=some u)(hp:s.heap.objs.size≤a)(new:zwi X.prog X.w (upd H a o) h' a o) :
  Inv X pins σ (upd H a o) { s with heap:=h',toks:=t' }:=I.un (Un.laid k hp (I.hok.fresh hp)) (I.hok.laid k hp new)
theorem Inv.write {x e:Addr}{o:HO}{t':Nat}(I:Inv X pins σ H s)(mu:Mut (H x))(he:e=x∨H e=some (.own x))(k:∀b u,b≠e->s.heap.get? b=some u->h'.get? b=some u)(heo:∃u,h'.get? e=some u)
  (new:zwi X.prog X.w (upd H x o) h' x o):Inv X pins σ (upd H x o) { s with heap:=h',toks:=t' }:=I.un (Un.write mu he k heo) (I.hok.write mu he k heo new)
theorem Inv.weak {σ':List (Option V)}(I:Inv X pins σ H s)(hl:σ'.length=σ.length)(w:∀(i:Nat) v,σ'[i]?=some (some v)->σ[i]?=some (some v)):Inv X pins σ' H s :=
 ⟨I.ok,I.os,I.bare,I.base,let ⟨m,hn,hl'⟩:=I.loc;⟨m,hn,λi x v e1 e2 e3=>hl' i x v e1 (w i v e2) e3⟩,I.cell,I.free,I.freeC,I.pin,I.hok,hl.trans I.len⟩
theorem Inv.zer {pins':List (Addr×Obj)}(I:Inv X pins σ H s)(h:∀p∈pins',s.heap.get? p.1=some p.2∧H p.1=none∧p.1≠X.env.locals∧p.1∉X.fs∧∀v,p.2.data ≠ .cell v):Inv X pins' σ H s :=
 ⟨I.ok,I.os,I.bare,I.base,I.loc,I.cell,I.free,I.freeC,λp hp=>(yhb.mp hp).elim (λz=>I.pin p (yug _ z)) (h p),I.hok,I.len⟩
theorem zwbb {N:List Str}(hN:N.Nodup){i j:Nat}{x:Str}(a:N[i]?=some x)(b:N[j]?=some x):i=j:=by
 obtain⟨h1,e1⟩:=yla.mp a;obtain⟨h2,e2⟩:=yla.mp b;exact (List.getElem_inj hN).mp (e1.trans e2.symm)
theorem zew {M:Model}{A:Around}{E:Value->Shared->Prop}{i:Nat}{x:Str}{v:V}{u:Value}{Q:Unit->Shared->Prop}(I:Inv X pins σ H s)(hN:X.N.Nodup)(hi:X.N[i]?=some x)(hx:Loc X.env.scope x)(r:RelV v u)
  (h:∀s',Inv X pins (σ.set i (some v)) H s'->(∃a,ywc a s.heap s'.heap∧(a=X.env.locals∨X.env.cells.lookup x=some a))->Q () s') (hf:X.fn x=true∨X.env.scope.names.lookup x=some .local:=by first|exact .inl rfl|exact .inr rfl|assumption):wpAny M A (storeName X.env x u) Q E s:=by
 obtain⟨m,hn,hl⟩:=id I.loc;have hcls:(X.env.scope.kind == .class||(X.env.scope.kind == .module&&X.env.locals != X.env.globals))=false:=by rw[I.ok.kind];rfl
 have hiσ:i<σ.length:=by rw[I.len];exact (yla.mp hi).1
 have cne:=I.cne;have tracked:∀{a:Addr} {h':Heap},(∃o,s.heap.get? a=some o∧H a=none)->ywc a s.heap h'->HOk X.prog X.w H h':=λ{a h'} ha hs b ob e=>by
  obtain⟨_,_,hfree⟩:=ha;refine (I.hok b ob e).stay (λc w' hc q=>(hs.2 c ?_).trans q) (λ_ q=>q) λ_ _ q=>q;rintro rfl
  rcases hc with rfl|hc
  ·rw[hfree] at e;cases e
  ·rw[hfree] at hc;cases hc
 rcases hx with hk|hk
 ·refine wpAny_storeName_local hk hn (λh' hn' hs=>?_) hcls;obtain⟨oL,_,_,hoL,_⟩:=id hn;refine h _ ⟨I.ok,I.os,I.bare,⟨λb o e n hb hx=>?_,λb o e n hb hx=>?_,I.base.free,λb o e hx=>?_,I.base.tups,I.base.frzs,I.base.tbls⟩,⟨_,hn',λj y v' e1 e2 e3=>?_⟩,λy c e=>?_,I.free,I.freeC,λp hp=>?_,tracked ⟨oL,hoL,I.free⟩ hs,by simpa using I.len⟩ ⟨_,hs,.inl rfl⟩
  ·exact (hs.2 b (yeb (ypa (yqa e) I.ok.above))).trans (I.base.keep b o e n hb hx)
  ·obtain⟨sl,e1⟩:=I.base.slot b o e n hb hx;exact⟨sl,(hs.2 b (yeb (ypa (yqa e) I.ok.above))).trans e1⟩
  ·obtain⟨o',e1⟩:=I.base.there b o e hx;exact⟨o',(hs.2 b (yeb (ypa (yqa e) I.ok.above))).trans e1⟩
  ·by_cases hj:j=i
   ·subst hj;rw[hi] at e1;cases e1;rw[ygl hiσ] at e2;cases e2;exact⟨u,r,.inl ⟨hk,by simp⟩⟩
   ·rw[ylm (yub hj)] at e2;obtain⟨u',r',q⟩:=hl j y v' e1 e2 e3;refine⟨u',r',?_⟩
    rcases q with⟨k,e⟩|⟨k,c,e,z⟩
    ·refine .inl ⟨k,?_⟩;have:y≠x:=λe=>hj (zwbb hN e1 (e▸hi));simp[this,e]
    ·exact .inr ⟨k,c,e,z.sameBut hs (cne y c e)⟩
  ·obtain⟨w',z⟩:=I.cell y c e;exact⟨w',z.sameBut hs (cne y c e)⟩
  ·obtain⟨e,n,ne,nf,d⟩:=I.pin p hp;exact⟨(hs.2 p.1 ne).trans e,n,ne,nf,d⟩
 ·have hfn:X.fn x=true:=by
   rcases hf with z|z
   ·exact z
   ·rw[z] at hk;cases hk
  obtain⟨c,hc⟩:=I.ok.has x (.inl hk);obtain⟨w',z⟩:=I.cell x c hc;refine wpAny_storeName_cell I.ok.kind hk hc z (λh' hc' hs=>?_);obtain⟨oc,hoc,hocd⟩:=id z;refine h { s with heap:=h' } ⟨I.ok,I.os,I.bare,⟨λb o e n hb hx=>?_,λb o e n hb hx=>?_,I.base.free,λb o e hx=>?_,I.base.tups,I.base.frzs,I.base.tbls⟩,⟨m,hn.sameBut hs (yub (cne x c hc)),λj y v' e1 e2 e3=>?_⟩,λy c' e=>?_,I.free,I.freeC,λp hp=>?_,tracked ⟨oc,hoc,I.freeC x c hc⟩ hs,by simpa using I.len⟩ ⟨c,hs,.inr hc⟩
  ·exact (hs.2 b (yeb (ypa (yqa e) (I.ok.cab x c hfn hc)))).trans (I.base.keep b o e n hb hx)
  ·obtain⟨sl,e1⟩:=I.base.slot b o e n hb hx;exact⟨sl,(hs.2 b (yeb (ypa (yqa e) (I.ok.cab x c hfn hc)))).trans e1⟩
  ·obtain⟨o',e1⟩:=I.base.there b o e hx;exact⟨o',(hs.2 b (yeb (ypa (yqa e) (I.ok.cab x c hfn hc)))).trans e1⟩
  ·by_cases hj:j=i
   ·subst hj;rw[hi] at e1;cases e1;rw[ygl hiσ] at e2;cases e2;exact⟨u,r,.inr ⟨.inl hk,c,hc,hc'⟩⟩
   ·rw[ylm (yub hj)] at e2;obtain⟨u',r',q⟩:=hl j y v' e1 e2 e3;refine⟨u',r',?_⟩
    rcases q with q|⟨k,c',e,z'⟩
    ·exact .inl q
    ·refine .inr ⟨k,c',e,z'.sameBut hs ?_⟩;rintro rfl;exact hj (zwbb hN e1 (I.ok.inj _ _ _ e hc▸hi))
  ·by_cases hcc:c'=c
   ·subst hcc;exact⟨_,hc'⟩
   ·obtain⟨w2,z2⟩:=I.cell y c' e;exact⟨w2,z2.sameBut hs hcc⟩
  ·obtain⟨e,n,ne,nf,d⟩:=I.pin p hp;refine⟨(hs.2 p.1 ?_).trans e,n,ne,nf,d⟩;intro q;rw[q,hoc] at e;have q':oc=p.2:=yfc e;exact d w' (by rw[← q'];exact hocd)
theorem zyt {M:Model}{A:Around}{E:Value->Shared->Prop}{i:Nat}{x:Str}{v:V}{u:Value}{Q:Unit->Shared->Prop}(I:Inv X pins σ H s)(hN:X.N.Nodup)(hi:X.N[i]?=some x)(hx:Loc X.env.scope x)(r:RelV v u)
  (h:∀s',Inv X pins (σ.set i (some v)) H s'->Q () s') (hf:X.fn x=true∨X.env.scope.names.lookup x=some .local:=by first|exact .inl rfl|exact .inr rfl|assumption):wpAny M A (storeName X.env x u) Q E s :=
 zew I hN hi hx r (λs' I' _=>h s' I') hf
end
abbrev XK:=Value->Option Addr->Hp->Prop
abbrev St:=List (Option V)
abbrev VK:=V->Hp->Prop
abbrev TE:=St->Hp->VK->Prop
abbrev TT:=St->Hp->(Bool->Hp->Prop)->Prop
abbrev TA:=St->Hp->(List V->Hp->Prop)->Prop
structure Ends where
 nx:St->Hp->Prop
 rt:VK
 bk:St->Hp->Prop:=λ_ _=>False
 ct:St->Hp->Prop:=λ_ _=>False
abbrev TS:=Ends->St->Hp->Prop
def EP (X:Cx)(pins:List (Addr×Obj))(σ:St)(Q:VK)(u:Value)(s':Shared):Prop:=Ex2 λv H'=>Inv X pins σ H' s'∧RelV v u∧Q v H'
def TP (X:Cx)(pins:List (Addr×Obj))(σ:St)(Q:Bool->Hp->Prop)(b:Bool)(s':Shared):Prop:=∃H',Inv X pins σ H' s'∧Q b H'
def AP (X:Cx)(pins:List (Addr×Obj))(σ:St)(Q:List V->Hp->Prop)(us:List Value)(s':Shared):Prop:=Ex2 λvs H'=>Inv X pins σ H' s'∧Vals vs us∧Q vs H'
def SP (X:Cx)(pins:List (Addr×Obj))(D:Ends)(f:Flow)(s':Shared):Prop :=
 match f with
 | .next=>∃ σ' H',Inv X pins σ' H' s'∧D.nx σ' H'
 | .brk=>∃ σ' H',Inv X pins σ' H' s'∧D.bk σ' H'
 | .cont=>∃ σ' H',Inv X pins σ' H' s'∧D.ct σ' H'
 | .ret u=>∃v σ' H',Inv X pins σ' H' s'∧RelV v u∧D.rt v H'
def PE (X:Cx)(e:Expr)(t:TE):Prop :=
 ∀(pins:List (Addr×Obj)) (s:Shared) (σ:St) (H:Hp) (Q:VK),Inv X pins σ H s->t σ H Q->wpAny (model X.prog X.w) X.A (eval e X.env) (EP X pins σ Q) X.xe s
def PT (X:Cx)(e:Expr)(t:TT):Prop :=
 ∀(pins:List (Addr×Obj)) (s:Shared) (σ:St) (H:Hp) (Q:Bool->Hp->Prop),Inv X pins σ H s->t σ H Q->wpAny (model X.prog X.w) X.A (isTrue e X.env (eval e X.env)) (TP X pins σ Q) X.xe s
def PW (X:Cx)(e:Expr)(t:TT):Prop :=
 ∀(whole:Sem Value) (pins:List (Addr×Obj)) (s:Shared) (σ:St) (H:Hp) (Q:Bool->Hp->Prop),Inv X pins σ H s->t σ H Q->wpAny (model X.prog X.w) X.A (isTrue e X.env whole) (TP X pins σ Q) X.xe s
theorem PW.pt {X:Cx}{e:Expr}{t:TT}(h:PW X e t):PT X e t:=h _
def PA (X:Cx)(es:List Expr)(t:TA):Prop :=
 ∀(pos:Pos) (pins:List (Addr×Obj)) (s:Shared) (σ:St) (H:Hp) (Q:List V->Hp->Prop),Inv X pins σ H s->t σ H Q->wpAny (model X.prog X.w) X.A (spliced (backTo pos (yic es X.env))) (AP X pins σ Q) X.xe s
def PS (X:Cx)(st:Stmt)(t:TS):Prop :=
 ∀(pins:List (Addr×Obj)) (s:Shared) (σ:St) (H:Hp) (D:Ends),Inv X pins σ H s->t D σ H->wpAny (model X.prog X.w) X.A (exec st X.env) (SP X pins D) X.xe s
def PSs (X:Cx)(st:List Stmt)(t:TS):Prop :=
 ∀(pins:List (Addr×Obj)) (s:Shared) (σ:St) (H:Hp) (D:Ends),Inv X pins σ H s->t D σ H->wpAny (model X.prog X.w) X.A (execs st X.env) (SP X pins D) X.xe s
theorem thn {α:Type}{t:Sem α}{Q Q':α->Shared->Prop}{M:Model}{A:Around}{E:Value->Shared->Prop}{s:Shared}(h:wpAny M A t Q E s)(hQ:∀a s,Q a s->Q' a s):wpAny M A t Q' E s:=ymd h hQ λ_ _ x=>x
end L2
namespace L2
open PySem PySem.Spec PyProof.Rows
section
variable {X:Cx}
def tVar (i:Nat):TE:=fun σ H Q=>∃v,σ[i]?=some (some v)∧Q v H
def tC (v:V):TE:=λ_ H Q=>Q v H
theorem zpob {i:Nat}{x:Str}{pos:Pos}(hN:X.N[i]?=some x)(hv:Vis X.env.scope x)(hd:(x==("__debug__":Str))=false:=by decide)(hcd:(x==("__classdict__":Str))=false:=by decide):PE X (.Name x pos) (tVar i):=by
 intro pins s σ H Q I h;obtain⟨v,e,h⟩:=h;obtain⟨m,hn,hl⟩:=I.loc;obtain⟨u,r,l⟩:=hl i x v hN e hv;have fin:EP X pins σ Q u s:=⟨v,H,I,r,h⟩
 rcases l with⟨hk,hm⟩|⟨hk,c,hc,hcell⟩
 ·exact wpAny_Name (wpAny_loadName_local I.ok.kind hk hn hm fin) hd
 ·rcases hk with hk|hk
  ·exact wpAny_Name (wpAny_loadName_cell I.ok.kind hk hc hcell fin) hd
  ·exact wpAny_Name (wpAny_loadName_free I.ok.kind hk hc hcell fin hcd) hd
theorem zfa {i j pos}:PE X (.Constant (.int i) j pos) (tC (.int i)):=λ_ _ _ H _ I h=>wpAny_Constant_int ⟨.int i,H,I.tok _,⟨_,rfl⟩,h⟩
theorem zjr {b j pos}:PE X (.Constant (.bool b) j pos) (tC (.bl b)):=λ_ _ _ H _ I h=>Constant_bool ⟨.bl b,H,I,rfl,h⟩
theorem zan {j pos}:PE X (.Constant .none j pos) (tC .non):=λ_ _ _ H _ I h=>Constant_none ⟨.non,H,I,rfl,h⟩
theorem zma {x j pos}:PE X (.Constant (.str x) j pos) (tC (.str x)):=λ_ _ _ H _ I h=>Calls.Constant_str ⟨.str x,H,I.tok _,⟨_,rfl⟩,h⟩
def Gl (X:Cx)(x:Str):Prop:=X.env.kindOf x=some .globalImplicit
theorem zsz {E:Value->Shared->Prop}{pins:List (Addr×Obj)}{s:Shared}{σ:St}{H:Hp}{x:Str}{u:Value}{pos:Pos}{Q:Value->Shared->Prop}(I:Inv X pins σ H s)(hg:Gl X x)(hm:X.mg x=some u)(h:Q u s)
  (hd:(x==("__debug__":Str))=false:=by decide):wpAny (model X.prog X.w) X.A (eval (.Name x pos) X.env) Q E s :=
 ygj I.ok.kind hg (Calls.loadGlobal_global (by rw[I.ok.glob];exact I.mod.glob.keeps I.bk) hm h) hd
theorem zkt {E:Value->Shared->Prop}{pins:List (Addr×Obj)}{s:Shared}{σ:St}{H:Hp}{x:Str}{u:Value}{pos:Pos}{Q:Value->Shared->Prop}(I:Inv X pins σ H s)(hg:Gl X x)(hm:X.mg x=none)(hv:ydg x=some u)(h:Q u s)
  (hn:x ≠ "__name__":=by decide) (hd:(x==("__debug__":Str))=false:=by decide):wpAny (model X.prog X.w) X.A (eval (.Name x pos) X.env) Q E s:=by
 obtain⟨mb,h1,h2⟩:=I.mod.blt;exact ygj I.ok.kind hg (Calls.loadGlobal_builtin (by rw[I.ok.glob];exact I.mod.glob.keeps I.bk) hm (by rw[I.ok.blt];exact h1.keeps I.bk) ((h2 x hn).trans hv) h) hd
theorem zpf {x:Str}{v:V}{u:Value}{pos:Pos}(hg:Gl X x)(hm:X.mg x=some u)(r:RelV v u)(hd:(x==("__debug__":Str))=false:=by decide):PE X (.Name x pos) (tC v) :=
 λ_ _ _ H _ I h=>zsz I hg hm ⟨v,H,I,r,h⟩ hd
theorem zyn {x:Str}{v:V}{u:Value}{pos:Pos}(hg:Gl X x)(hm:X.mg x=none)(hv:ydg x=some u)(r:RelV v u)(hn:x ≠ "__name__":=by decide)(hd:(x==("__debug__":Str))=false:=by decide):PE X (.Name x pos) (tC v) :=
 λ_ _ _ H _ I h=>zkt I hg hm hv ⟨v,H,I,r,h⟩ hn hd
variable {a b:Expr}{ta tb:TE}{pos:Pos}
def tB (t:TE):TT:=fun σ H Q=>t σ H λx H1=>∃c,x = .bl c∧Q c H1
theorem zih {e:Expr}{t:TE}(h:PE X e t)(he:∀whole,isTrue e X.env whole=(do let v ← whole;standAt e.pos;ysm [v] (truthy v)):=by intro _;rfl):PT X e (tB t):=by
 intro pins s σ H Q I hw;refine isTrue_plain (thn (h pins s σ H _ I hw) λv s1 ⟨x,H1,I1,r1,q1⟩=>?_) (he _);obtain⟨d,rfl,q⟩:=q1;cases r1;exact yad ⟨H1,I1,q⟩
variable {tA tB':TT}{rest:List Expr}
def tAnd (t u:TT):TT:=fun σ H Q=>t σ H λc H1=>if c=true then u σ H1 Q else Q false H1
def tOr (t u:TT):TT:=fun σ H Q=>t σ H λc H1=>if c=true then Q true H1 else u σ H1 Q
def tNot (t:TT):TT:=fun σ H Q=>t σ H λc H1=>Q (!c) H1
theorem zeu (ha:PT X a tA):PW X (.BoolOp .And [a] pos) tA:=by
 intro wh pins s σ H Q I h;refine isTrue_and (thn (ha pins s σ H Q I h) λc s1 e=>?_);cases c with
 | true=>exact isTrue_and_nil e
 | false=>exact e
theorem zpbb (ha:PT X a tA):PW X (.BoolOp .Or [a] pos) tA:=by
 intro wh pins s σ H Q I h;refine isTrue_or (thn (ha pins s σ H Q I h) λc s1 e=>?_);cases c with
 | false=>exact isTrue_or_nil e
 | true=>exact e
theorem zct (ha:PT X a tA)(hb:PW X (.BoolOp .And (b::rest) pos) tB'):PW X (.BoolOp .And (a::b::rest) pos) (tAnd tA tB'):=by
 intro wh pins s σ H Q I h;refine isTrue_and (thn (ha pins s σ H _ I h) λc s1 ⟨H1,I1,q1⟩=>?_);cases c with
 | true=>exact hb wh pins s1 σ H1 Q I1 q1
 | false=>exact⟨H1,I1,q1⟩
theorem zaib (ha:PT X a tA)(hb:PW X (.BoolOp .Or (b::rest) pos) tB'):PW X (.BoolOp .Or (a::b::rest) pos) (tOr tA tB'):=by
 intro wh pins s σ H Q I h;refine isTrue_or (thn (ha pins s σ H _ I h) λc s1 ⟨H1,I1,q1⟩=>?_);cases c with
 | true=>exact⟨H1,I1,q1⟩
 | false=>exact hb wh pins s1 σ H1 Q I1 q1
theorem zrj (ha:PT X a tA):PT X (.UnaryOp .Not a pos) (tNot tA):=by
 intro pins s σ H Q I h;exact isTrue_not (ha pins s σ H (λc H1=>Q (!c) H1) I h)
def zpqb (ta tb:TE):TE:=fun σ H Q=>ta σ H λx H1=>∃c,x = .bl c∧if c=true then tb σ H1 Q else Q (.bl false) H1
def tOrV (ta tb:TE):TE:=fun σ H Q=>ta σ H λx H1=>∃c,x = .bl c∧if c=true then Q (.bl true) H1 else tb σ H1 Q
def zjqb (ta:TE):TE:=fun σ H Q=>ta σ H λx H1=>∃c,x = .bl c∧Q (.bl (!c)) H1
theorem zkp {op}{t:TE}(h:PE X a t):PE X (.BoolOp op [a] pos) t:=λpins s σ H Q I hw=>BoolOp_one (h pins s σ H Q I hw)
theorem zrbb (ha:PE X a ta)(hb:PE X (.BoolOp .And (b::rest) pos) tb):PE X (.BoolOp .And (a::b::rest) pos) (zpqb ta tb):=by
 intro pins s σ H Q I h;refine BoolOp_and (thn (ha pins s σ H _ I h) λv s1 ⟨x,H1,I1,r1,q1⟩=>?_);obtain⟨c,rfl,q1⟩:=q1;cases r1;refine yad ?_;cases c with
 | true=>exact hb pins s1 σ H1 Q I1 q1
 | false=>exact⟨.bl false,H1,I1,rfl,q1⟩
theorem zmib (ha:PE X a ta)(hb:PE X (.BoolOp .Or (b::rest) pos) tb):PE X (.BoolOp .Or (a::b::rest) pos) (tOrV ta tb):=by
 intro pins s σ H Q I h;refine BoolOp_or (thn (ha pins s σ H _ I h) λv s1 ⟨x,H1,I1,r1,q1⟩=>?_);obtain⟨c,rfl,q1⟩:=q1;cases r1;refine yad ?_;cases c with
 | false=>exact hb pins s1 σ H1 Q I1 q1
 | true=>exact⟨.bl true,H1,I1,rfl,q1⟩
theorem zekb (ha:PE X a ta):PE X (.UnaryOp .Not a pos) (zjqb ta):=by
 intro pins s σ H Q I h;refine UnaryOp_ (thn (ha pins s σ H _ I h) λv s1 ⟨x,H1,I1,r1,q1⟩=>?_);obtain⟨c,rfl,q1⟩:=q1;cases r1;exact not_of (yad ⟨.bl (!c),H1,I1,rfl,q1⟩)
end
end L2
namespace L2
open PySem PySem.Spec PyProof.Rows
def SqL (K:yba)(H:Hp)(a:Addr)(xs:List V):Prop :=
 Rd H a (.lst xs) ∨
  Ex3 λ(o:Obj) (its:Array Value) (n:Nat)=>K.lookup a=some o∧o.cls = .type "list" ∧ o.dict=none∧o.data = .seq its n∧its.size≤yta∧Vals xs its.toList
def SqT (K:yba)(H:Hp)(a:Addr)(xs:List V):Prop :=
 Rd H a (.tup xs) ∨
  Ex3 λ(o:Obj) (its:Array Value) (n:Nat)=>K.lookup a=some o∧o.cls = .type "tuple" ∧ o.data = .seq its n∧its.size≤yta∧Vals xs its.toList
def absV:Value->Option V
 | .none=>some .non
 | .bool b=>some (.bl b)
 | .int i _=>some (.int i)
 | .str x _=>some (.str x)
 | .bytes b _=>some (.byt b)
 | .float b _=>some (.flt b)
 | .ref a=>some (.ref a)
 | .type n=>some (.ty n)
 | _=>none
theorem RelV.abs {x:V}{u:Value}(r:RelV x u):absV u=some x:=by
 cases x with
 | non=>cases r;rfl
 | bl _=>cases r;rfl
 | int _=>obtain⟨t,rfl⟩:=r;rfl
 | str _=>obtain⟨t,rfl⟩:=r;rfl
 | byt _=>obtain⟨t,rfl⟩:=r;rfl
 | flt _=>obtain⟨t,rfl⟩:=r;rfl
 | ref _=>cases r;rfl
 | ty _=>cases r;rfl
theorem RelV.inj {x y:V}{u:Value}(r:RelV x u)(q:RelV y u):x=y:=yfc (r.abs.symm.trans q.abs)
theorem Vals.inj:∀{xs ys:List V} {us:List Value},Vals xs us->Vals ys us->xs=ys
 | _,_,_,.nil,.nil=>rfl
 | _,_,_,.cons r t,.cons r' t'=>by rw[r.inj r',Vals.inj t t']
section
variable {X:Cx}{pins:List (Addr×Obj)}{σ:St}{H:Hp}{s:Shared}{a:Addr}{xs ys:List V}
theorem SqL.of {K:yba}(h:H a=some (.lst xs)):SqL K H a xs:=.inl (.inl h)
theorem SqT.of {K:yba}(h:H a=some (.tup xs)):SqT K H a xs:=.inl (.inl h)
theorem Inv.list (I:Inv X pins σ H s)(h:SqL X.K H a xs):∃its:List Value,Vals xs its∧PlainL s.heap a its.toArray∧xs.length≤yta:=by
 rcases h with h|⟨o,its,n,hk,hc,hd,hs,hz,r⟩
 ·obtain⟨z,its,n,r,e⟩:=h.ok I.hok;exact⟨its,r,⟨_,n,e,rfl,rfl,rfl⟩,z⟩
 ·refine⟨its.toList,r,⟨o,n,I.kIn a o hk,hc,hd,by simpa using hs⟩,?_⟩;have e:=r.length;simp only[yya] at e;omega
theorem Inv.tuple (I:Inv X pins σ H s)(h:SqT X.K H a xs):∃its:List Value,Vals xs its∧IsTup s.heap a its.toArray∧xs.length≤yta:=by
 rcases h with h|⟨o,its,n,hk,hc,hs,hz,r⟩
 ·obtain⟨z,its,r,p⟩:=h.ok I.hok;exact⟨its,r,p,z⟩
 ·refine⟨its.toList,r,⟨o,I.kIn a o hk,hc,n,by simpa using hs⟩,?_⟩;have e:=r.length;simp only[yya] at e;omega
theorem Inv.zyib (I:Inv X pins σ H s)(h:SqL X.K H a xs)(h':SqL X.K H a ys):xs=ys:=by
 obtain⟨its,r,⟨o,n,e,_,_,d⟩,_⟩:=I.list h;obtain⟨its',r',⟨o',n',e',_,_,d'⟩,_⟩:=I.list h';rw[e] at e';cases e';rw[d] at d';injection d' with d1 _
 have:its=its':=by simpa using congrArg Array.toList d1
 subst this;exact r.inj r'
theorem Inv.zbw (I:Inv X pins σ H s)(h:SqT X.K H a xs)(h':SqT X.K H a ys):xs=ys:=by
 obtain⟨its,r,⟨o,e,_,n,d⟩,_⟩:=I.tuple h;obtain⟨its',r',⟨o',e',_,n',d'⟩,_⟩:=I.tuple h';rw[e] at e';cases e';rw[d] at d';injection d' with d1 _
 have:its=its':=by simpa using congrArg Array.toList d1
 subst this;exact r.inj r'
end
abbrev Cx.wish (X:Cx)(E:Value->Shared->Prop):Cx:={ X with xe:=E }
abbrev Cx.nox (X:Cx):Cx:=X.wish λ_ _=>False
theorem Cx.Ok.wish {X:Cx}(ok:X.Ok)(E:Value->Shared->Prop):(X.wish E).Ok :=
 ⟨ok.mod,ok.kind,ok.glob,ok.blt,ok.above,ok.inj,ok.has,ok.cab,ok.hd,ok.frames,ok.stk,ok.exf,ok.bs,ok.bsz,ok.noex,ok.exfs,ok.funs,ok.frf⟩
theorem Cx.Ok.zto {X:Cx}{E:Value->Shared->Prop}(ok:(X.wish E).Ok):X.Ok :=
 ⟨ok.mod,ok.kind,ok.glob,ok.blt,ok.above,ok.inj,ok.has,ok.cab,ok.hd,ok.frames,ok.stk,ok.exf,ok.bs,ok.bsz,ok.noex,ok.exfs,ok.funs,ok.frf⟩
section
variable {X:Cx}{pins:List (Addr×Obj)}{σ:St}{H:Hp}{s:Shared}{E:Value->Shared->Prop}
theorem Inv.wish (I:Inv X pins σ H s)(E:Value->Shared->Prop):Inv (X.wish E) pins σ H s:=⟨I.ok.wish E,I.os,I.bare,I.base,I.loc,I.cell,I.free,I.freeC,I.pin,I.hok,I.len⟩
theorem Inv.zto (I:Inv (X.wish E) pins σ H s):Inv X pins σ H s:=⟨I.ok.zto,I.os,I.bare,I.base,I.loc,I.cell,I.free,I.freeC,I.pin,I.hok,I.len⟩
theorem SP.zto {D:Ends}{f:Flow}{s':Shared}(h:SP (X.wish E) pins D f s'):SP X pins D f s':=by
 cases f with
 | next=>obtain⟨σ',H',I,q⟩:=h;exact⟨σ',H',I.zto,q⟩
 | brk=>obtain⟨σ',H',I,q⟩:=h;exact⟨σ',H',I.zto,q⟩
 | cont=>obtain⟨σ',H',I,q⟩:=h;exact⟨σ',H',I.zto,q⟩
 | ret u=>obtain⟨v,σ',H',I,r,q⟩:=h;exact⟨v,σ',H',I.zto,r,q⟩
theorem PSs.nox {st:List Stmt}{t:TS}(h:PSs X.nox st t):PSs X st t:=λpins s σ H D I hw =>
 ymd (h pins s σ H D (I.wish _) hw) (λ_ _ q=>q.zto) λ_ _ z=>yre z
end
section
variable {X:Cx}{st:Stmt}{rest:List Stmt}{t u:TS}{e:Expr}{te:TE}{pos:Pos}
def zkqb:TS:=λD σ H=>D.nx σ H
def tSeq (t u:TS):TS:=λD σ H=>t { D with nx:=u D } σ H
theorem zsa:PSs X [] zkqb:=λ_ _ σ H _ I h=>yri ⟨σ,H,I,h⟩
theorem zba (h1:PS X st t)(h2:PSs X rest u):PSs X (st::rest) (tSeq t u):=by
 intro pins s σ H D I h;refine wpAny_execs_cons (thn (h1 pins s σ H { D with nx:=u D } I h) λf s1 q=>?_);cases f with
 | next =>
  obtain⟨σ',H',I',q⟩:=q;exact h2 pins s1 σ' H' D I' q
 | ret v=>exact q
 | brk=>exact q
 | cont=>exact q
theorem zea (h1:PS X st t):PSs X [st] t:=by
 intro pins s σ H D I h;refine wpAny_execs_cons (thn (h1 pins s σ H D I h) λf s1 q=>?_);cases f with
 | next=>exact yri q
 | ret v=>exact q
 | brk=>exact q
 | cont=>exact q
theorem Inv.quiet {pins:List (Addr×Obj)}{σ:St}{H:Hp}{s:Shared}(I:Inv X pins σ H s):interactive X.env=false:=by simp[interactive,I.ok.kind]
def zmqb (te:TE):TS:=λD σ H=>te σ H λ_ H1=>D.nx σ H1
theorem zkd (he:PE X e te)(hs:yoo e none pos.line X.env=pure false:=by rfl):PS X (.Expr e pos) (zmqb te):=by
 intro pins s σ H D I h;exact wpAny_Expr_any (thn (he pins s σ H _ I h) λv s1 ⟨x,H1,I1,r1,q1⟩=>⟨σ,H1,I1,q1⟩) I.quiet hs
def tRet (te:TE):TS:=λD σ H=>te σ H D.rt
theorem zua (he:PE X e te):PS X (.Return (some e) pos) (tRet te):=by
 intro pins s σ H D I h;exact wpAny_Return_some (thn (he pins s σ H _ I h) λv s1 ⟨x,H1,I1,r1,q1⟩=>⟨x,σ,H1,I1,r1,q1⟩)
def tIfS (c:TT)(t u:TS):TS:=λD σ H=>c σ H λb H1=>if b=true then t D σ H1 else u D σ H1
theorem zxb {c:Expr}{a b:List Stmt}{tc:TT}(hc:PT X c tc)(ha:PSs X a t)(hb:PSs X b u):PS X (.If c a b pos) (tIfS tc t u):=by
 intro pins s σ H D I h;refine wpAny_If (thn (hc pins s σ H _ I h) λd s1 ⟨H1,I1,q1⟩=>?_);cases d with
 | true=>exact ha pins s1 σ H1 D I1 q1
 | false=>exact hb pins s1 σ H1 D I1 q1
def zunb:TS:=λ_ _ _=>False
theorem zof:PS X st zunb:=λ_ _ _ _ _ _ h=>h.elim
end
abbrev TG:=V->St->Hp->(St->Hp->Prop)->Prop
abbrev TGs:=List V->St->Hp->(St->Hp->Prop)->Prop
def PG (X:Cx)(target:Expr)(t:TG):Prop :=
 ∀(pins:List (Addr×Obj)) (s:Shared) (σ:St) (H:Hp) (v:V) (u:Value) (Q:St->Hp->Prop),Inv X pins σ H s->RelV v u->t v σ H Q →
  wpAny (model X.prog X.w) X.A (assign target X.env u) (λ_ s'=>∃ σ' H',Inv X pins σ' H' s'∧Q σ' H') X.xe s
def PGs (X:Cx)(ts:List Expr)(t:TGs):Prop :=
 ∀(pins:List (Addr×Obj)) (s:Shared) (σ:St) (H:Hp) (vs:List V) (us:List Value) (Q:St->Hp->Prop),Inv X pins σ H s->Vals vs us->t vs σ H Q →
  wpAny (model X.prog X.w) X.A (assignInOrder ((ypg ts X.env).map (·.2)) us) (λ_ s'=>∃ σ' H',Inv X pins σ' H' s'∧Q σ' H') X.xe s
abbrev TSet:=V->V->V->Hp->(Hp->Prop)->Prop
def PSet (X:Cx)(t:TSet):Prop :=
 ∀(pins:List (Addr×Obj)) (s:Shared) (σ:St) (H:Hp) (o i v:V) (ov iv u:Value) (Q:Hp->Prop),Inv X pins σ H s->RelV o ov->RelV i iv->RelV v u->t o i v H Q →
  wpAny (model X.prog X.w) X.A (setItem ov iv u) (λ_ s'=>∃H',Inv X pins σ H' s'∧Q H') X.xe s
abbrev TIp:=V->V->Hp->VK->Prop
def PIp (X:Cx)(op:ylo)(t:TIp):Prop :=
 ∀(pins:List (Addr×Obj)) (s:Shared) (σ:St) (H:Hp) (x y:V) (v u:Value) (Q:VK),Inv X pins σ H s->RelV x v->RelV y u->t x y H Q →
  wpAny (model X.prog X.w) X.A (inplaceOp op v u) (EP X pins σ Q) X.xe s
section
variable {X:Cx}{pos:Pos}
def zljb (i:Nat):TG:=λv σ H Q=>Q (σ.set i (some v)) H
theorem zza {i:Nat}{x:Str}(hN:X.N.Nodup)(hi:X.N[i]?=some x)(hx:Loc X.env.scope x)(hf:X.fn x=true∨X.env.scope.names.lookup x=some .local:=by first|exact .inl rfl|exact .inr rfl|assumption):PG X (.Name x pos) (zljb i):=by
 intro pins s σ H v u Q I r h;exact wpAny_assign_Name (zyt I hN hi hx r (λs' I'=>⟨_,H,I',h⟩) hf)
def gNil:TGs:=λvs σ H Q=>vs=[]∧Q σ H
def zgrb (t:TG)(u:TGs):TGs:=λvs σ H Q=>Ex2 λv r=>vs=v::r∧t v σ H fun σ' H'=>u r σ' H' Q
theorem zej:PGs X [] gNil:=by
 intro pins s σ H vs us Q I r h;obtain⟨e,h⟩:=h;subst e;cases r;exact assignInOrder_nil ⟨σ,H,I,h⟩
theorem zob {e:Expr}{es:List Expr}{t:TG}{u:TGs}(h1:PG X e t)(h2:PGs X es u)
  (hs:(ypg (e::es) X.env).map (·.2)=assign e X.env::(ypg es X.env).map (·.2):=by rfl):PGs X (e::es) (zgrb t u):=by
 intro pins s σ H vs us Q I r h;obtain⟨v,vr,e1,h⟩:=h;subst e1;cases r with
 | cons r rr =>
  rw[hs];refine assignInOrder_cons (thn (h1 pins s σ H _ _ _ I r h) λ_ s1 ⟨σ1,H1,I1,q1⟩=>?_);exact h2 pins s1 σ1 H1 _ _ Q I1 rr q1
def gTup (K:yba)(n:Nat)(t:TGs):TG:=λv σ H Q=>Ex2 λa xs=>v = .ref a∧SqT K H a xs∧xs.length=n∧t xs σ H Q
theorem zjp {es:List Expr}{k:Nat}{t:TGs}{n:Nat}(hc:X.calm=true)(h:PGs X es t)
  (hn:(ypg es X.env).length=n:=by rfl) (hst:(ypg es X.env).findIdx? (·.1)=none:=by rfl):PG X (.Tuple es k pos) (gTup X.K n t):=by
 intro pins s σ H v u Q I r hw;obtain⟨a,xs,e1,hq,hl,hw⟩:=hw;subst e1;cases r;obtain⟨its,rv,ht,hz⟩:=I.tuple hq;refine assign_Tuple_tuple (I.ok.hd hc) ht (by simp[hn,← hl,rv.length]) hst λh' hx=>?_;have I1:Inv X pins σ H { s with heap:=h' }:=I.kept (t':=s.toks) λb o e=>hx b o (yeb (yqa e)) e;exact h pins _ σ H xs _ Q I1 (by simpa using rv) hw
def gSub (to ti:TE)(t:TSet):TG:=λv σ H Q=>to σ H λo H1=>ti σ H1 λi H2=>t o i v H2 λH3=>Q σ H3
theorem znob {o i:Expr}{to ti:TE}{t:TSet}(ho:PE X o to)(hi:PE X i ti)(hs:PSet X t)
  (ha:∀v,assign (.Subscript o i pos) X.env v=(do
   let ov ← ysm [v] (eval o X.env)
   let iv ← ysm [v,ov] (eval i X.env)
   standAt pos
   ysm [v,ov,iv] (setItem ov iv v)
   release [v,ov,iv] []):=by intro _;rfl):PG X (.Subscript o i pos) (gSub to ti t):=by
 intro pins s σ H v u Q I r h;rw[ha];refine yaa (yxb (thn (ho pins s σ H _ I h) λov s1 ⟨x,H1,I1,r1,q1⟩=>?_));refine yaa (yxb (thn (hi pins s1 σ H1 _ I1 q1) λiv s2 ⟨y,H2,I2,r2,q2⟩=>?_));refine yaa (ysk (yaa (yxb (thn (hs pins s2 σ H2 x y v ov iv u _ I2 r1 r2 r q2) λ_ s3 ⟨H3,I3,q3⟩=>?_))));exact wpAny_release ⟨σ,H3,I3,q3⟩
def tAsg (te:TE)(g:TG):TS:=λD σ H=>te σ H λx H1=>g x σ H1 D.nx
theorem zkfb {tg e:Expr}{te:TE}{g:TG}(he:PE X e te)(hg:PG X tg g)(hs:swapsWithSole [tg] e pos.line X.env=pure false:=by rfl)(hw:swappedStores [tg] e X.env=pure none:=by rfl)
  (h1:(ypg [tg] X.env).map (·.2)=[assign tg X.env]:=by rfl):PS X (.Assign [tg] e pos) (tAsg te g):=by
 intro pins s σ H D I h;refine wpAny_Assign_stores (thn (he pins s σ H _ I h) λv s1 ⟨x,H1,I1,r1,q1⟩=>?_) hs hw;rw[h1];exact thn (hg pins s1 σ H1 x v _ I1 r1 q1) λ_ s2 q=>q
theorem zqa {i:Nat}{x:Str}{e:Expr}{te:TE}{pos':Pos}(hN:X.N.Nodup)(hi:X.N[i]?=some x)(hx:Loc X.env.scope x)(he:PE X e te)(hs:yoo e (some (.Name x pos')) pos.line X.env=pure false:=by rfl)(hf:X.fn x=true∨X.env.scope.names.lookup x=some .local:=by first|exact .inl rfl|exact .inr rfl|assumption) :
  PS X (.Assign [.Name x pos'] e pos) (tAsg te (zljb i)):=by
 intro pins s σ H D I h;refine wpAny_Assign_Name (thn (he pins s σ H _ I h) λv s1 ⟨y,H1,I1,r1,q1⟩=>?_) hs;exact zyt I1 hN hi hx r1 (λs2 I2=>⟨_,H1,I2,q1⟩) hf
def tAug (i:Nat)(te:TE)(ti:TIp):TS:=λD σ H=>∃x,σ[i]?=some (some x)∧te σ H λy H1=>ti x y H1 λz H2=>D.nx (σ.set i (some z)) H2
theorem zmob {i:Nat}{x:Str}{e:Expr}{te:TE}{op:ylo}{ti:TIp}{pos':Pos}(hN:X.N.Nodup)(hi:X.N[i]?=some x)(hx:Loc X.env.scope x)(he:PE X e te)(ho:PIp X op ti)(hf:X.fn x=true∨X.env.scope.names.lookup x=some .local:=by first|exact .inl rfl|exact .inr rfl|assumption) :
  PS X (.AugAssign (.Name x pos') op e pos) (tAug i te ti):=by
 intro pins s σ H D I h;obtain⟨v,e1,h⟩:=h;obtain⟨m,hn,hl⟩:=I.loc;have vis:Vis X.env.scope x:=by rcases hx with k|k;exact .inl k;exact .inr (.inl k)
 obtain⟨u,r,l⟩:=hl i x v hi e1 vis;refine wpAny_AugAssign_Name ?_;have go:wpAny (model X.prog X.w) X.A (eval e X.env) (λw s₂=>wpAny (model X.prog X.w) X.A (inplaceOp op u w) (λr s₃=>wpAny (model X.prog X.w) X.A (storeName X.env x r) (λ_=>SP X pins D .next) X.xe s₃) X.xe s₂) X.xe s:=by
  refine thn (he pins s σ H _ I h) λw s1 ⟨y,H1,I1,r1,q1⟩=>?_;refine thn (ho pins s1 σ H1 v y u w _ I1 r r1 q1) λz s2 ⟨zv,H2,I2,r2,q2⟩=>?_;exact zyt I2 hN hi hx r2 (λs3 I3=>⟨_,H2,I3,q2⟩) hf
 rcases l with⟨hk,hm⟩|⟨hk,c,hc,hcell⟩
 ·exact wpAny_loadName_local I.ok.kind hk hn hm go
 ·rcases hk with hk|hk
  ·exact wpAny_loadName_cell I.ok.kind hk hc hcell go
  ·rcases hx with k|k
   ·have:X.env.scope.names.lookup x=some .free:=hk;rw[k] at this;cases this
   ·have:X.env.scope.names.lookup x=some .free:=hk;rw[k] at this;cases this
def ipI (f:Int->Int->Int):TIp:=λx y H Q=>Ex2 λi j=>x = .int i∧y = .int j∧Q (.int (f i j)) H
theorem zupb:PIp X .Add (ipI λi j=>i+j):=by
 intro pins s σ H x y v u Q I r1 r2 h;obtain⟨i,j,e1,e2,q⟩:=h;subst e1;subst e2;obtain⟨t,rfl⟩:=r1;obtain⟨t',rfl⟩:=r2;exact iadd_int ⟨.int _,H,I.tok _,⟨_,rfl⟩,q⟩
end
section
variable {X:Cx}{pos:Pos}
def zrnb (c:TT)(tb:TS):TS:=λD σ H=>∃W:Nat->St->Hp->Prop,(∃m,W m σ H)∧∀m σ H,W m σ H →
 c σ H λb H1=>if b=true then ∃N:St->Hp->Prop,(∀ σ' H',N σ' H'->∃m',m'<m∧W m' σ' H')∧tb { D with nx:=N,ct:=N,bk:=D.nx } σ H1 else D.nx σ H1
theorem zdib {c:Expr}{body:List Stmt}{tc:TT}{tb:TS}(hp:PassesOwn (model X.prog X.w) X.A X.env X.xe)(hc:PT X c tc)(hb:PSs X body tb):PS X (.While c body [] pos) (zrnb tc tb):=by
 intro pins s σ H D I h;obtain⟨W,⟨m0,w0⟩,turn⟩:=h;refine wpAny_While (codeAny_whileLoop (λn s'=>∃ σ' H',Inv X pins σ' H' s'∧W n σ' H') ?_ m0 ⟨σ,H,I,w0⟩);rintro n s1 ⟨σ1,H1,I1,w1⟩;refine ygf hp (thn (hc pins s1 σ1 H1 _ I1 (turn n σ1 H1 w1)) λb s2 ⟨H2,I2,q2⟩=>?_);cases b with
 | true =>
  obtain⟨N,hN,q2⟩:=q2;rw[if_pos rfl];refine ygf hp (thn (hb pins s2 σ1 H2 _ I2 q2) λf s3 q3=>?_);cases f with
  | next =>
   obtain⟨σ3,H3,I3,n3⟩:=q3;obtain⟨m',hm,w3⟩:=hN σ3 H3 n3;exact⟨m',hm,σ3,H3,I3,w3⟩
  | cont =>
   obtain⟨σ3,H3,I3,n3⟩:=q3;obtain⟨m',hm,w3⟩:=hN σ3 H3 n3;exact⟨m',hm,σ3,H3,I3,w3⟩
  | brk=>exact q3
  | ret v=>exact q3
 | false =>
  rw[if_neg yua];exact yri ⟨σ1,H2,I2,q2⟩
end
structure It where
 go:Nat->Hp->Prop
 yld:Nat->Hp->V->Hp->Prop
 stop:Nat->Hp->Prop
def FpOk (X:Cx)(pins:List (Addr×Obj))(H:Hp)(b:Addr):Prop :=
 H b=none∧b≠X.env.locals∧b∉X.fs∧(b∈X.ex∨X.s₀.heap.objs.size≤b)∧(∀x c,X.env.cells.lookup x=some c->c≠b)∧∀p∈X.pn++pins,p.1≠b
theorem Inv.fpOk {X:Cx}{pins:List (Addr×Obj)}{σ:St}{H H':Hp}{s:Shared}{b:Addr}(I:Inv X pins σ H s)(hb:s.heap.objs.size≤b)(hn:H' b=none):FpOk X pins H' b:=by
 refine⟨hn,ygh (ypa I.lt hb),I.nofs hb,.inr (yxa I.sz hb),λx c e z=>?_,λp hp z=>?_⟩
 ·obtain⟨v,q⟩:=I.cell x c e;exact absurd (ypa q.lt (by rw[z];exact hb)) (ysd _)
 ·exact absurd (ypa (yqa (I.pin p hp).1) (by rw[z];exact hb)) (ysd _)
structure Turn (P:ytb)(w:World)(K:yba)(tg:Expr)(J:It)(fp:List Addr)(it:Addr)(tn:Nat->Heap->Prop):Prop where
 mem:it∈fp
 obj:∀i h,tn i h->∀b∈fp,∃o,h.get? b=some o∧∀v,o.data ≠ .cell v
 keep:∀i h h',tn i h->(∀b∈fp,∀o,h.get? b=some o->h'.get? b=some o)->tn i h'
 item:∀(X:Cx),X.prog=P->X.w=w->X.K=K->X.calm=true->∀(i:Nat) (pins:List (Addr×Obj)) (s:Shared) (σ:St) (H:Hp) (E:Value->Shared->Prop),Inv X pins σ H s->(∀b∈fp,FpOk X pins H b)->tn i s.heap->J.go i H →
  wpAny (model P w) X.A (pyNext (.ref it)) (λr s1=>∃u,r=some u ∧
   wpAny (model P w) X.A (ysi tg (.ref it) u) (λ_ s2=>Ex2 λx H'=>Inv X pins σ H' s2∧RelV x u∧J.yld i H x H'∧tn (i+1) s2.heap∧∀b∈fp,H' b=none) E s1) E s
 done:∀(X:Cx),X.prog=P->X.w=w->X.K=K->X.calm=true->∀(i:Nat) (pins:List (Addr×Obj)) (s:Shared) (σ:St) (H:Hp) (E:Value->Shared->Prop),Inv X pins σ H s->(∀b∈fp,FpOk X pins H b)->tn i s.heap->J.stop i H →
  wpAny (model P w) X.A (pyNext (.ref it)) (λr s1=>r=none∧Inv X pins σ H s1) E s
 self:∀(A:Around) (i:Nat) (s:Shared) (Q:Value->Shared->Prop) (E:Value->Shared->Prop),tn i s.heap->Q (.ref it) s->wpAny (model P w) A (pyIter (.ref it)) Q E s
abbrev TI:=St->Hp->(It->Hp->Prop)->Prop
def PIE (X:Cx)(pins:List (Addr×Obj))(σ:St)(tg:Expr)(R:It->Hp->Prop)(itv:Value)(s2:Shared):Prop :=
 Ex5 λ(it:Addr) (fp:List Addr) (tn:Nat->Heap->Prop) (J:It) (H':Hp)=>itv = .ref it∧Inv X pins σ H' s2∧Turn X.prog X.w X.K tg J fp it tn∧tn 0 s2.heap∧(∀b∈fp,FpOk X pins H' b)∧R J H'
def PI (X:Cx)(tg iter:Expr)(wi:TI):Prop :=
 ∀(pins:List (Addr×Obj)) (s:Shared) (σ:St) (H:Hp) (R:It->Hp->Prop),Inv X pins σ H s->wi σ H R →
  wpAny (model X.prog X.w) X.A (eval iter X.env) (λv s1=>wpAny (model X.prog X.w) X.A (pyIter v) (PIE X pins σ tg R) X.xe s1) X.xe s
theorem zkgb {M:Model}{A:Around}{E:Value->Shared->Prop}{s:Shared}{tg:Expr}{it:Addr}{u:Value}{o:Obj}{n:String}{vs:Array Value}{Q:Unit->Shared->Prop}(ho:s.heap.get? it=some o)(hc:o.cls = .type n)(hd:o.data = .fields vs)
  (hn:["enumerate","zip","dict_itemiterator","dict_reverseitemiterator","odict_iterator","itertools.zip_longest","itertools.pairwise"].contains n=false) (hQ:Q () s):wpAny M A (ysi tg (.ref it) u) Q E s:=by
 unfold ysi;cases tg<;>first
  | exact yfa hQ
  | (cases u<;>first
    | exact yfa hQ
    | (refine yaa (ynn ho ?_)
       rw[hc,hd];show wpAny M A (if (["enumerate","zip","dict_itemiterator","dict_reverseitemiterator","odict_iterator","itertools.zip_longest","itertools.pairwise"].contains n&&vs[0]?==some (rawInt _))=true then _ else _) Q E s
       rw[if_neg (by intro h;rw[hn,yed] at h;cases h)];exact yfa hQ))
def Itl (K:yba)(a:Addr):It :=
 ⟨λi H=>Ex2 λxs x=>SqL K H a xs∧xs[i]?=some x,λi H x H'=>H'=H∧∀xs,SqL K H a xs->xs[i]?=some x,λi H=>∃xs,SqL K H a xs∧xs.length≤i⟩
def Itt (K:yba)(a:Addr):It :=
 ⟨λi H=>Ex2 λxs x=>SqT K H a xs∧xs[i]?=some x,λi H x H'=>H'=H∧∀xs,SqT K H a xs->xs[i]?=some x,λi H=>∃xs,SqT K H a xs∧xs.length≤i⟩
def Itr (lo:Int)(n:Nat):It:=⟨λi _=>i<n,λi H x H'=>H'=H∧x = .int (lo+i),λi _=>n≤i⟩
theorem zneb {P:ytb}{w:World}{K:yba}{tg:Expr}(a it:Addr):Turn P w K tg (Itl K a) [it] it (λi h=>h.IsListIter it a i) where
 mem:=by simp
 obj:=λi h st b hb=>by
  have e:b=it:=by simpa using hb
  subst e;obtain⟨o,e,c,d⟩:=st;exact⟨o,e,λv z=>by rw[d] at z;cases z⟩
 keep:=λi h h' st k=>st.at λo e=>k it (by simp) o e
 item:=by
  intro X hP hw hK hc i pins s σ H E I hf st hg;subst hP hw hK;obtain⟨xs,x,hq,hx⟩:=hg;obtain⟨its,rv,p,hz⟩:=I.list hq;obtain⟨u,hu,ru⟩:=rv.get hx;obtain⟨f0,f1,f2,f3,f4,f5⟩:=hf it (by simp);refine yhl st p.isList (x:=u) (by simpa using hu) λh' st' sb=>?_;have I1:Inv X pins σ H { s with heap:=h' }:=I.turned (t':=s.toks) (λb o hb e=>(sb.2 b hb).trans e) f0 f1 f3 f4 f5;obtain⟨o,e,c,d⟩:=id st';exact⟨u,rfl,zkgb (s:={ s with heap:=h' }) e c d (by decide) ⟨x,H,I1,ru,⟨rfl,λys hy=>by rw[I.zyib hy hq];exact hx⟩,st',λb hb=>(hf b hb).1⟩⟩
 done:=by
  intro X hP hw hK hc i pins s σ H E I hf st hg;subst hP hw hK;obtain⟨xs,hq,hx⟩:=hg;obtain⟨its,rv,p,hz⟩:=I.list hq;obtain⟨f0,f1,f2,f3,f4,f5⟩:=hf it (by simp);have hl:=rv.length;exact ynl (I.ok.hd hc) st p.isList (by simp;omega) λh' eb=>⟨rfl,I.turned (t':=s.toks) (λb o hb e=>eb b o hb e) f0 f1 f3 f4 f5⟩
 self:=λ_ _ _ _ _ st h=>wpAny_pyIter_listiter st h
theorem ztcb {P:ytb}{w:World}{K:yba}{tg:Expr}(a it:Addr):Turn P w K tg (Itt K a) [it] it (λi h=>h.IsTupleIter it a i) where
 mem:=by simp
 obj:=λi h st b hb=>by
  have e:b=it:=by simpa using hb
  subst e;obtain⟨o,e,c,d⟩:=st;exact⟨o,e,λv z=>by rw[d] at z;cases z⟩
 keep:=λi h h' st k=>st.at λo e=>k it (by simp) o e
 item:=by
  intro X hP hw hK hc i pins s σ H E I hf st hg;subst hP hw hK;obtain⟨xs,x,hq,hx⟩:=hg;obtain⟨its,rv,p,hz⟩:=I.tuple hq;obtain⟨u,hu,ru⟩:=rv.get hx;obtain⟨f0,f1,f2,f3,f4,f5⟩:=hf it (by simp);refine wpAny_pyNext_tuple_item st (show s.heap.IsTuple a its.toArray from p) (x:=u) (by simpa using hu) λh' st' sb=>?_;have I1:Inv X pins σ H { s with heap:=h' }:=I.turned (t':=s.toks) (λb o hb e=>(sb.2 b hb).trans e) f0 f1 f3 f4 f5;obtain⟨o,e,c,d⟩:=id st';exact⟨u,rfl,zkgb (s:={ s with heap:=h' }) e c d (by decide) ⟨x,H,I1,ru,⟨rfl,λys hy=>by rw[I.zbw hy hq];exact hx⟩,st',λb hb=>(hf b hb).1⟩⟩
 done:=by
  intro X hP hw hK hc i pins s σ H E I hf st hg;subst hP hw hK;obtain⟨xs,hq,hx⟩:=hg;obtain⟨its,rv,p,hz⟩:=I.tuple hq;obtain⟨f0,f1,f2,f3,f4,f5⟩:=hf it (by simp);have hl:=rv.length;exact wpAny_pyNext_tuple_end (I.ok.hd hc) st (show s.heap.IsTuple a its.toArray from p) (by simp;omega) λh' eb=>⟨rfl,I.turned (t':=s.toks) (λb o hb e=>eb b o hb e) f0 f1 f3 f4 f5⟩
 self:=λ_ _ _ _ _ st h=>wpAny_pyIter_tupleiter st h
theorem zucb {P:ytb}{w:World}{K:yba}{tg:Expr}(it:Addr)(lo:Int)(n:Nat):Turn P w K tg (Itr lo n) [it] it (λi h=>IsRangeIter h it (lo+(i:Nat)*1) ((n:Int)-(i:Nat)) 1) where
 mem:=by simp
 obj:=λi h st b hb=>by
  have e:b=it:=by simpa using hb
  subst e;exact⟨_,st,λv z=>by
   have z':Data.fields _=Data.cell v:=z;cases z'⟩
 keep:=λi h h' st k=>k it (by simp) _ st
 item:=by
  intro X hP hw hK hc i pins s σ H E I hf st hg;subst hP hw hK;obtain⟨f0,f1,f2,f3,f4,f5⟩:=hf it (by simp);have W:=Walks.range (prog:=X.prog) (w:=X.w) (I.ok.hd hc) it lo 1 n;refine W.item i s _ _ hg st λv h' tk hv st' kk=>?_;obtain⟨t,rfl⟩:=hv;have I1:Inv X pins σ H { s with heap:=h',toks:=tk }:=I.turned (λb o hb e=>kk b o (by simpa using hb) e) f0 f1 f3 f4 f5;refine⟨_,rfl,zkgb (s:={ s with heap:=h',toks:=tk }) (n:="range_iterator") st' rfl rfl (by decide) ⟨.int (lo+i),H,I1,⟨t,?_⟩,⟨rfl,rfl⟩,st',λb hb=>(hf b hb).1⟩⟩;rw[Int.mul_one]
 done:=by
  intro X hP hw hK hc i pins s σ H E I hf st hg;subst hP hw hK;obtain⟨f0,f1,f2,f3,f4,f5⟩:=hf it (by simp);exact wpAny_pyNext_range_end (I.ok.hd hc) st (by have:n≤i:=hg;omega) λh' eb=>⟨rfl,I.turned (t':=s.toks) (λb o hb e=>eb b o hb e) f0 f1 f3 f4 f5⟩
 self:=λ_ _ _ _ _ st h=>wpAny_pyIter_rangeiter st h
end L2
namespace L2
open PySem PySem.Spec PyProof.Rows
section
variable {X:Cx}{tg:Expr}
def zfrb (K:yba)(tl:TE):TI:=fun σ H R=>tl σ H λx H1=>∃a,x = .ref a∧(∃xs,SqL K H1 a xs)∧R (Itl K a) H1
def iTup (K:yba)(tl:TE):TI:=fun σ H R=>tl σ H λx H1=>∃a,x = .ref a∧(∃xs,SqT K H1 a xs)∧R (Itt K a) H1
theorem zde {l:Expr}{tl:TE}(hl:PE X l tl):PI X tg l (zfrb X.K tl):=by
 intro pins s σ H R I h;refine thn (hl pins s σ H _ I h) λv s1 ⟨x,H1,I1,r1,q1⟩=>?_;obtain⟨a,e,⟨xs,hq⟩,q⟩:=q1;subst e;cases r1;obtain⟨its,rv,p,hz⟩:=I1.list hq;refine yuh p.isList ?_;refine⟨s1.heap.objs.size,[s1.heap.objs.size],_,_,H1,rfl,I1.kept (t':=s1.toks) λb o e=>yca _ e,zneb a _,⟨_,yoa _ rfl,rfl,rfl⟩,λb hb=>?_,q⟩;have e:b=s1.heap.objs.size:=by simpa using hb
 subst e;exact I1.fpOk (yma _) (I1.hok.fresh (yma _))
theorem zckb {l:Expr}{tl:TE}(hl:PE X l tl):PI X tg l (iTup X.K tl):=by
 intro pins s σ H R I h;refine thn (hl pins s σ H _ I h) λv s1 ⟨x,H1,I1,r1,q1⟩=>?_;obtain⟨a,e,⟨xs,hq⟩,q⟩:=q1;subst e;cases r1;obtain⟨its,rv,p,hz⟩:=I1.tuple hq;refine yjh (show s1.heap.IsTuple a its.toArray from p) ?_;refine⟨s1.heap.objs.size,[s1.heap.objs.size],_,_,H1,rfl,I1.kept (t':=s1.toks) λb o e=>yca _ e,ztcb a _,⟨_,yoa _ rfl,rfl,rfl⟩,λb hb=>?_,q⟩;have e:b=s1.heap.objs.size:=by simpa using hb
 subst e;exact I1.fpOk (yma _) (I1.hok.fresh (yma _))
theorem zzhb {pins:List (Addr×Obj)}{σ:St}{H:Hp}{s:Shared}{R:It->Hp->Prop}{E:Value->Shared->Prop}{lo hi:Int}{t u v:Tok}{tk:Nat}(I:Inv X pins σ H s)(h1:-(2 ^ 62)≤lo)(h2:lo<2 ^ 62)(h3:-(2 ^ 62)≤hi)(h4:hi<2 ^ 62)
  (q:R (Itr lo (hi-lo).toNat) H):wpAny (model X.prog X.w) X.A (pyIter (.ref s.heap.objs.size)) (PIE X pins σ tg R) E { s with heap:=s.heap.push { cls:=.type "range",data:=.fields #[.int lo t,.int hi u,.int 1 v] },toks:=tk }:=by
 refine wpAny_pyIter_range (IsRange.new ..) (small_one h1 h2 h3 h4) ?_;have I1:Inv X pins σ H { s with heap:=s.heap.push { cls:=.type "range",data:=.fields #[.int lo t,.int hi u,.int 1 v] },toks:=tk }:=I.kept λb o e=>yca _ e;refine⟨(s.heap.push { cls:=.type "range",data:=.fields #[.int lo t,.int hi u,.int 1 v] }).objs.size,[(s.heap.push { cls:=.type "range",data:=.fields #[.int lo t,.int hi u,.int 1 v] }).objs.size],_,_,H,rfl,
  I1.kept (t':=tk) λb o e=>yca _ e,zucb _ lo (hi-lo).toNat,?_,λb hb=>?_,q⟩
 ·have e1:lo+((0:Nat):Int)*1=lo:=by simp
  have e2:(((hi-lo).toNat:Nat):Int)-((0:Nat):Int)=ysf.Range.rangeSize lo hi 1:=by rw[rangeSize_one];split<;>omega
  show IsRangeIter _ _ (lo+((0:Nat):Int)*1) ((((hi-lo).toNat:Nat):Int)-((0:Nat):Int)) 1
  rw[e1,e2];exact yoa _ rfl
 ·have e:b=(s.heap.push { cls:=.type "range",data:=.fields #[.int lo t,.int hi u,.int 1 v] }).objs.size:=by simpa using hb
  subst e;exact I1.fpOk (yma _) (I1.hok.fresh (yma _))
def zerb (ta:TA):TI:=fun σ H R=>ta σ H λvs H1=>∃j:Int,vs=[.int j] ∧ -(2 ^ 62)≤j∧j<2 ^ 62∧R (Itr 0 j.toNat) H1
theorem zjh {a:Expr}{ta:TA}{p pos:Pos}(hg:Gl X "range")(hm:X.mg "range" = none)(ha:PA X [a] ta)(hs:yic [a] X.env=[(false,eval a X.env)]:=by rfl):PI X tg (.Call (.Name "range" p) [a] [] pos) (zerb ta):=by
 intro pins s σ H R I h;refine Call_ (zkt I hg hm boot_range (yke (thn (ha pos pins s σ H _ I h) λus s1 ⟨vs,H1,I1,r1,q1⟩=>?_) hs rfl));obtain⟨j,e,q1,q2,q⟩:=q1;subst e;cases r1 with
 | cons r rr =>
  cases rr;obtain⟨t,rfl⟩:=r;exact call_range_1 (zzhb I1 (by omega) (by omega) q1 q2 (by simpa using q))
def tFor (wi:TI)(g:TG)(tb:TS):TS:=λD σ H=>wi σ H λJ H1=>∃W:Nat->Nat->St->Hp->Prop,(∃m,W 0 m σ H1)∧∀i m σ H,W i m σ H →
 (J.stop i H∧D.nx σ H)∨(J.go i H∧∃N:St->Hp->Prop,(∀ σ' H',N σ' H'->∃m',m'<m∧W (i+1) m' σ' H')∧∀x H',J.yld i H x H'->g x σ H' fun σ2 H2=>tb { D with nx:=N,ct:=N,bk:=D.nx } σ2 H2)
def zet (fp:List Addr)(h:Heap):List (Addr×Obj):=fp.filterMap λb=>(h.get? b).map λo=>(b,o)
theorem zco {fp:List Addr}{h:Heap}{b:Addr}{o:Obj}(hb:b∈fp)(e:h.get? b=some o):(b,o)∈zet fp h:=ybn.mpr ⟨b,hb,by rw[e];rfl⟩
theorem zrfb {fp:List Addr}{h:Heap}{p:Addr×Obj}(hp:p∈zet fp h):p.1∈fp∧h.get? p.1=some p.2:=by
 obtain⟨b,hb,e⟩:=ybn.mp hp;cases q:h.get? b with
 | none=>rw[q] at e;cases e
 | some o =>
  rw[q] at e;have e':(b,o)=p:=yfc e;subst e';exact⟨hb,q⟩
theorem Inv.pinned {pins:List (Addr×Obj)}{σ:St}{H:Hp}{s:Shared}{fp:List Addr}(I:Inv X pins σ H s)(hf:∀b∈fp,FpOk X pins H b)(ho:∀b∈fp,∃o,s.heap.get? b=some o∧∀v,o.data ≠ .cell v):Inv X (pins++zet fp s.heap) σ H s :=
 I.zer λp hp=>(yhb.mp hp).elim (λz=>I.pin p (ybc _ z)) λz=>by
  obtain⟨hb,e⟩:=zrfb z;obtain⟨f0,f1,f2,_⟩:=hf p.1 hb;obtain⟨o,e',d⟩:=ho p.1 hb;rw[e] at e';cases e';exact⟨e,f0,f1,f2,d⟩
theorem Inv.zxt {pins pl:List (Addr×Obj)}{σ:St}{H:Hp}{s:Shared}(I:Inv X (pins++pl) σ H s):Inv X pins σ H s:=I.zer λp hp=>I.pin p (ybc _ (yug _ hp))
theorem zzh {iter:Expr}{body:List Stmt}{wi:TI}{g:TG}{tb:TS}{pos:Pos}(hp:PassesOwn (model X.prog X.w) X.A X.env X.xe)(hc:X.calm=true)(hi:PI X tg iter wi)(hg:PG X tg g)(hb:PSs X body tb)
  (hs:∀x,yyj iter X.env x=pure x:=by intro _;rfl):PS X (.For tg iter body [] pos) (tFor wi g tb):=by
 intro pins s σ H D I h;refine wpAny_For (thn (hi pins s σ H _ I h) λv s1 h1=>thn h1 λitv s2 h2=>?_) hs;obtain⟨it,fp,tn,J,H2,e,I2,T,st2,f2,W,⟨m0,w0⟩,turn⟩:=h2;subst e;have stat:∀{H':Hp},(∀b∈fp,H' b=none)->∀b∈fp,FpOk X pins H' b:=λhn b hb=>⟨hn b hb,(f2 b hb).2⟩;refine codeAny_forLoop_any (λn s'=>∃i σ' H',Inv X pins σ' H' s'∧tn i s'.heap∧(∀b∈fp,H' b=none)∧W i n σ' H') ?_ m0 ⟨0,σ,H2,I2,st2,λb hb=>(f2 b hb).1,w0⟩;rintro n s3 ⟨i,σ3,H3,I3,st3,fr3,w3⟩
 rcases turn i n σ3 H3 w3 with⟨stop,qn⟩|⟨go,N,hN,step⟩
 ·refine ygf hp (thn (T.done X rfl rfl rfl hc i pins s3 σ3 H3 X.xe I3 (stat fr3) st3 stop) λr s4 ⟨hr,I4⟩=>?_);subst hr;exact yri ⟨σ3,H3,I4,qn⟩
 ·refine ygf hp (thn (T.item X rfl rfl rfl hc i pins s3 σ3 H3 X.xe I3 (stat fr3) st3 go) λr s4 ⟨u,hr,h4⟩=>?_);subst hr;refine ygf hp (thn h4 λ_ s5 ⟨x,H5,I5,r5,y5,st5,fr5⟩=>?_);have I5':=I5.pinned (stat fr5) (T.obj _ _ st5);refine ygf hp (thn (hg _ s5 σ3 H5 x u _ I5' r5 (step x H5 y5)) λ_ s6 ⟨σ6,H6,I6,q6⟩=>?_);refine ygf hp (thn (hb _ s6 σ6 H6 _ I6 q6) λf s7 q7=>?_);have again:∀{σ7:St} {H7:Hp},Inv X (pins++zet fp s5.heap) σ7 H7 s7->N σ7 H7->∃m,m<n∧∃i σ' H',Inv X pins σ' H' s7∧tn i s7.heap∧(∀b∈fp,H' b=none)∧W i m σ' H':=λ{σ7 H7} I7 n7=>by
   obtain⟨m',hm,w7⟩:=hN σ7 H7 n7;refine⟨m',hm,i+1,σ7,H7,I7.zxt,T.keep _ _ _ st5 λb hb o e=>(I7.pin (b,o) (ybc _ (ybc _ (zco hb e)))).1,λb hb=>?_,w7⟩;obtain⟨o,e,d⟩:=T.obj _ _ st5 b hb;exact (I7.pin (b,o) (ybc _ (ybc _ (zco hb e)))).2.1
  cases f with
  | next=>obtain⟨σ7,H7,I7,n7⟩:=q7;exact again I7 n7
  | cont=>obtain⟨σ7,H7,I7,n7⟩:=q7;exact again I7 n7
  | brk=>obtain⟨σ7,H7,I7,q7⟩:=q7;exact⟨σ7,H7,I7.zxt,q7⟩
  | ret v=>obtain⟨x7,σ7,H7,I7,r7,q7⟩:=q7;exact⟨x7,σ7,H7,I7.zxt,r7,q7⟩
end
theorem zij {K:yba}{a:Addr}{xs:List V}{g:TG}{tb:TS}{D:Ends}{σ:St}{H:Hp}(Pv:Nat->St->Hp->Prop)(h0:Pv 0 σ H)(hl:∀i σ H,i≤xs.length->Pv i σ H->SqL K H a xs)
  (hs:∀i x σ H,xs[i]?=some x->Pv i σ H->g x σ H fun σ2 H2=>tb { D with nx:=Pv (i+1),ct:=Pv (i+1),bk:=D.nx } σ2 H2) (hd:∀ σ H,Pv xs.length σ H->D.nx σ H) :
  ∃W:Nat->Nat->St->Hp->Prop,(∃m,W 0 m σ H)∧∀i m σ H,W i m σ H →
   ((Itl K a).stop i H∧D.nx σ H)∨((Itl K a).go i H∧∃N:St->Hp->Prop,(∀ σ' H',N σ' H'->∃m',m'<m∧W (i+1) m' σ' H')∧∀x H',(Itl K a).yld i H x H'->g x σ H' fun σ2 H2=>tb { D with nx:=N,ct:=N,bk:=D.nx } σ2 H2):=by
 refine⟨λi m σ H=>m=xs.length-i∧i≤xs.length∧Pv i σ H,⟨xs.length,by simp,ylb _,h0⟩,?_⟩;rintro i m σ H ⟨rfl,hi,p⟩;have q:=hl i σ H hi p
 by_cases hlt:i<xs.length
 ·refine .inr ⟨⟨xs,xs[i],q,by simp[hlt]⟩,Pv (i+1),fun σ' H' p'=>⟨xs.length-(i+1),by omega,rfl,hlt,p'⟩,λx H' y=>?_⟩;obtain⟨e,y⟩:=y;subst e;exact hs i x σ _ (y xs q) p
 ·have e:i=xs.length:=by omega
  subst e;exact .inl ⟨⟨xs,q,yma _⟩,hd σ H p⟩
theorem zumb {K:yba}{a:Addr}{xs:List V}{g:TG}{tb:TS}{D:Ends}{σ:St}{H:Hp}(Pv:Nat->St->Hp->Prop)(h0:Pv 0 σ H)(hl:∀i σ H,i≤xs.length->Pv i σ H->SqT K H a xs)
  (hs:∀i x σ H,xs[i]?=some x->Pv i σ H->g x σ H fun σ2 H2=>tb { D with nx:=Pv (i+1),ct:=Pv (i+1),bk:=D.nx } σ2 H2) (hd:∀ σ H,Pv xs.length σ H->D.nx σ H) :
  ∃W:Nat->Nat->St->Hp->Prop,(∃m,W 0 m σ H)∧∀i m σ H,W i m σ H →
   ((Itt K a).stop i H∧D.nx σ H)∨((Itt K a).go i H∧∃N:St->Hp->Prop,(∀ σ' H',N σ' H'->∃m',m'<m∧W (i+1) m' σ' H')∧∀x H',(Itt K a).yld i H x H'->g x σ H' fun σ2 H2=>tb { D with nx:=N,ct:=N,bk:=D.nx } σ2 H2):=by
 refine⟨λi m σ H=>m=xs.length-i∧i≤xs.length∧Pv i σ H,⟨xs.length,by simp,ylb _,h0⟩,?_⟩;rintro i m σ H ⟨rfl,hi,p⟩;have q:=hl i σ H hi p
 by_cases hlt:i<xs.length
 ·refine .inr ⟨⟨xs,xs[i],q,by simp[hlt]⟩,Pv (i+1),fun σ' H' p'=>⟨xs.length-(i+1),by omega,rfl,hlt,p'⟩,λx H' y=>?_⟩;obtain⟨e,y⟩:=y;subst e;exact hs i x σ _ (y xs q) p
 ·have e:i=xs.length:=by omega
  subst e;exact .inl ⟨⟨xs,q,yma _⟩,hd σ H p⟩
theorem zkn {lo:Int}{n:Nat}{g:TG}{tb:TS}{D:Ends}{σ:St}{H:Hp}(Pv:Nat->St->Hp->Prop)(h0:Pv 0 σ H)
  (hs:∀i σ H,i<n->Pv i σ H->g (.int (lo+i)) σ H fun σ2 H2=>tb { D with nx:=Pv (i+1),ct:=Pv (i+1),bk:=D.nx } σ2 H2) (hd:∀ σ H,Pv n σ H->D.nx σ H) :
  ∃W:Nat->Nat->St->Hp->Prop,(∃m,W 0 m σ H)∧∀i m σ H,W i m σ H →
   ((Itr lo n).stop i H∧D.nx σ H)∨((Itr lo n).go i H∧∃N:St->Hp->Prop,(∀ σ' H',N σ' H'->∃m',m'<m∧W (i+1) m' σ' H')∧∀x H',(Itr lo n).yld i H x H'->g x σ H' fun σ2 H2=>tb { D with nx:=N,ct:=N,bk:=D.nx } σ2 H2):=by
 refine⟨λi m σ H=>m=n-i∧i≤n∧Pv i σ H,⟨n,by simp,ylb _,h0⟩,?_⟩;rintro i m σ H ⟨rfl,hi,p⟩
 by_cases hlt:i<n
 ·refine .inr ⟨hlt,Pv (i+1),fun σ' H' p'=>⟨n-(i+1),by omega,rfl,hlt,p'⟩,λx H' y=>?_⟩;obtain⟨e,y⟩:=y;subst e y;exact hs i σ _ hlt p
 ·have e:i=n:=by omega
  subst e;exact .inl ⟨yma _,hd σ H p⟩
end L2
namespace L2
open PySem PySem.Spec PyProof.Rows
abbrev R2:=V->V->Hp->VK->Prop
def OpR (X:Cx)(f:Value->Value->Sem Value)(r:R2):Prop :=
 ∀(pins:List (Addr×Obj)) (s:Shared) (σ:St) (H:Hp) (x y:V) (v u:Value) (Q:VK),Inv X pins σ H s->RelV x v->RelV y u->r x y H Q →
  wpAny (model X.prog X.w) X.A (f v u) (EP X pins σ Q) X.xe s
def UnR (X:Cx)(f:Value->Sem Value)(r:V->Hp->VK->Prop):Prop :=
 ∀(pins:List (Addr×Obj)) (s:Shared) (σ:St) (H:Hp) (x:V) (v:Value) (Q:VK),Inv X pins σ H s->RelV x v->r x H Q →
  wpAny (model X.prog X.w) X.A (f v) (EP X pins σ Q) X.xe s
def zwk (X:Cx)(f:Value)(r:List V->Hp->VK->Prop):Prop :=
 ∀(pins:List (Addr×Obj)) (s:Shared) (σ:St) (H:Hp) (xs:List V) (us:List Value) (Q:VK),Inv X pins σ H s->Vals xs us->r xs H Q →
  wpAny (model X.prog X.w) X.A (call f us) (EP X pins σ Q) X.xe s
def TruR (X:Cx)(r:V->Hp->(Bool->Hp->Prop)->Prop):Prop :=
 ∀(pins:List (Addr×Obj)) (s:Shared) (σ:St) (H:Hp) (x:V) (v:Value) (Q:Bool->Hp->Prop),Inv X pins σ H s->RelV x v->r x H Q →
  wpAny (model X.prog X.w) X.A (truthy v) (TP X pins σ Q) X.xe s
def tOp (r:R2)(ta tb:TE):TE:=fun σ H Q=>ta σ H λx H1=>tb σ H1 λy H2=>r x y H2 Q
def tUn (r:V->Hp->VK->Prop)(ta:TE):TE:=fun σ H Q=>ta σ H λx H1=>r x H1 Q
def rI (C:Int->Int->Prop)(g:Int->Int->V):R2:=λx y H Q=>Ex2 λi j=>x = .int i∧y = .int j∧C i j∧Q (g i j) H
def rI0 (g:Int->Int->V):R2:=λx y H Q=>Ex2 λi j=>x = .int i∧y = .int j∧Q (g i j) H
def rU (g:Int->V):V->Hp->VK->Prop:=λx H Q=>∃i,x = .int i∧Q (g i) H
section
variable {X:Cx}{a b c:Expr}{ta tb tc:TE}{pos:Pos}
theorem binT (ha:PE X a ta)(hb:PE X b tb){pins:List (Addr×Obj)}{s:Shared}{σ:St}{H:Hp}{R:V->V->Hp->Prop}(I:Inv X pins σ H s)
  (h:ta σ H λx H1=>tb σ H1 λy H2=>R x y H2) {Q:Value->Shared->Prop} {f:Value->Value->Sem Value}
  (hf:∀v u s2 x y H2,Inv X pins σ H2 s2->RelV x v->RelV y u->R x y H2->wpAny (model X.prog X.w) X.A (f v u) Q X.xe s2) :
  wpAny (model X.prog X.w) X.A (eval a X.env) (λv s₁=>wpAny (model X.prog X.w) X.A (eval b X.env) (λu s₂=>wpAny (model X.prog X.w) X.A (f v u) Q X.xe s₂) X.xe s₁) X.xe s:=by
 refine thn (ha pins s σ H _ I h) λv s1 ⟨x,H1,I1,r1,q1⟩=>?_;refine thn (hb pins s1 σ H1 _ I1 q1) λu s2 ⟨y,H2,I2,r2,q2⟩=>?_;exact hf v u s2 x y H2 I2 r1 r2 q2
theorem zfc {op:ylo}{r:R2}(ho:OpR X (ykh op) r)(ha:PE X a ta)(hb:PE X b tb):PE X (.BinOp a op b pos) (tOp r ta tb):=by
 intro pins s σ H Q I h;exact wpAny_BinOp (binT ha hb I h λv u s2 x y H2 I2 rx ry q=>ho pins s2 σ H2 x y v u Q I2 rx ry q)
theorem zkib {op:UnaryOp}{r:V->Hp->VK->Prop}(ho:UnR X (unaryOp op) r)(ha:PE X a ta):PE X (.UnaryOp op a pos) (tUn r ta):=by
 intro pins s σ H Q I h;exact UnaryOp_ (thn (ha pins s σ H _ I h) λv s1 ⟨x,H1,I1,r1,q1⟩=>ho pins s1 σ H1 x v Q I1 r1 q1)
theorem opI {f:Value->Value->Sem Value}{C:Int->Int->Prop}{g:Int->Int->Int}
  (rule:∀(i j:Int) (t u:Tok) (s:Shared) (Q:Value->Shared->Prop) (E:Value->Shared->Prop),C i j->Q (.int (g i j) s.toks) { s with toks:=s.toks+1 }->wpAny (model X.prog X.w) X.A (f (.int i t) (.int j u)) Q E s) :
  OpR X f (rI C λi j=>.int (g i j)):=by
 intro pins s σ H x y v u Q I rx ry h;obtain⟨i,j,rfl,rfl,hc,q⟩:=h;obtain⟨t,rfl⟩:=rx;obtain⟨t',rfl⟩:=ry;exact rule i j t t' s _ _ hc ⟨.int (g i j),H,I.tok _,⟨_,rfl⟩,q⟩
theorem opI0 {f:Value->Value->Sem Value}{g:Int->Int->Int}
  (rule:∀(i j:Int) (t u:Tok) (s:Shared) (Q:Value->Shared->Prop) (E:Value->Shared->Prop),Q (.int (g i j) s.toks) { s with toks:=s.toks+1 }->wpAny (model X.prog X.w) X.A (f (.int i t) (.int j u)) Q E s) :
  OpR X f (rI0 λi j=>.int (g i j)):=by
 intro pins s σ H x y v u Q I rx ry h;obtain⟨i,j,rfl,rfl,q⟩:=h;obtain⟨t,rfl⟩:=rx;obtain⟨t',rfl⟩:=ry;exact rule i j t t' s _ _ ⟨.int (g i j),H,I.tok _,⟨_,rfl⟩,q⟩
theorem opB0 {f:Value->Value->Sem Value}{g:Int->Int->Bool}
  (rule:∀(i j:Int) (t u:Tok) (s:Shared) (Q:Value->Shared->Prop) (E:Value->Shared->Prop),Q (.bool (g i j)) s->wpAny (model X.prog X.w) X.A (f (.int i t) (.int j u)) Q E s) :
  OpR X f (rI0 λi j=>.bl (g i j)):=by
 intro pins s σ H x y v u Q I rx ry h;obtain⟨i,j,rfl,rfl,q⟩:=h;obtain⟨t,rfl⟩:=rx;obtain⟨t',rfl⟩:=ry;exact rule i j t t' s _ _ ⟨.bl (g i j),H,I,rfl,q⟩
def CDiv (i j:Int):Prop:=0<j∧j<1073741824
def CPow (i j:Int):Prop:=0≤j∧j≤1000000∧i.natAbs<2 ^ 64
def CMul (i j:Int):Prop:=(-(2 ^ 64)<i∧i<2 ^ 64)∨(-(2 ^ 64)<j∧j<2 ^ 64)
theorem CMul.ok {i j:Int}(h:CMul i j):IntMulOk i j:=by
 rcases h with⟨h1,h2⟩|⟨h1,h2⟩
 ·exact .of_left (intBits_le_64 h1 h2)
 ·exact .of_right (intBits_le_64 h1 h2)
theorem zci:OpR X (ykh .Add) (rI0 λi j=>.int (i+j)):=opI0 λ_ _ _ _ _ _ _ q=>add_int q
theorem zek:OpR X (ykh .Sub) (rI0 λi j=>.int (i-j)):=opI0 λ_ _ _ _ _ _ _ q=>sub_int q
theorem zft:OpR X (ykh .Mult) (rI CMul λi j=>.int (i*j)):=opI λ_ _ _ _ _ _ _ hc q=>mul_int q hc.ok
theorem zbmb:OpR X (ykh .FloorDiv) (rI CDiv λi j=>.int (i / j)):=opI λi j _ _ _ _ _ hc q=>by
 have h1:(0:Int)<j:=hc.1;have h2:j<1073741824:=hc.2;exact floordiv_int (by omega) (by rw[Int.fdiv_eq_ediv_of_nonneg i (by omega)];exact q) (.inl (PyProof.noPylong_small (by omega)))
theorem zbi:OpR X (ykh .Mod) (rI (λ_ j=>0<j) λi j=>.int (i % j)):=opI λi j _ _ _ _ _ hc q=>by
 have h1:(0:Int)<j:=hc;exact mod_int' (by omega) (by rw[Int.fmod_eq_emod_of_nonneg i (by omega)];exact q)
theorem zsob:OpR X (ykh .Pow) (rI CPow λi j=>.int (i ^ j.toNat)):=opI λ_ _ _ _ _ _ _ hc q=>pow_int_small hc.1 hc.2.1 hc.2.2 q
theorem unI {f:Value->Sem Value}{g:Int->Int}
  (rule:∀(i:Int) (t:Tok) (s:Shared) (Q:Value->Shared->Prop) (E:Value->Shared->Prop),Q (.int (g i) s.toks) { s with toks:=s.toks+1 }->wpAny (model X.prog X.w) X.A (f (.int i t)) Q E s) :
  UnR X f (rU λi=>.int (g i)):=by
 intro pins s σ H x v Q I rx h;obtain⟨i,rfl,q⟩:=h;obtain⟨t,rfl⟩:=rx;exact rule i t s _ _ ⟨.int (g i),H,I.tok _,⟨_,rfl⟩,q⟩
theorem zibb:UnR X (unaryOp .USub) (rU λi=>.int (-i)):=unI λ_ _ _ _ _ q=>neg_int q
end
def scal:V->V->Bool
 | .non,.non=>true|.non,.int _=>true|.int _,.non=>true|.non,.bl _=>true|.bl _,.non=>true|.non,.str _=>true|.str _,.non=>true
 | .int _,.int _=>true|.bl _,.bl _=>true|.str _,.str _=>true|.byt _,.byt _=>true
 | .int _,.str _=>true|.str _,.int _=>true|.bl _,.str _=>true|.str _,.bl _=>true
 | _,_=>false
def rEq:R2:=λx y H Q=>scal x y=true∧Q (.bl (decide (x=y))) H
def rNe:R2:=λx y H Q=>scal x y=true∧Q (.bl (!decide (x=y))) H
theorem zugb {i j:Int}:decide (V.int i=V.int j)=(i==j):=by
 rw[yti];simp
theorem zokb {i j:Bool}:decide (V.bl i=V.bl j)=(i==j):=by
 rw[yti];simp
theorem ztgb {i j:Str}:decide (V.str i=V.str j)=(i==j):=by
 rw[yti];simp
theorem zvgb {i j:Array UInt8}:decide (V.byt i=V.byt j)=(i.toList==j.toList):=by
 rw[yti];cases i;cases j;simp
section
variable {X:Cx}{a b c:Expr}{ta tb tc:TE}{pos:Pos}
theorem ztc {pins:List (Addr×Obj)}{σ:St}{H:Hp}{s:Shared}{Q:VK}{k k':Bool}(I:Inv X pins σ H s)(q:Q (.bl k) H)(e:k=k'):EP X pins σ Q (.bool k') s:=by
 subst e;exact⟨.bl k,H,I,rfl,q⟩
theorem zsc:OpR X (yxc .Eq) rEq:=by
 intro pins s σ H x y v u Q I rx ry h;obtain⟨hs,q⟩:=h;cases x with
 | non =>
  cases rx;cases y with
  | non=>cases ry;exact PySem.EqNone.eq_none_none (ztc I q (by simp))
  | bl j=>cases ry;exact PySem.EqNone.eq_none_bool (ztc I q (by simp))
  | int j=>obtain⟨t',rfl⟩:=ry;exact PySem.EqNone.eq_none_int (ztc I q (by simp))
  | str j=>obtain⟨t',rfl⟩:=ry;exact PySem.EqNone.eq_none_str (ztc I q (by simp))
  | _=>exact absurd (show false=true from hs) yua
 | bl i =>
  cases rx;cases y with
  | non=>cases ry;exact PySem.EqNone.eq_bool_none (ztc I q (by simp))
  | bl j=>cases ry;exact eq_bool (ztc I q zokb)
  | str j=>obtain⟨t',rfl⟩:=ry;exact PySem.EqMixed.eq_bool_str (ztc I q (by simp))
  | _=>exact absurd (show false=true from hs) yua
 | int i =>
  obtain⟨t,rfl⟩:=rx;cases y with
  | non=>cases ry;exact PySem.EqNone.eq_int_none (ztc I q (by simp))
  | int j=>obtain⟨t',rfl⟩:=ry;exact eq_int (ztc I q zugb)
  | str j=>obtain⟨t',rfl⟩:=ry;exact PySem.EqMixed.eq_int_str (ztc I q (by simp))
  | _=>exact absurd (show false=true from hs) yua
 | str i =>
  obtain⟨t,rfl⟩:=rx;cases y with
  | non=>cases ry;exact PySem.EqNone.eq_str_none (ztc I q (by simp))
  | bl j=>cases ry;exact PySem.EqMixed.eq_str_bool (ztc I q (by simp))
  | int j=>obtain⟨t',rfl⟩:=ry;exact PySem.EqMixed.eq_str_int (ztc I q (by simp))
  | str j=>obtain⟨t',rfl⟩:=ry;exact eq_str (ztc I q ztgb)
  | _=>exact absurd (show false=true from hs) yua
 | byt i =>
  obtain⟨t,rfl⟩:=rx;cases y with
  | byt j=>obtain⟨t',rfl⟩:=ry;exact PySem.W.eq_bytes (ztc I q zvgb)
  | _=>exact absurd (show false=true from hs) yua
 | _=>cases y<;>exact absurd (show false=true from hs) yua
theorem zuqb:OpR X (yxc .NotEq) rNe:=by
 intro pins s σ H x y v u Q I rx ry h;obtain⟨hs,q⟩:=h;cases x with
 | non =>
  cases rx;cases y with
  | non=>cases ry;exact PySem.EqNone.ne_none_none (ztc I q (by simp))
  | bl j=>cases ry;exact PySem.EqNone.ne_none_bool (ztc I q (by simp))
  | int j=>obtain⟨t',rfl⟩:=ry;exact PySem.EqNone.ne_none_int (ztc I q (by simp))
  | str j=>obtain⟨t',rfl⟩:=ry;exact PySem.EqNone.ne_none_str (ztc I q (by simp))
  | _=>exact absurd (show false=true from hs) yua
 | bl i =>
  cases rx;cases y with
  | non=>cases ry;exact PySem.EqNone.ne_bool_none (ztc I q (by simp))
  | bl j=>cases ry;exact ne_bool (ztc I q (congrArg not zokb))
  | str j=>obtain⟨t',rfl⟩:=ry;exact PySem.EqMixed.ne_bool_str (ztc I q (by simp))
  | _=>exact absurd (show false=true from hs) yua
 | int i =>
  obtain⟨t,rfl⟩:=rx;cases y with
  | non=>cases ry;exact PySem.EqNone.ne_int_none (ztc I q (by simp))
  | int j=>obtain⟨t',rfl⟩:=ry;exact ne_int (ztc I q (congrArg not zugb))
  | str j=>obtain⟨t',rfl⟩:=ry;exact PySem.EqMixed.ne_int_str (ztc I q (by simp))
  | _=>exact absurd (show false=true from hs) yua
 | str i =>
  obtain⟨t,rfl⟩:=rx;cases y with
  | non=>cases ry;exact PySem.EqNone.ne_str_none (ztc I q (by simp))
  | bl j=>cases ry;exact PySem.EqMixed.ne_str_bool (ztc I q (by simp))
  | int j=>obtain⟨t',rfl⟩:=ry;exact PySem.EqMixed.ne_str_int (ztc I q (by simp))
  | str j=>obtain⟨t',rfl⟩:=ry;exact ne_str (ztc I q (congrArg not ztgb))
  | _=>exact absurd (show false=true from hs) yua
 | byt i =>
  obtain⟨t,rfl⟩:=rx;cases y with
  | byt j=>obtain⟨t',rfl⟩:=ry;exact PySem.W.ne_bytes (ztc I q (congrArg not zvgb))
  | _=>exact absurd (show false=true from hs) yua
 | _=>cases y<;>exact absurd (show false=true from hs) yua
theorem ztob:OpR X (yxc .Lt) (rI0 λi j=>.bl (decide (i<j))):=opB0 λ_ _ _ _ _ _ _ q=>lt_int q
theorem zoib:OpR X (yxc .LtE) (rI0 λi j=>.bl (decide (i≤j))):=opB0 λ_ _ _ _ _ _ _ q=>le_int q
theorem zos:OpR X (yxc .Gt) (rI0 λi j=>.bl (decide (j<i))):=opB0 λ_ _ _ _ _ _ _ q=>gt_int q
theorem zvob:OpR X (yxc .GtE) (rI0 λi j=>.bl (decide (j≤i))):=opB0 λ_ _ _ _ _ _ _ q=>ge_int q
theorem zsw:OpR X (yxc .In) (λx y H Q=>Ex2 λi j=>x = .str i∧y = .str j∧Q (.bl (!(ync j i 0 j.length 1).isEmpty)) H):=by
 intro pins s σ H x y v u Q I rx ry h;obtain⟨i,j,rfl,rfl,q⟩:=h;obtain⟨t,rfl⟩:=rx;obtain⟨t',rfl⟩:=ry;exact in_str (ztc I q rfl)
theorem zuob:OpR X (yxc .Is) (λx y H Q=>y = .non∧Q (.bl (decide (x = .non))) H):=by
 intro pins s σ H x y v u Q I rx ry h;obtain⟨rfl,q⟩:=h;cases ry;refine is_none_gen (ztc I q ?_);cases x<;>first
  | (cases rx;rfl)
  | (obtain⟨t,rfl⟩:=rx;rfl)
theorem zylb:OpR X (yxc .IsNot) (λx y H Q=>y = .non∧Q (.bl (!decide (x = .non))) H):=by
 intro pins s σ H x y v u Q I rx ry h;obtain⟨rfl,q⟩:=h;cases ry;refine isnot_none_gen (ztc I q ?_);cases x<;>first
  | (cases rx;rfl)
  | (obtain⟨t,rfl⟩:=rx;rfl)
theorem zya (b:Expr){op:CmpOp}(h:op ≠ .In:=by decide)(h2:op ≠ .NotIn:=by decide):ytk op b=false:=by
 have e1:(op==CmpOp.In)=false:=by cases op<;>first|rfl|exact absurd rfl h
 have e2:(op==CmpOp.NotIn)=false:=by cases op<;>first|rfl|exact absurd rfl h2
 cases b<;>simp[ytk,e1,e2]
theorem zme {op:CmpOp}{r:R2}(ho:OpR X (yxc op) r)(ha:PE X a ta)(hb:PE X b tb)(hm:ytk op b=false):PE X (.Compare a [op] [b] pos) (tOp r ta tb):=by
 intro pins s σ H Q I h;exact wpAny_Compare1 (binT ha hb I h λv u s2 x y H2 I2 rx ry q=>ho pins s2 σ H2 x y v u Q I2 rx ry q) hm
def ztnb (t:TE):TT:=fun σ H Q=>t σ H λx H'=>∃k,x = .bl k∧Q k H'
theorem zoa {op:CmpOp}{r:R2}(ho:OpR X (yxc op) r)(ha:PE X a ta)(hb:PE X b tb)(hm:ytk op b=false):PT X (.Compare a [op] [b] pos) (ztnb (tOp r ta tb)):=by
 intro pins s σ H Q I h;refine wpAny_isTrue_Compare1 (thn (ha pins s σ H _ I h) λv s1 ⟨x,H1,I1,r1,q1⟩=>thn (hb pins s1 σ H1 _ I1 q1) λu s2 ⟨y,H2,I2,r2,q2⟩ =>
  thn (ho pins s2 σ H2 x y v u _ I2 r1 r2 q2) λc s3 ⟨z,H3,I3,r3,k,e,q3⟩=>?_) hm
 subst e;cases r3;exact yad ⟨H3,I3,q3⟩
def zzjb (r r':R2)(ta tb tc:TE):TE:=fun σ H Q=>ta σ H λx H1=>tb σ H1 λy H2=>r x y H2 λz H3=>∃k,z = .bl k ∧
 (if k=true then tc σ H3 λw' H4=>r' y w' H4 Q else Q (.bl false) H3)
theorem znib {op op':CmpOp}{r r':R2}(ho:OpR X (yxc op) r)(ho':OpR X (yxc op') r')(ha:PE X a ta)(hb:PE X b tb)(hc:PE X c tc)
  (hm:lastMarks [op,op'] [b,c]=false:=by with_unfolding_all rfl):PE X (.Compare a [op,op'] [b,c] pos) (zzjb r r' ta tb tc):=by
 intro pins s σ H Q I h;refine Compare_chain (thn (ha pins s σ H _ I h) λv s1 ⟨x,H1,I1,r1,q1⟩=>chain_link (thn (hb pins s1 σ H1 _ I1 q1) λu s2 ⟨y,H2,I2,r2,q2⟩ =>
  thn (ho pins s2 σ H2 x y v u _ I2 r1 r2 q2) λd s3 ⟨z,H3,I3,r3,k,e,q3⟩=>?_)) hm
 subst e;cases r3;refine yad ?_;cases k with
 | false=>exact ite_ff ⟨.bl false,H3,I3,rfl,q3⟩
 | true=>exact ite_tt (chain_last (thn (hc pins s3 σ H3 _ I3 q3) λw' s4 ⟨z',H4,I4,r4,q4⟩=>ho' pins s4 σ H4 y z' u w' Q I4 r2 r4 q4))
theorem zcib {op op':CmpOp}{r r':R2}(ho:OpR X (yxc op) r)(ho':OpR X (yxc op') r')(ha:PE X a ta)(hb:PE X b tb)(hc:PE X c tc)
  (hm:lastMarks [op,op'] [b,c]=false:=by with_unfolding_all rfl):PT X (.Compare a [op,op'] [b,c] pos) (ztnb (zzjb r r' ta tb tc)):=by
 intro pins s σ H Q I h;refine isTrue_chain (thn (ha pins s σ H _ I h) λv s1 ⟨x,H1,I1,r1,q1⟩=>test_link (thn (hb pins s1 σ H1 _ I1 q1) λu s2 ⟨y,H2,I2,r2,q2⟩ =>
  thn (ho pins s2 σ H2 x y v u _ I2 r1 r2 q2) λd s3 ⟨z,H3,I3,r3,k,e,q3⟩=>?_)) hm
 subst e;cases r3;refine yad ?_;cases k with
 | false =>
  obtain⟨k',e',q'⟩:=q3;cases e';exact ite_ff ⟨H3,I3,q'⟩
 | true =>
  refine ite_tt (test_last (thn (hc pins s3 σ H3 _ I3 q3) λw' s4 ⟨z',H4,I4,r4,q4⟩=>thn (ho' pins s4 σ H4 y z' u w' _ I4 r2 r4 q4) λd' s5 ⟨z2,H5,I5,r5,k2,e2,q5⟩=>?_));subst e2;cases r5;exact yad ⟨H5,I5,q5⟩
def TruV (K:yba)(x:V)(H:Hp)(k:Bool):Prop :=
 match x with
 | .non=>k=false
 | .bl b=>k=b
 | .int i=>k=(i != 0)
 | .str y=>y.length≤yta∧k=((y.length:Int) != 0)
 | .byt y=>y.size≤yta∧k=((y.size:Int) != 0)
 | .ref p=>(∃xs,SqL K H p xs∧k = !xs.isEmpty)∨(∃xs,SqT K H p xs∧k = !xs.isEmpty)∨∃kvs,H p=some (.dK kvs)∧k = !kvs.isEmpty
 | _=>False
theorem zqdb {κ:Type}{kvs:List (κ×V)}{vs:List (κ×Value)}(r:KV kvs vs):(!vs.isEmpty) = !kvs.isEmpty:=by
 cases r<;>rfl
theorem zmt {xs:List V}{its:List Value}(r:Vals xs its):(!its.toArray.isEmpty) = !xs.isEmpty:=by
 cases r<;>simp
theorem zpr:(yta:Nat)<2 ^ 63:=by rw[sizeLine_eq];decide
theorem zqnb:TruR X (λx H Q=>∃k,TruV X.K x H k∧Q k H):=by
 intro pins s σ H x v Q I rx h;obtain⟨k,e,q⟩:=h;have hl:=zpr;have hs:yta=16777216:=sizeLine_eq;cases x with
 | non =>
  cases rx;have e':k=false:=e;subst e';exact truthy_none ⟨H,I,q⟩
 | bl b =>
  cases rx;have e':k=b:=e;subst e';exact yad ⟨H,I,q⟩
 | int i =>
  obtain⟨t,rfl⟩:=rx;have e':k=(i != 0):=e;subst e';exact PySem.P.truthy_int ⟨H,I,q⟩
 | str y =>
  obtain⟨t,rfl⟩:=rx;obtain⟨hy,e'⟩:y.length≤yta∧k=((y.length:Int) != 0):=e;subst e';exact PySem.P.truthy_str (by omega) ⟨H,I.tok _,q⟩
 | byt y =>
  obtain⟨t,rfl⟩:=rx;obtain⟨hy,e'⟩:y.size≤yta∧k=((y.size:Int) != 0):=e;subst e';exact PySem.W.truthy_bytes (by omega) ⟨H,I.tok _,q⟩
 | ref p =>
  cases rx;have e':(∃xs,SqL X.K H p xs∧k = !xs.isEmpty)∨(∃xs,SqT X.K H p xs∧k = !xs.isEmpty)∨∃kvs,H p=some (.dK kvs)∧k = !kvs.isEmpty:=e
  rcases e' with⟨xs,hx,e'⟩|⟨xs,hx,e'⟩|⟨kvs,hx,e'⟩
  ·subst e';obtain⟨its,r,pl,hz⟩:=I.list hx;have hlen:=r.length;exact wpAny_truthy_list pl.isList (by simp only[yka];omega) ⟨H,I.tok _,by rw[zmt r];exact q⟩
  ·subst e';obtain⟨its,r,pl,hz⟩:=I.tuple hx;have hlen:=r.length;exact truthy_tuple pl (by simp only[yka];omega) ⟨H,I.tok _,by rw[zmt r];exact q⟩
  ·subst e';obtain⟨hz,hS,vs,r,m⟩:kvs.length≤yta∧(p==sysModules)=false∧∃vs,KV kvs vs∧s.heap.DictOf (zlz X.prog X.w) p vs:=I.hok p _ hx;have hlen:kvs.length=vs.length:=Paired.length r;exact wpAny_truthy_dict hS m (by omega) ⟨H,I.tok _,by rw[zqdb r];exact q⟩
 | _=>exact (show False from e).elim
theorem zbib (ha:PE X a ta)(he:∀whole,isTrue a X.env whole=(do let v ← whole;standAt a.pos;ysm [v] (truthy v))) :
  PT X a (fun σ H Q=>ta σ H λx H'=>∃k,TruV X.K x H' k∧Q k H'):=by
 intro pins s σ H Q I h;exact isTrue_plain (thn (ha pins s σ H _ I h) λv s1 ⟨x,H1,I1,r1,q1⟩=>zqnb pins s1 σ H1 x v Q I1 r1 q1) (he _)
theorem zzk:OpR X (ykh .Add) (λx y H Q=>Ex2 λi j=>x = .str i∧y = .str j∧i.length+j.length≤yta∧Q (.str (i++j)) H):=by
 intro pins s σ H x y v u Q I rx ry h;obtain⟨i,j,rfl,rfl,hz,q⟩:=h;obtain⟨t,rfl⟩:=rx;obtain⟨t',rfl⟩:=ry;exact add_str (λt' tk=>⟨.str (i++j),H,I.tok _,⟨_,rfl⟩,q⟩) hz
theorem vals1 {x:V}{us:List Value}(r:Vals [x] us):∃u,us=[u]∧RelV x u:=by
 cases r with
 | cons r1 r2=>cases r2;exact⟨_,rfl,r1⟩
theorem vals2 {x y:V}{us:List Value}(r:Vals [x,y] us):Ex2 λu w'=>us=[u,w']∧RelV x u∧RelV y w':=by
 cases r with
 | cons r1 r2 =>
  cases r2 with
  | cons r3 r4=>cases r4;exact⟨_,_,rfl,r1,r3⟩
theorem zzx:zwk X (.type "str") (λxs H Q=>∃i,xs=[.int i]∧i.natAbs.log2<1920∧Q (.str (toString i)) H):=by
 intro pins s σ H xs us Q I r h;obtain⟨i,rfl,hz,q⟩:=h;obtain⟨u,rfl,t,rfl⟩:=vals1 r;exact PySem.P.str_of_int hz ⟨.str _,H,I.tok _,⟨_,rfl⟩,q⟩
end
end L2
namespace L2
open PySem PySem.Spec PyProof.Rows
structure ObjM (h:Heap)(x dx C:Addr)(mA:Str->Option Value):Prop where
 obj:h.get? x=some (yje C dx)
 ns:h.Ns1 dx mA
 ne:dx≠x
theorem zwfb {h:Heap}{dx:Addr}{mA:Str->Option Value}(n:h.Ns1 dx mA):∃od,h.get? dx=some od∧∀name,yqj name od=some (mA name):=by
 obtain⟨o,es,ep,ho,hd,hk,_,hm⟩:=n;refine⟨o,ho,λname=>?_⟩;have e:=hm name;unfold nsFind findBy at e;rw[← Array.find?_toList] at e;unfold yqj;rw[hd];dsimp only
 split
 ·rename_i y q;rw[q] at e;exact congrArg some e
 ·rename_i q;rw[q] at e;have a:es.toList.any (·.refKey)=false:=by
   rw[List.any_eq_false];intro y hy;obtain⟨z,t,hkey⟩:=hk y (Array.mem_toList_iff.mp hy);simp[DictEntry.refKey,hkey]
  have a':¬ es.toList.any (·.refKey)=true:=by rw[a];exact yua
  rw[if_neg a'];exact congrArg some e
theorem ObjM.look {h:Heap}{x dx C:Addr}{mA:Str->Option Value}(I:ObjM h x dx C mA):∃od,PySem.W.InstAt h x (yje C dx) C (some od)∧∀name,yqj name od=some (mA name) :=
 let ⟨od,ho,hl⟩:=zwfb I.ns
 ⟨od,⟨I.obj,rfl,rfl,ho⟩,hl⟩
section
variable {prog:ytb}{w:World}{A:Around}{E:Value->Shared->Prop}{s:Shared}{K:yba}{x dx C f:Addr}{mA:Str->Option Value}{name:Str}{v:Value}
theorem get_map {expr:Bool}{Q:Value->Shared->Prop}(X:K.In s.heap)(I:ObjM s.heap x dx C mA)(hg:yse K C name=true)(hh:yhf K C=true)
  (ha:yab K (.ref C) name=some none) (hv:mA name=some v) (hv':ygo v=true) (h:Q v { s with toks:=s.toks+1 }) :
  wpAny (model prog w) A (getAttr (.ref x) name expr) Q E s:=by
 obtain⟨od,J,hl⟩:=I.look;exact PySem.W.get_value X J (yui hg).1 (PySem.W.findObj_own hh ha rfl (by rw[hl,hv])) hv' h
theorem zkjb {pl:Sem Bool}{Q:Value×List Value->Shared->Prop}(X:K.In s.heap)(I:ObjM s.heap x dx C mA)(hg:yse K C name=true)
  (hf:yab K (.ref C) name=some (some (.ref f))) (ht:yjj K (.ref f)=true) (hv:mA name=none) (h:Q (.ref f,[.ref x]) s) :
  wpAny (model prog w) A (ypo (.ref x) name pl) Q E s:=by
 obtain⟨od,J,hl⟩:=I.look;exact PySem.W.method_fn X J (yui hg).1 (yui hg).2 hf (beq_iff_eq.mp ht) (by show (yqj name od).map (·.isSome)=some false;rw[hl,hv];rfl) h
theorem zjlb {ns:List Str}{Q:Unit->Shared->Prop}(X:K.In s.heap)(I:ObjM s.heap x dx C mA)
  (hs:yab K (.ref C) "__setattr__" = some (some (.builtin "object.__setattr__"))) (hp:yqg K C=true) (ht:yol K C name=some none) (hh:yhf K C=true)
  (hw:yml mA ns) (hsz:ns.length≤yta)
  (h:∀h',ObjM h' x dx C (λy=>if y=name then some v else mA y)->ywc dx s.heap h'->Q () { s with heap:=h',toks:=s.toks+2 }) :
  wpAny (model prog w) A (setAttr (.ref x) name v) Q E s:=by
 obtain⟨od,J,hl⟩:=I.look;refine PySem.W.set_plain X J hs (PySem.W.osa_open (s:={ s with toks:=s.toks+1 }) (r:=none) X J hp ht λb=>?_);obtain⟨cd,hc,hd'⟩:=PySem.W.any_some hh;have hx:s.heap.get? x=some ⟨.ref C,some dx,.plain,#[]⟩:=I.obj;refine yaa (yfa (yaa (yaa (wpAny_loadPart hx (yaa (PySem.W.Looks.here (s:={ s with toks:=s.toks+1 }) (PySem.W.looks_clsIn X hc) ?_))))));rw[hd'];refine yfa (a:=some dx) (yaa (yfa (yaa ?_)));refine wpAny_nsSet1 (s:={ s with toks:=s.toks+1 }) I.ns λh' hn2 hs2=>?_;obtain⟨oD,esD,epD,hoD,hdD,hcD⟩:=hn2.count (yml.cons name v hw);refine yaa (wpAny_lookBehind hoD (by rw[hdD];exact pastItsLine_dict (yxa hcD (by rw[yga];omega))) ?_);exact yfa (h _ ⟨(hs2.2 _ (yub I.ne)).trans I.obj,hn2,I.ne⟩ hs2)
theorem zwib {R:Result->Shared->Prop}{vs:List Value}{kw:List (Str×Value)}(X:K.In s.heap)(hm:ypl K C=true)
  (hi:yab K (.ref C) "__init__" = some (some (.ref f))) (hf:PySem.W.typeIn K (.ref f)=some (.type "function"))
  (h:yvi (model prog w) (A.under (.builtin "type.__call__" ⟨.ref C::vs,kw⟩)) (.call (.ref f) ⟨.ref (s.heap.objs.size+1)::vs,kw⟩) (PySem.W.InitBack (s.heap.objs.size+1) R)
   { s with heap:=(s.heap.push ygd).push (yje C s.heap.objs.size) }) :
  yvi (model prog w) A (.call (.ref C) ⟨vs,kw⟩) R s:=by
 obtain⟨hh,g,d,t,os⟩:=s;exact PySem.W.make_core (PySem.W.makes_of X hm) (PySem.W.looks_findIn X hi) (λself=>PySem.W.bind_fn X self hf) (.inl rfl) h
end
def putF (f:Str)(v:V):List (Str×V)->List (Str×V)
 | []=>[(f,v)]
 | (g,x)::r=>if g=f then (g,v)::r else (g,x)::putF f v r
theorem zor (f g:Str)(v:V):∀fs:List (Str×V),(putF f v fs).lookup g=if g=f then some v else fs.lookup g
 | []=>by
  show yqd g [(f,v)]=_
  by_cases h:g=f
  ·have hb:(g==f)=true:=beq_iff_eq.mpr h;simp only[yqd,hb,if_pos h]
  ·have hb:(g==f)=false:=beq_eq_false_iff_ne.mpr h;simp only[yqd,hb,if_neg h]
 | (k,x)::r=>by
  have ih:=zor f g v r;rw[show putF f v ((k,x)::r)=(if k=f then (k,v)::r else (k,x)::putF f v r) from rfl]
  by_cases hk:k=f
  ·rw[if_pos hk]
   by_cases h:g=k
   ·have hb:(g==k)=true:=beq_iff_eq.mpr h;simp only[yqd,hb,if_pos (h.trans hk)]
   ·have hb:(g==k)=false:=beq_eq_false_iff_ne.mpr h;simp only[yqd,hb,if_neg (λe:g=f=>h (e.trans hk.symm))]
  ·rw[if_neg hk]
   by_cases h:g=k
   ·have hb:(g==k)=true:=beq_iff_eq.mpr h;simp only[yqd,hb,if_neg (λe:g=f=>hk (h.symm.trans e))]
   ·have hb:(g==k)=false:=beq_eq_false_iff_ne.mpr h;simp only[yqd,hb];exact ih
theorem zrr (f:Str)(v:V):∀fs:List (Str×V),f∈(putF f v fs).map (·.1)∧∀g,g∈fs.map (·.1)->g∈(putF f v fs).map (·.1)
 | []=>⟨by simp[putF],λg h=>by simp at h⟩
 | (k,x)::r=>by
  obtain⟨i1,i2⟩:=zrr f v r;rw[show putF f v ((k,x)::r)=(if k=f then (k,v)::r else (k,x)::putF f v r) from rfl]
  by_cases hk:k=f
  ·rw[if_pos hk];subst hk;exact⟨by simp,λg h=>by simpa using h⟩
  ·rw[if_neg hk];refine⟨?_,λg h=>?_⟩
   ·rw[yva];exact yna _ i1
   ·rw[yva] at h ⊢
    rcases yha.mp h with e|e
    ·exact yha.mpr (.inl e)
    ·exact yna _ (i2 g e)
theorem zqr (f:Str)(v:V):∀fs:List (Str×V),(putF f v fs).length≤fs.length+1
 | []=>by simp[putF]
 | (k,x)::r=>by
  have ih:=zqr f v r;rw[show putF f v ((k,x)::r)=(if k=f then (k,v)::r else (k,x)::putF f v r) from rfl]
  by_cases hk:k=f
  ·rw[if_pos hk,yga,yga];omega
  ·rw[if_neg hk,yga,yga];omega
theorem RelO.some_of {v:V}{o:Option Value}(r:RelO (some v) o):∃u,o=some u∧RelV v u:=by
 cases o with
 | none=>exact (show False from r).elim
 | some u=>exact⟨u,rfl,r⟩
theorem RelO.none_of {o:Option Value}(r:RelO none o):o=none:=by
 cases o with
 | none=>rfl
 | some u=>exact (show False from r).elim
theorem zjgb {v:V}{u:Value}(r:RelV v u):ygo u=true:=by
 cases v with
 | non=>cases (show u=Value.none from r);rfl
 | bl b=>cases (show u=Value.bool b from r);rfl
 | int i=>obtain⟨t,e⟩:=(show ∃t,u=Value.int i t from r);cases e;rfl
 | str x=>obtain⟨t,e⟩:=(show ∃t,u=Value.str x t from r);cases e;rfl
 | byt b=>obtain⟨t,e⟩:=(show ∃t,u=Value.bytes b t from r);cases e;rfl
 | flt b=>obtain⟨t,e⟩:=(show ∃t,u=Value.float b t from r);cases e;rfl
 | ref a=>cases (show u=Value.ref a from r);rfl
 | ty n=>cases (show u=Value.type n from r);rfl
section
variable {P:ytb}{w:World}{H H':Hp}{h h':Heap}{a C dx:Addr}{fs fs':List (Str×V)}
theorem zvu (hok:HOk P w H h)(e:H a=some (.ins C dx fs)):∃mA,ObjM h a dx C mA∧(∀f,RelO (fs.lookup f) (mA f))∧yml mA (fs.map (·.1))∧fs.length≤1000∧H dx=some (.own a):=by
 obtain⟨d,z,ne,ob,mA,n,r,q⟩:=(show zwi P w H h a (.ins C dx fs) from hok a _ e);exact⟨mA,⟨ob,n,ne⟩,r,q,z,d⟩
end
structure Cls (K:yba)(C:Addr):Prop where
 pg:yse K C yqo=true
 hd:yhf K C=true
 po:yqg K C=true
 sa:yab K (.ref C) "__setattr__" = some (some (.builtin "object.__setattr__"))
theorem Cls.get {K:yba}{C:Addr}(c:Cls K C)(f:Str):yse K C f=true:=c.pg
def ztg (K:yba)(C:Addr)(f:Str):Prop:=yab K (.ref C) f=some none
theorem ztg.taker {K:yba}{C:Addr}{f:Str}(n:ztg K C f):yol K C f=some none:=by
 unfold yol;rw[show yab K (.ref C) f=some none from n];rfl
structure Con (K:yba)(C:Addr)(f:Str)(v:V)(u:Value):Prop where
 at_:yab K (.ref C) f=some (some u)
 rel:RelV v u
 get:yvh K u "__get__" = some none
 cp:PySem.W.copiedNames.contains f=false
structure Meth (K:yba)(C:Addr)(m:Str)(f:Addr):Prop where
 at_:yab K (.ref C) m=some (some (.ref f))
 fn:yjj K (.ref f)=true
 kp:yee K (.ref f)=true
section
variable {X:Cx}{pins:List (Addr×Obj)}{σ:St}{H:Hp}{s:Shared}{a C dx:Addr}{fs:List (Str×V)}{f:Str}{v:V}{A:Around}{E:Value->Shared->Prop}
theorem zot {b:Bool}{Q:Value->Shared->Prop}(I:Inv X pins σ H s)(e:H a=some (.ins C dx fs))(c:Cls X.K C)(n:ztg X.K C f)(l:fs.lookup f=some v)
  (h:∀u s',Inv X pins σ H s'->RelV v u->Q u s'):wpAny (model X.prog X.w) A (getAttr (.ref a) f b) Q E s:=by
 obtain⟨mA,O,r,_,_,_⟩:=zvu I.hok e;obtain⟨u,hu,ru⟩:=RelO.some_of (v:=v) (o:=mA f) (by rw[← l];exact r f);exact get_map I.kIn O (c.get f) c.hd n hu (zjgb ru) (h u _ (I.tok _) ru)
theorem znt {m:Str}{g:Addr}{pl:Sem Bool}{Q:Value×List Value->Shared->Prop}(I:Inv X pins σ H s)(e:H a=some (.ins C dx fs))(c:Cls X.K C)(k:Meth X.K C m g)(l:fs.lookup m=none)
  (h:Q (.ref g,[.ref a]) s):wpAny (model X.prog X.w) A (ypo (.ref a) m pl) Q E s:=by
 obtain⟨mA,O,r,_,_,_⟩:=zvu I.hok e;have hn:mA m=none:=RelO.none_of (by rw[← l];exact r m);exact zkjb I.kIn O (c.get m) k.at_ k.fn hn h
theorem zys {y:V}{u:Value}{Q:Unit->Shared->Prop}(I:Inv X pins σ H s)(e:H a=some (.ins C dx fs))(c:Cls X.K C)(n:ztg X.K C f)(hl:fs.length<1000)(ry:RelV y u)
  (h:∀s',Inv X pins σ (upd H a (.ins C dx (putF f y fs))) s'->Q () s'):wpAny (model X.prog X.w) A (setAttr (.ref a) f u) Q E s:=by
 obtain⟨mA,O,r,wi,_,ho⟩:=zvu I.hok e;have hz:(fs.map (·.1)).length≤yta:=by rw[yda,sizeLine_eq];omega
 refine zjlb I.kIn O c.sa c.po n.taker c.hd wi hz λh' O' sb=>h _ ?_;have hd:∃o,h'.get? dx=some o:=let ⟨o,_,_,e',_⟩:=O'.ns;⟨o,e'⟩;refine I.write (x:=a) (e:=dx) (by rw[e];exact True.intro) (.inr ho) (λb q hb z=>(sb.2 b hb).trans z) hd ?_;refine⟨by rw[zva O.ne];exact ho,?_,O.ne,O'.obj,_,O'.ns,λg=>?_,λg hg=>?_⟩
 ·have:=zqr f y fs;omega
 ·show RelO ((putF f y fs).lookup g) (if g=f then some u else mA g);rw[zor]
  by_cases q:g=f
  ·rw[if_pos q,if_pos q];exact ry
  ·rw[if_neg q,if_neg q];exact r g
 ·by_cases q:g=f
  ·rw[q];exact (zrr f y fs).1
  ·refine (zrr f y fs).2 g (wi g λz=>hg ?_);show (if g=f then some u else mA g)=none
   rw[if_neg q];exact z
theorem Inv.made (I:Inv X pins σ H s):Inv X pins σ (upd (upd H s.heap.objs.size (.own (s.heap.objs.size+1))) (s.heap.objs.size+1) (.ins C s.heap.objs.size []))
  { s with heap:=(s.heap.push ygd).push (yje C s.heap.objs.size) }:=by
 have e1:(s.heap.push ygd).get? s.heap.objs.size=some ygd:=yoa s.heap rfl;have e2:((s.heap.push ygd).push (yje C s.heap.objs.size)).get? (s.heap.objs.size+1)=some (yje C s.heap.objs.size):=by
  have:=yoa (s.heap.push ygd) (o:=yje C s.heap.objs.size) rfl
  rwa [ybf] at this
 have e3:(s.heap.push ygd).Ns s.heap.objs.size (λ_=>none):=⟨ygd,#[],_,e1,rfl,(λe he=>absurd he (by simp)),λ_=>rfl⟩;have I1:=I.laid (a:=s.heap.objs.size) (o:=.own (s.heap.objs.size+1)) (h':=s.heap.push ygd) (t':=s.toks) (λb u q=>yca _ q) (yma _) ⟨_,e1⟩;refine I1.laid (a:=s.heap.objs.size+1) (o:=.ins C s.heap.objs.size []) (t':=s.toks) (λb u q=>yca _ q) (yql (ybf _ _)) ?_;have ne:s.heap.objs.size≠s.heap.objs.size+1:=yeb (ybh _);refine⟨by rw[zva ne,zga],ylb _,ne,e2,λ_=>none,(Heap.Ns1.of_empty e3).at λo q=>yca _ q,λ_=>True.intro,λy hy=>absurd rfl hy⟩
theorem zgnb {prog:ytb}{w:World}{env:Env}{e:Expr}{f:Str}{pos:Pos}{s:Shared}{Q:Value->Shared->Prop}(hb:yki e f env (eval e env)=eval e env)
  (h:wpAny (model prog w) A (eval e env) (λo s₁=>wpAny (model prog w) A (getAttr o f true) Q E s₁) E s):wpAny (model prog w) A (eval (.Attribute e f pos) env) Q E s :=
 Attribute_any_ h (by rw[arm_eval_Attribute,hb])
end
def tFld (K:yba)(ta:TE)(f:Str):TE:=fun σ H Q=>ta σ H λx H1=>Ex5 λa C dx fs v=>x = .ref a∧H1 a=some (.ins C dx fs)∧Cls K C∧ztg K C f∧fs.lookup f=some v∧Q v H1
def sFld (K:yba)(ta tv:TE)(f:Str):TS:=λD σ H=>tv σ H λy H1=>ta σ H1 λx H2=>Ex4 λa C dx fs=>x = .ref a∧H2 a=some (.ins C dx fs)∧Cls K C∧ztg K C f∧fs.length<1000 ∧
 D.nx σ (upd H2 a (.ins C dx (putF f y fs)))
def InOp (X:Cx)(op:ylo)(rd:V->V->Hp->VK->Prop):Prop :=
 ∀(pins:List (Addr×Obj)) (s:Shared) (σ:St) (H:Hp) (x y:V) (u v:Value) (Q:VK),Inv X pins σ H s->RelV x u->RelV y v->rd x y H Q->wpAny (model X.prog X.w) X.A (inplaceOp op u v) (EP X pins σ Q) X.xe s
def zmlb (K:yba)(ta tv:TE)(rd:V->V->Hp->VK->Prop)(f:Str):TS:=λD σ H=>ta σ H λx H1=>Ex5 λa C dx fs v=>x = .ref a∧H1 a=some (.ins C dx fs)∧Cls K C∧ztg K C f∧fs.lookup f=some v ∧
 tv σ H1 λy H2=>rd v y H2 λz H3=>Ex2 λdx' fs'=>H3 a=some (.ins C dx' fs')∧fs'.length<1000∧D.nx σ (upd H3 a (.ins C dx' (putF f z fs')))
section
variable {X:Cx}{o e value:Expr}{f:Str}{pos pos' tpos:Pos}{ta tv:TE}
theorem zff (he:PE X e ta)(hb:yki e f X.env (eval e X.env)=eval e X.env):PE X (.Attribute e f pos) (tFld X.K ta f):=by
 intro pins s σ H Q I h;refine zgnb hb (thn (he pins s σ H _ I h) λu s1 ⟨x,H1,I1,rx,a,C,dx,fs,v,ex,ea,c,n,l,q⟩=>?_);subst ex;obtain rfl:u=Value.ref a:=rx;exact zot I1 ea c n l λu' s2 I2 ru=>⟨v,H1,I2,ru,q⟩
theorem zil (ha:PE X o ta)(hv:PE X value tv)(hs:yoo value (some (.Attribute o f pos')) pos.line X.env=pure false):PS X (.Assign [.Attribute o f pos'] value pos) (sFld X.K ta tv f):=by
 intro pins s σ H D I h;refine plainObj_wpAny_Assign_Attribute (thn (hv pins s σ H _ I h) λu s1 ⟨y,H1,I1,ry,q⟩=>thn (ha pins s1 σ H1 _ I1 q) λov s2 ⟨x,H2,I2,rx,a,C,dx,fs,ex,ea,c,n,l,q2⟩=>?_) hs;subst ex;obtain rfl:ov=Value.ref a:=rx;exact zys I2 ea c n l ry λs3 I3=>⟨σ,_,I3,q2⟩
theorem zjfb {op:ylo}{rd:V->V->Hp->VK->Prop}(ha:PE X o ta)(hv:PE X value tv)(hop:InOp X op rd):PS X (.AugAssign (.Attribute o f tpos) op value pos) (zmlb X.K ta tv rd f):=by
 intro pins s σ H D I h;refine wpAny_AugAssign_AttributeAny (thn (ha pins s σ H _ I h) λov s1 ⟨x,H1,I1,rx,a,C,dx,fs,v,ex,ea,c,n,l,q⟩=>?_);subst ex;obtain rfl:ov=Value.ref a:=rx;refine zot I1 ea c n l λu s2 I2 ru=>thn (hv pins s2 σ H1 _ I2 q) λw3 s3 ⟨y,H2,I3,ry,q3⟩=>thn (hop pins s3 σ H2 v y u w3 _ I3 ru ry q3) λw4 s4 ⟨z,H3,I4,rz,dx',fs',ea',l',q4⟩=>?_;exact zys I4 ea' c n l' rz λs5 I5=>⟨σ,_,I5,q4⟩
def rAdd:V->V->Hp->VK->Prop:=λx y H Q=>Ex2 λi j=>x = .int i∧y = .int j∧Q (.int (i+j)) H
theorem zvpb:InOp X .Add rAdd:=by
 rintro pins s σ H x y u v Q I rx ry ⟨i,j,rfl,rfl,q⟩;obtain⟨t,rfl⟩:=(show ∃t,u=Value.int i t from rx);obtain⟨t',rfl⟩:=(show ∃t',v=Value.int j t' from ry);exact PyProof.Rows.iadd_int ⟨.int (i+j),H,I.tok _,⟨_,rfl⟩,q⟩
end
section
variable {X:Cx}{pins:List (Addr×Obj)}{σ:St}{H:Hp}{s:Shared}{A:Around}{E:Value->Shared->Prop}{Q:Value->Shared->Prop}{c:Value}{b:Bool}
inductive TyOf (K:yba)(H:Hp):V->Value->Prop where
 | non:TyOf K H .non (.type "NoneType")
 | bl (x:Bool):TyOf K H (.bl x) (.type "bool")
 | int (i:Int):TyOf K H (.int i) (.type "int")
 | str (x:Str):TyOf K H (.str x) (.type "str")
 | flt (x:UInt64):TyOf K H (.flt x) (.type "float")
 | lst {a:Addr} {xs:List V} (e:H a=some (.lst xs)):TyOf K H (.ref a) (.type "list")
 | frz {a:Addr} {o:Obj} {xs:List V} (e:H a=some (.frz o (.lst xs))):TyOf K H (.ref a) (.type "list")
 | tup {a:Addr} {xs:List V} (e:H a=some (.tup xs)):TyOf K H (.ref a) (.type "tuple")
 | dK {a:Addr} {kvs:List (Key×V)} (e:H a=some (.dK kvs)):TyOf K H (.ref a) (.type "dict")
 | dT {a:Addr} {kvs:List (List Key×V)} (e:H a=some (.dT kvs)):TyOf K H (.ref a) (.type "dict")
 | ins {a C dx:Addr} {fs:List (Str×V)} (e:H a=some (.ins C dx fs)) (cl:Cls K C) (ha:yab K (.ref C) "__class__" = some (some (.builtin "object.__class__")))
   (hn:yvh K (.builtin "object.__class__") "__get__" = some (some (.builtin "getset_descriptor.__get__"))) (htk:yrl K (.builtin "object.__class__")=some true)
   (hm:ycn K C (.type "object")=some true):TyOf K H (.ref a) (.ref C)
theorem zpx {x:V}{u t:Value}(I:Inv X pins σ H s)(rx:RelV x u)(ty:TyOf X.K H x t)(e:ywb X.K t c=some b)(h:∀tk,Q (.bool b) { s with toks:=tk }) :
  wpAny (model X.prog X.w) A (call (.builtin "isinstance") [u,c]) Q E s:=by
 cases ty with
 | non=>cases (show u=Value.none from rx);exact yfd PySem.W.kitx_none I.kIn True.intro e (λz=>nomatch z) h
 | bl y=>cases (show u=Value.bool y from rx);exact yfd PySem.W.kitx_bool I.kIn True.intro e (λz=>nomatch z) h
 | int i=>obtain⟨t,q⟩:=(show ∃t,u=Value.int i t from rx);cases q;exact yfd PySem.W.kitx_int I.kIn True.intro e (λz=>nomatch z) h
 | str y=>obtain⟨t,q⟩:=(show ∃t,u=Value.str y t from rx);cases q;exact yfd PySem.W.kitx_str I.kIn True.intro e (λz=>nomatch z) h
 | flt y=>obtain⟨t,q⟩:=(show ∃t,u=Value.float y t from rx);cases q;exact yfd PySem.W.kitx_float I.kIn True.intro e (λz=>nomatch z) h
 | @lst a xs ea =>
  cases (show u=Value.ref a from rx);obtain⟨_,_,n,_,h1⟩:=(show zwi X.prog X.w H s.heap a (.lst xs) from I.hok a _ ea);exact yfd yon I.kIn ⟨_,h1,rfl⟩ e (λz=>nomatch z) h
 | @frz a ob xs ea =>
  cases (show u=Value.ref a from rx);obtain⟨_,_,_,n,_,h1⟩:=(show zwi X.prog X.w H s.heap a (.frz ob (.lst xs)) from I.hok a _ ea);exact yfd yon I.kIn ⟨_,h1,rfl⟩ e (λz=>nomatch z) h
 | @tup a xs ea =>
  cases (show u=Value.ref a from rx);obtain⟨_,_,_,p⟩:=(show zwi X.prog X.w H s.heap a (.tup xs) from I.hok a _ ea);obtain⟨o,h1,h2,_⟩:=p;exact yfd PySem.W.kitx_tuple I.kIn ⟨o,h1,h2⟩ e (λz=>nomatch z) h
 | @dK a kvs ea =>
  cases (show u=Value.ref a from rx);obtain⟨_,_,vs,_,p⟩:=(show zwi X.prog X.w H s.heap a (.dK kvs) from I.hok a _ ea);obtain⟨o,es,ep,h1,h2,_⟩:=p;exact yfd ypn I.kIn ⟨o,h1,h2.1⟩ e (λz=>nomatch z) h
 | @dT a kvs ea =>
  cases (show u=Value.ref a from rx);obtain⟨_,_,xs,_,o,es,ep,h1,h2,_⟩:=(show zwi X.prog X.w H s.heap a (.dT kvs) from I.hok a _ ea);exact yfd ypn I.kIn ⟨o,h1,h2.1⟩ e (λz=>nomatch z) h
 | @ins a C dx fs ea cl ha hn htk hm =>
  cases (show u=Value.ref a from rx);obtain⟨mA,O,_⟩:=zvu I.hok ea;obtain⟨od,J,_⟩:=O.look;exact yfd (PySem.W.kitx_own (cl.get _) cl.hd ha hn htk hm) I.kIn J e (λz=>nomatch z) h
end
end L2
namespace L2
open PySem PySem.Spec PyProof.Rows
structure Room (k:Nat)(A:Around):Prop where
 hd:A.handled=none
 dp:A.depth+3*k+5<recursionLimit
 un:A.units+16*k+200<cLine
theorem Room.mono {j k:Nat}{A:Around}(r:Room k A)(h:j≤k):Room j A:=⟨r.hd,by have:=r.dp;omega,by have:=r.un;omega⟩
theorem Room.deeper {k:Nat}{A:Around}(r:Room (k+1) A)(env:Env):Room k (A.deeper env) :=
 ⟨r.hd,by have:=r.dp;show A.depth+1+3*k+5<_;omega,by have:=r.un;show A.units+3+16*k+200<_;omega⟩
theorem zndb {A:Around}{C:Addr}{us:List Value}{kw:List (Str×Value)}:(A.under (.builtin "type.__call__" ⟨.ref C::us,kw⟩)).depth=A.depth+1:=by
 first|rfl|simp[yao,Code.weight,Code.isCreation,Code.isGuard,Code.isCaller,Code.frames,ybo,guardIds]
theorem zmdb {A:Around}{C:Addr}{us:List Value}{kw:List (Str×Value)}:(A.under (.builtin "type.__call__" ⟨.ref C::us,kw⟩)).units=A.units+1:=by
 first|rfl|simp[yao,Code.cUnits,Code.frames,ybo]
theorem Room.make {k:Nat}{A:Around}(r:Room (k+1) A)(C:Addr)(us:List Value)(kw:List (Str×Value)):Room k (A.under (.builtin "type.__call__" ⟨.ref C::us,kw⟩)) :=
 ⟨r.hd,by have:=r.dp;rw[zndb];omega,by have:=r.un;rw[zmdb];omega⟩
theorem Room.depth {k:Nat}{A:Around}(r:Room k A):A.depth<recursionLimit:=by have:=r.dp;omega
theorem Room.units {k:Nat}{A:Around}(r:Room k A):A.units+64<cLine:=by have:=r.un;omega
def tNil:TA:=λ_ H Q=>Q [] H
def znqb (ta:TE)(tr:TA):TA:=fun σ H Q=>ta σ H λx H1=>tr σ H1 λxs H2=>Q (x::xs) H2
section
variable {X:Cx}{e:Expr}{es:List Expr}{te:TE}{t:TA}{pos:Pos}
theorem zca:PA X [] tNil:=λ_ _ _ _ H Q I h=>Calls.spliced_nil ⟨[],H,I,.nil,h⟩
theorem zaa (ha:PE X e te)(hr:PA X es t)(hs:yic (e::es) X.env=(false,eval e X.env)::yic es X.env:=by rfl):PA X (e::es) (znqb te t):=by
 intro pos pins s σ H Q I h;rw[hs];show wpAny _ _ (spliced ((false,eval e X.env)::backTo pos (yic es X.env))) _ _ s
 refine Calls.spliced_cons (thn (ha pins s σ H _ I h) λu s1 ⟨x,H1,I1,r1,q1⟩=>?_);exact thn (hr pos pins s1 σ H1 _ I1 q1) λus s2 ⟨xs,H2,I2,r2,q2⟩=>⟨x::xs,H2,I2,.cons r1 r2,q2⟩
def tTup (t:TA):TE:=fun σ H Q=>t σ H λxs H1=>xs.length≤yta∧∀p,H1 p=none->Q (.ref p) (upd H1 p (.tup xs))
def tLst (t:TA):TE:=fun σ H Q=>t σ H λxs H1=>xs.length≤yta∧∀p,H1 p=none->Q (.ref p) (upd H1 p (.lst xs))
theorem zub {x1}(h:PA X es t):PE X (.Tuple es x1 pos) (tTup t):=by
 intro pins s σ H Q I hq;refine wpAny_Tuple_spliced (thn (h pos pins s σ H _ I hq) λus s1 ⟨xs,H1,I1,r,z,q⟩=>⟨by rw[← r.length];exact z,?_⟩);have hf:H1 s1.heap.objs.size=none:=I1.hok.fresh (yma _);refine⟨.ref s1.heap.objs.size,upd H1 s1.heap.objs.size (.tup xs),I1.laid (t':=s1.toks) (λb u e=>yca _ e) (yma _) ?_,rfl,q _ hf⟩;exact⟨z,us,r,⟨_,yoa _ rfl,rfl,_,rfl⟩⟩
theorem zcd (h:PA X es t):PE X (.List es pos) (tLst t):=by
 intro pins s σ H Q I hq;refine wpAny_List_spliced (thn (h pos pins s σ H _ I hq) λus s1 ⟨xs,H1,I1,r,z,q⟩=>⟨by rw[← r.length];exact z,?_⟩);have hf:H1 s1.heap.objs.size=none:=I1.hok.fresh (yma _);refine⟨.ref s1.heap.objs.size,upd H1 s1.heap.objs.size (.lst xs),I1.laid (t':=s1.toks) (λb u e=>yca _ e) (yma _) ?_,rfl,q _ hf⟩;exact⟨z,us,0,r,yoa _ rfl⟩
end
abbrev Sp:=List V->Hp->VK->XK->Prop
abbrev CXT:=List Env->Hp->Shared->XK->Value->Shared->Prop
structure Env0 (P:ytb)(w:World)(K:yba)(mg:Str->Option Value)(base:Heap)(A:Around)(outer:List Env)(s:Shared)(H:Hp):Prop where
 frames:A.frames=some outer
 mod:Mod K mg base
 bs:∀b o,base.get? b=some o->s.heap.get? b=some o∧H b=none
 bsz:base.objs.size≤s.heap.objs.size
 funs:s.heap.FunFrames base outer
 frf:∀b∈frs outer,H b=none
 hok:HOk P w H s.heap
 bare:yrm s.gens
def CE (outer:List Env)(P:ytb)(w:World)(H:Hp)(s:Shared)(Q:VK)(u:Value)(s':Shared):Prop :=
 Ex2 λv H'=>s'.os=s.os∧yrm s'.gens∧Un (frs outer) [] H H' s.heap s'.heap∧HOk P w H' s'.heap∧RelV v u∧Q v H'
def CR (CX:CXT)(outer:List Env)(P:ytb)(w:World)(H:Hp)(s:Shared)(Q:VK)(E:XK)(r:Result)(s':Shared):Prop :=
 match r with
 | .ok (.ret u)=>CE outer P w H s Q u s'
 | .ok _=>False
 | .error e=>CX outer H s E e s'
structure FnOk (P:ytb)(w:World)(K:yba)(mg:Str->Option Value)(base:Heap)(CX:CXT)(k:Nat)(f:Addr)(fd:ype)(ps:List Str)(sp:Sp):Prop where
 len:∀vs H Q E,sp vs H Q E->vs.length=ps.length
 run:∀(A:Around) (outer:List Env) (s:Shared) (H:Hp) (args:Args) (us:List Value) (vs:List V) (Q:VK) (E:XK),Room k A->Env0 P w K mg base A outer s H->yqn s fd args (ps.zip us)->Vals vs us->sp vs H Q E →
  yvi (model P w) A (.call (.ref f) args) (CR CX outer P w H s Q E) s
theorem FnOk.mono {P:ytb}{w:World}{K:yba}{mg:Str->Option Value}{base:Heap}{CX:CXT}{j k:Nat}{f:Addr}{fd:ype}{ps:List Str}{sp:Sp}(F:FnOk P w K mg base CX j f fd ps sp)(h:j≤k) :
  FnOk P w K mg base CX k f fd ps sp:=⟨F.len,λA outer s H args us vs Q E hr=>F.run A outer s H args us vs Q E (hr.mono h)⟩
theorem Env0.make {P:ytb}{w:World}{K:yba}{mg:Str->Option Value}{base:Heap}{A:Around}{outer:List Env}{s:Shared}{H:Hp}(e:Env0 P w K mg base A outer s H)(C:Addr)(us:List Value)(kw:List (Str×Value)) :
  Env0 P w K mg base (A.under (.builtin "type.__call__" ⟨.ref C::us,kw⟩)) outer s H:=⟨by first|exact e.frames|(simpa [yao,Code.envs,ybo,pushEnvs] using e.frames),e.mod,e.bs,e.bsz,e.funs,e.frf,e.hok,e.bare⟩
section
variable {X:Cx}{pins:List (Addr×Obj)}{σ:St}{H:Hp}{s s':Shared}
theorem Inv.env0 (I:Inv X pins σ H s):Env0 X.prog X.w X.K X.mg X.base X.A X.stack s H :=
 ⟨I.ok.frames,I.ok.mod,I.bs,yxa I.ok.bsz I.sz,I.stack,I.zpeb,I.hok,I.bare⟩
theorem Inv.after {Q:VK}{u:Value}(I:Inv X pins σ H s)(h:CE X.stack X.prog X.w H s Q u s'):EP X pins σ Q u s':=by
 obtain⟨v,H',os,bare,un,hok,r,q⟩:=h;obtain⟨hh,g,d,t,os'⟩:=s';obtain rfl:os'=s.os:=os;exact⟨v,H',I.call (h':=hh) (g':=g) (d':=d) (t':=t) (ch:=[]) un hok bare (λb z=>absurd z (by simp)),r,q⟩
end
def zoqb (sp:Sp)(dvs:List V)(E:XK)(t:TA):TE:=fun σ H Q=>t σ H λvs H1=>sp (vs++dvs) H1 Q E
def zvnb (C:Addr)(m:Str)(sp:Sp)(dvs:List V)(E:XK)(ta:TE)(t:TA):TE:=fun σ H Q=>ta σ H λx H1=>Ex3 λa dx fs=>x = .ref a∧H1 a=some (.ins C dx fs)∧fs.lookup m=none ∧
 t σ H1 λvs H2=>sp (x::(vs++dvs)) H2 Q E
def zlqb (C:Addr)(sp:Sp)(dvs:List V)(E:XK)(t:TA):TE:=fun σ H Q=>t σ H λvs H1=>∀x dx,H1 x=none->H1 dx=none->dx≠x →
 sp (.ref x::(vs++dvs)) (upd (upd H1 dx (.own x)) x (.ins C dx [])) (λv H2=>v = .non∧Q (.ref x) H2) E
def Binds (K:yba)(fd:ype)(ps:List Str)(ds:List Value):Prop :=
 ∀(s:Shared) (us:List Value),K.In s.heap->(us++ds).length=ps.length->yqn s fd ⟨us,[]⟩ (ps.zip (us++ds))
theorem Binds.all {K:yba}{fd:ype}{ps:List Str}(h:∀us:List Value,us.length=ps.length->bindArgs fd ⟨us,[]⟩=pure (ps.zip us)):Binds K fd ps []:=λs us _ hl=>by
 rw[ysb] at hl ⊢;exact .of_eq (h us hl)
def Passes (CX:CXT)(X:Cx)(E:XK):Prop:=∀(pins:List (Addr×Obj)) (σ:St) (H:Hp) (s:Shared) (e:Value) (s':Shared),Inv X pins σ H s->CX X.stack H s E e s'->X.xe e s'
section
variable {X:Cx}{CX:CXT}{k:Nat}{f C:Addr}{fd:ype}{ps:List Str}{sp:Sp}{dvs:List V}{ds:List Value}{E:XK}{x m:Str}{p pos apos:Pos}{e o:Expr}{es:List Expr}{ta:TE}{t:TA}
theorem zcfb {pins:List (Addr×Obj)}{σ:St}{H:Hp}{s:Shared}{Q:VK}{us:List Value}{vs:List V}(F:FnOk X.prog X.w X.K X.mg X.base CX k f fd ps sp)(hr:Room k X.A)(hb:Binds X.K fd ps ds)(hd:Vals dvs ds)(hx:Passes CX X E)
  (I:Inv X pins σ H s) (r:Vals vs us) (h:sp (vs++dvs) H Q E):wpAny (model X.prog X.w) X.A (call (.ref f) us) (EP X pins σ Q) X.xe s:=by
 have r2:Vals (vs++dvs) (us++ds):=r.append hd;have hl:(us++ds).length=ps.length:=by rw[← r2.length];exact F.len _ _ _ _ h
 refine wpAny_call (yci (F.run X.A X.stack s H ⟨us,[]⟩ (us++ds) (vs++dvs) Q E hr I.env0 (hb s us I.kIn hl) r2 h) λr s' hq=>?_);cases r with
 | error e=>exact hx pins σ H s e s' I hq
 | ok fl =>
  cases fl with
  | ret u=>exact I.after hq
  | next=>exact yre hq
  | brk=>exact yre hq
  | cont=>exact yre hq
theorem zja (F:FnOk X.prog X.w X.K X.mg X.base CX k f fd ps sp)(hr:Room k X.A)(hg:Gl X x)(hm:X.mg x=some (.ref f))(hk:yee X.K (.ref f)=true)(hb:Binds X.K fd ps ds)(hd:Vals dvs ds)(hx:Passes CX X E)
  (ha:PA X (e::es) t) (hdb:(x==("__debug__":Str))=false:=by decide) (he:yic (e::es) X.env=(false,eval e X.env)::yic es X.env:=by rfl) (hpl:(backTo pos (yic es X.env)).any (·.1)=false:=by rfl) :
  PE X (.Call (.Name x p) (e::es) [] pos) (zoqb sp dvs E t):=by
 intro pins s σ H Q I h;refine ylh (zsz I hg hm ?_ hdb);refine ykj (h₀:=X.base) I.ok.mod.kin hk (thn (ha pos pins s σ H _ I h) λus s1 ⟨vs,H1,I1,r,q⟩=>⟨I1.kIn,?_⟩) he hpl;exact zcfb F hr hb hd hx I1 r q
theorem zee {pl:Sem Bool}(he:PE X o ta)(c:Cls X.K C)(hm:Meth X.K C m f)(F:FnOk X.prog X.w X.K X.mg X.base CX k f fd ps sp)(hr:Room k X.A)(hb:Binds X.K fd ps ds)(hd:Vals dvs ds)(hx:Passes CX X E)(ha:PA X (e::es) t)
  (hst:yic (e::es) X.env=(false,eval e X.env)::yic es X.env:=by rfl) (hpl:(backTo pos (yic es X.env)).any (·.1)=false:=by rfl)
  (ht:eval (.Call (.Attribute o m apos) (e::es) [] pos) X.env=(do
   let ov ← eval o X.env
   standAt apos.atName
   let (f,first) ← ysm [ov] (ypo ov m pl)
   callWith pos f first (backTo pos (yic (e::es) X.env)) (ymo pos (yuk [] X.env))):=by rfl) :
  PE X (.Call (.Attribute o m apos) (e::es) [] pos) (zvnb C m sp dvs E ta t):=by
 intro pins s σ H Q I h;refine ysl (pl:=pl) (thn (he pins s σ H _ I h) λu s1 ⟨x,H1,I1,rx,a,dx,fs,ex,ea,l,q⟩=>?_) ht;subst ex;obtain rfl:u=Value.ref a:=rx;refine znt I1 ea c hm l ?_;refine ykj (first:=[.ref a]) (h₀:=X.base) I.ok.mod.kin hm.kp (thn (ha pos pins s1 σ H1 _ I1 q) λus s2 ⟨vs,H2,I2,r,q2⟩=>⟨I2.kIn,?_⟩) hst hpl;exact zcfb (us:=.ref a::us) (vs:=.ref a::vs) F hr hb hd hx I2 (.cons rfl r) q2
theorem zbd {pl:Sem Bool}(he:PE X o ta)(c:Cls X.K C)(hm:Meth X.K C m f)(F:FnOk X.prog X.w X.K X.mg X.base CX k f fd ps sp)(hr:Room k X.A)(hb:Binds X.K fd ps ds)(hd:Vals dvs ds)(hx:Passes CX X E)
  (ht:eval (.Call (.Attribute o m apos) [] [] pos) X.env=(do
   let ov ← eval o X.env
   standAt apos.atName
   let (f,first) ← ysm [ov] (ypo ov m pl)
   callWith pos f first (backTo pos (yic [] X.env)) (ymo pos (yuk [] X.env))):=by rfl) :
  PE X (.Call (.Attribute o m apos) [] [] pos) (zvnb C m sp dvs E ta tNil):=by
 intro pins s σ H Q I h;refine ysl (pl:=pl) (thn (he pins s σ H _ I h) λu s1 ⟨x,H1,I1,rx,a,dx,fs,ex,ea,l,q⟩=>?_) ht;subst ex;obtain rfl:u=Value.ref a:=rx;refine znt I1 ea c hm l ?_;exact PySem.W.callWith_K0 (first:=[.ref a]) I1.kIn hm.kp (zcfb (us:=[.ref a]) (vs:=[.ref a]) F hr hb hd hx I1 (.cons rfl .nil) q)
structure Mk (K:yba)(C f:Addr):Prop where
 makes:ypl K C=true
 init:yab K (.ref C) "__init__" = some (some (.ref f))
 fn:yjj K (.ref f)=true
 kp:yee K (.ref C)=true
theorem zxhb {pins:List (Addr×Obj)}{σ:St}{H:Hp}{s:Shared}{Q:VK}{us:List Value}{vs:List V}(M:Mk X.K C f)(F:FnOk X.prog X.w X.K X.mg X.base CX k f fd ps sp)(hr:Room (k+1) X.A)(hb:Binds X.K fd ps ds)(hd:Vals dvs ds)
  (hx:Passes CX X E) (I:Inv X pins σ H s) (r:Vals vs us)
  (h:∀x dx,H x=none->H dx=none->dx≠x->sp (.ref x::(vs++dvs)) (upd (upd H dx (.own x)) x (.ins C dx [])) (λv H2=>v = .non∧Q (.ref x) H2) E) :
  wpAny (model X.prog X.w) X.A (call (.ref C) us) (EP X pins σ Q) X.xe s:=by
 have hq:=h (s.heap.objs.size+1) s.heap.objs.size (I.hok.fresh (ytf _)) (I.hok.fresh (yma _)) (yeb (ybh _));have I2:=Inv.made (C:=C) I;have r2:Vals (V.ref (s.heap.objs.size+1)::(vs++dvs)) (Value.ref (s.heap.objs.size+1)::(us++ds)):=.cons rfl (r.append hd);have hl:(Value.ref (s.heap.objs.size+1)::us++ds).length=ps.length:=by
  have e:=r2.length;rw[F.len _ _ _ _ hq] at e;exact e.symm
 refine wpAny_call (zwib (f:=f) I.kIn M.makes M.init (beq_iff_eq.mp M.fn) (yci (F.run _ X.stack _ _ ⟨Value.ref (s.heap.objs.size+1)::us,[]⟩ (Value.ref (s.heap.objs.size+1)::(us++ds)) _ _ E (hr.make C us [])
  (I2.env0.make C us []) (hb _ (Value.ref (s.heap.objs.size+1)::us) I2.kIn hl) r2 hq) λr s' hq'=>?_))
 cases r with
 | error e=>exact hx pins σ _ _ e s' I2 hq'
 | ok fl =>
  cases fl with
  | ret u =>
   obtain⟨v,H',I3,rv,ev,q3⟩:=I2.after hq';subst ev;exact⟨rv,⟨V.ref (s.heap.objs.size+1),H',I3,rfl,q3⟩⟩
  | next=>exact yre hq'
  | brk=>exact yre hq'
  | cont=>exact yre hq'
theorem zgu (M:Mk X.K C f)(F:FnOk X.prog X.w X.K X.mg X.base CX k f fd ps sp)(hr:Room (k+1) X.A)(hg:Gl X x)(hm:X.mg x=some (.ref C))(hb:Binds X.K fd ps ds)(hd:Vals dvs ds)(hx:Passes CX X E)
  (ha:PA X (e::es) t) (hdb:(x==("__debug__":Str))=false:=by decide) (he:yic (e::es) X.env=(false,eval e X.env)::yic es X.env:=by rfl) (hpl:(backTo pos (yic es X.env)).any (·.1)=false:=by rfl) :
  PE X (.Call (.Name x p) (e::es) [] pos) (zlqb C sp dvs E t):=by
 intro pins s σ H Q I h;refine ylh (zsz I hg hm ?_ hdb);refine ykj (h₀:=X.base) I.ok.mod.kin M.kp (thn (ha pos pins s σ H _ I h) λus s1 ⟨vs,H1,I1,r,q⟩=>⟨I1.kIn,?_⟩) he hpl;exact zxhb M F hr hb hd hx I1 r q
end
section
variable {X:Cx}{CX:CXT}{k:Nat}{f C:Addr}{fd:ype}{ps ks:List Str}{sp:Sp}{E:XK}{x m:Str}{p pos apos kpos:Pos}{e o:Expr}{es:List Expr}{kws:List yrn}{te ta:TE}{t tk:TA}{nm:Option Str}
structure zkrb (K:yba)(fd:ype)(ps ks:List Str)(g:List Value->List Value->List Value)(gV:List V->List V->List V):Prop where
 to:∀(s:Shared) (us ws:List Value),K.In s.heap->(g us ws).length=ps.length->yqn s fd ⟨us,ks.zip ws⟩ (ps.zip (g us ws))
 rel:∀{vs:List V} {us:List Value} {zs:List V} {ws:List Value},Vals vs us->Vals zs ws->Vals (gV vs zs) (g us ws)
variable {g:List Value->List Value->List Value}{gV:List V->List V->List V}
end
structure zxa (N P:List Str)(sc:Scope):Prop where
 kind:sc.kind = .function
 co:sc.isCoroutine=false
 gen:sc.isGenerator=false
 nd:N.Nodup
 pre:N.take P.length=P
 par:∀x∈P,sc.names.lookup x=some .local∨sc.names.lookup x=some .cell
 nofree:∀y∈sc.names,y.2 ≠ .free
theorem zby {kindOf:Str->Option yjc}{x:Str}:∀{binds:List (Str×Value)} {m:Str->Option Value},(∀v,(x,v)∉binds)->bindL kindOf binds m x=m x
 | [],_,_=>rfl
 | (n,v)::r,m,h=>by
  unfold bindL;rw[zby λw hw=>h w (yna _ hw)]
  split
  ·have:x≠n:=by rintro rfl;exact h v yia
   simp[this]
  ·rfl
theorem zdy {kindOf:Str->Option yjc}{x:Str}:∀{binds:List (Str×Value)} {m:Str->Option Value},(∀v,(x,v)∉binds)->bindC kindOf binds m x=m x
 | [],_,_=>rfl
 | (n,v)::r,m,h=>by
  unfold bindC;rw[zdy λw hw=>h w (yna _ hw)]
  split
  ·rfl
  ·have:x≠n:=by rintro rfl;exact h v yia
   simp[this]
theorem zcy {kindOf:Str->Option yjc}{x:Str}{v:Value}:∀{P:List Str} {vs:List Value} {i:Nat} {m:Str->Option Value},P.Nodup->P[i]?=some x->vs[i]?=some v->kindOf x=some .local →
  bindL kindOf (P.zip vs) m x=some v
 | [],_,_,_,_,h,_,_=>by simp at h
 | _::_,[],_,_,_,_,h,_=>by simp at h
 | p::P,w::vs,0,m,nd,h1,h2,hk=>by
  simp at h1 h2;subst h1;subst h2;show bindL kindOf ((p,w)::P.zip vs) m p=_
  unfold bindL;rw[zby λv hv=>(yle.mp nd).1 (ytl hv).1,if_pos hk];simp
 | p::P,w::vs,i+1,m,nd,h1,h2,hk=>by
  show bindL kindOf ((p,w)::P.zip vs) m x=_
  unfold bindL;exact zcy (i:=i) (yle.mp nd).2 (by simpa using h1) (by simpa using h2) hk
theorem zey {kindOf:Str->Option yjc}{x:Str}{v:Value}:∀{P:List Str} {vs:List Value} {i:Nat} {m:Str->Option Value},P.Nodup->P[i]?=some x->vs[i]?=some v->kindOf x≠some .local →
  bindC kindOf (P.zip vs) m x=some v
 | [],_,_,_,_,h,_,_=>by simp at h
 | _::_,[],_,_,_,_,h,_=>by simp at h
 | p::P,w::vs,0,m,nd,h1,h2,hk=>by
  simp at h1 h2;subst h1;subst h2;show bindC kindOf ((p,w)::P.zip vs) m p=_
  unfold bindC;rw[zdy λv hv=>(yle.mp nd).1 (ytl hv).1,if_neg hk];simp
 | p::P,w::vs,i+1,m,nd,h1,h2,hk=>by
  show bindC kindOf ((p,w)::P.zip vs) m x=_
  unfold bindC;exact zey (i:=i) (yle.mp nd).2 (by simpa using h1) (by simpa using h2) hk
def start (N:List Str)(vs:List V):St:=vs.map some++yrc (N.length-vs.length) none
def cxOf (CX:CXT)(P:ytb)(w:World)(K:yba)(mg:Str->Option Value)(base:Heap)(N:List Str)(qual:Str)(scope:Scope)(f:Addr)(cd:Value)(A:Around)(outer:List Env)(s:Shared)(H:Hp)(E:XK):Cx where
 prog:=P
 w:=w
 K:=K
 mg:=mg
 base:=base
 A:=A.deeper (envOfC qual scope s.heap.objs.size f cd)
 N:=N
 s₀:=s
 H₀:=H
 env:=envOfC qual scope s.heap.objs.size f cd
 outer:=outer
 stack:=envOfC qual scope s.heap.objs.size f cd::outer
 ex:=[]
 calm:=true
 fn:=λ_=>true
 pn:=[]
 xe:=λe s'=>wpAny (model P w) (A.deeper (envOfC qual scope s.heap.objs.size f cd)) (leaving (envOfC qual scope s.heap.objs.size f cd) e) (λ_ s''=>CX outer H s E e s'') (λe' s''=>CX outer H s E e' s'') s'
theorem zmcb {sc:Scope}{n:Nat}{x:Str}(h:sc.names.lookup x=some .cell):∃c,(cellsFrom n sc.names []).lookup x=some c:=by
 have q:=yil sc.names n [] (.inl h);exact Option.isSome_iff_exists.mp q
theorem zfgb {CX:CXT}{P:ytb}{w:World}{K:yba}{mg:Str->Option Value}{base:Heap}{N ps:List Str}{qual:Str}{scope:Scope}{f:Addr}{cd:Value}{A:Around}{outer:List Env}{s s1:Shared}{H:Hp}{E:XK}{us:List Value}{vs:List V}
  (S:zxa N ps scope) (hd:A.handled=none) (e0:Env0 P w K mg base A outer s H) (hl:vs.length=ps.length) (r:Vals vs us)
  (x:InCallC s s.heap.objs.size (bindL (envOfC qual scope s.heap.objs.size f cd).kindOf (ps.zip us) λ_=>none) (cellsFrom (s.heap.objs.size+1) scope.names []) (bindC (envOfC qual scope s.heap.objs.size f cd).kindOf (ps.zip us) λ_=>none) s1) :
  Inv (cxOf CX P w K mg base N qual scope f cd A outer s H E) [] (start N vs) H s1:=by
 have hpl:ps.length≤N.length:=by have:=congrArg yeg S.pre;rw[ydb] at this;omega
 obtain⟨h1,tk,rfl,hk⟩:=x.done;have noA:∀b:Addr,b∉(cxOf CX P w K mg base N qual scope f cd A outer s H E).ex:=λb z=>absurd (show b∈([]:List Addr) from z) (by simp);refine⟨⟨e0.mod,S.kind,rfl,rfl,yma _,λy z c h1 h2=>?_,λy hy=>?_,λy c _ h=>?_,λ_=>hd,Around.frames_deeper e0.frames,.inr ⟨rfl,rfl⟩,λb z=>absurd z (noA b),e0.bs,e0.bsz,λb _ _=>noA b,λb z=>absurd z (noA b),e0.funs,e0.frf⟩,
  rfl,e0.bare,Un.kept hk,⟨_,x.toInCall.ns,λi y v h1 h2 h3=>?_⟩,λy c h=>⟨_,x.cell y c h⟩,e0.hok.fresh (yma _),λy c h=>?_,λp hp=>absurd (show p∈([]:List (Addr×Obj)) from hp) (by simp),e0.hok.kept hk,?_⟩
 ·exact name_of_addr x.apart (yuf h1) (yuf h2)
 ·have hy:scope.names.lookup y=some .cell∨scope.names.lookup y=some .free:=hy
  rcases hy with hy|hy
  ·exact zmcb hy
  ·exact absurd rfl (S.nofree _ (yuf hy))
 ·exact yde (x.above y c (yuf h))
 ·have hi:i<vs.length:=by
   unfold start at h2
   by_cases hi:i<vs.length
   ·exact hi
   ·rw[yec (by simpa using hi)] at h2;rw[yvk] at h2
    split at h2<;>cases h2
  have ha:vs[i]?=some v:=by
   unfold start at h2;rw[ytd (by simpa using hi),yvb] at h2;cases e:vs[i]? with
   | none=>rw[e] at h2;cases h2
   | some a=>rw[e] at h2;cases h2;rfl
  obtain⟨u,hu,rv⟩:=r.get ha;have hp:ps[i]?=some y:=by
   rw[← S.pre,yzj (by omega)];exact h1
  have ndP:ps.Nodup:=by rw[← S.pre];exact S.nd.sublist (List.take_sublist _ _)
  refine⟨u,rv,?_⟩
  rcases S.par y (yob hp) with k|k
  ·exact .inl ⟨k,zcy ndP hp hu k⟩
  ·obtain⟨c,e⟩:=zmcb (n:=s.heap.objs.size+1) k;refine .inr ⟨.inl k,c,e,?_⟩;have q:=x.cell y c e;rw[zey ndP hp hu (by show scope.names.lookup y≠_;rw[k];decide)] at q;exact q
 ·exact e0.hok.fresh (yde (x.above y c (yuf h)))
 ·unfold start;show _=N.length
  rw[yea,yda,yfg];omega
theorem zirb {CX:CXT}{P:ytb}{w:World}{K:yba}{mg:Str->Option Value}{base:Heap}{k:Nat}{f:Addr}{name qual:Str}{params:Arguments}{body:List Stmt}{scope:Scope}{dV kV doc pm cdv ct oc:Value}{an od:Option Addr}
  {osl:Array (Option Value)} {N ps:List Str} {sp:Sp} (lk:K.lookup f=some ⟨oc,od,.func (ynf name qual params body scope dV kV doc pm an cdv ct),osl⟩) (hcd:yvg K cdv qual=true) (S:zxa N ps scope)
  (len:∀vs H Q E,sp vs H Q E->vs.length=ps.length)
  (hbody:∀(A:Around) (outer:List Env) (s:Shared) (H:Hp) (vs:List V) (Q:VK) (E:XK),Room k (A.deeper (envOfC qual scope s.heap.objs.size f cdv))->sp vs H Q E →
   ∃t,PSs (cxOf CX P w K mg base N qual scope f cdv A outer s H E) body t∧t { nx:=λ_ H'=>Q .non H',rt:=Q } (start N vs) H) :
  FnOk P w K mg base CX (k+1) f (ynf name qual params body scope dV kV doc pm an cdv ct) ps sp:=by
 refine⟨len,λA outer s H args us vs Q E hr e0 hb r hsp=>?_⟩;have hl:=len _ _ _ _ hsp;have KX:K.In s.heap:=e0.mod.kin.keeps λb o e=>(e0.bs b o e).1;have lim:s.heap.NoLimit:=e0.mod.nolimit.keeps λb o e=>(e0.bs b o e).1;have hkind:∀y∈ps.zip us,scope.names.lookup y.1=some .local∨(scope.names.lookup y.1=some .cell∧((cellsFrom (s.heap.objs.size+1) scope.names []).lookup y.1).isSome=true):=λ⟨n,v⟩ hy=>by
  rcases S.par n (ytl hy).1 with q|q
  ·exact .inl q
  ·exact .inr ⟨q,yil _ _ _ (.inl q)⟩
 refine codeAny_call_function hr.depth (KX _ _ lk) rfl S.co S.gen rfl (PySem.W.codeRec_of KX hcd) (hb _ _ _ _ ?_);refine wpAny_newFunctionEnv_cells S.kind hkind λenv he s1 x=>?_;subst he;refine⟨lim.keeps x.toInCall.keep,codeAny_func ?_⟩;obtain⟨t,ht,hq⟩:=hbody A outer s H vs Q E (hr.deeper _) hsp;have I:Inv (cxOf CX P w K mg base N qual scope f cdv A outer s H E) [] (start N vs) H s1:=zfgb S hr.hd e0 hl r x;refine ymd (ht [] s1 (start N vs) H _ I hq) (λfl s' hs=>?_) λe s' hs=>hs;have fin:∀{σ':St} {H':Hp} {v:V} {u:Value},Inv (cxOf CX P w K mg base N qual scope f cdv A outer s H E) [] σ' H' s'->RelV v u->Q v H'->CE outer P w H s Q u s' :=
  λ{σ' H' v u} J rv q=>⟨v,H',J.os,J.bare,J.base,J.hok,rv,q⟩
 cases fl with
 | ret u =>
  obtain⟨v,σ',H',J,rv,q⟩:=hs;exact fin J rv q
 | next =>
  obtain⟨σ',H',J,q⟩:=hs;exact fin (v:=V.non) (u:=Value.none) J rfl q
 | brk =>
  obtain⟨_,_,_,q⟩:=hs;exact yre q
 | cont =>
  obtain⟨_,_,_,q⟩:=hs;exact yre q
end L2
namespace L2
open PySem PySem.Spec PyProof.Rows
section
variable {X:Cx}{x:Str}{p pos:Pos}{e:Expr}{es:List Expr}{t:TA}{id T:String}{r:List V->Hp->VK->Prop}
def tCB (r:List V->Hp->VK->Prop)(t:TA):TE:=fun σ H Q=>t σ H λvs H1=>r vs H1 Q
theorem zib (hc:zwk X (.builtin id) r)(hg:Gl X x)(hm:X.mg x=none)(hv:ydg x=some (.builtin id))(ha:PA X (e::es) t)(hn:x ≠ "__name__":=by decide)(hdb:(x==("__debug__":Str))=false:=by decide)
  (he:yic (e::es) X.env=(false,eval e X.env)::yic es X.env:=by rfl) (hpl:(backTo pos (yic es X.env)).any (·.1)=false:=by rfl):PE X (.Call (.Name x p) (e::es) [] pos) (tCB r t):=by
 intro pins s σ H Q I h;refine ylh (zkt I hg hm hv ?_ hn hdb);exact PyProof.Rows.callWith_builtin1 (thn (ha pos pins s σ H _ I h) λus s1 ⟨vs,H1,I1,r1,q1⟩=>hc pins s1 σ H1 vs us Q I1 r1 q1) he hpl
theorem zfe (hc:zwk X (.type T) r)(hg:Gl X x)(hm:X.mg x=none)(hv:ydg x=some (.type T))(ha:PA X (e::es) t)(hn:x ≠ "__name__":=by decide)(hdb:(x==("__debug__":Str))=false:=by decide)
  (he:yic (e::es) X.env=(false,eval e X.env)::yic es X.env:=by rfl) (hpl:(backTo pos (yic es X.env)).any (·.1)=false:=by rfl):PE X (.Call (.Name x p) (e::es) [] pos) (tCB r t):=by
 intro pins s σ H Q I h;refine ylh (zkt I hg hm hv ?_ hn hdb);exact yke (thn (ha pos pins s σ H _ I h) λus s1 ⟨vs,H1,I1,r1,q1⟩=>hc pins s1 σ H1 vs us Q I1 r1 q1) he hpl
end
end L2
namespace HT
open PySem PyProof.Rows
section
open PySem.SeqAt
open PySem.AutoSeq1 (wpAny_loadPart')
open PySem.MeetsSeq PySem.MeetsSeq2 PySem.MeetsSeq3
end
section
variable {prog:ytb}{w:World}{A:Around}{E:Value->Shared->Prop}{s:Shared}
theorem zdnb {t b:Addr}{vs ws:List Value}{Q:Value->Shared->Prop}(ht:IsTup s.heap t vs.toArray)(hb:IsTup s.heap b ws.toArray)(hv:vs≠[])
  (h1:ws=[]->Q (.ref t) s) (h2:ws≠[]->Q (.ref s.heap.objs.size) { s with heap:=s.heap.push { cls:=.type "tuple",data:=.seq (vs++ws).toArray } })
  (hsz:vs.length+ws.length≤yta):wpAny (model prog w) A (ykh .Add (.ref t) (.ref b)) Q E s:=by
 obtain⟨⟨cls,dd,data,sl⟩,ho,hc,n,hd⟩:=id ht;obtain⟨⟨cls2,dd2,data2,sl2⟩,ho2,hc2,n2,hd2⟩:=id hb;simp only at hc hd hc2 hd2;subst hc hd hc2 hd2;have e:vs.toArray++ws.toArray=(vs++ws).toArray:=by simp
 by_cases hw:ws=[]
 ·exact concat_meets ⟨_,ho,rfl⟩ ⟨_,ho2,rfl⟩ noFill_tuple_add seq_tuple_add yjl ywk (yak _ _)
   (tuple_addW1 t b vs.toArray ws.toArray n n2 dd dd2 sl sl2 (by simpa using hv) (by simp[hw])) ⟨ho,ho2,h1 hw⟩
 ·refine concat_meets ⟨_,ho,rfl⟩ ⟨_,ho2,rfl⟩ noFill_tuple_add seq_tuple_add yjl ywk (yak _ _)
   (tuple_addW2 t b vs.toArray ws.toArray n n2 dd dd2 sl sl2 (by simpa using hv) (by simpa using hw) (by rw[yka,yka];exact hsz)) ⟨ho,ho2,?_⟩
  rw[e];exact h2 hw
def sIx (n d:Nat):Option Int->Nat
 | none=>d
 | some v=>if v<0 then (v+(n:Int)).toNat else min v.toNat n
theorem zmbb (n d:Nat):sIx n d none=d:=rfl
theorem zez (n d k:Nat):sIx n d (some (k:Int))=min k n:=by
 show (if (k:Int)<0 then ((k:Int)+(n:Int)).toNat else min (k:Int).toNat n)=min k n
 rw[if_neg (by omega),ysc]
theorem zkob (n d:Nat)(hd:d≤n)(o:Option Int):sIx n d o≤n:=by
 cases o with
 | none=>exact hd
 | some v =>
  show (if v<0 then (v+(n:Int)).toNat else min v.toNat n)≤n
  by_cases hv:v<0
  ·rw[if_pos hv];omega
  ·rw[if_neg hv];exact Nat.min_le_right _ _
theorem zxgb (v:Int)(n d:Nat):(if v<0 then max (v+(n:Int)) 0 else min v (n:Int))=((sIx n d (some v):Nat):Int):=by
 show (if v<0 then max (v+(n:Int)) 0 else min v (n:Int))=(((if v<0 then (v+(n:Int)).toNat else min v.toNat n):Nat):Int)
 by_cases hv:v<0
 ·simp only[if_pos hv];omega
 ·simp only[if_neg hv];omega
theorem zbeb (lo hi:Option Int)(n:Nat):ywg lo hi 1 (n:Int)=(((sIx n 0 lo:Nat):Int),((sIx n n hi:Nat):Int)):=by
 have h1:¬ ((1:Int)<0):=by omega
 unfold ywg;simp only[h1,if_false];refine Prod.ext ?_ ?_
 ·cases lo with
  | none=>rfl
  | some v=>exact zxgb v n 0
 ·cases hi with
  | none=>rfl
  | some v=>exact zxgb v n n
theorem zfdb (i j:Nat):ycf (i:Int) (j:Int) 1=j-i:=by
 unfold ycf;have h1:(1:Int)>0:=by omega
 simp only[h1,if_true,Int.ediv_one]
 split<;>omega
theorem zxs {v:Value}{o:Option Int}{Q:Option Int->Shared->Prop}(p:IsPart v o)(h:Q o s):wpAny (model prog w) A (ysf.Slice.slicePartIndex v) Q E s:=by
 cases p with
 | none=>exact slicePart_none h
 | int i t=>exact slicePart_int h
theorem zsp {sl:Addr}{vl vu:Value}{lo hi:Option Int}{n:Nat}{Q:Int×Int×Nat->Shared->Prop}(hs:s.heap.IsSliceOf sl vl vu .none)(pl:IsPart vl lo)(pu:IsPart vu hi)
  (h:Q (((sIx n 0 lo:Nat):Int),1,sIx n n hi-sIx n 0 lo) s):wpAny (model prog w) A (yhj (.ref sl) (pure (n:Int))) Q E s:=by
 obtain⟨os,hos,hcs,hds⟩:=id hs;unfold yhj ysf.Slice.sliceFields;refine yaa (yaa (yyd hos hds (x:=vl) rfl (yaa (yyd hos hds (x:=vu) rfl (yaa (yyd hos hds (x:=.none) rfl (yfa ?_)))))));refine yaa (slicePart_none ?_);show wpAny _ _ (if ((1:Int)==0)=true then _ else _) _ _ s
 rw[if_neg (by decide)];refine yaa (zxs pl (yaa (zxs pu (yaa (yfa ?_)))));show wpAny _ _ (match ywg lo hi 1 (n:Int) with|(lo,hi)=>pure (lo,(1:Int),ycf lo hi 1)) _ _ s
 rw[zbeb lo hi n];show wpAny _ _ (pure (((sIx n 0 lo:Nat):Int),(1:Int),ycf ((sIx n 0 lo:Nat):Int) ((sIx n n hi:Nat):Int) 1)) _ _ s
 rw[zfdb];exact yfa h
theorem zgib (xs:Array Value)(i k:Nat):((ypd k).filterMap λ(m:Nat)=>xs[((i:Int)+(m:Int)*1).toNat]?).toArray=((xs.toList.drop i).take k).toArray:=by
 have e:(λ(m:Nat)=>xs[((i:Int)+(m:Int)*1).toNat]?)=λm=>xs[i+m]?:=by
  funext m
  have:((i:Int)+(m:Int)*1).toNat=i+m:=by omega
  rw[this]
 rw[e];have:=pick_run xs i k;rw[ylj] at this;have e2:((λx=>xs[x]?)∘λx=>i+x)=λm=>xs[i+m]?:=rfl;rw[e2] at this;rw[this]
theorem zfo {t sl:Addr}{items:Array Value}{vl vu:Value}{lo hi:Option Int}{Q:Value->Shared->Prop}(ht:IsTup s.heap t items)(hs:s.heap.IsSliceOf sl vl vu .none)(pl:IsPart vl lo)(pu:IsPart vu hi)
  (hw:¬ (sIx items.size 0 lo=0∧sIx items.size items.size hi=items.size))
  (h:Q (.ref s.heap.objs.size) { s with heap:=s.heap.push { cls:=.type "tuple",data:=.seq ((items.toList.drop (sIx items.size 0 lo)).take (sIx items.size items.size hi-sIx items.size 0 lo)).toArray } })
  (hsz:items.size≤yta):wpAny (model prog w) A (ysn (.ref t) (.ref sl)) Q E s:=by
 have htake:sizeOk (.seq ((items.toList.drop (sIx items.size 0 lo)).take (sIx items.size items.size hi-sIx items.size 0 lo)).toArray):=by
  show ((items.toList.drop (sIx items.size 0 lo)).take (sIx items.size items.size hi-sIx items.size 0 lo)).toArray.size≤yta
  rw[yka,ydb,ynd,yya];omega
 have hj:sIx items.size items.size hi≤items.size:=zkob _ _ (yma _) hi;obtain⟨os,hos,hcs,hds⟩:=id hs;have hTs:s.TypeIs (.ref sl) "slice":=⟨os,hos,hcs⟩;unfold ysn
 try with_reducible refine yxb ?_
 first|refine yaa (yfa ?_)|skip
 refine yaa (ybk ht.typeIs (by decide) ?_);refine yaa (yoc (name:=yof "__getitem__") ht.typeIs yif
  (yqc yif ht.typeIs entry_tuple_getitem ?_ (args_tuple_getitem _ _)))
 show wpAny _ _ (ysf.Tuple.tupleItemsOf (.ref t) >>= _) _ _ s
 refine yaa (tupleItemsOf_ ht ?_);refine yaa (yco hTs ?_);rw[if_pos (by decide)];refine yaa (zsp hs pl pu ?_);have hno:¬ ((((sIx items.size 0 lo:Nat):Int)==0&&(1:Int)==1&&(sIx items.size items.size hi-sIx items.size 0 lo)==items.size)=true):=by
  intro q;rw[yhc,yhc] at q;have q1:((sIx items.size 0 lo:Nat):Int)=0:=eq_of_beq q.1.1;have q2:sIx items.size items.size hi-sIx items.size 0 lo=items.size:=eq_of_beq q.2;exact hw ⟨by omega,by omega⟩
 show wpAny _ _ (if (((sIx items.size 0 lo:Nat):Int)==0&&(1:Int)==1&&(sIx items.size items.size hi-sIx items.size 0 lo)==items.size)=true then _ else _) _ _ s
 rw[if_neg hno,zgib]
 first
  | exact yaa (m:=yjf _) (ytc (yfa ⟨_,rfl,yfa h⟩) htake)
  | exact yaa (m:=yjf _) (ytc (yaa (yfa (yfa ⟨_,rfl,yfa h⟩))) htake)
  | exact yaa (yaa (m:=yjf _) (ytc (yfa (yfa ⟨_,rfl,yfa h⟩)) htake))
  | exact yaa (yaa (m:=yjf _) (ytc (yfa ⟨_,rfl,yfa h⟩) htake))
end
end HT
namespace L2
open PySem PySem.Spec PyProof.Rows
abbrev TO:=St->Hp->(Option Int->Hp->Prop)->Prop
def PO (X:Cx)(e:Option Expr)(t:TO):Prop :=
 ∀(pins:List (Addr×Obj)) (s:Shared) (σ:St) (H:Hp) (Q:Option Int->Hp->Prop),Inv X pins σ H s->t σ H Q →
  wpAny (model X.prog X.w) X.A (evalPart e X.env) (λu s'=>Ex2 λo H'=>Inv X pins σ H' s'∧IsPart u o∧Q o H') X.xe s
def zwkb:TO:=λ_ H Q=>Q none H
def ziqb (t:TE):TO:=fun σ H Q=>t σ H λx H1=>∃i,x = .int i∧Q (some i) H1
theorem intsAre_of {ns:List Int}:∀{us:List Value},Vals (ns.map V.int) us->yul us ns:=by
 induction ns with
 | nil=>intro us r;rw[ypf] at r;cases r;exact .nil
 | cons n ns ih =>
  intro us r;rw[yva] at r;cases r with
  | cons r1 r2 =>
   obtain⟨t,e⟩:=r1;subst e;exact .cons n t (ih r2)
section
variable {X:Cx}{e:Expr}{te:TE}{lo hi:Option Expr}{tl th:TO}{pos p2:Pos}
theorem zdk:PO X none zwkb:=by
 intro pins s σ H Q I h;rw[ydn];exact yfa ⟨none,H,I,.none,h⟩
theorem zck (h:PE X e te):PO X (some e) (ziqb te):=by
 intro pins s σ H Q I hw;rw[evalPart_some];refine thn (h pins s σ H _ I hw) λu s1 ⟨x,H1,I1,r1,q1⟩=>?_;obtain⟨i,rfl,q⟩:=q1;obtain⟨t,rfl⟩:=r1;exact⟨some i,H1,I1,.int i t,q⟩
def SlR (X:Cx)(r:V->Option Int->Option Int->Hp->VK->Prop):Prop :=
 ∀(pins:List (Addr×Obj)) (s:Shared) (σ:St) (H:Hp) (x:V) (v vl vu:Value) (lo hi:Option Int) (sl:Addr) (Q:VK),Inv X pins σ H s->RelV x v->s.heap.IsSliceOf sl vl vu .none->IsPart vl lo->IsPart vu hi->r x lo hi H Q →
  Ex2 λT id=>typeLookup (.type T) "__getitem__" = pure (some (.builtin id))∧s.TypeIs v T∧wpAny (model X.prog X.w) X.A (ysn v (.ref sl)) (EP X pins σ Q) X.xe s
def tSl (r:V->Option Int->Option Int->Hp->VK->Prop)(te:TE)(tl th:TO):TE:=fun σ H Q=>te σ H λx H1=>tl σ H1 λl H2=>th σ H2 λu H3=>r x l u H3 Q
theorem zai {r:V->Option Int->Option Int->Hp->VK->Prop}(hr:SlR X r)(he:PE X e te)(hl:PO X lo tl)(hu:PO X hi th):PE X (.Subscript e (.Slice lo hi none p2) pos) (tSl r te tl th):=by
 intro pins s σ H Q I h;refine Subscript_ (thn (he pins s σ H _ I h) λv s1 ⟨x,H1,I1,r1,q1⟩=>?_);refine wpAny_Slice (thn (hl pins s1 σ H1 _ I1 q1) λvl s2 ⟨l,H2,I2,pl,q2⟩=>thn (hu pins s2 σ H2 _ I2 q2) λvu s3 ⟨u,H3,I3,pu,q3⟩=>?_);rw[ydn];refine yfa ?_;have I4:Inv X pins σ H3 { s3 with heap:=s3.heap.push { cls:=.type "slice",data:=.fields #[vl,vu,.none] } }:=I3.kept (t':=s3.toks) λb ob q=>yca _ q;obtain⟨T,id,hT,ht,hg⟩:=hr pins { s3 with heap:=s3.heap.push { cls:=.type "slice",data:=.fields #[vl,vu,.none] } } σ H3 x v vl vu l u s3.heap.objs.size Q I4 r1 (yen ..) pl pu q3;show wpAny (model X.prog X.w) X.A (yfn e (.Slice lo hi none p2) v (.ref s3.heap.objs.size)) (EP X pins σ Q) X.xe { s3 with heap:=s3.heap.push { cls:=.type "slice",data:=.fields #[vl,vu,.none] } }
 exact tail_any (ops:=[.ref s3.heap.objs.size,v]) ht hT hg (by with_unfolding_all rfl)
def cutV (xs:List V)(lo hi:Option Int):List V:=(xs.drop (HT.sIx xs.length 0 lo)).take (HT.sIx xs.length xs.length hi-HT.sIx xs.length 0 lo)
theorem zur (xs:List V)(lo hi:Option Int):(cutV xs lo hi).length≤xs.length:=by
 unfold cutV;rw[ydb,ynd];omega
def rSlT (K:yba):V->Option Int->Option Int->Hp->VK->Prop:=λx lo hi H Q=>Ex2 λa xs=>x = .ref a∧SqT K H a xs ∧
 ¬ (HT.sIx xs.length 0 lo=0∧HT.sIx xs.length xs.length hi=xs.length)∧∀p,H p=none->Q (.ref p) (upd H p (.tup (cutV xs lo hi)))
theorem ziob:SlR X (rSlT X.K):=by
 intro pins s σ H x v vl vu lo hi sl Q I rx hs pl pu h;obtain⟨a,xs,rfl,hx,hw,q⟩:=h;cases rx;obtain⟨its,r,ht,hz⟩:=I.tuple hx;have hlen:its.toArray.size=xs.length:=by rw[yka];exact r.length.symm
 refine⟨"tuple",_,yif.lookup,ht.typeIs,?_⟩;refine HT.zfo ht hs pl pu (by rw[hlen];exact hw) ?_ (by rw[hlen];exact hz);rw[hlen];refine⟨.ref s.heap.objs.size,_,I.laid (t':=s.toks) (o:=.tup (cutV xs lo hi)) (λb ob q=>yca _ q) (yma _) ?_,rfl,q _ (I.hok.fresh (yma _))⟩;exact⟨yxa (zur xs lo hi) hz,_,(r.drop (HT.sIx xs.length 0 lo)).take (HT.sIx xs.length xs.length hi-HT.sIx xs.length 0 lo),ykp _ _⟩
def ztqb (K:yba):R2:=λx y H Q=>Ex4 λa b xs ys=>x = .ref a∧y = .ref b∧SqT K H a xs∧SqT K H b ys∧xs≠[]∧xs.length+ys.length≤yta ∧
 (ys=[]->Q (.ref a) H)∧(ys≠[]->∀p,H p=none->Q (.ref p) (upd H p (.tup (xs++ys))))
theorem Vals.zkz {xs:List V}{us:List Value}(r:Vals xs us):us=[]↔xs=[]:=by
 cases r with
 | nil=>simp
 | cons _ _=>simp
theorem zcmb:OpR X (ykh .Add) (ztqb X.K):=by
 intro pins s σ H x y v u Q I rx ry h;obtain⟨a,b,xs,ys,rfl,rfl,ha,hb,hx,hz,q1,q2⟩:=h;cases rx;cases ry;obtain⟨its,r1,p1,_⟩:=I.tuple ha;obtain⟨its2,r2,p2,_⟩:=I.tuple hb;refine HT.zdnb p1 p2 (λz=>hx (r1.zkz.mp z)) (λz=>⟨.ref a,H,I,rfl,q1 (r2.zkz.mp z)⟩) (λz=>?_) (by rw[← r1.length,← r2.length];exact hz);refine⟨.ref s.heap.objs.size,_,I.laid (t':=s.toks) (o:=.tup (xs++ys)) (λb ob q=>yca _ q) (yma _) ?_,rfl,q2 (λw=>z (r2.zkz.mpr w)) _ (I.hok.fresh (yma _))⟩;exact⟨by rw[yea];exact hz,_,r1.append r2,ykp _ _⟩
end
end L2
namespace L2
open PySem PySem.Spec PyProof.Rows
def ixN (n:Nat)(i:Int):Option Nat:=if 0≤i then (if i<n then some i.toNat else none) else if -(n:Int)≤i then some (i+n).toNat else none
def atI {α:Type}(xs:List α)(i:Int):Option α:=(ixN xs.length i).bind λj=>xs[j]?
theorem zcgb {n:Nat}{i:Int}{j:Nat}(h:ixN n i=some j):seqIndex? i n=some j∧j<n ∧ -(n:Int)≤i∧i<n:=by
 unfold ixN at h
 by_cases h0:0≤i
 ·rw[if_pos h0] at h
  by_cases h1:i<n
  ·rw[if_pos h1] at h;have e:i.toNat=j:=yfc h;exact⟨by rw[seqIndex_of h0 h1,e],by omega,by omega,h1⟩
  ·rw[if_neg h1] at h;cases h
 ·rw[if_neg h0] at h
  by_cases h1:-(n:Int)≤i
  ·rw[if_pos h1] at h;have e:(i+n).toNat=j:=yfc h;exact⟨by rw[seqIndex_neg (by omega) h1,e],by omega,h1,by omega⟩
  ·rw[if_neg h1] at h;cases h
theorem zjab {α:Type}{xs:List α}{i:Int}{v:α}(h:atI xs i=some v):∃j,seqIndex? i xs.length=some j∧xs[j]?=some v∧j<xs.length ∧ -(xs.length:Int)≤i∧i<xs.length:=by
 unfold atI at h;cases e:ixN xs.length i with
 | none=>rw[e] at h;cases h
 | some j =>
  rw[e] at h;obtain⟨h1,h2,h3,h4⟩:=zcgb e;exact⟨j,h1,h,h2,h3,h4⟩
theorem zia {α:Type}{xs:List α}{j:Nat}{v:α}(h:xs[j]?=some v):atI xs (j:Int)=some v:=by
 have hj:j<xs.length:=(yla.mp h).1;have e:ixN xs.length (j:Int)=some j:=by
  unfold ixN;rw[if_pos (by omega),if_pos (by omega)];simp
 unfold atI;rw[e];exact h
def znnb (b:Expr):Prop:=∀o i,subscripted b false o i=operate [o,i] (ysn o i)
def IxR (X:Cx)(r:R2):Prop :=
 ∀(value slice:Expr) (pins:List (Addr×Obj)) (s:Shared) (σ:St) (H:Hp) (x y:V) (v u:Value) (Q:VK),Inv X pins σ H s->RelV x v->RelV y u->r x y H Q →
  subscripted slice false v u=operate [v,u] (ysn v u)->wpAny (model X.prog X.w) X.A (yfn value slice v u) (EP X pins σ Q) X.xe s
def MtR (X:Cx)(id:String)(r:V->List V->Hp->VK->Prop):Prop :=
 ∀(pins:List (Addr×Obj)) (s:Shared) (σ:St) (H:Hp) (x:V) (xs:List V) (v:Value) (us:List Value) (Q:VK),Inv X pins σ H s->RelV x v->Vals xs us->r x xs H Q →
  wpAny (model X.prog X.w) X.A (call (.builtin id) (v::us)) (EP X pins σ Q) X.xe s
section
variable {X:Cx}{a b:Expr}{ta tb:TE}{pos:Pos}
theorem znb {r:R2}(hr:IxR X r)(ha:PE X a ta)(hb:PE X b tb)(hs:znnb b):PE X (.Subscript a b pos) (tOp r ta tb):=by
 intro pins s σ H Q I h;exact Subscript_ (binT ha hb I h λv u s2 x y H2 I2 rx ry q=>hr a b pins s2 σ H2 x y v u Q I2 rx ry q (hs _ _))
def rIxL (K:yba):R2:=λx y H Q=>Ex4 λp xs i v=>x = .ref p∧y = .int i∧SqL K H p xs∧atI xs i=some v∧Q v H
def rIxT (K:yba):R2:=λx y H Q=>Ex4 λp xs i v=>x = .ref p∧y = .int i∧SqT K H p xs∧atI xs i=some v∧Q v H
def rIxS:R2:=λx y H Q=>Ex3 λz i c=>x = .str z∧y = .int i∧z.length≤yta∧atI z.cps.toList i=some c∧Q (.str ⟨#[c]⟩) H
theorem zic:IxR X (rIxL X.K):=by
 intro value slice pins s σ H x y v u Q I rx ry h hs;obtain⟨p,xs,i,z,rfl,rfl,hq,he,q⟩:=h;cases rx;obtain⟨t,rfl⟩:=ry;obtain⟨its,r,pl,hz⟩:=I.list hq;obtain⟨j,h1,h2,h3,h4,h5⟩:=zjab he;obtain⟨w,ew,rw'⟩:=r.get h2;have hl:=r.length;have hn:=zpr;have fin:EP X pins σ Q w s:=⟨z,H,I,rw',q⟩
 by_cases h0:0≤i
 ·have hj:i.toNat=j:=by
   rw[seqIndex_of h0 h5] at h1;exact yfc h1
  exact item_listR pl.isList h0 (by omega) (by rw[hj];simpa using ew) fin hs
 ·have hj:(i+(its.toArray.size:Int)).toNat=j:=by
   rw[seqIndex_neg (by omega) h4] at h1;rw[yka,← hl];exact yfc h1
  exact yoh (x:=w) pl.isList.typeIs yck.lookup
   (wpAny_getItem_list_neg (Q:=λr s'=>r=w∧EP X pins σ Q r s') pl.isList (by omega) (by rw[yka]<;>omega) (by omega) (by rw[hj];simpa using ew) ⟨rfl,fin⟩) hs
theorem zlc:IxR X (rIxT X.K):=by
 intro value slice pins s σ H x y v u Q I rx ry h hs;obtain⟨p,xs,i,z,rfl,rfl,hq,he,q⟩:=h;cases rx;obtain⟨t,rfl⟩:=ry;obtain⟨its,r,pl,hz⟩:=I.tuple hq;obtain⟨j,h1,h2,h3,h4,h5⟩:=zjab he;obtain⟨w,ew,rw'⟩:=r.get h2;have hl:=r.length;have hn:=zpr;have fin:EP X pins σ Q w s:=⟨z,H,I,rw',q⟩;exact yoh (x:=w) pl.typeIs slot_tuple_getitem.lookup
  (getItem_tuple (j:=j) (Q:=λr s'=>r=w∧EP X pins σ Q r s') pl (by omega) (by omega) (by rw[yka,← hl];exact h1) (by simpa using ew) ⟨rfl,fin⟩) hs
theorem zbgb:IxR X rIxS:=by
 intro value slice pins s σ H x y v u Q I rx ry h hs;obtain⟨z,i,c,rfl,rfl,hz,he,q⟩:=h;obtain⟨t,rfl⟩:=rx;obtain⟨t',rfl⟩:=ry;obtain⟨j,h1,h2,h3,h4,h5⟩:=zjab he;have hl:z.cps.toList.length=z.length:=by simp[yfp]
 rw[hl] at h1 h4 h5;have hn:=zpr;exact tail_any (ydk s z t) slot_str_getitem.lookup (getItem_str (c:=c) (by
  have e1:decide (i < -(2 ^ 63:Int))=false:=decide_eq_false (by omega);have e2:decide (i≥2 ^ 63)=false:=decide_eq_false (by omega);rw[e1,e2,Bool.or_false]) (by rw[h1];simpa using h2) ⟨.str ⟨#[c]⟩,H,I.tok _,⟨_,rfl⟩,q⟩) hs
theorem zldb (its:List Value)(n j:Nat)(u:Value):yte (·.setIfInBounds j u) { cls:=.type "list",data:=.seq its.toArray n }={ cls:=.type "list",data:=.seq (its.set j u).toArray n }:=by
 simp[yte]
theorem Inv.lst {pins:List (Addr×Obj)}{σ:St}{H:Hp}{s:Shared}{p:Addr}{xs:List V}(I:Inv X pins σ H s)(h:H p=some (.lst xs)) :
  Ex2 λ(its:List Value) (n:Nat)=>Vals xs its∧s.heap.get? p=some { cls:=.type "list",data:=.seq its.toArray n }∧xs.length≤yta:=by
 obtain⟨z,its,n,r,e⟩:=I.hok p _ h;exact⟨its,n,r,e,z⟩
theorem Inv.zfpb {pins:List (Addr×Obj)}{σ:St}{H:Hp}{s:Shared}{p:Addr}{xs ys:List V}{its its':List Value}{n n':Nat}{f:Obj->Obj}(I:Inv X pins σ H s)(h:H p=some (.lst xs))
  (ho:s.heap.get? p=some { cls:=.type "list",data:=.seq its.toArray n }) (hf:f { cls:=.type "list",data:=.seq its.toArray n }={ cls:=.type "list",data:=.seq its'.toArray n' }) (r:Vals ys its') (hz:ys.length≤yta) (t:Nat) :
  Inv X pins σ (upd H p (.lst ys)) { s with heap:=s.heap.update p f,toks:=t }:=by
 have e:(s.heap.update p f).get? p=some { cls:=.type "list",data:=.seq its'.toArray n' }:=by
  rw[yvd f ho (by rw[hf]<;>rfl),hf]
 refine I.write (x:=p) (e:=p) (by rw[h];trivial) (.inl rfl) (λb u hb q=>(yod _ _ (yub hb)).trans q) ⟨_,e⟩ ?_;exact⟨hz,its',n',r,e⟩
def zsqb:V->V->V->Hp->(Hp->Prop)->Prop:=λo i v H Q=>Ex4 λp xs k j=>o = .ref p∧i = .int k∧H p=some (.lst xs)∧ixN xs.length k=some j∧Q (upd H p (.lst (xs.set j v)))
theorem set_list:PSet X zsqb:=by
 intro pins s σ H o i v ov iv u Q I ro ri rv h;obtain⟨p,xs,k,j,rfl,rfl,hp,hj,q⟩:=h;cases ro;obtain⟨t,rfl⟩:=ri;obtain⟨its,n,r,ho,hz⟩:=I.lst hp;obtain⟨h1,h2,h3,h4⟩:=zcgb hj;have hl:=r.length;have hn:=zpr;have I':Inv X pins σ (upd H p (.lst (xs.set j v))) { s with heap:=s.heap.update p (yte (·.setIfInBounds j u)) } :=
  I.zfpb hp ho (zldb its n j u) (r.set rv j) (by rw[List.length_set];exact hz) s.toks
 by_cases h0:0≤k
 ·have hk:k.toNat=j:=by
   rw[seqIndex_of h0 h4] at h1;exact yfc h1
  exact PySem.W.ki_setAt ho h0 (by omega) (by rw[yka,← hl];exact h4) (by rw[hk];exact⟨_,I',q⟩)
 ·have hk:(k+(its.toArray.size:Int)).toNat=j:=by
   rw[seqIndex_neg (by omega) h3] at h1;rw[yka,← hl];exact yfc h1
  exact PySem.W.ki_setBack ho (by omega) (by rw[yka,← hl];exact h3) (by omega) (by rw[hk];exact⟨_,I',q⟩)
theorem ziw (lo hi:Option Int)(n:Nat):(ygg lo hi none n).1=((HT.sIx n 0 lo:Nat):Int)∧(ygg lo hi none n).2.1=((HT.sIx n n hi:Nat):Int)∧(ygg lo hi none n).2.2=1:=by
 refine⟨?_,?_,rfl⟩
 ·cases lo with
  | none=>simp[ygg,HT.sIx]
  | some i =>
   simp only[ygg,HT.sIx,yho,show (1:Int)>0 by decide,if_true]
   by_cases h:i<0
   ·simp only[h,if_true]<;>omega
   ·simp only[h,if_false]<;>omega
 ·cases hi with
  | none=>simp[ygg,HT.sIx]
  | some i =>
   simp only[ygg,HT.sIx,yho,show (1:Int)>0 by decide,if_true]
   by_cases h:i<0
   ·simp only[h,if_true]<;>omega
   ·simp only[h,if_false]<;>omega
theorem zau (its:List Value)(lo hi:Option Int):yro its.toArray lo hi none=((its.drop (HT.sIx its.length 0 lo)).take (HT.sIx its.length its.length hi-HT.sIx its.length 0 lo)).toArray:=by
 obtain⟨h1,h2,h3⟩:=ziw lo hi its.toArray.size;unfold yro;rw[h1,h2,h3];simp only[ynm,pick_run,yka]<;>rfl
def rSlL (K:yba):V->Option Int->Option Int->Hp->VK->Prop:=λx lo hi H Q=>Ex2 λa xs=>x = .ref a∧SqL K H a xs∧∀p,H p=none->Q (.ref p) (upd H p (.lst (cutV xs lo hi)))
theorem zmq:SlR X (rSlL X.K):=by
 intro pins s σ H x v vl vu lo hi sl Q I rx hs pl pu h;obtain⟨a,xs,rfl,hx,q⟩:=h;cases rx;obtain⟨its,r,ht,hz⟩:=I.list hx;have hlen:=r.length;refine⟨"list",_,yck.lookup,ht.isList.typeIs,?_⟩;refine yek ht.isList hs pl pu .none (by simp) ?_ (by rw[yka]<;>omega);rw[zau,← hlen];refine⟨.ref s.heap.objs.size,_,I.laid (t':=s.toks) (o:=.lst (cutV xs lo hi)) (λb ob q=>yca _ q) (yma _) ?_,rfl,q _ (I.hok.fresh (yma _))⟩;exact⟨yxa (zur xs lo hi) hz,_,0,(r.drop (HT.sIx xs.length 0 lo)).take (HT.sIx xs.length xs.length hi-HT.sIx xs.length 0 lo),yoa _ rfl⟩
def zss:V->Bool
 | .non=>true
 | .bl _=>true
 | .int _=>true
 | .str _=>true
 | _=>false
def eqV:V->V->Bool
 | .non,.non=>true
 | .bl a,.bl b=>a==b
 | .bl a,.int b=>(if a then 1 else 0)==b
 | .int a,.bl b=>a==(if b then 1 else 0)
 | .int a,.int b=>a==b
 | .str a,.str b=>a==b
 | _,_=>false
theorem zaqb {A:Around}{s:Shared}{y x:V}{u v:Value}(ry:RelV y u)(rx:RelV x v)(fy:zss y=true)(fx:zss x=true):ybd A s u v (eqV y x):=by
 cases y with
 | non =>
  cases ry;cases x with
  | non=>cases rx;exact ybd.same _
  | bl b=>cases rx;exact ybd.none_bool b
  | int b=>obtain⟨t,rfl⟩:=rx;exact ybd.none_int b t
  | str b=>obtain⟨t,rfl⟩:=rx;exact ybd.none_str b t
  | _=>exact absurd (show false=true from fx) yua
 | bl a =>
  cases ry;cases x with
  | non=>cases rx;exact ybd.bool_none a
  | bl b=>cases rx;exact ybd.bool_bool a b
  | int b=>obtain⟨t,rfl⟩:=rx;exact ybd.bool_int a b t
  | str b=>obtain⟨t,rfl⟩:=rx;exact ybd.bool_str a b t
  | _=>exact absurd (show false=true from fx) yua
 | int a =>
  obtain⟨t',rfl⟩:=ry;cases x with
  | non=>cases rx;exact ybd.int_none a t'
  | bl b=>cases rx;exact ybd.int_bool a t' b
  | int b=>obtain⟨t,rfl⟩:=rx;exact ybd.int_int a t' b t
  | str b=>obtain⟨t,rfl⟩:=rx;exact yym a t' b t
  | _=>exact absurd (show false=true from fx) yua
 | str a =>
  obtain⟨t',rfl⟩:=ry;cases x with
  | non=>cases rx;exact ybd.str_none a t'
  | bl b=>cases rx;exact ybd.str_bool a t' b
  | int b=>obtain⟨t,rfl⟩:=rx;exact yzm a t' b t
  | str b=>obtain⟨t,rfl⟩:=rx;exact ybd.str_str a t' b t
  | _=>exact absurd (show false=true from fx) yua
 | _=>exact absurd (show false=true from fy) yua
def eqU (x:V)(u:Value):Bool:=match u with
 | .none=>eqV .non x
 | .bool b=>eqV (.bl b) x
 | .int i _=>eqV (.int i) x
 | .str z _=>eqV (.str z) x
 | _=>false
theorem zmkb {x y:V}{u:Value}(r:RelV y u)(f:zss y=true):eqU x u=eqV y x:=by
 cases y with
 | non=>cases r;rfl
 | bl b=>cases r;rfl
 | int i=>obtain⟨t,rfl⟩:=r;rfl
 | str z=>obtain⟨t,rfl⟩:=r;rfl
 | _=>exact absurd (show false=true from f) yua
theorem zas {x:V}:∀{xs:List V} {us:List Value},Vals xs us->xs.all zss=true->us.any (eqU x)=xs.any λy=>eqV y x
 | _,_,.nil,_=>rfl
 | y::xs,u::us,.cons r t,f=>by
  rw[List.all_cons,yhc] at f;rw[ygn,ygn,zmkb r f.1,zas t f.2]
theorem zdn {A:Around}{s:Shared}{x:V}{v:Value}(rx:RelV x v)(fx:zss x=true):∀{xs:List V} {us:List Value},Vals xs us->xs.all zss=true->∀u∈us,ybd A s u v (eqU x u)
 | _,_,.nil,_=>λu hu=>by cases hu
 | y::xs,u::us,.cons r t,f=>λu' hu=>by
  rw[List.all_cons,yhc] at f
  rcases yha.mp hu with rfl|hu
  ·rw[zmkb r f.1];exact zaqb r rx f.1 fx
  ·exact zdn rx fx t f.2 u' hu
def inV (x:V)(xs:List V):Bool:=xs.any λy=>eqV y x
def rIn (K:yba)(neg:Bool):R2:=λx y H Q=>Ex2 λp xs=>y = .ref p∧(SqL K H p xs∨SqT K H p xs)∧zss x=true∧xs.all zss=true∧Q (.bl (if neg then !inV x xs else inV x xs)) H
theorem zge:OpR X (yxc .In) (rIn X.K false):=by
 intro pins s σ H x y v u Q I rx ry h;obtain⟨p,xs,rfl,hq,fx,fs,q⟩:=h;cases ry
 rcases hq with hq|hq
 ·obtain⟨its,r,pl,hz⟩:=I.list hq;refine SeqAt.in_listAt (eqU x) pl.isList (λw hw=>zdn rx fx r fs w (by simpa using hw)) ⟨.bl _,H,I,rfl,?_⟩;rw[show its.toArray.any (eqU x)=its.any (eqU x) by simp,zas r fs];exact q
 ·obtain⟨its,r,pl,hz⟩:=I.tuple hq;refine SeqAt.in_tupleAt (eqU x) pl (λw hw=>zdn rx fx r fs w (by simpa using hw)) ⟨.bl _,H,I,rfl,?_⟩;rw[show its.toArray.any (eqU x)=its.any (eqU x) by simp,zas r fs];exact q
theorem zqw:OpR X (yxc .NotIn) (rIn X.K true):=by
 intro pins s σ H x y v u Q I rx ry h;obtain⟨p,xs,rfl,hq,fx,fs,q⟩:=h;cases ry
 rcases hq with hq|hq
 ·obtain⟨its,r,pl,hz⟩:=I.list hq;refine SeqAt.notIn_listAt (eqU x) pl.isList (λw hw=>zdn rx fx r fs w (by simpa using hw)) ⟨.bl _,H,I,rfl,?_⟩;rw[show its.toArray.any (eqU x)=its.any (eqU x) by simp,zas r fs];exact q
 ·obtain⟨its,r,pl,hz⟩:=I.tuple hq;refine SeqAt.notIn_tupleAt (eqU x) pl (λw hw=>zdn rx fx r fs w (by simpa using hw)) ⟨.bl _,H,I,rfl,?_⟩;rw[show its.toArray.any (eqU x)=its.any (eqU x) by simp,zas r fs];exact q
theorem zgb:zwk X (.builtin "len") (λxs H Q=>Ex2 λp ys=>xs=[.ref p]∧(SqL X.K H p ys∨SqT X.K H p ys)∧Q (.int ys.length) H):=by
 intro pins s σ H xs us Q I r h;obtain⟨p,ys,rfl,hq,q⟩:=h;obtain⟨u,rfl,rx⟩:=vals1 r;cases rx;have hn:=zpr
 rcases hq with hq|hq
 ·obtain⟨its,r',pl,hz⟩:=I.list hq;have hlen:=r'.length;exact Calls.call_len_list pl.isList (by simp only[yka]<;>omega) ⟨.int ys.length,H,I.tok _,⟨s.toks+1,by rw[yka,hlen]⟩,q⟩
 ·obtain⟨its,r',pl,hz⟩:=I.tuple hq;have hlen:=r'.length;exact len_tuple pl (by simp only[yka]<;>omega) ⟨.int ys.length,H,I.tok _,⟨s.toks+1,by rw[yka,hlen]⟩,q⟩
theorem zmk:zwk X (.builtin "len") (λxs H Q=>∃z,xs=[.str z]∧z.length≤yta∧Q (.int z.length) H):=by
 intro pins s σ H xs us Q I r h;obtain⟨z,rfl,hz,q⟩:=h;obtain⟨u,rfl,t,rfl⟩:=vals1 r;have hn:=zpr;exact len_str (by omega) ⟨.int z.length,H,I.tok _,⟨_,rfl⟩,q⟩
theorem zlk:zwk X (.type "list") (λxs H Q=>Ex2 λp ys=>xs=[.ref p]∧(SqL X.K H p ys∨SqT X.K H p ys)∧∀l,H l=none->Q (.ref l) (upd H l (.lst ys))):=by
 intro pins s σ H xs us Q I r h;obtain⟨p,ys,rfl,hq,q⟩:=h;obtain⟨u,rfl,rx⟩:=vals1 r;cases rx;have fin:∀(its:List Value),Vals ys its->ys.length≤yta->∀(h':Heap) (c':Nat),(∀b o',s.heap.get? b=some o'->h'.get? b=some o') →
   h'.get? s.heap.objs.size=some { cls:=.type "list",dict:=none,data:=.seq its.toArray c',slots:=#[] }->EP X pins σ Q (.ref s.heap.objs.size) { s with heap:=h' }:=λits r' hz h' c' kp e =>
  ⟨.ref s.heap.objs.size,_,I.laid (t':=s.toks) kp (yma _) (show zwi X.prog X.w _ h' _ (.lst ys) from⟨hz,its,c',r',e⟩),rfl,q _ (I.hok.fresh (yma _))⟩
 rcases hq with hq|hq
 ·obtain⟨its,r',pl,hz⟩:=I.list hq;have hlen:=r'.length;obtain⟨o,ho,hc,n,hd⟩:=pl.isList;exact call_list_seq p (.inl rfl) ho hc hd (λh' c' kp e=>fin its r' hz h' c' kp e) (by simp only[yka]<;>omega)
 ·obtain⟨its,r',pl,hz⟩:=I.tuple hq;have hlen:=r'.length;obtain⟨o,ho,hc,n,hd⟩:=pl;exact call_list_seq p (.inr rfl) ho hc hd (λh' c' kp e=>fin its r' hz h' c' kp e) (by simp only[yka]<;>omega)
theorem zch:zwk X (.type "tuple") (λxs H Q=>Ex2 λp ys=>xs=[.ref p]∧((SqL X.K H p ys∧∀l,H l=none->Q (.ref l) (upd H l (.tup ys)))∨(SqT X.K H p ys∧Q (.ref p) H))):=by
 intro pins s σ H xs us Q I r h;obtain⟨p,ys,rfl,h⟩:=h;obtain⟨u,rfl,rx⟩:=vals1 r;cases rx
 rcases h with⟨hq,q⟩|⟨hq,q⟩
 ·obtain⟨its,r',pl,hz⟩:=I.list hq;have hlen:=r'.length;refine call_tuple_list pl.isList (λh' kp=>?_) (by simp only[yka]<;>omega);have I1:Inv X pins σ H { s with heap:=h' }:=I.kept (t':=s.toks) kp;have I2:Inv X pins σ (upd H h'.objs.size (.tup ys)) { s with heap:=h'.push { cls:=.type "tuple",data:=.seq its.toArray } } :=
   I1.laid (t':=s.toks) (λb o e=>yca _ e) (yma _) (show zwi X.prog X.w _ _ _ (.tup ys) from⟨hz,its,r',ykp _ _⟩)
  exact⟨.ref h'.objs.size,_,I2,rfl,q _ (I1.hok.fresh (yma _))⟩
 ·obtain⟨its,r',pl,hz⟩:=I.tuple hq;exact call_tuple_same pl ⟨.ref p,H,I,rfl,q⟩
def tyV (K:yba)(T:String)(x:V)(H:Hp):Prop:=match x with
 | .str _=>T = "str"
 | .int _=>T = "int"
 | .ref p=>(T = "list" ∧ ∃xs,SqL K H p xs)∨(T = "tuple" ∧ ∃o,K.lookup p=some o∧o.cls = .type "tuple" ∧ o.dict=none) ∨
   (T = "dict" ∧ ((∃kvs,H p=some (.dK kvs))∨∃kvs,H p=some (.dT kvs)))∨(T = "set" ∧ Ex2 λS n=>H p=some (.set S n))
 | _=>False
theorem zpnb {pins:List (Addr×Obj)}{σ:St}{H:Hp}{s:Shared}{T:String}{x:V}{v:Value}(I:Inv X pins σ H s)(r:RelV x v)(ty:tyV X.K T x H) :
  s.TypeIs v T∧∀a,v = .ref a->∃ob,s.heap.get? a=some ob∧ob.dict=none:=by
 cases x with
 | str z =>
  obtain⟨t,rfl⟩:=r;cases (show T = "str" from ty);exact⟨ydk s z t,λ_ e=>nomatch e⟩
 | int i =>
  obtain⟨t,rfl⟩:=r;cases (show T = "int" from ty);exact⟨typeIs_int s i t,λ_ e=>nomatch e⟩
 | ref p =>
  cases r
  rcases ty with⟨rfl,xs,hq⟩|⟨rfl,o,hk,hc,hd⟩|⟨rfl,hk⟩|⟨rfl,S,n,hk⟩
  ·obtain⟨its,_,pl,_⟩:=I.list hq;refine⟨pl.isList.typeIs,λa e=>?_⟩;cases e;obtain⟨o,n,e,c,hd,_⟩:=pl;exact⟨o,e,hd⟩
  ·refine⟨⟨o,I.kIn p o hk,hc⟩,λa e=>?_⟩;cases e;exact⟨o,I.kIn _ o hk,hd⟩
  ·have z:∃o,s.heap.get? p=some o∧o.ExactDict:=by
    rcases hk with⟨kvs,hk⟩|⟨kvs,hk⟩
    ·obtain⟨_,_,_,_,o,_,_,e,ex,_⟩:=I.hok p _ hk;exact⟨o,e,ex⟩
    ·obtain⟨_,_,_,_,o,_,_,e,ex,_⟩:=I.hok p _ hk;exact⟨o,e,ex⟩
   obtain⟨o,e,ex⟩:=z;refine⟨⟨o,e,ex.1⟩,λa e2=>?_⟩;cases e2;exact⟨o,e,ex.2.1⟩
  ·obtain⟨o,_,_,_,e,ex,_⟩:=I.hok p _ hk;refine⟨⟨o,e,ex.1⟩,λa e2=>?_⟩;cases e2;exact⟨o,e,ex.2.1⟩
 | _=>exact yre ty
def tBM (K:yba)(T:String)(r:V->List V->Hp->VK->Prop)(to:TE)(t:TA):TE:=fun σ H Q=>to σ H λx H1=>tyV K T x H1∧t σ H1 λxs H2=>r x xs H2 Q
variable {o e:Expr}{es:List Expr}{to:TE}{t:TA}{name:Str}{apos cpos:Pos}{T id:String}{r:V->List V->Hp->VK->Prop}
theorem zrh (pa:PlainAttrs T)(slot:Slot T name id)(hty:typeOf (.builtin id)=pure (.type "method_descriptor"))(hm:MtR X id r)(ho:PE X o to)(ha:PA X (e::es) t)
  (hbase:yki o name X.env (eval o X.env)=eval o X.env:=by rfl)
  (hfew:((backTo cpos (yic (e::es) X.env)).all (λx=>!x.1)&&(ymo cpos (yuk [] X.env)).all (λx=>x.1.isSome)
   && decide ((e::es).length+([]:List yrn).length+(if ([]:List yrn).isEmpty then 0 else 1)<30))=true:=by rfl)
  (hline:(apos.endLine==cpos.line)=true:=by rfl) (hs:yic (e::es) X.env=(false,eval e X.env)::yic es X.env:=by rfl) (hplain:(backTo cpos (yic es X.env)).any (·.1)=false:=by rfl) :
  PE X (.Call (.Attribute o name apos) (e::es) [] cpos) (tBM X.K T r to t):=by
 intro pins s σ H Q I h;refine wpAny_Call_method_late hbase hfew hline rfl (thn (ho pins s σ H _ I h) λv s1 ⟨x,H1,I1,r1,ty,q1⟩=>?_);obtain⟨h1,h2⟩:=zpnb I1 r1 ty;refine⟨T,id,pa,slot,hty,h1,h2,?_⟩;have hA:=ha cpos pins s1 σ H1 _ I1 q1;rw[hs] at hA ⊢;refine Calls.callWith_builtin (by show (false||(backTo cpos (yic es X.env)).any (·.1))=false;rw[hplain]<;>rfl) (Calls.evalArgs_plain ?_);exact thn hA λus s2 ⟨vs,H2,I2,r2,q2⟩=>hm pins s2 σ H2 x vs v us Q I2 r1 r2 q2
end
end L2
namespace L2
open PySem PySem.Spec PyProof.Rows
def MtM (X:Cx)(id:String)(r:V->List V->Hp->VK->Prop):Prop :=
 ∀(pins:List (Addr×Obj)) (s:Shared) (σ:St) (H:Hp) (x:V) (xs:List V) (v:Value) (us:List Value) (Q:VK),Inv X pins σ H s->RelV x v->Vals xs us->r x xs H Q →
  wpAny (model X.prog X.w) X.A (call (.builtin id) (v::us)) (EP X pins σ Q) X.xe s
theorem Vals.one:∀{x:V} {us:List Value},Vals [x] us->∃u,us=[u]∧RelV x u
 | _,_,.cons r .nil=>⟨_,rfl,r⟩
theorem Vals.reverse {xs:List V}{us:List Value}(h:Vals xs us):Vals xs.reverse us.reverse:=by
 induction h with
 | nil=>exact .nil
 | cons r t ih=>rw[ywh,ywh];exact Vals.append ih (.cons r .nil)
theorem Vals.rep {xs:List V}{us:List Value}(h:Vals xs us):∀k:Nat,Vals (yrc k xs).flatten (yrc k us).flatten
 | 0=>.nil
 | k+1=>by
  rw[yvf,yvf,yhd,yhd];exact Vals.append h (Vals.rep h k)
theorem foldl_rep (its:List Value):∀(k:Nat) (acc:List Value),
  ygp (λx1 x2=>x1++x2) acc.toArray (yrc k its.toArray)=(acc++(yrc k its).flatten).toArray
 | 0,acc=>by simp
 | k+1,acc=>by
  have e:acc.toArray++its.toArray=(acc++its).toArray:=by simp
  have e2:(acc++its)++(yrc k its).flatten=acc++(yrc (k+1) its).flatten:=by
   rw[yvf,yhd,yrd]
  rw[← e2,← foldl_rep its k (acc++its),← e,yvf,List.foldl_cons]
section
variable {X:Cx}{pins:List (Addr×Obj)}{σ:St}{H:Hp}{s:Shared}{l b:Addr}{xs ys zs:List V}
theorem Inv.lset {its its':List Value}{n:Nat}{f:Array Value->Array Value}{t':Nat}(I:Inv X pins σ H s)(hH:H l=some (.lst xs))
  (e:s.heap.get? l=some { cls:=.type "list",data:=.seq its.toArray n }) (hf:f its.toArray=its'.toArray) (hv:Vals ys its') (hz:ys.length≤yta) :
  Inv X pins σ (upd H l (.lst ys)) { s with heap:=s.heap.update l (yte f),toks:=t' }:=by
 have q:=PySem.IsL.update e f;rw[hf] at q;refine I.write (x:=l) (e:=l) (by rw[hH];exact trivial) (.inl rfl) (λb' u hb hu=>(yod s.heap (yte f) (yub hb)).trans hu) ⟨_,q⟩ ?_;exact⟨hz,its',_,hv,q⟩
theorem Inv.lnew {its:List Value}{t':Nat}(I:Inv X pins σ H s)(hv:Vals ys its)(hz:ys.length≤yta) :
  Inv X pins σ (upd H s.heap.objs.size (.lst ys)) { s with heap:=s.heap.push { cls:=.type "list",data:=.seq its.toArray },toks:=t' } :=
 I.laid (λ_ _ q=>yca _ q) (yma _) ⟨hz,its,0,hv,yoa _ rfl⟩
theorem Inv.fresh (I:Inv X pins σ H s):H s.heap.objs.size=none:=I.hok.fresh (yma _)
theorem Inv.lstM (I:Inv X pins σ H s)(hH:H l=some (.lst xs)):xs.length≤yta∧Ex2 λ(its:List Value) (n:Nat)=>Vals xs its∧xs.length=its.length∧s.heap.get? l=some { cls:=.type "list",data:=.seq its.toArray n }:=by
 obtain⟨z,its,n,r,e⟩:=I.hok l _ hH;exact⟨z,its,n,r,r.length,e⟩
theorem zvbb {n:Nat}(h:n≤yta):ykf n=false:=by
 unfold ykf;exact decide_eq_false (by omega)
end
section
variable {X:Cx}
def zqlb:V->List V->Hp->VK->Prop:=λx vs H Q=>Ex3 λl xs y=>x = .ref l∧vs=[y]∧H l=some (.lst xs)∧xs.length<yta∧Q .non (upd H l (.lst (xs++[y])))
theorem zfd:MtM X "list.append" zqlb:=by
 intro pins s σ H x vs v us Q I rx rv h;obtain⟨l,xs,y,rfl,rfl,hH,hz,q⟩:=h;cases rx;obtain⟨u,rfl,ru⟩:=rv.one;obtain⟨z,its,n,r,hl,e⟩:=I.lstM hH;refine yoi F.slot_list_append ⟨_,e,rfl⟩ F.entry_list_append (F.args_list_append_2 _ _) (PySem.list_append l its.toArray n u (by rw[yka];omega)) ⟨e,?_⟩;refine⟨.non,_,I.lset (its':=its++[u]) hH e (by simp) (r.append (.cons ru .nil)) ?_,rfl,q⟩;rw[yea,ywe];omega
def zplb:V->List V->Hp->VK->Prop:=λx vs H Q=>Ex4 λl b xs zs=>x = .ref l∧vs=[.ref b]∧H l=some (.lst xs)∧H b=some (.lst zs)∧xs.length+zs.length≤yta∧Q .non (upd H l (.lst (xs++zs)))
theorem ztfb:MtM X "list.extend" zplb:=by
 intro pins s σ H x vs v us Q I rx rv h;obtain⟨l,b,xs,zs,rfl,rfl,hH,hB,hz,q⟩:=h;cases rx;obtain⟨u,rfl,ru⟩:=rv.one;cases ru;obtain⟨z,its,n,r,hl,e⟩:=I.lstM hH;obtain⟨z2,its2,n2,r2,hl2,e2⟩:=I.lstM hB;have hsz:its.toArray.size+its2.toArray.size≤yta:=by rw[yka,yka];omega
 have hlong:¬ (!its.toArray.isEmpty&&ykf (its.toArray.size+its2.toArray.size))=true:=by
  rw[zvbb hsz,yxg];exact yua
 refine yoi F.slot_list_extend ⟨_,e,rfl⟩ F.entry_list_extend (F.args_list_extend_2 _ _)
  (AutoSeq1.list_extend_list_list_0 l its.toArray n b its2.toArray n2 hlong (by rw[yka];omega) (by omega)) ⟨e,e2,?_⟩
 refine⟨.non,_,I.lset (its':=its++its2) hH e (by simp) (r.append r2) ?_,rfl,q⟩;rw[yea];omega
def rCat:R2:=λx y H Q=>Ex4 λl b xs zs=>x = .ref l∧y = .ref b∧H l=some (.lst xs)∧H b=some (.lst zs)∧xs.length+zs.length≤yta∧∀p,H p=none->Q (.ref p) (upd H p (.lst (xs++zs)))
theorem zgt:OpR X (ykh .Add) rCat:=by
 intro pins s σ H x y v u Q I rx ry h;obtain⟨l,b,xs,zs,rfl,rfl,hH,hB,hz,q⟩:=h;cases rx;cases ry;obtain⟨z,its,n,r,hl,e⟩:=I.lstM hH;obtain⟨z2,its2,n2,r2,hl2,e2⟩:=I.lstM hB;refine PySem.P.add_list e e2 ?_ (by rw[yka,yka];omega);have ea:its.toArray++its2.toArray=(its++its2).toArray:=by simp
 rw[ea];exact⟨.ref _,_,I.lnew (t':=s.toks) (r.append r2) (by rw[yea];omega),rfl,q _ I.fresh⟩
def rRep:R2:=λx y H Q=>Ex3 λl k xs=>x = .ref l∧y = .int k∧H l=some (.lst xs) ∧ -(2 ^ 63)≤k∧k<2 ^ 63∧xs.length*k.toNat≤yta ∧
 ∀p,H p=none->Q (.ref p) (upd H p (.lst (yrc k.toNat xs).flatten))
theorem len_rep {α:Type}(xs:List α)(k:Nat):(yrc k xs).flatten.length=k*xs.length:=by
 induction k with
 | zero=>simp
 | succ k ih=>rw[yvf,yhd,yea,ih,Nat.succ_mul,Nat.add_comm]
theorem zrob:OpR X (ykh .Mult) rRep:=by
 intro pins s σ H x y v u Q I rx ry h;obtain⟨l,k,xs,rfl,rfl,hH,h1,h2,hz,q⟩:=h;cases rx;obtain⟨t,rfl⟩:=ry;obtain⟨z,its,n,r,hl,e⟩:=I.lstM hH;have hlen:its.toArray.size*k.toNat≤yta:=by rw[yka,← hl];exact hz
 have hcap:¬ its.toArray.size*k.toNat>(2 ^ 63-1) / 8:=by
  have:(yta:Nat)≤(2 ^ 63-1) / 8:=by decide
  omega
 have hfit:¬ (!Builtin.List.listFitsIndex k)=true:=by
  rw[fitsIndex_both h1 h2];exact yua
 have hlong:¬ ykf (its.toArray.size*k.toNat)=true:=by
  rw[zvbb hlen];exact yua
 have hnew:ygp (λx1 x2=>x1++x2) #[] (yrc (if its.toArray.isEmpty=true then 0 else k.toNat) its.toArray)=(yrc k.toNat its).flatten.toArray:=by
  have f0:∀m:Nat,ygp (λx1 x2=>x1++x2) #[] (yrc m its.toArray)=(yrc m its).flatten.toArray:=λm=>by
   have:=foldl_rep its m [];rw[yvl] at this;exact this
  rw[f0];cases its with
  | nil=>simp
  | cons a r'=>rw[if_neg (by simp)]
 refine wpAny_binaryOp_repeat_ref (T:="list") (U:="int") (by decide) ⟨_,e,rfl⟩ (λs'=>typeIs_int s' k t) noFill_list_mul F.fills_int_mul F.slot_int_rmul repeat_list F.slot_int_index.lookup
  (yoi F.slot_int_rmul (typeIs_int s k t) F.entry_int_rmul (F.args_int_rmul_2 _ _) (int___rmul___int_list k t l its.toArray n)
   ⟨e,rfl,⟨_,e,rfl⟩,yoi F.slot_list_mul ⟨_,e,rfl⟩ F.entry_list_mul (F.args_list_mul_2 _ _) (AutoListH.list___mul___list_int_3 l its.toArray n k t hfit hcap hlong) ⟨e,?_⟩⟩)
 rw[hnew];exact⟨.ref _,_,I.lnew (t':=s.toks) (r.rep k.toNat) (by rw[len_rep,Nat.mul_comm];exact hz),rfl,q _ I.fresh⟩
end
section
variable {prog:ytb}{w:World}{A:Around}{E:Value->Shared->Prop}{s:Shared}
end
section
variable {X:Cx}
end
end L2
namespace Att
open PySem PySem.W PySem.Calls PyProof.Rows
theorem zsr {P:Params}{h:Heap}:∀(ns:List Int) (vs:List Value),WellAll P h vs (ns.map WData.int)->yul vs ns:=by
 intro ns
 induction ns with
 | nil =>
  intro vs w;rw[ypf] at w;cases w;exact .nil
 | cons n ns ih =>
  intro vs w;rw[yva] at w;cases w with
  | cons a b =>
   cases a;exact .cons _ _ (ih _ b)
theorem zafb {l:OpenLaw}{n:Nat}(hn:l.most=some n){P:Params}{h:Heap}{args:List WData}{vals:List Value}
  (hpre:l.row.toRowW.claim.pre args=true) (hwl:WellAll P h vals args) :
  Ex3 λa vs ns=>vals=[Value.ref a]∧args=[WData.list (ns.map WData.int)]∧h.get? a=some { cls:=.type "list",data:=.seq vs.toArray }∧yul vs ns∧ns.length≤n:=by
 have hsh:WShape.hasAll [] args [.list .int]=true:=(pre_splitW hpre).1;have hc:l.pre.holds [] { args:=args }=true:=(pre_splitW hpre).2;obtain⟨d,r,rfl,h1,h2⟩:=hasAllW_cons hsh;obtain rfl:=hasAllW_nil h2;obtain⟨xs,rfl,h3⟩:=hasW_list h1;obtain⟨ns,rfl⟩:=items_int h3;have hlen:ns.length≤n:=by
  unfold OpenLaw.pre at hc;have h4:(WTm.not (.lt (.lit (.int (n:Int))) (.len (.arg 0)))).holds [] { args:=[.list (ns.map .int)] }=true:=by
   have h4:=(holds_andW hc).1;rw[hn] at h4;exact h4
  have h5:=condW_of h4 (w_not (w_lt w_lit (w_len_list (w_arg rfl))));rw[yda] at h5;refine Nat.le_of_not_lt λq=>?_;have q':(n:Int)<((ns.length:Nat):Int):=by omega
  first
   | (rw[decide_eq_true q'] at h5;exact absurd h5 (by decide))
   | (simp at h5;omega)
 cases hwl with
 | cons w1 w2 =>
  cases w2;cases w1 with
  | list ho hall=>exact⟨_,_,ns,rfl,rfl,ho,zsr ns _ hall,hlen⟩
theorem zlfb (l:OpenLaw)(args:List WData):l.row.toRowW.claim.post args (.bool true) args=true :=
 postW_of (r:=l.row.toRowW) (X:=(true==true))
  (show WShape.has [] (.bool true) .bool=true by first|rfl|decide|simp[WShape.has,WShape.arms,WShape.armsAll])
  (show (WTm.eq .res (.lit (.bool true))).value [] { args:=args,res:=some (.bool true),after:=args }=some (.bool (true==true)) from w_eq_bool (w_res rfl) w_lit) rfl
theorem ziab {l:OpenLaw}{n:Nat}{q:ytb}{loose:List Str}{XP:(Str->Option Value)->Heap->Prop}{YP:World->Heap->Prop}{d:DefRec}
  (hn:l.most=some n) (hdf:d.params.defaults=[])
  (call:∀(w:World) (s₀ s₁:Shared) (mg mb:Str->Option Value) (fa:Addr) (o:Obj) (pm cd doc:Value) (a:Addr) (vs:List Value) (ns:List Int),
   Ground q loose [] XP w s₀ mg mb s₁.heap->YP w s₁.heap →
   s₁.heap.get? fa=some o->o.data = .func (docDef d.name d.params d.body d.scope pm cd doc)->s₁.heap.CodeRec cd d.name->mg d.name=some (.ref fa) →
   s₁.heap.get? a=some { cls:=.type "list",data:=.seq vs.toArray }->yul vs ns->ns.length≤n->s₁.gens=#[] →
   yvi (model l.prog w) ytn (.call (.ref fa) ⟨[.ref a],[]⟩) (λr s'=>r = .ok (.ret (.bool true))∧OldK s₁.heap s'.heap∧s'.os=s₁.os∧yrm s'.gens) s₁) :
  WalkO q loose XP YP l.row.toRowW d [] (λf vs=>yhp f vs):=by
 intro w s₀ s₁ mg mb G Y fa o pm cd doc dV kV ho hd hcd hD hmg hg args vals as hpre hlay hrd hwl hlo;obtain rfl:dV = .none:=Dflts.none hD hdf;obtain rfl:kV = .none:=Dflts.noKw hD;obtain⟨a,vs,ns,rfl,rfl,hobj,hints,hlen⟩:=zafb hn hpre hwl;refine enter_call (yci (call w s₀ s₁ mg mb fa o pm cd doc a vs ns G Y ho (fd_plain hd) hcd hmg hobj hints hlen hg) λr s' hq=>?_);obtain⟨rfl,h2,h3,h4⟩:=hq;exact⟨.inl ⟨.bool true,.bool true,[],rfl,λ_=>rfl,.bool true,zlfb l _,λ_=>⟨List.Pairwise.nil,λ_ hm=>(nomatch hm)⟩⟩,h2,h3,h4⟩
section
variable {prog:ytb}{w:World}{A:Around}{E:Value->Shared->Prop}{s:Shared}{K:Frag}
end
end Att
namespace L2
open PySem PySem.Spec PyProof.Rows
theorem zzv:∀{vs:List Value} {ns:List Int},yul vs ns->Vals (ns.map V.int) vs
 | _,_,.nil=>.nil
 | _,_,.cons n t h=>.cons ⟨t,rfl⟩ (zzv h)
def Only (H:Hp):Prop:=∀b,H b=none∨Ex2 λo xs=>H b=some (.frz o (.lst xs))
theorem zajb {P:ytb}{w:World}{K:yba}{mg mb:Str->Option Value}{CX:CXT}{k:Nat}{fa a:Addr}{fd:ype}{x:Str}{sp:Sp}{s₁:Shared}{vs:List Value}{ns:List Int}
  (KX:K.In s₁.heap) (hns:s₁.heap.Ns yza mg) (hb:s₁.heap.Ns builtinsNs mb) (hbb:∀x:Str,x ≠ "__name__"->mb x=ydg x) (hlim:s₁.heap.NoLimit) (hg:s₁.gens=#[])
  (ha:s₁.heap.get? a=some { cls:=.type "list",data:=.seq vs.toArray }) (hi:yul vs ns) (hl:ns.length≤yta) (hr:Room k ytn)
  (F:∀base:Heap,K.In base->base.Ns yza mg->FnOk P w K mg base CX k fa fd [x] sp) (hbind:∀(s:Shared) (u:Value),yqn s fd ⟨[u],[]⟩ [(x,u)])
  (hsp:∀H:Hp,Only H->SqL K H a (ns.map V.int)->sp [.ref a] H (λv _=>v = .bl true) λ_ _ _=>False)
  (hCX:∀H e s',CX [] H s₁ (λ_ _ _=>False) e s'->False) :
  yvi (model P w) ytn (.call (.ref fa) ⟨[.ref a],[]⟩) (λr s'=>r = .ok (.ret (.bool true))∧OldK s₁.heap s'.heap∧s'.os=s₁.os∧yrm s'.gens) s₁:=by
 have rv:=zzv hi;have lenV:=hi.length;have core:∀H:Hp,Only H->SqL K H a (ns.map V.int)->HOk P w H s₁.heap->(∀b,H b≠none->b=a)->(H a≠none->K.lookup a=none) →
   yvi (model P w) ytn (.call (.ref fa) ⟨[.ref a],[]⟩) (λr s'=>r = .ok (.ret (.bool true))∧OldK s₁.heap s'.heap∧s'.os=s₁.os∧yrm s'.gens) s₁:=by
  intro H hO hS hok hA hK;have base_of:∀{b:Addr} {o:Obj},s₁.heap.get? b=some o->H b=none->(hidT s₁.heap H).get? b=some o:=λe n=>zgjb e n;have noA:∀{b:Addr} {o:Obj} {es:Array DictEntry} {ep:Nat},s₁.heap.get? b=some o->o.data = .dict es ep->H b=none:=λ{b o es ep} e d=>by
   cases q:H b with
   | none=>rfl
   | some u =>
    have e':b=a:=hA b (by rw[q];simp);subst e';rw[ha] at e;cases e;have d':Data.seq vs.toArray _=Data.dict es ep:=d;cases d'
  have nsK:∀{b:Addr} {m:Str->Option Value},s₁.heap.Ns b m->(hidT s₁.heap H).Ns b m:=λ{b m} ⟨o,es,ep,e,d,r⟩=>⟨o,es,ep,base_of e (noA e d),d,r⟩;have hKb:K.In (hidT s₁.heap H):=λb o e=>base_of (KX b o e) (by
   cases q:H b with
   | none=>rfl
   | some u =>
    have e':b=a:=hA b (by rw[q];simp);subst e';rw[hK (by rw[q];simp)] at e;cases e)
  have hM:Mod K mg (hidT s₁.heap H):=⟨hKb,nsK hns,⟨mb,nsK hb,hbb⟩,let ⟨mc,h1,h2⟩:=hlim;⟨mc,nsK h1,h2⟩⟩;have e0:Env0 P w K mg (hidT s₁.heap H) ytn [] s₁ H:=⟨rfl,hM,λb o e=>zgmb e,yql (zigb _ _),trivial,λb hb=>absurd (show b∈([]:List Addr) from hb) (by simp),hok,.of_eq hg⟩;refine yci ((F _ hKb (nsK hns)).run ytn [] s₁ H ⟨[.ref a],[]⟩ [.ref a] [.ref a] _ _ hr e0 (hbind s₁ (.ref a)) (.cons rfl .nil) (hsp H hO hS)) λr s' h=>?_;cases r with
  | error e=>exact (hCX H e s' h).elim
  | ok fl =>
   cases fl with
   | next=>exact yre h
   | brk=>exact yre h
   | cont=>exact yre h
   | ret u =>
    obtain⟨v,H',os,bare,un,hok',r',q⟩:=h;have q':v = .bl true:=q;subst q';obtain rfl:u=Value.bool true:=r';refine⟨rfl,OldK.of_keep λb o e=>?_,os,bare⟩;cases q:H b with
    | none=>exact un.keep b o e q (by intro z;exact absurd (show b∈([]:List Addr) from z) (by simp)) (by simp)
    | some u =>
     rcases hO b with z|⟨ob,xs,z⟩
     ·rw[q] at z;cases z
     ·have z2:=un.frzs b ob _ z;obtain⟨e1,_⟩:=hok b _ z;obtain⟨e2,_⟩:=hok' b _ z2;rw[e] at e1;cases e1;exact e2
 cases hk:K.lookup a with
 | some o =>
  have e:=KX a o hk;rw[ha] at e;cases e;refine core (λ_=>none) (λ_=>.inl rfl) (.inr ⟨_,vs.toArray,_,hk,rfl,rfl,rfl,by rw[yka,lenV];exact hl,by simpa using rv⟩) (λb u z=>by have z':(none:Option HO)=some u:=z;cases z') (λb z=>absurd rfl z) λz=>absurd rfl z
 | none =>
  refine core (λb=>if b=a then some (.frz { cls:=.type "list",data:=.seq vs.toArray } (.lst (ns.map V.int))) else none) (λb=>?_) (.inl (.inr ⟨{ cls:=.type "list",data:=.seq vs.toArray },if_pos rfl⟩)) (λb u z=>?_) (λb z=>?_) λ_=>hk
  ·by_cases hb:b=a
   ·exact .inr ⟨_,_,if_pos hb⟩
   ·exact .inl (if_neg hb)
  ·by_cases hb:b=a
   ·have z':=(if_pos hb).symm.trans z;cases z';subst hb;exact⟨ha,by rw[yda];exact hl,vs,_,rv,ha⟩
   ·have z':=(if_neg hb).symm.trans z;cases z'
  ·by_cases hb:b=a
   ·exact hb
   ·exact absurd (if_neg hb) z
end L2
namespace L2
open PySem PySem.Spec PyProof.Rows
theorem zskb {l:ywl}{n k:Nat}{q:ytb}{loose:List Str}{XP:(Str->Option Value)->Heap->Prop}{YP:World->Heap->Prop}{d:DefRec}{K:Params->yba}{CX:World->CXT}{sp:World->Sp}{x:Str}
  (hn:l.most=some n) (hn2:n≤yta) (hdf:d.params.defaults=[]) (hr:Room k ytn)
  (hY:∀(w:World) (h:Heap),YP w h->(K w.params).In h)
  (F:∀(w:World) (mg:Str->Option Value) (fa:Addr) (h:Heap),(K w.params).In h->h.Ns yza mg->mg d.name=some (.ref fa) →
   ∃fd:ype,(∀(s:Shared) (u:Value),yqn s fd ⟨[u],[]⟩ [(x,u)]) ∧
    ∀base:Heap,(K w.params).In base->base.Ns yza mg->FnOk l.prog w (K w.params) mg base (CX w) k fa fd [x] (sp w))
  (hsp:∀(w:World) (H:Hp) (a:Addr) (ns:List Int),ns.length≤n->Only H->SqL (K w.params) H a (ns.map V.int)->sp w [.ref a] H (λv _=>v = .bl true) λ_ _ _=>False)
  (hCX:∀(w:World) (H:Hp) (s:Shared) (e:Value) (s':Shared),CX w [] H s (λ_ _ _=>False) e s'->False) :
  yip q loose XP YP l.row.toRowW d [] (λf vs=>yhp f vs):=by
 refine Att.ziab hn hdf λw s₀ s₁ mg mb fa o pm cd doc a vs ns G Y ho hd hcd hmg hobj hints hlen hg=>?_;have KX:=hY w _ Y;obtain⟨fd,hb,hF⟩:=F w mg fa _ KX G.T.g hmg;exact zajb KX G.T.g G.T.b G.T.builtins G.T.nolimit hg hobj hints (yxa hlen hn2) hr hF hb (λH hO hS=>hsp w H a ns hlen hO hS) λH e s'=>hCX w H s₁ e s'
end L2
namespace L2
open PySem PySem.Spec PyProof.Rows
def inClass (s:Stmt)(j:Nat):Stmt:=match s with
 | .ClassDef _ _ _ body _ _ _ _ _ _ _=>body.getD j (.Pass ⟨0,0,0,0⟩)
 | _=>.Pass ⟨0,0,0,0⟩
def zol (s:Stmt):Arguments:=match s with
 | .FunctionDef _ a _ _ _ _ _ _ _ _=>a
 | _=>{ posonlyargs:=[],args:=[],vararg:=none,kwonlyargs:=[],kw_defaults:=[],kwarg:=none,defaults:=[] }
def zkh (s:Stmt):List Stmt:=match s with
 | .FunctionDef _ _ b _ _ _ _ _ _ _=>b
 | _=>[]
def zla (s:Stmt):Scope:=match s with
 | .FunctionDef _ _ _ _ _ _ sc _ _ _=>sc
 | _=>{ kind:=.function,names:=[],isGenerator:=false,isCoroutine:=false }
abbrev CX0:CXT:=λ_ _ _ _ _ _=>False
abbrev E0:XK:=λ_ _ _=>False
theorem zta {X:Cx}:Passes CX0 X E0:=λ_ _ _ _ _ _ _ h=>h.elim
structure Fun (K:yba)(x qual:Str)(st:Stmt)(f:Addr)(fd:ype):Prop where
 ex:Ex9 λ(oc:Value) (od:Option Addr) (kV doc pm:Value) (an:Option Addr) (cdv ct:Value) (osl:Array (Option Value)) =>
  fd=ynf x qual (zol st) (zkh st) (zla st) .none kV doc pm an cdv ct∧K.lookup f=some ⟨oc,od,.func fd,osl⟩∧yvg K cdv qual=true
 kp:yee K (.ref f)=true
section
variable {P:ytb}{w:World}{K:yba}{mg:Str->Option Value}{base:Heap}
theorem Fun.ok {x qual:Str}{st:Stmt}{f:Addr}{fd:ype}{N ps:List Str}{k:Nat}{sp:Sp}(F:Fun K x qual st f fd)(S:zxa N ps (zla st))(len:∀vs H Q E,sp vs H Q E->vs.length=ps.length)
  (hbody:∀(cdv:Value) (A:Around) (outer:List Env) (s:Shared) (H:Hp) (vs:List V) (Q:VK) (E:XK),Room k (A.deeper (envOfC qual (zla st) s.heap.objs.size f cdv))->sp vs H Q E →
   ∃t,PSs (cxOf CX0 P w K mg base N qual (zla st) f cdv A outer s H E).nox (zkh st) t∧t { nx:=λ_ H'=>Q .non H',rt:=Q } (start N vs) H):FnOk P w K mg base CX0 (k+1) f fd ps sp:=by
 obtain⟨oc,od,kV,doc,pm,an,cdv,ct,osl,rfl,lk,hcd⟩:=F.ex;refine zirb lk hcd S len λA outer s H vs Q E hr hsp=>?_;obtain⟨t,h,q⟩:=hbody cdv A outer s H vs Q E hr hsp;exact⟨t,h.nox,q⟩
theorem Fun.binds {x qual:Str}{st:Stmt}{f:Addr}{fd:ype}{ps:List Str}(F:Fun K x qual st f fd)
  (h:∀(kV doc pm:Value) (an:Option Addr) (cdv ct:Value) (us:List Value),us.length=ps.length->bindArgs (ynf x qual (zol st) (zkh st) (zla st) .none kV doc pm an cdv ct) ⟨us,[]⟩=pure (ps.zip us)):Binds K fd ps []:=by
 obtain⟨oc,od,kV,doc,pm,an,cdv,ct,osl,rfl,lk,hcd⟩:=F.ex;exact .all (h kV doc pm an cdv ct)
theorem zlgb {x qual:Str}{st:Stmt}{f:Addr}{oc:Value}{od an:Option Addr}{osl:Array (Option Value)}{kV doc pm cdv ct:Value}(l:K.lookup f=some ⟨oc,od,.func (ynf x qual (zol st) (zkh st) (zla st) .none kV doc pm an cdv ct),osl⟩)
  (c:yvg K cdv qual=true) (k:yee K (.ref f)=true):Fun K x qual st f (ynf x qual (zol st) (zkh st) (zla st) .none kV doc pm an cdv ct):=⟨⟨oc,od,kV,doc,pm,an,cdv,ct,osl,rfl,l,c⟩,k⟩
end
theorem zpc {n:Nat}(h:n≤1000):n<yta:=Nat.lt_of_le_of_lt h (by decide)
section
variable {X:Cx}
theorem pv (i:Nat){x:Str}{pos:Pos}(hN:X.N[i]?=some x:=by rfl)(hv:Vis X.env.scope x:=by first|exact Or.inl rfl|exact Or.inr (Or.inl rfl)|exact Or.inr (Or.inr rfl))(hd:(x==("__debug__":Str))=false:=by decide)
  (hcd:(x==("__classdict__":Str))=false:=by decide):PE X (.Name x pos) (tVar i):=zpob hN hv hd hcd
end
theorem iteF {A B:Prop}(h:B):if false=true then A else B:=by
 rw[if_neg yua];exact h
theorem iteT {A B:Prop}(h:A):if true=true then A else B:=by
 rw[if_pos rfl];exact h
theorem ite2 {c A B:Prop}[Decidable c](h1:c->A)(h2:¬ c->B):if c then A else B:=by
 by_cases h:c
 ·rw[if_pos h];exact h1 h
 ·rw[if_neg h];exact h2 h
def Same (H H':Hp):Prop:=∀b o,H b=some o->H' b=some o
theorem Same.refl (H:Hp):Same H H:=λ_ _ h=>h
theorem Same.trans {H H1 H2:Hp}(a:Same H H1)(b:Same H1 H2):Same H H2:=λc o h=>b c o (a c o h)
end L2
namespace L2
open PySem PySem.Spec PyProof.Rows
def clGo (cells:List (Str×Addr)):List (Str×yjc)->List (Str×Addr)->List (Str×Addr)
 | [],cs=>cs
 | (n,k)::r,cs=>clGo cells r (if k == .free then (match cells.lookup n with|some c=>(n,c)::cs|none=>cs) else cs)
def clOf (sc:Scope)(cells:List (Str×Addr)):List (Str×Addr):=clGo cells sc.names []
theorem ztt {sc:Scope}{env:Env}(h:∀y∈sc.names,y.2 = .free->∃c,env.cells.lookup y.1=some c):closureFor sc env=pure (clOf sc env.cells):=by
 have go:∀(l:List (Str×yjc)) (cs:List (Str×Addr)),(∀y∈l,y.2 = .free->∃c,env.cells.lookup y.1=some c) →
   (forIn l cs (λ(x:Str×yjc) (r:List (Str×Addr))=>(match x with|(name,kind)=>if kind==yjc.free then (do let c ← cellOf env name;pure (ForInStep.yield ((name,c)::r))) else pure (ForInStep.yield r):Sem (ForInStep (List (Str×Addr))))))=pure (clGo env.cells l cs):=by
  intro l
  induction l with
  | nil=>intro cs _;rfl
  | cons y r ih =>
   intro cs h;obtain⟨n,k⟩:=y;have hr:∀y∈r,y.2 = .free->∃c,env.cells.lookup y.1=some c:=λy hy=>h y (yna _ hy);rw[List.forIn_cons]
   by_cases hk:k = .free
   ·subst hk;obtain⟨c,e⟩:=h (n,.free) yia rfl;have e':env.cells.lookup n=some c:=e;simp only[beq_self_eq_true,if_true,cellOf,e',pure_bind,clGo];exact ih _ hr
   ·have hb:(k==yjc.free)=false:=by simpa using hk
    simp only[hb,yxd,if_false,pure_bind,clGo];exact ih _ hr
 unfold closureFor clOf;refine Eq.trans (bind_pure _) ?_;exact go sc.names [] h
theorem zdq {cells:List (Str×Addr)}:∀(l:List (Str×yjc)) (cs:List (Str×Addr)),(∀x c,cs.lookup x=some c->cells.lookup x=some c)->∀x c,(clGo cells l cs).lookup x=some c->cells.lookup x=some c
 | [],_,h,x,c,e=>h x c e
 | (n,k)::r,cs,h,x,c,e=>by
  refine zdq r _ (λy d z=>?_) x c e
  by_cases hk:(k==yjc.free)=true
  ·rw[if_pos hk] at z;cases q:cells.lookup n with
   | none=>rw[q] at z;exact h y d z
   | some a =>
    rw[q] at z;have z':yqd y ((n,a)::cs)=some d:=z;rw[yzd] at z';cases hy:y==n with
    | true =>
     rw[hy] at z';have ey:y=n:=(by simpa using hy);rw[ey,q];exact z'
    | false =>
     rw[hy] at z';exact h y d z'
  ·rw[if_neg hk] at z;exact h y d z
theorem zlcb {cells:List (Str×Addr)}:∀(l:List (Str×yjc)) (cs:List (Str×Addr)) (x:Str),((x,yjc.free)∈l∧(∃c,cells.lookup x=some c))∨(∃c,cs.lookup x=some c)->∃c,(clGo cells l cs).lookup x=some c
 | [],cs,x,h=>by
  rcases h with⟨h,_⟩|h
  ·cases h
  ·exact h
 | (n,k)::r,cs,x,h=>by
  refine zlcb r _ x ?_;have put:(∃c,cs.lookup x=some c)->∃c,(if (k==yjc.free)=true then (match cells.lookup n with|some c=>(n,c)::cs|none=>cs) else cs).lookup x=some c:=λ⟨c,e⟩=>by
   by_cases hk:(k==yjc.free)=true
   ·rw[if_pos hk];cases q:cells.lookup n with
    | none=>exact⟨c,e⟩
    | some a =>
     show ∃c,yqd x ((n,a)::cs)=some c
     rw[yzd];cases hy:x==n with
     | true=>exact⟨a,rfl⟩
     | false=>exact⟨c,e⟩
   ·rw[if_neg hk];exact⟨c,e⟩
  rcases h with⟨h,c,e⟩|h
  ·rcases yha.mp h with z|z
   ·injection z with z1 z2
    subst z1;subst z2;refine .inr ⟨c,?_⟩;show yqd x (match cells.lookup x with|some c=>(x,c)::cs|none=>cs)=some c
    rw[e];show yqd x ((x,c)::cs)=some c
    rw[yzd,beq_self_eq_true]
   ·exact .inl ⟨z,c,e⟩
  ·exact .inr (put h)
theorem zgp {env:Env}:∀{l:List (Str×yjc)} {x:Str},(∀y∈l,y.2≠yjc.cell) →
  ((l.map λ(n,k)=>if (k==yjc.free&&env.scope.kind == .function&&env.kindOf n==some .cell) then (n,yjc.cell) else (n,k)).lookup x=some .cell ∨
   (l.map λ(n,k)=>if (k==yjc.free&&env.scope.kind == .function&&env.kindOf n==some .cell) then (n,yjc.cell) else (n,k)).lookup x=some .free)->(x,yjc.free)∈l
 | [],x,_,h=>by rcases h with h|h<;>simp at h
 | (n,k)::r,x,hc,h=>by
  rw[yva] at h;have nk:k≠yjc.cell:=hc (n,k) yia
  by_cases hx:x=n
  ·subst hx;have kf:k = .free:=by
    by_cases q:(k==yjc.free&&env.scope.kind == .function&&env.kindOf x==some .cell)=true
    ·rw[yhc,yhc] at q
     simpa using q.1.1
    ·have e:(match (x,k) with|(n,k)=>if (k==yjc.free&&env.scope.kind == .function&&env.kindOf n==some .cell)=true then (n,yjc.cell) else (n,k))=(x,k):=if_neg q;rw[e,yzd,beq_self_eq_true] at h
     rcases h with h|h
     ·exact absurd (yfc h) nk
     ·exact yfc h
   subst kf;exact yia
  ·refine yna _ (zgp (env:=env) (λy hy=>hc y (yna _ hy)) ?_);have hb:(x==n)=false:=by simpa using hx
   by_cases q:(k==yjc.free&&env.scope.kind == .function&&env.kindOf n==some .cell)=true
   ·have e:(match (n,k) with|(n,k)=>if (k==yjc.free&&env.scope.kind == .function&&env.kindOf n==some .cell)=true then (n,yjc.cell) else (n,k))=(n,yjc.cell):=if_pos q;rw[e,yzd,hb] at h;exact h
   ·have e:(match (n,k) with|(n,k)=>if (k==yjc.free&&env.scope.kind == .function&&env.kindOf n==some .cell)=true then (n,yjc.cell) else (n,k))=(n,k):=if_neg q;rw[e,yzd,hb] at h;exact h
def blk (X:Cx)(N':List Str)(sc:Scope)(fp:List Addr)(s:Shared)(H:Hp)(C:Addr):Cx where
 prog:=X.prog
 w:=X.w
 K:=X.K
 mg:=X.mg
 base:=X.base
 A:=X.A
 N:=N'
 s₀:=s
 H₀:=H
 env:=compEnvC sc (clOf sc X.env.cells) C X.env
 outer:=X.stack
 stack:=X.stack
 ex:=fp
 fn:=λ_=>false
 calm:=X.calm
 pn:=[]
 xe:=λ_ _=>False
inductive Caps (X:Cx)(sc:Scope):List Str->List Nat->Prop where
 | nil:Caps X sc [] []
 | cons {x:Str} {j:Nat} {cap:List Str} {js:List Nat} (hj:X.N[j]?=some x) (hk:X.env.kindOf x=some .cell∨X.env.kindOf x=some .free)
   (hr:(yun sc X.env).names.lookup x=some .cell∨(yun sc X.env).names.lookup x=some .free):Caps X sc cap js->Caps X sc (x::cap) (j::js)
structure zkc (X:Cx)(sc:Scope):Prop where
 kind:sc.kind = .function
 cell:∀y∈sc.names,y.2 ≠ .cell
 names:∀y∈sc.names,y.2 = .local->sc.names.lookup y.1=some .local
 free:∀y∈sc.names,y.2 = .free->X.env.kindOf y.1=some .cell∨X.env.kindOf y.1=some .free
def zeqb (sc:Scope)(nm:List (Str×yjc)):Bool:=sc.names.all λy=>y.2 != .cell&&(y.2 != .local||sc.names.lookup y.1==some .local)&&(y.2 != .free||(nm.lookup y.1==some .cell||nm.lookup y.1==some .free))
theorem zkc.chk {X:Cx}{sc:Scope}(hk:sc.kind = .function)(h:zeqb sc X.env.scope.names=true):zkc X sc:=by
 have a:=yue.mp h;refine⟨hk,λy hy e=>?_,λy hy e=>?_,λy hy e=>?_⟩
 ·have q:=a y hy;rw[e] at q;simp at q
 ·have q:=a y hy;rw[e] at q
  simpa using q
 ·have q:=a y hy;rw[e] at q;have q':X.env.scope.names.lookup y.1=some .cell∨X.env.scope.names.lookup y.1=some .free:=by simpa using q
  exact q'
def ztf (n:Nat)(js:List Nat)(σ:St):St:=yrc n none++js.map λj=>(σ[j]?).join
theorem Caps.len {X:Cx}{sc:Scope}:∀{cap:List Str} {js:List Nat},Caps X sc cap js->cap.length=js.length
 | _,_,.nil=>rfl
 | _,_,.cons _ _ _ c=>by rw[yga,yga,c.len]
theorem Caps.get {X:Cx}{sc:Scope}:∀{cap:List Str} {js:List Nat},Caps X sc cap js->∀{i:Nat} {x:Str},cap[i]?=some x →
  ∃j,js[i]?=some j∧X.N[j]?=some x∧(X.env.kindOf x=some .cell∨X.env.kindOf x=some .free)∧((yun sc X.env).names.lookup x=some .cell∨(yun sc X.env).names.lookup x=some .free)
 | _,_,.nil,i,x,e=>by simp at e
 | _,_,.cons hj hk hr c,0,x,e=>by
  rw[ybe] at e;cases e;exact⟨_,rfl,hj,hk,hr⟩
 | _,_,.cons hj hk hr c,i+1,x,e=>by
  rw[yyb] at e;obtain⟨j,h1,h2⟩:=c.get e;exact⟨j,by rw[yyb];exact h1,h2⟩
theorem zchb {X:Cx}{sc:Scope}{own cap:List Str}{js:List Nat}{σ:St}(C:Caps X sc cap js):(ztf own.length js σ).length=(own++cap).length:=by
 unfold ztf;rw[yea,yfg,yda,yea,C.len]
theorem zay {n:Nat}{js:List Nat}{σ:St}{i:Nat}{v:V}(e:(ztf n js σ)[i]?=some (some v)):n≤i∧∃j,js[i-n]?=some j∧σ[j]?=some (some v):=by
 unfold ztf at e
 by_cases h:i<n
 ·rw[ytd (by simpa using h),yvk,if_pos h] at e;cases e
 ·refine⟨by omega,?_⟩;rw[yec (by rw[yfg];omega),yfg,yvb] at e;cases q:js[i-n]? with
  | none=>rw[q] at e;cases e
  | some j =>
   rw[q] at e;have e':(σ[j]?).join=some v:=yfc e;refine⟨j,rfl,?_⟩;cases z:σ[j]? with
   | none=>rw[z] at e';cases e'
   | some o =>
    rw[z] at e';have e2:o=some v:=e';rw[e2]
theorem zvt {n:Nat}{js:List Nat}{σ σ2:St}(hd:σ2.drop n=(ztf n js σ).drop n){i:Nat}{v:V}(e:(ztf n js σ)[i]?=some (some v)):σ2[i]?=some (some v):=by
 have h:=(zay e).1;have q:(σ2.drop n)[i-n]?=((ztf n js σ).drop n)[i-n]?:=by rw[hd]
 rw[yxe,yxe,show n+(i-n)=i by omega] at q;rw[q];exact e
def PTs (X:Cx)(ifs:List Expr)(t:TT):Prop :=
 ∀(pins:List (Addr×Obj)) (s:Shared) (σ:St) (H:Hp) (Q:Bool->Hp->Prop),Inv X pins σ H s->t σ H Q →
  wpAny (model X.prog X.w) X.A (forIn ifs true λc r=>if r=true then do let ok ← isTrue c X.env (eval c X.env);pure (ForInStep.yield ok) else pure (ForInStep.yield r)) (TP X pins σ Q) X.xe s
def zsnb:TT:=λ_ H Q=>Q true H
theorem zxn {X:Cx}:PTs X [] zsnb:=λ_ _ _ H _ I h=>wpAny_tests_nil ⟨H,I,h⟩
theorem zpi {X:Cx}{c:Expr}{t:TT}(hc:PT X c t):PTs X [c] t:=λpins s σ H Q I h=>wpAny_tests_one (hc pins s σ H Q I h)
theorem zwx {prog:ytb}{w:World}{A:Around}{R:Result->Shared->Prop}{s:Shared}{elt tg iter:Expr}{ifs:List Expr}{scope:Scope}{pos:Pos}{it acc:Value}{env:Env}(I:Nat->Shared->Prop)
  (turn:∀n s,I n s->wpAny (model prog w) A (pyNext it) (λr s₁=>match r with
   | none=>R (.ok .next) s₁
   | some v=>wpAny (model prog w) A (ysi tg it v) (λ_ s₀=>wpAny (model prog w) A (assign tg env v) (λ_ s₂ =>
     wpAny (model prog w) A (forIn ifs true λc r=>if r=true then do let ok ← isTrue c env (eval c env);pure (ForInStep.yield ok) else pure (ForInStep.yield r)) (λok s₃ =>
      if ok=true then wpAny (model prog w) A (eval elt env) (λx s₄ =>
       wpAny (model prog w) A (call (.builtin "list.append") [acc,x]) (λ_ s₅=>∃m,m<n∧I m s₅) (yso (model prog w) A env λe s'=>R (.error e) s') s₄) (yso (model prog w) A env λe s'=>R (.error e) s') s₃
      else ∃m,m<n∧I m s₃) (yso (model prog w) A env λe s'=>R (.error e) s') s₂) (yso (model prog w) A env λe s'=>R (.error e) s') s₀) (yso (model prog w) A env λe s'=>R (.error e) s') s₁)
    (yso (model prog w) A env λe s'=>R (.error e) s') s)
  (n:Nat) (h:I n s) :
  yvi (model prog w) A (.compLoop (.ListComp elt [⟨tg,iter,ifs,0⟩] scope pos) 0 it acc env) R s:=by
 refine codeAny_loop rfl I (λn s hI=>?_) n h;show wpAny _ A ((compTurn (.ListComp elt [⟨tg,iter,ifs,0⟩] scope pos) 0 it acc env).onRaise (λx=>do noteFrame x env;theTreesLotGoes x)) _ _ s
 refine wpAny_noted ?_;rw[compTurn_list];refine yaa (ysk (yaa (ymd (turn n s hI) (λr s₁ h₁=>?_) λ_ _ h'=>h')));cases r with
 | none=>exact yfa h₁
 | some v =>
  refine yaa (ymd h₁ (λ_ s₀ h₀=>?_) λ_ _ h'=>h');refine yaa (ymd h₀ (λ_ s₂ h₂=>yaa (ymd h₂ (λok s₃ h₃=>?_) λ_ _ h'=>h')) λ_ _ h'=>h');cases ok with
  | false=>exact yfa ⟨rfl,h₃⟩
  | true =>
   exact yaa (yaa (ymd h₃ (λx s₄ h₄=>yaa (ymd h₄ (λ_ s₅ h₅=>yfa (yfa ⟨rfl,h₅⟩)) λ_ _ h'=>h')) λ_ _ h'=>h'))
def zdbb (J:It)(H1:Hp)(g:TG)(tt:TT)(te:TE)(n:Nat)(js:List Nat)(σ:St)(Q:VK):Prop:=∃W:Nat->Nat->List V->Hp->Prop,(∃m,W 0 m [] H1)∧∀i m ys H,W i m ys H →
 (J.stop i H∧ys.length≤yta∧∀p,H p=none->Q (.ref p) (upd H p (.lst ys))) ∨
 (J.go i H∧ys.length≤yta∧∃N:List V->Hp->Prop,(∀ys' H',N ys' H'->∃m',m'<m∧W (i+1) m' ys' H')∧∀x H',J.yld i H x H'->g x (ztf n js σ) H' fun σ2 H2=>σ2.drop n=(ztf n js σ).drop n∧tt σ2 H2 λb H3 =>
  if b=true then te σ2 H3 λy H4=>N (ys++[y]) H4 else N ys H3)
def zwnb (wi:TI)(g:TG)(tt:TT)(te:TE)(n:Nat)(js:List Nat):TE:=fun σ H Q=>wi σ H λJ H1=>zdbb J H1 g tt te n js σ Q
section
variable {X:Cx}
theorem Vals.snoc {xs:List V}{us:List Value}{x:V}{u:Value}(r:Vals xs us)(q:RelV x u):Vals (xs++[x]) (us++[u]):=r.append (.cons q .nil)
theorem zzgb {pins:List (Addr×Obj)}{σ:St}{H:Hp}{s s3:Shared}{sc:Scope}{own cap:List Str}{js:List Nat}{fp:List Addr}{C:Addr}{tn:Nat->Heap->Prop}{h₁:Heap}{tk:Nat}{m:Str->Option Value}(I:Inv X pins σ H s)(S:zkc X sc)(cp:Caps X sc cap js)
  (hob:∀b∈fp,∃o,s.heap.get? b=some o∧∀v,o.data ≠ .cell v) (hf:∀b∈fp,FpOk X pins H b) (hC:s.heap.objs.size≤C) (hn:h₁.Ns C m) (old:∀b o,s.heap.get? b=some o->h₁.get? b=some o) :
  Inv (blk X (own++cap) sc fp s H C) [] (ztf own.length js σ) H { s with heap:=h₁,toks:=tk }:=by
 have sub:∀x c,(clOf sc X.env.cells).lookup x=some c->X.env.cells.lookup x=some c:=zdq sc.names [] (λx c e=>by simp at e);have has:∀x,((yun sc X.env).names.lookup x=some .cell∨(yun sc X.env).names.lookup x=some .free)->∃c,(clOf sc X.env.cells).lookup x=some c:=λx hx=>by
  have hm:=zgp (env:=X.env) (l:=sc.names) (x:=x) S.cell hx;exact zlcb sc.names [] x (.inl ⟨hm,I.ok.has x (S.free _ hm rfl)⟩)
 refine⟨⟨I.ok.mod,S.kind,I.ok.glob,I.ok.blt,hC,λx y c e1 e2=>I.ok.inj x y c (sub x c e1) (sub y c e2),has,(λx c e=>by cases e),I.ok.hd,I.ok.frames,.inl rfl,λb hb=>?_,I.bs,yxa I.ok.bsz I.sz,λb o e hb=>?_,λb hb z=>?_,I.stack,I.zpeb⟩,
  rfl,I.bare,Un.kept old,⟨m,hn,λi x v h1 h2 h3=>?_⟩,λx c e=>?_,I.hok.fresh hC,λx c e=>I.freeC x c (sub x c e),λp hp=>absurd (show p∈([]:List (Addr×Obj)) from hp) (by simp),I.hok.kept old,zchb cp⟩
 ·obtain⟨o,e,_⟩:=hob b hb;refine⟨yeb (ypa (yqa e) hC),λx c e=>?_⟩;exact (hf b hb).2.2.2.2.1 x c (sub x c e)
 ·obtain⟨_,_,_,h4,_,_⟩:=hf b hb
  rcases h4 with z|z
  ·exact I.ok.noex b o e z
  ·exact absurd (ypa (yqa e) (yxa I.ok.bsz z)) (ysd _)
 ·obtain⟨_,h2,h3,_⟩:=hf b hb
  rcases yha.mp (I.zkbb b z) with q|q
  ·exact h2 q
  ·exact h3 q
 ·obtain⟨hni,j,hj,hv⟩:=zay h2;have h1':(own++cap)[i]?=some x:=h1;rw[yec hni] at h1';obtain⟨j',e1,e2,e3,e4⟩:=cp.get h1';rw[hj] at e1;cases e1;obtain⟨m0,hn0,hl0⟩:=I.loc;have vis:Vis X.env.scope x:=.inr e3;obtain⟨u,ru,lk⟩:=hl0 j x v e2 hv vis;refine⟨u,ru,?_⟩
  rcases lk with⟨k,_⟩|⟨k,c,ec,hc⟩
  ·exfalso
   rcases e3 with q|q
   ·rw[q] at k;cases k
   ·rw[q] at k;cases k
  ·obtain⟨c',ec'⟩:=has x e4;have q:=sub x c' ec';rw[ec] at q;cases q;exact .inr ⟨e4,c,ec',hc.keeps old⟩
 ·obtain⟨v,z⟩:=I.cell x c (sub x c e);exact⟨v,z.keeps old⟩
theorem zbhb {pins pn:List (Addr×Obj)}{σ σ':St}{H H':Hp}{s s':Shared}{sc:Scope}{N':List Str}{fp:List Addr}{C D:Addr}{h':Heap}{ys:List V}{its:List Value}{nn:Nat}(I:Inv X pins σ H s)(J:Inv (blk X N' sc fp s H C) pn σ' H' s')
  (hf:∀b∈fp,FpOk X pins H b) (hC:s.heap.objs.size≤C) (hD:s.heap.objs.size≤D) (hDC:D≠C) (hn:H' D=none) (ho:s'.heap.get? D=some { cls:=.type "list",data:=.seq its.toArray nn }) (hz:ys.length≤yta) (rv:Vals ys its)
  (hs:ywc C s'.heap h'):Inv X pins σ (upd H' D (.lst ys)) { s' with heap:=h' }:=by
 have u:Un (frs X.stack) fp H H' s.heap s'.heap:=J.base;have low:∀b o,s.heap.get? b=some o->b≠C∧b≠D:=λb o e=>⟨yeb (ypa (yqa e) hC),yeb (ypa (yqa e) hD)⟩;have kp:∀b o,b≠C->s'.heap.get? b=some o->h'.get? b=some o:=λb o hb e=>(hs.2 b hb).trans e;have u2:Un (frs X.stack) fp H (upd H' D (.lst ys)) s.heap h':=by
  refine⟨λb o e n hb hx=>kp b o (low b o e).1 (u.keep b o e n hb hx),λb o e n hb hx=>?_,λb o e n hx=>?_,λb o e hx=>?_,λb xs e=>?_,λb o xs e=>?_,λb ps e=>?_⟩
  ·obtain⟨sl,q⟩:=u.slot b o e n hb hx;exact⟨sl,kp b _ (low b o e).1 q⟩
  ·rw[zva (low b o e).2];exact u.free b o e n hx
  ·obtain⟨o',q⟩:=u.there b o e hx;exact⟨o',kp b _ (low b o e).1 q⟩
  ·have q:=u.tups b xs e;rw[zva (zka q hn)];exact q
  ·have q:=u.frzs b o xs e;rw[zva (zka q hn)];exact q
  ·obtain⟨more,q⟩:=u.tbls b ps e;exact⟨more,by rw[zva (zka q hn)];exact q⟩
 have nC:H' C=none:=J.free;have hok:HOk X.prog X.w (upd H' D (.lst ys)) h':=λb o e=>by
  by_cases hb:b=D
  ·subst hb;rw[zga] at e;cases e;exact⟨hz,its,nn,rv,kp b _ hDC ho⟩
  ·rw[zva hb] at e;refine (J.hok b o e).stay (λc v hc q=>kp c v ?_ q) (λc q=>?_) λc xs q=>?_
   ·rintro rfl
    rcases hc with z|z
    ·rw[← z,nC] at e;cases e
    ·rw[nC] at z;cases z
   ·rw[zva (zka q hn)];exact q
   ·rw[zva (zka q hn)];exact q
 have os:=J.os;have bare:=J.bare;obtain⟨hh,g,d,t,os'⟩:=s';obtain rfl:os'=s.os:=os;have z:=I.call (h':=h') (g':=g) (d':=d) (t':=t) (ch:=fp) u2 hok bare λb hb=>⟨(hf b hb).2.2.2.1,(hf b hb).2.1,(hf b hb).2.2.2.2.1,(hf b hb).2.2.2.2.2⟩;exact z
theorem zahb {elt iter tg:Expr}{ifs:List Expr}{sc:Scope}{pos:Pos}{own cap:List Str}{js:List Nat}{g:TG}{tt:TT}{te:TE}{Qf:List V->Hp->Prop}{RR:Value->Addr->Result->Shared->Prop}{E:Value->Shared->Prop}
  {pins:List (Addr×Obj)} {σ:St} {H2:Hp} {s2:Shared} {it:Addr} {fp:List Addr} {tn:Nat->Heap->Prop} {J:It} {W:Nat->Nat->List V->Hp->Prop} {m0:Nat}
  (hc:X.calm=true) (S:zkc X sc) (cp:Caps X sc cap js)
  (hg:∀fp s H C,PG (blk X (own++cap) sc fp s H C) tg g) (ht:∀fp s H C,PTs (blk X (own++cap) sc fp s H C) ifs tt) (he:∀fp s H C,PE (blk X (own++cap) sc fp s H C) elt te)
  (I2:Inv X pins σ H2 s2) (T:Turn X.prog X.w X.K tg J fp it tn) (st2:tn 0 s2.heap) (f2:∀b∈fp,FpOk X pins H2 b) (w0:W 0 m0 [] H2)
  (turn:∀i m ys H,W i m ys H->(J.stop i H∧ys.length≤yta∧Qf ys H) ∨
   (J.go i H∧ys.length≤yta∧∃N:List V->Hp->Prop,(∀ys' H',N ys' H'->∃m',m'<m∧W (i+1) m' ys' H')∧∀x H',J.yld i H x H'->g x (ztf own.length js σ) H' fun σ2 H2=>σ2.drop own.length=(ztf own.length js σ).drop own.length∧tt σ2 H2 λb H3 =>
    if b=true then te σ2 H3 λy H4=>N (ys++[y]) H4 else N ys H3))
  (hRR:∀D C H4 s4 pn ys its nn,s2.heap.objs.size≤D->s2.heap.objs.size≤C->D≠C->Inv (blk X (own++cap) sc fp s2 H2 C) pn (ztf own.length js σ) H4 s4->H4 D=none->s4.heap.get? D=some { cls:=.type "list",data:=.seq its.toArray nn } →
   ys.length≤yta->Vals ys its->Qf ys H4->RR (.ref D) C (.ok .next) s4) :
  wpAny (model X.prog X.w) X.A (newList []) (λacc s₃=>wpAny (model X.prog X.w) X.A (newFunctionEnv sc X.env.globals (clOf sc X.env.cells) [] X.env.qual none .none (some X.env)) (λcenv s₄ =>
   yvi (model X.prog X.w) X.A (.compStart (.ListComp elt [⟨tg,iter,ifs,0⟩] sc pos) 0 (.ref it) acc { cenv with scope:=yun sc X.env }) (RR acc cenv.locals) s₄) E s₃) E s2:=by
 refine ytc (wpAny_newFunctionEnv S.cell (by intro y hy;simp at hy) (λh₁ hns₁ hsb₁=>?_) S.kind);dsimp only at hns₁ hsb₁ ⊢;generalize hH2:s2.heap.push { cls:=.type "list",dict:=none,data:=.seq ([]:List Value).toArray }=HH at hns₁ hsb₁ ⊢;generalize hDd:s2.heap.objs.size=D at hns₁ hsb₁ ⊢;generalize hCc:HH.objs.size=C at hns₁ hsb₁ ⊢;have hC:C=D+1:=by rw[← hCc,← hH2,ybf,hDd]
 have hDC:D≠C:=by rw[hC];exact yeb (ybh _)
 have hCle:s2.heap.objs.size≤C:=by rw[hDd,hC];exact ytf _
 have hDle:s2.heap.objs.size≤D:=yql hDd;have below:∀b,b<s2.heap.objs.size->b≠C∧b≠D:=λb hb=>⟨yeb (ypa hb hCle),yeb (ypa hb hDle)⟩;have old:∀b o,s2.heap.get? b=some o->h₁.get? b=some o:=λb o e=>hsb₁.extBut b o (below b (yqa e)).1 (yca _ (hH2▸yca _ e));have q0:HH.get? D=some { cls:=.type "list",data:=.seq ([]:List Value).toArray 0 }:=by
  rw[← hH2,← hDd];exact yoa _ rfl
 have hacc:h₁.get? D=some { cls:=.type "list",data:=.seq ([]:List Value).toArray 0 }:=hsb₁.extBut _ _ hDC (yca _ q0);have fpo:=T.obj 0 _ st2;have fplt:∀b∈fp,b<s2.heap.objs.size:=λb hb=>by obtain⟨o,e,_⟩:=fpo b hb;exact yqa e
 have st3:tn 0 h₁:=T.keep 0 _ _ st2 λb hb o e=>old b o e;have I3:∀tk,Inv (blk X (own++cap) sc fp s2 H2 C) [] (ztf own.length js σ) H2 { s2 with heap:=h₁,toks:=tk }:=λtk=>zzgb (s3:=s2) (tn:=tn) I2 S cp fpo f2 hCle hns₁ old;have stkD:∀b,s2.heap.objs.size≤b->b∉frs X.stack:=λb hb hm=>by
  obtain⟨_,o,e,_⟩:=I2.stack.mem hm;exact absurd (ypa (yqa e) hb) (ysd _)
 have nD:H2 D=none:=I2.hok.fresh hDle;have stat:∀{pn:List (Addr×Obj)} {H':Hp},(∀p∈pn,p.1=D)->(∀b∈fp,H' b=none)->∀b∈fp,FpOk (blk X (own++cap) sc fp s2 H2 C) pn H' b:=λ{pn H'} hp hn b hb=>by
  refine⟨hn b hb,(below b (fplt b hb)).1,λz=>?_,.inl hb,λx c e=>?_,λp hp' z=>?_⟩
  ·obtain⟨_,h2,h3,_⟩:=f2 b hb
   rcases yha.mp (I2.zkbb b z) with q|q
   ·exact h2 q
   ·exact h3 q
  ·exact (f2 b hb).2.2.2.2.1 x c (zdq sc.names [] (λx c e=>by simp at e) x c e)
  ·have e:=hp p (by simpa [blk] using hp');rw[e] at z;exact (below b (fplt b hb)).2 z.symm
 have pinD:∀{H':Hp} {s':Shared} {o:Obj},Inv (blk X (own++cap) sc fp s2 H2 C) [] (ztf own.length js σ) H' s'->H' D=none->s'.heap.get? D=some o->(∀v,o.data ≠ .cell v)->Inv (blk X (own++cap) sc fp s2 H2 C) [(D,o)] (ztf own.length js σ) H' s':=λ{H' s' o} I' n e d =>
  I'.zer λp hp=>by
   have q:p=(D,o):=(by simpa using hp);subst q;exact⟨e,n,hDC,stkD D hDle,d⟩
 have loop:∀s₃:Shared,s₃={ s2 with heap:=h₁,toks:=s2.toks+([]:List (Str×Value)).length } →
   yvi (model X.prog X.w) X.A (.compLoop (.ListComp elt [⟨tg,iter,ifs,0⟩] sc pos) 0 (.ref it) (.ref D) (compEnvC sc (clOf sc X.env.cells) C X.env)) (RR (.ref D) C) s₃:=by
  rintro s₃ rfl;refine zwx (λk s'=>Ex5 λi ys its nn H'=>Inv (blk X (own++cap) sc fp s2 H2 C) [] (ztf own.length js σ) H' s'∧tn i s'.heap∧(∀b∈fp,H' b=none)∧H' D=none ∧
   s'.heap.get? D=some { cls:=.type "list",data:=.seq its.toArray nn }∧Vals ys its∧W i k ys H') ?_ m0 ⟨0,[],[],0,H2,I3 _,st3,λb hb=>(f2 b hb).1,nD,hacc,.nil,w0⟩
  rintro k s3 ⟨i,ys,its,nn,H3,I3,st3,fr3,d3,o3,rv3,w3⟩;have I3':=pinD I3 d3 o3 (λv z=>by cases z);have only:∀p∈[(D,({ cls:=.type "list",data:=.seq its.toArray nn }:Obj))],p.1=D:=λp hp=>by
   rw[yja.mp hp]
  rcases turn i k ys H3 w3 with⟨stop,hz,qn⟩|⟨go,hz,N,hN,step⟩
  ·refine ymd (T.done (blk X (own++cap) sc fp s2 H2 C) rfl rfl rfl hc i _ s3 _ H3 (λ_ _=>False) I3' (stat only fr3) st3 stop) (λr s4 ⟨hr,I4⟩=>?_) λ_ _ z=>z.elim;subst hr;have o4:=(I4.pin (D,_) (ybc _ (yja.mpr rfl))).1;exact hRR D C H3 s4 _ ys its nn hDle hCle hDC I4 d3 o4 hz rv3 qn
  ·refine ymd (T.item (blk X (own++cap) sc fp s2 H2 C) rfl rfl rfl hc i _ s3 _ H3 (λ_ _=>False) I3' (stat only fr3) st3 go) (λr s4 ⟨u,hr,h4⟩=>?_) λ_ _ z=>z.elim;subst hr;refine ymd h4 (λ_ s5 ⟨x,H5,I5,r5,y5,st5,fr5⟩=>?_) λ_ _ z=>z.elim;have I5':=I5.pinned (stat only fr5) (T.obj _ _ st5);refine ymd (hg fp s2 H2 C _ s5 _ H5 x u _ I5' r5 (step x H5 y5)) (λ_ s6 ⟨σ6,H6,I6,d6,q6⟩=>?_) λ_ _ z=>z.elim;refine ymd (ht fp s2 H2 C _ s6 σ6 H6 _ I6 q6) (λok s7 ⟨H7,I7,q7⟩=>?_) λ_ _ z=>z.elim;have memD:∀{o:Obj},(D,o)∈(blk X (own++cap) sc fp s2 H2 C).pn++([(D,o)]++zet fp s5.heap):=ybc _ (yug _ (yja.mpr rfl));have memF:∀{b:Addr} {o o':Obj},b∈fp->s5.heap.get? b=some o->(b,o)∈(blk X (own++cap) sc fp s2 H2 C).pn++([(D,o')]++zet fp s5.heap):=λhb e=>ybc _ (ybc _ (zco hb e));have σlen:(ztf own.length js σ).length=σ6.length:=by
    have a:=I6.len;have b:=I5.len;exact b.trans a.symm
   cases ok with
   | false =>
    have q7':N ys H7:=q7;obtain⟨m',hm,w7⟩:=hN _ _ q7';refine⟨m',hm,i+1,ys,its,nn,H7,(I7.zer λp hp=>absurd hp (by simp)).weak σlen (λj v e=>zvt d6 e),T.keep _ _ _ st5 λb hb o e=>(I7.pin (b,o) (memF hb e)).1,λb hb=>?_,(I7.pin (D,_) memD).2.1,(I7.pin (D,_) memD).1,rv3,w7⟩;obtain⟨o,e,_⟩:=T.obj _ _ st5 b hb;exact (I7.pin (b,o) (memF hb e)).2.1
   | true =>
    have q7':te σ6 H7 λy H4=>N (ys++[y]) H4:=q7;refine ymd (he fp s2 H2 C _ s7 σ6 H7 _ I7 q7') (λyv s8 ⟨y,H8,I8,r8,n8'⟩=>?_) λ_ _ z=>z.elim;obtain⟨m',hm,w8⟩:=hN _ _ n8';have o8:=(I8.pin (D,_) memD).1;have n8:=(I8.pin (D,_) memD).2.1;refine append_at (hsz:=by rw[yka,← rv3.length];exact hz) o8 λh9 hs9 hD9=>?_;have I8':=(I8.zer (pins':=[]) λp hp=>absurd hp (by simp)).weak σlen (λj v e=>zvt d6 e);have I9:=I8'.turned (h':=h9) (t':=s8.toks) (it:=D) (λb o hb e=>(hs9.2 b hb).trans e) n8 hDC (.inr hDle) (λx c e z=>by
     obtain⟨v,q⟩:=I2.cell x c (zdq sc.names [] (λx c e=>by simp at e) x c e);exact absurd (ypa q.lt (by rw[z];exact hDle)) (ysd _)) (λp hp=>absurd (show p∈([]:List (Addr×Obj)) from hp) (by simp))
    refine⟨m',hm,i+1,ys++[y],its++[yv],nn+1,H8,I9,T.keep _ _ _ st5 λb hb o e=>(hs9.2 b (below b (fplt b hb)).2).trans (I8.pin (b,o) (memF hb e)).1,λb hb=>?_,n8,?_,rv3.snoc r8,w8⟩
    ·obtain⟨o,e,_⟩:=T.obj _ _ st5 b hb;exact (I8.pin (b,o) (memF hb e)).2.1
    ·rw[hD9,List.push_toArray]
 exact codeAny_compStart_list (loop _ rfl) (T.self X.A 0 _ _ _ st3 (loop _ rfl))
theorem zqf {elt iter tg:Expr}{ifs:List Expr}{sc:Scope}{pos:Pos}{own cap:List Str}{js:List Nat}{wi:TI}{g:TG}{tt:TT}{te:TE}(hc:X.calm=true)(S:zkc X sc)(cp:Caps X sc cap js)(hi:PI X tg iter wi)
  (hg:∀fp s H C,PG (blk X (own++cap) sc fp s H C) tg g) (ht:∀fp s H C,PTs (blk X (own++cap) sc fp s H C) ifs tt) (he:∀fp s H C,PE (blk X (own++cap) sc fp s H C) elt te)
  (hs:∀x,yyj iter X.env x=pure x:=by intro _;rfl):PE X (.ListComp elt [⟨tg,iter,ifs,0⟩] sc pos) (zwnb wi g tt te own.length js):=by
 intro pins s σ H Q I h;rw[eval_ListComp];refine yfk (use:=none) rfl hs (ztt λy hy hf=>I.ok.has y.1 (S.free y hy hf)) S.kind S.names (thn (hi pins s σ H _ I h) λv s1 h1=>thn h1 λitv s2 h2=>?_);obtain⟨it,fp,tn,J,H2,e,I2,T,st2,f2,W,⟨m0,w0⟩,turn⟩:=h2;subst e;refine zahb (RR:=λacc C=>compPost (model X.prog X.w) X.A X.xe none (EP X pins σ Q) acc C) (Qf:=λys H=>∀p,H p=none->Q (.ref p) (upd H p (.lst ys))) hc S cp hg ht he I2 T st2 f2 w0 turn ?_;intro D C H4 s4 pn ys its nn hD hC hDC I4 n4 o4 hz rv q;obtain⟨m,hn,_⟩:=I4.loc;exact⟨m,hn,λh' hs'=>⟨.ref D,upd H4 D (.lst ys),zbhb I2 I4 f2 hC hD hDC n4 o4 hz rv hs',rfl,q D n4⟩⟩
end
def Its (x:Str):It:=⟨λi _=>i<x.cps.size,λi H v H'=>H'=H∧∃c,x.cps[i]?=some c∧v = .str ⟨#[c]⟩,λi _=>i=x.cps.size⟩
section
variable {X:Cx}{tg:Expr}
def iStr (tl:TE):TI:=fun σ H R=>tl σ H λv H1=>∃x,v = .str x∧R (Its x) H1
theorem zjq {P:ytb}{w:World}{K:yba}{tg:Expr}{ty:String}(x:Str)(t:Tok)(it:Addr)(hty:["enumerate","zip","dict_itemiterator","dict_reverseitemiterator","odict_iterator","itertools.zip_longest","itertools.pairwise"].contains ty=false)
  (W:∀A:Around,A.handled=none->Walks P w A it [it] [it] x.cps.size (SignAt x) (λi h=>h.IsStrIter it ty x t i))
  (hself:∀(A:Around) (i:Nat) (s:Shared) (Q:Value->Shared->Prop) (E:Value->Shared->Prop),s.heap.IsStrIter it ty x t i->Q (.ref it) s->wpAny (model P w) A (pyIter (.ref it)) Q E s) :
  Turn P w K tg (Its x) [it] it (λi h=>h.IsStrIter it ty x t i) where
 mem:=by simp
 obj:=λi h st b hb=>by
  have e:b=it:=by simpa using hb
  subst e;obtain⟨o,e,c,d⟩:=st;exact⟨o,e,λv z=>by rw[d] at z;cases z⟩
 keep:=λi h h' st k=>by
  obtain⟨o,e,r⟩:=st;exact⟨o,k it (by simp) o e,r⟩
 item:=by
  intro X hP hw hK hc i pins s σ H E I hf st hg;subst hP hw hK;obtain⟨f0,f1,f2,f3,f4,f5⟩:=hf it (by simp);refine (W X.A (I.ok.hd hc)).item i s _ _ hg st λv h' tk hv st' kk=>?_;obtain⟨c,u,hcx,rfl⟩:=hv;have I1:Inv X pins σ H { s with heap:=h',toks:=tk }:=I.turned (λb o hb e=>kk b o (by simpa using hb) e) f0 f1 f3 f4 f5;obtain⟨o,e,c',d⟩:=id st';exact⟨_,rfl,zkgb (s:={ s with heap:=h',toks:=tk }) e c' d hty ⟨.str ⟨#[c]⟩,H,I1,⟨u,rfl⟩,⟨rfl,c,hcx,rfl⟩,st',λb hb=>(hf b hb).1⟩⟩
 done:=by
  intro X hP hw hK hc i pins s σ H E I hf st hg;subst hP hw hK;obtain⟨f0,f1,f2,f3,f4,f5⟩:=hf it (by simp);have le:i=x.cps.size:=hg;subst le;exact (W X.A (I.ok.hd hc)).done s _ _ st λh' tk kk=>⟨rfl,I.turned (λb o hb e=>kk b o (by simpa using hb) e) f0 f1 f3 f4 f5⟩
 self:=hself
theorem zdkb {l:Expr}{tl:TE}(hl:PE X l tl):PI X tg l (iStr tl):=by
 intro pins s σ H R I h;refine thn (hl pins s σ H _ I h) λv s1 ⟨y,H1,I1,r1,q1⟩=>?_;obtain⟨x,e,q⟩:=q1;subst e;obtain⟨t,rfl⟩:=r1;have fp:∀b∈[s1.heap.objs.size],FpOk X pins H1 b:=λb hb=>by
  have e:b=s1.heap.objs.size:=by simpa using hb
  subst e;exact I1.fpOk (yma _) (I1.hok.fresh (yma _))
 cases ha:x.cps.all (· < 128)
 ·refine wpAny_pyIter_wide ha ?_;exact⟨s1.heap.objs.size,[s1.heap.objs.size],_,Its x,H1,rfl,I1.kept (t':=s1.toks) λb o e=>yca _ e,zjq x t _ (by decide) (λA hA=>Walks.strWide hA _ x t) (λA i s Q E st h=>wpAny_pyIter_striter_wide st h),⟨_,yoa _ rfl,rfl,rfl⟩,fp,q⟩
 ·refine wpAny_pyIter_ascii ha ?_;exact⟨s1.heap.objs.size,[s1.heap.objs.size],_,Its x,H1,rfl,I1.kept (t':=s1.toks) λb o e=>yca _ e,zjq x t _ (by decide) (λA hA=>Walks.strAscii hA _ x t) (λA i s Q E st h=>wpAny_pyIter_striter_ascii st h),⟨_,yoa _ rfl,rfl,rfl⟩,fp,q⟩
end
theorem zfv {J:It}{len:Nat}{x:Nat->V}{H1:Hp}{g:TG}{tt:TT}{te:TE}{n:Nat}{js:List Nat}{σ:St}{Q:VK}(Pv:Nat->List V->Hp->Prop)(hgo:∀i ys H,Pv i ys H->i<len->J.go i H)(hst:∀ys H,Pv len ys H->J.stop len H)
  (hy:∀i ys H v H',Pv i ys H->i<len->J.yld i H v H'->H'=H∧v=x i) (h0:Pv 0 [] H1) (hz:∀i ys H,Pv i ys H->ys.length≤yta)
  (hs:∀i ys H,i<len->Pv i ys H->g (x i) (ztf n js σ) H fun σ2 H2=>σ2.drop n=(ztf n js σ).drop n∧tt σ2 H2 λb H3=>if b=true then te σ2 H3 λy H4=>Pv (i+1) (ys++[y]) H4 else Pv (i+1) ys H3)
  (hd:∀ys H,Pv len ys H->∀p,H p=none->Q (.ref p) (upd H p (.lst ys))):zdbb J H1 g tt te n js σ Q:=by
 refine⟨λi m ys H=>m=len-i∧i≤len∧Pv i ys H,⟨len,by simp,ylb _,h0⟩,?_⟩;rintro i m ys H ⟨rfl,hi,p⟩
 by_cases hlt:i<len
 ·refine .inr ⟨hgo i ys H p hlt,hz i ys H p,Pv (i+1),λys' H' p'=>⟨len-(i+1),by omega,rfl,hlt,p'⟩,λv H' y=>?_⟩;obtain⟨e,ev⟩:=hy i ys H v H' p hlt y;subst e ev;exact hs i ys _ hlt p
 ·have e:i=len:=by omega
  subst e;exact .inl ⟨hst ys H p,hz _ ys H p,hd ys H p⟩
theorem zsjb {t:Str}{H1:Hp}{g:TG}{tt:TT}{te:TE}{n:Nat}{js:List Nat}{σ:St}{Q:VK}(Pv:Nat->List V->Hp->Prop)(h0:Pv 0 [] H1)(hz:∀i ys H,Pv i ys H->ys.length≤yta)
  (hs:∀i c ys H,t.cps[i]?=some c->Pv i ys H->g (.str ⟨#[c]⟩) (ztf n js σ) H fun σ2 H2=>σ2.drop n=(ztf n js σ).drop n∧tt σ2 H2 λb H3=>if b=true then te σ2 H3 λy H4=>Pv (i+1) (ys++[y]) H4 else Pv (i+1) ys H3)
  (hd:∀ys H,Pv t.cps.size ys H->∀p,H p=none->Q (.ref p) (upd H p (.lst ys))):zdbb (Its t) H1 g tt te n js σ Q:=by
 refine zfv (len:=t.cps.size) (x:=λi=>.str ⟨#[t.cps.getD i 0]⟩) Pv (λi ys H _ h=>h) (λys H _=>rfl) (λi ys H v H' _ hlt y=>?_) h0 hz (λi ys H hlt p=>?_) hd
 ·obtain⟨e,c,hc,ev⟩:=y;refine⟨e,?_⟩;rw[ev,yhg,hc];rfl
 ·have hc:t.cps[i]?=some (t.cps.getD i 0):=by
   rw[yhg,yjb hlt];rfl
  exact hs i _ ys H hc p
theorem zoe {K:yba}{a:Addr}{xs:List V}{H1:Hp}{g:TG}{tt:TT}{te:TE}{n:Nat}{js:List Nat}{σ:St}{Q:VK}(Pv:Nat->List V->Hp->Prop)(hl:∀i ys H,Pv i ys H->SqL K H a xs)(h0:Pv 0 [] H1)(hz:∀i ys H,Pv i ys H->ys.length≤yta)
  (hs:∀i x ys H,xs[i]?=some x->Pv i ys H->g x (ztf n js σ) H fun σ2 H2=>σ2.drop n=(ztf n js σ).drop n∧tt σ2 H2 λb H3=>if b=true then te σ2 H3 λy H4=>Pv (i+1) (ys++[y]) H4 else Pv (i+1) ys H3)
  (hd:∀ys H,Pv xs.length ys H->∀p,H p=none->Q (.ref p) (upd H p (.lst ys))):zdbb (Itl K a) H1 g tt te n js σ Q:=by
 refine zfv (len:=xs.length) (x:=λi=>xs.getD i .non) Pv (λi ys H p hlt=>⟨xs,xs[i],hl i ys H p,by simp[hlt]⟩) (λys H p=>⟨xs,hl _ ys H p,yma _⟩) (λi ys H v H' p hlt y=>?_) h0 hz (λi ys H hlt p=>?_) hd
 ·obtain⟨e,y⟩:=y;refine⟨e,?_⟩;rw[yrb,y xs (hl i ys H p)];rfl
 ·refine hs i _ ys H ?_ p;rw[yrb,ywa hlt];rfl
theorem zrjb {K:yba}{a:Addr}{xs:List V}{H1:Hp}{g:TG}{tt:TT}{te:TE}{n:Nat}{js:List Nat}{σ:St}{Q:VK}(Pv:Nat->List V->Hp->Prop)(hl:∀i ys H,Pv i ys H->SqT K H a xs)(h0:Pv 0 [] H1)(hz:∀i ys H,Pv i ys H->ys.length≤yta)
  (hs:∀i x ys H,xs[i]?=some x->Pv i ys H->g x (ztf n js σ) H fun σ2 H2=>σ2.drop n=(ztf n js σ).drop n∧tt σ2 H2 λb H3=>if b=true then te σ2 H3 λy H4=>Pv (i+1) (ys++[y]) H4 else Pv (i+1) ys H3)
  (hd:∀ys H,Pv xs.length ys H->∀p,H p=none->Q (.ref p) (upd H p (.lst ys))):zdbb (Itt K a) H1 g tt te n js σ Q:=by
 refine zfv (len:=xs.length) (x:=λi=>xs.getD i .non) Pv (λi ys H p hlt=>⟨xs,xs[i],hl i ys H p,by simp[hlt]⟩) (λys H p=>⟨xs,hl _ ys H p,yma _⟩) (λi ys H v H' p hlt y=>?_) h0 hz (λi ys H hlt p=>?_) hd
 ·obtain⟨e,y⟩:=y;refine⟨e,?_⟩;rw[yrb,y xs (hl i ys H p)];rfl
 ·refine hs i _ ys H ?_ p;rw[yrb,ywa hlt];rfl
theorem zjo {lo:Int}{len:Nat}{H1:Hp}{g:TG}{tt:TT}{te:TE}{n:Nat}{js:List Nat}{σ:St}{Q:VK}(Pv:Nat->List V->Hp->Prop)(h0:Pv 0 [] H1)(hz:∀i ys H,Pv i ys H->ys.length≤yta)
  (hs:∀i ys H,i<len->Pv i ys H->g (.int (lo+i)) (ztf n js σ) H fun σ2 H2=>σ2.drop n=(ztf n js σ).drop n∧tt σ2 H2 λb H3=>if b=true then te σ2 H3 λy H4=>Pv (i+1) (ys++[y]) H4 else Pv (i+1) ys H3)
  (hd:∀ys H,Pv len ys H->∀p,H p=none->Q (.ref p) (upd H p (.lst ys))):zdbb (Itr lo len) H1 g tt te n js σ Q :=
 zfv (len:=len) (x:=λi=>.int (lo+i)) Pv (λi ys H _ h=>h) (λys H _=>yma _) (λi ys H v H' _ hlt y=>y) h0 hz (λi ys H hlt p=>hs i ys H hlt p) hd
section
variable {X:Cx}
def rSlS:V->Option Int->Option Int->Hp->VK->Prop:=λx lo hi H Q=>∃t,x = .str t∧t.length≤yta∧∀t',t'=yxl t lo hi->t'.length≤t.length->Q (.str t') H
theorem zbkb:SlR X rSlS:=by
 intro pins s σ H x v vl vu lo hi sl Q I rx hs pl pu h;obtain⟨t,rfl,hz,q⟩:=h;obtain⟨tk,rfl⟩:=rx;have fin:∀{l u:Option (Int×Tok)},l.map (·.1)=lo->u.map (·.1)=hi->(∀k t',EP X pins σ Q (.str (yxl t (l.map (·.1)) (u.map (·.1))) t') { s with toks:=k }):=λ{l u} e1 e2 k t' =>
  ⟨.str _,H,I.tok k,⟨t',rfl⟩,by rw[e1,e2];exact q _ rfl (PyProof.Txt.length_slice_le t _ _)⟩
 refine⟨"str",_,F.slot_str_getitem.lookup,ydk _ _ _,?_⟩;cases pl with
 | none =>
  cases pu with
  | none=>exact ywf (l:=none) (u:=none) (st:=none) hs rfl (ywi ⟨yxa (yyl t _ _) hz,λt' k=>fin (l:=none) (u:=none) rfl rfl k t'⟩)
  | int j tj=>exact ywf (l:=none) (u:=some (j,tj)) (st:=none) hs rfl (ywi ⟨yxa (yyl t _ _) hz,λt' k=>fin (l:=none) (u:=some (j,tj)) rfl rfl k t'⟩)
 | int i ti =>
  cases pu with
  | none=>exact ywf (l:=some (i,ti)) (u:=none) (st:=none) hs rfl (ywi ⟨yxa (yyl t _ _) hz,λt' k=>fin (l:=some (i,ti)) (u:=none) rfl rfl k t'⟩)
  | int j tj=>exact ywf (l:=some (i,ti)) (u:=some (j,tj)) (st:=none) hs rfl (ywi ⟨yxa (yyl t _ _) hz,λt' k=>fin (l:=some (i,ti)) (u:=some (j,tj)) rfl rfl k t'⟩)
theorem zkeb:∀{bs:List Bool} {us:List Value},Vals (bs.map V.bl) us->us=bs.map Value.bool
 | [],us,r=>by rw[ypf] at r;cases r;rfl
 | b::bs,us,r=>by
  rw[yva] at r;cases r with
  | cons r1 r2=>rw[yva,zkeb r2,show _=Value.bool b from r1]
theorem zjv (hc:X.calm=true):zwk X (.builtin "all") (λxs H Q=>Ex2 λ(a:Addr) (bs:List Bool)=>xs=[.ref a]∧SqL X.K H a (bs.map V.bl)∧Q (.bl (bs.all id)) H):=by
 intro pins s σ H xs us Q I r h;obtain⟨a,bs,rfl,hq,q⟩:=h;obtain⟨u,rfl,ru⟩:=vals1 r;cases ru;obtain⟨its,rv,p,hz⟩:=I.list hq;have e:=zkeb rv;have hlt:a<s.heap.objs.size:=by obtain⟨o,n,e,_⟩:=p;exact yqa e
 refine call_all_walk (yuh p.isList ?_);refine⟨s.heap.objs.size,_,_,_,_,_,λi=>bs.getD i true,rfl,Walks.list (show X.A.in1.handled=none from I.ok.hd hc) s.heap.objs.size a (yeb hlt) its.toArray,⟨⟨_,yoa _ rfl,rfl,rfl⟩,p.isList.push _⟩,?_,?_⟩
 ·intro i v s' Q' E' hP hQ;have hP':its[i]?=some v:=by simpa using hP
  rw[e,yvb] at hP';cases z:bs[i]? with
  | none=>rw[z] at hP';cases hP'
  | some b =>
   rw[z] at hP';have ev:Value.bool b=v:=yfc hP';subst ev;have hQ':Q' (bs.getD i true) s':=hQ;rw[yrb,z] at hQ';exact yad hQ'
 ·intro h' tk kk;refine⟨.bl _,H,I.kept (t':=tk) λb o e=>kk b o (λz=>?_) (yca _ e),?_,q⟩
  ·have z':b=s.heap.objs.size:=by simpa using z
   exact absurd (yqa e) (by rw[z'];exact ysd _)
  ·show Value.bool _=Value.bool _
   congr 1
   rw[yka,e,yda];have go:∀l:List Bool,(ypd l.length).all (λi=>l.getD i true)=l.all id:=λl=>by
    have q:=range_getD l true;have e2:((ypd l.length).map λj=>l.getD j true).all id=(ypd l.length).all λi=>l.getD i true:=by
     rw[List.all_map];rfl
    rw[← e2,q]
   exact go bs
theorem zlh:zwk X (.builtin "isinstance") (λxs H Q=>Ex4 λx c t b=>xs=[x,c]∧TyOf X.K H x t∧((∃n,c = .ty n∧ywb X.K t (.type n)=some b)∨(∃a,c = .ref a∧ywb X.K t (.ref a)=some b))∧Q (.bl b) H):=by
 intro pins s σ H xs us Q I r h;obtain⟨x,c,t,b,rfl,ty,hc,q⟩:=h;obtain⟨u,u',rfl,r1,r2⟩:=vals2 r
 rcases hc with⟨n,rfl,e⟩|⟨a,rfl,e⟩
 ·cases (show u'=Value.type n from r2);exact zpx I r1 ty e λtk=>⟨.bl b,H,I.tok tk,rfl,q⟩
 ·cases (show u'=Value.ref a from r2);exact zpx I r1 ty e λtk=>⟨.bl b,H,I.tok tk,rfl,q⟩
mutual
inductive DV (K:yba)(H:Hp):V->PyData->Prop where
 | non:DV K H .non .none
 | bl (b:Bool):DV K H (.bl b) (.bool b)
 | int (i:Int):DV K H (.int i) (.int i)
 | str (x:Str):DV K H (.str x) (.str x)
 | lst {a:Addr} {xs:List V} {ds:List PyData}:SqL K H a xs->DVs K H xs ds->DV K H (.ref a) (.list ds)
 | tup {a:Addr} {xs:List V} {ds:List PyData}:SqT K H a xs->DVs K H xs ds->DV K H (.ref a) (.tuple ds)
inductive DVs (K:yba)(H:Hp):List V->List PyData->Prop where
 | nil:DVs K H [] []
 | cons {x:V} {d:PyData} {xs:List V} {ds:List PyData}:DV K H x d->DVs K H xs ds->DVs K H (x::xs) (d::ds)
end
mutual
theorem DV.reads {pins:List (Addr×Obj)}{σ:St}{H:Hp}{s:Shared}(I:Inv X pins σ H s):∀{x:V} {d:PyData} {u:Value},DV X.K H x d->RelV x u->∃as,Reads s.heap u d as
 | _,_,_,.non,r=>by cases r;exact⟨_,.none⟩
 | _,_,_,.bl b,r=>by cases r;exact⟨_,.bool b⟩
 | _,_,_,.int i,r=>by obtain⟨t,rfl⟩:=r;exact⟨_,.int i t⟩
 | _,_,_,.str x,r=>by obtain⟨t,rfl⟩:=r;exact⟨_,.str x t⟩
 | _,_,_,.lst hq hs,r=>by
  cases r;obtain⟨its,rv,⟨o,n,e,c,_,d⟩,_⟩:=I.list hq;obtain⟨as,q⟩:=hs.reads I rv;exact⟨_,.list e c d (by simpa using q)⟩
 | _,_,_,.tup hq hs,r=>by
  cases r;obtain⟨its,rv,⟨o,e,c,n,d⟩,_⟩:=I.tuple hq;obtain⟨as,q⟩:=hs.reads I rv;exact⟨_,.tuple e c d (by simpa using q)⟩
theorem DVs.reads {pins:List (Addr×Obj)}{σ:St}{H:Hp}{s:Shared}(I:Inv X pins σ H s):∀{xs:List V} {ds:List PyData} {us:List Value},DVs X.K H xs ds->Vals xs us->∃as,ReadsAll s.heap us ds as
 | _,_,_,.nil,.nil=>⟨_,.nil⟩
 | _,_,_,.cons h hs,.cons r rs=>by
  obtain⟨as,q⟩:=h.reads I r;obtain⟨bs,p⟩:=hs.reads I rs;exact⟨_,.cons q p⟩
end
theorem ztbb (hu:X.A.units+64<cLine):OpR X (yxc .NotEq) (λx y H Q=>Ex2 λd e=>DV X.K H x d∧DV X.K H y e∧yid d=true∧yid e=true∧Q (.bl (!PyData.eqv d e)) H):=by
 intro pins s σ H x y v u Q I rx ry h;obtain⟨d,e,hd,he,s1,s2,q⟩:=h;obtain⟨as,r1⟩:=hd.reads I rx;obtain⟨bs,r2⟩:=he.reads I ry;exact ne_dataH r1 r2 s1 s2 hu ⟨.bl _,H,I,rfl,q⟩
end
end L2
namespace L2
open PySem PyProof.Rows
set_option genInjectivity false in
structure Gf (K:yba)(mg:Str->Option Value)(x q:Str)(st:Stmt) where
 f:Addr
 d:ype
 F:Fun K x q st f d
 m:mg x=some (.ref f)
set_option genInjectivity false in
structure Mf (K:yba)(C:Addr)(x q:Str)(st:Stmt) where
 f:Addr
 d:ype
 F:Fun K x q st f d
 M:Meth K C x f
set_option genInjectivity false in
structure If (K:yba)(C:Addr)(x q:Str)(st:Stmt) where
 f:Addr
 d:ype
 F:Fun K x q st f d
 M:Mk K C f
section
variable {K:yba}{mg:Str->Option Value}{h:Heap}{C f:Addr}{x q:Str}{st:Stmt}{oc:Value}{od an:Option Addr}{sl:Array (Option Value)}{kV dc pm cd ct:Value}
def gf_of (X:K.In h)(G:h.Ns yza mg)(a:ynb K yza x=some (some (.ref f)))
  (l:K.lookup f=some ⟨oc,od,.func (ynf x q (zol st) (zkh st) (zla st) .none kV dc pm an cd ct),sl⟩) (c:yvg K cd q=true) (k:yee K (.ref f)=true):Gf K mg x q st :=
 ⟨f,_,zlgb l c k,yuc X G a⟩
def mf_of (a:yab K (.ref C) x=some (some (.ref f)))(i:yjj K (.ref f)=true)
  (l:K.lookup f=some ⟨oc,od,.func (ynf x q (zol st) (zkh st) (zla st) .none kV dc pm an cd ct),sl⟩) (c:yvg K cd q=true) (k:yee K (.ref f)=true):Mf K C x q st :=
 ⟨f,_,zlgb l c k,⟨a,i,k⟩⟩
def if_of (a:yab K (.ref C) "__init__" = some (some (.ref f)))(i:yjj K (.ref f)=true)
  (l:K.lookup f=some ⟨oc,od,.func (ynf x q (zol st) (zkh st) (zla st) .none kV dc pm an cd ct),sl⟩) (c:yvg K cd q=true) (k:yee K (.ref f)=true)
  (mk:ypl K C=true) (kc:yee K (.ref C)=true):If K C x q st :=
 ⟨f,_,zlgb l c k,⟨mk,a,i,kc⟩⟩
theorem zjpb {fa:Addr}(g:Gf K mg x q st)(e:mg x=some (.ref fa)):g.f=fa:=by
 have z:=g.m.symm.trans e;injection z with z
 injection z
end
section
variable {P:ytb}{w:World}{K:yba}{mg:Str->Option Value}{base:Heap}{C:Addr}{x q:Str}{st:Stmt}{N ps:List Str}{k:Nat}{sp:Sp}
theorem Gf.ok (g:Gf K mg x q st)(S:zxa N ps (zla st))
  (hb:∀(f:Addr) (cdv:Value) (A:Around) (outer:List Env) (s:Shared) (H:Hp) (vs:List V) (Q:VK) (E:XK),Room k (A.deeper (envOfC q (zla st) s.heap.objs.size f cdv))->sp vs H Q E->let X:=(cxOf CX0 P w K mg base N q (zla st) f cdv A outer s H E).nox;∃t,PSs X (zkh st) t∧t { nx:=λ_ H'=>Q .non H',rt:=Q } (start N vs) H)
  (len:∀vs H Q E,sp vs H Q E->vs.length=ps.length:=by intro _ _ _ _ h;cases h;rename_i h;rw[h.1];rfl):FnOk P w K mg base CX0 (k+1) g.f g.d ps sp:=g.F.ok S len (hb g.f)
theorem Mf.ok (g:Mf K C x q st)(S:zxa N ps (zla st))
  (hb:∀(f:Addr) (cdv:Value) (A:Around) (outer:List Env) (s:Shared) (H:Hp) (vs:List V) (Q:VK) (E:XK),Room k (A.deeper (envOfC q (zla st) s.heap.objs.size f cdv))->sp vs H Q E->let X:=(cxOf CX0 P w K mg base N q (zla st) f cdv A outer s H E).nox;∃t,PSs X (zkh st) t∧t { nx:=λ_ H'=>Q .non H',rt:=Q } (start N vs) H)
  (len:∀vs H Q E,sp vs H Q E->vs.length=ps.length:=by intro _ _ _ _ h;cases h;rename_i h;rw[h.1];rfl):FnOk P w K mg base CX0 (k+1) g.f g.d ps sp:=g.F.ok S len (hb g.f)
theorem If.ok (g:If K C x q st)(S:zxa N ps (zla st))
  (hb:∀(f:Addr) (cdv:Value) (A:Around) (outer:List Env) (s:Shared) (H:Hp) (vs:List V) (Q:VK) (E:XK),Room k (A.deeper (envOfC q (zla st) s.heap.objs.size f cdv))->sp vs H Q E->let X:=(cxOf CX0 P w K mg base N q (zla st) f cdv A outer s H E).nox;∃t,PSs X (zkh st) t∧t { nx:=λ_ H'=>Q .non H',rt:=Q } (start N vs) H)
  (len:∀vs H Q E,sp vs H Q E->vs.length=ps.length:=by intro _ _ _ _ h;cases h;rename_i h;rw[h.1];rfl):FnOk P w K mg base CX0 (k+1) g.f g.d ps sp:=g.F.ok S len (hb g.f)
theorem FnOk.up {f:Addr}{d:ype}{m:Nat}(h:FnOk P w K mg base CX0 k f d ps sp)(le:k≤m:=by first|decide|omega):FnOk P w K mg base CX0 m f d ps sp:=h.mono le
end
theorem sz0:0≤yta:=by decide
theorem sz1:1≤yta:=by decide
theorem sz2:2≤yta:=by decide
theorem sz3:3≤yta:=by decide
theorem sz4:4≤yta:=by decide
theorem sz5:5≤yta:=by decide
def scB (N P:List Str)(sc:Scope):Bool :=
 decide (sc.kind = .function)&&(!sc.isCoroutine&&(!sc.isGenerator&&(decide N.Nodup&&(decide (N.take P.length=P) &&
  (P.all (λx=>decide (sc.names.lookup x=some .local∨sc.names.lookup x=some .cell))&&sc.names.all λy=>decide (y.2 ≠ .free))))))
theorem scOf {N P:List Str}{sc:Scope}(h:scB N P sc=true):zxa N P sc:=by
 unfold scB at h;simp only[yhc,Bool.not_eq_true',decide_eq_true_eq,yue] at h;obtain⟨a,b,c,d,e,f,g⟩:=h;exact⟨a,b,c,d,e,f,g⟩
end L2
namespace L2
open PySem PySem.Spec PyProof.Rows
section
variable {X:Cx}
theorem zpm:∀{ys:List Str} {us:List Value},Vals (ys.map V.str) us->yxk us ys
 | [],us,r=>by rw[ypf] at r;cases r;exact .nil
 | y::ys,us,r=>by
  rw[yva] at r;cases r with
  | cons r1 r2 =>
   obtain⟨t,e⟩:=r1;subst e;exact .cons y t (zpm r2)
theorem zdw:∀l:List (Str×Tok),Vals ((l.map (·.1)).map V.str) (strValues l)
 | []=>.nil
 | (x,t)::r=>.cons ⟨t,rfl⟩ (zdw r)
theorem zqu:MtR X "str.join" (λx xs H Q=>Ex3 λsep a ys=>x = .str sep∧xs=[.ref a]∧SqL X.K H a (ys.map V.str)∧(ys.map (·.length)).sum+ys.length*sep.length≤16777216∧Q (.str (yra sep ys)) H):=by
 intro pins s σ H x xs v us Q I rx rs h;obtain⟨sep,a,ys,rfl,rfl,hq,hz,q⟩:=h;obtain⟨t,rfl⟩:=rx;obtain⟨u,rfl,ru⟩:=vals1 rs;cases ru;obtain⟨its,rv,p,_⟩:=I.list hq;refine join_list (items:=its.toArray) (ys:=ys) p.isList (by simpa using zpm rv) hz λt' k=>⟨.str _,H,I.tok k,⟨t',rfl⟩,?_⟩;have e:Txt.join sep ys=yra sep ys:=by first|rfl|exact StrLaws.glued_eq_join sep ys
 rw[e];exact q
theorem zpu:MtR X "str.split" (λx xs H Q=>Ex2 λt y=>x = .str t∧xs=[.str y]∧(y.length==0)=false∧t.length+2≤yta∧∀l,H l=none->Q (.ref l) (upd H l (.lst ((yme t y).map V.str)))):=by
 intro pins s σ H x xs v us Q I rx rs h;obtain⟨x,y,rfl,rfl,hy,hsz,q⟩:=h;obtain⟨t,rfl⟩:=rx;obtain⟨u,rfl,ru⟩:=vals1 rs;obtain⟨tu,rfl⟩:=ru;have hn:(ylf x (ync x y 0 x.length (x.length+1)) y.length).length≤yta:=by
  have e1:=StrLaws.occ_length_le x y 0 x.length (x.length+1);rw[length_partsBetween];omega
 have fin:∀(l:List (Str×Tok)) (k:Nat),l.map (·.1)=yme x y->l.length≤yta->EP X pins σ Q (.ref s.heap.objs.size) { s with heap:=s.heap.push { cls:=.type "list",data:=.seq (strValues l).toArray },toks:=k }:=λl k e hl=>by
  refine⟨.ref s.heap.objs.size,upd H s.heap.objs.size (.lst ((yme x y).map V.str)),I.laid (t':=k) (λb o e=>yca _ e) (yma _) ⟨?_,strValues l,_,?_,yoa _ rfl⟩,rfl,q _ (I.hok.fresh (yma _))⟩
  ·rw[← e,yda,yda];exact hl
  ·rw[← e];exact zdw l
 cases h1:(decide (x.length<y.length)||decide (ydh x<ydh y))
 ·cases hf:(ync x y 0 x.length (x.length+1)).isEmpty
  ·refine yoi ydl (ydk _ _ _) ygk (ymj _ _) (meets_str_split_sep x y t tu h1 hy hf (by omega) hn) ?_;show wants _ _ _ { s with toks:=_,heap:=s.heap.push { cls:=.type "list",data:=.seq (strsFrom s.toks (ylf x (ync x y 0 x.length (x.length+1)) y.length)).toArray } }
   rw[strsFrom_eq];refine fin (numbered s.toks _) _ ((numbered_texts _ _).trans ((if_neg (ne_true_of_eq_false h1)).trans (if_neg (ne_true_of_eq_false hf))).symm) ?_;have e:=congrArg yeg (numbered_texts s.toks (ylf x (ync x y 0 x.length (x.length+1)) y.length));rw[yda] at e;omega
  ·exact yoi ydl (ydk _ _ _) ygk (ymj _ _) (meets_str_split_not_found x y t tu h1 hy hf)
    (fin [(x,t)] s.toks ((if_neg (ne_true_of_eq_false h1)).trans (if_pos hf)).symm (by show 1≤yta;decide))
 ·exact yoi ydl (ydk _ _ _) ygk (ymj _ _) (meets_str_split_cannot_occur x y t tu h1)
   (fin [(x,t)] s.toks (if_pos h1).symm (by show 1≤yta;decide))
theorem zyx:zwk X (.type "str") (λxs H Q=>∃x,xs=[.str x]∧Q (.str x) H):=by
 intro pins s σ H xs us Q I r h;obtain⟨x,rfl,q⟩:=h;obtain⟨u,rfl,t,rfl⟩:=vals1 r;exact PySem.P.str_of_str ⟨.str x,H,I,⟨t,rfl⟩,q⟩
theorem ziv:zwk X (.type "int") (λxs H Q=>Ex2 λx n=>xs=[.str x]∧PySem.intText? x=some n∧x.length≤640∧Q (.int n) H):=by
 intro pins s σ H xs us Q I r h;obtain⟨x,n,rfl,hn,hl,q⟩:=h;obtain⟨u,rfl,t,rfl⟩:=vals1 r;exact PySem.W.KIN.call_text hn hl ⟨.int n,H,I.tok _,⟨_,rfl⟩,q⟩
theorem zifb {i:Nat}{x:Str}{elt iter tg:Expr}{ifs:List Expr}{sc:Scope}{pos spos pos':Pos}{own cap:List Str}{js:List Nat}{wi:TI}{g:TG}{tt:TT}{te:TE}(hN:X.N.Nodup)(hix:X.N[i]?=some x)(hx:Loc X.env.scope x)
  (hc:X.calm=true) (S:zkc X sc) (cp:Caps X sc cap js) (hi:PI X tg iter wi)
  (hg:∀fp s H C,PG (blk X (own++cap) sc fp s H C) tg g) (ht:∀fp s H C,PTs (blk X (own++cap) sc fp s H C) ifs tt) (he:∀fp s H C,PE (blk X (own++cap) sc fp s H C) elt te)
  (hsw:yoo (.ListComp elt [⟨tg,iter,ifs,0⟩] sc pos) (some (.Name x pos')) spos.line X.env=pure true:=by rfl) (hs:∀x,yyj iter X.env x=pure x:=by intro _;rfl)
  (hf:X.fn x=true∨X.env.scope.names.lookup x=some .local:=by first|exact .inl rfl|exact .inr rfl|assumption) :
  PS X (.Assign [.Name x pos'] (.ListComp elt [⟨tg,iter,ifs,0⟩] sc pos) spos) (tAsg (zwnb wi g tt te own.length js) (zljb i)):=by
 intro pins s σ H D I h;rw[exec_Assign_Name_used _ _ _ _ hsw];refine yaa (ysk (yaa ?_));show wpAny _ X.A (do let _ ← comprehension (.ListComp elt [⟨tg,iter,ifs,0⟩] sc pos) sc X.env _ (newList []) false (eval iter X.env) (some (assign (.Name x pos') X.env))) _ _ s
 refine yaa (ymd (yfk (use:=some (assign (.Name x pos') X.env)) (Q:=λ_ s'=>SP X pins D .next s') rfl hs (ztt λy hy hf=>I.ok.has y.1 (S.free y hy hf)) S.kind S.names
  (thn (hi pins s σ H _ I h) λv s1 h1=>thn h1 λitv s2 h2=>?_)) (λ_ s' hq=>yfa (yfa hq)) λ_ _ e=>e)
 obtain⟨it,fp,tn,J,H2,e,I2,T,st2,f2,W,⟨m0,w0⟩,turn⟩:=h2;subst e;refine zahb (RR:=λacc C=>compPost (model X.prog X.w) X.A X.xe (some (assign (.Name x pos') X.env)) (λ_ s'=>SP X pins D .next s') acc C) (Qf:=λys H=>∀p,H p=none->D.nx (σ.set i (some (.ref p))) (upd H p (.lst ys))) hc S cp hg ht he I2 T st2 f2 w0 turn ?_;intro DD C H4 s4 pn ys its nn hD hC hDC I4 n4 o4 hz rv q;have I5:Inv X pins σ (upd H4 DD (.lst ys)) s4:=zbhb (h':=s4.heap) I2 I4 f2 hC hD hDC n4 o4 hz rv (yhk ..);obtain⟨m,hn,_⟩:=I4.loc;have hn':s4.heap.Ns C m:=hn;show wpAny _ X.A (assign (.Name x pos') X.env (.ref DD)) _ _ s4
 refine wpAny_assign_Name (zew I5 hN hix hx (v:=.ref DD) (u:=.ref DD) rfl (λs6 I6 ⟨a,hsb,ha⟩=>?_) hf);have lt2:X.env.locals<s2.heap.objs.size:=I2.lt;have cellC:∀y c,X.env.cells.lookup y=some c->c≠C:=λy c e=>by
  obtain⟨v,z⟩:=I2.cell y c e;exact yeb (ypa z.lt hC)
 have aC:C≠a:=by
  rcases ha with rfl|ha
  ·exact ygh (ypa lt2 hC)
  ·exact yub (cellC _ _ ha)
 refine⟨m,hn'.sameBut hsb aC,λh' hs'=>?_⟩;have nC:(upd H4 DD (.lst ys)) C=none:=by rw[zva (yub hDC)];exact I4.free
 have I7:=I6.turned (h':=h') (t':=s6.toks) (it:=C) (λb o hb e=>(hs'.2 b hb).trans e) nC (ygh (ypa lt2 hC)) (.inr (yxa I2.sz hC)) cellC (λp hp=>by
  exact yeb (ypa (yqa (I2.pin p hp).1) hC))
 exact⟨_,_,I7,q DD n4⟩
def Itv (K:yba)(a:Addr)(xs:List V):It :=
 ⟨λi H=>SqL K H a xs∧i<xs.length,λi H x H'=>H'=H∧xs[xs.length-1-i]?=some x,λi H=>SqL K H a xs∧i=xs.length⟩
def iRev (K:yba)(ta:TA):TI:=fun σ H R=>ta σ H λvs H1=>Ex2 λa xs=>vs=[.ref a]∧SqL K H1 a xs∧R (Itv K a xs) H1
theorem zlhb {P:ytb}{w:World}{K:yba}{tg:Expr}(a it:Addr)(xs:List V):Turn P w K tg (Itv K a xs) [it] it (λi h=>i≤xs.length∧h.IsRevIter it a ((xs.length:Int)-1-(i:Int))) where
 mem:=by simp
 obj:=λi h st b hb=>by
  have e:b=it:=by simpa using hb
  subst e;obtain⟨_,o,e,c,d⟩:=st;exact⟨o,e,λv z=>by rw[d] at z;cases z⟩
 keep:=λi h h' st k=>⟨st.1,st.2.at λo e=>k it (by simp) o e⟩
 item:=by
  intro X hP hw hK hc i pins s σ H E I hf st hg;subst hP hw hK;obtain⟨hq,hlt⟩:=hg;obtain⟨f0,f1,f2,f3,f4,f5⟩:=hf it (by simp);obtain⟨its,rv,p,hz⟩:=I.list hq;have hl:=rv.length;have hx:xs[xs.length-1-i]?=some (xs[xs.length-1-i]'(by omega)):=ywa (by omega);obtain⟨u,hu,ru⟩:=rv.get hx;have hit:=st.2;rw[show (xs.length:Int)-1-(i:Int)=((xs.length-1-i:Nat):Int) by omega] at hit;refine wpAny_pyNext_rev_item hit p.isList (x:=u) (by simpa using hu) λh' hit' hs'=>?_;rw[show ((xs.length-1-i:Nat):Int)-1=(xs.length:Int)-1-((i+1:Nat):Int) by omega] at hit';have I1:Inv X pins σ H { s with heap:=h' }:=I.turned (t':=s.toks) (λb o hb e=>(hs'.2 b hb).trans e) f0 f1 f3 f4 f5;obtain⟨o,e,c',d⟩:=id hit';exact⟨u,rfl,zkgb (s:={ s with heap:=h' }) e c' d (by decide) ⟨_,H,I1,ru,⟨rfl,hx⟩,⟨hlt,hit'⟩,λb hb=>(hf b hb).1⟩⟩
 done:=by
  intro X hP hw hK hc i pins s σ H E I hf st hg;subst hP hw hK;obtain⟨hq,e⟩:=hg;obtain⟨f0,f1,f2,f3,f4,f5⟩:=hf it (by simp);have hit:=st.2;rw[show (xs.length:Int)-1-(i:Int) = -1 by omega] at hit;exact wpAny_pyNext_rev_end (I.ok.hd hc) hit λh' he'=>⟨rfl,I.turned (t':=s.toks) (λb o hb e=>he' b o hb e) f0 f1 f3 f4 f5⟩
 self:=λ_ _ _ _ _ st h=>wpAny_pyIter_revIter st.2 h
theorem boot_reversed:ydg "reversed" = some (.type "reversed"):=by decide +kernel
theorem zfz {tg a:Expr}{ta:TA}{p pos:Pos}(hg:Gl X "reversed")(hm:X.mg "reversed" = none)(ha:PA X [a] ta)(hs:yic [a] X.env=[(false,eval a X.env)]:=by rfl):PI X tg (.Call (.Name "reversed" p) [a] [] pos) (iRev X.K ta):=by
 intro pins s σ H R I h;refine Call_ (zkt I hg hm boot_reversed (yke (thn (ha pos pins s σ H _ I h) λus s1 ⟨vs,H1,I1,r1,q1⟩=>?_) hs rfl));obtain⟨b,xs,e,hq,q⟩:=q1;subst e;obtain⟨u,rfl,ru⟩:=vals1 r1;cases ru;obtain⟨its,rv,pl,hz⟩:=I1.list hq;have hl:=rv.length;refine call_reversed_list pl.isList ?_;have hit:(s1.heap.push (revObj b ((its.toArray.size:Int)-1))).IsRevIter s1.heap.objs.size b ((xs.length:Int)-1-((0:Nat):Int)):=by
  refine⟨_,yoa _ rfl,rfl,?_⟩;show Data.fields #[.ref b,rawInt _]=Data.fields #[.ref b,rawInt _]
  rw[yka,← hl,show (xs.length:Int)-1-((0:Nat):Int)=(xs.length:Int)-1 by omega]
 refine wpAny_pyIter_revIter (s:={ s1 with heap:=s1.heap.push (revObj b ((its.toArray.size:Int)-1)) }) hit ?_;refine⟨s1.heap.objs.size,[s1.heap.objs.size],_,_,H1,rfl,I1.kept (t':=s1.toks) λb o e=>yca _ e,zlhb b _ xs,⟨ylb _,hit⟩,λc hc=>?_,q⟩;have e:c=s1.heap.objs.size:=by simpa using hc
 subst e;exact I1.fpOk (yma _) (I1.hok.fresh (yma _))
end
theorem zvmb {K:yba}{a:Addr}{xs:List V}{g:TG}{tb:TS}{D:Ends}{σ:St}{H:Hp}(Pv:Nat->St->Hp->Prop)(h0:Pv 0 σ H)(hl:∀i σ H,i≤xs.length->Pv i σ H->SqL K H a xs)
  (hs:∀i x σ H,i<xs.length->xs[xs.length-1-i]?=some x->Pv i σ H->g x σ H fun σ2 H2=>tb { D with nx:=Pv (i+1),ct:=Pv (i+1),bk:=D.nx } σ2 H2) (hd:∀ σ H,Pv xs.length σ H->D.nx σ H) :
  ∃W:Nat->Nat->St->Hp->Prop,(∃m,W 0 m σ H)∧∀i m σ H,W i m σ H →
   ((Itv K a xs).stop i H∧D.nx σ H)∨((Itv K a xs).go i H∧∃N:St->Hp->Prop,(∀ σ' H',N σ' H'->∃m',m'<m∧W (i+1) m' σ' H')∧∀x H',(Itv K a xs).yld i H x H'->g x σ H' fun σ2 H2=>tb { D with nx:=N,ct:=N,bk:=D.nx } σ2 H2):=by
 refine⟨λi m σ H=>m=xs.length-i∧i≤xs.length∧Pv i σ H,⟨xs.length,by simp,ylb _,h0⟩,?_⟩;rintro i m σ H ⟨rfl,hi,p⟩;have q:=hl i σ H hi p
 by_cases hlt:i<xs.length
 ·refine .inr ⟨⟨q,hlt⟩,Pv (i+1),fun σ' H' p'=>⟨xs.length-(i+1),by omega,rfl,hlt,p'⟩,λx H' y=>?_⟩;obtain⟨e,y⟩:=y;subst e;exact hs i x σ _ hlt y p
 ·have e:i=xs.length:=by omega
  subst e;exact .inl ⟨⟨q,rfl⟩,hd σ H p⟩
end L2
namespace L2
open PySem PySem.Spec PyProof.Rows
section
variable {X:Cx}{a:Addr}{D:List (Str×yjp)}
theorem zpw (T:yto X.base a D):OpR X (yxc .NotIn) (λx y H Q=>∃k,x = .str k∧y = .ref a∧Q (.bl (!KTD.inKeys k D)) H):=by
 intro pins s σ H x y v u Q I rx ry h;obtain⟨k,rfl,rfl,q⟩:=h;obtain⟨t,rfl⟩:=rx;cases ry;exact KTD.notin_text ⟨T,I.bk⟩ ⟨.bl _,H,I.tok _,rfl,q⟩
theorem zkkb (T:yto X.base a D):IxR X (λx y H Q=>Ex2 λk i=>x = .ref a∧y = .str k∧ytm k D=some (.flat (.int i))∧Q (.int i) H):=by
 intro value slice pins s σ H x y v u Q I rx ry h hs;obtain⟨k,i,rfl,rfl,hd,q⟩:=h;cases rx;obtain⟨tk,rfl⟩:=ry;have T':KTD.Here X.base s.heap a D:=⟨T,I.bk⟩;refine subscriptTail_builtin_flat T'.typeIs ymf.lookup ?_ hs;unfold ysn
 try with_reducible refine yxb ?_
 refine yaa (ybk T'.typeIs (by decide) ?_);refine yaa (yoc (name:=yof "__getitem__") T'.typeIs ymf
  (yqc ymf T'.typeIs entry_dict_getitem ?_ (args_dict_getitem _ _)))
 show wpAny _ _ (dictGet a (.str k tk) >>= _) _ _ s
 refine yaa (KTD.dictGet_text T' (λd v ha hv=>?_) λhn=>?_)
 ·rw[hd] at ha;cases ha;have hv':Reads s.heap v (.int i) []:=hv s.heap;obtain⟨t,rfl⟩:∃t,v=Value.int i t:=by
   cases hv' with
   | int _ t=>exact⟨t,rfl⟩
  have fin:EP X pins σ Q (.int i t) { s with toks:=s.toks+1 }:=⟨.int i,H,I.tok _,⟨t,rfl⟩,q⟩;exact yfa ⟨Value.int i t,rfl,yfa ⟨λb z=>(nomatch z),fin⟩⟩
 ·rw[hd] at hn;cases hn
end
end L2
namespace L2
open PySem PySem.Spec PyProof.Rows
section
variable {X:Cx}
@[irreducible] def rStrAny:List V->Hp->VK->Prop:=λxs H Q=>(∃x,xs=[.str x]∧Q (.str x) H)∨∃i:Int,xs=[.int i]∧i.natAbs.log2<1920∧Q (.str (toString i)) H
theorem zqp:zwk X (.type "str") rStrAny:=by
 intro pins s σ H xs us Q I r h;unfold rStrAny at h
 rcases h with h|h
 ·exact zyx pins s σ H xs us Q I r h
 ·exact zzx pins s σ H xs us Q I r h
end
end L2
namespace L2
open PySem PySem.Spec PyProof.Rows
section
variable (K:yba){X:Cx}{a b o e:Expr}{es:List Expr}{ta tb to te:TE}{t:TA}{name f:Str}{apos cpos pos:Pos}{T id:String}{r:V->List V->Hp->VK->Prop}
theorem zkk (hK:X.K=K:=by rfl):IxR X (rIxT K):=hK▸zlc
theorem zjdb (hK:X.K=K:=by rfl):OpR X (yxc .In) (rIn K false):=hK▸zge
theorem zrp (hK:X.K=K:=by rfl):zwk X (.builtin "isinstance") (λxs H Q=>Ex4 λx c t b=>xs=[x,c]∧TyOf K H x t∧((∃n,c = .ty n∧ywb K t (.type n)=some b)∨(∃a,c = .ref a∧ywb K t (.ref a)=some b))∧Q (.bl b) H):=hK▸zlh
theorem zamb (hu:X.A.units+64<cLine)(hK:X.K=K:=by rfl):OpR X (yxc .NotEq) (λx y H Q=>Ex2 λd e=>DV K H x d∧DV K H y e∧yid d=true∧yid e=true∧Q (.bl (!PyData.eqv d e)) H):=hK▸ztbb hu
end
end L2
namespace SSet
open PySem PySem.Spec PyProof.Rows
theorem zgpb (t:yef)(n:Nat):(t.orStandIn n).led=t.led∧(t.plain=false->(t.orStandIn n).plain=false):=by
 unfold yef.orStandIn
 split
 ·exact⟨rfl,id⟩
 ·exact⟨rfl,λ_=>rfl⟩
theorem zlmb (t:yef)(es:Array (Int×Value))(h:Int)(x:Value):(layNew t es h x).2.1.led=t.led:=by
 unfold layNew
 split
 ·exact (zgpb _ _).1
 ·rfl
theorem zyfb (t:yef)(es:Array (Int×Value))(k:Nat):(yim t es k).2.1.led=t.led∧(t.plain=false->(yim t es k).2.1.plain=false):=by
 unfold yim
 split
 ·rename_i u order e;have q:u.led=t.led∧u.plain=t.plain:=by
   unfold yef.relaid yef.laid at e;simp only[bind,Option.bind,pure] at e
   split at e
   ·cases e
   ·injection e with e
    injection e with e _
    rw[← e];exact⟨rfl,rfl⟩
  dsimp only
  split
  ·exact⟨q.1,λz=>q.2.trans z⟩
  ·exact⟨rfl,λ_=>rfl⟩
 ·exact⟨rfl,λ_=>rfl⟩
def SS (prog:ytb)(w:World)(h:Heap)(a:Addr)(D:List Str)(b:Bool):Prop :=
 ∃o es ep t,h.get? a=some o∧o.ExactSet∧o.data = .set es ep t∧yvn (ypc prog w) es.toList∧(es.toList.map λe=>strOf e.2).Perm D∧es.size<yik∧t.fits es.size=true∧t.led=b∧(es.size=0∨t.plain=false)
section
variable {prog:ytb}{w:World}{A:Around}{E:Value->Shared->Prop}{s:Shared}
theorem SS.keep {h h':Heap}{a:Addr}{D:List Str}{b:Bool}(x:SS prog w h a D b)(k:∀o,h.get? a=some o->h'.get? a=some o):SS prog w h' a D b:=by
 obtain⟨o,es,ep,t,ho,r⟩:=x;exact⟨o,es,ep,t,k _ ho,r⟩
theorem znkb {es:List (Int×Value)}(h:yvn (ypc prog w) es){e:Int×Value}(he:e∈es):∃x t,e.2 = .str x t∧e.1=(ypc prog w).hash x:=by
 obtain⟨⟨k,hk,hh⟩,_⟩:=h e he;obtain⟨t,et⟩:=ypi (x:=k) (v:=e.2) hk;exact⟨k,t,et,hh⟩
theorem zmz {es:List (Int×Value)}{D:List Str}{x:Str}(hel:yvn (ypc prog w) es)(hp:(es.map λe=>strOf e.2).Perm D) :
  x∈D↔∃e∈es,(ypc prog w).is x e.2=true:=by
 rw[← hp.mem_iff,ybb]
 constructor
 ·rintro⟨e,he,rfl⟩;obtain⟨y,t,e1,_⟩:=znkb hel he;refine⟨e,he,?_⟩;rw[e1];show yog y (.str y t)=true
  simp[yog]
 ·rintro⟨e,he,hi⟩;obtain⟨t,e1⟩:=ypi (x:=x) (v:=e.2) hi;exact⟨e,he,by rw[e1];rfl⟩
theorem zjbb {g:Bool->Sem Unit}(hg:∀(b:Bool) (s₁:Shared) (Q':Unit->Shared->Prop),Q' () s₁->wpAny (model prog w) A (g b) Q' E s₁)
  {a:Addr} {o:Obj} {es:Array (Int×Value)} {ep:Nat} {t:yef} (ho:s.heap.get? a=some o) (hex:o.ExactSet) (hd:o.data = .set es ep t)
  {fs:Array (Int×Value)} {u:yef} {D:List Str} {b:Bool} (hel:yvn (ypc prog w) fs.toList) (hp:(fs.toList.map λe=>strOf e.2).Perm D) (hb:fs.size<yik) (hf:u.fits fs.size=true) (hl:u.led=b) (hpl:u.plain=false)
  {dm:Bool} {R:Option Bool->Shared->Prop} (h:∀h',ywc a s.heap h'->SS prog w h' a D b->R (some true) { s with heap:=h' }) :
  wpAny (model prog w) A (do
    storeSet a fs u
    if (!dm&&u.tooFull)=true then do
        g (yim u fs (yag fs.size)).2.2
        storeSet a (yim u fs (yag fs.size)).1 (yim u fs (yag fs.size)).2.1
        pure (some true)
     else pure (some true)) R E s:=by
 have lim:∀{n:Nat},n<yik->n≤yta:=λz=>yjk z;refine yaa (wpAny_storeSet_of ho hd ?_ (lim hb));have k1:(s.heap.update a (ykk fs u)).get? a=some { o with data:=.set fs (ep+1) u }:=by
  have z:=yvd (ykk fs u) ho (by rw[yuo fs u hd];rfl);rw[yuo fs u hd] at z;exact z
 have b1:=yne s.heap a (ykk fs u)
 split
 ·have p2:=relayAll_perm u fs (yag fs.size);have f2:=relayAll_fits u fs (yag fs.size);obtain⟨l2,q2⟩:=zyfb u fs (yag fs.size);generalize yim u fs (yag fs.size)=R2 at p2 f2 l2 q2 ⊢;obtain⟨fs2,u2,gv⟩:=R2;dsimp only at p2 f2 l2 q2 ⊢;have z2:fs2.size=fs.size:=by rw[← yya,p2.length_eq,yya]
  refine yaa (hg _ _ _ ?_);refine yaa (wpAny_storeSet_of k1 rfl ?_ (lim (by rw[z2];exact hb)));have k2:((s.heap.update a (ykk fs u)).update a (ykk fs2 u2)).get? a=some { o with data:=.set fs2 (ep+1+1) u2 }:=by
   have z:=yvd (ykk fs2 u2) k1 (by rw[yuo fs2 u2 rfl];rfl);rw[yuo fs2 u2 rfl] at z;exact z
  exact yfa (h _ (b1.trans (yne _ a _)) ⟨_,fs2,_,u2,k2,hex,rfl,yvn.perm hel p2,(p2.map _).trans hp,by rw[z2];exact hb,f2,l2.trans hl,.inr (q2 hpl)⟩)
 ·exact yfa (h _ b1 ⟨_,fs,_,u,k1,hex,rfl,hel,hp,hb,hf,hl,.inr hpl⟩)
theorem add_str {a:Addr}{D:List Str}{b:Bool}{x:Str}{tk:Tok}{Q:Bool->Shared->Prop}(hS:SS prog w s.heap a D b)(hroom:D.length+1<yik)
  (h:∀h' r,ywc a s.heap h'->SS prog w h' a (if x∈D then D else D++[x]) b->Q r { s with heap:=h' }) :
  wpAny (model prog w) A (setAddHashed a (.str x tk) ((ypc prog w).hash x)) Q E s:=by
 obtain⟨o,es,ep,t,ho,hex,hd,hel,hp,hb,hf,hl,hpl⟩:=hS;have key:(ypc prog w).is x (.str x tk)=true:=by
  show yog x (.str x tk)=true
  simp[yog]
 have hz:es.size=D.length:=by rw[← hp.length_eq,yda,yya]
 unfold setAddHashed setAddHashedIn;refine yxb (yaa (yhe ho hd hf ?_));dsimp only;rw[byScan_of (x:=.str x tk) rfl hb hel];simp only[↓reduceIte];unfold setAddByScan;refine yaa (yaa (yxh (yaa (wpAny_setScan_of key ho hd hf hel ?_))));have mi:=zmz (x:=x) hel hp;cases hr:List.findIdx? (λe=>(ypc prog w).is x e.2) es.toList with
 | some j =>
  obtain⟨hj,hpj,_⟩:=List.findIdx?_eq_some_iff_getElem.mp hr;have hin:x∈D:=mi.mpr ⟨_,yio hj,hpj⟩;dsimp only;refine yfa (yfa ?_);have z:=h s.heap false (yhk a s.heap);rw[if_pos hin] at z;exact z ⟨o,es,ep,t,ho,hex,hd,hel,hp,hb,hf,hl,hpl⟩
 | none =>
  have hno:¬ x∈D:=λhin=>by
   obtain⟨e,he,hi⟩:=mi.mp hin;have z:=List.findIdx?_eq_none_iff.mp hr e he;rw[hi] at z;cases z
  simp only[if_neg hno] at h;dsimp only;have p1:=layNew_perm t es ((ypc prog w).hash x) (.str x tk);have f1:=layNew_fits t es ((ypc prog w).hash x) (.str x tk);have l1:=zlmb t es ((ypc prog w).hash x) (.str x tk);generalize layNew t es ((ypc prog w).hash x) (.str x tk)=L at p1 f1 l1 ⊢;obtain⟨fs,u,dm,gave⟩:=L;dsimp only at p1 f1 l1 ⊢;rw[ywn] at p1;have el1:yvn (ypc prog w) fs.toList:=(hel.push key rfl).perm p1;have pp:(fs.toList.map λe=>strOf e.2).Perm (D++[x]):=by
   refine (p1.map _).trans ?_;rw[yib];exact yzl.append hp (yrj _)
  have z1:fs.size=D.length+1:=by rw[← yya,p1.length_eq,yea,yya,hz];rfl
  have give:∀(c:Bool) (s₁:Shared) (Q':Unit->Shared->Prop),Q' () s₁->wpAny (model prog w) A (match c with|true=>rule "set.scan.the-table-gave-way"|false=>pure ()) Q' E s₁:=λc s₁ Q' q=>by
   cases c
   ·exact yfa q
   ·exact yxh q
  refine yaa (give _ _ _ ?_)
  split
  ·refine yaa ?_;rw[hashByValue_scannable 8 (x:=.str x tk) rfl];refine yfa ?_;refine zjbb (b:=b) (D:=D++[x]) give ho hex hd el1 pp (by omega) (yef.fits_plain_off f1) (l1.trans hl) rfl ?_;intro h' sb S';exact yfa (h h' _ sb S')
  ·rename_i np;refine yaa (yfa ?_);simp only[↓reduceIte];refine zjbb (b:=b) (D:=D++[x]) give ho hex hd el1 pp (by omega) f1 (l1.trans hl) (by simpa using np) ?_;intro h' sb S';exact yfa (h h' _ sb S')
def dd (xs:List Str):List Str:=xs.foldl (λD x=>if x∈D then D else D++[x]) []
theorem zvz (xs:List Str)(x:Str):dd (xs++[x])=if x∈dd xs then dd xs else dd xs++[x]:=by
 unfold dd;rw[List.foldl_append];rfl
theorem zdqb:∀n (xs:List Str),(dd (xs.take n)).length≤n
 | 0,xs=>yma 0
 | n+1,xs=>by
  have ih:=zdqb n xs;rw[ykb];cases e:xs[n]? with
  | none =>
   rw[Option.toList_none,ysb];omega
  | some x =>
   rw[ykc,zvz]
   split
   ·omega
   ·rw[yea,ywe];omega
theorem zkhb {R:Result->Shared->Prop}{I S:Addr}{fp wr:List Addr}{n:Nat}{P:Nat->Value->Prop}{St:Nat->Heap->Prop}{b:Bool}(W:Walks prog w A.in1 I fp wr n P St)(hSf:S∉fp)(xs:List Str)
  (hval:∀i v,P i v->∃x t,xs[i]?=some x∧v = .str x t) (hn:n+1<yik) :
  ∀(k i:Nat) (s:Shared),n-i=k->i≤n->St i s.heap->SS prog w s.heap S (dd (xs.take i)) b →
   (∀h' tk,SS prog w h' S (dd (xs.take n)) b->(∀c o,c∉S::wr->s.heap.get? c=some o->h'.get? c=some o)->R (.ok (.ret .none)) { s with heap:=h',toks:=tk }) →
   yvi (model prog w) A (.builtin "set.update.loop" ⟨[.ref S,.ref I],[]⟩) R s:=by
 have nw:S∉wr:=λz=>hSf (W.sub _ z);intro k
 induction k with
 | zero =>
  intro i s hk hi st hS hR;obtain rfl:i=n:=by omega
  refine yig yyg ?_;rw[yff yfe _];show wpAny _ A.in1 (pyNext (.ref I) >>= _) _ _ s
  refine yaa (W.done s _ _ st λh' tk keep=>?_);show wpAny _ A.in1 (ret Value.none) _ _ _
  exact yfa (hR h' tk (hS.keep λo e=>keep S o nw e) λc o hc e=>keep c o (λz=>hc (yna _ z)) e)
 | succ k ih =>
  intro i s hk hi st hS hR;have hlt:i<n:=by omega
  refine yig yyg ?_;rw[yff yfe _];show wpAny _ A.in1 (pyNext (.ref I) >>= _) _ _ s
  refine yaa (W.item i s _ _ hlt st λv h1 tk hP st1 keep=>?_);obtain⟨x,t,hx,rfl⟩:=hval i v hP;have hS1:SS prog w h1 S (dd (xs.take i)) b:=hS.keep λo e=>keep S o nw e;show wpAny _ A.in1 (ysm [Value.str x t] (setAdd S (.str x t)) >>= _) _ _ _
  refine yaa (yxb ?_);unfold setAdd;refine yxb (yaa ((ypc prog w).pyHash (k:=x) (by show yog x (.str x t)=true;simp[yog]) ?_));have hle:=zdqb i xs;refine add_str (b:=b) (D:=dd (xs.take i)) (s:={ s with heap:=h1,toks:=tk+1 }) hS1 (by omega) λh2 r sb S2=>?_;have e2:(if x∈dd (xs.take i) then dd (xs.take i) else dd (xs.take i)++[x])=dd (xs.take (i+1)):=by
   rw[ykb,hx,ykc,zvz]
  rw[e2] at S2;refine yfa ⟨yli yfe _,ih (i+1) _ (by omega) hlt (W.frame _ h1 _ st1 λc hc o e=>?_) S2 λh3 tk3 S3 keep3=>?_⟩
  ·rw[sb.2 c (λz:c=S=>hSf (by rw[← z];exact hc))];exact e
  ·refine hR h3 tk3 S3 λc o hc e=>keep3 c o hc ?_;show h2.get? c=some o
   rw[sb.2 c (λz:c=S=>hc (by rw[z];exact yia))];exact keep c o (λz=>hc (yna _ z)) e
abbrev empt (w:World):Obj:={ cls:=.type "set",dict:=none,data:=.set #[] 0 (.fresh 0 0 (!w.params.followText "set-order")) }
theorem zkmb (v:Value){Q1:Value->Shared->Prop}(h:Q1 (.ref s.heap.objs.size) { s with heap:=s.heap.push (empt w) }) :
  yvi (model prog w) A (.call (.builtin "set.__new__") ⟨[.type "set",v],[]⟩) (wants Q1 E) s:=by
 refine codeAny_of_tree ?_;have sb:=sub_set_self;show wpAny _ A.in1 (checkBuiltinCall "set.__new__" ⟨[.type "set",v],[]⟩ >>= λ_=>again (.builtin "set.__new__" ⟨[.type "set",v],[]⟩)) _ _ s
 refine yaa (wpAny_of_eq (PySem.F.newCall_set_1 v) (yfa ⟨yli yam _,yig PySem.F.entry_set_new ?_⟩));rw[yff yam _];obtain⟨hp,gn,dr,tk,os⟩:=s;unfold ysf.«set.__new__»;unfold ysf.Frozenset.newClass;dsimp only
 wp_walk
 refine ych (yfa ?_);dsimp only[newObj];refine yaa (wpAny_alloc (yfa (yfa ?_)));exact h
theorem zoeb:∀{us:List Value} {xs:List Str},yxk us xs->∀(i:Nat) (v:Value),us[i]?=some v->∃x t,xs[i]?=some x∧v = .str x t
 | _,_,.nil,i,v,e=>by simp at e
 | _,_,.cons x t r,0,v,e=>by
  rw[ybe] at e;cases e;exact⟨x,t,rfl,rfl⟩
 | _,_,.cons x t r,i+1,v,e=>by
  rw[yyb] at e;obtain⟨y,u,h1,h2⟩:=zoeb r i v e;exact⟨y,u,by rw[yyb];exact h1,h2⟩
theorem zbnb (h:Heap):SS prog w (h.push (empt w)) h.objs.size [] (!w.params.followText "set-order") :=
 ⟨_,#[],0,_,yoa _ rfl,⟨rfl,rfl,rfl⟩,rfl,λe he=>by simp at he,.nil,by decide,by rfl,rfl,.inl rfl⟩
theorem set_list {l:Addr}{its:Array Value}{xs:List Str}{Q:Value->Shared->Prop}(hh:A.handled=none)(hl:s.heap.IsList l its)(hi:yxk its.toList xs)(hb:its.size+1<yik)
  (h:∀(h':Heap) (tk:Nat),SS prog w h' s.heap.objs.size (dd xs) (!w.params.followText "set-order")->(∀c o,s.heap.get? c=some o->h'.get? c=some o)->Q (.ref s.heap.objs.size) { s with heap:=h',toks:=tk }) :
  wpAny (model prog w) A (call (.type "set") [.ref l]) Q E s:=by
 obtain⟨cM,tM,mro⟩:=ykd.mro;have made:=ykd.made;have subs:=ykd.sub;have notT:=ykd.notType;have canC:=ykd.canCreate;have chk:=PySem.F.typeCall_set_1 (.ref l);refine wpAny_call (codeAny_of_tree ?_);show wpAny _ _ (callAny (.type "set") ⟨[.ref l],[]⟩) _ _ _
 refine yfa ⟨Code.quiet_builtin _ (by decide +kernel),yig PySem.F.entry_type_call ?_⟩;rw[Around.under_plain (weight_type_call_type "set" [Value.ref l] []) rfl]
 repeat (any_goals (first|assumption|wp_step))
 refine yci (zkmb (.ref l) (E:=E) (Q1:=λob s1=>ob = .ref s.heap.objs.size∧s1={ s with heap:=s.heap.push (empt w) }) ⟨rfl,rfl⟩) λr s1 hr=>?_;cases r with
 | error e=>exact hr
 | ok fl =>
  cases fl with
  | ret ob =>
   obtain⟨rfl,rfl⟩:=hr;have g0:(s.heap.push (empt w)).get? s.heap.objs.size=some (empt w):=yoa _ rfl;have ty0:yhn { s with heap:=s.heap.push (empt w) } (.ref s.heap.objs.size) "set":=⟨_,g0,rfl⟩;have lk:=ykd.init.lookup;have bd:=ykd.init.bind (.ref s.heap.objs.size)
   repeat (any_goals (first|assumption|wp_step))
   refine yci (codeAny_call_builtin (R:=wants (λr s2=>r = .none∧∃h' tk,s2={ s with heap:=h',toks:=tk }∧SS prog w h' s.heap.objs.size (dd xs) (!w.params.followText "set-order") ∧
     (∀c o,s.heap.get? c=some o->h'.get? c=some o)) E) ykd.init.plain PySem.F.entry_set_init (check_set_init_1 ty0 ?_)) λr2 s2 hr2=>?_
   ·obtain⟨ol,e1,e2,nl,e3⟩:=hl;obtain⟨oc,od,oD,osl⟩:=ol;dsimp only at e2 e3;subst e2 e3;have e1':(s.heap.push (empt w)).get? l=some { cls:=.type "list",dict:=od,data:=.seq its nl,slots:=osl }:=yca _ e1;have q1:=PySem.F.sub_list_set;have q2:=PySem.F.sub_list_frozenset;have q3:(Value.type "list" == Value.type "dict")=false:=by decide
    have L1:(s.heap.push (empt w)).IsList l its:=⟨_,e1',rfl,nl,rfl⟩;have lt:l<s.heap.objs.size:=yqa e1;unfold ysf.«set.__init__» noKeywords ysf.Frozenset.updateFrom;generalize hPI:pyIter=PI
    wp_walk
    subst hPI;refine yuh L1 (yaa (wpAny_runValue ?_));have ne:l≠(s.heap.push (empt w)).objs.size:=by
     rw[ybf];exact yeb (yyh lt)
    have nf:s.heap.objs.size∉[(s.heap.push (empt w)).objs.size,l]:=by
     rw[ybf];intro z
     rcases yha.mp z with z|z
     ·exact absurd z (yeb (ybh _))
     ·exact absurd (yja.mp z) (ygh lt)
    have hv:∀(i:Nat) (v:Value),its[i]?=some v->∃x t,xs[i]?=some x∧v = .str x t:=λi v e=>zoeb hi i v (by rw[ycc];exact e);have hx:xs.take its.size=xs:=ysa (by rw[← yya,hi.length];exact yma _);refine zkhb (b:=!w.params.followText "set-order") (Walks.list (by simp[hh]) _ l ne its) nf xs hv hb (its.size-0) 0 _ (by omega) (ylb _) ⟨⟨_,yoa _ rfl,rfl,rfl⟩,L1.push _⟩ ?S0 ?R0
    case S0=>exact (zbnb s.heap).keep λo e=>yca _ e
    case R0 =>
     intro h' tk S' keep;rw[hx] at S';show wpAny _ _ _ _ _ _
     refine yfa ?_;show wpAny _ _ (ret Value.none) _ _ _
     refine yfa ⟨rfl,h',tk,rfl,S',λc o e=>?_⟩;have clt:=yqa e;refine keep c o ?_ (yca _ (yca _ e));rw[ybf];intro z
     rcases yha.mp z with z|z
     ·exact absurd z (yeb clt)
     ·exact absurd (yja.mp z) (yeb (yyh clt))
   ·cases r2 with
    | error e=>exact hr2
    | ok fl2 =>
     cases fl2 with
     | ret r =>
      obtain⟨rfl,h',tk,rfl,S',keep⟩:=hr2
      repeat (any_goals (first|assumption|wp_step))
      exact h _ _ S' keep
     | next=>exact hr2.elim
     | brk=>exact hr2.elim
     | cont=>exact hr2.elim
  | next=>exact hr.elim
  | brk=>exact hr.elim
  | cont=>exact hr.elim
end
end SSet
namespace SSet
open PySem PySem.Spec PyProof.Rows
theorem zbu:Slot "set_iterator" "__next__" "set_iterator.__next__":=.of (owner:="set_iterator") (n:="__next__") (by rw[typeLookup_type,ybm];kernel_rfl) (by decide +kernel) (by decide +kernel) (by decide +kernel) (by first|exact .inl (by decide +kernel)|exact .inr (by decide +kernel)) (by rw[yom];kernel_rfl)
theorem zymb:entryFor table "set_iterator.__next__" = some ysf.«set_iterator.__next__»:=entryFor_of_fast (by kernel_rfl)
theorem zjnb (v:Value):argsOk "set_iterator.__next__" ⟨[v],[]⟩:=by unfold argsOk;kernel_rfl
theorem zzmb:entryFor table "set.__iter__" = some ysf.«frozenset.__iter__»:=entryFor_alias (id':="frozenset.__iter__") (by kernel_rfl) rfl (by decide +kernel) (by kernel_rfl)
theorem zyeb:Slot "set_iterator" "__iter__" "set_iterator.__iter__":=.of (owner:="set_iterator") (n:="__iter__") (by rw[typeLookup_type,ybm];kernel_rfl) (by decide +kernel) (by decide +kernel) (by decide +kernel) (by first|exact .inl (by decide +kernel)|exact .inr (by decide +kernel)) (by rw[yom];kernel_rfl)
theorem zxmb:entryFor table "set_iterator.__iter__" = some ysf.«dict_keyiterator.__iter__»:=entryFor_alias (id':="dict_keyiterator.__iter__") (by kernel_rfl) rfl (by decide +kernel) (by kernel_rfl)
theorem zinb (v:Value):argsOk "set_iterator.__iter__" ⟨[v],[]⟩:=by unfold argsOk;kernel_rfl
def zpv (h:Heap)(it a:Addr)(first:Value)(i n ep:Nat):Prop:=h.get? it=some { cls:=.type "set_iterator",dict:=none,data:=.fields #[first,rawInt i,.ref a,rawInt n,rawInt ep],slots:=#[] }
def SObj (h:Heap)(a:Addr)(es:Array (Int×Value))(ep:Nat)(t:yef):Prop:=∃o,h.get? a=some o∧o.cls = .type "set" ∧ o.data = .set es ep t∧t.fits es.size=true
theorem SObj.keep {h h':Heap}{a:Addr}{es:Array (Int×Value)}{ep:Nat}{t:yef}(x:SObj h a es ep t)(k:∀o,h.get? a=some o->h'.get? a=some o):SObj h' a es ep t:=by
 obtain⟨o,ho,r⟩:=x;exact⟨o,k _ ho,r⟩
section
variable {prog:ytb}{w:World}{A:Around}{E:Value->Shared->Prop}{s:Shared}
theorem zpv.typeIs {it a:Addr}{f:Value}{i n ep:Nat}(h:zpv s.heap it a f i n ep):s.TypeIs (.ref it) "set_iterator":=⟨_,h,rfl⟩
theorem zfw {Q:Option Value->Shared->Prop}{F:Fin->Shared->Prop}(hh:A.handled=none)(hQ:∀h',(∀b o,s.heap.get? b=some o->h'.get? b=some o)->Q none { s with heap:=h' }) :
  wpAny (model prog w) A.in1 (newExc (.type "StopIteration") [] >>= λx=>yno x) F (λe s'=>wpAny (model prog w) A (do
     let b ← yxn e (Value.type "StopIteration")
     if b=true then pure none else throw e) Q E s') s:=by
 refine yaa ?_;simp only[newExc,newTuple];refine yaa (ytc ?_ (by size_fits));refine yaa (m:=ysj _ _) (wpAny_of_eq (a:=Value.none) (by first|rfl|(simp only[ysj];rfl)) (ytc ?_ (by size_fits)));simp only[yno];refine yaa (wpAny_handled ?_);rw[show A.in1.handled=none from hh];refine yaa (yfa (wpAny_throw ?_));refine yaa (yel (b:=true) (T:="StopIteration") ⟨_,yoa _ rfl,rfl⟩ isSubtype_stop ?_);exact yfa (hQ _ λb o e=>yca _ (yca _ e))
theorem zou {it a:Addr}{f:Value}{i n ep:Nat}{es:Array (Int×Value)}{t:yef}{Q:Option Value->Shared->Prop}(hit:zpv s.heap it a f i n ep)(hs:SObj s.heap a es ep t)(hn:es.size=n)
  (h:wpAny (model prog w) A.in1 (match f with
      | Value.int slot tok=>do
       let r ← ycm a slot.toNat i ep
       match r with
        | some (x,nx)=>do
         yyk (Value.ref it) 0 (rawInt nx)
         yyk (Value.ref it) 1 (rawInt ((i:Int)+1))
         ret x
        | none=>do
         yyk (Value.ref it) 2 Value.none
         let y ← newExc (Value.type "StopIteration") []
         yno y
      | x=>do
       let r ← ylk f
       match r with
        | some places =>
         match places[i]? with
         | some (Value.int place tok)=>do
          let x ← setNextDrawn a place.toNat ep
          yyk (Value.ref it) 1 (rawInt ((i:Int)+1))
          ret x
         | some val=>unsupported "internal:set_iterator"
         | none=>do
          yyk (Value.ref it) 0 (rawInt 0)
          yyk (Value.ref it) 2 Value.none
          let y ← newExc (Value.type "StopIteration") []
          yno y
        | x=>unsupported "internal:set_iterator")
   (λfin s'=>∃v,fin=Fin.done (Flow.ret v)∧wpAny (model prog w) A (pure (some v)) Q E s')
   (λe s'=>wpAny (model prog w) A (do
     let b ← yxn e (Value.type "StopIteration")
     if b=true then pure none else throw e) Q E s') s):wpAny (model prog w) A (pyNext (.ref it)) Q E s:=by
 obtain⟨oS,hoS,hcS,hdS,hf⟩:=id hs;unfold pyNext;refine yaa (yzk (yoc (name:=yof "__next__") hit.typeIs zbu (yqc zbu hit.typeIs zymb ?_ (zjnb _))));unfold ysf.«set_iterator.__next__»;refine yaa (yfa ?_);refine yaa (wpAny_fieldsOf hit rfl ?_);show wpAny _ _ (setEntries a >>= _) _ _ _
 refine yaa (wpAny_setEntries_of hoS hdS hf ?_);rw[if_neg (by rw[hn];simp[rawInt])];exact h
theorem zkdb {it a tp:Addr}{i n ep:Nat}{es:Array (Int×Value)}{t:yef}{pl:Array Value}{j:Nat}{tk:Tok}{e:Int×Value}{Q:Option Value->Shared->Prop}
  (hit:zpv s.heap it a (.ref tp) i n ep) (hs:SObj s.heap a es ep t) (hn:es.size=n) (htp:IsTup s.heap tp pl) (hpl:pl[i]?=some (.int j tk)) (he:es[j]?=some e)
  (hQ:∀h',zpv h' it a (.ref tp) (i+1) n ep->ywc it s.heap h'->Q (some e.2) { s with heap:=h' }):wpAny (model prog w) A (pyNext (.ref it)) Q E s:=by
 obtain⟨oS,hoS,hcS,hdS,hf⟩:=id hs;refine zou hit hs hn ?_;dsimp only;obtain⟨oT,hoT,hcT,nT,hdT⟩:=htp;have sq:∀{Q':Option (Array Value)->Shared->Prop},Q' (some pl) s->wpAny (model prog w) A.in1 (ylk (.ref tp)) Q' (λe s'=>wpAny (model prog w) A (do
     let b ← yxn e (Value.type "StopIteration")
     if b=true then pure none else throw e) Q E s') s:=λq=>by
  unfold ylk;refine yaa (ynn hoT ?_);rw[hdT];exact yfa q
 refine yaa (sq ?_);dsimp only;rw[hpl];dsimp only;rw[ysc];unfold setNextDrawn;refine yaa (yaa (yhe hoS hdS hf ?_));dsimp only;rw[if_neg (by simp),he];refine yfa ?_;refine yaa (ylc hit (by simp) λh' g sb=>?_);refine yfa ⟨_,rfl,yfa (hQ h' ?_ sb)⟩;exact g
theorem zpgb {it a tp:Addr}{i n ep:Nat}{es:Array (Int×Value)}{t:yef}{pl:Array Value}{Q:Option Value->Shared->Prop}(hh:A.handled=none)
  (hit:zpv s.heap it a (.ref tp) i n ep) (hs:SObj s.heap a es ep t) (hn:es.size=n) (htp:IsTup s.heap tp pl) (hpl:pl[i]?=none)
  (hQ:∀h',(∀b o,b≠it->s.heap.get? b=some o->h'.get? b=some o)->Q none { s with heap:=h' }):wpAny (model prog w) A (pyNext (.ref it)) Q E s:=by
 refine zou hit hs hn ?_;dsimp only;obtain⟨oT,hoT,hcT,nT,hdT⟩:=htp;have sq:∀{Q':Option (Array Value)->Shared->Prop},Q' (some pl) s->wpAny (model prog w) A.in1 (ylk (.ref tp)) Q' (λe s'=>wpAny (model prog w) A (do
     let b ← yxn e (Value.type "StopIteration")
     if b=true then pure none else throw e) Q E s') s:=λq=>by
  unfold ylk;refine yaa (ynn hoT ?_);rw[hdT];exact yfa q
 refine yaa (sq ?_);dsimp only;rw[hpl];dsimp only;refine yaa (ylc hit (by simp) λh1 g1 sb1=>?_);refine yaa (ylc g1 (by simp) λh2 g2 sb2=>?_);refine zfw hh λh' k=>hQ h' λb o nb e=>k b o ?_;show h2.get? b=some o
 rw[sb2.2 b nb,sb1.2 b nb];exact e
end
end SSet
namespace SSet
open PySem PySem.Spec PyProof.Rows
theorem pull {α:Type}:∀{l:List α} {i:Nat} (h:i<l.length),(l[i]::l.eraseIdx i).Perm l
 | [],i,h=>by simp at h
 | x::r,0,h=>yrj _
 | x::r,i+1,h=>by
  have ih:=pull (l:=r) (i:=i) (by simpa using h);exact (yzl.swap x _ _).trans (yzl.cons x ih)
theorem znfb {α:Type}(nx:Nat->Nat):∀(k j:Nat) (left:List α) (out:Array α),left.length=k->(ylp nx k j left out).toList.Perm (out.toList++left)
 | 0,j,left,out,h=>by
  have e:left=[]:=yxf.mp h;subst e;rw[ysb];exact yrj _
 | k+1,j,left,out,h=>by
  have hlt:nx j % left.length<left.length:=Nat.mod_lt _ (by omega);unfold ylp;rw[ywa hlt];dsimp only;refine (znfb nx k (j+1) _ _ (by rw[yij hlt];omega)).trans ?_;rw[ywn,yrd];exact yzl.append_left _ (pull hlt)
theorem zmfb {α:Type}(nx:Nat->Nat)(xs:Array α):(yxi nx xs).toList.Perm xs.toList:=by
 have q:=znfb nx xs.size 0 xs.toList #[] (by simp);unfold yxi
 simpa using q
section
variable {prog:ytb}{w:World}{A:Around}{E:Value->Shared->Prop}{s:Shared}
theorem zvdb {src:Source}{n:Nat}{Q:Nat->Shared->Prop}(hn:n≠0)(h:∀i d,i<n->Q i { s with drawn:=d }):wpAny (model prog w) A (choose src n) Q E s:=fun Γ p hΓ=>by
 unfold choose;show Sem.wp _ _ (.choose src n .pure) _ _ _ _
 rw[Sem.wp_choose];exact⟨hn,h _ _ (Nat.mod_lt _ (by omega))⟩
theorem zecb {α:Type}:∀(n:Nat) (xs:List α) (s:Shared) (Q:List α->Shared->Prop),xs.length=n->(∀ys d,ys.Perm xs->Q ys { s with drawn:=d })->wpAny (model prog w) A (drawOrder n xs) Q E s
 | 0,xs,s,Q,hl,h=>by
  have e:xs=[]:=yxf.mp hl;subst e;exact yfa (h [] s.drawn (yrj _))
 | n+1,[],s,Q,hl,h=>by cases hl
 | n+1,x::r,s,Q,hl,h=>by
  unfold drawOrder;refine yaa (zvdb (by simp) λi d hi=>?_);rw[ywa hi];dsimp only;refine yaa (zecb n _ _ _ (by rw[yij hi];omega) λys d2 hp=>?_);exact yfa (h _ d2 ((yzl.cons _ hp).trans (pull hi)))
theorem znx {it a:Addr}{f:Value}{i n ep:Nat}{Q:Value->Shared->Prop}(hit:zpv s.heap it a f i n ep)(h:Q (.ref it) s):wpAny (model prog w) A (pyIter (.ref it)) Q E s:=by
 refine wpAny_pyIter_slot hit.typeIs zyeb (yqc zyeb hit.typeIs zxmb ?_ (zinb _));show wpAny _ _ (ret (Value.ref it)) _ _ s
 exact yfa ⟨_,rfl,"set_iterator",_,hit.typeIs,zbu.lookup,h⟩
theorem zyy (hh:A.handled=none){it a tp:Addr}(h1:a≠it)(h2:tp≠it)(es:Array (Int×Value))(ep:Nat)(t:yef)(js:List Nat)(hl:js.length=es.size)(hj:∀j∈js,j<es.size) :
  Walks prog w A it [it,a,tp] [it] es.size (λi v=>∃j e,js[i]?=some j∧es[j]?=some e∧v=e.2) (λi h=>zpv h it a (.ref tp) i es.size ep∧SObj h a es ep t∧IsTup h tp (js.map λ(j:Nat)=>rawInt j).toArray) where
 sub:=λb hb=>by
  have e:b=it:=by simpa using hb
  rw[e];exact yia
 frame:=λi h h' st k=>⟨k it (by simp) _ st.1,st.2.1.keep λo e=>k a (by simp) o e,let ⟨o,e,r⟩:=st.2.2;⟨o,k tp (by simp) o e,r⟩⟩
 item:=λi s Q E hi st hQ=>by
  have hi':i<js.length:=by omega
  have ej:js[i]?=some js[i]:=ywa hi';have hlt:js[i]<es.size:=hj _ (yio hi');have ee:es[js[i]]?=some es[js[i]]:=yjb hlt;refine zkdb (j:=js[i]) (tk:=0) (e:=es[js[i]]) st.1 st.2.1 rfl st.2.2 ?_ ee λh' g sb=>?_
  ·rw[ydm,yvb,ej];rfl
  ·exact hQ _ h' s.toks ⟨_,_,ej,ee,rfl⟩ ⟨g,st.2.1.keep λo e=>(sb.2 a h1).trans e,let ⟨o,e,r⟩:=st.2.2;⟨o,(sb.2 tp h2).trans e,r⟩⟩ λb o hb e=>(sb.2 b λz=>hb (by rw[z];exact yia)).trans e
 done:=λs Q E st hQ=>by
  refine zpgb hh st.1 st.2.1 rfl st.2.2 ?_ λh' k=>hQ h' s.toks λb o hb e=>k b o (λz=>hb (by rw[z];exact yia)) e;rw[ydm,yvb,yjg (by omega)];rfl
 self:=λi s Q E st h=>znx st.1 h
theorem zxv (hh:A.handled=none){it a:Addr}(h1:a≠it)(es:Array (Int×Value))(ep:Nat)(t:yef)(ord:List Value)(R:Nat->Nat->Prop)
  (hs:∀(A:Around) (E:Value->Shared->Prop) (i slot:Nat) (s:Shared) (Q:Option (Value×Nat)->Shared->Prop),i<es.size->R slot i->SObj s.heap a es ep t->(∀x nx,ord[i]?=some x->R nx (i+1)->Q (some (x,nx)) s)->wpAny (model prog w) A (ycm a slot i ep) Q E s)
  (he:∀(A:Around) (E:Value->Shared->Prop) (slot:Nat) (s:Shared) (Q:Option (Value×Nat)->Shared->Prop),R slot es.size->SObj s.heap a es ep t->Q none s->wpAny (model prog w) A (ycm a slot es.size ep) Q E s) :
  Walks prog w A it [it,a] [it] es.size (λi v=>ord[i]?=some v) (λi h=>(∃slot:Nat,zpv h it a (rawInt slot) i es.size ep∧R slot i)∧SObj h a es ep t) where
 sub:=λb hb=>by
  have e:b=it:=by simpa using hb
  rw[e];exact yia
 frame:=λi h h' ⟨⟨slot,g,r⟩,so⟩ k=>⟨⟨slot,k it (by simp) _ g,r⟩,so.keep λo e=>k a (by simp) o e⟩
 item:=λi s Q E hi st hQ=>by
  obtain⟨⟨slot,g,r⟩,so⟩:=st;refine zou g so rfl ?_;show wpAny _ _ (ycm a ((slot:Int).toNat) i ep >>= _) _ _ _
  rw[ysc];refine yaa (hs _ _ i slot s _ hi r so λx nx hx r'=>?_);dsimp only;refine yaa (ylc g (by simp) λh2 g2 sb2=>?_);refine yaa (ylc g2 (by simp) λh3 g3 sb3=>?_);have sb:∀b,b≠it->h3.get? b=s.heap.get? b:=λb nb=>(sb3.2 b nb).trans (sb2.2 b nb);refine yfa ⟨_,rfl,yfa (hQ _ h3 s.toks hx ⟨⟨nx,g3,r'⟩,so.keep λo e=>(sb a h1).trans e⟩ λb o hb e=>(sb b λz=>hb (by rw[z];exact yia)).trans e)⟩
 done:=λs Q E st hQ=>by
  obtain⟨⟨slot,g,r⟩,so⟩:=st;refine zou g so rfl ?_;show wpAny _ _ (ycm a ((slot:Int).toNat) es.size ep >>= _) _ _ _
  rw[ysc];refine yaa (he _ _ slot s _ r so ?_);dsimp only;refine yaa (ylc g (by simp) λh2 g2 sb2=>?_);refine zfw hh λh' k=>hQ h' s.toks λb o hb e=>k b o ?_;exact (sb2.2 b λz=>hb (by rw[z];exact yia)).trans e
 self:=λi s Q E ⟨⟨slot,g,_⟩,_⟩ h=>znx g h
end
end SSet
namespace SSet
open PySem PySem.Spec PyProof.Rows
theorem zum {α:Type}{vs ord:List α}(hl:vs.length=ord.length)(h:∀(i:Nat) v,vs[i]?=some v->ord[i]?=some v):vs=ord:=by
 refine List.ext_getElem? λi=>?_
 by_cases hi:i<vs.length
 ·rw[ywa hi];exact (h i _ (ywa hi)).symm
 ·rw[yjg (by omega),yjg (by omega)]
section
variable {prog:ytb}{w:World}{A:Around}{E:Value->Shared->Prop}{s:Shared}
theorem zbv {es:List (Int×Value)}{D:List Str}{vs:List Value}(hel:yvn (ypc prog w) es)(hp:(es.map λe=>strOf e.2).Perm D)(hv:vs.Perm (es.map (·.2))):∃ys,yxk vs ys∧ys.Perm D:=by
 refine⟨vs.map strOf,strsAre_map vs λv hm=>?_,?_⟩
 ·obtain⟨e,he,rfl⟩:=ybb.mp (hv.mem_iff.mp hm);obtain⟨x,t,e1,_⟩:=znkb hel he;exact⟨x,t,e1⟩
 ·refine (hv.map strOf).trans ?_;rw[yqf];exact hp
theorem zudb {es:Array (Int×Value)}{js:List Nat}(hj:js.Perm (ypd es.size)){vs:List Value}(hl:vs.length=es.size)(h:∀(i:Nat) v,vs[i]?=some v->∃j e,js[i]?=some j∧es[j]?=some e∧v=e.2):vs.Perm (es.toList.map (·.2)):=by
 have ev:vs=js.map λj=>(es.toList.getD j (0,.none)).2:=by
  refine zum (by rw[yda,hj.length_eq,yrg,hl]) λi v hv=>?_;obtain⟨j,e,h1,h2,rfl⟩:=h i v hv;rw[yvb,h1];show some (es.toList.getD j (0,.none)).2=some e.2
  rw[yrb,ycc,h2];rfl
 rw[ev];refine (hj.map _).trans (yzl.of_eq ?_);refine zum (by simp) λi v hv=>?_;rw[yvb] at hv
 by_cases hi:i<es.size
 ·rw[List.getElem?_range hi] at hv;have hv':(es.toList.getD i (0,.none)).2=v:=yfc hv;rw[yvb,← hv',yrb,ywa (by simpa using hi)];rfl
 ·rw[yjg (by simp;omega)] at hv;cases hv
theorem zcjb {a:Addr}{D:List Str}{Q:Value->Shared->Prop}(hh:A.handled=none)(hS:SS prog w s.heap a D (!w.params.followText "set-order"))
  (h:∀(h':Heap) (d':Drawn) (I:Addr) (n:Nat) (fp:List Addr) (P:Nat->Value->Prop) (St:Nat->Heap->Prop),(∀b o,s.heap.get? b=some o->h'.get? b=some o)->s.heap.objs.size≤I->(∀b∈fp,b=a∨s.heap.objs.size≤b) →
   Walks prog w A I fp [I] n P St->St 0 h'->n=D.length->(∀vs:List Value,vs.length=n->(∀(i:Nat) v,vs[i]?=some v->P i v)->∃ys,yxk vs ys∧ys.Perm D)->Q (.ref I) { s with heap:=h',drawn:=d' }) :
  wpAny (model prog w) A (pyIter (.ref a)) Q E s:=by
 obtain⟨o,es,ep,t,ho,hex,hd,hel,hp,hb,hf,hl,hpl⟩:=hS;have hT:s.TypeIs (.ref a) "set":=⟨o,ho,hex.1⟩;have so:SObj s.heap a es ep t:=⟨o,ho,hex.1,hd,hf⟩;have hz:es.size=D.length:=by rw[← hp.length_eq,yda,yya]
 have alt:a<s.heap.objs.size:=yqa ho;refine wpAny_pyIter_slot hT yem (yqc yem hT zzmb ?_ (PySem.F.args_set_iter_1 _));unfold ysf.«frozenset.__iter__»;refine yaa (m:=ysf.Frozenset.slot0 "__iter__" _) (yfa ?_);refine yaa (m:=ysf.Frozenset.sizeOf a) (yaa (wpAny_setEntries_of ho hd hf (yfa ?_)));refine yaa (m:=setDrawn a) (yaa (yhe ho hd hf (yaa (m:=yjm) (yaa (ych (yfa (yfa ?_)))))));dsimp only;have jp:∀{first:Value} {h1:Heap} {d1:Drawn},SObj h1 a es ep t->Q (.ref h1.objs.size) { s with heap:=h1.push { cls:=.type "set_iterator",dict:=none,data:=.fields #[first,rawInt (0:Nat),.ref a,rawInt es.size,rawInt ep],slots:=#[] },drawn:=d1 } →
   wpAny (model prog w) A.in1 (do
    let e ← setEpoch a
    let v ← newFields "set_iterator" [first,rawInt 0,Value.ref a,rawInt es.size,rawInt e]
    ret v) (λfin s'=>∃v,fin=Fin.done (Flow.ret v)∧∃T' r,s'.TypeIs v T'∧typeLookup (Value.type T') (yof "__next__")=pure (some r)∧Q v s') E { s with heap:=h1,drawn:=d1 }:=by
  intro first h1 d1 ⟨o1,e1,e2,e3,e4⟩ q
  refine yaa (m:=setEpoch a) (yaa (yhe e1 e3 e4 (yfa ?_)));refine yaa (m:=newFields _ _) (ytc (yfa ⟨_,rfl,"set_iterator",_,⟨_,yoa _ rfl,rfl⟩,zbu.lookup,?_⟩));exact q
 split
 ·rename_i hc;have hc':(!w.params.followText "set-order" && (!t.plain&&decide (es.size>1)))=true:=hc;refine yaa (zecb es.size (ypd es.size) s _ (by simp) λjs d1 pj=>?_);refine yaa (ypm ?_ (by rw[yda,pj.length_eq,yrg];exact yjk hb));have jl:js.length=es.size:=by rw[pj.length_eq,yrg]
  have jm:∀j∈js,j<es.size:=λj hj=>ypj.mp (pj.mem_iff.mp hj);refine jp (so.keep λo e=>yca _ e) ?_;have sz:(s.heap.push { cls:=.type "tuple",data:=.seq (js.map λ(j:Nat)=>rawInt j).toArray }).objs.size=s.heap.objs.size+1:=ybf _ _;refine h _ d1 _ es.size _ _ _ (λb o e=>yca _ (yca _ e)) (by rw[sz];exact ytf _) ?_ (zyy (a:=a) (tp:=s.heap.objs.size) hh ?_ ?_ es ep t js jl jm) ⟨?_,?_,?_⟩ hz λvs hv hP=>zbv hel hp (zudb pj hv hP)
  ·intro b hb';rw[sz] at hb'
   rcases yha.mp hb' with z|z
   ·exact .inr (by rw[z];exact ytf _)
   ·rcases yha.mp z with z|z
    ·exact .inl z
    ·exact .inr (by rw[yja.mp z];exact yma _)
  ·rw[sz];exact yeb (yyh alt)
  ·rw[sz];exact yeb (ybh _)
  ·exact yoa _ rfl
  ·exact so.keep λo e=>yca _ (yca _ e)
  ·exact⟨_,yca _ (yoa _ rfl),rfl,_,rfl⟩
 ·rename_i hc;have hc':¬ (!w.params.followText "set-order" && (!t.plain&&decide (es.size>1)))=true:=hc;refine yaa (yfa (jp (h1:=s.heap) (d1:=s.drawn) so ?_));have fpk:∀b∈[s.heap.objs.size,a],b=a∨s.heap.objs.size≤b:=λb hb'=>by
   rcases yha.mp hb' with z|z
   ·exact .inr (by rw[z];exact yma _)
   ·exact .inl (yja.mp z)
  have ne:a≠s.heap.objs.size:=yeb alt;cases ft:w.params.followText "set-order" with
  | true =>
   have bt:∀{A':Around} {E':Value->Shared->Prop} {s':Shared} {Q':Bool->Shared->Prop},Q' true s'->wpAny (model prog w) A' yjm Q' E' s':=λ{A' E' s' Q'} q=>by
    unfold yjm;refine yaa (ych (yfa ?_));show Q' (w.params.followText "set-order") s'
    rw[ft];exact q
   have stp:∀(A:Around) (E:Value->Shared->Prop) (i slot:Nat) (s:Shared) (Q:Option (Value×Nat)->Shared->Prop),SObj s.heap a es ep t->Q (((yxi (w.params.setOrder a ep) es)[i]?).map λe=>(e.2,slot)) s->wpAny (model prog w) A (ycm a slot i ep) Q E s:=by
    intro A E i slot s Q ⟨o1,e1,e2,e3,e4⟩ q;unfold ycm;refine yaa (yhe e1 e3 e4 ?_);dsimp only;refine yaa (bt ?_);rw[if_pos rfl,if_neg (by simp)];unfold setWalk;refine yaa (yaa (yhe e1 e3 e4 (yaa (bt ?_))));rw[if_pos rfl];exact yaa (ych (yfa (yfa q)))
   have po:=zmfb (w.params.setOrder a ep) es;have pz:(yxi (w.params.setOrder a ep) es).size=es.size:=(by rw[← yya,po.length_eq,yya]);refine h _ s.drawn _ es.size _ _ _ (λb o e=>yca _ e) (yma _) fpk (zxv (a:=a) hh ne es ep t ((yxi (w.params.setOrder a ep) es).toList.map (·.2)) (λslot _=>slot=0) ?_ ?_) ⟨⟨0,yoa _ rfl,rfl⟩,so.keep λo e=>yca _ e⟩ hz λvs hv hP=>?_
   ·intro A E i slot s Q hi r so' q;have e1:(yxi (w.params.setOrder a ep) es)[i]?=some (yxi (w.params.setOrder a ep) es)[i]:=yjb (by omega);refine stp A E i slot s Q so' ?_;rw[e1];exact q _ _ (by rw[yvb,ycc,e1];rfl) r
   ·intro A E slot s Q r so' q;refine stp A E _ slot s Q so' ?_;rw[yph (by omega)];exact q
   ·refine zbv hel hp ?_;have e1:vs=(yxi (w.params.setOrder a ep) es).toList.map (·.2):=zum (by rw[hv,yda,yya,pz]) hP;rw[e1];exact po.map _
  | false =>
   rw[ft] at hc' hl;have sm:es.size≤1:=by
    rcases hpl with z|z
    ·omega
    ·rw[z] at hc';simp at hc';exact hc'
   have bt:∀{A':Around} {E':Value->Shared->Prop} {s':Shared} {Q':Bool->Shared->Prop},Q' false s'->wpAny (model prog w) A' yjm Q' E' s':=λ{A' E' s' Q'} q=>by
    unfold yjm;refine yaa (ych (yfa ?_));show Q' (w.params.followText "set-order") s'
    rw[ft];exact q
   have stp:∀(A:Around) (E:Value->Shared->Prop) (i slot:Nat) (s:Shared) (Q:Option (Value×Nat)->Shared->Prop),SObj s.heap a es ep t->Q (match es[ybg t.place slot]?,t.place[ybg t.place slot]? with|some (_,x),some j=>some (x,j+1)|_,_=>none) s->wpAny (model prog w) A (ycm a slot i ep) Q E s:=by
    intro A E i slot s Q ⟨o1,e1,e2,e3,e4⟩ q;unfold ycm;refine yaa (yhe e1 e3 e4 ?_);dsimp only;refine yaa (bt ?_);rw[if_neg (by simp)];have nd:¬ (!t.plain&&decide (es.size>1))=true:=by
     rw[decide_eq_false (by omega),yxg];exact yua
    refine ymh (λz=>absurd z nd) (λ_=>?_);have nl:¬ (!t.led && !es.isEmpty)=true:=by
     rw[hl];simp
    refine yaa (ymh (λz=>absurd z nl) (λ_=>yfa ?_));exact yfa q
   have ps:t.place.size=es.size:=by
    have z:=hf;unfold yef.fits at z;simp at z;exact z.1
   refine h _ s.drawn _ es.size _ _ _ (λb o e=>yca _ e) (yma _) fpk (zxv (a:=a) hh ne es ep t (es.toList.map (·.2)) (λslot i=>(i=0∧slot=0)∨(i=1∧∃j,t.place=#[j]∧slot=j+1)) ?_ ?_) ⟨⟨0,yoa _ rfl,.inl ⟨rfl,rfl⟩⟩,so.keep λo e=>yca _ e⟩ hz λvs hv hP=>?_
   ·intro A E i slot s Q hi r so' q;have i0:i=0:=(by omega);subst i0;have s0:slot=0:=by
     rcases r with⟨_,z⟩|⟨z,_⟩
     ·exact z
     ·cases z
    subst s0;obtain⟨j,ej⟩:∃j,t.place=#[j]:=by
     rcases Array.size_eq_one_iff.mp (show t.place.size=1 by omega) with⟨j,z⟩
     exact⟨j,z⟩
    have e1:es[0]?=some es[0]:=yjb hi;refine stp A E 0 0 s Q so' ?_;have bl:ybg t.place 0=0:=by
     rw[ej];simp[ybg,yyn]
    rw[bl,e1,ej];exact q _ _ (by rw[yvb,ycc,e1];rfl) (.inr ⟨rfl,j,ej,rfl⟩)
   ·intro A E slot s Q r so' q;refine stp A E _ slot s Q so' ?_;have en:es[ybg t.place slot]?=none:=by
     rcases r with⟨z,y⟩|⟨z,j,ej,y⟩
     ·exact yph (by omega)
     ·have bl:ybg t.place slot=1:=by
       rw[ej,y];simp[ybg,yyn]
      rw[bl];exact yph (by omega)
    rw[en];exact q
   ·refine zbv hel hp ?_;have e1:vs=es.toList.map (·.2):=zum (by rw[hv,yda,yya]) hP;rw[e1]
end
end SSet
namespace SSet
open PySem PySem.Spec PyProof.Rows PySem.W
section
variable {prog:ytb}{w:World}{A:Around}{E:Value->Shared->Prop}{s:Shared}
theorem zfjb {r:Addr}{Q:Bool->Shared->Prop}(ty:s.TypeIs (.ref r) "set")(q:Q false s):wpAny (model prog w) A (yyi (.ref r)) Q E s:=by
 unfold yyi;refine yaa (wpAny_specialOf ty PySem.F.slot_set_len.lookup ?_);generalize hx:("set.__len__":String)=nm
 wp_delta
 rw[show splitId nm=some ("set","__len__") from by subst hx;decide +kernel];subst hx;refine yaa (yel (b:=true) (T:="set") ty (by rw[yom];kernel_rfl) ?_);refine ymh (λz=>absurd z (by decide)) (λ_=>?_);refine ymh (λ_=>?_) (λz=>absurd (by decide +kernel) z);exact yaa (yco ty (yfa q))
theorem zwz {a:Addr}{D:List Str}{R:List Value->Shared->Prop}(hh:A.handled=none)(hS:SS prog w s.heap a D (!w.params.followText "set-order"))
  (h:∀(h':Heap) (d':Drawn) (tk:Nat) (vs:List Value) (ys:List Str),(∀b o,s.heap.get? b=some o->h'.get? b=some o)->s.heap.objs.size<h'.objs.size->yxk vs ys->ys.Perm D->R vs { s with heap:=h',drawn:=d',toks:=tk }) :
  wpAny (model prog w) A (collect (.ref a)) R E s:=by
 obtain⟨oA,hoA⟩:∃o,s.heap.get? a=some o:=let ⟨o,_,_,_,e,_⟩:=hS;⟨o,e⟩;have alt:a<s.heap.objs.size:=yqa hoA;have dz:D.length≤yta:=by
  obtain⟨o,es,ep,t,_,_,_,_,hp,hb,_⟩:=hS;rw[← hp.length_eq,yda,yya];exact yjk hb
 have nSa:s.heap.objs.size≠a:=ygh alt;unfold collect;refine yaa (wpAny_runValue (yig entry_proto_collect' ?_));rw[yff PySem.F.plain_proto_collect _];show wpAny _ A.in1 (newList [] >>= λl=>again (.builtin "list.__iadd__" ⟨[l,.ref a],[]⟩)) _ _ s
 refine yaa (ytc (yfa ⟨yli yal _,yig entry_list_iadd' ?_⟩));rw[yff yal _];show wpAny _ A.in1 (yzi (.ref s.heap.objs.size) (.ref a) (.ref s.heap.objs.size)) _ _ _
 unfold yzi;have S1:SS prog w (s.heap.push { cls:=.type "list",data:=.seq ([]:List Value).toArray }) a D (!w.params.followText "set-order"):=hS.keep λo e=>yca _ e;have g1:(s.heap.push { cls:=.type "list",data:=.seq ([]:List Value).toArray }).get? s.heap.objs.size=some { cls:=.type "list",dict:=none,data:=.seq #[] 0,slots:=#[] }:=yoa _ rfl;have k1:∀b o,s.heap.get? b=some o->(s.heap.push { cls:=.type "list",data:=.seq ([]:List Value).toArray }).get? b=some o:=λb o e=>yca _ e;generalize s.heap.push { cls:=.type "list",data:=.seq ([]:List Value).toArray }=h1 at S1 g1 k1 ⊢;have ty1:yhn { s with heap:=h1 } (.ref a) "set":=by
  obtain⟨o,es,ep,t,ho,hex,_⟩:=S1;exact⟨o,ho,hex.1⟩
 refine yaa (yco (T:="set") ty1 ?_);have ns:ymk (.ref s.heap.objs.size) (.ref a)=false:=by simp[ymk,nSa]
 simp only[ns,show (Value.type "set" == Value.type "list")=false by decide,show (Value.type "set" == Value.type "tuple")=false by decide,Bool.or_false,yxd,if_false];refine yaa (zcjb (s:={ s with heap:=h1 }) (A:=A.in1) hh S1 λh2 d2 I n fp P St k2 hI hfp W st hn hv=>?_);have ty2:yhn { s with heap:=h2,drawn:=d2 } (.ref a) "set":=by
  obtain⟨o,e,c⟩:=ty1;exact⟨o,k2 _ _ e,c⟩
 have slt:s.heap.objs.size<h1.objs.size:=yqa g1;have nf:s.heap.objs.size∉fp:=λz=>by
  rcases hfp _ z with z|z
  ·exact nSa z
  ·exact absurd (ypa slt z) (ysd _)
 have key:∀(R':Result->Shared->Prop) (h3:Heap) (c:Nat),St 0 h3->(∀b o,b≠s.heap.objs.size->h2.get? b=some o->h3.get? b=some o)->h3.get? s.heap.objs.size=some { cls:=.type "list",dict:=none,data:=.seq #[] c,slots:=#[] } →
   (∀(h4:Heap) (tk:Nat) (vs:List Value) (ys:List Str) (c':Nat),(∀b o,s.heap.get? b=some o->h4.get? b=some o)->yxk vs ys->ys.Perm D->h4.get? s.heap.objs.size=some { cls:=.type "list",dict:=none,data:=.seq vs.toArray c',slots:=#[] }->R' (.ok (.ret (.ref s.heap.objs.size))) { s with heap:=h4,drawn:=d2,toks:=tk }) →
   yvi (model prog w) A (.builtin "list.extend.loop" ⟨[.ref s.heap.objs.size,.ref I,.ref s.heap.objs.size],[]⟩) R' { s with heap:=h3,drawn:=d2 }:=by
  intro R' h3 c st3 k3 g3 hR;refine codeAny_extend_loopS W.toS (by omega) s.heap.objs.size nf _ n 0 _ #[] c rfl (ylb _) st3 g3 (ItemsOf.nil _) λs' acc c' mv g' ia=>?_;rw[Moved.eq_with mv];obtain⟨ys,sy,py⟩:=hv acc.toList (by rw[yya];exact ia.1) λi v e=>ia.2 i v (by rw[← ycc];exact e);refine hR s'.heap s'.toks acc.toList ys c' (λb o e=>?_) sy py (by rw[yae];exact g');have nb:b≠s.heap.objs.size:=yeb (yqa e);refine mv.heap b o (λz=>?_) (k3 b o nb (k2 b o (k1 b o e)))
  rcases yha.mp z with z|z
  ·exact nb z
  ·have bi:b=I:=yja.mp z;have:=yqa (k1 b o e);rw[bi] at this;exact absurd (ypa this hI) (ysd _)
 have g2:=k2 _ _ g1;have fin:∀(h4:Heap) (tk:Nat) (vs:List Value) (ys:List Str) (c':Nat),(∀b o,s.heap.get? b=some o->h4.get? b=some o)->yxk vs ys->ys.Perm D->h4.get? s.heap.objs.size=some { cls:=.type "list",dict:=none,data:=.seq vs.toArray c',slots:=#[] } →
   wpAny (model prog w) A (load s.heap.objs.size >>= λo=>match o.data with
    | .seq xs _=>pure xs.toList
    | _=>unsupported "internal:collect") R E { s with heap:=h4,drawn:=d2,toks:=tk }:=λh4 tk vs ys c' k4 sy py g4=>by
  refine yaa (ynn g4 ?_);show wpAny _ _ (pure vs.toArray.toList) _ _ _
  exact yfa (h h4 d2 tk vs ys k4 (yqa g4) sy py)
 refine yaa (yxb (zfjb ty2 ?_));refine ymh (λ_=>?_) (λ_=>yfa ⟨yli ytj _,key _ h2 0 st (λb o _ e=>e) g2 fin⟩);refine yaa (yxh (yaa ?_));show wpAny _ _ (updateSeq s.heap.objs.size (·.push .none) >>= λ_=>updateSeq s.heap.objs.size (·.pop)) _ _ _
 refine yaa (wpAny_updateSeq g2 rfl ?_);have g3:=yvd (yte (·.push Value.none)) g2 rfl;refine wpAny_updateSeq (hz:=by seq_fits) g3 rfl ?_;have g4:=yvd (yte (·.pop)) g3 rfl;refine yfa ⟨yli ytj _,key _ _ _ ?_ (λb o nb e=>?_) g4 fin⟩
 ·refine W.frame 0 _ _ st λb hb o e=>?_;have nb:s.heap.objs.size≠b:=λz=>nf (z▸hb);exact (yod _ _ nb).trans ((yod _ _ nb).trans e)
 ·exact (yod _ _ (yub nb)).trans ((yod _ _ (yub nb)).trans e)
theorem zycb {a:Addr}{D:List Str}{Q:Value->Shared->Prop}(hh:A.handled=none)(hS:SS prog w s.heap a D (!w.params.followText "set-order"))(h64:D.length<64)
  (h:∀(h':Heap) (d':Drawn) (tk:Nat) (p:Addr) (vs:List Value) (ys:List Str) (n:Nat),(∀b o,s.heap.get? b=some o->h'.get? b=some o)->s.heap.objs.size≤p->h'.get? p=some { cls:=.type "list",data:=.seq vs.toArray n }->yxk vs ys->ys.Perm D->yum ys=true →
   Q (.ref p) { s with heap:=h',drawn:=d',toks:=tk }):wpAny (model prog w) A (call (.builtin "sorted") [.ref a]) Q E s:=by
 refine yuj kind_sorted plain_sorted entry_sorted (args_sorted1 _) ?_;unfold ysf.«sorted»;refine yaa (m:=checkCount "sorted" 1 1 _) (yfa (yaa (zwz (A:=A.in1) hh hS λh1 d1 tk vs ys k1 lt1 sy py=>?_)));have vl:vs.length<64:=by rw[sy.length,py.length_eq];exact h64
 refine yaa (yin ?_ (yxa (yde vl) (by decide)));have g1:(h1.push (seqObj "list" vs.toArray 0)).get? h1.objs.size=some (seqObj "list" vs.toArray 0):=yoa _ rfl;refine yaa (yxb (yqc slot_list_sort ⟨_,g1,rfl⟩ entry_list_sort (list_sort_treeK strKind_oneLt g1 sy.keysOf (λv1 v2 rest e=>keyKind_strs (by rw[← e];exact sy)) vl λst' a1 a2=>⟨_,rfl,?_⟩) (args_list_sort _)));obtain⟨zs,z1,z2,z3⟩:=sorted_out_str sy a1 a2;obtain⟨e,he⟩:=sortedHeap_at (vs:=vs) (out:=(arrOf st').map (·.2)) g1;refine yfa ⟨_,rfl,h _ d1 tk h1.objs.size ((arrOf st').map (·.2)).toList zs e (λb o q=>?_) (yde lt1) ?_ z1 (z2.trans py) z3⟩
 ·have q1:=k1 b o q;have bl:=yqa q1;rw[sortedHeap_old (yeb bl) (by rw[size_push'];exact yyh bl)];exact yca _ q1
 ·rw[yae];exact he
end
end SSet
namespace L2
open PySem PySem.Spec PyProof.Rows
theorem strs_vals':∀{vs:List Value} {ys:List Str},yxk vs ys->Vals (ys.map V.str) vs
 | _,_,.nil=>.nil
 | _,_,.cons x t r=>.cons ⟨t,rfl⟩ (strs_vals' r)
def setO (X:Cx)(l:Addr)(D:List Str):HO:=.ext λh=>SSet.SS X.prog X.w h l D (!X.w.params.followText "set-order")
section
variable {X:Cx}
theorem Inv.zolb {pins:List (Addr×Obj)}{σ:St}{H:Hp}{s:Shared}(I:Inv X pins σ H s)(d:Drawn):Inv X pins σ H { s with drawn:=d } :=
 I.call (h':=s.heap) (g':=s.gens) (d':=d) (t':=s.toks) (ch:=[]) (Un.kept λb o e=>e) I.hok I.bare (λb z=>absurd z (by simp))
theorem zgv (hc:X.calm=true):zwk X (.type "set") (λxs H Q=>Ex2 λp ys=>xs=[.ref p]∧SqL X.K H p (ys.map V.str)∧ys.length≤1000∧∀l,H l=none->Q (.ref l) (upd H l (setO X l (SSet.dd ys)))):=by
 intro pins s σ H xs us Q I r h;obtain⟨p,ys,rfl,hq,hy,q⟩:=h;obtain⟨u,rfl,ru⟩:=vals1 r;cases ru;obtain⟨its,rv,pl,hz⟩:=I.list hq;have sy:=zpm rv;have il:its.length=ys.length:=sy.length;refine SSet.set_list (xs:=ys) (I.ok.hd hc) pl.isList (by simpa using sy) (by rw[yka,il];have:yik=4096:=rfl;omega) λh' tk S k=>?_;have I1:Inv X pins σ (upd H s.heap.objs.size (setO X s.heap.objs.size (SSet.dd ys))) { s with heap:=h',toks:=tk }:=I.laid (t':=tk) (λb o e=>k b o e) (yma _) ⟨S,let ⟨o,_,_,_,e,_⟩:=S;⟨o,e⟩,λh1 h2 x y=>x.keep y⟩;exact⟨.ref s.heap.objs.size,_,I1,rfl,q _ (I.hok.fresh (yma _))⟩
theorem zvr (hc:X.calm=true):zwk X (.builtin "sorted") (λxs H Q=>Ex2 λl D=>xs=[.ref l]∧H l=some (setO X l D)∧D.length<64∧∀p ys,H p=none->ys.Perm D->yum ys=true->Q (.ref p) (upd H p (.lst (ys.map V.str)))):=by
 intro pins s σ H xs us Q I r h;obtain⟨l,D,rfl,hl,h64,q⟩:=h;obtain⟨u,rfl,ru⟩:=vals1 r;cases ru;obtain⟨S,_,_⟩:=I.hok l _ hl;refine SSet.zycb (I.ok.hd hc) S h64 λh' d' tk p vs ys n k hp g sy py so=>?_;have I0:=I.zolb d';have vl:vs.length≤yta:=by
  rw[sy.length,py.length_eq];exact yxa (yde h64) (by decide)
 have I1:Inv X pins σ (upd H p (.lst (ys.map V.str))) { s with heap:=h',drawn:=d',toks:=tk }:=I0.laid (t':=tk) (λb o e=>k b o e) hp ⟨by rw[yda,← sy.length];exact vl,vs,n,strs_vals' sy,g⟩;exact⟨.ref p,_,I1,rfl,q p ys (I.hok.fresh hp) py so⟩
end
end L2
namespace L2
open PySem PySem.Spec PyProof.Rows
theorem zmjb {x:Str}:∀{v:Value},KTD.flatLooks (.str x) v=true->RelV (.str x) v
 | .str y t,h=>⟨t,by rw[show x=y from beq_iff_eq.mp h]⟩
theorem zpt:∀{ss:List Str} {vs:List Value},KTD.flatsLook (ss.map PyData.str) vs=true->Vals (ss.map V.str) vs
 | [],[],_=>.nil
 | x::ss,v::vs,h=>by
  rw[yva] at h;have h':(KTD.flatLooks (.str x) v&&KTD.flatsLook (ss.map PyData.str) vs)=true:=h;rw[yhc] at h';exact .cons (zmjb h'.1) (zpt h'.2)
def TupK (K:yba)(a:Addr)(ss:List Str):Prop:=yhh (λb=>K.lookup b) (.tup (ss.map PyData.str)) (.ref a)=true
theorem TupK.sq {K:yba}{a:Addr}{ss:List Str}(h:TupK K a ss)(hz:ss.length≤1000)(H:Hp):SqT K H a (ss.map V.str):=by
 unfold TupK yhh at h;simp only at h
 split at h
 ·rename_i o ho;rw[yhc] at h;obtain⟨e1,e2⟩:=h
  split at e2
  ·rename_i vs n hd;have V:=zpt e2;have hl:=V.length;refine .inr ⟨o,vs,n,ho,beq_iff_eq.mp e1,hd,?_,V⟩;rw[yda] at hl;have:vs.size=ss.length:=by simpa using hl.symm
   rw[this];exact yxa hz (by decide)
  ·cases e2
 ·cases h
theorem zxib {K:yba}{ss:List Str}:∀{v:Value},yhh (λb=>K.lookup b) (.tup (ss.map PyData.str)) v=true->∃b,v = .ref b∧TupK K b ss
 | .ref b,h=>⟨b,rfl,h⟩
section
variable {X:Cx}{a:Addr}{D:List (Str×yjp)}
abbrev TabK (K:yba)(a:Addr)(D:List (Str×yjp)):Prop:=yvo (yhh λb=>K.lookup b) (λb=>K.lookup b) a D=true
theorem zpmb {K:yba}(hK:X.K=K)(l:TabK K a D):IxR X (λx y H Q=>Ex2 λk ss=>x = .ref a∧y = .str k∧ytm k D=some (.tup (ss.map PyData.str))∧∀b,TupK K b ss->Q (.ref b) H):=by
 subst hK;intro value slice pins s σ H x y v u Q I rx ry h hs;obtain⟨k,ss,rfl,rfl,hat,q⟩:=h;cases rx;obtain⟨tk,rfl⟩:=ry;obtain⟨_,o,es,ep,ho,hc,hd,hr⟩:=KTD.tab_of_look (R:=λd v=>yhh (λb=>X.K.lookup b) d v=true) (λ_ _ z=>z) (h:=s.heap) (λb o z=>I.kIn b o z) l;obtain⟨z,hz,hl⟩:=hr.find_some hat
 obtain⟨b,rfl,hb⟩:=zxib hl;have ty:s.TypeIs (.ref a) "dict":=⟨o,ho,hc.1⟩;refine yoh (x:=.ref b) ty ymf.lookup ?_ hs;unfold ysn
 try with_reducible refine yxb ?_
 refine yaa (ybk ty (by decide) ?_);refine yaa (yoc (name:=yof "__getitem__") ty ymf
  (yqc ymf ty entry_dict_getitem ?_ (args_dict_getitem _ _)))
 have fin:∀k',EP X pins σ Q (.ref b) { s with toks:=k' }:=λk'=>⟨.ref b,H,I.tok _,rfl,q b hb⟩;have fnd:findBy (λk v=>v.isStr k) es k=some (.ref b):=by
  rw[← hz];obtain⟨l⟩:=es;simp[findBy]
 show wpAny _ _ (dictGet a (.str k tk) >>= _) _ _ s
 refine yaa ?_;unfold dictGet
 try with_reducible refine yxb ?_
 refine yaa (wpAny_pyHash_str (yaa (KTD.kt_dictFind_strs (s:={ s with toks:=s.toks+1 }) ho hd (by obtain⟨l⟩:=es;simpa using hr.exact) ?_)));rw[findBy_of_findIdx?] at fnd;cases hi:es.findIdx? λe=>e.key.isStr k with
 | none=>rw[hi] at fnd;cases fnd
 | some i =>
  rw[hi] at fnd;refine yaa (wpAny_dictEntries (s:={ s with toks:=s.toks+1 }) ho hd (yfa ?_));rw[show es[i]?.map (·.val)=some (.ref b) from fnd];exact yfa ⟨_,rfl,yfa ⟨rfl,fin _⟩⟩
end
structure Isi (K:yba)(C:Addr):Prop where
 ha:yab K (.ref C) "__class__" = some (some (.builtin "object.__class__"))
 hn:yvh K (.builtin "object.__class__") "__get__" = some (some (.builtin "getset_descriptor.__get__"))
 ht:yrl K (.builtin "object.__class__")=some true
 hm:ycn K C (.type "object")=some true
 oStr:ywb K (.ref C) (.type "str")=some false
 oInt:ywb K (.ref C) (.type "int")=some false
 oTup:ywb K (.ref C) (.type "tuple")=some false
 oLst:ywb K (.ref C) (.type "list")=some false
 sO:ywb K (.type "str") (.ref C)=some false
 iO:ywb K (.type "int") (.ref C)=some false
end L2
namespace L2
open PySem PySem.Spec PyProof.Rows
section
variable {X:Cx}
theorem zxp:zwk X (.builtin "sorted") (λxs H Q=>Ex2 λl zs=>xs=[.ref l]∧SqL X.K H l (zs.map V.str)∧zs.length<64∧∀p ys,H p=none->ys.Perm zs->yum ys=true->Q (.ref p) (upd H p (.lst (ys.map V.str)))):=by
 intro pins s σ H xs us Q I r h;obtain⟨l,zs,rfl,hl,h64,q⟩:=h;obtain⟨u,rfl,ru⟩:=vals1 r;cases ru;obtain⟨its,rv,pl,_⟩:=I.list hl;have sy:=zpm rv;refine sorted_strs (vs:=its) (ss:=zs) pl.isList sy (by rw[sy.length];exact h64) λout ys a1 a2 a3=>?_;obtain⟨e,he⟩:=sortedAll_at s.heap its out;have vl:out.toList.length≤yta:=by
  rw[a1.length,a2.length_eq];exact yxa (yde h64) (by decide)
 have I1:Inv X pins σ (upd H (s.heap.objs.size+1) (.lst (ys.map V.str))) { s with heap:=ywo s.heap its out }:=I.laid (t':=s.toks) (λb o e=>sortedAll_old e) (ytf _) ⟨by rw[yda,← a1.length];exact vl,out.toList,e,strs_vals' a1,by rw[yae];exact he⟩;exact⟨.ref (s.heap.objs.size+1),_,I1,rfl,q _ ys (I.hok.fresh (ytf _)) a2 a3⟩
end
end L2
namespace TSort
open PySem PyProof.Rows
abbrev IL:=List Int
section keys
variable (k:Value->IL)
def ka (xs:Array Keyed)(i:Nat):IL:=((xs[i]?).map λp=>k p.1).getD []
def Up (xs:Array Keyed)(n:Nat):Prop:=∀i j,i<j->j<n->ka k xs i<ka k xs j
def Dn (xs:Array Keyed)(n:Nat):Prop:=∀i j,i<j->j<n->ka k xs j<ka k xs i
variable {k}
theorem zbjb {xs ys:Array Keyed}{i j:Nat}(e:xs[i]?=ys[j]?):ka k xs i=ka k ys j:=by
 unfold ka;rw[e]
theorem Up.more {xs:Array Keyed}{n:Nat}(h:Up k xs n)(h1:1≤n)(e:ka k xs (n-1)<ka k xs n):Up k xs (n+1):=by
 intro i j a b
 rcases yye j n with c|c
 ·exact h i j a c
 ·obtain rfl:j=n:=by omega
  rcases yye i (j-1) with d|d
  ·exact ymi (h i (j-1) d (by omega)) e
  ·obtain rfl:i=j-1:=by omega
   exact e
theorem Dn.more {xs:Array Keyed}{n:Nat}(h:Dn k xs n)(h1:1≤n)(e:ka k xs n<ka k xs (n-1)):Dn k xs (n+1):=by
 intro i j a b
 rcases yye j n with c|c
 ·exact h i j a c
 ·obtain rfl:j=n:=by omega
  rcases yye i (j-1) with d|d
  ·exact ymi e (h i (j-1) d (by omega))
  ·obtain rfl:i=j-1:=by omega
   exact e
theorem Dn.turn {xs:Array Keyed}{n:Nat}(h:Dn k xs n)(hn:n≤xs.size):Up k (mirror xs 0 n ((n-0) / 2)) n:=by
 intro i j a b;have e:∀m,m<n->ka k (mirror xs 0 n ((n-0) / 2)) m=ka k xs (0+n-1-m):=λm hm=>by
  have z:=getElem?_mirror_all (i:=0) hn m;rw[if_pos ⟨ylb _,hm⟩] at z;exact zbjb z
 rw[e i (by omega),e j b];exact h _ _ (by omega) (by omega)
end keys
structure Ok (a0:Array Keyed)(kd:ykm)(st:SortSt):Prop where
 perm:(arrOf st).Perm a0
 kind:kindOf st=kd
 none:failedOf st=none
 pend:yfm st=#[]
theorem Ok.size {a0:Array Keyed}{kd:ykm}{st:SortSt}(h:Ok a0 kd st):(arrOf st).size=a0.size:=h.perm.size_eq
theorem Ok.put {a0:Array Keyed}{kd:ykm}{st:SortSt}(h:Ok a0 kd st){xs:Array Keyed}(p:xs.Perm (arrOf st)):Ok a0 kd (setArr st xs):=⟨p.trans h.perm,h.kind,h.none,h.pend⟩
section
variable {pr:ytb}{wo:World}{Ar:Around}{Ex:Value->Shared->Prop}{sh:Shared}{k:Value->IL}{a0:Array Keyed}{kd:ykm}
structure Cmp (pr:ytb)(wo:World)(Ar:Around)(Ex:Value->Shared->Prop)(sh:Shared)(k:Value->IL)(a0:Array Keyed)(kd:ykm):Prop where
 lt:∀(x y:Keyed) (st:SortSt) (R:Option Bool->SortSt->Prop),kindOf st=kd->x∈a0.toList->y∈a0.toList->k x.1≠k y.1->R (some (decide (k x.1<k y.1))) st->wpS (model pr wo) Ar Ex sh (lt' x y) R st
 un:(a0.toList.map λp=>k p.1).Nodup
theorem Cmp.apart (C:Cmp pr wo Ar Ex sh k a0 kd){st:SortSt}(G:Ok a0 kd st){i j:Nat}(hi:i<a0.size)(hj:j<a0.size)(n:i≠j):ka k (arrOf st) i≠ka k (arrOf st) j:=by
 have p:=(ytg.mp G.perm).map λq:Keyed=>k q.1;have u:((arrOf st).toList.map λq:Keyed=>k q.1).Nodup:=p.symm.nodup C.un;have zi:i<(arrOf st).size:=by rw[G.size];exact hi
 have zj:j<(arrOf st).size:=by rw[G.size];exact hj
 have g:=yzg.mp u;have ei:ka k (arrOf st) i=k (arrOf st)[i].1:=by unfold ka;rw[yjb zi];rfl
 have ej:ka k (arrOf st) j=k (arrOf st)[j].1:=by unfold ka;rw[yjb zj];rfl
 rw[ei,ej]
 rcases Nat.lt_or_gt_of_ne n with c|c
 ·have z:=g i j (by simpa using zi) (by simpa using zj) c;rw[yve,yve] at z;exact z
 ·have z:=g j i (by simpa using zj) (by simpa using zi) c;rw[yve,yve] at z;exact λe=>z e.symm
theorem Cmp.at (C:Cmp pr wo Ar Ex sh k a0 kd){st:SortSt}(G:Ok a0 kd st){i j:Nat}(hi:i<a0.size)(hj:j<a0.size)(n:i≠j){R:Option Bool->SortSt->Prop}
  (h:R (some (decide (ka k (arrOf st) i<ka k (arrOf st) j))) st):wpS (model pr wo) Ar Ex sh (ltAt' i j) R st:=by
 have ap:=C.apart G hi hj n;have zi:i<(arrOf st).size:=by rw[G.size];exact hi
 have zj:j<(arrOf st).size:=by rw[G.size];exact hj
 have ei:(arrOf st)[i]?=some (arrOf st)[i]:=yjb zi;have ej:(arrOf st)[j]?=some (arrOf st)[j]:=yjb zj;have m:∀q:Keyed,q∈(arrOf st).toList->q∈a0.toList:=λq hq=>(ytg.mp G.perm).mem_iff.mp hq;rw[ltAt'_eq];refine yvc (yxo ?_);show wpS (model pr wo) Ar Ex sh (elem' (arrOf st) i >>= λx=>elem' (arrOf st) j >>= λy=>lt' x y) R st
 rw[elem'_eq,elem'_eq,ei,ej];refine yvc (yce (yvc (yce ?_)));have ki:ka k (arrOf st) i=k (arrOf st)[i].1:=by unfold ka;rw[ei];rfl
 have kj:ka k (arrOf st) j=k (arrOf st)[j].1:=by unfold ka;rw[ej];rfl
 rw[ki,kj] at h ap;exact C.lt _ _ st R G.kind (m _ (by simp)) (m _ (by simp)) ap h
theorem not_lt {a b:IL}(n:a≠b)(h:¬ a<b):b<a:=by
 rcases Decidable.em (b<a) with c|c
 ·exact c
 ·exact absurd (yjo (yyo.mp c) (yyo.mp h)) n
theorem Cmp.asc (C:Cmp pr wo Ar Ex sh k a0 kd){st:SortSt}(G:Ok a0 kd st){a m:Nat}(hm:m≤a0.size)(h1:1≤a)(h2:a≤m)(u:Up k (arrOf st) a){R:AscSt->SortSt->Prop}
  (q:∀n,a≤n->n≤m->Up k (arrOf st) n->(n=m∨ka k (arrOf st) n<ka k (arrOf st) (n-1))->R (none,n) st):wpS (model pr wo) Ar Ex sh (ascLoop a m) R st:=by
 unfold ascLoop;refine ydi (I:=λx c z=>z=st∧c=(none,x)∧Up k (arrOf st) x) (λx c z ax xm I=>?_) (λc z I=>?_) ⟨rfl,rfl,u⟩
 ·obtain⟨rfl,rfl,v⟩:=I;dsimp only;refine yvc (C.at G (by omega) (by omega) (by omega) ?_);have ap:=C.apart G (i:=x) (j:=x-1) (by omega) (by omega) (by omega)
  by_cases c:ka k (arrOf z) x<ka k (arrOf z) (x-1)
  ·rw[decide_eq_true c];exact yce (q x ax (by omega) v (.inr c))
  ·rw[decide_eq_false c];exact yce ⟨rfl,rfl,v.more (by omega) (not_lt ap c)⟩
 ·obtain⟨rfl,rfl,v⟩:=I;rw[show max a m=m by omega] at v ⊢;exact q m h2 (yma _) v (.inl rfl)
theorem Cmp.last (C:Cmp pr wo Ar Ex sh k a0 kd){st:SortSt}(G:Ok a0 kd st){n m:Nat}(hm:m≤a0.size)(h1:1≤n)(h2:n≤m)(d:Dn k (arrOf st) n){R:Option Nat->SortSt->Prop}
  (q:∀l z,Ok a0 kd z->1≤l->l≤m->Up k (arrOf z) l->R (some l) z):wpS (model pr wo) Ar Ex sh (tail3 n m) R st:=by
 unfold tail3;refine yvc (wpS_reverse ?_);have G':Ok a0 kd (setArr st (mirror (arrOf st) 0 n ((n-0) / 2))):=G.put (mirror_perm _ _ _ _);exact yvc (C.asc G' hm h1 h2 (d.turn (by rw[G.size];omega)) λl a b c _=>yce (q l _ G' (by omega) b c))
theorem Cmp.desc (C:Cmp pr wo Ar Ex sh k a0 kd){st:SortSt}(G:Ok a0 kd st){n m:Nat}(hm:m≤a0.size)(h1:1≤n)(h2:n≤m)(d:Dn k (arrOf st) n){R:DescSt->SortSt->Prop}
  (q:∀l,n≤l->l≤m->Dn k (arrOf st) l->R (none,l,0) st):wpS (model pr wo) Ar Ex sh (descLoop n m) R st:=by
 unfold descLoop;refine ydi (I:=λx c z=>z=st∧c=(none,x,0)∧Dn k (arrOf st) x) (λx c z ax xm I=>?_) (λc z I=>?_) ⟨rfl,rfl,d⟩
 ·obtain⟨rfl,rfl,v⟩:=I;dsimp only;refine yvc (C.at G (by omega) (by omega) (by omega) ?_);have ap:=C.apart G (i:=x) (j:=x-1) (by omega) (by omega) (by omega)
  by_cases c:ka k (arrOf z) x<ka k (arrOf z) (x-1)
  ·rw[decide_eq_true c];exact yce ⟨rfl,rfl,v.more (by omega) c⟩
  ·rw[decide_eq_false c];refine yvc (C.at G (by omega) (by omega) (by omega) ?_);rw[decide_eq_true (not_lt ap c)];exact yce (q x ax (by omega) v)
 ·obtain⟨rfl,rfl,v⟩:=I;rw[show max n m=m by omega] at v ⊢;exact q m h2 (yma _) v
theorem Cmp.part (C:Cmp pr wo Ar Ex sh k a0 kd){st:SortSt}(G:Ok a0 kd st){n m:Nat}(hm:m≤a0.size)(h2:n+1≤m)(d:Dn k (arrOf st) (n+1)){R:Option Nat->SortSt->Prop}
  (q:∀l z,Ok a0 kd z->1≤l->l≤m->Up k (arrOf z) l->R (some l) z):wpS (model pr wo) Ar Ex sh (descPart n m) R st:=by
 unfold descPart;refine yvc (wpS_lift (yxh ⟨rfl,?_⟩));refine yvc (C.desc G hm (by omega) h2 d λl a b c=>?_);exact C.last G hm (by omega) b c q
theorem Cmp.run (C:Cmp pr wo Ar Ex sh k a0 kd){st:SortSt}(G:Ok a0 kd st){m:Nat}(hm:m≤a0.size)(h1:1≤m){R:Option Nat->SortSt->Prop}
  (q:∀l z,Ok a0 kd z->1≤l->l≤m->Up k (arrOf z) l->R (some l) z):wpS (model pr wo) Ar Ex sh (countRun' 0 m) R st:=by
 rw[countRun0_eq];refine yvc (C.asc G hm (yma 1) h1 (λi j a b=>by omega) λn a b c d=>?_);dsimp only
 by_cases e:n=m
 ·rw[if_pos (by simpa using e)];exact yce (q n st G a b c)
 ·rw[if_neg (by simpa using e)];have lt:=d.resolve_left e
  by_cases g:n>1
  ·rw[if_pos g];refine yvc (C.at G (by omega) (by omega) (by omega) ?_);rw[decide_eq_true (c 0 (n-1) (by omega) (by omega))];exact yce (q n st G a b c)
  ·rw[if_neg g];obtain rfl:n=1:=by omega
   refine C.part G hm (by omega) (λi j x y=>?_) q;obtain rfl:i=0:=by omega
   obtain rfl:j=1:=by omega
   exact lt
end
end TSort
namespace TSort
open PySem PyProof.Rows
theorem zix {k:Value->IL}{xs:Array Keyed}{c l:Nat}(hc:c<xs.size)(hl:l≤c)(m:Nat) :
  ka k (bubble xs c (c-l)) m=if m=l then ka k xs c else if l<m∧m≤c then ka k xs (m-1) else ka k xs m:=by
 have z:=getElem?_bubble hc (c-l) (by omega) m;rw[show c-(c-l)=l by omega] at z
 by_cases a:m=l
 ·rw[if_pos a] at z ⊢;exact zbjb z
 ·rw[if_neg a] at z ⊢
  by_cases b:l<m∧m≤c
  ·rw[if_pos b] at z ⊢;exact zbjb z
  ·rw[if_neg b] at z ⊢;exact zbjb z
theorem Up.put {k:Value->IL}{xs:Array Keyed}{c l:Nat}(h:Up k xs c)(hc:c<xs.size)(hl:l≤c)(lo:∀i,i<l->ka k xs i<ka k xs c)(hi:∀i,l≤i->i<c->ka k xs c<ka k xs i):Up k (bubble xs c (c-l)) (c+1):=by
 intro i j a b;rw[zix hc hl,zix hc hl]
 by_cases i1:i=l
 ·rw[if_pos i1,if_neg (by omega),if_pos (by omega)];exact hi _ (by omega) (by omega)
 ·rw[if_neg i1]
  by_cases j1:j=l
  ·rw[if_pos j1,if_neg (by omega)];exact lo i (by omega)
  ·rw[if_neg j1]
   by_cases i2:l<i∧i≤c
   ·rw[if_pos i2,if_pos (by omega)];exact h _ _ (by omega) (by omega)
   ·rw[if_neg i2]
    by_cases j2:l<j∧j≤c
    ·rw[if_pos j2];exact h _ _ (by omega) (by omega)
    ·rw[if_neg j2];exact h _ _ a (by omega)
section
variable {pr:ytb}{wo:World}{Ar:Around}{Ex:Value->Shared->Prop}{sh:Shared}{k:Value->IL}{a0:Array Keyed}{kd:ykm}
theorem Cmp.ins (C:Cmp pr wo Ar Ex sh k a0 kd){st:SortSt}(G:Ok a0 kd st){n m:Nat}(hn:n≤a0.size)(hm:m≤n)(u:Up k (arrOf st) m){R:Bool->SortSt->Prop}
  (q:∀z,Ok a0 kd z->Up k (arrOf z) n->R true z):wpS (model pr wo) Ar Ex sh (binarySort' 0 n m) R st:=by
 rw[binarySort'_eq];simp only[Nat.zero_add];refine yvc (wpS_mono (ydi (I:=λc o z=>o=(none,())∧Ok a0 kd z∧Up k (arrOf z) (min c n)) (Q:=λo z=>o=(none,())∧Ok a0 kd z∧Up k (arrOf z) n) (λc o z mc cn I=>?_) (λo z I=>?_) ⟨rfl,G,λi j a b=>?_⟩) λo z I=>?_)
 ·obtain⟨rfl,G',v⟩:=I;rw[show min c n=c by omega] at v;have sz:c<(arrOf z).size:=by rw[G'.size];omega
  refine yvc (wpS_mono (ydi (I:=λx o y=>y=z∧Ex2 λl r=>o=(none,l,r)∧l≤r∧r≤c∧r-l≤c-x∧(∀i,i<l->ka k (arrOf z) i<ka k (arrOf z) c)∧∀i,r≤i->i<c->ka k (arrOf z) c<ka k (arrOf z) i)
   (Q:=λo y=>y=z∧Ex2 λl r=>o=(none,l,r)∧l≤c∧(∀i,i<l->ka k (arrOf z) i<ka k (arrOf z) c)∧∀i,l≤i->i<c->ka k (arrOf z) c<ka k (arrOf z) i) (λx o y _ xc J=>?_) (λo y J=>?_) ⟨rfl,0,c,rfl,by omega,by omega,by omega,λi h=>by omega,λi h1 h2=>by omega⟩) λo y J=>?_)
  ·obtain⟨rfl,l,r,rfl,lr,rc,w,lo,hi⟩:=J;dsimp only
   by_cases g:l≥r
   ·rw[if_pos g];obtain rfl:l=r:=by omega
    exact yce ⟨rfl,l,l,rfl,rc,lo,hi⟩
   ·rw[if_neg g];refine yvc (C.at G' (by omega) (by omega) (by omega) ?_);have ap:=C.apart G' (i:=c) (j:=(l+r) / 2) (by omega) (by omega) (by omega)
    by_cases d:ka k (arrOf y) c<ka k (arrOf y) ((l+r) / 2)
    ·rw[decide_eq_true d];refine yce ⟨rfl,l,(l+r) / 2,rfl,by omega,by omega,by omega,lo,λi h1 h2=>?_⟩
     rcases yye ((l+r) / 2) i with e|e
     ·exact ymi d (v _ _ e h2)
     ·obtain rfl:i=(l+r) / 2:=by omega
      exact d
    ·rw[decide_eq_false d];have d':=not_lt ap d;refine yce ⟨rfl,(l+r) / 2+1,r,rfl,by omega,by omega,by omega,λi h1=>?_,hi⟩
     rcases yye i ((l+r) / 2) with e|e
     ·exact ymi (v _ _ e (by omega)) d'
     ·obtain rfl:i=(l+r) / 2:=by omega
      exact d'
  ·obtain⟨rfl,l,r,rfl,lr,rc,w,lo,hi⟩:=J;obtain rfl:l=r:=by omega
   exact⟨rfl,l,l,rfl,rc,lo,hi⟩
  ·obtain⟨rfl,l,r,rfl,lc,lo,hi⟩:=J;refine yvc (m:=moveDown' c l) ?_;rw[moveDown'_eq];refine wpS_modify (yce ⟨rfl,G'.put (bubble_perm _ _ _),?_⟩);rw[show min (c+1) n=c+1 by omega];exact v.put sz lc lo hi
 ·obtain⟨rfl,G',v⟩:=I;rw[show min (max (max m 1) n) n=n by omega] at v;exact⟨rfl,G',v⟩
 ·exact u i j a (by omega)
 ·obtain⟨rfl,G',v⟩:=I;exact yce (q z G' v)
structure Fin (k:Value->IL)(a0:Array Keyed)(st:SortSt):Prop where
 perm:(arrOf st).Perm a0
 none:failedOf st=none
 pend:yfm st=#[(0,a0.size,0)]
 up:Up k (arrOf st) a0.size
theorem Ok.fin {st:SortSt}(G:Ok a0 kd st)(u:Up k (arrOf st) a0.size):Fin k a0 (setPending st ((yfm st).push (0,a0.size,0))) :=
 ⟨G.perm,G.none,by show (yfm st).push (0,a0.size,0)=#[(0,a0.size,0)];rw[G.pend];rfl,u⟩
theorem Cmp.all (C:Cmp pr wo Ar Ex sh k a0 kd){st:SortSt}(G:Ok a0 kd st)(h2:2≤a0.size)(h64:a0.size<64){R:Unit->SortSt->Prop}
  (q:∀z,(arrOf z).Perm a0->failedOf z=none->Up k (arrOf z) a0.size->R () z):wpS (model pr wo) Ar Ex sh sortRuns' R st:=by
 rw[sortRuns'_eq];refine yvc (yxo ?_);dsimp only;have mr:minRun' a0.size a0.size 0=a0.size:=by
  obtain⟨f,hf⟩:∃f,a0.size=f+1:=⟨a0.size-1,by omega⟩;have z:minRun' (f+1) a0.size 0=a0.size:=by
   rw[minRun'_succ,if_pos h64,Nat.add_zero]
  rw[← hf] at z;exact z
 simp only[G.size,mr];refine yvc (wpS_mono (ydi (I:=λx o z=>(x=0∧o=(none,0)∧Ok a0 kd z)∨(1≤x∧o=(none,a0.size)∧Fin k a0 z)) (Q:=λo z=>o=(none,a0.size)∧Fin k a0 z) (λx o z _ hx I=>?_) (λo z I=>?_) (.inl ⟨rfl,rfl,G⟩)) λo z I=>?_)
 ·rcases I with⟨rfl,rfl,G'⟩|⟨x1,rfl,D⟩
  ·dsimp only;rw[if_neg (by omega)];simp only[ygm,Nat.min_self,Nat.zero_add];refine yvc (C.run G' (yma _) (by omega) λl y Gy l1 l2 uy=>?_);dsimp only
   by_cases lt:l<a0.size
   ·rw[if_pos lt];refine yvc (wpS_lift (yxh ⟨rfl,?_⟩));refine yvc (C.ins Gy (yma _) l2 uy λv Gv uv=>?_);simp only[Bool.not_true,yxd,if_false];refine yvc (yxo ?_);rw[show (yfm v).back?=none by rw[Gv.pend];rfl];exact yvc (wpS_modify (yce (.inr ⟨by omega,rfl,Gv.fin uv⟩)))
   ·rw[if_neg lt];obtain rfl:l=a0.size:=by omega
    refine yvc (yxo ?_);rw[show (yfm y).back?=none by rw[Gy.pend];rfl];exact yvc (wpS_modify (yce (.inr ⟨by omega,rfl,Gy.fin uy⟩)))
  ·dsimp only;rw[if_pos (yma _)];exact yce ⟨rfl,D⟩
 ·rcases I with⟨hx,_,_⟩|⟨_,ho,D⟩
  ·omega
  ·exact⟨ho,D⟩
 ·obtain⟨rfl,D⟩:=I;dsimp only;refine yvc (wpS_mono (ydi (I:=λ_ o y=>y=z∧o=(none,())) (Q:=λo y=>y=z∧o=(none,())) (λx o y _ _ J=>?_) (λ_ _ J=>J) ⟨rfl,rfl⟩) λo y J=>?_)
  ·obtain⟨rfl,rfl⟩:=J;refine yvc (yxo ?_);rw[if_pos (by rw[D.pend];exact yma 1)];exact yce ⟨rfl,rfl⟩
  ·obtain⟨rfl,rfl⟩:=J;exact yce (q _ D.perm D.none D.up)
end
end TSort
namespace TSort
open PySem PyProof.Rows
def TupI (h:Heap)(a:Addr)(ks:IL):Prop:=Ex5 λ(o:Obj) (its:Array Value) (n:Nat) (us rest:List Value)=>h.get? a=some o∧o.cls = .type "tuple" ∧ o.data = .seq its n∧its.toList=us++rest∧yul us ks
theorem TupI.keep {h h':Heap}{a:Addr}{ks:IL}(t:TupI h a ks)(e:∀o,h.get? a=some o->h'.get? a=some o):TupI h' a ks:=by
 obtain⟨o,its,n,us,rest,h1,h2⟩:=t;exact⟨o,its,n,us,rest,e _ h1,h2⟩
def kf (f:Addr->IL):Value->IL
 | .ref a=>f a
 | _=>[]
section
variable {pr:ytb}{wo:World}{Ar:Around}{Ex:Value->Shared->Prop}{sh:Shared}
theorem lex {b fin:Bool}{R:Bool->Shared->Prop}:∀{us vs:List Value} {xs ys:IL} {r1 r2:List Value} {i:Nat},yul us xs->yul vs ys->xs.length=ys.length->xs≠ys->R (decide (xs<ys)) sh->W.KatLex pr wo Ar b fin R ((us++r1).zip (vs++r2)) i sh
 | _,_,_,_,_,_,_,.nil,.nil,_,n,_=>absurd rfl n
 | _,_,_,_,_,_,_,.nil,.cons _ _ _,l,_,_=>by simp at l
 | _,_,_,_,_,_,_,.cons _ _ _,.nil,l,_,_=>by simp at l
 | _,_,_,_,r1,r2,i,.cons x t hx (vs:=us) (ns:=xs),.cons y u hy (vs:=vs) (ns:=ys),l,n,q=>by
  refine W.kat_cons (wpAny_eqBool_int ?_)
  by_cases e:x=y
  ·subst e;rw[show (x==x)=true by simp];refine W.kat_yes (lex hx hy (by simpa using l) (λz=>n (by rw[z])) ?_);have z:decide (x::xs<x::ys)=decide (xs<ys):=by
    apply decide_eq_decide.mpr;rw[yyc]
    constructor
    ·rintro (c|⟨_,c⟩)
     ·exact absurd c (Int.lt_irrefl x)
     ·exact c
    ·exact λc=>.inr ⟨rfl,c⟩
   rw[z] at q;exact q
  ·rw[show (x==y)=false by simpa using e];have z:decide (x::xs<y::ys)=decide (x<y):=by
    apply decide_eq_decide.mpr;rw[yyc]
    constructor
    ·rintro (c|⟨c,_⟩)
     ·exact c
     ·exact absurd c e
    ·exact λc=>.inl c
   rw[z] at q;refine W.kat_no ?_;cases (b&&i==0) with
   | true=>exact oneLt_int q
   | false=>exact W.kat_one _ _ (lt_int q)
theorem ztjb {f:Addr->IL}{vs:List Value}{m:Nat}{b:Bool}(hv:∀v∈vs,∃a,v = .ref a∧TupI sh.heap a (f a)∧(f a).length=m)(un:(vs.map (kf f)).Nodup):Cmp pr wo Ar Ex sh (kf f) (yvm vs) (tuples' b):=by
 refine⟨λx y st R hk mx my n q=>?_,?_⟩
 ·rw[yqm] at mx my;obtain⟨a,ea,⟨o1,i1,n1,u1,r1,g1,_,d1,l1,t1⟩,m1⟩:=hv _ (ydo mx).2;obtain⟨c,ec,⟨o2,i2,n2,u2,r2,g2,_,d2,l2,t2⟩,m2⟩:=hv _ (ydo my).2;rw[ea,ec] at n q;rw[lt'_eq];refine yvc (yxo ?_);rw[hk,ea,ec];refine yvc (wpS_lift (yzk (W.kat_lt g1 d1 g2 d2 ?_)));rw[l1,l2];exact lex t1 t2 (by rw[m1,m2]) n ⟨rfl,yce q⟩
 ·rw[yqm];have e:(vs.zip vs).map (λp=>kf f p.1)=vs.map (kf f):=by
   rw[show (λp:Keyed=>kf f p.1)=kf f∘Prod.fst from rfl,← yqf,yko (yma _)]
  rw[e];exact un
theorem zagb {f:Addr->IL}{vs:List Value}{m:Nat}{R:ykm->Shared->Prop}(hm:0<m)(h0:0<vs.length)(hv:∀v∈vs,∃a,v = .ref a∧TupI sh.heap a (f a)∧(f a).length=m)(q:R (tuples' true) sh):wpAny (model pr wo) Ar (keyKind' vs.toArray) R Ex sh:=by
 have all:∀vs:List Value,(∀v∈vs,∃a,v = .ref a∧TupI sh.heap a (f a)∧(f a).length=m)->∃fs,W.KatTups sh.heap vs fs∧fs.length=vs.length∧∀v∈fs,Ex2 λx t=>v = .int x t:=by
  intro vs
  induction vs with
  | nil=>exact λ_=>⟨[],.nil,rfl,by simp⟩
  | cons v r ih =>
   intro h;obtain⟨fs,a1,a2,a3⟩:=ih λz hz=>h z (yna _ hz);obtain⟨a,rfl,⟨o,its,n,us,rest,g,c,d,l,t⟩,hl⟩:=h v yia;generalize f a=ks at t hl;cases t with
   | nil=>simp at hl;omega
   | cons x tk h' =>
    refine⟨.int x tk::fs,.cons g c d (by rw[← ycc,l];rfl) a1,by rw[yga,yga,a2],?_⟩;intro z hz
    rcases yha.mp hz with e|e
    ·exact⟨x,tk,e⟩
    ·exact a3 z e
 obtain⟨fs,a1,a2,a3⟩:=all vs hv;refine W.kat_kind (T:=.type "int") a1 (by omega) (λv h=>?_) rfl q;obtain⟨x,t,rfl⟩:=a3 v h;exact .now
end
end TSort
namespace TSort
open PySem PyProof.Rows
section
variable {pr:ytb}{wo:World}{Ar:Around}{Ex:Value->Shared->Prop}{sh:Shared}
theorem le64:64≤yta:=by decide
theorem zyjb {f:Addr->IL}{vs:List Value}{xs:Array Keyed}(p:xs.Perm (yvm vs))(u:Up (kf f) xs (yvm vs).size):(xs.map (·.2)).toList.Perm vs∧((xs.map (·.2)).toList.map (kf f)).Pairwise (· < ·):=by
 have pl:xs.toList.Perm (vs.zip vs):=by
  rw[← yqm];exact ytg.mp p
 have same:∀q∈xs.toList,q.1=q.2:=λq hq=>(ydo (pl.mem_iff.mp hq)).1;have e:(xs.map (·.2)).toList=xs.toList.map (·.1):=by
  rw[Array.toList_map];exact yeh λq hq=>(same q hq).symm
 refine⟨?_,?_⟩
 ·rw[e];have z:=pl.map Prod.fst;rw[yko (yma _)] at z;exact z
 ·rw[e,yqf,yzg];intro i j hi hj ij;have hi':i<xs.size:=by simpa using hi
  have hj':j<xs.size:=by simpa using hj
  have z:=u i j ij (by rw[← p.size_eq];exact hj');unfold ka at z;rw[yjb hi',yjb hj'] at z;rw[yve,yve];exact z
theorem zilb {f:Addr->IL}{a:Addr}{vs:List Value}{m n:Nat}{R:PySem.Fin->Shared->Prop}(ho:sh.heap.get? a=some (seqObj "list" vs.toArray n))(hm:0<m)(hv:∀v∈vs,∃b,v = .ref b∧TupI sh.heap b (f b)∧(f b).length=m)(un:(vs.map (kf f)).Nodup)(h64:vs.length<64)
  (q:∀out:Array Value,out.toList.Perm vs->(out.toList.map (kf f)).Pairwise (· < ·)->R (.done (.ret .none)) { sh with heap:=sortedHeap sh.heap a vs out }) :
  wpAny (model pr wo) Ar (ysf.«list.sort» ⟨[.ref a],[]⟩) R Ex sh:=by
 have lt:a<sh.heap.objs.size:=yqa ho;have len:vs.toArray.size=vs.length:=yka ..;rw[list_sort_plain];refine yaa (listItems_at ho rfl (yaa (yjn ho rfl ?_)));obtain⟨ep,h1⟩:∃ep,(sh.heap.update a (yte λ_=>#[])).get? a=some (seqObj "list" #[] ep):=⟨_,get?_update_seq ho λ_=>#[]⟩;refine yaa (seqEpoch_at h1 rfl (yaa (ypm (yaa (yin (yxb ?_))))));show wpAny (model pr wo) Ar _ R Ex { sh with heap:=((sh.heap.update a (yte λ_=>#[])).push (seqObj "tuple" vs.toArray 0)).push (seqObj "list" #[] 0) }
 generalize hH:((sh.heap.update a (yte λ_=>#[])).push (seqObj "tuple" vs.toArray 0)).push (seqObj "list" #[] 0)=H;have h6:H.get? a=some (seqObj "list" #[] ep):=by
  rw[← hH];exact yca _ (yca _ h1)
 have hb:∀v∈vs,∃b,v = .ref b∧TupI H b (f b)∧(f b).length=m:=λv z=>by
  obtain⟨b,e,t,l⟩:=hv v z;refine⟨b,e,t.keep λo g=>?_,l⟩;have nb:b≠a:=by
   rintro rfl;obtain⟨o',_,_,_,_,g',c',_⟩:=t;rw[g'] at ho;cases ho;have z:Value.type "list" = Value.type "tuple":=c';injection z with z
   exact absurd z (by decide)
  rw[← hH];exact yca _ (yca _ ((yne ..).extBut b o nb g))
 have done:∀out:Array Value,H.update a (yte λ_=>out)=sortedHeap sh.heap a vs out:=λout=>by rw[← hH];rfl
 dsimp only
 by_cases two:vs.toArray.size<2
 ·rw[if_pos two,if_pos two];refine yaa (yfa ?_);rw[StateT.run_pure];refine yaa (yfa ?_);dsimp only;refine yaa (seqEpoch_at h6 rfl (yaa (yjn h6 rfl ?_ (hsz2:=?_))))
  ·simp only[bne_self_eq_false,yxd,if_false];obtain⟨a1,a2⟩:=zyjb (f:=f) (vs:=vs) (xs:=yvm vs) (yzo _) (λi j ij hj=>by rw[ynj] at hj;omega);refine yfa ?_;have z:=q _ a1 a2;rw[← done] at z;exact z
  ·rw[Array.size_map];show (yvm vs).size≤yta+1
   rw[ynj];have:64≤yta:=by decide
   omega
 ·rw[if_neg two,if_neg two];refine yaa (zagb hm (by omega) hb ?_);have two':2≤(yvm vs).size:=by
   rw[ynj];omega
  refine yaa (ymd ((ztjb (pr:=pr) (wo:=wo) (Ar:=Ar) (Ex:=Ex) (b:=true) hb un).all (st:=SortSt.mk' (tuples' true) (vs.toArray.zip vs.toArray) #[] 7 none) ⟨yzo _,rfl,rfl,rfl⟩ two' (by rw[ynj];exact h64) (R:=λ_ z=>(arrOf z).Perm (yvm vs)∧failedOf z=none∧Up (kf f) (arrOf z) (yvm vs).size) λz b1 b2 b3=>⟨b1,b2,b3⟩) ?_ λ_ _ e=>e);rintro⟨⟨⟩,z⟩ s' ⟨rfl,b1,b2,b3⟩;dsimp only;refine yaa (seqEpoch_at h6 rfl (yaa (yjn h6 rfl ?_ (hsz2:=?_))))
  ·rw[b2];simp only[bne_self_eq_false,yxd,if_false];obtain⟨a1,a2⟩:=zyjb b1 b3;refine yfa ?_;have y:=q _ a1 a2;rw[← done] at y;exact y
  ·refine yxa (yql ((Array.size_map ..).trans (b1.size_eq.trans (ynj _)))) ?_;have:64≤yta:=by decide
   omega
theorem zcz {f:Addr->IL}{l:Addr}{vs:List Value}{m:Nat}{R:Value->Shared->Prop}(hl:sh.heap.IsList l vs.toArray)(hm:0<m)(hv:∀v∈vs,∃b,v = .ref b∧TupI sh.heap b (f b)∧(f b).length=m)(un:(vs.map (kf f)).Nodup)(h64:vs.length<64)
  (q:∀out:Array Value,out.toList.Perm vs->(out.toList.map (kf f)).Pairwise (· < ·)->R (.ref (sh.heap.objs.size+1)) { sh with heap:=ywo sh.heap vs out }) :
  wpAny (model pr wo) Ar (call (.builtin "sorted") [.ref l]) R Ex sh:=by
 refine yuj kind_sorted plain_sorted entry_sorted (args_sorted1 _) ?_;unfold ysf.«sorted»;refine yaa (m:=checkCount "sorted" 1 1 _) (yfa (yaa (collect_list hl (yaa (yin ?_)) (yxa (yde h64) le64))));show wpAny (model pr wo) _ _ _ Ex { sh with heap:=((sh.heap.push (seqObj "list" #[] 0)).update sh.heap.objs.size (yte (· ++ vs.toArray))).push (seqObj "list" vs.toArray 0) }
 generalize hG:(sh.heap.push (seqObj "list" #[] 0)).update sh.heap.objs.size (yte (· ++ vs.toArray))=G;have sz:G.objs.size=sh.heap.objs.size+1:=by
  rw[← hG,Heap.size_update,size_push']
 have kp:∀b o,sh.heap.get? b=some o->G.get? b=some o:=λb o g=>by
  rw[← hG];exact (yne ..).extBut b o (yeb (yqa g)) (yca _ g)
 have at1:(G.push (seqObj "list" vs.toArray 0)).get? (sh.heap.objs.size+1)=some (seqObj "list" vs.toArray 0):=by
  rw[← sz];exact yoa _ rfl
 rw[sz];refine yaa (yxb (yqc slot_list_sort ⟨_,at1,rfl⟩ entry_list_sort (zilb at1 hm (λv z=>?_) un h64 λout o1 o2=>⟨_,rfl,?_⟩) (args_list_sort _)))
 ·obtain⟨b,e,t,l'⟩:=hv v z;exact⟨b,e,t.keep λo g=>yca _ (kp b o g),l'⟩
 ·refine yfa ⟨_,rfl,?_⟩;have y:=q out o1 o2;unfold ywo at y;rw[hG] at y;exact y
end
end TSort
namespace L2
open PySem PyProof.Rows
def refV:Value->V
 | .ref a=>.ref a
 | _=>.non
theorem zyv:∀{us:List V} {its:List Value},Vals us its->(∀u∈us,∃a,u = .ref a)->its.map refV=us∧∀v∈its,∃a,v = .ref a∧V.ref a∈us
 | _,_,.nil,_=>⟨rfl,by simp⟩
 | _,_,.cons r t,h=>by
  obtain⟨a,rfl⟩:=h _ yia;cases r;obtain⟨e1,e2⟩:=zyv t λu hu=>h u (yna _ hu);refine⟨by rw[yva,e1];rfl,?_⟩;intro v hv
  rcases yha.mp hv with z|z
  ·exact⟨a,z,yia⟩
  ·obtain⟨b,e,m⟩:=e2 v z;exact⟨b,e,yna _ m⟩
theorem zaw:∀{vs:List Value},(∀v∈vs,∃a,v = .ref a)->Vals (vs.map refV) vs
 | [],_=>.nil
 | v::r,h=>by
  obtain⟨a,rfl⟩:=h v yia;exact .cons rfl (zaw λu hu=>h u (yna _ hu))
section
variable {X:Cx}
theorem zsj:zwk X (.builtin "sorted") (λxs H Q=>Ex4 λ(l:Addr) (us:List V) (g:V->List Int) (m:Nat)=>xs=[.ref l]∧SqL X.K H l us∧us.length<64∧0<m∧(∀u∈us,Ex3 λa ys zs=>u = .ref a∧SqT X.K H a (ys.map V.int++zs)∧g u=ys∧ys.length=m)∧(us.map g).Nodup ∧
  ∀p out,H p=none->out.Perm us->(out.map g).Pairwise (· < ·)->Q (.ref p) (upd H p (.lst out))):=by
 intro pins s σ H xs vs Q I r h;obtain⟨l,us,g,m,rfl,hl,h64,hm,ht,un,q⟩:=h;obtain⟨u,rfl,ru⟩:=vals1 r;cases ru;obtain⟨its,rv,pl,_⟩:=I.list hl;obtain⟨e1,e2⟩:=zyv rv λu hu=>by
  obtain⟨a,_,_,e,_⟩:=ht u hu;exact⟨a,e⟩
 have len:its.length=us.length:=rv.length.symm;have kg:∀v∈its,TSort.kf (λa=>g (.ref a)) v=(g∘refV) v:=λv hv=>by
  obtain⟨a,rfl,_⟩:=e2 v hv;rfl
 have hv:∀v∈its,∃b,v = .ref b∧TSort.TupI s.heap b (g (.ref b))∧(g (.ref b)).length=m:=λv hv=>by
  obtain⟨a,rfl,ha⟩:=e2 v hv;obtain⟨a',ys,zs,e,sq,eg,lg⟩:=ht _ ha;cases e;obtain⟨jts,rj,⟨o,g1,g2,n,g3⟩,_⟩:=I.tuple sq;refine⟨a,rfl,?_,by rw[eg];exact lg⟩;have t1:=rj.take (ys.map V.int).length;rw[List.take_left' rfl] at t1;refine⟨o,jts.toArray,n,jts.take (ys.map V.int).length,jts.drop (ys.map V.int).length,g1,g2,g3,by rw[yei],?_⟩;rw[eg];exact intsAre_of t1
 have un':(its.map (TSort.kf λa=>g (.ref a))).Nodup:=by
  rw[yeh kg,← yqf,e1];exact un
 refine TSort.zcz (vs:=its) (f:=λa=>g (.ref a)) (m:=m) pl.isList hm hv un' (by rw[len];exact h64) λout o1 o2=>?_;obtain⟨e,he⟩:=sortedAll_at s.heap its out;have mem:∀v∈out.toList,v∈its:=λv hv=>o1.mem_iff.mp hv;have rout:Vals (out.toList.map refV) out.toList:=zaw λv hv=>by
  obtain⟨a,e,_⟩:=e2 v (mem v hv);exact⟨a,e⟩
 have pm:(out.toList.map refV).Perm us:=by
  have z:=o1.map refV;rw[e1] at z;exact z
 have I1:Inv X pins σ (upd H (s.heap.objs.size+1) (.lst (out.toList.map refV))) { s with heap:=ywo s.heap its out }:=I.laid (t':=s.toks) (λb o e=>sortedAll_old e) (ytf _) ⟨by rw[pm.length_eq];exact yxa (yde h64) TSort.le64,out.toList,e,rout,by rw[yae];exact he⟩;refine⟨.ref (s.heap.objs.size+1),_,I1,rfl,q _ _ (I.hok.fresh (ytf _)) pm ?_⟩;rw[yeh λv hv=>kg v (mem v hv),← yqf] at o2;exact o2
end
end L2
namespace L2
open PySem PyProof.Rows
section
variable {pr:ytb}{wo:World}{Ar:Around}{Ex:Value->Shared->Prop}
theorem zdcb {it b:Addr}{vs:Array Value}(ne:b≠it):∀(n i:Nat) (sh:Shared) (R:List Value->Shared->Prop),sh.heap.IsListIter it b i->sh.heap.IsList b vs->i+n≤vs.size →
  (∀h2,h2.IsListIter it b (i+n)->ywc it sh.heap h2->R ((vs.toList.drop i).take n) { sh with heap:=h2 })->wpAny (model pr wo) Ar (draw (.ref it) n) R Ex sh
 | 0,i,sh,R,h1,_,_,k=>by
  refine (show wpAny (model pr wo) Ar (pure []) R Ex sh from yfa ?_)
  simpa using k sh.heap h1 (yhk ..)
 | n+1,i,sh,R,h1,h2,le,k=>by
  have lt:i<vs.size:=by omega
  refine (show wpAny (model pr wo) Ar (pyNext (.ref it) >>= _) R Ex sh from yaa (yhl h1 h2 (x:=vs[i]) (by simp[lt]) λg1 a1 b1=>?_));refine yaa (yxb (zdcb ne n (i+1) _ _ a1 (h2.extBut b1.extBut ne) (by omega) λg2 a2 b2=>yfa ?_));have e:vs.toList.drop i=vs[i]::vs.toList.drop (i+1):=by simp[yvj,lt]
  have z:=k g2 (by rw[show i+(n+1)=i+1+n by omega];exact a2) (b1.trans b2);rw[e,List.take_succ_cons] at z;exact z
theorem zscb {sh:Shared}{b:Addr}{vs:Array Value}{tg:List (Bool×(Value->Sem Unit))}{R:Unit->Shared->Prop}(hd:Ar.handled=none)(hl:sh.heap.IsList b vs)(hn:tg.length=vs.size)(hs:tg.findIdx? (·.1)=none)
  (k:∀h2,yap sh.heap.objs.size sh.heap h2->wpAny (model pr wo) Ar (assignInOrder (tg.map (·.2)) vs.toList) R Ex { sh with heap:=h2 }) :
  wpAny (model pr wo) Ar (unpack (.ref b) tg) R Ex sh:=by
 have ne:b≠sh.heap.objs.size:=by
  obtain⟨o,ho,_⟩:=hl;exact yeb (yqa ho)
 unfold unpack;rw[hn,hs];refine yaa (yxb ?_);unfold unpackItems;refine yaa ?_;unfold notIterableAtAll;refine yaa (wpAny_specialOf hl.typeIs slot_list_iter.lookup (yfa ?_));simp only[yxd,if_false];refine yaa (yxb (yuh hl ?_));refine yaa (yxb (zdcb ne vs.size 0 _ _ ⟨_,yoa _ rfl,rfl,rfl⟩ (hl.push _) (by omega) λg1 a1 b1=>?_));have e:List.take vs.size (ybp 0 vs.toList)=vs.toList:=by
  rw[yzh,ysa (by simp)]
 rw[e,if_neg (by simp)];refine yaa (yxb (ynl hd a1 ((hl.push _).extBut b1.extBut ne) (by simp) λg2 c2=>?_));simp only[Option.isSome_none,yxd,if_false];exact yfa (k g2 λx o hx z=>c2 x o hx (b1.extBut x o hx (yca _ z)))
end
section
variable {X:Cx}
def gLst (K:yba)(n:Nat)(t:TGs):TG:=λv σ H Q=>Ex2 λa xs=>v = .ref a∧SqL K H a xs∧xs.length=n∧t xs σ H Q
theorem zoob {es:List Expr}{k:Nat}{t:TGs}{n:Nat}{pos:Pos}(hc:X.calm=true)(h:PGs X es t)
  (hn:(ypg es X.env).length=n:=by rfl) (hst:(ypg es X.env).findIdx? (·.1)=none:=by rfl):PG X (.Tuple es k pos) (gLst X.K n t):=by
 intro pins s σ H v u Q I r hw;obtain⟨a,xs,rfl,hq,hl,hw⟩:=hw;cases r;obtain⟨its,rv,pl,hz⟩:=I.list hq;rw[assign_Tuple];refine yaa (ysk (zscb (I.ok.hd hc) pl.isList (by simp[hn,← hl,rv.length]) hst λh2 hx=>?_));have I1:Inv X pins σ H { s with heap:=h2 }:=I.kept (t':=s.toks) λb o e=>hx b o (yeb (yqa e)) e;exact h pins _ σ H xs _ Q I1 (by simpa using rv) hw
theorem zulb (K:yba){es:List Expr}{k:Nat}{t:TGs}{n:Nat}{pos:Pos}(hc:X.calm=true)(h:PGs X es t)
  (hn:(ypg es X.env).length=n:=by rfl) (hst:(ypg es X.env).findIdx? (·.1)=none:=by rfl) (hK:X.K=K:=by rfl):PG X (.Tuple es k pos) (gTup K n t):=hK▸zjp hc h hn hst
end
end L2
namespace L2
open PySem PyProof.Rows
section
variable {X:Cx}
inductive TyB (K:yba)(H:Hp):V->Value->Prop where
 | non:TyB K H .non (.type "NoneType")
 | bl (x:Bool):TyB K H (.bl x) (.type "bool")
 | int (i:Int):TyB K H (.int i) (.type "int")
 | str (x:Str):TyB K H (.str x) (.type "str")
 | lst {a:Addr} {xs:List V} (e:SqL K H a xs):TyB K H (.ref a) (.type "list")
 | tup {a:Addr} {xs:List V} (e:SqT K H a xs):TyB K H (.ref a) (.type "tuple")
theorem eq_self (A:Around)(s:Shared)(a:Addr):ybd A s (.ref a) (.ref a) true:=λpr wo E R h=>by
 unfold eqBool;refine yxb ?_;rw[if_pos (by simp)];exact yaa (yxh (yfa h))
theorem zddb {us:List V}(hu:∀u∈us,∃a,u = .ref a){v w:List Value}(h1:Vals us v)(h2:Vals us w):v=w∧∀x∈v,∃a,x = .ref a:=by
 induction h1 generalizing w with
 | nil=>cases h2;exact⟨rfl,by simp⟩
 | cons r t ih =>
  cases h2 with
  | cons r' t' =>
   obtain⟨a,rfl⟩:=hu _ yia;obtain⟨e,m⟩:=ih (λu z=>hu u (yna _ z)) t';cases r;cases r';refine⟨by rw[e],?_⟩;intro x hx
   rcases yha.mp hx with z|z
   ·exact⟨a,z⟩
   ·exact m x z
theorem all_true (n:Nat):(ypd n).all (λ_=>true)=true:=by simp
end
end L2
namespace L2
open PySem PySem.Spec PyProof.Rows
section
variable {κ:Type}[DecidableEq κ]
def valV (kvs:List (κ×V))(k:κ):Option V:=(kvs.find? λkv=>decide (kv.1=k)).map (·.2)
end
section
variable {P:ytb}{w:World}{H:Hp}{h:Heap}{a:Addr}
end
section
variable {X:Cx}{pins:List (Addr×Obj)}{σ:St}{H:Hp}{s:Shared}{a:Addr}{y v:V}{u r:Value}{o:Option V}{A:Around}{E:Value->Shared->Prop}
end
section
variable {X:Cx}{pins:List (Addr×Obj)}{σ:St}{H:Hp}{s:Shared}{a:Addr}{kvs:List (Key×V)}{k:Key}{u:Value}{A:Around}{E:Value->Shared->Prop}
end
section
variable {X:Cx}{o i e value:Expr}{pos pos' tpos:Pos}{td ty tv:TE}
end
section
variable {X:Cx}{pos:Pos}
end
structure M1 (X:Cx)(o:Expr)(m:Str)(apos:Pos)(e:Expr)(cpos:Pos):Prop where
 base:yki o m X.env (eval o X.env)=eval o X.env
 few:((backTo cpos (yic [e] X.env)).all (λx=>!x.1)&&(ymo cpos (yuk [] X.env)).all (λx=>x.1.isSome)
  && decide (([e]:List Expr).length+([]:List yrn).length+(if ([]:List yrn).isEmpty then 0 else 1)<30))=true
 line:(apos.endLine==cpos.line)=true
 trees:backTo cpos (yic [e] X.env)=[(false,eval e X.env)]
structure M2 (X:Cx)(o:Expr)(m:Str)(apos:Pos)(e f:Expr)(cpos:Pos):Prop where
 base:yki o m X.env (eval o X.env)=eval o X.env
 few:((backTo cpos (yic [e,f] X.env)).all (λx=>!x.1)&&(ymo cpos (yuk [] X.env)).all (λx=>x.1.isSome)
  && decide (([e,f]:List Expr).length+([]:List yrn).length+(if ([]:List yrn).isEmpty then 0 else 1)<30))=true
 line:(apos.endLine==cpos.line)=true
 trees:backTo cpos (yic [e,f] X.env)=[(false,eval e X.env),(false,eval f X.env)]
section
variable {X:Cx}{pins:List (Addr×Obj)}{σ:St}{H:Hp}{s:Shared}{a:Addr}{y d:V}{u r:Value}{o:Option V}{A:Around}{E:Value->Shared->Prop}
end
section
variable {X:Cx}{o e f:Expr}{apos cpos:Pos}{td ty tx:TE}
end
section
variable {X:Cx}{pins:List (Addr×Obj)}{σ:St}{H:Hp}{s:Shared}{a:Addr}{kvs:List (Key×V)}{A:Around}{E:Value->Shared->Prop}
end
section
variable {X:Cx}{pins:List (Addr×Obj)}{σ:St}{H:Hp}{s:Shared}{a:Addr}{y:V}{u:Value}{A:Around}{E:Value->Shared->Prop}
end
end L2
namespace L2
open PySem PyProof.Rows
section
variable {pr:ytb}{wo:World}{Ar:Around}{Ex:Value->Shared->Prop}{sh:Shared}
theorem zobb (a:Addr):¬ ((Value.ref a==Value.none)=true):=yua
theorem zukb {it t:Addr}{i:Nat}{ys:Array Value}{v:Value}{R:PySem.Fin->Shared->Prop}(h1:sh.heap.IsTupleIter it t i)(h2:sh.heap.IsTuple t ys)(h3:ys[i]?=some v)
  (q:∀g,g.IsTupleIter it t (i+1)->ywc it sh.heap g->R (.done (.ret v)) { sh with heap:=g }):wpAny (model pr wo) Ar (ysf.«tuple_iterator.__next__» ⟨[.ref it],[]⟩) R Ex sh:=by
 obtain⟨ob,a1,a2,a3⟩:=id h1;obtain⟨ot,b1,_,nn,b3⟩:=h2;refine (show wpAny (model pr wo) Ar (field (.ref it) 0 >>= _) R Ex sh from yaa (yyd a1 a3 (x:=.ref t) rfl ?_));rw[if_neg (zobb t)];refine (show wpAny (model pr wo) Ar (field (.ref it) 1 >>= _) R Ex sh from yaa (yyd a1 a3 (x:=.int i 0) rfl ?_));refine (show wpAny (model pr wo) Ar (ylk (.ref t) >>= _) R Ex sh from yaa (wpAny_seqItems b1 b3 ?_));simp only[ysc,h3];refine yaa (wpAny_setField a1 a3 (by simp) (yfa (q _ ⟨_,yvd _ a1 (Obj.isFreed_of_fields (ykn a3 _)),(Obj.cls_mapFields ..).trans a2,?_⟩ (yne ..))));rw[ykn a3];simp[rawInt]
theorem ztib {it t:Addr}{i:Nat}{ys:Array Value}{v:Value}{R:Value->Shared->Prop}(h1:sh.heap.IsTupleIter it t i)(h2:sh.heap.IsTuple t ys)(h3:ys[i]?=some v)
  (q:∀g,g.IsTupleIter it t (i+1)->ywc it sh.heap g->R v { sh with heap:=g }):wpAny (model pr wo) Ar (ydf (.ref it)) R Ex sh:=by
 unfold ydf;exact yaa (yoc (name:=yof "__next__") h1.typeIs yqe (yqc yqe h1.typeIs yaj (zukb h1 h2 h3 λg a b=>⟨v,rfl,yfa (q g a b)⟩) (yni _)))
theorem zmhb {it t:Addr}{i:Nat}{ys:Array Value}{R:Value->Shared->Prop}(hd:Ar.handled=none)(h1:sh.heap.IsTupleIter it t i)(h2:sh.heap.IsTuple t ys)(h3:ys[i]?=none)
  (q:∀g e,yap it sh.heap g->(∃o,g.get? e=some o∧o.cls = .type "StopIteration")->Ex (.ref e) { sh with heap:=g }):wpAny (model pr wo) Ar (ydf (.ref it)) R Ex sh:=by
 obtain⟨ob,a1,a2,a3⟩:=id h1;obtain⟨ot,b1,_,nn,b3⟩:=h2;unfold ydf;refine yaa (yoc (name:=yof "__next__") h1.typeIs yqe (yqc yqe h1.typeIs yaj ?_ (yni _)));refine (show wpAny (model pr wo) Ar.in1 (field (.ref it) 0 >>= _) _ Ex sh from yaa (yyd a1 a3 (x:=.ref t) rfl ?_));rw[if_neg (zobb t)];refine (show wpAny (model pr wo) Ar.in1 (field (.ref it) 1 >>= _) _ Ex sh from yaa (yyd a1 a3 (x:=.int i 0) rfl ?_));refine (show wpAny (model pr wo) Ar.in1 (ylk (.ref t) >>= _) _ Ex sh from yaa (wpAny_seqItems b1 b3 ?_));simp only[ysc,h3];refine yaa (yxh (yaa (wpAny_setField a1 a3 (by simp) ?_)));refine (show wpAny (model pr wo) Ar.in1 (newExc (.type "StopIteration") [] >>= _) _ Ex _ from yaa ?_);simp only[newExc,newTuple];refine yaa (ytc ?_ (by size_fits));refine yaa (m:=ysj _ _) (wpAny_of_eq (a:=Value.none) (by first|rfl|(simp only[ysj];rfl)) (ytc ?_ (by size_fits)));simp only[yno];refine yaa (wpAny_handled ?_)
 first|rw[show Ar.in1.handled=none from hd]|rw[hd]
 exact yaa (yfa (wpAny_throw (q _ _ (((yne ..).extBut.push _).push _) ⟨_,yoa _ rfl,rfl⟩)))
def En (h:Heap)(e it t:Addr)(i:Nat):Prop:=(∃old,IsEnum h e it (i:Int) old)∧h.IsTupleIter it t i∧e≠it
theorem zanb {e it t:Addr}{i:Nat}{ys:Array Value}{v:Value}{R:Option Value->Shared->Prop}(hE:En sh.heap e it t i)(h2:sh.heap.IsTuple t ys)(h3:ys[i]?=some v)
  (q:∀g,IsEnumOut g e it ((i:Int)+1) v sh.heap.objs.size->g.IsTupleIter it t (i+1)->g.get? sh.heap.objs.size=some { cls:=.type "tuple",data:=.seq #[.int i sh.toks,v] } →
   (∀b o,b≠e->b≠it->sh.heap.get? b=some o->g.get? b=some o)->R (some (.ref sh.heap.objs.size)) { sh with heap:=g,toks:=sh.toks+1 }):wpAny (model pr wo) Ar (pyNext (.ref e)) R Ex sh:=by
 obtain⟨⟨old,he⟩,h1,ne⟩:=hE;have ty:sh.TypeIs (.ref e) "enumerate":=⟨_,he,rfl⟩;obtain⟨hp,gn,dr,tk,os⟩:=sh;unfold pyNext;refine yaa (yzk (yoc (name:=yof "__next__") ty ykg (yqc ykg ty ykl ?_ (ybl _))));refine (show wpAny (model pr wo) Ar.in1 (field (.ref e) 2 >>= _) _ _ ⟨hp,gn,dr,tk,os⟩ from yaa (yyd he rfl (x:=.ref it) rfl ?_));refine yaa (ztib h1 h2 h3 λg1 i1 s1=>?_);have s1':ywc it hp g1:=s1;have e1:IsEnum g1 e it (i:Int) old:=(s1'.2 e ne).trans he;refine (show wpAny (model pr wo) Ar.in1 (field (.ref e) 3 >>= _) _ _ ⟨g1,gn,dr,tk,os⟩ from yaa (yyd e1 rfl (x:=rawInt i) rfl ?_));refine (show wpAny (model pr wo) Ar.in1 (field (.ref e) 4 >>= _) _ _ ⟨g1,gn,dr,tk,os⟩ from yaa (yyd e1 rfl (x:=.none) rfl ?_));refine (show wpAny (model pr wo) Ar.in1 (mkInt i >>= _) _ _ ⟨g1,gn,dr,tk,os⟩ from yaa (wpAny_mkInt ?_));refine (show wpAny (model pr wo) Ar.in1 (yyk (.ref e) 3 (rawInt ((i:Int)+1)) >>= _) _ _ ⟨g1,gn,dr,tk+1,os⟩ from yaa (ylc e1 (by simp) λg2 e2 s2=>?_));have s2':ywc e g1 g2:=s2;have e2':IsEnum g2 e it ((i:Int)+1) old:=e2;refine (show wpAny (model pr wo) Ar.in1 (yyk (.ref e) 4 .none >>= _) _ _ ⟨g2,gn,dr,tk+1,os⟩ from yaa (ylc e2' (by simp) λg3 e3 s3=>?_));have s3':ywc e g2 g3:=s3;have e3':IsEnum g3 e it ((i:Int)+1) old:=e3;refine (show wpAny (model pr wo) Ar.in1 (newTuple [.int i tk,v] >>= _) _ _ ⟨g3,gn,dr,tk+1,os⟩ from yaa (ypm ?_));have sz:g3.objs.size=hp.objs.size:=by rw[s3'.1,s2'.1,s1'.1]
 have lt:e<hp.objs.size:=yqa he;obtain⟨g4,hg4⟩:∃g4,g4=g3.push { cls:=.type "tuple",data:=.seq #[.int i tk,v] }:=⟨_,rfl⟩;have e4:IsEnum g4 e it ((i:Int)+1) old:=by rw[hg4];exact yca _ e3'
 have t4:g4.get? hp.objs.size=some { cls:=.type "tuple",data:=.seq #[.int i tk,v] }:=by rw[hg4,← sz];exact yoa _ rfl
 have k4:∀b o,b≠e->b≠it->hp.get? b=some o->g4.get? b=some o:=λb o n1 n2 z=>by
  rw[hg4];exact yca _ (s3'.extBut b o n1 (s2'.extBut b o n1 (s1'.extBut b o n2 z)))
 have i4:g4.IsTupleIter it t (i+1):=by
  obtain⟨o,z,r⟩:=(i1.extBut s2'.extBut (yub ne)).extBut s3'.extBut (yub ne);exact⟨o,by rw[hg4];exact yca _ z,r⟩
 refine (show wpAny (model pr wo) Ar.in1 (yfh (.ref e) >>= _) _ _ ⟨g3.push { cls:=.type "tuple",data:=.seq #[.int i tk,v] },gn,dr,tk+1,os⟩ from ?_);rw[← hg4,sz];refine yaa ?_;unfold yfh;refine yaa (yyd e4 rfl (x:=.none) rfl (yfa ?_));simp only[if_true];refine yaa (yxh (yaa (yyd e4 rfl (x:=old) rfl (yaa (ylc e4 (by simp) λg5 e5 s5=>?_)))));have s5':ywc e g4 g5:=s5;have e5':IsEnum g5 e it ((i:Int)+1) v:=e5;refine (show wpAny (model pr wo) Ar.in1 (yah (.ref e) (.ref hp.objs.size) >>= _) _ _ ⟨g5,gn,dr,tk+1,os⟩ from yaa ?_);unfold yah;refine yaa (ylc e5' (by simp) λg6 e6 s6=>?_);have s6':ywc e g5 g6:=s6;have e6':IsEnumOut g6 e it ((i:Int)+1) v hp.objs.size:=e6;refine ylc e6' (by simp) λg7 e7 s7=>?_;have s7':ywc e g6 g7:=s7;have up:∀b o,b≠e->g4.get? b=some o->g7.get? b=some o:=λb o n z=>s7'.extBut b o n (s6'.extBut b o n (s5'.extBut b o n z));refine yaa (wpAny_letGo (yfa ⟨_,rfl,yfa (q g7 e7 ?_ (up _ _ (ygh lt) t4) λb o n1 n2 z=>up b o n1 (k4 b o n1 n2 z))⟩));obtain⟨o,z,r⟩:=i4;exact⟨o,up _ _ (yub ne) z,r⟩
theorem zbqb {e it t:Addr}{i:Nat}{ys:Array Value}{R:Option Value->Shared->Prop}(hd:Ar.handled=none)(hE:En sh.heap e it t i)(h2:sh.heap.IsTuple t ys)(h3:ys[i]?=none)
  (q:∀g,yap it sh.heap g->R none { sh with heap:=g }):wpAny (model pr wo) Ar (pyNext (.ref e)) R Ex sh:=by
 obtain⟨⟨old,he⟩,h1,ne⟩:=hE;have ty:sh.TypeIs (.ref e) "enumerate":=⟨_,he,rfl⟩;unfold pyNext;refine yaa (yzk (yoc (name:=yof "__next__") ty ykg (yqc ykg ty ykl ?_ (ybl _))));refine (show wpAny (model pr wo) Ar.in1 (field (.ref e) 2 >>= _) _ _ sh from yaa (yyd he rfl (x:=.ref it) rfl ?_));refine yaa (zmhb hd h1 h2 h3 λg x b z=>?_);obtain⟨o,z1,z2⟩:=z;exact yaa (yel (T:="StopIteration") (b:=true) ⟨o,z1,z2⟩ isSubtype_stop (yfa (q _ b)))
open AutoSeq1 (wpAny_loadPart') in
theorem zsfb (t:Addr)(ys:Array Value)(n:Nat)(dct:Option Addr)(sl:Array (Option Value)):Meets (ysf.«enumerate.__new__» ⟨[.type "enumerate",.ref t],[]⟩) (λ_ R s=>s.heap.get? t=some { cls:=.type "tuple",dict:=dct,data:=.seq ys n,slots:=sl } ∧
   R (.ok (.ret (.ref (s.heap.push { cls:=.type "tuple_iterator",data:=.fields #[.ref t,.int 0 0] }).objs.size)))
    { s with heap:=(s.heap.push { cls:=.type "tuple_iterator",data:=.fields #[.ref t,.int 0 0] }).push { cls:=.type "enumerate",data:=.fields #[.none,.bool false,.ref s.heap.objs.size,rawInt 0,.none,.none] } }) :=
 .of_wp λprog w A R s h=>by
  obtain⟨hp,g,d,tk,os⟩:=s;obtain⟨ht,h⟩:=h;have hsub:=sub_enumerate;have hT:Heap.IsTuple (Shared.heap ⟨hp,g,d,tk,os⟩) t ys:=⟨_,ht,rfl,n,rfl⟩
  wp_walk using wpAny_loadPart' ht
  refine wpAny_stack_any λst=>yfa ?_
  split
  ·rename_i c _ _ _ _ _;cases (c==Value.type "enumerate")
   ·wp_walk using wpAny_loadPart' ht,yjh hT
    exact⟨_,rfl,h⟩
   ·wp_walk using wpAny_loadPart' ht,yjh hT
    exact⟨_,rfl,h⟩
  ·wp_walk using wpAny_loadPart' ht,yjh hT
   exact⟨_,rfl,h⟩
theorem zxdb {t:Addr}{ys:Array Value}{R:Value->Shared->Prop}(hT:sh.heap.IsTuple t ys)
  (q:∀g,En g (sh.heap.objs.size+1) sh.heap.objs.size t 0->(∀b o,sh.heap.get? b=some o->g.get? b=some o)->R (.ref (sh.heap.objs.size+1)) { sh with heap:=g }) :
  wpAny (model pr wo) Ar (call (.type "enumerate") [.ref t]) R Ex sh:=by
 obtain⟨⟨c,dct,dt,sl⟩,ht,hc,n,hd⟩:=hT;have hc':c = .type "tuple":=hc;have hd':dt = .seq ys n:=hd;subst hc' hd';refine callType_new F.called_enumerate (by decide) (F.typeCall_enumerate_1 _) (F.newCall_enumerate_1 _) (λobj=>F.args_object_init_2 obj _) F.entry_enumerate_new (zsfb t ys n dct sl) ⟨ht,?_⟩;obtain⟨g1,hg1⟩:∃g1,g1=sh.heap.push { cls:=.type "tuple_iterator",data:=.fields #[.ref t,.int 0 0] }:=⟨_,rfl⟩;have sz:g1.objs.size=sh.heap.objs.size+1:=by rw[hg1];exact ybf ..
 show _∧_
 rw[← hg1,sz];have he:IsEnum (g1.push { cls:=.type "enumerate",data:=.fields #[.none,.bool false,.ref sh.heap.objs.size,rawInt 0,.none,.none] }) (sh.heap.objs.size+1) sh.heap.objs.size ((0:Nat):Int) .none:=by
  have z:=yoa g1 (o:={ cls:=.type "enumerate",data:=.fields #[.none,.bool false,.ref sh.heap.objs.size,rawInt 0,.none,.none] }) rfl;rw[sz] at z;exact z
 refine⟨⟨_,he,rfl⟩,q _ ⟨⟨_,he⟩,⟨_,yca _ (by rw[hg1];exact yoa _ rfl),rfl,rfl⟩,Nat.succ_ne_self _⟩ λb o x=>yca _ (by rw[hg1];exact yca _ x)⟩
theorem zox {e it t:Addr}{i:Nat}{R:Value->Shared->Prop}(h:En sh.heap e it t i)(q:R (.ref e) sh):wpAny (model pr wo) Ar (pyIter (.ref e)) R Ex sh:=by
 obtain⟨⟨old,he⟩,_,_⟩:=h;exact wpAny_pyIter_enum he q
end
section
variable {X:Cx}{pins:List (Addr×Obj)}{σ:St}{H:Hp}{s:Shared}{h':Heap}
theorem Inv.ztkb {t':Nat}{p q:Addr}(I:Inv X pins σ H s)(k:∀b o,b≠p->b≠q->s.heap.get? b=some o->h'.get? b=some o)(fp:FpOk X pins H p)(fq:FpOk X pins H q):Inv X pins σ H { s with heap:=h',toks:=t' }:=by
 have o1:∀b u,H b=some u->b≠p:=λb u e z=>by
  rw[z,fp.1] at e;cases e
 have o2:∀b u,H b=some u->b≠q:=λb u e z=>by
  rw[z,fq.1] at e;cases e
 have kk:∀b o,b∉[p,q]->s.heap.get? b=some o->h'.get? b=some o:=λb o hb e=>k b o (λz=>hb (by simp[z])) (λz=>hb (by simp[z])) e;refine I.step (g':=s.gens) (d':=s.drawn) (ch:=[p,q]) (λb hb=>?_) (λb o _ _ hc e _=>kk b o hc e) (λb o _ _ hc e _=>⟨o.slots,kk b o hc e⟩) (λ_ _ _ _ n=>n)
  (λb o hc e=>⟨o,kk b o hc e⟩) (λ_ _ e=>e) (λ_ _ _ e=>e) (λb ps e=>⟨#[],by rw[e];simp⟩) (λm hm=>?_) (λb u e=>?_) I.bare
 ·have e:b=p∨b=q:=by simpa using hb
  rcases e with e|e
  ·rw[e];exact⟨fp.2.2.2.1,fp.2.1,fp.2.2.2.2.1,fp.2.2.2.2.2⟩
  ·rw[e];exact⟨fq.2.2.2.1,fq.2.1,fq.2.2.2.2.1,fq.2.2.2.2.2⟩
 ·obtain⟨o,es,ep,ho,r⟩:=hm;exact⟨o,es,ep,k _ o (yub fp.2.1) (yub fq.2.1) ho,r⟩
 ·refine (I.hok b u e).stay (λc v hc z=>?_) (λ_ z=>z) λ_ _ z=>z
  rcases hc with y|y
  ·rw[y];rw[y] at z;exact k b v (o1 b u e) (o2 b u e) z
  ·exact k c v (o1 c _ y) (o2 c _ y) z
end
def Ite (K:yba)(a:Addr):It :=
 ⟨λi H=>Ex2 λxs x=>SqT K H a xs∧xs[i]?=some x,λi H x H'=>Ex2 λp v=>H p=none∧x = .ref p∧H'=upd H p (.tup [.int (i:Int),v])∧∀xs,SqT K H a xs->xs[i]?=some v,λi H=>∃xs,SqT K H a xs∧xs.length≤i⟩
theorem zvcb {P:ytb}{w:World}{K:yba}{es:List Expr}{k1:Nat}{pos:Pos}(a e it:Addr):Turn P w K (.Tuple es k1 pos) (Ite K a) [e,it] e (λi h=>En h e it a i) where
 mem:=by simp
 obj:=λi h st b hb=>by
  have z:b=e∨b=it:=by simpa using hb
  obtain⟨⟨old,he⟩,⟨o,g1,g2,g3⟩,_⟩:=st
  rcases z with rfl|rfl
  ·exact⟨_,he,λv y=>by cases y⟩
  ·exact⟨o,g1,λv y=>by rw[g3] at y;cases y⟩
 keep:=λi h h' st k=>by
  obtain⟨⟨old,he⟩,⟨o,g1,g2⟩,n⟩:=st;exact⟨⟨old,k e (by simp) _ he⟩,⟨o,k it (by simp) _ g1,g2⟩,n⟩
 item:=by
  intro X hP hw hK hc i pins s σ H E I hf st hg;subst hP hw hK;obtain⟨xs,x,hq,hx⟩:=hg;obtain⟨its,rv,p,hz⟩:=I.tuple hq;obtain⟨u,hu,ru⟩:=rv.get hx;have fe:=hf e (by simp);have fi:=hf it (by simp);have ne:=st.2.2;refine zanb st (show s.heap.IsTuple a its.toArray from p) (v:=u) (by simpa using hu) λg e1 i1 t1 k1=>?_;refine⟨_,rfl,wpAny_letOwnedTupleGo_enum e1 λg2 e2 s2=>?_⟩;have lt1:e<s.heap.objs.size:=by
   obtain⟨⟨old,he⟩,_⟩:=st;exact yqa he
  have lt2:it<s.heap.objs.size:=by
   obtain⟨_,⟨o,g1,_⟩,_⟩:=st;exact yqa g1
  have kk:∀b o,b≠e->b≠it->s.heap.get? b=some o->g2.get? b=some o:=λb o n1 n2 z=>s2.extBut b o n1 (k1 b o n1 n2 z);have tt:g2.get? s.heap.objs.size=some { cls:=.type "tuple",data:=.seq #[.int i s.toks,u] }:=s2.extBut _ _ (ygh lt1) t1;have na:∀b,b<s.heap.objs.size->b≠s.heap.objs.size:=λb h=>yeb h;have I1:Inv X pins σ (upd H s.heap.objs.size (.tup [.int (i:Int),x])) { s with heap:=s.heap.push { cls:=.type "tuple",data:=.seq #[.int i s.toks,u] },toks:=s.toks+1 } :=
   I.laid (t':=s.toks+1) (λb o z=>yca _ z) (yma _) ⟨by show 2≤yta;decide,[.int i s.toks,u],.cons ⟨_,rfl⟩ (.cons ru .nil),⟨_,yoa _ rfl,rfl,_,rfl⟩⟩
  have fo:∀b,b<s.heap.objs.size->FpOk X pins H b->FpOk X pins (upd H s.heap.objs.size (.tup [.int (i:Int),x])) b:=λb h f=>⟨by rw[zva (na b h)];exact f.1,f.2⟩;have I2:=I1.ztkb (h':=g2) (t':=s.toks+1) (p:=e) (q:=it) (λb o n1 n2 z=>by
   by_cases hb:b=s.heap.objs.size
   ·rw[hb] at z ⊢;rw[yoa _ rfl] at z;cases z;exact tt
   ·rw[Heap.get?_push_ne _ _ _ hb] at z;exact kk b o n1 n2 z) (fo e lt1 fe) (fo it lt2 fi)
  refine⟨.ref s.heap.objs.size,_,I2,rfl,⟨s.heap.objs.size,x,I.hok.fresh (yma _),rfl,rfl,λys hy=>by rw[I.zbw hy hq];exact hx⟩,⟨⟨u,e2⟩,?_,ne⟩,λb hb=>?_⟩
  ·obtain⟨o,z,r⟩:=i1;exact⟨o,s2.extBut _ _ (yub ne) z,r⟩
  ·have z:b=e∨b=it:=by simpa using hb
   rcases z with rfl|rfl
   ·exact (fo _ lt1 fe).1
   ·exact (fo _ lt2 fi).1
 done:=by
  intro X hP hw hK hc i pins s σ H E I hf st hg;subst hP hw hK;obtain⟨xs,hq,hx⟩:=hg;obtain⟨its,rv,p,hz⟩:=I.tuple hq;obtain⟨f0,f1,f2,f3,f4,f5⟩:=hf it (by simp);have hl:=rv.length;exact zbqb (I.ok.hd hc) st (show s.heap.IsTuple a its.toArray from p) (by simp;omega) λg eb=>⟨rfl,I.turned (t':=s.toks) (λb o hb z=>eb b o hb z) f0 f1 f3 f4 f5⟩
 self:=λ_ _ _ _ _ st h=>zox st h
section
variable {X:Cx}
theorem zygb:ydg "enumerate" = some (.type "enumerate"):=by decide +kernel
def iEnT (K:yba)(ta:TA):TI:=fun σ H R=>ta σ H λvs H1=>Ex2 λa xs=>vs=[.ref a]∧SqT K H1 a xs∧R (Ite K a) H1
theorem ziib {es:List Expr}{k1:Nat}{tp:Pos}{a:Expr}{ta:TA}{p pos:Pos}(hg:Gl X "enumerate")(hm:X.mg "enumerate" = none)(ha:PA X [a] ta)(hs:yic [a] X.env=[(false,eval a X.env)]:=by rfl):PI X (.Tuple es k1 tp) (.Call (.Name "enumerate" p) [a] [] pos) (iEnT X.K ta):=by
 intro pins s σ H R I h;refine Call_ (zkt I hg hm zygb (yke (thn (ha pos pins s σ H _ I h) λus s1 ⟨vs,H1,I1,r1,q1⟩=>?_) hs rfl));obtain⟨b,xs,e,hq,q⟩:=q1;subst e;obtain⟨u,rfl,ru⟩:=vals1 r1;cases ru;obtain⟨its,rv,pl,hz⟩:=I1.tuple hq;refine zxdb (show s1.heap.IsTuple b its.toArray from pl) λg en kp=>?_;refine zox (sh:={ s1 with heap:=g }) en ?_;refine⟨s1.heap.objs.size+1,[s1.heap.objs.size+1,s1.heap.objs.size],_,_,H1,rfl,I1.kept (t':=s1.toks) kp,zvcb b _ _,en,λc hc=>?_,q⟩;have z:c=s1.heap.objs.size+1∨c=s1.heap.objs.size:=by simpa using hc
 rcases z with rfl|rfl
 ·exact I1.fpOk (ytf _) (I1.hok.fresh (ytf _))
 ·exact I1.fpOk (yma _) (I1.hok.fresh (yma _))
end
theorem zmgb {K:yba}{a:Addr}{xs:List V}{g:TG}{tb:TS}{D:Ends}{σ:St}{H:Hp}(Pv:Nat->St->Hp->Prop)(h0:Pv 0 σ H)(hl:∀i σ H,i≤xs.length->Pv i σ H->SqT K H a xs)
  (hs:∀i x σ H p,xs[i]?=some x->Pv i σ H->H p=none->g (.ref p) σ (upd H p (.tup [.int (i:Int),x])) fun σ2 H2=>tb { D with nx:=Pv (i+1),ct:=Pv (i+1),bk:=D.nx } σ2 H2) (hd:∀ σ H,Pv xs.length σ H->D.nx σ H) :
  ∃W:Nat->Nat->St->Hp->Prop,(∃m,W 0 m σ H)∧∀i m σ H,W i m σ H →
   ((Ite K a).stop i H∧D.nx σ H)∨((Ite K a).go i H∧∃N:St->Hp->Prop,(∀ σ' H',N σ' H'->∃m',m'<m∧W (i+1) m' σ' H')∧∀x H',(Ite K a).yld i H x H'->g x σ H' fun σ2 H2=>tb { D with nx:=N,ct:=N,bk:=D.nx } σ2 H2):=by
 refine⟨λi m σ H=>m=xs.length-i∧i≤xs.length∧Pv i σ H,⟨xs.length,rfl,ylb _,h0⟩,?_⟩;rintro i m σ H ⟨rfl,hi,pv⟩;have sq:=hl i σ H hi pv
 by_cases lt:i<xs.length
 ·have ex:xs[i]?=some xs[i]:=ywa lt;refine .inr ⟨⟨xs,xs[i],sq,ex⟩,Pv (i+1),fun σ' H' z=>⟨xs.length-(i+1),by omega,rfl,lt,z⟩,λx H' y=>?_⟩;obtain⟨p,v,hp,rfl,rfl,hv⟩:=y;exact hs i v σ H p (hv xs sq) pv hp
 ·obtain rfl:i=xs.length:=by omega
  exact .inl ⟨⟨xs,sq,yma _⟩,hd σ H pv⟩
end L2
namespace L2
open PySem PyProof.Rows
theorem zvjb (n:Nat):sliceRange ((n:Int)-1) (-1) (-1)=(ypd n).map λk=>n-1-k:=by
 unfold sliceRange;simp only[show ¬ ((-1:Int)>0) by decide,if_false];have c:(if (n:Int)-1 > -1 then ((n:Int)-1 - -1 - -1-1) / (- -1) else 0).toNat=n:=by
  have d:((n:Int)-1 - -1 - -1-1) / (- -1)=(n:Int):=by
   rw[show (- -1:Int)=1 by decide,Int.ediv_one];omega
  rw[d]
  split<;>omega
 rw[c];apply yeh;intro k hk;have:=ypj.mp hk;omega
theorem zydb (xs:Array Value):(ypd xs.size).filterMap (λk=>xs[xs.size-1-k]?)=xs.toList.reverse:=by
 have go:∀(l:List Nat),(∀k∈l,k<xs.size)->l.filterMap (λk=>xs[xs.size-1-k]?)=l.map λk=>xs.toList.getD (xs.size-1-k) .none:=by
  intro l
  induction l with
  | nil=>intro _;rfl
  | cons k r ih =>
   intro h;have lt:=h k yia;have h1:xs.size-1-k<xs.size:=(by omega);have e1:xs[xs.size-1-k]?=some xs[xs.size-1-k]:=yjb h1;rw[yrf,e1,yva,ih λz hz=>h z (yna _ hz),yrb,ycc,e1];rfl
 rw[go _ λk hk=>ypj.mp hk];apply List.ext_getElem
 ·simp
 ·intro i h1 h2;have lt:i<xs.size:=by simpa using h1
  rw[yve,List.getElem_range,List.getElem_reverse,yrb,ywa (by simp;omega)];simp
theorem zofb (xs:Array Value):yro xs none none (some (-1))=xs.toList.reverse.toArray:=by
 unfold yro;have b:ygg none none (some (-1)) xs.size=((xs.size:Int)-1,-1,-1):=by
  unfold ygg;simp
 rw[b];dsimp only;rw[zvjb,ylj];rw[← zydb];rfl
section
variable {X:Cx}{e st:Expr}{te ts:TE}{p2 pos:Pos}
def tRev (K:yba)(te ts:TE):TE:=fun σ H Q=>te σ H λx H1=>ts σ H1 λy H2=>y = .int (-1)∧Ex2 λa xs=>x = .ref a∧SqL K H2 a xs∧∀p,H2 p=none->Q (.ref p) (upd H2 p (.lst xs.reverse))
theorem zqob (he:PE X e te)(hst:PE X st ts):PE X (.Subscript e (.Slice none none (some st) p2) pos) (tRev X.K te ts):=by
 intro pins s σ H Q I h;refine Subscript_ (thn (he pins s σ H _ I h) λv s1 ⟨x,H1,I1,r1,q1⟩=>?_);refine wpAny_Slice ?_;rw[ydn];refine yfa (yfa ?_);rw[evalPart_some];refine thn (hst pins s1 σ H1 _ I1 q1) λvs s2 ⟨y,H2,I2,r2,e2,a,xs,ex,hq,q2⟩=>?_;subst e2 ex;obtain⟨tk,rfl⟩:=r2;obtain rfl:v=Value.ref a:=r1;have I3:Inv X pins σ H2 { s2 with heap:=s2.heap.push { cls:=.type "slice",data:=.fields #[.none,.none,.int (-1) tk] } }:=I2.kept (t':=s2.toks) λb ob q=>yca _ q;obtain⟨its,rv,ht,hz⟩:=I3.list hq;show wpAny (model X.prog X.w) X.A (yfn e (.Slice none none (some st) p2) (.ref a) (.ref s2.heap.objs.size)) (EP X pins σ Q) X.xe { s2 with heap:=s2.heap.push { cls:=.type "slice",data:=.fields #[.none,.none,.int (-1) tk] } }
 refine tail_any (ops:=[.ref a,.ref s2.heap.objs.size]) ht.isList.typeIs yck.lookup ?_ (by with_unfolding_all rfl);refine yek ht.isList (yen ..) .none .none (.int _ _) (by decide) ?_ (by rw[yka,← rv.length];exact hz);rw[zofb];refine⟨.ref _,_,I3.laid (t':=s2.toks) (o:=.lst xs.reverse) (λb ob q=>yca _ q) (yma _) ?_,rfl,q2 _ (I3.hok.fresh (yma _))⟩;exact⟨by rw[List.length_reverse];exact hz,_,0,rv.reverse,yoa _ rfl⟩
end
end L2
namespace DL
open PySem PySem.Spec PyProof.Rows
section
variable {prog:ytb}{w:World}{A:Around}{E:Value->Shared->Prop}{s:Shared}
section
variable {κ:Type}[DecidableEq κ]{knd:KeyKind prog w κ}
end
end
end DL
namespace L2
open PySem PyProof.Rows
section
variable {X:Cx}
theorem zojb {A:Around}{pins:List (Addr×Obj)}{σ:St}{H:Hp}{s:Shared}(I:Inv X pins σ H s)(hu:A.units+8<cLine){a b:Addr}{us:List V}(ha:SqL X.K H a us)(hb:SqL X.K H b us)(hr:∀u∈us,∃c,u = .ref c):ybd A s (.ref a) (.ref b) true:=by
 by_cases ne:a=b
 ·subst ne;exact eq_self _ _ _
 ·obtain⟨i1,v1,p1,_⟩:=I.list ha;obtain⟨i2,v2,p2,_⟩:=I.list hb;obtain⟨rfl,hm⟩:=zddb hr v1 v2;have z:=SeqAt.RcAt.lists (A:=A) (s:=s) (e:=λ_=>true) p1.isList p2.isList rfl (by omega) λj h1 h2=>by
   obtain⟨c,e⟩:=hm i1.toArray[j] (by simp);rw[e];exact eq_self _ _ c
  rw[all_true] at z;exact ybd.of_refs ne z
end
end L2
namespace SSet
open PySem PySem.Spec PyProof.Rows
section
variable {prog:ytb}{w:World}{A:Around}{E:Value->Shared->Prop}{s:Shared}
end
end SSet
namespace L2
open PySem PyProof.Rows
section
variable {X:Cx}
end
end L2
namespace L2
open PySem PySem.Spec PyProof.Rows PySem.MeetsSeq
section
variable {X:Cx}
end
end L2
namespace L2
open PySem PyProof.Rows
section
variable {X:Cx}
end
end L2
namespace DK
open PySem PySem.Spec PyProof.Rows
section
variable {prog:ytb}{w:World}{A:Around}{E:Value->Shared->Prop}{s:Shared}
end
end DK
namespace L2
open PySem PyProof.Rows
section
variable {X:Cx}{pins:List (Addr×Obj)}{σ:St}{H:Hp}{s:Shared}
end
section
variable {X:Cx}
end
end L2
namespace L2
open PySem PyProof.Rows
section
variable {X:Cx}
theorem zrw (hu:X.A.units+64<cLine):OpR X (yxc .NotIn) (λx y H Q=>Ex2 λd ds=>DV X.K H x d∧DV X.K H y (.list ds)∧yid d=true∧yid (.list ds)=true∧d.depth≤8∧Q (.bl (!ds.any λe=>ycg e d)) H):=by
 intro pins s σ H x y v u Q I rx ry h;obtain⟨d,ds,hd,he,s1,s2,dp,q⟩:=h;obtain⟨as,r1⟩:=hd.reads I rx;obtain⟨bs,r2⟩:=he.reads I ry;have c2:=yqh s2;rw[yge] at c2;exact SeqAt.notIn_list_reads r2 r1 c2 (yqh s1) (by have:=Nat.min_le_right (ywd ds) d.depth;omega) ⟨.bl _,H,I,rfl,q⟩
theorem zidb (K:yba)(hu:X.A.units+64<cLine)(hK:X.K=K:=by rfl):OpR X (yxc .NotIn) (λx y H Q=>Ex2 λd ds=>DV K H x d∧DV K H y (.list ds)∧yid d=true∧yid (.list ds)=true∧d.depth≤8∧Q (.bl (!ds.any λe=>ycg e d)) H):=hK▸zrw hu
theorem zrn:∀{as:List Addr} {is:List Value},Vals (as.map V.ref) is->is=as.map Value.ref
 | [],_,.nil=>rfl
 | a::r,_,.cons h t=>by
  cases h;rw[zrn t];rfl
theorem zzlb (hu:X.A.units+64<cLine):OpR X (yxc .NotEq) (λx y H Q=>Ex4 λ(p q:Addr) (as bs:List Addr)=>x = .ref p∧y = .ref q∧SqL X.K H p (as.map V.ref)∧SqL X.K H q (bs.map V.ref)∧Paired (λa b=>∃us:List V,SqL X.K H a us∧SqL X.K H b us∧∀u∈us,∃c,u = .ref c) as bs∧Q (.bl false) H):=by
 intro pins s σ H x y v u Q I rx ry h;obtain⟨p,q,as,bs,rfl,rfl,hp,hq,hs,qq⟩:=h;cases rx;cases ry;obtain⟨i1,v1,p1,_⟩:=I.list hp;obtain⟨i2,v2,p2,_⟩:=I.list hq;have e1:=zrn v1;have e2:=zrn v2;subst e1 e2;have hat:∀{as bs:List Addr},Paired (λa b=>∃us:List V,SqL X.K H a us∧SqL X.K H b us∧∀u∈us,∃c,u = .ref c) as bs->as.length=bs.length∧∀(j:Nat) (h1:j<as.length) (h2:j<bs.length),∃us:List V,SqL X.K H as[j] us∧SqL X.K H bs[j] us∧∀u∈us,∃c,u = .ref c:=by
  intro as bs hs
  induction hs with
  | nil=>exact⟨rfl,λj h=>absurd h (Nat.not_lt_zero _)⟩
  | cons h t ih =>
   refine⟨by rw[yga,yga,ih.1],λj h1 h2=>?_⟩;cases j with
   | zero=>exact h
   | succ j=>exact ih.2 j (yll h1) (yll h2)
 obtain⟨hl,hat⟩:=hat hs;have z:=SeqAt.RcNeAt.lists (A:=X.A) (s:=s) (e:=λ_=>true) p1.isList p2.isList (by rw[yka,yka,yda,yda,hl]) (by omega) λj g1 g2=>by
  have k1:j<as.length:=by rw[yka,yda] at g1;exact g1
  have k2:j<bs.length:=by rw[yka,yda] at g2;exact g2
  obtain⟨us,h1,h2,h3⟩:=hat j k1 k2;have w:=zojb (A:=X.A.in1) I (by rw[Around.in1_units];omega) h1 h2 h3
  simpa using w
 rw[all_true] at z;exact z X.prog X.w X.xe _ ⟨.bl false,H,I,rfl,qq⟩
end
end L2
namespace L2
open PySem PyProof.Rows
section
open PySem.SeqAt PySem.MeetsSeq
open AutoSeq1 (wpAny_loadPart')
end
section
variable {X:Cx}
end
section
open TSort
end
section
variable {pr:ytb}{wo:World}{A:Around}{R:Result->Shared->Prop}{I S:Addr}{fp wr:List Addr}{n:Nat}{P:Nat->Value->Prop}{St:Nat->Heap->Prop}{h0:Heap}
end
section
variable {pr:ytb}{wo:World}{A:Around}{E:Value->Shared->Prop}{s:Shared}
end
section
variable {X:Cx}
end
end L2
namespace Wm
open PySem
theorem zwgb {c:Nat}:∀{x y a b:List Nat},c∉x->c∉y->x++c::a=y++c::b->x=y∧a=b
 | [],[],a,b,_,_,h=>⟨rfl,by simpa using h⟩
 | [],y::ys,a,b,_,hy,h=>by
  exfalso;simp only[yvl,yfi,ybj] at h;exact hy (by rw[← h.1];exact yia)
 | x::xs,[],a,b,hx,_,h=>by
  exfalso;simp only[yvl,yfi,ybj] at h;exact hx (by rw[h.1];exact yia)
 | x::xs,y::ys,a,b,hx,hy,h=>by
  simp only[yfi,ybj] at h;obtain⟨h1,h2⟩:=h;obtain⟨e1,e2⟩:=zwgb (λz=>hx (yna _ z)) (λz=>hy (yna _ z)) h2;exact⟨by rw[h1,e1],e2⟩
def jl (c:Nat):List (List Nat)->List Nat
 | []=>[]
 | [x]=>x
 | x::y::r=>x++c::jl c (y::r)
theorem zjkb {c:Nat}:∀{xs ys:List (List Nat)},xs≠[]->ys≠[]->(∀x∈xs,c∉x)->(∀y∈ys,c∉y)->jl c xs=jl c ys->xs=ys
 | [],_,h,_,_,_,_=>absurd rfl h
 | _,[],_,h,_,_,_=>absurd rfl h
 | [x],[y],_,_,_,_,h=>by
  have h':x=y:=h;rw[h']
 | [x],y::z::r,_,_,hx,_,h=>by
  exfalso;have h':x=y++c::jl c (z::r):=h;exact hx x yia (by rw[h'];simp)
 | x::z::r,[y],_,_,_,hy,h=>by
  exfalso;have h':x++c::jl c (z::r)=y:=h;exact hy y yia (by rw[← h'];simp)
 | x::z::r,y::z'::r',_,_,hx,hy,h=>by
  have h':x++c::jl c (z::r)=y++c::jl c (z'::r'):=h;obtain⟨e1,e2⟩:=zwgb (hx x yia) (hy y yia) h';rw[e1,zjkb (by simp) (by simp) (λq hq=>hx q (yna _ hq)) (λq hq=>hy q (yna _ hq)) e2]
theorem znl (c:Nat):∀ws:List Str,(yra ⟨#[c]⟩ ws).cps.toList=jl c (ws.map λw=>w.cps.toList)
 | []=>rfl
 | [x]=>rfl
 | x::y::r=>by
  have ih:=znl c (y::r);show (x++(⟨#[c]⟩:Str)++yra ⟨#[c]⟩ (y::r)).cps.toList=x.cps.toList++c::jl c ((y::r).map λw=>w.cps.toList)
  rw[← ih];show ((x.cps++#[c])++(yra ⟨#[c]⟩ (y::r)).cps).toList=_
  simp
theorem toList_inj {xs ys:List Str}(h:(xs.map λw=>w.cps.toList)=(ys.map λw=>w.cps.toList)):xs=ys:=by
 induction xs generalizing ys with
 | nil=>cases ys with
  | nil=>rfl
  | cons y r=>simp at h
 | cons x r ih=>cases ys with
  | nil=>simp at h
  | cons y s =>
   simp only[yva,ybj] at h;have e:x=y:=by
    obtain⟨a⟩:=x;obtain⟨b⟩:=y;have h1:a.toList=b.toList:=h.1;rw[ygi.mp h1]
   rw[e,ih h.2]
theorem znhb (x y:Str):yme x y≠[]:=by
 unfold yme
 split
 ·simp
 ·split
  ·simp
  ·unfold ylf;cases ync x y 0 x.length (x.length+1)<;>simp
theorem ztn {c:Nat}{ws:List Str}(hne:ws≠[])(hf:∀w∈ws,c∉w.cps.toList):yme (yra ⟨#[c]⟩ ws) ⟨#[c]⟩=ws:=by
 refine toList_inj (zjkb (c:=c) (by simpa using znhb _ _) (by simpa using hne) (λx hx=>?_) (λx hx=>?_) ?_)
 ·obtain⟨w,hw,rfl⟩:=ybb.mp hx;exact StrLaws.split_free _ c w hw
 ·obtain⟨w,hw,rfl⟩:=ybb.mp hx;exact hf w hw
 ·rw[← znl,← znl,StrLaws.join_split]
theorem zbl (s:Str):∀ws:List Str,(yra s ws).length≤(ws.map (·.length)).sum+ws.length*s.length
 | []=>ylb _
 | [x]=>by
  show x.length≤_
  simp only[yva,ypf,yze,yeo,ywe];omega
 | x::y::r=>by
  have ih:=zbl s (y::r);show (x++s++yra s (y::r)).length≤_
  rw[yzn,yzn];simp only[yva,yze,yga,Nat.add_mul,Nat.one_mul] at ih ⊢;omega
theorem join_cons (s x:Str){r:List Str}(h:r≠[]):yra s (x::r)=x++s++yra s r:=by
 cases r with
 | nil=>exact absurd rfl h
 | cons y r=>rfl
theorem zfn (s:Str):∀{xs ys:List Str},xs≠[]->ys≠[]->yra s (xs++ys)=yra s xs++s++yra s ys
 | [],_,h,_=>absurd rfl h
 | [x],ys,_,h=>by rw[List.singleton_append,join_cons s x h];rfl
 | x::y::r,ys,_,h=>by
  have ih:=zfn s (xs:=y::r) (by simp) h;rw[yfi,join_cons s x (by simp),ih,join_cons s x (by simp)];simp only[Str.append_assoc]
theorem zlx (s:Str):∀{xss:List (List Str)},(∀xs∈xss,xs≠[])->yra s (xss.map (yra s))=yra s xss.flatten
 | [],_=>rfl
 | [xs],_=>by simp[yra]
 | xs::ys::r,h=>by
  have ih:=zlx s (xss:=ys::r) (λq hq=>h q (yna _ hq));have hx:=h xs yia;have hy:=h ys (yna _ yia);have ne:(ys::r).flatten≠[]:=by
   rw[yhd];intro z;exact hy (yrh.mp z).1
  rw[yva,join_cons s _ (by simp),ih,yhd (l:=xs),zfn s hx ne]
inductive Wh where
 | all|self|mine|mark (n:Str)|force (i:Nat)|not (a:Wh)|both (a b:Wh)|any (a b:Wh)
def Wh.word:Wh->Str
 | .all=>"all"
 | .self=>"self"
 | .mine=>"mine"
 | .mark _=>"mark"
 | .force _=>"force"
 | .not _=>"not"
 | .both _ _=>"both"
 | .any _ _=>"any"
inductive Wv where
 | non|name (n:Str)|num (i:Nat)
def Wh.val:Wh->Wv
 | .mark n=>.name n
 | .force i=>.num i
 | _=>.non
def Wh.parts:Wh->List Wh
 | .not a=>[a]
 | .both a b=>[a,b]
 | .any a b=>[a,b]
 | _=>[]
def Wv.words:Wv->List Str
 | .non=>[]
 | .name n=>[n]
 | .num i=>[toString (i:Int)]
def Wh.words:Wh->List Str
 | .all=>["all"]
 | .self=>["self"]
 | .mine=>["mine"]
 | .mark n=>["mark",n]
 | .force i=>["force",toString (i:Int)]
 | .not a=>"not" :: a.words
 | .both a b=>"both" :: (a.words++b.words)
 | .any a b=>"any" :: (a.words++b.words)
def Wh.size:Wh->Nat
 | .not a=>a.size+1
 | .both a b=>a.size+b.size+1
 | .any a b=>a.size+b.size+1
 | _=>1
theorem Wh.zfbb (w:Wh):w.words=w.word::(w.val.words++(w.parts.map Wh.words).flatten):=by
 cases w<;>simp[Wh.words,Wh.word,Wh.val,Wv.words,Wh.parts]
theorem Wh.zrd (w:Wh):w.words≠[]:=by
 rw[w.zfbb];simp
theorem Wh.size_eq (w:Wh):w.size=1+(w.parts.map Wh.size).sum:=by
 cases w<;>simp[Wh.size,Wh.parts]<;>omega
theorem Wh.size_pos (w:Wh):0<w.size:=by
 rw[w.size_eq];omega
def Wh.flat:Wh->List (Str×Wv)
 | .not a=>("not",.non)::a.flat
 | .both a b=>("both",.non)::(a.flat++b.flat)
 | .any a b=>("any",.non)::(a.flat++b.flat)
 | w=>[(w.word,w.val)]
theorem Wh.zwmb (w:Wh):w.flat=(w.word,w.val)::(w.parts.map Wh.flat).flatten:=by
 cases w<;>simp[Wh.flat,Wh.word,Wh.val,Wh.parts]
theorem Wh.zpe (w:Wh):w.flat.length=w.size:=by
 induction w<;>simp[Wh.flat,Wh.size, *]
def zwp (ws:List Wh):List (Str×Wv):=(ws.map Wh.flat).flatten
def zvj (ws:List Wh):List Str:=(ws.map Wh.words).flatten
def zrm (ws:List Wh):Nat:=(ws.map Wh.size).sum
theorem zrt (w:Wh)(ws:List Wh):zwp (w::ws)=(w.word,w.val)::zwp (w.parts++ws):=by
 unfold zwp;rw[yva,yhd,w.zwmb,yib,ycj];rfl
theorem zxy (w:Wh)(ws:List Wh):zvj (w::ws)=w.word::(w.val.words++zvj (w.parts++ws)):=by
 unfold zvj;rw[yva,yhd,w.zfbb,yib,ycj];simp
theorem zbdb (w:Wh)(ws:List Wh):zrm (w::ws)=1+zrm (w.parts++ws):=by
 unfold zrm;rw[yva,yze,w.size_eq,yib,List.sum_append];omega
theorem zzeb {ws:List Wh}(h:ws≠[]):0<zrm ws:=by
 cases ws with
 | nil=>exact absurd rfl h
 | cons w r=>rw[zbdb];omega
def zie (n:Str):Prop:=1≤n.length∧n.length≤8∧∀c∈n.cps.toList,97≤c∧c≤122
def Wh.ok:Wh->Prop
 | .mark n=>zie n
 | .force i=>i<1000
 | .not a=>a.ok
 | .both a b=>a.ok∧b.ok
 | .any a b=>a.ok∧b.ok
 | _=>True
theorem Wh.zpib {w:Wh}(h:w.ok):∀p∈w.parts,p.ok:=by
 cases w with
 | not a =>
  intro p hp;have e:p=a:=by simpa [Wh.parts] using hp
  rw[e];exact h
 | both a b =>
  intro p hp;have e:p=a∨p=b:=by simpa [Wh.parts] using hp
  rcases e with e|e<;>rw[e]
  ·exact h.1
  ·exact h.2
 | any a b =>
  intro p hp;have e:p=a∨p=b:=by simpa [Wh.parts] using hp
  rcases e with e|e<;>rw[e]
  ·exact h.1
  ·exact h.2
 | _=>intro p hp;simp[Wh.parts] at hp
theorem zcx:∀i:Nat,i<1000->∀c∈(toString (i:Int):Str).cps.toList,48≤c∧c≤57:=by decide +kernel
theorem zbo:∀i:Nat,i<1000->1≤(toString (i:Int):Str).length∧(toString (i:Int):Str).length≤3:=by decide +kernel
def zwt (u:Str):Prop:=32∉u.cps.toList∧1≤u.length∧u.length≤8
theorem zfx {n:Str}(h:zie n):zwt n:=⟨λz=>absurd (h.2.2 32 z).1 (by decide),h.1,h.2.1⟩
theorem zcn {i:Nat}(h:i<1000):zwt (toString (i:Int):Str):=by
 have q:=zbo i h;exact⟨λz=>absurd (zcx i h 32 z).1 (by decide),q.1,by omega⟩
theorem Wh.zaj (w:Wh):zwt w.word:=by
 have h:∀u∈(["all","self","mine","mark","force","not","both","any"]:List Str),32∉u.cps.toList∧1≤u.length∧u.length≤8:=by decide +kernel
 refine h _ ?_;cases w<;>simp[Wh.word]
theorem Wh.zihb {w:Wh}(h:w.ok):∀u∈w.words,zwt u:=by
 induction w with
 | not a ih =>
  intro u hu
  rcases yha.mp hu with e|e
  ·rw[e];exact Wh.zaj (.not a)
  ·exact ih h u e
 | both a b iha ihb =>
  intro u hu
  rcases yha.mp hu with e|e
  ·rw[e];exact Wh.zaj (.both a b)
  ·rcases yhb.mp e with e|e
   ·exact iha h.1 u e
   ·exact ihb h.2 u e
 | any a b iha ihb =>
  intro u hu
  rcases yha.mp hu with e|e
  ·rw[e];exact Wh.zaj (.any a b)
  ·rcases yhb.mp e with e|e
   ·exact iha h.1 u e
   ·exact ihb h.2 u e
 | mark n =>
  intro u hu;have e:u = "mark" ∨ u=n:=by simpa [Wh.words] using hu
  rcases e with e|e<;>rw[e]
  ·exact Wh.zaj (.mark n)
  ·exact zfx h
 | force i =>
  intro u hu;have e:u = "force" ∨ u=toString (i:Int):=by simpa [Wh.words] using hu
  rcases e with e|e<;>rw[e]
  ·exact Wh.zaj (.force i)
  ·exact zcn h
 | all=>intro u hu;have e:u = "all":=by simpa [Wh.words] using hu
        rw[e];exact Wh.zaj .all
 | self=>intro u hu;have e:u = "self":=by simpa [Wh.words] using hu
         rw[e];exact Wh.zaj .self
 | mine=>intro u hu;have e:u = "mine":=by simpa [Wh.words] using hu
         rw[e];exact Wh.zaj .mine
theorem Wh.zvv (w:Wh):w.words.length≤2*w.size:=by
 induction w<;>simp[Wh.words,Wh.size]<;>omega
theorem zuo {l:List Nat}{k:Nat}(h:∀x∈l,x≤k):l.sum≤l.length*k:=by
 induction l with
 | nil=>simp
 | cons x r ih =>
  have a:=h x yia;have b:=ih λy hy=>h y (yna _ hy);rw[yze,yga,Nat.add_mul,Nat.one_mul];omega
def step:List Wh->List Wh
 | []=>[]
 | h::t=>h.parts++t
def pend (w:Wh):Nat->List Wh
 | 0=>[w]
 | j+1=>step (pend w j)
theorem zogb (w:Wh):zwp [w]=w.flat:=by simp[zwp]
theorem zws (w:Wh):zvj [w]=w.words:=by simp[zvj]
theorem zir (w:Wh):∀j,zwp (pend w j)=w.flat.drop j
 | 0=>by rw[yzh];exact zogb w
 | j+1=>by
  have ih:=zir w j;show zwp (step (pend w j))=_
  cases e:pend w j with
  | nil =>
   rw[e] at ih;have z:w.flat.drop j=[]:=ih.symm;rw[← yai (i:=1),z];rfl
  | cons h t =>
   rw[e,zrt] at ih;show zwp (h.parts++t)=_
   have z:=congrArg (ybp 1) ih;rw[yai] at z
   simpa using z
theorem zgr (w:Wh)(j:Nat):zrm (pend w j)=w.size-j:=by
 have a:∀ws:List Wh,(zwp ws).length=zrm ws:=by
  intro ws
  induction ws with
  | nil=>rfl
  | cons x r ih =>
   have e1:zwp (x::r)=x.flat++zwp r:=(by simp[zwp]);have e2:zrm (x::r)=x.size+zrm r:=(by simp[zrm]);rw[e1,e2,yea,x.zpe,ih]
 rw[← a,zir,ynd,w.zpe]
theorem zgz {w:Wh}{j:Nat}(h:j<w.size):Ex2 λx t=>pend w j=x::t:=by
 cases e:pend w j with
 | nil =>
  have z:=zgr w j;rw[e] at z;have z':0=w.size-j:=z;omega
 | cons x t=>exact⟨x,t,rfl⟩
theorem zfu (w:Wh):pend w w.size=[]:=by
 cases e:pend w w.size with
 | nil=>rfl
 | cons x t =>
  have z:=zgr w w.size;rw[e] at z;have p:=zzeb (ws:=x::t) (by simp);omega
theorem zqfb {w x:Wh}{t:List Wh}{j:Nat}(e:pend w j=x::t):w.flat[j]?=some (x.word,x.val):=by
 have z:=zir w j;rw[e,zrt] at z;have q:(w.flat.drop j)[0]?=some (x.word,x.val):=by rw[← z];rfl
 rw[yxe] at q
 simpa using q
theorem zpfb {w:Wh}(h:w.ok):∀j,∀x∈pend w j,x.ok
 | 0=>λx hx=>by
  have e:x=w:=by simpa [pend] using hx
  rw[e];exact h
 | j+1=>λx hx=>by
  have ih:=zpfb h j;cases e:pend w j with
  | nil =>
   have hx':x∈step (pend w j):=hx;rw[e] at hx';simp[step] at hx'
  | cons y t =>
   have hx':x∈step (pend w j):=hx;rw[e] at hx' ih
   rcases yhb.mp hx' with q|q
   ·exact Wh.zpib (ih y yia) x q
   ·exact ih x (yna _ q)
def Wh.depth:Wh->Nat
 | .not a=>a.depth+1
 | .both a b=>max a.depth b.depth+1
 | .any a b=>max a.depth b.depth+1
 | _=>1
theorem Wh.zqjb (w:Wh):w.depth≤w.size:=by
 induction w<;>simp[Wh.depth,Wh.size]<;>omega
theorem Wh.zuz (w:Wh):∀p∈w.parts,p.depth+1≤w.depth:=by
 cases w<;>simp[Wh.parts,Wh.depth]<;>omega
theorem znjb {α:Type}(l:List α):(l.map λx=>[x]).flatten=l:=by
 induction l with
 | nil=>rfl
 | cons x r ih=>rw[yva,yhd,ih];rfl
end Wm
namespace Wm
open PySem
def plain (w:Wh):Prop:=w.ok∧w.size≤9
structure Deed where
 each:Str
 kind:Str
 amt:Wv
 whom:Wh
def zqgb:List Str:=["each","one"]
def zmc:List Str:=["leave","hurt","gain","lack","lose","score","draw"]
def zgq:List Str:=["come","leave","hurt","gain","lack","lose","score","draw"]
def zid:List Str:=["lose","score","draw"]
def changes:List Str:=["mute","steal","gain","lack","be","more","less","per"]
def sorts:List Str:=["hold","when","instead","may"]
inductive zso:Str->Wv->Prop
 | leave:zso "leave" .non
 | gain {n:Str}:zie n->zso "gain" (.name n)
 | lack {n:Str}:zie n->zso "lack" (.name n)
 | hurt {i:Nat}:i<1000->zso "hurt" (.num i)
 | lose {i:Nat}:i<1000->zso "lose" (.num i)
 | score {i:Nat}:i<1000->zso "score" (.num i)
 | draw {i:Nat}:i<1000->zso "draw" (.num i)
structure Deed.ok (d:Deed):Prop where
 each:d.each∈zqgb
 amt:zso d.kind d.amt
 whom:plain d.whom
def Deed.words (d:Deed):List Str:=d.each::d.kind::(d.amt.words++d.whom.words)
inductive Hv where
 | v (x:Wv)|w (y:Wh)
def Hv.words:Hv->List Str
 | .v x=>x.words
 | .w y=>y.words
inductive zph:Str->Hv->Prop
 | mute:zph "mute" (.v .non)
 | steal:zph "steal" (.v .non)
 | gain {n:Str}:zie n->zph "gain" (.v (.name n))
 | lack {n:Str}:zie n->zph "lack" (.v (.name n))
 | be {i:Nat}:i<1000->zph "be" (.v (.num i))
 | more {i:Nat}:i<1000->zph "more" (.v (.num i))
 | less {i:Nat}:i<1000->zph "less" (.v (.num i))
 | per {y:Wh}:plain y->zph "per" (.w y)
inductive TurnOk:Str->Wv->Prop
 | none:TurnOk "none" .non
 | here:TurnOk "here" .non
 | less {i:Nat}:i<1000->TurnOk "less" (.num i)
 | more {i:Nat}:i<1000->TurnOk "more" (.num i)
 | as {n:Str}:n∈zid->TurnOk "as" (.name n)
def turns:Str->List Str:=λk =>
 if k = "leave" then ["none","here"] else if k = "hurt" then ["none","here","less","more"] else if k = "gain" then ["none","here"] else if k = "lack" then ["none","here"]
 else ["none","less","more","as"]
inductive Rule where
 | hold (word:Str) (val:Hv) (whom:Wh)
 | wen (kind:Str) (whom:Wh) (deed:Deed)
 | instead (kind:Str) (whom:Wh) (word:Str) (val:Wv)
 | may (cost:Nat) (deed:Deed)
def Rule.ok:Rule->Prop
 | .hold w v y=>zph w v∧plain y
 | .wen k y d=>k∈zgq∧plain y∧d.ok
 | .instead k y w v=>k∈zmc∧plain y∧w∈turns k∧TurnOk w v
 | .may c d=>c<1000∧d.ok
def Rule.words:Rule->List Str
 | .hold w v y=>"hold" :: w::(v.words++y.words)
 | .wen k y d=>"when" :: k::(y.words++("do":Str)::d.words)
 | .instead k y w v=>"instead" :: k::(y.words++("do":Str)::w::v.words)
 | .may c d=>"may" :: toString (c:Int) :: "do" :: d.words
theorem zso.kind {k:Str}{v:Wv}(h:zso k v):k∈zmc:=by cases h<;>decide
theorem zph.word {k:Str}{v:Hv}(h:zph k v):k∈changes:=by cases h<;>decide
theorem Rule.zrd (r:Rule):r.words≠[]:=by cases r<;>exact ypb _ _
def zbs (u:Str):Prop:=zwt u∧47∉u.cps.toList
theorem zmr {n:Str}(h:zie n):zbs n:=⟨zfx h,λz=>absurd (h.2.2 47 z).1 (by decide)⟩
theorem zml {i:Nat}(h:i<1000):zbs (toString (i:Int):Str):=⟨zcn h,λz=>absurd (zcx i h 47 z).1 (by decide)⟩
def goodW (u:Str):Bool:=!u.cps.toList.contains 32 && !u.cps.toList.contains 47&&decide (1≤u.length)&&decide (u.length≤8)
theorem zii {u:Str}(h:goodW u=true):zbs u:=by
 unfold goodW at h;rw[yhc,yhc,yhc] at h;obtain⟨⟨⟨a,b⟩,c⟩,d⟩:=h;refine⟨⟨λz=>?_,of_decide_eq_true c,of_decide_eq_true d⟩,λz=>?_⟩
 ·rw[yhm.mpr z] at a;cases a
 ·rw[yhm.mpr z] at b;cases b
theorem ztr {l:List Str}(h:l.all goodW=true){u:Str}(hu:u∈l):zbs u:=zii (yue.mp h u hu)
theorem Wh.zug {w:Wh}(h:w.ok):∀u∈w.words,zbs u:=by
 induction w with
 | all=>intro u hu;exact ztr (l:=["all"]) (by decide +kernel) hu
 | self=>intro u hu;exact ztr (l:=["self"]) (by decide +kernel) hu
 | mine=>intro u hu;exact ztr (l:=["mine"]) (by decide +kernel) hu
 | mark n =>
  intro u hu
  rcases yha.mp hu with rfl|hu
  ·exact zii (by decide +kernel)
  ·rw[yja.mp hu];exact zmr h
 | force i =>
  intro u hu
  rcases yha.mp hu with rfl|hu
  ·exact zii (by decide +kernel)
  ·rw[yja.mp hu];exact zml h
 | not a ih =>
  intro u hu
  rcases yha.mp hu with rfl|hu
  ·exact zii (by decide +kernel)
  ·exact ih h u hu
 | both a b ia ib =>
  intro u hu
  rcases yha.mp hu with rfl|hu
  ·exact zii (by decide +kernel)
  ·rcases yhb.mp hu with hu|hu
   ·exact ia h.1 u hu
   ·exact ib h.2 u hu
 | any a b ia ib =>
  intro u hu
  rcases yha.mp hu with rfl|hu
  ·exact zii (by decide +kernel)
  ·rcases yhb.mp hu with hu|hu
   ·exact ia h.1 u hu
   ·exact ib h.2 u hu
theorem zso.words {k:Str}{v:Wv}(h:zso k v):∀u∈v.words,zbs u:=by
 intro u hu;cases h with
 | leave=>cases hu
 | gain h=>rw[yja.mp hu];exact zmr h
 | lack h=>rw[yja.mp hu];exact zmr h
 | hurt h=>rw[yja.mp hu];exact zml h
 | lose h=>rw[yja.mp hu];exact zml h
 | score h=>rw[yja.mp hu];exact zml h
 | draw h=>rw[yja.mp hu];exact zml h
theorem TurnOk.words {k:Str}{v:Wv}(h:TurnOk k v):∀u∈v.words,zbs u:=by
 intro u hu;cases h with
 | none=>cases hu
 | here=>cases hu
 | less h=>rw[yja.mp hu];exact zml h
 | more h=>rw[yja.mp hu];exact zml h
 | as h=>rw[yja.mp hu];exact ztr (l:=zid) (by decide +kernel) h
theorem TurnOk.word {k:Str}{v:Wv}(h:TurnOk k v):zbs k:=by cases h<;>exact zii (by decide +kernel)
theorem zph.words {k:Str}{v:Hv}(h:zph k v):∀u∈v.words,zbs u:=by
 intro u hu;cases h with
 | mute=>cases hu
 | steal=>cases hu
 | gain h=>rw[yja.mp hu];exact zmr h
 | lack h=>rw[yja.mp hu];exact zmr h
 | be h=>rw[yja.mp hu];exact zml h
 | more h=>rw[yja.mp hu];exact zml h
 | less h=>rw[yja.mp hu];exact zml h
 | per h=>exact Wh.zug h.1 u hu
theorem Deed.zug {d:Deed}(h:d.ok):∀u∈d.words,zbs u:=by
 intro u hu
 rcases yha.mp hu with rfl|hu
 ·exact ztr (l:=zqgb) (by decide +kernel) h.each
 rcases yha.mp hu with rfl|hu
 ·exact ztr (l:=zmc) (by decide +kernel) h.amt.kind
 rcases yhb.mp hu with hu|hu
 ·exact h.amt.words u hu
 ·exact Wh.zug h.whom.1 u hu
theorem Rule.zug {r:Rule}(h:r.ok):∀u∈r.words,zbs u:=by
 intro u hu;cases r with
 | hold w v y =>
  rcases yha.mp hu with rfl|hu
  ·exact zii (by decide +kernel)
  rcases yha.mp hu with rfl|hu
  ·exact ztr (l:=changes) (by decide +kernel) h.1.word
  rcases yhb.mp hu with hu|hu
  ·exact h.1.words u hu
  ·exact Wh.zug h.2.1 u hu
 | wen k y d =>
  rcases yha.mp hu with rfl|hu
  ·exact zii (by decide +kernel)
  rcases yha.mp hu with rfl|hu
  ·exact ztr (l:=zgq) (by decide +kernel) h.1
  rcases yhb.mp hu with hu|hu
  ·exact Wh.zug h.2.1.1 u hu
  rcases yha.mp hu with rfl|hu
  ·exact zii (by decide +kernel)
  ·exact Deed.zug h.2.2 u hu
 | instead k y w v =>
  rcases yha.mp hu with rfl|hu
  ·exact zii (by decide +kernel)
  rcases yha.mp hu with rfl|hu
  ·exact ztr (l:=zmc) (by decide +kernel) h.1
  rcases yhb.mp hu with hu|hu
  ·exact Wh.zug h.2.1.1 u hu
  rcases yha.mp hu with rfl|hu
  ·exact zii (by decide +kernel)
  rcases yha.mp hu with rfl|hu
  ·exact h.2.2.2.word
  ·exact h.2.2.2.words u hu
 | may c d =>
  rcases yha.mp hu with rfl|hu
  ·exact zii (by decide +kernel)
  rcases yha.mp hu with rfl|hu
  ·exact zml h.1
  rcases yha.mp hu with rfl|hu
  ·exact zii (by decide +kernel)
  ·exact Deed.zug h.2 u hu
end Wm
namespace Wm
open PySem PySem.StrLaws PySem.Builtin.Str
def SL:Str:=⟨#[32,47,32]⟩
theorem zut {s sub:Str}{hi:Nat}:∀{cuts cuts':List Nat} {a f f':Nat},ChainG s sub hi a cuts f->(∀k,f≤k->¬ At s sub hi k)->ChainG s sub hi a cuts' f'->(∀k,f'≤k->¬ At s sub hi k)->cuts=cuts'
 | [],[],_,_,_,_,_,_,_=>rfl
 | [],c::r,a,f,f',h,n,h',n'=>by
  have e:f=a:=h;subst e;exact absurd h'.2.1 (n c h'.1)
 | c::r,[],a,f,f',h,n,h',n'=>by
  have e:f'=a:=h';subst e;exact absurd h.2.1 (n' c h.1)
 | c::r,c'::r',a,f,f',h,n,h',n'=>by
  rcases Nat.lt_trichotomy c c' with z|z|z
  ·exact absurd h.2.1 (h'.2.2.1 c h.1 z)
  ·subst z;rw[zut h.2.2.2 n h'.2.2.2 n']
  ·exact absurd h'.2.1 (h.2.2.1 c' h'.1 z)
theorem zcv (x:Str)(a b:Nat):(x.cps.extract a b).toList=(x.cps.toList.drop a).take (b-a):=by
 rw[Array.toList_extract,List.extract_eq_take_drop]
theorem zpkb {x:Str}{hi k:Nat}(h:At x SL hi k):x.cps.toList[k+1]?=some 47:=by
 have e:x.cps.extract k (k+3)=#[32,47,32]:=by
  have:=h.2;unfold subAt at this;exact beq_iff_eq.mp this
 have q:=congrArg (λz=>z.toList[1]?) e;simp only[zcv] at q;rw[yzj (by omega),yxe] at q;exact q
theorem at_of {x:Str}{pre r:List Nat}(e:x.cps.toList=pre++32::47::32::r):At x SL x.length pre.length:=by
 have hl:=congrArg yeg e;rw[yea] at hl;simp only[yga,yya] at hl;refine⟨?_,?_⟩
 ·show pre.length+3≤x.cps.size;omega
 ·unfold subAt;rw[beq_iff_eq];apply ygi.mp;rw[zcv,e,ywj];show ((32::47::32::r:List Nat).take (pre.length+3-pre.length))=[32,47,32]
  rw[ycl];rfl
def jl3:List (List Nat)->List Nat
 | []=>[]
 | [p]=>p
 | p::q::r=>p++32::47::32::jl3 (q::r)
def cutsOf:Nat->List (List Nat)->List Nat
 | a,p::q::r=>(a+p.length)::cutsOf (a+p.length+3) (q::r)
 | _,_=>[]
def lastOf:Nat->List (List Nat)->Nat
 | a,p::q::r=>lastOf (a+p.length+3) (q::r)
 | a,_=>a
theorem zspb:∀ws:List Str,(yra SL ws).cps.toList=jl3 (ws.map λw=>w.cps.toList)
 | []=>rfl
 | [x]=>rfl
 | x::y::r=>by
  have e:yra SL (x::y::r)=x++SL++yra SL (y::r):=rfl;rw[e];show ((x.cps++SL.cps)++(yra SL (y::r)).cps).toList=_
  rw[yyf,yyf,zspb (y::r),yrd];rfl
theorem zakb {x:Str}{pre p r:List Nat}{b:Nat}(e:x.cps.toList=pre++(p++r))(hb:b=pre.length+p.length)(q:Str)(hq:q.cps.toList=p):strSub x pre.length b=q:=by
 obtain⟨c⟩:=q;have z:x.cps.extract pre.length b=c:=by
  apply ygi.mp;rw[zcv,e,ywj,hb,ycl,List.take_left];exact hq.symm
 show (⟨x.cps.extract pre.length b⟩:Str)=⟨c⟩
 rw[z]
theorem zjcb {x:Str}:∀{ps:List Str} {pre:List Nat},ps≠[]->(∀p∈ps,47∉p.cps.toList)->x.cps.toList=pre++jl3 (ps.map λw=>w.cps.toList) →
  ChainG x SL x.length pre.length (cutsOf pre.length (ps.map λw=>w.cps.toList)) (lastOf pre.length (ps.map λw=>w.cps.toList))∧(∀k,lastOf pre.length (ps.map λw=>w.cps.toList)≤k->¬ At x SL x.length k)∧partsFrom x 3 pre.length (cutsOf pre.length (ps.map λw=>w.cps.toList))=ps
 | [],_,h,_,_=>absurd rfl h
 | [p],pre,_,hf,e=>by
  have e':x.cps.toList=pre++p.cps.toList:=e;refine⟨rfl,λk hk hA=>?_,?_⟩
  ·have hk':pre.length≤k:=hk;have m:=zpkb hA;rw[e',yec (by omega)] at m;exact hf p (yja.mpr rfl) (yob m)
  ·show [strSub x pre.length x.length]=[p];rw[zakb (r:=[]) (by rw[ysb];exact e') ?_ p rfl];have hl:=congrArg yeg e';rw[yea,yya] at hl;exact hl
 | p::q::r,pre,_,hf,e=>by
  have e':x.cps.toList=pre++(p.cps.toList++32::47::32::jl3 ((q::r).map λw=>w.cps.toList)):=e;have e1:x.cps.toList=(pre++p.cps.toList)++32::47::32::jl3 ((q::r).map λw=>w.cps.toList):=by rw[e',yrd]
  have e2:x.cps.toList=(pre++p.cps.toList++[32,47,32])++jl3 ((q::r).map λw=>w.cps.toList):=by rw[e1,yrd (pre++p.cps.toList)];rfl
  obtain⟨c1,c2,c3⟩:=zjcb (ps:=q::r) (pre:=pre++p.cps.toList++[32,47,32]) (ypb _ _) (λy hy=>hf y (yna _ hy)) e2;have el:(pre++p.cps.toList++[32,47,32]).length=pre.length+p.cps.toList.length+3:=by
   rw[yea,yea];rfl
  rw[el] at c1 c2 c3;have eA:=at_of e1;rw[yea] at eA;refine⟨⟨Nat.le_add_right _ _,eA,λk h1 h2 hA=>?_,c1⟩,c2,?_⟩
  ·have m:=zpkb hA
   rcases yye (k+1) (pre.length+p.cps.toList.length) with z|z
   ·rw[e',yec (by omega),ytd (by omega)] at m;exact hf p yia (yob m)
   ·have h2':k<pre.length+p.cps.toList.length:=h2;have ek:k+1=(pre++p.cps.toList).length:=(by rw[yea];omega);rw[e1,ek,yec (yma _),yoj] at m;exact absurd m (by simp)
  ·show strSub x pre.length (pre.length+p.cps.toList.length)::partsFrom x 3 (pre.length+p.cps.toList.length+3) (cutsOf (pre.length+p.cps.toList.length+3) ((q::r).map λw=>w.cps.toList))=p::q::r;rw[c3,zakb e' rfl p rfl]
theorem zxnb {ps:List Str}(hne:ps≠[])(hf:∀p∈ps,47∉p.cps.toList):yme (yra SL ps) SL=ps:=by
 obtain⟨f,hG,hn⟩:=occ_tight (yra SL ps) SL (by decide);obtain⟨c1,c2,c3⟩:=zjcb (x:=yra SL ps) (ps:=ps) (pre:=[]) hne hf (zspb ps);have u:=zut hG hn c1 c2;unfold yme;rw[u];have one:cutsOf ([]:List Nat).length (ps.map λw=>w.cps.toList)=[]->[yra SL ps]=ps:=λz=>by
  cases ps with
  | nil=>exact absurd rfl hne
  | cons p r =>
   cases r with
   | nil=>rfl
   | cons q r=>cases z
 split
 ·rename_i hc;rw[Bool.or_eq_true,decide_eq_true_eq,decide_eq_true_eq] at hc;apply one
  rcases hc with h|h
  ·cases hcut:cutsOf ([]:List Nat).length (ps.map λw=>w.cps.toList) with
   | nil=>rfl
   | cons c r =>
    rw[hcut] at c1;have:=c1.2.1.1;omega
  ·exfalso;have ek:ydh SL=1:=(by decide +kernel);rw[ek] at h;unfold ydh at h
   split at h
   ·omega
   ·split at h
    ·omega
    ·omega
 ·split
  ·rename_i he;exact one (List.isEmpty_iff.mp he)
  ·rw[partsBetween_eq];exact c3
end Wm
namespace Wm
open PySem PySem.Spec PyProof.Rows
def leS (a b:Str):Prop:=a.cps.toList≤b.cps.toList
theorem zipb {a b:Str}(h:ltCps b.cps.toList a.cps.toList=false):leS a b:=by
 rw[ltCps_eq] at h;exact yyo.mp (of_decide_eq_false h)
theorem zzfb {a b c:Str}(h:leS a b)(g:leS b c):leS a c:=List.le_trans h g
theorem zzib {a b:Str}(h:leS a b)(g:leS b a):a=b:=by
 have e:=yjo h g;obtain⟨x⟩:=a;obtain⟨y⟩:=b;rw[show x=y from ygi.mp e]
theorem znw:∀(p:Str) (l:List Str),risingS p l=true->(p::l).Pairwise leS
 | p,[],_=>yzf _ _
 | p,x::r,h=>by
  have h':(!ltCps x.cps.toList p.cps.toList&&risingS x r)=true:=h;rw[yhc] at h';have h1:leS p x:=zipb (by have:=h'.1;revert this;cases ltCps x.cps.toList p.cps.toList<;>simp);have h2:=znw x r h'.2;rw[yln];refine⟨λb hb=>?_,h2⟩
  rcases yha.mp hb with rfl|hb
  ·exact h1
  ·exact zzfb h1 ((yln.mp h2).1 b hb)
theorem zgw:∀{l:List Str},yum l=true->l.Pairwise leS
 | [],_=>.nil
 | x::r,h=>znw x r h
theorem zbz {xs ys:List Str}(hp:xs.Perm ys)(hx:yum xs=true)(hy:yum ys=true):xs=ys :=
 ynk (le:=leS) (λ_ _ _ _ h g=>zzib h g) (zgw hx) (zgw hy) hp
theorem zicb {xs:List Str}(h:xs.Nodup):SSet.dd xs=xs:=by
 have key:∀n,n≤xs.length->SSet.dd (xs.take n)=xs.take n:=by
  intro n
  induction n with
  | zero=>intro _;rfl
  | succ n ih =>
   intro hn;have hlt:n<xs.length:=hn;rw[ykb,ywa hlt];show SSet.dd (xs.take n++[xs[n]])=xs.take n++[xs[n]]
   rw[SSet.zvz,ih (by omega),if_neg];intro hm;obtain⟨i,hi,e⟩:=List.getElem_of_mem hm;rw[ydb] at hi;rw[List.getElem_take] at e;exact (yzg.mp h) i n (by omega) hlt (by omega) e
 have:=key xs.length (yma _)
 rwa [yfl] at this
structure Marks (ms:List Str):Prop where
 ok:∀m∈ms,zie m
 nd:ms.Nodup
 so:yum ms=true
 le:ms.length≤20
theorem Marks.same {ms ys:List Str}(h:Marks ms)(hp:ys.Perm (SSet.dd ms))(hs:yum ys=true):ys=ms:=by
 rw[zicb h.nd] at hp;exact zbz hp hs h.so
def CM:Str:=⟨#[44]⟩
def zfi:List Str->Str
 | []=>"-"
 | m::r=>yra CM (m::r)
theorem zeo {c:Nat}:∀{ws:List Str} {d:Nat},d∈(yra ⟨#[c]⟩ ws).cps.toList->d=c∨∃w∈ws,d∈w.cps.toList
 | [],d,h=>by cases h
 | [x],d,h=>.inr ⟨x,yja.mpr rfl,h⟩
 | x::y::r,d,h=>by
  have e:yra ⟨#[c]⟩ (x::y::r)=x++⟨#[c]⟩++yra ⟨#[c]⟩ (y::r):=rfl;rw[e] at h;have h':d∈((x.cps++#[c])++(yra ⟨#[c]⟩ (y::r)).cps).toList:=h;rw[yyf,yyf] at h'
  rcases yhb.mp h' with h'|h'
  ·rcases yhb.mp h' with h'|h'
   ·exact .inr ⟨x,yia,h'⟩
   ·exact .inl (yja.mp h')
  ·rcases zeo h' with z|⟨w,hw,z⟩
   ·exact .inl z
   ·exact .inr ⟨w,yna _ hw,z⟩
theorem zjk {ms:List Str}(h:Marks ms)(hne:ms≠[]):∀d∈(zfi ms).cps.toList,d=44∨(97≤d∧d≤122):=by
 cases ms with
 | nil=>exact absurd rfl hne
 | cons m r =>
  intro d hd
  rcases zeo (c:=44) hd with z|⟨w,hw,z⟩
  ·exact .inl z
  ·exact .inr ((h.ok w hw).2.2 d z)
theorem zvfb {ms:List Str}(h:Marks ms)(hne:ms≠[]):zfi ms ≠ "-":=by
 intro z;have:=zjk h hne 45 (by rw[z];decide +kernel);omega
theorem zdo {ms:List Str}(h:Marks ms):1≤(zfi ms).length∧(zfi ms).length≤180:=by
 cases ms with
 | nil=>exact⟨by decide,by decide⟩
 | cons m r =>
  have a:=zbl CM (m::r);have c:=zuo (l:=(m::r).map (·.length)) (k:=8) (λx hx=>by
   obtain⟨u,hu,rfl⟩:=ybb.mp hx;exact (h.ok u hu).2.1)
  rw[yda] at c;have e:CM.length=1:=rfl;rw[e] at a;have l:=h.le;refine⟨?_,?_⟩
  ·have m1:=(h.ok m yia).1;cases r with
   | nil=>exact m1
   | cons y r =>
    have e2:yra CM (m::y::r)=m++CM++yra CM (y::r):=rfl;show 1≤(yra CM (m::y::r)).length
    rw[e2];show 1≤((m.cps++CM.cps)++(yra CM (y::r)).cps).size
    rw[yok,yok];have:m.length=m.cps.size:=rfl;omega
  ·show (yra CM (m::r)).length≤180;omega
theorem zoz {ms:List Str}(h:Marks ms)(hne:ms≠[]):yme (zfi ms) CM=ms:=by
 cases ms with
 | nil=>exact absurd rfl hne
 | cons m r=>exact ztn (c:=44) (ypb _ _) (λw hw z=>absurd ((h.ok w hw).2.2 44 z).1 (by decide))
structure Crd where
 name:Str
 cost:Nat
 force:Nat
 marks:List Str
 rules:List Rule
structure Crd.ok (c:Crd):Prop where
 name:zie c.name
 cost:c.cost<1000
 force:c.force<1000
 marks:Marks c.marks
 rules:∀r∈c.rules,r.ok
 few:c.rules.length≤3
def Crd.head (c:Crd):List Str:=[c.name,toString (c.cost:Int),toString (c.force:Int),zfi c.marks]
def zne (r:Rule):Str:=yra " " r.words
def Crd.text (c:Crd):Str:=yra SL (yra " " c.head::c.rules.map zne)
theorem zsx {c d:Nat}{ws:List Str}(h:∀w∈ws,d∉w.cps.toList)(n:d≠c):d∉(yra ⟨#[c]⟩ ws).cps.toList:=λz=>by
 rcases zeo z with e|⟨w,hw,z⟩
 ·exact n e
 ·exact h w hw z
theorem zpz {ms:List Str}(h:Marks ms):32∉(zfi ms).cps.toList∧47∉(zfi ms).cps.toList:=by
 by_cases e:ms=[]
 ·subst e;exact⟨by decide,by decide⟩
 ·exact⟨λz=>by have:=zjk h e 32 z;omega,λz=>by have:=zjk h e 47 z;omega⟩
theorem Crd.zrx {c:Crd}(h:c.ok):∀u∈c.head,32∉u.cps.toList∧47∉u.cps.toList:=by
 intro u hu;simp only[Crd.head,yha,yzc,or_false] at hu
 rcases hu with rfl|rfl|rfl|rfl
 ·exact⟨(zmr h.name).1.1,(zmr h.name).2⟩
 ·exact⟨(zml h.cost).1.1,(zml h.cost).2⟩
 ·exact⟨(zml h.force).1.1,(zml h.force).2⟩
 ·exact zpz h.marks
theorem Crd.zrdb {c:Crd}(h:c.ok):yme (yra " " c.head) " " = c.head:=ztn (c:=32) (ypb _ _) (λu hu=>(Crd.zrx h u hu).1)
theorem Crd.zwu {c:Crd}(h:c.ok):(yra " " c.head).length≤300:=by
 have a:=zbl " " c.head;have c':=zuo (l:=c.head.map (·.length)) (k:=180) (λx hx=>by
  obtain⟨u,hu,rfl⟩:=ybb.mp hx;simp only[Crd.head,yha,yzc,or_false] at hu
  rcases hu with rfl|rfl|rfl|rfl
  ·have:=h.name.2.1;omega
  ·have:=(zbo _ h.cost).2;omega
  ·have:=(zbo _ h.force).2;omega
  ·exact (zdo h.marks).2)
 have e:(" ":Str).length=1:=rfl;rw[e] at a;have s:(c.head.map (·.length)).sum=c.name.length+((toString (c.cost:Int):Str).length+((toString (c.force:Int):Str).length+((zfi c.marks).length+0))):=rfl;have hl:c.head.length=4:=rfl;rw[s,hl] at a;have b1:=h.name.2.1;have b2:=(zbo _ h.cost).2;have b3:=(zbo _ h.force).2;have b4:=(zdo h.marks).2;omega
theorem Crd.split {c:Crd}(h:c.ok):yme c.text SL=yra " " c.head::c.rules.map zne:=by
 refine zxnb (ypb _ _) λp hp=>?_
 rcases yha.mp hp with rfl|hp
 ·exact zsx (λu hu=>(Crd.zrx h u hu).2) (by decide)
 ·obtain⟨r,hr,rfl⟩:=ybb.mp hp;exact zsx (λu hu=>(Rule.zug (h.rules r hr) u hu).2) (by decide)
end Wm
namespace Wm
open PySem PySem.Spec PyProof.Rows
end Wm
namespace K20
open PySem L2 PyProof.Rows Wm
variable {P:ytb}{w:World}{K:yba}{mg:Str->Option Value}{base:Heap}
def top (i:Nat):Stmt:=PySem.Challenge.pw_turnstack_k20_rules_that_may_be_put.main.body.getD i (.Pass ⟨0,0,0,0⟩)
abbrev zmw:Stmt:=top 8
abbrev zfhb:List Str:=["word"]
abbrev zes:List Str:=["word"]
theorem zcdb:zxa zfhb zes (zla zmw):=scOf (by decide +kernel)
abbrev zwq:Stmt:=top 9
abbrev ztab:List Str:=["word"]
abbrev zcm:List Str:=["word"]
theorem zkw:zxa ztab zcm (zla zwq):=scOf (by decide +kernel)
abbrev zat:Stmt:=top 10
abbrev zdeb:List Str:=["word","most"]
abbrev zno:List Str:=["word","most"]
theorem zdz:zxa zdeb zno (zla zat):=scOf (by decide +kernel)
abbrev zvg:Stmt:=inClass (top 11) 0
abbrev zcq:List Str:=["self","text"]
abbrev zyg:List Str:=["self","text"]
theorem zun:zxa zcq zyg (zla zvg):=scOf (by decide +kernel)
abbrev zbk:Stmt:=inClass (top 11) 1
abbrev zuy:List Str:=["self"]
abbrev zvk:List Str:=["self"]
theorem zdu:zxa zuy zvk (zla zbk):=scOf (by decide +kernel)
abbrev zze:Stmt:=inClass (top 11) 2
abbrev zlm:List Str:=["self","known","word"]
abbrev zcf:List Str:=["self","known"]
theorem zzg:zxa zlm zcf (zla zze):=scOf (by decide +kernel)
abbrev zwf:Stmt:=inClass (top 11) 3
abbrev zpo:List Str:=["self","word"]
abbrev zcg:List Str:=["self"]
theorem zxh:zxa zpo zcg (zla zwf):=scOf (by decide +kernel)
abbrev zaf:Stmt:=inClass (top 11) 4
abbrev zmm:List Str:=["self","word"]
abbrev zdf:List Str:=["self"]
theorem zah:zxa zmm zdf (zla zaf):=scOf (by decide +kernel)
abbrev zoi:Stmt:=inClass (top 11) 5
abbrev zvs:List Str:=["self"]
abbrev zsi:List Str:=["self"]
theorem zoq:zxa zvs zsi (zla zoi):=scOf (by decide +kernel)
abbrev zfh:Stmt:=inClass (top 12) 0
abbrev zgs:List Str:=["self","word","value","parts"]
abbrev znh:List Str:=["self","word","value","parts"]
theorem zup:zxa zgs znh (zla zfh):=scOf (by decide +kernel)
abbrev zll:Stmt:=inClass (top 12) 2
abbrev zbbb:List Str:=["self","sight","number","keeper","thing"]
abbrev zjm:List Str:=["self","sight","number","keeper","thing"]
theorem zlw:zxa zbbb zjm (zla zll):=scOf (by decide +kernel)
abbrev zeh:Stmt:=inClass (top 12) 3
abbrev zfs:List Str:=["self","row","number","keeper","thing"]
abbrev zmd:List Str:=["self","row","number","keeper","thing"]
theorem ztp:zxa zfs zmd (zla zeh):=scOf (by decide +kernel)
abbrev zxf:Stmt:=inClass (top 12) 4
abbrev zqo:List Str:=["self","row","number","keeper","thing","first"]
abbrev zle:List Str:=["self","row","number","keeper","thing"]
theorem zyh:zxa zqo zle (zla zxf):=scOf (by decide +kernel)
abbrev zlbb:Stmt:=top 13
abbrev zxjb:List Str:=["sight","thing","row"]
abbrev zqv:List Str:=["sight","thing"]
theorem zjw:zxa zxjb zqv (zla zlbb):=scOf (by decide +kernel)
abbrev zpq:Stmt:=top 14
abbrev zmab:List Str:=["words","taken","missing","word"]
abbrev zvl:List Str:=["words"]
theorem zjg:zxa zmab zvl (zla zpq):=scOf (by decide +kernel)
abbrev zzo:Stmt:=top 15
abbrev zny:List Str:=["words","word"]
abbrev zpk:List Str:=["words","word"]
theorem zcu:zxa zny zpk (zla zzo):=scOf (by decide +kernel)
abbrev zbfb:Stmt:=top 16
abbrev zonb:List Str:=["taken","whoms","word","value","many"]
abbrev zlab:List Str:=["taken"]
theorem zyk:zxa zonb zlab (zla zbfb):=scOf (by decide +kernel)
abbrev zwm:Stmt:=top 18
abbrev zsv:List Str:=["lying","sight","sort","happening","kind","thing","amount","found","number","card","owner","came","marks","keeper","place","rule"]
abbrev zmj:List Str:=["lying","sight","sort","happening"]
theorem zqb:zxa zsv zmj (zla zwm):=scOf (by decide +kernel)
abbrev ztq:Stmt:=top 19
abbrev zqab:List Str:=["lying","sight","happening","used","meant"]
abbrev zzl:List Str:=["lying","sight","happening","used"]
theorem zwo:zxa zqab zzl (zla ztq):=scOf (by decide +kernel)
abbrev zgh:Stmt:=inClass (top 28) 0
abbrev zis:List Str:=["self","name","cost","force","marks","rules"]
abbrev zoh:List Str:=["self","name","cost","force","marks","rules"]
theorem zvp:zxa zis zoh (zla zgh):=scOf (by decide +kernel)
abbrev zvq:Stmt:=top 29
abbrev zsab:List Str:=["text","texts","words","name","cost","force","marks"]
abbrev zbm:List Str:=["text"]
theorem zce:zxa zsab zbm (zla zvq):=scOf (by decide +kernel)
abbrev zap:Stmt:=top 30
abbrev zoy:List Str:=["word","marks"]
abbrev zqk:List Str:=["word"]
theorem ztm:zxa zoy zqk (zla zap):=scOf (by decide +kernel)
abbrev zuq:Stmt:=top 31
abbrev zrab:List Str:=["text","words","first","rule"]
abbrev zam:List Str:=["text"]
theorem zbe:zxa zrab zam (zla zuq):=scOf (by decide +kernel)
abbrev zrq:Stmt:=top 32
abbrev zoab:List Str:=["words","word","value","whom"]
abbrev zxl:List Str:=["words"]
theorem zsh:zxa zoab zxl (zla zrq):=scOf (by decide +kernel)
abbrev zdh:Stmt:=top 33
abbrev zkm:List Str:=["words","word"]
abbrev zbf:List Str:=["words","word"]
theorem zcl:zxa zkm zbf (zla zdh):=scOf (by decide +kernel)
abbrev zqq:Stmt:=top 34
abbrev znab:List Str:=["words","kind","whom"]
abbrev zwl:List Str:=["words"]
theorem zak:zxa znab zwl (zla zqq):=scOf (by decide +kernel)
abbrev zgl:Stmt:=top 35
abbrev zus:List Str:=["words","kind","whom","word"]
abbrev zri:List Str:=["words"]
theorem zlf:zxa zus zri (zla zgl):=scOf (by decide +kernel)
abbrev zti:Stmt:=top 36
abbrev zoo:List Str:=["words","word"]
abbrev zzf:List Str:=["words","word"]
theorem zsm:zxa zoo zzf (zla zti):=scOf (by decide +kernel)
abbrev zzs:Stmt:=top 37
abbrev zceb:List Str:=["words","cost"]
abbrev zmo:List Str:=["words"]
theorem znq:zxa zceb zmo (zla zzs):=scOf (by decide +kernel)
abbrev zsq:Stmt:=top 38
abbrev zpab:List Str:=["words","each","kind","amount","whom"]
abbrev zyl:List Str:=["words"]
theorem zkg:zxa zpab zyl (zla zsq):=scOf (by decide +kernel)
abbrev zvm:Stmt:=top 39
abbrev zrv:List Str:=["words","kind"]
abbrev zlj:List Str:=["words","kind"]
theorem zls:zxa zrv zlj (zla zvm):=scOf (by decide +kernel)
abbrev zdr:Stmt:=top 46
abbrev zabb:List Str:=["_law_script","_law_k","_law_seed","_law_mixed"]
abbrev zim:List Str:=["_law_script","_law_k"]
theorem zwh:zxa zabb zim (zla zdr):=scOf (by decide +kernel)
abbrev zar:Stmt:=top 47
abbrev zxab:List Str:=["_law_pen","_law_most","_law_cell_here"]
abbrev zfm:List Str:=["_law_pen","_law_most"]
theorem zxo:zxa zxab zfm (zla zar):=scOf (by decide +kernel)
abbrev zep:Stmt:=top 48
abbrev zsy:List Str:=["_law_pen","_law_letters","_law_base","_law_at","_law_first"]
abbrev ztk:List Str:=["_law_pen"]
theorem znf:zxa zsy ztk (zla zep):=scOf (by decide +kernel)
abbrev zym:Stmt:=top 49
abbrev zuv:List Str:=["_law_pen"]
abbrev zoj:List Str:=["_law_pen"]
theorem zns:zxa zuv zoj (zla zym):=scOf (by decide +kernel)
abbrev zxq:Stmt:=top 50
abbrev zuab:List Str:=["_law_pen","_law_names_here","_law_left","_law_way","_law_half","_law_one"]
abbrev zag:List Str:=["_law_pen","_law_names_here","_law_left"]
theorem zth:zxa zuab zag (zla zxq):=scOf (by decide +kernel)
abbrev zbp:Stmt:=top 51
abbrev zpy:List Str:=["_law_whom_here","_law_words_here","_law_part"]
abbrev zif:List Str:=["_law_whom_here"]
theorem zbj:zxa zpy zif (zla zbp):=scOf (by decide +kernel)
abbrev zcr:Stmt:=top 52
abbrev zzab:List Str:=["_law_whom_here","_law_sight","_law_number","_law_keeper_here","_law_thing","_law_rows","_law_one","_law_other"]
abbrev zbg:List Str:=["_law_whom_here","_law_sight","_law_number","_law_keeper_here","_law_thing"]
theorem zvh:zxa zzab zbg (zla zcr):=scOf (by decide +kernel)
abbrev zyq:Stmt:=top 53
abbrev zvab:List Str:=["_law_pen","_law_kind","_law_some"]
abbrev zdm:List Str:=["_law_pen","_law_kind"]
theorem zlg:zxa zvab zdm (zla zyq):=scOf (by decide +kernel)
abbrev zdp:Stmt:=top 54
abbrev zry:List Str:=["_law_pen","_law_names_here","_law_kinds","_law_rules_here","_law_k","_law_kind","_law_whom_here"]
abbrev zsk:List Str:=["_law_pen","_law_names_here","_law_kinds"]
theorem zmf:zxa zry zsk (zla zdp):=scOf (by decide +kernel)
abbrev zzq:Stmt:=top 55
abbrev zwab:List Str:=["_law_name","_law_rules_here","_law_parts","_law_rule","_law_words_here"]
abbrev zem:List Str:=["_law_name","_law_rules_here"]
theorem zuh:zxa zwab zem (zla zzq):=scOf (by decide +kernel)
abbrev zcp:Stmt:=top 56
abbrev zqy:List Str:=["_law_pen","_law_names_here","_law_kinds","_law_cards","_law_sight","_law_number","_law_first","_law_k","_law_rules_here","_law_marks","_law_came","_law_keeper_here","_law_force"]
abbrev zrk:List Str:=["_law_pen","_law_names_here","_law_kinds"]
theorem zzb:zxa zqy zrk (zla zcp):=scOf (by decide +kernel)
abbrev zfp:Stmt:=top 57
abbrev zty:List Str:=["_law_cards","_law_name","_law_turn_here","_law_rows","_law_number","_law_rules_here","_law_came","_law_marks"]
abbrev zuk:List Str:=["_law_cards","_law_name","_law_turn_here"]
theorem zje:zxa zty zuk (zla zfp):=scOf (by decide +kernel)
abbrev zpj:Stmt:=top 58
abbrev zaq:List Str:=["_law_pen","_law_kinds","_law_cards","_law_names_here","_law_kind","_law_amount"]
abbrev zwg:List Str:=["_law_pen","_law_kinds","_law_cards","_law_names_here"]
theorem zwc:zxa zaq zwg (zla zpj):=scOf (by decide +kernel)
abbrev zxm:Stmt:=top 59
abbrev ztv:List Str:=["_law_sight","_law_number"]
abbrev znj:List Str:=["_law_sight","_law_number"]
theorem zms:zxa ztv znj (zla zxm):=scOf (by decide +kernel)
abbrev zqj:Stmt:=top 60
abbrev zbq:List Str:=["_law_cards","_law_sight","_law_happening_here","_law_used","_law_found","_law_number","_law_rules_here","_law_came","_law_marks","_law_keeper_here","_law_place","_law_rule"]
abbrev zxg:List Str:=["_law_cards","_law_sight","_law_happening_here","_law_used"]
theorem zwb:zxa zbq zxg (zla zqj):=scOf (by decide +kernel)
abbrev zbr:Stmt:=top 61
abbrev zyab:List Str:=["_law_found","_law_due","_law_one"]
abbrev zgm:List Str:=["_law_found","_law_due"]
theorem zyo:zxa zyab zgm (zla zbr):=scOf (by decide +kernel)
abbrev zjob:Stmt:=top 62
abbrev zjrb:List Str:=["_law_script","_law_pen","_law_names_here","_law_kinds","_law_cards","_law_sight","_law_lying_here","_law_used","_law_number","_law_rules_here","_law_came","_law_marks","_law_k","_law_happening_here","_law_handed","_law_due","_law_found","_law_one","_law_more","_law_rest"]
abbrev zgqb:List Str:=["_law_script"]
theorem zef:zxa zjrb zgqb (zla zjob):=scOf (by decide +kernel)
abbrev zcs:Str:="abcdefghijklmnopqrstuvwxyz"
abbrev zds:Str:="0123456789"
abbrev zks:List (Str×yjp):=[("all",.flat (.int 0)),("self",.flat (.int 0)),("mine",.flat (.int 0)),("mark",.flat (.int 0)),("force",.flat (.int 0)),("not",.flat (.int 1)),("both",.flat (.int 2)),("any",.flat (.int 2))]
abbrev zcbb:List (Str×yjp):=[("leave",.tup ((["none","here"]:List Str).map PyData.str)),("hurt",.tup ((["none","here","less","more"]:List Str).map PyData.str)),("gain",.tup ((["none","here"]:List Str).map PyData.str)),("lack",.tup ((["none","here"]:List Str).map PyData.str)),("lose",.tup ((["none","less","more","as"]:List Str).map PyData.str)),("score",.tup ((["none","less","more","as"]:List Str).map PyData.str)),("draw",.tup ((["none","less","more","as"]:List Str).map PyData.str))]
theorem onlZ {m:List Value->Prop}(h:m [])(us:List Value)(hl:us.length=0):m us:=by rw[yxf.mp hl];exact h
theorem onlS {m:List Value->Prop}{k:Nat}(h:∀a,∀us,us.length=k->m (a::us))(us:List Value)(hl:us.length=k+1):m us:=by
 obtain⟨a,t,rfl⟩:=List.exists_cons_of_length_eq_add_one hl;exact h a t (Nat.succ.inj hl)
@[elab_as_elim] theorem onl1 {m:List Value->Prop} (h:∀a,m [a]) (us:List Value) (hl:us.length=1):m us:=(onlS (m:=λt=>m (t)) λa=>onlZ (h a)) us hl
@[elab_as_elim] theorem onl2 {m:List Value->Prop} (h:∀a b,m [a,b]) (us:List Value) (hl:us.length=2):m us:=(onlS (m:=λt=>m (t)) λa=>onlS (m:=λt=>m (a::t)) λb=>onlZ (h a b)) us hl
@[elab_as_elim] theorem onl3 {m:List Value->Prop} (h:∀a b c,m [a,b,c]) (us:List Value) (hl:us.length=3):m us:=(onlS (m:=λt=>m (t)) λa=>onlS (m:=λt=>m (a::t)) λb=>onlS (m:=λt=>m (a::b::t)) λc=>onlZ (h a b c)) us hl
@[elab_as_elim] theorem onl4 {m:List Value->Prop} (h:∀a b c d,m [a,b,c,d]) (us:List Value) (hl:us.length=4):m us:=(onlS (m:=λt=>m (t)) λa=>onlS (m:=λt=>m (a::t)) λb=>onlS (m:=λt=>m (a::b::t)) λc=>onlS (m:=λt=>m (a::b::c::t)) λd=>onlZ (h a b c d)) us hl
@[elab_as_elim] theorem onl5 {m:List Value->Prop} (h:∀a b c d e,m [a,b,c,d,e]) (us:List Value) (hl:us.length=5):m us:=(onlS (m:=λt=>m (t)) λa=>onlS (m:=λt=>m (a::t)) λb=>onlS (m:=λt=>m (a::b::t)) λc=>onlS (m:=λt=>m (a::b::c::t)) λd=>onlS (m:=λt=>m (a::b::c::d::t)) λe=>onlZ (h a b c d e)) us hl
@[elab_as_elim] theorem onl6 {m:List Value->Prop} (h:∀a b c d e f,m [a,b,c,d,e,f]) (us:List Value) (hl:us.length=6):m us:=(onlS (m:=λt=>m (t)) λa=>onlS (m:=λt=>m (a::t)) λb=>onlS (m:=λt=>m (a::b::t)) λc=>onlS (m:=λt=>m (a::b::c::t)) λd=>onlS (m:=λt=>m (a::b::c::d::t)) λe=>onlS (m:=λt=>m (a::b::c::d::e::t)) λf=>onlZ (h a b c d e f)) us hl
set_option genInjectivity false in
set_option genSizeOf false in
structure Tf (K:yba)(mg:Str->Option Value) where
 zkf:Gf K mg "is_name" "is_name" zmw
 zue:Gf K mg "is_number" "is_number" zwq
 zvf:Gf K mg "is_whole" "is_whole" zat
 zbh:Gf K mg "row_of" "row_of" zlbb
 zac:Gf K mg "take_whom" "take_whom" zpq
 zvd:Gf K mg "take_value" "take_value" zzo
 zkl:Gf K mg "built" "built" zbfb
 zpd:Gf K mg "rules_meant" "rules_meant" zwm
 zxc:Gf K mg "rules_for" "rules_for" ztq
 zte:Gf K mg "read_card" "read_card" zvq
 zwd:Gf K mg "read_marks" "read_marks" zap
 zse:Gf K mg "read_rule" "read_rule" zuq
 zre:Gf K mg "take_hold" "take_hold" zrq
 zbc:Gf K mg "take_change_value" "take_change_value" zdh
 zqe:Gf K mg "take_when" "take_when" zqq
 zgd:Gf K mg "take_instead" "take_instead" zgl
 znc:Gf K mg "take_turn_value" "take_turn_value" zti
 zuf:Gf K mg "take_may" "take_may" zzs
 znd:Gf K mg "take_deed" "take_deed" zsq
 zod:Gf K mg "take_amount" "take_amount" zvm
 zxe:Gf K mg "_law_cell" "_law_cell" zdr
 zda:Gf K mg "_law_take" "_law_take" zar
 zzd:Gf K mg "_law_names" "_law_names" zep
 zec:Gf K mg "_law_figure" "_law_figure" zym
 zlb:Gf K mg "_law_whom" "_law_whom" zxq
 zkb:Gf K mg "_law_words" "_law_words" zbp
 zrb:Gf K mg "_law_fits" "_law_fits" zcr
 zve:Gf K mg "_law_turn" "_law_turn" zyq
 zyd:Gf K mg "_law_rules" "_law_rules" zdp
 zwe:Gf K mg "_law_text" "_law_text" zzq
 zxd:Gf K mg "_law_table" "_law_table" zcp
 zae:Gf K mg "_law_lying" "_law_lying" zfp
 zqc:Gf K mg "_law_happening" "_law_happening" zpj
 zqd:Gf K mg "_law_keeper" "_law_keeper" zxm
 zrc:Gf K mg "_law_due_rules" "_law_due_rules" zqj
 zyc:Gf K mg "_law_good" "_law_good" zbr
 zfeb:Gf K mg "law" "law" zjob
set_option genInjectivity false in
set_option genSizeOf false in
structure Tx (K:yba)(mg:Str->Option Value) extends Tf K mg where
 zmb:Addr
 zeb:Cls K zmb
 zqz:mg "Words" = some (.ref zmb)
 zgc:If K zmb "__init__" "Words.__init__" zvg
 zoc:Mf K zmb "take" "Words.take" zbk
 zpa:Mf K zmb "take_one_of" "Words.take_one_of" zze
 zpb:Mf K zmb "take_name" "Words.take_name" zwf
 zwa:Mf K zmb "take_number" "Words.take_number" zaf
 zuc:Mf K zmb "finish" "Words.finish" zoi
 zsd:ztg K zmb "words"
 zed:ztg K zmb "place"
 ztb:Addr
 zjb:Cls K ztb
 zfkb:mg "Whom" = some (.ref ztb)
 zzc:If K ztb "__init__" "Whom.__init__" zfh
 zye:Mf K ztb "fits" "Whom.fits" zll
 zcb:Mf K ztb "fits_row" "Whom.fits_row" zeh
 zvb:Mf K ztb "fits_parts" "Whom.fits_parts" zxf
 zab:ztg K ztb "word"
 zgf:ztg K ztb "value"
 zvc:ztg K ztb "parts"
 zxpb:Isi K ztb
 zqg:Addr
 zpl:Cls K zqg
 zgkb:mg "Card" = some (.ref zqg)
 zad:If K zqg "__init__" "Card.__init__" zgh
 zfj:ztg K zqg "name"
 zgj:ztg K zqg "cost"
 zei:ztg K zqg "force"
 zdi:ztg K zqg "marks"
 zng:ztg K zqg "rules"
 zpcb:mg "all" = none
 zebb:mg "bool" = none
 zzi:mg "enumerate" = none
 zeeb:mg "int" = none
 zdd:mg "isinstance" = none
 zig:mg "len" = none
 zeq:mg "list" = none
 zni:mg "range" = none
 zxk:mg "reversed" = none
 zghb:mg "set" = none
 zyi:mg "sorted" = none
 zocb:mg "str" = none
 zxi:mg "tuple" = none
 zjx:Tok
 zgn:mg "LETTERS" = some (.str zcs zjx)
 zkx:Tok
 zin:mg "FIGURES" = some (.str zds zkx)
 znp:Tok
 zki:mg "MOST_WORDS" = some (.int 9 znp)
 zul:Addr
 zgo:mg "PARTS" = some (.ref zul)
 ztu:yvo (yhh λb=>K.lookup b) (λb=>K.lookup b) zul zks=true
 zop:Tok
 zli:mg "MOST_RULES" = some (.int 3 zop)
 zov:Addr
 zyu:mg "SORTS" = some (.ref zov)
 zsu:TupK K zov ["hold","when","instead","may"]
 zpn:Addr
 zjn:mg "CHANGES" = some (.ref zpn)
 zen:TupK K zpn ["mute","steal","gain","lack","be","more","less","per"]
 zmi:Addr
 zji:mg "WHEN_KINDS" = some (.ref zmi)
 zgi:TupK K zmi ["come","leave","hurt","gain","lack","lose","score","draw"]
 zsg:Addr
 zpg:mg "DEED_KINDS" = some (.ref zsg)
 zog:TupK K zsg ["leave","hurt","gain","lack","lose","score","draw"]
 zgg:Addr
 zfg:mg "PLAYER_KINDS" = some (.ref zgg)
 zeg:TupK K zgg ["lose","score","draw"]
 znv:Addr
 zxu:mg "TURNS" = some (.ref znv)
 zru:TabK K znv zcbb
theorem ziy (T:Tx K mg):Binds K T.zkf.d zes []:=T.zkf.F.binds λ_ _ _ _ _ _ us hl=>onl1 (λ_=>rfl) us hl
theorem zcab (T:Tx K mg):Binds K T.zue.d zcm []:=T.zue.F.binds λ_ _ _ _ _ _ us hl=>onl1 (λ_=>rfl) us hl
theorem zaeb (T:Tx K mg):Binds K T.zvf.d zno []:=T.zvf.F.binds λ_ _ _ _ _ _ us hl=>onl2 (λ_ _=>rfl) us hl
theorem ztj (T:Tx K mg):Binds K T.zgc.d zyg []:=T.zgc.F.binds λ_ _ _ _ _ _ us hl=>onl2 (λ_ _=>rfl) us hl
theorem zrg (T:Tx K mg):Binds K T.zoc.d zvk []:=T.zoc.F.binds λ_ _ _ _ _ _ us hl=>onl1 (λ_=>rfl) us hl
theorem zfb (T:Tx K mg):Binds K T.zpa.d zcf []:=T.zpa.F.binds λ_ _ _ _ _ _ us hl=>onl2 (λ_ _=>rfl) us hl
theorem zke (T:Tx K mg):Binds K T.zpb.d zcg []:=T.zpb.F.binds λ_ _ _ _ _ _ us hl=>onl1 (λ_=>rfl) us hl
theorem zcc (T:Tx K mg):Binds K T.zwa.d zdf []:=T.zwa.F.binds λ_ _ _ _ _ _ us hl=>onl1 (λ_=>rfl) us hl
theorem zjl (T:Tx K mg):Binds K T.zuc.d zsi []:=T.zuc.F.binds λ_ _ _ _ _ _ us hl=>onl1 (λ_=>rfl) us hl
theorem zxr (T:Tx K mg):Binds K T.zzc.d znh []:=T.zzc.F.binds λ_ _ _ _ _ _ us hl=>onl4 (λ_ _ _ _=>rfl) us hl
theorem zgab (T:Tx K mg):Binds K T.zye.d zjm []:=T.zye.F.binds λ_ _ _ _ _ _ us hl=>onl5 (λ_ _ _ _ _=>rfl) us hl
theorem zsf (T:Tx K mg):Binds K T.zcb.d zmd []:=T.zcb.F.binds λ_ _ _ _ _ _ us hl=>onl5 (λ_ _ _ _ _=>rfl) us hl
theorem zlo (T:Tx K mg):Binds K T.zvb.d zle []:=T.zvb.F.binds λ_ _ _ _ _ _ us hl=>onl5 (λ_ _ _ _ _=>rfl) us hl
theorem zncb (T:Tx K mg):Binds K T.zbh.d zqv []:=T.zbh.F.binds λ_ _ _ _ _ _ us hl=>onl2 (λ_ _=>rfl) us hl
theorem zmh (T:Tx K mg):Binds K T.zac.d zvl []:=T.zac.F.binds λ_ _ _ _ _ _ us hl=>onl1 (λ_=>rfl) us hl
theorem zfy (T:Tx K mg):Binds K T.zvd.d zpk []:=T.zvd.F.binds λ_ _ _ _ _ _ us hl=>onl2 (λ_ _=>rfl) us hl
theorem zfnb (T:Tx K mg):Binds K T.zkl.d zlab []:=T.zkl.F.binds λ_ _ _ _ _ _ us hl=>onl1 (λ_=>rfl) us hl
theorem zlv (T:Tx K mg):Binds K T.zpd.d zmj []:=T.zpd.F.binds λ_ _ _ _ _ _ us hl=>onl4 (λ_ _ _ _=>rfl) us hl
theorem zrl (T:Tx K mg):Binds K T.zxc.d zzl []:=T.zxc.F.binds λ_ _ _ _ _ _ us hl=>onl4 (λ_ _ _ _=>rfl) us hl
theorem zyr (T:Tx K mg):Binds K T.zad.d zoh []:=T.zad.F.binds λ_ _ _ _ _ _ us hl=>onl6 (λ_ _ _ _ _ _=>rfl) us hl
theorem zbab (T:Tx K mg):Binds K T.zte.d zbm []:=T.zte.F.binds λ_ _ _ _ _ _ us hl=>onl1 (λ_=>rfl) us hl
theorem zgy (T:Tx K mg):Binds K T.zwd.d zqk []:=T.zwd.F.binds λ_ _ _ _ _ _ us hl=>onl1 (λ_=>rfl) us hl
theorem zaab (T:Tx K mg):Binds K T.zse.d zam []:=T.zse.F.binds λ_ _ _ _ _ _ us hl=>onl1 (λ_=>rfl) us hl
theorem zyz (T:Tx K mg):Binds K T.zre.d zxl []:=T.zre.F.binds λ_ _ _ _ _ _ us hl=>onl1 (λ_=>rfl) us hl
theorem zql (T:Tx K mg):Binds K T.zbc.d zbf []:=T.zbc.F.binds λ_ _ _ _ _ _ us hl=>onl2 (λ_ _=>rfl) us hl
theorem zxz (T:Tx K mg):Binds K T.zqe.d zwl []:=T.zqe.F.binds λ_ _ _ _ _ _ us hl=>onl1 (λ_=>rfl) us hl
theorem zts (T:Tx K mg):Binds K T.zgd.d zri []:=T.zgd.F.binds λ_ _ _ _ _ _ us hl=>onl1 (λ_=>rfl) us hl
theorem zko (T:Tx K mg):Binds K T.znc.d zzf []:=T.znc.F.binds λ_ _ _ _ _ _ us hl=>onl2 (λ_ _=>rfl) us hl
theorem zzdb (T:Tx K mg):Binds K T.zuf.d zmo []:=T.zuf.F.binds λ_ _ _ _ _ _ us hl=>onl1 (λ_=>rfl) us hl
theorem zwr (T:Tx K mg):Binds K T.znd.d zyl []:=T.znd.F.binds λ_ _ _ _ _ _ us hl=>onl1 (λ_=>rfl) us hl
theorem zkv (T:Tx K mg):Binds K T.zod.d zlj []:=T.zod.F.binds λ_ _ _ _ _ _ us hl=>onl2 (λ_ _=>rfl) us hl
theorem zfab (T:Tx K mg):Binds K T.zxe.d zim []:=T.zxe.F.binds λ_ _ _ _ _ _ us hl=>onl2 (λ_ _=>rfl) us hl
theorem zra (T:Tx K mg):Binds K T.zda.d zfm []:=T.zda.F.binds λ_ _ _ _ _ _ us hl=>onl2 (λ_ _=>rfl) us hl
theorem zly (T:Tx K mg):Binds K T.zzd.d ztk []:=T.zzd.F.binds λ_ _ _ _ _ _ us hl=>onl1 (λ_=>rfl) us hl
theorem zkj (T:Tx K mg):Binds K T.zec.d zoj []:=T.zec.F.binds λ_ _ _ _ _ _ us hl=>onl1 (λ_=>rfl) us hl
theorem zjj (T:Tx K mg):Binds K T.zlb.d zag []:=T.zlb.F.binds λ_ _ _ _ _ _ us hl=>onl3 (λ_ _ _=>rfl) us hl
theorem znk (T:Tx K mg):Binds K T.zkb.d zif []:=T.zkb.F.binds λ_ _ _ _ _ _ us hl=>onl1 (λ_=>rfl) us hl
theorem ztl (T:Tx K mg):Binds K T.zrb.d zbg []:=T.zrb.F.binds λ_ _ _ _ _ _ us hl=>onl5 (λ_ _ _ _ _=>rfl) us hl
theorem zdab (T:Tx K mg):Binds K T.zve.d zdm []:=T.zve.F.binds λ_ _ _ _ _ _ us hl=>onl2 (λ_ _=>rfl) us hl
theorem zky (T:Tx K mg):Binds K T.zyd.d zsk []:=T.zyd.F.binds λ_ _ _ _ _ _ us hl=>onl3 (λ_ _ _=>rfl) us hl
theorem zeab (T:Tx K mg):Binds K T.zwe.d zem []:=T.zwe.F.binds λ_ _ _ _ _ _ us hl=>onl2 (λ_ _=>rfl) us hl
theorem zjy (T:Tx K mg):Binds K T.zxd.d zrk []:=T.zxd.F.binds λ_ _ _ _ _ _ us hl=>onl3 (λ_ _ _=>rfl) us hl
theorem zmy (T:Tx K mg):Binds K T.zae.d zuk []:=T.zae.F.binds λ_ _ _ _ _ _ us hl=>onl3 (λ_ _ _=>rfl) us hl
theorem zyp (T:Tx K mg):Binds K T.zqc.d zwg []:=T.zqc.F.binds λ_ _ _ _ _ _ us hl=>onl4 (λ_ _ _ _=>rfl) us hl
theorem zmv (T:Tx K mg):Binds K T.zqd.d znj []:=T.zqd.F.binds λ_ _ _ _ _ _ us hl=>onl2 (λ_ _=>rfl) us hl
theorem zzp (T:Tx K mg):Binds K T.zrc.d zxg []:=T.zrc.F.binds λ_ _ _ _ _ _ us hl=>onl4 (λ_ _ _ _=>rfl) us hl
theorem zsl (T:Tx K mg):Binds K T.zyc.d zgm []:=T.zyc.F.binds λ_ _ _ _ _ _ us hl=>onl2 (λ_ _=>rfl) us hl
theorem zkq (T:Tx K mg)(kb:K.In base):yto base T.zul zks:=KTD.text_of_look (λb o q=>kb b o q) T.ztu
abbrev LL:Str:="abcdefghijklmnopqrstuvwxyz"
abbrev FF:Str:="0123456789"
def inS (c:Nat)(u:Str):Bool:=!(ync u ⟨#[c]⟩ 0 u.length 1).isEmpty
def allIn (t u:Str):Bool:=(t.cps.toList.map λc=>inS c u).all id
def zjt (t:Str):Bool:=decide (V.str t=V.str "0")||(!decide (V.str ⟨#[t.cps.getD 0 0]⟩=V.str "0"))
def short (t:Str)(n:Int):Bool:=decide ((1:Int)≤((t.length:Nat):Int))&&decide (((t.length:Nat):Int)≤n)
def isName (t:Str):Bool:=short t 8&&allIn t LL
def isWhole (t:Str)(n:Int):Bool:=short t n&&(allIn t FF&&zjt t)
def isNumber (t:Str):Bool:=isWhole t 3
theorem small {n:Nat}(h:n≤1000):n≤yta:=yde (zpc h)
theorem zsdb {t:Str}(h:(1:Int)≤((t.length:Nat):Int)):atI t.cps.toList 0=some (t.cps.getD 0 0):=by
 have hl:0<t.cps.size:=by
  have e:t.length=t.cps.size:=rfl;omega
 have e:t.cps.toList[0]?=some (t.cps.getD 0 0):=by
  rw[ycc,yhg,yjb hl];rfl
 exact zia (j:=0) e
theorem zon {α:Type}{xs:List α}{i:Int}(h0:0≤i)(h:i<(xs.length:Int)):∃v,atI xs i=some v∧v∈xs:=by
 have hk:i.toNat<xs.length:=by omega
 have e:xs[i.toNat]?=some xs[i.toNat]:=ywa hk;have q:=zia e;rw[show ((i.toNat:Nat):Int)=i by omega] at q;exact⟨_,q,yob e⟩
theorem zdhb {ns:List Int}{i:Int}(h0:0≤i)(h:i<(ns.length:Int)):∃z,atI (ns.map V.int) i=some (.int z):=by
 obtain⟨v,hv,hm⟩:=zon (xs:=ns.map V.int) h0 (by rw[yda];exact h);obtain⟨z,_,rfl⟩:=ybb.mp hm;exact⟨z,hv⟩
def But (p:Addr)(H H':Hp):Prop:=∀b o,b≠p->H b=some o->H' b=some o
theorem But.refl (p:Addr)(H:Hp):But p H H:=λ_ _ _ h=>h
theorem But.trans {p:Addr}{H H1 H2:Hp}(a:But p H H1)(b:But p H1 H2):But p H H2:=λc o n h=>b c o n (a c o n h)
theorem But.laid {p q:Addr}{H:Hp}{o:HO}(h:H q=none):But p H (upd H q o):=λb u n e=>by rw[zva (zka e h)];exact e
theorem But.put {p:Addr}{H:Hp}{o:HO}:But p H (upd H p o):=λb u n e=>by rw[zva n];exact e
theorem But.same {p:Addr}{H H':Hp}(h:Same H H'):But p H H':=λb o _ e=>h b o e
theorem zbb {H:Hp}{p:Addr}(h:H p=none)(o:HO):Same H (upd H p o):=λb u q=>by rw[zva (zka q h)];exact q
def SqF (K:yba)(H:Hp)(a:Addr)(xs:List V):Prop :=
 (∃o,H a=some (.frz o (.lst xs)))∨Ex3 λ(o:Obj) (its:Array Value) (n:Nat)=>K.lookup a=some o∧o.cls = .type "list" ∧ o.dict=none∧o.data = .seq its n∧its.size≤yta∧Vals xs its.toList
theorem SqF.sq {K:yba}{H:Hp}{a:Addr}{xs:List V}(h:SqF K H a xs):SqL K H a xs:=by
 rcases h with⟨o,h⟩|h
 ·exact .inl (.inr ⟨o,h⟩)
 ·exact .inr h
theorem SqF.of {K:yba}{H:Hp}{a:Addr}{xs:List V}(O:Only H)(h:SqL K H a xs):SqF K H a xs:=by
 rcases h with (h|⟨o,h⟩)|h
 ·rcases O a with z|⟨o,ys,z⟩
  ·rw[z] at h;cases h
  ·rw[z] at h;cases h
 ·exact .inl ⟨o,h⟩
 ·exact .inr h
theorem SqF.keep {K:yba}{H H':Hp}{a:Addr}{xs:List V}(h:SqF K H a xs)(k:∀o u,H a=some (.frz o u)->H' a=some (.frz o u)):SqF K H' a xs:=by
 rcases h with⟨o,h⟩|h
 ·exact .inl ⟨o,k _ _ h⟩
 ·exact .inr h
structure Tk (K:yba)(H:Hp)(p:Addr)(k:Int):Prop where
 ex:Ex2 λa (ns:List Int)=>H p=some (.lst [.ref a,.int k])∧SqF K H a (ns.map V.int)∧ns.length≤63
 lo:0≤k
theorem Tk.ne {K:yba}{H:Hp}{p q:Addr}{k:Int}(T:Tk K H p k)(h:H q=none):p≠q:=by
 obtain⟨⟨a,ns,h1,_⟩,_⟩:=T;exact zka h1 h
theorem Tk.same {K:yba}{H H':Hp}{p:Addr}{k:Int}(T:Tk K H p k)(h:Same H H'):Tk K H' p k:=by
 obtain⟨⟨a,ns,h1,h2,h3⟩,lo⟩:=T;exact⟨⟨a,ns,h p _ h1,h2.keep λo u z=>h _ _ z,h3⟩,lo⟩
theorem Tk.other {K:yba}{H:Hp}{p q:Addr}{k:Int}{us vs:List V}(T:Tk K H p k)(hq:H q=some (.lst us))(n:p≠q):Tk K (upd H q (.lst vs)) p k:=by
 obtain⟨⟨a,ns,h1,h2,h3⟩,lo⟩:=T;exact⟨⟨a,ns,by rw[zva n];exact h1,h2.keep λo u z=>by rw[zva (zel z hq (by intro y;cases y))];exact z,h3⟩,lo⟩
theorem Tk.begin {K:yba}{H:Hp}{p a:Addr}{ns:List Int}(hp:H p=none)(hS:SqF K H a (ns.map V.int))(h63:ns.length≤63):Tk K (upd H p (.lst [.ref a,.int 0])) p 0 :=
 ⟨⟨a,ns,zga,hS.keep λo u z=>by rw[zva (zka z hp)];exact z,h63⟩,ycp 0⟩
def zaob (K:yba):Sp:=λvs H Q _=>Ex3 λp (k m:Int)=>vs=[.ref p,.int m]∧Tk K H p k∧k≤1000000∧0<m∧∀(r:Int) H',0≤r->r<m->But p H H'->Tk K H' p (k+1)->Q (.int r) H'
def zcob:Sp:=λvs H Q _=>∃t:Str,vs=[.str t]∧t.length≤1000∧∀H',Same H H'->Q (.bl (isName t)) H'
def zrhb:Sp:=λvs H Q _=>∃t:Str,vs=[.str t]∧t.length≤1000∧∀H',Same H H'->Q (.bl (isNumber t)) H'
def zzkb:Sp:=λvs H Q _=>Ex2 λ(t:Str) (n:Int)=>vs=[.str t,.int n]∧t.length≤1000∧∀H',Same H H'->Q (.bl (isWhole t n)) H'
def zshb (K:yba):Sp:=λvs H Q _=>Ex2 λa (ns:List Int)=>vs=[.ref a]∧SqF K H a (ns.map V.int)∧ns.length≤63∧∀H',Q (.bl true) H'
abbrev zlob:R2:=λx y H Q=>Ex2 λi j=>x = .str i∧y = .str j∧Q (.bl (!(ync j i 0 j.length 1).isEmpty)) H
theorem zst {t L:Str}{σ:L2.St}{H:Hp}{Q:VK}(hz:t.length≤yta)(q:∀p,H p=none->Q (.ref p) (upd H p (.lst ((t.cps.toList.map λc=>inS c L).map V.bl)))) :
  zdbb (Its t) H (zljb 0) zsnb (tOp zlob (tVar 0) (tC (.str L))) 1 [] σ Q:=by
 refine zsjb (λi ys H'=>H'=H∧i≤t.cps.size∧ys=((t.cps.toList.take i).map λc=>inS c L).map V.bl) ⟨rfl,ylb _,rfl⟩ ?_ ?_ ?_
 ·rintro i ys H' ⟨_,hi,rfl⟩;rw[yda,yda,ydb];have e:t.length=t.cps.toList.length:=by simp[yfp]
  omega
 ·rintro i c ys H' hc ⟨rfl,hi,rfl⟩;refine⟨rfl,_,rfl,_,_,rfl,rfl,rfl,?_,?_⟩
  ·have hlt:i<t.cps.size:=(Array.getElem?_eq_some_iff.mp hc).1;exact hlt
  ·have e:t.cps.toList[i]?=some c:=by simpa using hc
   rw[ykb,e,yib,yib];rfl
 ·rintro ys H' ⟨rfl,_,rfl⟩ p hp;have q':=q p hp;rw[ysa (by simp)];exact q'
section
variable {P:ytb}{w:World}{K:yba}{mg:Str->Option Value}{base:Heap}{f:Addr}{fd:ype}
theorem zit (T:Tx K mg):FnOk P w K mg base CX0 2 T.zkf.f T.zkf.d zes zcob:=by
 refine T.zkf.ok zcdb ?_;rintro f c A o s H vs Q E hr ⟨t,rfl,hz,q⟩ X;have hz':=small hz;refine⟨_,  (zea (zua (zrbb (znib zoib zoib zfa (zib zmk rfl T.zig ymb (zaa (pv 0) zca)) zfa) (zkp (zib (zjv rfl) rfl T.zpcb boot_all (zaa (zqf (own:=["sign"]) (cap:=[]) rfl (zkc.chk rfl rfl) .nil (zdkb (pv 0)) (λ_ _ _ _=>(zza (i:=0) (show ycd (["sign"]:List Str) by decide +kernel) rfl (.inl rfl))) (λ_ _ _ _=>zxn) (λ_ _ _ _=>by exact (zme zsw (pv 0) (zpf (v:=.str zcs) rfl T.zgn ⟨_,rfl⟩) rfl))) zca)))))),?_⟩;refine⟨_,rfl,t,rfl,hz',_,_,rfl,rfl,_,rfl,?_⟩;refine ite2 (λc1=>?_) (λc1=>?_)
 ·refine⟨_,_,rfl,rfl,_,rfl,?_⟩;refine ite2 (λc2=>?_) (λc2=>?_)
  ·refine⟨_,rfl,t,rfl,?_⟩;refine zst hz' λp hp=>?_;refine⟨p,_,rfl,SqL.of zga,?_⟩;have q':=q (upd H p (.lst ((t.cps.toList.map λc=>inS c LL).map V.bl))) (zbb hp _);have e:isName t=allIn t LL:=by
    unfold isName short;rw[c1,c2,yud,yud]
   rw[e] at q';exact q'
  ·have q':=q H (Same.refl H);have e:isName t=false:=by
    unfold isName short;rw[yjd.mpr c2,yxg,yed]
   rw[e] at q';exact q'
 ·refine⟨_,rfl,iteF ?_⟩;have q':=q H (Same.refl H);have e:isName t=false:=by
   unfold isName short;rw[yjd.mpr c1,yed,yed]
  rw[e] at q';exact q'
theorem zjz (T:Tx K mg):FnOk P w K mg base CX0 1 T.zvf.f T.zvf.d zno zzkb:=by
 refine T.zvf.ok zdz ?_;rintro f c A o s H vs Q E hr ⟨t,n,rfl,hz,q⟩ X;have hz':=small hz;refine⟨_,  (zba (zxb (PW.pt (zaib (zrj (zcib zoib zoib zfa (zib zmk rfl T.zig ymb (zaa (pv 0) zca)) (pv 1))) (zpbb (zrj (zih (zib (zjv rfl) rfl T.zpcb boot_all (zaa (zqf (own:=["sign"]) (cap:=[]) rfl (zkc.chk rfl rfl) .nil (zdkb (pv 0)) (λ_ _ _ _=>(zza (i:=0) (show ycd (["sign"]:List Str) by decide +kernel) rfl (.inl rfl))) (λ_ _ _ _=>zxn) (λ_ _ _ _=>by exact (zme zsw (pv 0) (zpf (v:=.str zds) rfl T.zin ⟨_,rfl⟩) rfl))) zca)))))))
   (zea (zua zjr))
   zsa)
  (zea (zua (zmib (zme zsc (pv 0) zma (zya _)) (zkp (zme zuqb (znb zbgb (pv 0) zfa (λ_ _=>rfl)) zma (zya _))))))),?_⟩
 refine⟨_,rfl,t,rfl,hz',_,_,rfl,rfl,_,rfl,?_⟩;refine ite2 (λc1=>?_) (λc1=>?_)
 ·refine⟨_,rfl,_,_,rfl,rfl,_,rfl,?_⟩;refine ite2 (λc2=>?_) (λc2=>?_)
  ·refine iteT ?_;have q':=q H (Same.refl H);have c2':decide (((t.length:Nat):Int)≤n)=false:=(by simpa using c2);have e:isWhole t n=false:=by
    unfold isWhole short;rw[c2',yxg,yed]
   rw[e] at q';exact q'
  ·have c2':decide (((t.length:Nat):Int)≤n)=true:=by simpa using c2
   refine⟨_,rfl,t,rfl,?_⟩;refine zst hz' λp hp=>?_;refine⟨p,_,rfl,SqL.of zga,_,rfl,?_⟩;have S1:=zbb hp (.lst ((t.cps.toList.map λc=>inS c FF).map V.bl));have q':=q _ S1;have e0:isWhole t n=(allIn t FF&&zjt t):=by
    unfold isWhole short;rw[c1,c2',yud,yud]
   rw[e0] at q';refine ite2 (λc3=>?_) (λc3=>?_)
   ·have c3':allIn t FF=false:=by simpa [allIn] using c3
    rw[c3',yed] at q';exact q'
   ·have c3':allIn t FF=true:=by simpa [allIn] using c3
    rw[c3',yud] at q';refine⟨_,rfl,rfl,_,rfl,?_⟩;refine ite2 (λc4=>?_) (λc4=>?_)
    ·have e:zjt t=true:=by
      unfold zjt;rw[c4,yfo]
     rw[e] at q';exact q'
    ·refine⟨_,rfl,t,_,_,rfl,rfl,hz',zsdb (of_decide_eq_true c1),rfl,?_⟩;have e:zjt t=(!decide (V.str ⟨#[t.cps.getD 0 0]⟩=V.str "0")):=by
      unfold zjt;rw[yjd.mpr c4,ymn]
     rw[e] at q';exact q'
 ·refine⟨_,rfl,iteT (iteT ?_)⟩;have q':=q H (Same.refl H);have e:isWhole t n=false:=by
   unfold isWhole short;rw[yjd.mpr c1,yed,yed]
  rw[e] at q';exact q'
theorem zyw (T:Tx K mg):FnOk P w K mg base CX0 2 T.zue.f T.zue.d zcm zrhb:=by
 refine T.zue.ok zkw ?_;rintro f c A o s H vs Q E hr ⟨t,rfl,hz,q⟩ X;refine⟨_,  (zea (zua (zja (zjz T) hr rfl T.zvf.m T.zvf.F.kp (zaeb T) .nil zta (zaa (pv 0) (zaa zfa zca))))),?_⟩;exact⟨_,rfl,t,3,rfl,hz,q⟩
end
section
seal PySem.wpAny
theorem zwpb:∀c:Nat,c<123->97≤c->inS c LL=true:=by decide +kernel
theorem zlr {n:Str}(h:zie n):isName n=true:=by
 unfold isName short allIn;obtain⟨h1,h2,h3⟩:=h;rw[decide_eq_true (by omega),decide_eq_true (by omega),yud,yud,yue];intro b hb;obtain⟨c,hc,rfl⟩:=ybb.mp hb;exact zwpb c (by have:=h3 c hc;omega) (h3 c hc).1
theorem zdx:∀i:Nat,i<1000->isNumber (toString (i:Int):Str)=true:=by decide +kernel
theorem zimb:∀i:Nat,i<1000->PySem.intText? (toString (i:Int):Str)=some (i:Int):=by decide +kernel
theorem zal {f:Str}{v:V}{r:List (Str×V)}:yqd f ((f,v)::r)=some v:=by rw[yzd,beq_self_eq_true]
theorem zld {f g:Str}{v:V}{r:List (Str×V)}(h:¬ f=g):yqd f ((g,v)::r)=yqd f r:=by
 have e:(f==g)=false:=by simpa using h
 rw[yzd,e]
theorem zwn {f:Str}{v:V}:putF f v []=[(f,v)]:=rfl
theorem zrlb {f:Str}{v u:V}{r:List (Str×V)}:putF f v ((f,u)::r)=(f,v)::r:=by
 show (if f=f then (f,v)::r else (f,u)::putF f v r)=_
 rw[if_pos rfl]
theorem zcj {f g:Str}{v u:V}{r:List (Str×V)}(h:¬ g=f):putF f v ((g,u)::r)=(g,u)::putF f v r:=by
 show (if g=f then (g,v)::r else (g,u)::putF f v r)=_
 rw[if_neg h]
def wfs (l:Addr)(k:Int):List (Str×V):=[("words",.ref l),("place",.int k)]
theorem zapb:¬ (("words":Str) = "place"):=by decide +kernel
theorem zwqb:¬ (("place":Str) = "words"):=by decide +kernel
theorem ziq (l:Addr)(k:Int):(wfs l k).lookup ("words":Str)=some (.ref l):=zal
theorem zom (l:Addr)(k:Int):(wfs l k).lookup ("place":Str)=some (.int k):=(zld zwqb).trans zal
theorem zrkb (l:Addr)(k j:Int):putF "place" (.int j) (wfs l k)=wfs l j:=(zcj zapb).trans (congrArg _ zrlb)
theorem zjhb (l:Addr)(j:Int):putF "place" (.int j) (putF "words" (.ref l) [])=wfs l j:=(zcj zapb).trans rfl
theorem zdc (l:Addr)(k:Int){m:Str}(h1:¬ m = "words")(h2:¬ m = "place"):(wfs l k).lookup m=none:=(zld h1).trans ((zld h2).trans rfl)
def WAt (C:Addr)(H:Hp)(p:Addr)(ws:List Str)(k:Nat):Prop:=Ex2 λdx l=>H p=some (.ins C dx (wfs l (k:Int)))∧H l=some (.lst (ws.map V.str))
theorem WAt.at {C:Addr}{H H':Hp}{p:Addr}{ws:List Str}{k:Nat}(h:WAt C H p ws k)(s:Same H H'):WAt C H' p ws k:=by
 obtain⟨dx,l,h1,h2⟩:=h;exact⟨dx,l,s _ _ h1,s _ _ h2⟩
theorem WAt.go {C:Addr}{H:Hp}{p dx l:Addr}{ws:List Str}{k j:Nat}(h1:H p=some (.ins C dx (wfs l (k:Int))))(h2:H l=some (.lst (ws.map V.str))):WAt C (upd H p (.ins C dx (wfs l (j:Int)))) p ws j:=by
 have n:l≠p:=zel h2 h1 (by intro z;cases z);exact⟨dx,l,zga,by rw[zva n];exact h2⟩
theorem But.of_same {p:Addr}{H H1 H2:Hp}(a:But p H H1)(b:Same H1 H2):But p H H2:=a.trans (But.same b)
theorem zfqb {ws:List Str}{k:Nat}{u:Str}(h:ws[k]?=some u):atI (ws.map V.str) (k:Int)=some (.str u):=zia (by rw[yvb,h];rfl)
def zykb (C:Addr):Sp:=λvs H Q _=>Ex3 λp dx (t:Str)=>vs=[.ref p,.str t]∧H p=some (.ins C dx [])∧t.length≤1000∧∀H',WAt C H' p (yme t " ") 0->But p H H'->Q .non H'
def zalb (C:Addr):Sp:=λvs H Q _=>Ex4 λp (ws:List Str) (k:Nat) (u:Str)=>vs=[.ref p]∧WAt C H p ws k∧ws[k]?=some u∧∀H',WAt C H' p ws (k+1)->But p H H'->Q (.str u) H'
def zblb (C:Addr):Sp:=λvs H Q _=>Ex4 λp (ws:List Str) (k:Nat) (u:Str)=>vs=[.ref p]∧WAt C H p ws k∧ws[k]?=some u∧zie u∧∀H',WAt C H' p ws (k+1)->But p H H'->Q (.str u) H'
def zqeb (C:Addr):Sp:=λvs H Q _=>Ex4 λp (ws:List Str) (k i:Nat)=>vs=[.ref p]∧WAt C H p ws k∧ws[k]?=some (toString (i:Int):Str)∧i<1000∧∀H',WAt C H' p ws (k+1)->But p H H'->Q (.int i) H'
def zreb (C:Addr):Sp:=λvs H Q _=>Ex2 λp (ws:List Str)=>vs=[.ref p]∧WAt C H p ws ws.length∧Q .non H
theorem zubb (T:Tx K mg):FnOk P w K mg base CX0 2 T.zgc.f T.zgc.d zyg (zykb T.zmb):=by
 refine T.zgc.ok zun ?_;rintro f c A o s H vs Q E hr ⟨p,dx,t,rfl,hp,ht,q⟩ X;refine⟨_,  (zba (zil (pv 0) (zrh ydd ysh yth zpu (pv 1) (zaa zma zca)) rfl)
  (zea (zil (pv 0) zfa rfl))),?_⟩
 refine⟨_,rfl,rfl,t,_,rfl,rfl,(by decide +kernel),(yxa (yii ht 2) (by decide)),λl hl=>?_⟩;have npl:p≠l:=zka hp hl;refine⟨_,rfl,p,_,dx,_,rfl,(by rw[zva npl];exact hp),T.zeb,T.zsd,(by show 0<1000;decide),?_⟩;refine⟨_,rfl,p,_,dx,_,rfl,zga,T.zeb,T.zed,(by show 1<1000;decide),?_⟩;refine q _ ⟨dx,l,?_,?_⟩ ?_
 ·rw[zga,zjhb];rfl
 ·rw[zva npl.symm,zva npl.symm,zga]
 ·exact (But.laid hl).trans (But.put.trans But.put)
theorem zrf (T:Tx K mg):FnOk P w K mg base CX0 2 T.zoc.f T.zoc.d zvk (zalb T.zmb):=by
 refine T.zoc.ok zdu ?_;rintro f c A o s H vs Q E hr ⟨p,ws,k,u,rfl,⟨dx,l,h1,h2⟩,hu,q⟩ X;refine⟨_,  (zba (zxb (zoa zsc (zff (pv 0) rfl) (zib zgb rfl T.zig ymb (zaa (zff (pv 0) rfl) zca)) (zya _))
   (zea zof)
   zsa)
  (zba (zjfb (pv 0) zfa zvpb)
  (zea (zua (znb zic (zff (pv 0) rfl) (zfc zek (zff (pv 0) rfl) zfa) (λ_ _=>rfl)))))),?_⟩
 have hk:k<ws.length:=(yla.mp hu).1;have n:l≠p:=zel h2 h1 (by intro z;cases z);refine⟨_,rfl,p,_,dx,_,_,rfl,h1,T.zeb,T.zed,zom _ _,_,rfl,p,_,dx,_,_,rfl,h1,T.zeb,T.zsd,ziq _ _,l,_,rfl,.inl (SqL.of h2),rfl,_,rfl,?_⟩;refine ite2 (λc=>?_) (λc=>?_)
 ·exfalso;have c':=of_decide_eq_true c;injection c' with c'
  rw[yda] at c';omega
 ·refine⟨_,rfl,p,_,dx,_,_,rfl,h1,T.zeb,T.zed,zom _ _,_,_,rfl,rfl,dx,_,h1,(by show 2<1000;decide),?_⟩;rw[zrkb];refine⟨_,rfl,p,_,dx,_,_,rfl,zga,T.zeb,T.zsd,ziq _ _,_,rfl,p,_,dx,_,_,rfl,zga,T.zeb,T.zed,zom _ _,_,_,rfl,rfl,l,_,_,_,rfl,rfl,SqL.of (by rw[zva n];exact h2),(by rw[Int.add_sub_cancel];exact zfqb hu),?_⟩;exact q _ (WAt.go (j:=k+1) h1 h2) But.put
theorem zik (T:Tx K mg):FnOk P w K mg base CX0 2 T.zuc.f T.zuc.d zsi (zreb T.zmb):=by
 refine T.zuc.ok zoq ?_;rintro f c A o s H vs Q E hr ⟨p,ws,rfl,⟨dx,l,h1,h2⟩,q⟩ X;refine⟨_,  (zea (zxb (zoa ztob (zff (pv 0) rfl) (zib zgb rfl T.zig ymb (zaa (zff (pv 0) rfl) zca)) (zya _))
   (zea zof)
   zsa)),?_⟩
 refine⟨_,rfl,p,_,dx,_,_,rfl,h1,T.zeb,T.zed,zom _ _,_,rfl,p,_,dx,_,_,rfl,h1,T.zeb,T.zsd,ziq _ _,l,_,rfl,.inl (SqL.of h2),_,_,rfl,rfl,_,rfl,?_⟩;refine ite2 (λc=>?_) (λc=>?_)
 ·exfalso;have c':=of_decide_eq_true c;rw[yda] at c';omega
 ·exact q
theorem zud (T:Tx K mg):FnOk P w K mg base CX0 3 T.zpb.f T.zpb.d zcg (zblb T.zmb):=by
 refine T.zpb.ok zxh ?_;rintro f c A o s H vs Q E hr ⟨p,ws,k,u,rfl,W,hu,hn,q⟩ X;refine⟨_,  (zba (zqa (i:=1) zxh.nd rfl (.inl rfl) (zbd (pv 0) T.zeb T.zoc.M (zrf T) hr (zrg T) .nil zta))
  (zba (zxb (zrj (zih (zja (zit T) hr rfl T.zkf.m T.zkf.F.kp (ziy T) .nil zta (zaa (pv 1) zca))))
   (zea zof)
   zsa)
  (zea (zua (pv 1))))),?_⟩
 obtain⟨dx,l,h1,h2⟩:=id W;refine⟨_,rfl,p,dx,_,rfl,h1,zdc _ _ (by decide +kernel) (by decide +kernel),p,ws,k,u,rfl,W,hu,λH1 W1 B1=>?_⟩;refine⟨_,rfl,u,rfl,(yxa hn.2.1 (by decide)),λH2 S2=>?_⟩;rw[zlr hn];refine⟨_,rfl,iteF ?_⟩;exact⟨_,rfl,q H2 (W1.at S2) (B1.of_same S2)⟩
theorem zyb (T:Tx K mg):FnOk P w K mg base CX0 3 T.zwa.f T.zwa.d zdf (zqeb T.zmb):=by
 refine T.zwa.ok zah ?_;rintro f c A o s H vs Q E hr ⟨p,ws,k,i,rfl,W,hu,hi,q⟩ X;refine⟨_,  (zba (zqa (i:=1) zah.nd rfl (.inl rfl) (zbd (pv 0) T.zeb T.zoc.M (zrf T) hr (zrg T) .nil zta))
  (zba (zxb (zrj (zih (zja (zyw T) hr rfl T.zue.m T.zue.F.kp (zcab T) .nil zta (zaa (pv 1) zca))))
   (zea zof)
   zsa)
  (zea (zua (zfe ziv rfl T.zeeb boot_int (zaa (pv 1) zca)))))),?_⟩
 obtain⟨dx,l,h1,h2⟩:=id W;refine⟨_,rfl,p,dx,_,rfl,h1,zdc _ _ (by decide +kernel) (by decide +kernel),p,ws,k,_,rfl,W,hu,λH1 W1 B1=>?_⟩;have hl:=zbo i hi;refine⟨_,rfl,_,rfl,(by omega),λH2 S2=>?_⟩;rw[zdx i hi];refine⟨_,rfl,iteF ?_⟩;exact⟨_,rfl,_,_,rfl,zimb i hi,(by omega),q H2 (W1.at S2) (B1.of_same S2)⟩
def valV:Wv->V
 | .non=>.non
 | .name n=>.str n
 | .num i=>.int i
def hfs (w:Str)(v:V)(t:Addr):List (Str×V):=[("word",.str w),("value",v),("parts",.ref t)]
theorem zvqb:¬ (("value":Str) = "word"):=by decide +kernel
theorem zyob:¬ (("word":Str) = "value"):=by decide +kernel
theorem zcpb:¬ (("parts":Str) = "word"):=by decide +kernel
theorem zzob:¬ (("word":Str) = "parts"):=by decide +kernel
theorem zdpb:¬ (("parts":Str) = "value"):=by decide +kernel
theorem zbpb:¬ (("value":Str) = "parts"):=by decide +kernel
theorem zjc (w:Str)(v:V)(t:Addr):(hfs w v t).lookup ("word":Str)=some (.str w):=zal
theorem zqx (w:Str)(v:V)(t:Addr):(hfs w v t).lookup ("value":Str)=some v:=(zld zvqb).trans zal
theorem zvi (w:Str)(v:V)(t:Addr):(hfs w v t).lookup ("parts":Str)=some (.ref t):=(zld zcpb).trans ((zld zdpb).trans zal)
theorem zijb (w:Str)(v:V)(t:Addr):putF "parts" (.ref t) (putF "value" v (putF "word" (.str w) []))=hfs w v t:=by
 rw[zwn,zcj zyob,zwn,zcj zzob,zcj zbpb,zwn];rfl
theorem zacb (w:Str)(v:V)(t:Addr){m:Str}(h1:¬ m = "word")(h2:¬ m = "value")(h3:¬ m = "parts"):(hfs w v t).lookup m=none:=(zld h1).trans ((zld h2).trans ((zld h3).trans rfl))
theorem zrmb {C D dx dy t l:Addr}{w:Str}{v:V}{k:Int}:HO.ins D dx (hfs w v t)≠HO.ins C dy (wfs l k):=by
 intro z;injection z with _ _ z
 exact absurd (congrArg yeg z) (by show ¬ (3=2);decide)
mutual
inductive IsW (D:Addr)(H:Hp):V->Wh->Prop where
 | mk {a dx t:Addr} {vs:List V} {w:Wh} (h1:H a=some (.ins D dx (hfs w.word (valV w.val) t))) (h2:H t=some (.tup vs)) (h3:IsWs D H vs w.parts):IsW D H (.ref a) w
inductive IsWs (D:Addr)(H:Hp):List V->List Wh->Prop where
 | nil:IsWs D H [] []
 | cons {v:V} {w:Wh} {vs:List V} {ws:List Wh}:IsW D H v w->IsWs D H vs ws->IsWs D H (v::vs) (w::ws)
end
mutual
theorem IsW.same {D:Addr}{H H':Hp}(s:Same H H'):∀{v:V} {w:Wh},IsW D H v w->IsW D H' v w
 | _,_,.mk h1 h2 h3=>.mk (s _ _ h1) (s _ _ h2) (h3.same s)
theorem IsWs.same {D:Addr}{H H':Hp}(s:Same H H'):∀{vs:List V} {ws:List Wh},IsWs D H vs ws->IsWs D H' vs ws
 | _,_,.nil=>.nil
 | _,_,.cons h t=>.cons (h.same s) (t.same s)
end
mutual
theorem IsW.but {D C p dy l:Addr}{k:Int}{H H':Hp}(b:But p H H')(hp:H p=some (.ins C dy (wfs l k))):∀{v:V} {w:Wh},IsW D H v w->IsW D H' v w
 | _,_,.mk h1 h2 h3=>.mk (b _ _ (zel h1 hp zrmb) h1) (b _ _ (zel h2 hp (by intro z;cases z)) h2) (h3.but b hp)
theorem IsWs.but {D C p dy l:Addr}{k:Int}{H H':Hp}(b:But p H H')(hp:H p=some (.ins C dy (wfs l k))):∀{vs:List V} {ws:List Wh},IsWs D H vs ws->IsWs D H' vs ws
 | _,_,.nil=>.nil
 | _,_,.cons h t=>.cons (h.but b hp) (t.but b hp)
end
theorem IsWs.length {D:Addr}{H:Hp}:∀{vs:List V} {ws:List Wh},IsWs D H vs ws->vs.length=ws.length
 | _,_,.nil=>rfl
 | _,_,.cons _ t=>by rw[yga,yga,t.length]
theorem IsWs.split {D:Addr}{H:Hp}:∀{xs:List Wh} {vs:List V} {ys:List Wh},IsWs D H vs (xs++ys)->IsWs D H (vs.take xs.length) xs∧IsWs D H (vs.drop xs.length) ys
 | [],vs,ys,h=>⟨by rw[ydj,List.take_zero];exact .nil,by rw[ydj,yzh];exact h⟩
 | x::xs,_,ys,.cons h t=>by
  obtain⟨a,b⟩:=IsWs.split (xs:=xs) t;exact⟨.cons h a,b⟩
theorem IsWs.get {D:Addr}{H:Hp}:∀{vs:List V} {ws:List Wh} {i:Nat} {v:V},IsWs D H vs ws->vs[i]?=some v->∃w,ws[i]?=some w∧IsW D H v w
 | _,_,_,_,.nil,e=>by simp at e
 | _,_,0,_,.cons h t,e=>by
  rw[ybe] at e;cases e;exact⟨_,rfl,h⟩
 | _,_,i+1,_,.cons h t,e=>by
  rw[yyb] at e;obtain⟨w,h1,h2⟩:=t.get e;exact⟨w,by rw[yyb];exact h1,h2⟩
theorem zvx (xs:List V)(n:Nat):cutV xs none (some (n:Int))=xs.take n:=by
 unfold cutV;rw[HT.zmbb,HT.zez,yzh,ygm]
 by_cases h:n≤xs.length
 ·rw[Nat.min_eq_left h]
 ·rw[Nat.min_eq_right (by omega),ysa (yma _),ysa (by omega)]
theorem zmn (xs:List V)(n:Nat):cutV xs (some (n:Int)) none=xs.drop n:=by
 unfold cutV;rw[HT.zmbb,HT.zez]
 by_cases h:n≤xs.length
 ·rw[Nat.min_eq_left h,ysa (by rw[ynd];exact yma _)]
 ·rw[Nat.min_eq_right (by omega),yoj,List.take_zero,List.drop_eq_nil_of_le (by omega)]
theorem zzy {w:Wh}(h:w.ok)(hs:w.size≤9):(yra " " w.words).length≤200:=by
 have a:=zbl " " w.words;have b:=w.zvv;have c:=zuo (l:=w.words.map (·.length)) (k:=8) (λx hx=>by
  obtain⟨u,hu,rfl⟩:=ybb.mp hx;exact (Wh.zihb h u hu).2.2)
 rw[yda] at c;have e:(" ":Str).length=1:=rfl;rw[e] at a;omega
theorem zxfb:∀i:Nat,i<1000->i.log2<1920:=by decide +kernel
theorem zsbb (w:Wh):ytm w.word zks=some (.flat (.int (w.parts.length:Nat))):=by
 cases w<;>rfl
theorem zxlb (w:Wh):KTD.inKeys w.word zks=true:=by
 cases w<;>rfl
def zynb (D:Addr):Sp:=λvs H Q _=>Ex5 λx dx t (u:Str) v=>vs=[.ref x,.str u,v,.ref t]∧H x=some (.ins D dx [])∧Q .non (upd H x (.ins D dx (hfs u v t)))
theorem zemb (T:Tx K mg):FnOk P w K mg base CX0 2 T.zzc.f T.zzc.d znh (zynb T.ztb):=by
 refine T.zzc.ok zup ?_;rintro f c A o s H vs Q E hr ⟨x,dx,t,u,v,rfl,hx,q⟩ X;refine⟨_,  (zba (zil (pv 0) (pv 1) rfl)
  (zba (zil (pv 0) (pv 2) rfl)
  (zea (zil (pv 0) (pv 3) rfl)))),?_⟩
 refine⟨_,rfl,_,rfl,x,_,dx,_,rfl,hx,T.zjb,T.zab,(by show 0<1000;decide),?_⟩;refine⟨_,rfl,_,rfl,x,_,dx,_,rfl,zga,T.zjb,T.zgf,(by show 1<1000;decide),?_⟩;refine⟨_,rfl,_,rfl,x,_,dx,_,rfl,zga,T.zjb,T.zvc,(by rw[zwn,zcj zyob,zwn];show 2<1000;decide),?_⟩;show Q .non _
 rw[zwj,zwj,zijb];exact q
def TkAt (H:Hp)(l:Addr)(fl:List (Str×Wv)):Prop:=∃as:List Addr,H l=some (.lst (as.map V.ref))∧as.length=fl.length∧∀(i:Nat) a (x:Str×Wv),as[i]?=some a->fl[i]?=some x->H a=some (.tup [.str x.1,valV x.2])
theorem TkAt.same {H H':Hp}{l:Addr}{fl:List (Str×Wv)}(h:TkAt H l fl)(s:Same H H'):TkAt H' l fl:=by
 obtain⟨as,h1,h2,h3⟩:=h;exact⟨as,s _ _ h1,h2,λi a x e1 e2=>s _ _ (h3 i a x e1 e2)⟩
theorem TkAt.but {H H':Hp}{l p C dy wl:Addr}{k:Int}{fl:List (Str×Wv)}(h:TkAt H l fl)(b:But p H H')(hp:H p=some (.ins C dy (wfs wl k))):TkAt H' l fl:=by
 obtain⟨as,h1,h2,h3⟩:=h;exact⟨as,b _ _ (zel h1 hp (by intro z;cases z)) h1,h2,λi a x e1 e2=>b _ _ (zel (h3 i a x e1 e2) hp (by intro z;cases z)) (h3 i a x e1 e2)⟩
theorem TkAt.snoc {H:Hp}{l a:Addr}{fl:List (Str×Wv)}{x:Str×Wv}(h:TkAt H l fl)(ha:H a=some (.tup [.str x.1,valV x.2])){as:List Addr}(hl:H l=some (.lst (as.map V.ref))):TkAt (upd H l (.lst (as.map V.ref++[.ref a]))) l (fl++[x]):=by
 obtain⟨as',h1,h2,h3⟩:=h;have e:as'=as:=by
  rw[h1] at hl;injection hl with hl
  injection hl with hl
  exact List.map_inj_right (λx y z=>by injection z) |>.mp hl
 subst e;refine⟨as'++[a],?_,?_,λi b y e1 e2=>?_⟩
 ·rw[zga,yib];rfl
 ·rw[yea,yea,h2];rfl
 ·by_cases hi:i<as'.length
  ·rw[ytd hi] at e1;rw[ytd (by omega)] at e2;have z:=h3 i b y e1 e2;rw[zva (zel z h1 (by intro z;cases z))];exact z
  ·have hi2:i<(as'++[a]).length:=(yla.mp e1).1;rw[yea,ywe] at hi2;have ei:i=as'.length:=(by omega);rw[yec (by omega),ei,yoj] at e1;rw[yec (by omega),ei,h2,yoj] at e2;cases e1;cases e2;rw[zva (zel ha h1 (by intro z;cases z))];exact ha
def zglb (D:Addr):Sp:=λvs H Q _=>Ex2 λl (y:Wh)=>vs=[.ref l]∧TkAt H l y.flat∧y.size≤9∧∀v H',Same H H'->IsW D H' v y->Q v H'
def spTV (C:Addr):Sp:=λvs H Q _=>Ex5 λp (ws rest:List Str) (k:Nat) (y:Wh)=>vs=[.ref p,.str y.word]∧WAt C H p ws k∧y.ok∧ws.drop k=y.val.words++rest∧∀H',WAt C H' p ws (k+y.val.words.length)->But p H H'->Q (valV y.val) H'
def spTW (C D:Addr):Sp:=λvs H Q _=>Ex5 λp (ws rest:List Str) (k:Nat) (y:Wh)=>vs=[.ref p]∧WAt C H p ws k∧y.ok∧y.size≤9∧ws.drop k=y.words++rest∧∀v H',WAt C H' p ws (k+y.words.length)->But p H H'->IsW D H' v y->Q v H'
theorem zsb {ws rest:List Str}{k:Nat}{u:Str}(h:ws.drop k=u::rest):ws[k]?=some u∧ws.drop (k+1)=rest:=by
 constructor
 ·have e:(ws.drop k)[0]?=some u:=by rw[h];rfl
  rw[yxe] at e
  simpa using e
 ·rw[← yai,h];rfl
theorem ziu (T:Tx K mg):FnOk P w K mg base CX0 4 T.zvd.f T.zvd.d zpk (spTV T.zmb):=by
 refine T.zvd.ok zcu ?_;rintro f c A o s H vs Q E hr ⟨p,ws,rest,k,y,rfl,W,ok,hd,q⟩ X;refine⟨_,  (zba (zxb (zoa zsc (pv 1) zma (zya _))
   (zea (zua (zbd (pv 0) T.zeb T.zpb.M (zud T) hr (zke T) .nil zta)))
   zsa)
  (zba (zxb (zoa zsc (pv 1) zma (zya _))
   (zea (zua (zbd (pv 0) T.zeb T.zwa.M (zyb T) hr (zcc T) .nil zta)))
   zsa)
  (zea (zua zan)))),?_⟩
 obtain⟨dx,l,h1,h2⟩:=id W;refine⟨_,rfl,rfl,_,rfl,?_⟩;cases y with
 | mark n =>
  refine iteT ?_;refine⟨_,rfl,p,dx,_,rfl,h1,zdc _ _ (by decide +kernel) (by decide +kernel),p,ws,k,n,rfl,W,(zsb hd).1,ok,λH1 W1 B1=>?_⟩;exact q H1 W1 B1
 | force i =>
  refine iteF ?_;refine⟨_,rfl,rfl,_,rfl,iteT ?_⟩;refine⟨_,rfl,p,dx,_,rfl,h1,zdc _ _ (by decide +kernel) (by decide +kernel),p,ws,k,i,rfl,W,(zsb hd).1,ok,λH1 W1 B1=>?_⟩;exact q H1 W1 B1
 | _=>exact iteF ⟨_,rfl,rfl,_,rfl,iteF (q H W (But.refl p H))⟩
theorem zqib (T:Tx K mg)(kb:K.In base):FnOk P w K mg base CX0 4 T.zkl.f T.zkl.d zlab (zglb T.ztb):=by
 refine T.zkl.ok zyk ?_;rintro f c A o s H vs Q E hr ⟨l,y,rfl,⟨as,h1,h2,h3⟩,hs,q⟩ X;refine⟨_,  (zba (zqa (i:=1) zyk.nd rfl (.inl rfl) (zcd zca))
  (zba (zzh ygc rfl (zfz rfl T.zxk (zaa (pv 0) zca)) (zjp (n:=2) rfl (zob (zza (i:=2) zyk.nd rfl (.inl rfl)) (zob (zza (i:=3) zyk.nd rfl (.inl rfl)) zej)))
   (zba (zqa (i:=4) zyk.nd rfl (.inl rfl) (znb (zkkb (zkq T kb)) (zpf (v:=.ref T.zul) rfl T.zgo rfl) (pv 2) (λ_ _=>rfl)))
   (zea (zqa (i:=1) zyk.nd rfl (.inl rfl) (zfc zgt (zcd (zaa (zgu T.zzc.M (zemb T) hr rfl T.zfkb (zxr T) .nil zta (zaa (pv 2) (zaa (pv 3) (zaa (zfe zch rfl T.zxi ypk (zaa (zai zmq (pv 1) zdk (zck (pv 4))) zca)) zca)))) zca)) (zai zmq (pv 1) (zck (pv 4)) zdk))))))
  (zea (zua (znb zic (pv 1) zfa (λ_ _=>rfl)))))),?_⟩
 refine⟨sz0,λw0 hw0=>?_⟩;have S0:Same H (upd H w0 (.lst [])):=zbb hw0 _;have fl:=y.zpe;have len:(as.map V.ref).length=y.size:=by rw[yda,h2,fl]
 refine⟨_,rfl,l,as.map V.ref,rfl,SqL.of (S0 _ _ h1),?_⟩;refine zvmb (xs:=as.map V.ref) (λi σ H'=>Ex5 λwl vs o2 o3 o4=>σ=[some (.ref l),some (.ref wl),o2,o3,o4]∧Same H H'∧H' wl=some (.lst vs)∧IsWs T.ztb H' vs (pend y (y.size-i))) ⟨w0,[],_,_,_,rfl,S0,zga,by rw[ygm,zfu];exact .nil⟩ (λi σ H' _ ⟨_,_,_,_,_,_,S',_⟩=>SqL.of (S' _ _ h1)) ?_ ?_
 ·rintro i x σ H' hi hx ⟨wl,vs,o2,o3,o4,rfl,S1,e1,W1⟩;rw[len] at hi hx;have hj:y.size-1-i<y.size:=by omega
  obtain⟨z,t,ez⟩:=zgz hj;have ef:=zqfb ez;rw[yvb] at hx;cases ea:as[y.size-1-i]? with
  | none =>
   rw[ea] at hx;cases hx
  | some a =>
  rw[ea] at hx;cases hx;have ha:=S1 _ _ (h3 _ _ _ ea ef);have ep:pend y (y.size-i)=z.parts++t:=by
   rw[show y.size-i=(y.size-1-i)+1 by omega];show step (pend y (y.size-1-i))=_
   rw[ez];rfl
  rw[ep] at W1;obtain⟨Wp,Wt⟩:=W1.split;have vl:=W1.length;rw[yea] at vl;have szp:=zgr y (y.size-i);have lez:(z.parts++t).length≤zrm (z.parts++t):=by
   have go:∀l:List Wh,l.length≤zrm l:=by
    intro l
    induction l with
    | nil=>exact ylb _
    | cons x r ih =>
     have e2:zrm (x::r)=x.size+zrm r:=(by simp[zrm]);have:=x.size_pos;rw[e2,yga];omega
   exact go _
  rw[ep] at szp;rw[yea] at lez;refine⟨a,_,rfl,SqT.of ha,rfl,_,_,rfl,_,_,rfl,rfl,?_⟩;refine⟨_,rfl,_,_,rfl,rfl,zsbb z,?_⟩;refine⟨_,rfl,_,rfl,_,rfl,_,rfl,_,rfl,wl,vs,rfl,SqL.of e1,λs1 hs1=>?_⟩;have S2:=zbb hs1 (.lst (cutV vs none (some ((z.parts.length:Nat):Int))));refine⟨s1,_,rfl,.inl ⟨SqL.of zga,λtp htp=>?_⟩⟩;have S3:=zbb htp (.tup (cutV vs none (some ((z.parts.length:Nat):Int))));intro x dx nx ndx nex;refine⟨x,dx,tp,z.word,valV z.val,rfl,zga,rfl,?_⟩;rw[zwj];have etp:=zka (b:=x) (zga (H:=upd H' s1 (.lst (cutV vs none (some ((z.parts.length:Nat):Int))))) (a:=tp) (o:=.tup (cutV vs none (some ((z.parts.length:Nat):Int))))) nx;have etd:=zka (b:=dx) (zga (H:=upd H' s1 (.lst (cutV vs none (some ((z.parts.length:Nat):Int))))) (a:=tp) (o:=.tup (cutV vs none (some ((z.parts.length:Nat):Int))))) ndx;generalize hH3:upd (upd H' s1 (.lst (cutV vs none (some ((z.parts.length:Nat):Int))))) tp (.tup (cutV vs none (some ((z.parts.length:Nat):Int))))=H3 at *;have e3:H3 tp=some (.tup (vs.take z.parts.length)):=by rw[← hH3,zga,zvx]
  have S4:Same H3 (upd (upd H3 dx (.own x)) x (.ins T.ztb dx (hfs z.word (valV z.val) tp))):=λb o e=>by
   rw[zva (zka e nx),zva (zka e ndx)];exact e
  have e4:upd (upd H3 dx (.own x)) x (.ins T.ztb dx (hfs z.word (valV z.val) tp)) x=some (.ins T.ztb dx (hfs z.word (valV z.val) tp)):=zga;generalize upd (upd H3 dx (.own x)) x (.ins T.ztb dx (hfs z.word (valV z.val) tp))=H4 at *;have S14:Same H' H4:=S2.trans (S3.trans S4);refine⟨sz1,λq1 hq1=>?_⟩;have S5:=zbb hq1 (.lst [.ref x]);refine⟨_,rfl,_,rfl,_,rfl,wl,vs,rfl,SqL.of (S5 _ _ (S14 _ _ e1)),λs2 hs2=>?_⟩;have e5:upd H4 q1 (.lst [.ref x]) q1=some (.lst [.ref x]):=zga;generalize upd H4 q1 (.lst [.ref x])=H5 at *;have S6:=zbb hs2 (.lst (cutV vs (some ((z.parts.length:Nat):Int)) none));have e6:upd H5 s2 (.lst (cutV vs (some ((z.parts.length:Nat):Int)) none)) s2=some (.lst (vs.drop z.parts.length)):=by rw[zga,zmn]
  generalize upd H5 s2 (.lst (cutV vs (some ((z.parts.length:Nat):Int)) none))=H6 at *;refine⟨q1,s2,_,_,rfl,rfl,S6 _ _ e5,e6,?_,λr hr'=>?_⟩
  ·rw[ynd,ywe];exact small (by omega)
  have S7:=zbb hr' (.lst ([.ref x]++vs.drop z.parts.length));have S37:Same H3 (upd H6 r (.lst ([.ref x]++vs.drop z.parts.length))):=S4.trans (S5.trans (S6.trans S7));have S17:Same H' (upd H6 r (.lst ([.ref x]++vs.drop z.parts.length))):=S14.trans (S5.trans (S6.trans S7));refine⟨r,_,_,_,_,rfl,S1.trans S17,zga,?_⟩;rw[show y.size-(i+1)=y.size-1-i by omega,ez];exact .cons (.mk ((S5.trans (S6.trans S7)) _ _ e4) (S37 _ _ e3) (Wp.same S17)) (Wt.same S17)
 ·rintro σ H' ⟨wl,vs,o2,o3,o4,rfl,S1,e1,W1⟩;rw[len,yoj] at W1;have W1':IsWs T.ztb H' vs [y]:=W1;cases W1' with
  | cons hv ht =>
  cases ht;exact⟨_,rfl,wl,_,_,_,rfl,rfl,SqL.of e1,rfl,q _ H' S1 hv⟩
theorem zxkb {y z:Wh}{t:List Wh}{j:Nat}(e:pend y j=z::t):pend y (j+1)=z.parts++t:=by
 show step (pend y j)=_
 rw[e];rfl
theorem zngb {y:Wh}{j:Nat}{x:Str×Wv}(h:y.flat[j]?=some x):y.flat.take j++[x]=y.flat.take (j+1):=by
 rw[ykb,h];rfl
theorem zmg (T:Tx K mg)(kb:K.In base):FnOk P w K mg base CX0 5 T.zac.f T.zac.d zvl (spTW T.zmb T.ztb):=by
 refine T.zac.ok zjg ?_;rintro f c A o s H vs Q E hr ⟨p,ws,rest,k,y,rfl,W,ok,hs,hd,q⟩ X;refine⟨_,  (zba (zqa (i:=1) zjg.nd rfl (.inl rfl) (zcd zca))
  (zba (zqa (i:=2) zjg.nd rfl (.inl rfl) zfa)
  (zba (zdib ygc (zoa zos (pv 2) zfa (zya _))
   (zba (zxb (zoa zsc (zib zgb rfl T.zig ymb (zaa (pv 1) zca)) (zpf (v:=.int 9) rfl T.zki ⟨_,rfl⟩) (zya _))
    (zea zof)
    zsa)
   (zba (zqa (i:=3) zjg.nd rfl (.inl rfl) (zbd (pv 0) T.zeb T.zoc.M (zrf T).up hr (zrg T) .nil zta))
   (zba (zxb (zoa (zpw (zkq T kb)) (pv 3) (zpf (v:=.ref T.zul) rfl T.zgo rfl) rfl)
    (zea zof)
    zsa)
   (zba (zkd (zrh ycb yfb ygb zfd (pv 1) (zaa (zub (zaa (pv 3) (zaa (zja (ziu T) hr rfl T.zvd.m T.zvd.F.kp (zfy T) .nil zta (zaa (pv 0) (zaa (pv 3) zca))) zca))) zca)))
   (zea (zmob (i:=2) zjg.nd rfl (.inl rfl) (zfc zek (znb (zkkb (zkq T kb)) (zpf (v:=.ref T.zul) rfl T.zgo rfl) (pv 3) (λ_ _=>rfl)) zfa) zupb)))))))
  (zea (zua (zja (zqib T kb) hr rfl T.zkl.m T.zkl.F.kp (zfnb T) .nil zta (zaa (pv 1) zca))))))),?_⟩
 refine⟨sz0,λl hl=>?_⟩;have fl:=y.zpe;refine⟨λm σ H'=>Ex3 λ(j k':Nat) o=>m=y.size-j∧σ=[some (.ref p),some (.ref l),some (.int ((pend y j).length:Nat)),o]∧j≤y.size∧But p H H'∧WAt T.zmb H' p ws k'∧ws.drop k'=zvj (pend y j)++rest∧k'+(zvj (pend y j)).length=k+y.words.length∧TkAt H' l (y.flat.take j),⟨_,0,k,none,rfl,rfl,ylb _,But.laid hl,W.at (zbb hl _),?_,?_,[],zga,rfl,?_⟩,?_⟩
 ·show _=zvj [y]++rest;rw[zws];exact hd
 ·show _+(zvj [y]).length=_;rw[zws]
 ·intro i a x e;simp at e
 rintro m σ H' ⟨j,k',o,rfl,rfl,hj,B,W',hd',hk',TA⟩;refine⟨_,rfl,_,_,rfl,rfl,_,rfl,?_⟩;obtain⟨as,t1,t2,t3⟩:=id TA;rw[ydb] at t2;refine ite2 (λc=>?_) (λc=>?_)
 ·have c':(0:Int)<(((pend y j).length:Nat):Int):=of_decide_eq_true c;have hjl:j<y.size:=by
   rcases yye j y.size with z|z
   ·exact z
   ·have e:j=y.size:=by omega
    rw[e,zfu] at c';exact absurd c' (by simp)
  obtain⟨z,t,ez⟩:=zgz hjl;have zok:z.ok:=zpfb ok j z (by rw[ez];exact yia);have ef:=zqfb ez;rw[ez,zxy] at hd' hk';have es:=zxkb ez;obtain⟨u1,u2⟩:=zsb (rest:=(z.val.words++zvj (z.parts++t))++rest) hd';have u2':ws.drop (k'+1)=z.val.words++(zvj (z.parts++t)++rest):=by rw[u2,yrd]
  have kws:k'<ws.length:=(yla.mp u1).1;refine⟨_,fun σ' H' n=>n,?_⟩;refine⟨_,rfl,l,_,rfl,.inl (SqL.of t1),rfl,_,rfl,?_⟩;refine ite2 (λc1=>?_) (λc1=>?_)
  ·exfalso;have c1':=of_decide_eq_true c1;injection c1' with c1'
   rw[yda] at c1';omega
  obtain⟨dx,wl,w1,w2⟩:=id W';refine⟨_,rfl,p,dx,_,rfl,w1,zdc _ _ (by decide +kernel) (by decide +kernel),p,ws,k',z.word,rfl,W',u1,λH1 W1 B1=>?_⟩;refine⟨_,rfl,_,rfl,rfl,_,rfl,?_⟩;rw[zxlb];refine iteF ?_;have TA1:=TA.but B1 w1;obtain⟨dx1,wl1,w11,w12⟩:=id W1;have t11:=B1 _ _ (zel t1 w1 (by intro z;cases z)) t1;refine⟨_,rfl,.inl ⟨rfl,_,SqL.of t11⟩,_,rfl,_,rfl,_,rfl,p,ws,_,k'+1,z,rfl,W1,zok,u2',λH2 W2 B2=>?_⟩;have TA2:=TA1.but B2 w11;have t12:=B2 _ _ (zel t11 w11 (by intro z;cases z)) t11;refine⟨sz2,λa ha=>?_⟩;have S3:=zbb ha (.tup [.str z.word,valV z.val]);have TA3:=TA2.same S3;have t13:=S3 _ _ t12;have e3:upd H2 a (.tup [.str z.word,valV z.val]) a=some (.tup [.str z.word,valV z.val]):=zga;generalize upd H2 a (.tup [.str z.word,valV z.val])=H3 at *;have W3:=W2.at S3;obtain⟨dx3,wl3,w31,w32⟩:=id W3;have npl:p≠l:=zel w31 t13 (by intro z;cases z);have nwl:wl3≠l:=by
   intro z;rw[z,t13] at w32;injection w32 with w32
   injection w32 with w32
   cases ws with
   | nil=>exact absurd kws (by simp)
   | cons u r =>
    cases as with
    | nil=>simp at w32
    | cons b r'=>simp at w32
  refine⟨l,_,_,rfl,rfl,t13,?_,?_⟩
  ·rw[yda];exact zpc (by omega)
  have TA4:=TA3.snoc (x:=(z.word,z.val)) e3 t13;rw[zngb ef] at TA4;have W4:WAt T.zmb (upd H3 l (.lst (as.map V.ref++[.ref a]))) p ws (k'+1+z.val.words.length):=⟨dx3,wl3,by rw[zva npl];exact w31,by rw[zva nwl];exact w32⟩;have B4:But p H (upd H3 l (.lst (as.map V.ref++[.ref a]))):=λb o n e=>by
   rw[zva (zka e hl)];exact S3 _ _ (B2 _ _ n (B1 _ _ n (B _ _ n e)))
  have em:(((pend y j).length:Nat):Int)+(((z.parts.length:Nat):Int)-1)=(((pend y (j+1)).length:Nat):Int):=by
   rw[ez,es,yga,yea];omega
  refine⟨_,rfl,_,rfl,_,_,rfl,rfl,zsbb z,_,_,rfl,rfl,_,_,rfl,rfl,?_⟩;refine⟨y.size-(j+1),by omega,j+1,k'+1+z.val.words.length,_,rfl,(by rw[← em];rfl),hjl,B4,W4,?_,?_,TA4⟩
  ·rw[es,← yai,u2',ywj]
  ·rw[es];rw[yga,yea] at hk';omega
 ·have c':¬ (0:Int)<(((pend y j).length:Nat):Int):=of_decide_eq_false (yjd.mpr c);have ej:j=y.size:=by
   rcases yye j y.size with z|z
   ·obtain⟨z,t,ez⟩:=zgz z;rw[ez,yga] at c';omega
   ·omega
  subst ej;rw[zfu] at hk';rw[ysa (by omega)] at TA;have hk2:k'=k+y.words.length:=hk';subst hk2;refine⟨_,rfl,l,y,rfl,TA,hs,λv H2 S2 IW=>?_⟩;exact q v H2 (W'.at S2) (B.of_same S2) IW
theorem zggb {u:Str}:∀{ss:List Str},u∈ss->inV (.str u) (ss.map V.str)=true
 | x::ss,h=>by
  show (eqV (.str x) (.str u)||inV (.str u) (ss.map V.str))=true
  rcases yha.mp h with rfl|h
  ·have e:eqV (.str u) (.str u)=true:=by show (u==u)=true;simp
   rw[e];rfl
  ·rw[zggb h,Bool.or_true]
theorem ztx:∀ss:List Str,(ss.map V.str).all zss=true
 | []=>rfl
 | _::ss=>ztx ss
def Kn (K:yba)(H:Hp)(t:Addr)(ss:List Str):Prop:=TupK K t ss∨H t=some (.tup (ss.map V.str))
theorem Kn.sq {K:yba}{H H':Hp}{t p C dx l:Addr}{k:Int}{ss:List Str}(h:Kn K H t ss)(hz:ss.length≤1000)(hp:H p=some (.ins C dx (wfs l k)))(b:But p H H'):SqT K H' t (ss.map V.str):=by
 rcases h with h|h
 ·exact h.sq hz H'
 ·exact SqT.of (b _ _ (zel h hp (by intro z;cases z)) h)
theorem zdv {ws xs:List Str}{k:Nat}(h:ws.drop k=xs)(hx:xs≠[]):k+xs.length=ws.length:=by
 have e:=congrArg yeg h;rw[ynd] at e;have:xs.length≠0:=λz=>hx (List.eq_nil_of_length_eq_zero z);omega
theorem zln {ws xs ys:List Str}{k:Nat}(h:ws.drop k=xs++ys):ws.drop (k+xs.length)=ys:=by
 rw[← yai,h,ywj]
def amtV:Wv->V
 | .non=>.int 0
 | .name n=>.str n
 | .num i=>.int i
def HvAt (D:Addr)(H:Hp)(x:V):Hv->Prop
 | .v y=>x=valV y
 | .w y=>IsW D H x y
def zqn (D:Addr)(H:Hp)(v:V)(d:Deed):Prop:=Ex2 λa x=>v = .ref a∧H a=some (.tup [.str d.each,.str d.kind,amtV d.amt,x])∧IsW D H x d.whom
def zuj (D:Addr)(H:Hp)(v:V):Rule->Prop
 | .hold w y z=>Ex3 λa x u=>v = .ref a∧H a=some (.tup [.str "hold",.str w,x,u])∧HvAt D H x y∧IsW D H u z
 | .wen k y d=>Ex3 λa x u=>v = .ref a∧H a=some (.tup [.str "when",.str k,x,u])∧IsW D H x y∧zqn D H u d
 | .instead k y w z=>Ex2 λa x=>v = .ref a∧H a=some (.tup [.str "instead",.str k,x,.str w,valV z])∧IsW D H x y
 | .may c d=>Ex2 λa u=>v = .ref a∧H a=some (.tup [.str "may",.int c,u])∧zqn D H u d
theorem HvAt.same {D:Addr}{H H':Hp}(s:Same H H'){x:V}:∀{y:Hv},HvAt D H x y->HvAt D H' x y
 | .v _,h=>h
 | .w _,h=>IsW.same s h
theorem HvAt.but {D C p dy l:Addr}{k:Int}{H H':Hp}(b:But p H H')(hp:H p=some (.ins C dy (wfs l k))){x:V}:∀{y:Hv},HvAt D H x y->HvAt D H' x y
 | .v _,h=>h
 | .w _,h=>IsW.but b hp h
theorem zqn.same {D:Addr}{H H':Hp}(s:Same H H'){v:V}{d:Deed}(h:zqn D H v d):zqn D H' v d:=by
 obtain⟨a,x,e,h1,h2⟩:=h;exact⟨a,x,e,s _ _ h1,h2.same s⟩
theorem zuj.same {D:Addr}{H H':Hp}(s:Same H H'){v:V}:∀{r:Rule},zuj D H v r->zuj D H' v r
 | .hold w y z,⟨a,x,u,e,h,p,q⟩=>⟨a,x,u,e,s _ _ h,p.same s,q.same s⟩
 | .wen k y d,⟨a,x,u,e,h,p,q⟩=>⟨a,x,u,e,s _ _ h,p.same s,q.same s⟩
 | .instead k y w z,⟨a,x,e,h,p⟩=>⟨a,x,e,s _ _ h,p.same s⟩
 | .may c d,⟨a,u,e,h,p⟩=>⟨a,u,e,s _ _ h,p.same s⟩
theorem zmeb {k:Str}(h:k∈zmc):ytm k zcbb=some (.tup ((turns k).map PyData.str)):=by
 simp only[zmc,yha,yzc,or_false] at h
 rcases h with rfl|rfl|rfl|rfl|rfl|rfl|rfl<;>rfl
theorem zleb (k:Str):(turns k).length≤1000:=by
 unfold turns
 repeat' split
 all_goals decide
def zqqb (K:yba)(C:Addr):Sp:=λvs H Q _=>Ex6 λp t (ws:List Str) (k:Nat) (u:Str) (ss:List Str)=>vs=[.ref p,.ref t]∧WAt C H p ws k∧ws[k]?=some u∧u∈ss∧ss.length≤1000∧Kn K H t ss∧∀H',WAt C H' p ws (k+1)->But p H H'->Q (.str u) H'
def zrqb (C:Addr):Sp:=λvs H Q _=>Ex6 λp (ws rest:List Str) (k:Nat) (u:Str) (v:Wv)=>vs=[.ref p,.str u]∧WAt C H p ws k∧zso u v∧ws.drop k=v.words++rest∧∀H',WAt C H' p ws (k+v.words.length)->But p H H'->Q (amtV v) H'
def zznb (C:Addr):Sp:=λvs H Q _=>Ex5 λp (ws:List Str) (k:Nat) (u:Str) (v:Wv)=>vs=[.ref p,.str u]∧WAt C H p ws k∧TurnOk u v∧ws.drop k=v.words∧∀H',WAt C H' p ws (k+v.words.length)->But p H H'->Q (valV v) H'
def zvhb (C D:Addr):Sp:=λvs H Q _=>Ex6 λp (ws rest:List Str) (k:Nat) (u:Str) (v:Hv)=>vs=[.ref p,.str u]∧WAt C H p ws k∧zph u v∧ws.drop k=v.words++rest∧∀x H',WAt C H' p ws (k+v.words.length)->But p H H'->HvAt D H' x v->Q x H'
def zfob (C D:Addr):Sp:=λvs H Q _=>Ex4 λp (ws:List Str) (k:Nat) (d:Deed)=>vs=[.ref p]∧WAt C H p ws k∧d.ok∧ws.drop k=d.words∧∀v H',WAt C H' p ws ws.length->But p H H'->zqn D H' v d->Q v H'
def zzt (C D:Addr)(f:Rule->Prop):Sp:=λvs H Q _=>Ex4 λp (ws:List Str) (k:Nat) (r:Rule)=>vs=[.ref p]∧f r∧WAt C H p ws k∧r.ok∧ws.drop k=r.words.drop 1∧∀v H',WAt C H' p ws ws.length->But p H H'->zuj D H' v r->Q v H'
theorem zdb (T:Tx K mg):FnOk P w K mg base CX0 3 T.zpa.f T.zpa.d zcf (zqqb K T.zmb):=by
 refine T.zpa.ok zzg ?_;rintro f c A o s H vs Q E hr ⟨p,t,ws,k,u,ss,rfl,W,hu,hm,hz,hk,q⟩ X;refine⟨_,  (zba (zqa (i:=2) zzg.nd rfl (.inl rfl) (zbd (pv 0) T.zeb T.zoc.M (zrf T) hr (zrg T) .nil zta))
  (zba (zxb (zoa zqw (pv 2) (pv 1) rfl)
   (zea zof)
   zsa)
  (zea (zua (pv 2))))),?_⟩
 obtain⟨dx,l,h1,h2⟩:=id W;refine⟨_,rfl,p,dx,_,rfl,h1,zdc _ _ (by decide +kernel) (by decide +kernel),p,ws,k,u,rfl,W,hu,λH1 W1 B1=>?_⟩;refine⟨_,rfl,_,rfl,t,_,rfl,.inr (hk.sq hz h1 B1),rfl,ztx ss,_,rfl,?_⟩;have e:(if true=true then !inV (.str u) (ss.map V.str) else inV (.str u) (ss.map V.str))=false:=by rw[zggb hm];rfl
 refine ite2 (λc=>absurd (e.symm.trans c) yua) (λ_=>?_);exact⟨_,rfl,q H1 W1 B1⟩
theorem zps (T:Tx K mg):FnOk P w K mg base CX0 4 T.zod.f T.zod.d zlj (zrqb T.zmb):=by
 refine T.zod.ok zls ?_;rintro f c A o s H vs Q E hr ⟨p,ws,rest,k,u,v,rfl,W,ok,hd,q⟩ X;refine⟨_,  (zba (zxb (zoa zsc (pv 1) zma (zya _))
   (zea (zua zfa))
   zsa)
  (zba (zxb (zoa zge (pv 1) (zub (zaa zma (zaa zma zca))) rfl)
   (zea (zua (zbd (pv 0) T.zeb T.zpb.M (zud T) hr (zke T) .nil zta)))
   zsa)
  (zea (zua (zbd (pv 0) T.zeb T.zwa.M (zyb T) hr (zcc T) .nil zta))))),?_⟩
 obtain⟨dx,l,h1,h2⟩:=id W;have nam:∀{n:Str},zie n->ws.drop k=n::rest->∀{a:Addr} {o:HO},H a=none->(∀H',WAt T.zmb H' p ws (k+1)->But p H H'->Q (.str n) H')->Ex4 λp' (ws':List Str) (k':Nat) (u':Str)=>[V.ref p]=[.ref p']∧WAt T.zmb (upd H a o) p' ws' k'∧ws'[k']?=some u'∧zie u'∧∀H',WAt T.zmb H' p' ws' (k'+1)->But p' (upd H a o) H'->Q (.str u') H' :=
  λ{_} hn e {a o} ha q=>⟨p,ws,k,_,rfl,W.at (zbb ha o),(zsb e).1,hn,λH1 W1 B1=>q H1 W1 ((But.laid ha).trans B1)⟩
 have num:∀{i:Nat},i<1000->ws.drop k=(toString (i:Int):Str)::rest->∀{a:Addr} {o:HO},H a=none->(∀H',WAt T.zmb H' p ws (k+1)->But p H H'->Q (.int i) H')->Ex4 λp' (ws':List Str) (k' i':Nat)=>[V.ref p]=[.ref p']∧WAt T.zmb (upd H a o) p' ws' k'∧ws'[k']?=some (toString (i':Int):Str)∧i'<1000∧∀H',WAt T.zmb H' p' ws' (k'+1)->But p' (upd H a o) H'->Q (.int i') H' :=
  λ{_} hn e {a o} ha q=>⟨p,ws,k,_,rfl,W.at (zbb ha o),(zsb e).1,hn,λH1 W1 B1=>q H1 W1 ((But.laid ha).trans B1)⟩
 have at1:∀{a:Addr} {o:HO},H a=none->upd H a o p=some (.ins T.zmb dx (wfs l (k:Int))):=λ{a o} ha=>by rw[zva (zka h1 ha)];exact h1
 refine⟨_,rfl,rfl,_,rfl,?_⟩;cases ok with
 | leave=>exact iteT (q H W (But.refl p H))
 | gain hn =>
  refine iteF ⟨_,rfl,sz2,λa ha=>⟨a,_,rfl,.inr (SqT.of zga),rfl,rfl,_,rfl,iteT ?_⟩⟩;exact⟨_,rfl,p,dx,_,rfl,at1 ha,zdc _ _ (by decide +kernel) (by decide +kernel),nam hn hd ha q⟩
 | lack hn =>
  refine iteF ⟨_,rfl,sz2,λa ha=>⟨a,_,rfl,.inr (SqT.of zga),rfl,rfl,_,rfl,iteT ?_⟩⟩;exact⟨_,rfl,p,dx,_,rfl,at1 ha,zdc _ _ (by decide +kernel) (by decide +kernel),nam hn hd ha q⟩
 | hurt hn =>
  refine iteF ⟨_,rfl,sz2,λa ha=>⟨a,_,rfl,.inr (SqT.of zga),rfl,rfl,_,rfl,iteF ?_⟩⟩;exact⟨_,rfl,p,dx,_,rfl,at1 ha,zdc _ _ (by decide +kernel) (by decide +kernel),num hn hd ha q⟩
 | lose hn =>
  refine iteF ⟨_,rfl,sz2,λa ha=>⟨a,_,rfl,.inr (SqT.of zga),rfl,rfl,_,rfl,iteF ?_⟩⟩;exact⟨_,rfl,p,dx,_,rfl,at1 ha,zdc _ _ (by decide +kernel) (by decide +kernel),num hn hd ha q⟩
 | score hn =>
  refine iteF ⟨_,rfl,sz2,λa ha=>⟨a,_,rfl,.inr (SqT.of zga),rfl,rfl,_,rfl,iteF ?_⟩⟩;exact⟨_,rfl,p,dx,_,rfl,at1 ha,zdc _ _ (by decide +kernel) (by decide +kernel),num hn hd ha q⟩
 | draw hn =>
  refine iteF ⟨_,rfl,sz2,λa ha=>⟨a,_,rfl,.inr (SqT.of zga),rfl,rfl,_,rfl,iteF ?_⟩⟩;exact⟨_,rfl,p,dx,_,rfl,at1 ha,zdc _ _ (by decide +kernel) (by decide +kernel),num hn hd ha q⟩
theorem zbn (T:Tx K mg):FnOk P w K mg base CX0 4 T.znc.f T.znc.d zzf (zznb T.zmb):=by
 refine T.znc.ok zsm ?_;rintro f c A o s H vs Q E hr ⟨p,ws,k,u,v,rfl,W,ok,hd,q⟩ X;refine⟨_,  (zba (zxb (zoa zge (pv 1) (zub (zaa zma (zaa zma zca))) rfl)
   (zea (zua (zbd (pv 0) T.zeb T.zwa.M (zyb T) hr (zcc T) .nil zta)))
   zsa)
  (zba (zxb (zoa zsc (pv 1) zma (zya _))
   (zea (zua (zee (pv 0) T.zeb T.zpa.M (zdb T) hr (zfb T) .nil zta (zaa (zpf (v:=.ref T.zgg) rfl T.zfg rfl) zca))))
   zsa)
  (zea (zua zan)))),?_⟩
 obtain⟨dx,l,h1,h2⟩:=id W;refine⟨_,rfl,sz2,λa ha=>⟨a,_,rfl,.inr (SqT.of zga),rfl,rfl,_,rfl,?_⟩⟩;have S:=zbb ha (.tup [.str "less",.str "more"]);have W1:=W.at S;have at1:upd H a (.tup [.str "less",.str "more"]) p=some (.ins T.zmb dx (wfs l (k:Int))):=by rw[zva (zka h1 ha)];exact h1
 have B:But p H (upd H a (.tup [.str "less",.str "more"])):=But.laid ha;cases ok with
 | none=>exact iteF ⟨_,rfl,rfl,_,rfl,iteF (q _ W1 B)⟩
 | here=>exact iteF ⟨_,rfl,rfl,_,rfl,iteF (q _ W1 B)⟩
 | less hn =>
  refine iteT ?_;exact⟨_,rfl,p,dx,_,rfl,at1,zdc _ _ (by decide +kernel) (by decide +kernel),p,ws,k,_,rfl,W1,(zsb hd).1,hn,λH2 W2 B2=>q H2 W2 (B.trans B2)⟩
 | more hn =>
  refine iteT ?_;exact⟨_,rfl,p,dx,_,rfl,at1,zdc _ _ (by decide +kernel) (by decide +kernel),p,ws,k,_,rfl,W1,(zsb hd).1,hn,λH2 W2 B2=>q H2 W2 (B.trans B2)⟩
 | as hn =>
  refine iteF ⟨_,rfl,rfl,_,rfl,iteT ?_⟩;exact⟨_,rfl,p,dx,_,rfl,at1,zdc _ _ (by decide +kernel) (by decide +kernel),p,_,ws,k,_,zid,rfl,W1,(zsb hd).1,hn,(by decide),.inl T.zeg,λH2 W2 B2=>q H2 W2 (B.trans B2)⟩
theorem zdl (T:Tx K mg)(kb:K.In base):FnOk P w K mg base CX0 6 T.zbc.f T.zbc.d zbf (zvhb T.zmb T.ztb):=by
 refine T.zbc.ok zcl ?_;rintro f c A o s H vs Q E hr ⟨p,ws,rest,k,u,v,rfl,W,ok,hd,q⟩ X;refine⟨_,  (zba (zxb (zoa zge (pv 1) (zub (zaa zma (zaa zma zca))) rfl)
   (zea (zua (zbd (pv 0) T.zeb T.zpb.M (zud T).up hr (zke T) .nil zta)))
   zsa)
  (zba (zxb (zoa zge (pv 1) (zub (zaa zma (zaa zma (zaa zma zca)))) rfl)
   (zea (zua (zbd (pv 0) T.zeb T.zwa.M (zyb T).up hr (zcc T) .nil zta)))
   zsa)
  (zba (zxb (zoa zsc (pv 1) zma (zya _))
   (zea (zua (zja (zmg T kb) hr rfl T.zac.m T.zac.F.kp (zmh T) .nil zta (zaa (pv 0) zca))))
   zsa)
  (zea (zua zan))))),?_⟩
 obtain⟨dx,l,h1,h2⟩:=id W;refine⟨_,rfl,sz2,λa ha=>⟨a,_,rfl,.inr (SqT.of zga),rfl,rfl,_,rfl,?_⟩⟩;have S:=zbb ha (.tup [.str "gain",.str "lack"]);have W1:=W.at S;have B:But p H (upd H a (.tup [.str "gain",.str "lack"])):=But.laid ha;generalize upd H a (.tup [.str "gain",.str "lack"])=H0 at *;obtain⟨dx1,l1,at1,_⟩:=id W1;have two:∀{b:Addr},H0 b=none->WAt T.zmb (upd H0 b (.tup [.str "be",.str "more",.str "less"])) p ws k∧But p H (upd H0 b (.tup [.str "be",.str "more",.str "less"])):=λ{b} hb=>⟨W1.at (zbb hb _),B.trans (But.laid hb)⟩;cases ok with
 | gain hn =>
  exact iteT ⟨_,rfl,p,dx1,_,rfl,at1,zdc _ _ (by decide +kernel) (by decide +kernel),p,ws,k,_,rfl,W1,(zsb hd).1,hn,λH2 W2 B2=>q _ H2 W2 (B.trans B2) rfl⟩
 | lack hn =>
  exact iteT ⟨_,rfl,p,dx1,_,rfl,at1,zdc _ _ (by decide +kernel) (by decide +kernel),p,ws,k,_,rfl,W1,(zsb hd).1,hn,λH2 W2 B2=>q _ H2 W2 (B.trans B2) rfl⟩
 | be hn =>
  refine iteF ⟨_,rfl,sz3,λb hb=>⟨b,_,rfl,.inr (SqT.of zga),rfl,rfl,_,rfl,iteT ?_⟩⟩;obtain⟨W3,B3⟩:=two hb;obtain⟨dx3,l3,at3,_⟩:=id W3;exact⟨_,rfl,p,dx3,_,rfl,at3,zdc _ _ (by decide +kernel) (by decide +kernel),p,ws,k,_,rfl,W3,(zsb hd).1,hn,λH2 W2 B2=>q _ H2 W2 (B3.trans B2) rfl⟩
 | more hn =>
  refine iteF ⟨_,rfl,sz3,λb hb=>⟨b,_,rfl,.inr (SqT.of zga),rfl,rfl,_,rfl,iteT ?_⟩⟩;obtain⟨W3,B3⟩:=two hb;obtain⟨dx3,l3,at3,_⟩:=id W3;exact⟨_,rfl,p,dx3,_,rfl,at3,zdc _ _ (by decide +kernel) (by decide +kernel),p,ws,k,_,rfl,W3,(zsb hd).1,hn,λH2 W2 B2=>q _ H2 W2 (B3.trans B2) rfl⟩
 | less hn =>
  refine iteF ⟨_,rfl,sz3,λb hb=>⟨b,_,rfl,.inr (SqT.of zga),rfl,rfl,_,rfl,iteT ?_⟩⟩;obtain⟨W3,B3⟩:=two hb;obtain⟨dx3,l3,at3,_⟩:=id W3;exact⟨_,rfl,p,dx3,_,rfl,at3,zdc _ _ (by decide +kernel) (by decide +kernel),p,ws,k,_,rfl,W3,(zsb hd).1,hn,λH2 W2 B2=>q _ H2 W2 (B3.trans B2) rfl⟩
 | per hn =>
  refine iteF ⟨_,rfl,sz3,λb hb=>⟨b,_,rfl,.inr (SqT.of zga),rfl,rfl,_,rfl,iteF ?_⟩⟩;obtain⟨W3,B3⟩:=two hb;exact⟨_,rfl,rfl,_,rfl,iteT ⟨_,rfl,p,ws,rest,k,_,rfl,W3,hn.1,hn.2,hd,λx H2 W2 B2 IW=>q x H2 W2 (B3.trans B2) IW⟩⟩
 | mute =>
  refine iteF ⟨_,rfl,sz3,λb hb=>⟨b,_,rfl,.inr (SqT.of zga),rfl,rfl,_,rfl,iteF ?_⟩⟩;obtain⟨W3,B3⟩:=two hb;exact⟨_,rfl,rfl,_,rfl,iteF (q _ _ W3 B3 rfl)⟩
 | steal =>
  refine iteF ⟨_,rfl,sz3,λb hb=>⟨b,_,rfl,.inr (SqT.of zga),rfl,rfl,_,rfl,iteF ?_⟩⟩;obtain⟨W3,B3⟩:=two hb;exact⟨_,rfl,rfl,_,rfl,iteF (q _ _ W3 B3 rfl)⟩
theorem zlp (T:Tx K mg)(kb:K.In base):FnOk P w K mg base CX0 6 T.znd.f T.znd.d zyl (zfob T.zmb T.ztb):=by
 refine T.znd.ok zkg ?_;rintro f c A o s H vs Q E hr ⟨p,ws,k,d,rfl,W,ok,hd,q⟩ X;refine⟨_,  (zba (zqa (i:=1) zkg.nd rfl (.inl rfl) (zee (pv 0) T.zeb T.zpa.M (zdb T).up hr (zfb T) .nil zta (zaa (zub (zaa zma (zaa zma zca))) zca)))
  (zba (zqa (i:=2) zkg.nd rfl (.inl rfl) (zee (pv 0) T.zeb T.zpa.M (zdb T).up hr (zfb T) .nil zta (zaa (zpf (v:=.ref T.zsg) rfl T.zpg rfl) zca)))
  (zba (zqa (i:=3) zkg.nd rfl (.inl rfl) (zja (zps T).up hr rfl T.zod.m T.zod.F.kp (zkv T) .nil zta (zaa (pv 0) (zaa (pv 2) zca))))
  (zba (zqa (i:=4) zkg.nd rfl (.inl rfl) (zja (zmg T kb) hr rfl T.zac.m T.zac.F.kp (zmh T) .nil zta (zaa (pv 0) zca)))
  (zea (zua (zub (zaa (pv 1) (zaa (pv 2) (zaa (pv 3) (zaa (pv 4) zca))))))))))),?_⟩
 obtain⟨dx,l,h1,h2⟩:=id W;obtain⟨u1,hd1⟩:=zsb (show ws.drop k=d.each::(d.kind::(d.amt.words++d.whom.words)) from hd);obtain⟨u2,hd2⟩:=zsb hd1;have hd3:=zln hd2;refine⟨_,rfl,p,dx,_,rfl,h1,zdc _ _ (by decide +kernel) (by decide +kernel),sz2,λa ha=>?_⟩;refine⟨p,a,ws,k,_,zqgb,rfl,W.at (zbb ha _),u1,ok.each,(by decide),.inr zga,λH1 W1 B1=>?_⟩;have B1':But p H H1:=(But.laid ha).trans B1;obtain⟨dx1,l1,at1,_⟩:=id W1;refine⟨_,rfl,p,dx1,_,rfl,at1,zdc _ _ (by decide +kernel) (by decide +kernel),p,_,ws,k+1,_,zmc,rfl,W1,u2,ok.amt.kind,(by decide),.inl T.zog,λH2 W2 B2=>?_⟩;refine⟨_,rfl,_,rfl,p,ws,_,k+1+1,_,d.amt,rfl,W2,ok.amt,hd2,λH3 W3 B3=>?_⟩;refine⟨_,rfl,p,ws,[],_,d.whom,rfl,W3,ok.whom.1,ok.whom.2,(by rw[ysb];exact hd3),λv H4 W4 B4 IW=>?_⟩;refine⟨_,rfl,_,rfl,_,rfl,_,rfl,sz4,λb hb=>?_⟩;have en:=zdv hd3 d.whom.zrd;rw[en] at W4;exact q _ _ (W4.at (zbb hb _)) ((B1'.trans (B2.trans (B3.trans B4))).trans (But.laid hb)) ⟨b,v,rfl,zga,IW.same (zbb hb _)⟩
def ztpb:Rule->Prop
 | .hold _ _ _=>True
 | _=>False
def zcrb:Rule->Prop
 | .wen _ _ _=>True
 | _=>False
def zegb:Rule->Prop
 | .instead _ _ _ _=>True
 | _=>False
def zdrb:Rule->Prop
 | .may _ _=>True
 | _=>False
theorem zuw (T:Tx K mg)(kb:K.In base):FnOk P w K mg base CX0 7 T.zre.f T.zre.d zxl (zzt T.zmb T.ztb ztpb):=by
 refine T.zre.ok zsh ?_;rintro f c A o s H vs Q E hr ⟨p,ws,k,r,rfl,is,W,ok,hd,q⟩ X;refine⟨_,  (zba (zqa (i:=1) zsh.nd rfl (.inl rfl) (zee (pv 0) T.zeb T.zpa.M (zdb T).up hr (zfb T) .nil zta (zaa (zpf (v:=.ref T.zpn) rfl T.zjn rfl) zca)))
  (zba (zqa (i:=2) zsh.nd rfl (.inl rfl) (zja (zdl T kb) hr rfl T.zbc.m T.zbc.F.kp (zql T) .nil zta (zaa (pv 0) (zaa (pv 1) zca))))
  (zba (zqa (i:=3) zsh.nd rfl (.inl rfl) (zja (zmg T kb).up hr rfl T.zac.m T.zac.F.kp (zmh T) .nil zta (zaa (pv 0) zca)))
  (zea (zua (zub (zaa zma (zaa (pv 1) (zaa (pv 2) (zaa (pv 3) zca)))))))))),?_⟩
 cases r with
 | hold u v y =>
  obtain⟨dx,l,h1,h2⟩:=id W;obtain⟨ok1,ok2⟩:=ok;obtain⟨u1,hd1⟩:=zsb (show ws.drop k=u::(v.words++y.words) from hd);have hd2:=zln hd1;refine⟨_,rfl,p,dx,_,rfl,h1,zdc _ _ (by decide +kernel) (by decide +kernel),p,_,ws,k,_,changes,rfl,W,u1,ok1.word,(by decide),.inl T.zen,λH1 W1 B1=>?_⟩;refine⟨_,rfl,_,rfl,p,ws,y.words,k+1,_,v,rfl,W1,ok1,hd1,λx H2 W2 B2 HV=>?_⟩;obtain⟨dx2,l2,at2,_⟩:=id W2;refine⟨_,rfl,p,ws,[],_,y,rfl,W2,ok2.1,ok2.2,(by rw[ysb];exact hd2),λz H3 W3 B3 IW=>?_⟩;refine⟨_,rfl,_,rfl,_,rfl,sz4,λb hb=>?_⟩;rw[zdv hd2 y.zrd] at W3;exact q _ _ (W3.at (zbb hb _)) ((B1.trans (B2.trans B3)).trans (But.laid hb)) ⟨b,x,z,rfl,zga,(HV.but B3 at2).same (zbb hb _),IW.same (zbb hb _)⟩
 | wen=>exact is.elim
 | instead=>exact is.elim
 | may=>exact is.elim
theorem ztw (T:Tx K mg)(kb:K.In base):FnOk P w K mg base CX0 7 T.zqe.f T.zqe.d zwl (zzt T.zmb T.ztb zcrb):=by
 refine T.zqe.ok zak ?_;rintro f c A o s H vs Q E hr ⟨p,ws,k,r,rfl,is,W,ok,hd,q⟩ X;refine⟨_,  (zba (zqa (i:=1) zak.nd rfl (.inl rfl) (zee (pv 0) T.zeb T.zpa.M (zdb T).up hr (zfb T) .nil zta (zaa (zpf (v:=.ref T.zmi) rfl T.zji rfl) zca)))
  (zba (zqa (i:=2) zak.nd rfl (.inl rfl) (zja (zmg T kb).up hr rfl T.zac.m T.zac.F.kp (zmh T) .nil zta (zaa (pv 0) zca)))
  (zba (zkd (zee (pv 0) T.zeb T.zpa.M (zdb T).up hr (zfb T) .nil zta (zaa (zub (zaa zma zca)) zca)))
  (zea (zua (zub (zaa zma (zaa (pv 1) (zaa (pv 2) (zaa (zja (zlp T kb) hr rfl T.znd.m T.znd.F.kp (zwr T) .nil zta (zaa (pv 0) zca)) zca)))))))))),?_⟩
 cases r with
 | wen u y d =>
  obtain⟨dx,l,h1,h2⟩:=id W;obtain⟨ok1,ok2,ok3⟩:=ok;obtain⟨u1,hd1⟩:=zsb (show ws.drop k=u::(y.words++("do":Str)::d.words) from hd);have hd2:=zln hd1;obtain⟨u3,hd3⟩:=zsb hd2;refine⟨_,rfl,p,dx,_,rfl,h1,zdc _ _ (by decide +kernel) (by decide +kernel),p,_,ws,k,_,zgq,rfl,W,u1,ok1,(by decide),.inl T.zgi,λH1 W1 B1=>?_⟩;refine⟨_,rfl,p,ws,_,k+1,y,rfl,W1,ok2.1,ok2.2,hd1,λx H2 W2 B2 IW=>?_⟩;obtain⟨dx2,l2,at2,_⟩:=id W2;refine⟨_,rfl,p,dx2,_,rfl,at2,zdc _ _ (by decide +kernel) (by decide +kernel),sz1,λa ha=>?_⟩;refine⟨p,a,ws,_,_,["do"],rfl,W2.at (zbb ha _),u3,yja.mpr rfl,(by decide),.inr zga,λH3 W3 B3=>?_⟩;have B3':But p H2 H3:=(But.laid ha).trans B3;obtain⟨dx3,l3,at3,_⟩:=id W3;refine⟨_,rfl,_,rfl,_,rfl,p,ws,_,d,rfl,W3,ok3,hd3,λz H4 W4 B4 ID=>?_⟩;refine⟨sz4,λb hb=>?_⟩;exact q _ _ (W4.at (zbb hb _)) ((B1.trans (B2.trans (B3'.trans B4))).trans (But.laid hb)) ⟨b,x,z,rfl,zga,((IW.but B3' at2).but B4 at3).same (zbb hb _),ID.same (zbb hb _)⟩
 | hold=>exact is.elim
 | instead=>exact is.elim
 | may=>exact is.elim
theorem zkr (T:Tx K mg)(kb:K.In base):FnOk P w K mg base CX0 6 T.zgd.f T.zgd.d zri (zzt T.zmb T.ztb zegb):=by
 refine T.zgd.ok zlf ?_;rintro f c A o s H vs Q E hr ⟨p,ws,k,r,rfl,is,W,ok,hd,q⟩ X;refine⟨_,  (zba (zqa (i:=1) zlf.nd rfl (.inl rfl) (zee (pv 0) T.zeb T.zpa.M (zdb T).up hr (zfb T) .nil zta (zaa (zpf (v:=.ref T.zsg) rfl T.zpg rfl) zca)))
  (zba (zqa (i:=2) zlf.nd rfl (.inl rfl) (zja (zmg T kb) hr rfl T.zac.m T.zac.F.kp (zmh T) .nil zta (zaa (pv 0) zca)))
  (zba (zkd (zee (pv 0) T.zeb T.zpa.M (zdb T).up hr (zfb T) .nil zta (zaa (zub (zaa zma zca)) zca)))
  (zba (zqa (i:=3) zlf.nd rfl (.inl rfl) (zee (pv 0) T.zeb T.zpa.M (zdb T).up hr (zfb T) .nil zta (zaa (znb (zpmb rfl T.zru) (zpf (v:=.ref T.znv) rfl T.zxu rfl) (pv 1) (λ_ _=>rfl)) zca)))
  (zea (zua (zub (zaa zma (zaa (pv 1) (zaa (pv 2) (zaa (pv 3) (zaa (zja (zbn T).up hr rfl T.znc.m T.znc.F.kp (zko T) .nil zta (zaa (pv 0) (zaa (pv 3) zca))) zca)))))))))))),?_⟩
 cases r with
 | instead u y t v =>
  obtain⟨dx,l,h1,h2⟩:=id W;obtain⟨ok1,ok2,ok3,ok4⟩:=ok;obtain⟨u1,hd1⟩:=zsb (show ws.drop k=u::(y.words++("do":Str)::t::v.words) from hd);have hd2:=zln hd1;obtain⟨u3,hd3⟩:=zsb hd2;obtain⟨u4,hd4⟩:=zsb hd3;refine⟨_,rfl,p,dx,_,rfl,h1,zdc _ _ (by decide +kernel) (by decide +kernel),p,_,ws,k,_,zmc,rfl,W,u1,ok1,(by decide),.inl T.zog,λH1 W1 B1=>?_⟩;refine⟨_,rfl,p,ws,_,k+1,y,rfl,W1,ok2.1,ok2.2,hd1,λx H2 W2 B2 IW=>?_⟩;obtain⟨dx2,l2,at2,_⟩:=id W2;refine⟨_,rfl,p,dx2,_,rfl,at2,zdc _ _ (by decide +kernel) (by decide +kernel),sz1,λa ha=>?_⟩;refine⟨p,a,ws,_,_,["do"],rfl,W2.at (zbb ha _),u3,yja.mpr rfl,(by decide),.inr zga,λH3 W3 B3=>?_⟩;have B3':But p H2 H3:=(But.laid ha).trans B3;obtain⟨dx3,l3,at3,_⟩:=id W3;refine⟨_,rfl,p,dx3,_,rfl,at3,zdc _ _ (by decide +kernel) (by decide +kernel),_,rfl,_,_,rfl,rfl,zmeb ok1,λb hb=>?_⟩;refine⟨p,b,ws,_,_,turns u,rfl,W3,u4,ok3,zleb u,.inl hb,λH4 W4 B4=>?_⟩;obtain⟨dx4,l4,at4,_⟩:=id W4;refine⟨_,rfl,_,rfl,_,rfl,_,rfl,_,rfl,p,ws,_,_,v,rfl,W4,ok4,hd4,λH5 W5 B5=>?_⟩;refine⟨sz5,λb hb=>?_⟩;have en:k+1+y.words.length+1+1+v.words.length=ws.length:=by
   have:=zdv hd3 (ypb _ _);rw[yga] at this;omega
  rw[en] at W5;exact q _ _ (W5.at (zbb hb _)) ((B1.trans (B2.trans (B3'.trans (B4.trans B5)))).trans (But.laid hb)) ⟨b,x,rfl,zga,(((IW.but B3' at2).but B4 at3).but B5 at4).same (zbb hb _)⟩
 | hold=>exact is.elim
 | wen=>exact is.elim
 | may=>exact is.elim
theorem ziz (T:Tx K mg)(kb:K.In base):FnOk P w K mg base CX0 7 T.zuf.f T.zuf.d zmo (zzt T.zmb T.ztb zdrb):=by
 refine T.zuf.ok znq ?_;rintro f c A o s H vs Q E hr ⟨p,ws,k,r,rfl,is,W,ok,hd,q⟩ X;refine⟨_,  (zba (zqa (i:=1) znq.nd rfl (.inl rfl) (zbd (pv 0) T.zeb T.zwa.M (zyb T).up hr (zcc T) .nil zta))
  (zba (zkd (zee (pv 0) T.zeb T.zpa.M (zdb T).up hr (zfb T) .nil zta (zaa (zub (zaa zma zca)) zca)))
  (zea (zua (zub (zaa zma (zaa (pv 1) (zaa (zja (zlp T kb) hr rfl T.znd.m T.znd.F.kp (zwr T) .nil zta (zaa (pv 0) zca)) zca)))))))),?_⟩
 cases r with
 | may c d =>
  obtain⟨dx,l,h1,h2⟩:=id W;obtain⟨ok1,ok2⟩:=ok;obtain⟨u1,hd1⟩:=zsb (show ws.drop k=(toString (c:Int):Str)::("do":Str)::d.words from hd);obtain⟨u3,hd3⟩:=zsb hd1;refine⟨_,rfl,p,dx,_,rfl,h1,zdc _ _ (by decide +kernel) (by decide +kernel),p,ws,k,c,rfl,W,u1,ok1,λH2 W2 B2=>?_⟩;obtain⟨dx2,l2,at2,_⟩:=id W2;refine⟨_,rfl,p,dx2,_,rfl,at2,zdc _ _ (by decide +kernel) (by decide +kernel),sz1,λa ha=>?_⟩;refine⟨p,a,ws,_,_,["do"],rfl,W2.at (zbb ha _),u3,yja.mpr rfl,(by decide),.inr zga,λH3 W3 B3=>?_⟩;have B3':But p H2 H3:=(But.laid ha).trans B3;refine⟨_,rfl,_,rfl,p,ws,_,d,rfl,W3,ok2,hd3,λz H4 W4 B4 ID=>?_⟩;refine⟨sz3,λb hb=>?_⟩;exact q _ _ (W4.at (zbb hb _)) ((B2.trans (B3'.trans B4)).trans (But.laid hb)) ⟨b,z,rfl,zga,ID.same (zbb hb _)⟩
 | hold=>exact is.elim
 | wen=>exact is.elim
 | instead=>exact is.elim
def zxeb:Rule->Str
 | .hold _ _ _=>"hold"
 | .wen _ _ _=>"when"
 | .instead _ _ _ _=>"instead"
 | .may _ _=>"may"
theorem zefb (r:Rule):r.words=(zxeb r)::r.words.drop 1:=by cases r<;>rfl
theorem zdfb (r:Rule):(zxeb r)∈sorts:=by
 cases r with
 | hold=>exact (by decide:("hold":Str)∈sorts)
 | wen=>exact (by decide:("when":Str)∈sorts)
 | instead=>exact (by decide:("instead":Str)∈sorts)
 | may=>exact (by decide:("may":Str)∈sorts)
theorem zgeb (v:Wv):v.words.length≤1:=by cases v<;>simp[Wv.words]
theorem zwv {y:Wh}(h:plain y):y.words.length≤18:=by
 have a:=y.zvv;have b:=h.2;omega
theorem zypb {u:Str}{v:Hv}(h:zph u v):v.words.length≤18:=by
 cases v with
 | v x=>exact yxa (zgeb x) (by decide)
 | w y =>
  cases h with
  | per h=>exact zwv h
theorem zgcb {d:Deed}(h:d.ok):d.words.length≤21:=by
 have a:=zwv h.whom;have b:=zgeb d.amt;have e:d.words.length=d.amt.words.length+d.whom.words.length+1+1:=by
  show (d.each::d.kind::(d.amt.words++d.whom.words)).length=_
  rw[yga,yga,yea]
 omega
theorem zyhb {r:Rule}(h:r.ok):r.words.length≤50:=by
 cases r with
 | hold u v y =>
  have a:=zwv h.2;have b:=zypb h.1;show (("hold":Str)::u::(v.words++y.words)).length≤50
  rw[yga,yga,yea];omega
 | wen u y d =>
  have a:=zwv h.2.1;have b:=zgcb h.2.2;show (("when":Str)::u::(y.words++("do":Str)::d.words)).length≤50
  rw[yga,yga,yea,yga];omega
 | instead u y t v =>
  have a:=zwv h.2.1;have b:=zgeb v;show (("instead":Str)::u::(y.words++("do":Str)::t::v.words)).length≤50
  rw[yga,yga,yea,yga,yga];omega
 | may c d =>
  have b:=zgcb h.2;show (("may":Str)::(toString (c:Int):Str)::("do":Str)::d.words).length≤50
  rw[yga,yga,yga];omega
theorem text_len {ws:List Str}(h:∀u∈ws,zwt u):(yra " " ws).length≤9*ws.length:=by
 have a:=zbl " " ws;have c:=zuo (l:=ws.map (·.length)) (k:=8) (λx hx=>by
  obtain⟨u,hu,rfl⟩:=ybb.mp hx;exact (h u hu).2.2)
 rw[yda] at c;have e:(" ":Str).length=1:=rfl;rw[e] at a;omega
theorem zzm {r:Rule}(h:r.ok):(zne r).length≤450:=by
 have a:=text_len (ws:=r.words) (λu hu=>(Rule.zug h u hu).1);have b:=zyhb h;show (yra " " r.words).length≤450
 omega
def zbob (D:Addr):Sp:=λvs H Q _=>∃r:Rule,vs=[.str (zne r)]∧r.ok∧∀v H',Same H H'->zuj D H' v r->Q v H'
theorem zww (T:Tx K mg)(kb:K.In base):FnOk P w K mg base CX0 8 T.zse.f T.zse.d zam (zbob T.ztb):=by
 refine T.zse.ok zbe ?_;rintro f c A o s H vs Q E hr ⟨r,rfl,ok,q⟩ X;refine⟨_,  (zba (zqa (i:=1) zbe.nd rfl (.inl rfl) (zgu T.zgc.M (zubb T).up hr rfl T.zqz (ztj T) .nil zta (zaa (pv 0) zca)))
  (zba (zqa (i:=2) zbe.nd rfl (.inl rfl) (zee (pv 1) T.zeb T.zpa.M (zdb T).up hr (zfb T) .nil zta (zaa (zpf (v:=.ref T.zov) rfl T.zyu rfl) zca)))
  (zba (zxb (zoa zsc (pv 2) zma (zya _))
   (zea (zqa (i:=3) zbe.nd rfl (.inl rfl) (zja (zuw T kb) hr rfl T.zre.m T.zre.F.kp (zyz T) .nil zta (zaa (pv 1) zca))))
   (zea (zxb (zoa zsc (pv 2) zma (zya _))
    (zea (zqa (i:=3) zbe.nd rfl (.inl rfl) (zja (ztw T kb) hr rfl T.zqe.m T.zqe.F.kp (zxz T) .nil zta (zaa (pv 1) zca))))
    (zea (zxb (zoa zsc (pv 2) zma (zya _))
     (zea (zqa (i:=3) zbe.nd rfl (.inl rfl) (zja (zkr T kb).up hr rfl T.zgd.m T.zgd.F.kp (zts T) .nil zta (zaa (pv 1) zca))))
     (zea (zqa (i:=3) zbe.nd rfl (.inl rfl) (zja (ziz T kb) hr rfl T.zuf.m T.zuf.F.kp (zzdb T) .nil zta (zaa (pv 1) zca)))))))))
  (zba (zkd (zbd (pv 1) T.zeb T.zuc.M (zik T).up hr (zjl T) .nil zta))
  (zea (zua (pv 3))))))),?_⟩
 have tl:=zzm ok;refine⟨_,rfl,?_⟩;intro x dx nx ndx nex;refine⟨x,dx,_,rfl,zga,(by omega),λH1 W1 B1=>⟨rfl,?_⟩⟩;have es:yme (zne r) " " = r.words:=ztn (c:=32) r.zrd (λu hu=>(Rule.zug ok u hu).1.1);rw[es] at W1;have S1:Same H H1:=λb o e=>B1 b o (zka e nx) (by rw[zva (zka e nx),zva (zka e ndx)];exact e);obtain⟨dx1,l1,at1,_⟩:=id W1;refine⟨_,rfl,x,dx1,_,rfl,at1,zdc _ _ (by decide +kernel) (by decide +kernel),x,_,r.words,0,(zxeb r),sorts,rfl,W1,(by rw[zefb r];rfl),zdfb r,(by decide),.inl T.zsu,λH2 W2 B2=>?_⟩;have fin:∀{v:V} {H3:Hp},WAt T.zmb H3 x r.words r.words.length->But x H2 H3->zuj T.ztb H3 v r->Q v H3:=λ{v H3} W3 B3 IR =>
  q v H3 (λb o e=>B3 b o (zka e nx) (B2 b o (zka e nx) (S1 b o e))) IR
 refine⟨_,rfl,rfl,_,rfl,?_⟩;cases r with
 | hold u v y =>
  refine iteT ⟨_,rfl,x,_,1,.hold u v y,rfl,trivial,W2,ok,rfl,λz H3 W3 B3 IR=>?_⟩;obtain⟨dx3,l3,at3,_⟩:=id W3;exact⟨_,rfl,x,dx3,_,rfl,at3,zdc _ _ (by decide +kernel) (by decide +kernel),x,_,rfl,W3,⟨_,rfl,fin W3 B3 IR⟩⟩
 | wen u y d =>
  refine iteF ⟨_,rfl,rfl,_,rfl,iteT ⟨_,rfl,x,_,1,.wen u y d,rfl,trivial,W2,ok,rfl,λz H3 W3 B3 IR=>?_⟩⟩;obtain⟨dx3,l3,at3,_⟩:=id W3;exact⟨_,rfl,x,dx3,_,rfl,at3,zdc _ _ (by decide +kernel) (by decide +kernel),x,_,rfl,W3,⟨_,rfl,fin W3 B3 IR⟩⟩
 | instead u y t v =>
  refine iteF ⟨_,rfl,rfl,_,rfl,iteF ⟨_,rfl,rfl,_,rfl,iteT ⟨_,rfl,x,_,1,.instead u y t v,rfl,trivial,W2,ok,rfl,λz H3 W3 B3 IR=>?_⟩⟩⟩;obtain⟨dx3,l3,at3,_⟩:=id W3;exact⟨_,rfl,x,dx3,_,rfl,at3,zdc _ _ (by decide +kernel) (by decide +kernel),x,_,rfl,W3,⟨_,rfl,fin W3 B3 IR⟩⟩
 | may c d =>
  refine iteF ⟨_,rfl,rfl,_,rfl,iteF ⟨_,rfl,rfl,_,rfl,iteF ⟨_,rfl,x,_,1,.may c d,rfl,trivial,W2,ok,rfl,λz H3 W3 B3 IR=>?_⟩⟩⟩;obtain⟨dx3,l3,at3,_⟩:=id W3;exact⟨_,rfl,x,dx3,_,rfl,at3,zdc _ _ (by decide +kernel) (by decide +kernel),x,_,rfl,W3,⟨_,rfl,fin W3 B3 IR⟩⟩
def cfs (n:Str)(c f:Nat)(m t:Addr):List (Str×V):=[("name",.str n),("cost",.int c),("force",.int f),("marks",.ref m),("rules",.ref t)]
inductive IsRules (D:Addr)(H:Hp):List V->List Rule->Prop where
 | nil:IsRules D H [] []
 | cons {v:V} {r:Rule} {vs:List V} {rs:List Rule}:zuj D H v r->IsRules D H vs rs->IsRules D H (v::vs) (r::rs)
theorem IsRules.same {D:Addr}{H H':Hp}(s:Same H H'):∀{vs:List V} {rs:List Rule},IsRules D H vs rs->IsRules D H' vs rs
 | _,_,.nil=>.nil
 | _,_,.cons h t=>.cons (h.same s) (t.same s)
theorem IsRules.snoc {D:Addr}{H:Hp}{v:V}{r:Rule}(h:zuj D H v r):∀{vs:List V} {rs:List Rule},IsRules D H vs rs->IsRules D H (vs++[v]) (rs++[r])
 | _,_,.nil=>.cons h .nil
 | _,_,.cons h' t=>.cons h' (IsRules.snoc h t)
theorem IsRules.length {D:Addr}{H:Hp}:∀{vs:List V} {rs:List Rule},IsRules D H vs rs->vs.length=rs.length
 | _,_,.nil=>rfl
 | _,_,.cons _ t=>congrArg (· + 1) t.length
theorem IsRules.get {D:Addr}{H:Hp}:∀{vs:List V} {rs:List Rule} {i:Nat} {v:V},IsRules D H vs rs->vs[i]?=some v->∃r,rs[i]?=some r∧zuj D H v r
 | _,_,0,_,.cons h _,e=>by cases e;exact⟨_,rfl,h⟩
 | _,_,i+1,_,.cons _ t,e=>t.get (i:=i) e
def zvy (B D:Addr)(H:Hp)(v:V)(c:Crd):Prop:=Ex5 λa dx m t vs=>v = .ref a∧H a=some (.ins B dx (cfs c.name c.cost c.force m t))∧H m=some (.tup (c.marks.map V.str))∧H t=some (.tup vs)∧IsRules D H vs c.rules
def zdlb:Sp:=λvs H Q _=>∃ms:List Str,vs=[.str (zfi ms)]∧Marks ms∧∀m H',Same H H'->H' m=some (.tup (ms.map V.str))->Q (.ref m) H'
def zxcb (B:Addr):Sp:=λvs H Q _=>Ex7 λx dx m t (n:Str) (c f:Nat)=>vs=[.ref x,.str n,.int c,.int f,.ref m,.ref t]∧H x=some (.ins B dx [])∧Q .non (upd H x (.ins B dx (cfs n c f m t)))
def zwcb (B D:Addr):Sp:=λvs H Q _=>∃c:Crd,vs=[.str c.text]∧c.ok∧∀v H',Same H H'->zvy B D H' v c->Q v H'
theorem zujb (n:Str)(c f:V)(m t:Addr):putF "rules" (.ref t) (putF "marks" (.ref m) (putF "force" f (putF "cost" c (putF "name" (.str n) []))))=([("name",.str n),("cost",c),("force",f),("marks",.ref m),("rules",.ref t)]:List (Str×V)):=by
 repeat (first|rw[zwn]|rw[zcj (by decide +kernel)])
theorem zaz {K:yba}{H:Hp}:∀xs:List Str,DVs K H (xs.map V.str) (xs.map .str)
 | []=>.nil
 | x::r=>.cons (.str x) (zaz r)
theorem zbcb:∀xs:List Str,yaf (xs.map .str) (xs.map .str)=true
 | []=>by simp[yaf]
 | x::r=>by simp[yaf,ycg,zbcb r]
theorem zfmb (T:Tx K mg):FnOk P w K mg base CX0 2 T.zad.f T.zad.d zoh (zxcb T.zqg):=by
 refine T.zad.ok zvp ?_;rintro f c A o s H vs Q E hr ⟨x,dx,m,t,n,c,f,rfl,hx,q⟩ X;refine⟨_,  (zba (zil (pv 0) (pv 1) rfl)
  (zba (zil (pv 0) (pv 2) rfl)
  (zba (zil (pv 0) (pv 3) rfl)
  (zba (zil (pv 0) (pv 4) rfl)
  (zea (zil (pv 0) (pv 5) rfl)))))),?_⟩
 refine⟨_,rfl,_,rfl,x,_,dx,_,rfl,hx,T.zpl,T.zfj,(by show 0<1000;decide),?_⟩;refine⟨_,rfl,_,rfl,x,_,dx,_,rfl,zga,T.zpl,T.zgj,(by show 1<1000;decide),?_⟩;refine⟨_,rfl,_,rfl,x,_,dx,_,rfl,zga,T.zpl,T.zei,(by show 2<1000;decide),?_⟩;refine⟨_,rfl,_,rfl,x,_,dx,_,rfl,zga,T.zpl,T.zdi,(by show 3<1000;decide),?_⟩;refine⟨_,rfl,_,rfl,x,_,dx,_,rfl,zga,T.zpl,T.zng,(by show 4<1000;decide),?_⟩;show Q .non _
 rw[zwj,zwj,zwj,zwj,zujb];exact q
theorem zuib {n:Str}(h:zie n):yge (.str n)=true:=by
 rw[yge];unfold PyData.strOk;rw[← Array.all_toList,yue];intro c hc;have:=(h.2.2 c hc).2;simp;omega
theorem zybb:∀xs:List Str,(∀x∈xs,yge (.str x)=true)->yie (xs.map .str)=true
 | [],_=>by simp[yie]
 | x::r,h=>by
  have h1:=h x yia;have h2:=zybb r λy hy=>h y (yna _ hy);rw[yva,yie,h1,h2];rfl
theorem zfcb:∀xs:List Str,ywd (xs.map .str)=0
 | []=>by simp[ywd]
 | x::r=>by simp[ywd,yih,zfcb r]
theorem zvo {ms:List Str}(h:∀m∈ms,zie m):yid (.list (ms.map .str))=true:=by
 unfold yid;rw[yge,zybb ms (λx hx=>zuib (h x hx)),yih,zfcb];rfl
theorem zju (T:Tx K mg):FnOk P w K mg base CX0 3 T.zwd.f T.zwd.d zqk zdlb:=by
 refine T.zwd.ok ztm ?_;rintro f c A o s H vs Q E hr ⟨ms,rfl,hm,q⟩ X;refine⟨_,  (zba (zxb (zoa zsc (pv 0) zma (zya _))
   (zea (zua (zub zca)))
   zsa)
  (zba (zqa (i:=1) ztm.nd rfl (.inl rfl) (zrh ydd ysh yth zpu (pv 0) (zaa zma zca)))
  (zba (zxb (zrj (zih (zib (zjv rfl) rfl T.zpcb boot_all (zaa (zqf (own:=["mark"]) (cap:=[]) rfl (zkc.chk rfl rfl) .nil (zde (pv 1)) (λ_ _ _ _=>(zza (i:=0) (show ycd (["mark"]:List Str) by decide +kernel) rfl (.inl rfl))) (λ_ _ _ _=>zxn) (λ_ _ _ _=>by exact (zja (zit T) hr rfl T.zkf.m T.zkf.F.kp (ziy T) .nil zta (zaa (pv 0) zca)))) zca))))
   (zea zof)
   zsa)
  (zba (zxb (zoa (ztbb hr.units) (pv 1) (zib (zvr rfl) rfl T.zyi ywm (zaa (zfe (zgv rfl) rfl T.zghb boot_set (zaa (pv 1) zca)) zca)) (zya _))
   (zea zof)
   zsa)
  (zea (zua (zfe zch rfl T.zxi ypk (zaa (pv 1) zca)))))))),?_⟩
 refine⟨_,rfl,rfl,_,rfl,?_⟩
 by_cases hne:ms=[]
 ·subst hne;exact iteT ⟨sz0,λa ha=>q a _ (zbb ha _) zga⟩
 refine ite2 (λc=>?_) (λ_=>?_)
 ·exfalso;have c':=of_decide_eq_true c;injection c' with c'
  exact zvfb hm hne c'
 have ml:=zdo hm;have es:yme (zfi ms) "," = ms:=zoz hm hne;refine⟨_,rfl,rfl,_,_,rfl,rfl,(by decide +kernel),(yxa (yii ml.2 2) (by decide)),λl hl=>?_⟩;rw[es];have S1:=zbb hl (.lst (ms.map V.str));have e1:upd H l (.lst (ms.map V.str)) l=some (.lst (ms.map V.str)):=zga;generalize upd H l (.lst (ms.map V.str))=H1 at *;refine⟨_,rfl,l,rfl,⟨_,SqL.of e1⟩,?_⟩;refine zoe (xs:=ms.map V.str) (λi ys H'=>Same H1 H'∧i≤ms.length∧ys=((ms.take i).map isName).map V.bl) (λi ys H' z=>SqL.of (z.1 _ _ e1)) ⟨Same.refl _,ylb _,rfl⟩ ?_ ?_ ?_
 ·rintro i ys H' ⟨_,_,rfl⟩;rw[yda,yda,ydb];have:=hm.le;exact small (by omega)
 ·rintro i x ys H' hx ⟨S3,hi,rfl⟩;obtain⟨m,hmm,rfl⟩:∃m,ms[i]?=some m∧V.str m=x:=by
   rw[yvb] at hx;cases z:ms[i]? with
   | none=>rw[z] at hx;cases hx
   | some m=>rw[z] at hx;cases hx;exact⟨m,rfl,rfl⟩
  have hmem:=yob hmm;refine⟨rfl,_,rfl,m,rfl,(yxa (hm.ok m hmem).2.1 (by decide)),λH4 S4=>⟨S3.trans S4,?_,?_⟩⟩
  ·exact (yla.mp hmm).1
  ·rw[ykb,hmm,yib,yib];rfl
 ·rintro ys H2 ⟨S2,_,rfl⟩ b hb;rw[yda,yfl];have S3:=zbb hb (.lst ((ms.map isName).map V.bl));refine⟨b,_,rfl,SqL.of zga,_,rfl,?_⟩;have al:(ms.map isName).all id=true:=by
   rw[yue];intro x hx;obtain⟨m,hmm,rfl⟩:=ybb.mp hx;exact zlr (hm.ok m hmm)
  rw[al];refine iteF ?_;have e3:=S3 _ _ (S2 _ _ e1);generalize upd H2 b (.lst ((ms.map isName).map V.bl))=H3 at *;have ml2:=hm.le;refine⟨_,rfl,_,rfl,l,ms,rfl,SqL.of e3,(by omega),λp hp=>?_⟩;have S4:∀o,Same H3 (upd H3 p o):=λo=>zbb hp o;refine⟨p,_,rfl,zga,(by rw[zicb hm.nd];omega),λp2 ys hp2 py so=>?_⟩;have ey:=hm.same py so;subst ey;have S5:=zbb hp2 (.lst (ys.map V.str));refine⟨.list (ys.map .str),.list (ys.map .str),.lst (SqL.of (S5 _ _ (S4 _ _ _ e3))) (zaz _),.lst (SqL.of zga) (zaz _),zvo hm.ok,zvo hm.ok,_,rfl,?_⟩;have ev:(!PyData.eqv (.list (ys.map .str)) (.list (ys.map .str)))=false:=by
   rw[ycg,zbcb];rfl
  rw[ev];refine iteF ?_;refine⟨_,rfl,l,_,rfl,.inl ⟨SqL.of (S5 _ _ (S4 _ _ _ e3)),λt ht=>?_⟩⟩;exact q t _ (λc o e=>zbb ht _ _ _ (S5 _ _ (S4 _ _ _ (S3 _ _ (S2 _ _ (S1 _ _ e)))))) zga
theorem zvkb {c:Crd}(h:c.ok):c.text.length≤2000:=by
 have a:=zbl SL (yra " " c.head::c.rules.map zne);have b:=Crd.zwu h;have s:=zuo (l:=(c.rules.map zne).map (·.length)) (k:=450) (λx hx=>by
  obtain⟨t,ht,rfl⟩:=ybb.mp hx;obtain⟨r,hr,rfl⟩:=ybb.mp ht;exact zzm (h.rules r hr))
 have e:SL.length=3:=rfl;have f:=h.few;rw[yva,yze,yga,e] at a;rw[yda,yda] at s;rw[yda] at a;show (yra SL (yra " " c.head::c.rules.map zne)).length≤2000
 have:c.rules.length*450≤3*450:=Nat.mul_le_mul_right _ f;omega
theorem zxw (T:Tx K mg)(kb:K.In base):FnOk P w K mg base CX0 9 T.zte.f T.zte.d zbm (zwcb T.zqg T.ztb):=by
 refine T.zte.ok zce ?_;rintro f c A o s H vs Q E hr ⟨c,rfl,ok,q⟩ X;refine⟨_,  (zba (zxb (zrj (zih (zib zlh rfl T.zdd ylg (zaa (pv 0) (zaa (zyn (v:=.ty "str") rfl T.zocb boot_str rfl) zca)))))
   (zea zof)
   zsa)
  (zba (zqa (i:=1) zce.nd rfl (.inl rfl) (zrh ydd ysh yth zpu (pv 0) (zaa zma zca)))
  (zba (zxb (zoa zos (zib zgb rfl T.zig ymb (zaa (pv 1) zca)) (zfc zci zfa (zpf (v:=.int 3) rfl T.zli ⟨_,rfl⟩)) (zya _))
   (zea zof)
   zsa)
  (zba (zqa (i:=2) zce.nd rfl (.inl rfl) (zgu T.zgc.M (zubb T).up hr rfl T.zqz (ztj T) .nil zta (zaa (znb zic (pv 1) zfa (λ_ _=>rfl)) zca)))
  (zba (zqa (i:=3) zce.nd rfl (.inl rfl) (zbd (pv 2) T.zeb T.zpb.M (zud T).up hr (zke T) .nil zta))
  (zba (zqa (i:=4) zce.nd rfl (.inl rfl) (zbd (pv 2) T.zeb T.zwa.M (zyb T).up hr (zcc T) .nil zta))
  (zba (zqa (i:=5) zce.nd rfl (.inl rfl) (zbd (pv 2) T.zeb T.zwa.M (zyb T).up hr (zcc T) .nil zta))
  (zba (zqa (i:=6) zce.nd rfl (.inl rfl) (zja (zju T).up hr rfl T.zwd.m T.zwd.F.kp (zgy T) .nil zta (zaa (zbd (pv 2) T.zeb T.zoc.M (zrf T).up hr (zrg T) .nil zta) zca)))
  (zba (zkd (zbd (pv 2) T.zeb T.zuc.M (zik T).up hr (zjl T) .nil zta))
  (zea (zua (zgu T.zad.M (zfmb T).up hr rfl T.zgkb (zyr T) .nil zta (zaa (pv 3) (zaa (pv 4) (zaa (pv 5) (zaa (pv 6) (zaa (zfe zch rfl T.zxi ypk (zaa (zqf (own:=["rule"]) (cap:=[]) rfl (zkc.chk rfl rfl) .nil (zde (zai zmq (pv 1) (zck zfa) zdk)) (λ_ _ _ _=>(zza (i:=0) (show ycd (["rule"]:List Str) by decide +kernel) rfl (.inl rfl))) (λ_ _ _ _=>zxn) (λ_ _ _ _=>by exact (zja (zww T kb) hr rfl T.zse.m T.zse.F.kp (zaab T) .nil zta (zaa (pv 0) zca)))) zca)) zca))))))))))))))))),?_⟩
 have tl:=zvkb ok;refine⟨_,rfl,_,_,.type "str",true,rfl,TyOf.str _,.inl ⟨"str",rfl,rfl⟩,true,rfl,?_⟩;refine iteF ?_;have es:yme c.text " / " = yra " " c.head::c.rules.map zne:=Crd.split ok;refine⟨_,rfl,rfl,_,_,rfl,rfl,(by decide +kernel),(yxa (yii tl 2) (by decide)),λl hl=>?_⟩;rw[es];have S1:=zbb hl (.lst ((yra " " c.head::c.rules.map zne).map V.str));have e1:upd H l (.lst ((yra " " c.head::c.rules.map zne).map V.str)) l=some (.lst ((yra " " c.head::c.rules.map zne).map V.str)):=zga;generalize upd H l (.lst ((yra " " c.head::c.rules.map zne).map V.str))=H1 at *;refine⟨_,rfl,l,_,rfl,.inl (SqL.of e1),_,_,rfl,rfl,_,_,rfl,rfl,_,rfl,?_⟩;refine ite2 (λz=>?_) (λ_=>?_)
 ·exfalso;have z':=of_decide_eq_true z;rw[yda,yga,yda] at z';have:=ok.few;omega
 refine⟨_,rfl,l,_,_,_,rfl,rfl,SqL.of e1,zia (j:=0) rfl,?_⟩;intro x dx nx ndx nex;have hl2:=Crd.zwu ok;refine⟨x,dx,_,rfl,zga,(by omega),λH2 W2 B2=>⟨rfl,?_⟩⟩;rw[show yme (yra " " c.head) " " = c.head from Crd.zrdb ok] at W2;have S2:Same H1 H2:=λb o e=>B2 b o (zka e nx) (by rw[zva (zka e nx),zva (zka e ndx)];exact e);obtain⟨dx2,l2,at2,_⟩:=id W2;refine⟨_,rfl,x,dx2,_,rfl,at2,zdc _ _ (by decide +kernel) (by decide +kernel),x,c.head,0,c.name,rfl,W2,rfl,ok.name,λH3 W3 B3=>?_⟩;obtain⟨dx3,l3,at3,_⟩:=id W3;refine⟨_,rfl,x,dx3,_,rfl,at3,zdc _ _ (by decide +kernel) (by decide +kernel),x,c.head,1,c.cost,rfl,W3,rfl,ok.cost,λH4 W4 B4=>?_⟩;obtain⟨dx4,l4,at4,_⟩:=id W4;refine⟨_,rfl,x,dx4,_,rfl,at4,zdc _ _ (by decide +kernel) (by decide +kernel),x,c.head,2,c.force,rfl,W4,rfl,ok.force,λH5 W5 B5=>?_⟩;obtain⟨dx5,l5,at5,_⟩:=id W5;refine⟨_,rfl,x,dx5,_,rfl,at5,zdc _ _ (by decide +kernel) (by decide +kernel),x,c.head,3,zfi c.marks,rfl,W5,rfl,λH6 W6 B6=>?_⟩;refine⟨c.marks,rfl,ok.marks,λm H7 S7 em=>?_⟩;have W7:=W6.at S7;obtain⟨dx7,l7,at7,_⟩:=id W7;refine⟨_,rfl,x,dx7,_,rfl,at7,zdc _ _ (by decide +kernel) (by decide +kernel),x,c.head,rfl,W7,?_⟩;have S37:Same H H7:=λb o e=>by
  have n:=zka (S1 _ _ e) nx;exact S7 _ _ (B6 _ _ n (B5 _ _ n (B4 _ _ n (B3 _ _ n (S2 _ _ (S1 _ _ e))))))
 have nlx:=zka e1 nx;have e7:H7 l=some (.lst ((yra " " c.head::c.rules.map zne).map V.str)):=S7 _ _ (B6 _ _ nlx (B5 _ _ nlx (B4 _ _ nlx (B3 _ _ nlx (S2 _ _ e1)))));clear W2 W3 W4 W5 W6 at2 at3 at4 at5;refine⟨_,rfl,_,rfl,_,rfl,_,rfl,_,rfl,_,rfl,l,_,rfl,SqL.of e7,λs1 hs1=>?_⟩;have ct:cutV ((yra " " c.head::c.rules.map zne).map V.str) (some (1:Int)) none=(c.rules.map zne).map V.str:=by
  have:=zmn ((yra " " c.head::c.rules.map zne).map V.str) 1;exact this
 rw[ct];have S8:=zbb hs1 (.lst ((c.rules.map zne).map V.str));have e8:upd H7 s1 (.lst ((c.rules.map zne).map V.str)) s1=some (.lst ((c.rules.map zne).map V.str)):=zga;generalize upd H7 s1 (.lst ((c.rules.map zne).map V.str))=H8 at *;refine⟨s1,rfl,⟨_,SqL.of e8⟩,?_⟩;refine zoe (xs:=(c.rules.map zne).map V.str) (λi ys H'=>Same H8 H'∧i≤c.rules.length∧IsRules T.ztb H' ys (c.rules.take i)) (λi ys H' z=>SqL.of (z.1 _ _ e8)) ⟨Same.refl _,ylb _,.nil⟩ ?_ ?_ ?_
 ·rintro i ys H' ⟨_,_,R⟩;rw[R.length,ydb];have:=ok.few;exact small (by omega)
 ·rintro i v ys H' hx ⟨S3,hi,R⟩;obtain⟨r,hrr,rfl⟩:∃r,c.rules[i]?=some r∧V.str (zne r)=v:=by
   rw[yvb,yvb] at hx;cases z:c.rules[i]? with
   | none=>rw[z] at hx;cases hx
   | some m=>rw[z] at hx;cases hx;exact⟨m,rfl,rfl⟩
  refine⟨rfl,_,rfl,r,rfl,ok.rules r (yob hrr),λu H9 S9 IR=>⟨S3.trans S9,?_,?_⟩⟩
  ·exact (yla.mp hrr).1
  ·rw[ykb,hrr];exact IsRules.snoc IR (R.same S9)
 ·rintro ys H9 ⟨S9,_,R⟩ b hb;rw[yda,yda,yfl] at R;refine⟨b,_,rfl,.inl ⟨SqL.of zga,λt ht=>?_⟩⟩;have S10:=zbb hb (.lst ys);generalize upd H9 b (.lst ys)=H10 at *;have S11:=zbb ht (.tup ys);have e11:upd H10 t (.tup ys) t=some (.tup ys):=zga;have Sall:Same H (upd H10 t (.tup ys)):=λb o e=>S11 _ _ (S10 _ _ (S9 _ _ (S8 _ _ (S37 _ _ e))));have em11:=S11 _ _ (S10 _ _ (S9 _ _ (S8 _ _ em)));have R11:=R.same (S10.trans S11);generalize upd H10 t (.tup ys)=H11 at *;intro y dy ny ndy ney;have S12:∀o,Same H11 (upd (upd (upd H11 dy (.own y)) y (.ins T.zqg dy [])) y o):=λo b u e=>by
   rw[zwj,zva (zka e ny),zva (zka e ndy)];exact e
  refine⟨y,dy,m,t,c.name,c.cost,c.force,rfl,zga,rfl,?_⟩;exact q _ _ (Sall.trans (S12 _)) ⟨y,dy,m,t,ys,rfl,zga,S12 _ _ _ em11,S12 _ _ _ e11,R11.same (S12 _)⟩
structure Row where
 num:Int
 keeper:Int
 marks:List Str
 force:Int
 mute:Bool
def zfl (H:Hp)(v:V)(r:Row):Prop:=Ex2 λa m=>v = .ref a∧H a=some (.tup [.int r.num,.int r.keeper,.ref m,.int r.force,.bl r.mute])∧H m=some (.tup (r.marks.map V.str))
theorem zfl.same {H H':Hp}{v:V}{r:Row}(h:zfl H v r)(s:Same H H'):zfl H' v r:=by
 obtain⟨a,m,e,h1,h2⟩:=h;exact⟨a,m,e,s _ _ h1,s _ _ h2⟩
inductive zjd (H:Hp):List V->List Row->Prop where
 | nil:zjd H [] []
 | cons {v:V} {r:Row} {vs:List V} {rs:List Row}:zfl H v r->zjd H vs rs->zjd H (v::vs) (r::rs)
theorem zjd.map {H H':Hp}(f:∀v r,zfl H v r->zfl H' v r):∀{vs:List V} {rs:List Row},zjd H vs rs->zjd H' vs rs
 | _,_,.nil=>.nil
 | _,_,.cons h t=>.cons (f _ _ h) (zjd.map f t)
theorem zjd.length {H:Hp}:∀{vs:List V} {rs:List Row},zjd H vs rs->vs.length=rs.length
 | _,_,.nil=>rfl
 | _,_,.cons _ t=>by rw[yga,yga,t.length]
theorem zjd.get {H:Hp}:∀{vs:List V} {rs:List Row} {i:Nat} {v:V},zjd H vs rs->vs[i]?=some v->∃r,rs[i]?=some r∧zfl H v r
 | _,_,_,_,.nil,e=>by simp at e
 | _,_,0,_,.cons h t,e=>by
  rw[ybe] at e;cases e;exact⟨_,rfl,h⟩
 | _,_,i+1,_,.cons h t,e=>by
  rw[yyb] at e;obtain⟨w,h1,h2⟩:=t.get e;exact⟨w,by rw[yyb];exact h1,h2⟩
theorem zjd.snoc {H:Hp}:∀{vs:List V} {rs:List Row} {v:V} {r:Row},zjd H vs rs->zfl H v r->zjd H (vs++[v]) (rs++[r])
 | _,_,_,_,.nil,h=>.cons h .nil
 | _,_,_,_,.cons g t,h=>.cons g (t.snoc h)
def zehb (H:Hp)(v:V):Option Row->Prop
 | none=>v = .non
 | some r=>zfl H v r
def rowOf (rs:List Row)(thing:Int):Option Row:=rs.find? λr=>decide (r.num=thing)
theorem zbt {rs:List Row}{i:Nat}{t:Int}(h:∀j r,j<i->rs[j]?=some r->¬ r.num=t):(rs.take i).find? (λr=>decide (r.num=t))=none:=by
 rw[List.find?_eq_none];intro r hr;obtain⟨j,hj⟩:=ymm hr;rw[List.getElem?_take] at hj
 split at hj
 ·rename_i hlt
  simpa using h j r hlt hj
 ·cases hj
theorem zgfb {rs:List Row}{i:Nat}{t:Int}{r:Row}(h:∀j r,j<i->rs[j]?=some r->¬ r.num=t)(hr:rs[i]?=some r)(e:r.num=t):rowOf rs t=some r:=by
 have q:rs=rs.take i++rs.drop i:=(yei i rs).symm;have d:rs.drop i=r::rs.drop (i+1):=by
  obtain⟨hi,hv⟩:=yla.mp hr;rw[yvj hi,hv]
 unfold rowOf;rw[q,List.find?_append,zbt h,d,List.find?_cons_of_pos (by simpa using e)];rfl
theorem zedb {rs:List Row}{t:Int}(h:∀j r,j<rs.length->rs[j]?=some r->¬ r.num=t):rowOf rs t=none:=by
 have q:=zbt (i:=rs.length) h;rw[ysa (yma _)] at q;exact q
def zjf (row:Option Row)(number keeper thing:Int):Wh->Bool
 | .all=>true
 | .self=>decide (thing=number)
 | .mine=>match row with
  | none=>decide (thing = -1-keeper)
  | some r=>decide (r.keeper=keeper)
 | .mark n=>match row with
  | none=>false
  | some r=>inV (.str n) (r.marks.map V.str)
 | .force i=>match row with
  | none=>false
  | some r=>decide ((i:Int)≤r.force)
 | .not a=>!zjf row number keeper thing a
 | .both a b=>zjf row number keeper thing a&&zjf row number keeper thing b
 | .any a b=>zjf row number keeper thing a||zjf row number keeper thing b
theorem zux (xs:List Str):(xs.map V.str).all zss=true:=by
 rw[yue];intro v hv;obtain⟨x,_,rfl⟩:=ybb.mp hv;rfl
def zclb (K:yba):Sp:=λvs H Q _=>Ex4 λsl us rs (t:Int)=>vs=[.ref sl,.int t]∧H sl=some (.lst us)∧zjd H us rs∧∀v,zehb H v (rowOf rs t)->Q v H
def zzj (D:Addr)(n:Nat):Sp:=λvs H Q _=>Ex7 λv rv (row:Option Row) (number keeper thing:Int) (y:Wh)=>vs=[v,rv,.int number,.int keeper,.int thing]∧IsW D H v y∧zehb H rv row∧y.depth≤n∧Q (.bl (zjf row number keeper thing y)) H
def zlq (D:Addr)(n:Nat):Sp:=λvs H Q _=>Ex7 λv rv (row:Option Row) (number keeper thing:Int) (y:Wh)=>vs=[v,rv,.int number,.int keeper,.int thing]∧IsW D H v y∧zehb H rv row∧y.depth≤n∧y.parts≠[]∧Q (.bl (zjf row number keeper thing y)) H
def zeob (D:Addr):Sp:=λvs H Q _=>Ex8 λv sl us rs (number keeper thing:Int) (y:Wh)=>vs=[v,.ref sl,.int number,.int keeper,.int thing]∧IsW D H v y∧H sl=some (.lst us)∧zjd H us rs∧y.size≤9∧Q (.bl (zjf (rowOf rs thing) number keeper thing y)) H
theorem zvw (T:Tx K mg):FnOk P w K mg base CX0 2 T.zbh.f T.zbh.d zqv (zclb K):=by
 refine T.zbh.ok zjw ?_;rintro f c A o s H vs Q E hr ⟨sl,us,rs,t,rfl,hsl,R,q⟩ X;refine⟨_,  (zba (zzh ygc rfl (zde (pv 0)) (zza (i:=2) zjw.nd rfl (.inl rfl))
   (zea (zxb (zoa zsc (znb zlc (pv 2) zfa (λ_ _=>rfl)) (pv 1) (zya _))
    (zea (zua (pv 2)))
    zsa)))
  (zea (zua zan))),?_⟩
 have rl:=R.length;refine⟨_,rfl,sl,rfl,⟨_,SqL.of hsl⟩,zij (xs:=us) (λi σ H'=>H'=H∧(∃o,σ=[some (.ref sl),some (.int t),o])∧∀j r,j<i->rs[j]?=some r->¬ r.num=t) ⟨rfl,⟨_,rfl⟩,λj r h=>absurd h (Nat.not_lt_zero _)⟩ (λi σ H' _ z=>by rw[z.1];exact SqL.of hsl) ?_ ?_⟩
 ·rintro i x σ H' hx ⟨rfl,⟨o,rfl⟩,hm⟩;obtain⟨r,hr,⟨a,m,rfl,h1,h2⟩⟩:=R.get hx;refine⟨_,rfl,a,_,_,_,rfl,rfl,SqT.of h1,rfl,_,rfl,rfl,_,rfl,?_⟩;refine ite2 (λc=>?_) (λc=>?_)
  ·have c':=of_decide_eq_true c;injection c' with c'
   have e:=zgfb hm hr c';exact⟨_,rfl,q _ (by rw[e];exact⟨a,m,rfl,h1,h2⟩)⟩
  ·refine⟨rfl,⟨_,rfl⟩,λj r' hj hr'=>?_⟩
   rcases yye j i with z|z
   ·exact hm j r' z hr'
   ·have ej:j=i:=by omega
    subst ej;rw[hr] at hr';cases hr';intro z;exact c (decide_eq_true (by rw[z]))
 ·rintro σ H' ⟨rfl,⟨o,rfl⟩,hm⟩;rw[rl] at hm;exact q .non (by rw[zedb hm];rfl)
theorem zav (T:Tx K mg){n k:Nat}(zqh:FnOk P w K mg base CX0 k T.zcb.f T.zcb.d zmd (zzj T.ztb n)):FnOk P w K mg base CX0 (k+1) T.zvb.f T.zvb.d zle (zlq T.ztb (n+1)):=by
 refine T.zvb.ok zyh ?_;rintro f c A o s H vs Q E hr ⟨v,rv,row,number,keeper,thing,y,rfl,W,R,hd,hne,q⟩ X;refine⟨_,  (zba (zqa (i:=5) zyh.nd rfl (.inl rfl) (zee (znb zlc (zff (pv 0) rfl) zfa (λ_ _=>rfl)) T.zjb T.zcb.M zqh hr (zsf T) .nil zta (zaa (pv 1) (zaa (pv 2) (zaa (pv 3) (zaa (pv 4) zca))))))
  (zba (zxb (zoa zsc (zff (pv 0) rfl) zma (zya _))
   (zea (zua (zekb (pv 5))))
   zsa)
  (zba (zxb (zoa zsc (zff (pv 0) rfl) zma (zya _))
   (zea (zua (zrbb (pv 5) (zkp (zee (znb zlc (zff (pv 0) rfl) zfa (λ_ _=>rfl)) T.zjb T.zcb.M zqh hr (zsf T) .nil zta (zaa (pv 1) (zaa (pv 2) (zaa (pv 3) (zaa (pv 4) zca)))))))))
   zsa)
  (zea (zua (zmib (pv 5) (zkp (zee (znb zlc (zff (pv 0) rfl) zfa (λ_ _=>rfl)) T.zjb T.zcb.M zqh hr (zsf T) .nil zta (zaa (pv 1) (zaa (pv 2) (zaa (pv 3) (zaa (pv 4) zca)))))))))))),?_⟩
 cases W with
 | @mk a dx t ps _ h1 h2 h3 =>
 have dp:=y.zuz;have rd:∀{x:V},IsW T.ztb H x y->True:=λ_=>trivial;have part:∀(i:Nat) (p:Wh),y.parts[i]?=some p->Ex3 λai dxi fsi=>ps[i]?=some (.ref ai)∧H ai=some (.ins T.ztb dxi fsi)∧fsi.lookup ("fits_row":Str)=none∧IsW T.ztb H (.ref ai) p∧p.depth≤n:=by
  intro i p hp;have hi:i<ps.length:=by rw[h3.length];exact (yla.mp hp).1
  obtain⟨p',hp',hw⟩:=h3.get (ywa hi);rw[hp] at hp';cases hp';have hm:p∈y.parts:=yob hp;have:=dp p hm;have hw':=hw
  revert hw'
  cases hq:ps[i] with
  | ref ai =>
   intro hw';have hw2:=hw';cases hw2 with
   | @mk a' dx' t' ps' _ k1 k2 k3=>exact⟨ai,dx',_,by rw[ywa hi,hq],k1,zacb _ _ _ (by decide +kernel) (by decide +kernel) (by decide +kernel),hw',by omega⟩
  | _=>intro hw';cases hw'
 have go:∀(i:Nat) (p:Wh),y.parts[i]?=some p->atI ps (i:Int)=some (ps.getD i .non):=λi p hp=>by
  obtain⟨ai,_,_,e,_⟩:=part i p hp;rw[zia e,yrb,e];rfl
 cases y with
 | not p =>
  obtain⟨a0,d0,f0,e0,g0,l0,w0,dd0⟩:=part 0 p rfl;refine⟨_,rfl,a,_,dx,_,_,rfl,h1,T.zjb,T.zvc,zvi _ _ _,t,_,_,_,rfl,rfl,SqT.of h2,zia e0,a0,d0,_,rfl,g0,l0,_,rfl,_,rfl,_,rfl,_,rfl,_,rv,row,number,keeper,thing,p,rfl,w0,R,dd0,?_⟩;refine⟨_,rfl,a,_,dx,_,_,rfl,h1,T.zjb,T.zab,zjc _ _ _,rfl,_,rfl,iteT ?_⟩;exact⟨_,rfl,_,rfl,q⟩
 | both p p' =>
  obtain⟨a0,d0,f0,e0,g0,l0,w0,dd0⟩:=part 0 p rfl;obtain⟨a1,d1,f1,e1,g1,l1,w1,dd1⟩:=part 1 p' rfl;refine⟨_,rfl,a,_,dx,_,_,rfl,h1,T.zjb,T.zvc,zvi _ _ _,t,_,_,_,rfl,rfl,SqT.of h2,zia e0,a0,d0,_,rfl,g0,l0,_,rfl,_,rfl,_,rfl,_,rfl,_,rv,row,number,keeper,thing,p,rfl,w0,R,dd0,?_⟩;refine⟨_,rfl,a,_,dx,_,_,rfl,h1,T.zjb,T.zab,zjc _ _ _,rfl,_,rfl,iteF ?_⟩;refine⟨_,rfl,a,_,dx,_,_,rfl,h1,T.zjb,T.zab,zjc _ _ _,rfl,_,rfl,iteT ?_⟩;refine⟨_,rfl,_,rfl,?_⟩;have q':Q (.bl (zjf row number keeper thing p&&zjf row number keeper thing p')) H:=q;cases e:zjf row number keeper thing p with
  | true =>
   rw[e,yud] at q';refine iteT ?_;exact⟨_,rfl,a,_,dx,_,_,rfl,h1,T.zjb,T.zvc,zvi _ _ _,t,_,_,_,rfl,rfl,SqT.of h2,zia e1,a1,d1,_,rfl,g1,l1,_,rfl,_,rfl,_,rfl,_,rfl,_,rv,row,number,keeper,thing,p',rfl,w1,R,dd1,q'⟩
  | false =>
   rw[e,yed] at q';exact iteF q'
 | any p p' =>
  obtain⟨a0,d0,f0,e0,g0,l0,w0,dd0⟩:=part 0 p rfl;obtain⟨a1,d1,f1,e1,g1,l1,w1,dd1⟩:=part 1 p' rfl;refine⟨_,rfl,a,_,dx,_,_,rfl,h1,T.zjb,T.zvc,zvi _ _ _,t,_,_,_,rfl,rfl,SqT.of h2,zia e0,a0,d0,_,rfl,g0,l0,_,rfl,_,rfl,_,rfl,_,rfl,_,rv,row,number,keeper,thing,p,rfl,w0,R,dd0,?_⟩;refine⟨_,rfl,a,_,dx,_,_,rfl,h1,T.zjb,T.zab,zjc _ _ _,rfl,_,rfl,iteF ?_⟩;refine⟨_,rfl,a,_,dx,_,_,rfl,h1,T.zjb,T.zab,zjc _ _ _,rfl,_,rfl,iteF ?_⟩;refine⟨_,rfl,_,rfl,?_⟩;have q':Q (.bl (zjf row number keeper thing p||zjf row number keeper thing p')) H:=q;cases e:zjf row number keeper thing p with
  | true =>
   rw[e,yfo] at q';exact iteT q'
  | false =>
   rw[e,ymn] at q';refine iteF ?_;exact⟨_,rfl,a,_,dx,_,_,rfl,h1,T.zjb,T.zvc,zvi _ _ _,t,_,_,_,rfl,rfl,SqT.of h2,zia e1,a1,d1,_,rfl,g1,l1,_,rfl,_,rfl,_,rfl,_,rfl,_,rv,row,number,keeper,thing,p',rfl,w1,R,dd1,q'⟩
 | _=>exact absurd rfl hne
theorem ztz (T:Tx K mg){n k:Nat}(zro:FnOk P w K mg base CX0 k T.zvb.f T.zvb.d zle (zlq T.ztb n)):FnOk P w K mg base CX0 (k+1) T.zcb.f T.zcb.d zmd (zzj T.ztb n):=by
 refine T.zcb.ok ztp ?_;rintro f c A o s H vs Q E hr ⟨v,rv,row,number,keeper,thing,y,rfl,W,R,hd,q⟩ X;refine⟨_,  (zba (zxb (zbib (zff (pv 0) rfl) (λ_=>rfl))
   (zea (zua (zee (pv 0) T.zjb T.zvb.M zro hr (zlo T) .nil zta (zaa (pv 1) (zaa (pv 2) (zaa (pv 3) (zaa (pv 4) zca)))))))
   zsa)
  (zba (zxb (zoa zsc (zff (pv 0) rfl) zma (zya _))
   (zea (zua zjr))
   zsa)
  (zba (zxb (zoa zsc (zff (pv 0) rfl) zma (zya _))
   (zea (zua (zme zsc (pv 4) (pv 2) (zya _))))
   zsa)
  (zba (zxb (zoa zuob (pv 1) zan (zya _))
   (zea (zua (zrbb (zme zsc (zff (pv 0) rfl) zma (zya _)) (zkp (zme zsc (pv 4) (zfc zek (zkib zibb zfa) (pv 3)) (zya _))))))
   zsa)
  (zba (zxb (zoa zsc (zff (pv 0) rfl) zma (zya _))
   (zea (zua (zme zsc (znb zlc (pv 1) zfa (λ_ _=>rfl)) (pv 3) (zya _))))
   zsa)
  (zba (zxb (zoa zsc (zff (pv 0) rfl) zma (zya _))
   (zea (zua (zme zge (zff (pv 0) rfl) (znb zlc (pv 1) zfa (λ_ _=>rfl)) rfl)))
   zsa)
  (zea (zua (zme zvob (znb zlc (pv 1) zfa (λ_ _=>rfl)) (zff (pv 0) rfl) (zya _)))))))))),?_⟩
 have W0:=W;cases W with
 | @mk a dx t ps _ h1 h2 h3 =>
 have pe:(!ps.isEmpty) = !y.parts.isEmpty:=by
  have z:=h3.length;cases ps with
  | nil=>cases hp:y.parts with
   | nil=>rfl
   | cons p r=>rw[hp] at z;cases z
  | cons v r=>cases hp:y.parts with
   | nil=>rw[hp] at z;cases z
   | cons p r=>rfl
 refine⟨_,rfl,a,_,dx,_,_,rfl,h1,T.zjb,T.zvc,zvi _ _ _,_,.inr (.inl ⟨_,SqT.of h2,rfl⟩),?_⟩;rw[pe];have fld:hfs y.word (valV y.val) t=hfs y.word (valV y.val) t:=rfl;have no:(hfs y.word (valV y.val) t).lookup ("fits_parts":Str)=none:=zacb _ _ _ (by decide +kernel) (by decide +kernel) (by decide +kernel);have word:∀(A:Prop),A->True:=λ_ _=>trivial;cases y with
 | not p=>exact iteT ⟨_,rfl,a,dx,_,rfl,h1,no,_,rfl,_,rfl,_,rfl,_,rfl,_,rv,row,number,keeper,thing,.not p,rfl,W0,R,hd,by simp[Wh.parts],q⟩
 | both p p'=>exact iteT ⟨_,rfl,a,dx,_,rfl,h1,no,_,rfl,_,rfl,_,rfl,_,rfl,_,rv,row,number,keeper,thing,.both p p',rfl,W0,R,hd,by simp[Wh.parts],q⟩
 | any p p'=>exact iteT ⟨_,rfl,a,dx,_,rfl,h1,no,_,rfl,_,rfl,_,rfl,_,rfl,_,rv,row,number,keeper,thing,.any p p',rfl,W0,R,hd,by simp[Wh.parts],q⟩
 | all =>
  refine iteF ⟨_,rfl,a,_,dx,_,_,rfl,h1,T.zjb,T.zab,zjc _ _ _,rfl,_,rfl,iteT ?_⟩;exact q
 | self =>
  refine iteF ⟨_,rfl,a,_,dx,_,_,rfl,h1,T.zjb,T.zab,zjc _ _ _,rfl,_,rfl,iteF ?_⟩;refine⟨_,rfl,a,_,dx,_,_,rfl,h1,T.zjb,T.zab,zjc _ _ _,rfl,_,rfl,iteT ?_⟩;refine⟨_,rfl,_,rfl,rfl,?_⟩;have e:decide (V.int thing=V.int number)=decide (thing=number):=by simp
  show Q (.bl (decide (V.int thing=V.int number))) H
  rw[e];exact q
 | mine =>
  refine iteF ⟨_,rfl,a,_,dx,_,_,rfl,h1,T.zjb,T.zab,zjc _ _ _,rfl,_,rfl,iteF ?_⟩;refine⟨_,rfl,a,_,dx,_,_,rfl,h1,T.zjb,T.zab,zjc _ _ _,rfl,_,rfl,iteF ?_⟩;refine⟨_,rfl,rfl,_,rfl,?_⟩;cases row with
  | none =>
   cases (show rv = .non from R);refine iteT ?_;refine⟨_,rfl,a,_,dx,_,_,rfl,h1,T.zjb,T.zab,zjc _ _ _,rfl,_,rfl,iteT ?_⟩;refine⟨_,rfl,_,rfl,_,rfl,_,_,rfl,rfl,rfl,?_⟩;have e:decide (V.int thing=V.int (-1-keeper))=decide (thing = -1-keeper):=(by simp);show Q (.bl (decide (V.int thing=V.int (-1-keeper)))) H
   rw[e];exact q
  | some r =>
   obtain⟨b,m,rfl,r1,r2⟩:=(show zfl H rv r from R);refine iteF ?_;refine⟨_,rfl,a,_,dx,_,_,rfl,h1,T.zjb,T.zab,zjc _ _ _,rfl,_,rfl,iteT ?_⟩;refine⟨_,rfl,b,_,_,_,rfl,rfl,SqT.of r1,rfl,_,rfl,rfl,?_⟩;have e:decide (V.int r.keeper=V.int keeper)=decide (r.keeper=keeper):=(by simp);show Q (.bl (decide (V.int r.keeper=V.int keeper))) H
   rw[e];exact q
 | mark n =>
  refine iteF ⟨_,rfl,a,_,dx,_,_,rfl,h1,T.zjb,T.zab,zjc _ _ _,rfl,_,rfl,iteF ?_⟩;refine⟨_,rfl,a,_,dx,_,_,rfl,h1,T.zjb,T.zab,zjc _ _ _,rfl,_,rfl,iteF ?_⟩;refine⟨_,rfl,rfl,_,rfl,?_⟩;cases row with
  | none =>
   cases (show rv = .non from R);refine iteT ?_;exact⟨_,rfl,a,_,dx,_,_,rfl,h1,T.zjb,T.zab,zjc _ _ _,rfl,_,rfl,iteF q⟩
  | some r =>
   obtain⟨b,m,rfl,r1,r2⟩:=(show zfl H rv r from R);refine iteF ?_;refine⟨_,rfl,a,_,dx,_,_,rfl,h1,T.zjb,T.zab,zjc _ _ _,rfl,_,rfl,iteF ?_⟩;refine⟨_,rfl,a,_,dx,_,_,rfl,h1,T.zjb,T.zab,zjc _ _ _,rfl,_,rfl,iteT ?_⟩;exact⟨_,rfl,a,_,dx,_,_,rfl,h1,T.zjb,T.zgf,zqx _ _ _,_,rfl,b,_,_,_,rfl,rfl,SqT.of r1,rfl,m,_,rfl,.inr (SqT.of r2),rfl,zux _,q⟩
 | force i =>
  refine iteF ⟨_,rfl,a,_,dx,_,_,rfl,h1,T.zjb,T.zab,zjc _ _ _,rfl,_,rfl,iteF ?_⟩;refine⟨_,rfl,a,_,dx,_,_,rfl,h1,T.zjb,T.zab,zjc _ _ _,rfl,_,rfl,iteF ?_⟩;refine⟨_,rfl,rfl,_,rfl,?_⟩;cases row with
  | none =>
   cases (show rv = .non from R);refine iteT ?_;exact⟨_,rfl,a,_,dx,_,_,rfl,h1,T.zjb,T.zab,zjc _ _ _,rfl,_,rfl,iteF q⟩
  | some r =>
   obtain⟨b,m,rfl,r1,r2⟩:=(show zfl H rv r from R);refine iteF ?_;refine⟨_,rfl,a,_,dx,_,_,rfl,h1,T.zjb,T.zab,zjc _ _ _,rfl,_,rfl,iteF ?_⟩;refine⟨_,rfl,a,_,dx,_,_,rfl,h1,T.zjb,T.zab,zjc _ _ _,rfl,_,rfl,iteF ?_⟩;exact⟨_,rfl,b,_,_,_,rfl,rfl,SqT.of r1,rfl,_,rfl,a,_,dx,_,_,rfl,h1,T.zjb,T.zgf,zqx _ _ _,_,_,rfl,rfl,q⟩
theorem zzu (T:Tx K mg):FnOk P w K mg base CX0 2 T.zcb.f T.zcb.d zmd (zzj T.ztb 0):=by
 have no:∀vs H Q E,¬ zzj T.ztb 0 vs H Q E:=λvs H Q E h=>by
  obtain⟨v,rv,row,number,keeper,thing,y,_,_,_,hd,_⟩:=h;have:1≤y.depth:=by cases y<;>simp[Wh.depth]
  omega
 exact⟨λvs H Q E h=>absurd h (no vs H Q E),λA outer s H args us vs Q E _ _ _ _ h=>absurd h (no vs H Q E)⟩
theorem zpp (T:Tx K mg):∀n:Nat,FnOk P w K mg base CX0 (2*n+2) T.zcb.f T.zcb.d zmd (zzj T.ztb n)
 | 0=>zzu T
 | n+1=>ztz T (zav T (zpp T n))
theorem zdmb (T:Tx K mg):FnOk P w K mg base CX0 21 T.zye.f T.zye.d zjm (zeob T.ztb):=by
 refine T.zye.ok zlw ?_;rintro f c A o s H vs Q E hr ⟨v,sl,us,rs,number,keeper,thing,y,rfl,W,hsl,R,hs,q⟩ X;refine⟨_,  (zea (zua (zee (pv 0) T.zjb T.zcb.M (zpp T 9) hr (zsf T) .nil zta (zaa (zja (zvw T).up hr rfl T.zbh.m T.zbh.F.kp (zncb T) .nil zta (zaa (pv 1) (zaa (pv 4) zca))) (zaa (pv 2) (zaa (pv 3) (zaa (pv 4) zca))))))),?_⟩;have W0:=W;cases W with
 | @mk a dx t ps _ h1 h2 h3 =>
 refine⟨_,rfl,a,dx,_,rfl,h1,zacb _ _ _ (by decide +kernel) (by decide +kernel) (by decide +kernel),_,rfl,_,rfl,sl,us,rs,thing,rfl,hsl,R,λv hv=>?_⟩;exact⟨_,rfl,_,rfl,_,rfl,_,v,rowOf rs thing,number,keeper,thing,y,rfl,W0,hv,yxa y.zqjb hs,q⟩
theorem zdg {H H':Hp}{p:Addr}(S:Same H H')(h:H p=none)(o:HO):Same H (upd H' p o):=λb u q=>by rw[zva (zka q h)];exact S b u q
theorem none_of {H H':Hp}{p:Addr}(S:Same H H')(h:H' p=none):H p=none:=by
 cases e:H p with
 | none=>rfl
 | some o =>
  have z:=S _ _ e;rw[z] at h;cases h
@[elab_as_elim] theorem laid {H:Hp} {l:Addr} {o:HO} {motive:Hp->Prop} (hl:H l=none) (h:∀H1,Same H H1->H1 l=some o->motive H1):motive (upd H l o):=h _ (zbb hl o) zga
theorem zzr {ss:List Str}{r:Int}(h0:0≤r)(h1:r<(ss.length:Int)):∃u,atI (ss.map V.str) r=some (.str u)∧u∈ss:=by
 obtain⟨v,hv,hm⟩:=zon (xs:=ss.map V.str) h0 (by rw[yda];exact h1);obtain⟨u,hu,rfl⟩:=ybb.mp hm;exact⟨u,hv,hu⟩
theorem zmp (x:Int){m:Int}(h:0<m):0≤x % m∧x % m<m:=⟨yej x (by omega),ynh x h⟩
def ltr (r:Int):Nat:=(LL.cps.toList[r.toNat]?).getD 0
theorem zrz:∀n:Nat,n<26->LL.cps.toList[n]?=some (97+n):=by decide +kernel
theorem zxbb {r:Int}(h0:0≤r)(h1:r<26):(ltr r:Int)=97+r:=by
 unfold ltr;rw[zrz r.toNat (by omega)];show ((97+r.toNat:Nat):Int)=97+r
 omega
theorem zikb {r:Int}(h0:0≤r)(h1:r<26):atI LL.cps.toList r=some (ltr r):=by
 have q:=zia (zrz r.toNat (by omega));rw[show ((r.toNat:Nat):Int)=r by omega] at q;rw[q];unfold ltr;rw[zrz r.toNat (by omega)];rfl
theorem zepb (x:Int):97≤ltr (x % 26)∧ltr (x % 26)≤122:=by
 have m:=zmp x (m:=26) (by decide);have:=zxbb m.1 m.2;omega
def sgn (c:Nat):Str:=⟨#[c]⟩
theorem zlt:∀cs:List Nat,(yra "" (cs.map sgn)).cps.toList=cs
 | []=>rfl
 | [c]=>rfl
 | c::d::r=>by
  have ih:=zlt (d::r);have e:yra "" ((c::d::r).map sgn)=sgn c ++ "" ++ yra "" ((d::r).map sgn):=rfl;rw[e];show ((#[c]++("":Str).cps)++(yra "" ((d::r).map sgn)).cps).toList=_
  rw[yyf,ih];rfl
theorem zcw:∀cs:List Nat,((cs.map sgn).map (·.length)).sum=cs.length
 | []=>rfl
 | c::r=>by
  rw[yva,yva,yze,zcw r,yga];show 1+r.length=r.length+1
  omega
theorem zejb (n L:Nat)(h:n≤L):yoe none (some (n:Int)) 1 L=ypd n:=by
 unfold yoe;dsimp only;have e:(if (1:Int)>0 then max 0 (min (if (n:Int)<0 then (n:Int)+(L:Int) else (n:Int)) (L:Int)) else max (-1) (min (if (n:Int)<0 then (n:Int)+(L:Int) else (n:Int)) ((L:Int)-1)))=(n:Int):=by
  rw[if_pos (by decide),if_neg (by omega)];omega
 rw[e,if_pos (by decide)];have z:=ynm 0 n;rw[ygm] at z;rw[show ((0:Int))=((0:Nat):Int) from rfl,z];simp
theorem zfr {x:Array Nat}:∀n:Nat,n≤x.size->(ypd n).filterMap (λj=>x[j]?)=x.toList.take n
 | 0,_=>rfl
 | n+1,h=>by
  rw[List.range_succ,List.filterMap_append,zfr n (by omega),ykb];have e:x.toList[n]?=x[n]?:=by rw[ycc]
  have hn:n<x.size:=by omega
  have e2:x[n]?=some x[n]:=yjb hn;rw[e,yrf,e2,List.filterMap_nil];rfl
theorem zadb (x:Str)(n:Nat)(h:n≤x.length):yxl x none (some (n:Int))=⟨(x.cps.toList.take n).toArray⟩:=by
 unfold yxl;rw[zejb n x.length h,yrg]
 by_cases e:n=x.length
 ·subst e;rw[if_pos (by simp)];have:x.cps.toList.take x.length=x.cps.toList:=ysa (by simp[yfp]);rw[this,yae]
 ·rw[if_neg (by simp[e])];rw[show (λj=>x.cps[j]?)=(λj=>x.cps[j]?) from rfl];have z:=zfr (x:=x.cps) n h;rw[← z]
def zgob (K:yba):Sp:=λvs H Q _=>Ex3 λa (ns:List Int) (k:Int)=>vs=[.ref a,.int k]∧SqL K H a (ns.map V.int)∧ns.length≤63∧0≤k∧k≤10000000∧∀z:Int,Q (.int z) H
theorem zbx (T:Tx K mg):FnOk P w K mg base CX0 2 T.zxe.f T.zxe.d zim (zgob K):=by
 refine T.zxe.ok zwh ?_;rintro f c A o s H vs Q E hr ⟨a,ns,k,rfl,hS,h63,k0,k9,q⟩ X;refine⟨_,  (zba (zxb (zoa ztob (pv 1) (zib zgb rfl T.zig ymb (zaa (pv 0) zca)) (zya _))
   (zea (zua (znb zic (pv 0) (pv 1) (λ_ _=>rfl))))
   zsa)
  (zba (zqa (i:=2) zwh.nd rfl (.inl rfl) (zfc zci zfa (pv 1)))
  (zba (zxb (zoa zos (zib zgb rfl T.zig ymb (zaa (pv 0) zca)) zfa (zya _))
   (zea (zqa (i:=2) zwh.nd rfl (.inl rfl) (zfc zci (pv 2) (zfc zft (zfc zbi (znb zic (pv 0) (zfc zbi (zfc zci (zfc zft zfa (pv 1)) zfa) (zib zgb rfl T.zig ymb (zaa (pv 0) zca))) (λ_ _=>rfl)) zfa) (zfc zci (zfc zbi (pv 1) zfa) zfa)))))
   zsa)
  (zba (zqa (i:=3) zwh.nd rfl (.inl rfl) (zfc zbi (zfc zft (pv 2) zfa) zfa))
  (zea (zua (zfc zbi (zfc zft (pv 3) (pv 3)) zfa))))))),?_⟩
 have hl:(ns.map V.int).length=ns.length:=yda _;refine⟨_,rfl,_,rfl,a,_,rfl,.inl hS,_,_,rfl,rfl,_,rfl,?_⟩;refine ite2 (λc=>?_) (λc=>?_)
 ·have c':k<(((ns.map V.int).length:Nat):Int):=of_decide_eq_true c;obtain⟨z,hz⟩:=zdhb (ns:=ns) k0 (by omega);exact⟨_,rfl,_,rfl,a,_,_,_,rfl,rfl,hS,hz,q z⟩
 ·have big:∀c:Int,0≤c % 2147483629∧c % 2147483629<2147483629:=λc=>⟨yej c (by omega),ynh c (by omega)⟩;have fin:∀z:Int,CMul (z*48271 % 2147483629) (z*48271 % 2147483629):=λz=>.inl ⟨by have:=big (z*48271);omega,by have:=big (z*48271);omega⟩;refine⟨_,rfl,_,_,rfl,rfl,?_⟩;refine⟨_,rfl,a,_,rfl,.inl hS,_,_,rfl,rfl,_,rfl,?_⟩;refine ite2 (λc=>?_) (λc=>?_)
  ·have c':(0:Int)<(((ns.map V.int).length:Nat):Int):=of_decide_eq_true c;have n0:0≤(3*k+1) % (((ns.map V.int).length:Nat):Int):=yej _ (by omega);have n1:(3*k+1) % (((ns.map V.int).length:Nat):Int)<(((ns.map V.int).length:Nat):Int):=ynh _ c';obtain⟨z,hz⟩:=zdhb (ns:=ns) n0 (by omega);refine⟨_,rfl,_,rfl,_,rfl,_,_,rfl,rfl,.inl ⟨by decide,by decide⟩,_,_,rfl,rfl,_,rfl,a,_,rfl,.inl hS,_,_,rfl,rfl,c',a,_,_,_,rfl,rfl,hS,hz,_,_,rfl,rfl,(by show (0:Int)<1000003;decide),_,rfl,_,_,rfl,rfl,(by show (0:Int)<97;decide),_,_,rfl,rfl,_,_,rfl,rfl,.inr ⟨by have:=zmp k (m:=97) (by decide);omega,by have:=zmp k (m:=97) (by decide);omega⟩,_,_,rfl,rfl,?_⟩;exact⟨_,rfl,_,_,rfl,rfl,.inr ⟨by decide,by decide⟩,_,_,rfl,rfl,(by show (0:Int)<2147483629;decide),_,rfl,_,rfl,_,_,rfl,rfl,fin _,_,_,rfl,rfl,(by show (0:Int)<2147483629;decide),q _⟩
  ·exact⟨_,rfl,_,_,rfl,rfl,.inr ⟨by decide,by decide⟩,_,_,rfl,rfl,(by show (0:Int)<2147483629;decide),_,rfl,_,rfl,_,_,rfl,rfl,fin _,_,_,rfl,rfl,(by show (0:Int)<2147483629;decide),q _⟩
theorem zna (T:Tx K mg):FnOk P w K mg base CX0 3 T.zda.f T.zda.d zfm (zaob K):=by
 refine T.zda.ok zxo ?_;rintro f c A o s H vs Q E hr ⟨p,k,m,rfl,TT,hk,hm,q⟩ X;refine⟨_,  (zba (zqa (i:=2) zxo.nd rfl (.inl rfl) (zfc zbi (zja (zbx T) hr rfl T.zxe.m T.zxe.F.kp (zfab T) .nil zta (zaa (znb zic (pv 0) zfa (λ_ _=>rfl)) (zaa (znb zic (pv 0) zfa (λ_ _=>rfl)) zca))) (pv 1)))
  (zba (zkfb (zfc zci (znb zic (pv 0) zfa (λ_ _=>rfl)) zfa) (znob (pv 0) zfa set_list))
  (zea (zua (pv 2))))),?_⟩
 obtain⟨⟨a,ns,h1,h2,h3⟩,lo⟩:=TT;have S0:SqL K H a (ns.map V.int):=h2.sq;refine⟨_,rfl,p,_,_,_,rfl,rfl,SqL.of h1,rfl,_,rfl,p,_,_,_,rfl,rfl,SqL.of h1,rfl,a,ns,k,rfl,S0,h3,lo,by omega,λz=>⟨_,rfl,_,_,rfl,rfl,hm,?_⟩⟩;refine⟨_,rfl,p,_,_,_,rfl,rfl,SqL.of h1,rfl,_,_,rfl,rfl,_,rfl,p,_,_,_,rfl,rfl,h1,rfl,?_⟩;have B:But p H (upd H p (.lst [.ref a,.int (k+1)])):=But.put;have T1:Tk K (upd H p (.lst [.ref a,.int (k+1)])) p (k+1):=⟨⟨a,ns,zga,h2.keep λo u z=>by rw[zva (zel z h1 (by intro y;cases y))];exact z,h3⟩,by omega⟩;have big:0≤z % m∧z % m<m:=⟨yej z (by omega),ynh z hm⟩;exact⟨_,rfl,q _ _ big.1 big.2 B T1⟩
def zuhb (K:yba):Sp:=λvs H Q _=>Ex2 λp (k:Int)=>vs=[.ref p]∧Tk K H p k∧k≤900000∧∀(r:Nat) (k':Int) H',r<1000->But p H H'->Tk K H' p k'->k'≤k+2->Q (.int (r:Int)) H'
theorem zqi (T:Tx K mg):FnOk P w K mg base CX0 4 T.zec.f T.zec.d zoj (zuhb K):=by
 refine T.zec.ok zns ?_;rintro f c A o s H vs Q E hr ⟨p,k,rfl,TT,hk,q⟩ X;refine⟨_,  (zba (zxb (zoa zsc (zja (zna T) hr rfl T.zda.m T.zda.F.kp (zra T) .nil zta (zaa (pv 0) (zaa zfa zca))) zfa (zya _))
   (zea (zua (zja (zna T) hr rfl T.zda.m T.zda.F.kp (zra T) .nil zta (zaa (pv 0) (zaa zfa zca)))))
   zsa)
  (zea (zua (zja (zna T) hr rfl T.zda.m T.zda.F.kp (zra T) .nil zta (zaa (pv 0) (zaa zfa zca)))))),?_⟩
 refine⟨_,rfl,p,k,4,rfl,TT,by omega,by decide,λr H1 r0 r1 B1 T1=>⟨rfl,_,rfl,?_⟩⟩;refine ite2 (λc=>?_) (λc=>?_)
 ·refine⟨_,rfl,p,k+1,1000,rfl,T1,by omega,by decide,λr2 H2 a b B2 T2=>?_⟩;obtain⟨n,rfl⟩:∃n:Nat,r2=(n:Int):=⟨r2.toNat,by omega⟩;exact q n _ H2 (by omega) (B1.trans B2) T2 (by omega)
 ·refine⟨_,rfl,p,k+1,5,rfl,T1,by omega,by decide,λr2 H2 a b B2 T2=>?_⟩;obtain⟨n,rfl⟩:∃n:Nat,r2=(n:Int):=⟨r2.toNat,by omega⟩;exact q n _ H2 (by omega) (B1.trans B2) T2 (by omega)
theorem zdjb (n L:Nat)(h:n≤L):yoe (some (n:Int)) none 1 L=(ypd (L-n)).map (n+·):=by
 unfold yoe;dsimp only;have e:(if (1:Int)>0 then max 0 (min (if (n:Int)<0 then (n:Int)+(L:Int) else (n:Int)) (L:Int)) else max (-1) (min (if (n:Int)<0 then (n:Int)+(L:Int) else (n:Int)) ((L:Int)-1)))=(n:Int):=by
  rw[if_pos (by decide),if_neg (by omega)];omega
 rw[e,if_pos (by decide)];exact ynm n L
theorem zzcb (x:Str)(n:Nat)(h:n≤x.length):yxl x (some (n:Int)) none=⟨(x.cps.toList.drop n).toArray⟩:=by
 have hl:x.cps.size=x.length:=rfl;unfold yxl;rw[zdjb n x.length h]
 by_cases e:n=0
 ·subst e;rw[if_pos (by simp)];rw[yzh,yae]
 ·rw[if_neg (by simp;omega)];have z:=zfr (x:=(x.cps.toList.drop n).toArray) (x.length-n) (by simp[hl]);rw[ysa (by simp[hl])] at z;rw[ylj]
  congr 1
  rw[show (x.cps.toList.drop n)=(x.cps.toList.drop n).toArray.toList by simp,← z]
  congr 1
  congr 1
  funext j
  show x.cps[n+j]?=(ybp n x.cps.toList).toArray[j]?
  rw[← ycc (xs:=(ybp n x.cps.toList).toArray),List.toList_toArray,yxe,ycc]
structure N4 (H:Hp)(nl:Addr)(ns:List Str):Prop where
 at_:H nl=some (.lst (ns.map V.str))
 len:ns.length=4
 ok:∀n∈ns,zie n
 nd:ns.Nodup
def nmIn (cs:List Nat)(a c:Nat):Str:=⟨(cs.take a).toArray⟩++sgn c++⟨(cs.drop a).toArray⟩
theorem zex (cs:List Nat)(a c:Nat):(nmIn cs a c).cps.toList=cs.take a++c::cs.drop a:=by
 show ((cs.take a).toArray++#[c]++(cs.drop a).toArray).toList=_
 simp
theorem zjmb {cs:List Nat}{a c:Nat}(h8:cs.length<8)(hc:97≤c∧c≤122)(hs:∀x∈cs,97≤x∧x≤122):zie (nmIn cs a c):=by
 have e:=zex cs a c;have el:(nmIn cs a c).length=cs.length+1:=by
  have q:=congrArg yeg e;rw[yya,yea,yga,ydb,ynd] at q;have q':(nmIn cs a c).length=min a cs.length+(cs.length-a+1):=q;omega
 refine⟨by omega,by omega,?_⟩;rw[e];intro x hx
 rcases yhb.mp hx with z|z
 ·exact hs x (yji z)
 ·rcases yha.mp z with z|z
  ·rw[z];exact hc
  ·exact hs x (List.mem_of_mem_drop z)
theorem zsib {cs:List Nat}{a c d:Nat}(h:nmIn cs a c=nmIn cs a d):c=d:=by
 have e:=congrArg (λz:Str=>z.cps.toList) h;simp only[zex] at e;have f:=List.append_cancel_left e;injection f
def zueb (K:yba):Sp:=λvs H Q _=>Ex2 λp (k:Int)=>vs=[.ref p]∧Tk K H p k∧k≤900000∧∀nl (ns:List Str) (k':Int) H',But p H H'->Tk K H' p k'->k'≤k+11->H nl=none->N4 H' nl ns->Q (.ref nl) H'
theorem zmu (T:Tx K mg):FnOk P w K mg base CX0 4 T.zzd.f T.zzd.d ztk (zueb K):=by
 refine T.zzd.ok znf ?_;rintro f c A o s H vs Q E hr ⟨p,k,rfl,TT,hk,q⟩ X;refine⟨_,  (zba (zqa (i:=1) znf.nd rfl (.inr rfl) zma)
  (zba (zqa (i:=2) znf.nd rfl (.inr rfl) (zrh ydd ymg yng zqu zma (zaa (zqf (own:=["_law_k"]) (cap:=["_law_letters","_law_pen"]) rfl (zkc.chk rfl rfl) (.cons (j:=1) rfl (.inl rfl) (.inl rfl) (.cons (j:=0) rfl (.inl rfl) (.inl rfl) .nil)) (zjh rfl T.zni (zaa (zja (zna T) hr rfl T.zda.m T.zda.F.kp (zra T) .nil zta (zaa (pv 0) (zaa zfa zca))) zca)) (λ_ _ _ _=>(zza (i:=0) (show ycd (["_law_k","_law_letters","_law_pen"]:List Str) by decide +kernel) rfl (.inl rfl))) (λ_ _ _ _=>zxn) (λ_ _ _ _=>by exact (znb zbgb (pv 1) (zja (zna T) hr rfl T.zda.m T.zda.F.kp (zra T) .nil zta (zaa (pv 2) (zaa zfa zca))) (λ_ _=>rfl)))) zca)))
  (zba (zqa (i:=3) znf.nd rfl (.inr rfl) (zja (zna T) hr rfl T.zda.m T.zda.F.kp (zra T) .nil zta (zaa (pv 0) (zaa (zfc zci (zib zmk rfl T.zig ymb (zaa (pv 2) zca)) zfa) zca))))
  (zba (zqa (i:=4) znf.nd rfl (.inr rfl) (zja (zna T) hr rfl T.zda.m T.zda.F.kp (zra T) .nil zta (zaa (pv 0) (zaa zfa zca))))
  (zea (zua (zqf (own:=["_law_k"]) (cap:=["_law_base","_law_letters","_law_at","_law_first"]) rfl (zkc.chk rfl rfl) (.cons (j:=2) rfl (.inl rfl) (.inl rfl) (.cons (j:=1) rfl (.inl rfl) (.inl rfl) (.cons (j:=3) rfl (.inl rfl) (.inl rfl) (.cons (j:=4) rfl (.inl rfl) (.inl rfl) .nil)))) (zjh rfl T.zni (zaa zfa zca)) (λ_ _ _ _=>(zza (i:=0) (show ycd (["_law_k","_law_base","_law_letters","_law_at","_law_first"]:List Str) by decide +kernel) rfl (.inl rfl))) (λ_ _ _ _=>zxn) (λ_ _ _ _=>by exact (zfc zzk (zfc zzk (zai zbkb (pv 1) zdk (zck (pv 3))) (znb zbgb (pv 2) (zfc zbi (zfc zci (pv 4) (zfc zft zfa (pv 0))) zfa) (λ_ _=>rfl))) (zai zbkb (pv 1) (zck (pv 3)) zdk)))))))))),?_⟩
 refine⟨rfl,_,rfl,p,k,8,rfl,TT,by omega,by decide,λm0 H1 m1 m2 B1 T1=>?_⟩;obtain⟨m,rfl⟩:∃m:Nat,m0=(m:Int):=⟨m0.toNat,by omega⟩;refine⟨_,rfl,by omega,by omega,?_⟩;rw[ysc];refine zjo (λj ys Hx=>Ex2 λ(cs:List Nat) (k':Int)=>But p H Hx∧Tk K Hx p k'∧k'≤k+1+(j:Int)∧j≤m∧cs.length=j∧(∀c∈cs,97≤c∧c≤122)∧ys=(cs.map sgn).map V.str) ⟨[],_,B1,T1,by omega,ylb _,rfl,by simp,rfl⟩ ?_ ?_ ?_
 ·rintro j ys Hx ⟨cs,k',_,_,_,hj,hl,_,rfl⟩;rw[yda,yda,hl];exact small (by omega)
 ·rintro j ys Hx hj ⟨cs,k',B,T2,hk',_,hl,hc,rfl⟩;refine⟨rfl,_,rfl,_,rfl,p,k',26,rfl,T2,by omega,by decide,λr H2 r0 r1 B2 T3=>?_⟩;refine⟨LL,_,_,rfl,rfl,(by decide +kernel),zikb r0 r1,cs++[ltr r],_,B.trans B2,T3,by omega,hj,by rw[yea,hl];rfl,?_,?_⟩
  ·intro c z
   rcases yhb.mp z with y|y
   ·exact hc c y
   ·rw[yja.mp y];have:=zxbb r0 r1;omega
  ·rw[yib,yib];rfl
 ·rintro ys Hx ⟨cs,k',B,T2,hk',_,hl,hc,rfl⟩ sl hsl;refine laid hsl λH3 S3 e3=>?_;have B3:But p H H3:=B.trans (But.same S3);have T3:=T2.same S3;have nsl:p≠sl:=T2.ne hsl;refine⟨"",sl,cs.map sgn,rfl,rfl,SqL.of e3,?_,?_⟩
  ·rw[zcw,hl];have z0:("":Str).length=0:=rfl;rw[z0];omega
  have hx:=zlt cs;generalize yra "" (cs.map sgn)=x at hx ⊢;have xl:x.length=m:=by
   have z:=congrArg yeg hx;rw[yya,hl] at z;exact z
  have s1000:∀{n:Nat},n≤1000->n≤yta:=λ{n} h=>yde (zpc h);refine⟨_,rfl,_,rfl,x,rfl,s1000 (by omega),_,_,rfl,rfl,p,k',(m:Int)+1,(by rw[xl];rfl),T3,by omega,by omega,λa0 H4 a1 a2 B4 T4=>?_⟩;obtain⟨a,rfl⟩:∃a:Nat,a0=(a:Int):=⟨a0.toNat,by omega⟩;refine⟨_,rfl,p,_,26,rfl,T4,by omega,by decide,λf0 H5 f1 f2 B5 T5=>?_⟩;have B05:=B3.trans (B4.trans B5);refine⟨4,rfl,by decide,by decide,?_⟩;refine zjo (λj ys Hx=>Hx=H5∧j≤4∧∃ns:List Str,ys=ns.map V.str∧ns.length=j∧(∀n∈ns,zie n)∧ns.Nodup∧∀n∈ns,∃i:Nat,i<j∧n=nmIn cs a (ltr ((f0+7*(0+(i:Int))) % 26))) ⟨rfl,ylb _,[],rfl,rfl,by simp,.nil,by simp⟩ ?_ ?_ ?_
  ·rintro j ys Hx ⟨_,hj,ns,rfl,hl2,_⟩;rw[yda,hl2];exact small (by omega)
  ·rintro j ys Hx hj ⟨rfl,_,ns,rfl,hl2,ok,nd,wh⟩;have hj4:j<4:=hj;have r26:=zmp (f0+7*(0+(j:Int))) (m:=26) (by decide);refine⟨rfl,_,rfl,_,rfl,_,rfl,x,rfl,s1000 (by omega),λt1 e1 l1=>?_⟩;refine⟨_,rfl,_,rfl,_,rfl,_,_,rfl,rfl,.inl ⟨by decide,by decide⟩,_,_,rfl,rfl,_,_,rfl,rfl,(by show (0:Int)<26;decide),LL,_,_,rfl,rfl,(by decide +kernel),zikb r26.1 r26.2,?_⟩;rw[zadb x a (by omega),hx] at e1;subst e1;refine⟨_,_,rfl,rfl,s1000 (by show _+1≤1000;omega),_,rfl,_,rfl,_,rfl,x,rfl,s1000 (by omega),λt2 e2 l2=>?_⟩;rw[zzcb x a (by omega),hx] at e2;subst e2;refine⟨_,_,rfl,rfl,?_,rfl,hj,ns++[nmIn cs a (ltr ((f0+7*(0+(j:Int))) % 26))],?_,?_,?_,?_,?_⟩
   ·refine s1000 ?_;have t1:((cs.take a).toArray++#[ltr ((f0+7*(0+(j:Int))) % 26)]).size≤8:=by
     rw[yok,yka,ydb];show _+1≤8
     omega
    have t2:((cs.drop a).toArray).size≤8:=by
     rw[yka,ynd];omega
    exact yxa (Nat.add_le_add t1 t2) (by decide)
   ·rw[yib];rfl
   ·rw[yea,hl2];rfl
   ·intro n z
    rcases yhb.mp z with y|y
    ·exact ok n y
    ·rw[yja.mp y];exact zjmb (by omega) (zepb _) hc
   ·rw[yqk];refine⟨nd,yzf _ _,λy hy n hn z=>?_⟩;rw[yja.mp hn] at z;obtain⟨i,hi,rfl⟩:=wh y hy;have ed:=zsib z;have e1:=zxbb (zmp (f0+7*(0+(i:Int))) (m:=26) (by decide)).1 (zmp (f0+7*(0+(i:Int))) (m:=26) (by decide)).2;have e2:=zxbb r26.1 r26.2;omega
   ·intro n z
    rcases yhb.mp z with y|y
    ·obtain⟨i,hi,e⟩:=wh n y;exact⟨i,by omega,e⟩
    ·exact⟨j,by omega,yja.mp y⟩
  ·rintro ys Hx ⟨rfl,_,ns,rfl,hl2,ok,nd,wh⟩ nl hnl;refine laid hnl λH6 S6 e6=>?_;refine q nl ns _ H6 (B05.trans (But.same S6)) (T5.same S6) (by omega) ?_ ⟨e6,hl2,ok,nd⟩;cases z:H nl with
   | none=>rfl
   | some o =>
    by_cases ep:nl=p
    ·rw[ep] at hnl;exact absurd rfl (T5.ne hnl)
    ·rw[B05 _ _ ep z] at hnl;cases hnl
def whT (y:Wh):Str:=yra " " y.words
inductive WT (H:Hp):V->Wh->Prop where
 | all {a:Addr}:H a=some (.tup [.str "all"])->WT H (.ref a) .all
 | self {a:Addr}:H a=some (.tup [.str "self"])->WT H (.ref a) .self
 | mine {a:Addr}:H a=some (.tup [.str "mine"])->WT H (.ref a) .mine
 | mark {a:Addr} {n:Str}:H a=some (.tup [.str "mark",.str n])->WT H (.ref a) (.mark n)
 | force {a:Addr} {i:Nat}:H a=some (.tup [.str "force",.int (i:Int)])->WT H (.ref a) (.force i)
 | not {a:Addr} {x:V} {y:Wh}:H a=some (.tup [.str "not",x])->WT H x y->WT H (.ref a) (.not y)
 | both {a:Addr} {x x':V} {y y':Wh}:H a=some (.tup [.str "both",x,x'])->WT H x y->WT H x' y'->WT H (.ref a) (.both y y')
 | any {a:Addr} {x x':V} {y y':Wh}:H a=some (.tup [.str "any",x,x'])->WT H x y->WT H x' y'->WT H (.ref a) (.any y y')
theorem WT.same {H H':Hp}(s:Same H H'):∀{v:V} {y:Wh},WT H v y->WT H' v y
 | _,_,.all h=>.all (s _ _ h)
 | _,_,.self h=>.self (s _ _ h)
 | _,_,.mine h=>.mine (s _ _ h)
 | _,_,.mark h=>.mark (s _ _ h)
 | _,_,.force h=>.force (s _ _ h)
 | _,_,.not h t=>.not (s _ _ h) (t.same s)
 | _,_,.both h t u=>.both (s _ _ h) (t.same s) (u.same s)
 | _,_,.any h t u=>.any (s _ _ h) (t.same s) (u.same s)
theorem WT.tup {H:Hp}{v:V}{y:Wh}(h:WT H v y):Ex2 λa xs=>v = .ref a∧H a=some (.tup xs):=by
 cases h<;>exact⟨_,_,rfl,by assumption⟩
def dep:Wh->Nat
 | .not a=>dep a+1
 | .both a b=>max (dep a) (dep b)+1
 | .any a b=>max (dep a) (dep b)+1
 | _=>0
theorem zfib {r:Int}{x y:Str}(h0:0≤r)(h1:r<2):∃u:Str,atI [V.str x,V.str y] r=some (.str u)∧(u=x∨u=y):=by
 obtain⟨v,hv,hm⟩:=zon (xs:=[V.str x,V.str y]) h0 h1;simp only[yha,yzc,or_false] at hm
 rcases hm with e|e<;>subst e
 ·exact⟨_,hv,.inl rfl⟩
 ·exact⟨_,hv,.inr rfl⟩
theorem Tk.two {K:yba}{H:Hp}{p:Addr}{k:Int}(t:Tk K H p k):∃a,H p=some (.lst [.ref a,.int k]):=by
 obtain⟨⟨a,ns,h,_⟩,_⟩:=t;exact⟨a,h⟩
theorem N4.ne {K:yba}{H:Hp}{p nl:Addr}{k:Int}{ns:List Str}(h:N4 H nl ns)(t:Tk K H p k):nl≠p:=λz=>by
 obtain⟨a,e⟩:=t.two;have e2:=h.at_;rw[z,e] at e2;injection e2 with e2
 injection e2 with e2
 have l:=congrArg yeg e2;rw[yda,h.len] at l;cases l
theorem N4.but {K:yba}{H H':Hp}{p nl:Addr}{k:Int}{ns:List Str}(h:N4 H nl ns)(t:Tk K H p k)(b:But p H H'):N4 H' nl ns:=⟨b _ _ (h.ne t) h.at_,h.len,h.ok,h.nd⟩
theorem N4.same {H H':Hp}{nl:Addr}{ns:List Str}(h:N4 H nl ns)(s:Same H H'):N4 H' nl ns:=⟨s _ _ h.at_,h.len,h.ok,h.nd⟩
theorem WT.but {K:yba}{H H':Hp}{p:Addr}{k:Int}(t:Tk K H p k)(b:But p H H'){v:V}{y:Wh}(z:WT H v y):WT H' v y:=by
 obtain⟨c,ep⟩:=t.two;have s:∀{a:Addr} {xs:List V},H a=some (.tup xs)->H' a=some (.tup xs):=λh=>b _ _ (zel h ep (by intro z;cases z)) h
 induction z with
 | all h=>exact .all (s h)
 | self h=>exact .self (s h)
 | mine h=>exact .mine (s h)
 | mark h=>exact .mark (s h)
 | force h=>exact .force (s h)
 | not h _ i=>exact .not (s h) i
 | both h _ _ i j=>exact .both (s h) i j
 | any h _ _ i j=>exact .any (s h) i j
def zqm (K:yba)(n:Nat):Sp:=λvs H Q _=>Ex5 λp nl (k:Int) (ns:List Str) (d:Nat)=>vs=[.ref p,.ref nl,.int (d:Int)]∧Tk K H p k∧k+4*(d:Int)≤900000∧N4 H nl ns∧1≤d∧d≤n∧∀v (y:Wh) (k':Int) H',But p H H'->Tk K H' p k'->k'≤k+4*(d:Int)->WT H' v y->y.ok->y.size≤d->Q v H'
theorem zieb (T:Tx K mg){n:Nat}(znm:FnOk P w K mg base CX0 (n+5) T.zlb.f T.zlb.d zag (zqm K n)):FnOk P w K mg base CX0 (n+6) T.zlb.f T.zlb.d zag (zqm K (n+1)):=by
 refine T.zlb.ok zth ?_;rintro f c A o s H vs Q E hr ⟨p,nl,k,ns,d,rfl,TT,hk,N0,d1,dn,q⟩ X;refine⟨_,  (zba (zqa (i:=3) zth.nd rfl (.inl rfl) (zja (zna T).up hr rfl T.zda.m T.zda.F.kp (zra T) .nil zta (zaa (pv 0) (zaa zfa zca))))
  (zba (zxb (PW.pt (zct (zoa zos (pv 2) zfa (zya _)) (zeu (zoa zsc (pv 3) zfa (zya _)))))
   (zea (zua (zub (zaa zma (zaa (zja znm hr rfl T.zlb.m T.zlb.F.kp (zjj T) .nil zta (zaa (pv 0) (zaa (pv 1) (zaa (zfc zek (pv 2) zfa) zca)))) zca)))))
   zsa)
  (zba (zxb (PW.pt (zct (zoa zos (pv 2) zfa (zya _)) (zeu (zoa zos (pv 3) zfa (zya _)))))
   (zba (zqa (i:=4) zth.nd rfl (.inl rfl) (zfc zbmb (zfc zek (pv 2) zfa) zfa))
   (zba (zqa (i:=5) zth.nd rfl (.inl rfl) (zja znm hr rfl T.zlb.m T.zlb.F.kp (zjj T) .nil zta (zaa (pv 0) (zaa (pv 1) (zaa (pv 4) zca)))))
   (zea (zua (zub (zaa (znb zic (zcd (zaa zma (zaa zma zca))) (zfc zek (pv 3) zfa) (λ_ _=>rfl)) (zaa (pv 5) (zaa (zja znm hr rfl T.zlb.m T.zlb.F.kp (zjj T) .nil zta (zaa (pv 0) (zaa (pv 1) (zaa (zfc zek (zfc zek (pv 2) zfa) (pv 4)) zca)))) zca))))))))
   zsa)
  (zba (zxb (zoa zsc (zfc zbi (pv 3) zfa) zfa (zya _))
   (zea (zua (zub (zaa zma (zaa (znb zic (pv 1) (zja (zna T).up hr rfl T.zda.m T.zda.F.kp (zra T) .nil zta (zaa (pv 0) (zaa zfa zca))) (λ_ _=>rfl)) zca)))))
   zsa)
  (zba (zxb (zoa zsc (zfc zbi (pv 3) zfa) zfa (zya _))
   (zea (zua (zub (zaa zma (zaa (zja (zqi T).up hr rfl T.zec.m T.zec.F.kp (zkj T) .nil zta (zaa (pv 0) zca)) zca)))))
   zsa)
  (zea (zua (zub (zaa (znb zic (zcd (zaa zma (zaa zma (zaa zma zca)))) (zfc zbi (pv 3) zfa) (λ_ _=>rfl)) zca))))))))),?_⟩
 refine⟨_,rfl,p,k,8,rfl,TT,by omega,by decide,λway H1 w0 w1 B1 T1=>?_⟩;have N1:=N0.but TT B1;refine⟨_,rfl,_,_,rfl,rfl,_,rfl,ite2 (λc1=>⟨_,rfl,rfl,_,rfl,ite2 (λc2=>?A) (λc2=>?S1)⟩) (λc1=>iteF ?S2)⟩
 case' S1=>refine⟨_,rfl,_,_,rfl,rfl,_,rfl,ite2 (λc3=>⟨_,rfl,_,_,rfl,rfl,_,rfl,ite2 (λc4=>?B1) (λc4=>?L1)⟩) (λc3=>iteF ?L2)⟩
 case' S2=>refine⟨_,rfl,_,_,rfl,rfl,_,rfl,ite2 (λc3=>absurd (decide_eq_true (Int.lt_trans (by decide:(1:Int)<2) (of_decide_eq_true c3))) c1) (λc3=>iteF ?L3)⟩
 case A =>
  have d0:(1:Int)<(d:Int):=of_decide_eq_true c1;obtain⟨e,rfl⟩:∃e,d=e+1:=⟨d-1,by omega⟩;refine⟨_,rfl,_,rfl,_,rfl,_,_,rfl,rfl,p,nl,k+1,ns,e,?_,T1,by omega,N1,by omega,by omega,λv y k2 H2 B2 T2 hk2 W2 ok2 yz2=>⟨sz2,λt ht=>?_⟩⟩
  ·show [V.ref p,V.ref nl,V.int (((e+1:Nat):Int)-1)]=_;rw[show (((e+1:Nat):Int)-1)=(e:Int) by omega]
  ·refine laid ht λH3 S3 e3=>?_;exact q _ (.not y) k2 H3 (B1.trans (B2.trans (But.same S3))) (T2.same S3) (by omega) (.not e3 (W2.same S3)) ok2 (by show y.size+1≤e+1;omega)
 case B1 =>
  have d0:(2:Int)<(d:Int):=of_decide_eq_true c3;have w5:(5:Int)<way:=of_decide_eq_true c4;refine⟨_,rfl,_,_,rfl,rfl,_,_,rfl,rfl,⟨by decide,by decide⟩,?_⟩;obtain⟨f,hf⟩:∃f:Nat,((d:Int)-1) / 2=(f:Int):=⟨(((d:Int)-1) / 2).toNat,by omega⟩;dsimp only;rw[hf];refine⟨_,rfl,_,rfl,_,rfl,p,nl,k+1,ns,f,rfl,T1,by omega,N1,by omega,by omega,λv y k2 H2 B2 T2 hk2 W2 ok2 yz2=>?_⟩;have N2:=N1.but T1 B2;refine⟨sz2,λt2 ht2=>?_⟩;refine laid ht2 λH3 S3 e3=>?_;obtain⟨u,hu,hu2⟩:=zfib (r:=way-6) (x:="both") (y:="any") (by omega) (by omega);refine⟨_,rfl,_,_,rfl,rfl,t2,_,_,_,rfl,rfl,SqL.of e3,hu,?_⟩;have T3:=T2.same S3;refine⟨_,rfl,_,rfl,_,rfl,_,rfl,_,_,rfl,rfl,_,rfl,_,_,rfl,rfl,p,nl,k2,ns,d-1-f,?_,T3,by omega,N2.same S3,by omega,by omega,λv' y' k4 H4 B4 T4 hk4 W4 ok4 yz4=>⟨sz3,λt ht=>?_⟩⟩
  ·show [V.ref p,V.ref nl,V.int ((d:Int)-1-(f:Int))]=_;rw[show (d:Int)-1-(f:Int)=((d-1-f:Nat):Int) by omega]
  ·refine laid ht λH5 S5 e5=>?_;have Ba:=B1.trans (B2.trans ((But.same S3).trans (B4.trans (But.same S5))));have wa:WT H5 v y:=((W2.same S3).but T3 B4).same S5
   rcases hu2 with rfl|rfl
   ·exact q _ (.both y y') k4 H5 Ba (T4.same S5) (by omega) (.both e5 wa (W4.same S5)) ⟨ok2,ok4⟩ (by show y.size+y'.size+1≤d;omega)
   ·exact q _ (.any y y') k4 H5 Ba (T4.same S5) (by omega) (.any e5 wa (W4.same S5)) ⟨ok2,ok4⟩ (by show y.size+y'.size+1≤d;omega)
 all_goals
  have m5:=zmp way (m:=5) (by decide);refine⟨_,rfl,_,_,rfl,rfl,(by show (0:Int)<5;decide),rfl,_,rfl,ite2 (λc6=>?_) (λc6=>?_)⟩
  ·refine⟨_,rfl,_,rfl,p,k+1,4,rfl,T1,by omega,by decide,λr H2 r0 r1 B2 T2=>?_⟩;have N2:=N1.but T1 B2;obtain⟨u,hu,hm⟩:=zzr (ss:=ns) r0 (by rw[N0.len];exact r1);refine⟨nl,_,_,_,rfl,rfl,SqL.of N2.at_,hu,sz2,λt ht=>?_⟩;refine laid ht λH3 S3 e3=>?_;exact q _ (.mark u) _ H3 (B1.trans (B2.trans (But.same S3))) (T2.same S3) (by omega) (.mark e3) (N0.ok u hm) (by show 1≤d;omega)
  have w3:¬ way % 5=3:=λz=>c6 (decide_eq_true (by show V.int (way % 5)=_;rw[z]));refine⟨_,rfl,_,_,rfl,rfl,(by show (0:Int)<5;decide),rfl,_,rfl,ite2 (λc8=>?_) (λc8=>?_)⟩
  ·refine⟨_,rfl,p,k+1,rfl,T1,by omega,λr k2 H2 r1 B2 T2 hk2=>⟨sz2,λt ht=>?_⟩⟩;refine laid ht λH3 S3 e3=>?_;exact q _ (.force r) _ H3 (B1.trans (B2.trans (But.same S3))) (T2.same S3) (by omega) (.force e3) r1 (by show 1≤d;omega)
  have w4:¬ way % 5=4:=λz=>c8 (decide_eq_true (by show V.int (way % 5)=_;rw[z]));refine⟨sz3,λt2 ht2=>?_⟩;refine laid ht2 λH2 S2 e2=>?_;obtain⟨v,hv,hm⟩:=zon (xs:=[V.str "all",V.str "self",V.str "mine"]) (i:=way % 5) m5.1 (by show way % 5<3;omega);refine⟨_,rfl,_,_,rfl,rfl,(by show (0:Int)<5;decide),t2,_,_,_,rfl,rfl,SqL.of e2,hv,sz1,λt ht=>?_⟩;refine laid ht λH3 S3 e3=>?_;have Ba:=B1.trans (But.same (S2.trans S3));have Ta:=T1.same (S2.trans S3);simp only[yha,yzc,or_false] at hm
  rcases hm with rfl|rfl|rfl
  ·exact q _ .all _ H3 Ba Ta (by omega) (.all e3) trivial (by show 1≤d;omega)
  ·exact q _ .self _ H3 Ba Ta (by omega) (.self e3) trivial (by show 1≤d;omega)
  ·exact q _ .mine _ H3 Ba Ta (by omega) (.mine e3) trivial (by show 1≤d;omega)
theorem zjeb (T:Tx K mg):FnOk P w K mg base CX0 5 T.zlb.f T.zlb.d zag (zqm K 0):=by
 have no:∀vs H Q E,¬ zqm K 0 vs H Q E:=λvs H Q E h=>by
  obtain⟨p,nl,k,ns,d,_,_,_,_,h1,h2,_⟩:=h;omega
 exact⟨λvs H Q E h=>absurd h (no vs H Q E),λA outer s H args us vs Q E _ _ _ _ h=>absurd h (no vs H Q E)⟩
theorem zgbb (T:Tx K mg):∀n:Nat,FnOk P w K mg base CX0 (n+5) T.zlb.f T.zlb.d zag (zqm K n)
 | 0=>zjeb T
 | n+1=>zieb T (zgbb T n)
inductive All2 {α β:Type}(R:α->β->Prop):List α->List β->Prop where
 | nil:All2 R [] []
 | cons {a:α} {b:β} {as:List α} {bs:List β}:R a b->All2 R as bs->All2 R (a::as) (b::bs)
theorem All2.imp {α β:Type}{R S:α->β->Prop}(f:∀{a b},R a b->S a b){as:List α}{bs:List β}(z:All2 R as bs):All2 S as bs:=by
 induction z with
 | nil=>exact .nil
 | cons h _ ih=>exact .cons (f h) ih
theorem All2.snoc {α β:Type}{R:α->β->Prop}{a:α}{b:β}(h:R a b){as:List α}{bs:List β}(z:All2 R as bs):All2 R (as++[a]) (bs++[b]):=by
 induction z with
 | nil=>exact .cons h .nil
 | cons g _ ih=>exact .cons g ih
theorem All2.len {α β:Type}{R:α->β->Prop}{as:List α}{bs:List β}(z:All2 R as bs):as.length=bs.length:=by
 induction z with
 | nil=>rfl
 | cons _ _ ih=>rw[yga,yga,ih]
theorem All2.get {α β:Type}{R:α->β->Prop}:∀{as:List α} {bs:List β} {i:Nat} {a:α},All2 R as bs->as[i]?=some a->∃b,bs[i]?=some b∧R a b
 | _,_,_,_,.nil,e=>by simp at e
 | _,_,0,_,.cons h t,e=>by
  rw[ybe] at e;cases e;exact⟨_,rfl,h⟩
 | _,_,i+1,_,.cons h t,e=>by
  rw[yyb] at e;obtain⟨u,h1,h2⟩:=t.get e;exact⟨u,by rw[yyb];exact h1,h2⟩
theorem All2.mem {α β:Type}{R:α->β->Prop}{as:List α}{bs:List β}(h:All2 R as bs){a:α}(ha:a∈as):∃b∈bs,R a b:=by
 induction h with
 | nil=>cases ha
 | cons r t ih =>
  rcases yha.mp ha with rfl|z
  ·exact⟨_,yia,r⟩
  ·obtain⟨b,hb,rb⟩:=ih z;exact⟨b,yna _ hb,rb⟩
theorem All2.perm {α β:Type}{R:α->β->Prop}{as cs:List α}(p:cs.Perm as):∀{bs:List β},All2 R as bs->∃ds,All2 R cs ds∧ds.Perm bs:=by
 induction p with
 | nil=>intro bs h;exact⟨bs,h,.refl _⟩
 | cons x p ih =>
  intro bs h;cases h with
  | cons r t =>
   obtain⟨ds,h1,h2⟩:=ih t;exact⟨_::ds,.cons r h1,h2.cons _⟩
 | swap x y l =>
  intro bs h;cases h with
  | cons r t =>
   cases t with
   | cons r' t'=>exact⟨_,.cons r' (.cons r t'),.swap _ _ _⟩
 | trans p1 p2 ih1 ih2 =>
  intro bs h;obtain⟨ds,h1,h2⟩:=ih2 h;obtain⟨es,h3,h4⟩:=ih1 h1;exact⟨es,h3,h4.trans h2⟩
theorem All2.mem2 {α β:Type}{R:α->β->Prop}{as:List α}{bs:List β}(z:All2 R as bs){b:β}(hb:b∈bs):∃a∈as,R a b:=by
 induction z with
 | nil=>cases hb
 | cons h _ ih =>
  rcases yha.mp hb with z|z
  ·rw[z];exact⟨_,yia,h⟩
  ·obtain⟨a,ha,r⟩:=ih z;exact⟨a,yna _ ha,r⟩
theorem zkpb (K:yba):ywb K (.type "str") (.type "tuple")=some false:=by kernel_rfl
theorem zlpb (K:yba):ywb K (.type "int") (.type "tuple")=some false:=by kernel_rfl
theorem zkab {x:V}{u:Str}(hv:(x = .str u)∨∃i:Nat,i<1000∧x = .int i∧u=(toString (i:Int):Str))(H0:Hp)(Q':VK)(z:Q' (.str u) H0):rStrAny [x] H0 Q':=by
 unfold rStrAny
 rcases hv with e|⟨i,hi,e,rfl⟩
 ·exact .inl ⟨u,by rw[e],z⟩
 ·exact .inr ⟨i,by rw[e],(by rw[Int.natAbs_natCast];exact zxfb i hi),z⟩
inductive PT (n:Nat)(H:Hp):V->Str->Prop where
 | w {x:V} {y:Wh}:WT H x y->y.ok->dep y<n->y.size≤9->PT n H x (whT y)
 | s {u:Str}:zie u->PT n H (.str u) u
 | i {i:Nat}:i<1000->PT n H (.int (i:Int)) (toString (i:Int):Str)
theorem PT.len {n:Nat}{H:Hp}{x:V}{u:Str}(h:PT n H x u):u.length≤200:=by
 cases h with
 | w _ o _ d=>exact zzy o d
 | s o=>exact yxa o.2.1 (by decide)
 | i hi=>exact yxa (zcn hi).2.2 (by decide)
theorem PT.same {n:Nat}{H H':Hp}(s:Same H H'){x:V}{u:Str}(h:PT n H x u):PT n H' x u:=by
 cases h with
 | w a b c d=>exact .w (a.same s) b c d
 | s a=>exact .s a
 | i a=>exact .i a
theorem zrd (y:Wh):y.words≠[]:=y.zrd
theorem WT.open {n:Nat}{H:Hp}{v:V}{y:Wh}(h:WT H v y)(ok:y.ok)(hn:dep y<n+1)(h2:y.size≤9):Ex3 λa xs us=>v = .ref a∧H a=some (.tup (.str y.word::xs))∧xs.length≤2∧All2 (PT n H) xs us∧yra " " (y.word::us)=whT y:=by
 cases h with
 | all h=>exact⟨_,[],[],rfl,h,by simp,.nil,rfl⟩
 | self h=>exact⟨_,[],[],rfl,h,by simp,.nil,rfl⟩
 | mine h=>exact⟨_,[],[],rfl,h,by simp,.nil,rfl⟩
 | mark h=>exact⟨_,_,_,rfl,h,by simp,.cons (.s ok) .nil,rfl⟩
 | force h=>exact⟨_,_,_,rfl,h,by simp,.cons (.i ok) .nil,rfl⟩
 | @not a x y h t =>
  have m1:dep y+1<n+1:=hn;have m2:y.size+1≤9:=h2;refine⟨_,_,_,rfl,h,by simp,.cons (.w t ok (by omega) (by omega)) .nil,?_⟩;show yra " " ["not",yra " " y.words]=yra " " ("not" :: y.words)
  rw[join_cons " " "not" (zrd y),join_cons " " "not" (ypb _ _)];rfl
 | @both a x x' y y' h t t' =>
  have m1:max (dep y) (dep y')+1<n+1:=hn;have m2:y.size+y'.size+1≤9:=h2;refine⟨_,_,_,rfl,h,by simp,.cons (.w t ok.1 (by omega) (by omega)) (.cons (.w t' ok.2 (by omega) (by omega)) .nil),?_⟩;show yra " " ["both",yra " " y.words,yra " " y'.words]=yra " " ("both" :: (y.words++y'.words))
  rw[join_cons " " "both" (ypb _ _),join_cons " " (yra " " y.words) (ypb _ _),join_cons " " "both" (λz=>zrd y (yrh.mp z).1),zfn " " (zrd y) (zrd y')];rfl
 | @any a x x' y y' h t t' =>
  have m1:max (dep y) (dep y')+1<n+1:=hn;have m2:y.size+y'.size+1≤9:=h2;refine⟨_,_,_,rfl,h,by simp,.cons (.w t ok.1 (by omega) (by omega)) (.cons (.w t' ok.2 (by omega) (by omega)) .nil),?_⟩;show yra " " ["any",yra " " y.words,yra " " y'.words]=yra " " ("any" :: (y.words++y'.words))
  rw[join_cons " " "any" (ypb _ _),join_cons " " (yra " " y.words) (ypb _ _),join_cons " " "any" (λz=>zrd y (yrh.mp z).1),zfn " " (zrd y) (zrd y')];rfl
def zxj (n:Nat):Sp:=λvs H Q _=>Ex2 λv (y:Wh)=>vs=[v]∧WT H v y∧y.ok∧dep y<n∧y.size≤9∧∀H',Same H H'->Q (.str (whT y)) H'
theorem zuo {us:List Str}{m:Nat}(h:∀u∈us,u.length≤m):(us.map (·.length)).sum≤m*us.length:=by
 induction us with
 | nil=>exact ylb _
 | cons u r ih =>
  rw[yva,yze,yga,Nat.mul_succ];have:=h u yia;have:=ih λv hv=>h v (yna _ hv);omega
theorem zqcb (T:Tx K mg){n:Nat}(zwy:FnOk P w K mg base CX0 (n+2) T.zkb.f T.zkb.d zif (zxj n)):FnOk P w K mg base CX0 (n+3) T.zkb.f T.zkb.d zif (zxj (n+1)):=by
 refine T.zkb.ok zbj ?_;rintro f c A o s H vs Q E hr ⟨v,y,rfl,wt,ok,hn,h2,q⟩ X;obtain⟨a,xs,us,rfl,ea,hl,ps,eg⟩:=wt.open (n:=n) ok hn h2;refine⟨_,  (zba (zqa (i:=1) zbj.nd rfl (.inl rfl) (zcd (zaa (znb zlc (pv 0) zfa (λ_ _=>rfl)) zca)))
  (zba (zzh ygc rfl (zckb (zai ziob (pv 0) (zck zfa) zdk)) (zza (i:=2) zbj.nd rfl (.inl rfl))
   (zea (zxb (zih (zib zlh rfl T.zdd ylg (zaa (pv 2) (zaa (zyn (v:=.ty "tuple") rfl T.zxi ypk rfl) zca))))
    (zea (zkd (zrh ycb yfb ygb zfd (pv 1) (zaa (zja zwy hr rfl T.zkb.m T.zkb.F.kp (znk T) .nil zta (zaa (pv 2) zca)) zca))))
    (zea (zkd (zrh ycb yfb ygb zfd (pv 1) (zaa (zfe zqp rfl T.zocb boot_str (zaa (pv 2) zca)) zca)))))))
  (zea (zua (zrh ydd ymg yng zqu zma (zaa (pv 1) zca)))))),?_⟩
 refine⟨_,rfl,a,_,_,_,rfl,rfl,SqT.of ea,zia (j:=0) rfl,sz1,λwl hwl=>?_⟩;refine laid hwl λH0 S0 e0=>?_;refine⟨_,rfl,_,rfl,a,_,rfl,SqT.of (S0 _ _ ea),?_,λb hb=>?_⟩
 ·rintro⟨z,_⟩;rw[show (1:Int)=((1:Nat):Int) from rfl,HT.zez,yga] at z;omega
 have ec:cutV (V.str y.word::xs) (some 1) none=xs:=by
  rw[show (1:Int)=((1:Nat):Int) from rfl,zmn];rfl
 rw[ec];refine laid hb λH1 S1 eb=>?_;have nbw:b≠wl:=yub (zka e0 hb);have S01:=S0.trans S1;refine⟨b,rfl,⟨_,SqT.of eb⟩,?_⟩;have wdl:y.word.length≤8:=(y.zaj).2.2;have psl:=ps.len;refine zumb (xs:=xs) (λi σ H'=>∃o,σ=[some (.ref a),some (.ref wl),o]∧H' wl=some (.lst ((y.word::us.take i).map V.str))∧H' b=some (.tup xs)∧Same H H') ⟨_,rfl,S1 _ _ e0,eb,S01⟩ ?_ ?_ ?_
 ·rintro i σ H' _ ⟨o,rfl,_,e,S⟩;exact SqT.of e
 ·rintro i x σ H' hx ⟨o,rfl,ew,eb',S⟩;obtain⟨u,eu,pu⟩:=ps.get hx;have i2:i<xs.length:=(yla.mp hx).1;have eg2:(y.word::us.take (i+1)).map V.str=(y.word::us.take i).map V.str++[V.str u]:=by
   rw[ykb,eu,ykc,yva,yib];rfl
  have sz:((y.word::us.take i).map V.str).length≤1000:=by
   rw[yda,yga,ydb];omega
  cases pu.same S with
  | @w x y' wt' ok' dn d2 =>
   obtain⟨a',xs',rfl,ea'⟩:=wt'.tup;refine⟨_,rfl,_,_,_,true,rfl,TyOf.tup ea',.inl ⟨"tuple",rfl,rfl⟩,_,rfl,iteT ?_⟩;refine⟨_,rfl,.inl ⟨rfl,_,SqL.of ew⟩,_,rfl,_,y',rfl,wt',ok',dn,d2,λH2 S2=>⟨wl,_,_,rfl,rfl,S2 _ _ ew,zpc sz,?_⟩⟩;exact⟨_,rfl,by rw[eg2];exact zga,by rw[zva nbw];exact S2 _ _ eb',zdg (S.trans S2) hwl _⟩
  | s _ =>
   refine⟨_,rfl,_,_,_,false,rfl,TyOf.str _,.inl ⟨"tuple",rfl,zkpb _⟩,_,rfl,iteF ?_⟩;refine⟨_,rfl,.inl ⟨rfl,_,SqL.of ew⟩,_,rfl,zkab (.inl rfl) _ _ ⟨wl,_,_,rfl,rfl,ew,zpc sz,?_⟩⟩;exact⟨_,rfl,by rw[eg2];exact zga,by rw[zva nbw];exact eb',zdg S hwl _⟩
  | i hi =>
   refine⟨_,rfl,_,_,_,false,rfl,TyOf.int _,.inl ⟨"tuple",rfl,zlpb _⟩,_,rfl,iteF ?_⟩;refine⟨_,rfl,.inl ⟨rfl,_,SqL.of ew⟩,_,rfl,zkab (.inr ⟨_,hi,rfl,rfl⟩) _ _ ⟨wl,_,_,rfl,rfl,ew,zpc sz,?_⟩⟩;exact⟨_,rfl,by rw[eg2];exact zga,by rw[zva nbw];exact eb',zdg S hwl _⟩
 ·rintro σ H' ⟨o,rfl,ew,_,S⟩;rw[ysa (by omega)] at ew;refine⟨rfl,_,rfl," ",wl,y.word::us,rfl,rfl,SqL.of ew,?_,?_⟩
  ·have z:=zuo (us:=y.word::us) (m:=200) λu hu=>by
    rcases yha.mp hu with z|z
    ·rw[z];omega
    ·obtain⟨x,_,pu⟩:=ps.mem2 z;exact pu.len
   rw[yga] at z ⊢;have e1:(" ":Str).length=1:=rfl;rw[e1];omega
  ·rw[eg];exact q H' S
theorem zrcb (T:Tx K mg):FnOk P w K mg base CX0 2 T.zkb.f T.zkb.d zif (zxj 0):=by
 have no:∀vs H Q E,¬ zxj 0 vs H Q E:=λvs H Q E h=>by
  obtain⟨v,y,_,_,_,hd,_⟩:=h;omega
 exact⟨λvs H Q E h=>absurd h (no vs H Q E),λA outer s H args us vs Q E _ _ _ _ h=>absurd h (no vs H Q E)⟩
theorem zfq (T:Tx K mg):∀n:Nat,FnOk P w K mg base CX0 (n+2) T.zkb.f T.zkb.d zif (zxj n)
 | 0=>zrcb T
 | n+1=>zqcb T (zfq T n)
theorem znbb {rs:List Row}{t:Int}(nd:(rs.map (·.num)).Nodup):rs.filter (λr=>decide (V.int r.num=V.int t))=(rowOf rs t).toList:=by
 unfold rowOf
 induction rs with
 | nil=>rfl
 | cons r s ih =>
  rw[yva,yle] at nd;rw[List.filter_cons,List.find?_cons]
  by_cases e:r.num=t
  ·rw[if_pos (decide_eq_true (by rw[e])),decide_eq_true e];have:s.filter (λr=>decide (V.int r.num=V.int t))=[]:=List.filter_eq_nil_iff.mpr λx hx z=>nd.1 (ybb.mpr ⟨x,hx,by
    have:=of_decide_eq_true z;injection this with this
    rw[this,e]⟩)
   rw[this];rfl
  ·rw[if_neg (λz=>e (by have:=of_decide_eq_true z;injection this)),decide_eq_false e];exact ih nd.2
def zyj (n:Nat):Sp:=λvs H Q _=>Ex8 λv sl us rs (number keeper thing:Int) (y:Wh)=>vs=[v,.ref sl,.int number,.int keeper,.int thing]∧WT H v y∧dep y<n∧H sl=some (.lst us)∧zjd H us rs∧(rs.map (·.num)).Nodup∧rs.length≤16∧0≤keeper∧(∀r∈rs,0≤r.num)∧∀H',Same H H'->Q (.bl (zjf (rowOf rs thing) number keeper thing y)) H'
theorem zodb (T:Tx K mg){n:Nat}(zjs:FnOk P w K mg base CX0 (n+2) T.zrb.f T.zrb.d zbg (zyj n)):FnOk P w K mg base CX0 (n+3) T.zrb.f T.zrb.d zbg (zyj (n+1)):=by
 refine T.zrb.ok zvh ?_;rintro f c A o s H vs Q E hr ⟨v,sl,us,rs,number,keeper,thing,y,rfl,wt,hn,es,R,nd,h16,k0,n0,q⟩ X;have ul:=R.length;refine⟨_,  (zba (zifb (i:=5) zvh.nd rfl (.inl rfl) (own:=["_law_row"]) (cap:=["_law_thing"]) rfl (zkc.chk rfl rfl) (.cons (j:=4) rfl (.inl rfl) (.inl rfl) .nil) (zde (pv 1)) (λ_ _ _ _=>(zza (i:=0) (show ycd (["_law_row","_law_thing"]:List Str) by decide +kernel) rfl (.inl rfl))) (λ_ _ _ _=>zpi (zoa zsc (znb (zkk K) (pv 0) zfa (λ_ _=>rfl)) (pv 1) (zya _))) (λ_ _ _ _=>by exact (pv 0)))
  (zba (zxb (zoa zsc (znb zlc (pv 0) zfa (λ_ _=>rfl)) zma (zya _))
   (zea (zua zjr))
   zsa)
  (zba (zxb (zoa zsc (znb zlc (pv 0) zfa (λ_ _=>rfl)) zma (zya _))
   (zea (zua (zme zsc (pv 4) (pv 2) (zya _))))
   zsa)
  (zba (zxb (zoa zsc (znb zlc (pv 0) zfa (λ_ _=>rfl)) zma (zya _))
   (zea (zua (zmib (zme zsc (pv 4) (zfc zek (zkib zibb zfa) (pv 3)) (zya _)) (zkp (zme zos (zib zgb rfl T.zig ymb (zaa (zqf (own:=["_law_row"]) (cap:=["_law_keeper_here"]) rfl (zkc.chk rfl rfl) (.cons (j:=3) rfl (.inl rfl) (.inl rfl) .nil) (zde (pv 5)) (λ_ _ _ _=>(zza (i:=0) (show ycd (["_law_row","_law_keeper_here"]:List Str) by decide +kernel) rfl (.inl rfl))) (λ_ _ _ _=>zpi (zoa zsc (znb (zkk K) (pv 0) zfa (λ_ _=>rfl)) (pv 1) (zya _))) (λ_ _ _ _=>by exact (pv 0))) zca)) zfa (zya _))))))
   zsa)
  (zba (zxb (zoa zsc (znb zlc (pv 0) zfa (λ_ _=>rfl)) zma (zya _))
   (zea (zua (zme zos (zib zgb rfl T.zig ymb (zaa (zqf (own:=["_law_row"]) (cap:=["_law_whom_here"]) rfl (zkc.chk rfl rfl) (.cons (j:=0) rfl (.inl rfl) (.inl rfl) .nil) (zde (pv 5)) (λ_ _ _ _=>(zza (i:=0) (show ycd (["_law_row","_law_whom_here"]:List Str) by decide +kernel) rfl (.inl rfl))) (λ_ _ _ _=>zpi (zoa (zjdb K) (znb (zkk K) (pv 1) zfa (λ_ _=>rfl)) (znb (zkk K) (pv 0) zfa (λ_ _=>rfl)) rfl)) (λ_ _ _ _=>by exact (pv 0))) zca)) zfa (zya _))))
   zsa)
  (zba (zxb (zoa zsc (znb zlc (pv 0) zfa (λ_ _=>rfl)) zma (zya _))
   (zea (zua (zme zos (zib zgb rfl T.zig ymb (zaa (zqf (own:=["_law_row"]) (cap:=["_law_whom_here"]) rfl (zkc.chk rfl rfl) (.cons (j:=0) rfl (.inl rfl) (.inl rfl) .nil) (zde (pv 5)) (λ_ _ _ _=>(zza (i:=0) (show ycd (["_law_row","_law_whom_here"]:List Str) by decide +kernel) rfl (.inl rfl))) (λ_ _ _ _=>zpi (zoa zvob (znb (zkk K) (pv 0) zfa (λ_ _=>rfl)) (znb (zkk K) (pv 1) zfa (λ_ _=>rfl)) (zya _))) (λ_ _ _ _=>by exact (pv 0))) zca)) zfa (zya _))))
   zsa)
  (zba (zqa (i:=6) zvh.nd rfl (.inl rfl) (zja zjs hr rfl T.zrb.m T.zrb.F.kp (ztl T) .nil zta (zaa (znb zlc (pv 0) zfa (λ_ _=>rfl)) (zaa (pv 1) (zaa (pv 2) (zaa (pv 3) (zaa (pv 4) zca)))))))
  (zba (zxb (zoa zsc (znb zlc (pv 0) zfa (λ_ _=>rfl)) zma (zya _))
   (zea (zua (zekb (pv 6))))
   zsa)
  (zba (zqa (i:=7) zvh.nd rfl (.inl rfl) (zja zjs hr rfl T.zrb.m T.zrb.F.kp (ztl T) .nil zta (zaa (znb zlc (pv 0) zfa (λ_ _=>rfl)) (zaa (pv 1) (zaa (pv 2) (zaa (pv 3) (zaa (pv 4) zca)))))))
  (zba (zxb (zoa zsc (znb zlc (pv 0) zfa (λ_ _=>rfl)) zma (zya _))
   (zea (zua (zrbb (pv 6) (zkp (pv 7)))))
   zsa)
  (zea (zua (zmib (pv 6) (zkp (pv 7))))))))))))))),?_⟩
 refine⟨_,rfl,sl,rfl,⟨_,SqL.of es⟩,?_⟩;refine zoe (xs:=us) (λi ys H'=>H'=H∧i≤us.length∧zjd H ys ((rs.take i).filter λr=>decide (V.int r.num=V.int thing))) (λi ys H' z=>by rw[z.1];exact SqL.of es) ⟨rfl,ylb _,.nil⟩ ?_ ?_ ?_
 ·rintro i ys H' ⟨_,hi,hy⟩;have l1:=hy.length;have l2:=yqb (λr:Row=>decide (V.int r.num=V.int thing)) (rs.take i);rw[ydb] at l2;exact small (by omega)
 ·rintro i u ys H' hu ⟨rfl,_,hy⟩;have hi:i<us.length:=(yla.mp hu).1;obtain⟨r,er,ra⟩:=R.get hu;obtain⟨a,m,rfl,h1,h2⟩:=id ra;refine⟨rfl,_,rfl,a,_,_,_,rfl,rfl,SqT.of h1,zia (j:=0) rfl,_,rfl,rfl,_,rfl,?_⟩;rw[ykb,er,ykc,ymc];refine ite2 (λc=>?_) (λc=>?_)
  ·refine⟨_,rfl,rfl,hi,?_⟩;rw[yzb (p:=λr:Row=>decide (V.int r.num=V.int thing)) c];exact hy.snoc ra
  ·refine⟨rfl,hi,?_⟩;rw[yac (p:=λr:Row=>decide (V.int r.num=V.int thing)) c,yfj,ysb];exact hy
 rintro ys H0 ⟨rfl,_,hy⟩ rl hrl;rw[ysa (by omega),znbb nd] at hy;refine laid hrl λH1 S1 e1=>?_;have RO:zjd H1 ys (rowOf rs thing).toList:=hy.map λ_ _ z=>z.same S1;have rnum:∀r,rowOf rs thing=some r->r.num=thing∧r∈rs:=λr hr=>⟨of_decide_eq_true (p:=r.num=thing) (List.find?_some (p:=λr:Row=>decide (r.num=thing)) hr),List.mem_of_find?_eq_some hr⟩;have yl:=RO.length;have yl1:(rowOf rs thing).toList.length≤1:=by cases rowOf rs thing<;>simp
 have len_pos:∀(p:Row->Bool) (zs:(List V)),zs.length=((rowOf rs thing).toList.filter p).length->decide ((0:Int)<(zs.length:Int))=(match rowOf rs thing with|none=>false|some r=>p r):=λp zs e=>by
  rw[e];cases rowOf rs thing with
  | none=>rfl
  | some r =>
   show decide ((0:Int)<(([r].filter p).length:Int))=p r
   cases hp:p r with
   | true=>rw[yzb hp];rfl
   | false=>rw[yac (by rw[hp];simp)];rfl
 have wt1:=wt.same S1;cases wt1 with
 | all h =>
  exact⟨_,rfl,_,_,_,_,rfl,rfl,SqT.of h,zia (j:=0) rfl,rfl,_,rfl,iteT (q H1 S1)⟩
 | self h =>
  refine⟨_,rfl,_,_,_,_,rfl,rfl,SqT.of h,zia (j:=0) rfl,rfl,_,rfl,iteF ?_⟩;refine⟨_,rfl,_,_,_,_,rfl,rfl,SqT.of h,zia (j:=0) rfl,rfl,_,rfl,iteT ?_⟩;refine⟨_,rfl,_,rfl,rfl,?_⟩;have e:decide (V.int thing=V.int number)=decide (thing=number):=decide_eq_decide.mpr ⟨λz=>by injection z,λz=>by rw[z]⟩;rw[e];exact q H1 S1
 | mine h =>
  refine⟨_,rfl,_,_,_,_,rfl,rfl,SqT.of h,zia (j:=0) rfl,rfl,_,rfl,iteF ?_⟩;refine⟨_,rfl,_,_,_,_,rfl,rfl,SqT.of h,zia (j:=0) rfl,rfl,_,rfl,iteF ?_⟩;refine⟨_,rfl,_,_,_,_,rfl,rfl,SqT.of h,zia (j:=0) rfl,rfl,_,rfl,iteT ?_⟩;refine⟨_,rfl,_,rfl,_,rfl,_,_,rfl,rfl,rfl,_,rfl,?_⟩;have e:decide (V.int thing=V.int (-1-keeper))=decide (thing = -1-keeper):=decide_eq_decide.mpr ⟨λz=>by injection z,λz=>by rw[z]⟩;refine ite2 (λc=>?_) (λc=>?_)
  ·have c':thing = -1-keeper:=of_decide_eq_true (e.symm.trans c);have z:=q H1 S1;have no:rowOf rs thing=none:=by
    cases hr:rowOf rs thing with
    | none=>rfl
    | some r =>
     obtain⟨a1,a2⟩:=rnum r hr;have:=n0 r a2;omega
   rw[no] at z;have e2:zjf none number keeper thing .mine=true:=decide_eq_true c';rw[e2] at z;exact z
  ·have c':¬ thing = -1-keeper:=λz=>c (e.trans (decide_eq_true z));refine⟨_,rfl,rl,rfl,⟨_,SqL.of e1⟩,?_⟩;refine zoe (xs:=ys) (λi zs H'=>H'=H1∧i≤ys.length∧zs.length=(((rowOf rs thing).toList.take i).filter λr=>decide (V.int r.keeper=V.int keeper)).length) (λi zs H' z=>by rw[z.1];exact SqL.of e1) ⟨rfl,ylb _,rfl⟩ ?_ ?_ ?_
   ·rintro i zs H' ⟨_,hi,hz⟩;have l2:=yqb (λr:Row=>decide (V.int r.keeper=V.int keeper)) ((rowOf rs thing).toList.take i);rw[ydb] at l2;exact small (by omega)
   ·rintro i u zs H' hu ⟨rfl,_,hz⟩;have hi:i<ys.length:=(yla.mp hu).1;obtain⟨r,er,ra⟩:=RO.get hu;obtain⟨a,m,rfl,h1,h2⟩:=id ra;refine⟨rfl,_,rfl,a,_,_,_,rfl,rfl,SqT.of h1,zia (j:=1) rfl,_,rfl,rfl,_,rfl,?_⟩;rw[ykb,er,ykc,ymc,yea];refine ite2 (λc=>?_) (λc=>?_)
    ·refine⟨_,rfl,rfl,hi,?_⟩;rw[yzb (p:=λr:Row=>decide (V.int r.keeper=V.int keeper)) c,yea,hz];rfl
    ·refine⟨rfl,hi,?_⟩;rw[yac (p:=λr:Row=>decide (V.int r.keeper=V.int keeper)) c];exact hz
   ·rintro zs H' ⟨rfl,_,hz⟩ p3 hp3;rw[ysa (by omega)] at hz;refine laid hp3 λH3 S3 e3=>?_;refine⟨p3,_,rfl,.inl (SqL.of e3),_,_,rfl,rfl,?_⟩;show Q (.bl (decide ((0:Int)<(zs.length:Int)))) H3
    rw[len_pos (λr=>decide (V.int r.keeper=V.int keeper)) zs hz];have z:=q H3 (S1.trans S3);have ek:(match rowOf rs thing with|none=>false|some r=>decide (V.int r.keeper=V.int keeper))=zjf (rowOf rs thing) number keeper thing .mine:=by
     cases rowOf rs thing with
     | none=>exact (decide_eq_false c').symm
     | some r=>exact decide_eq_decide.mpr ⟨λz=>by injection z,λz=>by rw[z]⟩
    rw[ek];exact z
 | @mark wa nm h =>
  refine⟨_,rfl,_,_,_,_,rfl,rfl,SqT.of h,zia (j:=0) rfl,rfl,_,rfl,iteF ?_⟩;refine⟨_,rfl,_,_,_,_,rfl,rfl,SqT.of h,zia (j:=0) rfl,rfl,_,rfl,iteF ?_⟩;refine⟨_,rfl,_,_,_,_,rfl,rfl,SqT.of h,zia (j:=0) rfl,rfl,_,rfl,iteF ?_⟩;refine⟨_,rfl,_,_,_,_,rfl,rfl,SqT.of h,zia (j:=0) rfl,rfl,_,rfl,iteT ?_⟩;refine⟨_,rfl,rl,rfl,⟨_,SqL.of e1⟩,?_⟩;refine zoe (xs:=ys) (λi zs H'=>H'=H1∧i≤ys.length∧zs.length=(((rowOf rs thing).toList.take i).filter (λr:Row=>inV (.str nm) (r.marks.map V.str))).length) (λi zs H' z=>by rw[z.1];exact SqL.of e1) ⟨rfl,ylb _,rfl⟩ ?_ ?_ ?_
  ·rintro i zs H' ⟨_,hi,hz⟩;have l2:=yqb (λr:Row=>inV (.str nm) (r.marks.map V.str)) ((rowOf rs thing).toList.take i);rw[ydb] at l2;exact small (by omega)
  ·rintro i u zs H' hu ⟨rfl,_,hz⟩;have hi:i<ys.length:=(yla.mp hu).1;obtain⟨r,er,ra⟩:=RO.get hu;obtain⟨a,m,rfl,h1,h2⟩:=id ra;refine⟨rfl,_,rfl,wa,_,_,_,rfl,rfl,SqT.of h,zia (j:=1) rfl,_,rfl,a,_,_,_,rfl,rfl,SqT.of h1,zia (j:=2) rfl,m,_,rfl,.inr (SqT.of h2),rfl,zux _,_,rfl,?_⟩;rw[ykb,er,ykc,ymc,yea];refine ite2 (λc=>?_) (λc=>?_)
   ·refine⟨_,rfl,rfl,hi,?_⟩;rw[yzb (p:=(λr:Row=>inV (.str nm) (r.marks.map V.str))) c,yea,hz];rfl
   ·refine⟨rfl,hi,?_⟩;rw[yac (p:=(λr:Row=>inV (.str nm) (r.marks.map V.str))) c];exact hz
  ·rintro zs H' ⟨rfl,_,hz⟩ p3 hp3;rw[ysa (by omega)] at hz;refine laid hp3 λH3 S3 e3=>?_;refine⟨p3,_,rfl,.inl (SqL.of e3),_,_,rfl,rfl,?_⟩;show Q (.bl (decide ((0:Int)<(zs.length:Int)))) H3
   rw[len_pos (λr:Row=>inV (.str nm) (r.marks.map V.str)) zs hz];have z:=q H3 (S1.trans S3);have ek:(match rowOf rs thing with|none=>false|some r=>((λr:Row=>inV (.str nm) (r.marks.map V.str))) r)=zjf (rowOf rs thing) number keeper thing (.mark nm):=by
    cases rowOf rs thing<;>rfl
   rw[ek];exact z
 | @force wa fi h =>
  refine⟨_,rfl,_,_,_,_,rfl,rfl,SqT.of h,zia (j:=0) rfl,rfl,_,rfl,iteF ?_⟩;refine⟨_,rfl,_,_,_,_,rfl,rfl,SqT.of h,zia (j:=0) rfl,rfl,_,rfl,iteF ?_⟩;refine⟨_,rfl,_,_,_,_,rfl,rfl,SqT.of h,zia (j:=0) rfl,rfl,_,rfl,iteF ?_⟩;refine⟨_,rfl,_,_,_,_,rfl,rfl,SqT.of h,zia (j:=0) rfl,rfl,_,rfl,iteF ?_⟩;refine⟨_,rfl,_,_,_,_,rfl,rfl,SqT.of h,zia (j:=0) rfl,rfl,_,rfl,iteT ?_⟩;refine⟨_,rfl,rl,rfl,⟨_,SqL.of e1⟩,?_⟩;refine zoe (xs:=ys) (λi zs H'=>H'=H1∧i≤ys.length∧zs.length=(((rowOf rs thing).toList.take i).filter (λr:Row=>decide ((fi:Int)≤r.force))).length) (λi zs H' z=>by rw[z.1];exact SqL.of e1) ⟨rfl,ylb _,rfl⟩ ?_ ?_ ?_
  ·rintro i zs H' ⟨_,hi,hz⟩;have l2:=yqb (λr:Row=>decide ((fi:Int)≤r.force)) ((rowOf rs thing).toList.take i);rw[ydb] at l2;exact small (by omega)
  ·rintro i u zs H' hu ⟨rfl,_,hz⟩;have hi:i<ys.length:=(yla.mp hu).1;obtain⟨r,er,ra⟩:=RO.get hu;obtain⟨a,m,rfl,h1,h2⟩:=id ra;refine⟨rfl,_,rfl,a,_,_,_,rfl,rfl,SqT.of h1,zia (j:=3) rfl,_,rfl,wa,_,_,_,rfl,rfl,SqT.of h,zia (j:=1) rfl,_,_,rfl,rfl,_,rfl,?_⟩;rw[ykb,er,ykc,ymc,yea];refine ite2 (λc=>?_) (λc=>?_)
   ·refine⟨_,rfl,rfl,hi,?_⟩;rw[yzb (p:=(λr:Row=>decide ((fi:Int)≤r.force))) c,yea,hz];rfl
   ·refine⟨rfl,hi,?_⟩;rw[yac (p:=(λr:Row=>decide ((fi:Int)≤r.force))) c];exact hz
  ·rintro zs H' ⟨rfl,_,hz⟩ p3 hp3;rw[ysa (by omega)] at hz;refine laid hp3 λH3 S3 e3=>?_;refine⟨p3,_,rfl,.inl (SqL.of e3),_,_,rfl,rfl,?_⟩;show Q (.bl (decide ((0:Int)<(zs.length:Int)))) H3
   rw[len_pos (λr:Row=>decide ((fi:Int)≤r.force)) zs hz];have z:=q H3 (S1.trans S3);have ek:(match rowOf rs thing with|none=>false|some r=>((λr:Row=>decide ((fi:Int)≤r.force))) r)=zjf (rowOf rs thing) number keeper thing (.force fi):=by
    cases rowOf rs thing<;>rfl
   rw[ek];exact z
 | @not wa x y' h t =>
  have m1:dep y'+1<n+1:=hn;refine⟨_,rfl,_,_,_,_,rfl,rfl,SqT.of h,zia (j:=0) rfl,rfl,_,rfl,iteF ?_⟩;refine⟨_,rfl,_,_,_,_,rfl,rfl,SqT.of h,zia (j:=0) rfl,rfl,_,rfl,iteF ?_⟩;refine⟨_,rfl,_,_,_,_,rfl,rfl,SqT.of h,zia (j:=0) rfl,rfl,_,rfl,iteF ?_⟩;refine⟨_,rfl,_,_,_,_,rfl,rfl,SqT.of h,zia (j:=0) rfl,rfl,_,rfl,iteF ?_⟩;refine⟨_,rfl,_,_,_,_,rfl,rfl,SqT.of h,zia (j:=0) rfl,rfl,_,rfl,iteF ?_⟩;refine⟨_,rfl,_,_,_,_,rfl,rfl,SqT.of h,zia (j:=1) rfl,_,rfl,_,rfl,_,rfl,_,rfl,_,sl,us,rs,number,keeper,thing,_,rfl,t,by omega,S1 _ _ es,R.map λ_ _ z=>z.same S1,nd,h16,k0,n0,λH3 S3=>?_⟩;have h3:=S3 _ _ h;refine⟨_,rfl,_,_,_,_,rfl,rfl,SqT.of h3,zia (j:=0) rfl,rfl,_,rfl,iteT ?_⟩;exact⟨_,rfl,_,rfl,q H3 (S1.trans S3)⟩
 | @both wa x x' y1 y2 h t t' =>
  have m1:max (dep y1) (dep y2)+1<n+1:=hn;refine⟨_,rfl,_,_,_,_,rfl,rfl,SqT.of h,zia (j:=0) rfl,rfl,_,rfl,iteF ?_⟩;refine⟨_,rfl,_,_,_,_,rfl,rfl,SqT.of h,zia (j:=0) rfl,rfl,_,rfl,iteF ?_⟩;refine⟨_,rfl,_,_,_,_,rfl,rfl,SqT.of h,zia (j:=0) rfl,rfl,_,rfl,iteF ?_⟩;refine⟨_,rfl,_,_,_,_,rfl,rfl,SqT.of h,zia (j:=0) rfl,rfl,_,rfl,iteF ?_⟩;refine⟨_,rfl,_,_,_,_,rfl,rfl,SqT.of h,zia (j:=0) rfl,rfl,_,rfl,iteF ?_⟩;refine⟨_,rfl,_,_,_,_,rfl,rfl,SqT.of h,zia (j:=1) rfl,_,rfl,_,rfl,_,rfl,_,rfl,_,sl,us,rs,number,keeper,thing,_,rfl,t,by omega,S1 _ _ es,R.map λ_ _ z=>z.same S1,nd,h16,k0,n0,λH3 S3=>?_⟩;have h3:=S3 _ _ h;refine⟨_,rfl,_,_,_,_,rfl,rfl,SqT.of h3,zia (j:=0) rfl,rfl,_,rfl,iteF ?_⟩;have S13:=S1.trans S3;refine⟨_,rfl,_,_,_,_,rfl,rfl,SqT.of h3,zia (j:=2) rfl,_,rfl,_,rfl,_,rfl,_,rfl,_,sl,us,rs,number,keeper,thing,_,rfl,t'.same S3,by omega,S13 _ _ es,R.map λ_ _ z=>z.same S13,nd,h16,k0,n0,λH5 S5=>?_⟩;have h5:=S5 _ _ h3;refine⟨_,rfl,_,_,_,_,rfl,rfl,SqT.of h5,zia (j:=0) rfl,rfl,_,rfl,iteT ?_⟩;have z:=q H5 (S1.trans (S3.trans S5));refine⟨_,rfl,_,rfl,?_⟩;refine ite2 (λc=>?_) (λc=>?_)
  ·have e:zjf (rowOf rs thing) number keeper thing (.both y1 y2)=zjf (rowOf rs thing) number keeper thing y2:=by
    show (zjf (rowOf rs thing) number keeper thing y1&&_)=_
    rw[c,yud]
   rw[e] at z;exact⟨_,rfl,z⟩
  ·have e:zjf (rowOf rs thing) number keeper thing (.both y1 y2)=false:=by
    show (zjf (rowOf rs thing) number keeper thing y1&&_)=_
    rw[yjd.mpr c,yed]
   rw[e] at z;exact z
 | @any wa x x' y1 y2 h t t' =>
  have m1:max (dep y1) (dep y2)+1<n+1:=hn;refine⟨_,rfl,_,_,_,_,rfl,rfl,SqT.of h,zia (j:=0) rfl,rfl,_,rfl,iteF ?_⟩;refine⟨_,rfl,_,_,_,_,rfl,rfl,SqT.of h,zia (j:=0) rfl,rfl,_,rfl,iteF ?_⟩;refine⟨_,rfl,_,_,_,_,rfl,rfl,SqT.of h,zia (j:=0) rfl,rfl,_,rfl,iteF ?_⟩;refine⟨_,rfl,_,_,_,_,rfl,rfl,SqT.of h,zia (j:=0) rfl,rfl,_,rfl,iteF ?_⟩;refine⟨_,rfl,_,_,_,_,rfl,rfl,SqT.of h,zia (j:=0) rfl,rfl,_,rfl,iteF ?_⟩;refine⟨_,rfl,_,_,_,_,rfl,rfl,SqT.of h,zia (j:=1) rfl,_,rfl,_,rfl,_,rfl,_,rfl,_,sl,us,rs,number,keeper,thing,_,rfl,t,by omega,S1 _ _ es,R.map λ_ _ z=>z.same S1,nd,h16,k0,n0,λH3 S3=>?_⟩;have h3:=S3 _ _ h;refine⟨_,rfl,_,_,_,_,rfl,rfl,SqT.of h3,zia (j:=0) rfl,rfl,_,rfl,iteF ?_⟩;have S13:=S1.trans S3;refine⟨_,rfl,_,_,_,_,rfl,rfl,SqT.of h3,zia (j:=2) rfl,_,rfl,_,rfl,_,rfl,_,rfl,_,sl,us,rs,number,keeper,thing,_,rfl,t'.same S3,by omega,S13 _ _ es,R.map λ_ _ z=>z.same S13,nd,h16,k0,n0,λH5 S5=>?_⟩;have h5:=S5 _ _ h3;refine⟨_,rfl,_,_,_,_,rfl,rfl,SqT.of h5,zia (j:=0) rfl,rfl,_,rfl,iteF ?_⟩;have z:=q H5 (S1.trans (S3.trans S5));refine⟨_,rfl,_,rfl,?_⟩;refine ite2 (λc=>?_) (λc=>?_)
  ·have e:zjf (rowOf rs thing) number keeper thing (.any y1 y2)=true:=by
    show (zjf (rowOf rs thing) number keeper thing y1||_)=_
    rw[c,yfo]
   rw[e] at z;exact z
  ·have e:zjf (rowOf rs thing) number keeper thing (.any y1 y2)=zjf (rowOf rs thing) number keeper thing y2:=by
    show (zjf (rowOf rs thing) number keeper thing y1||_)=_
    rw[yjd.mpr c,ymn]
   rw[e] at z;exact⟨_,rfl,z⟩
theorem zpdb (T:Tx K mg):FnOk P w K mg base CX0 2 T.zrb.f T.zrb.d zbg (zyj 0):=by
 have no:∀vs H Q E,¬ zyj 0 vs H Q E:=λvs H Q E h=>by
  obtain⟨v,sl,us,rs,number,keeper,thing,y,_,_,hd,_⟩:=h;omega
 exact⟨λvs H Q E h=>absurd h (no vs H Q E),λA outer s H args us vs Q E _ _ _ _ h=>absurd h (no vs H Q E)⟩
theorem zgx (T:Tx K mg):∀n:Nat,FnOk P w K mg base CX0 (n+2) T.zrb.f T.zrb.d zbg (zyj n)
 | 0=>zpdb T
 | n+1=>zodb T (zgx T n)
def GdT (kd:Str)(H:Hp)(v:V):Prop:=Ex3 λa wd z=>v = .ref a∧H a=some (.tup [.str wd,valV z])∧wd∈turns kd∧TurnOk wd z
theorem GdT.same {kd:Str}{H H':Hp}(s:Same H H'){v:V}(h:GdT kd H v):GdT kd H' v:=by
 obtain⟨a,wd,z,e,h1,h2⟩:=h;exact⟨a,wd,z,e,s _ _ h1,h2⟩
theorem GdT.but {kd:Str}{K:yba}{H H':Hp}{p:Addr}{k:Int}(t:Tk K H p k)(b:But p H H'){v:V}(h:GdT kd H v):GdT kd H' v:=by
 obtain⟨c,ep⟩:=t.two;obtain⟨a,wd,z,e,h1,h2⟩:=h;exact⟨a,wd,z,e,b _ _ (zel h1 ep (by intro z;cases z)) h1,h2⟩
theorem zsn {G:Prop}{Kx pre:V->Hp->Prop}(g:(∀v Hs,pre v Hs->Kx v Hs)->G)(k:∀v Hs,pre v Hs->Kx v Hs):G:=g k
def TnS (K:yba)(H:Hp)(p:Addr)(k m:Int)(n:Nat)(kd:Str)(v:V)(Hs:Hp):Prop:=Ex3 λsl L (k':Int)=>v = .ref sl∧Hs sl=some (.lst L)∧sl≠p∧1≤L.length∧L.length≤n∧(∀u∈L,GdT kd Hs u)∧But p H Hs∧Tk K Hs p k'∧k'≤k+m
theorem kd_here:∀kd∈zmc,inV (.str kd) [.str "leave",.str "hurt",.str "gain",.str "lack"]=true->("here":Str)∈turns kd:=by decide +kernel
theorem zomb:∀kd∈zmc,inV (.str kd) [.str "hurt",.str "lose",.str "score",.str "draw"]=true->("less":Str)∈turns kd∧("more":Str)∈turns kd:=by decide +kernel
theorem zbrb:∀kd∈zmc,inV (.str kd) [.str "lose",.str "score",.str "draw"]=true->("as":Str)∈turns kd:=by decide +kernel
theorem znmb:∀kd∈zmc,("none":Str)∈turns kd:=by decide +kernel
def zohb (K:yba):Sp:=λvs H Q _=>Ex3 λp (k:Int) (kd:Str)=>vs=[.ref p,.str kd]∧Tk K H p k∧k≤800000∧kd∈zmc∧∀v (k':Int) H',But p H H'->Tk K H' p k'->k'≤k+6->GdT kd H' v->Q v H'
theorem zzw (T:Tx K mg):FnOk P w K mg base CX0 5 T.zve.f T.zve.d zdm (zohb K):=by
 refine T.zve.ok zlg ?_;rintro f c A o s H vs Q E hr ⟨p,k,kd,rfl,TT,hk,hd,q⟩ X;refine⟨_,  (zba (zqa (i:=2) zlg.nd rfl (.inl rfl) (zcd (zaa (zub (zaa zma (zaa zan zca))) zca)))
  (zba (zxb (zoa zge (pv 1) (zub (zaa zma (zaa zma (zaa zma (zaa zma zca))))) rfl)
   (zea (zqa (i:=2) zlg.nd rfl (.inl rfl) (zfc zgt (pv 2) (zcd (zaa (zub (zaa zma (zaa zan zca))) (zaa (zub (zaa zma (zaa zan zca))) zca))))))
   zsa)
  (zba (zxb (zoa zge (pv 1) (zub (zaa zma (zaa zma (zaa zma (zaa zma zca))))) rfl)
   (zea (zqa (i:=2) zlg.nd rfl (.inl rfl) (zfc zgt (pv 2) (zcd (zaa (zub (zaa zma (zaa (zja (zqi T) hr rfl T.zec.m T.zec.F.kp (zkj T) .nil zta (zaa (pv 0) zca)) zca))) (zaa (zub (zaa zma (zaa (zja (zqi T) hr rfl T.zec.m T.zec.F.kp (zkj T) .nil zta (zaa (pv 0) zca)) zca))) zca))))))
   zsa)
  (zba (zxb (zoa zge (pv 1) (zub (zaa zma (zaa zma (zaa zma zca)))) rfl)
   (zea (zqa (i:=2) zlg.nd rfl (.inl rfl) (zfc zgt (pv 2) (zfc zrob (zcd (zaa (zub (zaa zma (zaa (znb zic (zcd (zaa zma (zaa zma (zaa zma zca)))) (zja (zna T).up hr rfl T.zda.m T.zda.F.kp (zra T) .nil zta (zaa (pv 0) (zaa zfa zca))) (λ_ _=>rfl)) zca))) zca)) zfa))))
   zsa)
  (zea (zua (znb zic (pv 2) (zja (zna T).up hr rfl T.zda.m T.zda.F.kp (zra T) .nil zta (zaa (pv 0) (zaa (zib zgb rfl T.zig ymb (zaa (pv 2) zca)) zca))) (λ_ _=>rfl)))))))),?_⟩
 refine⟨sz2,λt0 ht0=>?_⟩;refine laid ht0 λH1 S1 e1=>?_;refine⟨sz1,λl0 hl0=>?_⟩;refine laid hl0 λH2 S2 e2=>?_;have S02:=S1.trans S2;refine⟨_,rfl,sz4,λq0 hq0=>?_⟩;refine laid hq0 λH3 S3 e3=>?_;refine⟨q0,_,rfl,.inr (SqT.of e3),rfl,rfl,_,rfl,?_⟩;obtain⟨L,eL,nL,l1,l2,gd⟩:∃L:(List V),H2 l0=some (.lst L)∧l0≠p∧1≤L.length∧L.length≤1∧∀u∈L,GdT kd H2 u:=⟨[.ref t0],e2,yub ((TT.same S1).ne hl0),by simp,by simp,λu hu=>by
  rw[yja.mp hu];exact⟨t0,"none",.non,rfl,S2 _ _ e1,znmb kd hd,.none⟩⟩
 have B:But p H H2:=But.same S02;have TK:=TT.same S02;have hk1:k≤k+0:=by omega
 refine' zsn (pre:=TnS K H p k 0 3 kd) (λkk=>?g1) ?k1
 case g1 =>
  refine ite2 (λc=>?_) (λc=>?_)
  ·refine⟨_,rfl,sz2,λt1 ht1=>?_⟩;refine laid ht1 λH4 S4 e4=>?_;refine⟨sz2,λt2 ht2=>?_⟩;refine laid ht2 λH5 S5 e5=>?_;refine⟨sz2,λl3 hl3=>?_⟩;refine laid hl3 λH6 S6 e6=>?_;have S36:=S3.trans (S4.trans (S5.trans S6));refine⟨l0,l3,L,_,rfl,rfl,S36 _ _ eL,e6,yxa (show L.length+2≤1000 by omega) (by decide),λl4 hl4=>?_⟩;refine laid hl4 λH7 S7 e7=>?_;have S37:=S36.trans S7;obtain⟨v4,hv4⟩:∃v,v=V.ref l4:=⟨_,rfl⟩;rw[← hv4];exact kk v4 H7 ⟨l4,_,k,hv4,e7,yub ((TK.same S36).ne hl4),(by rw[yea];omega),(by rw[yea];show L.length+2≤3;omega),λu hu=>by
    rcases yhb.mp hu with z|z
    ·exact (gd u z).same S37
    ·simp only[yha,yzc,or_false] at z
     rcases z with rfl|rfl
     ·exact⟨t1,"here",.non,rfl,(S5.trans (S6.trans S7)) _ _ e4,kd_here kd hd c,.here⟩
     ·exact⟨t2,"here",.non,rfl,(S6.trans S7) _ _ e5,kd_here kd hd c,.here⟩,B.trans (But.same S37),TK.same S37,hk1⟩
  ·exact kk (.ref l0) H3 ⟨l0,L,k,rfl,S3 _ _ eL,nL,l1,by omega,λu hu=>(gd u hu).same S3,B.trans (But.same S3),TK.same S3,hk1⟩
 case k1 =>
 rintro _ H3' ⟨s1,M,k1,rfl,eM,nM,l1m,l2m,gm,Bm,Tm,hk1'⟩;refine⟨_,rfl,sz4,λq1 hq1=>?_⟩;refine laid hq1 λHa Sa ea=>?_;refine⟨q1,_,rfl,.inr (SqT.of ea),rfl,rfl,_,rfl,?_⟩;have eLa:=Sa _ _ eM;have gda:∀u∈M,GdT kd Ha u:=λu hu=>(gm u hu).same Sa;have Ba:=Bm.trans (But.same Sa);have Ta:=Tm.same Sa;refine' zsn (pre:=TnS K H p k 4 5 kd) (λkk=>?g2) ?k2
 case g2 =>
  refine ite2 (λc=>?_) (λc=>?_)
  ·obtain⟨kl,km⟩:=zomb kd hd c;refine⟨_,rfl,_,rfl,p,k1,rfl,Ta,by omega,λr1 k2 Hb lt1 Bb Tb hk2=>⟨sz2,λt1 ht1=>?_⟩⟩;refine laid ht1 λHc Sc ec=>?_;have Tc:=Tb.same Sc;refine⟨_,rfl,p,k2,rfl,Tc,by omega,λr2 k3 Hd lt2 Bd Td hk3=>⟨sz2,λt2 ht2=>?_⟩⟩;refine laid ht2 λHe Se ee=>?_;refine⟨sz2,λl3 hl3=>?_⟩;refine laid hl3 λHf Sf ef=>?_;have eLb:=Bb _ _ nM eLa;have eLf:=Sf _ _ (Se _ _ (Bd _ _ nM (Sc _ _ eLb)));refine⟨s1,l3,M,_,rfl,rfl,eLf,ef,yxa (show M.length+2≤1000 by omega) (by decide),λl4 hl4=>?_⟩;refine laid hl4 λHg Sg eg=>?_;obtain⟨v4,hv4⟩:∃v,v=V.ref l4:=⟨_,rfl⟩;rw[← hv4];have Seg:=Se.trans (Sf.trans Sg);have Tf:=Td.same (Se.trans Sf);have g1:GdT kd Hc (.ref t1):=⟨t1,"less",.num r1,rfl,ec,kl,.less lt1⟩;exact kk v4 Hg ⟨l4,_,k3,hv4,eg,yub (Tf.ne hl4),(by rw[yea];omega),(by rw[yea];show M.length+2≤5;omega),λu hu=>by
    rcases yhb.mp hu with z|z
    ·exact ((((gda u z).but Ta Bb).same Sc).but Tc Bd).same Seg
    ·simp only[yha,yzc,or_false] at z
     rcases z with rfl|rfl
     ·exact (g1.but Tc Bd).same Seg
     ·exact⟨t2,"more",.num r2,rfl,(Sf.trans Sg) _ _ ee,km,.more lt2⟩,Ba.trans (Bb.trans ((But.same Sc).trans (Bd.trans (But.same Seg)))),Td.same Seg,by omega⟩
  ·exact kk (.ref s1) Ha ⟨s1,M,k1,rfl,eLa,nM,l1m,by omega,gda,Ba,Ta,by omega⟩
 case k2 =>
 rintro _ H4 ⟨s2,M2,k2,rfl,eN,nN,l1n,l2n,gn,Bn,Tn,hk2⟩;refine⟨_,rfl,sz3,λq2 hq2=>?_⟩;refine laid hq2 λIa Sa' ea'=>?_;refine⟨q2,_,rfl,.inr (SqT.of ea'),rfl,rfl,_,rfl,?_⟩;have eNa:=Sa' _ _ eN;have gna:∀u∈M2,GdT kd Ia u:=λu hu=>(gn u hu).same Sa';have Bna:=Bn.trans (But.same Sa');have Tna:=Tn.same Sa';refine' zsn (pre:=TnS K H p k 5 7 kd) (λkk=>?g3) ?k3
 case g3 =>
  refine ite2 (λc=>?_) (λc=>?_)
  ·have ka:=zbrb kd hd c;refine⟨_,rfl,sz3,λm3 hm3=>?_⟩;refine laid hm3 λIb Sb eb=>?_;have Tb:=Tna.same Sb;have nm3:m3≠p:=yub (Tna.ne hm3);refine⟨_,rfl,p,k2,3,rfl,Tb,by omega,by decide,λr Ic r0 r1 Bc Tc=>?_⟩;obtain⟨v,hv,hm⟩:=zon (xs:=[V.str "lose",V.str "score",V.str "draw"]) (i:=r) r0 r1;obtain⟨n,rfl,hn⟩:∃n,v=V.str n∧n∈zid:=by
    simp only[yha,yzc,or_false] at hm
    rcases hm with rfl|rfl|rfl
    ·exact⟨_,rfl,by decide⟩
    ·exact⟨_,rfl,by decide⟩
    ·exact⟨_,rfl,by decide⟩
   refine⟨m3,_,_,_,rfl,rfl,SqL.of (Bc _ _ nm3 eb),hv,sz2,λt1 ht1=>?_⟩;refine laid ht1 λId Sd ed=>?_;refine⟨sz1,λl3 hl3=>?_⟩;refine laid hl3 λIe Se ee=>?_;refine⟨l3,2,_,rfl,rfl,ee,by decide,by decide,(by show 1*2≤yta;decide),λl5 hl5=>?_⟩;refine laid hl5 λIf Sf ef=>?_;have Sdf:=Sd.trans (Se.trans Sf);have eNc:=Bc _ _ nN (Sb _ _ eNa);refine⟨s2,l5,M2,_,rfl,rfl,Sdf _ _ eNc,ef,yxa (show M2.length+2≤1000 by omega) (by decide),λl4 hl4=>?_⟩;refine laid hl4 λIg Sg eg=>?_;obtain⟨v4,hv4⟩:∃v,v=V.ref l4:=⟨_,rfl⟩;rw[← hv4];have Sdg:=Sdf.trans Sg;have g1:GdT kd Id (.ref t1):=⟨t1,"as",.name n,rfl,ed,ka,.as hn⟩;exact kk v4 Ig ⟨l4,_,k2+1,hv4,eg,yub ((Tc.same Sdf).ne hl4),(by rw[yea];omega),(by rw[yea];show M2.length+2≤7;omega),λu hu=>by
    rcases yhb.mp hu with z|z
    ·exact (((gna u z).same Sb).but Tb Bc).same Sdg
    ·have z':u∈[V.ref t1,V.ref t1]:=z;simp only[yha,yzc,or_false,or_self] at z';rw[z'];exact g1.same (Se.trans (Sf.trans Sg)),Bna.trans ((But.same Sb).trans (Bc.trans (But.same Sdg))),Tc.same Sdg,by omega⟩
  ·exact kk (.ref s2) Ia ⟨s2,M2,k2,rfl,eNa,nN,l1n,by omega,gna,Bna,Tna,by omega⟩
 case k3 =>
 rintro _ H5 ⟨s3,M3,k3,rfl,eO,nO,l1o,l2o,go,Bo,To,hk3⟩;refine⟨_,rfl,_,rfl,_,rfl,s3,_,rfl,.inl (SqL.of eO),p,k3,(M3.length:Int),rfl,To,by omega,by omega,λr H6 r0 r1 B6 T6=>?_⟩;obtain⟨v,hv,hm⟩:=zon (xs:=M3) (i:=r) r0 r1;refine⟨s3,_,_,_,rfl,rfl,SqL.of (B6 _ _ nO eO),hv,?_⟩;exact q v _ H6 (Bo.trans B6) T6 (by omega) ((go v hm).but To B6)
def Kp (H H':Hp):Prop:=∀a o,(∀xs,o≠HO.lst xs)->H a=some o->H' a=some o
theorem Kp.same {H H':Hp}(s:Same H H'):Kp H H':=λ_ _ _ h=>s _ _ h
theorem Kp.trans {H H1 H2:Hp}(a:Kp H H1)(b:Kp H1 H2):Kp H H2:=λc o n h=>b c o n (a c o n h)
theorem Kp.but {K:yba}{H H':Hp}{p:Addr}{k:Int}(t:Tk K H p k)(b:But p H H'):Kp H H':=λa o n h=>by
 obtain⟨c,ep⟩:=t.two;refine b a o (λz=>?_) h;rw[z,ep] at h;injection h with h
 exact n _ h.symm
theorem Kp.put {H:Hp}{l:Addr}{us vs:List V}(e:H l=some (.lst us)):Kp H (upd H l (.lst vs)):=λa o n h=>by
 rw[zva λz=>?_]
 ·exact h
 ·rw[z,e] at h;injection h with h
  exact n _ h.symm
theorem Kp.t {H H':Hp}(s:Kp H H'){a:Addr}{xs:List V}(h:H a=some (.tup xs)):H' a=some (.tup xs):=s _ _ (λ_ z=>by cases z) h
theorem WT.kp {H H':Hp}(s:Kp H H'){v:V}{y:Wh}(z:WT H v y):WT H' v y:=by
 induction z with
 | all h=>exact .all (s.t h)
 | self h=>exact .self (s.t h)
 | mine h=>exact .mine (s.t h)
 | mark h=>exact .mark (s.t h)
 | force h=>exact .force (s.t h)
 | not h _ i=>exact .not (s.t h) i
 | both h _ _ i j=>exact .both (s.t h) i j
 | any h _ _ i j=>exact .any (s.t h) i j
theorem Tk.strs {K:yba}{H:Hp}{p l:Addr}{k:Int}{ss:List Str}(t:Tk K H p k)(h:H l=some (.lst (ss.map V.str))):l≠p:=λz=>by
 obtain⟨a,e⟩:=t.two;rw[z,e] at h;injection h with h
 injection h with h
 cases ss with
 | nil=>cases h
 | cons x r=>injection h with h;cases h
theorem zsgb (y:Wh):dep y<y.size:=by
 induction y with
 | not a i=>exact Nat.succ_lt_succ i
 | both a b i j =>
  show max (dep a) (dep b)+1<a.size+b.size+1
  omega
 | any a b i j =>
  show max (dep a) (dep b)+1<a.size+b.size+1
  omega
 | _=>exact Nat.zero_lt_one
def mayR (y:Wh):Rule:=.may 1 ⟨"each","score",.num 1,y⟩
inductive R20 (H:Hp):V->Rule->Prop where
 | may {a:Addr} {y:Wh}:H a=some (.tup [.str "may",.str (zne (mayR y))])->y.ok->y.size≤9->R20 H (.ref a) (mayR y)
 | ins {a:Addr} {kd wd:Str} {x:V} {y:Wh} {z:Wv}:H a=some (.tup [.str "instead",.str kd,x,.str wd,valV z])->WT H x y->y.ok->y.size≤9->kd∈zmc->wd∈turns kd->TurnOk wd z->R20 H (.ref a) (.instead kd y wd z)
theorem R20.kp {H H':Hp}(s:Kp H H'){v:V}{r:Rule}(h:R20 H v r):R20 H' v r:=by
 cases h with
 | may h a b=>exact .may (s.t h) a b
 | ins h w a b c d e=>exact .ins (s.t h) (w.kp s) a b c d e
theorem R20.ok {H:Hp}{v:V}{r:Rule}(h:R20 H v r):r.ok:=by
 cases h with
 | may h a b=>exact⟨by decide,⟨yia,.score (by decide),a,b⟩⟩
 | ins h w a b c d e=>exact⟨c,⟨a,b⟩,d,e⟩
theorem zvib (y:Wh):("may 1 do each score 1 ":Str)++whT y=zne (mayR y):=by
 show _=yra " " ((["may",(toString ((1:Nat):Int):Str),"do","each","score",(toString ((1:Nat):Int):Str)]:List Str)++y.words)
 rw[zfn " " (ypb _ _) (zrd y)];rfl
theorem zzbb (kd wd:Str)(y:Wh)(z:Wv):yra " " ("instead" :: kd::whT y :: "do" :: wd::z.words)=zne (.instead kd y wd z):=by
 have e:=zlx " " (xss:=([["instead"],[kd],y.words,["do"],[wd]]:List (List Str))++z.words.map λu=>[u]) (λxs hx=>by
  rcases yhb.mp hx with h|h
  ·simp only[yha,yzc,or_false] at h
   rcases h with rfl|rfl|rfl|rfl|rfl
   ·exact ypb _ _
   ·exact ypb _ _
   ·exact zrd y
   ·exact ypb _ _
   ·exact ypb _ _
  ·obtain⟨u,_,rfl⟩:=ybb.mp h;exact ypb _ _)
 rw[ycj,znjb,yib,yqf] at e;have e2:z.words.map ((yra " ")∘λu=>[u])=z.words:=List.map_id _;rw[e2] at e;refine Eq.trans e ?_;show _=yra " " ("instead" :: kd::(y.words++("do":Str)::wd::z.words))
 congr 1
 simp
structure Kd (H:Hp)(l:Addr)(ks:List Str):Prop where
 at_:H l=some (.lst (ks.map V.str))
 lo:1≤ks.length
 hi:ks.length≤3
 ok:∀k∈ks,k∈zmc
theorem Kd.but {K:yba}{H H':Hp}{p l:Addr}{k:Int}{ks:List Str}(h:Kd H l ks)(t:Tk K H p k)(b:But p H H'):Kd H' l ks:=⟨b _ _ (t.strs h.at_) h.at_,h.lo,h.hi,h.ok⟩
theorem Kd.same {H H':Hp}{l:Addr}{ks:List Str}(h:Kd H l ks)(s:Same H H'):Kd H' l ks:=⟨s _ _ h.at_,h.lo,h.hi,h.ok⟩
def zteb (K:yba):Sp:=λvs H Q _=>Ex6 λp nl kl (k:Int) (ns ks:List Str)=>vs=[.ref p,.ref nl,.ref kl]∧Tk K H p k∧k≤700000∧N4 H nl ns∧Kd H kl ks∧∀l us (rs:List Rule) (k':Int) H',But p H H'->Tk K H' p k'->k'≤k+136->H l=none->H' l=some (.lst us)->All2 (R20 H') us rs->rs.length≤3->Q (.ref l) H'
theorem zlu (T:Tx K mg):FnOk P w K mg base CX0 15 T.zyd.f T.zyd.d zsk (zteb K):=by
 refine T.zyd.ok zmf ?_;rintro f c A o s H vs Q E hr ⟨p,nl,kl,k,ns,ks,rfl,TT,hk,N0,K0,q⟩ X;refine⟨_,  (zba (zqa (i:=3) zmf.nd rfl (.inl rfl) (zcd zca))
  (zba (zzh ygc rfl (zjh rfl T.zni (zaa (zja (zna T).up hr rfl T.zda.m T.zda.F.kp (zra T) .nil zta (zaa (pv 0) (zaa zfa zca))) zca)) (zza (i:=4) zmf.nd rfl (.inl rfl))
   (zba (zqa (i:=5) zmf.nd rfl (.inl rfl) (znb zic (pv 2) (zja (zna T).up hr rfl T.zda.m T.zda.F.kp (zra T) .nil zta (zaa (pv 0) (zaa (zib zgb rfl T.zig ymb (zaa (pv 2) zca)) zca))) (λ_ _=>rfl)))
   (zba (zqa (i:=6) zmf.nd rfl (.inl rfl) (zja (zgbb T 9) hr rfl T.zlb.m T.zlb.F.kp (zjj T) .nil zta (zaa (pv 0) (zaa (pv 1) (zaa (zfc zci zfa (zja (zna T).up hr rfl T.zda.m T.zda.F.kp (zra T) .nil zta (zaa (pv 0) (zaa zfa zca)))) zca)))))
   (zea (zxb (zoa zsc (zja (zna T).up hr rfl T.zda.m T.zda.F.kp (zra T) .nil zta (zaa (pv 0) (zaa zfa zca))) zfa (zya _))
    (zea (zkd (zrh ycb yfb ygb zfd (pv 3) (zaa (zub (zaa zma (zaa (zfc zzk zma (zja (zfq T 9).up hr rfl T.zkb.m T.zkb.F.kp (znk T) .nil zta (zaa (pv 6) zca))) zca))) zca))))
    (zea (zkd (zrh ycb yfb ygb zfd (pv 3) (zaa (zfc zcmb (zub (zaa zma (zaa (pv 5) (zaa (pv 6) zca)))) (zja (zzw T).up hr rfl T.zve.m T.zve.F.kp (zdab T) .nil zta (zaa (pv 0) (zaa (pv 5) zca)))) zca)))))))))
  (zea (zua (pv 3))))),?_⟩
 refine⟨sz0,λl hl=>?_⟩;refine laid hl λH1 S1 e1=>?_;have T1:=TT.same S1;have nl1:l≠p:=yub (TT.ne hl);refine⟨_,rfl,p,k,4,rfl,T1,by omega,by decide,λm0 H2 m1 m2 B2 T2=>?_⟩;obtain⟨m,rfl⟩:∃m:Nat,m0=(m:Int):=⟨m0.toNat,by omega⟩;refine⟨_,rfl,by omega,by omega,?_⟩;rw[ysc];have N2:=(N0.same S1).but T1 B2;have K2:=(K0.same S1).but T1 B2;have B02:But p H H2:=(But.same S1).trans B2;have up:∀{Hx:Hp} {us:List V} {v:V},H l=none->But p H Hx->But p H (upd Hx l (.lst (us++[v]))):=λ{Hx us v} e B b o nb hb=>by
  rw[zva (zka hb e)];exact B b o nb hb
 refine zkn (lo:=0) (n:=m) (λi σ Hx=>Ex6 λus (rs:List Rule) (k':Int) o4 o5 o6=>σ=[some (.ref p),some (.ref nl),some (.ref kl),some (.ref l),o4,o5,o6]∧Hx l=some (.lst us)∧All2 (R20 Hx) us rs∧rs.length=i∧i≤m∧But p H Hx∧Tk K Hx p k'∧k'≤k+1+45*(i:Int)∧N4 Hx nl ns∧Kd Hx kl ks∧l≠nl∧l≠kl) ⟨[],[],_,_,_,_,rfl,B2 _ _ nl1 e1,.nil,rfl,ylb _,B02,T2,by omega,N2,K2,yub (zka N0.at_ hl),yub (zka K0.at_ hl)⟩ ?_ ?_
 ·rintro i σ Hx hi ⟨us,rs,k',o4,o5,o6,rfl,el,al,rl,_,B,TK,hk',NX,KX,n1,n2⟩;have ul:=al.len;have kle:((ks.map V.str).length:Int)=(ks.length:Int):=by rw[yda]
  refine⟨_,rfl,_,rfl,_,rfl,kl,_,rfl,.inl (SqL.of KX.at_),p,k',(ks.length:Int),(by rw[← kle];rfl),TK,by omega,(by have:=KX.lo;omega),λr Ha r0 r1 Ba Ta=>?_⟩;have Ka:=KX.but TK Ba;obtain⟨kd,hkd,hm⟩:=zzr (ss:=ks) r0 r1;have hd:=Ka.ok kd hm;refine⟨kl,_,_,_,rfl,rfl,SqL.of Ka.at_,hkd,?_⟩;have Na:=NX.but TK Ba;refine⟨_,rfl,_,rfl,_,rfl,p,k'+1,9,rfl,Ta,by omega,by decide,λd0 Hb d1 d2 Bb Tb=>⟨_,_,rfl,rfl,?_⟩⟩;have Nb:=Na.but Ta Bb;have Kb:=Ka.but Ta Bb;obtain⟨d,hd0⟩:∃d:Nat,1+d0=(d:Int):=⟨(1+d0).toNat,by omega⟩;refine⟨p,nl,_,ns,d,(by show [V.ref p,V.ref nl,V.int (1+d0)]=_;rw[hd0]),Tb,by omega,Nb,by omega,by omega,λwv y k2 Hc Bc Tc hk2 W2 ok2 y2=>?_⟩;have Nc:=Nb.but Tb Bc;have Kc:=Kb.but Tb Bc;have y9:y.size≤9:=by omega
  have Bac:=Ba.trans (Bb.trans Bc);refine⟨_,rfl,p,k2,7,rfl,Tc,by omega,by decide,λs0 He s1 s2 Be Te=>⟨rfl,_,rfl,?_⟩⟩;have Ne':=Nc.but Tc Be;have Ke':=Kc.but Tc Be;have We:=W2.kp (Kp.but Tc Be);have Bae:=Bac.trans Be;have ele:=Bae _ _ nl1 el;have ale:All2 (R20 He) us rs:=al.imp λz=>z.kp (Kp.but TK Bae);have sz:us.length≤1000:=by omega
  refine ite2 (λc=>?_) (λc=>?_)
  ·refine⟨_,rfl,.inl ⟨rfl,_,SqL.of ele⟩,_,rfl,wv,y,rfl,We,ok2,ypa (zsgb y) y9,y9,λHf Sf=>?_⟩;have yl:(whT y).length≤200:=zzy ok2 y9;have l22:("may 1 do each score 1 ":Str).length=22:=by decide +kernel
   refine⟨_,_,rfl,rfl,small (by omega),sz2,λt ht=>?_⟩;refine laid ht λHg Sg eg=>?_;have Seg:=Sf.trans Sg;have elg:=Seg _ _ ele;rw[zvib] at eg;refine⟨l,_,_,rfl,rfl,elg,zpc sz,?_⟩;have kpp:Kp Hg (upd Hg l (.lst (us++[V.ref t]))):=Kp.put elg;have Tg:=Te.same Seg;refine⟨us++[V.ref t],rs++[mayR y],k2+1,_,_,_,rfl,zga,All2.snoc (R20.kp kpp (.may eg ok2 y9)) (ale.imp λz=>z.kp ((Kp.same Seg).trans kpp)),by rw[yea,rl];rfl,hi,up hl (B.trans (Bae.trans (But.same Seg))),Tg.other elg (yub nl1),by omega,⟨by rw[zva (yub n1)];exact (Ne'.same Seg).at_,Ne'.len,Ne'.ok,Ne'.nd⟩,⟨by rw[zva (yub n2)];exact (Ke'.same Seg).at_,Ke'.lo,Ke'.hi,Ke'.ok⟩,n1,n2⟩
  ·refine⟨_,rfl,.inl ⟨rfl,_,SqL.of ele⟩,_,rfl,_,rfl,sz3,λt1 ht1=>?_⟩;refine laid ht1 λHf Sf ef=>?_;have Tf:=Te.same Sf;refine⟨_,rfl,_,rfl,p,k2+1,kd,rfl,Tf,by omega,hd,λv k3 Hg Bg Tg hk3 gd=>?_⟩;obtain⟨t2,wd,z,rfl,e2,hw,hz⟩:=gd;have ef':=(Kp.but Tf Bg).t ef;refine⟨t1,t2,_,_,rfl,rfl,SqT.of ef',SqT.of e2,ypb _ _,sz5,(λe=>by cases e),λ_ t ht=>?_⟩;refine laid ht λHh Sh eh=>?_;have Bg2:=(But.same (p:=p) Sf).trans (Bg.trans (But.same Sh));have elg:=Bg2 _ _ nl1 ele;refine⟨l,_,_,rfl,rfl,elg,zpc sz,?_⟩;have kpp:Kp Hh (upd Hh l (.lst (us++[V.ref t]))):=Kp.put elg;have Th:=Tg.same Sh;have kk:=Kp.but Te Bg2;have Nh:=Ne'.but Te Bg2;have Kh:=Ke'.but Te Bg2;refine⟨us++[V.ref t],rs++[.instead kd y wd z],k3,_,_,_,rfl,zga,All2.snoc (R20.kp kpp (.ins eh (We.kp kk) ok2 y9 hd hw hz)) (ale.imp λz=>z.kp (kk.trans kpp)),by rw[yea,rl];rfl,hi,up hl (B.trans (Bae.trans Bg2)),Th.other elg (yub nl1),by omega,⟨by rw[zva (yub n1)];exact Nh.at_,Nh.len,Nh.ok,Nh.nd⟩,⟨by rw[zva (yub n2)];exact Kh.at_,Kh.lo,Kh.hi,Kh.ok⟩,n1,n2⟩
 ·rintro σ Hx ⟨us,rs,k',o4,o5,o6,rfl,el,al,rl,hi,B,TK,hk',NX,KX,n1,n2⟩;exact⟨_,rfl,q l us rs k' Hx B TK (by omega) hl el al (by omega)⟩
def zio (nm:Str)(rs:List Rule):Crd:=⟨nm,1,2,[],rs⟩
theorem zufb:Marks []:=⟨(λ_ h=>nomatch h),.nil,rfl,by decide⟩
theorem zkcb {nm:Str}{rs:List Rule}(hn:zie nm)(ok:∀r∈rs,r.ok)(h3:rs.length≤3):(zio nm rs).ok:=⟨hn,(by show 1<1000;decide),(by show 2<1000;decide),zufb,ok,h3⟩
theorem zzpb (nm:Str)(rs:List Rule):nm ++ " 1 2 -" = yra " " (zio nm rs).head:=by
 have e1:yra " " (zio nm rs).head=nm ++ " " ++ yra " " [(toString ((1:Nat):Int):Str),(toString ((2:Nat):Int):Str),zfi []]:=rfl;have e2:yra " " [(toString ((1:Nat):Int):Str),(toString ((2:Nat):Int):Str),zfi []] = "1 2 -":=by decide +kernel
 have e3:(" 1 2 -":Str) = " " ++ "1 2 -":=by decide +kernel
 rw[e1,e2,e3];show (⟨nm.cps++((" ":Str).cps++_)⟩:Str)=⟨(nm.cps++(" ":Str).cps)++_⟩
 rw[yan]
def zphb:Sp:=λvs H Q _=>Ex4 λ(nm:Str) l us (rs:List Rule)=>vs=[.str nm,.ref l]∧zie nm∧H l=some (.lst us)∧All2 (R20 H) us rs∧rs.length≤3∧∀H',Same H H'->Q (.str (zio nm rs).text) H'
theorem zax (T:Tx K mg):FnOk P w K mg base CX0 12 T.zwe.f T.zwe.d zem zphb:=by
 refine T.zwe.ok zuh ?_;rintro f c A o s H vs Q E hr ⟨nm,l,us,rs,rfl,hn,el,al,h3,q⟩ X;refine⟨_,  (zba (zqa (i:=2) zuh.nd rfl (.inl rfl) (zcd (zaa (zfc zzk (pv 0) zma) zca)))
  (zba (zzh ygc rfl (zde (pv 1)) (zza (i:=3) zuh.nd rfl (.inl rfl))
   (zea (zxb (zoa zsc (znb zlc (pv 3) zfa (λ_ _=>rfl)) zma (zya _))
    (zea (zkd (zrh ycb yfb ygb zfd (pv 2) (zaa (znb zlc (pv 3) zfa (λ_ _=>rfl)) zca))))
    (zba (zqa (i:=4) zuh.nd rfl (.inl rfl) (zcd (zaa zma (zaa (znb zlc (pv 3) zfa (λ_ _=>rfl)) (zaa (zja (zfq T 9) hr rfl T.zkb.m T.zkb.F.kp (znk T) .nil zta (zaa (znb zlc (pv 3) zfa (λ_ _=>rfl)) zca)) (zaa zma (zaa (znb zlc (pv 3) zfa (λ_ _=>rfl)) zca)))))))
    (zba (zxb (zoa zylb (znb zlc (pv 3) zfa (λ_ _=>rfl)) zan (zya _))
     (zea (zkd (zrh ycb yfb ygb zfd (pv 4) (zaa (zfe zqp rfl T.zocb boot_str (zaa (znb zlc (pv 3) zfa (λ_ _=>rfl)) zca)) zca))))
     zsa)
    (zea (zkd (zrh ycb yfb ygb zfd (pv 2) (zaa (zrh ydd ymg yng zqu zma (zaa (pv 4) zca)) zca)))))))))
  (zea (zua (zrh ydd ymg yng zqu zma (zaa (pv 2) zca)))))),?_⟩
 have l6:(" 1 2 -":Str).length=6:=by decide
 have n8:=hn.2.1;refine⟨_,rfl,_,_,rfl,rfl,small (by omega),sz1,λpl hpl=>?_⟩;rw[zzpb nm rs];refine laid hpl λH1 S1 e1=>?_;have ul:=al.len;have nlp:l≠pl:=zka el hpl;refine⟨_,rfl,l,rfl,⟨_,SqL.of (S1 _ _ el)⟩,?_⟩;refine zij (xs:=us) (λi σ H'=>Ex2 λo3 o4=>σ=[some (.str nm),some (.ref l),some (.ref pl),o3,o4]∧H' pl=some (.lst ((yra " " (zio nm rs).head::(rs.take i).map zne).map V.str))∧Same H H') ⟨_,_,rfl,e1,S1⟩ (λi σ H' _ ⟨_,_,_,_,S⟩=>SqL.of (S _ _ el)) ?_ ?_
 ·rintro i u σ H' hu ⟨o3,o4,rfl,ep,S⟩;obtain⟨r,er,ru0⟩:=al.get hu;have ru:=ru0.kp (Kp.same S);have hi:i<us.length:=(yla.mp hu).1;have sz:((yra " " (zio nm rs).head::(rs.take i).map zne).map V.str).length≤1000:=by
   rw[yda,yga,yda,ydb];omega
  have eg:∀t:Str,t=zne r->(yra " " (zio nm rs).head::(rs.take i).map zne).map V.str++[V.str t]=(yra " " (zio nm rs).head::(rs.take (i+1)).map zne).map V.str:=λt ht=>by
   rw[ykb,er,ykc,yib,ht];simp
  cases ru with
  | @may a y h ok y9 =>
   refine⟨_,rfl,a,_,_,_,rfl,rfl,SqT.of h,zia (j:=0) rfl,rfl,_,rfl,iteT ?_⟩;refine⟨_,rfl,.inl ⟨rfl,_,SqL.of ep⟩,_,rfl,a,_,_,_,rfl,rfl,SqT.of h,zia (j:=1) rfl,pl,_,_,rfl,rfl,ep,zpc sz,?_⟩;exact⟨_,_,rfl,by rw[eg _ rfl];exact zga,zdg S hpl _⟩
  | @ins a kd wd x y z h w ok y9 hd hw hz =>
   refine⟨_,rfl,a,_,_,_,rfl,rfl,SqT.of h,zia (j:=0) rfl,rfl,_,rfl,iteF ?_⟩;refine⟨_,rfl,a,_,_,_,rfl,rfl,SqT.of h,zia (j:=1) rfl,_,rfl,a,_,_,_,rfl,rfl,SqT.of h,zia (j:=2) rfl,x,y,rfl,w,ok,ypa (zsgb y) y9,y9,λH2 S2=>?_⟩;have h2:=S2 _ _ h;refine⟨_,rfl,a,_,_,_,rfl,rfl,SqT.of h2,zia (j:=3) rfl,sz5,λwl hwl=>?_⟩;refine laid hwl λH3 S3 e3=>?_;have h3':=S3 _ _ h2;have ep3:=(S2.trans S3) _ _ ep;have npw:pl≠wl:=zka (S2 _ _ ep) hwl;have S03:=S.trans (S2.trans S3);have rl:=zzm (r:=.instead kd y wd z) (show Rule.ok _ from⟨hd,⟨ok,y9⟩,hw,hz⟩);have yl:(whT y).length≤200:=zzy ok y9;have kl:kd.length≤8:=(ztr (l:=zmc) (by decide +kernel) hd).1.2.2;have wdl:wd.length≤8:=hz.word.1.2.2;refine⟨_,rfl,a,_,_,_,rfl,rfl,SqT.of h3',zia (j:=4) rfl,rfl,_,rfl,?_⟩;have zw:z = .non∨∃u,z.words=[u]∧u.length≤8∧((valV z = .str u)∨∃i:Nat,i<1000∧valV z = .int i∧u=(toString (i:Int):Str)):=by
    cases hz with
    | none=>exact .inl rfl
    | here=>exact .inl rfl
    | less g=>exact .inr ⟨_,rfl,(zcn g).2.2,.inr ⟨_,g,rfl,rfl⟩⟩
    | more g=>exact .inr ⟨_,rfl,(zcn g).2.2,.inr ⟨_,g,rfl,rfl⟩⟩
    | as g=>exact .inr ⟨_,rfl,(ztr (l:=zid) (by decide +kernel) g).1.2.2,.inl rfl⟩
   have li:("instead":Str).length=7:=by decide
   have ld:("do":Str).length=2:=by decide
   have l1:(" ":Str).length=1:=rfl
   rcases zw with rfl|⟨u,eu,u8,hv⟩
   ·refine iteF ?_;refine⟨_,rfl,.inl ⟨rfl,_,SqL.of ep3⟩,rfl,_,rfl," ",wl,["instead",kd,whT y,"do",wd],rfl,rfl,SqL.of e3,?_,?_⟩
    ·simp only[yva,ypf,yze,yeo,yga,ydj];omega
    refine⟨pl,_,_,rfl,rfl,ep3,zpc sz,?_⟩;exact⟨_,_,rfl,by rw[eg (yra " " ["instead",kd,whT y,"do",wd]) (zzbb kd wd y .non)];exact zga,zdg S03 hpl _⟩
   ·have nn:¬ valV z = .non:=λe=>by
     rcases hv with h|⟨_,_,h,_⟩
     ·rw[h] at e;cases e
     ·rw[h] at e;cases e
    refine ite2 (λc=>?_) (λc=>absurd (by rw[decide_eq_false nn];rfl) c);refine⟨_,rfl,.inl ⟨rfl,_,SqL.of e3⟩,_,rfl,a,_,_,_,rfl,rfl,SqT.of h3',zia (j:=4) rfl,zkab hv _ _ ⟨wl,_,_,rfl,rfl,e3,(by show 5<yta;decide),?_⟩⟩;have ep4:upd H3 wl (.lst ([V.str "instead",V.str kd,V.str (whT y),V.str "do",V.str wd]++[V.str u])) pl=_:=(zva npw).trans ep3;refine⟨_,rfl,.inl ⟨rfl,_,SqL.of ep4⟩,rfl,_,rfl," ",wl,["instead",kd,whT y,"do",wd,u],rfl,rfl,SqL.of zga,?_,?_⟩
    ·simp only[yva,ypf,yze,yeo,yga,ydj];omega
    refine⟨pl,_,_,rfl,rfl,ep4,zpc sz,?_⟩;have et:=zzbb kd wd y z;rw[eu] at et;exact⟨_,_,rfl,by rw[eg _ et];exact zga,zdg (zdg S03 (none_of (S.trans S2) hwl) _) hpl _⟩
 ·rintro σ H' ⟨o3,o4,rfl,ep,S⟩;rw[ysa (by omega)] at ep;refine⟨rfl,_,rfl," / ",pl,_,rfl,rfl,SqL.of ep,?_,q H' S⟩;have ok:(zio nm rs).ok:=zkcb hn (λr hr=>by
   obtain⟨v,_,z⟩:=al.mem2 hr;exact z.ok) h3
  have hh:=Crd.zwu ok;have z:=zuo (us:=yra " " (zio nm rs).head::rs.map zne) (m:=450) λu hu=>by
   rcases yha.mp hu with z|z
   ·rw[z];omega
   ·obtain⟨r,hr,rfl⟩:=ybb.mp z;exact zzm (ok.rules r hr)
  have l3:(" / ":Str).length=3:=by decide
  rw[yga,yda] at z;rw[yga,yda,l3];omega
structure C20 where
 num:Int
 rules:List Rule
 came:Int
 marks:List Str
 keeper:Int
 force:Int
 mute:Bool
def C20.row (c:C20):Row:=⟨c.num,c.keeper,c.marks,c.force,c.mute⟩
def CdT (X:List Addr)(H:Hp)(v:V)(c:C20):Prop:=Ex4 λa tl tm us=>v = .ref a∧H a=some (.tup [.int c.num,.ref tl,.int c.came,.ref tm])∧H tm=some (.tup (c.marks.map V.str))∧H tl=some (.lst us)∧tl∉X∧All2 (R20 H) us c.rules
structure Fm (X:List Addr)(H H':Hp):Prop where
 kp:Kp H H'
 fr:∀a o,a∉X->H a=some o->H' a=some o
theorem Fm.same {X:List Addr}{H H':Hp}(s:Same H H'):Fm X H H':=⟨Kp.same s,λ_ _ _ h=>s _ _ h⟩
theorem Fm.trans {X:List Addr}{H H1 H2:Hp}(a:Fm X H H1)(b:Fm X H1 H2):Fm X H H2:=⟨a.kp.trans b.kp,λc o n h=>b.fr c o n (a.fr c o n h)⟩
theorem Fm.but {X:List Addr}{K:yba}{H H':Hp}{p:Addr}{k:Int}(hp:p∈X)(t:Tk K H p k)(b:But p H H'):Fm X H H':=⟨Kp.but t b,λa o n h=>b a o (λz=>n (z▸hp)) h⟩
theorem Fm.put {X:List Addr}{H:Hp}{l:Addr}{us vs:List V}(hl:l∈X)(e:H l=some (.lst us)):Fm X H (upd H l (.lst vs)):=⟨Kp.put e,λa o n h=>(zva (λz:a=l=>n (by rw[z];exact hl))).trans h⟩
theorem CdT.fm {X:List Addr}{H H':Hp}(f:Fm X H H'){v:V}{c:C20}(h:CdT X H v c):CdT X H' v c:=by
 obtain⟨a,tl,tm,us,rfl,h1,h2,h3,n,al⟩:=h;exact⟨a,tl,tm,us,rfl,f.kp.t h1,f.kp.t h2,f.fr _ _ n h3,n,al.imp λz=>z.kp f.kp⟩
theorem CdT.less {X Y:List Addr}(s:∀a∈Y,a∈X){H:Hp}{v:V}{c:C20}(h:CdT X H v c):CdT Y H v c:=by
 obtain⟨a,tl,tm,us,rfl,h1,h2,h3,n,al⟩:=h;exact⟨a,tl,tm,us,rfl,h1,h2,h3,λz=>n (s _ z),al⟩
theorem zfl.kp {H H':Hp}(s:Kp H H'){v:V}{r:Row}(h:zfl H v r):zfl H' v r:=by
 obtain⟨a,m,e,h1,h2⟩:=h;exact⟨a,m,e,s.t h1,s.t h2⟩
structure C20s (cs:List C20):Prop where
 lo:1≤cs.length
 hi:cs.length≤6
 num:(cs.map (·.num)).Nodup
 came:(cs.map (·.came)).Nodup
 n0:∀c∈cs,0≤c.num
 k0:∀c∈cs,0≤c.keeper
 few:∀c∈cs,c.rules.length≤3
def zseb (K:yba):Sp:=λvs H Q _=>Ex6 λp nl kl (k:Int) (ns ks:List Str)=>vs=[.ref p,.ref nl,.ref kl]∧Tk K H p k∧k≤600000∧N4 H nl ns∧Kd H kl ks∧∀l cl sl us ws (cs:List C20) (k':Int) H',But p H H'->Tk K H' p k'->k'≤k+900->H cl=none->H sl=none->H' l=some (.lst [.ref cl,.ref sl])->H' cl=some (.lst us)->H' sl=some (.lst ws)->All2 (CdT [p] H') us cs->zjd H' ws (cs.map C20.row)->C20s cs->Q (.ref l) H'
theorem zku (T:Tx K mg):FnOk P w K mg base CX0 16 T.zxd.f T.zxd.d zrk (zseb K):=by
 refine T.zxd.ok zzb ?_;rintro f c A o s H vs Q E hr ⟨p,nl,kl,k,ns,ks,rfl,TT,hk,N0,K0,q⟩ X;refine⟨_,  (zba (zqa (i:=3) zzb.nd rfl (.inl rfl) (zcd zca))
  (zba (zqa (i:=4) zzb.nd rfl (.inl rfl) (zcd zca))
  (zba (zqa (i:=5) zzb.nd rfl (.inl rfl) (zja (zna T).up hr rfl T.zda.m T.zda.F.kp (zra T) .nil zta (zaa (pv 0) (zaa zfa zca))))
  (zba (zqa (i:=6) zzb.nd rfl (.inl rfl) (zja (zna T).up hr rfl T.zda.m T.zda.F.kp (zra T) .nil zta (zaa (pv 0) (zaa zfa zca))))
  (zba (zzh ygc rfl (zjh rfl T.zni (zaa (zfc zci zfa (zja (zna T).up hr rfl T.zda.m T.zda.F.kp (zra T) .nil zta (zaa (pv 0) (zaa zfa zca)))) zca)) (zza (i:=7) zzb.nd rfl (.inl rfl))
   (zba (zqa (i:=8) zzb.nd rfl (.inl rfl) (zja (zlu T) hr rfl T.zyd.m T.zyd.F.kp (zky T) .nil zta (zaa (pv 0) (zaa (pv 1) (zaa (pv 2) zca)))))
   (zba (zqa (i:=9) zzb.nd rfl (.inl rfl) (zfe zch rfl T.zxi ypk (zaa (zib zxp rfl T.zyi ywm (zaa (zqf (own:=["_law_name"]) (cap:=["_law_pen"]) rfl (zkc.chk rfl rfl) (.cons (j:=0) rfl (.inl rfl) (.inl rfl) .nil) (zde (pv 1)) (λ_ _ _ _=>(zza (i:=0) (show ycd (["_law_name","_law_pen"]:List Str) by decide +kernel) rfl (.inl rfl))) (λ_ _ _ _=>zpi (zoa zsc (zja (zna T).up hr rfl T.zda.m T.zda.F.kp (zra T) .nil zta (zaa (pv 1) (zaa zfa zca))) zfa (zya _))) (λ_ _ _ _=>by exact (pv 0))) zca)) zca)))
   (zba (zqa (i:=10) zzb.nd rfl (.inl rfl) (zfc zbi (zfc zci (pv 6) (zfc zft zfa (pv 7))) zfa))
   (zba (zkd (zrh ycb yfb ygb zfd (pv 3) (zaa (zub (zaa (pv 5) (zaa (pv 8) (zaa (pv 10) (zaa (pv 9) zca))))) zca)))
   (zba (zqa (i:=11) zzb.nd rfl (.inl rfl) (zja (zna T).up hr rfl T.zda.m T.zda.F.kp (zra T) .nil zta (zaa (pv 0) (zaa zfa zca))))
   (zba (zqa (i:=12) zzb.nd rfl (.inl rfl) (zfc zek (zja (zna T).up hr rfl T.zda.m T.zda.F.kp (zra T) .nil zta (zaa (pv 0) (zaa zfa zca))) zfa))
   (zba (zkd (zrh ycb yfb ygb zfd (pv 4) (zaa (zub (zaa (pv 5) (zaa (pv 11) (zaa (pv 9) (zaa (pv 12) (zaa (zme zsc (zja (zna T).up hr rfl T.zda.m T.zda.F.kp (zra T) .nil zta (zaa (pv 0) (zaa zfa zca))) zfa (zya _)) zca)))))) zca)))
   (zea (zqa (i:=5) zzb.nd rfl (.inl rfl) (zfc zci (zfc zci (pv 5) zfa) (zja (zna T).up hr rfl T.zda.m T.zda.F.kp (zra T) .nil zta (zaa (pv 0) (zaa zfa zca))))))))))))))
  (zea (zua (zcd (zaa (pv 3) (zaa (pv 4) zca)))))))))),?_⟩
 refine⟨sz0,λcl hcl=>?_⟩;refine laid hcl λH1 S1 e1=>?_;refine⟨sz0,λsl hsl=>?_⟩;have ncs:cl≠sl:=zka e1 hsl;refine laid hsl λH2 S2 e2=>?_;have S02:=S1.trans S2;have T2:=TT.same S02;have ncp:cl≠p:=yub (TT.ne hcl);have nsp:sl≠p:=yub ((TT.same S1).ne hsl);have hsl0:=none_of S1 hsl;refine⟨_,rfl,p,k,4,rfl,T2,by omega,by decide,λn0 H3 n1 n2 B3 T3=>?_⟩;refine⟨_,rfl,p,k+1,89,rfl,T3,by omega,by decide,λf0 H4 f1 f2 B4 T4=>?_⟩;refine⟨_,rfl,p,k+1+1,6,rfl,T4,by omega,by decide,λm0 H5 m1 m2 B5 T5=>⟨_,_,rfl,rfl,?_⟩⟩;obtain⟨m,hm⟩:∃m:Nat,1+m0=(m:Int):=⟨(1+m0).toNat,by omega⟩;refine⟨m,(by show [V.int (1+m0)]=_;rw[hm]),by omega,by omega,?_⟩;rw[ysc];have B25:=B3.trans (B4.trans B5);have B05:But p H H5:=(But.same S02).trans B25;have F05:∀{X:List Addr},p∈X->Fm X H2 H5:=λh=>Fm.but h T2 B25;have pX:p∈[p,cl,sl]:=by simp
 have cX:cl∈[p,cl,sl]:=by simp
 have sX:sl∈[p,cl,sl]:=by simp
 refine zkn (lo:=0) (n:=m) (λi σ Hx=>Ex11 λus ws (cs:List C20) (k' num:Int) o7 o8 o9 o10 o11 o12=>σ=[some (.ref p),some (.ref nl),some (.ref kl),some (.ref cl),some (.ref sl),some (.int num),some (.int f0),o7,o8,o9,o10,o11,o12]∧Hx cl=some (.lst us)∧Hx sl=some (.lst ws)∧All2 (CdT [p,cl,sl] Hx) us cs∧zjd Hx ws (cs.map C20.row)∧cs.length=i∧i≤m∧But p H Hx∧Tk K Hx p k'∧k'≤k+3+144*(i:Int)∧N4 Hx nl ns∧Kd Hx kl ks∧0≤num∧(∀c∈cs,0≤c.num∧c.num<num∧0≤c.keeper∧c.rules.length≤3)∧(cs.map (·.num)).Nodup∧(cs.map (·.came)).Nodup∧∀c∈cs,∃j:Nat,j<i∧c.came=(f0+31*(0+(j:Int))) % 89) ⟨[],[],[],_,n0,_,_,_,_,_,_,rfl,B25 _ _ ncp (S2 _ _ e1),B25 _ _ nsp e2,.nil,.nil,rfl,ylb _,B05,T5,by omega,(N0.same S02).but T2 B25,(K0.same S02).but T2 B25,n1,by simp,.nil,.nil,by simp⟩ ?_ ?_
 ·rintro i σ Hx hi ⟨us,ws,cs,k',num,o7,o8,o9,o10,o11,o12,rfl,ec,es,CD,RW,cl',_,B,TK,hk',NX,KX,num0,inv,nd1,nd2,wh⟩;have ul:=CD.len;have wl:=RW.length;rw[yda] at wl;have i6:i<6:=by omega
  refine⟨_,rfl,_,rfl,_,rfl,p,nl,kl,k',ns,ks,rfl,TK,by omega,NX,KX,λtl vs rs k1 Ha Ba Ta hk1 ntl etl R2 r3=>?_⟩;have ntp:tl≠p:=yub (TK.ne ntl);have ntc:tl≠cl:=yub (zka ec ntl);have nts:tl≠sl:=yub (zka es ntl);have ntX:tl∉[p,cl,sl]:=by simp[ntp,ntc,nts]
  have Na:=NX.but TK Ba;have Ka:=KX.but TK Ba;refine⟨_,rfl,nl,rfl,⟨_,SqL.of Na.at_⟩,?_⟩;refine zoe (xs:=ns.map V.str) (λj ys Hy=>Ex2 λ(ms:List Str) (k2:Int)=>ys=ms.map V.str∧ms.length≤j∧But p Ha Hy∧Tk K Hy p k2∧k2≤k1+(j:Int)∧j≤4) (λj ys Hy ⟨_,_,_,_,b,_⟩=>SqL.of (Na.but Ta b).at_) ⟨[],_,rfl,yma _,But.refl _ _,Ta,by omega,by omega⟩ ?_ ?_ ?_
  ·rintro j ys Hy ⟨ms,k2,rfl,hl,_,_,_,hj⟩;rw[yda];exact small (by omega)
  ·rintro j v ys Hy hv ⟨ms,k2,rfl,hl,b,Ty,hk2,hj⟩;have hj4:j<4:=by
    have:=(yla.mp hv).1;rw[yda,Na.len] at this;exact this
   obtain⟨n,rfl⟩:∃n,v=V.str n:=by
    rw[yvb] at hv;cases z:ns[j]? with
    | none=>rw[z] at hv;cases hv
    | some n=>rw[z] at hv;cases hv;exact⟨n,rfl⟩
   refine⟨rfl,_,rfl,p,k2,3,rfl,Ty,by omega,by decide,λr Hz r0 r1 bz Tz=>⟨rfl,_,rfl,ite2 (λ_=>?_) (λ_=>?_)⟩⟩
   ·exact⟨_,rfl,ms++[n],_,by rw[yib];rfl,by rw[yea];show ms.length+1≤j+1;omega,b.trans bz,Tz,by omega,hj4⟩
   ·exact⟨ms,_,rfl,by omega,b.trans bz,Tz,by omega,hj4⟩
  rintro ys Hb ⟨ms,k2,rfl,hl,Bb,Tb,hk2,_⟩ bl hbl;rw[yda,Na.len] at hl hk2;refine laid hbl λHc Sc ec'=>?_;refine⟨bl,ms,rfl,SqL.of ec',by omega,λso zs hso pz sz=>?_⟩;refine laid hso λHd Sd ed=>?_;refine⟨so,_,rfl,.inl ⟨SqL.of ed,λtm htm=>?_⟩⟩;refine laid htm λHe Se ee=>?_;have Sce:=Sc.trans (Sd.trans Se);have Te:=Tb.same Sce;have Bxe:But p Hx He:=Ba.trans (Bb.trans (But.same Sce));have Fxe:Fm [p,cl,sl] Hx He:=Fm.but pX TK Bxe;have Fae:Fm [p,cl,sl] Ha He:=Fm.but pX Ta (Bb.trans (But.same Sce));have ecE:=Bxe _ _ ncp ec;have esE:=Bxe _ _ nsp es;have etlE:=Fae.fr _ _ ntX etl;refine⟨_,rfl,_,rfl,_,_,rfl,rfl,.inl ⟨by decide,by decide⟩,_,_,rfl,rfl,_,_,rfl,rfl,(by show (0:Int)<89;decide),?_⟩;refine⟨_,rfl,.inl ⟨rfl,_,SqL.of ecE⟩,_,rfl,_,rfl,_,rfl,_,rfl,sz4,λca hca=>?_⟩;refine laid hca λHf Sf ef=>?_;have ecF:=Sf _ _ ecE;refine⟨cl,_,_,rfl,rfl,ecF,zpc (by omega),?_⟩;have Fg:Fm [p,cl,sl] Hf (upd Hf cl (.lst (us++[V.ref ca]))):=Fm.put cX ecF;have eg:upd Hf cl (.lst (us++[V.ref ca])) cl=some (.lst (us++[V.ref ca])):=zga;have esG:upd Hf cl (.lst (us++[V.ref ca])) sl=some (.lst ws):=(zva (yub ncs)).trans (Sf _ _ esE);have TG:Tk K (upd Hf cl (.lst (us++[V.ref ca]))) p k2:=(Te.same Sf).other ecF (yub ncp);have NG:N4 (upd Hf cl (.lst (us++[V.ref ca]))) nl ns:=⟨by
   rw[zva λz=>by rw[z] at N0;exact absurd N0.at_ (by rw[hcl];exact λy=>by cases y)];exact Sf _ _ ((NX.but TK Bxe).at_),NX.len,NX.ok,NX.nd⟩
  have KG:Kd (upd Hf cl (.lst (us++[V.ref ca]))) kl ks:=⟨by
   rw[zva λz=>by rw[z] at K0;exact absurd K0.at_ (by rw[hcl];exact λy=>by cases y)];exact Sf _ _ ((KX.but TK Bxe).at_),KX.lo,KX.hi,KX.ok⟩
  have BG:But p H (upd Hf cl (.lst (us++[V.ref ca]))):=λb o nb hb=>by
   rw[zva (zka hb hcl)];exact Sf _ _ (Bxe _ _ nb (B b o nb hb))
  have FxG:Fm [p,cl,sl] Hx (upd Hf cl (.lst (us++[V.ref ca]))):=Fxe.trans ((Fm.same Sf).trans Fg);have FaG:Fm [p,cl,sl] Ha (upd Hf cl (.lst (us++[V.ref ca]))):=Fae.trans ((Fm.same Sf).trans Fg);have eeG:=((Kp.same Sf).trans Fg.kp).t ee;have efG:=Fg.kp.t ef;clear Fg ecE esE ecF etlE Te;generalize upd Hf cl (.lst (us++[V.ref ca]))=Hg at *;refine⟨_,rfl,p,k2,4,rfl,TG,by omega,by decide,λkp Hh kp0 kp1 Bh Th=>?_⟩;refine⟨_,rfl,p,k2+1,9,rfl,Th,by omega,by decide,λfo Hi fo0 fo1 Bi Ti=>⟨_,_,rfl,rfl,?_⟩⟩;have BGi:=Bh.trans Bi;have esI:=BGi _ _ nsp esG;have FGi:Fm [p,cl,sl] Hg Hi:=Fm.but pX TG BGi;refine⟨_,rfl,.inl ⟨rfl,_,SqL.of esI⟩,_,rfl,_,rfl,_,rfl,_,rfl,_,rfl,p,k2+1+1,4,rfl,Ti,by omega,by decide,λmu Hj mu0 mu1 Bj Tj=>⟨rfl,sz5,λra hra=>?_⟩⟩;refine laid hra λHk Sk ek=>?_;have FGk:Fm [p,cl,sl] Hg Hk:=FGi.trans ((Fm.but pX Ti Bj).trans (Fm.same Sk));have BGk:But p Hg Hk:=BGi.trans (Bj.trans (But.same Sk));have esK:=BGk _ _ nsp esG;have Tk':=Tj.same Sk;refine⟨sl,_,_,rfl,rfl,esK,zpc (by omega),?_⟩;have Fl:Fm [p,cl,sl] Hk (upd Hk sl (.lst (ws++[V.ref ra]))):=Fm.put sX esK;have el:upd Hk sl (.lst (ws++[V.ref ra])) sl=some (.lst (ws++[V.ref ra])):=zga;have ecL:upd Hk sl (.lst (ws++[V.ref ra])) cl=some (.lst (us++[V.ref ca])):=(zva ncs).trans (BGk _ _ ncp eg);have TL:Tk K (upd Hk sl (.lst (ws++[V.ref ra]))) p (k2+1+1+1):=Tk'.other esK (yub nsp);have NL:N4 (upd Hk sl (.lst (ws++[V.ref ra]))) nl ns:=⟨by
   rw[zva λz=>by rw[z] at N0;exact absurd N0.at_ (by rw[hsl0];exact λy=>by cases y)];exact (NG.but TG BGk).at_,NX.len,NX.ok,NX.nd⟩
  have KL:Kd (upd Hk sl (.lst (ws++[V.ref ra]))) kl ks:=⟨by
   rw[zva λz=>by rw[z] at K0;exact absurd K0.at_ (by rw[hsl0];exact λy=>by cases y)];exact (KG.but TG BGk).at_,KX.lo,KX.hi,KX.ok⟩
  have BL:But p H (upd Hk sl (.lst (ws++[V.ref ra]))):=λb o nb hb=>by
   rw[zva (zka hb hsl0)];exact BGk _ _ nb (BG b o nb hb)
  have FGl:=FGk.trans Fl;have FxL:=FxG.trans FGl;have FaL:=FaG.trans FGl;have eeL:=FGl.kp.t eeG;have efL:=FGl.kp.t efG;have ekL:=Fl.kp.t ek;clear FGl FGk Fl;generalize upd Hk sl (.lst (ws++[V.ref ra]))=Hl at *;refine⟨_,rfl,_,_,rfl,rfl,_,rfl,p,k2+1+1+1,3,rfl,TL,by omega,by decide,λst Hm st0 st1 Bm Tm=>⟨_,_,rfl,rfl,?_⟩⟩;have FLm:Fm [p,cl,sl] Hl Hm:=Fm.but pX TL Bm;refine⟨us++[V.ref ca],ws++[V.ref ra],cs++[⟨num,rs,(f0+31*(0+(i:Int))) % 89,zs,kp,fo-2,decide (V.int mu=V.int 0)⟩],_,_,_,_,_,_,_,_,rfl,Bm _ _ ncp ecL,Bm _ _ nsp el,?_,?_,by rw[yea,cl'];rfl,hi,BL.trans Bm,Tm,by omega,NL.but TL Bm,KL.but TL Bm,by omega,?_,?_,?_,?_⟩
  ·refine All2.snoc ⟨ca,tl,tm,vs,rfl,FLm.kp.t efL,FLm.kp.t eeL,FLm.fr _ _ ntX (FaL.fr _ _ ntX etl),ntX,R2.imp λz=>z.kp (FaL.kp.trans FLm.kp)⟩ (CD.imp λz=>z.fm (FxL.trans FLm))
  ·rw[yib];exact zjd.snoc (RW.map λ_ _ z=>z.kp (FxL.kp.trans FLm.kp)) ⟨ra,tm,rfl,FLm.kp.t ekL,FLm.kp.t eeL⟩
  ·intro c hc
   rcases yhb.mp hc with h|h
   ·obtain⟨h1,h2,h3,h4⟩:=inv c h;exact⟨h1,by omega,h3,h4⟩
   ·rw[yja.mp h];exact⟨num0,(by show num<num+1+st;omega),kp0,r3⟩
  ·rw[yib,yqk];refine⟨nd1,yzf _ _,λa ha b hb z=>?_⟩;obtain⟨c,hc,rfl⟩:=ybb.mp ha;have hb':b=num:=yja.mp hb;have:=(inv c hc).2.1;omega
  ·rw[yib,yqk];refine⟨nd2,yzf _ _,λa ha b hb z=>?_⟩;obtain⟨c,hc,rfl⟩:=ybb.mp ha;have hb':b=(f0+31*(0+(i:Int))) % 89:=yja.mp hb;obtain⟨j,hj,e⟩:=wh c hc;omega
  ·intro c hc
   rcases yhb.mp hc with h|h
   ·obtain⟨j,hj,e⟩:=wh c h;exact⟨j,by omega,e⟩
   ·rw[yja.mp h];exact⟨i,by omega,rfl⟩
 ·rintro σ Hx ⟨us,ws,cs,k',num,o7,o8,o9,o10,o11,o12,rfl,ec,es,CD,RW,cl',_,B,TK,hk',NX,KX,num0,inv,nd1,nd2,wh⟩;refine⟨_,rfl,_,rfl,sz2,λl hl=>?_⟩;refine laid hl λHa Sa ea=>?_;exact q l cl sl us ws cs k' Ha (B.trans (But.same Sa)) (TK.same Sa) (by omega) hcl hsl0 ea (Sa _ _ ec) (Sa _ _ es) (CD.imp λz=>(z.fm (Fm.same Sa)).less (by simp)) (RW.map λ_ _ z=>z.kp (Kp.same Sa)) ⟨by omega,by omega,nd1,nd2,λc hc=>(inv c hc).1,λc hc=>(inv c hc).2.2.1,λc hc=>(inv c hc).2.2.2⟩
theorem All2.app {α β:Type}{R:α->β->Prop}{as:List α}{bs:List β}{cs:List α}{ds:List β}(z:All2 R as bs)(y:All2 R cs ds):All2 R (as++cs) (bs++ds):=by
 induction z with
 | nil=>exact y
 | cons h _ ih=>exact .cons h ih
theorem All2.cut {α β:Type}{R:α->β->Prop}{as:List α}{bs:List β}(z:All2 R as bs):∀n:Nat,All2 R (as.take n) (bs.take n)∧All2 R (as.drop n) (bs.drop n):=by
 induction z with
 | nil=>intro n;rw[List.take_nil,List.take_nil,List.drop_nil,List.drop_nil];exact⟨.nil,.nil⟩
 | cons h t ih =>
  intro n;cases n with
  | zero=>exact⟨.nil,.cons h t⟩
  | succ n=>exact⟨.cons h (ih n).1,(ih n).2⟩
mutual
theorem IsW.kp {D:Addr}{H H':Hp}(s:Kp H H'):∀{v:V} {w:Wh},IsW D H v w->IsW D H' v w
 | _,_,.mk h1 h2 h3=>.mk (s _ _ (λ_ z=>by cases z) h1) (s.t h2) (h3.kp s)
theorem IsWs.kp {D:Addr}{H H':Hp}(s:Kp H H'):∀{vs:List V} {ws:List Wh},IsWs D H vs ws->IsWs D H' vs ws
 | _,_,.nil=>.nil
 | _,_,.cons h t=>.cons (h.kp s) (t.kp s)
end
theorem zqn.kp {D:Addr}{H H':Hp}(s:Kp H H'){v:V}{d:Deed}(h:zqn D H v d):zqn D H' v d:=by
 obtain⟨a,x,e,h1,h2⟩:=h;exact⟨a,x,e,s.t h1,h2.kp s⟩
theorem zuj.kp {D:Addr}{H H':Hp}(s:Kp H H'){v:V}:∀{r:Rule},zuj D H v r->zuj D H' v r
 | .hold w y z,⟨a,x,u,e,h,p,q⟩=>⟨a,x,u,e,s.t h,(match y,p with
  | .v _,p=>p
  | .w _,p=>IsW.kp s p),q.kp s⟩
 | .wen k y d,⟨a,x,u,e,h,p,q⟩=>⟨a,x,u,e,s.t h,p.kp s,q.kp s⟩
 | .instead k y w z,⟨a,x,e,h,p⟩=>⟨a,x,e,s.t h,p.kp s⟩
 | .may c d,⟨a,u,e,h,p⟩=>⟨a,u,e,s.t h,p.kp s⟩
theorem IsRules.kp {D:Addr}{H H':Hp}(s:Kp H H'){vs:List V}{rs:List Rule}(z:IsRules D H vs rs):IsRules D H' vs rs:=by
 induction z with
 | nil=>exact .nil
 | cons h _ ih=>exact .cons (h.kp s) ih
theorem zvy.kp {B D:Addr}{H H':Hp}(s:Kp H H'){v:V}{c:Crd}(h:zvy B D H v c):zvy B D H' v c:=by
 obtain⟨a,dx,m,t,vs,e,h1,h2,h3,h4⟩:=h;exact⟨a,dx,m,t,vs,e,s _ _ (λ_ z=>by cases z) h1,s.t h2,s.t h3,h4.kp s⟩
def LyT (B D:Addr)(nm:Str)(H:Hp)(u:V)(c:C20):Prop:=Ex3 λa tm cv=>u = .ref a∧H a=some (.tup [.int c.num,cv,.int (c.num % 4),.int c.came,.ref tm])∧H tm=some (.tup (c.marks.map V.str))∧zvy B D H cv (zio nm c.rules)
theorem LyT.kp {B D:Addr}{nm:Str}{H H':Hp}(s:Kp H H'){v:V}{r:C20}(h:LyT B D nm H v r):LyT B D nm H' v r:=by
 obtain⟨a,tm,c,rfl,h1,h2,h3⟩:=h;exact⟨a,tm,c,rfl,s.t h1,s.t h2,h3.kp s⟩
def zweb (B D:Addr):Sp:=λvs H Q _=>Ex6 λcl (nm:Str) (t:Int) (X:List Addr) us (cs:List C20)=>vs=[.ref cl,.str nm,.int t]∧zie nm∧H cl=some (.lst us)∧All2 (CdT X H) us cs∧C20s cs∧0≤t∧∀l ws (ds:List C20) H',Same H H'->H l=none->H' l=some (.lst ws)->All2 (LyT B D nm H') ws ds->ds.Perm cs->Q (.ref l) H'
theorem znu (T:Tx K mg)(kb:K.In base):FnOk P w K mg base CX0 13 T.zae.f T.zae.d zuk (zweb T.zqg T.ztb):=by
 refine T.zae.ok zje ?_;rintro f c A o s H vs Q E hr ⟨cl,nm,t,Y,us,cs,rfl,hn,ec,CD,CS,t0,q⟩ X;refine⟨_,  (zba (zqa (i:=3) zje.nd rfl (.inl rfl) (zcd zca))
  (zba (zzh ygc rfl (zde (pv 0)) (zjp (n:=4) rfl (zob (zza (i:=4) zje.nd rfl (.inl rfl)) (zob (zza (i:=5) zje.nd rfl (.inl rfl)) (zob (zza (i:=6) zje.nd rfl (.inl rfl)) (zob (zza (i:=7) zje.nd rfl (.inl rfl)) zej)))))
   (zea (zkd (zrh ycb yfb ygb zfd (pv 3) (zaa (zub (zaa (pv 4) (zaa (zja (zxw T kb).up hr rfl T.zte.m T.zte.F.kp (zbab T) .nil zta (zaa (zja (zax T) hr rfl T.zwe.m T.zwe.F.kp (zeab T) .nil zta (zaa (pv 1) (zaa (pv 5) zca))) zca)) (zaa (zfc zbi (pv 4) zfa) (zaa (pv 6) (zaa (pv 7) zca)))))) zca)))))
  (zea (zua (zfc zgt (zai zmq (pv 3) (zck (zfc zbi (pv 2) (zib zgb rfl T.zig ymb (zaa (pv 3) zca)))) zdk) (zai zmq (pv 3) zdk (zck (zfc zbi (pv 2) (zib zgb rfl T.zig ymb (zaa (pv 3) zca)))))))))),?_⟩
 have ul:=CD.len;have c1:=CS.lo;have c6:=CS.hi;refine⟨sz0,λrl hrl=>?_⟩;refine laid hrl λH1 S1 e1=>?_;refine⟨_,rfl,cl,rfl,⟨_,SqL.of (S1 _ _ ec)⟩,?_⟩;refine zij (xs:=us) (λi σ H'=>Ex5 λws o4 o5 o6 o7=>σ=[some (.ref cl),some (.str nm),some (.int t),some (.ref rl),o4,o5,o6,o7]∧H' rl=some (.lst ws)∧All2 (LyT T.zqg T.ztb nm H') ws (cs.take i)∧Same H H') ⟨[],_,_,_,_,rfl,e1,.nil,S1⟩ (λi σ H' _ ⟨_,_,_,_,_,_,_,_,S⟩=>SqL.of (S _ _ ec)) ?_ ?_
 ·rintro i u σ H' hu ⟨ws,o4,o5,o6,o7,rfl,er,LY,S⟩;obtain⟨c,eci,cd⟩:=CD.get hu;have hi:i<us.length:=(yla.mp hu).1;obtain⟨a,tl,tm,vs,rfl,ea,em,et,_,R2⟩:=cd.fm (Fm.same S);refine⟨a,_,rfl,SqT.of ea,rfl,_,_,rfl,_,_,rfl,_,_,rfl,_,_,rfl,rfl,?_⟩;have few:=CS.few c (yob eci);have cok:(zio nm c.rules).ok:=zkcb hn (λr hr=>by
   obtain⟨v,_,z⟩:=R2.mem2 hr;exact z.ok) few
  refine⟨_,rfl,.inl ⟨rfl,_,SqL.of er⟩,_,rfl,_,rfl,_,rfl,nm,tl,vs,c.rules,rfl,hn,et,R2,few,λH2 S2=>⟨zio nm c.rules,rfl,cok,λcv H3 S3 ic=>?_⟩⟩;have S23:=S2.trans S3;refine⟨_,rfl,_,_,rfl,rfl,(by show (0:Int)<4;decide),_,rfl,_,rfl,sz5,λla hla=>?_⟩;refine laid hla λH4 S4 e4=>?_;have S24:=S23.trans S4;have er4:=S24 _ _ er;have wl:=LY.len;rw[ydb] at wl;refine⟨rl,_,_,rfl,rfl,er4,zpc (by omega),?_⟩;have kp:Kp H4 (upd H4 rl (.lst (ws++[V.ref la]))):=Kp.put er4;refine⟨_,_,_,_,_,rfl,zga,?_,zdg (S.trans S24) hrl _⟩;rw[ykb,eci];exact All2.snoc ⟨la,tm,cv,rfl,kp.t e4,kp.t (S24 _ _ em),ic.kp ((Kp.same S4).trans kp)⟩ (LY.imp λz=>z.kp ((Kp.same S24).trans kp))
 ·rintro σ H' ⟨ws,o4,o5,o6,o7,rfl,er,LY,S⟩;rw[ysa (by omega)] at LY;have wl:=LY.len;have md:=zmp t (m:=(ws.length:Int)) (by omega);obtain⟨n,hn'⟩:∃n:Nat,t % (ws.length:Int)=(n:Int):=⟨(t % (ws.length:Int)).toNat,by omega⟩;refine⟨_,rfl,_,rfl,_,rfl,rl,_,rfl,.inl (SqL.of er),_,_,rfl,rfl,(by show (0:Int)<(ws.length:Int);omega),?_⟩;refine⟨_,rfl,rl,_,rfl,SqL.of er,λs1 hs1=>?_⟩;dsimp only;rw[hn',zmn];refine laid hs1 λH2 S2 e2=>?_;have er2:=S2 _ _ er;refine⟨_,rfl,_,rfl,_,rfl,rl,_,rfl,.inl (SqL.of er2),_,_,rfl,rfl,(by show (0:Int)<(ws.length:Int);omega),_,rfl,rl,_,rfl,SqL.of er2,λs2 hs2=>?_⟩;dsimp only;rw[hn',zvx];refine laid hs2 λH3 S3 e3=>?_;refine⟨s1,s2,_,_,rfl,rfl,S3 _ _ e2,e3,?_,λl hl=>?_⟩
  ·rw[ynd,ydb];exact small (by omega)
  refine laid hl λH4 S4 e4=>?_;have S24:=S2.trans (S3.trans S4);obtain⟨z1,z2⟩:=LY.cut n;refine q l _ (cs.drop n++cs.take n) H4 (S.trans S24) (none_of (S.trans (S2.trans S3)) hl) e4 ((z2.app z1).imp λz=>z.kp (Kp.same S24)) ?_;refine List.perm_append_comm.trans ?_;rw[yei]
def ItT (H:Hp)(u:V)(c:List Int):Prop:=∃a,u = .ref a∧H a=some (.tup (c.map V.int))
theorem ItT.kp {H H':Hp}(s:Kp H H'){u:V}{c:List Int}(h:ItT H u c):ItT H' u c:=by
 obtain⟨a,e,h⟩:=h;exact⟨a,e,s.t h⟩
def intOf:V->Int
 | .int i=>i
 | _=>0
def chG (H:Hp):V->List Int
 | .ref a=>match H a with
  | some (.tup xs)=>xs.map intOf
  | _=>[]
 | _=>[]
theorem ItT.key {H:Hp}{u:V}{c:List Int}(h:ItT H u c):chG H u=c:=by
 obtain⟨a,rfl,e⟩:=h;show (match H a with
  | some (.tup xs)=>xs.map intOf
  | _=>[])=c
 rw[e];show (c.map V.int).map intOf=c
 rw[yqf,show (intOf∘V.int)=id from rfl,List.map_id]
theorem zuu {H:Hp}{us:List V}{cs:List (List Int)}(z:All2 (ItT H) us cs):us.map (chG H)=cs:=by
 induction z with
 | nil=>rfl
 | cons h _ ih=>rw[yva,h.key,ih]
theorem zvn {cs ds es:List (List Int)}(h1:cs.Pairwise (· < ·))(h2:ds.Pairwise (· < ·))(p1:cs.Perm es)(p2:ds.Perm es):cs=ds :=
 ynk (le:=λa b:List Int=>a<b) (λa b _ _ x y=>absurd (ymi x y) (List.lt_irrefl _)) h1 h2 (p1.trans p2.symm)
theorem zqmb {K:yba}{H:Hp}(c:List Int):DVs K H (c.map V.int) (c.map PyData.int):=by
 induction c with
 | nil=>exact .nil
 | cons i r ih=>exact .cons (.int i) ih
def chD (c:List Int):PyData:=.tuple (c.map .int)
theorem zdgb {K:yba}{H:Hp}{u:V}{c:List Int}(h:ItT H u c):DV K H u (chD c):=by
 obtain⟨a,rfl,e⟩:=h;exact .tup (SqT.of e) (zqmb _)
theorem zmx {K:yba}{H:Hp}{us:List V}{cs:List (List Int)}(z:All2 (ItT H) us cs):DVs K H us (cs.map chD):=by
 induction z with
 | nil=>exact .nil
 | cons h _ ih=>exact .cons (zdgb h) ih
theorem lay_ints (c:List Int):yie (c.map .int)=true∧ywd (c.map .int)=0:=by
 induction c with
 | nil=>exact⟨rfl,rfl⟩
 | cons i r ih=>exact⟨by simp[yie,yge,ih.1],by simp[ywd,yih,ih.2]⟩
theorem zmmb (cs:List (List Int)):yie (cs.map chD)=true∧ywd (cs.map chD)≤1:=by
 induction cs with
 | nil=>exact⟨rfl,ylb _⟩
 | cons c r ih =>
  obtain⟨h1,h2⟩:=ih;obtain⟨g1,g2⟩:=lay_ints c;refine⟨by simp[yie,yge,chD,h1,g1],?_⟩;simp only[yva,ywd,yih,chD,g2];have h2':ywd (ybi chD r)≤1:=h2;unfold chD at h2';omega
theorem zyf (cs:List (List Int)):yid (.list (cs.map chD))=true:=by
 obtain⟨h1,h2⟩:=zmmb cs;unfold yid;rw[yge,h1,yih];simp;omega
theorem znn (c:List Int):yid (chD c)=true:=by
 obtain⟨h1,h2⟩:=lay_ints c;unfold yid chD;rw[yge,h1,yih,h2];rfl
theorem zxx (d:List Int):(chD d).depth≤8:=by
 obtain⟨_,h2⟩:=lay_ints d;unfold chD;rw[yih,h2];decide
theorem zccb:∀(c d:List Int),yaf (c.map .int) (d.map .int)=decide (c=d)
 | [],[]=>by simp[yaf]
 | [],_::_=>by simp[yaf]
 | _::_,[]=>by simp[yaf]
 | x::c,y::d=>by
  simp only[yva,yaf,zccb c d]
  by_cases e:x=y
  ·by_cases e2:c=d<;>simp[ycg,e,e2]
  ·simp[ycg,e]
theorem zlkb (c d:List Int):ycg (chD c) (chD d)=decide (c=d):=by
 unfold chD;rw[ycg];exact zccb c d
theorem eqv_refl (cs:List (List Int)):ycg (.list (cs.map chD)) (.list (cs.map chD))=true:=SeqAt.eqv_refl _ (yqh (zyf cs))
theorem zqkb (ks:List (List Int))(d:List Int):((ks.map chD).any λe=>ycg e (chD d))=decide (d∈ks):=by
 induction ks with
 | nil=>rfl
 | cons k r ih =>
  rw[yva,ygn,zlkb,ih]
  by_cases e:k=d
  ·simp[e]
  ·have e':¬ d=k:=λz=>e z.symm;simp[e,e']
def AmV (kd:Str)(v:V):Prop:=(∃n,v = .str n∧zie n∧kd∈(["gain","lack"]:List Str))∨∃z:Int,v = .int z∧0≤z∧kd∉(["gain","lack"]:List Str)
def ThV (cs:List C20)(kd:Str)(th:Int):Prop:=(kd∈zid ∧ -4≤th∧th<0)∨(kd∉zid∧∃c∈cs,th=c.num)
theorem zxqb:∀kd∈zmc,inV (.str kd) [.str "lose",.str "score",.str "draw"]=decide (kd∈zid):=by decide +kernel
theorem zarb:∀kd∈zmc,inV (.str kd) [.str "gain",.str "lack"]=decide (kd∈(["gain","lack"]:List Str)):=by decide +kernel
theorem zyqb:∀kd∈zid,kd∉(["gain","lack"]:List Str):=by decide +kernel
theorem zzqb:("leave":Str)∉(["gain","lack"]:List Str):=by decide +kernel
def zelb (K:yba):Sp:=λvs H Q _=>Ex10 λp kl cl nl (k:Int) (ns ks:List Str) (X:List Addr) us (cs:List C20)=>vs=[.ref p,.ref kl,.ref cl,.ref nl]∧Tk K H p k∧k≤600000∧N4 H nl ns∧Kd H kl ks∧H cl=some (.lst us)∧cl≠p∧All2 (CdT X H) us cs∧C20s cs∧∀a (kd:Str) (th:Int) av (k':Int) H',But p H H'->Tk K H' p k'->k'≤k+5->H' a=some (.tup [.str kd,.int th,av])->kd∈ks->ThV cs kd th->AmV kd av->Q (.ref a) H'
theorem zzn (T:Tx K mg):FnOk P w K mg base CX0 4 T.zqc.f T.zqc.d zwg (zelb K):=by
 refine T.zqc.ok zwc ?_;rintro f c A o s H vs Q E hr ⟨p,kl,cl,nl,k,ns,ks,Y,us,cs,rfl,TT,hk,N0,K0,ec,ncp,CD,CS,q⟩ X;refine⟨_,  (zba (zqa (i:=4) zwc.nd rfl (.inl rfl) (znb zic (pv 1) (zja (zna T) hr rfl T.zda.m T.zda.F.kp (zra T) .nil zta (zaa (pv 0) (zaa (zib zgb rfl T.zig ymb (zaa (pv 1) zca)) zca))) (λ_ _=>rfl)))
  (zba (zqa (i:=5) zwc.nd rfl (.inl rfl) (zja (zna T) hr rfl T.zda.m T.zda.F.kp (zra T) .nil zta (zaa (pv 0) (zaa zfa zca))))
  (zba (zxb (zoa zsc (zja (zna T) hr rfl T.zda.m T.zda.F.kp (zra T) .nil zta (zaa (pv 0) (zaa zfa zca))) zfa (zya _))
   (zea (zqa (i:=5) zwc.nd rfl (.inl rfl) (zfc zci (zfc zsob zfa zfa) (pv 5))))
   zsa)
  (zba (zxb (zoa zge (pv 4) (zub (zaa zma (zaa zma (zaa zma zca)))) rfl)
   (zea (zua (zub (zaa (pv 4) (zaa (zfc zek (zkib zibb zfa) (zja (zna T) hr rfl T.zda.m T.zda.F.kp (zra T) .nil zta (zaa (pv 0) (zaa zfa zca)))) (zaa (pv 5) zca))))))
   zsa)
  (zba (zxb (zoa zge (pv 4) (zub (zaa zma (zaa zma zca))) rfl)
   (zea (zqa (i:=5) zwc.nd rfl (.inl rfl) (znb zic (pv 3) (zja (zna T) hr rfl T.zda.m T.zda.F.kp (zra T) .nil zta (zaa (pv 0) (zaa zfa zca))) (λ_ _=>rfl))))
   zsa)
  (zba (zxb (zoa zsc (pv 4) zma (zya _))
   (zea (zqa (i:=5) zwc.nd rfl (.inl rfl) zfa))
   zsa)
  (zea (zua (zub (zaa (pv 4) (zaa (znb zlc (znb zic (pv 2) (zja (zna T) hr rfl T.zda.m T.zda.F.kp (zra T) .nil zta (zaa (pv 0) (zaa (zib zgb rfl T.zig ymb (zaa (pv 2) zca)) zca))) (λ_ _=>rfl)) zfa (λ_ _=>rfl)) (zaa (pv 5) zca)))))))))))),?_⟩
 have kle:((ks.map V.str).length:Int)=(ks.length:Int):=by rw[yda]
 have c1:=CS.lo;have ul:=CD.len;refine⟨_,rfl,_,rfl,_,rfl,kl,_,rfl,.inl (SqL.of K0.at_),p,k,(ks.length:Int),(by rw[← kle];rfl),TT,by omega,(by have:=K0.lo;omega),λr H1 r0 r1 B1 T1=>?_⟩;have K1:=K0.but TT B1;obtain⟨kd,hkd,hm⟩:=zzr (ss:=ks) r0 r1;have hd:=K1.ok kd hm;refine⟨kl,_,_,_,rfl,rfl,SqL.of K1.at_,hkd,?_⟩;refine⟨_,rfl,p,k+1,2000,rfl,T1,by omega,by decide,λa0 H2 a1 a2 B2 T2=>?_⟩;refine⟨_,rfl,p,k+1+1,6,rfl,T2,by omega,by decide,λs0 H3 s1 s2 B3 T3=>⟨rfl,_,rfl,?_⟩⟩;have B03:=B1.trans (B2.trans B3);refine' zsn (pre:=λv Hs=>Hs=H3∧∃z:Int,v=V.int z∧0≤z) (λkk=>?g1) ?k1
 case g1 =>
  refine ite2 (λc=>?_) (λc=>?_)
  ·refine⟨_,_,rfl,rfl,⟨by decide,by decide,by decide⟩,_,rfl,_,_,rfl,rfl,?_⟩;have p59:(0:Int)≤10 ^ (59:Int).toNat:=(by decide);dsimp only;generalize (10:Int) ^ (59:Int).toNat=t59 at p59 ⊢;obtain⟨v4,hv4⟩:∃v,v=V.int (t59+a0):=⟨_,rfl⟩;obtain⟨Hz,hz⟩:∃h,h=H3:=⟨_,rfl⟩;rw[← hv4,← hz];exact kk v4 Hz ⟨hz,_,hv4,by omega⟩
  ·exact kk (.int a0) H3 ⟨rfl,a0,rfl,a1⟩
 case k1 =>
 rintro _ _ ⟨rfl,z,rfl,z0⟩;refine⟨_,rfl,sz3,λq1 hq1=>?_⟩;refine laid hq1 λH4 S4 e4=>?_;refine⟨q1,_,rfl,.inr (SqT.of e4),rfl,rfl,_,rfl,?_⟩;rw[zxqb kd hd];have T4:=T3.same S4;have B04:=B03.trans (But.same S4);refine ite2 (λc=>?_) (λc=>?_)
 ·have c':=of_decide_eq_true c;refine⟨_,rfl,_,rfl,_,rfl,p,k+1+1+1,4,rfl,T4,by omega,by decide,λt0 H5 t1 t2 B5 T5=>⟨_,_,rfl,rfl,_,rfl,sz3,λa ha=>?_⟩⟩;refine laid ha λH6 S6 e6=>?_;exact q a kd (-1-t0) (.int z) _ H6 (B04.trans (B5.trans (But.same S6))) (T5.same S6) (by omega) e6 hm (.inl ⟨c',by omega,by omega⟩) (.inr ⟨z,rfl,z0,zyqb kd c'⟩)
 have np:kd∉zid:=λz=>c (decide_eq_true z);refine⟨_,rfl,sz2,λq2 hq2=>?_⟩;refine laid hq2 λH5 S5 e5=>?_;refine⟨q2,_,rfl,.inr (SqT.of e5),rfl,rfl,_,rfl,?_⟩;rw[zarb kd hd];have T5:=T4.same S5;have B05:=B04.trans (But.same S5);refine' zsn (pre:=λv Hs=>AmV kd v∧But p H Hs∧∃k',Tk K Hs p k'∧k'≤k+4) (λkk=>?g2) ?k2
 case g2 =>
  refine ite2 (λc=>?_) (λc=>?_)
  ·have c':=of_decide_eq_true c;refine⟨_,rfl,_,rfl,p,k+1+1+1,4,rfl,T5,by omega,by decide,λt0 H6 t1 t2 B6 T6=>?_⟩;have N6:=N0.but TT (B05.trans B6);obtain⟨u,hu,hmu⟩:=zzr (ss:=ns) t1 (by rw[N0.len];exact t2);refine⟨nl,_,_,_,rfl,rfl,SqL.of N6.at_,hu,?_⟩;obtain⟨v4,hv4⟩:∃v,v=V.str u:=⟨_,rfl⟩;rw[← hv4];exact kk v4 H6 ⟨.inl ⟨u,hv4,N0.ok u hmu,c'⟩,B05.trans B6,_,T6,by omega⟩
  ·exact kk (.int z) H5 ⟨.inr ⟨z,rfl,z0,λy=>c (decide_eq_true y)⟩,B05,_,T5,by omega⟩
 case k2 =>
 rintro v Hs ⟨am,Bs,k',Ts,hk'⟩;refine⟨_,rfl,rfl,_,rfl,?_⟩;refine' zsn (pre:=λv' Hs'=>Hs'=Hs∧AmV kd v') (λkk=>?g3) ?k3
 case g3 =>
  refine ite2 (λc=>?a) (λc=>?b)
  case b =>
   obtain⟨v4,hv4⟩:∃x,x=v:=⟨_,rfl⟩;obtain⟨Hz,hz⟩:∃h,h=Hs:=⟨_,rfl⟩;rw[← hv4,← hz];exact kk v4 Hz ⟨hz,by rw[hv4];exact am⟩
  case a =>
   have c':=of_decide_eq_true c;injection c' with c'
   exact kk (.int 0) Hs ⟨rfl,.inr ⟨0,rfl,ycp _,by rw[c'];exact zzqb⟩⟩
 case k3 =>
 rintro av _ ⟨rfl,am'⟩;have ecs:=Bs _ _ ncp ec;refine⟨_,rfl,_,rfl,_,rfl,_,rfl,cl,_,rfl,.inl (SqL.of ecs),p,k',(us.length:Int),rfl,Ts,by omega,by omega,λt0 H6 t1 t2 B6 T6=>?_⟩;obtain⟨v',hv,hmv⟩:=zon (xs:=us) t1 t2;have B06:=Bs.trans B6;obtain⟨c,hc,cd⟩:=CD.mem hmv;obtain⟨a',tl,tm,vs,rfl,ea,_⟩:=cd;have ea6:=(Kp.but TT B06).t ea;refine⟨cl,_,_,_,rfl,rfl,SqL.of (B06 _ _ ncp ec),hv,a',_,_,_,rfl,rfl,SqT.of ea6,zia (j:=0) rfl,_,rfl,sz3,λa ha=>?_⟩;refine laid ha λH7 S7 e7=>?_;exact q a kd c.num av _ H7 (B06.trans (But.same S7)) (T6.same S7) (by omega) e7 hm (.inr ⟨np,c,hc,rfl⟩) am'
def hitR (row:Option Row)(kd:Str)(th:Int)(c:C20):Rule->Bool
 | .instead k y _ _=>decide (k=kd)&&zjf row c.num c.keeper th y
 | _=>false
def plc (f:Rule->Bool)(rs:List Rule)(k:Nat):List Nat:=(ypd k).filter λi=>(rs[i]?.map f).getD false
theorem zqbb {f:Rule->Bool}{rs:List Rule}{k:Nat}{r:Rule}(h:rs[k]?=some r):plc f rs (k+1)=plc f rs k++(if f r=true then [k] else []):=by
 unfold plc;rw[List.range_succ,ymc]
 congr 1
 by_cases e:f r=true
 ·rw[if_pos e,yzb (by rw[h];exact e)];rfl
 ·rw[if_neg e,yac (by rw[h];exact e)];rfl
theorem zow (f:Rule->Bool)(rs:List Rule)(k:Nat):(plc f rs k).Nodup:=List.nodup_range.filter _
theorem zdj (f:Rule->Bool)(rs:List Rule)(k:Nat):(plc f rs k).length≤k:=by
 have:=yqb (λi=>(rs[i]?.map f).getD false) (ypd k);rw[yrg] at this;exact this
def mnt (c:C20)(i:Nat):List Int:=[c.came,(i:Int),c.num,c.keeper]
def dut (c:C20)(i:Nat):List Int:=[c.came,c.num,(i:Int)]
def usd (used:List (List Int))(c:C20)(i:Nat):Bool:=!decide ([c.num,(i:Int)]∈used)
def zui (row:Option Row)(kd:Str)(th:Int)(c:C20):List (List Int):=(plc (hitR row kd th c) c.rules c.rules.length).map (mnt c)
def dueC (row:Option Row)(kd:Str)(th:Int)(used:List (List Int))(c:C20):List (List Int):=((plc (hitR row kd th c) c.rules c.rules.length).filter (usd used c)).map (dut c)
def unm (m:List Int):List Int:=[m.getD 2 0,m.getD 1 0]
def trm (m:List Int):List Int:=[m.getD 0 0,m.getD 2 0,m.getD 1 0]
theorem zcqb (row:Option Row)(kd:Str)(th:Int)(used:List (List Int))(cs:List C20):((cs.flatMap (zui row kd th)).filter λm=>!decide (unm m∈used)).map trm=cs.flatMap (dueC row kd th used):=by
 induction cs with
 | nil=>rfl
 | cons c r ih =>
  rw[ysg,ysg,ymc,yib,ih]
  congr 1
  unfold zui dueC;rw[List.filter_map,yqf];rfl
theorem zpe {α:Type}{f:C20->List α}{cs:List C20}{m:Nat}(h:∀c∈cs,(f c).length≤m):(cs.flatMap f).length≤m*cs.length:=by
 induction cs with
 | nil=>exact ylb _
 | cons c r ih =>
  rw[ysg,yea,yga,Nat.mul_succ];have:=h c yia;have:=ih λz hz=>h z (yna _ hz);omega
theorem zenb {cs:List C20}(nd:(cs.map (·.came)).Nodup){c d:C20}(hc:c∈cs)(hd:d∈cs)(e:c.came=d.came):c=d:=by
 induction cs with
 | nil=>cases hc
 | cons x r ih =>
  rw[yva,yle] at nd
  rcases yha.mp hc with h|h<;>rcases yha.mp hd with g|g
  ·rw[h,g]
  ·exact absurd (ybb.mpr ⟨d,g,by rw[← e,h]⟩) nd.1
  ·exact absurd (ybb.mpr ⟨c,h,by rw[e,g]⟩) nd.1
  ·exact ih nd.2 h g
theorem znr {row:Option Row}{kd:Str}{th:Int}{cs:List C20}{m:List Int}(h:m∈cs.flatMap (zui row kd th)):∃c∈cs,∃i:Nat,m=mnt c i:=by
 obtain⟨c,hc,hm⟩:=yhi.mp h;obtain⟨i,_,e⟩:=ybb.mp hm;exact⟨c,hc,i,e.symm⟩
theorem zqt {cs:List C20}(f:C20->Nat->List Int)(g:C20->List Nat)(nd:(cs.map (·.came)).Nodup)(gn:∀c,(g c).Nodup)(inj:∀c i d j,f c i=f d j->c.came=d.came∧i=j):(cs.flatMap λc=>(g c).map (f c)).Nodup:=by
 refine List.pairwise_flatMap.mpr ⟨λc _=>?_,?_⟩
 ·exact yrk.mpr ((gn c).imp λ{a b} n z=>n (inj _ _ _ _ z).2)
 ·refine List.Pairwise.imp ?_ (yrk.mp nd);intro a b n x hx y hy z;obtain⟨i,_,rfl⟩:=ybb.mp hx;obtain⟨j,_,rfl⟩:=ybb.mp hy;exact n (inj _ _ _ _ z).1
theorem znz {row:Option Row}{kd:Str}{th:Int}{cs:List C20}(nd:(cs.map (·.came)).Nodup):(cs.flatMap (zui row kd th)).Nodup:=zqt mnt (λc=>plc (hitR row kd th c) c.rules c.rules.length) nd (λc=>zow _ _ _) λc i d j e=>by
 unfold mnt at e;injection e with e1 e
 injection e with e2 e
 exact⟨e1,by omega⟩
theorem zrgb {row:Option Row}{kd:Str}{th:Int}{used:List (List Int)}{cs:List C20}(nd:(cs.map (·.came)).Nodup):(cs.flatMap (dueC row kd th used)).Nodup:=zqt dut (λc=>(plc (hitR row kd th c) c.rules c.rules.length).filter (usd used c)) nd (λc=>(zow _ _ _).filter _) λc i d j e=>by
 unfold dut at e;injection e with e1 e
 injection e with e2 e
 injection e with e3 e
 exact⟨e1,by omega⟩
theorem ztdb {row:Option Row}{kd:Str}{th:Int}{used:List (List Int)}{cs:List C20}(nd:(cs.map (·.came)).Nodup){ms:List (List Int)}(hp:ms.Perm (cs.flatMap (zui row kd th)))(so:ms.Pairwise (· < ·)):((ms.filter λm=>!decide (unm m∈used)).map trm).Pairwise (· < ·):=by
 refine yrk.mpr ?_;refine (so.filter _).imp_of_mem ?_;intro a b ha hb lt;obtain⟨c,hc,i,rfl⟩:=znr (hp.mem_iff.mp (yqi.mp ha).1);obtain⟨d,hd,j,rfl⟩:=znr (hp.mem_iff.mp (yqi.mp hb).1);show [c.came,c.num,(i:Int)]<[d.came,d.num,(j:Int)]
 unfold mnt at lt;rw[yyc] at lt
 rcases lt with lt|⟨e,lt⟩
 ·exact yyc.mpr (.inl lt)
 ·have ec:=zenb nd hc hd e;subst ec;rw[yyc] at lt
  rcases lt with lt|⟨_,lt⟩
  ·exact yyc.mpr (.inr ⟨rfl,yyc.mpr (.inr ⟨rfl,yyc.mpr (.inl lt)⟩)⟩)
  ·exact absurd lt (List.lt_irrefl _)
theorem zffb {cs:List C20}(nd:(cs.map (·.num)).Nodup){c:C20}(hc:c∈cs):rowOf (cs.map C20.row) c.num=some c.row:=by
 unfold rowOf
 induction cs with
 | nil=>cases hc
 | cons d r ih =>
  rw[yva,yle] at nd;rw[yva,List.find?_cons]
  rcases yha.mp hc with e|h
  ·rw[e];have:decide (d.row.num=d.num)=true:=decide_eq_true rfl;rw[this]
  ·have ne:¬ d.row.num=c.num:=λz=>nd.1 (ybb.mpr ⟨c,h,z.symm⟩);rw[decide_eq_false ne];exact ih nd.2 h
theorem zrib {cs:List C20}:(cs.map C20.row).map (·.num)=cs.map (·.num):=by rw[yqf];rfl
theorem CdT.rules {X:List Addr}{H:Hp}{us:List V}{cs:List C20}(h:All2 (CdT X H) us cs):∀c∈cs,∀r∈c.rules,r.ok:=λc hc r hr=>by
 obtain⟨v,_,a,tl,tm,vs,_,_,_,_,_,al⟩:=h.mem2 hc;obtain⟨u,_,z⟩:=al.mem2 hr;exact z.ok
def zdob:Sp:=λvs H Q _=>Ex5 λsl us rs (n:Int) (r:Row)=>vs=[.ref sl,.int n]∧H sl=some (.lst us)∧zjd H us rs∧rs.length≤16∧(rs.map (·.num)).Nodup∧rowOf rs n=some r∧∀H',Same H H'->Q (.int r.keeper) H'
theorem zrs (T:Tx K mg):FnOk P w K mg base CX0 2 T.zqd.f T.zqd.d znj zdob:=by
 refine T.zqd.ok zms ?_;rintro f c A o s H vs Q E hr ⟨sl,us,rs,n,r,rfl,es,R,h16,nd,hr',q⟩ X;have ul:=R.length;refine⟨_,  (zea (zua (znb zic (zqf (own:=["_law_row"]) (cap:=["_law_number"]) rfl (zkc.chk rfl rfl) (.cons (j:=1) rfl (.inl rfl) (.inl rfl) .nil) (zde (pv 0)) (λ_ _ _ _=>(zza (i:=0) (show ycd (["_law_row","_law_number"]:List Str) by decide +kernel) rfl (.inl rfl))) (λ_ _ _ _=>zpi (zoa zsc (znb (zkk K) (pv 0) zfa (λ_ _=>rfl)) (pv 1) (zya _))) (λ_ _ _ _=>by exact (znb (zkk K) (pv 0) zfa (λ_ _=>rfl)))) zfa (λ_ _=>rfl)))),?_⟩;refine⟨_,rfl,sl,rfl,⟨_,SqL.of es⟩,?_⟩;refine zoe (xs:=us) (λi ys H'=>H'=H∧i≤us.length∧ys=((rs.take i).filter λr=>decide (V.int r.num=V.int n)).map λr=>V.int r.keeper) (λi ys H' z=>by rw[z.1];exact SqL.of es) ⟨rfl,ylb _,rfl⟩ ?_ ?_ ?_
 ·rintro i ys H' ⟨_,hi,rfl⟩;rw[yda];have l2:=yqb (λr:Row=>decide (V.int r.num=V.int n)) (rs.take i);rw[ydb] at l2;exact small (by omega)
 ·rintro i u ys H' hu ⟨rfl,_,rfl⟩;have hi:i<us.length:=(yla.mp hu).1;obtain⟨r2,er,ra⟩:=R.get hu;obtain⟨a,m,rfl,h1,h2⟩:=id ra;refine⟨rfl,_,rfl,a,_,_,_,rfl,rfl,SqT.of h1,zia (j:=0) rfl,_,rfl,rfl,_,rfl,?_⟩;rw[ykb,er,ykc,ymc,yib];refine ite2 (λc=>?_) (λc=>?_)
  ·refine⟨_,rfl,a,_,_,_,rfl,rfl,SqT.of h1,zia (j:=1) rfl,rfl,hi,?_⟩;rw[yzb (p:=λr:Row=>decide (V.int r.num=V.int n)) c];rfl
  ·refine⟨rfl,hi,?_⟩;rw[yac (p:=λr:Row=>decide (V.int r.num=V.int n)) c,yfj,ypf,ysb]
 ·rintro ys H' ⟨rfl,_,rfl⟩ b hb;rw[ysa (by omega),znbb nd,hr'];refine laid hb λH2 S2 e2=>?_;exact⟨b,_,_,_,rfl,rfl,SqL.of e2,zia (j:=0) rfl,q H2 S2⟩
theorem zmpb (K:yba):ywb K (.type "int") (.type "bool")=some false:=by kernel_rfl
def zthb:Sp:=λvs H Q _=>Ex5 λl m us ws cs=>vs=[.ref l,.ref m]∧H l=some (.lst us)∧H m=some (.lst ws)∧All2 (ItT H) us cs∧All2 (ItT H) ws cs∧∀H',Same H H'->Q (.bl true) H'
theorem zgk (T:Tx K mg):FnOk P w K mg base CX0 2 T.zyc.f T.zyc.d zgm zthb:=by
 refine T.zyc.ok zyo ?_;rintro f c A o s H vs Q E hr ⟨l,m,us,ws,cs,rfl,el,em,A1,A2,q⟩ X;refine⟨_,  (zba (zxb (PW.pt (zaib (zrj (zih (zib zlh rfl T.zdd ylg (zaa (pv 0) (zaa (zyn (v:=.ty "list") rfl T.zeq ydp rfl) zca))))) (zpbb (zoa (ztbb hr.units) (pv 0) (pv 1) (zya _)))))
   (zea (zua zjr))
   zsa)
  (zba (zzh ygc rfl (zde (pv 0)) (zza (i:=2) zyo.nd rfl (.inl rfl))
   (zba (zxb (zrj (zih (zib zlh rfl T.zdd ylg (zaa (pv 2) (zaa (zyn (v:=.ty "tuple") rfl T.zxi ypk rfl) zca)))))
    (zea (zua zjr))
    zsa)
   (zea (zxb (zoa zos (zib zgb rfl T.zig ymb (zaa (zqf (own:=["_law_part"]) (cap:=[]) rfl (zkc.chk rfl rfl) .nil (zckb (pv 2)) (λ_ _ _ _=>(zza (i:=0) (show ycd (["_law_part"]:List Str) by decide +kernel) rfl (.inl rfl))) (λ_ _ _ _=>zpi (PW.pt (zaib (zrj (zih (zib (zrp K) rfl T.zdd ylg (zaa (pv 0) (zaa (zyn (v:=.ty "int") rfl T.zeeb boot_int rfl) zca))))) (zpbb (zih (zib (zrp K) rfl T.zdd ylg (zaa (pv 0) (zaa (zyn (v:=.ty "bool") rfl T.zebb boot_bool rfl) zca)))))))) (λ_ _ _ _=>by exact (pv 0))) zca)) zfa (zya _))
    (zea (zua zjr))
    zsa))))
  (zea (zua zjr)))),?_⟩
 refine⟨_,rfl,_,_,_,true,rfl,TyOf.lst el,.inl ⟨"list",rfl,rfl⟩,_,rfl,iteF ?_⟩;refine⟨_,rfl,_,rfl,_,_,.lst (SqL.of el) (zmx A1),.lst (SqL.of em) (zmx A2),zyf cs,zyf cs,_,rfl,?_⟩;rw[eqv_refl];refine iteF ?_;refine⟨_,rfl,l,rfl,⟨_,SqL.of el⟩,?_⟩;refine zij (xs:=us) (λi σ H'=>Same H H'∧∃o,σ=[some (.ref l),some (.ref m),o]) ⟨Same.refl _,_,rfl⟩ (λi σ H' _ z=>SqL.of (z.1 _ _ el)) ?_ ?_
 ·rintro i u σ H' hu ⟨S,o,rfl⟩;obtain⟨c,_,a,rfl,ea0⟩:=A1.get hu;have ea:=S _ _ ea0;refine⟨_,rfl,_,_,_,true,rfl,TyOf.tup ea,.inl ⟨"tuple",rfl,rfl⟩,_,rfl,iteF ?_⟩;refine⟨_,rfl,a,rfl,⟨_,SqT.of ea⟩,?_⟩;refine zrjb (xs:=c.map V.int) (λi ys Hx=>Hx=H'∧ys=[]) (λi ys Hx z=>by rw[z.1];exact SqT.of ea) ⟨rfl,rfl⟩ (λi ys Hx z=>by rw[z.2];exact ylb _) ?_ ?_
  ·rintro j x ys Hx hx ⟨rfl,rfl⟩;obtain⟨z,_,rfl⟩:=ybb.mp (yob hx);exact⟨rfl,_,rfl,_,_,_,true,rfl,TyOf.int _,.inl ⟨"int",rfl,rfl⟩,_,rfl,iteF ⟨_,rfl,_,_,_,false,rfl,TyOf.int _,.inl ⟨"bool",rfl,zmpb _⟩,_,rfl,iteF ⟨rfl,rfl⟩⟩⟩
  ·rintro ys Hx ⟨rfl,rfl⟩ b hb;refine laid hb λH2 S2 e2=>?_;exact⟨b,_,rfl,.inl (SqL.of e2),_,_,rfl,rfl,_,rfl,iteF ⟨S.trans S2,_,rfl⟩⟩
 ·rintro σ H' ⟨S,o,rfl⟩;exact q H' S
def zflb:Sp:=λvs H Q _=>Ex13 λcl sl ha ul (X:List Addr) us ss uu (cs:List C20) (kd:Str) (th:Int) av used=>vs=[.ref cl,.ref sl,.ref ha,.ref ul]∧H cl=some (.lst us)∧All2 (CdT X H) us cs∧C20s cs∧H sl=some (.lst ss)∧zjd H ss (cs.map C20.row)∧H ha=some (.tup [.str kd,.int th,av])∧H ul=some (.lst uu)∧All2 (ItT H) uu used∧∀l out ms H',Same H H'->H l=none->H' l=some (.lst out)->All2 (ItT H') out ms->ms.Perm (cs.flatMap (dueC (rowOf (cs.map C20.row) th) kd th used))->ms.Pairwise (· < ·)->Q (.ref l) H'
theorem zao (T:Tx K mg):FnOk P w K mg base CX0 12 T.zrc.f T.zrc.d zxg zflb:=by
 refine T.zrc.ok zwb ?_;rintro f c A o s H vs Q E hr ⟨cl,sl,ha,ul,Y,us,ss,uu,cs,kd,th,av,used,rfl,ec,CD,CS,es,RW,eh,eu,US,q⟩ X;refine⟨_,  (zba (zqa (i:=4) zwb.nd rfl (.inl rfl) (zcd zca))
  (zba (zzh ygc rfl (zde (pv 0)) (zjp (n:=4) rfl (zob (zza (i:=5) zwb.nd rfl (.inl rfl)) (zob (zza (i:=6) zwb.nd rfl (.inl rfl)) (zob (zza (i:=7) zwb.nd rfl (.inl rfl)) (zob (zza (i:=8) zwb.nd rfl (.inl rfl)) zej)))))
   (zba (zqa (i:=9) zwb.nd rfl (.inl rfl) (zja (zrs T).up hr rfl T.zqd.m T.zqd.F.kp (zmv T) .nil zta (zaa (pv 1) (zaa (pv 5) zca))))
   (zea (zzh ygc rfl (zjh rfl T.zni (zaa (zib zgb rfl T.zig ymb (zaa (pv 6) zca)) zca)) (zza (i:=10) zwb.nd rfl (.inl rfl))
    (zba (zqa (i:=11) zwb.nd rfl (.inl rfl) (znb zic (pv 6) (pv 10) (λ_ _=>rfl)))
    (zea (zxb (PW.pt (zct (zoa zsc (znb zlc (pv 11) zfa (λ_ _=>rfl)) zma (zya _)) (zct (zoa zsc (znb zlc (pv 11) zfa (λ_ _=>rfl)) (znb zlc (pv 2) zfa (λ_ _=>rfl)) (zya _)) (zeu (zoa (zrw hr.units) (zub (zaa (pv 5) (zaa (pv 10) zca))) (pv 3) rfl)))))
     (zea (zxb (zih (zja (zgx T 9) hr rfl T.zrb.m T.zrb.F.kp (ztl T) .nil zta (zaa (znb zlc (pv 11) zfa (λ_ _=>rfl)) (zaa (pv 1) (zaa (pv 5) (zaa (pv 9) (zaa (znb zlc (pv 2) zfa (λ_ _=>rfl)) zca)))))))
      (zea (zkd (zrh ycb yfb ygb zfd (pv 4) (zaa (zub (zaa (pv 7) (zaa (pv 5) (zaa (pv 10) zca)))) zca))))
      zsa))
     zsa)))))))
  (zea (zua (zib zsj rfl T.zyi ywm (zaa (pv 4) zca)))))),?_⟩
 have ucl:=CD.len;have c6:=CS.hi;refine⟨sz0,λfl hfl=>?_⟩;refine laid hfl λH1 S1 e1=>?_;generalize hrow:rowOf (cs.map C20.row) th=row at q;have R6:(cs.map C20.row).length≤16:=by rw[yda];omega
 have Rnd:((cs.map C20.row).map (·.num)).Nodup:=by rw[zrib];exact CS.num
 have R0:∀r∈cs.map C20.row,0≤r.num:=λr hr=>by
  obtain⟨c,hc,rfl⟩:=ybb.mp hr;exact CS.n0 c hc
 refine⟨_,rfl,cl,rfl,⟨_,SqL.of (S1 _ _ ec)⟩,?_⟩;refine zij (xs:=us) (λi σ H'=>Ex8 λws o5 o6 o7 o8 o9 o10 o11=>σ=[some (.ref cl),some (.ref sl),some (.ref ha),some (.ref ul),some (.ref fl),o5,o6,o7,o8,o9,o10,o11]∧H' fl=some (.lst ws)∧All2 (ItT H') ws ((cs.take i).flatMap (dueC row kd th used))∧Same H H') ⟨[],_,_,_,_,_,_,_,rfl,e1,.nil,S1⟩ (λi σ H' _ ⟨_,_,_,_,_,_,_,_,_,_,_,S⟩=>SqL.of (S _ _ ec)) ?_ ?_
 ·rintro i u σ H' hu ⟨ws,o5,o6,o7,o8,o9,o10,o11,rfl,ef,AL,S⟩;obtain⟨c,eci,cd⟩:=CD.get hu;have hc:=yob eci;have hi:i<us.length:=(yla.mp hu).1;have few:=CS.few c hc;have tl6:((cs.take i).flatMap (dueC row kd th used)).length≤3*(cs.take i).length:=zpe λd hd=>by
   have f:=CS.few d (yji hd);have a:=yqb (usd used d) (plc (hitR row kd th d) d.rules d.rules.length);have b:=zdj (hitR row kd th d) d.rules d.rules.length;show (ybi _ _).length≤3
   rw[yda];omega
  rw[ydb] at tl6;obtain⟨a,tl,tm,vs,rfl,ea,em,et,_,R2⟩:=cd;have vl:=R2.len;refine⟨a,_,rfl,SqT.of (S _ _ ea),rfl,_,_,rfl,_,_,rfl,_,_,rfl,_,_,rfl,rfl,?_⟩;refine⟨_,rfl,_,rfl,sl,ss,cs.map C20.row,c.num,c.row,rfl,S _ _ es,RW.map λ_ _ z=>z.same S,R6,Rnd,zffb CS.num hc,λH2 S2=>?_⟩;have S02:=S.trans S2;refine⟨_,rfl,tl,_,rfl,.inl (SqL.of (S02 _ _ et)),_,rfl,by omega,by omega,?_⟩;rw[ysc];refine zkn (lo:=0) (n:=vs.length) (λj σ Hx=>Ex3 λws o10 o11=>σ=[some (.ref cl),some (.ref sl),some (.ref ha),some (.ref ul),some (.ref fl),some (.int c.num),some (.ref tl),some (.int c.came),some (.ref tm),some (.int c.keeper),o10,o11]∧Hx fl=some (.lst ws)∧All2 (ItT Hx) ws ((cs.take i).flatMap (dueC row kd th used)++((plc (hitR row kd th c) c.rules j).filter (usd used c)).map (dut c))∧Same H Hx) ⟨ws,_,_,rfl,S2 _ _ ef,by
   show All2 _ _ (_++[])
   rw[ysb];exact AL.imp λz=>z.kp (Kp.same S2),S02⟩ ?_ ?_
  ·rintro j σ Hx hj ⟨ws2,o10,o11,rfl,ef2,AL2,Sx⟩;obtain⟨r,ejr,r20⟩:=R2.get (ywa hj);have wl:=AL2.len;have few2:=zdj (hitR row kd th c) c.rules j;have few3:=yqb (usd used c) (plc (hitR row kd th c) c.rules j);rw[yea,yda] at wl;have ej:atI vs (j:Int)=some vs[j]:=zia (ywa hj);rw[Int.zero_add];generalize vs[j]=v at ej r20;refine⟨_,rfl,_,rfl,tl,_,_,_,rfl,rfl,SqL.of (Sx _ _ et),ej,?_⟩;have ehx:=Sx _ _ eh;rw[zqbb ejr,ymc,yib];have stay:∀{Hy:Hp} {f:Bool},f=false->All2 (ItT Hy) ws2 ((cs.take i).flatMap (dueC row kd th used)++((plc (hitR row kd th c) c.rules j).filter (usd used c)).map (dut c))->All2 (ItT Hy) ws2 ((cs.take i).flatMap (dueC row kd th used)++(((plc (hitR row kd th c) c.rules j).filter (usd used c)).map (dut c)++ybi (dut c) (yep (usd used c) (if f=true then [j] else [])))):=λe z=>by
    rw[e];show All2 _ _ (_++(_++[]))
    rw[ysb];exact z
   cases r20 with
   | @may b y h ok y9 =>
    refine⟨_,rfl,b,_,_,_,rfl,rfl,SqT.of (Sx _ _ h),zia (j:=0) rfl,rfl,_,rfl,iteF (iteF ?_)⟩;exact⟨ws2,_,_,rfl,ef2,stay rfl AL2,Sx⟩
   | @ins b k wd x y z h wt ok y9 hd hw hz =>
    have hx:=Sx _ _ h;refine⟨_,rfl,b,_,_,_,rfl,rfl,SqT.of hx,zia (j:=0) rfl,rfl,_,rfl,iteT ?_⟩;refine⟨_,rfl,b,_,_,_,rfl,rfl,SqT.of hx,zia (j:=1) rfl,_,rfl,ha,_,_,_,rfl,rfl,SqT.of ehx,zia (j:=0) rfl,rfl,_,rfl,?_⟩;refine ite2 (λc1=>?_) (λc1=>?_)
    ·have ek:k=kd:=by
      have:=of_decide_eq_true c1;injection this
     refine⟨_,rfl,_,rfl,sz2,λt ht=>?_⟩;refine laid ht λHy Sy ey=>?_;have Sxy:=Sx.trans Sy;refine⟨_,rfl,chD [c.num,(j:Int)],used.map chD,zdgb ⟨t,rfl,ey⟩,.lst (SqL.of (Sxy _ _ eu)) (zmx (US.imp λz=>z.kp (Kp.same Sxy))),znn _,zyf _,zxx _,_,rfl,?_⟩;rw[zqkb];have stayU:∀{Hy:Hp} {f:Bool},¬ usd used c j=true->All2 (ItT Hy) ws2 ((cs.take i).flatMap (dueC row kd th used)++((plc (hitR row kd th c) c.rules j).filter (usd used c)).map (dut c))->All2 (ItT Hy) ws2 ((cs.take i).flatMap (dueC row kd th used)++(((plc (hitR row kd th c) c.rules j).filter (usd used c)).map (dut c)++ybi (dut c) (yep (usd used c) (if f=true then [j] else [])))):=λ{Hy f} e z=>by
      have e2:yep (usd used c) (if f=true then [j] else [])=[]:=by
       split
       ·rw[yac e];rfl
       ·rfl
      rw[e2];show All2 _ _ (_++(_++[]))
      rw[ysb];exact z
     refine ite2 (λc2=>?_) (λc2=>?_)
     ·have hy:=Sy _ _ hx;refine⟨_,rfl,b,_,_,_,rfl,rfl,SqT.of hy,zia (j:=2) rfl,_,rfl,_,rfl,_,rfl,_,rfl,ha,_,_,_,rfl,rfl,SqT.of (Sy _ _ ehx),zia (j:=1) rfl,x,sl,ss,cs.map C20.row,c.num,c.keeper,th,y,rfl,wt.same Sxy,ypa (zsgb y) y9,Sxy _ _ es,RW.map λ_ _ z=>z.same Sxy,Rnd,R6,CS.k0 c hc,R0,λHz Sz=>?_⟩;rw[hrow];have Sxz:=Sxy.trans Sz;have kz:Kp Hx Hz:=Kp.same (Sy.trans Sz);refine⟨_,rfl,ite2 (λc3=>?_) (λc3=>?_)⟩
      ·have efz:=(Sy.trans Sz) _ _ ef2;refine⟨_,rfl,.inl ⟨rfl,_,SqL.of efz⟩,_,rfl,_,rfl,_,rfl,sz3,λn hn=>?_⟩;refine laid hn λHw Sw ew=>?_;have efw:=Sw _ _ efz;refine⟨fl,_,_,rfl,rfl,efw,zpc (by omega),?_⟩;have kp:Kp Hw (upd Hw fl (.lst (ws2++[V.ref n]))):=Kp.put efw;refine⟨_,_,_,rfl,zga,?_,zdg (Sxz.trans Sw) hfl _⟩;have eh2:hitR row kd th c (.instead k y wd z)=true:=by
        show (decide (k=kd)&&_)=true
        rw[decide_eq_true ek,yud];exact c3
       rw[if_pos eh2,yzb (by exact c2),← yrd];exact All2.snoc (b:=dut c j) (ItT.kp kp ⟨n,rfl,ew⟩) (AL2.imp λz=>z.kp (kz.trans ((Kp.same Sw).trans kp)))
      ·exact⟨ws2,_,_,rfl,(Sy.trans Sz) _ _ ef2,stay (by show (_&&_)=false;rw[yjd.mpr c3,yxg]) (AL2.imp λz=>z.kp kz),Sxz⟩
     ·exact⟨ws2,_,_,rfl,Sy _ _ ef2,stayU c2 (AL2.imp λz=>z.kp (Kp.same Sy)),Sxy⟩
    ·refine iteF ?_;have ek:¬ k=kd:=λz=>c1 (decide_eq_true (by rw[z]));exact⟨ws2,_,_,rfl,ef2,stay (by show (decide (k=kd)&&_)=false;rw[decide_eq_false ek,yed]) AL2,Sx⟩
  ·rintro σ Hx ⟨ws2,o10,o11,rfl,ef2,AL2,Sx⟩;refine⟨ws2,_,_,_,_,_,_,_,rfl,ef2,?_,Sx⟩;rw[vl] at AL2;rw[ykb,eci,yxm];show All2 _ _ (_++(dueC row kd th used c++[]))
   rw[ysb];exact AL2
 ·rintro σ H' ⟨ws,o5,o6,o7,o8,o9,o10,o11,rfl,ef,AL,S⟩;rw[ysa (by omega)] at AL;have wl:=AL.len;have tl6:(cs.flatMap (dueC row kd th used)).length≤3*cs.length:=zpe λd hd=>by
   have f:=CS.few d hd;have a:=yqb (usd used d) (plc (hitR row kd th d) d.rules d.rules.length);have b:=zdj (hitR row kd th d) d.rules d.rules.length;show (ybi _ _).length≤3
   rw[yda];omega
  refine⟨_,rfl,fl,ws,chG H',3,rfl,SqL.of ef,by omega,by decide,λu hu=>?_,?_,λp out hp po so=>?_⟩
  ·obtain⟨m,hm,it⟩:=AL.mem hu;have ek:=it.key;obtain⟨a,rfl,e⟩:=it;obtain⟨c,_,hm⟩:=yhi.mp hm;obtain⟨i,_,rfl⟩:=ybb.mp hm;exact⟨a,dut c i,[],rfl,by rw[ysb];exact SqT.of e,ek,rfl⟩
  ·rw[zuu AL];exact zrgb CS.came
  ·obtain⟨ms,h1,h2⟩:=AL.perm po;rw[zuu h1] at so;refine laid hp λH4 S4 e4=>?_;exact q p out ms H4 (S.trans S4) (none_of S hp) e4 (h1.imp λz=>z.kp (Kp.same S4)) h2 so
theorem zwdb (n:Str)(c f:Nat)(m t:Addr):(cfs n c f m t).lookup ("rules":Str)=some (.ref t):=(zld (by decide +kernel)).trans ((zld (by decide +kernel)).trans ((zld (by decide +kernel)).trans ((zld (by decide +kernel)).trans zal)))
structure Lk (B D:Addr)(nm:Str)(H:Hp)(ll:Addr)(ws:List V)(cs ds:List C20):Prop where
 at_:H ll=some (.lst ws)
 al:All2 (LyT B D nm H) ws ds
 perm:ds.Perm cs
def zveb (B D:Addr):Sp:=λvs H Q _=>Ex11 λll sl ha (nm:Str) ws ss (cs ds:List C20) (kd:Str) (th:Int) av=>vs=[.ref ll,.ref sl,.str "instead",.ref ha]∧Lk B D nm H ll ws cs ds∧C20s cs∧(∀c∈cs,∀r∈c.rules,r.ok)∧H sl=some (.lst ss)∧zjd H ss (cs.map C20.row)∧H ha=some (.tup [.str kd,.int th,av])∧∀l out ms H',Same H H'->H l=none->H' l=some (.lst out)->All2 (ItT H') out ms->ms.Perm (ds.flatMap (zui (rowOf (cs.map C20.row) th) kd th))->ms.Pairwise (· < ·)->Q (.ref l) H'
def zqhb (B D:Addr):Sp:=λvs H Q _=>Ex14 λll sl ha ul (nm:Str) ws ss uu (cs ds:List C20) (kd:Str) (th:Int) av used=>vs=[.ref ll,.ref sl,.ref ha,.ref ul]∧Lk B D nm H ll ws cs ds∧C20s cs∧(∀c∈cs,∀r∈c.rules,r.ok)∧H sl=some (.lst ss)∧zjd H ss (cs.map C20.row)∧H ha=some (.tup [.str kd,.int th,av])∧H ul=some (.lst uu)∧All2 (ItT H) uu used∧∀l out ms H',Same H H'->H l=none->H' l=some (.lst out)->All2 (ItT H') out ms->ms.Perm (cs.flatMap (dueC (rowOf (cs.map C20.row) th) kd th used))->ms.Pairwise (· < ·)->Q (.ref l) H'
theorem zqs (T:Tx K mg):FnOk P w K mg base CX0 22 T.zpd.f T.zpd.d zmj (zveb T.zqg T.ztb):=by
 refine T.zpd.ok zqb ?_;rintro f c A o s H vs Q E hr ⟨ll,sl,ha,nm,us,ss,cs,ds,kd,th,av,rfl,LK,CS,ROK,es,RW,eh,q⟩ X;refine⟨_,  (zba (zkfb (pv 3) (zjp (n:=3) rfl (zob (zza (i:=4) zqb.nd rfl (.inl rfl)) (zob (zza (i:=5) zqb.nd rfl (.inl rfl)) (zob (zza (i:=6) zqb.nd rfl (.inl rfl)) zej)))))
  (zba (zqa (i:=7) zqb.nd rfl (.inl rfl) (zcd zca))
  (zba (zzh ygc rfl (zde (pv 0)) (zjp (n:=5) rfl (zob (zza (i:=8) zqb.nd rfl (.inl rfl)) (zob (zza (i:=9) zqb.nd rfl (.inl rfl)) (zob (zza (i:=10) zqb.nd rfl (.inl rfl)) (zob (zza (i:=11) zqb.nd rfl (.inl rfl)) (zob (zza (i:=12) zqb.nd rfl (.inl rfl)) zej))))))
   (zba (zqa (i:=13) zqb.nd rfl (.inl rfl) (znb zlc (zja (zvw T).up hr rfl T.zbh.m T.zbh.F.kp (zncb T) .nil zta (zaa (pv 1) (zaa (pv 8) zca))) zfa (λ_ _=>rfl)))
   (zea (zzh ygc rfl (ziib rfl T.zzi (zaa (zff (pv 9) rfl) zca)) (zjp (n:=2) rfl (zob (zza (i:=14) zqb.nd rfl (.inl rfl)) (zob (zza (i:=15) zqb.nd rfl (.inl rfl)) zej)))
    (zea (zxb (PW.pt (zct (zoa zsc (znb zlc (pv 15) zfa (λ_ _=>rfl)) (pv 2) (zya _)) (zct (zoa zsc (znb zlc (pv 15) zfa (λ_ _=>rfl)) (pv 4) (zya _)) (zeu (zih (zee (znb zlc (pv 15) zfa (λ_ _=>rfl)) T.zjb T.zye.M (zdmb T) hr (zgab T) .nil zta (zaa (pv 1) (zaa (pv 8) (zaa (pv 13) (zaa (pv 5) zca))))))))))
     (zea (zkd (zrh ycb yfb ygb zfd (pv 7) (zaa (zub (zaa (pv 11) (zaa (pv 14) (zaa (pv 8) (zaa (pv 13) zca))))) zca))))
     zsa))))))
  (zea (zua (zib zsj rfl T.zyi ywm (zaa (pv 7) zca))))))),?_⟩
 have el:=LK.at_;have ul:=LK.al.len;have dl:=LK.perm.length_eq;have c6:=CS.hi;have memc:∀c∈ds,c∈cs:=λc hc=>LK.perm.mem_iff.mp hc;generalize hrow:rowOf (cs.map C20.row) th=row at q;refine⟨_,rfl,ha,_,rfl,SqT.of eh,rfl,_,_,rfl,_,_,rfl,_,_,rfl,rfl,?_⟩;refine⟨sz0,λfl hfl=>?_⟩;refine laid hfl λH1 S1 e1=>?_;refine⟨_,rfl,ll,rfl,⟨_,SqL.of (S1 _ _ el)⟩,?_⟩;refine zij (xs:=us) (λi σ H'=>Ex9 λws o8 o9 o10 o11 o12 o13 o14 o15=>σ=[some (.ref ll),some (.ref sl),some (.str "instead"),some (.ref ha),some (.str kd),some (.int th),some av,some (.ref fl),o8,o9,o10,o11,o12,o13,o14,o15]∧H' fl=some (.lst ws)∧All2 (ItT H') ws ((ds.take i).flatMap (zui row kd th))∧Same H H') ⟨[],_,_,_,_,_,_,_,_,rfl,e1,.nil,S1⟩ (λi σ H' _ ⟨_,_,_,_,_,_,_,_,_,_,_,_,S⟩=>SqL.of (S _ _ el)) ?_ ?_
 ·rintro i u σ H' hu ⟨ws,o8,o9,o10,o11,o12,o13,o14,o15,rfl,ef,AL,S⟩;obtain⟨c,eci,ly⟩:=LK.al.get hu;have hc:=memc c (yob eci);have hi:i<us.length:=(yla.mp hu).1;have few:=CS.few c hc;have tl6:((ds.take i).flatMap (zui row kd th)).length≤3*(ds.take i).length:=zpe λd hd=>by
   have f:=CS.few d (memc d (yji hd));have b:=zdj (hitR row kd th d) d.rules d.rules.length;show (ybi _ _).length≤3
   rw[yda];omega
  rw[ydb] at tl6;obtain⟨a,tm,cv,rfl,ea,em,ca,dx,mm,tt,vs,rfl,hcd,hm,ht,IR⟩:=ly;have vl:vs.length=c.rules.length:=IR.length;refine⟨a,_,rfl,SqT.of (S _ _ ea),rfl,_,_,rfl,_,_,rfl,_,_,rfl,_,_,rfl,_,_,rfl,rfl,?_⟩;refine⟨_,rfl,_,rfl,sl,ss,cs.map C20.row,c.num,rfl,S _ _ es,RW.map λ_ _ z=>z.same S,λrv hrv=>?_⟩;rw[zffb CS.num hc] at hrv;obtain⟨ra,rm,rfl,hra,_⟩:=(show zfl H' rv c.row from hrv);refine⟨ra,_,_,_,rfl,rfl,SqT.of hra,zia (j:=1) rfl,?_⟩;refine⟨_,rfl,ca,_,dx,_,_,rfl,S _ _ hcd,T.zpl,T.zng,zwdb _ _ _ _ _,tt,vs,rfl,SqT.of (S _ _ ht),?_⟩;refine zmgb (xs:=vs) (λk σ Hx=>Ex3 λws o14 o15=>σ=[some (.ref ll),some (.ref sl),some (.str "instead"),some (.ref ha),some (.str kd),some (.int th),some av,some (.ref fl),some (.int c.num),some (.ref ca),some (.int (c.num % 4)),some (.int c.came),some (.ref tm),some (.int c.keeper),o14,o15]∧Hx fl=some (.lst ws)∧All2 (ItT Hx) ws ((ds.take i).flatMap (zui row kd th)++(plc (hitR row kd th c) c.rules k).map (mnt c))∧Same H Hx) ⟨ws,_,_,rfl,ef,by
   show All2 _ _ (_++[])
   rw[ysb];exact AL,S⟩ ?_ ?_ ?_
  ·rintro k σ Hx _ ⟨ws',o14,o15,rfl,_,_,Sx⟩;exact SqT.of (Sx _ _ ht)
  ·rintro k v σ H4 p hv ⟨ws4,o14,o15,rfl,ef4,AL4,S4⟩ hp;obtain⟨r,ekr,ir⟩:=IR.get hv;have ekr':c.rules[k]?=some r:=ekr;have k3:k<vs.length:=(yla.mp hv).1;refine laid hp λH5 S5 ep=>?_;refine⟨p,_,rfl,SqT.of ep,rfl,_,_,rfl,_,_,rfl,rfl,?_⟩;have S45:=S4.trans S5;have ef5:=S5 _ _ ef4;have AL5:All2 (ItT H5) ws4 _:=AL4.imp λz=>z.kp (Kp.same S5);have wl:=AL4.len;have few2:=zdj (hitR row kd th c) c.rules k;rw[yea,yda] at wl;rw[zqbb ekr',yib];have stay:∀{f:Bool},f=false->All2 (ItT H5) ws4 ((ds.take i).flatMap (zui row kd th)++((plc (hitR row kd th c) c.rules k).map (mnt c)++ybi (mnt c) (if f=true then [k] else []))):=λe=>by
    rw[e];show All2 _ _ (_++(_++[]))
    rw[ysb];exact AL5
   have ok:=ROK c hc r (yob ekr');cases r with
   | hold wd hv' y =>
    obtain⟨b,x',u',rfl,eb,_⟩:=ir;refine⟨_,rfl,b,_,_,_,rfl,rfl,SqT.of (S45 _ _ eb),zia (j:=0) rfl,_,rfl,rfl,_,rfl,iteF (iteF ?_)⟩;exact⟨ws4,_,_,rfl,ef5,stay rfl,S45⟩
   | wen k' y d =>
    obtain⟨b,x',u',rfl,eb,_⟩:=ir;refine⟨_,rfl,b,_,_,_,rfl,rfl,SqT.of (S45 _ _ eb),zia (j:=0) rfl,_,rfl,rfl,_,rfl,iteF (iteF ?_)⟩;exact⟨ws4,_,_,rfl,ef5,stay rfl,S45⟩
   | may c' d =>
    obtain⟨b,u',rfl,eb,_⟩:=ir;refine⟨_,rfl,b,_,_,_,rfl,rfl,SqT.of (S45 _ _ eb),zia (j:=0) rfl,_,rfl,rfl,_,rfl,iteF (iteF ?_)⟩;exact⟨ws4,_,_,rfl,ef5,stay rfl,S45⟩
   | instead k' y wd z =>
    obtain⟨b,x',rfl,eb,IW⟩:=ir;have eb5:=S45 _ _ eb;refine⟨_,rfl,b,_,_,_,rfl,rfl,SqT.of eb5,zia (j:=0) rfl,_,rfl,rfl,_,rfl,iteT ?_⟩;refine⟨_,rfl,b,_,_,_,rfl,rfl,SqT.of eb5,zia (j:=1) rfl,_,rfl,rfl,_,rfl,?_⟩;refine ite2 (λc1=>?_) (λc1=>?_)
    ·have ek:k'=kd:=by
      have:=of_decide_eq_true c1;injection this
     have y9:y.size≤9:=ok.2.1.2;have IW5:=IW.same S45;obtain⟨wa,wdx,wt,rfl,w1⟩:Ex3 λwa wdx wt=>x' = .ref wa∧H5 wa=some (.ins T.ztb wdx (hfs y.word (valV y.val) wt)):=by
      cases IW5 with
      | mk w1 _ _=>exact⟨_,_,_,rfl,w1⟩
     refine⟨_,rfl,b,_,_,_,rfl,rfl,SqT.of eb5,zia (j:=2) rfl,wa,wdx,_,rfl,w1,zacb _ _ _ (by decide +kernel) (by decide +kernel) (by decide +kernel),_,rfl,_,rfl,_,rfl,_,rfl,_,sl,ss,cs.map C20.row,c.num,c.keeper,th,y,rfl,IW5,S45 _ _ es,RW.map λ_ _ z=>z.same S45,y9,?_⟩;rw[hrow];refine⟨_,rfl,ite2 (λc3=>?_) (λc3=>?_)⟩
     ·refine⟨_,rfl,.inl ⟨rfl,_,SqL.of ef5⟩,_,rfl,_,rfl,_,rfl,_,rfl,sz4,λn hn=>?_⟩;refine laid hn λHw Sw ew=>?_;have efw:=Sw _ _ ef5;refine⟨fl,_,_,rfl,rfl,efw,zpc (by omega),?_⟩;have kp:Kp Hw (upd Hw fl (.lst (ws4++[V.ref n]))):=Kp.put efw;refine⟨_,_,_,rfl,zga,?_,zdg (S45.trans Sw) hfl _⟩;have eh2:hitR row kd th c (.instead k' y wd z)=true:=by
       show (decide (k'=kd)&&_)=true
       rw[decide_eq_true ek,yud];exact c3
      rw[if_pos eh2,← yrd];exact All2.snoc (b:=mnt c k) (ItT.kp kp ⟨n,rfl,ew⟩) (AL5.imp λz=>z.kp ((Kp.same Sw).trans kp))
     ·exact⟨ws4,_,_,rfl,ef5,stay (by show (_&&_)=false;rw[yjd.mpr c3,yxg]),S45⟩
    ·refine iteF ?_;have ek:¬ k'=kd:=λz=>c1 (decide_eq_true (by rw[z]));exact⟨ws4,_,_,rfl,ef5,stay (by show (decide (k'=kd)&&_)=false;rw[decide_eq_false ek,yed]),S45⟩
  ·rintro σ Hx ⟨ws2,o14,o15,rfl,ef2,AL2,Sx⟩;refine⟨ws2,_,_,_,_,_,_,_,_,rfl,ef2,?_,Sx⟩;rw[vl] at AL2;rw[ykb,eci,yxm];show All2 _ _ (_++(zui row kd th c++[]))
   rw[ysb];exact AL2
 ·rintro σ H' ⟨ws,o8,o9,o10,o11,o12,o13,o14,o15,rfl,ef,AL,S⟩;rw[ysa (by omega)] at AL;have wl:=AL.len;have tl6:(ds.flatMap (zui row kd th)).length≤3*ds.length:=zpe λd hd=>by
   have f:=CS.few d (memc d hd);have b:=zdj (hitR row kd th d) d.rules d.rules.length;show (ybi _ _).length≤3
   rw[yda];omega
  refine⟨_,rfl,fl,ws,chG H',4,rfl,SqL.of ef,by omega,by decide,λu hu=>?_,?_,λp out hp po so=>?_⟩
  ·obtain⟨m,hm,it⟩:=AL.mem hu;have ek:=it.key;obtain⟨a,rfl,e⟩:=it;obtain⟨c,_,hm⟩:=yhi.mp hm;obtain⟨i,_,rfl⟩:=ybb.mp hm;exact⟨a,mnt c i,[],rfl,by rw[ysb];exact SqT.of e,ek,rfl⟩
  ·rw[zuu AL];exact znz ((LK.perm.map _).nodup_iff.mpr CS.came)
  ·obtain⟨ms,h1,h2⟩:=AL.perm po;rw[zuu h1] at so;refine laid hp λH4 S4 e4=>?_;exact q p out ms H4 (S.trans S4) (none_of S hp) e4 (h1.imp λz=>z.kp (Kp.same S4)) h2 so
theorem zfk (T:Tx K mg):FnOk P w K mg base CX0 23 T.zxc.f T.zxc.d zzl (zqhb T.zqg T.ztb):=by
 refine T.zxc.ok zwo ?_;rintro f c A o s H vs Q E hr ⟨ll,sl,ha,ul,nm,ws,ss,uu,cs,ds,kd,th,av,used,rfl,LK,CS,ROK,es,RW,eh,eu,US,q⟩ X;refine⟨_,  (zba (zqa (i:=4) zwo.nd rfl (.inl rfl) (zja (zqs T) hr rfl T.zpd.m T.zpd.F.kp (zlv T) .nil zta (zaa (pv 0) (zaa (pv 1) (zaa zma (zaa (pv 2) zca))))))
  (zea (zua (zqf (own:=["came","place","number","keeper"]) (cap:=["used"]) rfl (zkc.chk rfl rfl) (.cons (j:=3) rfl (.inl rfl) (.inl rfl) .nil) (zde (pv 4)) (λ_ _ _ _=>(zulb K (n:=4) rfl (zob (zza (i:=0) (show ycd (["came","place","number","keeper","used"]:List Str) by decide +kernel) rfl (.inl rfl)) (zob (zza (i:=1) (show ycd (["came","place","number","keeper","used"]:List Str) by decide +kernel) rfl (.inl rfl)) (zob (zza (i:=2) (show ycd (["came","place","number","keeper","used"]:List Str) by decide +kernel) rfl (.inl rfl)) (zob (zza (i:=3) (show ycd (["came","place","number","keeper","used"]:List Str) by decide +kernel) rfl (.inl rfl)) zej)))))) (λ_ _ _ _=>zpi (zoa (zidb K hr.units) (zub (zaa (pv 2) (zaa (pv 1) zca))) (pv 4) rfl)) (λ_ _ _ _=>by exact (zub (zaa (pv 0) (zaa (pv 2) (zaa (pv 1) zca))))))))),?_⟩
 refine⟨_,rfl,_,rfl,_,rfl,ll,sl,ha,nm,ws,ss,cs,ds,kd,th,av,rfl,LK,CS,ROK,es,RW,eh,λml out ms H1 S1 hml em AL pm so=>?_⟩;have dnd:(ds.map (·.came)).Nodup:=(LK.perm.map _).nodup_iff.mpr CS.came;have ol:=AL.len;have sz:ms.length≤18:=by
  have a:=pm.length_eq;have b:(ds.flatMap (zui (rowOf (cs.map C20.row) th) kd th)).length≤3*ds.length:=zpe λd hd=>by
   have f:=CS.few d (LK.perm.mem_iff.mp hd);have b:=zdj (hitR (rowOf (cs.map C20.row) th) kd th d) d.rules d.rules.length;show (ybi _ _).length≤3
   rw[yda];omega
  have c:=LK.perm.length_eq;have d:=CS.hi;omega
 refine⟨_,rfl,ml,rfl,⟨_,SqL.of em⟩,?_⟩;refine zoe (xs:=out) (λi ys H'=>Same H1 H'∧i≤out.length∧All2 (ItT H') ys (((ms.take i).filter λm=>!decide (unm m∈used)).map trm)) (λi ys H' z=>SqL.of (z.1 _ _ em)) ⟨Same.refl _,ylb _,.nil⟩ ?_ ?_ ?_
 ·rintro i ys H' ⟨_,hi,hy⟩;have:=hy.len;have l2:=yqb (λm:List Int=>!decide (unm m∈used)) (ms.take i);rw[yda] at this;rw[ydb] at l2;exact small (by omega)
 ·rintro i u ys H' hu ⟨S,_,hy⟩;have hi:i<out.length:=(yla.mp hu).1;obtain⟨m,em',it⟩:=AL.get hu;obtain⟨c,hc,j,rfl⟩:=znr (pm.mem_iff.mp (yob em'));obtain⟨a,rfl,ea⟩:=it.kp (Kp.same S);have S1':=S1.trans S;refine⟨a,_,rfl,SqT.of ea,rfl,_,_,rfl,_,_,rfl,_,_,rfl,_,_,rfl,rfl,rfl,?_⟩;refine⟨_,rfl,_,rfl,sz2,λt ht=>?_⟩;refine laid ht λH2 S2 e2=>?_;have S12:=S1'.trans S2;refine⟨_,rfl,chD (unm (mnt c j)),used.map chD,zdgb ⟨t,rfl,e2⟩,.lst (SqL.of (S12 _ _ eu)) (zmx (US.imp λz=>z.kp (Kp.same S12))),znn _,zyf _,zxx _,_,rfl,?_⟩;rw[zqkb,ykb,em',ykc,ymc,yib];refine ite2 (λc1=>?_) (λc1=>?_)
  ·refine⟨_,rfl,_,rfl,_,rfl,sz3,λn hn=>?_⟩;refine laid hn λH3 S3 e3=>?_;refine⟨S.trans (S2.trans S3),hi,?_⟩;rw[yzb (p:=λm:List Int=>!decide (unm m∈used)) c1];exact All2.snoc (b:=trm (mnt c j)) ⟨n,rfl,e3⟩ (hy.imp λz=>z.kp (Kp.same (S2.trans S3)))
  ·refine⟨S.trans S2,hi,?_⟩;rw[yac (p:=λm:List Int=>!decide (unm m∈used)) c1,yfj,ypf,ysb];exact hy.imp λz=>z.kp (Kp.same S2)
 ·rintro ys H' ⟨S,_,hy⟩ p hp;rw[ysa (by omega)] at hy;refine laid hp λH2 S2 e2=>?_;refine q p ys _ H2 (S1.trans (S.trans S2)) (none_of (S1.trans S) hp) e2 (hy.imp λz=>z.kp (Kp.same S2)) ?_ (ztdb dnd pm so);have p1:=(pm.filter λm:List Int=>!decide (unm m∈used)).map trm;rw[zcqb] at p1;exact p1.trans (LK.perm.flatMap_right _)
structure Tb (B D p:Addr)(nm:Str)(H:Hp)(nl kl cl sl ll ul:Addr)(ns ks:List Str)(us ss ws uu:List V)(cs ds:List C20)(used:List (List Int)):Prop where
 n4:N4 H nl ns
 kd:Kd H kl ks
 ec:H cl=some (.lst us)
 cd:All2 (CdT [p] H) us cs
 es:H sl=some (.lst ss)
 rw:zjd H ss (cs.map C20.row)
 lk:Lk B D nm H ll ws cs ds
 eu:H ul=some (.lst uu)
 us:All2 (ItT H) uu used
 c0:cl≠p
 s0:sl≠p
 l0:ll≠p
 u0:ul≠p
theorem Tb.but {B D p:Addr}{nm:Str}{H H':Hp}{nl kl cl sl ll ul:Addr}{ns ks:List Str}{us ss ws uu:List V}{cs ds:List C20}{used:List (List Int)}{K:yba}{k:Int}(t:Tk K H p k)(b:But p H H')(h:Tb B D p nm H nl kl cl sl ll ul ns ks us ss ws uu cs ds used):Tb B D p nm H' nl kl cl sl ll ul ns ks us ss ws uu cs ds used :=
 have kp:=Kp.but t b
 ⟨h.n4.but t b,h.kd.but t b,b _ _ h.c0 h.ec,h.cd.imp λz=>z.fm (Fm.but (by simp) t b),b _ _ h.s0 h.es,h.rw.map λ_ _ z=>z.kp kp,⟨b _ _ h.l0 h.lk.at_,h.lk.al.imp λz=>z.kp kp,h.lk.perm⟩,b _ _ h.u0 h.eu,h.us.imp λz=>z.kp kp,h.c0,h.s0,h.l0,h.u0⟩
theorem znlb {R:V->C20->Prop}{ws:List V}{cs:List C20}(h:All2 R ws cs)(f:∀v c,R v c->∃a,v = .ref a):∀u∈ws,∃c,u = .ref c:=λu hu=>by
 obtain⟨c,_,r⟩:=h.mem hu;exact f u c r
theorem All2.rev {α β:Type}{R:α->β->Prop}{as:List α}{bs:List β}(z:All2 R as bs):All2 R as.reverse bs.reverse:=by
 induction z with
 | nil=>exact .nil
 | cons h _ ih =>
  rw[ywh,ywh];exact All2.snoc h ih
theorem zxob {cs:List C20}(nd:(cs.map (·.num)).Nodup){c d:C20}(hc:c∈cs)(hd:d∈cs)(e:c.num=d.num):c=d:=by
 induction cs with
 | nil=>cases hc
 | cons x r ih =>
  rw[yva,yle] at nd
  rcases yha.mp hc with h|h<;>rcases yha.mp hd with g|g
  ·rw[h,g]
  ·exact absurd (ybb.mpr ⟨d,g,by rw[← e,h]⟩) nd.1
  ·exact absurd (ybb.mpr ⟨c,h,by rw[e,g]⟩) nd.1
  ·exact ih nd.2 h g
theorem zpjb {row:Option Row}{kd:Str}{th:Int}{used:List (List Int)}{cs:List C20}(nd:(cs.map (·.num)).Nodup){c:C20}(hc:c∈cs)(i:Nat):∀{es:List C20},(∀d∈es,d∈cs)->es.flatMap (dueC row kd th (used++[[c.num,(i:Int)]]))=(es.flatMap (dueC row kd th used)).filter λm=>!decide (m=dut c i):=by
 intro es
 induction es with
 | nil=>exact λ_=>rfl
 | cons d r ih =>
  intro hs;rw[ysg,ysg,ymc,ih λx hx=>hs x (yna _ hx)]
  congr 1
  unfold dueC;rw[List.filter_map,List.filter_filter]
  congr 1
  refine List.filter_congr λj _=>?_;have key:dut d j=dut c i↔[d.num,(j:Int)]=[c.num,(i:Int)]:=⟨λe=>by
   injection e,λe=>by
   injection e with e1 e
   injection e with e2 e
   rw[zxob nd (hs d yia) hc e1];unfold dut;rw[e2]⟩
  show (!decide ([d.num,(j:Int)]∈used++[[c.num,(i:Int)]]))=((!decide (dut d j=dut c i)) && !decide ([d.num,(j:Int)]∈used))
  rw[decide_eq_decide.mpr key]
  by_cases e:[d.num,(j:Int)]=[c.num,(i:Int)]
  ·rw[decide_eq_true e,decide_eq_true (by rw[e];exact ybc _ yia)];rfl
  ·rw[decide_eq_false e];show _ = !decide _
   rw[decide_eq_decide.mpr (show [d.num,(j:Int)]∈used++[[c.num,(i:Int)]]↔[d.num,(j:Int)]∈used from⟨λz=>(yhb.mp z).elim id λy=>absurd (yja.mp y) e,λz=>yug _ z⟩)]
theorem zcnb {row:Option Row}{kd:Str}{th:Int}{used:List (List Int)}{cs:List C20}{m:List Int}(h:m∈cs.flatMap (dueC row kd th used)):∃c∈cs,∃i:Nat,m=dut c i:=by
 obtain⟨c,hc,hm⟩:=yhi.mp h;obtain⟨i,_,e⟩:=ybb.mp hm;exact⟨c,hc,i,e.symm⟩
theorem j3 {G:Prop}{Kx pre:Option V->Option V->Option V->Hp->Prop}(g:(∀a b c Hs,pre a b c Hs->Kx a b c Hs)->G)(k:∀a b c Hs,pre a b c Hs->Kx a b c Hs):G:=g k
theorem zgdb {H:Hp}{a b c:Addr}{v:V}(h:v∈[V.ref a,V.ref b,V.ref c])(ea:H a=some (.lst [.str "hurt",.str "lose"]))(eb:H b=some (.lst [.str "leave",.str "gain",.str "score"]))(ec:H c=some (.lst [.str "lack",.str "draw",.str "lose"])):Ex2 λkl ks=>v = .ref kl∧Kd H kl ks:=by
 simp only[yha,yzc,or_false] at h
 rcases h with rfl|rfl|rfl
 ·exact⟨a,["hurt","lose"],rfl,ea,by decide,by decide,by decide⟩
 ·exact⟨b,["leave","gain","score"],rfl,eb,by decide,by decide,by decide⟩
 ·exact⟨c,["lack","draw","lose"],rfl,ec,by decide,by decide,by decide⟩
theorem zwob (T:Tx K mg)(kb:K.In base):FnOk P w K mg base CX0 24 T.zfeb.f T.zfeb.d zgqb (zshb K):=by
 refine T.zfeb.ok zef ?_;rintro f c A o s H vs Q E hr ⟨sa,sc,rfl,hS,h63,q⟩ X;refine⟨_,  (zba (zqa (i:=1) zef.nd rfl (.inr rfl) (zcd (zaa (pv 0) (zaa zfa zca))))
  (zba (zqa (i:=2) zef.nd rfl (.inl rfl) (zja (zmu T).up hr rfl T.zzd.m T.zzd.F.kp (zly T) .nil zta (zaa (pv 1) zca)))
  (zba (zqa (i:=3) zef.nd rfl (.inl rfl) (znb zic (zcd (zaa (zcd (zaa zma (zaa zma zca))) (zaa (zcd (zaa zma (zaa zma (zaa zma zca)))) (zaa (zcd (zaa zma (zaa zma (zaa zma zca)))) zca)))) (zja (zna T).up hr rfl T.zda.m T.zda.F.kp (zra T) .nil zta (zaa (pv 1) (zaa zfa zca))) (λ_ _=>rfl)))
  (zba (zkfb (zja (zku T).up hr rfl T.zxd.m T.zxd.F.kp (zjy T) .nil zta (zaa (pv 1) (zaa (pv 2) (zaa (pv 3) zca)))) (zoob (n:=2) rfl (zob (zza (i:=4) zef.nd rfl (.inl rfl)) (zob (zza (i:=5) zef.nd rfl (.inl rfl)) zej))))
  (zba (zqa (i:=6) zef.nd rfl (.inl rfl) (zja (znu T kb).up hr rfl T.zae.m T.zae.F.kp (zmy T) .nil zta (zaa (pv 4) (zaa (znb zic (pv 2) zfa (λ_ _=>rfl)) (zaa (zja (zna T).up hr rfl T.zda.m T.zda.F.kp (zra T) .nil zta (zaa (pv 1) (zaa zfa zca))) zca)))))
  (zba (zqa (i:=7) zef.nd rfl (.inl rfl) (zcd zca))
  (zba (zzh ygc rfl (zde (pv 4)) (zjp (n:=4) rfl (zob (zza (i:=8) zef.nd rfl (.inr rfl)) (zob (zza (i:=9) zef.nd rfl (.inl rfl)) (zob (zza (i:=10) zef.nd rfl (.inl rfl)) (zob (zza (i:=11) zef.nd rfl (.inl rfl)) zej)))))
   (zea (zkd (zrh ycb PySem.F.slot_list_extend PySem.F.type_list_extend ztfb (pv 7) (zaa (zqf (own:=["_law_place"]) (cap:=["_law_number","_law_pen"]) rfl (zkc.chk rfl rfl) (.cons (j:=8) rfl (.inl rfl) (.inl rfl) (.cons (j:=1) rfl (.inl rfl) (.inl rfl) .nil)) (zjh rfl T.zni (zaa (zib zgb rfl T.zig ymb (zaa (pv 9) zca)) zca)) (λ_ _ _ _=>(zza (i:=0) (show ycd (["_law_place","_law_number","_law_pen"]:List Str) by decide +kernel) rfl (.inl rfl))) (λ_ _ _ _=>zpi (zoa zsc (zja (zna T).up hr rfl T.zda.m T.zda.F.kp (zra T) .nil zta (zaa (pv 2) (zaa zfa zca))) zfa (zya _))) (λ_ _ _ _=>by exact (zub (zaa (pv 1) (zaa (pv 0) zca))))) zca)))))
  (zba (zzh ygc rfl (zjh rfl T.zni (zaa zfa zca)) (zza (i:=12) zef.nd rfl (.inl rfl))
   (zba (zqa (i:=13) zef.nd rfl (.inl rfl) (zja (zzn T).up hr rfl T.zqc.m T.zqc.F.kp (zyp T) .nil zta (zaa (pv 1) (zaa (pv 3) (zaa (pv 4) (zaa (pv 2) zca))))))
   (zba (zqa (i:=14) zef.nd rfl (.inl rfl) (zcd (zaa (zfe zlk rfl T.zeq ydp (zaa (pv 6) zca)) (zaa (zfe zlk rfl T.zeq ydp (zaa (pv 5) zca)) (zaa (zfe zlk rfl T.zeq ydp (zaa (pv 7) zca)) zca)))))
   (zba (zqa (i:=15) zef.nd rfl (.inl rfl) (zja (zao T).up hr rfl T.zrc.m T.zrc.F.kp (zzp T) .nil zta (zaa (pv 4) (zaa (pv 5) (zaa (pv 13) (zaa (pv 7) zca))))))
   (zba (zqa (i:=16) zef.nd rfl (.inl rfl) (zja (zfk T) hr rfl T.zxc.m T.zxc.F.kp (zrl T) .nil zta (zaa (znb zic (pv 14) zfa (λ_ _=>rfl)) (zaa (znb zic (pv 14) zfa (λ_ _=>rfl)) (zaa (pv 13) (zaa (znb zic (pv 14) zfa (λ_ _=>rfl)) zca))))))
   (zba (zxb (PW.pt (zaib (zrj (zih (zja (zgk T).up hr rfl T.zyc.m T.zyc.F.kp (zsl T) .nil zta (zaa (pv 16) (zaa (pv 15) zca))))) (zpbb (zoa (zzlb hr.units) (pv 14) (zcd (zaa (pv 6) (zaa (pv 5) (zaa (pv 7) zca)))) (zya _)))))
    (zea (zua zjr))
    zsa)
   (zba (zxb (zoa (ztbb hr.units) (pv 15) (zcd zca) (zya _))
    (zba (zqa (i:=17) zef.nd rfl (.inr rfl) (znb zic (pv 15) (zja (zna T).up hr rfl T.zda.m T.zda.F.kp (zra T) .nil zta (zaa (pv 1) (zaa (zib zgb rfl T.zig ymb (zaa (pv 15) zca)) zca))) (λ_ _=>rfl)))
    (zba (zqa (i:=18) zef.nd rfl (.inl rfl) (zfc zgt (pv 7) (zcd (zaa (zub (zaa (znb zlc (pv 17) zfa (λ_ _=>rfl)) (zaa (znb zlc (pv 17) zfa (λ_ _=>rfl)) zca))) zca))))
    (zba (zifb (i:=19) zef.nd rfl (.inl rfl) (own:=["_law_other"]) (cap:=["_law_one"]) rfl (zkc.chk rfl rfl) (.cons (j:=17) rfl (.inl rfl) (.inl rfl) .nil) (zde (pv 15)) (λ_ _ _ _=>(zza (i:=0) (show ycd (["_law_other","_law_one"]:List Str) by decide +kernel) rfl (.inl rfl))) (λ_ _ _ _=>zpi (zoa (zamb K hr.units) (pv 0) (pv 1) (zya _))) (λ_ _ _ _=>by exact (pv 0)))
    (zea (zxb (zrj (zih (zja (zgk T).up hr rfl T.zyc.m T.zyc.F.kp (zsl T) .nil zta (zaa (zja (zfk T) hr rfl T.zxc.m T.zxc.F.kp (zrl T) .nil zta (zaa (zqob (pv 6) (zkib zibb zfa)) (zaa (pv 5) (zaa (pv 13) (zaa (pv 18) zca))))) (zaa (pv 19) zca)))))
     (zea (zua zjr))
     zsa)))))
    zsa)
   (zba (zkd (zrh ycb yfb ygb zfd (pv 16) (zaa (zub (zaa zfa (zaa zfa (zaa zfa zca)))) zca)))
   (zea (zxb (zrj (zih (zja (zgk T).up hr rfl T.zyc.m T.zyc.F.kp (zsl T) .nil zta (zaa (zja (zfk T) hr rfl T.zxc.m T.zxc.F.kp (zrl T) .nil zta (zaa (znb zic (pv 14) zfa (λ_ _=>rfl)) (zaa (znb zic (pv 14) zfa (λ_ _=>rfl)) (zaa (pv 13) (zaa (znb zic (pv 14) zfa (λ_ _=>rfl)) zca))))) (zaa (pv 15) zca)))))
    (zea (zua zjr))
    zsa))))))))))
  (zea (zua zjr)))))))))),?_⟩
 refine⟨_,rfl,sz2,λp hp=>?_⟩;have T1:=Tk.begin hp hS h63;generalize upd H p (.lst [.ref sa,.int 0])=H1 at T1 ⊢;refine⟨_,rfl,p,0,rfl,T1,by decide,λnl ns k2 H2 B2 T2 hk2 _ N2=>?_⟩;refine⟨sz2,λa1 ha1=>?_⟩;refine laid ha1 λI1 S1 e1=>?_;refine⟨sz3,λa2 ha2=>?_⟩;refine laid ha2 λI2 S2 e2=>?_;refine⟨sz3,λa3 ha3=>?_⟩;refine laid ha3 λI3 S3 e3=>?_;refine⟨sz3,λa4 ha4=>?_⟩;refine laid ha4 λI4 S4 e4=>?_;have S14:=S1.trans (S2.trans (S3.trans S4));have TI:=T2.same S14;have n1:a1≠p:=yub (T2.ne ha1);have n2:a2≠p:=yub ((T2.same S1).ne ha2);have n3:a3≠p:=yub ((T2.same (S1.trans S2)).ne ha3);have n4:a4≠p:=yub ((T2.same (S1.trans (S2.trans S3))).ne ha4);refine⟨_,rfl,p,k2,3,rfl,TI,by omega,by decide,λr H3 r0 r1 B3 T3=>?_⟩;obtain⟨kv,hkv,mkv⟩:=zon (xs:=[V.ref a1,V.ref a2,V.ref a3]) (i:=r) r0 r1;obtain⟨kl,ks,rfl,K3⟩:=zgdb mkv (B3 _ _ n1 ((S2.trans (S3.trans S4)) _ _ e1)) (B3 _ _ n2 ((S3.trans S4) _ _ e2)) (B3 _ _ n3 (S4 _ _ e3));refine⟨a4,_,_,_,rfl,rfl,SqL.of (B3 _ _ n4 e4),hkv,?_⟩;have N3:=(N2.same S14).but TI B3;clear e1 e2 e3 e4 S1 S2 S3 S4 S14 TI mkv hkv;refine⟨_,rfl,_,rfl,_,rfl,p,nl,kl,k2+1,ns,ks,rfl,T3,by omega,N3,K3,λtl cl sl us ss cs k4 H4 B4 T4 hk4 hcl hsl et ec es CD RW CS=>?_⟩;refine⟨tl,_,rfl,SqL.of et,rfl,_,_,rfl,_,_,rfl,rfl,?_⟩;have ncp:cl≠p:=yub (T3.ne hcl);have nsp:sl≠p:=yub (T3.ne hsl);have N4':=N3.but T3 B4;have K4:=K3.but T3 B4;obtain⟨nm,hnm,mnm⟩:=zzr (ss:=ns) (r:=0) (ycp 0) (by rw[N3.len];decide);refine⟨_,rfl,_,rfl,nl,_,_,_,rfl,rfl,SqL.of N4'.at_,hnm,_,rfl,p,k4,6,rfl,T4,by omega,by decide,λt0 H5 t1 t2 B5 T5=>?_⟩;refine⟨cl,nm,t0,[p],us,cs,rfl,N3.ok nm mnm,B5 _ _ ncp ec,CD.imp λz=>z.fm (Fm.but (by simp) T4 B5),CS,t1,λll ws ds H6 S6 nll ell LY pd=>?_⟩;have B46:But p H4 H6:=B5.trans (But.same S6);have T6:=T5.same S6;have nlp:ll≠p:=yub (T5.ne nll);refine⟨sz0,λul hul=>?_⟩;have nup:ul≠p:=yub (T6.ne hul);have ec6:=B46 _ _ ncp ec;have CD6:All2 (CdT [p] H6) us cs:=CD.imp λz=>z.fm (Fm.but (by simp) T4 B46);have ROK:=CdT.rules CD6;have ucl:=CD6.len;have c6:=CS.hi;refine laid hul λH7 S7 e7=>?_;have N6:=N4'.but T4 B46;have K6:=K4.but T4 B46;have RW6:zjd H6 ss (cs.map C20.row):=RW.map λ_ _ z=>z.kp (Kp.but T4 B46);have es6:=B46 _ _ nsp es;refine⟨_,rfl,cl,rfl,⟨_,SqL.of (S7 _ _ ec6)⟩,?_⟩;refine zij (xs:=us) (λi σ Hx=>Ex15 λuu used (k':Int) o8 o9 o10 o11 o12 o13 o14 o15 o16 o17 o18 o19=>σ=[some (.ref sa),some (.ref p),some (.ref nl),some (.ref kl),some (.ref cl),some (.ref sl),some (.ref ll),some (.ref ul),o8,o9,o10,o11,o12,o13,o14,o15,o16,o17,o18,o19]∧Hx ul=some (.lst uu)∧All2 (ItT Hx) uu used∧used.length≤3*i∧But p H6 Hx∧Tk K Hx p k'∧k'≤2000+3*(i:Int)∧i≤us.length) ⟨[],[],_,_,_,_,_,_,_,_,_,_,_,_,_,rfl,e7,.nil,yma _,But.same S7,T6.same S7,by omega,ylb _⟩ (λi σ Hx _ ⟨_,_,_,_,_,_,_,_,_,_,_,_,_,_,_,_,_,_,_,b,_⟩=>SqL.of (b _ _ ncp ec6)) ?_ ?_
 ·rintro i u σ Hx hu ⟨uu,used,k',o8,o9,o10,o11,o12,o13,o14,o15,o16,o17,o18,o19,rfl,eu,US,ulen,Bx,Tx,hk',_⟩;have hi:i<us.length:=(yla.mp hu).1;obtain⟨c,eci,cd⟩:=CD6.get hu;have few:=CS.few c (yob eci);obtain⟨a,tl',tm,vs,rfl,ea,em,et',ntl,R2⟩:=cd.fm (Fm.but (by simp) T6 Bx);have vl:=R2.len;have uul:=US.len;refine⟨a,_,rfl,SqT.of ea,rfl,_,_,rfl,_,_,rfl,_,_,rfl,_,_,rfl,rfl,?_⟩;refine⟨_,rfl,.inl ⟨rfl,_,SqL.of eu⟩,_,rfl,tl',_,rfl,.inl (SqL.of et'),_,rfl,by omega,by omega,?_⟩;rw[ysc];refine zjo (λj ys Hy=>Ex2 λps (k2:Int)=>All2 (ItT Hy) ys ps∧ps.length≤j∧But p Hx Hy∧Tk K Hy p k2∧k2≤k'+(j:Int)∧j≤vs.length) ⟨[],_,.nil,yma _,But.refl _ _,Tx,by omega,ylb _⟩ ?_ ?_ ?_
  ·rintro j ys Hy ⟨ps,k2,al,pl,_,_,_,_⟩;have:=al.len;exact small (by omega)
  ·rintro j ys Hy hj ⟨ps,k2,al,pl,b,Ty,hk2,_⟩;refine⟨rfl,_,rfl,p,k2,5,rfl,Ty,by omega,by decide,λx Hz x0 x1 bz Tz=>⟨rfl,_,rfl,ite2 (λ_=>?_) (λ_=>?_)⟩⟩
   ·refine⟨_,rfl,_,rfl,sz2,λt ht=>?_⟩;refine laid ht λHw Sw ew=>?_;exact⟨ps++[[c.num,0+(j:Int)]],_,All2.snoc ⟨t,rfl,ew⟩ (al.imp λz=>z.kp ((Kp.but Ty bz).trans (Kp.same Sw))),by rw[yea];show ps.length+1≤j+1;omega,b.trans (bz.trans (But.same Sw)),Tz.same Sw,by omega,hj⟩
   ·exact⟨ps,_,al.imp λz=>z.kp (Kp.but Ty bz),by omega,b.trans bz,Tz,by omega,hj⟩
  ·rintro ys Hy ⟨ps,k2,al,pl,b,Ty,hk2,_⟩ bl hbl;refine laid hbl λHz Sz ez=>?_;have Bz:=b.trans (But.same Sz);have euz:=Bz _ _ nup eu;have yl:=al.len;refine⟨ul,bl,_,_,rfl,rfl,euz,ez,small (by omega),?_⟩;have kp:Kp Hz (upd Hz ul (.lst (uu++ys))):=Kp.put euz;refine⟨uu++ys,used++ps,k2,_,_,_,_,_,_,_,_,_,_,_,_,rfl,zga,All2.app (US.imp λz=>z.kp ((Kp.but Tx Bz).trans kp)) (al.imp λz=>z.kp ((Kp.same Sz).trans kp)),by rw[yea];omega,?_,(Ty.same Sz).other euz (yub nup),by omega,hi⟩;intro b' o nb hb;rw[zva (zka hb hul)];exact Bz _ _ nb (Bx _ _ nb hb)
 rintro σ H8 ⟨uu,used,k8,o8,o9,o10,o11,o12,o13,o14,o15,o16,o17,o18,o19,rfl,eu,US,ulen,B8,T8,hk8,_⟩;have TB:Tb T.zqg T.ztb p nm H8 nl kl cl sl ll ul ns ks us ss ws uu cs ds used :=
  ⟨N6.but T6 B8,K6.but T6 B8,B8 _ _ ncp ec6,CD6.imp λz=>z.fm (Fm.but (by simp) T6 B8),B8 _ _ nsp es6,RW6.map λ_ _ z=>z.kp (Kp.but T6 B8),⟨B8 _ _ nlp ell,LY.imp λz=>z.kp (Kp.but T6 B8),pd⟩,eu,US,ncp,nsp,nlp,nup⟩
 clear ec es CD RW ell LY eu US N2 K3 N3 N4' K4 ec6 CD6 N6 K6 RW6 es6 et e7;refine⟨_,rfl,by decide,by decide,?_⟩;refine zkn (lo:=0) (n:=(3:Int).toNat) (λi σ Hx=>Ex13 λ(k':Int) o8 o9 o10 o11 o12 o13 o14 o15 o16 o17 o18 o19=>σ=[some (.ref sa),some (.ref p),some (.ref nl),some (.ref kl),some (.ref cl),some (.ref sl),some (.ref ll),some (.ref ul),o8,o9,o10,o11,o12,o13,o14,o15,o16,o17,o18,o19]∧But p H8 Hx∧Tk K Hx p k'∧k'≤3000+6*(i:Int)∧i≤3) ⟨_,_,_,_,_,_,_,_,_,_,_,_,_,rfl,But.refl _ _,T8,by omega,by decide⟩ ?_ ?_
 ·rintro i σ Hx hi ⟨k',o8,o9,o10,o11,o12,o13,o14,o15,o16,o17,o18,o19,rfl,Bx,Tx,hk',_⟩;have TX:=TB.but T8 Bx;refine⟨_,rfl,_,rfl,_,rfl,_,rfl,p,kl,cl,nl,k',ns,ks,[p],us,cs,rfl,Tx,by omega,TX.n4,TX.kd,TX.ec,ncp,TX.cd,CS,λha kd th av k9 H9 B9 T9 hk9 eh hkd hth ham=>?_⟩;have T9b:=TX.but Tx B9;have rf1:∀u∈ws,∃c,u=V.ref c:=znlb T9b.lk.al λv c ⟨a,_,_,e,_⟩=>⟨a,e⟩;have rf2:∀u∈ss,∃c,u=V.ref c:=λu hu=>by
   obtain⟨j,hj⟩:=ymm hu;obtain⟨r,_,a,_,e,_⟩:=T9b.rw.get hj;exact⟨a,e⟩
  have rf3:∀u∈uu,∃c,u=V.ref c:=λu hu=>by
   obtain⟨m,_,a,e,_⟩:=T9b.us.mem hu;exact⟨a,e⟩
  refine⟨_,rfl,ll,ws,rfl,.inl (SqL.of T9b.lk.at_),λh0 hh0=>?_⟩;refine laid hh0 λJ1 S1 e1=>?_;refine⟨_,rfl,sl,ss,rfl,.inl (SqL.of (S1 _ _ T9b.es)),λh1 hh1=>?_⟩;refine laid hh1 λJ2 S2 e2=>?_;refine⟨_,rfl,ul,uu,rfl,.inl (SqL.of ((S1.trans S2) _ _ T9b.eu)),λh2 hh2=>?_⟩;refine laid hh2 λJ3 S3 e3=>?_;refine⟨sz3,λhl hhl=>?_⟩;refine laid hhl λJ4 S4 e4=>?_;have S94:=S1.trans (S2.trans (S3.trans S4));have g0:h0≠p:=yub (T9.ne hh0);have g1:h1≠p:=yub ((T9.same S1).ne hh1);have g2:h2≠p:=yub ((T9.same (S1.trans S2)).ne hh2);have g3:hl≠p:=yub ((T9.same (S1.trans (S2.trans S3))).ne hhl);have TJ:=T9b.but T9 (But.same S94);have TkJ:=T9.same S94
  replace e1:=(S2.trans (S3.trans S4)) _ _ e1
  replace e2:=(S3.trans S4) _ _ e2
  replace e3:=S4 _ _ e3
  replace eh:=S94 _ _ eh
  have Bx4:But p Hx J4:=B9.trans (But.same S94);clear S1 S2 S3 S4 S94 T9b;refine⟨_,rfl,_,rfl,_,rfl,_,rfl,cl,sl,ha,ul,[p],us,ss,uu,cs,kd,th,av,used,rfl,TJ.ec,TJ.cd,CS,TJ.es,TJ.rw,eh,TJ.eu,TJ.us,λdl dout dms J5 S5 ndl edl DAL dperm dso=>?_⟩;have gd:dl≠p:=yub (TkJ.ne ndl);have T5b:=TJ.but TkJ (But.same S5);have Tk5:=TkJ.same S5
  replace e1:=S5 _ _ e1
  replace e2:=S5 _ _ e2
  replace e3:=S5 _ _ e3
  replace e4:=S5 _ _ e4
  replace eh:=S5 _ _ eh
  have Bx5:But p Hx J5:=Bx4.trans (But.same S5);clear TJ;refine⟨_,rfl,hl,_,_,_,rfl,rfl,SqL.of e4,zia (j:=0) rfl,_,rfl,hl,_,_,_,rfl,rfl,SqL.of e4,zia (j:=1) rfl,_,rfl,_,rfl,hl,_,_,_,rfl,rfl,SqL.of e4,zia (j:=2) rfl,h0,h1,ha,h2,nm,ws,ss,uu,cs,ds,kd,th,av,used,rfl,⟨e1,T5b.lk.al,pd⟩,CS,ROK,e2,T5b.rw,eh,e3,T5b.us,λfl fout fms J6 S6 nfl efl FAL fperm fso=>?_⟩;have efm:fms=dms:=zvn fso dso fperm dperm;subst efm;have gf:fl≠p:=yub (Tk5.ne nfl);refine⟨_,rfl,_,rfl,fl,dl,fout,dout,fms,rfl,efl,S6 _ _ edl,FAL,DAL.imp λz=>z.kp (Kp.same S6),λJ7 S7=>⟨_,rfl,iteF ?_⟩⟩;have S57:=S6.trans S7;refine⟨_,rfl,_,rfl,_,rfl,_,rfl,sz3,λql hql=>?_⟩;refine laid hql λJ8 S8 eq=>?_;have S58:=S57.trans S8;refine⟨hl,ql,[h0,h1,h2],[ll,sl,ul],rfl,rfl,SqL.of (S58 _ _ e4),SqL.of eq,.cons ⟨ws,SqL.of (S58 _ _ e1),SqL.of (S58 _ _ T5b.lk.at_),rf1⟩ (.cons ⟨ss,SqL.of (S58 _ _ e2),SqL.of (S58 _ _ T5b.es),rf2⟩ (.cons ⟨uu,SqL.of (S58 _ _ e3),SqL.of (S58 _ _ T5b.eu),rf3⟩ .nil)),_,rfl,iteF ?_⟩;refine⟨_,rfl,sz0,λzl hzl=>?_⟩;refine laid hzl λJ9 S9 ez=>?_;have S59:=S58.trans S9;have DAL9:All2 (ItT J9) dout fms:=DAL.imp λz=>z.kp (Kp.same S59);have edl9:=S59 _ _ edl;have Tk9:=Tk5.same S59;have T9b:=T5b.but Tk5 (But.same S59);have dl0:=DAL.len;refine⟨_,_,.lst (SqL.of edl9) (zmx DAL9),.lst (SqL.of ez) .nil,zyf fms,zyf [],_,rfl,?_⟩;refine' j3 (pre:=λ_ _ _ Hs=>But p J5 Hs∧Hs fl=some (.lst fout)∧∃k2,Tk K Hs p k2∧k2≤k9+1) (λkk=>?g) ?k
  case g =>
   refine ite2 (λc1=>?a) (λc1=>?b)
   case b =>
    obtain⟨x1,hx1⟩:∃o,o=o17:=⟨_,rfl⟩;obtain⟨x2,hx2⟩:∃o,o=o18:=⟨_,rfl⟩;obtain⟨x3,hx3⟩:∃o,o=o19:=⟨_,rfl⟩;obtain⟨Hz,hz⟩:∃h,h=J9:=⟨_,rfl⟩;rw[← hx1,← hx2,← hx3,← hz];exact kk x1 x2 x3 Hz (by rw[hz];exact⟨But.same S59,(S7.trans (S8.trans S9)) _ _ efl,_,Tk9,by omega⟩)
   case a =>
    have dne:fms.length≠0:=λz=>by
     have:fms=[]:=yxf.mp z;rw[this] at c1;simp[ycg,yaf] at c1
    refine⟨_,rfl,_,rfl,_,rfl,dl,_,rfl,.inl (SqL.of edl9),p,k9,(dout.length:Int),rfl,Tk9,by omega,by omega,λr Ka r0 r1 Ba Ta=>?_⟩;obtain⟨v,hv,mv⟩:=zon (xs:=dout) r0 r1;have Fa:=Kp.but Tk9 Ba;have DALa:All2 (ItT Ka) dout fms:=DAL9.imp λz=>z.kp Fa;have edla:=Ba _ _ gd edl9;obtain⟨m,hm,it⟩:=DALa.mem mv;obtain⟨c,hc,j,rfl⟩:=zcnb (dperm.mem_iff.mp hm);obtain⟨oa,rfl,eo⟩:=it;refine⟨dl,_,_,_,rfl,rfl,SqL.of edla,hv,?_⟩;have Tab:=T9b.but Tk9 Ba;refine⟨_,rfl,_,rfl,oa,_,_,_,rfl,rfl,SqT.of eo,zia (j:=1) rfl,_,rfl,oa,_,_,_,rfl,rfl,SqT.of eo,zia (j:=2) rfl,sz2,λt ht=>?_⟩;refine laid ht λKb Sb eb=>?_;refine⟨sz1,λl1 hl1=>?_⟩;refine laid hl1 λKc Sc ec=>?_;have uul:=Tab.us.len;refine⟨ul,l1,_,_,rfl,rfl,(Sb.trans Sc) _ _ Tab.eu,ec,small (by show uu.length+1≤1000;omega),λml hml=>?_⟩;refine laid hml λKd' Sd ed=>?_;have Sad:=Sb.trans (Sc.trans Sd);have edld:=Sad _ _ edla;have DALd:All2 (ItT Kd') dout fms:=DALa.imp λz=>z.kp (Kp.same Sad);have itd:ItT Kd' (.ref oa) (dut c j):=⟨oa,rfl,Sad _ _ eo⟩;refine⟨_,rfl,dl,rfl,⟨_,SqL.of edld⟩,?_⟩;refine zoe (xs:=dout) (λn ys Hy=>Hy=Kd'∧n≤dout.length∧All2 (ItT Kd') ys ((fms.take n).filter λm=>!decide (m=dut c j))) (λn ys Hy z=>by rw[z.1];exact SqL.of edld) ⟨rfl,ylb _,.nil⟩ ?_ ?_ ?_
    ·rintro n ys Hy ⟨_,hn,hy⟩;have l1:=hy.len;have l2:=yqb (λm=>!decide (m=dut c j)) (fms.take n);have l3:=dperm.length_eq;have l4:(cs.flatMap (dueC (rowOf (cs.map C20.row) th) kd th used)).length≤3*cs.length:=zpe λd hd=>by
      have f:=CS.few d hd;have a:=yqb (usd used d) (plc (hitR (rowOf (cs.map C20.row) th) kd th d) d.rules d.rules.length);have b:=zdj (hitR (rowOf (cs.map C20.row) th) kd th d) d.rules d.rules.length;show (ybi _ _).length≤3
      rw[yda];omega
     rw[ydb] at l2;exact small (by omega)
    ·rintro n u ys Hy hu ⟨rfl,_,hy⟩;have hn:n<dout.length:=(yla.mp hu).1;obtain⟨m,em,iu⟩:=DALd.get hu;refine⟨rfl,_,rfl,_,rfl,chD m,chD (dut c j),zdgb iu,zdgb itd,znn m,znn _,_,rfl,?_⟩;rw[zlkb,ykb,em,ykc,ymc];refine ite2 (λc2=>?_) (λc2=>?_)
     ·refine⟨_,rfl,rfl,hn,?_⟩;rw[yzb (p:=λm=>!decide (m=dut c j)) c2];exact All2.snoc iu hy
     ·refine⟨rfl,hn,?_⟩;rw[yac (p:=λm=>!decide (m=dut c j)) c2,yfj,ysb];exact hy
    rintro ys _ ⟨rfl,_,hy⟩ rl hrl;rw[ysa (by omega)] at hy;refine laid hrl λKe Se ee=>?_;have Sae:=Sad.trans Se;refine⟨_,rfl,_,rfl,rfl,ll,ws,rfl,SqL.of (Sae _ _ Tab.lk.at_),λvl hvl=>?_⟩;refine laid hvl λKf Sf ef=>?_;have Saf:=Sae.trans Sf;have kaf:=Kp.same Saf;have itm:ItT Kf (.ref t) [c.num,(j:Int)]:=⟨t,rfl,(Sc.trans (Sd.trans (Se.trans Sf))) _ _ eb⟩;have eh':Kf ha=some (.tup [.str kd,.int th,av]):=kaf.t (Fa.t (S59 _ _ eh));refine⟨_,rfl,_,rfl,_,rfl,vl,sl,ha,ml,nm,ws.reverse,ss,uu++[V.ref t],cs,ds.reverse,kd,th,av,used++[[c.num,(j:Int)]],rfl,⟨ef,(Tab.lk.al.imp λz=>z.kp kaf).rev,(List.reverse_perm ds).trans pd⟩,CS,ROK,Saf _ _ Tab.es,Tab.rw.map λ_ _ z=>z.kp kaf,eh',(Se.trans Sf) _ _ ed,All2.snoc itm (Tab.us.imp λz=>z.kp kaf),λxl xout xms Kg Sg _ exl XAL xperm xso=>?_⟩;rw[zpjb CS.num hc j (λd hd=>hd)] at xperm;have exm:xms=fms.filter λm=>!decide (m=dut c j):=zvn xso (dso.filter _) xperm (dperm.filter _);subst exm;refine⟨_,rfl,xl,rl,xout,ys,_,rfl,exl,(Sf.trans Sg) _ _ ee,XAL,hy.imp λz=>z.kp (Kp.same (Se.trans (Sf.trans Sg))),λKh Sh=>⟨_,rfl,iteF ?_⟩⟩;have Sah:=Saf.trans (Sg.trans Sh);exact kk _ _ _ Kh ⟨(But.same S59).trans (Ba.trans (But.same Sah)),Sah _ _ (Ba _ _ gf ((S7.trans (S8.trans S9)) _ _ efl)),_,Ta.same Sah,by omega⟩
  case k =>
  rintro y17 y18 y19 Ka ⟨Ba,efa,k2,Ta,hk2⟩;refine⟨_,rfl,.inl ⟨rfl,_,SqL.of efa⟩,sz3,λt ht=>?_⟩;refine laid ht λKb Sb eb=>?_;have efb:=Sb _ _ efa;have fl0:=FAL.len;have f18:fms.length≤18:=by
   have l3:=dperm.length_eq;have l4:(cs.flatMap (dueC (rowOf (cs.map C20.row) th) kd th used)).length≤3*cs.length:=zpe λd hd=>by
    have f:=CS.few d hd;have a:=yqb (usd used d) (plc (hitR (rowOf (cs.map C20.row) th) kd th d) d.rules d.rules.length);have b:=zdj (hitR (rowOf (cs.map C20.row) th) kd th d) d.rules d.rules.length;show (ybi _ _).length≤3
    rw[yda];omega
   omega
  refine⟨fl,_,_,rfl,rfl,efb,zpc (by omega),?_⟩;have By:But p J5 (upd Kb fl (.lst (fout++[V.ref t]))):=λb o nb hb=>by
   rw[zva (zka hb nfl)];exact Sb _ _ (Ba _ _ nb hb)
  have Ty:Tk K (upd Kb fl (.lst (fout++[V.ref t]))) p k2:=(Ta.same Sb).other efb (yub gf);generalize upd Kb fl (.lst (fout++[V.ref t]))=Ky at By Ty ⊢;have Tyb:=T5b.but Tk5 By;have ky:=Kp.but Tk5 By;have e4y:=By _ _ g3 e4;refine⟨_,rfl,hl,_,_,_,rfl,rfl,SqL.of e4y,zia (j:=0) rfl,_,rfl,hl,_,_,_,rfl,rfl,SqL.of e4y,zia (j:=1) rfl,_,rfl,_,rfl,hl,_,_,_,rfl,rfl,SqL.of e4y,zia (j:=2) rfl,h0,h1,ha,h2,nm,ws,ss,uu,cs,ds,kd,th,av,used,rfl,⟨By _ _ g0 e1,Tyb.lk.al,pd⟩,CS,ROK,By _ _ g1 e2,Tyb.rw,ky.t eh,By _ _ g2 e3,Tyb.us,λxl xout xms Kz Sz _ exl XAL xperm xso=>?_⟩;have exm:xms=fms:=zvn xso dso xperm dperm;subst exm;refine⟨_,rfl,xl,dl,xout,dout,xms,rfl,exl,Sz _ _ (By _ _ gd edl),XAL,DAL.imp λz=>z.kp (ky.trans (Kp.same Sz)),λKw Sw=>⟨_,rfl,iteF ?_⟩⟩;have Szw:=Sz.trans Sw;exact⟨k2,_,_,_,_,_,_,_,_,_,_,_,_,rfl,Bx.trans (Bx5.trans (By.trans (But.same Szw))),Ty.same Szw,by omega,hi⟩
 ·rintro σ Hx _;exact q _
end
def mkT {K:yba}{h:Heap}{mg:Str->Option Value}(X:K.In h)(G:h.Ns yza mg){C_Words:Addr}{C_Whom:Addr}{C_Card:Addr}{t_LETTERS:Tok}{t_FIGURES:Tok}{t_MOST_WORDS:Tok}{A_PARTS:Addr}{t_MOST_RULES:Tok}{A_SORTS:Addr}{A_CHANGES:Addr}{A_WHEN_KINDS:Addr}{A_DEED_KINDS:Addr}{A_PLAYER_KINDS:Addr}{A_TURNS:Addr}(tf:Tf K mg)
  (zwjb:ynb K yza "Words" = some (some (.ref C_Words)))
  (zjib:yse K C_Words yqo=true)
  (zjjb:yhf K C_Words=true)
  (zeib:yqg K C_Words=true)
  (zwhb:yab K (.ref C_Words) "__setattr__" = some (some (.builtin "object.__setattr__")))
  (y_Words___init__:If K C_Words "__init__" "Words.__init__" zvg)
  (y_Words_take:Mf K C_Words "take" "Words.take" zbk)
  (y_Words_take_one_of:Mf K C_Words "take_one_of" "Words.take_one_of" zze)
  (y_Words_take_name:Mf K C_Words "take_name" "Words.take_name" zwf)
  (y_Words_take_number:Mf K C_Words "take_number" "Words.take_number" zaf)
  (y_Words_finish:Mf K C_Words "finish" "Words.finish" zoi)
  (zsd:yab K (.ref C_Words) "words" = some none)
  (zed:yab K (.ref C_Words) "place" = some none)
  (zlnb:ynb K yza "Whom" = some (some (.ref C_Whom)))
  (zvlb:yse K C_Whom yqo=true)
  (zsmb:yhf K C_Whom=true)
  (zslb:yqg K C_Whom=true)
  (zklb:yab K (.ref C_Whom) "__setattr__" = some (some (.builtin "object.__setattr__")))
  (y_Whom___init__:If K C_Whom "__init__" "Whom.__init__" zfh)
  (y_Whom_fits:Mf K C_Whom "fits" "Whom.fits" zll)
  (y_Whom_fits_row:Mf K C_Whom "fits_row" "Whom.fits_row" zeh)
  (y_Whom_fits_parts:Mf K C_Whom "fits_parts" "Whom.fits_parts" zxf)
  (zab:yab K (.ref C_Whom) "word" = some none)
  (zgf:yab K (.ref C_Whom) "value" = some none)
  (zvc:yab K (.ref C_Whom) "parts" = some none)
  (q1_Whom:yab K (.ref C_Whom) "__class__" = some (some (.builtin "object.__class__")))
  (q2_Whom:yvh K (.builtin "object.__class__") "__get__" = some (some (.builtin "getset_descriptor.__get__")))
  (q3_Whom:yrl K (.builtin "object.__class__")=some true)
  (q4_Whom:ycn K C_Whom (.type "object")=some true)
  (q5_Whom:ywb K (.ref C_Whom) (.type "str")=some false)
  (q6_Whom:ywb K (.ref C_Whom) (.type "int")=some false)
  (q7_Whom:ywb K (.ref C_Whom) (.type "tuple")=some false)
  (q8_Whom:ywb K (.ref C_Whom) (.type "list")=some false)
  (q9_Whom:ywb K (.type "str") (.ref C_Whom)=some false)
  (q10_Whom:ywb K (.type "int") (.ref C_Whom)=some false)
  (zmnb:ynb K yza "Card" = some (some (.ref C_Card)))
  (zwlb:yse K C_Card yqo=true)
  (ztmb:yhf K C_Card=true)
  (ztlb:yqg K C_Card=true)
  (zllb:yab K (.ref C_Card) "__setattr__" = some (some (.builtin "object.__setattr__")))
  (y_Card___init__:If K C_Card "__init__" "Card.__init__" zgh)
  (zfj:yab K (.ref C_Card) "name" = some none)
  (zgj:yab K (.ref C_Card) "cost" = some none)
  (zei:yab K (.ref C_Card) "force" = some none)
  (zdi:yab K (.ref C_Card) "marks" = some none)
  (zng:yab K (.ref C_Card) "rules" = some none)
  (zpcb:ynb K yza "all" = some none)
  (zebb:ynb K yza "bool" = some none)
  (zzi:ynb K yza "enumerate" = some none)
  (zeeb:ynb K yza "int" = some none)
  (zdd:ynb K yza "isinstance" = some none)
  (zig:ynb K yza "len" = some none)
  (zeq:ynb K yza "list" = some none)
  (zni:ynb K yza "range" = some none)
  (zxk:ynb K yza "reversed" = some none)
  (zghb:ynb K yza "set" = some none)
  (zyi:ynb K yza "sorted" = some none)
  (zocb:ynb K yza "str" = some none)
  (zxi:ynb K yza "tuple" = some none)
  (zgn:ynb K yza "LETTERS" = some (some (.str zcs t_LETTERS)))
  (zin:ynb K yza "FIGURES" = some (some (.str zds t_FIGURES)))
  (zki:ynb K yza "MOST_WORDS" = some (some (.int 9 t_MOST_WORDS)))
  (zgo:ynb K yza "PARTS" = some (some (.ref A_PARTS)))
  (ztu:yvo (yhh λb=>K.lookup b) (λb=>K.lookup b) A_PARTS zks=true)
  (zli:ynb K yza "MOST_RULES" = some (some (.int 3 t_MOST_RULES)))
  (zyu:ynb K yza "SORTS" = some (some (.ref A_SORTS)))
  (zsu:TupK K A_SORTS ["hold","when","instead","may"])
  (zjn:ynb K yza "CHANGES" = some (some (.ref A_CHANGES)))
  (zen:TupK K A_CHANGES ["mute","steal","gain","lack","be","more","less","per"])
  (zji:ynb K yza "WHEN_KINDS" = some (some (.ref A_WHEN_KINDS)))
  (zgi:TupK K A_WHEN_KINDS ["come","leave","hurt","gain","lack","lose","score","draw"])
  (zpg:ynb K yza "DEED_KINDS" = some (some (.ref A_DEED_KINDS)))
  (zog:TupK K A_DEED_KINDS ["leave","hurt","gain","lack","lose","score","draw"])
  (zfg:ynb K yza "PLAYER_KINDS" = some (some (.ref A_PLAYER_KINDS)))
  (zeg:TupK K A_PLAYER_KINDS ["lose","score","draw"])
  (zxu:ynb K yza "TURNS" = some (some (.ref A_TURNS)))
  (zru:TabK K A_TURNS zcbb):Tx K mg :=
 { tf with zmb:=C_Words,zqz:=yuc X G zwjb,zeb:=⟨zjib,zjjb,zeib,zwhb⟩,zgc:=y_Words___init__,zoc:=y_Words_take,zpa:=y_Words_take_one_of,zpb:=y_Words_take_name,zwa:=y_Words_take_number,zuc:=y_Words_finish,zsd:=zsd,zed:=zed,ztb:=C_Whom,zfkb:=yuc X G zlnb,zjb:=⟨zvlb,zsmb,zslb,zklb⟩,zzc:=y_Whom___init__,zye:=y_Whom_fits,zcb:=y_Whom_fits_row,zvb:=y_Whom_fits_parts,zab:=zab,zgf:=zgf,zvc:=zvc,zxpb:=⟨q1_Whom,q2_Whom,q3_Whom,q4_Whom,q5_Whom,q6_Whom,q7_Whom,q8_Whom,q9_Whom,q10_Whom⟩,zqg:=C_Card,zgkb:=yuc X G zmnb,zpl:=⟨zwlb,ztmb,ztlb,zllb⟩,zad:=y_Card___init__,zfj:=zfj,zgj:=zgj,zei:=zei,zdi:=zdi,zng:=zng,zpcb:=ydc X G zpcb,zebb:=ydc X G zebb,zzi:=ydc X G zzi,zeeb:=ydc X G zeeb,zdd:=ydc X G zdd,zig:=ydc X G zig,zeq:=ydc X G zeq,zni:=ydc X G zni,zxk:=ydc X G zxk,zghb:=ydc X G zghb,zyi:=ydc X G zyi,zocb:=ydc X G zocb,zxi:=ydc X G zxi,zjx:=t_LETTERS,zgn:=yuc X G zgn,zkx:=t_FIGURES,zin:=yuc X G zin,znp:=t_MOST_WORDS,zki:=yuc X G zki,zul:=A_PARTS,zgo:=yuc X G zgo,ztu:=ztu,zop:=t_MOST_RULES,zli:=yuc X G zli,zov:=A_SORTS,zyu:=yuc X G zyu,zsu:=zsu,zpn:=A_CHANGES,zjn:=yuc X G zjn,zen:=zen,zmi:=A_WHEN_KINDS,zji:=yuc X G zji,zgi:=zgi,zsg:=A_DEED_KINDS,zpg:=yuc X G zpg,zog:=zog,zgg:=A_PLAYER_KINDS,zfg:=yuc X G zfg,zeg:=zeg,znv:=A_TURNS,zxu:=yuc X G zxu,zru:=zru }
theorem all_mk {l:ywl}{w:World}{K:yba}{mg:Str->Option Value}{fa:Addr}(hfa:mg "law" = some (.ref fa))(T:Tx K mg) :
  ∃fd:ype,(∀(s:Shared) (v:Value),yqn s fd ⟨[v],[]⟩ [("_law_script",v)])∧∀base:Heap,K.In base->base.Ns yza mg->FnOk l.prog w K mg base CX0 24 fa fd ["_law_script"] (zshb K):=by
 cases zjpb T.zfeb hfa;refine⟨_,(λs v=>?_),λbase kb _=>zwob T kb⟩;obtain⟨oc,od,kV,doc,pm,an,cdv,ct,osl,e,lk,hcd⟩:=T.zfeb.F.ex;rw[e];exact .of_eq rfl
theorem walk {l:ywl}{q:ytb}{loose:List Str}{XP:(Str->Option Value)->Heap->Prop}{YP:World->Heap->Prop}{d:DefRec}{K:Params->yba}(hn:l.most=some 63)(hdf:d.params.defaults=[])
  (hY:∀(w:World) (h:Heap),YP w h->(K w.params).In h)
  (F:∀(w:World) (mg:Str->Option Value) fa (h:Heap),(K w.params).In h->h.Ns yza mg->mg d.name=some (.ref fa) →
   ∃fd:ype,(∀(s:Shared) (u:Value),yqn s fd ⟨[u],[]⟩ [("_law_script",u)])∧∀base:Heap,(K w.params).In base->base.Ns yza mg->FnOk l.prog w (K w.params) mg base CX0 24 fa fd ["_law_script"] (zshb (K w.params))) :
  yip q loose XP YP l.row.toRowW d [] (λf vs=>yhp f vs) :=
 L2.zskb (n:=63) (k:=24) (x:="_law_script") (CX:=λ_=>CX0) (sp:=λw=>zshb (K w.params)) hn (by decide) hdf ⟨rfl,by decide,by decide⟩ hY F (λ_ _ a ns hl hO hS=>⟨a,ns,rfl,SqF.of hO hS,hl,λ_=>rfl⟩) λ_ _ _ _ _ z=>z
end K20
namespace PySem.W.Fast
def tw3961402237560758158:=()
def tw14330972043154320614:=()
def tw2089819899702043619:=()
def tw7970232366596468852:=()
def tw7600204715550955371:=()
def tw119322610649798723:=()
def tw2463771771430159992:=()
def tw16731380597256876207:=()
def tw15989650923854299420:=()
def tw6808479357614933252:=()
def tw8931208260297289447:=()
def tw433495887173806669:=()
def tw17082086073229823639:=()
def tw1536883253222533918:=()
def tw995413410199625586:=()
def tw18218854845556277799:=()
def tw17712131838486890860:=()
def tw15495369639646122314:=()
def tw15426749373957142087:=()
def tw7891906519385188515:=()
def tw9735652571356528207:=()
def tw8563500310066291634:=()
def tw4978624252307245691:=()
def tw18218987515322926208:=()
def tw5001975909736061521:=()
def tw16692184731798348907:=()
def tw10227856002400580844:=()
def tw12189566094273662147:=()
def tw15564460886680422012:=()
def tw15165513349215551259:=()
def tw156226322386428171:=()
def tw7825532675545429220:=()
def tw5769576877049320820:=()
def tw342969202887567026:=()
def tw3454489922131600441:=()
def tw446427088587427402:=()
def tw16107032007649513814:=()
def tw4418768518221195534:=()
def tw17997185570638315992:=()
def tw1053938934783767829:=()
def tw13517817560116287436:=()
def tw13659995304779836684:=()
def tw8171623048100165876:=()
def tw17460394241787084607:=()
def tw228888174486471240:=()
def tw10231826819577914855:=()
def tw4229118302168531067:=()
def tw10082666873301404354:=()
def tw16570087244777743371:=()
def tw17893977871122859049:=()
def tw1091929815418279638:=()
def tw6679068951824937251:=()
def tw12159305577797165032:=()
def tw10124343265500941571:=()
def tw17421273065842958328:=()
def tw2357068577585088007:=()
def tw8722956051256997359:=()
def tw4454012190563372812:=()
def tw7722159373078162151:=()
def tw9559609731543386725:=()
def tw17428683052325090600:=()
def tw16263689761046474796:=()
def tw16208564169506989477:=()
def tw13930579894452967094:=()
def tw2893357768943726131:=()
def tw13483259328294676850:=()
def tw5245004140232269426:=()
def tw4751017732302600315:=()
def tw11678787932391802752:=()
def tw8229198529774659052:=()
def tw4667140719483499381:=()
def tw14362700850757757091:=()
def tw8926073775553311044:=()
def tw9409081766937692615:=()
def tw6533036328017410205:=()
def tw9420174764856707315:=()
def tw9912077677674544690:=()
def tw17199599396083539030:=()
def tw187686631637766617:=()
def tw7937577785818839437:=()
def tw3765251360032584907:=()
def tw4472083320114856823:=()
def tw8372558935557616754:=()
def tw3465016923706379300:=()
def tw4030811279362813891:=()
def tw4491332421801577106:=()
def tw17166613637374263425:=()
def tw3530210322823750203:=()
def tw1777319808516111095:=()
def tw18392153852476766215:=()
def tw10336391798953186480:=()
def tw16649213590169193026:=()
def tw10583031225432819175:=()
def tw9911763221587630322:=()
def tw7906023952668052698:=()
def tw3933699259121644082:=()
def tw10805242787251588100:=()
def tw18360137743878710619:=()
def tw10246580913015537686:=()
def tw108803451656369404:=()
def tw2419076953970490662:=()
def tw17182384022376076886:=()
def tw777524412909858742:=()
def tw13027056065192069493:=()
def tw11045531868222314530:=()
def tw8970438063852342593:=()
def tw12399962137717048231:=()
def tw15775660716137661538:=()
def tw11845369801064132781:=()
def tw2066377660528557721:=()
def tw5995883646094991321:=()
def tw5828696271099742045:=()
def tw3900976290615578983:=()
def tw5706394936472302550:=()
def tw916499729556672396:=()
def tw14863867300285021017:=()
def tw11892914027680522558:=()
def tw5515650067510634859:=()
def tw6805566993651557829:=()
def tw8546773307007748648:=()
def tw2537923174150242724:=()
def tw15916849458982967506:=()
def tw6671560238464671515:=()
def tw6563463279243114259:=()
def tw12470134704692990865:=()
def tw8152261508909939060:=()
def tw14292344251768517483:=()
def tw3217628630199315881:=()
def tw9226170029543086408:=()
def tw1376278380526532088:=()
def tw10850352350972124585:=()
def tw7290194862762353870:=()
def tw16724917224711859463:=()
def tw9999405047373906099:=()
def tw1319371552942753997:=()
def tw11794679909721504938:=()
def tw17036744004274518457:=()
def tw2641807547354088417:=()
def tw9298038189352125570:=()
def tw18159893442649417491:=()
def tw12053603251878070642:=()
def tw11115504931340897924:=()
def tw15887128523341995456:=()
def tw1486973578227460874:=()
def tw18027628463780610520:=()
def tw14381217981709754787:=()
def tw3233003690907080805:=()
def tw1395774671153587789:=()
def tw2291754004106249309:=()
def tw9597333695799525133:=()
def tw11731900011753278653:=()
def tw15811174370608545192:=()
def tw2091538382118147930:=()
def tw10593399035139297263:=()
def tw4569056935078881296:=()
def tw486539386005963736:=()
def tw3692333099700452530:=()
def tw12908226575317425743:=()
def tw1905963083231436238:=()
def tw3516135050743118637:=()
def tw3570826649863453599:=()
def tw6926229535879507575:=()
def tw17793280351587606377:=()
def tw4524611463529094346:=()
def tw16452062564728437731:=()
def tw11180906021914274256:=()
def tw8247093641996116507:=()
def tw970997113283415418:=()
def tw12888831830346539421:=()
def tw12229705474300468692:=()
def tw8587864679309474066:=()
def tw11129492546056156129:=()
def tw17207028043974024667:=()
def tw17787616247436761009:=()
def tw13435598578608043675:=()
def tw13257496915034931213:=()
def tw13333756005891841995:=()
def tw1548497980056109415:=()
def tw17901216148253576144:=()
def tw15285254245925014470:=()
def tw5928171235104261749:=()
def tw7208316102537335514:=()
def tw3916074263036422948:=()
def tw12879030377957064989:=()
def tw4181178375668443750:=()
def tw12545598085373508584:=()
def tw17447826778800456178:=()
def tw17638397360087483515:=()
def tw18115831266829610804:=()
def tw7518659581733072091:=()
def tw16737424001334573431:=()
def tw12672004843367929422:=()
def tw13732176755067521917:=()
def tw1481079353696566020:=()
def tw5787644038411144595:=()
def tw13896305284483211430:=()
def tw4570482426765535856:=()
def tw7982825163377067228:=()
def tw7130396495401768368:=()
def tw18186658793099135183:=()
def tw10971179038178584837:=()
def tw11681716127097764062:=()
def tw10850455017191868199:=()
def tw7464968498343366927:=()
def tw1163063459611091993:=()
def tw17624443788833721556:=()
def tw7878220918867747635:=()
def tw1081428809065156391:=()
def tw6049772718978602881:=()
def tw8888007563020780650:=()
def tw6343169173239997014:=()
def tw15577205269654984101:=()
def tw7588158484794914216:=()
def tw14153105089982085790:=()
def tw4649710096062763994:=()
def tw13886676787367938984:=()
def tw16897981113999094725:=()
def tw13671010196861390083:=()
def tw155902481565938631:=()
def tw13679296886164688871:=()
def tw4148159687245428633:=()
def tw3229046291150078108:=()
def tw3713108483116346637:=()
def tw17954739349608872236:=()
def tw15667541991271530275:=()
def tw1799340052588239531:=()
def tw140657468735648923:=()
def tw6096112610960650021:=()
def tw11661870629592538793:=()
def tw6881691910655929734:=()
def tw11973545406612319443:=()
def tw13703465646225553200:=()
def tw3913253997905131272:=()
def tw5196275726662437040:=()
def tw6631880342271199761:=()
def tw2207591174843155203:=()
def tw16602334510292805686:=()
def tw13342022206323291368:=()
def tw12503637970140960883:=()
def tw17922185249813595203:=()
def tw11500066601617184066:=()
def tw6144797728092479506:=()
def tw16561168874825371645:=()
def tw8863393642188190601:=()
def tw5912591606474849659:=()
def tw4630154907524775741:=()
def tw17553165958141221594:=()
def tw8846974006506623558:=()
def tw102615468291815062:=()
def tw7205571338937377284:=()
def tw11540179421596036197:=()
def tw4905551872545895270:=()
def tw11840863671961739441:=()
def tw9802453326467288499:=()
def tw6509864714496933378:=()
def tw14027156770556281192:=()
def tw16341610297532024393:=()
def tw4196951306160847116:=()
def tw1164371956124481561:=()
def tw3541418509968409334:=()
def tw14455907475868293856:=()
def tw5577333563937027881:=()
def tw3723514987982803979:=()
def tw5812238628537717857:=()
def tw861169111558674003:=()
def tw10245187261312796520:=()
def tw15188892366306932921:=()
def tw2366321483600957126:=()
def tw10990813979880209075:=()
def tw17612961598999624462:=()
def tw8379724276810441165:=()
end PySem.W.Fast
open PySem PySem.W PyProof.Rows
set_option maxRecDepth 100000 in
set_option maxHeartbeats 0 in
theorem PySem.Challenge.cw_turnstack_k20_rules_that_may_be_put_holds : PySem.Challenge.rw_turnstack_k20_rules_that_may_be_put.Holds := by
  w_on; o_law; k_head; (case hw => w_witness2)
  k_fill
  refine K20.walk (l := PySem.Challenge.rw_turnstack_k20_rules_that_may_be_put) rfl rfl (fun w h Y => PySem.W.kIn_of Y) ?F
  case F =>
    intro w mg fa h KX G hmg
    refine' K20.all_mk hmg (K20.mkT KX G ⟨L2.gf_of KX G ?qda ?qea ?qfa ?qga, L2.gf_of KX G ?qha ?qia ?qja ?qka, L2.gf_of KX G ?qla ?qma ?qna ?qoa, L2.gf_of KX G ?qnc ?qoc ?qpc ?qqc, L2.gf_of KX G ?qrc ?qsc ?qtc ?quc, L2.gf_of KX G ?qvc ?qwc ?qxc ?qyc, L2.gf_of KX G ?qzc ?qad ?qbd ?qcd, L2.gf_of KX G ?qdd ?qed ?qfd ?qgd, L2.gf_of KX G ?qhd ?qid ?qjd ?qkd, L2.gf_of KX G ?qqd ?qrd ?qsd ?qtd, L2.gf_of KX G ?qud ?qvd ?qwd ?qxd, L2.gf_of KX G ?qyd ?qzd ?qae ?qbe, L2.gf_of KX G ?qce ?qde ?qee ?qfe, L2.gf_of KX G ?qge ?qhe ?qie ?qje, L2.gf_of KX G ?qke ?qle ?qme ?qne, L2.gf_of KX G ?qoe ?qpe ?qqe ?qre, L2.gf_of KX G ?qse ?qte ?que ?qve, L2.gf_of KX G ?qwe ?qxe ?qye ?qze, L2.gf_of KX G ?qaf ?qbf ?qcf ?qdf, L2.gf_of KX G ?qef ?qff ?qgf ?qhf, L2.gf_of KX G ?qif ?qjf ?qkf ?qlf, L2.gf_of KX G ?qmf ?qnf ?qof ?qpf, L2.gf_of KX G ?qqf ?qrf ?qsf ?qtf, L2.gf_of KX G ?quf ?qvf ?qwf ?qxf, L2.gf_of KX G ?qyf ?qzf ?qag ?qbg, L2.gf_of KX G ?qcg ?qdg ?qeg ?qfg, L2.gf_of KX G ?qgg ?qhg ?qig ?qjg, L2.gf_of KX G ?qkg ?qlg ?qmg ?qng, L2.gf_of KX G ?qog ?qpg ?qqg ?qrg, L2.gf_of KX G ?qsg ?qtg ?qug ?qvg, L2.gf_of KX G ?qwg ?qxg ?qyg ?qzg, L2.gf_of KX G ?qah ?qbh ?qch ?qdh, L2.gf_of KX G ?qeh ?qfh ?qgh ?qhh, L2.gf_of KX G ?qih ?qjh ?qkh ?qlh, L2.gf_of KX G ?qmh ?qnh ?qoh ?qph, L2.gf_of KX G ?qqh ?qrh ?qsh ?qth, L2.gf_of KX G ?quh ?qvh ?qwh ?qxh⟩ ?qaa ?qyh ?qzh ?qai ?qbi (L2.if_of ?qpa ?qqa ?qra ?qsa ?qta ?qci ?qdi) (L2.mf_of ?qua ?qva ?qwa ?qxa ?qya) (L2.mf_of ?qza ?qab ?qbb ?qcb ?qdb) (L2.mf_of ?qeb ?qfb ?qgb ?qhb ?qib) (L2.mf_of ?qjb ?qkb ?qlb ?qmb ?qnb) (L2.mf_of ?qob ?qpb ?qqb ?qrb ?qsb) ?qei ?qfi ?qba ?qgi ?qhi ?qii ?qji (L2.if_of ?qtb ?qub ?qvb ?qwb ?qxb ?qki ?qli) (L2.mf_of ?qyb ?qzb ?qac ?qbc ?qcc) (L2.mf_of ?qdc ?qec ?qfc ?qgc ?qhc) (L2.mf_of ?qic ?qjc ?qkc ?qlc ?qmc) ?qmi ?qni ?qoi ?qpi ?qqi ?qri ?qsi ?qti ?qui ?qvi ?qwi ?qxi ?qyi ?qca ?qzi ?qaj ?qbj ?qcj (L2.if_of ?qld ?qmd ?qnd ?qod ?qpd ?qdj ?qej) ?qfj ?qgj ?qhj ?qij ?qjj ?qkj ?qlj ?qmj ?qnj ?qoj ?qpj ?qqj ?qrj ?qsj ?qtj ?quj ?qvj ?qwj ?qxj ?qyj ?qzj ?qak ?qbk ?qck ?qdk ?qek ?qfk ?qgk ?qhk ?qik ?qjk ?qkk ?qlk ?qmk ?qnk ?qok)
    case qaa | qba | qca | qda | qea | qfa | qga | qha | qia | qja | qka | qla | qma | qna | qoa | qpa | qqa | qra | qsa | qta | qua | qva | qwa | qxa | qya | qza | qab | qbb | qcb | qdb | qeb | qfb | qgb | qhb | qib | qjb | qkb | qlb | qmb | qnb | qob | qpb | qqb | qrb | qsb | qtb | qub | qvb | qwb | qxb | qyb | qzb | qac | qbc | qcc | qdc | qec | qfc | qgc | qhc | qic | qjc | qkc | qlc | qmc | qnc | qoc | qpc | qqc | qrc | qsc | qtc | quc | qvc | qwc | qxc | qyc | qzc | qad | qbd | qcd | qdd | qed | qfd | qgd | qhd | qid | qjd | qkd | qld | qmd | qnd | qod | qpd | qqd | qrd | qsd | qtd | qud | qvd | qwd | qxd | qyd | qzd | qae | qbe | qce | qde | qee | qfe | qge | qhe | qie | qje | qke | qle | qme | qne | qoe | qpe | qqe | qre | qse | qte | que | qve | qwe | qxe | qye | qze | qaf | qbf | qcf | qdf | qef | qff | qgf | qhf | qif | qjf | qkf | qlf | qmf | qnf | qof | qpf | qqf | qrf | qsf | qtf | quf | qvf | qwf | qxf | qyf | qzf | qag | qbg | qcg | qdg | qeg | qfg | qgg | qhg | qig | qjg | qkg | qlg | qmg | qng | qog | qpg | qqg | qrg | qsg | qtg | qug | qvg | qwg | qxg | qyg | qzg | qah | qbh | qch | qdh | qeh | qfh | qgh | qhh | qih | qjh | qkh | qlh | qmh | qnh | qoh | qph | qqh | qrh | qsh | qth | quh | qvh | qwh | qxh | qyh | qzh | qai | qbi | qci | qdi | qei | qfi | qgi | qhi | qii | qji | qki | qli | qmi | qni | qoi => k_is
    case qpi | qqi | qri | qsi | qti | qui | qvi | qwi | qxi | qyi => first | k_is | kit_is | kernel_rfl
    case qzi | qaj | qbj | qcj | qdj | qej | qfj | qgj | qhj | qij | qjj | qkj | qlj | qmj | qnj | qoj | qpj | qqj | qrj | qsj | qtj | quj | qvj | qwj | qxj | qyj | qzj | qak => k_is
    case qbk => first | kernel_rfl | (unfold L2.TupK; kernel_rfl)
    case qck | qdk => k_is
    case qek => first | kernel_rfl | (unfold L2.TupK; kernel_rfl)
    case qfk => k_is
    case qgk => first | kernel_rfl | (unfold L2.TupK; kernel_rfl)
    case qhk => k_is
    case qik => first | kernel_rfl | (unfold L2.TupK; kernel_rfl)
    case qjk => k_is
    case qkk => first | kernel_rfl | (unfold L2.TupK; kernel_rfl)
    case qlk => k_is
    case qmk => first | kernel_rfl | (unfold L2.TupK; kernel_rfl)
    case qnk => k_is
    case qok => first | kernel_rfl | (unfold L2.TupK; kernel_rfl)
