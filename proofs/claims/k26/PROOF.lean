import PyProof.Rows.All
import Wide.All
import OpenK.AllK
import Wide.FinOn
import Lean
import PyProof.EqAt
import PyProof.EqKinds
import PyProof.TupleCall
import PyProof.StrLawsTight
import PyProof.StrLawsChain
import KE.KSortTup
import PyProof.EnumIter
import PyProof.EnumMake
import PyProof.EnumFor
import KE.KDictOf
import PyProof.AttrMissHeap
import PyProof.Walks
import PyProof.WalksMore
import PyProof.P3In
import PyProof.DictIter
import PyProof.SumWalkG
import PyProof.Rows.SumAny
import PyProof.FactsAll.subtypes_4
import PyProof.ListOps
import PyProof.ListRange
import PyProof.FactsAll.tuple
import PyProof.ListMulRoad
import PyProof.EnumIter
import PyProof.EnumMake
import PyProof.EnumFor
import PyProof.FactsAll.set_2
import PySem.Challenge.RW_turnstack_k26_what_happens
set_option Elab.async false
set_option linter.all false
set_option maxRecDepth 100000
inductive Ex2 {A1 A2 : Type} (p : A1 → A2 → Prop) : Prop
  | mk (a1 : A1) (a2 : A2) (h : p a1 a2) : Ex2 p
inductive Ex3 {A1 A2 A3 : Type} (p : A1 → A2 → A3 → Prop) : Prop
  | mk (a1 : A1) (a2 : A2) (a3 : A3) (h : p a1 a2 a3) : Ex3 p
inductive Ex4 {A1 A2 A3 A4 : Type} (p : A1 → A2 → A3 → A4 → Prop) : Prop
  | mk (a1 : A1) (a2 : A2) (a3 : A3) (a4 : A4) (h : p a1 a2 a3 a4) : Ex4 p
inductive Ex5 {A1 A2 A3 A4 A5 : Type} (p : A1 → A2 → A3 → A4 → A5 → Prop) : Prop
  | mk (a1 : A1) (a2 : A2) (a3 : A3) (a4 : A4) (a5 : A5) (h : p a1 a2 a3 a4 a5) : Ex5 p
inductive Ex6 {A1 A2 A3 A4 A5 A6 : Type} (p : A1 → A2 → A3 → A4 → A5 → A6 → Prop) : Prop
  | mk (a1 : A1) (a2 : A2) (a3 : A3) (a4 : A4) (a5 : A5) (a6 : A6) (h : p a1 a2 a3 a4 a5 a6) : Ex6 p
inductive Ex7 {A1 A2 A3 A4 A5 A6 A7 : Type} (p : A1 → A2 → A3 → A4 → A5 → A6 → A7 → Prop) : Prop
  | mk (a1 : A1) (a2 : A2) (a3 : A3) (a4 : A4) (a5 : A5) (a6 : A6) (a7 : A7) (h : p a1 a2 a3 a4 a5 a6 a7) : Ex7 p
inductive Ex8 {A1 A2 A3 A4 A5 A6 A7 A8 : Type} (p : A1 → A2 → A3 → A4 → A5 → A6 → A7 → A8 → Prop) : Prop
  | mk (a1 : A1) (a2 : A2) (a3 : A3) (a4 : A4) (a5 : A5) (a6 : A6) (a7 : A7) (a8 : A8) (h : p a1 a2 a3 a4 a5 a6 a7 a8) : Ex8 p
inductive Ex9 {A1 A2 A3 A4 A5 A6 A7 A8 A9 : Type} (p : A1 → A2 → A3 → A4 → A5 → A6 → A7 → A8 → A9 → Prop) : Prop
  | mk (a1 : A1) (a2 : A2) (a3 : A3) (a4 : A4) (a5 : A5) (a6 : A6) (a7 : A7) (a8 : A8) (a9 : A9) (h : p a1 a2 a3 a4 a5 a6 a7 a8 a9) : Ex9 p
inductive Ex10 {A1 A2 A3 A4 A5 A6 A7 A8 A9 A10 : Type} (p : A1 → A2 → A3 → A4 → A5 → A6 → A7 → A8 → A9 → A10 → Prop) : Prop
  | mk (a1 : A1) (a2 : A2) (a3 : A3) (a4 : A4) (a5 : A5) (a6 : A6) (a7 : A7) (a8 : A8) (a9 : A9) (a10 : A10) (h : p a1 a2 a3 a4 a5 a6 a7 a8 a9 a10) : Ex10 p
inductive Ex11 {A1 A2 A3 A4 A5 A6 A7 A8 A9 A10 A11 : Type} (p : A1 → A2 → A3 → A4 → A5 → A6 → A7 → A8 → A9 → A10 → A11 → Prop) : Prop
  | mk (a1 : A1) (a2 : A2) (a3 : A3) (a4 : A4) (a5 : A5) (a6 : A6) (a7 : A7) (a8 : A8) (a9 : A9) (a10 : A10) (a11 : A11) (h : p a1 a2 a3 a4 a5 a6 a7 a8 a9 a10 a11) : Ex11 p
inductive Ex12 {A1 A2 A3 A4 A5 A6 A7 A8 A9 A10 A11 A12 : Type} (p : A1 → A2 → A3 → A4 → A5 → A6 → A7 → A8 → A9 → A10 → A11 → A12 → Prop) : Prop
  | mk (a1 : A1) (a2 : A2) (a3 : A3) (a4 : A4) (a5 : A5) (a6 : A6) (a7 : A7) (a8 : A8) (a9 : A9) (a10 : A10) (a11 : A11) (a12 : A12) (h : p a1 a2 a3 a4 a5 a6 a7 a8 a9 a10 a11 a12) : Ex12 p
set_option maxHeartbeats 0
noncomputable section
open List renaming length_map→yaa,length_append→yfa,getElem?_eq_some_iff→yha,mem_singleton→yia,length_cons→yka,mem_cons→yma,getElem?_map→yna,size_toArray→yoa,mem_of_getElem?→ypa,mem_cons_self→yqa,mem_cons_of_mem→ysa,take_of_length_le→yta,map_append→yua,getD_eq_getElem?_getD→yxa,getElem?_append_right→yab,length_take→ycb,take_add_one→yfb,getElem?_eq_getElem→ylb,map_cons→yob,replicate→ypb,getElem?_cons_succ→yrb,mem_append→ysb,length_singleton→yub,getElem?_append_left→ywb,mem_map→yac,cons_ne_nil→ybc,mem_append_right→yic,map_set→ykc,Nodup→ylc,range→yuc,append_nil→yad,length_set→ycd,append_assoc→ydd,length_drop→yjd,getElem?_of_mem→ynd,nodup_cons→ysd,length_replicate→ytd,getElem?_cons_zero→yyd,length_range→yke,sum_cons→yme,getElem?_set_self→yoe,lookup→yqe,nodup_append→yue,map_eq_nil_iff→yve,getElem?_eq_none→yze,getElem?_drop→ybf,lookup_cons→yef,not_mem_nil→yff,all_eq_true→ybg,cons_append→ydg,mem_or_eq_of_mem_set→ykg,mem_append_left→ylg,getElem?_set_ne→ymg,length_nil→ywg,map_nil→yah,length→ybh,length_eq_zero_iff→ygh,filter_cons_of_pos→yjh,filter_cons_of_neg→ykh,filterMap_cons→ydi,getElem?_replicate→yoi,findIdx?_eq_some_iff_getElem→ysi,append_eq_nil_iff→ybj,eraseIdxIfInBounds_toArray→yjj,flatten_cons→yoj,drop_zero→yqj,drop_drop→yrj,sum_nil→yvj,length_filter_le→ywj,set_append_right→yxj,replicate_succ'→yek,map_take→ygk,map_drop→yhk,length_eraseIdx_of_lt→ycl,filterMap_map→ygl,pairwise_cons→yll,mem_range→ynl,findIdx?_eq_none_iff→yql,pairwise_iff_getElem→ysl,drop_left→yvl,getElem?_take_of_lt→yem,take_sublist→yfm,pairwise_singleton→ycn,getElem_mem→yen,take_length→yhn,pairwise_lt_range→ykn,drop_of_length_le→yln,mem_filter→ynn,of_mem_zip→ysn,getElem?_toArray→ydo,map_map→yeo,range_succ→yko,perm_append_comm→ylo,filterMap_append→ymo,nil_append→yno,contains_iff_mem→yoo,set_append_left→yso,take_zero→yyo,nodup_nil→yzo,getElem?_range→ycp,toList_toArray→ydp,flatten_append→yep,filter_eq_self→yfp,length_pos_iff→ygp,mem_filterMap→ykp,any_cons→yop,Perm→ytp,map_filterMap→yup,filter_append→yyp,foldl_append→ygq,ext_getElem?→yjq,filter_congr→yoq,getElem?_inj→ypq,perm_middle→yer
open PySem renaming wpAny_bind→yba,wpAny_pure→yea,sizeLine→yza,mainGlobals→ybb,wpAny_setState_of→yjb,Program→yvb,boot_len→yyb,wpAny_holding→ycc,strKind→ydc,SetTable→ymc,codeAny_builtin→ypc,intKind→yyc,wpAny_askSetting→yzc,NameKind→yfd,starEach→yhd,wpAny_newObj_type→ymd,wpAny_call_entry→yxd,wpAny_truthy_bool→yhe,compareOp→yle,wpAny_mono→ype,unsupported→yte,plainId_quiet→ywe,Builtin→yye,wpAny_ite_split→yaf,pickOrder→ygf,wpAny_callSpecial?_slot→yhf,fits_of_scanBound→ynf,wpAny_storeSet_of→yof,scanBound→yuf,FuncData→yxf,setsByText→ycg,codeAny_mono→yeg,wpAny_setField_rec→yfg,wpAny_passesOwn→yng,slot_dict_getitem→ytg,mem_of_lookup→ych,wpAny_getItem_str_slice→yfh,binaryOp→ysh,codeAny_call_builtin→ywh,wpAny_runValue→yzh,relayAll→ybi,bootBuiltins→ygi,wpAny_typeOf→yii,wpAny_Call_Name_kw→yni,putSet_of→yri,wpAny_updateSeq→ywi,codeAny→yfj,wpAny_sequenceKey→yhj,sliceBounds→yij,wpAny_rule→ykj,setAddHashed→ysj,weight_type_call_type→ytj,noFill_tuple_add→yyj,setNext→yzj,attributeBase→yfk,call_meets→yik,wpAny_execs_nil→ykk,letOwnedTupleGo→ylk,post_val_or_str→yok,ElemsOf→ypk,codeAny_of_tree→yqk,wpAny_setEntries_of→yrk,wpAny_pyIter_tuple→ydl,assignEach→yyl,wpAny_load→yzl,wpAny_pyIter_list→yam,foldedSetIterable→ybm,wpAny_call→ydm,typeIs_str→ygm,wpAny_comprehension_free→yhm,wpAny_pyIter_slot→yjm,holding→ysm,behindInMarks→ytm,keywordEach→yum,seq_tuple_add→yvm,storeSet→ywm,wpAny_newList→yzm,setWalkUnseen→yan,check_set_init_1→yfn,Within→ymn,concat_meets→ytn,getItem→yun,hashByValue_scannable→yao,builtinLookup_eq_fast→yco,sliceRange_one→yto,isSubtype_type→yuo,entryFor_alias→yvo,wpAny_standAt→yjp,setField→yrp,seqItems?→ysp,setMerge→ywp,BindsTo→ycq,Keyword→ydq,callerA→yeq,relabel→yfq,isInstance→yhq,sub_set_self→ytq,Operator→yfr,backToKw→ygr,swapsWith→yhr,getMethod→yir,notedBy→ykr,newFields→ynr,collect→yor,updateSeq→ypr,call→ywr
open PySem.Heap renaming get?_push_of_some→yca,get?_push_size→yla,lt_size→yra,get?_update_other→yqc,get?_update_self→ywc,size_push→ykd,SameBut→yrd
open PySem.W renaming Frag→yda,nsIn→yhb,findIn→ymb,kitOne→yqb,mg_of→yzb,mg_none_of→ync,kia_one→yde,emptyDict→yie,keepIn→ymf,instObj→ysf,plainGet→yag,hasDictIn→yog,fnOf→yzg,kia_tup→yph,plainOver→yth,codeIn→yxh,specialIn→ygj,plainGet_of→ynk,isFn→yel,callWith_K→yfl,lookIn→yol,methodObj→yxl,kitx_list→ycm,cellsFrom_some→yin,takerIn→yon,makesIn→ypn,takesIn→yqn,methodCall_KW→yrn,OpenLaw→yvn,mroIn→ylp,kitx_tuple→ymp,kitx_none→yzp,kitx_bool→yaq,kitx_dict→ybq,handedIn→yzq,kitx_int→yar,kitx_str→ybr,kitAny→yur,WalkO→yxr
open Array renaming length_toList→yga,getElem?_toList→ydb,getElem?_eq_getElem→ynb,getD_eq_getD_getElem?→yoc,toArray_toList→yae,getElem?_eq_none→yce,toList_append→yvf,toList_inj→yci,toList_push→ylj,size_append→ynj,toList_extract→yck,size_map→yul,size_eq_one_iff→yfo,getElem_mem→ykq
open Nat renaming le_refl→yja,lt_of_lt_of_le→yva,ne_of_lt→yya,le_trans→ykb,zero_le→ytb,lt_succ_of_lt→yzd,lt_irrefl→yfe,le_of_lt→yge,lt_succ_self→ydf,add_sub_cancel_left→yjf,ne_of_gt→ylf,le_succ_of_le→yrf,le_succ→yhg,sub_self→yli,lt_or_ge→yuj,min_eq_right→yak,add_le_add_right→ydk,min_eq_left→yyk,eq_zero_or_pos→ykl,lt_trichotomy→ylm,not_lt_zero→yio,sub_zero→yqo,mod_lt→yiq,le_of_eq→yqq
open PySem.Str renaming join→ywa,ofString→yhi,length_append→ynq,empty→yjr,length→yvr
open PySem.F renaming called_set→yeb,plainAttrs_list→yec,plainAttrs_str→ygc,slot_list_append→yod,type_list_append→ypd,slot_str_join→yvd,type_str_join→ywd,plain_extend_loop→yjg,args_tuple_add_2→ypg,entry_tuple_add→ydh,plain_list_iadd→yhh,slot_tuple_add→ylh,slot_set_iter→yoh,entry_type_call→yui,typeCall_set_1→yzi,entry_set_init→yaj,slot_str_split→ycj,type_str_split→ydj,plain_proto_collect→ytk,sub_tuple_frozenset→yvk,slot_set_or→ywk,args_str_split_2→yhl,entry_str_split→yim,slot_list_insert→yqm,type_list_insert→yrm,args_set_iter_1→yxm,slot_str_split→ydn,plain_set_new→ybo,sub_tuple_set→yho
open Bool renaming false_ne_true→ygb,and_eq_true→yhc,false_and→ygg,eq_false_iff→yxg,true_and→yvh,false_eq_true→ypi,eq_iff_iff→ymk,and_false→yrl,true_or→ypo,or_false→ynp,false_or→yxp
open Int renaming toNat_natCast→yib,emod_lt_of_pos→ymh,emod_nonneg→yxi,natAbs_natCast→yml
open PySem.SetTable renaming below→yxb,grown→ygd,sizeAbove→ycf,bits→yih,laid→yqi,fits→yvi,turns→ytl,insertAt→ymm,orStandIn→ypp,fill→yvp,layClean→ymq,has→yyq,relaid→ymr,runEnd→ysr,slot→yzr,road→yas
open Option renaming toList_some→yfc,map_eq_some_iff→yxc,toList_none→yqp,getD_none→ycr
open PyProof.Rows.F renaming plain_set_update_loop→yjc,entry_set_update_loop→yee
open PySem.SetTable.layClean renaming free→yrc
open PyProof.Rows renaming boot_tuple→ysc,slot_tuple_getitem→ybd,boot_isinstance→yed,IntsAre→yeh,callWith_type1→ynh,boot_sorted→yfi,subscriptTail_builtinR→yyi,entry_proto_collect'→ybk,sortedS→yuk,StrsAre→ypl,boot_list→ypm,entry_list_iadd'→ygn,entry_list_sort→ygo,boot_str→yro,slot_list_sort→ywo,args_list_sort→yxo,AllBare→yap,plain_sorted→yuq,entry_sorted→yvq,args_sorted1→ywq,sortedAll→yrr,boot_bool→ytr
open PySem.Around renaming under_plainId→ytc,under_plain→yil,under→yrq
open Option.some renaming inj→yvc
open PySem.Builtin.Str renaming occurrences→yid,strSliceIndices→ywf,partsBetween→yrg,strKind→yei
open Ne renaming symm→yqd
open PySem.Builtin.List renaming listExtendWith→yud,listSameRef→yug,listLengthHint→ysk
open PySem.SeqAt renaming shaped→ybe,EqAt→yne,canLay_of_shaped→yjn,readOf→yxq
open PySem.PyData renaming eqv→yje,canLay0→yxe,eqvAll→ykf,depthAll→yvg,canLayAll0→yyg,depth→ymi
open PySem.Obj renaming mapSeq→yre,putSet→ypf
open PySem.Heap.SameBut renaming update→yse,refl→ysg
open PySem.Builtin.Frozenset renaming updateFrom→yif,isAnySet→yyf,copyOf→yki,sizeOf→ykm,baseOf→ynm,slot0→yym,slot1→ybn
open PySem.SetTable.below renaming go→yqf
open PySem.Txt renaming split→ytf,slice→ywn,slice_le→yxn
open False renaming elim→yzf
open PySem.Builtin.Slice renaming slicePlaces→yig,sliceAdjust→yyh,sliceApplied→yal
open PySem.Builtin.Tuple renaming tupleExact→yqg,tupleItemsOf→ybl
open PySem.PassesOwn renaming never→yqh
open PySem.Value renaming isStrOf→yrh,isInt→yej,isStrOf_shape→yjk,isInt_shape→ywl
open PySem.Shared renaming TypeIs→yuh
open PySem.Calls renaming call_function_entry→yai,Name_function_global→yzk
open PyProof.Rows.KTD renaming datLooks→yji,datumAt→ybp,TextTab→ylr,tabLook→yqr,Dat→yyr
open PySem.Code renaming quiet_builtin→yti,isFrame→ysq
open PySem.MeetsSeq renaming plain_remove_loop→ymj
open List.Perm renaming refl→ypj,eq_of_pairwise→yom,append→ydr
open List.cons renaming injEq→yxk
open PySem.pickOrder renaming go→yjl
open PySem.StrLaws renaming glued_eq_join→yyn
open PySem.ElemsOf renaming perm→yzn
open List.Pairwise renaming sublist→yjo
open PySem.SeqAt.EqAt renaming int_str→yhp,str_int→yip
open PySem.SetTable.probe renaming go→ylq
open PyProof.Rows.IsTup renaming new→ybs
namespace L2
open PySem PySem.Spec PyProof.Rows
abbrev Key:=Sum Int Str
def zurb:Key->Value->Bool
 | .inl k,v=>yej k v
 | .inr x,v=>yrh x v
def keyH (w:World):Key->Int
 | .inl k=>hashInt k
 | .inr x=>hashStr w x
theorem zqd:∀{k:Key} {v:Value},zurb k v=true->(Ex2 λi t=>k=Sum.inl i∧v=Value.int i t)∨(Ex2 λx t=>k=Sum.inr x∧v=Value.str x t)
 | .inl i,v,h=>by
  obtain⟨t,e⟩:=ywl (k:=i) (v:=v) h;exact .inl ⟨i,t,rfl,e⟩
 | .inr x,v,h=>by
  obtain⟨t,e⟩:=yjk (x:=x) (v:=v) h;exact .inr ⟨x,t,rfl,e⟩
theorem ztrb (a b:Int):decide ((Sum.inl a:Key)=Sum.inl b)=(a==b):=by
 by_cases e:a=b
 ·subst e;simp
 ·have h:¬ (Sum.inl a:Key)=Sum.inl b:=λq=>e (Sum.inl.inj q);rw[decide_eq_false h];exact (beq_eq_false_iff_ne.mpr e).symm
theorem zqrb (a b:Str):decide ((Sum.inr a:Key)=Sum.inr b)=decide (a=b):=by
 by_cases e:a=b
 ·subst e;simp
 ·have h:¬ (Sum.inr a:Key)=Sum.inr b:=λq=>e (Sum.inr.inj q);rw[decide_eq_false h,decide_eq_false e]
theorem zsrb (a:Int)(b:Str):decide ((Sum.inl a:Key)=Sum.inr b)=false:=decide_eq_false (λq=>nomatch q)
theorem zrrb (a:Str)(b:Int):decide ((Sum.inr a:Key)=Sum.inl b)=false:=decide_eq_false (λq=>nomatch q)
def znhb (prog:yvb)(w:World):PySem.KeyKind prog w Key where
 is:=zurb
 hash:=keyH w
 inj:=λv a b ha hb=>by
  rcases zqd ha with⟨i,t,rfl,rfl⟩|⟨x,t,rfl,rfl⟩
  ·rcases zqd hb with⟨j,u,rfl,e⟩|⟨y,u,rfl,e⟩
   ·injection e with e1 _;rw[e1]
   ·exact nomatch e
  ·rcases zqd hb with⟨j,u,rfl,e⟩|⟨y,u,rfl,e⟩
   ·exact nomatch e
   ·injection e with e1 _;rw[e1]
 byValue:=λk v h=>by
  rcases zqd h with⟨i,t,rfl,rfl⟩|⟨x,t,rfl,rfl⟩<;>rfl
 pyHash:=λhv h=>by
  rcases zqd hv with⟨i,t,rfl,rfl⟩|⟨x,t,rfl,rfl⟩
  ·exact wpAny_pyHash_int h
  ·exact wpAny_pyHash_str h
 eqBool:=λhu hv h=>by
  rcases zqd hu with⟨i,t,rfl,rfl⟩|⟨x,t,rfl,rfl⟩
  ·rcases zqd hv with⟨j,u,rfl,rfl⟩|⟨y,u,rfl,rfl⟩
   ·rw[ztrb] at h;exact wpAny_eqBool_int h
   ·rw[zsrb] at h;exact yhp i t y u _ _ _ _ h
  ·rcases zqd hv with⟨j,u,rfl,rfl⟩|⟨y,u,rfl,rfl⟩
   ·rw[zrrb] at h;exact yip x t j u _ _ _ _ h
   ·rw[zqrb] at h;exact wpAny_eqBool_str h
 «strs»:=λk x t v h=>by
  rcases zqd h with⟨i,u,rfl,e⟩|⟨y,u,rfl,e⟩
  ·exact nomatch e
  ·injection e with e1 _
   subst e1;cases v<;>rfl
end L2
namespace L2
open PySem PySem.Spec PyProof.Rows
inductive V where
 | non|bl (b:Bool)|int (i:Int)|str (x:Str)|byt (b:Array UInt8)|flt (b:UInt64)|ref (a:Addr)|ty (n:String)
 deriving DecidableEq
def RelV:V->Value->Prop
 | .non,u=>u=Value.none
 | .bl b,u=>u=Value.bool b
 | .int i,u=>∃t,u=Value.int i t
 | .str x,u=>∃t,u=Value.str x t
 | .byt b,u=>∃t,u=Value.bytes b t
 | .flt b,u=>∃t,u=Value.float b t
 | .ref a,u=>u=Value.ref a
 | .ty n,u=>u=Value.type n
abbrev Vals:List V->List Value->Prop:=Paired RelV
theorem Vals.length {xs:List V}{us:List Value}(r:Vals xs us):xs.length=us.length:=Paired.length r
theorem Vals.get:∀{xs:List V} {us:List Value} {i:Nat} {x:V},Vals xs us->xs[i]?=some x->∃u,us[i]?=some u∧RelV x u
 | _,_,_,_,.nil,e=>by simp at e
 | _,_,0,_,.cons r _,e=>by simp at e;subst e;exact⟨_,rfl,r⟩
 | _,_,i+1,x,.cons _ t,e=>by
  obtain⟨u,h1,h2⟩:=Vals.get (i:=i) (x:=x) t (by simpa using e);exact⟨u,by simpa using h1,h2⟩
theorem Vals.set {x:V}{u:Value}(r:RelV x u):∀{xs:List V} {us:List Value} (i:Nat),Vals xs us->Vals (xs.set i x) (us.set i u)
 | _,_,_,.nil=>.nil
 | _,_,0,.cons _ t=>.cons r t
 | _,_,i+1,.cons q t=>.cons q (Vals.set r i t)
theorem Vals.append:∀{xs ys:List V} {us ws:List Value},Vals xs us->Vals ys ws->Vals (xs++ys) (us++ws)
 | _,_,_,_,.nil,s=>s
 | _,_,_,_,.cons r t,s=>.cons r (Vals.append t s)
theorem Vals.take:∀{xs:List V} {us:List Value} (n:Nat),Vals xs us->Vals (xs.take n) (us.take n)
 | _,_,0,_=>.nil
 | _,_,_+1,.nil=>.nil
 | _,_,n+1,.cons r t=>.cons r (Vals.take n t)
theorem Vals.drop:∀{xs:List V} {us:List Value} (n:Nat),Vals xs us->Vals (xs.drop n) (us.drop n)
 | _,_,0,r=>r
 | _,_,_+1,.nil=>.nil
 | _,_,n+1,.cons _ t=>Vals.drop n t
def RelO:Option V->Option Value->Prop
 | some v,some u=>RelV v u
 | none,none=>True
 | _,_=>False
def KV {κ:Type}:List (κ×V)->List (κ×Value)->Prop:=Paired λ(p:κ×V) (q:κ×Value)=>p.1=q.1∧RelV p.2 q.2
def kV:Key->V
 | .inl i=>.int i
 | .inr x=>.str x
inductive HO where
 | lst (xs:List V)
 | tup (xs:List V)
 | dK (kvs:List (Key×V))|dT (kvs:List (List Key×V))
 | set (S:Int->Bool) (n:Nat)
 | ins (C dx:Addr) (fs:List (Str×V))
 | own (x:Addr)
 | xd (fs:List (Str×V))
 | met (f x:Addr)
 | rng (lo hi:Int)
 | frz (o:Obj) (u:HO)
 | tbl (ps:Array Value)
 | ext (φ:Heap->Prop)
abbrev Hp:=Addr->Option HO
def upd (H:Hp)(a:Addr)(o:HO):Hp:=λb=>if b=a then some o else H b
theorem zia {H:Hp}{a:Addr}{o:HO}:upd H a o a=some o:=by unfold upd;rw[if_pos rfl]
theorem zlb {H:Hp}{a b:Addr}{o:HO}(h:b≠a):upd H a o b=H b:=by unfold upd;rw[if_neg h]
theorem zmk {H:Hp}{a:Addr}{o u:HO}:upd (upd H a o) a u=upd H a u:=by
 funext b;unfold upd;split<;>rfl
theorem zpn {H:Hp}{a b:Addr}{o u:HO}(h:H a=some o)(h':H b=some u)(d:o≠u):a≠b:=by
 intro e;subst e;rw[h] at h';exact d (yvc h')
theorem zka {H:Hp}{a b:Addr}{o:HO}(h:H a=some o)(h':H b=none):a≠b:=by
 intro e;subst e;rw[h] at h';cases h'
section
variable (P:yvb)(w:World)
def znj (H:Hp)(h:Heap)(a:Addr):HO->Prop
 | .lst xs=>xs.length≤yza∧Ex2 λ(its:List Value) (n:Nat)=>Vals xs its∧h.get? a=some { cls:=.type "list",data:=.seq its.toArray n }
 | .tup xs=>xs.length≤yza∧∃its:List Value,Vals xs its∧IsTup h a its.toArray
 | .dK kvs=>kvs.length≤yza∧(a==sysModules)=false∧∃vs,KV kvs vs∧h.DictOf (znhb P w) a vs
 | .dT kvs=>kvs.length≤yza∧(a==sysModules)=false∧∃xs:List (List Key×Addr×Value),
   Paired (λ(p:List Key×V) (q:List Key×Addr×Value)=>p.1=q.1∧H q.2.1=some (.tup (p.1.map kV))∧RelV p.2 q.2.2) kvs xs ∧
   Ex3 λo es ep=>h.get? a=some o∧o.ExactDict∧o.data = .dict es ep∧es.toList=xs.map (entryOfKey (tupleKind (znhb P w)))∧(xs.map (·.1)).Nodup
 | .set S n=>h.SetOf (intKind P w) a S n
 | .ins C dx fs=>H dx=some (.own a)∧fs.length≤1000∧dx≠a∧h.get? a=some (ysf C dx) ∧
   ∃mA,h.Ns1 dx mA∧(∀f,RelO (fs.lookup f) (mA f))∧ymn mA (fs.map (·.1))
 | .own _=>∃o,h.get? a=some o
 | .xd fs=>∃mA,h.Ns1 a mA∧∀f,RelO (fs.lookup f) (mA f)
 | .rng lo hi=>Ex3 λt u v=>h.get? a=some { cls:=.type "range",data:=.fields #[.int lo t,.int hi u,.int 1 v] }
 | .frz o u=>h.get? a=some o∧znj H h a u
 | .tbl ps=>h.get? a=some { cls:=.none,data:=.fields ps }
 | .met f x=>h.get? a=some (yxl (.ref f) (.ref x))
 | .ext φ=>φ h∧(∃o,h.get? a=some o)∧∀h1 h2:Heap,φ h1->(∀o,h1.get? a=some o->h2.get? a=some o)->φ h2
def HOk (H:Hp)(h:Heap):Prop:=∀a o,H a=some o->znj P w H h a o
end
section
variable {P:yvb}{w:World}{H H':Hp}{h h':Heap}{a:Addr}{o:HO}
theorem znj.lt (x:znj P w H h a o):a<h.objs.size:=by
 cases o with
 | lst xs=>obtain⟨_,_,_,_,e⟩:=x;exact yra e
 | tup xs=>obtain⟨_,_,_,p⟩:=x;exact p.lt
 | dK kvs=>obtain⟨_,_,_,_,o,_,_,e,_⟩:=x;exact yra e
 | dT kvs=>obtain⟨_,_,_,_,o,_,_,e,_⟩:=x;exact yra e
 | set S n=>obtain⟨o,_,_,_,e,_⟩:=x;exact yra e
 | ins C dx fs=>obtain⟨_,_,_,e,_⟩:=x;exact yra e
 | own y=>obtain⟨_,e⟩:=x;exact yra e
 | xd fs=>obtain⟨_,⟨_,_,_,e,_⟩,_⟩:=x;exact yra e
 | rng lo hi=>obtain⟨_,_,_,e⟩:=x;exact yra e
 | frz ob u=>obtain⟨e,_⟩:=x;exact yra e
 | tbl ps=>exact yra (show h.get? a=some _ from x)
 | met f y=>exact yra (show h.get? a=some _ from x)
 | ext φ=>obtain⟨_,⟨_,e⟩,_⟩:=x;exact yra e
theorem Paired.mapP {α β:Type}{F G:α->β->Prop}:∀{l₁:List α} {l₂:List β},Paired F l₁ l₂->(∀a b,F a b->G a b)->Paired G l₁ l₂
 | _,_,.nil,_=>.nil
 | _,_,.cons r t,f=>.cons (f _ _ r) (Paired.mapP t f)
theorem znj.stay (x:znj P w H h a o)(k:∀b u,(b=a∨H b=some (.own a))->h.get? b=some u->h'.get? b=some u)
  (ho:∀b,H b=some (.own a)->H' b=some (.own a)) (ht:∀b xs,H b=some (.tup xs)->H' b=some (.tup xs)):znj P w H' h' a o:=by
 induction o with
 | lst xs=>obtain⟨z,its,n,r,e⟩:=x;exact⟨z,its,n,r,k _ _ (.inl rfl) e⟩
 | tup xs=>obtain⟨z,its,r,ob,e,c⟩:=x;exact⟨z,its,r,ob,k _ _ (.inl rfl) e,c⟩
 | dK kvs=>obtain⟨z,y,vs,r,ob,es,ep,e,c⟩:=x;exact⟨z,y,vs,r,ob,es,ep,k _ _ (.inl rfl) e,c⟩
 | dT kvs =>
  obtain⟨z,y,xs,r,ob,es,ep,e,c⟩:=x;exact⟨z,y,xs,Paired.mapP r λp q z=>⟨z.1,ht _ _ z.2.1,z.2.2⟩,ob,es,ep,k _ _ (.inl rfl) e,c⟩
 | set S n=>obtain⟨ob,es,ep,t,e,c⟩:=x;exact⟨ob,es,ep,t,k _ _ (.inl rfl) e,c⟩
 | ins C dx fs =>
  obtain⟨d,z,ne,e,mA,⟨od,es,ep,e2,c⟩,r⟩:=x;exact⟨ho _ d,z,ne,k _ _ (.inl rfl) e,mA,⟨od,es,ep,k _ _ (.inr d) e2,c⟩,r⟩
 | own y=>obtain⟨ob,e⟩:=x;exact⟨ob,k _ _ (.inl rfl) e⟩
 | xd fs=>obtain⟨mA,⟨od,es,ep,e,c⟩,r⟩:=x;exact⟨mA,⟨od,es,ep,k _ _ (.inl rfl) e,c⟩,r⟩
 | rng lo hi=>obtain⟨t,u,v,e⟩:=x;exact⟨t,u,v,k _ _ (.inl rfl) e⟩
 | frz ob u ih=>obtain⟨e,q⟩:=x;exact⟨k _ _ (.inl rfl) e,ih q⟩
 | tbl ps =>
  have e:h.get? a=some { cls:=.none,data:=.fields ps }:=x;show h'.get? a=some { cls:=.none,data:=.fields ps }
  exact k a _ (.inl rfl) e
 | met f y =>
  have e:h.get? a=some (yxl (.ref f) (.ref y)):=x;show h'.get? a=some (yxl (.ref f) (.ref y))
  exact k a _ (.inl rfl) e
 | ext φ=>obtain⟨p,⟨o,e⟩,st⟩:=x;exact⟨st _ _ p λo q=>k _ _ (.inl rfl) q,⟨o,k _ _ (.inl rfl) e⟩,st⟩
theorem HOk.lt (x:HOk P w H h)(e:H a=some o):a<h.objs.size:=(x a o e).lt
theorem HOk.fresh (x:HOk P w H h)(e:h.objs.size≤a):H a=none:=by
 cases q:H a with
 | none=>rfl
 | some u=>exact absurd (yva (x.lt q) e) (yfe _)
theorem HOk.kept (x:HOk P w H h)(k:∀b u,h.get? b=some u->h'.get? b=some u):HOk P w H h':=λa o e =>
 (x a o e).stay (λb u _ q=>k b u q) (λ_ q=>q) λ_ _ q=>q
theorem HOk.laid (x:HOk P w H h)(k:∀b u,h.get? b=some u->h'.get? b=some u)(hp:h.objs.size≤a)(new:znj P w (upd H a o) h' a o):HOk P w (upd H a o) h':=λb u e=>by
 have hn:=x.fresh hp
 by_cases hb:b=a
 ·subst hb;rw[zia] at e;cases e;exact new
 ·rw[zlb hb] at e;exact (x b u e).stay (λc v _ q=>k c v q) (λc q=>by rw[zlb (zka q hn)];exact q) λc xs q=>by rw[zlb (zka q hn)];exact q
end
def Rd (H:Hp)(a:Addr)(u:HO):Prop:=H a=some u∨∃o,H a=some (.frz o u)
theorem Rd.ok {P:yvb}{w:World}{H:Hp}{h:Heap}{a:Addr}{u:HO}(r:Rd H a u)(x:HOk P w H h):znj P w H h a u:=by
 rcases r with r|⟨o,r⟩
 ·exact x a u r
 ·obtain⟨_,q⟩:=x a _ r;exact q
def Mut:Option HO->Prop
 | some (.lst _)=>True
 | some (.dK _)=>True
 | some (.dT _)=>True
 | some (.set _ _)=>True
 | some (.ins _ _ _)=>True
 | some (.ext _)=>True
 | _=>False
section
variable {P:yvb}{w:World}{H:Hp}{h h':Heap}{x e:Addr}{o':HO}
theorem HOk.write (ok:HOk P w H h)(mu:Mut (H x))(he:e=x∨H e=some (.own x))(k:∀b u,b≠e->h.get? b=some u->h'.get? b=some u)(heo:∃u,h'.get? e=some u)
  (new:znj P w (upd H x o') h' x o'):HOk P w (upd H x o') h':=λb u q=>by
 have nown:∀c y,H c=some (.own y)->c≠x:=λc y r z=>by subst z;rw[r] at mu;exact mu
 have ntup:∀c xs,H c=some (.tup xs)->c≠x:=λc xs r z=>by subst z;rw[r] at mu;exact mu
 by_cases hb:b=x
 ·subst hb;rw[zia] at q;cases q;exact new
 ·rw[zlb hb] at q
  by_cases hbe:b=e
  ·have q':H b=some (.own x):=by
    rcases he with z|z
    ·exact absurd (hbe.trans z) hb
    ·rw[hbe];exact z
   rw[q] at q';cases q';obtain⟨v,hv⟩:=heo;exact⟨v,by rw[hbe];exact hv⟩
  ·refine (ok b u q).stay (λc v hc r=>k c v ?_ r) (λc r=>by rw[zlb (nown c b r)];exact r) λc xs r=>by rw[zlb (ntup c xs r)];exact r
   rcases hc with rfl|hc
   ·exact hbe
   ·rintro rfl
    rcases he with z|z
    ·exact nown c b hc z
    ·rw[hc] at z;cases z;exact hb rfl
end
structure Un (fs ex:List Addr)(H H':Hp)(h h':Heap):Prop where
 keep:∀b o,h.get? b=some o->H b=none->b∉fs->b∉ex->h'.get? b=some o
 slot:∀b o,h.get? b=some o->H b=none->b∈fs->b∉ex->∃sl,h'.get? b=some { o with slots:=sl }
 free:∀b o,h.get? b=some o->H b=none->b∉ex->H' b=none
 there:∀b o,h.get? b=some o->b∉ex->∃o',h'.get? b=some o'
 tups:∀b xs,H b=some (.tup xs)->H' b=some (.tup xs)
 frzs:∀b o u,H b=some (.frz o u)->H' b=some (.frz o u)
 tbls:∀b ps,H b=some (.tbl ps)->∃more,H' b=some (.tbl (ps++more))
section
variable {fs fs' ex ex':List Addr}{H H1 H2:Hp}{h h1 h2 h':Heap}{a x e:Addr}{o:HO}
theorem Un.any (u:Un fs ex H H1 h h1){b:Addr}{ob:Obj}(q:h.get? b=some ob)(n:H b=none)(hx:b∉ex):∃sl,h1.get? b=some { ob with slots:=sl }:=by
 by_cases hb:b∈fs
 ·exact u.slot b ob q n hb hx
 ·exact⟨ob.slots,u.keep b ob q n hb hx⟩
theorem Un.kept (k:∀b u,h.get? b=some u->h'.get? b=some u):Un fs ex H H h h' :=
 ⟨λb ob q _ _ _=>k b ob q,λb ob q _ _ _=>⟨ob.slots,k b ob q⟩,λ_ _ _ n _=>n,λb ob q _=>⟨ob,k b ob q⟩,λ_ _ q=>q,λ_ _ _ q=>q,λ_ ps q=>⟨#[],by rw[q];simp⟩⟩
theorem Un.refl:Un fs ex H H h h:=Un.kept λ_ _ q=>q
theorem Un.laid (k:∀b u,h.get? b=some u->h'.get? b=some u)(hp:h.objs.size≤a)(hn:H a=none):Un fs ex H (upd H a o) h h' where
 keep:=λb u q _ _ _=>k b u q
 slot:=λb u q _ _ _=>⟨u.slots,k b u q⟩
 free:=λb u q n _=>by rw[zlb (yya (yva (yra q) hp))];exact n
 there:=λb u q _=>⟨u,k b u q⟩
 tups:=λb xs q=>by rw[zlb (zka q hn)];exact q
 frzs:=λb u xs q=>by rw[zlb (zka q hn)];exact q
 tbls:=λb ps q=>⟨#[],by rw[zlb (zka q hn),q];simp⟩
theorem Un.write (mu:Mut (H x))(he:e=x∨H e=some (.own x))(k:∀b u,b≠e->h.get? b=some u->h'.get? b=some u)(heo:∃u,h'.get? e=some u):Un fs ex H (upd H x o) h h':=by
 have hx:∀b,H b=none->b≠x:=λb n z=>by subst z;rw[n] at mu;exact mu
 have hb:∀b,H b=none->b≠e:=λb n z=>by
  subst z
  rcases he with r|r
  ·exact hx b n r
  ·rw[n] at r;cases r
 have hm:∀b u,H b=some u->¬ Mut (some u)->b≠x:=λb u q nm z=>by subst z;rw[q] at mu;exact nm mu
 refine⟨λb u q n _ _=>k b u (hb b n) q,λb u q n _ _=>⟨u.slots,k b u (hb b n) q⟩,λb u q n _=>by rw[zlb (hx b n)];exact n,λb u q _=>?_,
  λb xs q=>by rw[zlb (hm b _ q λz=>z)];exact q,λb u xs q=>by rw[zlb (hm b _ q λz=>z)];exact q,λb ps q=>⟨#[],by rw[zlb (hm b _ q λz=>z),q];simp⟩⟩
 by_cases hbe:b=e
 ·subst hbe;exact heo
 ·exact⟨u,k b u hbe q⟩
end
def trk (h:Heap)(H:Hp):List Addr:=(yuc h.objs.size).filter λa=>(H a).isSome
def hidT (h:Heap)(H:Hp):Heap:=PySem.W.hideAll h (trk h H)
theorem ziib (h:Heap)(H:Hp):(hidT h H).objs.size=h.objs.size:=PySem.W.hideAll_size _ _
theorem zqlb {h:Heap}{H:Hp}{b:Addr}{o:Obj}(e:h.get? b=some o)(n:H b=none):(hidT h H).get? b=some o :=
 PySem.W.hideAll_get _ e λhm=>by
  have q:(H b).isSome=true:=(ynn.mp hm).2;rw[n] at q;simp at q
theorem zoob {h:Heap}{H:Hp}{b:Addr}{o:Obj}(e:(hidT h H).get? b=some o):h.get? b=some o∧H b=none:=by
 have e':h.get? b=some o:=PySem.W.of_hideAll (trk h H) e;refine⟨e',?_⟩;cases q:H b with
 | none=>rfl
 | some x =>
  have hm:b∈trk h H:=ynn.mpr ⟨ynl.mpr (yra e'),by simp[q]⟩;have z:(hidT h H).get? b=none:=PySem.W.hideAll_none (trk h H) hm;rw[z] at e;cases e
def zopb (g h:Heap)(L:Addr):List (Addr×Obj):=(yuc h.objs.size).filterMap λa=>if a=L∨(g.get? a).isSome=true then none else (h.get? a).map λo=>(a,o)
def rest (g h:Heap)(L d:Addr):List (Addr×Obj):=(zopb g h L).filter λp=>decide (p.1≠d)
end L2
namespace L2
open PySem PySem.Spec PyProof.Rows
structure Mod (K:yda)(mg:Str->Option Value)(base:Heap):Prop where
 kin:K.In base
 glob:base.Ns ybb mg
 blt:∃mb,base.Ns builtinsNs mb∧∀x:Str,x ≠ "__name__"->mb x=ygi x
 nolimit:base.NoLimit
structure Cx where
 prog:yvb
 w:World
 K:yda
 mg:Str->Option Value
 base:Heap
 A:Around
 N:List Str
 s₀:Shared
 H₀:Hp
 env:Env
 outer:List Env
 stack:List Env
 ex:List Addr
 fn:Str->Bool
 calm:Bool
 pn:List (Addr×Obj)
 xe:Value->Shared->Prop
def frs (l:List Env):List Addr:=l.filterMap (·.frame)
abbrev Cx.fs (X:Cx):List Addr:=frs X.outer
def Vis (sc:Scope)(x:Str):Prop:=sc.names.lookup x=some .local∨sc.names.lookup x=some .cell∨sc.names.lookup x=some .free
def Loc (sc:Scope)(x:Str):Prop:=sc.names.lookup x=some .local∨sc.names.lookup x=some .cell
def Look (env:Env)(h:Heap)(m:Str->Option Value)(x:Str)(u:Value):Prop :=
 (env.kindOf x=some .local∧m x=some u)∨((env.kindOf x=some .cell∨env.kindOf x=some .free)∧∃c,env.cells.lookup x=some c∧h.IsCell c (some u))
structure Cx.Ok (X:Cx):Prop where
 mod:Mod X.K X.mg X.base
 kind:X.env.scope.kind = .function
 glob:X.env.globals=ybb
 blt:X.env.builtins=builtinsNs
 above:X.s₀.heap.objs.size≤X.env.locals
 inj:∀x y c,X.env.cells.lookup x=some c->X.env.cells.lookup y=some c->x=y
 has:∀x,(X.env.kindOf x=some .cell∨X.env.kindOf x=some .free)->∃c,X.env.cells.lookup x=some c
 cab:∀x c,X.fn x=true->X.env.cells.lookup x=some c->X.s₀.heap.objs.size≤c
 hd:X.calm=true->X.A.handled=none
 frames:X.A.frames=some X.stack
 stk:X.stack=X.outer∨(X.stack=X.env::X.outer∧X.env.frame=some X.env.locals)
 exf:∀b∈X.ex,b≠X.env.locals∧∀x c,X.env.cells.lookup x=some c->c≠b
 bs:∀b o,X.base.get? b=some o->X.s₀.heap.get? b=some o∧X.H₀ b=none
 bsz:X.base.objs.size≤X.s₀.heap.objs.size
 noex:∀b o,X.base.get? b=some o->b∉X.ex
 exfs:∀b∈X.ex,b∉X.fs
 funs:X.s₀.heap.FunFrames X.base X.outer
 frf:∀b∈X.fs,X.H₀ b=none
structure Inv (X:Cx)(pins:List (Addr×Obj))(σ:List (Option V))(H:Hp)(s:Shared):Prop where
 ok:X.Ok
 os:s.os=X.s₀.os
 bare:yap s.gens
 base:Un X.fs X.ex X.H₀ H X.s₀.heap s.heap
 loc:∃m,s.heap.Ns X.env.locals m∧∀(i:Nat) (x:Str) (v:V),X.N[i]?=some x->σ[i]?=some (some v)->Vis X.env.scope x->∃u,RelV v u∧Look X.env s.heap m x u
 cell:∀x c,X.env.cells.lookup x=some c->∃v,s.heap.IsCell c v
 free:H X.env.locals=none
 freeC:∀x c,X.env.cells.lookup x=some c->H c=none
 pin:∀p∈X.pn++pins,s.heap.get? p.1=some p.2∧H p.1=none∧p.1≠X.env.locals∧p.1∉X.fs∧∀v,p.2.data ≠ .cell v
 hok:HOk X.prog X.w H s.heap
 len:σ.length=X.N.length
section
variable {X:Cx}{pins:List (Addr×Obj)}{σ:List (Option V)}{H H':Hp}{s:Shared}{h':Heap}
theorem Cx.Ok.nofr (ok:X.Ok){b:Addr}{o:Obj}(e:X.base.get? b=some o):b∉X.fs:=λhb=>by
 have:=(ok.funs.mem hb).1;rw[e] at this;cases this
theorem Inv.bs (I:Inv X pins σ H s):∀b o,X.base.get? b=some o->s.heap.get? b=some o∧H b=none:=λb o e =>
 ⟨I.base.keep b o (I.ok.bs b o e).1 (I.ok.bs b o e).2 (I.ok.nofr e) (I.ok.noex b o e),I.base.free b o (I.ok.bs b o e).1 (I.ok.bs b o e).2 (I.ok.noex b o e)⟩
theorem Inv.bk (I:Inv X pins σ H s):∀b o,X.base.get? b=some o->s.heap.get? b=some o:=λb o e=>(I.bs b o e).1
theorem Inv.mod (I:Inv X pins σ H s):Mod X.K X.mg X.base:=I.ok.mod
theorem Inv.kIn (I:Inv X pins σ H s):X.K.In s.heap:=I.ok.mod.kin.keeps I.bk
theorem Inv.fr (I:Inv X pins σ H s):∃m,Fr X.base X.env.locals s.heap m :=
 let ⟨m,hn,_⟩:=I.loc
 ⟨m,hn,I.bk,ykb I.ok.bsz I.ok.above⟩
theorem Inv.lt (I:Inv X pins σ H s):X.env.locals<s.heap.objs.size:=let ⟨_,hn,_⟩:=I.loc;hn.lt
theorem Inv.sz (I:Inv X pins σ H s):X.s₀.heap.objs.size≤s.heap.objs.size:=ykb I.ok.above (yge I.lt)
theorem Inv.nofs (I:Inv X pins σ H s){a:Addr}(h:s.heap.objs.size≤a):a∉X.fs:=λhb=>by
 obtain⟨_,o,ho,_⟩:=I.ok.funs.mem hb;exact absurd (yva (yra ho) (ykb I.sz h)) (yfe _)
theorem Inv.cne (I:Inv X pins σ H s):∀x c,X.env.cells.lookup x=some c->c≠X.env.locals:=λx c e z=>by
 obtain⟨v,o,ho,hd⟩:=I.cell x c e;obtain⟨m,⟨o',es,ep,ho',hd',_⟩,_⟩:=I.loc;rw[z,ho'] at ho;cases ho;rw[hd'] at hd;cases hd
theorem Inv.funs (I:Inv X pins σ H s):s.heap.FunFrames X.base X.outer:=by
 have all:∀(l:List Env),(∀b∈frs l,b∈X.fs)->X.s₀.heap.FunFrames X.base l->s.heap.FunFrames X.base l:=by
  intro l
  induction l with
  | nil=>intro _ _;trivial
  | cons env r ih =>
   intro hs hl;obtain⟨hk,⟨L,o,hf,hn,ho,hd⟩,hr⟩:=hl;have hL:L∈X.fs:=hs L (by unfold frs;rw[ydi,hf];exact yqa);obtain⟨sl,e⟩:=I.base.slot L o ho (I.ok.frf L hL) hL λz=>I.ok.exfs L z hL;exact⟨hk,⟨L,_,hf,hn,e,hd⟩,ih (λb hb=>hs b (by unfold frs;rw[ydi,hf];exact ysa _ hb)) hr⟩
 exact all X.outer (λ_ hb=>hb) I.ok.funs
theorem Inv.stack (I:Inv X pins σ H s):s.heap.FunFrames X.base X.stack:=by
 rcases I.ok.stk with e|⟨e,hf⟩
 ·rw[e];exact I.funs
 ·rw[e];obtain⟨m,hn,_⟩:=I.loc;refine .cons (by rw[I.ok.kind];decide) hf hn ?_ I.funs;exact Heap.get?_none_of_le (ykb I.ok.bsz I.ok.above)
theorem Inv.zwcb (I:Inv X pins σ H s):∀b∈frs X.stack,b∈X.env.locals::X.fs:=λb hb=>by
 rcases I.ok.stk with e|⟨e,hf⟩
 ·rw[e] at hb;exact ysa _ hb
 ·rw[e] at hb;unfold frs at hb;rw[ydi,hf] at hb;exact hb
theorem Inv.zggb (I:Inv X pins σ H s):∀b∈frs X.stack,H b=none:=λb hb=>by
 rcases yma.mp (I.zwcb b hb) with e|hb
 ·rw[e];exact I.free
 ·obtain⟨_,o,ho,_⟩:=I.ok.funs.mem hb;exact I.base.free b o ho (I.ok.frf b hb) λz=>I.ok.exfs b z hb
theorem Inv.step {g':Array GenState}{t':Nat}{d':Drawn}{ch:List Addr}(I:Inv X pins σ H s)
  (hch:∀b∈ch,(b∈X.ex∨X.s₀.heap.objs.size≤b)∧b≠X.env.locals∧(∀x c,X.env.cells.lookup x=some c->c≠b)∧∀p∈X.pn++pins,p.1≠b)
  (keep:∀b o,b≠X.env.locals->b∉X.fs->b∉ch->s.heap.get? b=some o->H b=none->h'.get? b=some o)
  (slot:∀b o,b≠X.env.locals->b∈X.fs->b∉ch->s.heap.get? b=some o->H b=none->∃sl,h'.get? b=some { o with slots:=sl }) (free:∀b o,b∉ch->s.heap.get? b=some o->H b=none->H' b=none)
  (there:∀b o,b∉ch->s.heap.get? b=some o->∃o',h'.get? b=some o')
  (tups:∀b xs,H b=some (.tup xs)->H' b=some (.tup xs)) (frzs:∀b o u,H b=some (.frz o u)->H' b=some (.frz o u)) (tbls:∀b ps,H b=some (.tbl ps)->∃more,H' b=some (.tbl (ps++more)))
  (ns:∀m,s.heap.Ns X.env.locals m->h'.Ns X.env.locals m) (hok:HOk X.prog X.w H' h') (hg:yap g') :
  Inv X pins σ H' { s with heap:=h',gens:=g',drawn:=d',toks:=t' }:=by
 have neL:∀b o,X.s₀.heap.get? b=some o->b≠X.env.locals:=λb o e=>yya (yva (yra e) I.ok.above);have neC:∀b o,X.s₀.heap.get? b=some o->b∉X.ex->b∉ch:=λb o e hx hb=>by
  rcases (hch b hb).1 with z|z
  ·exact hx z
  ·exact absurd (yva (yra e) z) (yfe _)
 have cellK:∀x c,X.env.cells.lookup x=some c->∀v,s.heap.IsCell c v->h'.IsCell c v:=λx c e v ⟨o,ho,hd⟩=>by
  have nch:c∉ch:=λz=>(hch c z).2.2.1 x c e rfl
  by_cases hc:c∈X.fs
  ·obtain⟨sl,q⟩:=slot c o (I.cne x c e) hc nch ho (I.freeC x c e);exact⟨_,q,hd⟩
  ·exact⟨o,keep c o (I.cne x c e) hc nch ho (I.freeC x c e),hd⟩
 refine⟨I.ok,I.os,hg,⟨λb o e n hb hx=>?_,λb o e n hb hx=>?_,λb o e n hx=>?_,λb o e hx=>?_,λb xs e=>tups b xs (I.base.tups b xs e),λb o xs e=>frzs b o xs (I.base.frzs b o xs e),λb ps e=>?_⟩,?_,λx c e=>?_,?_,λx c e=>?_,λp hp=>?_,hok,I.len⟩
 ·exact keep b o (neL b o e) hb (neC b o e hx) (I.base.keep b o e n hb hx) (I.base.free b o e n hx)
 ·obtain⟨sl,e1⟩:=I.base.slot b o e n hb hx;obtain⟨sl',e2⟩:=slot b _ (neL b o e) hb (neC b o e hx) e1 (I.base.free b o e n hx);exact⟨sl',e2⟩
 ·obtain⟨o',e1⟩:=I.base.there b o e hx;exact free b o' (neC b o e hx) e1 (I.base.free b o e n hx)
 ·obtain⟨o',e1⟩:=I.base.there b o e hx;exact there b o' (neC b o e hx) e1
 ·obtain⟨m1,e1⟩:=I.base.tbls b ps e;obtain⟨m2,e2⟩:=tbls b _ e1;exact⟨m1++m2,by rw[e2,Array.append_assoc]⟩
 ·obtain⟨m,hn,hl⟩:=I.loc;refine⟨m,ns m hn,λi x v e1 e2 e3=>?_⟩;obtain⟨u,r,l⟩:=hl i x v e1 e2 e3;refine⟨u,r,?_⟩
  rcases l with l|⟨k,c,e,z⟩
  ·exact .inl l
  ·exact .inr ⟨k,c,e,cellK x c e _ z⟩
 ·obtain⟨v,z⟩:=I.cell x c e;exact⟨v,cellK x c e v z⟩
 ·obtain⟨m,⟨o,_,_,ho,_⟩,_⟩:=I.loc;exact free _ o (λz=>(hch _ z).2.1 rfl) ho I.free
 ·obtain⟨v,o,ho,hd⟩:=I.cell x c e;exact free c o (λz=>(hch c z).2.2.1 x c e rfl) ho (I.freeC x c e)
 ·obtain⟨e,n,ne,nf,d⟩:=I.pin p hp;have nch:p.1∉ch:=λz=>(hch p.1 z).2.2.2 p hp rfl;exact⟨keep p.1 p.2 ne nf nch e n,free p.1 p.2 nch e n,ne,nf,d⟩
theorem Inv.un {t':Nat}(I:Inv X pins σ H s)(u:Un X.fs [] H H' s.heap h')(hok:HOk X.prog X.w H' h'):Inv X pins σ H' { s with heap:=h',toks:=t' }:=by
 obtain⟨m,⟨o,es,ep,ho,r⟩,_⟩:=id I.loc;obtain⟨sl,hL⟩:=u.any ho I.free (by simp);exact I.step (g':=s.gens) (d':=s.drawn) (ch:=[]) (λ_ z=>nomatch z) (λb o _ hb _ e n=>u.keep b o e n hb (by simp)) (λb o _ hb _ e n=>u.slot b o e n hb (by simp)) (λb o _ e n=>u.free b o e n (by simp)) (λb o _ e=>u.there b o e (by simp)) u.tups u.frzs u.tbls (λm' hm=>by
  obtain⟨o',es',ep',ho',r'⟩:=hm;rw[ho] at ho';cases ho';exact⟨_,es',ep',hL,r'⟩) hok I.bare
theorem Inv.call {g':Array GenState}{t':Nat}{d':Drawn}{ch:List Addr}(I:Inv X pins σ H s)(u:Un (frs X.stack) ch H H' s.heap h')(hok:HOk X.prog X.w H' h')(hg:yap g')
  (hch:∀b∈ch,(b∈X.ex∨X.s₀.heap.objs.size≤b)∧b≠X.env.locals∧(∀x c,X.env.cells.lookup x=some c->c≠b)∧∀p∈X.pn++pins,p.1≠b) :
  Inv X pins σ H' { s with heap:=h',gens:=g',drawn:=d',toks:=t' }:=by
 obtain⟨m,⟨o,es,ep,ho,r⟩,_⟩:=id I.loc;obtain⟨sl,hL⟩:=u.any ho I.free λz=>(hch _ z).2.1 rfl;exact I.step (ch:=ch) hch (λb o hL hb hc e n=>u.keep b o e n (λz=>(yma.mp (I.zwcb b z)).elim hL hb) hc) (λb o _ _ hc e n=>u.any e n hc) (λb o hc e n=>u.free b o e n hc) (λb o hc e=>u.there b o e hc) u.tups u.frzs u.tbls (λm' hm=>by
  obtain⟨o',es',ep',ho',r'⟩:=hm;rw[ho] at ho';cases ho';exact⟨_,es',ep',hL,r'⟩) hok hg
theorem Inv.turned {t':Nat}{it:Addr}(I:Inv X pins σ H s)(k:∀b o,b≠it->s.heap.get? b=some o->h'.get? b=some o)(hn:H it=none)(hL:it≠X.env.locals)
  (h1:it∈X.ex∨X.s₀.heap.objs.size≤it) (h2:∀x c,X.env.cells.lookup x=some c->c≠it) (h3:∀p∈X.pn++pins,p.1≠it):Inv X pins σ H { s with heap:=h',toks:=t' }:=by
 have nit:∀b u,H b=some u->b≠it:=λb u e z=>by rw[z,hn] at e;cases e
 refine I.step (g':=s.gens) (d':=s.drawn) (ch:=[it]) (λb hb=>?_) (λb o _ _ hc e _=>k b o (λz=>hc (by simp[z])) e) (λb o _ _ hc e _=>⟨o.slots,k b o (λz=>hc (by simp[z])) e⟩) (λ_ _ _ _ n=>n)
  (λb o hc e=>⟨o,k b o (λz=>hc (by simp[z])) e⟩) (λ_ _ e=>e) (λ_ _ _ e=>e) (λb ps e=>⟨#[],by rw[e];simp⟩) (λm hm=>?_) (λb u e=>?_) I.bare
 ·have e:b=it:=by simpa using hb
  subst e;exact⟨h1,hL,h2,h3⟩
 ·obtain⟨o,es,ep,ho,r⟩:=hm;exact⟨o,es,ep,k _ o (yqd hL) ho,r⟩
 ·refine (I.hok b u e).stay (λc v hc q=>k c v ?_ q) (λ_ q=>q) λ_ _ q=>q
  rcases hc with z|z
  ·rw[z];exact nit b u e
  ·exact nit c _ z
theorem Inv.tok (I:Inv X pins σ H s)(t:Nat):Inv X pins σ H { s with toks:=t }:=I.un (h':=s.heap) (t':=t) Un.refl I.hok
theorem Inv.kept {t':Nat}(I:Inv X pins σ H s)(k:∀b u,s.heap.get? b=some u->h'.get? b=some u):Inv X pins σ H { s with heap:=h',toks:=t' }:=I.un (Un.kept k) (I.hok.kept k)
theorem Inv.laid {a:Addr}{o:HO}{t':Nat}(I:Inv X pins σ H s)(k:∀b u,s.heap.get? b=some u->h'.get? b=some u)(hp:s.heap.objs.size≤a)(new:znj X.prog X.w (upd H a o) h' a o) :
  Inv X pins σ (upd H a o) { s with heap:=h',toks:=t' }:=I.un (Un.laid k hp (I.hok.fresh hp)) (I.hok.laid k hp new)
theorem Inv.write {x e:Addr}{o:HO}{t':Nat}(I:Inv X pins σ H s)(mu:Mut (H x))(he:e=x∨H e=some (.own x))(k:∀b u,b≠e->s.heap.get? b=some u->h'.get? b=some u)(heo:∃u,h'.get? e=some u)
  (new:znj X.prog X.w (upd H x o) h' x o):Inv X pins σ (upd H x o) { s with heap:=h',toks:=t' }:=I.un (Un.write mu he k heo) (I.hok.write mu he k heo new)
theorem Inv.weak {σ':List (Option V)}(I:Inv X pins σ H s)(hl:σ'.length=σ.length)(w:∀(i:Nat) v,σ'[i]?=some (some v)->σ[i]?=some (some v)):Inv X pins σ' H s :=
 ⟨I.ok,I.os,I.bare,I.base,let ⟨m,hn,hl'⟩:=I.loc;⟨m,hn,λi x v e1 e2 e3=>hl' i x v e1 (w i v e2) e3⟩,I.cell,I.free,I.freeC,I.pin,I.hok,hl.trans I.len⟩
theorem Inv.znr {pins':List (Addr×Obj)}(I:Inv X pins σ H s)(h:∀p∈pins',s.heap.get? p.1=some p.2∧H p.1=none∧p.1≠X.env.locals∧p.1∉X.fs∧∀v,p.2.data ≠ .cell v):Inv X pins' σ H s :=
 ⟨I.ok,I.os,I.bare,I.base,I.loc,I.cell,I.free,I.freeC,λp hp=>(ysb.mp hp).elim (λz=>I.pin p (ylg _ z)) (h p),I.hok,I.len⟩
theorem zfdb {N:List Str}(hN:N.Nodup){i j:Nat}{x:Str}(a:N[i]?=some x)(b:N[j]?=some x):i=j:=by
 obtain⟨h1,e1⟩:=yha.mp a;obtain⟨h2,e2⟩:=yha.mp b;exact (List.getElem_inj hN).mp (e1.trans e2.symm)
theorem zix {M:Model}{A:Around}{E:Value->Shared->Prop}{i:Nat}{x:Str}{v:V}{u:Value}{Q:Unit->Shared->Prop}(I:Inv X pins σ H s)(hN:X.N.Nodup)(hi:X.N[i]?=some x)(hx:Loc X.env.scope x)(r:RelV v u)
  (h:∀s',Inv X pins (σ.set i (some v)) H s'->(∃a,yrd a s.heap s'.heap∧(a=X.env.locals∨X.env.cells.lookup x=some a))->Q () s') (hf:X.fn x=true∨X.env.scope.names.lookup x=some .local:=by first|exact .inl rfl|exact .inr rfl|assumption):wpAny M A (storeName X.env x u) Q E s:=by
 obtain⟨m,hn,hl⟩:=id I.loc;have hcls:(X.env.scope.kind == .class||(X.env.scope.kind == .module&&X.env.locals != X.env.globals))=false:=by rw[I.ok.kind];rfl
 have hiσ:i<σ.length:=by rw[I.len];exact (yha.mp hi).1
 have cne:=I.cne;have tracked:∀{a:Addr} {h':Heap},(∃o,s.heap.get? a=some o∧H a=none)->yrd a s.heap h'->HOk X.prog X.w H h':=λ{a h'} ha hs b ob e=>by
  obtain⟨_,_,hfree⟩:=ha;refine (I.hok b ob e).stay (λc w' hc q=>(hs.2 c ?_).trans q) (λ_ q=>q) λ_ _ q=>q;rintro rfl
  rcases hc with rfl|hc
  ·rw[hfree] at e;cases e
  ·rw[hfree] at hc;cases hc
 rcases hx with hk|hk
 ·refine wpAny_storeName_local hk hn (λh' hn' hs=>?_) hcls;obtain⟨oL,_,_,hoL,_⟩:=id hn;refine h _ ⟨I.ok,I.os,I.bare,⟨λb o e n hb hx=>?_,λb o e n hb hx=>?_,I.base.free,λb o e hx=>?_,I.base.tups,I.base.frzs,I.base.tbls⟩,⟨_,hn',λj y v' e1 e2 e3=>?_⟩,λy c e=>?_,I.free,I.freeC,λp hp=>?_,tracked ⟨oL,hoL,I.free⟩ hs,by simpa using I.len⟩ ⟨_,hs,.inl rfl⟩
  ·exact (hs.2 b (yya (yva (yra e) I.ok.above))).trans (I.base.keep b o e n hb hx)
  ·obtain⟨sl,e1⟩:=I.base.slot b o e n hb hx;exact⟨sl,(hs.2 b (yya (yva (yra e) I.ok.above))).trans e1⟩
  ·obtain⟨o',e1⟩:=I.base.there b o e hx;exact⟨o',(hs.2 b (yya (yva (yra e) I.ok.above))).trans e1⟩
  ·by_cases hj:j=i
   ·subst hj;rw[hi] at e1;cases e1;rw[yoe hiσ] at e2;cases e2;exact⟨u,r,.inl ⟨hk,by simp⟩⟩
   ·rw[ymg (yqd hj)] at e2;obtain⟨u',r',q⟩:=hl j y v' e1 e2 e3;refine⟨u',r',?_⟩
    rcases q with⟨k,e⟩|⟨k,c,e,z⟩
    ·refine .inl ⟨k,?_⟩;have:y≠x:=λe=>hj (zfdb hN e1 (e▸hi));simp[this,e]
    ·exact .inr ⟨k,c,e,z.sameBut hs (cne y c e)⟩
  ·obtain⟨w',z⟩:=I.cell y c e;exact⟨w',z.sameBut hs (cne y c e)⟩
  ·obtain⟨e,n,ne,nf,d⟩:=I.pin p hp;exact⟨(hs.2 p.1 ne).trans e,n,ne,nf,d⟩
 ·have hfn:X.fn x=true:=by
   rcases hf with z|z
   ·exact z
   ·rw[z] at hk;cases hk
  obtain⟨c,hc⟩:=I.ok.has x (.inl hk);obtain⟨w',z⟩:=I.cell x c hc;refine wpAny_storeName_cell I.ok.kind hk hc z (λh' hc' hs=>?_);obtain⟨oc,hoc,hocd⟩:=id z;refine h { s with heap:=h' } ⟨I.ok,I.os,I.bare,⟨λb o e n hb hx=>?_,λb o e n hb hx=>?_,I.base.free,λb o e hx=>?_,I.base.tups,I.base.frzs,I.base.tbls⟩,⟨m,hn.sameBut hs (yqd (cne x c hc)),λj y v' e1 e2 e3=>?_⟩,λy c' e=>?_,I.free,I.freeC,λp hp=>?_,tracked ⟨oc,hoc,I.freeC x c hc⟩ hs,by simpa using I.len⟩ ⟨c,hs,.inr hc⟩
  ·exact (hs.2 b (yya (yva (yra e) (I.ok.cab x c hfn hc)))).trans (I.base.keep b o e n hb hx)
  ·obtain⟨sl,e1⟩:=I.base.slot b o e n hb hx;exact⟨sl,(hs.2 b (yya (yva (yra e) (I.ok.cab x c hfn hc)))).trans e1⟩
  ·obtain⟨o',e1⟩:=I.base.there b o e hx;exact⟨o',(hs.2 b (yya (yva (yra e) (I.ok.cab x c hfn hc)))).trans e1⟩
  ·by_cases hj:j=i
   ·subst hj;rw[hi] at e1;cases e1;rw[yoe hiσ] at e2;cases e2;exact⟨u,r,.inr ⟨.inl hk,c,hc,hc'⟩⟩
   ·rw[ymg (yqd hj)] at e2;obtain⟨u',r',q⟩:=hl j y v' e1 e2 e3;refine⟨u',r',?_⟩
    rcases q with q|⟨k,c',e,z'⟩
    ·exact .inl q
    ·refine .inr ⟨k,c',e,z'.sameBut hs ?_⟩;rintro rfl;exact hj (zfdb hN e1 (I.ok.inj _ _ _ e hc▸hi))
  ·by_cases hcc:c'=c
   ·subst hcc;exact⟨_,hc'⟩
   ·obtain⟨w2,z2⟩:=I.cell y c' e;exact⟨w2,z2.sameBut hs hcc⟩
  ·obtain⟨e,n,ne,nf,d⟩:=I.pin p hp;refine⟨(hs.2 p.1 ?_).trans e,n,ne,nf,d⟩;intro q;rw[q,hoc] at e;have q':oc=p.2:=yvc e;exact d w' (by rw[← q'];exact hocd)
theorem zzu {M:Model}{A:Around}{E:Value->Shared->Prop}{i:Nat}{x:Str}{v:V}{u:Value}{Q:Unit->Shared->Prop}(I:Inv X pins σ H s)(hN:X.N.Nodup)(hi:X.N[i]?=some x)(hx:Loc X.env.scope x)(r:RelV v u)
  (h:∀s',Inv X pins (σ.set i (some v)) H s'->Q () s') (hf:X.fn x=true∨X.env.scope.names.lookup x=some .local:=by first|exact .inl rfl|exact .inr rfl|assumption):wpAny M A (storeName X.env x u) Q E s :=
 zix I hN hi hx r (λs' I' _=>h s' I') hf
end
abbrev XK:=Value->Option Addr->Hp->Prop
abbrev St:=List (Option V)
abbrev VK:=V->Hp->Prop
abbrev TE:=St->Hp->VK->Prop
abbrev TT:=St->Hp->(Bool->Hp->Prop)->Prop
abbrev TA:=St->Hp->(List V->Hp->Prop)->Prop
structure Ends where
 nx:St->Hp->Prop
 rt:VK
 bk:St->Hp->Prop:=λ_ _=>False
 ct:St->Hp->Prop:=λ_ _=>False
abbrev TS:=Ends->St->Hp->Prop
def EP (X:Cx)(pins:List (Addr×Obj))(σ:St)(Q:VK)(u:Value)(s':Shared):Prop:=Ex2 λv H'=>Inv X pins σ H' s'∧RelV v u∧Q v H'
def TP (X:Cx)(pins:List (Addr×Obj))(σ:St)(Q:Bool->Hp->Prop)(b:Bool)(s':Shared):Prop:=∃H',Inv X pins σ H' s'∧Q b H'
def AP (X:Cx)(pins:List (Addr×Obj))(σ:St)(Q:List V->Hp->Prop)(us:List Value)(s':Shared):Prop:=Ex2 λvs H'=>Inv X pins σ H' s'∧Vals vs us∧Q vs H'
def SP (X:Cx)(pins:List (Addr×Obj))(D:Ends)(f:Flow)(s':Shared):Prop :=
 match f with
 | .next=>∃ σ' H',Inv X pins σ' H' s'∧D.nx σ' H'
 | .brk=>∃ σ' H',Inv X pins σ' H' s'∧D.bk σ' H'
 | .cont=>∃ σ' H',Inv X pins σ' H' s'∧D.ct σ' H'
 | .ret u=>∃v σ' H',Inv X pins σ' H' s'∧RelV v u∧D.rt v H'
def PE (X:Cx)(e:Expr)(t:TE):Prop :=
 ∀(pins:List (Addr×Obj)) (s:Shared) (σ:St) (H:Hp) (Q:VK),Inv X pins σ H s->t σ H Q->wpAny (model X.prog X.w) X.A (eval e X.env) (EP X pins σ Q) X.xe s
def PT (X:Cx)(e:Expr)(t:TT):Prop :=
 ∀(pins:List (Addr×Obj)) (s:Shared) (σ:St) (H:Hp) (Q:Bool->Hp->Prop),Inv X pins σ H s->t σ H Q->wpAny (model X.prog X.w) X.A (isTrue e X.env (eval e X.env)) (TP X pins σ Q) X.xe s
def PW (X:Cx)(e:Expr)(t:TT):Prop :=
 ∀(whole:Sem Value) (pins:List (Addr×Obj)) (s:Shared) (σ:St) (H:Hp) (Q:Bool->Hp->Prop),Inv X pins σ H s->t σ H Q->wpAny (model X.prog X.w) X.A (isTrue e X.env whole) (TP X pins σ Q) X.xe s
theorem PW.pt {X:Cx}{e:Expr}{t:TT}(h:PW X e t):PT X e t:=h _
def PA (X:Cx)(es:List Expr)(t:TA):Prop :=
 ∀(pos:Pos) (pins:List (Addr×Obj)) (s:Shared) (σ:St) (H:Hp) (Q:List V->Hp->Prop),Inv X pins σ H s->t σ H Q->wpAny (model X.prog X.w) X.A (spliced (backTo pos (yhd es X.env))) (AP X pins σ Q) X.xe s
def PS (X:Cx)(st:Stmt)(t:TS):Prop :=
 ∀(pins:List (Addr×Obj)) (s:Shared) (σ:St) (H:Hp) (D:Ends),Inv X pins σ H s->t D σ H->wpAny (model X.prog X.w) X.A (exec st X.env) (SP X pins D) X.xe s
def PSs (X:Cx)(st:List Stmt)(t:TS):Prop :=
 ∀(pins:List (Addr×Obj)) (s:Shared) (σ:St) (H:Hp) (D:Ends),Inv X pins σ H s->t D σ H->wpAny (model X.prog X.w) X.A (execs st X.env) (SP X pins D) X.xe s
theorem thn {α:Type}{t:Sem α}{Q Q':α->Shared->Prop}{M:Model}{A:Around}{E:Value->Shared->Prop}{s:Shared}(h:wpAny M A t Q E s)(hQ:∀a s,Q a s->Q' a s):wpAny M A t Q' E s:=ype h hQ λ_ _ x=>x
end L2
namespace L2
open PySem PySem.Spec PyProof.Rows
section
variable {X:Cx}
def tVar (i:Nat):TE:=fun σ H Q=>∃v,σ[i]?=some (some v)∧Q v H
def tC (v:V):TE:=λ_ H Q=>Q v H
theorem zuqb {i:Nat}{x:Str}{pos:Pos}(hN:X.N[i]?=some x)(hv:Vis X.env.scope x)(hd:(x==("__debug__":Str))=false:=by decide)(hcd:(x==("__classdict__":Str))=false:=by decide):PE X (.Name x pos) (tVar i):=by
 intro pins s σ H Q I h;obtain⟨v,e,h⟩:=h;obtain⟨m,hn,hl⟩:=I.loc;obtain⟨u,r,l⟩:=hl i x v hN e hv;have fin:EP X pins σ Q u s:=⟨v,H,I,r,h⟩
 rcases l with⟨hk,hm⟩|⟨hk,c,hc,hcell⟩
 ·exact wpAny_Name (wpAny_loadName_local I.ok.kind hk hn hm fin) hd
 ·rcases hk with hk|hk
  ·exact wpAny_Name (wpAny_loadName_cell I.ok.kind hk hc hcell fin) hd
  ·exact wpAny_Name (wpAny_loadName_free I.ok.kind hk hc hcell fin hcd) hd
theorem zfa {i j pos}:PE X (.Constant (.int i) j pos) (tC (.int i)):=λ_ _ _ H _ I h=>wpAny_Constant_int ⟨.int i,H,I.tok _,⟨_,rfl⟩,h⟩
theorem zwx {b j pos}:PE X (.Constant (.bool b) j pos) (tC (.bl b)):=λ_ _ _ H _ I h=>Constant_bool ⟨.bl b,H,I,rfl,h⟩
theorem zau {j pos}:PE X (.Constant .none j pos) (tC .non):=λ_ _ _ H _ I h=>Constant_none ⟨.non,H,I,rfl,h⟩
theorem zoa {x j pos}:PE X (.Constant (.str x) j pos) (tC (.str x)):=λ_ _ _ H _ I h=>Calls.Constant_str ⟨.str x,H,I.tok _,⟨_,rfl⟩,h⟩
def Gl (X:Cx)(x:Str):Prop:=X.env.kindOf x=some .globalImplicit
theorem zmbb {E:Value->Shared->Prop}{pins:List (Addr×Obj)}{s:Shared}{σ:St}{H:Hp}{x:Str}{u:Value}{pos:Pos}{Q:Value->Shared->Prop}(I:Inv X pins σ H s)(hg:Gl X x)(hm:X.mg x=some u)(h:Q u s)
  (hd:(x==("__debug__":Str))=false:=by decide):wpAny (model X.prog X.w) X.A (eval (.Name x pos) X.env) Q E s :=
 yzk I.ok.kind hg (Calls.loadGlobal_global (by rw[I.ok.glob];exact I.mod.glob.keeps I.bk) hm h) hd
theorem zuy {E:Value->Shared->Prop}{pins:List (Addr×Obj)}{s:Shared}{σ:St}{H:Hp}{x:Str}{u:Value}{pos:Pos}{Q:Value->Shared->Prop}(I:Inv X pins σ H s)(hg:Gl X x)(hm:X.mg x=none)(hv:ygi x=some u)(h:Q u s)
  (hn:x ≠ "__name__":=by decide) (hd:(x==("__debug__":Str))=false:=by decide):wpAny (model X.prog X.w) X.A (eval (.Name x pos) X.env) Q E s:=by
 obtain⟨mb,h1,h2⟩:=I.mod.blt;exact yzk I.ok.kind hg (Calls.loadGlobal_builtin (by rw[I.ok.glob];exact I.mod.glob.keeps I.bk) hm (by rw[I.ok.blt];exact h1.keeps I.bk) ((h2 x hn).trans hv) h) hd
theorem zsb {x:Str}{v:V}{u:Value}{pos:Pos}(hg:Gl X x)(hm:X.mg x=some u)(r:RelV v u)(hd:(x==("__debug__":Str))=false:=by decide):PE X (.Name x pos) (tC v) :=
 λ_ _ _ H _ I h=>zmbb I hg hm ⟨v,H,I,r,h⟩ hd
theorem zze {x:Str}{v:V}{u:Value}{pos:Pos}(hg:Gl X x)(hm:X.mg x=none)(hv:ygi x=some u)(r:RelV v u)(hn:x ≠ "__name__":=by decide)(hd:(x==("__debug__":Str))=false:=by decide):PE X (.Name x pos) (tC v) :=
 λ_ _ _ H _ I h=>zuy I hg hm hv ⟨v,H,I,r,h⟩ hn hd
variable {a b:Expr}{ta tb:TE}{pos:Pos}
def tB (t:TE):TT:=fun σ H Q=>t σ H λx H1=>∃c,x = .bl c∧Q c H1
theorem zof {e:Expr}{t:TE}(h:PE X e t)(he:∀whole,isTrue e X.env whole=(do let v ← whole;standAt e.pos;ysm [v] (truthy v)):=by intro _;rfl):PT X e (tB t):=by
 intro pins s σ H Q I hw;refine isTrue_plain (thn (h pins s σ H _ I hw) λv s1 ⟨x,H1,I1,r1,q1⟩=>?_) (he _);obtain⟨d,rfl,q⟩:=q1;cases r1;exact yhe ⟨H1,I1,q⟩
variable {tA tB':TT}{rest:List Expr}
def tAnd (t u:TT):TT:=fun σ H Q=>t σ H λc H1=>if c=true then u σ H1 Q else Q false H1
def tOr (t u:TT):TT:=fun σ H Q=>t σ H λc H1=>if c=true then Q true H1 else u σ H1 Q
def tNot (t:TT):TT:=fun σ H Q=>t σ H λc H1=>Q (!c) H1
theorem zyab (ha:PT X a tA):PW X (.BoolOp .And [a] pos) tA:=by
 intro wh pins s σ H Q I h;refine isTrue_and (thn (ha pins s σ H Q I h) λc s1 e=>?_);cases c with
 | true=>exact isTrue_and_nil e
 | false=>exact e
theorem zmr (ha:PT X a tA):PW X (.BoolOp .Or [a] pos) tA:=by
 intro wh pins s σ H Q I h;refine isTrue_or (thn (ha pins s σ H Q I h) λc s1 e=>?_);cases c with
 | false=>exact isTrue_or_nil e
 | true=>exact e
theorem zahb (ha:PT X a tA)(hb:PW X (.BoolOp .And (b::rest) pos) tB'):PW X (.BoolOp .And (a::b::rest) pos) (tAnd tA tB'):=by
 intro wh pins s σ H Q I h;refine isTrue_and (thn (ha pins s σ H _ I h) λc s1 ⟨H1,I1,q1⟩=>?_);cases c with
 | true=>exact hb wh pins s1 σ H1 Q I1 q1
 | false=>exact⟨H1,I1,q1⟩
theorem zxab (ha:PT X a tA)(hb:PW X (.BoolOp .Or (b::rest) pos) tB'):PW X (.BoolOp .Or (a::b::rest) pos) (tOr tA tB'):=by
 intro wh pins s σ H Q I h;refine isTrue_or (thn (ha pins s σ H _ I h) λc s1 ⟨H1,I1,q1⟩=>?_);cases c with
 | true=>exact⟨H1,I1,q1⟩
 | false=>exact hb wh pins s1 σ H1 Q I1 q1
theorem zgk (ha:PT X a tA):PT X (.UnaryOp .Not a pos) (tNot tA):=by
 intro pins s σ H Q I h;exact isTrue_not (ha pins s σ H (λc H1=>Q (!c) H1) I h)
def zbtb (ta tb:TE):TE:=fun σ H Q=>ta σ H λx H1=>∃c,x = .bl c∧if c=true then tb σ H1 Q else Q (.bl false) H1
def tOrV (ta tb:TE):TE:=fun σ H Q=>ta σ H λx H1=>∃c,x = .bl c∧if c=true then Q (.bl true) H1 else tb σ H1 Q
def zvsb (ta:TE):TE:=fun σ H Q=>ta σ H λx H1=>∃c,x = .bl c∧Q (.bl (!c)) H1
theorem zzt {op}{t:TE}(h:PE X a t):PE X (.BoolOp op [a] pos) t:=λpins s σ H Q I hw=>BoolOp_one (h pins s σ H Q I hw)
theorem zxx (ha:PE X a ta)(hb:PE X (.BoolOp .And (b::rest) pos) tb):PE X (.BoolOp .And (a::b::rest) pos) (zbtb ta tb):=by
 intro pins s σ H Q I h;refine BoolOp_and (thn (ha pins s σ H _ I h) λv s1 ⟨x,H1,I1,r1,q1⟩=>?_);obtain⟨c,rfl,q1⟩:=q1;cases r1;refine yhe ?_;cases c with
 | true=>exact hb pins s1 σ H1 Q I1 q1
 | false=>exact⟨.bl false,H1,I1,rfl,q1⟩
theorem zvqb (ha:PE X a ta)(hb:PE X (.BoolOp .Or (b::rest) pos) tb):PE X (.BoolOp .Or (a::b::rest) pos) (tOrV ta tb):=by
 intro pins s σ H Q I h;refine BoolOp_or (thn (ha pins s σ H _ I h) λv s1 ⟨x,H1,I1,r1,q1⟩=>?_);obtain⟨c,rfl,q1⟩:=q1;cases r1;refine yhe ?_;cases c with
 | false=>exact hb pins s1 σ H1 Q I1 q1
 | true=>exact⟨.bl true,H1,I1,rfl,q1⟩
theorem zwqb (ha:PE X a ta):PE X (.UnaryOp .Not a pos) (zvsb ta):=by
 intro pins s σ H Q I h;refine UnaryOp_ (thn (ha pins s σ H _ I h) λv s1 ⟨x,H1,I1,r1,q1⟩=>?_);obtain⟨c,rfl,q1⟩:=q1;cases r1;exact not_of (yhe ⟨.bl (!c),H1,I1,rfl,q1⟩)
def tIf (t:TT)(ta tb:TE):TE:=fun σ H Q=>t σ H λc H1=>if c=true then ta σ H1 Q else tb σ H1 Q
theorem zwkb {c:Expr}(hc:PT X c tA)(ha:PE X a ta)(hb:PE X b tb):PE X (.IfExp c a b pos) (tIf tA ta tb):=by
 intro pins s σ H Q I h;refine wpAny_IfExp (thn (hc pins s σ H _ I h) λd s1 ⟨H1,I1,q1⟩=>?_);cases d with
 | true=>exact ha pins s1 σ H1 Q I1 q1
 | false=>exact hb pins s1 σ H1 Q I1 q1
end
end L2
namespace L2
open PySem PySem.Spec PyProof.Rows
def SqL (K:yda)(H:Hp)(a:Addr)(xs:List V):Prop :=
 Rd H a (.lst xs) ∨
  Ex3 λ(o:Obj) (its:Array Value) (n:Nat)=>K.lookup a=some o∧o.cls = .type "list" ∧ o.dict=none∧o.data = .seq its n∧its.size≤yza∧Vals xs its.toList
def SqT (K:yda)(H:Hp)(a:Addr)(xs:List V):Prop :=
 Rd H a (.tup xs) ∨
  Ex3 λ(o:Obj) (its:Array Value) (n:Nat)=>K.lookup a=some o∧o.cls = .type "tuple" ∧ o.data = .seq its n∧its.size≤yza∧Vals xs its.toList
def absV:Value->Option V
 | .none=>some .non
 | .bool b=>some (.bl b)
 | .int i _=>some (.int i)
 | .str x _=>some (.str x)
 | .bytes b _=>some (.byt b)
 | .float b _=>some (.flt b)
 | .ref a=>some (.ref a)
 | .type n=>some (.ty n)
 | _=>none
theorem RelV.abs {x:V}{u:Value}(r:RelV x u):absV u=some x:=by
 cases x with
 | non=>cases r;rfl
 | bl _=>cases r;rfl
 | int _=>obtain⟨t,rfl⟩:=r;rfl
 | str _=>obtain⟨t,rfl⟩:=r;rfl
 | byt _=>obtain⟨t,rfl⟩:=r;rfl
 | flt _=>obtain⟨t,rfl⟩:=r;rfl
 | ref _=>cases r;rfl
 | ty _=>cases r;rfl
theorem RelV.inj {x y:V}{u:Value}(r:RelV x u)(q:RelV y u):x=y:=yvc (r.abs.symm.trans q.abs)
theorem Vals.inj:∀{xs ys:List V} {us:List Value},Vals xs us->Vals ys us->xs=ys
 | _,_,_,.nil,.nil=>rfl
 | _,_,_,.cons r t,.cons r' t'=>by rw[r.inj r',Vals.inj t t']
section
variable {X:Cx}{pins:List (Addr×Obj)}{σ:St}{H:Hp}{s:Shared}{a:Addr}{xs ys:List V}
theorem SqL.of {K:yda}(h:H a=some (.lst xs)):SqL K H a xs:=.inl (.inl h)
theorem SqT.of {K:yda}(h:H a=some (.tup xs)):SqT K H a xs:=.inl (.inl h)
theorem Inv.list (I:Inv X pins σ H s)(h:SqL X.K H a xs):∃its:List Value,Vals xs its∧PlainL s.heap a its.toArray∧xs.length≤yza:=by
 rcases h with h|⟨o,its,n,hk,hc,hd,hs,hz,r⟩
 ·obtain⟨z,its,n,r,e⟩:=h.ok I.hok;exact⟨its,r,⟨_,n,e,rfl,rfl,rfl⟩,z⟩
 ·refine⟨its.toList,r,⟨o,n,I.kIn a o hk,hc,hd,by simpa using hs⟩,?_⟩;have e:=r.length;simp only[yga] at e;omega
theorem Inv.tuple (I:Inv X pins σ H s)(h:SqT X.K H a xs):∃its:List Value,Vals xs its∧IsTup s.heap a its.toArray∧xs.length≤yza:=by
 rcases h with h|⟨o,its,n,hk,hc,hs,hz,r⟩
 ·obtain⟨z,its,r,p⟩:=h.ok I.hok;exact⟨its,r,p,z⟩
 ·refine⟨its.toList,r,⟨o,I.kIn a o hk,hc,n,by simpa using hs⟩,?_⟩;have e:=r.length;simp only[yga] at e;omega
theorem Inv.zjlb (I:Inv X pins σ H s)(h:SqL X.K H a xs)(h':SqL X.K H a ys):xs=ys:=by
 obtain⟨its,r,⟨o,n,e,_,_,d⟩,_⟩:=I.list h;obtain⟨its',r',⟨o',n',e',_,_,d'⟩,_⟩:=I.list h';rw[e] at e';cases e';rw[d] at d';injection d' with d1 _
 have:its=its':=by simpa using congrArg Array.toList d1
 subst this;exact r.inj r'
theorem Inv.zegb (I:Inv X pins σ H s)(h:SqT X.K H a xs)(h':SqT X.K H a ys):xs=ys:=by
 obtain⟨its,r,⟨o,e,_,n,d⟩,_⟩:=I.tuple h;obtain⟨its',r',⟨o',e',_,n',d'⟩,_⟩:=I.tuple h';rw[e] at e';cases e';rw[d] at d';injection d' with d1 _
 have:its=its':=by simpa using congrArg Array.toList d1
 subst this;exact r.inj r'
end
abbrev Cx.wish (X:Cx)(E:Value->Shared->Prop):Cx:={ X with xe:=E }
abbrev Cx.nox (X:Cx):Cx:=X.wish λ_ _=>False
theorem Cx.Ok.wish {X:Cx}(ok:X.Ok)(E:Value->Shared->Prop):(X.wish E).Ok :=
 ⟨ok.mod,ok.kind,ok.glob,ok.blt,ok.above,ok.inj,ok.has,ok.cab,ok.hd,ok.frames,ok.stk,ok.exf,ok.bs,ok.bsz,ok.noex,ok.exfs,ok.funs,ok.frf⟩
theorem Cx.Ok.zfp {X:Cx}{E:Value->Shared->Prop}(ok:(X.wish E).Ok):X.Ok :=
 ⟨ok.mod,ok.kind,ok.glob,ok.blt,ok.above,ok.inj,ok.has,ok.cab,ok.hd,ok.frames,ok.stk,ok.exf,ok.bs,ok.bsz,ok.noex,ok.exfs,ok.funs,ok.frf⟩
section
variable {X:Cx}{pins:List (Addr×Obj)}{σ:St}{H:Hp}{s:Shared}{E:Value->Shared->Prop}
theorem Inv.wish (I:Inv X pins σ H s)(E:Value->Shared->Prop):Inv (X.wish E) pins σ H s:=⟨I.ok.wish E,I.os,I.bare,I.base,I.loc,I.cell,I.free,I.freeC,I.pin,I.hok,I.len⟩
theorem Inv.zfp (I:Inv (X.wish E) pins σ H s):Inv X pins σ H s:=⟨I.ok.zfp,I.os,I.bare,I.base,I.loc,I.cell,I.free,I.freeC,I.pin,I.hok,I.len⟩
theorem SP.zfp {D:Ends}{f:Flow}{s':Shared}(h:SP (X.wish E) pins D f s'):SP X pins D f s':=by
 cases f with
 | next=>obtain⟨σ',H',I,q⟩:=h;exact⟨σ',H',I.zfp,q⟩
 | brk=>obtain⟨σ',H',I,q⟩:=h;exact⟨σ',H',I.zfp,q⟩
 | cont=>obtain⟨σ',H',I,q⟩:=h;exact⟨σ',H',I.zfp,q⟩
 | ret u=>obtain⟨v,σ',H',I,r,q⟩:=h;exact⟨v,σ',H',I.zfp,r,q⟩
theorem PSs.nox {st:List Stmt}{t:TS}(h:PSs X.nox st t):PSs X st t:=λpins s σ H D I hw =>
 ype (h pins s σ H D (I.wish _) hw) (λ_ _ q=>q.zfp) λ_ _ z=>yzf z
end
section
variable {X:Cx}{st:Stmt}{rest:List Stmt}{t u:TS}{e:Expr}{te:TE}{pos:Pos}
def zwsb:TS:=λD σ H=>D.nx σ H
def tSeq (t u:TS):TS:=λD σ H=>t { D with nx:=u D } σ H
theorem zqa:PSs X [] zwsb:=λ_ _ σ H _ I h=>ykk ⟨σ,H,I,h⟩
theorem zca (h1:PS X st t)(h2:PSs X rest u):PSs X (st::rest) (tSeq t u):=by
 intro pins s σ H D I h;refine wpAny_execs_cons (thn (h1 pins s σ H { D with nx:=u D } I h) λf s1 q=>?_);cases f with
 | next =>
  obtain⟨σ',H',I',q⟩:=q;exact h2 pins s1 σ' H' D I' q
 | ret v=>exact q
 | brk=>exact q
 | cont=>exact q
theorem zda (h1:PS X st t):PSs X [st] t:=by
 intro pins s σ H D I h;refine wpAny_execs_cons (thn (h1 pins s σ H D I h) λf s1 q=>?_);cases f with
 | next=>exact ykk q
 | ret v=>exact q
 | brk=>exact q
 | cont=>exact q
theorem Inv.quiet {pins:List (Addr×Obj)}{σ:St}{H:Hp}{s:Shared}(I:Inv X pins σ H s):interactive X.env=false:=by simp[interactive,I.ok.kind]
def zysb (te:TE):TS:=λD σ H=>te σ H λ_ H1=>D.nx σ H1
theorem zfe (he:PE X e te)(hs:yhr e none pos.line X.env=pure false:=by rfl):PS X (.Expr e pos) (zysb te):=by
 intro pins s σ H D I h;exact wpAny_Expr_any (thn (he pins s σ H _ I h) λv s1 ⟨x,H1,I1,r1,q1⟩=>⟨σ,H1,I1,q1⟩) I.quiet hs
def tRet (te:TE):TS:=λD σ H=>te σ H D.rt
theorem zua (he:PE X e te):PS X (.Return (some e) pos) (tRet te):=by
 intro pins s σ H D I h;exact wpAny_Return_some (thn (he pins s σ H _ I h) λv s1 ⟨x,H1,I1,r1,q1⟩=>⟨x,σ,H1,I1,r1,q1⟩)
def tIfS (c:TT)(t u:TS):TS:=λD σ H=>c σ H λb H1=>if b=true then t D σ H1 else u D σ H1
theorem zub {c:Expr}{a b:List Stmt}{tc:TT}(hc:PT X c tc)(ha:PSs X a t)(hb:PSs X b u):PS X (.If c a b pos) (tIfS tc t u):=by
 intro pins s σ H D I h;refine wpAny_If (thn (hc pins s σ H _ I h) λd s1 ⟨H1,I1,q1⟩=>?_);cases d with
 | true=>exact ha pins s1 σ H1 D I1 q1
 | false=>exact hb pins s1 σ H1 D I1 q1
def zxpb:TS:=λ_ _ _=>False
theorem zpf:PS X st zxpb:=λ_ _ _ _ _ _ h=>h.elim
end
abbrev TG:=V->St->Hp->(St->Hp->Prop)->Prop
abbrev TGs:=List V->St->Hp->(St->Hp->Prop)->Prop
def PG (X:Cx)(target:Expr)(t:TG):Prop :=
 ∀(pins:List (Addr×Obj)) (s:Shared) (σ:St) (H:Hp) (v:V) (u:Value) (Q:St->Hp->Prop),Inv X pins σ H s->RelV v u->t v σ H Q →
  wpAny (model X.prog X.w) X.A (assign target X.env u) (λ_ s'=>∃ σ' H',Inv X pins σ' H' s'∧Q σ' H') X.xe s
def PGs (X:Cx)(ts:List Expr)(t:TGs):Prop :=
 ∀(pins:List (Addr×Obj)) (s:Shared) (σ:St) (H:Hp) (vs:List V) (us:List Value) (Q:St->Hp->Prop),Inv X pins σ H s->Vals vs us->t vs σ H Q →
  wpAny (model X.prog X.w) X.A (assignInOrder ((yyl ts X.env).map (·.2)) us) (λ_ s'=>∃ σ' H',Inv X pins σ' H' s'∧Q σ' H') X.xe s
abbrev TSet:=V->V->V->Hp->(Hp->Prop)->Prop
def PSet (X:Cx)(t:TSet):Prop :=
 ∀(pins:List (Addr×Obj)) (s:Shared) (σ:St) (H:Hp) (o i v:V) (ov iv u:Value) (Q:Hp->Prop),Inv X pins σ H s->RelV o ov->RelV i iv->RelV v u->t o i v H Q →
  wpAny (model X.prog X.w) X.A (setItem ov iv u) (λ_ s'=>∃H',Inv X pins σ H' s'∧Q H') X.xe s
abbrev TIp:=V->V->Hp->VK->Prop
def PIp (X:Cx)(op:yfr)(t:TIp):Prop :=
 ∀(pins:List (Addr×Obj)) (s:Shared) (σ:St) (H:Hp) (x y:V) (v u:Value) (Q:VK),Inv X pins σ H s->RelV x v->RelV y u->t x y H Q →
  wpAny (model X.prog X.w) X.A (inplaceOp op v u) (EP X pins σ Q) X.xe s
section
variable {X:Cx}{pos:Pos}
def zulb (i:Nat):TG:=λv σ H Q=>Q (σ.set i (some v)) H
theorem zkb {i:Nat}{x:Str}(hN:X.N.Nodup)(hi:X.N[i]?=some x)(hx:Loc X.env.scope x)(hf:X.fn x=true∨X.env.scope.names.lookup x=some .local:=by first|exact .inl rfl|exact .inr rfl|assumption):PG X (.Name x pos) (zulb i):=by
 intro pins s σ H v u Q I r h;exact wpAny_assign_Name (zzu I hN hi hx r (λs' I'=>⟨_,H,I',h⟩) hf)
def gNil:TGs:=λvs σ H Q=>vs=[]∧Q σ H
def zxtb (t:TG)(u:TGs):TGs:=λvs σ H Q=>Ex2 λv r=>vs=v::r∧t v σ H fun σ' H'=>u r σ' H' Q
theorem zpr:PGs X [] gNil:=by
 intro pins s σ H vs us Q I r h;obtain⟨e,h⟩:=h;subst e;cases r;exact assignInOrder_nil ⟨σ,H,I,h⟩
theorem zvd {e:Expr}{es:List Expr}{t:TG}{u:TGs}(h1:PG X e t)(h2:PGs X es u)
  (hs:(yyl (e::es) X.env).map (·.2)=assign e X.env::(yyl es X.env).map (·.2):=by rfl):PGs X (e::es) (zxtb t u):=by
 intro pins s σ H vs us Q I r h;obtain⟨v,vr,e1,h⟩:=h;subst e1;cases r with
 | cons r rr =>
  rw[hs];refine assignInOrder_cons (thn (h1 pins s σ H _ _ _ I r h) λ_ s1 ⟨σ1,H1,I1,q1⟩=>?_);exact h2 pins s1 σ1 H1 _ _ Q I1 rr q1
def gTup (K:yda)(n:Nat)(t:TGs):TG:=λv σ H Q=>Ex2 λa xs=>v = .ref a∧SqT K H a xs∧xs.length=n∧t xs σ H Q
theorem zvx {es:List Expr}{k:Nat}{t:TGs}{n:Nat}(hc:X.calm=true)(h:PGs X es t)
  (hn:(yyl es X.env).length=n:=by rfl) (hst:(yyl es X.env).findIdx? (·.1)=none:=by rfl):PG X (.Tuple es k pos) (gTup X.K n t):=by
 intro pins s σ H v u Q I r hw;obtain⟨a,xs,e1,hq,hl,hw⟩:=hw;subst e1;cases r;obtain⟨its,rv,ht,hz⟩:=I.tuple hq;refine assign_Tuple_tuple (I.ok.hd hc) ht (by simp[hn,← hl,rv.length]) hst λh' hx=>?_;have I1:Inv X pins σ H { s with heap:=h' }:=I.kept (t':=s.toks) λb o e=>hx b o (yya (yra e)) e;exact h pins _ σ H xs _ Q I1 (by simpa using rv) hw
def gSub (to ti:TE)(t:TSet):TG:=λv σ H Q=>to σ H λo H1=>ti σ H1 λi H2=>t o i v H2 λH3=>Q σ H3
theorem zij {o i:Expr}{to ti:TE}{t:TSet}(ho:PE X o to)(hi:PE X i ti)(hs:PSet X t)
  (ha:∀v,assign (.Subscript o i pos) X.env v=(do
   let ov ← ysm [v] (eval o X.env)
   let iv ← ysm [v,ov] (eval i X.env)
   standAt pos
   ysm [v,ov,iv] (setItem ov iv v)
   release [v,ov,iv] []):=by intro _;rfl):PG X (.Subscript o i pos) (gSub to ti t):=by
 intro pins s σ H v u Q I r h;rw[ha];refine yba (ycc (thn (ho pins s σ H _ I h) λov s1 ⟨x,H1,I1,r1,q1⟩=>?_));refine yba (ycc (thn (hi pins s1 σ H1 _ I1 q1) λiv s2 ⟨y,H2,I2,r2,q2⟩=>?_));refine yba (yjp (yba (ycc (thn (hs pins s2 σ H2 x y v ov iv u _ I2 r1 r2 r q2) λ_ s3 ⟨H3,I3,q3⟩=>?_))));exact wpAny_release ⟨σ,H3,I3,q3⟩
def tAsg (te:TE)(g:TG):TS:=λD σ H=>te σ H λx H1=>g x σ H1 D.nx
theorem zpg {tg e:Expr}{te:TE}{g:TG}(he:PE X e te)(hg:PG X tg g)(hs:swapsWithSole [tg] e pos.line X.env=pure false:=by rfl)(hw:swappedStores [tg] e X.env=pure none:=by rfl)
  (h1:(yyl [tg] X.env).map (·.2)=[assign tg X.env]:=by rfl):PS X (.Assign [tg] e pos) (tAsg te g):=by
 intro pins s σ H D I h;refine wpAny_Assign_stores (thn (he pins s σ H _ I h) λv s1 ⟨x,H1,I1,r1,q1⟩=>?_) hs hw;rw[h1];exact thn (hg pins s1 σ H1 x v _ I1 r1 q1) λ_ s2 q=>q
theorem zta {i:Nat}{x:Str}{e:Expr}{te:TE}{pos':Pos}(hN:X.N.Nodup)(hi:X.N[i]?=some x)(hx:Loc X.env.scope x)(he:PE X e te)(hs:yhr e (some (.Name x pos')) pos.line X.env=pure false:=by rfl)(hf:X.fn x=true∨X.env.scope.names.lookup x=some .local:=by first|exact .inl rfl|exact .inr rfl|assumption) :
  PS X (.Assign [.Name x pos'] e pos) (tAsg te (zulb i)):=by
 intro pins s σ H D I h;refine wpAny_Assign_Name (thn (he pins s σ H _ I h) λv s1 ⟨y,H1,I1,r1,q1⟩=>?_) hs;exact zzu I1 hN hi hx r1 (λs2 I2=>⟨_,H1,I2,q1⟩) hf
def tAug (i:Nat)(te:TE)(ti:TIp):TS:=λD σ H=>∃x,σ[i]?=some (some x)∧te σ H λy H1=>ti x y H1 λz H2=>D.nx (σ.set i (some z)) H2
theorem ztqb {i:Nat}{x:Str}{e:Expr}{te:TE}{op:yfr}{ti:TIp}{pos':Pos}(hN:X.N.Nodup)(hi:X.N[i]?=some x)(hx:Loc X.env.scope x)(he:PE X e te)(ho:PIp X op ti)(hf:X.fn x=true∨X.env.scope.names.lookup x=some .local:=by first|exact .inl rfl|exact .inr rfl|assumption) :
  PS X (.AugAssign (.Name x pos') op e pos) (tAug i te ti):=by
 intro pins s σ H D I h;obtain⟨v,e1,h⟩:=h;obtain⟨m,hn,hl⟩:=I.loc;have vis:Vis X.env.scope x:=by rcases hx with k|k;exact .inl k;exact .inr (.inl k)
 obtain⟨u,r,l⟩:=hl i x v hi e1 vis;refine wpAny_AugAssign_Name ?_;have go:wpAny (model X.prog X.w) X.A (eval e X.env) (λw s₂=>wpAny (model X.prog X.w) X.A (inplaceOp op u w) (λr s₃=>wpAny (model X.prog X.w) X.A (storeName X.env x r) (λ_=>SP X pins D .next) X.xe s₃) X.xe s₂) X.xe s:=by
  refine thn (he pins s σ H _ I h) λw s1 ⟨y,H1,I1,r1,q1⟩=>?_;refine thn (ho pins s1 σ H1 v y u w _ I1 r r1 q1) λz s2 ⟨zv,H2,I2,r2,q2⟩=>?_;exact zzu I2 hN hi hx r2 (λs3 I3=>⟨_,H2,I3,q2⟩) hf
 rcases l with⟨hk,hm⟩|⟨hk,c,hc,hcell⟩
 ·exact wpAny_loadName_local I.ok.kind hk hn hm go
 ·rcases hk with hk|hk
  ·exact wpAny_loadName_cell I.ok.kind hk hc hcell go
  ·rcases hx with k|k
   ·have:X.env.scope.names.lookup x=some .free:=hk;rw[k] at this;cases this
   ·have:X.env.scope.names.lookup x=some .free:=hk;rw[k] at this;cases this
def ipI (f:Int->Int->Int):TIp:=λx y H Q=>Ex2 λi j=>x = .int i∧y = .int j∧Q (.int (f i j)) H
theorem zcsb:PIp X .Add (ipI λi j=>i+j):=by
 intro pins s σ H x y v u Q I r1 r2 h;obtain⟨i,j,e1,e2,q⟩:=h;subst e1;subst e2;obtain⟨t,rfl⟩:=r1;obtain⟨t',rfl⟩:=r2;exact iadd_int ⟨.int _,H,I.tok _,⟨_,rfl⟩,q⟩
end
section
variable {X:Cx}{pos:Pos}
def zupb (c:TT)(tb:TS):TS:=λD σ H=>∃W:Nat->St->Hp->Prop,(∃m,W m σ H)∧∀m σ H,W m σ H →
 c σ H λb H1=>if b=true then ∃N:St->Hp->Prop,(∀ σ' H',N σ' H'->∃m',m'<m∧W m' σ' H')∧tb { D with nx:=N,ct:=N,bk:=D.nx } σ H1 else D.nx σ H1
theorem zrkb {c:Expr}{body:List Stmt}{tc:TT}{tb:TS}(hp:PassesOwn (model X.prog X.w) X.A X.env X.xe)(hc:PT X c tc)(hb:PSs X body tb):PS X (.While c body [] pos) (zupb tc tb):=by
 intro pins s σ H D I h;obtain⟨W,⟨m0,w0⟩,turn⟩:=h;refine wpAny_While (codeAny_whileLoop (λn s'=>∃ σ' H',Inv X pins σ' H' s'∧W n σ' H') ?_ m0 ⟨σ,H,I,w0⟩);rintro n s1 ⟨σ1,H1,I1,w1⟩;refine yng hp (thn (hc pins s1 σ1 H1 _ I1 (turn n σ1 H1 w1)) λb s2 ⟨H2,I2,q2⟩=>?_);cases b with
 | true =>
  obtain⟨N,hN,q2⟩:=q2;rw[if_pos rfl];refine yng hp (thn (hb pins s2 σ1 H2 _ I2 q2) λf s3 q3=>?_);cases f with
  | next =>
   obtain⟨σ3,H3,I3,n3⟩:=q3;obtain⟨m',hm,w3⟩:=hN σ3 H3 n3;exact⟨m',hm,σ3,H3,I3,w3⟩
  | cont =>
   obtain⟨σ3,H3,I3,n3⟩:=q3;obtain⟨m',hm,w3⟩:=hN σ3 H3 n3;exact⟨m',hm,σ3,H3,I3,w3⟩
  | brk=>exact q3
  | ret v=>exact q3
 | false =>
  rw[if_neg ygb];exact ykk ⟨σ1,H2,I2,q2⟩
end
structure It where
 go:Nat->Hp->Prop
 yld:Nat->Hp->V->Hp->Prop
 stop:Nat->Hp->Prop
def FpOk (X:Cx)(pins:List (Addr×Obj))(H:Hp)(b:Addr):Prop :=
 H b=none∧b≠X.env.locals∧b∉X.fs∧(b∈X.ex∨X.s₀.heap.objs.size≤b)∧(∀x c,X.env.cells.lookup x=some c->c≠b)∧∀p∈X.pn++pins,p.1≠b
theorem Inv.fpOk {X:Cx}{pins:List (Addr×Obj)}{σ:St}{H H':Hp}{s:Shared}{b:Addr}(I:Inv X pins σ H s)(hb:s.heap.objs.size≤b)(hn:H' b=none):FpOk X pins H' b:=by
 refine⟨hn,ylf (yva I.lt hb),I.nofs hb,.inr (ykb I.sz hb),λx c e z=>?_,λp hp z=>?_⟩
 ·obtain⟨v,q⟩:=I.cell x c e;exact absurd (yva q.lt (by rw[z];exact hb)) (yfe _)
 ·exact absurd (yva (yra (I.pin p hp).1) (by rw[z];exact hb)) (yfe _)
structure Turn (P:yvb)(w:World)(K:yda)(tg:Expr)(J:It)(fp:List Addr)(it:Addr)(tn:Nat->Heap->Prop):Prop where
 mem:it∈fp
 obj:∀i h,tn i h->∀b∈fp,∃o,h.get? b=some o∧∀v,o.data ≠ .cell v
 keep:∀i h h',tn i h->(∀b∈fp,∀o,h.get? b=some o->h'.get? b=some o)->tn i h'
 item:∀(X:Cx),X.prog=P->X.w=w->X.K=K->X.calm=true->∀(i:Nat) (pins:List (Addr×Obj)) (s:Shared) (σ:St) (H:Hp) (E:Value->Shared->Prop),Inv X pins σ H s->(∀b∈fp,FpOk X pins H b)->tn i s.heap->J.go i H →
  wpAny (model P w) X.A (pyNext (.ref it)) (λr s1=>∃u,r=some u ∧
   wpAny (model P w) X.A (ylk tg (.ref it) u) (λ_ s2=>Ex2 λx H'=>Inv X pins σ H' s2∧RelV x u∧J.yld i H x H'∧tn (i+1) s2.heap∧∀b∈fp,H' b=none) E s1) E s
 done:∀(X:Cx),X.prog=P->X.w=w->X.K=K->X.calm=true->∀(i:Nat) (pins:List (Addr×Obj)) (s:Shared) (σ:St) (H:Hp) (E:Value->Shared->Prop),Inv X pins σ H s->(∀b∈fp,FpOk X pins H b)->tn i s.heap->J.stop i H →
  wpAny (model P w) X.A (pyNext (.ref it)) (λr s1=>r=none∧Inv X pins σ H s1) E s
 self:∀(A:Around) (i:Nat) (s:Shared) (Q:Value->Shared->Prop) (E:Value->Shared->Prop),tn i s.heap->Q (.ref it) s->wpAny (model P w) A (pyIter (.ref it)) Q E s
abbrev TI:=St->Hp->(It->Hp->Prop)->Prop
def PIE (X:Cx)(pins:List (Addr×Obj))(σ:St)(tg:Expr)(R:It->Hp->Prop)(itv:Value)(s2:Shared):Prop :=
 Ex5 λ(it:Addr) (fp:List Addr) (tn:Nat->Heap->Prop) (J:It) (H':Hp)=>itv = .ref it∧Inv X pins σ H' s2∧Turn X.prog X.w X.K tg J fp it tn∧tn 0 s2.heap∧(∀b∈fp,FpOk X pins H' b)∧R J H'
def PI (X:Cx)(tg iter:Expr)(wi:TI):Prop :=
 ∀(pins:List (Addr×Obj)) (s:Shared) (σ:St) (H:Hp) (R:It->Hp->Prop),Inv X pins σ H s->wi σ H R →
  wpAny (model X.prog X.w) X.A (eval iter X.env) (λv s1=>wpAny (model X.prog X.w) X.A (pyIter v) (PIE X pins σ tg R) X.xe s1) X.xe s
theorem zkib {M:Model}{A:Around}{E:Value->Shared->Prop}{s:Shared}{tg:Expr}{it:Addr}{u:Value}{o:Obj}{n:String}{vs:Array Value}{Q:Unit->Shared->Prop}(ho:s.heap.get? it=some o)(hc:o.cls = .type n)(hd:o.data = .fields vs)
  (hn:["enumerate","zip","dict_itemiterator","dict_reverseitemiterator","odict_iterator","itertools.zip_longest","itertools.pairwise"].contains n=false) (hQ:Q () s):wpAny M A (ylk tg (.ref it) u) Q E s:=by
 unfold ylk;cases tg<;>first
  | exact yea hQ
  | (cases u<;>first
    | exact yea hQ
    | (refine yba (yzl ho ?_)
       rw[hc,hd];show wpAny M A (if (["enumerate","zip","dict_itemiterator","dict_reverseitemiterator","odict_iterator","itertools.zip_longest","itertools.pairwise"].contains n&&vs[0]?==some (rawInt _))=true then _ else _) Q E s
       rw[if_neg (by intro h;rw[hn,ygg] at h;cases h)];exact yea hQ))
def Itl (K:yda)(a:Addr):It :=
 ⟨λi H=>Ex2 λxs x=>SqL K H a xs∧xs[i]?=some x,λi H x H'=>H'=H∧∀xs,SqL K H a xs->xs[i]?=some x,λi H=>∃xs,SqL K H a xs∧xs.length≤i⟩
def Itt (K:yda)(a:Addr):It :=
 ⟨λi H=>Ex2 λxs x=>SqT K H a xs∧xs[i]?=some x,λi H x H'=>H'=H∧∀xs,SqT K H a xs->xs[i]?=some x,λi H=>∃xs,SqT K H a xs∧xs.length≤i⟩
def Itr (lo:Int)(n:Nat):It:=⟨λi _=>i<n,λi H x H'=>H'=H∧x = .int (lo+i),λi _=>n≤i⟩
theorem zdgb {P:yvb}{w:World}{K:yda}{tg:Expr}(a it:Addr):Turn P w K tg (Itl K a) [it] it (λi h=>h.IsListIter it a i) where
 mem:=by simp
 obj:=λi h st b hb=>by
  have e:b=it:=by simpa using hb
  subst e;obtain⟨o,e,c,d⟩:=st;exact⟨o,e,λv z=>by rw[d] at z;cases z⟩
 keep:=λi h h' st k=>st.at λo e=>k it (by simp) o e
 item:=by
  intro X hP hw hK hc i pins s σ H E I hf st hg;subst hP hw hK;obtain⟨xs,x,hq,hx⟩:=hg;obtain⟨its,rv,p,hz⟩:=I.list hq;obtain⟨u,hu,ru⟩:=rv.get hx;obtain⟨f0,f1,f2,f3,f4,f5⟩:=hf it (by simp);refine wpAny_pyNext_list_item st p.isList (x:=u) (by simpa using hu) λh' st' sb=>?_;have I1:Inv X pins σ H { s with heap:=h' }:=I.turned (t':=s.toks) (λb o hb e=>(sb.2 b hb).trans e) f0 f1 f3 f4 f5;obtain⟨o,e,c,d⟩:=id st';exact⟨u,rfl,zkib (s:={ s with heap:=h' }) e c d (by decide) ⟨x,H,I1,ru,⟨rfl,λys hy=>by rw[I.zjlb hy hq];exact hx⟩,st',λb hb=>(hf b hb).1⟩⟩
 done:=by
  intro X hP hw hK hc i pins s σ H E I hf st hg;subst hP hw hK;obtain⟨xs,hq,hx⟩:=hg;obtain⟨its,rv,p,hz⟩:=I.list hq;obtain⟨f0,f1,f2,f3,f4,f5⟩:=hf it (by simp);have hl:=rv.length;exact wpAny_pyNext_list_end (I.ok.hd hc) st p.isList (by simp;omega) λh' eb=>⟨rfl,I.turned (t':=s.toks) (λb o hb e=>eb b o hb e) f0 f1 f3 f4 f5⟩
 self:=λ_ _ _ _ _ st h=>wpAny_pyIter_listiter st h
theorem zleb {P:yvb}{w:World}{K:yda}{tg:Expr}(a it:Addr):Turn P w K tg (Itt K a) [it] it (λi h=>h.IsTupleIter it a i) where
 mem:=by simp
 obj:=λi h st b hb=>by
  have e:b=it:=by simpa using hb
  subst e;obtain⟨o,e,c,d⟩:=st;exact⟨o,e,λv z=>by rw[d] at z;cases z⟩
 keep:=λi h h' st k=>st.at λo e=>k it (by simp) o e
 item:=by
  intro X hP hw hK hc i pins s σ H E I hf st hg;subst hP hw hK;obtain⟨xs,x,hq,hx⟩:=hg;obtain⟨its,rv,p,hz⟩:=I.tuple hq;obtain⟨u,hu,ru⟩:=rv.get hx;obtain⟨f0,f1,f2,f3,f4,f5⟩:=hf it (by simp);refine wpAny_pyNext_tuple_item st (show s.heap.IsTuple a its.toArray from p) (x:=u) (by simpa using hu) λh' st' sb=>?_;have I1:Inv X pins σ H { s with heap:=h' }:=I.turned (t':=s.toks) (λb o hb e=>(sb.2 b hb).trans e) f0 f1 f3 f4 f5;obtain⟨o,e,c,d⟩:=id st';exact⟨u,rfl,zkib (s:={ s with heap:=h' }) e c d (by decide) ⟨x,H,I1,ru,⟨rfl,λys hy=>by rw[I.zegb hy hq];exact hx⟩,st',λb hb=>(hf b hb).1⟩⟩
 done:=by
  intro X hP hw hK hc i pins s σ H E I hf st hg;subst hP hw hK;obtain⟨xs,hq,hx⟩:=hg;obtain⟨its,rv,p,hz⟩:=I.tuple hq;obtain⟨f0,f1,f2,f3,f4,f5⟩:=hf it (by simp);have hl:=rv.length;exact wpAny_pyNext_tuple_end (I.ok.hd hc) st (show s.heap.IsTuple a its.toArray from p) (by simp;omega) λh' eb=>⟨rfl,I.turned (t':=s.toks) (λb o hb e=>eb b o hb e) f0 f1 f3 f4 f5⟩
 self:=λ_ _ _ _ _ st h=>wpAny_pyIter_tupleiter st h
theorem zmeb {P:yvb}{w:World}{K:yda}{tg:Expr}(it:Addr)(lo:Int)(n:Nat):Turn P w K tg (Itr lo n) [it] it (λi h=>IsRangeIter h it (lo+(i:Nat)*1) ((n:Int)-(i:Nat)) 1) where
 mem:=by simp
 obj:=λi h st b hb=>by
  have e:b=it:=by simpa using hb
  subst e;exact⟨_,st,λv z=>by
   have z':Data.fields _=Data.cell v:=z;cases z'⟩
 keep:=λi h h' st k=>k it (by simp) _ st
 item:=by
  intro X hP hw hK hc i pins s σ H E I hf st hg;subst hP hw hK;obtain⟨f0,f1,f2,f3,f4,f5⟩:=hf it (by simp);have W:=Walks.range (prog:=X.prog) (w:=X.w) (I.ok.hd hc) it lo 1 n;refine W.item i s _ _ hg st λv h' tk hv st' kk=>?_;obtain⟨t,rfl⟩:=hv;have I1:Inv X pins σ H { s with heap:=h',toks:=tk }:=I.turned (λb o hb e=>kk b o (by simpa using hb) e) f0 f1 f3 f4 f5;refine⟨_,rfl,zkib (s:={ s with heap:=h',toks:=tk }) (n:="range_iterator") st' rfl rfl (by decide) ⟨.int (lo+i),H,I1,⟨t,?_⟩,⟨rfl,rfl⟩,st',λb hb=>(hf b hb).1⟩⟩;rw[Int.mul_one]
 done:=by
  intro X hP hw hK hc i pins s σ H E I hf st hg;subst hP hw hK;obtain⟨f0,f1,f2,f3,f4,f5⟩:=hf it (by simp);exact wpAny_pyNext_range_end (I.ok.hd hc) st (by have:n≤i:=hg;omega) λh' eb=>⟨rfl,I.turned (t':=s.toks) (λb o hb e=>eb b o hb e) f0 f1 f3 f4 f5⟩
 self:=λ_ _ _ _ _ st h=>wpAny_pyIter_rangeiter st h
end L2
namespace L2
open PySem PySem.Spec PyProof.Rows
section
variable {X:Cx}{tg:Expr}
def zgsb (K:yda)(tl:TE):TI:=fun σ H R=>tl σ H λx H1=>∃a,x = .ref a∧(∃xs,SqL K H1 a xs)∧R (Itl K a) H1
def iTup (K:yda)(tl:TE):TI:=fun σ H R=>tl σ H λx H1=>∃a,x = .ref a∧(∃xs,SqT K H1 a xs)∧R (Itt K a) H1
theorem zcg {l:Expr}{tl:TE}(hl:PE X l tl):PI X tg l (zgsb X.K tl):=by
 intro pins s σ H R I h;refine thn (hl pins s σ H _ I h) λv s1 ⟨x,H1,I1,r1,q1⟩=>?_;obtain⟨a,e,⟨xs,hq⟩,q⟩:=q1;subst e;cases r1;obtain⟨its,rv,p,hz⟩:=I1.list hq;refine yam p.isList ?_;refine⟨s1.heap.objs.size,[s1.heap.objs.size],_,_,H1,rfl,I1.kept (t':=s1.toks) λb o e=>yca _ e,zdgb a _,⟨_,yla _ rfl,rfl,rfl⟩,λb hb=>?_,q⟩;have e:b=s1.heap.objs.size:=by simpa using hb
 subst e;exact I1.fpOk (yja _) (I1.hok.fresh (yja _))
theorem zux {l:Expr}{tl:TE}(hl:PE X l tl):PI X tg l (iTup X.K tl):=by
 intro pins s σ H R I h;refine thn (hl pins s σ H _ I h) λv s1 ⟨x,H1,I1,r1,q1⟩=>?_;obtain⟨a,e,⟨xs,hq⟩,q⟩:=q1;subst e;cases r1;obtain⟨its,rv,p,hz⟩:=I1.tuple hq;refine ydl (show s1.heap.IsTuple a its.toArray from p) ?_;refine⟨s1.heap.objs.size,[s1.heap.objs.size],_,_,H1,rfl,I1.kept (t':=s1.toks) λb o e=>yca _ e,zleb a _,⟨_,yla _ rfl,rfl,rfl⟩,λb hb=>?_,q⟩;have e:b=s1.heap.objs.size:=by simpa using hb
 subst e;exact I1.fpOk (yja _) (I1.hok.fresh (yja _))
theorem zokb {pins:List (Addr×Obj)}{σ:St}{H:Hp}{s:Shared}{R:It->Hp->Prop}{E:Value->Shared->Prop}{lo hi:Int}{t u v:Tok}{tk:Nat}(I:Inv X pins σ H s)(h1:-(2 ^ 62)≤lo)(h2:lo<2 ^ 62)(h3:-(2 ^ 62)≤hi)(h4:hi<2 ^ 62)
  (q:R (Itr lo (hi-lo).toNat) H):wpAny (model X.prog X.w) X.A (pyIter (.ref s.heap.objs.size)) (PIE X pins σ tg R) E { s with heap:=s.heap.push { cls:=.type "range",data:=.fields #[.int lo t,.int hi u,.int 1 v] },toks:=tk }:=by
 refine wpAny_pyIter_range (IsRange.new ..) (small_one h1 h2 h3 h4) ?_;have I1:Inv X pins σ H { s with heap:=s.heap.push { cls:=.type "range",data:=.fields #[.int lo t,.int hi u,.int 1 v] },toks:=tk }:=I.kept λb o e=>yca _ e;refine⟨(s.heap.push { cls:=.type "range",data:=.fields #[.int lo t,.int hi u,.int 1 v] }).objs.size,[(s.heap.push { cls:=.type "range",data:=.fields #[.int lo t,.int hi u,.int 1 v] }).objs.size],_,_,H,rfl,
  I1.kept (t':=tk) λb o e=>yca _ e,zmeb _ lo (hi-lo).toNat,?_,λb hb=>?_,q⟩
 ·have e1:lo+((0:Nat):Int)*1=lo:=by simp
  have e2:(((hi-lo).toNat:Nat):Int)-((0:Nat):Int)=yye.Range.rangeSize lo hi 1:=by rw[rangeSize_one];split<;>omega
  show IsRangeIter _ _ (lo+((0:Nat):Int)*1) ((((hi-lo).toNat:Nat):Int)-((0:Nat):Int)) 1
  rw[e1,e2];exact yla _ rfl
 ·have e:b=(s.heap.push { cls:=.type "range",data:=.fields #[.int lo t,.int hi u,.int 1 v] }).objs.size:=by simpa using hb
  subst e;exact I1.fpOk (yja _) (I1.hok.fresh (yja _))
def zwtb (ta:TA):TI:=fun σ H R=>ta σ H λvs H1=>∃j:Int,vs=[.int j] ∧ -(2 ^ 62)≤j∧j<2 ^ 62∧R (Itr 0 j.toNat) H1
theorem zrd {a:Expr}{ta:TA}{p pos:Pos}(hg:Gl X "range")(hm:X.mg "range" = none)(ha:PA X [a] ta)(hs:yhd [a] X.env=[(false,eval a X.env)]:=by rfl):PI X tg (.Call (.Name "range" p) [a] [] pos) (zwtb ta):=by
 intro pins s σ H R I h;refine Call_ (zuy I hg hm boot_range (ynh (thn (ha pos pins s σ H _ I h) λus s1 ⟨vs,H1,I1,r1,q1⟩=>?_) hs rfl));obtain⟨j,e,q1,q2,q⟩:=q1;subst e;cases r1 with
 | cons r rr =>
  cases rr;obtain⟨t,rfl⟩:=r;exact call_range_1 (zokb I1 (by omega) (by omega) q1 q2 (by simpa using q))
def tFor (wi:TI)(g:TG)(tb:TS):TS:=λD σ H=>wi σ H λJ H1=>∃W:Nat->Nat->St->Hp->Prop,(∃m,W 0 m σ H1)∧∀i m σ H,W i m σ H →
 (J.stop i H∧D.nx σ H)∨(J.go i H∧∃N:St->Hp->Prop,(∀ σ' H',N σ' H'->∃m',m'<m∧W (i+1) m' σ' H')∧∀x H',J.yld i H x H'->g x σ H' fun σ2 H2=>tb { D with nx:=N,ct:=N,bk:=D.nx } σ2 H2)
def zyt (fp:List Addr)(h:Heap):List (Addr×Obj):=fp.filterMap λb=>(h.get? b).map λo=>(b,o)
theorem zno {fp:List Addr}{h:Heap}{b:Addr}{o:Obj}(hb:b∈fp)(e:h.get? b=some o):(b,o)∈zyt fp h:=ykp.mpr ⟨b,hb,by rw[e];rfl⟩
theorem zlhb {fp:List Addr}{h:Heap}{p:Addr×Obj}(hp:p∈zyt fp h):p.1∈fp∧h.get? p.1=some p.2:=by
 obtain⟨b,hb,e⟩:=ykp.mp hp;cases q:h.get? b with
 | none=>rw[q] at e;cases e
 | some o =>
  rw[q] at e;have e':(b,o)=p:=yvc e;subst e';exact⟨hb,q⟩
theorem Inv.pinned {pins:List (Addr×Obj)}{σ:St}{H:Hp}{s:Shared}{fp:List Addr}(I:Inv X pins σ H s)(hf:∀b∈fp,FpOk X pins H b)(ho:∀b∈fp,∃o,s.heap.get? b=some o∧∀v,o.data ≠ .cell v):Inv X (pins++zyt fp s.heap) σ H s :=
 I.znr λp hp=>(ysb.mp hp).elim (λz=>I.pin p (yic _ z)) λz=>by
  obtain⟨hb,e⟩:=zlhb z;obtain⟨f0,f1,f2,_⟩:=hf p.1 hb;obtain⟨o,e',d⟩:=ho p.1 hb;rw[e] at e';cases e';exact⟨e,f0,f1,f2,d⟩
theorem Inv.zuu {pins pl:List (Addr×Obj)}{σ:St}{H:Hp}{s:Shared}(I:Inv X (pins++pl) σ H s):Inv X pins σ H s:=I.znr λp hp=>I.pin p (yic _ (ylg _ hp))
theorem zsx {iter:Expr}{body:List Stmt}{wi:TI}{g:TG}{tb:TS}{pos:Pos}(hp:PassesOwn (model X.prog X.w) X.A X.env X.xe)(hc:X.calm=true)(hi:PI X tg iter wi)(hg:PG X tg g)(hb:PSs X body tb)
  (hs:∀x,ybm iter X.env x=pure x:=by intro _;rfl):PS X (.For tg iter body [] pos) (tFor wi g tb):=by
 intro pins s σ H D I h;refine wpAny_For (thn (hi pins s σ H _ I h) λv s1 h1=>thn h1 λitv s2 h2=>?_) hs;obtain⟨it,fp,tn,J,H2,e,I2,T,st2,f2,W,⟨m0,w0⟩,turn⟩:=h2;subst e;have stat:∀{H':Hp},(∀b∈fp,H' b=none)->∀b∈fp,FpOk X pins H' b:=λhn b hb=>⟨hn b hb,(f2 b hb).2⟩;refine codeAny_forLoop_any (λn s'=>∃i σ' H',Inv X pins σ' H' s'∧tn i s'.heap∧(∀b∈fp,H' b=none)∧W i n σ' H') ?_ m0 ⟨0,σ,H2,I2,st2,λb hb=>(f2 b hb).1,w0⟩;rintro n s3 ⟨i,σ3,H3,I3,st3,fr3,w3⟩
 rcases turn i n σ3 H3 w3 with⟨stop,qn⟩|⟨go,N,hN,step⟩
 ·refine yng hp (thn (T.done X rfl rfl rfl hc i pins s3 σ3 H3 X.xe I3 (stat fr3) st3 stop) λr s4 ⟨hr,I4⟩=>?_);subst hr;exact ykk ⟨σ3,H3,I4,qn⟩
 ·refine yng hp (thn (T.item X rfl rfl rfl hc i pins s3 σ3 H3 X.xe I3 (stat fr3) st3 go) λr s4 ⟨u,hr,h4⟩=>?_);subst hr;refine yng hp (thn h4 λ_ s5 ⟨x,H5,I5,r5,y5,st5,fr5⟩=>?_);have I5':=I5.pinned (stat fr5) (T.obj _ _ st5);refine yng hp (thn (hg _ s5 σ3 H5 x u _ I5' r5 (step x H5 y5)) λ_ s6 ⟨σ6,H6,I6,q6⟩=>?_);refine yng hp (thn (hb _ s6 σ6 H6 _ I6 q6) λf s7 q7=>?_);have again:∀{σ7:St} {H7:Hp},Inv X (pins++zyt fp s5.heap) σ7 H7 s7->N σ7 H7->∃m,m<n∧∃i σ' H',Inv X pins σ' H' s7∧tn i s7.heap∧(∀b∈fp,H' b=none)∧W i m σ' H':=λ{σ7 H7} I7 n7=>by
   obtain⟨m',hm,w7⟩:=hN σ7 H7 n7;refine⟨m',hm,i+1,σ7,H7,I7.zuu,T.keep _ _ _ st5 λb hb o e=>(I7.pin (b,o) (yic _ (yic _ (zno hb e)))).1,λb hb=>?_,w7⟩;obtain⟨o,e,d⟩:=T.obj _ _ st5 b hb;exact (I7.pin (b,o) (yic _ (yic _ (zno hb e)))).2.1
  cases f with
  | next=>obtain⟨σ7,H7,I7,n7⟩:=q7;exact again I7 n7
  | cont=>obtain⟨σ7,H7,I7,n7⟩:=q7;exact again I7 n7
  | brk=>obtain⟨σ7,H7,I7,q7⟩:=q7;exact⟨σ7,H7,I7.zuu,q7⟩
  | ret v=>obtain⟨x7,σ7,H7,I7,r7,q7⟩:=q7;exact⟨x7,σ7,H7,I7.zuu,r7,q7⟩
end
theorem zvlb {K:yda}{a:Addr}{xs:List V}{g:TG}{tb:TS}{D:Ends}{σ:St}{H:Hp}(Pv:Nat->St->Hp->Prop)(h0:Pv 0 σ H)(hl:∀i σ H,i≤xs.length->Pv i σ H->SqL K H a xs)
  (hs:∀i x σ H,xs[i]?=some x->Pv i σ H->g x σ H fun σ2 H2=>tb { D with nx:=Pv (i+1),ct:=Pv (i+1),bk:=D.nx } σ2 H2) (hd:∀ σ H,Pv xs.length σ H->D.nx σ H) :
  ∃W:Nat->Nat->St->Hp->Prop,(∃m,W 0 m σ H)∧∀i m σ H,W i m σ H →
   ((Itl K a).stop i H∧D.nx σ H)∨((Itl K a).go i H∧∃N:St->Hp->Prop,(∀ σ' H',N σ' H'->∃m',m'<m∧W (i+1) m' σ' H')∧∀x H',(Itl K a).yld i H x H'->g x σ H' fun σ2 H2=>tb { D with nx:=N,ct:=N,bk:=D.nx } σ2 H2):=by
 refine⟨λi m σ H=>m=xs.length-i∧i≤xs.length∧Pv i σ H,⟨xs.length,by simp,ytb _,h0⟩,?_⟩;rintro i m σ H ⟨rfl,hi,p⟩;have q:=hl i σ H hi p
 by_cases hlt:i<xs.length
 ·refine .inr ⟨⟨xs,xs[i],q,by simp[hlt]⟩,Pv (i+1),fun σ' H' p'=>⟨xs.length-(i+1),by omega,rfl,hlt,p'⟩,λx H' y=>?_⟩;obtain⟨e,y⟩:=y;subst e;exact hs i x σ _ (y xs q) p
 ·have e:i=xs.length:=by omega
  subst e;exact .inl ⟨⟨xs,q,yja _⟩,hd σ H p⟩
theorem zxob {K:yda}{a:Addr}{xs:List V}{g:TG}{tb:TS}{D:Ends}{σ:St}{H:Hp}(Pv:Nat->St->Hp->Prop)(h0:Pv 0 σ H)(hl:∀i σ H,i≤xs.length->Pv i σ H->SqT K H a xs)
  (hs:∀i x σ H,xs[i]?=some x->Pv i σ H->g x σ H fun σ2 H2=>tb { D with nx:=Pv (i+1),ct:=Pv (i+1),bk:=D.nx } σ2 H2) (hd:∀ σ H,Pv xs.length σ H->D.nx σ H) :
  ∃W:Nat->Nat->St->Hp->Prop,(∃m,W 0 m σ H)∧∀i m σ H,W i m σ H →
   ((Itt K a).stop i H∧D.nx σ H)∨((Itt K a).go i H∧∃N:St->Hp->Prop,(∀ σ' H',N σ' H'->∃m',m'<m∧W (i+1) m' σ' H')∧∀x H',(Itt K a).yld i H x H'->g x σ H' fun σ2 H2=>tb { D with nx:=N,ct:=N,bk:=D.nx } σ2 H2):=by
 refine⟨λi m σ H=>m=xs.length-i∧i≤xs.length∧Pv i σ H,⟨xs.length,by simp,ytb _,h0⟩,?_⟩;rintro i m σ H ⟨rfl,hi,p⟩;have q:=hl i σ H hi p
 by_cases hlt:i<xs.length
 ·refine .inr ⟨⟨xs,xs[i],q,by simp[hlt]⟩,Pv (i+1),fun σ' H' p'=>⟨xs.length-(i+1),by omega,rfl,hlt,p'⟩,λx H' y=>?_⟩;obtain⟨e,y⟩:=y;subst e;exact hs i x σ _ (y xs q) p
 ·have e:i=xs.length:=by omega
  subst e;exact .inl ⟨⟨xs,q,yja _⟩,hd σ H p⟩
theorem zez {lo:Int}{n:Nat}{g:TG}{tb:TS}{D:Ends}{σ:St}{H:Hp}(Pv:Nat->St->Hp->Prop)(h0:Pv 0 σ H)
  (hs:∀i σ H,i<n->Pv i σ H->g (.int (lo+i)) σ H fun σ2 H2=>tb { D with nx:=Pv (i+1),ct:=Pv (i+1),bk:=D.nx } σ2 H2) (hd:∀ σ H,Pv n σ H->D.nx σ H) :
  ∃W:Nat->Nat->St->Hp->Prop,(∃m,W 0 m σ H)∧∀i m σ H,W i m σ H →
   ((Itr lo n).stop i H∧D.nx σ H)∨((Itr lo n).go i H∧∃N:St->Hp->Prop,(∀ σ' H',N σ' H'->∃m',m'<m∧W (i+1) m' σ' H')∧∀x H',(Itr lo n).yld i H x H'->g x σ H' fun σ2 H2=>tb { D with nx:=N,ct:=N,bk:=D.nx } σ2 H2):=by
 refine⟨λi m σ H=>m=n-i∧i≤n∧Pv i σ H,⟨n,by simp,ytb _,h0⟩,?_⟩;rintro i m σ H ⟨rfl,hi,p⟩
 by_cases hlt:i<n
 ·refine .inr ⟨hlt,Pv (i+1),fun σ' H' p'=>⟨n-(i+1),by omega,rfl,hlt,p'⟩,λx H' y=>?_⟩;obtain⟨e,y⟩:=y;subst e y;exact hs i σ _ hlt p
 ·have e:i=n:=by omega
  subst e;exact .inl ⟨yja _,hd σ H p⟩
end L2
namespace L2
open PySem PySem.Spec PyProof.Rows
abbrev R2:=V->V->Hp->VK->Prop
def OpR (X:Cx)(f:Value->Value->Sem Value)(r:R2):Prop :=
 ∀(pins:List (Addr×Obj)) (s:Shared) (σ:St) (H:Hp) (x y:V) (v u:Value) (Q:VK),Inv X pins σ H s->RelV x v->RelV y u->r x y H Q →
  wpAny (model X.prog X.w) X.A (f v u) (EP X pins σ Q) X.xe s
def UnR (X:Cx)(f:Value->Sem Value)(r:V->Hp->VK->Prop):Prop :=
 ∀(pins:List (Addr×Obj)) (s:Shared) (σ:St) (H:Hp) (x:V) (v:Value) (Q:VK),Inv X pins σ H s->RelV x v->r x H Q →
  wpAny (model X.prog X.w) X.A (f v) (EP X pins σ Q) X.xe s
def zwf (X:Cx)(f:Value)(r:List V->Hp->VK->Prop):Prop :=
 ∀(pins:List (Addr×Obj)) (s:Shared) (σ:St) (H:Hp) (xs:List V) (us:List Value) (Q:VK),Inv X pins σ H s->Vals xs us->r xs H Q →
  wpAny (model X.prog X.w) X.A (call f us) (EP X pins σ Q) X.xe s
def tOp (r:R2)(ta tb:TE):TE:=fun σ H Q=>ta σ H λx H1=>tb σ H1 λy H2=>r x y H2 Q
def tUn (r:V->Hp->VK->Prop)(ta:TE):TE:=fun σ H Q=>ta σ H λx H1=>r x H1 Q
def rI (C:Int->Int->Prop)(g:Int->Int->V):R2:=λx y H Q=>Ex2 λi j=>x = .int i∧y = .int j∧C i j∧Q (g i j) H
def rI0 (g:Int->Int->V):R2:=λx y H Q=>Ex2 λi j=>x = .int i∧y = .int j∧Q (g i j) H
def rU (g:Int->V):V->Hp->VK->Prop:=λx H Q=>∃i,x = .int i∧Q (g i) H
section
variable {X:Cx}{a b c:Expr}{ta tb tc:TE}{pos:Pos}
theorem binT (ha:PE X a ta)(hb:PE X b tb){pins:List (Addr×Obj)}{s:Shared}{σ:St}{H:Hp}{R:V->V->Hp->Prop}(I:Inv X pins σ H s)
  (h:ta σ H λx H1=>tb σ H1 λy H2=>R x y H2) {Q:Value->Shared->Prop} {f:Value->Value->Sem Value}
  (hf:∀v u s2 x y H2,Inv X pins σ H2 s2->RelV x v->RelV y u->R x y H2->wpAny (model X.prog X.w) X.A (f v u) Q X.xe s2) :
  wpAny (model X.prog X.w) X.A (eval a X.env) (λv s₁=>wpAny (model X.prog X.w) X.A (eval b X.env) (λu s₂=>wpAny (model X.prog X.w) X.A (f v u) Q X.xe s₂) X.xe s₁) X.xe s:=by
 refine thn (ha pins s σ H _ I h) λv s1 ⟨x,H1,I1,r1,q1⟩=>?_;refine thn (hb pins s1 σ H1 _ I1 q1) λu s2 ⟨y,H2,I2,r2,q2⟩=>?_;exact hf v u s2 x y H2 I2 r1 r2 q2
theorem zic {op:yfr}{r:R2}(ho:OpR X (ysh op) r)(ha:PE X a ta)(hb:PE X b tb):PE X (.BinOp a op b pos) (tOp r ta tb):=by
 intro pins s σ H Q I h;exact wpAny_BinOp (binT ha hb I h λv u s2 x y H2 I2 rx ry q=>ho pins s2 σ H2 x y v u Q I2 rx ry q)
theorem zghb {op:UnaryOp}{r:V->Hp->VK->Prop}(ho:UnR X (unaryOp op) r)(ha:PE X a ta):PE X (.UnaryOp op a pos) (tUn r ta):=by
 intro pins s σ H Q I h;exact UnaryOp_ (thn (ha pins s σ H _ I h) λv s1 ⟨x,H1,I1,r1,q1⟩=>ho pins s1 σ H1 x v Q I1 r1 q1)
theorem opI {f:Value->Value->Sem Value}{C:Int->Int->Prop}{g:Int->Int->Int}
  (rule:∀(i j:Int) (t u:Tok) (s:Shared) (Q:Value->Shared->Prop) (E:Value->Shared->Prop),C i j->Q (.int (g i j) s.toks) { s with toks:=s.toks+1 }->wpAny (model X.prog X.w) X.A (f (.int i t) (.int j u)) Q E s) :
  OpR X f (rI C λi j=>.int (g i j)):=by
 intro pins s σ H x y v u Q I rx ry h;obtain⟨i,j,rfl,rfl,hc,q⟩:=h;obtain⟨t,rfl⟩:=rx;obtain⟨t',rfl⟩:=ry;exact rule i j t t' s _ _ hc ⟨.int (g i j),H,I.tok _,⟨_,rfl⟩,q⟩
theorem opI0 {f:Value->Value->Sem Value}{g:Int->Int->Int}
  (rule:∀(i j:Int) (t u:Tok) (s:Shared) (Q:Value->Shared->Prop) (E:Value->Shared->Prop),Q (.int (g i j) s.toks) { s with toks:=s.toks+1 }->wpAny (model X.prog X.w) X.A (f (.int i t) (.int j u)) Q E s) :
  OpR X f (rI0 λi j=>.int (g i j)):=by
 intro pins s σ H x y v u Q I rx ry h;obtain⟨i,j,rfl,rfl,q⟩:=h;obtain⟨t,rfl⟩:=rx;obtain⟨t',rfl⟩:=ry;exact rule i j t t' s _ _ ⟨.int (g i j),H,I.tok _,⟨_,rfl⟩,q⟩
theorem opB0 {f:Value->Value->Sem Value}{g:Int->Int->Bool}
  (rule:∀(i j:Int) (t u:Tok) (s:Shared) (Q:Value->Shared->Prop) (E:Value->Shared->Prop),Q (.bool (g i j)) s->wpAny (model X.prog X.w) X.A (f (.int i t) (.int j u)) Q E s) :
  OpR X f (rI0 λi j=>.bl (g i j)):=by
 intro pins s σ H x y v u Q I rx ry h;obtain⟨i,j,rfl,rfl,q⟩:=h;obtain⟨t,rfl⟩:=rx;obtain⟨t',rfl⟩:=ry;exact rule i j t t' s _ _ ⟨.bl (g i j),H,I,rfl,q⟩
def CPow (i j:Int):Prop:=0≤j∧j≤1000000∧i.natAbs<2 ^ 64
def CMul (i j:Int):Prop:=(-(2 ^ 64)<i∧i<2 ^ 64)∨(-(2 ^ 64)<j∧j<2 ^ 64)
theorem CMul.ok {i j:Int}(h:CMul i j):IntMulOk i j:=by
 rcases h with⟨h1,h2⟩|⟨h1,h2⟩
 ·exact .of_left (intBits_le_64 h1 h2)
 ·exact .of_right (intBits_le_64 h1 h2)
theorem zxf:OpR X (ysh .Add) (rI0 λi j=>.int (i+j)):=opI0 λ_ _ _ _ _ _ _ q=>add_int q
theorem zyl:OpR X (ysh .Sub) (rI0 λi j=>.int (i-j)):=opI0 λ_ _ _ _ _ _ _ q=>sub_int q
theorem zay:OpR X (ysh .Mult) (rI CMul λi j=>.int (i*j)):=opI λ_ _ _ _ _ _ _ hc q=>mul_int q hc.ok
theorem ztr:OpR X (ysh .Mod) (rI (λ_ j=>0<j) λi j=>.int (i % j)):=opI λi j _ _ _ _ _ hc q=>by
 have h1:(0:Int)<j:=hc;exact mod_int' (by omega) (by rw[Int.fmod_eq_emod_of_nonneg i (by omega)];exact q)
theorem zxqb:OpR X (ysh .Pow) (rI CPow λi j=>.int (i ^ j.toNat)):=opI λ_ _ _ _ _ _ _ hc q=>pow_int_small hc.1 hc.2.1 hc.2.2 q
theorem unI {f:Value->Sem Value}{g:Int->Int}
  (rule:∀(i:Int) (t:Tok) (s:Shared) (Q:Value->Shared->Prop) (E:Value->Shared->Prop),Q (.int (g i) s.toks) { s with toks:=s.toks+1 }->wpAny (model X.prog X.w) X.A (f (.int i t)) Q E s) :
  UnR X f (rU λi=>.int (g i)):=by
 intro pins s σ H x v Q I rx h;obtain⟨i,rfl,q⟩:=h;obtain⟨t,rfl⟩:=rx;exact rule i t s _ _ ⟨.int (g i),H,I.tok _,⟨_,rfl⟩,q⟩
theorem zex:UnR X (unaryOp .USub) (rU λi=>.int (-i)):=unI λ_ _ _ _ _ q=>neg_int q
end
def scal:V->V->Bool
 | .non,.non=>true|.non,.int _=>true|.int _,.non=>true|.non,.bl _=>true|.bl _,.non=>true|.non,.str _=>true|.str _,.non=>true
 | .int _,.int _=>true|.bl _,.bl _=>true|.str _,.str _=>true|.byt _,.byt _=>true
 | .int _,.str _=>true|.str _,.int _=>true|.bl _,.str _=>true|.str _,.bl _=>true
 | _,_=>false
def rEq:R2:=λx y H Q=>scal x y=true∧Q (.bl (decide (x=y))) H
def rNe:R2:=λx y H Q=>scal x y=true∧Q (.bl (!decide (x=y))) H
theorem zzib {i j:Int}:decide (V.int i=V.int j)=(i==j):=by
 rw[ymk];simp
theorem zzmb {i j:Bool}:decide (V.bl i=V.bl j)=(i==j):=by
 rw[ymk];simp
theorem zyib {i j:Str}:decide (V.str i=V.str j)=(i==j):=by
 rw[ymk];simp
theorem zajb {i j:Array UInt8}:decide (V.byt i=V.byt j)=(i.toList==j.toList):=by
 rw[ymk];cases i;cases j;simp
section
variable {X:Cx}{a b c:Expr}{ta tb tc:TE}{pos:Pos}
theorem ztc {pins:List (Addr×Obj)}{σ:St}{H:Hp}{s:Shared}{Q:VK}{k k':Bool}(I:Inv X pins σ H s)(q:Q (.bl k) H)(e:k=k'):EP X pins σ Q (.bool k') s:=by
 subst e;exact⟨.bl k,H,I,rfl,q⟩
theorem zad:OpR X (yle .Eq) rEq:=by
 intro pins s σ H x y v u Q I rx ry h;obtain⟨hs,q⟩:=h;cases x with
 | non =>
  cases rx;cases y with
  | non=>cases ry;exact PySem.EqNone.eq_none_none (ztc I q (by simp))
  | bl j=>cases ry;exact PySem.EqNone.eq_none_bool (ztc I q (by simp))
  | int j=>obtain⟨t',rfl⟩:=ry;exact PySem.EqNone.eq_none_int (ztc I q (by simp))
  | str j=>obtain⟨t',rfl⟩:=ry;exact PySem.EqNone.eq_none_str (ztc I q (by simp))
  | _=>exact absurd (show false=true from hs) ygb
 | bl i =>
  cases rx;cases y with
  | non=>cases ry;exact PySem.EqNone.eq_bool_none (ztc I q (by simp))
  | bl j=>cases ry;exact eq_bool (ztc I q zzmb)
  | str j=>obtain⟨t',rfl⟩:=ry;exact PySem.EqMixed.eq_bool_str (ztc I q (by simp))
  | _=>exact absurd (show false=true from hs) ygb
 | int i =>
  obtain⟨t,rfl⟩:=rx;cases y with
  | non=>cases ry;exact PySem.EqNone.eq_int_none (ztc I q (by simp))
  | int j=>obtain⟨t',rfl⟩:=ry;exact eq_int (ztc I q zzib)
  | str j=>obtain⟨t',rfl⟩:=ry;exact PySem.EqMixed.eq_int_str (ztc I q (by simp))
  | _=>exact absurd (show false=true from hs) ygb
 | str i =>
  obtain⟨t,rfl⟩:=rx;cases y with
  | non=>cases ry;exact PySem.EqNone.eq_str_none (ztc I q (by simp))
  | bl j=>cases ry;exact PySem.EqMixed.eq_str_bool (ztc I q (by simp))
  | int j=>obtain⟨t',rfl⟩:=ry;exact PySem.EqMixed.eq_str_int (ztc I q (by simp))
  | str j=>obtain⟨t',rfl⟩:=ry;exact eq_str (ztc I q zyib)
  | _=>exact absurd (show false=true from hs) ygb
 | byt i =>
  obtain⟨t,rfl⟩:=rx;cases y with
  | byt j=>obtain⟨t',rfl⟩:=ry;exact PySem.W.eq_bytes (ztc I q zajb)
  | _=>exact absurd (show false=true from hs) ygb
 | _=>cases y<;>exact absurd (show false=true from hs) ygb
theorem zjhb:OpR X (yle .NotEq) rNe:=by
 intro pins s σ H x y v u Q I rx ry h;obtain⟨hs,q⟩:=h;cases x with
 | non =>
  cases rx;cases y with
  | non=>cases ry;exact PySem.EqNone.ne_none_none (ztc I q (by simp))
  | bl j=>cases ry;exact PySem.EqNone.ne_none_bool (ztc I q (by simp))
  | int j=>obtain⟨t',rfl⟩:=ry;exact PySem.EqNone.ne_none_int (ztc I q (by simp))
  | str j=>obtain⟨t',rfl⟩:=ry;exact PySem.EqNone.ne_none_str (ztc I q (by simp))
  | _=>exact absurd (show false=true from hs) ygb
 | bl i =>
  cases rx;cases y with
  | non=>cases ry;exact PySem.EqNone.ne_bool_none (ztc I q (by simp))
  | bl j=>cases ry;exact ne_bool (ztc I q (congrArg not zzmb))
  | str j=>obtain⟨t',rfl⟩:=ry;exact PySem.EqMixed.ne_bool_str (ztc I q (by simp))
  | _=>exact absurd (show false=true from hs) ygb
 | int i =>
  obtain⟨t,rfl⟩:=rx;cases y with
  | non=>cases ry;exact PySem.EqNone.ne_int_none (ztc I q (by simp))
  | int j=>obtain⟨t',rfl⟩:=ry;exact ne_int (ztc I q (congrArg not zzib))
  | str j=>obtain⟨t',rfl⟩:=ry;exact PySem.EqMixed.ne_int_str (ztc I q (by simp))
  | _=>exact absurd (show false=true from hs) ygb
 | str i =>
  obtain⟨t,rfl⟩:=rx;cases y with
  | non=>cases ry;exact PySem.EqNone.ne_str_none (ztc I q (by simp))
  | bl j=>cases ry;exact PySem.EqMixed.ne_str_bool (ztc I q (by simp))
  | int j=>obtain⟨t',rfl⟩:=ry;exact PySem.EqMixed.ne_str_int (ztc I q (by simp))
  | str j=>obtain⟨t',rfl⟩:=ry;exact ne_str (ztc I q (congrArg not zyib))
  | _=>exact absurd (show false=true from hs) ygb
 | byt i =>
  obtain⟨t,rfl⟩:=rx;cases y with
  | byt j=>obtain⟨t',rfl⟩:=ry;exact PySem.W.ne_bytes (ztc I q (congrArg not zajb))
  | _=>exact absurd (show false=true from hs) ygb
 | _=>cases y<;>exact absurd (show false=true from hs) ygb
theorem zafb:OpR X (yle .Lt) (rI0 λi j=>.bl (decide (i<j))):=opB0 λ_ _ _ _ _ _ _ q=>lt_int q
theorem zykb:OpR X (yle .LtE) (rI0 λi j=>.bl (decide (i≤j))):=opB0 λ_ _ _ _ _ _ _ q=>le_int q
theorem zzkb:OpR X (yle .Gt) (rI0 λi j=>.bl (decide (j<i))):=opB0 λ_ _ _ _ _ _ _ q=>gt_int q
theorem zby:OpR X (yle .In) (λx y H Q=>Ex2 λi j=>x = .str i∧y = .str j∧Q (.bl (!(yid j i 0 j.length 1).isEmpty)) H):=by
 intro pins s σ H x y v u Q I rx ry h;obtain⟨i,j,rfl,rfl,q⟩:=h;obtain⟨t,rfl⟩:=rx;obtain⟨t',rfl⟩:=ry;exact in_str (ztc I q rfl)
theorem zlmb:OpR X (yle .Is) (λx y H Q=>y = .non∧Q (.bl (decide (x = .non))) H):=by
 intro pins s σ H x y v u Q I rx ry h;obtain⟨rfl,q⟩:=h;cases ry;refine is_none_gen (ztc I q ?_);cases x<;>first
  | (cases rx;rfl)
  | (obtain⟨t,rfl⟩:=rx;rfl)
theorem zlob:OpR X (yle .IsNot) (λx y H Q=>y = .non∧Q (.bl (!decide (x = .non))) H):=by
 intro pins s σ H x y v u Q I rx ry h;obtain⟨rfl,q⟩:=h;cases ry;refine isnot_none_gen (ztc I q ?_);cases x<;>first
  | (cases rx;rfl)
  | (obtain⟨t,rfl⟩:=rx;rfl)
theorem zeb (b:Expr){op:CmpOp}(h:op ≠ .In:=by decide)(h2:op ≠ .NotIn:=by decide):ytm op b=false:=by
 have e1:(op==CmpOp.In)=false:=by cases op<;>first|rfl|exact absurd rfl h
 have e2:(op==CmpOp.NotIn)=false:=by cases op<;>first|rfl|exact absurd rfl h2
 cases b<;>simp[ytm,e1,e2]
theorem zdh {op:CmpOp}{r:R2}(ho:OpR X (yle op) r)(ha:PE X a ta)(hb:PE X b tb)(hm:ytm op b=false):PE X (.Compare a [op] [b] pos) (tOp r ta tb):=by
 intro pins s σ H Q I h;exact wpAny_Compare1 (binT ha hb I h λv u s2 x y H2 I2 rx ry q=>ho pins s2 σ H2 x y v u Q I2 rx ry q) hm
def zwpb (t:TE):TT:=fun σ H Q=>t σ H λx H'=>∃k,x = .bl k∧Q k H'
theorem zma {op:CmpOp}{r:R2}(ho:OpR X (yle op) r)(ha:PE X a ta)(hb:PE X b tb)(hm:ytm op b=false):PT X (.Compare a [op] [b] pos) (zwpb (tOp r ta tb)):=by
 intro pins s σ H Q I h;refine wpAny_isTrue_Compare1 (thn (ha pins s σ H _ I h) λv s1 ⟨x,H1,I1,r1,q1⟩=>thn (hb pins s1 σ H1 _ I1 q1) λu s2 ⟨y,H2,I2,r2,q2⟩ =>
  thn (ho pins s2 σ H2 x y v u _ I2 r1 r2 q2) λc s3 ⟨z,H3,I3,r3,k,e,q3⟩=>?_) hm
 subst e;cases r3;exact yhe ⟨H3,I3,q3⟩
def zgmb (r r':R2)(ta tb tc:TE):TE:=fun σ H Q=>ta σ H λx H1=>tb σ H1 λy H2=>r x y H2 λz H3=>∃k,z = .bl k ∧
 (if k=true then tc σ H3 λw' H4=>r' y w' H4 Q else Q (.bl false) H3)
theorem zxkb {op op':CmpOp}{r r':R2}(ho:OpR X (yle op) r)(ho':OpR X (yle op') r')(ha:PE X a ta)(hb:PE X b tb)(hc:PE X c tc)
  (hm:lastMarks [op,op'] [b,c]=false:=by with_unfolding_all rfl):PE X (.Compare a [op,op'] [b,c] pos) (zgmb r r' ta tb tc):=by
 intro pins s σ H Q I h;refine Compare_chain (thn (ha pins s σ H _ I h) λv s1 ⟨x,H1,I1,r1,q1⟩=>chain_link (thn (hb pins s1 σ H1 _ I1 q1) λu s2 ⟨y,H2,I2,r2,q2⟩ =>
  thn (ho pins s2 σ H2 x y v u _ I2 r1 r2 q2) λd s3 ⟨z,H3,I3,r3,k,e,q3⟩=>?_)) hm
 subst e;cases r3;refine yhe ?_;cases k with
 | false=>exact ite_ff ⟨.bl false,H3,I3,rfl,q3⟩
 | true=>exact ite_tt (chain_last (thn (hc pins s3 σ H3 _ I3 q3) λw' s4 ⟨z',H4,I4,r4,q4⟩=>ho' pins s4 σ H4 y z' u w' Q I4 r2 r4 q4))
theorem zqkb {op op':CmpOp}{r r':R2}(ho:OpR X (yle op) r)(ho':OpR X (yle op') r')(ha:PE X a ta)(hb:PE X b tb)(hc:PE X c tc)
  (hm:lastMarks [op,op'] [b,c]=false:=by with_unfolding_all rfl):PT X (.Compare a [op,op'] [b,c] pos) (zwpb (zgmb r r' ta tb tc)):=by
 intro pins s σ H Q I h;refine isTrue_chain (thn (ha pins s σ H _ I h) λv s1 ⟨x,H1,I1,r1,q1⟩=>test_link (thn (hb pins s1 σ H1 _ I1 q1) λu s2 ⟨y,H2,I2,r2,q2⟩ =>
  thn (ho pins s2 σ H2 x y v u _ I2 r1 r2 q2) λd s3 ⟨z,H3,I3,r3,k,e,q3⟩=>?_)) hm
 subst e;cases r3;refine yhe ?_;cases k with
 | false =>
  obtain⟨k',e',q'⟩:=q3;cases e';exact ite_ff ⟨H3,I3,q'⟩
 | true =>
  refine ite_tt (test_last (thn (hc pins s3 σ H3 _ I3 q3) λw' s4 ⟨z',H4,I4,r4,q4⟩=>thn (ho' pins s4 σ H4 y z' u w' _ I4 r2 r4 q4) λd' s5 ⟨z2,H5,I5,r5,k2,e2,q5⟩=>?_));subst e2;cases r5;exact yhe ⟨H5,I5,q5⟩
theorem zgu:(yza:Nat)<2 ^ 63:=by rw[sizeLine_eq];decide
theorem zjj:OpR X (ysh .Add) (λx y H Q=>Ex2 λi j=>x = .str i∧y = .str j∧i.length+j.length≤yza∧Q (.str (i++j)) H):=by
 intro pins s σ H x y v u Q I rx ry h;obtain⟨i,j,rfl,rfl,hz,q⟩:=h;obtain⟨t,rfl⟩:=rx;obtain⟨t',rfl⟩:=ry;exact add_str (λt' tk=>⟨.str (i++j),H,I.tok _,⟨_,rfl⟩,q⟩) hz
theorem vals1 {x:V}{us:List Value}(r:Vals [x] us):∃u,us=[u]∧RelV x u:=by
 cases r with
 | cons r1 r2=>cases r2;exact⟨_,rfl,r1⟩
theorem vals2 {x y:V}{us:List Value}(r:Vals [x,y] us):Ex2 λu w'=>us=[u,w']∧RelV x u∧RelV y w':=by
 cases r with
 | cons r1 r2 =>
  cases r2 with
  | cons r3 r4=>cases r4;exact⟨_,_,rfl,r1,r3⟩
theorem zgjb (hc:X.calm=true):zwf X (.builtin "min") (λxs H Q=>Ex2 λi j=>xs=[.int i,.int j]∧Q (.int (if j<i then j else i)) H):=by
 intro pins s σ H xs us Q I r h;obtain⟨i,j,rfl,q⟩:=h;obtain⟨u,w',rfl,⟨t,rfl⟩,⟨t',rfl⟩⟩:=vals2 r;refine min_two_ints (I.ok.hd hc) λh' tk k=>⟨_,H,I.kept k,?_,q⟩
 by_cases hj:j<i
 ·rw[if_pos hj,if_pos hj];exact⟨_,rfl⟩
 ·rw[if_neg hj,if_neg hj];exact⟨_,rfl⟩
theorem zzk:zwf X (.type "str") (λxs H Q=>∃i,xs=[.int i]∧i.natAbs.log2<1920∧Q (.str (toString i)) H):=by
 intro pins s σ H xs us Q I r h;obtain⟨i,rfl,hz,q⟩:=h;obtain⟨u,rfl,t,rfl⟩:=vals1 r;exact PySem.P.str_of_int hz ⟨.str _,H,I.tok _,⟨_,rfl⟩,q⟩
end
end L2
namespace L2
open PySem PySem.Spec PyProof.Rows
structure ObjM (h:Heap)(x dx C:Addr)(mA:Str->Option Value):Prop where
 obj:h.get? x=some (ysf C dx)
 ns:h.Ns1 dx mA
 ne:dx≠x
theorem zshb {h:Heap}{dx:Addr}{mA:Str->Option Value}(n:h.Ns1 dx mA):∃od,h.get? dx=some od∧∀name,yol name od=some (mA name):=by
 obtain⟨o,es,ep,ho,hd,hk,_,hm⟩:=n;refine⟨o,ho,λname=>?_⟩;have e:=hm name;unfold nsFind findBy at e;rw[← Array.find?_toList] at e;unfold yol;rw[hd];dsimp only
 split
 ·rename_i y q;rw[q] at e;exact congrArg some e
 ·rename_i q;rw[q] at e;have a:es.toList.any (·.refKey)=false:=by
   rw[List.any_eq_false];intro y hy;obtain⟨z,t,hkey⟩:=hk y (Array.mem_toList_iff.mp hy);simp[DictEntry.refKey,hkey]
  have a':¬ es.toList.any (·.refKey)=true:=by rw[a];exact ygb
  rw[if_neg a'];exact congrArg some e
theorem ObjM.look {h:Heap}{x dx C:Addr}{mA:Str->Option Value}(I:ObjM h x dx C mA):∃od,PySem.W.InstAt h x (ysf C dx) C (some od)∧∀name,yol name od=some (mA name) :=
 let ⟨od,ho,hl⟩:=zshb I.ns
 ⟨od,⟨I.obj,rfl,rfl,ho⟩,hl⟩
section
variable {prog:yvb}{w:World}{A:Around}{E:Value->Shared->Prop}{s:Shared}{K:yda}{x dx C f:Addr}{mA:Str->Option Value}{name:Str}{v:Value}
theorem get_map {expr:Bool}{Q:Value->Shared->Prop}(X:K.In s.heap)(I:ObjM s.heap x dx C mA)(hg:yag K C name=true)(hh:yog K C=true)
  (ha:ymb K (.ref C) name=some none) (hv:mA name=some v) (hv':yzq v=true) (h:Q v { s with toks:=s.toks+1 }) :
  wpAny (model prog w) A (getAttr (.ref x) name expr) Q E s:=by
 obtain⟨od,J,hl⟩:=I.look;exact PySem.W.get_value X J (ynk hg).1 (PySem.W.findObj_own hh ha rfl (by rw[hl,hv])) hv' h
theorem ztlb {pl:Sem Bool}{Q:Value×List Value->Shared->Prop}(X:K.In s.heap)(I:ObjM s.heap x dx C mA)(hg:yag K C name=true)
  (hf:ymb K (.ref C) name=some (some (.ref f))) (ht:yel K (.ref f)=true) (hv:mA name=none) (h:Q (.ref f,[.ref x]) s) :
  wpAny (model prog w) A (yir (.ref x) name pl) Q E s:=by
 obtain⟨od,J,hl⟩:=I.look;exact PySem.W.method_fn X J (ynk hg).1 (ynk hg).2 hf (beq_iff_eq.mp ht) (by show (yol name od).map (·.isSome)=some false;rw[hl,hv];rfl) h
theorem zxnb {ns:List Str}{Q:Unit->Shared->Prop}(X:K.In s.heap)(I:ObjM s.heap x dx C mA)
  (hs:ymb K (.ref C) "__setattr__" = some (some (.builtin "object.__setattr__"))) (hp:yth K C=true) (ht:yon K C name=some none) (hh:yog K C=true)
  (hw:ymn mA ns) (hsz:ns.length≤yza)
  (h:∀h',ObjM h' x dx C (λy=>if y=name then some v else mA y)->yrd dx s.heap h'->Q () { s with heap:=h',toks:=s.toks+2 }) :
  wpAny (model prog w) A (setAttr (.ref x) name v) Q E s:=by
 obtain⟨od,J,hl⟩:=I.look;refine PySem.W.set_plain X J hs (PySem.W.osa_open (s:={ s with toks:=s.toks+1 }) (r:=none) X J hp ht λb=>?_);obtain⟨cd,hc,hd'⟩:=PySem.W.any_some hh;have hx:s.heap.get? x=some ⟨.ref C,some dx,.plain,#[]⟩:=I.obj;refine yba (yea (yba (yba (wpAny_loadPart hx (yba (PySem.W.Looks.here (s:={ s with toks:=s.toks+1 }) (PySem.W.looks_clsIn X hc) ?_))))));rw[hd'];refine yea (a:=some dx) (yba (yea (yba ?_)));refine wpAny_nsSet1 (s:={ s with toks:=s.toks+1 }) I.ns λh' hn2 hs2=>?_;obtain⟨oD,esD,epD,hoD,hdD,hcD⟩:=hn2.count (ymn.cons name v hw);refine yba (wpAny_lookBehind hoD (by rw[hdD];exact pastItsLine_dict (ykb hcD (by rw[yka];omega))) ?_);exact yea (h _ ⟨(hs2.2 _ (yqd I.ne)).trans I.obj,hn2,I.ne⟩ hs2)
theorem zglb {R:Result->Shared->Prop}{vs:List Value}{kw:List (Str×Value)}(X:K.In s.heap)(hm:ypn K C=true)
  (hi:ymb K (.ref C) "__init__" = some (some (.ref f))) (hf:PySem.W.typeIn K (.ref f)=some (.type "function"))
  (h:yfj (model prog w) (A.under (.builtin "type.__call__" ⟨.ref C::vs,kw⟩)) (.call (.ref f) ⟨.ref (s.heap.objs.size+1)::vs,kw⟩) (PySem.W.InitBack (s.heap.objs.size+1) R)
   { s with heap:=(s.heap.push yie).push (ysf C s.heap.objs.size) }) :
  yfj (model prog w) A (.call (.ref C) ⟨vs,kw⟩) R s:=by
 obtain⟨hh,g,d,t,os⟩:=s;exact PySem.W.make_core (PySem.W.makes_of X hm) (PySem.W.looks_findIn X hi) (λself=>PySem.W.bind_fn X self hf) (.inl rfl) h
end
def putF (f:Str)(v:V):List (Str×V)->List (Str×V)
 | []=>[(f,v)]
 | (g,x)::r=>if g=f then (g,v)::r else (g,x)::putF f v r
theorem zyr (f g:Str)(v:V):∀fs:List (Str×V),(putF f v fs).lookup g=if g=f then some v else fs.lookup g
 | []=>by
  show yqe g [(f,v)]=_
  by_cases h:g=f
  ·have hb:(g==f)=true:=beq_iff_eq.mpr h;simp only[yqe,hb,if_pos h]
  ·have hb:(g==f)=false:=beq_eq_false_iff_ne.mpr h;simp only[yqe,hb,if_neg h]
 | (k,x)::r=>by
  have ih:=zyr f g v r;rw[show putF f v ((k,x)::r)=(if k=f then (k,v)::r else (k,x)::putF f v r) from rfl]
  by_cases hk:k=f
  ·rw[if_pos hk]
   by_cases h:g=k
   ·have hb:(g==k)=true:=beq_iff_eq.mpr h;simp only[yqe,hb,if_pos (h.trans hk)]
   ·have hb:(g==k)=false:=beq_eq_false_iff_ne.mpr h;simp only[yqe,hb,if_neg (λe:g=f=>h (e.trans hk.symm))]
  ·rw[if_neg hk]
   by_cases h:g=k
   ·have hb:(g==k)=true:=beq_iff_eq.mpr h;simp only[yqe,hb,if_neg (λe:g=f=>hk (h.symm.trans e))]
   ·have hb:(g==k)=false:=beq_eq_false_iff_ne.mpr h;simp only[yqe,hb];exact ih
theorem zcs (f:Str)(v:V):∀fs:List (Str×V),f∈(putF f v fs).map (·.1)∧∀g,g∈fs.map (·.1)->g∈(putF f v fs).map (·.1)
 | []=>⟨by simp[putF],λg h=>by simp at h⟩
 | (k,x)::r=>by
  obtain⟨i1,i2⟩:=zcs f v r;rw[show putF f v ((k,x)::r)=(if k=f then (k,v)::r else (k,x)::putF f v r) from rfl]
  by_cases hk:k=f
  ·rw[if_pos hk];subst hk;exact⟨by simp,λg h=>by simpa using h⟩
  ·rw[if_neg hk];refine⟨?_,λg h=>?_⟩
   ·rw[yob];exact ysa _ i1
   ·rw[yob] at h ⊢
    rcases yma.mp h with e|e
    ·exact yma.mpr (.inl e)
    ·exact ysa _ (i2 g e)
theorem zas (f:Str)(v:V):∀fs:List (Str×V),(putF f v fs).length≤fs.length+1
 | []=>by simp[putF]
 | (k,x)::r=>by
  have ih:=zas f v r;rw[show putF f v ((k,x)::r)=(if k=f then (k,v)::r else (k,x)::putF f v r) from rfl]
  by_cases hk:k=f
  ·rw[if_pos hk,yka,yka];omega
  ·rw[if_neg hk,yka,yka];omega
theorem RelO.some_of {v:V}{o:Option Value}(r:RelO (some v) o):∃u,o=some u∧RelV v u:=by
 cases o with
 | none=>exact (show False from r).elim
 | some u=>exact⟨u,rfl,r⟩
theorem RelO.none_of {o:Option Value}(r:RelO none o):o=none:=by
 cases o with
 | none=>rfl
 | some u=>exact (show False from r).elim
theorem zjib {v:V}{u:Value}(r:RelV v u):yzq u=true:=by
 cases v with
 | non=>cases (show u=Value.none from r);rfl
 | bl b=>cases (show u=Value.bool b from r);rfl
 | int i=>obtain⟨t,e⟩:=(show ∃t,u=Value.int i t from r);cases e;rfl
 | str x=>obtain⟨t,e⟩:=(show ∃t,u=Value.str x t from r);cases e;rfl
 | byt b=>obtain⟨t,e⟩:=(show ∃t,u=Value.bytes b t from r);cases e;rfl
 | flt b=>obtain⟨t,e⟩:=(show ∃t,u=Value.float b t from r);cases e;rfl
 | ref a=>cases (show u=Value.ref a from r);rfl
 | ty n=>cases (show u=Value.type n from r);rfl
section
variable {P:yvb}{w:World}{H H':Hp}{h h':Heap}{a C dx:Addr}{fs fs':List (Str×V)}
theorem zzv (hok:HOk P w H h)(e:H a=some (.ins C dx fs)):∃mA,ObjM h a dx C mA∧(∀f,RelO (fs.lookup f) (mA f))∧ymn mA (fs.map (·.1))∧fs.length≤1000∧H dx=some (.own a):=by
 obtain⟨d,z,ne,ob,mA,n,r,q⟩:=(show znj P w H h a (.ins C dx fs) from hok a _ e);exact⟨mA,⟨ob,n,ne⟩,r,q,z,d⟩
end
structure Cls (K:yda)(C:Addr):Prop where
 pg:yag K C yjr=true
 hd:yog K C=true
 po:yth K C=true
 sa:ymb K (.ref C) "__setattr__" = some (some (.builtin "object.__setattr__"))
theorem Cls.get {K:yda}{C:Addr}(c:Cls K C)(f:Str):yag K C f=true:=c.pg
def zxg (K:yda)(C:Addr)(f:Str):Prop:=ymb K (.ref C) f=some none
theorem zxg.taker {K:yda}{C:Addr}{f:Str}(n:zxg K C f):yon K C f=some none:=by
 unfold yon;rw[show ymb K (.ref C) f=some none from n];rfl
structure Con (K:yda)(C:Addr)(f:Str)(v:V)(u:Value):Prop where
 at_:ymb K (.ref C) f=some (some u)
 rel:RelV v u
 get:ygj K u "__get__" = some none
 cp:PySem.W.copiedNames.contains f=false
structure Meth (K:yda)(C:Addr)(m:Str)(f:Addr):Prop where
 at_:ymb K (.ref C) m=some (some (.ref f))
 fn:yel K (.ref f)=true
 kp:ymf K (.ref f)=true
section
variable {X:Cx}{pins:List (Addr×Obj)}{σ:St}{H:Hp}{s:Shared}{a C dx:Addr}{fs:List (Str×V)}{f:Str}{v:V}{A:Around}{E:Value->Shared->Prop}
theorem zku {b:Bool}{Q:Value->Shared->Prop}(I:Inv X pins σ H s)(e:H a=some (.ins C dx fs))(c:Cls X.K C)(n:zxg X.K C f)(l:fs.lookup f=some v)
  (h:∀u s',Inv X pins σ H s'->RelV v u->Q u s'):wpAny (model X.prog X.w) A (getAttr (.ref a) f b) Q E s:=by
 obtain⟨mA,O,r,_,_,_⟩:=zzv I.hok e;obtain⟨u,hu,ru⟩:=RelO.some_of (v:=v) (o:=mA f) (by rw[← l];exact r f);exact get_map I.kIn O (c.get f) c.hd n hu (zjib ru) (h u _ (I.tok _) ru)
theorem zju {m:Str}{g:Addr}{pl:Sem Bool}{Q:Value×List Value->Shared->Prop}(I:Inv X pins σ H s)(e:H a=some (.ins C dx fs))(c:Cls X.K C)(k:Meth X.K C m g)(l:fs.lookup m=none)
  (h:Q (.ref g,[.ref a]) s):wpAny (model X.prog X.w) A (yir (.ref a) m pl) Q E s:=by
 obtain⟨mA,O,r,_,_,_⟩:=zzv I.hok e;have hn:mA m=none:=RelO.none_of (by rw[← l];exact r m);exact ztlb I.kIn O (c.get m) k.at_ k.fn hn h
theorem ztt {y:V}{u:Value}{Q:Unit->Shared->Prop}(I:Inv X pins σ H s)(e:H a=some (.ins C dx fs))(c:Cls X.K C)(n:zxg X.K C f)(hl:fs.length<1000)(ry:RelV y u)
  (h:∀s',Inv X pins σ (upd H a (.ins C dx (putF f y fs))) s'->Q () s'):wpAny (model X.prog X.w) A (setAttr (.ref a) f u) Q E s:=by
 obtain⟨mA,O,r,wi,_,ho⟩:=zzv I.hok e;have hz:(fs.map (·.1)).length≤yza:=by rw[yaa,sizeLine_eq];omega
 refine zxnb I.kIn O c.sa c.po n.taker c.hd wi hz λh' O' sb=>h _ ?_;have hd:∃o,h'.get? dx=some o:=let ⟨o,_,_,e',_⟩:=O'.ns;⟨o,e'⟩;refine I.write (x:=a) (e:=dx) (by rw[e];exact True.intro) (.inr ho) (λb q hb z=>(sb.2 b hb).trans z) hd ?_;refine⟨by rw[zlb O.ne];exact ho,?_,O.ne,O'.obj,_,O'.ns,λg=>?_,λg hg=>?_⟩
 ·have:=zas f y fs;omega
 ·show RelO ((putF f y fs).lookup g) (if g=f then some u else mA g);rw[zyr]
  by_cases q:g=f
  ·rw[if_pos q,if_pos q];exact ry
  ·rw[if_neg q,if_neg q];exact r g
 ·by_cases q:g=f
  ·rw[q];exact (zcs f y fs).1
  ·refine (zcs f y fs).2 g (wi g λz=>hg ?_);show (if g=f then some u else mA g)=none
   rw[if_neg q];exact z
theorem Inv.made (I:Inv X pins σ H s):Inv X pins σ (upd (upd H s.heap.objs.size (.own (s.heap.objs.size+1))) (s.heap.objs.size+1) (.ins C s.heap.objs.size []))
  { s with heap:=(s.heap.push yie).push (ysf C s.heap.objs.size) }:=by
 have e1:(s.heap.push yie).get? s.heap.objs.size=some yie:=yla s.heap rfl;have e2:((s.heap.push yie).push (ysf C s.heap.objs.size)).get? (s.heap.objs.size+1)=some (ysf C s.heap.objs.size):=by
  have:=yla (s.heap.push yie) (o:=ysf C s.heap.objs.size) rfl
  rwa [ykd] at this
 have e3:(s.heap.push yie).Ns s.heap.objs.size (λ_=>none):=⟨yie,#[],_,e1,rfl,(λe he=>absurd he (by simp)),λ_=>rfl⟩;have I1:=I.laid (a:=s.heap.objs.size) (o:=.own (s.heap.objs.size+1)) (h':=s.heap.push yie) (t':=s.toks) (λb u q=>yca _ q) (yja _) ⟨_,e1⟩;refine I1.laid (a:=s.heap.objs.size+1) (o:=.ins C s.heap.objs.size []) (t':=s.toks) (λb u q=>yca _ q) (yqq (ykd _ _)) ?_;have ne:s.heap.objs.size≠s.heap.objs.size+1:=yya (ydf _);refine⟨by rw[zlb ne,zia],ytb _,ne,e2,λ_=>none,(Heap.Ns1.of_empty e3).at λo q=>yca _ q,λ_=>True.intro,λy hy=>absurd rfl hy⟩
theorem zkpb {prog:yvb}{w:World}{env:Env}{e:Expr}{f:Str}{pos:Pos}{s:Shared}{Q:Value->Shared->Prop}(hb:yfk e f env (eval e env)=eval e env)
  (h:wpAny (model prog w) A (eval e env) (λo s₁=>wpAny (model prog w) A (getAttr o f true) Q E s₁) E s):wpAny (model prog w) A (eval (.Attribute e f pos) env) Q E s :=
 Attribute_any_ h (by rw[arm_eval_Attribute,hb])
end
def tFld (K:yda)(ta:TE)(f:Str):TE:=fun σ H Q=>ta σ H λx H1=>Ex5 λa C dx fs v=>x = .ref a∧H1 a=some (.ins C dx fs)∧Cls K C∧zxg K C f∧fs.lookup f=some v∧Q v H1
def sFld (K:yda)(ta tv:TE)(f:Str):TS:=λD σ H=>tv σ H λy H1=>ta σ H1 λx H2=>Ex4 λa C dx fs=>x = .ref a∧H2 a=some (.ins C dx fs)∧Cls K C∧zxg K C f∧fs.length<1000 ∧
 D.nx σ (upd H2 a (.ins C dx (putF f y fs)))
def InOp (X:Cx)(op:yfr)(rd:V->V->Hp->VK->Prop):Prop :=
 ∀(pins:List (Addr×Obj)) (s:Shared) (σ:St) (H:Hp) (x y:V) (u v:Value) (Q:VK),Inv X pins σ H s->RelV x u->RelV y v->rd x y H Q->wpAny (model X.prog X.w) X.A (inplaceOp op u v) (EP X pins σ Q) X.xe s
def zaob (K:yda)(ta tv:TE)(rd:V->V->Hp->VK->Prop)(f:Str):TS:=λD σ H=>ta σ H λx H1=>Ex5 λa C dx fs v=>x = .ref a∧H1 a=some (.ins C dx fs)∧Cls K C∧zxg K C f∧fs.lookup f=some v ∧
 tv σ H1 λy H2=>rd v y H2 λz H3=>Ex2 λdx' fs'=>H3 a=some (.ins C dx' fs')∧fs'.length<1000∧D.nx σ (upd H3 a (.ins C dx' (putF f z fs')))
section
variable {X:Cx}{o e value:Expr}{f:Str}{pos pos' tpos:Pos}{ta tv:TE}
theorem zsr (he:PE X e ta)(hb:yfk e f X.env (eval e X.env)=eval e X.env):PE X (.Attribute e f pos) (tFld X.K ta f):=by
 intro pins s σ H Q I h;refine zkpb hb (thn (he pins s σ H _ I h) λu s1 ⟨x,H1,I1,rx,a,C,dx,fs,v,ex,ea,c,n,l,q⟩=>?_);subst ex;obtain rfl:u=Value.ref a:=rx;exact zku I1 ea c n l λu' s2 I2 ru=>⟨v,H1,I2,ru,q⟩
theorem zxl (ha:PE X o ta)(hv:PE X value tv)(hs:yhr value (some (.Attribute o f pos')) pos.line X.env=pure false):PS X (.Assign [.Attribute o f pos'] value pos) (sFld X.K ta tv f):=by
 intro pins s σ H D I h;refine plainObj_wpAny_Assign_Attribute (thn (hv pins s σ H _ I h) λu s1 ⟨y,H1,I1,ry,q⟩=>thn (ha pins s1 σ H1 _ I1 q) λov s2 ⟨x,H2,I2,rx,a,C,dx,fs,ex,ea,c,n,l,q2⟩=>?_) hs;subst ex;obtain rfl:ov=Value.ref a:=rx;exact ztt I2 ea c n l ry λs3 I3=>⟨σ,_,I3,q2⟩
theorem zbhb {op:yfr}{rd:V->V->Hp->VK->Prop}(ha:PE X o ta)(hv:PE X value tv)(hop:InOp X op rd):PS X (.AugAssign (.Attribute o f tpos) op value pos) (zaob X.K ta tv rd f):=by
 intro pins s σ H D I h;refine wpAny_AugAssign_AttributeAny (thn (ha pins s σ H _ I h) λov s1 ⟨x,H1,I1,rx,a,C,dx,fs,v,ex,ea,c,n,l,q⟩=>?_);subst ex;obtain rfl:ov=Value.ref a:=rx;refine zku I1 ea c n l λu s2 I2 ru=>thn (hv pins s2 σ H1 _ I2 q) λw3 s3 ⟨y,H2,I3,ry,q3⟩=>thn (hop pins s3 σ H2 v y u w3 _ I3 ru ry q3) λw4 s4 ⟨z,H3,I4,rz,dx',fs',ea',l',q4⟩=>?_;exact ztt I4 ea' c n l' rz λs5 I5=>⟨σ,_,I5,q4⟩
def rAdd:V->V->Hp->VK->Prop:=λx y H Q=>Ex2 λi j=>x = .int i∧y = .int j∧Q (.int (i+j)) H
theorem zdsb:InOp X .Add rAdd:=by
 rintro pins s σ H x y u v Q I rx ry ⟨i,j,rfl,rfl,q⟩;obtain⟨t,rfl⟩:=(show ∃t,u=Value.int i t from rx);obtain⟨t',rfl⟩:=(show ∃t',v=Value.int j t' from ry);exact PyProof.Rows.iadd_int ⟨.int (i+j),H,I.tok _,⟨_,rfl⟩,q⟩
end
section
variable {X:Cx}{pins:List (Addr×Obj)}{σ:St}{H:Hp}{s:Shared}{A:Around}{E:Value->Shared->Prop}{Q:Value->Shared->Prop}{c:Value}{b:Bool}
inductive TyOf (K:yda)(H:Hp):V->Value->Prop where
 | non:TyOf K H .non (.type "NoneType")
 | bl (x:Bool):TyOf K H (.bl x) (.type "bool")
 | int (i:Int):TyOf K H (.int i) (.type "int")
 | str (x:Str):TyOf K H (.str x) (.type "str")
 | flt (x:UInt64):TyOf K H (.flt x) (.type "float")
 | lst {a:Addr} {xs:List V} (e:H a=some (.lst xs)):TyOf K H (.ref a) (.type "list")
 | frz {a:Addr} {o:Obj} {xs:List V} (e:H a=some (.frz o (.lst xs))):TyOf K H (.ref a) (.type "list")
 | tup {a:Addr} {xs:List V} (e:H a=some (.tup xs)):TyOf K H (.ref a) (.type "tuple")
 | dK {a:Addr} {kvs:List (Key×V)} (e:H a=some (.dK kvs)):TyOf K H (.ref a) (.type "dict")
 | dT {a:Addr} {kvs:List (List Key×V)} (e:H a=some (.dT kvs)):TyOf K H (.ref a) (.type "dict")
 | ins {a C dx:Addr} {fs:List (Str×V)} (e:H a=some (.ins C dx fs)) (cl:Cls K C) (ha:ymb K (.ref C) "__class__" = some (some (.builtin "object.__class__")))
   (hn:ygj K (.builtin "object.__class__") "__get__" = some (some (.builtin "getset_descriptor.__get__"))) (htk:yqn K (.builtin "object.__class__")=some true)
   (hm:ylp K C (.type "object")=some true):TyOf K H (.ref a) (.ref C)
theorem zzy {x:V}{u t:Value}(I:Inv X pins σ H s)(rx:RelV x u)(ty:TyOf X.K H x t)(e:yqb X.K t c=some b)(h:∀tk,Q (.bool b) { s with toks:=tk }) :
  wpAny (model X.prog X.w) A (call (.builtin "isinstance") [u,c]) Q E s:=by
 cases ty with
 | non=>cases (show u=Value.none from rx);exact yde yzp I.kIn True.intro e (λz=>nomatch z) h
 | bl y=>cases (show u=Value.bool y from rx);exact yde yaq I.kIn True.intro e (λz=>nomatch z) h
 | int i=>obtain⟨t,q⟩:=(show ∃t,u=Value.int i t from rx);cases q;exact yde yar I.kIn True.intro e (λz=>nomatch z) h
 | str y=>obtain⟨t,q⟩:=(show ∃t,u=Value.str y t from rx);cases q;exact yde ybr I.kIn True.intro e (λz=>nomatch z) h
 | flt y=>obtain⟨t,q⟩:=(show ∃t,u=Value.float y t from rx);cases q;exact yde PySem.W.kitx_float I.kIn True.intro e (λz=>nomatch z) h
 | @lst a xs ea =>
  cases (show u=Value.ref a from rx);obtain⟨_,_,n,_,h1⟩:=(show znj X.prog X.w H s.heap a (.lst xs) from I.hok a _ ea);exact yde ycm I.kIn ⟨_,h1,rfl⟩ e (λz=>nomatch z) h
 | @frz a ob xs ea =>
  cases (show u=Value.ref a from rx);obtain⟨_,_,_,n,_,h1⟩:=(show znj X.prog X.w H s.heap a (.frz ob (.lst xs)) from I.hok a _ ea);exact yde ycm I.kIn ⟨_,h1,rfl⟩ e (λz=>nomatch z) h
 | @tup a xs ea =>
  cases (show u=Value.ref a from rx);obtain⟨_,_,_,p⟩:=(show znj X.prog X.w H s.heap a (.tup xs) from I.hok a _ ea);obtain⟨o,h1,h2,_⟩:=p;exact yde ymp I.kIn ⟨o,h1,h2⟩ e (λz=>nomatch z) h
 | @dK a kvs ea =>
  cases (show u=Value.ref a from rx);obtain⟨_,_,vs,_,p⟩:=(show znj X.prog X.w H s.heap a (.dK kvs) from I.hok a _ ea);obtain⟨o,es,ep,h1,h2,_⟩:=p;exact yde ybq I.kIn ⟨o,h1,h2.1⟩ e (λz=>nomatch z) h
 | @dT a kvs ea =>
  cases (show u=Value.ref a from rx);obtain⟨_,_,xs,_,o,es,ep,h1,h2,_⟩:=(show znj X.prog X.w H s.heap a (.dT kvs) from I.hok a _ ea);exact yde ybq I.kIn ⟨o,h1,h2.1⟩ e (λz=>nomatch z) h
 | @ins a C dx fs ea cl ha hn htk hm =>
  cases (show u=Value.ref a from rx);obtain⟨mA,O,_⟩:=zzv I.hok ea;obtain⟨od,J,_⟩:=O.look;exact yde (PySem.W.kitx_own (cl.get _) cl.hd ha hn htk hm) I.kIn J e (λz=>nomatch z) h
end
end L2
namespace L2
open PySem PySem.Spec PyProof.Rows
structure Room (k:Nat)(A:Around):Prop where
 hd:A.handled=none
 dp:A.depth+3*k+5<recursionLimit
 un:A.units+16*k+200<cLine
theorem Room.mono {j k:Nat}{A:Around}(r:Room k A)(h:j≤k):Room j A:=⟨r.hd,by have:=r.dp;omega,by have:=r.un;omega⟩
theorem Room.deeper {k:Nat}{A:Around}(r:Room (k+1) A)(env:Env):Room k (A.deeper env) :=
 ⟨r.hd,by have:=r.dp;show A.depth+1+3*k+5<_;omega,by have:=r.un;show A.units+3+16*k+200<_;omega⟩
theorem zgfb {A:Around}{C:Addr}{us:List Value}{kw:List (Str×Value)}:(A.under (.builtin "type.__call__" ⟨.ref C::us,kw⟩)).depth=A.depth+1:=by
 first|rfl|simp[yrq,Code.weight,Code.isCreation,Code.isGuard,Code.isCaller,Code.frames,ysq,guardIds]
theorem zffb {A:Around}{C:Addr}{us:List Value}{kw:List (Str×Value)}:(A.under (.builtin "type.__call__" ⟨.ref C::us,kw⟩)).units=A.units+1:=by
 first|rfl|simp[yrq,Code.cUnits,Code.frames,ysq]
theorem Room.make {k:Nat}{A:Around}(r:Room (k+1) A)(C:Addr)(us:List Value)(kw:List (Str×Value)):Room k (A.under (.builtin "type.__call__" ⟨.ref C::us,kw⟩)) :=
 ⟨r.hd,by have:=r.dp;rw[zgfb];omega,by have:=r.un;rw[zffb];omega⟩
theorem Room.depth {k:Nat}{A:Around}(r:Room k A):A.depth<recursionLimit:=by have:=r.dp;omega
theorem Room.units {k:Nat}{A:Around}(r:Room k A):A.units+64<cLine:=by have:=r.un;omega
def tNil:TA:=λ_ H Q=>Q [] H
def zzsb (ta:TE)(tr:TA):TA:=fun σ H Q=>ta σ H λx H1=>tr σ H1 λxs H2=>Q (x::xs) H2
section
variable {X:Cx}{e:Expr}{es:List Expr}{te:TE}{t:TA}{pos:Pos}
theorem zba:PA X [] tNil:=λ_ _ _ _ H Q I h=>Calls.spliced_nil ⟨[],H,I,.nil,h⟩
theorem zaa (ha:PE X e te)(hr:PA X es t)(hs:yhd (e::es) X.env=(false,eval e X.env)::yhd es X.env:=by rfl):PA X (e::es) (zzsb te t):=by
 intro pos pins s σ H Q I h;rw[hs];show wpAny _ _ (spliced ((false,eval e X.env)::backTo pos (yhd es X.env))) _ _ s
 refine Calls.spliced_cons (thn (ha pins s σ H _ I h) λu s1 ⟨x,H1,I1,r1,q1⟩=>?_);exact thn (hr pos pins s1 σ H1 _ I1 q1) λus s2 ⟨xs,H2,I2,r2,q2⟩=>⟨x::xs,H2,I2,.cons r1 r2,q2⟩
def tTup (t:TA):TE:=fun σ H Q=>t σ H λxs H1=>xs.length≤yza∧∀p,H1 p=none->Q (.ref p) (upd H1 p (.tup xs))
def tLst (t:TA):TE:=fun σ H Q=>t σ H λxs H1=>xs.length≤yza∧∀p,H1 p=none->Q (.ref p) (upd H1 p (.lst xs))
theorem zyc {x1}(h:PA X es t):PE X (.Tuple es x1 pos) (tTup t):=by
 intro pins s σ H Q I hq;refine wpAny_Tuple_spliced (thn (h pos pins s σ H _ I hq) λus s1 ⟨xs,H1,I1,r,z,q⟩=>⟨by rw[← r.length];exact z,?_⟩);have hf:H1 s1.heap.objs.size=none:=I1.hok.fresh (yja _);refine⟨.ref s1.heap.objs.size,upd H1 s1.heap.objs.size (.tup xs),I1.laid (t':=s1.toks) (λb u e=>yca _ e) (yja _) ?_,rfl,q _ hf⟩;exact⟨z,us,r,⟨_,yla _ rfl,rfl,_,rfl⟩⟩
theorem zge (h:PA X es t):PE X (.List es pos) (tLst t):=by
 intro pins s σ H Q I hq;refine wpAny_List_spliced (thn (h pos pins s σ H _ I hq) λus s1 ⟨xs,H1,I1,r,z,q⟩=>⟨by rw[← r.length];exact z,?_⟩);have hf:H1 s1.heap.objs.size=none:=I1.hok.fresh (yja _);refine⟨.ref s1.heap.objs.size,upd H1 s1.heap.objs.size (.lst xs),I1.laid (t':=s1.toks) (λb u e=>yca _ e) (yja _) ?_,rfl,q _ hf⟩;exact⟨z,us,0,r,yla _ rfl⟩
end
abbrev Sp:=List V->Hp->VK->XK->Prop
abbrev CXT:=List Env->Hp->Shared->XK->Value->Shared->Prop
structure Env0 (P:yvb)(w:World)(K:yda)(mg:Str->Option Value)(base:Heap)(A:Around)(outer:List Env)(s:Shared)(H:Hp):Prop where
 frames:A.frames=some outer
 mod:Mod K mg base
 bs:∀b o,base.get? b=some o->s.heap.get? b=some o∧H b=none
 bsz:base.objs.size≤s.heap.objs.size
 funs:s.heap.FunFrames base outer
 frf:∀b∈frs outer,H b=none
 hok:HOk P w H s.heap
 bare:yap s.gens
def CE (outer:List Env)(P:yvb)(w:World)(H:Hp)(s:Shared)(Q:VK)(u:Value)(s':Shared):Prop :=
 Ex2 λv H'=>s'.os=s.os∧yap s'.gens∧Un (frs outer) [] H H' s.heap s'.heap∧HOk P w H' s'.heap∧RelV v u∧Q v H'
def CR (CX:CXT)(outer:List Env)(P:yvb)(w:World)(H:Hp)(s:Shared)(Q:VK)(E:XK)(r:Result)(s':Shared):Prop :=
 match r with
 | .ok (.ret u)=>CE outer P w H s Q u s'
 | .ok _=>False
 | .error e=>CX outer H s E e s'
structure FnOk (P:yvb)(w:World)(K:yda)(mg:Str->Option Value)(base:Heap)(CX:CXT)(k:Nat)(f:Addr)(fd:yxf)(ps:List Str)(sp:Sp):Prop where
 len:∀vs H Q E,sp vs H Q E->vs.length=ps.length
 run:∀(A:Around) (outer:List Env) (s:Shared) (H:Hp) (args:Args) (us:List Value) (vs:List V) (Q:VK) (E:XK),Room k A->Env0 P w K mg base A outer s H->ycq s fd args (ps.zip us)->Vals vs us->sp vs H Q E →
  yfj (model P w) A (.call (.ref f) args) (CR CX outer P w H s Q E) s
theorem FnOk.mono {P:yvb}{w:World}{K:yda}{mg:Str->Option Value}{base:Heap}{CX:CXT}{j k:Nat}{f:Addr}{fd:yxf}{ps:List Str}{sp:Sp}(F:FnOk P w K mg base CX j f fd ps sp)(h:j≤k) :
  FnOk P w K mg base CX k f fd ps sp:=⟨F.len,λA outer s H args us vs Q E hr=>F.run A outer s H args us vs Q E (hr.mono h)⟩
theorem Env0.make {P:yvb}{w:World}{K:yda}{mg:Str->Option Value}{base:Heap}{A:Around}{outer:List Env}{s:Shared}{H:Hp}(e:Env0 P w K mg base A outer s H)(C:Addr)(us:List Value)(kw:List (Str×Value)) :
  Env0 P w K mg base (A.under (.builtin "type.__call__" ⟨.ref C::us,kw⟩)) outer s H:=⟨by first|exact e.frames|(simpa [yrq,Code.envs,ysq,pushEnvs] using e.frames),e.mod,e.bs,e.bsz,e.funs,e.frf,e.hok,e.bare⟩
section
variable {X:Cx}{pins:List (Addr×Obj)}{σ:St}{H:Hp}{s s':Shared}
theorem Inv.env0 (I:Inv X pins σ H s):Env0 X.prog X.w X.K X.mg X.base X.A X.stack s H :=
 ⟨I.ok.frames,I.ok.mod,I.bs,ykb I.ok.bsz I.sz,I.stack,I.zggb,I.hok,I.bare⟩
theorem Inv.after {Q:VK}{u:Value}(I:Inv X pins σ H s)(h:CE X.stack X.prog X.w H s Q u s'):EP X pins σ Q u s':=by
 obtain⟨v,H',os,bare,un,hok,r,q⟩:=h;obtain⟨hh,g,d,t,os'⟩:=s';obtain rfl:os'=s.os:=os;exact⟨v,H',I.call (h':=hh) (g':=g) (d':=d) (t':=t) (ch:=[]) un hok bare (λb z=>absurd z (by simp)),r,q⟩
end
def zatb (sp:Sp)(dvs:List V)(E:XK)(t:TA):TE:=fun σ H Q=>t σ H λvs H1=>sp (vs++dvs) H1 Q E
def zypb (C:Addr)(m:Str)(sp:Sp)(dvs:List V)(E:XK)(ta:TE)(t:TA):TE:=fun σ H Q=>ta σ H λx H1=>Ex3 λa dx fs=>x = .ref a∧H1 a=some (.ins C dx fs)∧fs.lookup m=none ∧
 t σ H1 λvs H2=>sp (x::(vs++dvs)) H2 Q E
def zxsb (C:Addr)(sp:Sp)(dvs:List V)(E:XK)(t:TA):TE:=fun σ H Q=>t σ H λvs H1=>∀x dx,H1 x=none->H1 dx=none->dx≠x →
 sp (.ref x::(vs++dvs)) (upd (upd H1 dx (.own x)) x (.ins C dx [])) (λv H2=>v = .non∧Q (.ref x) H2) E
def Binds (K:yda)(fd:yxf)(ps:List Str)(ds:List Value):Prop :=
 ∀(s:Shared) (us:List Value),K.In s.heap->(us++ds).length=ps.length->ycq s fd ⟨us,[]⟩ (ps.zip (us++ds))
theorem Binds.all {K:yda}{fd:yxf}{ps:List Str}(h:∀us:List Value,us.length=ps.length->bindArgs fd ⟨us,[]⟩=pure (ps.zip us)):Binds K fd ps []:=λs us _ hl=>by
 rw[yad] at hl ⊢;exact .of_eq (h us hl)
def Passes (CX:CXT)(X:Cx)(E:XK):Prop:=∀(pins:List (Addr×Obj)) (σ:St) (H:Hp) (s:Shared) (e:Value) (s':Shared),Inv X pins σ H s->CX X.stack H s E e s'->X.xe e s'
section
variable {X:Cx}{CX:CXT}{k:Nat}{f C:Addr}{fd:yxf}{ps:List Str}{sp:Sp}{dvs:List V}{ds:List Value}{E:XK}{x m:Str}{p pos apos:Pos}{e o:Expr}{es:List Expr}{ta:TE}{t:TA}
theorem zvgb {pins:List (Addr×Obj)}{σ:St}{H:Hp}{s:Shared}{Q:VK}{us:List Value}{vs:List V}(F:FnOk X.prog X.w X.K X.mg X.base CX k f fd ps sp)(hr:Room k X.A)(hb:Binds X.K fd ps ds)(hd:Vals dvs ds)(hx:Passes CX X E)
  (I:Inv X pins σ H s) (r:Vals vs us) (h:sp (vs++dvs) H Q E):wpAny (model X.prog X.w) X.A (call (.ref f) us) (EP X pins σ Q) X.xe s:=by
 have r2:Vals (vs++dvs) (us++ds):=r.append hd;have hl:(us++ds).length=ps.length:=by rw[← r2.length];exact F.len _ _ _ _ h
 refine ydm (yeg (F.run X.A X.stack s H ⟨us,[]⟩ (us++ds) (vs++dvs) Q E hr I.env0 (hb s us I.kIn hl) r2 h) λr s' hq=>?_);cases r with
 | error e=>exact hx pins σ H s e s' I hq
 | ok fl =>
  cases fl with
  | ret u=>exact I.after hq
  | next=>exact yzf hq
  | brk=>exact yzf hq
  | cont=>exact yzf hq
theorem zga (F:FnOk X.prog X.w X.K X.mg X.base CX k f fd ps sp)(hr:Room k X.A)(hg:Gl X x)(hm:X.mg x=some (.ref f))(hk:ymf X.K (.ref f)=true)(hb:Binds X.K fd ps ds)(hd:Vals dvs ds)(hx:Passes CX X E)
  (ha:PA X (e::es) t) (hdb:(x==("__debug__":Str))=false:=by decide) (he:yhd (e::es) X.env=(false,eval e X.env)::yhd es X.env:=by rfl) (hpl:(backTo pos (yhd es X.env)).any (·.1)=false:=by rfl) :
  PE X (.Call (.Name x p) (e::es) [] pos) (zatb sp dvs E t):=by
 intro pins s σ H Q I h;refine yni (zmbb I hg hm ?_ hdb);refine yfl (h₀:=X.base) I.ok.mod.kin hk (thn (ha pos pins s σ H _ I h) λus s1 ⟨vs,H1,I1,r,q⟩=>⟨I1.kIn,?_⟩) he hpl;exact zvgb F hr hb hd hx I1 r q
theorem zth {pl:Sem Bool}(he:PE X o ta)(c:Cls X.K C)(hm:Meth X.K C m f)(F:FnOk X.prog X.w X.K X.mg X.base CX k f fd ps sp)(hr:Room k X.A)(hb:Binds X.K fd ps ds)(hd:Vals dvs ds)(hx:Passes CX X E)(ha:PA X (e::es) t)
  (hst:yhd (e::es) X.env=(false,eval e X.env)::yhd es X.env:=by rfl) (hpl:(backTo pos (yhd es X.env)).any (·.1)=false:=by rfl)
  (ht:eval (.Call (.Attribute o m apos) (e::es) [] pos) X.env=(do
   let ov ← eval o X.env
   standAt apos.atName
   let (f,first) ← ysm [ov] (yir ov m pl)
   callWith pos f first (backTo pos (yhd (e::es) X.env)) (ygr pos (yum [] X.env))):=by rfl) :
  PE X (.Call (.Attribute o m apos) (e::es) [] pos) (zypb C m sp dvs E ta t):=by
 intro pins s σ H Q I h;refine yrn (pl:=pl) (thn (he pins s σ H _ I h) λu s1 ⟨x,H1,I1,rx,a,dx,fs,ex,ea,l,q⟩=>?_) ht;subst ex;obtain rfl:u=Value.ref a:=rx;refine zju I1 ea c hm l ?_;refine yfl (first:=[.ref a]) (h₀:=X.base) I.ok.mod.kin hm.kp (thn (ha pos pins s1 σ H1 _ I1 q) λus s2 ⟨vs,H2,I2,r,q2⟩=>⟨I2.kIn,?_⟩) hst hpl;exact zvgb (us:=.ref a::us) (vs:=.ref a::vs) F hr hb hd hx I2 (.cons rfl r) q2
theorem zxc {pl:Sem Bool}(he:PE X o ta)(c:Cls X.K C)(hm:Meth X.K C m f)(F:FnOk X.prog X.w X.K X.mg X.base CX k f fd ps sp)(hr:Room k X.A)(hb:Binds X.K fd ps ds)(hd:Vals dvs ds)(hx:Passes CX X E)
  (ht:eval (.Call (.Attribute o m apos) [] [] pos) X.env=(do
   let ov ← eval o X.env
   standAt apos.atName
   let (f,first) ← ysm [ov] (yir ov m pl)
   callWith pos f first (backTo pos (yhd [] X.env)) (ygr pos (yum [] X.env))):=by rfl) :
  PE X (.Call (.Attribute o m apos) [] [] pos) (zypb C m sp dvs E ta tNil):=by
 intro pins s σ H Q I h;refine yrn (pl:=pl) (thn (he pins s σ H _ I h) λu s1 ⟨x,H1,I1,rx,a,dx,fs,ex,ea,l,q⟩=>?_) ht;subst ex;obtain rfl:u=Value.ref a:=rx;refine zju I1 ea c hm l ?_;exact PySem.W.callWith_K0 (first:=[.ref a]) I1.kIn hm.kp (zvgb (us:=[.ref a]) (vs:=[.ref a]) F hr hb hd hx I1 (.cons rfl .nil) q)
structure Mk (K:yda)(C f:Addr):Prop where
 makes:ypn K C=true
 init:ymb K (.ref C) "__init__" = some (some (.ref f))
 fn:yel K (.ref f)=true
 kp:ymf K (.ref C)=true
theorem zlkb {pins:List (Addr×Obj)}{σ:St}{H:Hp}{s:Shared}{Q:VK}{us:List Value}{vs:List V}(M:Mk X.K C f)(F:FnOk X.prog X.w X.K X.mg X.base CX k f fd ps sp)(hr:Room (k+1) X.A)(hb:Binds X.K fd ps ds)(hd:Vals dvs ds)
  (hx:Passes CX X E) (I:Inv X pins σ H s) (r:Vals vs us)
  (h:∀x dx,H x=none->H dx=none->dx≠x->sp (.ref x::(vs++dvs)) (upd (upd H dx (.own x)) x (.ins C dx [])) (λv H2=>v = .non∧Q (.ref x) H2) E) :
  wpAny (model X.prog X.w) X.A (call (.ref C) us) (EP X pins σ Q) X.xe s:=by
 have hq:=h (s.heap.objs.size+1) s.heap.objs.size (I.hok.fresh (yhg _)) (I.hok.fresh (yja _)) (yya (ydf _));have I2:=Inv.made (C:=C) I;have r2:Vals (V.ref (s.heap.objs.size+1)::(vs++dvs)) (Value.ref (s.heap.objs.size+1)::(us++ds)):=.cons rfl (r.append hd);have hl:(Value.ref (s.heap.objs.size+1)::us++ds).length=ps.length:=by
  have e:=r2.length;rw[F.len _ _ _ _ hq] at e;exact e.symm
 refine ydm (zglb (f:=f) I.kIn M.makes M.init (beq_iff_eq.mp M.fn) (yeg (F.run _ X.stack _ _ ⟨Value.ref (s.heap.objs.size+1)::us,[]⟩ (Value.ref (s.heap.objs.size+1)::(us++ds)) _ _ E (hr.make C us [])
  (I2.env0.make C us []) (hb _ (Value.ref (s.heap.objs.size+1)::us) I2.kIn hl) r2 hq) λr s' hq'=>?_))
 cases r with
 | error e=>exact hx pins σ _ _ e s' I2 hq'
 | ok fl =>
  cases fl with
  | ret u =>
   obtain⟨v,H',I3,rv,ev,q3⟩:=I2.after hq';subst ev;exact⟨rv,⟨V.ref (s.heap.objs.size+1),H',I3,rfl,q3⟩⟩
  | next=>exact yzf hq'
  | brk=>exact yzf hq'
  | cont=>exact yzf hq'
theorem zlv (M:Mk X.K C f)(F:FnOk X.prog X.w X.K X.mg X.base CX k f fd ps sp)(hr:Room (k+1) X.A)(hg:Gl X x)(hm:X.mg x=some (.ref C))(hb:Binds X.K fd ps ds)(hd:Vals dvs ds)(hx:Passes CX X E)
  (ha:PA X (e::es) t) (hdb:(x==("__debug__":Str))=false:=by decide) (he:yhd (e::es) X.env=(false,eval e X.env)::yhd es X.env:=by rfl) (hpl:(backTo pos (yhd es X.env)).any (·.1)=false:=by rfl) :
  PE X (.Call (.Name x p) (e::es) [] pos) (zxsb C sp dvs E t):=by
 intro pins s σ H Q I h;refine yni (zmbb I hg hm ?_ hdb);refine yfl (h₀:=X.base) I.ok.mod.kin M.kp (thn (ha pos pins s σ H _ I h) λus s1 ⟨vs,H1,I1,r,q⟩=>⟨I1.kIn,?_⟩) he hpl;exact zlkb M F hr hb hd hx I1 r q
end
section
variable {X:Cx}{CX:CXT}{k:Nat}{f C:Addr}{fd:yxf}{ps ks:List Str}{sp:Sp}{E:XK}{x m:Str}{p pos apos kpos:Pos}{e o:Expr}{es:List Expr}{kws:List ydq}{te ta:TE}{t tk:TA}{nm:Option Str}
structure zbub (K:yda)(fd:yxf)(ps ks:List Str)(g:List Value->List Value->List Value)(gV:List V->List V->List V):Prop where
 to:∀(s:Shared) (us ws:List Value),K.In s.heap->(g us ws).length=ps.length->ycq s fd ⟨us,ks.zip ws⟩ (ps.zip (g us ws))
 rel:∀{vs:List V} {us:List Value} {zs:List V} {ws:List Value},Vals vs us->Vals zs ws->Vals (gV vs zs) (g us ws)
variable {g:List Value->List Value->List Value}{gV:List V->List V->List V}
end
structure zxa (N P:List Str)(sc:Scope):Prop where
 kind:sc.kind = .function
 co:sc.isCoroutine=false
 gen:sc.isGenerator=false
 nd:N.Nodup
 pre:N.take P.length=P
 par:∀x∈P,sc.names.lookup x=some .local∨sc.names.lookup x=some .cell
 nofree:∀y∈sc.names,y.2 ≠ .free
theorem zpz {kindOf:Str->Option yfd}{x:Str}:∀{binds:List (Str×Value)} {m:Str->Option Value},(∀v,(x,v)∉binds)->bindL kindOf binds m x=m x
 | [],_,_=>rfl
 | (n,v)::r,m,h=>by
  unfold bindL;rw[zpz λw hw=>h w (ysa _ hw)]
  split
  ·have:x≠n:=by rintro rfl;exact h v yqa
   simp[this]
  ·rfl
theorem zrz {kindOf:Str->Option yfd}{x:Str}:∀{binds:List (Str×Value)} {m:Str->Option Value},(∀v,(x,v)∉binds)->bindC kindOf binds m x=m x
 | [],_,_=>rfl
 | (n,v)::r,m,h=>by
  unfold bindC;rw[zrz λw hw=>h w (ysa _ hw)]
  split
  ·rfl
  ·have:x≠n:=by rintro rfl;exact h v yqa
   simp[this]
theorem zqz {kindOf:Str->Option yfd}{x:Str}{v:Value}:∀{P:List Str} {vs:List Value} {i:Nat} {m:Str->Option Value},P.Nodup->P[i]?=some x->vs[i]?=some v->kindOf x=some .local →
  bindL kindOf (P.zip vs) m x=some v
 | [],_,_,_,_,h,_,_=>by simp at h
 | _::_,[],_,_,_,_,h,_=>by simp at h
 | p::P,w::vs,0,m,nd,h1,h2,hk=>by
  simp at h1 h2;subst h1;subst h2;show bindL kindOf ((p,w)::P.zip vs) m p=_
  unfold bindL;rw[zpz λv hv=>(ysd.mp nd).1 (ysn hv).1,if_pos hk];simp
 | p::P,w::vs,i+1,m,nd,h1,h2,hk=>by
  show bindL kindOf ((p,w)::P.zip vs) m x=_
  unfold bindL;exact zqz (i:=i) (ysd.mp nd).2 (by simpa using h1) (by simpa using h2) hk
theorem zsz {kindOf:Str->Option yfd}{x:Str}{v:Value}:∀{P:List Str} {vs:List Value} {i:Nat} {m:Str->Option Value},P.Nodup->P[i]?=some x->vs[i]?=some v->kindOf x≠some .local →
  bindC kindOf (P.zip vs) m x=some v
 | [],_,_,_,_,h,_,_=>by simp at h
 | _::_,[],_,_,_,_,h,_=>by simp at h
 | p::P,w::vs,0,m,nd,h1,h2,hk=>by
  simp at h1 h2;subst h1;subst h2;show bindC kindOf ((p,w)::P.zip vs) m p=_
  unfold bindC;rw[zrz λv hv=>(ysd.mp nd).1 (ysn hv).1,if_neg hk];simp
 | p::P,w::vs,i+1,m,nd,h1,h2,hk=>by
  show bindC kindOf ((p,w)::P.zip vs) m x=_
  unfold bindC;exact zsz (i:=i) (ysd.mp nd).2 (by simpa using h1) (by simpa using h2) hk
def start (N:List Str)(vs:List V):St:=vs.map some++ypb (N.length-vs.length) none
def cxOf (CX:CXT)(P:yvb)(w:World)(K:yda)(mg:Str->Option Value)(base:Heap)(N:List Str)(qual:Str)(scope:Scope)(f:Addr)(cd:Value)(A:Around)(outer:List Env)(s:Shared)(H:Hp)(E:XK):Cx where
 prog:=P
 w:=w
 K:=K
 mg:=mg
 base:=base
 A:=A.deeper (envOfC qual scope s.heap.objs.size f cd)
 N:=N
 s₀:=s
 H₀:=H
 env:=envOfC qual scope s.heap.objs.size f cd
 outer:=outer
 stack:=envOfC qual scope s.heap.objs.size f cd::outer
 ex:=[]
 calm:=true
 fn:=λ_=>true
 pn:=[]
 xe:=λe s'=>wpAny (model P w) (A.deeper (envOfC qual scope s.heap.objs.size f cd)) (leaving (envOfC qual scope s.heap.objs.size f cd) e) (λ_ s''=>CX outer H s E e s'') (λe' s''=>CX outer H s E e' s'') s'
theorem zceb {sc:Scope}{n:Nat}{x:Str}(h:sc.names.lookup x=some .cell):∃c,(cellsFrom n sc.names []).lookup x=some c:=by
 have q:=yin sc.names n [] (.inl h);exact Option.isSome_iff_exists.mp q
theorem zeib {CX:CXT}{P:yvb}{w:World}{K:yda}{mg:Str->Option Value}{base:Heap}{N ps:List Str}{qual:Str}{scope:Scope}{f:Addr}{cd:Value}{A:Around}{outer:List Env}{s s1:Shared}{H:Hp}{E:XK}{us:List Value}{vs:List V}
  (S:zxa N ps scope) (hd:A.handled=none) (e0:Env0 P w K mg base A outer s H) (hl:vs.length=ps.length) (r:Vals vs us)
  (x:InCallC s s.heap.objs.size (bindL (envOfC qual scope s.heap.objs.size f cd).kindOf (ps.zip us) λ_=>none) (cellsFrom (s.heap.objs.size+1) scope.names []) (bindC (envOfC qual scope s.heap.objs.size f cd).kindOf (ps.zip us) λ_=>none) s1) :
  Inv (cxOf CX P w K mg base N qual scope f cd A outer s H E) [] (start N vs) H s1:=by
 have hpl:ps.length≤N.length:=by have:=congrArg ybh S.pre;rw[ycb] at this;omega
 obtain⟨h1,tk,rfl,hk⟩:=x.done;have noA:∀b:Addr,b∉(cxOf CX P w K mg base N qual scope f cd A outer s H E).ex:=λb z=>absurd (show b∈([]:List Addr) from z) (by simp);refine⟨⟨e0.mod,S.kind,rfl,rfl,yja _,λy z c h1 h2=>?_,λy hy=>?_,λy c _ h=>?_,λ_=>hd,Around.frames_deeper e0.frames,.inr ⟨rfl,rfl⟩,λb z=>absurd z (noA b),e0.bs,e0.bsz,λb _ _=>noA b,λb z=>absurd z (noA b),e0.funs,e0.frf⟩,
  rfl,e0.bare,Un.kept hk,⟨_,x.toInCall.ns,λi y v h1 h2 h3=>?_⟩,λy c h=>⟨_,x.cell y c h⟩,e0.hok.fresh (yja _),λy c h=>?_,λp hp=>absurd (show p∈([]:List (Addr×Obj)) from hp) (by simp),e0.hok.kept hk,?_⟩
 ·exact name_of_addr x.apart (ych h1) (ych h2)
 ·have hy:scope.names.lookup y=some .cell∨scope.names.lookup y=some .free:=hy
  rcases hy with hy|hy
  ·exact zceb hy
  ·exact absurd rfl (S.nofree _ (ych hy))
 ·exact yge (x.above y c (ych h))
 ·have hi:i<vs.length:=by
   unfold start at h2
   by_cases hi:i<vs.length
   ·exact hi
   ·rw[yab (by simpa using hi)] at h2;rw[yoi] at h2
    split at h2<;>cases h2
  have ha:vs[i]?=some v:=by
   unfold start at h2;rw[ywb (by simpa using hi),yna] at h2;cases e:vs[i]? with
   | none=>rw[e] at h2;cases h2
   | some a=>rw[e] at h2;cases h2;rfl
  obtain⟨u,hu,rv⟩:=r.get ha;have hp:ps[i]?=some y:=by
   rw[← S.pre,yem (by omega)];exact h1
  have ndP:ps.Nodup:=by rw[← S.pre];exact S.nd.sublist (yfm _ _)
  refine⟨u,rv,?_⟩
  rcases S.par y (ypa hp) with k|k
  ·exact .inl ⟨k,zqz ndP hp hu k⟩
  ·obtain⟨c,e⟩:=zceb (n:=s.heap.objs.size+1) k;refine .inr ⟨.inl k,c,e,?_⟩;have q:=x.cell y c e;rw[zsz ndP hp hu (by show scope.names.lookup y≠_;rw[k];decide)] at q;exact q
 ·exact e0.hok.fresh (yge (x.above y c (ych h)))
 ·unfold start;show _=N.length
  rw[yfa,yaa,ytd];omega
theorem zytb {CX:CXT}{P:yvb}{w:World}{K:yda}{mg:Str->Option Value}{base:Heap}{k:Nat}{f:Addr}{name qual:Str}{params:Arguments}{body:List Stmt}{scope:Scope}{dV kV doc pm cdv ct oc:Value}{an od:Option Addr}
  {osl:Array (Option Value)} {N ps:List Str} {sp:Sp} (lk:K.lookup f=some ⟨oc,od,.func (yzg name qual params body scope dV kV doc pm an cdv ct),osl⟩) (hcd:yxh K cdv qual=true) (S:zxa N ps scope)
  (len:∀vs H Q E,sp vs H Q E->vs.length=ps.length)
  (hbody:∀(A:Around) (outer:List Env) (s:Shared) (H:Hp) (vs:List V) (Q:VK) (E:XK),Room k (A.deeper (envOfC qual scope s.heap.objs.size f cdv))->sp vs H Q E →
   ∃t,PSs (cxOf CX P w K mg base N qual scope f cdv A outer s H E) body t∧t { nx:=λ_ H'=>Q .non H',rt:=Q } (start N vs) H) :
  FnOk P w K mg base CX (k+1) f (yzg name qual params body scope dV kV doc pm an cdv ct) ps sp:=by
 refine⟨len,λA outer s H args us vs Q E hr e0 hb r hsp=>?_⟩;have hl:=len _ _ _ _ hsp;have KX:K.In s.heap:=e0.mod.kin.keeps λb o e=>(e0.bs b o e).1;have lim:s.heap.NoLimit:=e0.mod.nolimit.keeps λb o e=>(e0.bs b o e).1;have hkind:∀y∈ps.zip us,scope.names.lookup y.1=some .local∨(scope.names.lookup y.1=some .cell∧((cellsFrom (s.heap.objs.size+1) scope.names []).lookup y.1).isSome=true):=λ⟨n,v⟩ hy=>by
  rcases S.par n (ysn hy).1 with q|q
  ·exact .inl q
  ·exact .inr ⟨q,yin _ _ _ (.inl q)⟩
 refine codeAny_call_function hr.depth (KX _ _ lk) rfl S.co S.gen rfl (PySem.W.codeRec_of KX hcd) (hb _ _ _ _ ?_);refine wpAny_newFunctionEnv_cells S.kind hkind λenv he s1 x=>?_;subst he;refine⟨lim.keeps x.toInCall.keep,codeAny_func ?_⟩;obtain⟨t,ht,hq⟩:=hbody A outer s H vs Q E (hr.deeper _) hsp;have I:Inv (cxOf CX P w K mg base N qual scope f cdv A outer s H E) [] (start N vs) H s1:=zeib S hr.hd e0 hl r x;refine ype (ht [] s1 (start N vs) H _ I hq) (λfl s' hs=>?_) λe s' hs=>hs;have fin:∀{σ':St} {H':Hp} {v:V} {u:Value},Inv (cxOf CX P w K mg base N qual scope f cdv A outer s H E) [] σ' H' s'->RelV v u->Q v H'->CE outer P w H s Q u s' :=
  λ{σ' H' v u} J rv q=>⟨v,H',J.os,J.bare,J.base,J.hok,rv,q⟩
 cases fl with
 | ret u =>
  obtain⟨v,σ',H',J,rv,q⟩:=hs;exact fin J rv q
 | next =>
  obtain⟨σ',H',J,q⟩:=hs;exact fin (v:=V.non) (u:=Value.none) J rfl q
 | brk =>
  obtain⟨_,_,_,q⟩:=hs;exact yzf q
 | cont =>
  obtain⟨_,_,_,q⟩:=hs;exact yzf q
end L2
namespace L2
open PySem PySem.Spec PyProof.Rows
section
variable {X:Cx}{x:Str}{p pos:Pos}{e:Expr}{es:List Expr}{t:TA}{id T:String}{r:List V->Hp->VK->Prop}
def tCB (r:List V->Hp->VK->Prop)(t:TA):TE:=fun σ H Q=>t σ H λvs H1=>r vs H1 Q
theorem zva (hc:zwf X (.builtin id) r)(hg:Gl X x)(hm:X.mg x=none)(hv:ygi x=some (.builtin id))(ha:PA X (e::es) t)(hn:x ≠ "__name__":=by decide)(hdb:(x==("__debug__":Str))=false:=by decide)
  (he:yhd (e::es) X.env=(false,eval e X.env)::yhd es X.env:=by rfl) (hpl:(backTo pos (yhd es X.env)).any (·.1)=false:=by rfl):PE X (.Call (.Name x p) (e::es) [] pos) (tCB r t):=by
 intro pins s σ H Q I h;refine yni (zuy I hg hm hv ?_ hn hdb);exact PyProof.Rows.callWith_builtin1 (thn (ha pos pins s σ H _ I h) λus s1 ⟨vs,H1,I1,r1,q1⟩=>hc pins s1 σ H1 vs us Q I1 r1 q1) he hpl
theorem zza (hc:zwf X (.type T) r)(hg:Gl X x)(hm:X.mg x=none)(hv:ygi x=some (.type T))(ha:PA X (e::es) t)(hn:x ≠ "__name__":=by decide)(hdb:(x==("__debug__":Str))=false:=by decide)
  (he:yhd (e::es) X.env=(false,eval e X.env)::yhd es X.env:=by rfl) (hpl:(backTo pos (yhd es X.env)).any (·.1)=false:=by rfl):PE X (.Call (.Name x p) (e::es) [] pos) (tCB r t):=by
 intro pins s σ H Q I h;refine yni (zuy I hg hm hv ?_ hn hdb);exact ynh (thn (ha pos pins s σ H _ I h) λus s1 ⟨vs,H1,I1,r1,q1⟩=>hc pins s1 σ H1 vs us Q I1 r1 q1) he hpl
end
end L2
namespace HT
open PySem PyProof.Rows
section
open PySem.SeqAt
open PySem.AutoSeq1 (wpAny_loadPart')
open PySem.MeetsSeq PySem.MeetsSeq2 PySem.MeetsSeq3
end
section
variable {prog:yvb}{w:World}{A:Around}{E:Value->Shared->Prop}{s:Shared}
theorem zfpb {t b:Addr}{vs ws:List Value}{Q:Value->Shared->Prop}(ht:IsTup s.heap t vs.toArray)(hb:IsTup s.heap b ws.toArray)(hv:vs≠[])
  (h1:ws=[]->Q (.ref t) s) (h2:ws≠[]->Q (.ref s.heap.objs.size) { s with heap:=s.heap.push { cls:=.type "tuple",data:=.seq (vs++ws).toArray } })
  (hsz:vs.length+ws.length≤yza):wpAny (model prog w) A (ysh .Add (.ref t) (.ref b)) Q E s:=by
 obtain⟨⟨cls,dd,data,sl⟩,ho,hc,n,hd⟩:=id ht;obtain⟨⟨cls2,dd2,data2,sl2⟩,ho2,hc2,n2,hd2⟩:=id hb;simp only at hc hd hc2 hd2;subst hc hd hc2 hd2;have e:vs.toArray++ws.toArray=(vs++ws).toArray:=by simp
 by_cases hw:ws=[]
 ·exact ytn ⟨_,ho,rfl⟩ ⟨_,ho2,rfl⟩ yyj yvm ylh ydh (ypg _ _)
   (tuple_addW1 t b vs.toArray ws.toArray n n2 dd dd2 sl sl2 (by simpa using hv) (by simp[hw])) ⟨ho,ho2,h1 hw⟩
 ·refine ytn ⟨_,ho,rfl⟩ ⟨_,ho2,rfl⟩ yyj yvm ylh ydh (ypg _ _)
   (tuple_addW2 t b vs.toArray ws.toArray n n2 dd dd2 sl sl2 (by simpa using hv) (by simpa using hw) (by rw[yoa,yoa];exact hsz)) ⟨ho,ho2,?_⟩
  rw[e];exact h2 hw
def sIx (n d:Nat):Option Int->Nat
 | none=>d
 | some v=>if v<0 then (v+(n:Int)).toNat else min v.toNat n
theorem zadb (n d:Nat):sIx n d none=d:=rfl
theorem zkr (n d k:Nat):sIx n d (some (k:Int))=min k n:=by
 show (if (k:Int)<0 then ((k:Int)+(n:Int)).toNat else min (k:Int).toNat n)=min k n
 rw[if_neg (by omega),yib]
theorem znqb (n d:Nat)(hd:d≤n)(o:Option Int):sIx n d o≤n:=by
 cases o with
 | none=>exact hd
 | some v =>
  show (if v<0 then (v+(n:Int)).toNat else min v.toNat n)≤n
  by_cases hv:v<0
  ·rw[if_pos hv];omega
  ·rw[if_neg hv];exact Nat.min_le_right _ _
theorem zdjb (v:Int)(n d:Nat):(if v<0 then max (v+(n:Int)) 0 else min v (n:Int))=((sIx n d (some v):Nat):Int):=by
 show (if v<0 then max (v+(n:Int)) 0 else min v (n:Int))=(((if v<0 then (v+(n:Int)).toNat else min v.toNat n):Nat):Int)
 by_cases hv:v<0
 ·simp only[if_pos hv];omega
 ·simp only[if_neg hv];omega
theorem ztfb (lo hi:Option Int)(n:Nat):yyh lo hi 1 (n:Int)=(((sIx n 0 lo:Nat):Int),((sIx n n hi:Nat):Int)):=by
 have h1:¬ ((1:Int)<0):=by omega
 unfold yyh;simp only[h1,if_false];refine Prod.ext ?_ ?_
 ·cases lo with
  | none=>rfl
  | some v=>exact zdjb v n 0
 ·cases hi with
  | none=>rfl
  | some v=>exact zdjb v n n
theorem zzeb (i j:Nat):yig (i:Int) (j:Int) 1=j-i:=by
 unfold yig;have h1:(1:Int)>0:=by omega
 simp only[h1,if_true,Int.ediv_one]
 split<;>omega
theorem zst {v:Value}{o:Option Int}{Q:Option Int->Shared->Prop}(p:IsPart v o)(h:Q o s):wpAny (model prog w) A (yye.Slice.slicePartIndex v) Q E s:=by
 cases p with
 | none=>exact slicePart_none h
 | int i t=>exact slicePart_int h
theorem zck {sl:Addr}{vl vu:Value}{lo hi:Option Int}{n:Nat}{Q:Int×Int×Nat->Shared->Prop}(hs:s.heap.IsSliceOf sl vl vu .none)(pl:IsPart vl lo)(pu:IsPart vu hi)
  (h:Q (((sIx n 0 lo:Nat):Int),1,sIx n n hi-sIx n 0 lo) s):wpAny (model prog w) A (yal (.ref sl) (pure (n:Int))) Q E s:=by
 obtain⟨os,hos,hcs,hds⟩:=id hs;unfold yal yye.Slice.sliceFields;refine yba (yba (wpAny_field hos hds (x:=vl) rfl (yba (wpAny_field hos hds (x:=vu) rfl (yba (wpAny_field hos hds (x:=.none) rfl (yea ?_)))))));refine yba (slicePart_none ?_);show wpAny _ _ (if ((1:Int)==0)=true then _ else _) _ _ s
 rw[if_neg (by decide)];refine yba (zst pl (yba (zst pu (yba (yea ?_)))));show wpAny _ _ (match yyh lo hi 1 (n:Int) with|(lo,hi)=>pure (lo,(1:Int),yig lo hi 1)) _ _ s
 rw[ztfb lo hi n];show wpAny _ _ (pure (((sIx n 0 lo:Nat):Int),(1:Int),yig ((sIx n 0 lo:Nat):Int) ((sIx n n hi:Nat):Int) 1)) _ _ s
 rw[zzeb];exact yea h
theorem ztkb (xs:Array Value)(i k:Nat):((yuc k).filterMap λ(m:Nat)=>xs[((i:Int)+(m:Int)*1).toNat]?).toArray=((xs.toList.drop i).take k).toArray:=by
 have e:(λ(m:Nat)=>xs[((i:Int)+(m:Int)*1).toNat]?)=λm=>xs[i+m]?:=by
  funext m
  have:((i:Int)+(m:Int)*1).toNat=i+m:=by omega
  rw[this]
 rw[e];have:=pick_run xs i k;rw[ygl] at this;have e2:((λx=>xs[x]?)∘λx=>i+x)=λm=>xs[i+m]?:=rfl;rw[e2] at this;rw[this]
theorem zpo {t sl:Addr}{items:Array Value}{vl vu:Value}{lo hi:Option Int}{Q:Value->Shared->Prop}(ht:IsTup s.heap t items)(hs:s.heap.IsSliceOf sl vl vu .none)(pl:IsPart vl lo)(pu:IsPart vu hi)
  (hw:¬ (sIx items.size 0 lo=0∧sIx items.size items.size hi=items.size))
  (h:Q (.ref s.heap.objs.size) { s with heap:=s.heap.push { cls:=.type "tuple",data:=.seq ((items.toList.drop (sIx items.size 0 lo)).take (sIx items.size items.size hi-sIx items.size 0 lo)).toArray } })
  (hsz:items.size≤yza):wpAny (model prog w) A (yun (.ref t) (.ref sl)) Q E s:=by
 have htake:sizeOk (.seq ((items.toList.drop (sIx items.size 0 lo)).take (sIx items.size items.size hi-sIx items.size 0 lo)).toArray):=by
  show ((items.toList.drop (sIx items.size 0 lo)).take (sIx items.size items.size hi-sIx items.size 0 lo)).toArray.size≤yza
  rw[yoa,ycb,yjd,yga];omega
 have hj:sIx items.size items.size hi≤items.size:=znqb _ _ (yja _) hi;obtain⟨os,hos,hcs,hds⟩:=id hs;have hTs:s.TypeIs (.ref sl) "slice":=⟨os,hos,hcs⟩;unfold yun
 try with_reducible refine ycc ?_
 first|refine yba (yea ?_)|skip
 refine yba (yhj ht.typeIs (by decide) ?_);refine yba (yhf (name:=yhi "__getitem__") ht.typeIs ybd
  (yxd ybd ht.typeIs entry_tuple_getitem ?_ (args_tuple_getitem _ _)))
 show wpAny _ _ (ybl (.ref t) >>= _) _ _ s
 refine yba (tupleItemsOf_ ht ?_);refine yba (yii hTs ?_);rw[if_pos (by decide)];refine yba (zck hs pl pu ?_);have hno:¬ ((((sIx items.size 0 lo:Nat):Int)==0&&(1:Int)==1&&(sIx items.size items.size hi-sIx items.size 0 lo)==items.size)=true):=by
  intro q;rw[yhc,yhc] at q;have q1:((sIx items.size 0 lo:Nat):Int)=0:=eq_of_beq q.1.1;have q2:sIx items.size items.size hi-sIx items.size 0 lo=items.size:=eq_of_beq q.2;exact hw ⟨by omega,by omega⟩
 show wpAny _ _ (if (((sIx items.size 0 lo:Nat):Int)==0&&(1:Int)==1&&(sIx items.size items.size hi-sIx items.size 0 lo)==items.size)=true then _ else _) _ _ s
 rw[if_neg hno,ztkb]
 first
  | exact yba (m:=yqg _) (ymd (yea ⟨_,rfl,yea h⟩) htake)
  | exact yba (m:=yqg _) (ymd (yba (yea (yea ⟨_,rfl,yea h⟩))) htake)
  | exact yba (yba (m:=yqg _) (ymd (yea (yea ⟨_,rfl,yea h⟩)) htake))
  | exact yba (yba (m:=yqg _) (ymd (yea ⟨_,rfl,yea h⟩) htake))
end
end HT
namespace L2
open PySem PySem.Spec PyProof.Rows
abbrev TO:=St->Hp->(Option Int->Hp->Prop)->Prop
def PO (X:Cx)(e:Option Expr)(t:TO):Prop :=
 ∀(pins:List (Addr×Obj)) (s:Shared) (σ:St) (H:Hp) (Q:Option Int->Hp->Prop),Inv X pins σ H s->t σ H Q →
  wpAny (model X.prog X.w) X.A (evalPart e X.env) (λu s'=>Ex2 λo H'=>Inv X pins σ H' s'∧IsPart u o∧Q o H') X.xe s
def zknb:TO:=λ_ H Q=>Q none H
def zusb (t:TE):TO:=fun σ H Q=>t σ H λx H1=>∃i,x = .int i∧Q (some i) H1
section
variable {X:Cx}{e:Expr}{te:TE}{lo hi:Option Expr}{tl th:TO}{pos p2:Pos}
theorem zch:PO X none zknb:=by
 intro pins s σ H Q I h;rw[evalPart_none];exact yea ⟨none,H,I,.none,h⟩
theorem zbh (h:PE X e te):PO X (some e) (zusb te):=by
 intro pins s σ H Q I hw;rw[evalPart_some];refine thn (h pins s σ H _ I hw) λu s1 ⟨x,H1,I1,r1,q1⟩=>?_;obtain⟨i,rfl,q⟩:=q1;obtain⟨t,rfl⟩:=r1;exact⟨some i,H1,I1,.int i t,q⟩
def SlR (X:Cx)(r:V->Option Int->Option Int->Hp->VK->Prop):Prop :=
 ∀(pins:List (Addr×Obj)) (s:Shared) (σ:St) (H:Hp) (x:V) (v vl vu:Value) (lo hi:Option Int) (sl:Addr) (Q:VK),Inv X pins σ H s->RelV x v->s.heap.IsSliceOf sl vl vu .none->IsPart vl lo->IsPart vu hi->r x lo hi H Q →
  Ex2 λT id=>typeLookup (.type T) "__getitem__" = pure (some (.builtin id))∧s.TypeIs v T∧wpAny (model X.prog X.w) X.A (yun v (.ref sl)) (EP X pins σ Q) X.xe s
def tSl (r:V->Option Int->Option Int->Hp->VK->Prop)(te:TE)(tl th:TO):TE:=fun σ H Q=>te σ H λx H1=>tl σ H1 λl H2=>th σ H2 λu H3=>r x l u H3 Q
theorem zoe {r:V->Option Int->Option Int->Hp->VK->Prop}(hr:SlR X r)(he:PE X e te)(hl:PO X lo tl)(hu:PO X hi th):PE X (.Subscript e (.Slice lo hi none p2) pos) (tSl r te tl th):=by
 intro pins s σ H Q I h;refine Subscript_ (thn (he pins s σ H _ I h) λv s1 ⟨x,H1,I1,r1,q1⟩=>?_);refine wpAny_Slice (thn (hl pins s1 σ H1 _ I1 q1) λvl s2 ⟨l,H2,I2,pl,q2⟩=>thn (hu pins s2 σ H2 _ I2 q2) λvu s3 ⟨u,H3,I3,pu,q3⟩=>?_);rw[evalPart_none];refine yea ?_;have I4:Inv X pins σ H3 { s3 with heap:=s3.heap.push { cls:=.type "slice",data:=.fields #[vl,vu,.none] } }:=I3.kept (t':=s3.toks) λb ob q=>yca _ q;obtain⟨T,id,hT,ht,hg⟩:=hr pins { s3 with heap:=s3.heap.push { cls:=.type "slice",data:=.fields #[vl,vu,.none] } } σ H3 x v vl vu l u s3.heap.objs.size Q I4 r1 (Heap.IsSliceOf.new ..) pl pu q3;show wpAny (model X.prog X.w) X.A (subscriptTail e (.Slice lo hi none p2) v (.ref s3.heap.objs.size)) (EP X pins σ Q) X.xe { s3 with heap:=s3.heap.push { cls:=.type "slice",data:=.fields #[vl,vu,.none] } }
 exact tail_any (ops:=[.ref s3.heap.objs.size,v]) ht hT hg (by with_unfolding_all rfl)
def cutV (xs:List V)(lo hi:Option Int):List V:=(xs.drop (HT.sIx xs.length 0 lo)).take (HT.sIx xs.length xs.length hi-HT.sIx xs.length 0 lo)
theorem zks (xs:List V)(lo hi:Option Int):(cutV xs lo hi).length≤xs.length:=by
 unfold cutV;rw[ycb,yjd];omega
def rSlT (K:yda):V->Option Int->Option Int->Hp->VK->Prop:=λx lo hi H Q=>Ex2 λa xs=>x = .ref a∧SqT K H a xs ∧
 ¬ (HT.sIx xs.length 0 lo=0∧HT.sIx xs.length xs.length hi=xs.length)∧∀p,H p=none->Q (.ref p) (upd H p (.tup (cutV xs lo hi)))
theorem zxcb:SlR X (rSlT X.K):=by
 intro pins s σ H x v vl vu lo hi sl Q I rx hs pl pu h;obtain⟨a,xs,rfl,hx,hw,q⟩:=h;cases rx;obtain⟨its,r,ht,hz⟩:=I.tuple hx;have hlen:its.toArray.size=xs.length:=by rw[yoa];exact r.length.symm
 refine⟨"tuple",_,ybd.lookup,ht.typeIs,?_⟩;refine HT.zpo ht hs pl pu (by rw[hlen];exact hw) ?_ (by rw[hlen];exact hz);rw[hlen];refine⟨.ref s.heap.objs.size,_,I.laid (t':=s.toks) (o:=.tup (cutV xs lo hi)) (λb ob q=>yca _ q) (yja _) ?_,rfl,q _ (I.hok.fresh (yja _))⟩;exact⟨ykb (zks xs lo hi) hz,_,(r.drop (HT.sIx xs.length 0 lo)).take (HT.sIx xs.length xs.length hi-HT.sIx xs.length 0 lo),ybs _ _⟩
def zltb (K:yda):R2:=λx y H Q=>Ex4 λa b xs ys=>x = .ref a∧y = .ref b∧SqT K H a xs∧SqT K H b ys∧xs≠[]∧xs.length+ys.length≤yza ∧
 (ys=[]->Q (.ref a) H)∧(ys≠[]->∀p,H p=none->Q (.ref p) (upd H p (.tup (xs++ys))))
theorem Vals.zfbb {xs:List V}{us:List Value}(r:Vals xs us):us=[]↔xs=[]:=by
 cases r with
 | nil=>simp
 | cons _ _=>simp
theorem zbbb:OpR X (ysh .Add) (zltb X.K):=by
 intro pins s σ H x y v u Q I rx ry h;obtain⟨a,b,xs,ys,rfl,rfl,ha,hb,hx,hz,q1,q2⟩:=h;cases rx;cases ry;obtain⟨its,r1,p1,_⟩:=I.tuple ha;obtain⟨its2,r2,p2,_⟩:=I.tuple hb;refine HT.zfpb p1 p2 (λz=>hx (r1.zfbb.mp z)) (λz=>⟨.ref a,H,I,rfl,q1 (r2.zfbb.mp z)⟩) (λz=>?_) (by rw[← r1.length,← r2.length];exact hz);refine⟨.ref s.heap.objs.size,_,I.laid (t':=s.toks) (o:=.tup (xs++ys)) (λb ob q=>yca _ q) (yja _) ?_,rfl,q2 (λw=>z (r2.zfbb.mpr w)) _ (I.hok.fresh (yja _))⟩;exact⟨by rw[yfa];exact hz,_,r1.append r2,ybs _ _⟩
end
end L2
namespace L2
open PySem PySem.Spec PyProof.Rows
def ixN (n:Nat)(i:Int):Option Nat:=if 0≤i then (if i<n then some i.toNat else none) else if -(n:Int)≤i then some (i+n).toNat else none
def atI {α:Type}(xs:List α)(i:Int):Option α:=(ixN xs.length i).bind λj=>xs[j]?
theorem zcib {n:Nat}{i:Int}{j:Nat}(h:ixN n i=some j):seqIndex? i n=some j∧j<n ∧ -(n:Int)≤i∧i<n:=by
 unfold ixN at h
 by_cases h0:0≤i
 ·rw[if_pos h0] at h
  by_cases h1:i<n
  ·rw[if_pos h1] at h;have e:i.toNat=j:=yvc h;exact⟨by rw[seqIndex_of h0 h1,e],by omega,by omega,h1⟩
  ·rw[if_neg h1] at h;cases h
 ·rw[if_neg h0] at h
  by_cases h1:-(n:Int)≤i
  ·rw[if_pos h1] at h;have e:(i+n).toNat=j:=yvc h;exact⟨by rw[seqIndex_neg (by omega) h1,e],by omega,h1,by omega⟩
  ·rw[if_neg h1] at h;cases h
theorem zccb {α:Type}{xs:List α}{i:Int}{v:α}(h:atI xs i=some v):∃j,seqIndex? i xs.length=some j∧xs[j]?=some v∧j<xs.length ∧ -(xs.length:Int)≤i∧i<xs.length:=by
 unfold atI at h;cases e:ixN xs.length i with
 | none=>rw[e] at h;cases h
 | some j =>
  rw[e] at h;obtain⟨h1,h2,h3,h4⟩:=zcib e;exact⟨j,h1,h,h2,h3,h4⟩
theorem zsa {α:Type}{xs:List α}{j:Nat}{v:α}(h:xs[j]?=some v):atI xs (j:Int)=some v:=by
 have hj:j<xs.length:=(yha.mp h).1;have e:ixN xs.length (j:Int)=some j:=by
  unfold ixN;rw[if_pos (by omega),if_pos (by omega)];simp
 unfold atI;rw[e];exact h
def zrpb (b:Expr):Prop:=∀o i,subscripted b false o i=operate [o,i] (yun o i)
def IxR (X:Cx)(r:R2):Prop :=
 ∀(value slice:Expr) (pins:List (Addr×Obj)) (s:Shared) (σ:St) (H:Hp) (x y:V) (v u:Value) (Q:VK),Inv X pins σ H s->RelV x v->RelV y u->r x y H Q →
  subscripted slice false v u=operate [v,u] (yun v u)->wpAny (model X.prog X.w) X.A (subscriptTail value slice v u) (EP X pins σ Q) X.xe s
def MtR (X:Cx)(id:String)(r:V->List V->Hp->VK->Prop):Prop :=
 ∀(pins:List (Addr×Obj)) (s:Shared) (σ:St) (H:Hp) (x:V) (xs:List V) (v:Value) (us:List Value) (Q:VK),Inv X pins σ H s->RelV x v->Vals xs us->r x xs H Q →
  wpAny (model X.prog X.w) X.A (call (.builtin id) (v::us)) (EP X pins σ Q) X.xe s
section
variable {X:Cx}{a b:Expr}{ta tb:TE}{pos:Pos}
theorem IxR.or {r r':R2}(h:IxR X r)(h':IxR X r'):IxR X (λx y H Q=>r x y H Q∨r' x y H Q):=by
 intro value slice pins s σ H x y v u Q I rx ry q hs
 rcases q with q|q
 ·exact h value slice pins s σ H x y v u Q I rx ry q hs
 ·exact h' value slice pins s σ H x y v u Q I rx ry q hs
theorem zya {r:R2}(hr:IxR X r)(ha:PE X a ta)(hb:PE X b tb)(hs:zrpb b):PE X (.Subscript a b pos) (tOp r ta tb):=by
 intro pins s σ H Q I h;exact Subscript_ (binT ha hb I h λv u s2 x y H2 I2 rx ry q=>hr a b pins s2 σ H2 x y v u Q I2 rx ry q (hs _ _))
def rIxL (K:yda):R2:=λx y H Q=>Ex4 λp xs i v=>x = .ref p∧y = .int i∧SqL K H p xs∧atI xs i=some v∧Q v H
def rIxT (K:yda):R2:=λx y H Q=>Ex4 λp xs i v=>x = .ref p∧y = .int i∧SqT K H p xs∧atI xs i=some v∧Q v H
def rIxS:R2:=λx y H Q=>Ex3 λz i c=>x = .str z∧y = .int i∧z.length≤yza∧atI z.cps.toList i=some c∧Q (.str ⟨#[c]⟩) H
theorem zwa:IxR X (rIxL X.K):=by
 intro value slice pins s σ H x y v u Q I rx ry h hs;obtain⟨p,xs,i,z,rfl,rfl,hq,he,q⟩:=h;cases rx;obtain⟨t,rfl⟩:=ry;obtain⟨its,r,pl,hz⟩:=I.list hq;obtain⟨j,h1,h2,h3,h4,h5⟩:=zccb he;obtain⟨w,ew,rw'⟩:=r.get h2;have hl:=r.length;have hn:=zgu;have fin:EP X pins σ Q w s:=⟨z,H,I,rw',q⟩
 by_cases h0:0≤i
 ·have hj:i.toNat=j:=by
   rw[seqIndex_of h0 h5] at h1;exact yvc h1
  exact item_listR pl.isList h0 (by omega) (by rw[hj];simpa using ew) fin hs
 ·have hj:(i+(its.toArray.size:Int)).toNat=j:=by
   rw[seqIndex_neg (by omega) h4] at h1;rw[yoa,← hl];exact yvc h1
  exact yyi (x:=w) pl.isList.typeIs slot_list_getitem.lookup
   (wpAny_getItem_list_neg (Q:=λr s'=>r=w∧EP X pins σ Q r s') pl.isList (by omega) (by rw[yoa]<;>omega) (by omega) (by rw[hj];simpa using ew) ⟨rfl,fin⟩) hs
theorem ztb:IxR X (rIxT X.K):=by
 intro value slice pins s σ H x y v u Q I rx ry h hs;obtain⟨p,xs,i,z,rfl,rfl,hq,he,q⟩:=h;cases rx;obtain⟨t,rfl⟩:=ry;obtain⟨its,r,pl,hz⟩:=I.tuple hq;obtain⟨j,h1,h2,h3,h4,h5⟩:=zccb he;obtain⟨w,ew,rw'⟩:=r.get h2;have hl:=r.length;have hn:=zgu;have fin:EP X pins σ Q w s:=⟨z,H,I,rw',q⟩;exact yyi (x:=w) pl.typeIs slot_tuple_getitem.lookup
  (getItem_tuple (j:=j) (Q:=λr s'=>r=w∧EP X pins σ Q r s') pl (by omega) (by omega) (by rw[yoa,← hl];exact h1) (by simpa using ew) ⟨rfl,fin⟩) hs
theorem zodb:IxR X rIxS:=by
 intro value slice pins s σ H x y v u Q I rx ry h hs;obtain⟨z,i,c,rfl,rfl,hz,he,q⟩:=h;obtain⟨t,rfl⟩:=rx;obtain⟨t',rfl⟩:=ry;obtain⟨j,h1,h2,h3,h4,h5⟩:=zccb he;have hl:z.cps.toList.length=z.length:=by simp[yvr]
 rw[hl] at h1 h4 h5;have hn:=zgu;exact tail_any (ygm s z t) slot_str_getitem.lookup (getItem_str (c:=c) (by
  have e1:decide (i < -(2 ^ 63:Int))=false:=decide_eq_false (by omega);have e2:decide (i≥2 ^ 63)=false:=decide_eq_false (by omega);rw[e1,e2,ynp]) (by rw[h1];simpa using h2) ⟨.str ⟨#[c]⟩,H,I.tok _,⟨_,rfl⟩,q⟩) hs
def rIx (K:yda):R2:=λx y H Q=>rIxL K x y H Q∨rIxT K x y H Q∨rIxS x y H Q
theorem zasb:IxR X (rIx X.K):=zwa.or (ztb.or zodb)
theorem zefb (its:List Value)(n j:Nat)(u:Value):yre (·.setIfInBounds j u) { cls:=.type "list",data:=.seq its.toArray n }={ cls:=.type "list",data:=.seq (its.set j u).toArray n }:=by
 simp[yre]
theorem Inv.lst {pins:List (Addr×Obj)}{σ:St}{H:Hp}{s:Shared}{p:Addr}{xs:List V}(I:Inv X pins σ H s)(h:H p=some (.lst xs)) :
  Ex2 λ(its:List Value) (n:Nat)=>Vals xs its∧s.heap.get? p=some { cls:=.type "list",data:=.seq its.toArray n }∧xs.length≤yza:=by
 obtain⟨z,its,n,r,e⟩:=I.hok p _ h;exact⟨its,n,r,e,z⟩
theorem Inv.zkrb {pins:List (Addr×Obj)}{σ:St}{H:Hp}{s:Shared}{p:Addr}{xs ys:List V}{its its':List Value}{n n':Nat}{f:Obj->Obj}(I:Inv X pins σ H s)(h:H p=some (.lst xs))
  (ho:s.heap.get? p=some { cls:=.type "list",data:=.seq its.toArray n }) (hf:f { cls:=.type "list",data:=.seq its.toArray n }={ cls:=.type "list",data:=.seq its'.toArray n' }) (r:Vals ys its') (hz:ys.length≤yza) (t:Nat) :
  Inv X pins σ (upd H p (.lst ys)) { s with heap:=s.heap.update p f,toks:=t }:=by
 have e:(s.heap.update p f).get? p=some { cls:=.type "list",data:=.seq its'.toArray n' }:=by
  rw[ywc f ho (by rw[hf]<;>rfl),hf]
 refine I.write (x:=p) (e:=p) (by rw[h];trivial) (.inl rfl) (λb u hb q=>(yqc _ _ (yqd hb)).trans q) ⟨_,e⟩ ?_;exact⟨hz,its',n',r,e⟩
def zktb:V->V->V->Hp->(Hp->Prop)->Prop:=λo i v H Q=>Ex4 λp xs k j=>o = .ref p∧i = .int k∧H p=some (.lst xs)∧ixN xs.length k=some j∧Q (upd H p (.lst (xs.set j v)))
theorem set_list:PSet X zktb:=by
 intro pins s σ H o i v ov iv u Q I ro ri rv h;obtain⟨p,xs,k,j,rfl,rfl,hp,hj,q⟩:=h;cases ro;obtain⟨t,rfl⟩:=ri;obtain⟨its,n,r,ho,hz⟩:=I.lst hp;obtain⟨h1,h2,h3,h4⟩:=zcib hj;have hl:=r.length;have hn:=zgu;have I':Inv X pins σ (upd H p (.lst (xs.set j v))) { s with heap:=s.heap.update p (yre (·.setIfInBounds j u)) } :=
  I.zkrb hp ho (zefb its n j u) (r.set rv j) (by rw[ycd];exact hz) s.toks
 by_cases h0:0≤k
 ·have hk:k.toNat=j:=by
   rw[seqIndex_of h0 h4] at h1;exact yvc h1
  exact PySem.W.ki_setAt ho h0 (by omega) (by rw[yoa,← hl];exact h4) (by rw[hk];exact⟨_,I',q⟩)
 ·have hk:(k+(its.toArray.size:Int)).toNat=j:=by
   rw[seqIndex_neg (by omega) h3] at h1;rw[yoa,← hl];exact yvc h1
  exact PySem.W.ki_setBack ho (by omega) (by rw[yoa,← hl];exact h3) (by omega) (by rw[hk];exact⟨_,I',q⟩)
theorem zlx (lo hi:Option Int)(n:Nat):(yij lo hi none n).1=((HT.sIx n 0 lo:Nat):Int)∧(yij lo hi none n).2.1=((HT.sIx n n hi:Nat):Int)∧(yij lo hi none n).2.2=1:=by
 refine⟨?_,?_,rfl⟩
 ·cases lo with
  | none=>simp[yij,HT.sIx]
  | some i =>
   simp only[yij,HT.sIx,ycr,show (1:Int)>0 by decide,if_true]
   by_cases h:i<0
   ·simp only[h,if_true]<;>omega
   ·simp only[h,if_false]<;>omega
 ·cases hi with
  | none=>simp[yij,HT.sIx]
  | some i =>
   simp only[yij,HT.sIx,ycr,show (1:Int)>0 by decide,if_true]
   by_cases h:i<0
   ·simp only[h,if_true]<;>omega
   ·simp only[h,if_false]<;>omega
theorem zbv (its:List Value)(lo hi:Option Int):slicePick its.toArray lo hi none=((its.drop (HT.sIx its.length 0 lo)).take (HT.sIx its.length its.length hi-HT.sIx its.length 0 lo)).toArray:=by
 obtain⟨h1,h2,h3⟩:=zlx lo hi its.toArray.size;unfold slicePick;rw[h1,h2,h3];simp only[yto,pick_run,yoa]<;>rfl
def rSlL (K:yda):V->Option Int->Option Int->Hp->VK->Prop:=λx lo hi H Q=>Ex2 λa xs=>x = .ref a∧SqL K H a xs∧∀p,H p=none->Q (.ref p) (upd H p (.lst (cutV xs lo hi)))
theorem zuab:SlR X (rSlL X.K):=by
 intro pins s σ H x v vl vu lo hi sl Q I rx hs pl pu h;obtain⟨a,xs,rfl,hx,q⟩:=h;cases rx;obtain⟨its,r,ht,hz⟩:=I.list hx;have hlen:=r.length;refine⟨"list",_,slot_list_getitem.lookup,ht.isList.typeIs,?_⟩;refine wpAny_getItem_list_slice ht.isList hs pl pu .none (by simp) ?_ (by rw[yoa]<;>omega);rw[zbv,← hlen];refine⟨.ref s.heap.objs.size,_,I.laid (t':=s.toks) (o:=.lst (cutV xs lo hi)) (λb ob q=>yca _ q) (yja _) ?_,rfl,q _ (I.hok.fresh (yja _))⟩;exact⟨ykb (zks xs lo hi) hz,_,0,(r.drop (HT.sIx xs.length 0 lo)).take (HT.sIx xs.length xs.length hi-HT.sIx xs.length 0 lo),yla _ rfl⟩
def zjt:V->Bool
 | .non=>true
 | .bl _=>true
 | .int _=>true
 | .str _=>true
 | _=>false
def eqV:V->V->Bool
 | .non,.non=>true
 | .bl a,.bl b=>a==b
 | .bl a,.int b=>(if a then 1 else 0)==b
 | .int a,.bl b=>a==(if b then 1 else 0)
 | .int a,.int b=>a==b
 | .str a,.str b=>a==b
 | _,_=>false
theorem znsb {A:Around}{s:Shared}{y x:V}{u v:Value}(ry:RelV y u)(rx:RelV x v)(fy:zjt y=true)(fx:zjt x=true):yne A s u v (eqV y x):=by
 cases y with
 | non =>
  cases ry;cases x with
  | non=>cases rx;exact yne.same _
  | bl b=>cases rx;exact yne.none_bool b
  | int b=>obtain⟨t,rfl⟩:=rx;exact yne.none_int b t
  | str b=>obtain⟨t,rfl⟩:=rx;exact yne.none_str b t
  | _=>exact absurd (show false=true from fx) ygb
 | bl a =>
  cases ry;cases x with
  | non=>cases rx;exact yne.bool_none a
  | bl b=>cases rx;exact yne.bool_bool a b
  | int b=>obtain⟨t,rfl⟩:=rx;exact yne.bool_int a b t
  | str b=>obtain⟨t,rfl⟩:=rx;exact yne.bool_str a b t
  | _=>exact absurd (show false=true from fx) ygb
 | int a =>
  obtain⟨t',rfl⟩:=ry;cases x with
  | non=>cases rx;exact yne.int_none a t'
  | bl b=>cases rx;exact yne.int_bool a t' b
  | int b=>obtain⟨t,rfl⟩:=rx;exact yne.int_int a t' b t
  | str b=>obtain⟨t,rfl⟩:=rx;exact yhp a t' b t
  | _=>exact absurd (show false=true from fx) ygb
 | str a =>
  obtain⟨t',rfl⟩:=ry;cases x with
  | non=>cases rx;exact yne.str_none a t'
  | bl b=>cases rx;exact yne.str_bool a t' b
  | int b=>obtain⟨t,rfl⟩:=rx;exact yip a t' b t
  | str b=>obtain⟨t,rfl⟩:=rx;exact yne.str_str a t' b t
  | _=>exact absurd (show false=true from fx) ygb
 | _=>exact absurd (show false=true from fy) ygb
def eqU (x:V)(u:Value):Bool:=match u with
 | .none=>eqV .non x
 | .bool b=>eqV (.bl b) x
 | .int i _=>eqV (.int i) x
 | .str z _=>eqV (.str z) x
 | _=>false
theorem zwmb {x y:V}{u:Value}(r:RelV y u)(f:zjt y=true):eqU x u=eqV y x:=by
 cases y with
 | non=>cases r;rfl
 | bl b=>cases r;rfl
 | int i=>obtain⟨t,rfl⟩:=r;rfl
 | str z=>obtain⟨t,rfl⟩:=r;rfl
 | _=>exact absurd (show false=true from f) ygb
theorem zps {x:V}:∀{xs:List V} {us:List Value},Vals xs us->xs.all zjt=true->us.any (eqU x)=xs.any λy=>eqV y x
 | _,_,.nil,_=>rfl
 | y::xs,u::us,.cons r t,f=>by
  rw[List.all_cons,yhc] at f;rw[yop,yop,zwmb r f.1,zps t f.2]
theorem zqn {A:Around}{s:Shared}{x:V}{v:Value}(rx:RelV x v)(fx:zjt x=true):∀{xs:List V} {us:List Value},Vals xs us->xs.all zjt=true->∀u∈us,yne A s u v (eqU x u)
 | _,_,.nil,_=>λu hu=>by cases hu
 | y::xs,u::us,.cons r t,f=>λu' hu=>by
  rw[List.all_cons,yhc] at f
  rcases yma.mp hu with rfl|hu
  ·rw[zwmb r f.1];exact znsb r rx f.1 fx
  ·exact zqn rx fx t f.2 u' hu
def inV (x:V)(xs:List V):Bool:=xs.any λy=>eqV y x
def rIn (K:yda)(neg:Bool):R2:=λx y H Q=>Ex2 λp xs=>y = .ref p∧(SqL K H p xs∨SqT K H p xs)∧zjt x=true∧xs.all zjt=true∧Q (.bl (if neg then !inV x xs else inV x xs)) H
theorem zie:OpR X (yle .In) (rIn X.K false):=by
 intro pins s σ H x y v u Q I rx ry h;obtain⟨p,xs,rfl,hq,fx,fs,q⟩:=h;cases ry
 rcases hq with hq|hq
 ·obtain⟨its,r,pl,hz⟩:=I.list hq;refine SeqAt.in_listAt (eqU x) pl.isList (λw hw=>zqn rx fx r fs w (by simpa using hw)) ⟨.bl _,H,I,rfl,?_⟩;rw[show its.toArray.any (eqU x)=its.any (eqU x) by simp,zps r fs];exact q
 ·obtain⟨its,r,pl,hz⟩:=I.tuple hq;refine SeqAt.in_tupleAt (eqU x) pl (λw hw=>zqn rx fx r fs w (by simpa using hw)) ⟨.bl _,H,I,rfl,?_⟩;rw[show its.toArray.any (eqU x)=its.any (eqU x) by simp,zps r fs];exact q
theorem zzx:OpR X (yle .NotIn) (rIn X.K true):=by
 intro pins s σ H x y v u Q I rx ry h;obtain⟨p,xs,rfl,hq,fx,fs,q⟩:=h;cases ry
 rcases hq with hq|hq
 ·obtain⟨its,r,pl,hz⟩:=I.list hq;refine SeqAt.notIn_listAt (eqU x) pl.isList (λw hw=>zqn rx fx r fs w (by simpa using hw)) ⟨.bl _,H,I,rfl,?_⟩;rw[show its.toArray.any (eqU x)=its.any (eqU x) by simp,zps r fs];exact q
 ·obtain⟨its,r,pl,hz⟩:=I.tuple hq;refine SeqAt.notIn_tupleAt (eqU x) pl (λw hw=>zqn rx fx r fs w (by simpa using hw)) ⟨.bl _,H,I,rfl,?_⟩;rw[show its.toArray.any (eqU x)=its.any (eqU x) by simp,zps r fs];exact q
theorem zmb:zwf X (.builtin "len") (λxs H Q=>Ex2 λp ys=>xs=[.ref p]∧(SqL X.K H p ys∨SqT X.K H p ys)∧Q (.int ys.length) H):=by
 intro pins s σ H xs us Q I r h;obtain⟨p,ys,rfl,hq,q⟩:=h;obtain⟨u,rfl,rx⟩:=vals1 r;cases rx;have hn:=zgu
 rcases hq with hq|hq
 ·obtain⟨its,r',pl,hz⟩:=I.list hq;have hlen:=r'.length;exact Calls.call_len_list pl.isList (by simp only[yoa]<;>omega) ⟨.int ys.length,H,I.tok _,⟨s.toks+1,by rw[yoa,hlen]⟩,q⟩
 ·obtain⟨its,r',pl,hz⟩:=I.tuple hq;have hlen:=r'.length;exact len_tuple pl (by simp only[yoa]<;>omega) ⟨.int ys.length,H,I.tok _,⟨s.toks+1,by rw[yoa,hlen]⟩,q⟩
theorem zcl:zwf X (.builtin "len") (λxs H Q=>∃z,xs=[.str z]∧z.length≤yza∧Q (.int z.length) H):=by
 intro pins s σ H xs us Q I r h;obtain⟨z,rfl,hz,q⟩:=h;obtain⟨u,rfl,t,rfl⟩:=vals1 r;have hn:=zgu;exact len_str (by omega) ⟨.int z.length,H,I.tok _,⟨_,rfl⟩,q⟩
theorem zbl:zwf X (.type "list") (λxs H Q=>Ex2 λp ys=>xs=[.ref p]∧(SqL X.K H p ys∨SqT X.K H p ys)∧∀l,H l=none->Q (.ref l) (upd H l (.lst ys))):=by
 intro pins s σ H xs us Q I r h;obtain⟨p,ys,rfl,hq,q⟩:=h;obtain⟨u,rfl,rx⟩:=vals1 r;cases rx;have fin:∀(its:List Value),Vals ys its->ys.length≤yza->∀(h':Heap) (c':Nat),(∀b o',s.heap.get? b=some o'->h'.get? b=some o') →
   h'.get? s.heap.objs.size=some { cls:=.type "list",dict:=none,data:=.seq its.toArray c',slots:=#[] }->EP X pins σ Q (.ref s.heap.objs.size) { s with heap:=h' }:=λits r' hz h' c' kp e =>
  ⟨.ref s.heap.objs.size,_,I.laid (t':=s.toks) kp (yja _) (show znj X.prog X.w _ h' _ (.lst ys) from⟨hz,its,c',r',e⟩),rfl,q _ (I.hok.fresh (yja _))⟩
 rcases hq with hq|hq
 ·obtain⟨its,r',pl,hz⟩:=I.list hq;have hlen:=r'.length;obtain⟨o,ho,hc,n,hd⟩:=pl.isList;exact call_list_seq p (.inl rfl) ho hc hd (λh' c' kp e=>fin its r' hz h' c' kp e) (by simp only[yoa]<;>omega)
 ·obtain⟨its,r',pl,hz⟩:=I.tuple hq;have hlen:=r'.length;obtain⟨o,ho,hc,n,hd⟩:=pl;exact call_list_seq p (.inr rfl) ho hc hd (λh' c' kp e=>fin its r' hz h' c' kp e) (by simp only[yoa]<;>omega)
theorem zbb:zwf X (.type "tuple") (λxs H Q=>Ex2 λp ys=>xs=[.ref p]∧((SqL X.K H p ys∧∀l,H l=none->Q (.ref l) (upd H l (.tup ys)))∨(SqT X.K H p ys∧Q (.ref p) H))):=by
 intro pins s σ H xs us Q I r h;obtain⟨p,ys,rfl,h⟩:=h;obtain⟨u,rfl,rx⟩:=vals1 r;cases rx
 rcases h with⟨hq,q⟩|⟨hq,q⟩
 ·obtain⟨its,r',pl,hz⟩:=I.list hq;have hlen:=r'.length;refine call_tuple_list pl.isList (λh' kp=>?_) (by simp only[yoa]<;>omega);have I1:Inv X pins σ H { s with heap:=h' }:=I.kept (t':=s.toks) kp;have I2:Inv X pins σ (upd H h'.objs.size (.tup ys)) { s with heap:=h'.push { cls:=.type "tuple",data:=.seq its.toArray } } :=
   I1.laid (t':=s.toks) (λb o e=>yca _ e) (yja _) (show znj X.prog X.w _ _ _ (.tup ys) from⟨hz,its,r',ybs _ _⟩)
  exact⟨.ref h'.objs.size,_,I2,rfl,q _ (I1.hok.fresh (yja _))⟩
 ·obtain⟨its,r',pl,hz⟩:=I.tuple hq;exact call_tuple_same pl ⟨.ref p,H,I,rfl,q⟩
def tyV (K:yda)(T:String)(x:V)(H:Hp):Prop:=match x with
 | .str _=>T = "str"
 | .int _=>T = "int"
 | .ref p=>(T = "list" ∧ ∃xs,SqL K H p xs)∨(T = "tuple" ∧ ∃o,K.lookup p=some o∧o.cls = .type "tuple" ∧ o.dict=none) ∨
   (T = "dict" ∧ ((∃kvs,H p=some (.dK kvs))∨∃kvs,H p=some (.dT kvs)))∨(T = "set" ∧ Ex2 λS n=>H p=some (.set S n))
 | _=>False
theorem ztpb {pins:List (Addr×Obj)}{σ:St}{H:Hp}{s:Shared}{T:String}{x:V}{v:Value}(I:Inv X pins σ H s)(r:RelV x v)(ty:tyV X.K T x H) :
  s.TypeIs v T∧∀a,v = .ref a->∃ob,s.heap.get? a=some ob∧ob.dict=none:=by
 cases x with
 | str z =>
  obtain⟨t,rfl⟩:=r;cases (show T = "str" from ty);exact⟨ygm s z t,λ_ e=>nomatch e⟩
 | int i =>
  obtain⟨t,rfl⟩:=r;cases (show T = "int" from ty);exact⟨typeIs_int s i t,λ_ e=>nomatch e⟩
 | ref p =>
  cases r
  rcases ty with⟨rfl,xs,hq⟩|⟨rfl,o,hk,hc,hd⟩|⟨rfl,hk⟩|⟨rfl,S,n,hk⟩
  ·obtain⟨its,_,pl,_⟩:=I.list hq;refine⟨pl.isList.typeIs,λa e=>?_⟩;cases e;obtain⟨o,n,e,c,hd,_⟩:=pl;exact⟨o,e,hd⟩
  ·refine⟨⟨o,I.kIn p o hk,hc⟩,λa e=>?_⟩;cases e;exact⟨o,I.kIn _ o hk,hd⟩
  ·have z:∃o,s.heap.get? p=some o∧o.ExactDict:=by
    rcases hk with⟨kvs,hk⟩|⟨kvs,hk⟩
    ·obtain⟨_,_,_,_,o,_,_,e,ex,_⟩:=I.hok p _ hk;exact⟨o,e,ex⟩
    ·obtain⟨_,_,_,_,o,_,_,e,ex,_⟩:=I.hok p _ hk;exact⟨o,e,ex⟩
   obtain⟨o,e,ex⟩:=z;refine⟨⟨o,e,ex.1⟩,λa e2=>?_⟩;cases e2;exact⟨o,e,ex.2.1⟩
  ·obtain⟨o,_,_,_,e,ex,_⟩:=I.hok p _ hk;refine⟨⟨o,e,ex.1⟩,λa e2=>?_⟩;cases e2;exact⟨o,e,ex.2.1⟩
 | _=>exact yzf ty
def tBM (K:yda)(T:String)(r:V->List V->Hp->VK->Prop)(to:TE)(t:TA):TE:=fun σ H Q=>to σ H λx H1=>tyV K T x H1∧t σ H1 λxs H2=>r x xs H2 Q
variable {o e:Expr}{es:List Expr}{to:TE}{t:TA}{name:Str}{apos cpos:Pos}{T id:String}{r:V->List V->Hp->VK->Prop}
theorem zdi (pa:PlainAttrs T)(slot:Slot T name id)(hty:typeOf (.builtin id)=pure (.type "method_descriptor"))(hm:MtR X id r)(ho:PE X o to)(ha:PA X (e::es) t)
  (hbase:yfk o name X.env (eval o X.env)=eval o X.env:=by rfl)
  (hfew:((backTo cpos (yhd (e::es) X.env)).all (λx=>!x.1)&&(ygr cpos (yum [] X.env)).all (λx=>x.1.isSome)
   && decide ((e::es).length+([]:List ydq).length+(if ([]:List ydq).isEmpty then 0 else 1)<30))=true:=by rfl)
  (hline:(apos.endLine==cpos.line)=true:=by rfl) (hs:yhd (e::es) X.env=(false,eval e X.env)::yhd es X.env:=by rfl) (hplain:(backTo cpos (yhd es X.env)).any (·.1)=false:=by rfl) :
  PE X (.Call (.Attribute o name apos) (e::es) [] cpos) (tBM X.K T r to t):=by
 intro pins s σ H Q I h;refine wpAny_Call_method_late hbase hfew hline rfl (thn (ho pins s σ H _ I h) λv s1 ⟨x,H1,I1,r1,ty,q1⟩=>?_);obtain⟨h1,h2⟩:=ztpb I1 r1 ty;refine⟨T,id,pa,slot,hty,h1,h2,?_⟩;have hA:=ha cpos pins s1 σ H1 _ I1 q1;rw[hs] at hA ⊢;refine Calls.callWith_builtin (by show (false||(backTo cpos (yhd es X.env)).any (·.1))=false;rw[hplain]<;>rfl) (Calls.evalArgs_plain ?_);exact thn hA λus s2 ⟨vs,H2,I2,r2,q2⟩=>hm pins s2 σ H2 x vs v us Q I2 r1 r2 q2
end
end L2
namespace L2
open PySem PySem.Spec PyProof.Rows
def MtM (X:Cx)(id:String)(r:V->List V->Hp->VK->Prop):Prop :=
 ∀(pins:List (Addr×Obj)) (s:Shared) (σ:St) (H:Hp) (x:V) (xs:List V) (v:Value) (us:List Value) (Q:VK),Inv X pins σ H s->RelV x v->Vals xs us->r x xs H Q →
  wpAny (model X.prog X.w) X.A (call (.builtin id) (v::us)) (EP X pins σ Q) X.xe s
theorem Vals.one:∀{x:V} {us:List Value},Vals [x] us->∃u,us=[u]∧RelV x u
 | _,_,.cons r .nil=>⟨_,rfl,r⟩
theorem Vals.eraseIdx:∀{xs:List V} {us:List Value} (i:Nat),Vals xs us->Vals (xs.eraseIdx i) (us.eraseIdx i)
 | _,_,_,.nil=>.nil
 | _,_,0,.cons _ t=>t
 | _,_,i+1,.cons r t=>.cons r (Vals.eraseIdx i t)
theorem zbs {α:Type}:∀(l:List α) (i:Nat),(l.eraseIdx i).length≤l.length
 | [],_=>yja _
 | _::_,0=>yhg _
 | _::r,i+1=>Nat.succ_le_succ (zbs r i)
section
variable {X:Cx}{pins:List (Addr×Obj)}{σ:St}{H:Hp}{s:Shared}{l b:Addr}{xs ys zs:List V}
theorem Inv.lset {its its':List Value}{n:Nat}{f:Array Value->Array Value}{t':Nat}(I:Inv X pins σ H s)(hH:H l=some (.lst xs))
  (e:s.heap.get? l=some { cls:=.type "list",data:=.seq its.toArray n }) (hf:f its.toArray=its'.toArray) (hv:Vals ys its') (hz:ys.length≤yza) :
  Inv X pins σ (upd H l (.lst ys)) { s with heap:=s.heap.update l (yre f),toks:=t' }:=by
 have q:=PySem.IsL.update e f;rw[hf] at q;refine I.write (x:=l) (e:=l) (by rw[hH];exact trivial) (.inl rfl) (λb' u hb hu=>(yqc s.heap (yre f) (yqd hb)).trans hu) ⟨_,q⟩ ?_;exact⟨hz,its',_,hv,q⟩
theorem Inv.lnew {its:List Value}{t':Nat}(I:Inv X pins σ H s)(hv:Vals ys its)(hz:ys.length≤yza) :
  Inv X pins σ (upd H s.heap.objs.size (.lst ys)) { s with heap:=s.heap.push { cls:=.type "list",data:=.seq its.toArray },toks:=t' } :=
 I.laid (λ_ _ q=>yca _ q) (yja _) ⟨hz,its,0,hv,yla _ rfl⟩
theorem Inv.fresh (I:Inv X pins σ H s):H s.heap.objs.size=none:=I.hok.fresh (yja _)
theorem Inv.lstM (I:Inv X pins σ H s)(hH:H l=some (.lst xs)):xs.length≤yza∧Ex2 λ(its:List Value) (n:Nat)=>Vals xs its∧xs.length=its.length∧s.heap.get? l=some { cls:=.type "list",data:=.seq its.toArray n }:=by
 obtain⟨z,its,n,r,e⟩:=I.hok l _ hH;exact⟨z,its,n,r,r.length,e⟩
end
section
variable {X:Cx}
def zdob:V->List V->Hp->VK->Prop:=λx vs H Q=>Ex3 λl xs y=>x = .ref l∧vs=[y]∧H l=some (.lst xs)∧xs.length<yza∧Q .non (upd H l (.lst (xs++[y])))
theorem zvh:MtM X "list.append" zdob:=by
 intro pins s σ H x vs v us Q I rx rv h;obtain⟨l,xs,y,rfl,rfl,hH,hz,q⟩:=h;cases rx;obtain⟨u,rfl,ru⟩:=rv.one;obtain⟨z,its,n,r,hl,e⟩:=I.lstM hH;refine yik F.slot_list_append ⟨_,e,rfl⟩ F.entry_list_append (F.args_list_append_2 _ _) (PySem.list_append l its.toArray n u (by rw[yoa];omega)) ⟨e,?_⟩;refine⟨.non,_,I.lset (its':=its++[u]) hH e (by simp) (r.append (.cons ru .nil)) ?_,rfl,q⟩;rw[yfa,yub];omega
def zqqb:V->List V->Hp->VK->Prop:=λx vs H Q=>Ex5 λl xs i k y=>x = .ref l∧vs=[.int i]∧H l=some (.lst xs) ∧ -(2 ^ 63)≤i∧i<2 ^ 63∧seqIndex? i xs.length=some k∧xs[k]?=some y∧Q y (upd H l (.lst (xs.eraseIdx k)))
theorem zdlb:MtM X "list.pop" zqqb:=by
 intro pins s σ H x vs v us Q I rx rv h;obtain⟨l,xs,i,k,y,rfl,rfl,hH,h1,h2,hk,hy,q⟩:=h;cases rx;obtain⟨u,rfl,ru⟩:=rv.one;obtain⟨t,rfl⟩:=ru;obtain⟨z,its,n,r,hl,e⟩:=I.lstM hH;obtain⟨w,hw,rw'⟩:=r.get hy;refine yik F.slot_list_pop ⟨_,e,rfl⟩ F.entry_list_pop (F.args_list_pop_2 _ _)
  (MeetsSeq.list_pop_at l its.toArray n i t k w (fitsIndex_both h1 h2) (by rw[yoa,← hl];exact hk) (by rw[← ydb];exact hw) (by rw[yoa];omega)) ⟨e,?_⟩
 refine⟨y,_,I.lset (its':=its.eraseIdx k) hH e ?_ (r.eraseIdx k) ?_,rw',q⟩
 ·show its.toArray.eraseIdxIfInBounds k=(its.eraseIdx k).toArray;rw[yjj]
 ·have:=zbs xs k;omega
def rCat:R2:=λx y H Q=>Ex4 λl b xs zs=>x = .ref l∧y = .ref b∧H l=some (.lst xs)∧H b=some (.lst zs)∧xs.length+zs.length≤yza∧∀p,H p=none->Q (.ref p) (upd H p (.lst (xs++zs)))
theorem zcy:OpR X (ysh .Add) rCat:=by
 intro pins s σ H x y v u Q I rx ry h;obtain⟨l,b,xs,zs,rfl,rfl,hH,hB,hz,q⟩:=h;cases rx;cases ry;obtain⟨z,its,n,r,hl,e⟩:=I.lstM hH;obtain⟨z2,its2,n2,r2,hl2,e2⟩:=I.lstM hB;refine PySem.P.add_list e e2 ?_ (by rw[yoa,yoa];omega);have ea:its.toArray++its2.toArray=(its++its2).toArray:=by simp
 rw[ea];exact⟨.ref _,_,I.lnew (t':=s.toks) (r.append r2) (by rw[yfa];omega),rfl,q _ I.fresh⟩
end
section
variable {prog:yvb}{w:World}{A:Around}{E:Value->Shared->Prop}{s:Shared}
end
section
variable {X:Cx}
end
end L2
namespace Att
open PySem PySem.W PySem.Calls PyProof.Rows
theorem zds {P:Params}{h:Heap}:∀(ns:List Int) (vs:List Value),WellAll P h vs (ns.map WData.int)->yeh vs ns:=by
 intro ns
 induction ns with
 | nil =>
  intro vs w;rw[yah] at w;cases w;exact .nil
 | cons n ns ih =>
  intro vs w;rw[yob] at w;cases w with
  | cons a b =>
   cases a;exact .cons _ _ (ih _ b)
theorem zrgb {l:OpenLaw}{n:Nat}(hn:l.most=some n){P:Params}{h:Heap}{args:List WData}{vals:List Value}
  (hpre:l.row.toRowW.claim.pre args=true) (hwl:WellAll P h vals args) :
  Ex3 λa vs ns=>vals=[Value.ref a]∧args=[WData.list (ns.map WData.int)]∧h.get? a=some { cls:=.type "list",data:=.seq vs.toArray }∧yeh vs ns∧ns.length≤n:=by
 have hsh:WShape.hasAll [] args [.list .int]=true:=(pre_splitW hpre).1;have hc:l.pre.holds [] { args:=args }=true:=(pre_splitW hpre).2;obtain⟨d,r,rfl,h1,h2⟩:=hasAllW_cons hsh;obtain rfl:=hasAllW_nil h2;obtain⟨xs,rfl,h3⟩:=hasW_list h1;obtain⟨ns,rfl⟩:=items_int h3;have hlen:ns.length≤n:=by
  unfold OpenLaw.pre at hc;have h4:(WTm.not (.lt (.lit (.int (n:Int))) (.len (.arg 0)))).holds [] { args:=[.list (ns.map .int)] }=true:=by
   have h4:=(holds_andW hc).1;rw[hn] at h4;exact h4
  have h5:=condW_of h4 (w_not (w_lt w_lit (w_len_list (w_arg rfl))));rw[yaa] at h5;refine Nat.le_of_not_lt λq=>?_;have q':(n:Int)<((ns.length:Nat):Int):=by omega
  first
   | (rw[decide_eq_true q'] at h5;exact absurd h5 (by decide))
   | (simp at h5;omega)
 cases hwl with
 | cons w1 w2 =>
  cases w2;cases w1 with
  | list ho hall=>exact⟨_,_,ns,rfl,rfl,ho,zds ns _ hall,hlen⟩
theorem zchb (l:OpenLaw)(args:List WData):l.row.toRowW.claim.post args (.bool true) args=true :=
 postW_of (r:=l.row.toRowW) (X:=(true==true))
  (show WShape.has [] (.bool true) .bool=true by first|rfl|decide|simp[WShape.has,WShape.arms,WShape.armsAll])
  (show (WTm.eq .res (.lit (.bool true))).value [] { args:=args,res:=some (.bool true),after:=args }=some (.bool (true==true)) from w_eq_bool (w_res rfl) w_lit) rfl
theorem zacb {l:OpenLaw}{n:Nat}{q:yvb}{loose:List Str}{XP:(Str->Option Value)->Heap->Prop}{YP:World->Heap->Prop}{d:DefRec}
  (hn:l.most=some n) (hdf:d.params.defaults=[])
  (call:∀(w:World) (s₀ s₁:Shared) (mg mb:Str->Option Value) (fa:Addr) (o:Obj) (pm cd doc:Value) (a:Addr) (vs:List Value) (ns:List Int),
   Ground q loose [] XP w s₀ mg mb s₁.heap->YP w s₁.heap →
   s₁.heap.get? fa=some o->o.data = .func (docDef d.name d.params d.body d.scope pm cd doc)->s₁.heap.CodeRec cd d.name->mg d.name=some (.ref fa) →
   s₁.heap.get? a=some { cls:=.type "list",data:=.seq vs.toArray }->yeh vs ns->ns.length≤n->s₁.gens=#[] →
   yfj (model l.prog w) yeq (.call (.ref fa) ⟨[.ref a],[]⟩) (λr s'=>r = .ok (.ret (.bool true))∧OldK s₁.heap s'.heap∧s'.os=s₁.os∧yap s'.gens) s₁) :
  WalkO q loose XP YP l.row.toRowW d [] (λf vs=>ywr f vs):=by
 intro w s₀ s₁ mg mb G Y fa o pm cd doc dV kV ho hd hcd hD hmg hg args vals as hpre hlay hrd hwl hlo;obtain rfl:dV = .none:=Dflts.none hD hdf;obtain rfl:kV = .none:=Dflts.noKw hD;obtain⟨a,vs,ns,rfl,rfl,hobj,hints,hlen⟩:=zrgb hn hpre hwl;refine enter_call (yeg (call w s₀ s₁ mg mb fa o pm cd doc a vs ns G Y ho (fd_plain hd) hcd hmg hobj hints hlen hg) λr s' hq=>?_);obtain⟨rfl,h2,h3,h4⟩:=hq;exact⟨.inl ⟨.bool true,.bool true,[],rfl,λ_=>rfl,.bool true,zchb l _,λ_=>⟨List.Pairwise.nil,λ_ hm=>(nomatch hm)⟩⟩,h2,h3,h4⟩
section
variable {prog:yvb}{w:World}{A:Around}{E:Value->Shared->Prop}{s:Shared}{K:Frag}
end
end Att
namespace L2
open PySem PySem.Spec PyProof.Rows
theorem zcn:∀{vs:List Value} {ns:List Int},yeh vs ns->Vals (ns.map V.int) vs
 | _,_,.nil=>.nil
 | _,_,.cons n t h=>.cons ⟨t,rfl⟩ (zcn h)
def Only (H:Hp):Prop:=∀b,H b=none∨Ex2 λo xs=>H b=some (.frz o (.lst xs))
theorem zllb {P:yvb}{w:World}{K:yda}{mg mb:Str->Option Value}{CX:CXT}{k:Nat}{fa a:Addr}{fd:yxf}{x:Str}{sp:Sp}{s₁:Shared}{vs:List Value}{ns:List Int}
  (KX:K.In s₁.heap) (hns:s₁.heap.Ns ybb mg) (hb:s₁.heap.Ns builtinsNs mb) (hbb:∀x:Str,x ≠ "__name__"->mb x=ygi x) (hlim:s₁.heap.NoLimit) (hg:s₁.gens=#[])
  (ha:s₁.heap.get? a=some { cls:=.type "list",data:=.seq vs.toArray }) (hi:yeh vs ns) (hl:ns.length≤yza) (hr:Room k yeq)
  (F:∀base:Heap,K.In base->base.Ns ybb mg->FnOk P w K mg base CX k fa fd [x] sp) (hbind:∀(s:Shared) (u:Value),ycq s fd ⟨[u],[]⟩ [(x,u)])
  (hsp:∀H:Hp,Only H->SqL K H a (ns.map V.int)->sp [.ref a] H (λv _=>v = .bl true) λ_ _ _=>False)
  (hCX:∀H e s',CX [] H s₁ (λ_ _ _=>False) e s'->False) :
  yfj (model P w) yeq (.call (.ref fa) ⟨[.ref a],[]⟩) (λr s'=>r = .ok (.ret (.bool true))∧OldK s₁.heap s'.heap∧s'.os=s₁.os∧yap s'.gens) s₁:=by
 have rv:=zcn hi;have lenV:=hi.length;have core:∀H:Hp,Only H->SqL K H a (ns.map V.int)->HOk P w H s₁.heap->(∀b,H b≠none->b=a)->(H a≠none->K.lookup a=none) →
   yfj (model P w) yeq (.call (.ref fa) ⟨[.ref a],[]⟩) (λr s'=>r = .ok (.ret (.bool true))∧OldK s₁.heap s'.heap∧s'.os=s₁.os∧yap s'.gens) s₁:=by
  intro H hO hS hok hA hK;have base_of:∀{b:Addr} {o:Obj},s₁.heap.get? b=some o->H b=none->(hidT s₁.heap H).get? b=some o:=λe n=>zqlb e n;have noA:∀{b:Addr} {o:Obj} {es:Array DictEntry} {ep:Nat},s₁.heap.get? b=some o->o.data = .dict es ep->H b=none:=λ{b o es ep} e d=>by
   cases q:H b with
   | none=>rfl
   | some u =>
    have e':b=a:=hA b (by rw[q];simp);subst e';rw[ha] at e;cases e;have d':Data.seq vs.toArray _=Data.dict es ep:=d;cases d'
  have nsK:∀{b:Addr} {m:Str->Option Value},s₁.heap.Ns b m->(hidT s₁.heap H).Ns b m:=λ{b m} ⟨o,es,ep,e,d,r⟩=>⟨o,es,ep,base_of e (noA e d),d,r⟩;have hKb:K.In (hidT s₁.heap H):=λb o e=>base_of (KX b o e) (by
   cases q:H b with
   | none=>rfl
   | some u =>
    have e':b=a:=hA b (by rw[q];simp);subst e';rw[hK (by rw[q];simp)] at e;cases e)
  have hM:Mod K mg (hidT s₁.heap H):=⟨hKb,nsK hns,⟨mb,nsK hb,hbb⟩,let ⟨mc,h1,h2⟩:=hlim;⟨mc,nsK h1,h2⟩⟩;have e0:Env0 P w K mg (hidT s₁.heap H) yeq [] s₁ H:=⟨rfl,hM,λb o e=>zoob e,yqq (ziib _ _),trivial,λb hb=>absurd (show b∈([]:List Addr) from hb) (by simp),hok,.of_eq hg⟩;refine yeg ((F _ hKb (nsK hns)).run yeq [] s₁ H ⟨[.ref a],[]⟩ [.ref a] [.ref a] _ _ hr e0 (hbind s₁ (.ref a)) (.cons rfl .nil) (hsp H hO hS)) λr s' h=>?_;cases r with
  | error e=>exact (hCX H e s' h).elim
  | ok fl =>
   cases fl with
   | next=>exact yzf h
   | brk=>exact yzf h
   | cont=>exact yzf h
   | ret u =>
    obtain⟨v,H',os,bare,un,hok',r',q⟩:=h;have q':v = .bl true:=q;subst q';obtain rfl:u=Value.bool true:=r';refine⟨rfl,OldK.of_keep λb o e=>?_,os,bare⟩;cases q:H b with
    | none=>exact un.keep b o e q (by intro z;exact absurd (show b∈([]:List Addr) from z) (by simp)) (by simp)
    | some u =>
     rcases hO b with z|⟨ob,xs,z⟩
     ·rw[q] at z;cases z
     ·have z2:=un.frzs b ob _ z;obtain⟨e1,_⟩:=hok b _ z;obtain⟨e2,_⟩:=hok' b _ z2;rw[e] at e1;cases e1;exact e2
 cases hk:K.lookup a with
 | some o =>
  have e:=KX a o hk;rw[ha] at e;cases e;refine core (λ_=>none) (λ_=>.inl rfl) (.inr ⟨_,vs.toArray,_,hk,rfl,rfl,rfl,by rw[yoa,lenV];exact hl,by simpa using rv⟩) (λb u z=>by have z':(none:Option HO)=some u:=z;cases z') (λb z=>absurd rfl z) λz=>absurd rfl z
 | none =>
  refine core (λb=>if b=a then some (.frz { cls:=.type "list",data:=.seq vs.toArray } (.lst (ns.map V.int))) else none) (λb=>?_) (.inl (.inr ⟨{ cls:=.type "list",data:=.seq vs.toArray },if_pos rfl⟩)) (λb u z=>?_) (λb z=>?_) λ_=>hk
  ·by_cases hb:b=a
   ·exact .inr ⟨_,_,if_pos hb⟩
   ·exact .inl (if_neg hb)
  ·by_cases hb:b=a
   ·have z':=(if_pos hb).symm.trans z;cases z';subst hb;exact⟨ha,by rw[yaa];exact hl,vs,_,rv,ha⟩
   ·have z':=(if_neg hb).symm.trans z;cases z'
  ·by_cases hb:b=a
   ·exact hb
   ·exact absurd (if_neg hb) z
end L2
namespace L2
open PySem PySem.Spec PyProof.Rows
theorem zfnb {l:yvn}{n k:Nat}{q:yvb}{loose:List Str}{XP:(Str->Option Value)->Heap->Prop}{YP:World->Heap->Prop}{d:DefRec}{K:Params->yda}{CX:World->CXT}{sp:World->Sp}{x:Str}
  (hn:l.most=some n) (hn2:n≤yza) (hdf:d.params.defaults=[]) (hr:Room k yeq)
  (hY:∀(w:World) (h:Heap),YP w h->(K w.params).In h)
  (F:∀(w:World) (mg:Str->Option Value) (fa:Addr) (h:Heap),(K w.params).In h->h.Ns ybb mg->mg d.name=some (.ref fa) →
   ∃fd:yxf,(∀(s:Shared) (u:Value),ycq s fd ⟨[u],[]⟩ [(x,u)]) ∧
    ∀base:Heap,(K w.params).In base->base.Ns ybb mg->FnOk l.prog w (K w.params) mg base (CX w) k fa fd [x] (sp w))
  (hsp:∀(w:World) (H:Hp) (a:Addr) (ns:List Int),ns.length≤n->Only H->SqL (K w.params) H a (ns.map V.int)->sp w [.ref a] H (λv _=>v = .bl true) λ_ _ _=>False)
  (hCX:∀(w:World) (H:Hp) (s:Shared) (e:Value) (s':Shared),CX w [] H s (λ_ _ _=>False) e s'->False) :
  yxr q loose XP YP l.row.toRowW d [] (λf vs=>ywr f vs):=by
 refine Att.zacb hn hdf λw s₀ s₁ mg mb fa o pm cd doc a vs ns G Y ho hd hcd hmg hobj hints hlen hg=>?_;have KX:=hY w _ Y;obtain⟨fd,hb,hF⟩:=F w mg fa _ KX G.T.g hmg;exact zllb KX G.T.g G.T.b G.T.builtins G.T.nolimit hg hobj hints (ykb hlen hn2) hr hF hb (λH hO hS=>hsp w H a ns hlen hO hS) λH e s'=>hCX w H s₁ e s'
end L2
namespace L2
open PySem PySem.Spec PyProof.Rows
def inClass (s:Stmt)(j:Nat):Stmt:=match s with
 | .ClassDef _ _ _ body _ _ _ _ _ _ _=>body.getD j (.Pass ⟨0,0,0,0⟩)
 | _=>.Pass ⟨0,0,0,0⟩
def zjm (s:Stmt):Arguments:=match s with
 | .FunctionDef _ a _ _ _ _ _ _ _ _=>a
 | _=>{ posonlyargs:=[],args:=[],vararg:=none,kwonlyargs:=[],kw_defaults:=[],kwarg:=none,defaults:=[] }
def zxh (s:Stmt):List Stmt:=match s with
 | .FunctionDef _ _ b _ _ _ _ _ _ _=>b
 | _=>[]
def zja (s:Stmt):Scope:=match s with
 | .FunctionDef _ _ _ _ _ _ sc _ _ _=>sc
 | _=>{ kind:=.function,names:=[],isGenerator:=false,isCoroutine:=false }
abbrev CX0:CXT:=λ_ _ _ _ _ _=>False
abbrev E0:XK:=λ_ _ _=>False
theorem zpa {X:Cx}:Passes CX0 X E0:=λ_ _ _ _ _ _ _ h=>h.elim
structure Fun (K:yda)(x qual:Str)(st:Stmt)(f:Addr)(fd:yxf):Prop where
 ex:Ex9 λ(oc:Value) (od:Option Addr) (kV doc pm:Value) (an:Option Addr) (cdv ct:Value) (osl:Array (Option Value)) =>
  fd=yzg x qual (zjm st) (zxh st) (zja st) .none kV doc pm an cdv ct∧K.lookup f=some ⟨oc,od,.func fd,osl⟩∧yxh K cdv qual=true
 kp:ymf K (.ref f)=true
section
variable {P:yvb}{w:World}{K:yda}{mg:Str->Option Value}{base:Heap}
theorem Fun.ok {x qual:Str}{st:Stmt}{f:Addr}{fd:yxf}{N ps:List Str}{k:Nat}{sp:Sp}(F:Fun K x qual st f fd)(S:zxa N ps (zja st))(len:∀vs H Q E,sp vs H Q E->vs.length=ps.length)
  (hbody:∀(cdv:Value) (A:Around) (outer:List Env) (s:Shared) (H:Hp) (vs:List V) (Q:VK) (E:XK),Room k (A.deeper (envOfC qual (zja st) s.heap.objs.size f cdv))->sp vs H Q E →
   ∃t,PSs (cxOf CX0 P w K mg base N qual (zja st) f cdv A outer s H E).nox (zxh st) t∧t { nx:=λ_ H'=>Q .non H',rt:=Q } (start N vs) H):FnOk P w K mg base CX0 (k+1) f fd ps sp:=by
 obtain⟨oc,od,kV,doc,pm,an,cdv,ct,osl,rfl,lk,hcd⟩:=F.ex;refine zytb lk hcd S len λA outer s H vs Q E hr hsp=>?_;obtain⟨t,h,q⟩:=hbody cdv A outer s H vs Q E hr hsp;exact⟨t,h.nox,q⟩
theorem Fun.binds {x qual:Str}{st:Stmt}{f:Addr}{fd:yxf}{ps:List Str}(F:Fun K x qual st f fd)
  (h:∀(kV doc pm:Value) (an:Option Addr) (cdv ct:Value) (us:List Value),us.length=ps.length->bindArgs (yzg x qual (zjm st) (zxh st) (zja st) .none kV doc pm an cdv ct) ⟨us,[]⟩=pure (ps.zip us)):Binds K fd ps []:=by
 obtain⟨oc,od,kV,doc,pm,an,cdv,ct,osl,rfl,lk,hcd⟩:=F.ex;exact .all (h kV doc pm an cdv ct)
theorem zmib {x qual:Str}{st:Stmt}{f:Addr}{oc:Value}{od an:Option Addr}{osl:Array (Option Value)}{kV doc pm cdv ct:Value}(l:K.lookup f=some ⟨oc,od,.func (yzg x qual (zjm st) (zxh st) (zja st) .none kV doc pm an cdv ct),osl⟩)
  (c:yxh K cdv qual=true) (k:ymf K (.ref f)=true):Fun K x qual st f (yzg x qual (zjm st) (zxh st) (zja st) .none kV doc pm an cdv ct):=⟨⟨oc,od,kV,doc,pm,an,cdv,ct,osl,rfl,l,c⟩,k⟩
end
theorem zle {n:Nat}(h:n≤1000):n<yza:=Nat.lt_of_le_of_lt h (by decide)
section
variable {X:Cx}
theorem pv (i:Nat){x:Str}{pos:Pos}(hN:X.N[i]?=some x:=by rfl)(hv:Vis X.env.scope x:=by first|exact Or.inl rfl|exact Or.inr (Or.inl rfl)|exact Or.inr (Or.inr rfl))(hd:(x==("__debug__":Str))=false:=by decide)
  (hcd:(x==("__classdict__":Str))=false:=by decide):PE X (.Name x pos) (tVar i):=zuqb hN hv hd hcd
end
theorem iteF {A B:Prop}(h:B):if false=true then A else B:=by
 rw[if_neg ygb];exact h
theorem iteT {A B:Prop}(h:A):if true=true then A else B:=by
 rw[if_pos rfl];exact h
theorem ite2 {c A B:Prop}[Decidable c](h1:c->A)(h2:¬ c->B):if c then A else B:=by
 by_cases h:c
 ·rw[if_pos h];exact h1 h
 ·rw[if_neg h];exact h2 h
def Same (H H':Hp):Prop:=∀b o,H b=some o->H' b=some o
theorem Same.refl (H:Hp):Same H H:=λ_ _ h=>h
theorem Same.trans {H H1 H2:Hp}(a:Same H H1)(b:Same H1 H2):Same H H2:=λc o h=>b c o (a c o h)
end L2
namespace L2
open PySem PySem.Spec PyProof.Rows
def clGo (cells:List (Str×Addr)):List (Str×yfd)->List (Str×Addr)->List (Str×Addr)
 | [],cs=>cs
 | (n,k)::r,cs=>clGo cells r (if k == .free then (match cells.lookup n with|some c=>(n,c)::cs|none=>cs) else cs)
def clOf (sc:Scope)(cells:List (Str×Addr)):List (Str×Addr):=clGo cells sc.names []
theorem zpu {sc:Scope}{env:Env}(h:∀y∈sc.names,y.2 = .free->∃c,env.cells.lookup y.1=some c):closureFor sc env=pure (clOf sc env.cells):=by
 have go:∀(l:List (Str×yfd)) (cs:List (Str×Addr)),(∀y∈l,y.2 = .free->∃c,env.cells.lookup y.1=some c) →
   (forIn l cs (λ(x:Str×yfd) (r:List (Str×Addr))=>(match x with|(name,kind)=>if kind==yfd.free then (do let c ← cellOf env name;pure (ForInStep.yield ((name,c)::r))) else pure (ForInStep.yield r):Sem (ForInStep (List (Str×Addr))))))=pure (clGo env.cells l cs):=by
  intro l
  induction l with
  | nil=>intro cs _;rfl
  | cons y r ih =>
   intro cs h;obtain⟨n,k⟩:=y;have hr:∀y∈r,y.2 = .free->∃c,env.cells.lookup y.1=some c:=λy hy=>h y (ysa _ hy);rw[List.forIn_cons]
   by_cases hk:k = .free
   ·subst hk;obtain⟨c,e⟩:=h (n,.free) yqa rfl;have e':env.cells.lookup n=some c:=e;simp only[beq_self_eq_true,if_true,cellOf,e',pure_bind,clGo];exact ih _ hr
   ·have hb:(k==yfd.free)=false:=by simpa using hk
    simp only[hb,ypi,if_false,pure_bind,clGo];exact ih _ hr
 unfold closureFor clOf;refine Eq.trans (bind_pure _) ?_;exact go sc.names [] h
theorem zoq {cells:List (Str×Addr)}:∀(l:List (Str×yfd)) (cs:List (Str×Addr)),(∀x c,cs.lookup x=some c->cells.lookup x=some c)->∀x c,(clGo cells l cs).lookup x=some c->cells.lookup x=some c
 | [],_,h,x,c,e=>h x c e
 | (n,k)::r,cs,h,x,c,e=>by
  refine zoq r _ (λy d z=>?_) x c e
  by_cases hk:(k==yfd.free)=true
  ·rw[if_pos hk] at z;cases q:cells.lookup n with
   | none=>rw[q] at z;exact h y d z
   | some a =>
    rw[q] at z;have z':yqe y ((n,a)::cs)=some d:=z;rw[yef] at z';cases hy:y==n with
    | true =>
     rw[hy] at z';have ey:y=n:=(by simpa using hy);rw[ey,q];exact z'
    | false =>
     rw[hy] at z';exact h y d z'
  ·rw[if_neg hk] at z;exact h y d z
theorem zbeb {cells:List (Str×Addr)}:∀(l:List (Str×yfd)) (cs:List (Str×Addr)) (x:Str),((x,yfd.free)∈l∧(∃c,cells.lookup x=some c))∨(∃c,cs.lookup x=some c)->∃c,(clGo cells l cs).lookup x=some c
 | [],cs,x,h=>by
  rcases h with⟨h,_⟩|h
  ·cases h
  ·exact h
 | (n,k)::r,cs,x,h=>by
  refine zbeb r _ x ?_;have put:(∃c,cs.lookup x=some c)->∃c,(if (k==yfd.free)=true then (match cells.lookup n with|some c=>(n,c)::cs|none=>cs) else cs).lookup x=some c:=λ⟨c,e⟩=>by
   by_cases hk:(k==yfd.free)=true
   ·rw[if_pos hk];cases q:cells.lookup n with
    | none=>exact⟨c,e⟩
    | some a =>
     show ∃c,yqe x ((n,a)::cs)=some c
     rw[yef];cases hy:x==n with
     | true=>exact⟨a,rfl⟩
     | false=>exact⟨c,e⟩
   ·rw[if_neg hk];exact⟨c,e⟩
  rcases h with⟨h,c,e⟩|h
  ·rcases yma.mp h with z|z
   ·injection z with z1 z2
    subst z1;subst z2;refine .inr ⟨c,?_⟩;show yqe x (match cells.lookup x with|some c=>(x,c)::cs|none=>cs)=some c
    rw[e];show yqe x ((x,c)::cs)=some c
    rw[yef,beq_self_eq_true]
   ·exact .inl ⟨z,c,e⟩
  ·exact .inr (put h)
theorem zsp {env:Env}:∀{l:List (Str×yfd)} {x:Str},(∀y∈l,y.2≠yfd.cell) →
  ((l.map λ(n,k)=>if (k==yfd.free&&env.scope.kind == .function&&env.kindOf n==some .cell) then (n,yfd.cell) else (n,k)).lookup x=some .cell ∨
   (l.map λ(n,k)=>if (k==yfd.free&&env.scope.kind == .function&&env.kindOf n==some .cell) then (n,yfd.cell) else (n,k)).lookup x=some .free)->(x,yfd.free)∈l
 | [],x,_,h=>by rcases h with h|h<;>simp at h
 | (n,k)::r,x,hc,h=>by
  rw[yob] at h;have nk:k≠yfd.cell:=hc (n,k) yqa
  by_cases hx:x=n
  ·subst hx;have kf:k = .free:=by
    by_cases q:(k==yfd.free&&env.scope.kind == .function&&env.kindOf x==some .cell)=true
    ·rw[yhc,yhc] at q
     simpa using q.1.1
    ·have e:(match (x,k) with|(n,k)=>if (k==yfd.free&&env.scope.kind == .function&&env.kindOf n==some .cell)=true then (n,yfd.cell) else (n,k))=(x,k):=if_neg q;rw[e,yef,beq_self_eq_true] at h
     rcases h with h|h
     ·exact absurd (yvc h) nk
     ·exact yvc h
   subst kf;exact yqa
  ·refine ysa _ (zsp (env:=env) (λy hy=>hc y (ysa _ hy)) ?_);have hb:(x==n)=false:=by simpa using hx
   by_cases q:(k==yfd.free&&env.scope.kind == .function&&env.kindOf n==some .cell)=true
   ·have e:(match (n,k) with|(n,k)=>if (k==yfd.free&&env.scope.kind == .function&&env.kindOf n==some .cell)=true then (n,yfd.cell) else (n,k))=(n,yfd.cell):=if_pos q;rw[e,yef,hb] at h;exact h
   ·have e:(match (n,k) with|(n,k)=>if (k==yfd.free&&env.scope.kind == .function&&env.kindOf n==some .cell)=true then (n,yfd.cell) else (n,k))=(n,k):=if_neg q;rw[e,yef,hb] at h;exact h
def blk (X:Cx)(N':List Str)(sc:Scope)(fp:List Addr)(s:Shared)(H:Hp)(C:Addr):Cx where
 prog:=X.prog
 w:=X.w
 K:=X.K
 mg:=X.mg
 base:=X.base
 A:=X.A
 N:=N'
 s₀:=s
 H₀:=H
 env:=compEnvC sc (clOf sc X.env.cells) C X.env
 outer:=X.stack
 stack:=X.stack
 ex:=fp
 fn:=λ_=>false
 calm:=X.calm
 pn:=[]
 xe:=λ_ _=>False
inductive Caps (X:Cx)(sc:Scope):List Str->List Nat->Prop where
 | nil:Caps X sc [] []
 | cons {x:Str} {j:Nat} {cap:List Str} {js:List Nat} (hj:X.N[j]?=some x) (hk:X.env.kindOf x=some .cell∨X.env.kindOf x=some .free)
   (hr:(yfq sc X.env).names.lookup x=some .cell∨(yfq sc X.env).names.lookup x=some .free):Caps X sc cap js->Caps X sc (x::cap) (j::js)
structure znb (X:Cx)(sc:Scope):Prop where
 kind:sc.kind = .function
 cell:∀y∈sc.names,y.2 ≠ .cell
 names:∀y∈sc.names,y.2 = .local->sc.names.lookup y.1=some .local
 free:∀y∈sc.names,y.2 = .free->X.env.kindOf y.1=some .cell∨X.env.kindOf y.1=some .free
def zqsb (sc:Scope)(nm:List (Str×yfd)):Bool:=sc.names.all λy=>y.2 != .cell&&(y.2 != .local||sc.names.lookup y.1==some .local)&&(y.2 != .free||(nm.lookup y.1==some .cell||nm.lookup y.1==some .free))
theorem znb.chk {X:Cx}{sc:Scope}(hk:sc.kind = .function)(h:zqsb sc X.env.scope.names=true):znb X sc:=by
 have a:=ybg.mp h;refine⟨hk,λy hy e=>?_,λy hy e=>?_,λy hy e=>?_⟩
 ·have q:=a y hy;rw[e] at q;simp at q
 ·have q:=a y hy;rw[e] at q
  simpa using q
 ·have q:=a y hy;rw[e] at q;have q':X.env.scope.names.lookup y.1=some .cell∨X.env.scope.names.lookup y.1=some .free:=by simpa using q
  exact q'
def zvf (n:Nat)(js:List Nat)(σ:St):St:=ypb n none++js.map λj=>(σ[j]?).join
theorem Caps.len {X:Cx}{sc:Scope}:∀{cap:List Str} {js:List Nat},Caps X sc cap js->cap.length=js.length
 | _,_,.nil=>rfl
 | _,_,.cons _ _ _ c=>by rw[yka,yka,c.len]
theorem Caps.get {X:Cx}{sc:Scope}:∀{cap:List Str} {js:List Nat},Caps X sc cap js->∀{i:Nat} {x:Str},cap[i]?=some x →
  ∃j,js[i]?=some j∧X.N[j]?=some x∧(X.env.kindOf x=some .cell∨X.env.kindOf x=some .free)∧((yfq sc X.env).names.lookup x=some .cell∨(yfq sc X.env).names.lookup x=some .free)
 | _,_,.nil,i,x,e=>by simp at e
 | _,_,.cons hj hk hr c,0,x,e=>by
  rw[yyd] at e;cases e;exact⟨_,rfl,hj,hk,hr⟩
 | _,_,.cons hj hk hr c,i+1,x,e=>by
  rw[yrb] at e;obtain⟨j,h1,h2⟩:=c.get e;exact⟨j,by rw[yrb];exact h1,h2⟩
theorem zljb {X:Cx}{sc:Scope}{own cap:List Str}{js:List Nat}{σ:St}(C:Caps X sc cap js):(zvf own.length js σ).length=(own++cap).length:=by
 unfold zvf;rw[yfa,ytd,yaa,yfa,C.len]
theorem zoz {n:Nat}{js:List Nat}{σ:St}{i:Nat}{v:V}(e:(zvf n js σ)[i]?=some (some v)):n≤i∧∃j,js[i-n]?=some j∧σ[j]?=some (some v):=by
 unfold zvf at e
 by_cases h:i<n
 ·rw[ywb (by simpa using h),yoi,if_pos h] at e;cases e
 ·refine⟨by omega,?_⟩;rw[yab (by rw[ytd];omega),ytd,yna] at e;cases q:js[i-n]? with
  | none=>rw[q] at e;cases e
  | some j =>
   rw[q] at e;have e':(σ[j]?).join=some v:=yvc e;refine⟨j,rfl,?_⟩;cases z:σ[j]? with
   | none=>rw[z] at e';cases e'
   | some o =>
    rw[z] at e';have e2:o=some v:=e';rw[e2]
theorem zru {n:Nat}{js:List Nat}{σ σ2:St}(hd:σ2.drop n=(zvf n js σ).drop n){i:Nat}{v:V}(e:(zvf n js σ)[i]?=some (some v)):σ2[i]?=some (some v):=by
 have h:=(zoz e).1;have q:(σ2.drop n)[i-n]?=((zvf n js σ).drop n)[i-n]?:=by rw[hd]
 rw[ybf,ybf,show n+(i-n)=i by omega] at q;rw[q];exact e
def PTs (X:Cx)(ifs:List Expr)(t:TT):Prop :=
 ∀(pins:List (Addr×Obj)) (s:Shared) (σ:St) (H:Hp) (Q:Bool->Hp->Prop),Inv X pins σ H s->t σ H Q →
  wpAny (model X.prog X.w) X.A (forIn ifs true λc r=>if r=true then do let ok ← isTrue c X.env (eval c X.env);pure (ForInStep.yield ok) else pure (ForInStep.yield r)) (TP X pins σ Q) X.xe s
def zvpb:TT:=λ_ H Q=>Q true H
theorem zzc {X:Cx}:PTs X [] zvpb:=λ_ _ _ H _ I h=>wpAny_tests_nil ⟨H,I,h⟩
theorem zio {X:Cx}{c:Expr}{t:TT}(hc:PT X c t):PTs X [c] t:=λpins s σ H Q I h=>wpAny_tests_one (hc pins s σ H Q I h)
theorem zjz {prog:yvb}{w:World}{A:Around}{R:Result->Shared->Prop}{s:Shared}{elt tg iter:Expr}{ifs:List Expr}{scope:Scope}{pos:Pos}{it acc:Value}{env:Env}(I:Nat->Shared->Prop)
  (turn:∀n s,I n s->wpAny (model prog w) A (pyNext it) (λr s₁=>match r with
   | none=>R (.ok .next) s₁
   | some v=>wpAny (model prog w) A (ylk tg it v) (λ_ s₀=>wpAny (model prog w) A (assign tg env v) (λ_ s₂ =>
     wpAny (model prog w) A (forIn ifs true λc r=>if r=true then do let ok ← isTrue c env (eval c env);pure (ForInStep.yield ok) else pure (ForInStep.yield r)) (λok s₃ =>
      if ok=true then wpAny (model prog w) A (eval elt env) (λx s₄ =>
       wpAny (model prog w) A (call (.builtin "list.append") [acc,x]) (λ_ s₅=>∃m,m<n∧I m s₅) (ykr (model prog w) A env λe s'=>R (.error e) s') s₄) (ykr (model prog w) A env λe s'=>R (.error e) s') s₃
      else ∃m,m<n∧I m s₃) (ykr (model prog w) A env λe s'=>R (.error e) s') s₂) (ykr (model prog w) A env λe s'=>R (.error e) s') s₀) (ykr (model prog w) A env λe s'=>R (.error e) s') s₁)
    (ykr (model prog w) A env λe s'=>R (.error e) s') s)
  (n:Nat) (h:I n s) :
  yfj (model prog w) A (.compLoop (.ListComp elt [⟨tg,iter,ifs,0⟩] scope pos) 0 it acc env) R s:=by
 refine codeAny_loop rfl I (λn s hI=>?_) n h;show wpAny _ A ((compTurn (.ListComp elt [⟨tg,iter,ifs,0⟩] scope pos) 0 it acc env).onRaise (λx=>do noteFrame x env;theTreesLotGoes x)) _ _ s
 refine wpAny_noted ?_;rw[compTurn_list];refine yba (yjp (yba (ype (turn n s hI) (λr s₁ h₁=>?_) λ_ _ h'=>h')));cases r with
 | none=>exact yea h₁
 | some v =>
  refine yba (ype h₁ (λ_ s₀ h₀=>?_) λ_ _ h'=>h');refine yba (ype h₀ (λ_ s₂ h₂=>yba (ype h₂ (λok s₃ h₃=>?_) λ_ _ h'=>h')) λ_ _ h'=>h');cases ok with
  | false=>exact yea ⟨rfl,h₃⟩
  | true =>
   exact yba (yba (ype h₃ (λx s₄ h₄=>yba (ype h₄ (λ_ s₅ h₅=>yea (yea ⟨rfl,h₅⟩)) λ_ _ h'=>h')) λ_ _ h'=>h'))
def zscb (J:It)(H1:Hp)(g:TG)(tt:TT)(te:TE)(n:Nat)(js:List Nat)(σ:St)(Q:VK):Prop:=∃W:Nat->Nat->List V->Hp->Prop,(∃m,W 0 m [] H1)∧∀i m ys H,W i m ys H →
 (J.stop i H∧ys.length≤yza∧∀p,H p=none->Q (.ref p) (upd H p (.lst ys))) ∨
 (J.go i H∧ys.length≤yza∧∃N:List V->Hp->Prop,(∀ys' H',N ys' H'->∃m',m'<m∧W (i+1) m' ys' H')∧∀x H',J.yld i H x H'->g x (zvf n js σ) H' fun σ2 H2=>σ2.drop n=(zvf n js σ).drop n∧tt σ2 H2 λb H3 =>
  if b=true then te σ2 H3 λy H4=>N (ys++[y]) H4 else N ys H3)
def zzpb (wi:TI)(g:TG)(tt:TT)(te:TE)(n:Nat)(js:List Nat):TE:=fun σ H Q=>wi σ H λJ H1=>zscb J H1 g tt te n js σ Q
section
variable {X:Cx}
theorem Vals.snoc {xs:List V}{us:List Value}{x:V}{u:Value}(r:Vals xs us)(q:RelV x u):Vals (xs++[x]) (us++[u]):=r.append (.cons q .nil)
theorem zijb {pins:List (Addr×Obj)}{σ:St}{H:Hp}{s s3:Shared}{sc:Scope}{own cap:List Str}{js:List Nat}{fp:List Addr}{C:Addr}{tn:Nat->Heap->Prop}{h₁:Heap}{tk:Nat}{m:Str->Option Value}(I:Inv X pins σ H s)(S:znb X sc)(cp:Caps X sc cap js)
  (hob:∀b∈fp,∃o,s.heap.get? b=some o∧∀v,o.data ≠ .cell v) (hf:∀b∈fp,FpOk X pins H b) (hC:s.heap.objs.size≤C) (hn:h₁.Ns C m) (old:∀b o,s.heap.get? b=some o->h₁.get? b=some o) :
  Inv (blk X (own++cap) sc fp s H C) [] (zvf own.length js σ) H { s with heap:=h₁,toks:=tk }:=by
 have sub:∀x c,(clOf sc X.env.cells).lookup x=some c->X.env.cells.lookup x=some c:=zoq sc.names [] (λx c e=>by simp at e);have has:∀x,((yfq sc X.env).names.lookup x=some .cell∨(yfq sc X.env).names.lookup x=some .free)->∃c,(clOf sc X.env.cells).lookup x=some c:=λx hx=>by
  have hm:=zsp (env:=X.env) (l:=sc.names) (x:=x) S.cell hx;exact zbeb sc.names [] x (.inl ⟨hm,I.ok.has x (S.free _ hm rfl)⟩)
 refine⟨⟨I.ok.mod,S.kind,I.ok.glob,I.ok.blt,hC,λx y c e1 e2=>I.ok.inj x y c (sub x c e1) (sub y c e2),has,(λx c e=>by cases e),I.ok.hd,I.ok.frames,.inl rfl,λb hb=>?_,I.bs,ykb I.ok.bsz I.sz,λb o e hb=>?_,λb hb z=>?_,I.stack,I.zggb⟩,
  rfl,I.bare,Un.kept old,⟨m,hn,λi x v h1 h2 h3=>?_⟩,λx c e=>?_,I.hok.fresh hC,λx c e=>I.freeC x c (sub x c e),λp hp=>absurd (show p∈([]:List (Addr×Obj)) from hp) (by simp),I.hok.kept old,zljb cp⟩
 ·obtain⟨o,e,_⟩:=hob b hb;refine⟨yya (yva (yra e) hC),λx c e=>?_⟩;exact (hf b hb).2.2.2.2.1 x c (sub x c e)
 ·obtain⟨_,_,_,h4,_,_⟩:=hf b hb
  rcases h4 with z|z
  ·exact I.ok.noex b o e z
  ·exact absurd (yva (yra e) (ykb I.ok.bsz z)) (yfe _)
 ·obtain⟨_,h2,h3,_⟩:=hf b hb
  rcases yma.mp (I.zwcb b z) with q|q
  ·exact h2 q
  ·exact h3 q
 ·obtain⟨hni,j,hj,hv⟩:=zoz h2;have h1':(own++cap)[i]?=some x:=h1;rw[yab hni] at h1';obtain⟨j',e1,e2,e3,e4⟩:=cp.get h1';rw[hj] at e1;cases e1;obtain⟨m0,hn0,hl0⟩:=I.loc;have vis:Vis X.env.scope x:=.inr e3;obtain⟨u,ru,lk⟩:=hl0 j x v e2 hv vis;refine⟨u,ru,?_⟩
  rcases lk with⟨k,_⟩|⟨k,c,ec,hc⟩
  ·exfalso
   rcases e3 with q|q
   ·rw[q] at k;cases k
   ·rw[q] at k;cases k
  ·obtain⟨c',ec'⟩:=has x e4;have q:=sub x c' ec';rw[ec] at q;cases q;exact .inr ⟨e4,c,ec',hc.keeps old⟩
 ·obtain⟨v,z⟩:=I.cell x c (sub x c e);exact⟨v,z.keeps old⟩
theorem zkjb {pins pn:List (Addr×Obj)}{σ σ':St}{H H':Hp}{s s':Shared}{sc:Scope}{N':List Str}{fp:List Addr}{C D:Addr}{h':Heap}{ys:List V}{its:List Value}{nn:Nat}(I:Inv X pins σ H s)(J:Inv (blk X N' sc fp s H C) pn σ' H' s')
  (hf:∀b∈fp,FpOk X pins H b) (hC:s.heap.objs.size≤C) (hD:s.heap.objs.size≤D) (hDC:D≠C) (hn:H' D=none) (ho:s'.heap.get? D=some { cls:=.type "list",data:=.seq its.toArray nn }) (hz:ys.length≤yza) (rv:Vals ys its)
  (hs:yrd C s'.heap h'):Inv X pins σ (upd H' D (.lst ys)) { s' with heap:=h' }:=by
 have u:Un (frs X.stack) fp H H' s.heap s'.heap:=J.base;have low:∀b o,s.heap.get? b=some o->b≠C∧b≠D:=λb o e=>⟨yya (yva (yra e) hC),yya (yva (yra e) hD)⟩;have kp:∀b o,b≠C->s'.heap.get? b=some o->h'.get? b=some o:=λb o hb e=>(hs.2 b hb).trans e;have u2:Un (frs X.stack) fp H (upd H' D (.lst ys)) s.heap h':=by
  refine⟨λb o e n hb hx=>kp b o (low b o e).1 (u.keep b o e n hb hx),λb o e n hb hx=>?_,λb o e n hx=>?_,λb o e hx=>?_,λb xs e=>?_,λb o xs e=>?_,λb ps e=>?_⟩
  ·obtain⟨sl,q⟩:=u.slot b o e n hb hx;exact⟨sl,kp b _ (low b o e).1 q⟩
  ·rw[zlb (low b o e).2];exact u.free b o e n hx
  ·obtain⟨o',q⟩:=u.there b o e hx;exact⟨o',kp b _ (low b o e).1 q⟩
  ·have q:=u.tups b xs e;rw[zlb (zka q hn)];exact q
  ·have q:=u.frzs b o xs e;rw[zlb (zka q hn)];exact q
  ·obtain⟨more,q⟩:=u.tbls b ps e;exact⟨more,by rw[zlb (zka q hn)];exact q⟩
 have nC:H' C=none:=J.free;have hok:HOk X.prog X.w (upd H' D (.lst ys)) h':=λb o e=>by
  by_cases hb:b=D
  ·subst hb;rw[zia] at e;cases e;exact⟨hz,its,nn,rv,kp b _ hDC ho⟩
  ·rw[zlb hb] at e;refine (J.hok b o e).stay (λc v hc q=>kp c v ?_ q) (λc q=>?_) λc xs q=>?_
   ·rintro rfl
    rcases hc with z|z
    ·rw[← z,nC] at e;cases e
    ·rw[nC] at z;cases z
   ·rw[zlb (zka q hn)];exact q
   ·rw[zlb (zka q hn)];exact q
 have os:=J.os;have bare:=J.bare;obtain⟨hh,g,d,t,os'⟩:=s';obtain rfl:os'=s.os:=os;have z:=I.call (h':=h') (g':=g) (d':=d) (t':=t) (ch:=fp) u2 hok bare λb hb=>⟨(hf b hb).2.2.2.1,(hf b hb).2.1,(hf b hb).2.2.2.2.1,(hf b hb).2.2.2.2.2⟩;exact z
theorem zjjb {elt iter tg:Expr}{ifs:List Expr}{sc:Scope}{pos:Pos}{own cap:List Str}{js:List Nat}{g:TG}{tt:TT}{te:TE}{Qf:List V->Hp->Prop}{RR:Value->Addr->Result->Shared->Prop}{E:Value->Shared->Prop}
  {pins:List (Addr×Obj)} {σ:St} {H2:Hp} {s2:Shared} {it:Addr} {fp:List Addr} {tn:Nat->Heap->Prop} {J:It} {W:Nat->Nat->List V->Hp->Prop} {m0:Nat}
  (hc:X.calm=true) (S:znb X sc) (cp:Caps X sc cap js)
  (hg:∀fp s H C,PG (blk X (own++cap) sc fp s H C) tg g) (ht:∀fp s H C,PTs (blk X (own++cap) sc fp s H C) ifs tt) (he:∀fp s H C,PE (blk X (own++cap) sc fp s H C) elt te)
  (I2:Inv X pins σ H2 s2) (T:Turn X.prog X.w X.K tg J fp it tn) (st2:tn 0 s2.heap) (f2:∀b∈fp,FpOk X pins H2 b) (w0:W 0 m0 [] H2)
  (turn:∀i m ys H,W i m ys H->(J.stop i H∧ys.length≤yza∧Qf ys H) ∨
   (J.go i H∧ys.length≤yza∧∃N:List V->Hp->Prop,(∀ys' H',N ys' H'->∃m',m'<m∧W (i+1) m' ys' H')∧∀x H',J.yld i H x H'->g x (zvf own.length js σ) H' fun σ2 H2=>σ2.drop own.length=(zvf own.length js σ).drop own.length∧tt σ2 H2 λb H3 =>
    if b=true then te σ2 H3 λy H4=>N (ys++[y]) H4 else N ys H3))
  (hRR:∀D C H4 s4 pn ys its nn,s2.heap.objs.size≤D->s2.heap.objs.size≤C->D≠C->Inv (blk X (own++cap) sc fp s2 H2 C) pn (zvf own.length js σ) H4 s4->H4 D=none->s4.heap.get? D=some { cls:=.type "list",data:=.seq its.toArray nn } →
   ys.length≤yza->Vals ys its->Qf ys H4->RR (.ref D) C (.ok .next) s4) :
  wpAny (model X.prog X.w) X.A (newList []) (λacc s₃=>wpAny (model X.prog X.w) X.A (newFunctionEnv sc X.env.globals (clOf sc X.env.cells) [] X.env.qual none .none (some X.env)) (λcenv s₄ =>
   yfj (model X.prog X.w) X.A (.compStart (.ListComp elt [⟨tg,iter,ifs,0⟩] sc pos) 0 (.ref it) acc { cenv with scope:=yfq sc X.env }) (RR acc cenv.locals) s₄) E s₃) E s2:=by
 refine ymd (wpAny_newFunctionEnv S.cell (by intro y hy;simp at hy) (λh₁ hns₁ hsb₁=>?_) S.kind);dsimp only at hns₁ hsb₁ ⊢;generalize hH2:s2.heap.push { cls:=.type "list",dict:=none,data:=.seq ([]:List Value).toArray }=HH at hns₁ hsb₁ ⊢;generalize hDd:s2.heap.objs.size=D at hns₁ hsb₁ ⊢;generalize hCc:HH.objs.size=C at hns₁ hsb₁ ⊢;have hC:C=D+1:=by rw[← hCc,← hH2,ykd,hDd]
 have hDC:D≠C:=by rw[hC];exact yya (ydf _)
 have hCle:s2.heap.objs.size≤C:=by rw[hDd,hC];exact yhg _
 have hDle:s2.heap.objs.size≤D:=yqq hDd;have below:∀b,b<s2.heap.objs.size->b≠C∧b≠D:=λb hb=>⟨yya (yva hb hCle),yya (yva hb hDle)⟩;have old:∀b o,s2.heap.get? b=some o->h₁.get? b=some o:=λb o e=>hsb₁.extBut b o (below b (yra e)).1 (yca _ (hH2▸yca _ e));have q0:HH.get? D=some { cls:=.type "list",data:=.seq ([]:List Value).toArray 0 }:=by
  rw[← hH2,← hDd];exact yla _ rfl
 have hacc:h₁.get? D=some { cls:=.type "list",data:=.seq ([]:List Value).toArray 0 }:=hsb₁.extBut _ _ hDC (yca _ q0);have fpo:=T.obj 0 _ st2;have fplt:∀b∈fp,b<s2.heap.objs.size:=λb hb=>by obtain⟨o,e,_⟩:=fpo b hb;exact yra e
 have st3:tn 0 h₁:=T.keep 0 _ _ st2 λb hb o e=>old b o e;have I3:∀tk,Inv (blk X (own++cap) sc fp s2 H2 C) [] (zvf own.length js σ) H2 { s2 with heap:=h₁,toks:=tk }:=λtk=>zijb (s3:=s2) (tn:=tn) I2 S cp fpo f2 hCle hns₁ old;have stkD:∀b,s2.heap.objs.size≤b->b∉frs X.stack:=λb hb hm=>by
  obtain⟨_,o,e,_⟩:=I2.stack.mem hm;exact absurd (yva (yra e) hb) (yfe _)
 have nD:H2 D=none:=I2.hok.fresh hDle;have stat:∀{pn:List (Addr×Obj)} {H':Hp},(∀p∈pn,p.1=D)->(∀b∈fp,H' b=none)->∀b∈fp,FpOk (blk X (own++cap) sc fp s2 H2 C) pn H' b:=λ{pn H'} hp hn b hb=>by
  refine⟨hn b hb,(below b (fplt b hb)).1,λz=>?_,.inl hb,λx c e=>?_,λp hp' z=>?_⟩
  ·obtain⟨_,h2,h3,_⟩:=f2 b hb
   rcases yma.mp (I2.zwcb b z) with q|q
   ·exact h2 q
   ·exact h3 q
  ·exact (f2 b hb).2.2.2.2.1 x c (zoq sc.names [] (λx c e=>by simp at e) x c e)
  ·have e:=hp p (by simpa [blk] using hp');rw[e] at z;exact (below b (fplt b hb)).2 z.symm
 have pinD:∀{H':Hp} {s':Shared} {o:Obj},Inv (blk X (own++cap) sc fp s2 H2 C) [] (zvf own.length js σ) H' s'->H' D=none->s'.heap.get? D=some o->(∀v,o.data ≠ .cell v)->Inv (blk X (own++cap) sc fp s2 H2 C) [(D,o)] (zvf own.length js σ) H' s':=λ{H' s' o} I' n e d =>
  I'.znr λp hp=>by
   have q:p=(D,o):=(by simpa using hp);subst q;exact⟨e,n,hDC,stkD D hDle,d⟩
 have loop:∀s₃:Shared,s₃={ s2 with heap:=h₁,toks:=s2.toks+([]:List (Str×Value)).length } →
   yfj (model X.prog X.w) X.A (.compLoop (.ListComp elt [⟨tg,iter,ifs,0⟩] sc pos) 0 (.ref it) (.ref D) (compEnvC sc (clOf sc X.env.cells) C X.env)) (RR (.ref D) C) s₃:=by
  rintro s₃ rfl;refine zjz (λk s'=>Ex5 λi ys its nn H'=>Inv (blk X (own++cap) sc fp s2 H2 C) [] (zvf own.length js σ) H' s'∧tn i s'.heap∧(∀b∈fp,H' b=none)∧H' D=none ∧
   s'.heap.get? D=some { cls:=.type "list",data:=.seq its.toArray nn }∧Vals ys its∧W i k ys H') ?_ m0 ⟨0,[],[],0,H2,I3 _,st3,λb hb=>(f2 b hb).1,nD,hacc,.nil,w0⟩
  rintro k s3 ⟨i,ys,its,nn,H3,I3,st3,fr3,d3,o3,rv3,w3⟩;have I3':=pinD I3 d3 o3 (λv z=>by cases z);have only:∀p∈[(D,({ cls:=.type "list",data:=.seq its.toArray nn }:Obj))],p.1=D:=λp hp=>by
   rw[yia.mp hp]
  rcases turn i k ys H3 w3 with⟨stop,hz,qn⟩|⟨go,hz,N,hN,step⟩
  ·refine ype (T.done (blk X (own++cap) sc fp s2 H2 C) rfl rfl rfl hc i _ s3 _ H3 (λ_ _=>False) I3' (stat only fr3) st3 stop) (λr s4 ⟨hr,I4⟩=>?_) λ_ _ z=>z.elim;subst hr;have o4:=(I4.pin (D,_) (yic _ (yia.mpr rfl))).1;exact hRR D C H3 s4 _ ys its nn hDle hCle hDC I4 d3 o4 hz rv3 qn
  ·refine ype (T.item (blk X (own++cap) sc fp s2 H2 C) rfl rfl rfl hc i _ s3 _ H3 (λ_ _=>False) I3' (stat only fr3) st3 go) (λr s4 ⟨u,hr,h4⟩=>?_) λ_ _ z=>z.elim;subst hr;refine ype h4 (λ_ s5 ⟨x,H5,I5,r5,y5,st5,fr5⟩=>?_) λ_ _ z=>z.elim;have I5':=I5.pinned (stat only fr5) (T.obj _ _ st5);refine ype (hg fp s2 H2 C _ s5 _ H5 x u _ I5' r5 (step x H5 y5)) (λ_ s6 ⟨σ6,H6,I6,d6,q6⟩=>?_) λ_ _ z=>z.elim;refine ype (ht fp s2 H2 C _ s6 σ6 H6 _ I6 q6) (λok s7 ⟨H7,I7,q7⟩=>?_) λ_ _ z=>z.elim;have memD:∀{o:Obj},(D,o)∈(blk X (own++cap) sc fp s2 H2 C).pn++([(D,o)]++zyt fp s5.heap):=yic _ (ylg _ (yia.mpr rfl));have memF:∀{b:Addr} {o o':Obj},b∈fp->s5.heap.get? b=some o->(b,o)∈(blk X (own++cap) sc fp s2 H2 C).pn++([(D,o')]++zyt fp s5.heap):=λhb e=>yic _ (yic _ (zno hb e));have σlen:(zvf own.length js σ).length=σ6.length:=by
    have a:=I6.len;have b:=I5.len;exact b.trans a.symm
   cases ok with
   | false =>
    have q7':N ys H7:=q7;obtain⟨m',hm,w7⟩:=hN _ _ q7';refine⟨m',hm,i+1,ys,its,nn,H7,(I7.znr λp hp=>absurd hp (by simp)).weak σlen (λj v e=>zru d6 e),T.keep _ _ _ st5 λb hb o e=>(I7.pin (b,o) (memF hb e)).1,λb hb=>?_,(I7.pin (D,_) memD).2.1,(I7.pin (D,_) memD).1,rv3,w7⟩;obtain⟨o,e,_⟩:=T.obj _ _ st5 b hb;exact (I7.pin (b,o) (memF hb e)).2.1
   | true =>
    have q7':te σ6 H7 λy H4=>N (ys++[y]) H4:=q7;refine ype (he fp s2 H2 C _ s7 σ6 H7 _ I7 q7') (λyv s8 ⟨y,H8,I8,r8,n8'⟩=>?_) λ_ _ z=>z.elim;obtain⟨m',hm,w8⟩:=hN _ _ n8';have o8:=(I8.pin (D,_) memD).1;have n8:=(I8.pin (D,_) memD).2.1;refine append_at (hsz:=by rw[yoa,← rv3.length];exact hz) o8 λh9 hs9 hD9=>?_;have I8':=(I8.znr (pins':=[]) λp hp=>absurd hp (by simp)).weak σlen (λj v e=>zru d6 e);have I9:=I8'.turned (h':=h9) (t':=s8.toks) (it:=D) (λb o hb e=>(hs9.2 b hb).trans e) n8 hDC (.inr hDle) (λx c e z=>by
     obtain⟨v,q⟩:=I2.cell x c (zoq sc.names [] (λx c e=>by simp at e) x c e);exact absurd (yva q.lt (by rw[z];exact hDle)) (yfe _)) (λp hp=>absurd (show p∈([]:List (Addr×Obj)) from hp) (by simp))
    refine⟨m',hm,i+1,ys++[y],its++[yv],nn+1,H8,I9,T.keep _ _ _ st5 λb hb o e=>(hs9.2 b (below b (fplt b hb)).2).trans (I8.pin (b,o) (memF hb e)).1,λb hb=>?_,n8,?_,rv3.snoc r8,w8⟩
    ·obtain⟨o,e,_⟩:=T.obj _ _ st5 b hb;exact (I8.pin (b,o) (memF hb e)).2.1
    ·rw[hD9,List.push_toArray]
 exact codeAny_compStart_list (loop _ rfl) (T.self X.A 0 _ _ _ st3 (loop _ rfl))
theorem zud {elt iter tg:Expr}{ifs:List Expr}{sc:Scope}{pos:Pos}{own cap:List Str}{js:List Nat}{wi:TI}{g:TG}{tt:TT}{te:TE}(hc:X.calm=true)(S:znb X sc)(cp:Caps X sc cap js)(hi:PI X tg iter wi)
  (hg:∀fp s H C,PG (blk X (own++cap) sc fp s H C) tg g) (ht:∀fp s H C,PTs (blk X (own++cap) sc fp s H C) ifs tt) (he:∀fp s H C,PE (blk X (own++cap) sc fp s H C) elt te)
  (hs:∀x,ybm iter X.env x=pure x:=by intro _;rfl):PE X (.ListComp elt [⟨tg,iter,ifs,0⟩] sc pos) (zzpb wi g tt te own.length js):=by
 intro pins s σ H Q I h;rw[eval_ListComp];refine yhm (use:=none) rfl hs (zpu λy hy hf=>I.ok.has y.1 (S.free y hy hf)) S.kind S.names (thn (hi pins s σ H _ I h) λv s1 h1=>thn h1 λitv s2 h2=>?_);obtain⟨it,fp,tn,J,H2,e,I2,T,st2,f2,W,⟨m0,w0⟩,turn⟩:=h2;subst e;refine zjjb (RR:=λacc C=>compPost (model X.prog X.w) X.A X.xe none (EP X pins σ Q) acc C) (Qf:=λys H=>∀p,H p=none->Q (.ref p) (upd H p (.lst ys))) hc S cp hg ht he I2 T st2 f2 w0 turn ?_;intro D C H4 s4 pn ys its nn hD hC hDC I4 n4 o4 hz rv q;obtain⟨m,hn,_⟩:=I4.loc;exact⟨m,hn,λh' hs'=>⟨.ref D,upd H4 D (.lst ys),zkjb I2 I4 f2 hC hD hDC n4 o4 hz rv hs',rfl,q D n4⟩⟩
end
def Its (x:Str):It:=⟨λi _=>i<x.cps.size,λi H v H'=>H'=H∧∃c,x.cps[i]?=some c∧v = .str ⟨#[c]⟩,λi _=>i=x.cps.size⟩
section
variable {X:Cx}{tg:Expr}
def iStr (tl:TE):TI:=fun σ H R=>tl σ H λv H1=>∃x,v = .str x∧R (Its x) H1
theorem zsq {P:yvb}{w:World}{K:yda}{tg:Expr}{ty:String}(x:Str)(t:Tok)(it:Addr)(hty:["enumerate","zip","dict_itemiterator","dict_reverseitemiterator","odict_iterator","itertools.zip_longest","itertools.pairwise"].contains ty=false)
  (W:∀A:Around,A.handled=none->Walks P w A it [it] [it] x.cps.size (SignAt x) (λi h=>h.IsStrIter it ty x t i))
  (hself:∀(A:Around) (i:Nat) (s:Shared) (Q:Value->Shared->Prop) (E:Value->Shared->Prop),s.heap.IsStrIter it ty x t i->Q (.ref it) s->wpAny (model P w) A (pyIter (.ref it)) Q E s) :
  Turn P w K tg (Its x) [it] it (λi h=>h.IsStrIter it ty x t i) where
 mem:=by simp
 obj:=λi h st b hb=>by
  have e:b=it:=by simpa using hb
  subst e;obtain⟨o,e,c,d⟩:=st;exact⟨o,e,λv z=>by rw[d] at z;cases z⟩
 keep:=λi h h' st k=>by
  obtain⟨o,e,r⟩:=st;exact⟨o,k it (by simp) o e,r⟩
 item:=by
  intro X hP hw hK hc i pins s σ H E I hf st hg;subst hP hw hK;obtain⟨f0,f1,f2,f3,f4,f5⟩:=hf it (by simp);refine (W X.A (I.ok.hd hc)).item i s _ _ hg st λv h' tk hv st' kk=>?_;obtain⟨c,u,hcx,rfl⟩:=hv;have I1:Inv X pins σ H { s with heap:=h',toks:=tk }:=I.turned (λb o hb e=>kk b o (by simpa using hb) e) f0 f1 f3 f4 f5;obtain⟨o,e,c',d⟩:=id st';exact⟨_,rfl,zkib (s:={ s with heap:=h',toks:=tk }) e c' d hty ⟨.str ⟨#[c]⟩,H,I1,⟨u,rfl⟩,⟨rfl,c,hcx,rfl⟩,st',λb hb=>(hf b hb).1⟩⟩
 done:=by
  intro X hP hw hK hc i pins s σ H E I hf st hg;subst hP hw hK;obtain⟨f0,f1,f2,f3,f4,f5⟩:=hf it (by simp);have le:i=x.cps.size:=hg;subst le;exact (W X.A (I.ok.hd hc)).done s _ _ st λh' tk kk=>⟨rfl,I.turned (λb o hb e=>kk b o (by simpa using hb) e) f0 f1 f3 f4 f5⟩
 self:=hself
theorem zkmb {l:Expr}{tl:TE}(hl:PE X l tl):PI X tg l (iStr tl):=by
 intro pins s σ H R I h;refine thn (hl pins s σ H _ I h) λv s1 ⟨y,H1,I1,r1,q1⟩=>?_;obtain⟨x,e,q⟩:=q1;subst e;obtain⟨t,rfl⟩:=r1;have fp:∀b∈[s1.heap.objs.size],FpOk X pins H1 b:=λb hb=>by
  have e:b=s1.heap.objs.size:=by simpa using hb
  subst e;exact I1.fpOk (yja _) (I1.hok.fresh (yja _))
 cases ha:x.cps.all (· < 128)
 ·refine wpAny_pyIter_wide ha ?_;exact⟨s1.heap.objs.size,[s1.heap.objs.size],_,Its x,H1,rfl,I1.kept (t':=s1.toks) λb o e=>yca _ e,zsq x t _ (by decide) (λA hA=>Walks.strWide hA _ x t) (λA i s Q E st h=>wpAny_pyIter_striter_wide st h),⟨_,yla _ rfl,rfl,rfl⟩,fp,q⟩
 ·refine wpAny_pyIter_ascii ha ?_;exact⟨s1.heap.objs.size,[s1.heap.objs.size],_,Its x,H1,rfl,I1.kept (t':=s1.toks) λb o e=>yca _ e,zsq x t _ (by decide) (λA hA=>Walks.strAscii hA _ x t) (λA i s Q E st h=>wpAny_pyIter_striter_ascii st h),⟨_,yla _ rfl,rfl,rfl⟩,fp,q⟩
end
theorem zkw {J:It}{len:Nat}{x:Nat->V}{H1:Hp}{g:TG}{tt:TT}{te:TE}{n:Nat}{js:List Nat}{σ:St}{Q:VK}(Pv:Nat->List V->Hp->Prop)(hgo:∀i ys H,Pv i ys H->i<len->J.go i H)(hst:∀ys H,Pv len ys H->J.stop len H)
  (hy:∀i ys H v H',Pv i ys H->i<len->J.yld i H v H'->H'=H∧v=x i) (h0:Pv 0 [] H1) (hz:∀i ys H,Pv i ys H->ys.length≤yza)
  (hs:∀i ys H,i<len->Pv i ys H->g (x i) (zvf n js σ) H fun σ2 H2=>σ2.drop n=(zvf n js σ).drop n∧tt σ2 H2 λb H3=>if b=true then te σ2 H3 λy H4=>Pv (i+1) (ys++[y]) H4 else Pv (i+1) ys H3)
  (hd:∀ys H,Pv len ys H->∀p,H p=none->Q (.ref p) (upd H p (.lst ys))):zscb J H1 g tt te n js σ Q:=by
 refine⟨λi m ys H=>m=len-i∧i≤len∧Pv i ys H,⟨len,by simp,ytb _,h0⟩,?_⟩;rintro i m ys H ⟨rfl,hi,p⟩
 by_cases hlt:i<len
 ·refine .inr ⟨hgo i ys H p hlt,hz i ys H p,Pv (i+1),λys' H' p'=>⟨len-(i+1),by omega,rfl,hlt,p'⟩,λv H' y=>?_⟩;obtain⟨e,ev⟩:=hy i ys H v H' p hlt y;subst e ev;exact hs i ys _ hlt p
 ·have e:i=len:=by omega
  subst e;exact .inl ⟨hst ys H p,hz _ ys H p,hd ys H p⟩
theorem zzlb {t:Str}{H1:Hp}{g:TG}{tt:TT}{te:TE}{n:Nat}{js:List Nat}{σ:St}{Q:VK}(Pv:Nat->List V->Hp->Prop)(h0:Pv 0 [] H1)(hz:∀i ys H,Pv i ys H->ys.length≤yza)
  (hs:∀i c ys H,t.cps[i]?=some c->Pv i ys H->g (.str ⟨#[c]⟩) (zvf n js σ) H fun σ2 H2=>σ2.drop n=(zvf n js σ).drop n∧tt σ2 H2 λb H3=>if b=true then te σ2 H3 λy H4=>Pv (i+1) (ys++[y]) H4 else Pv (i+1) ys H3)
  (hd:∀ys H,Pv t.cps.size ys H->∀p,H p=none->Q (.ref p) (upd H p (.lst ys))):zscb (Its t) H1 g tt te n js σ Q:=by
 refine zkw (len:=t.cps.size) (x:=λi=>.str ⟨#[t.cps.getD i 0]⟩) Pv (λi ys H _ h=>h) (λys H _=>rfl) (λi ys H v H' _ hlt y=>?_) h0 hz (λi ys H hlt p=>?_) hd
 ·obtain⟨e,c,hc,ev⟩:=y;refine⟨e,?_⟩;rw[ev,yoc,hc];rfl
 ·have hc:t.cps[i]?=some (t.cps.getD i 0):=by
   rw[yoc,ynb hlt];rfl
  exact hs i _ ys H hc p
theorem zsd {K:yda}{a:Addr}{xs:List V}{H1:Hp}{g:TG}{tt:TT}{te:TE}{n:Nat}{js:List Nat}{σ:St}{Q:VK}(Pv:Nat->List V->Hp->Prop)(hl:∀i ys H,Pv i ys H->SqL K H a xs)(h0:Pv 0 [] H1)(hz:∀i ys H,Pv i ys H->ys.length≤yza)
  (hs:∀i x ys H,xs[i]?=some x->Pv i ys H->g x (zvf n js σ) H fun σ2 H2=>σ2.drop n=(zvf n js σ).drop n∧tt σ2 H2 λb H3=>if b=true then te σ2 H3 λy H4=>Pv (i+1) (ys++[y]) H4 else Pv (i+1) ys H3)
  (hd:∀ys H,Pv xs.length ys H->∀p,H p=none->Q (.ref p) (upd H p (.lst ys))):zscb (Itl K a) H1 g tt te n js σ Q:=by
 refine zkw (len:=xs.length) (x:=λi=>xs.getD i .non) Pv (λi ys H p hlt=>⟨xs,xs[i],hl i ys H p,by simp[hlt]⟩) (λys H p=>⟨xs,hl _ ys H p,yja _⟩) (λi ys H v H' p hlt y=>?_) h0 hz (λi ys H hlt p=>?_) hd
 ·obtain⟨e,y⟩:=y;refine⟨e,?_⟩;rw[yxa,y xs (hl i ys H p)];rfl
 ·refine hs i _ ys H ?_ p;rw[yxa,ylb hlt];rfl
theorem znq {K:yda}{a:Addr}{xs:List V}{H1:Hp}{g:TG}{tt:TT}{te:TE}{n:Nat}{js:List Nat}{σ:St}{Q:VK}(Pv:Nat->List V->Hp->Prop)(hl:∀i ys H,Pv i ys H->SqT K H a xs)(h0:Pv 0 [] H1)(hz:∀i ys H,Pv i ys H->ys.length≤yza)
  (hs:∀i x ys H,xs[i]?=some x->Pv i ys H->g x (zvf n js σ) H fun σ2 H2=>σ2.drop n=(zvf n js σ).drop n∧tt σ2 H2 λb H3=>if b=true then te σ2 H3 λy H4=>Pv (i+1) (ys++[y]) H4 else Pv (i+1) ys H3)
  (hd:∀ys H,Pv xs.length ys H->∀p,H p=none->Q (.ref p) (upd H p (.lst ys))):zscb (Itt K a) H1 g tt te n js σ Q:=by
 refine zkw (len:=xs.length) (x:=λi=>xs.getD i .non) Pv (λi ys H p hlt=>⟨xs,xs[i],hl i ys H p,by simp[hlt]⟩) (λys H p=>⟨xs,hl _ ys H p,yja _⟩) (λi ys H v H' p hlt y=>?_) h0 hz (λi ys H hlt p=>?_) hd
 ·obtain⟨e,y⟩:=y;refine⟨e,?_⟩;rw[yxa,y xs (hl i ys H p)];rfl
 ·refine hs i _ ys H ?_ p;rw[yxa,ylb hlt];rfl
theorem ztd {lo:Int}{len:Nat}{H1:Hp}{g:TG}{tt:TT}{te:TE}{n:Nat}{js:List Nat}{σ:St}{Q:VK}(Pv:Nat->List V->Hp->Prop)(h0:Pv 0 [] H1)(hz:∀i ys H,Pv i ys H->ys.length≤yza)
  (hs:∀i ys H,i<len->Pv i ys H->g (.int (lo+i)) (zvf n js σ) H fun σ2 H2=>σ2.drop n=(zvf n js σ).drop n∧tt σ2 H2 λb H3=>if b=true then te σ2 H3 λy H4=>Pv (i+1) (ys++[y]) H4 else Pv (i+1) ys H3)
  (hd:∀ys H,Pv len ys H->∀p,H p=none->Q (.ref p) (upd H p (.lst ys))):zscb (Itr lo len) H1 g tt te n js σ Q :=
 zkw (len:=len) (x:=λi=>.int (lo+i)) Pv (λi ys H _ h=>h) (λys H _=>yja _) (λi ys H v H' _ hlt y=>y) h0 hz (λi ys H hlt p=>hs i ys H hlt p) hd
section
variable {X:Cx}
def rSlS:V->Option Int->Option Int->Hp->VK->Prop:=λx lo hi H Q=>∃t,x = .str t∧t.length≤yza∧∀t',t'=ywn t lo hi->t'.length≤t.length->Q (.str t') H
theorem zjmb:SlR X rSlS:=by
 intro pins s σ H x v vl vu lo hi sl Q I rx hs pl pu h;obtain⟨t,rfl,hz,q⟩:=h;obtain⟨tk,rfl⟩:=rx;have fin:∀{l u:Option (Int×Tok)},l.map (·.1)=lo->u.map (·.1)=hi->(∀k t',EP X pins σ Q (.str (ywn t (l.map (·.1)) (u.map (·.1))) t') { s with toks:=k }):=λ{l u} e1 e2 k t' =>
  ⟨.str _,H,I.tok k,⟨t',rfl⟩,by rw[e1,e2];exact q _ rfl (PyProof.Txt.length_slice_le t _ _)⟩
 refine⟨"str",_,F.slot_str_getitem.lookup,ygm _ _ _,?_⟩;cases pl with
 | none =>
  cases pu with
  | none=>exact yfh (l:=none) (u:=none) (st:=none) hs rfl (yok ⟨ykb (yxn t _ _) hz,λt' k=>fin (l:=none) (u:=none) rfl rfl k t'⟩)
  | int j tj=>exact yfh (l:=none) (u:=some (j,tj)) (st:=none) hs rfl (yok ⟨ykb (yxn t _ _) hz,λt' k=>fin (l:=none) (u:=some (j,tj)) rfl rfl k t'⟩)
 | int i ti =>
  cases pu with
  | none=>exact yfh (l:=some (i,ti)) (u:=none) (st:=none) hs rfl (yok ⟨ykb (yxn t _ _) hz,λt' k=>fin (l:=some (i,ti)) (u:=none) rfl rfl k t'⟩)
  | int j tj=>exact yfh (l:=some (i,ti)) (u:=some (j,tj)) (st:=none) hs rfl (yok ⟨ykb (yxn t _ _) hz,λt' k=>fin (l:=some (i,ti)) (u:=some (j,tj)) rfl rfl k t'⟩)
theorem zagb:∀{bs:List Bool} {us:List Value},Vals (bs.map V.bl) us->us=bs.map Value.bool
 | [],us,r=>by rw[yah] at r;cases r;rfl
 | b::bs,us,r=>by
  rw[yob] at r;cases r with
  | cons r1 r2=>rw[yob,zagb r2,show _=Value.bool b from r1]
theorem zqw (hc:X.calm=true):zwf X (.builtin "all") (λxs H Q=>Ex2 λ(a:Addr) (bs:List Bool)=>xs=[.ref a]∧SqL X.K H a (bs.map V.bl)∧Q (.bl (bs.all id)) H):=by
 intro pins s σ H xs us Q I r h;obtain⟨a,bs,rfl,hq,q⟩:=h;obtain⟨u,rfl,ru⟩:=vals1 r;cases ru;obtain⟨its,rv,p,hz⟩:=I.list hq;have e:=zagb rv;have hlt:a<s.heap.objs.size:=by obtain⟨o,n,e,_⟩:=p;exact yra e
 refine call_all_walk (yam p.isList ?_);refine⟨s.heap.objs.size,_,_,_,_,_,λi=>bs.getD i true,rfl,Walks.list (show X.A.in1.handled=none from I.ok.hd hc) s.heap.objs.size a (yya hlt) its.toArray,⟨⟨_,yla _ rfl,rfl,rfl⟩,p.isList.push _⟩,?_,?_⟩
 ·intro i v s' Q' E' hP hQ;have hP':its[i]?=some v:=by simpa using hP
  rw[e,yna] at hP';cases z:bs[i]? with
  | none=>rw[z] at hP';cases hP'
  | some b =>
   rw[z] at hP';have ev:Value.bool b=v:=yvc hP';subst ev;have hQ':Q' (bs.getD i true) s':=hQ;rw[yxa,z] at hQ';exact yhe hQ'
 ·intro h' tk kk;refine⟨.bl _,H,I.kept (t':=tk) λb o e=>kk b o (λz=>?_) (yca _ e),?_,q⟩
  ·have z':b=s.heap.objs.size:=by simpa using z
   exact absurd (yra e) (by rw[z'];exact yfe _)
  ·show Value.bool _=Value.bool _
   congr 1
   rw[yoa,e,yaa];have go:∀l:List Bool,(yuc l.length).all (λi=>l.getD i true)=l.all id:=λl=>by
    have q:=range_getD l true;have e2:((yuc l.length).map λj=>l.getD j true).all id=(yuc l.length).all λi=>l.getD i true:=by
     rw[List.all_map];rfl
    rw[← e2,q]
   exact go bs
theorem zoc:zwf X (.builtin "isinstance") (λxs H Q=>Ex4 λx c t b=>xs=[x,c]∧TyOf X.K H x t∧((∃n,c = .ty n∧yqb X.K t (.type n)=some b)∨(∃a,c = .ref a∧yqb X.K t (.ref a)=some b))∧Q (.bl b) H):=by
 intro pins s σ H xs us Q I r h;obtain⟨x,c,t,b,rfl,ty,hc,q⟩:=h;obtain⟨u,u',rfl,r1,r2⟩:=vals2 r
 rcases hc with⟨n,rfl,e⟩|⟨a,rfl,e⟩
 ·cases (show u'=Value.type n from r2);exact zzy I r1 ty e λtk=>⟨.bl b,H,I.tok tk,rfl,q⟩
 ·cases (show u'=Value.ref a from r2);exact zzy I r1 ty e λtk=>⟨.bl b,H,I.tok tk,rfl,q⟩
mutual
inductive DV (K:yda)(H:Hp):V->PyData->Prop where
 | non:DV K H .non .none
 | bl (b:Bool):DV K H (.bl b) (.bool b)
 | int (i:Int):DV K H (.int i) (.int i)
 | str (x:Str):DV K H (.str x) (.str x)
 | lst {a:Addr} {xs:List V} {ds:List PyData}:SqL K H a xs->DVs K H xs ds->DV K H (.ref a) (.list ds)
 | tup {a:Addr} {xs:List V} {ds:List PyData}:SqT K H a xs->DVs K H xs ds->DV K H (.ref a) (.tuple ds)
inductive DVs (K:yda)(H:Hp):List V->List PyData->Prop where
 | nil:DVs K H [] []
 | cons {x:V} {d:PyData} {xs:List V} {ds:List PyData}:DV K H x d->DVs K H xs ds->DVs K H (x::xs) (d::ds)
end
mutual
theorem DV.reads {pins:List (Addr×Obj)}{σ:St}{H:Hp}{s:Shared}(I:Inv X pins σ H s):∀{x:V} {d:PyData} {u:Value},DV X.K H x d->RelV x u->∃as,Reads s.heap u d as
 | _,_,_,.non,r=>by cases r;exact⟨_,.none⟩
 | _,_,_,.bl b,r=>by cases r;exact⟨_,.bool b⟩
 | _,_,_,.int i,r=>by obtain⟨t,rfl⟩:=r;exact⟨_,.int i t⟩
 | _,_,_,.str x,r=>by obtain⟨t,rfl⟩:=r;exact⟨_,.str x t⟩
 | _,_,_,.lst hq hs,r=>by
  cases r;obtain⟨its,rv,⟨o,n,e,c,_,d⟩,_⟩:=I.list hq;obtain⟨as,q⟩:=hs.reads I rv;exact⟨_,.list e c d (by simpa using q)⟩
 | _,_,_,.tup hq hs,r=>by
  cases r;obtain⟨its,rv,⟨o,e,c,n,d⟩,_⟩:=I.tuple hq;obtain⟨as,q⟩:=hs.reads I rv;exact⟨_,.tuple e c d (by simpa using q)⟩
theorem DVs.reads {pins:List (Addr×Obj)}{σ:St}{H:Hp}{s:Shared}(I:Inv X pins σ H s):∀{xs:List V} {ds:List PyData} {us:List Value},DVs X.K H xs ds->Vals xs us->∃as,ReadsAll s.heap us ds as
 | _,_,_,.nil,.nil=>⟨_,.nil⟩
 | _,_,_,.cons h hs,.cons r rs=>by
  obtain⟨as,q⟩:=h.reads I r;obtain⟨bs,p⟩:=hs.reads I rs;exact⟨_,.cons q p⟩
end
theorem zarb (hu:X.A.units+64<cLine):OpR X (yle .Eq) (λx y H Q=>Ex2 λd e=>DV X.K H x d∧DV X.K H y e∧ybe d=true∧ybe e=true∧Q (.bl (yje d e)) H):=by
 intro pins s σ H x y v u Q I rx ry h;obtain⟨d,e,hd,he,s1,s2,q⟩:=h;obtain⟨as,r1⟩:=hd.reads I rx;obtain⟨bs,r2⟩:=he.reads I ry;exact eq_dataH r1 r2 s1 s2 hu ⟨.bl _,H,I,rfl,q⟩
theorem zihb (hu:X.A.units+64<cLine):OpR X (yle .NotEq) (λx y H Q=>Ex2 λd e=>DV X.K H x d∧DV X.K H y e∧ybe d=true∧ybe e=true∧Q (.bl (!PyData.eqv d e)) H):=by
 intro pins s σ H x y v u Q I rx ry h;obtain⟨d,e,hd,he,s1,s2,q⟩:=h;obtain⟨as,r1⟩:=hd.reads I rx;obtain⟨bs,r2⟩:=he.reads I ry;exact ne_dataH r1 r2 s1 s2 hu ⟨.bl _,H,I,rfl,q⟩
end
end L2
namespace L2
open PySem PyProof.Rows
set_option genInjectivity false in
structure Gf (K:yda)(mg:Str->Option Value)(x q:Str)(st:Stmt) where
 f:Addr
 d:yxf
 F:Fun K x q st f d
 m:mg x=some (.ref f)
set_option genInjectivity false in
structure Mf (K:yda)(C:Addr)(x q:Str)(st:Stmt) where
 f:Addr
 d:yxf
 F:Fun K x q st f d
 M:Meth K C x f
set_option genInjectivity false in
structure If (K:yda)(C:Addr)(x q:Str)(st:Stmt) where
 f:Addr
 d:yxf
 F:Fun K x q st f d
 M:Mk K C f
section
variable {K:yda}{mg:Str->Option Value}{h:Heap}{C f:Addr}{x q:Str}{st:Stmt}{oc:Value}{od an:Option Addr}{sl:Array (Option Value)}{kV dc pm cd ct:Value}
def gf_of (X:K.In h)(G:h.Ns ybb mg)(a:yhb K ybb x=some (some (.ref f)))
  (l:K.lookup f=some ⟨oc,od,.func (yzg x q (zjm st) (zxh st) (zja st) .none kV dc pm an cd ct),sl⟩) (c:yxh K cd q=true) (k:ymf K (.ref f)=true):Gf K mg x q st :=
 ⟨f,_,zmib l c k,yzb X G a⟩
def mf_of (a:ymb K (.ref C) x=some (some (.ref f)))(i:yel K (.ref f)=true)
  (l:K.lookup f=some ⟨oc,od,.func (yzg x q (zjm st) (zxh st) (zja st) .none kV dc pm an cd ct),sl⟩) (c:yxh K cd q=true) (k:ymf K (.ref f)=true):Mf K C x q st :=
 ⟨f,_,zmib l c k,⟨a,i,k⟩⟩
def if_of (a:ymb K (.ref C) "__init__" = some (some (.ref f)))(i:yel K (.ref f)=true)
  (l:K.lookup f=some ⟨oc,od,.func (yzg x q (zjm st) (zxh st) (zja st) .none kV dc pm an cd ct),sl⟩) (c:yxh K cd q=true) (k:ymf K (.ref f)=true)
  (mk:ypn K C=true) (kc:ymf K (.ref C)=true):If K C x q st :=
 ⟨f,_,zmib l c k,⟨mk,a,i,kc⟩⟩
theorem znrb {fa:Addr}(g:Gf K mg x q st)(e:mg x=some (.ref fa)):g.f=fa:=by
 have z:=g.m.symm.trans e;injection z with z
 injection z
end
section
variable {P:yvb}{w:World}{K:yda}{mg:Str->Option Value}{base:Heap}{C:Addr}{x q:Str}{st:Stmt}{N ps:List Str}{k:Nat}{sp:Sp}
theorem Gf.ok (g:Gf K mg x q st)(S:zxa N ps (zja st))
  (hb:∀(f:Addr) (cdv:Value) (A:Around) (outer:List Env) (s:Shared) (H:Hp) (vs:List V) (Q:VK) (E:XK),Room k (A.deeper (envOfC q (zja st) s.heap.objs.size f cdv))->sp vs H Q E->let X:=(cxOf CX0 P w K mg base N q (zja st) f cdv A outer s H E).nox;∃t,PSs X (zxh st) t∧t { nx:=λ_ H'=>Q .non H',rt:=Q } (start N vs) H)
  (len:∀vs H Q E,sp vs H Q E->vs.length=ps.length:=by intro _ _ _ _ h;cases h;rename_i h;rw[h.1];rfl):FnOk P w K mg base CX0 (k+1) g.f g.d ps sp:=g.F.ok S len (hb g.f)
theorem Mf.ok (g:Mf K C x q st)(S:zxa N ps (zja st))
  (hb:∀(f:Addr) (cdv:Value) (A:Around) (outer:List Env) (s:Shared) (H:Hp) (vs:List V) (Q:VK) (E:XK),Room k (A.deeper (envOfC q (zja st) s.heap.objs.size f cdv))->sp vs H Q E->let X:=(cxOf CX0 P w K mg base N q (zja st) f cdv A outer s H E).nox;∃t,PSs X (zxh st) t∧t { nx:=λ_ H'=>Q .non H',rt:=Q } (start N vs) H)
  (len:∀vs H Q E,sp vs H Q E->vs.length=ps.length:=by intro _ _ _ _ h;cases h;rename_i h;rw[h.1];rfl):FnOk P w K mg base CX0 (k+1) g.f g.d ps sp:=g.F.ok S len (hb g.f)
theorem If.ok (g:If K C x q st)(S:zxa N ps (zja st))
  (hb:∀(f:Addr) (cdv:Value) (A:Around) (outer:List Env) (s:Shared) (H:Hp) (vs:List V) (Q:VK) (E:XK),Room k (A.deeper (envOfC q (zja st) s.heap.objs.size f cdv))->sp vs H Q E->let X:=(cxOf CX0 P w K mg base N q (zja st) f cdv A outer s H E).nox;∃t,PSs X (zxh st) t∧t { nx:=λ_ H'=>Q .non H',rt:=Q } (start N vs) H)
  (len:∀vs H Q E,sp vs H Q E->vs.length=ps.length:=by intro _ _ _ _ h;cases h;rename_i h;rw[h.1];rfl):FnOk P w K mg base CX0 (k+1) g.f g.d ps sp:=g.F.ok S len (hb g.f)
theorem FnOk.up {f:Addr}{d:yxf}{m:Nat}(h:FnOk P w K mg base CX0 k f d ps sp)(le:k≤m:=by first|decide|omega):FnOk P w K mg base CX0 m f d ps sp:=h.mono le
end
theorem sz0:0≤yza:=by decide
theorem sz1:1≤yza:=by decide
theorem sz2:2≤yza:=by decide
theorem sz3:3≤yza:=by decide
theorem sz4:4≤yza:=by decide
theorem sz5:5≤yza:=by decide
theorem sz8:8≤yza:=by decide
def scB (N P:List Str)(sc:Scope):Bool :=
 decide (sc.kind = .function)&&(!sc.isCoroutine&&(!sc.isGenerator&&(decide N.Nodup&&(decide (N.take P.length=P) &&
  (P.all (λx=>decide (sc.names.lookup x=some .local∨sc.names.lookup x=some .cell))&&sc.names.all λy=>decide (y.2 ≠ .free))))))
theorem scOf {N P:List Str}{sc:Scope}(h:scB N P sc=true):zxa N P sc:=by
 unfold scB at h;simp only[yhc,Bool.not_eq_true',decide_eq_true_eq,ybg] at h;obtain⟨a,b,c,d,e,f,g⟩:=h;exact⟨a,b,c,d,e,f,g⟩
end L2
namespace L2
open PySem PySem.Spec PyProof.Rows
section
variable {X:Cx}
theorem zaj:∀{ys:List Str} {us:List Value},Vals (ys.map V.str) us->ypl us ys
 | [],us,r=>by rw[yah] at r;cases r;exact .nil
 | y::ys,us,r=>by
  rw[yob] at r;cases r with
  | cons r1 r2 =>
   obtain⟨t,e⟩:=r1;subst e;exact .cons y t (zaj r2)
theorem zgx:∀l:List (Str×Tok),Vals ((l.map (·.1)).map V.str) (strValues l)
 | []=>.nil
 | (x,t)::r=>.cons ⟨t,rfl⟩ (zgx r)
theorem zem:MtR X "str.join" (λx xs H Q=>Ex3 λsep a ys=>x = .str sep∧xs=[.ref a]∧SqL X.K H a (ys.map V.str)∧(ys.map (·.length)).sum+ys.length*sep.length≤16777216∧Q (.str (ywa sep ys)) H):=by
 intro pins s σ H x xs v us Q I rx rs h;obtain⟨sep,a,ys,rfl,rfl,hq,hz,q⟩:=h;obtain⟨t,rfl⟩:=rx;obtain⟨u,rfl,ru⟩:=vals1 rs;cases ru;obtain⟨its,rv,p,_⟩:=I.list hq;refine join_list (items:=its.toArray) (ys:=ys) p.isList (by simpa using zaj rv) hz λt' k=>⟨.str _,H,I.tok k,⟨t',rfl⟩,?_⟩;have e:Txt.join sep ys=ywa sep ys:=by first|rfl|exact yyn sep ys
 rw[e];exact q
theorem ztv:MtR X "str.split" (λx xs H Q=>Ex2 λt y=>x = .str t∧xs=[.str y]∧(y.length==0)=false∧t.length+2≤yza∧∀l,H l=none->Q (.ref l) (upd H l (.lst ((ytf t y).map V.str)))):=by
 intro pins s σ H x xs v us Q I rx rs h;obtain⟨x,y,rfl,rfl,hy,hsz,q⟩:=h;obtain⟨t,rfl⟩:=rx;obtain⟨u,rfl,ru⟩:=vals1 rs;obtain⟨tu,rfl⟩:=ru;have hn:(yrg x (yid x y 0 x.length (x.length+1)) y.length).length≤yza:=by
  have e1:=StrLaws.occ_length_le x y 0 x.length (x.length+1);rw[length_partsBetween];omega
 have fin:∀(l:List (Str×Tok)) (k:Nat),l.map (·.1)=ytf x y->l.length≤yza->EP X pins σ Q (.ref s.heap.objs.size) { s with heap:=s.heap.push { cls:=.type "list",data:=.seq (strValues l).toArray },toks:=k }:=λl k e hl=>by
  refine⟨.ref s.heap.objs.size,upd H s.heap.objs.size (.lst ((ytf x y).map V.str)),I.laid (t':=k) (λb o e=>yca _ e) (yja _) ⟨?_,strValues l,_,?_,yla _ rfl⟩,rfl,q _ (I.hok.fresh (yja _))⟩
  ·rw[← e,yaa,yaa];exact hl
  ·rw[← e];exact zgx l
 cases h1:(decide (x.length<y.length)||decide (yei x<yei y))
 ·cases hf:(yid x y 0 x.length (x.length+1)).isEmpty
  ·refine yik ydn (ygm _ _ _) yim (yhl _ _) (meets_str_split_sep x y t tu h1 hy hf (by omega) hn) ?_;show wants _ _ _ { s with toks:=_,heap:=s.heap.push { cls:=.type "list",data:=.seq (strsFrom s.toks (yrg x (yid x y 0 x.length (x.length+1)) y.length)).toArray } }
   rw[strsFrom_eq];refine fin (numbered s.toks _) _ ((numbered_texts _ _).trans ((if_neg (ne_true_of_eq_false h1)).trans (if_neg (ne_true_of_eq_false hf))).symm) ?_;have e:=congrArg ybh (numbered_texts s.toks (yrg x (yid x y 0 x.length (x.length+1)) y.length));rw[yaa] at e;omega
  ·exact yik ydn (ygm _ _ _) yim (yhl _ _) (meets_str_split_not_found x y t tu h1 hy hf)
    (fin [(x,t)] s.toks ((if_neg (ne_true_of_eq_false h1)).trans (if_pos hf)).symm (by show 1≤yza;decide))
 ·exact yik ydn (ygm _ _ _) yim (yhl _ _) (meets_str_split_cannot_occur x y t tu h1)
   (fin [(x,t)] s.toks (if_pos h1).symm (by show 1≤yza;decide))
theorem zlz:zwf X (.type "str") (λxs H Q=>∃x,xs=[.str x]∧Q (.str x) H):=by
 intro pins s σ H xs us Q I r h;obtain⟨x,rfl,q⟩:=h;obtain⟨u,rfl,t,rfl⟩:=vals1 r;exact PySem.P.str_of_str ⟨.str x,H,I,⟨t,rfl⟩,q⟩
theorem zpw:zwf X (.type "int") (λxs H Q=>Ex2 λx n=>xs=[.str x]∧PySem.intText? x=some n∧x.length≤640∧Q (.int n) H):=by
 intro pins s σ H xs us Q I r h;obtain⟨x,n,rfl,hn,hl,q⟩:=h;obtain⟨u,rfl,t,rfl⟩:=vals1 r;exact PySem.W.KIN.call_text hn hl ⟨.int n,H,I.tok _,⟨_,rfl⟩,q⟩
theorem zwi {i:Nat}{x:Str}{elt iter tg:Expr}{ifs:List Expr}{sc:Scope}{pos spos pos':Pos}{own cap:List Str}{js:List Nat}{wi:TI}{g:TG}{tt:TT}{te:TE}(hN:X.N.Nodup)(hix:X.N[i]?=some x)(hx:Loc X.env.scope x)
  (hc:X.calm=true) (S:znb X sc) (cp:Caps X sc cap js) (hi:PI X tg iter wi)
  (hg:∀fp s H C,PG (blk X (own++cap) sc fp s H C) tg g) (ht:∀fp s H C,PTs (blk X (own++cap) sc fp s H C) ifs tt) (he:∀fp s H C,PE (blk X (own++cap) sc fp s H C) elt te)
  (hsw:yhr (.ListComp elt [⟨tg,iter,ifs,0⟩] sc pos) (some (.Name x pos')) spos.line X.env=pure true:=by rfl) (hs:∀x,ybm iter X.env x=pure x:=by intro _;rfl)
  (hf:X.fn x=true∨X.env.scope.names.lookup x=some .local:=by first|exact .inl rfl|exact .inr rfl|assumption) :
  PS X (.Assign [.Name x pos'] (.ListComp elt [⟨tg,iter,ifs,0⟩] sc pos) spos) (tAsg (zzpb wi g tt te own.length js) (zulb i)):=by
 intro pins s σ H D I h;rw[exec_Assign_Name_used _ _ _ _ hsw];refine yba (yjp (yba ?_));show wpAny _ X.A (do let _ ← comprehension (.ListComp elt [⟨tg,iter,ifs,0⟩] sc pos) sc X.env _ (newList []) false (eval iter X.env) (some (assign (.Name x pos') X.env))) _ _ s
 refine yba (ype (yhm (use:=some (assign (.Name x pos') X.env)) (Q:=λ_ s'=>SP X pins D .next s') rfl hs (zpu λy hy hf=>I.ok.has y.1 (S.free y hy hf)) S.kind S.names
  (thn (hi pins s σ H _ I h) λv s1 h1=>thn h1 λitv s2 h2=>?_)) (λ_ s' hq=>yea (yea hq)) λ_ _ e=>e)
 obtain⟨it,fp,tn,J,H2,e,I2,T,st2,f2,W,⟨m0,w0⟩,turn⟩:=h2;subst e;refine zjjb (RR:=λacc C=>compPost (model X.prog X.w) X.A X.xe (some (assign (.Name x pos') X.env)) (λ_ s'=>SP X pins D .next s') acc C) (Qf:=λys H=>∀p,H p=none->D.nx (σ.set i (some (.ref p))) (upd H p (.lst ys))) hc S cp hg ht he I2 T st2 f2 w0 turn ?_;intro DD C H4 s4 pn ys its nn hD hC hDC I4 n4 o4 hz rv q;have I5:Inv X pins σ (upd H4 DD (.lst ys)) s4:=zkjb (h':=s4.heap) I2 I4 f2 hC hD hDC n4 o4 hz rv (ysg ..);obtain⟨m,hn,_⟩:=I4.loc;have hn':s4.heap.Ns C m:=hn;show wpAny _ X.A (assign (.Name x pos') X.env (.ref DD)) _ _ s4
 refine wpAny_assign_Name (zix I5 hN hix hx (v:=.ref DD) (u:=.ref DD) rfl (λs6 I6 ⟨a,hsb,ha⟩=>?_) hf);have lt2:X.env.locals<s2.heap.objs.size:=I2.lt;have cellC:∀y c,X.env.cells.lookup y=some c->c≠C:=λy c e=>by
  obtain⟨v,z⟩:=I2.cell y c e;exact yya (yva z.lt hC)
 have aC:C≠a:=by
  rcases ha with rfl|ha
  ·exact ylf (yva lt2 hC)
  ·exact yqd (cellC _ _ ha)
 refine⟨m,hn'.sameBut hsb aC,λh' hs'=>?_⟩;have nC:(upd H4 DD (.lst ys)) C=none:=by rw[zlb (yqd hDC)];exact I4.free
 have I7:=I6.turned (h':=h') (t':=s6.toks) (it:=C) (λb o hb e=>(hs'.2 b hb).trans e) nC (ylf (yva lt2 hC)) (.inr (ykb I2.sz hC)) cellC (λp hp=>by
  exact yya (yva (yra (I2.pin p hp).1) hC))
 exact⟨_,_,I7,q DD n4⟩
def Itv (K:yda)(a:Addr)(xs:List V):It :=
 ⟨λi H=>SqL K H a xs∧i<xs.length,λi H x H'=>H'=H∧xs[xs.length-1-i]?=some x,λi H=>SqL K H a xs∧i=xs.length⟩
def iRev (K:yda)(ta:TA):TI:=fun σ H R=>ta σ H λvs H1=>Ex2 λa xs=>vs=[.ref a]∧SqL K H1 a xs∧R (Itv K a xs) H1
theorem zakb {P:yvb}{w:World}{K:yda}{tg:Expr}(a it:Addr)(xs:List V):Turn P w K tg (Itv K a xs) [it] it (λi h=>i≤xs.length∧h.IsRevIter it a ((xs.length:Int)-1-(i:Int))) where
 mem:=by simp
 obj:=λi h st b hb=>by
  have e:b=it:=by simpa using hb
  subst e;obtain⟨_,o,e,c,d⟩:=st;exact⟨o,e,λv z=>by rw[d] at z;cases z⟩
 keep:=λi h h' st k=>⟨st.1,st.2.at λo e=>k it (by simp) o e⟩
 item:=by
  intro X hP hw hK hc i pins s σ H E I hf st hg;subst hP hw hK;obtain⟨hq,hlt⟩:=hg;obtain⟨f0,f1,f2,f3,f4,f5⟩:=hf it (by simp);obtain⟨its,rv,p,hz⟩:=I.list hq;have hl:=rv.length;have hx:xs[xs.length-1-i]?=some (xs[xs.length-1-i]'(by omega)):=ylb (by omega);obtain⟨u,hu,ru⟩:=rv.get hx;have hit:=st.2;rw[show (xs.length:Int)-1-(i:Int)=((xs.length-1-i:Nat):Int) by omega] at hit;refine wpAny_pyNext_rev_item hit p.isList (x:=u) (by simpa using hu) λh' hit' hs'=>?_;rw[show ((xs.length-1-i:Nat):Int)-1=(xs.length:Int)-1-((i+1:Nat):Int) by omega] at hit';have I1:Inv X pins σ H { s with heap:=h' }:=I.turned (t':=s.toks) (λb o hb e=>(hs'.2 b hb).trans e) f0 f1 f3 f4 f5;obtain⟨o,e,c',d⟩:=id hit';exact⟨u,rfl,zkib (s:={ s with heap:=h' }) e c' d (by decide) ⟨_,H,I1,ru,⟨rfl,hx⟩,⟨hlt,hit'⟩,λb hb=>(hf b hb).1⟩⟩
 done:=by
  intro X hP hw hK hc i pins s σ H E I hf st hg;subst hP hw hK;obtain⟨hq,e⟩:=hg;obtain⟨f0,f1,f2,f3,f4,f5⟩:=hf it (by simp);have hit:=st.2;rw[show (xs.length:Int)-1-(i:Int) = -1 by omega] at hit;exact wpAny_pyNext_rev_end (I.ok.hd hc) hit λh' he'=>⟨rfl,I.turned (t':=s.toks) (λb o hb e=>he' b o hb e) f0 f1 f3 f4 f5⟩
 self:=λ_ _ _ _ _ st h=>wpAny_pyIter_revIter st.2 h
theorem boot_reversed:ygi "reversed" = some (.type "reversed"):=by decide +kernel
theorem zzab {tg a:Expr}{ta:TA}{p pos:Pos}(hg:Gl X "reversed")(hm:X.mg "reversed" = none)(ha:PA X [a] ta)(hs:yhd [a] X.env=[(false,eval a X.env)]:=by rfl):PI X tg (.Call (.Name "reversed" p) [a] [] pos) (iRev X.K ta):=by
 intro pins s σ H R I h;refine Call_ (zuy I hg hm boot_reversed (ynh (thn (ha pos pins s σ H _ I h) λus s1 ⟨vs,H1,I1,r1,q1⟩=>?_) hs rfl));obtain⟨b,xs,e,hq,q⟩:=q1;subst e;obtain⟨u,rfl,ru⟩:=vals1 r1;cases ru;obtain⟨its,rv,pl,hz⟩:=I1.list hq;have hl:=rv.length;refine call_reversed_list pl.isList ?_;have hit:(s1.heap.push (revObj b ((its.toArray.size:Int)-1))).IsRevIter s1.heap.objs.size b ((xs.length:Int)-1-((0:Nat):Int)):=by
  refine⟨_,yla _ rfl,rfl,?_⟩;show Data.fields #[.ref b,rawInt _]=Data.fields #[.ref b,rawInt _]
  rw[yoa,← hl,show (xs.length:Int)-1-((0:Nat):Int)=(xs.length:Int)-1 by omega]
 refine wpAny_pyIter_revIter (s:={ s1 with heap:=s1.heap.push (revObj b ((its.toArray.size:Int)-1)) }) hit ?_;refine⟨s1.heap.objs.size,[s1.heap.objs.size],_,_,H1,rfl,I1.kept (t':=s1.toks) λb o e=>yca _ e,zakb b _ xs,⟨ytb _,hit⟩,λc hc=>?_,q⟩;have e:c=s1.heap.objs.size:=by simpa using hc
 subst e;exact I1.fpOk (yja _) (I1.hok.fresh (yja _))
end
theorem zyob {K:yda}{a:Addr}{xs:List V}{g:TG}{tb:TS}{D:Ends}{σ:St}{H:Hp}(Pv:Nat->St->Hp->Prop)(h0:Pv 0 σ H)(hl:∀i σ H,i≤xs.length->Pv i σ H->SqL K H a xs)
  (hs:∀i x σ H,i<xs.length->xs[xs.length-1-i]?=some x->Pv i σ H->g x σ H fun σ2 H2=>tb { D with nx:=Pv (i+1),ct:=Pv (i+1),bk:=D.nx } σ2 H2) (hd:∀ σ H,Pv xs.length σ H->D.nx σ H) :
  ∃W:Nat->Nat->St->Hp->Prop,(∃m,W 0 m σ H)∧∀i m σ H,W i m σ H →
   ((Itv K a xs).stop i H∧D.nx σ H)∨((Itv K a xs).go i H∧∃N:St->Hp->Prop,(∀ σ' H',N σ' H'->∃m',m'<m∧W (i+1) m' σ' H')∧∀x H',(Itv K a xs).yld i H x H'->g x σ H' fun σ2 H2=>tb { D with nx:=N,ct:=N,bk:=D.nx } σ2 H2):=by
 refine⟨λi m σ H=>m=xs.length-i∧i≤xs.length∧Pv i σ H,⟨xs.length,by simp,ytb _,h0⟩,?_⟩;rintro i m σ H ⟨rfl,hi,p⟩;have q:=hl i σ H hi p
 by_cases hlt:i<xs.length
 ·refine .inr ⟨⟨q,hlt⟩,Pv (i+1),fun σ' H' p'=>⟨xs.length-(i+1),by omega,rfl,hlt,p'⟩,λx H' y=>?_⟩;obtain⟨e,y⟩:=y;subst e;exact hs i x σ _ hlt y p
 ·have e:i=xs.length:=by omega
  subst e;exact .inl ⟨⟨q,rfl⟩,hd σ H p⟩
end L2
namespace L2
open PySem PySem.Spec PyProof.Rows
section
variable {X:Cx}{a:Addr}{D:List (Str×yyr)}
theorem zyx (T:ylr X.base a D):OpR X (yle .NotIn) (λx y H Q=>∃k,x = .str k∧y = .ref a∧Q (.bl (!KTD.inKeys k D)) H):=by
 intro pins s σ H x y v u Q I rx ry h;obtain⟨k,rfl,rfl,q⟩:=h;obtain⟨t,rfl⟩:=rx;cases ry;exact KTD.notin_text ⟨T,I.bk⟩ ⟨.bl _,H,I.tok _,rfl,q⟩
theorem zsmb (T:ylr X.base a D):IxR X (λx y H Q=>Ex2 λk i=>x = .ref a∧y = .str k∧ybp k D=some (.flat (.int i))∧Q (.int i) H):=by
 intro value slice pins s σ H x y v u Q I rx ry h hs;obtain⟨k,i,rfl,rfl,hd,q⟩:=h;cases rx;obtain⟨tk,rfl⟩:=ry;have T':KTD.Here X.base s.heap a D:=⟨T,I.bk⟩;refine subscriptTail_builtin_flat T'.typeIs ytg.lookup ?_ hs;unfold yun
 try with_reducible refine ycc ?_
 refine yba (yhj T'.typeIs (by decide) ?_);refine yba (yhf (name:=yhi "__getitem__") T'.typeIs ytg
  (yxd ytg T'.typeIs entry_dict_getitem ?_ (args_dict_getitem _ _)))
 show wpAny _ _ (dictGet a (.str k tk) >>= _) _ _ s
 refine yba (KTD.dictGet_text T' (λd v ha hv=>?_) λhn=>?_)
 ·rw[hd] at ha;cases ha;have hv':Reads s.heap v (.int i) []:=hv s.heap;obtain⟨t,rfl⟩:∃t,v=Value.int i t:=by
   cases hv' with
   | int _ t=>exact⟨t,rfl⟩
  have fin:EP X pins σ Q (.int i t) { s with toks:=s.toks+1 }:=⟨.int i,H,I.tok _,⟨t,rfl⟩,q⟩;exact yea ⟨Value.int i t,rfl,yea ⟨λb z=>(nomatch z),fin⟩⟩
 ·rw[hd] at hn;cases hn
end
end L2
namespace L2
open PySem PySem.Spec PyProof.Rows
section
variable {X:Cx}
@[irreducible] def rStrAny:List V->Hp->VK->Prop:=λxs H Q=>(∃x,xs=[.str x]∧Q (.str x) H)∨∃i:Int,xs=[.int i]∧i.natAbs.log2<1920∧Q (.str (toString i)) H
theorem zal:zwf X (.type "str") rStrAny:=by
 intro pins s σ H xs us Q I r h;unfold rStrAny at h
 rcases h with h|h
 ·exact zlz pins s σ H xs us Q I r h
 ·exact zzk pins s σ H xs us Q I r h
end
end L2
namespace L2
open PySem PySem.Spec PyProof.Rows
section
variable (K:yda){X:Cx}{a b o e:Expr}{es:List Expr}{ta tb to te:TE}{t:TA}{name f:Str}{apos cpos pos:Pos}{T id:String}{r:V->List V->Hp->VK->Prop}
theorem zpdb (hK:X.K=K:=by rfl):IxR X (rIxL K):=hK▸zwa
theorem zow (hK:X.K=K:=by rfl):zwf X (.type "list") (λxs H Q=>Ex2 λp ys=>xs=[.ref p]∧(SqL K H p ys∨SqT K H p ys)∧∀l,H l=none->Q (.ref l) (upd H l (.lst ys))):=hK▸zbl
theorem zlg (hK:X.K=K:=by rfl):zwf X (.type "tuple") (λxs H Q=>Ex2 λp ys=>xs=[.ref p]∧((SqL K H p ys∧∀l,H l=none->Q (.ref l) (upd H l (.tup ys)))∨(SqT K H p ys∧Q (.ref p) H))):=hK▸zbb
end
end L2
namespace SSet
open PySem PySem.Spec PyProof.Rows
theorem zlrb (t:ymc)(n:Nat):(t.orStandIn n).led=t.led∧(t.plain=false->(t.orStandIn n).plain=false):=by
 unfold ypp
 split
 ·exact⟨rfl,id⟩
 ·exact⟨rfl,λ_=>rfl⟩
theorem zuhb (t:ymc)(es:Array (Int×Value))(h:Int)(x:Value):(layNew t es h x).2.1.led=t.led:=by
 unfold layNew
 split
 ·exact (zlrb _ _).1
 ·rfl
theorem zty (t:ymc)(es:Array (Int×Value))(k:Nat):(ybi t es k).2.1.led=t.led∧(t.plain=false->(ybi t es k).2.1.plain=false):=by
 unfold ybi
 split
 ·rename_i u order e;have q:u.led=t.led∧u.plain=t.plain:=by
   unfold ymr yqi at e;simp only[bind,Option.bind,pure] at e
   split at e
   ·cases e
   ·injection e with e
    injection e with e _
    rw[← e];exact⟨rfl,rfl⟩
  dsimp only
  split
  ·exact⟨q.1,λz=>q.2.trans z⟩
  ·exact⟨rfl,λ_=>rfl⟩
 ·exact⟨rfl,λ_=>rfl⟩
def SS (prog:yvb)(w:World)(h:Heap)(a:Addr)(D:List Str)(b:Bool):Prop :=
 ∃o es ep t,h.get? a=some o∧o.ExactSet∧o.data = .set es ep t∧ypk (ydc prog w) es.toList∧(es.toList.map λe=>strOf e.2).Perm D∧es.size<yuf∧t.fits es.size=true∧t.led=b∧(es.size=0∨t.plain=false)
section
variable {prog:yvb}{w:World}{A:Around}{E:Value->Shared->Prop}{s:Shared}
theorem SS.keep {h h':Heap}{a:Addr}{D:List Str}{b:Bool}(x:SS prog w h a D b)(k:∀o,h.get? a=some o->h'.get? a=some o):SS prog w h' a D b:=by
 obtain⟨o,es,ep,t,ho,r⟩:=x;exact⟨o,es,ep,t,k _ ho,r⟩
theorem zwib {es:List (Int×Value)}(h:ypk (ydc prog w) es){e:Int×Value}(he:e∈es):∃x t,e.2 = .str x t∧e.1=(ydc prog w).hash x:=by
 obtain⟨⟨k,hk,hh⟩,_⟩:=h e he;obtain⟨t,et⟩:=yjk (x:=k) (v:=e.2) hk;exact⟨k,t,et,hh⟩
theorem zfm {es:List (Int×Value)}{D:List Str}{x:Str}(hel:ypk (ydc prog w) es)(hp:(es.map λe=>strOf e.2).Perm D) :
  x∈D↔∃e∈es,(ydc prog w).is x e.2=true:=by
 rw[← hp.mem_iff,yac]
 constructor
 ·rintro⟨e,he,rfl⟩;obtain⟨y,t,e1,_⟩:=zwib hel he;refine⟨e,he,?_⟩;rw[e1];show yrh y (.str y t)=true
  simp[yrh]
 ·rintro⟨e,he,hi⟩;obtain⟨t,e1⟩:=yjk (x:=x) (v:=e.2) hi;exact⟨e,he,by rw[e1];rfl⟩
theorem zucb {g:Bool->Sem Unit}(hg:∀(b:Bool) (s₁:Shared) (Q':Unit->Shared->Prop),Q' () s₁->wpAny (model prog w) A (g b) Q' E s₁)
  {a:Addr} {o:Obj} {es:Array (Int×Value)} {ep:Nat} {t:ymc} (ho:s.heap.get? a=some o) (hex:o.ExactSet) (hd:o.data = .set es ep t)
  {fs:Array (Int×Value)} {u:ymc} {D:List Str} {b:Bool} (hel:ypk (ydc prog w) fs.toList) (hp:(fs.toList.map λe=>strOf e.2).Perm D) (hb:fs.size<yuf) (hf:u.fits fs.size=true) (hl:u.led=b) (hpl:u.plain=false)
  {dm:Bool} {R:Option Bool->Shared->Prop} (h:∀h',yrd a s.heap h'->SS prog w h' a D b->R (some true) { s with heap:=h' }) :
  wpAny (model prog w) A (do
    ywm a fs u
    if (!dm&&u.tooFull)=true then do
        g (ybi u fs (ygd fs.size)).2.2
        ywm a (ybi u fs (ygd fs.size)).1 (ybi u fs (ygd fs.size)).2.1
        pure (some true)
     else pure (some true)) R E s:=by
 have lim:∀{n:Nat},n<yuf->n≤yza:=λz=>ynf z;refine yba (yof ho hd ?_ (lim hb));have k1:(s.heap.update a (ypf fs u)).get? a=some { o with data:=.set fs (ep+1) u }:=by
  have z:=ywc (ypf fs u) ho (by rw[yri fs u hd];rfl);rw[yri fs u hd] at z;exact z
 have b1:=yse s.heap a (ypf fs u)
 split
 ·have p2:=relayAll_perm u fs (ygd fs.size);have f2:=relayAll_fits u fs (ygd fs.size);obtain⟨l2,q2⟩:=zty u fs (ygd fs.size);generalize ybi u fs (ygd fs.size)=R2 at p2 f2 l2 q2 ⊢;obtain⟨fs2,u2,gv⟩:=R2;dsimp only at p2 f2 l2 q2 ⊢;have z2:fs2.size=fs.size:=by rw[← yga,p2.length_eq,yga]
  refine yba (hg _ _ _ ?_);refine yba (yof k1 rfl ?_ (lim (by rw[z2];exact hb)));have k2:((s.heap.update a (ypf fs u)).update a (ypf fs2 u2)).get? a=some { o with data:=.set fs2 (ep+1+1) u2 }:=by
   have z:=ywc (ypf fs2 u2) k1 (by rw[yri fs2 u2 rfl];rfl);rw[yri fs2 u2 rfl] at z;exact z
  exact yea (h _ (b1.trans (yse _ a _)) ⟨_,fs2,_,u2,k2,hex,rfl,yzn hel p2,(p2.map _).trans hp,by rw[z2];exact hb,f2,l2.trans hl,.inr (q2 hpl)⟩)
 ·exact yea (h _ b1 ⟨_,fs,_,u,k1,hex,rfl,hel,hp,hb,hf,hl,.inr hpl⟩)
theorem add_str {a:Addr}{D:List Str}{b:Bool}{x:Str}{tk:Tok}{Q:Bool->Shared->Prop}(hS:SS prog w s.heap a D b)(hroom:D.length+1<yuf)
  (h:∀h' r,yrd a s.heap h'->SS prog w h' a (if x∈D then D else D++[x]) b->Q r { s with heap:=h' }) :
  wpAny (model prog w) A (ysj a (.str x tk) ((ydc prog w).hash x)) Q E s:=by
 obtain⟨o,es,ep,t,ho,hex,hd,hel,hp,hb,hf,hl,hpl⟩:=hS;have key:(ydc prog w).is x (.str x tk)=true:=by
  show yrh x (.str x tk)=true
  simp[yrh]
 have hz:es.size=D.length:=by rw[← hp.length_eq,yaa,yga]
 unfold ysj setAddHashedIn;refine ycc (yba (yjb ho hd hf ?_));dsimp only;rw[byScan_of (x:=.str x tk) rfl hb hel];simp only[↓reduceIte];unfold setAddByScan;refine yba (yba (ykj (yba (wpAny_setScan_of key ho hd hf hel ?_))));have mi:=zfm (x:=x) hel hp;cases hr:List.findIdx? (λe=>(ydc prog w).is x e.2) es.toList with
 | some j =>
  obtain⟨hj,hpj,_⟩:=ysi.mp hr;have hin:x∈D:=mi.mpr ⟨_,yen hj,hpj⟩;dsimp only;refine yea (yea ?_);have z:=h s.heap false (ysg a s.heap);rw[if_pos hin] at z;exact z ⟨o,es,ep,t,ho,hex,hd,hel,hp,hb,hf,hl,hpl⟩
 | none =>
  have hno:¬ x∈D:=λhin=>by
   obtain⟨e,he,hi⟩:=mi.mp hin;have z:=yql.mp hr e he;rw[hi] at z;cases z
  simp only[if_neg hno] at h;dsimp only;have p1:=layNew_perm t es ((ydc prog w).hash x) (.str x tk);have f1:=layNew_fits t es ((ydc prog w).hash x) (.str x tk);have l1:=zuhb t es ((ydc prog w).hash x) (.str x tk);generalize layNew t es ((ydc prog w).hash x) (.str x tk)=L at p1 f1 l1 ⊢;obtain⟨fs,u,dm,gave⟩:=L;dsimp only at p1 f1 l1 ⊢;rw[ylj] at p1;have el1:ypk (ydc prog w) fs.toList:=(hel.push key rfl).perm p1;have pp:(fs.toList.map λe=>strOf e.2).Perm (D++[x]):=by
   refine (p1.map _).trans ?_;rw[yua];exact ydr hp (ypj _)
  have z1:fs.size=D.length+1:=by rw[← yga,p1.length_eq,yfa,yga,hz];rfl
  have give:∀(c:Bool) (s₁:Shared) (Q':Unit->Shared->Prop),Q' () s₁->wpAny (model prog w) A (match c with|true=>rule "set.scan.the-table-gave-way"|false=>pure ()) Q' E s₁:=λc s₁ Q' q=>by
   cases c
   ·exact yea q
   ·exact ykj q
  refine yba (give _ _ _ ?_)
  split
  ·refine yba ?_;rw[yao 8 (x:=.str x tk) rfl];refine yea ?_;refine zucb (b:=b) (D:=D++[x]) give ho hex hd el1 pp (by omega) (ymc.fits_plain_off f1) (l1.trans hl) rfl ?_;intro h' sb S';exact yea (h h' _ sb S')
  ·rename_i np;refine yba (yea ?_);simp only[↓reduceIte];refine zucb (b:=b) (D:=D++[x]) give ho hex hd el1 pp (by omega) f1 (l1.trans hl) (by simpa using np) ?_;intro h' sb S';exact yea (h h' _ sb S')
def dd (xs:List Str):List Str:=xs.foldl (λD x=>if x∈D then D else D++[x]) []
theorem zxk (xs:List Str)(x:Str):dd (xs++[x])=if x∈dd xs then dd xs else dd xs++[x]:=by
 unfold dd;rw[ygq];rfl
theorem zqbb:∀n (xs:List Str),(dd (xs.take n)).length≤n
 | 0,xs=>yja 0
 | n+1,xs=>by
  have ih:=zqbb n xs;rw[yfb];cases e:xs[n]? with
  | none =>
   rw[yqp,yad];omega
  | some x =>
   rw[yfc,zxk]
   split
   ·omega
   ·rw[yfa,yub];omega
theorem zkq {R:Result->Shared->Prop}{I S:Addr}{fp wr:List Addr}{n:Nat}{P:Nat->Value->Prop}{St:Nat->Heap->Prop}{b:Bool}(W:Walks prog w A.in1 I fp wr n P St)(hSf:S∉fp)(xs:List Str)
  (hval:∀i v,P i v->∃x t,xs[i]?=some x∧v = .str x t) (hn:n+1<yuf) :
  ∀(k i:Nat) (s:Shared),n-i=k->i≤n->St i s.heap->SS prog w s.heap S (dd (xs.take i)) b →
   (∀h' tk,SS prog w h' S (dd (xs.take n)) b->(∀c o,c∉S::wr->s.heap.get? c=some o->h'.get? c=some o)->R (.ok (.ret .none)) { s with heap:=h',toks:=tk }) →
   yfj (model prog w) A (.builtin "set.update.loop" ⟨[.ref S,.ref I],[]⟩) R s:=by
 have nw:S∉wr:=λz=>hSf (W.sub _ z);intro k
 induction k with
 | zero =>
  intro i s hk hi st hS hR;obtain rfl:i=n:=by omega
  refine ypc yee ?_;rw[ytc yjc _];show wpAny _ A.in1 (pyNext (.ref I) >>= _) _ _ s
  refine yba (W.done s _ _ st λh' tk keep=>?_);show wpAny _ A.in1 (ret Value.none) _ _ _
  exact yea (hR h' tk (hS.keep λo e=>keep S o nw e) λc o hc e=>keep c o (λz=>hc (ysa _ z)) e)
 | succ k ih =>
  intro i s hk hi st hS hR;have hlt:i<n:=by omega
  refine ypc yee ?_;rw[ytc yjc _];show wpAny _ A.in1 (pyNext (.ref I) >>= _) _ _ s
  refine yba (W.item i s _ _ hlt st λv h1 tk hP st1 keep=>?_);obtain⟨x,t,hx,rfl⟩:=hval i v hP;have hS1:SS prog w h1 S (dd (xs.take i)) b:=hS.keep λo e=>keep S o nw e;show wpAny _ A.in1 (ysm [Value.str x t] (setAdd S (.str x t)) >>= _) _ _ _
  refine yba (ycc ?_);unfold setAdd;refine ycc (yba ((ydc prog w).pyHash (k:=x) (by show yrh x (.str x t)=true;simp[yrh]) ?_));have hle:=zqbb i xs;refine add_str (b:=b) (D:=dd (xs.take i)) (s:={ s with heap:=h1,toks:=tk+1 }) hS1 (by omega) λh2 r sb S2=>?_;have e2:(if x∈dd (xs.take i) then dd (xs.take i) else dd (xs.take i)++[x])=dd (xs.take (i+1)):=by
   rw[yfb,hx,yfc,zxk]
  rw[e2] at S2;refine yea ⟨ywe yjc _,ih (i+1) _ (by omega) hlt (W.frame _ h1 _ st1 λc hc o e=>?_) S2 λh3 tk3 S3 keep3=>?_⟩
  ·rw[sb.2 c (λz:c=S=>hSf (by rw[← z];exact hc))];exact e
  ·refine hR h3 tk3 S3 λc o hc e=>keep3 c o hc ?_;show h2.get? c=some o
   rw[sb.2 c (λz:c=S=>hc (by rw[z];exact yqa))];exact keep c o (λz=>hc (ysa _ z)) e
abbrev empt (w:World):Obj:={ cls:=.type "set",dict:=none,data:=.set #[] 0 (.fresh 0 0 (!w.params.followText "set-order")) }
theorem zgbb (v:Value){Q1:Value->Shared->Prop}(h:Q1 (.ref s.heap.objs.size) { s with heap:=s.heap.push (empt w) }) :
  yfj (model prog w) A (.call (.builtin "set.__new__") ⟨[.type "set",v],[]⟩) (wants Q1 E) s:=by
 refine yqk ?_;have sb:=ytq;show wpAny _ A.in1 (checkBuiltinCall "set.__new__" ⟨[.type "set",v],[]⟩ >>= λ_=>again (.builtin "set.__new__" ⟨[.type "set",v],[]⟩)) _ _ s
 refine yba (wpAny_of_eq (PySem.F.newCall_set_1 v) (yea ⟨ywe ybo _,ypc PySem.F.entry_set_new ?_⟩));rw[ytc ybo _];obtain⟨hp,gn,dr,tk,os⟩:=s;unfold yye.«set.__new__»;unfold yye.Frozenset.newClass;dsimp only
 wp_walk
 refine yzc (yea ?_);dsimp only[newObj];refine yba (wpAny_alloc (yea (yea ?_)));exact h
theorem zsab:∀{us:List Value} {xs:List Str},ypl us xs->∀(i:Nat) (v:Value),us[i]?=some v->∃x t,xs[i]?=some x∧v = .str x t
 | _,_,.nil,i,v,e=>by simp at e
 | _,_,.cons x t r,0,v,e=>by
  rw[yyd] at e;cases e;exact⟨x,t,rfl,rfl⟩
 | _,_,.cons x t r,i+1,v,e=>by
  rw[yrb] at e;obtain⟨y,u,h1,h2⟩:=zsab r i v e;exact⟨y,u,by rw[yrb];exact h1,h2⟩
theorem zpbb (h:Heap):SS prog w (h.push (empt w)) h.objs.size [] (!w.params.followText "set-order") :=
 ⟨_,#[],0,_,yla _ rfl,⟨rfl,rfl,rfl⟩,rfl,λe he=>by simp at he,.nil,by decide,by rfl,rfl,.inl rfl⟩
theorem set_list {l:Addr}{its:Array Value}{xs:List Str}{Q:Value->Shared->Prop}(hh:A.handled=none)(hl:s.heap.IsList l its)(hi:ypl its.toList xs)(hb:its.size+1<yuf)
  (h:∀(h':Heap) (tk:Nat),SS prog w h' s.heap.objs.size (dd xs) (!w.params.followText "set-order")->(∀c o,s.heap.get? c=some o->h'.get? c=some o)->Q (.ref s.heap.objs.size) { s with heap:=h',toks:=tk }) :
  wpAny (model prog w) A (call (.type "set") [.ref l]) Q E s:=by
 obtain⟨cM,tM,mro⟩:=yeb.mro;have made:=yeb.made;have subs:=yeb.sub;have notT:=yeb.notType;have canC:=yeb.canCreate;have chk:=yzi (.ref l);refine ydm (yqk ?_);show wpAny _ _ (callAny (.type "set") ⟨[.ref l],[]⟩) _ _ _
 refine yea ⟨yti _ (by decide +kernel),ypc yui ?_⟩;rw[yil (ytj "set" [Value.ref l] []) rfl]
 repeat (any_goals (first|assumption|wp_step))
 refine yeg (zgbb (.ref l) (E:=E) (Q1:=λob s1=>ob = .ref s.heap.objs.size∧s1={ s with heap:=s.heap.push (empt w) }) ⟨rfl,rfl⟩) λr s1 hr=>?_;cases r with
 | error e=>exact hr
 | ok fl =>
  cases fl with
  | ret ob =>
   obtain⟨rfl,rfl⟩:=hr;have g0:(s.heap.push (empt w)).get? s.heap.objs.size=some (empt w):=yla _ rfl;have ty0:yuh { s with heap:=s.heap.push (empt w) } (.ref s.heap.objs.size) "set":=⟨_,g0,rfl⟩;have lk:=yeb.init.lookup;have bd:=yeb.init.bind (.ref s.heap.objs.size)
   repeat (any_goals (first|assumption|wp_step))
   refine yeg (ywh (R:=wants (λr s2=>r = .none∧∃h' tk,s2={ s with heap:=h',toks:=tk }∧SS prog w h' s.heap.objs.size (dd xs) (!w.params.followText "set-order") ∧
     (∀c o,s.heap.get? c=some o->h'.get? c=some o)) E) yeb.init.plain yaj (yfn ty0 ?_)) λr2 s2 hr2=>?_
   ·obtain⟨ol,e1,e2,nl,e3⟩:=hl;obtain⟨oc,od,oD,osl⟩:=ol;dsimp only at e2 e3;subst e2 e3;have e1':(s.heap.push (empt w)).get? l=some { cls:=.type "list",dict:=od,data:=.seq its nl,slots:=osl }:=yca _ e1;have q1:=PySem.F.sub_list_set;have q2:=PySem.F.sub_list_frozenset;have q3:(Value.type "list" == Value.type "dict")=false:=by decide
    have L1:(s.heap.push (empt w)).IsList l its:=⟨_,e1',rfl,nl,rfl⟩;have lt:l<s.heap.objs.size:=yra e1;unfold yye.«set.__init__» noKeywords yif;generalize hPI:pyIter=PI
    wp_walk
    subst hPI;refine yam L1 (yba (yzh ?_));have ne:l≠(s.heap.push (empt w)).objs.size:=by
     rw[ykd];exact yya (yzd lt)
    have nf:s.heap.objs.size∉[(s.heap.push (empt w)).objs.size,l]:=by
     rw[ykd];intro z
     rcases yma.mp z with z|z
     ·exact absurd z (yya (ydf _))
     ·exact absurd (yia.mp z) (ylf lt)
    have hv:∀(i:Nat) (v:Value),its[i]?=some v->∃x t,xs[i]?=some x∧v = .str x t:=λi v e=>zsab hi i v (by rw[ydb];exact e);have hx:xs.take its.size=xs:=yta (by rw[← yga,hi.length];exact yja _);refine zkq (b:=!w.params.followText "set-order") (Walks.list (by simp[hh]) _ l ne its) nf xs hv hb (its.size-0) 0 _ (by omega) (ytb _) ⟨⟨_,yla _ rfl,rfl,rfl⟩,L1.push _⟩ ?S0 ?R0
    case S0=>exact (zpbb s.heap).keep λo e=>yca _ e
    case R0 =>
     intro h' tk S' keep;rw[hx] at S';show wpAny _ _ _ _ _ _
     refine yea ?_;show wpAny _ _ (ret Value.none) _ _ _
     refine yea ⟨rfl,h',tk,rfl,S',λc o e=>?_⟩;have clt:=yra e;refine keep c o ?_ (yca _ (yca _ e));rw[ykd];intro z
     rcases yma.mp z with z|z
     ·exact absurd z (yya clt)
     ·exact absurd (yia.mp z) (yya (yzd clt))
   ·cases r2 with
    | error e=>exact hr2
    | ok fl2 =>
     cases fl2 with
     | ret r =>
      obtain⟨rfl,h',tk,rfl,S',keep⟩:=hr2
      repeat (any_goals (first|assumption|wp_step))
      exact h _ _ S' keep
     | next=>exact hr2.elim
     | brk=>exact hr2.elim
     | cont=>exact hr2.elim
  | next=>exact hr.elim
  | brk=>exact hr.elim
  | cont=>exact hr.elim
end
end SSet
namespace SSet
open PySem PySem.Spec PyProof.Rows
theorem zwq:Slot "set_iterator" "__next__" "set_iterator.__next__":=.of (owner:="set_iterator") (n:="__next__") (by rw[typeLookup_type,yco];kernel_rfl) (by decide +kernel) (by decide +kernel) (by decide +kernel) (by first|exact .inl (by decide +kernel)|exact .inr (by decide +kernel)) (by rw[yuo];kernel_rfl)
theorem zbpb:entryFor table "set_iterator.__next__" = some yye.«set_iterator.__next__»:=entryFor_of_fast (by kernel_rfl)
theorem zmpb (v:Value):argsOk "set_iterator.__next__" ⟨[v],[]⟩:=by unfold argsOk;kernel_rfl
theorem zvib:entryFor table "set.__iter__" = some yye.«frozenset.__iter__»:=yvo (id':="frozenset.__iter__") (by kernel_rfl) rfl (by decide +kernel) (by kernel_rfl)
theorem zpgb:Slot "set_iterator" "__iter__" "set_iterator.__iter__":=.of (owner:="set_iterator") (n:="__iter__") (by rw[typeLookup_type,yco];kernel_rfl) (by decide +kernel) (by decide +kernel) (by decide +kernel) (by first|exact .inl (by decide +kernel)|exact .inr (by decide +kernel)) (by rw[yuo];kernel_rfl)
theorem zapb:entryFor table "set_iterator.__iter__" = some yye.«dict_keyiterator.__iter__»:=yvo (id':="dict_keyiterator.__iter__") (by kernel_rfl) rfl (by decide +kernel) (by kernel_rfl)
theorem zlpb (v:Value):argsOk "set_iterator.__iter__" ⟨[v],[]⟩:=by unfold argsOk;kernel_rfl
def zww (h:Heap)(it a:Addr)(first:Value)(i n ep:Nat):Prop:=h.get? it=some { cls:=.type "set_iterator",dict:=none,data:=.fields #[first,rawInt i,.ref a,rawInt n,rawInt ep],slots:=#[] }
def SObj (h:Heap)(a:Addr)(es:Array (Int×Value))(ep:Nat)(t:ymc):Prop:=∃o,h.get? a=some o∧o.cls = .type "set" ∧ o.data = .set es ep t∧t.fits es.size=true
theorem SObj.keep {h h':Heap}{a:Addr}{es:Array (Int×Value)}{ep:Nat}{t:ymc}(x:SObj h a es ep t)(k:∀o,h.get? a=some o->h'.get? a=some o):SObj h' a es ep t:=by
 obtain⟨o,ho,r⟩:=x;exact⟨o,k _ ho,r⟩
section
variable {prog:yvb}{w:World}{A:Around}{E:Value->Shared->Prop}{s:Shared}
theorem zww.typeIs {it a:Addr}{f:Value}{i n ep:Nat}(h:zww s.heap it a f i n ep):s.TypeIs (.ref it) "set_iterator":=⟨_,h,rfl⟩
theorem zjx {Q:Option Value->Shared->Prop}{F:Fin->Shared->Prop}(hh:A.handled=none)(hQ:∀h',(∀b o,s.heap.get? b=some o->h'.get? b=some o)->Q none { s with heap:=h' }) :
  wpAny (model prog w) A.in1 (newExc (.type "StopIteration") [] >>= λx=>raiseNew x) F (λe s'=>wpAny (model prog w) A (do
     let b ← yhq e (Value.type "StopIteration")
     if b=true then pure none else throw e) Q E s') s:=by
 refine yba ?_;simp only[newExc,newTuple];refine yba (ymd ?_ (by size_fits));refine yba (m:=firstArgMember _ _) (wpAny_of_eq (a:=Value.none) (by first|rfl|(simp only[firstArgMember];rfl)) (ymd ?_ (by size_fits)));simp only[raiseNew];refine yba (wpAny_handled ?_);rw[show A.in1.handled=none from hh];refine yba (yea (wpAny_throw ?_));refine yba (wpAny_isInstance (b:=true) (T:="StopIteration") ⟨_,yla _ rfl,rfl⟩ isSubtype_stop ?_);exact yea (hQ _ λb o e=>yca _ (yca _ e))
theorem zsv {it a:Addr}{f:Value}{i n ep:Nat}{es:Array (Int×Value)}{t:ymc}{Q:Option Value->Shared->Prop}(hit:zww s.heap it a f i n ep)(hs:SObj s.heap a es ep t)(hn:es.size=n)
  (h:wpAny (model prog w) A.in1 (match f with
      | Value.int slot tok=>do
       let r ← yzj a slot.toNat i ep
       match r with
        | some (x,nx)=>do
         yrp (Value.ref it) 0 (rawInt nx)
         yrp (Value.ref it) 1 (rawInt ((i:Int)+1))
         ret x
        | none=>do
         yrp (Value.ref it) 2 Value.none
         let y ← newExc (Value.type "StopIteration") []
         raiseNew y
      | x=>do
       let r ← ysp f
       match r with
        | some places =>
         match places[i]? with
         | some (Value.int place tok)=>do
          let x ← setNextDrawn a place.toNat ep
          yrp (Value.ref it) 1 (rawInt ((i:Int)+1))
          ret x
         | some val=>yte "internal:set_iterator"
         | none=>do
          yrp (Value.ref it) 0 (rawInt 0)
          yrp (Value.ref it) 2 Value.none
          let y ← newExc (Value.type "StopIteration") []
          raiseNew y
        | x=>yte "internal:set_iterator")
   (λfin s'=>∃v,fin=Fin.done (Flow.ret v)∧wpAny (model prog w) A (pure (some v)) Q E s')
   (λe s'=>wpAny (model prog w) A (do
     let b ← yhq e (Value.type "StopIteration")
     if b=true then pure none else throw e) Q E s') s):wpAny (model prog w) A (pyNext (.ref it)) Q E s:=by
 obtain⟨oS,hoS,hcS,hdS,hf⟩:=id hs;unfold pyNext;refine yba (wpAny_attempt (yhf (name:=yhi "__next__") hit.typeIs zwq (yxd zwq hit.typeIs zbpb ?_ (zmpb _))));unfold yye.«set_iterator.__next__»;refine yba (yea ?_);refine yba (wpAny_fieldsOf hit rfl ?_);show wpAny _ _ (setEntries a >>= _) _ _ _
 refine yba (yrk hoS hdS hf ?_);rw[if_neg (by rw[hn];simp[rawInt])];exact h
theorem zcfb {it a tp:Addr}{i n ep:Nat}{es:Array (Int×Value)}{t:ymc}{pl:Array Value}{j:Nat}{tk:Tok}{e:Int×Value}{Q:Option Value->Shared->Prop}
  (hit:zww s.heap it a (.ref tp) i n ep) (hs:SObj s.heap a es ep t) (hn:es.size=n) (htp:IsTup s.heap tp pl) (hpl:pl[i]?=some (.int j tk)) (he:es[j]?=some e)
  (hQ:∀h',zww h' it a (.ref tp) (i+1) n ep->yrd it s.heap h'->Q (some e.2) { s with heap:=h' }):wpAny (model prog w) A (pyNext (.ref it)) Q E s:=by
 obtain⟨oS,hoS,hcS,hdS,hf⟩:=id hs;refine zsv hit hs hn ?_;dsimp only;obtain⟨oT,hoT,hcT,nT,hdT⟩:=htp;have sq:∀{Q':Option (Array Value)->Shared->Prop},Q' (some pl) s->wpAny (model prog w) A.in1 (ysp (.ref tp)) Q' (λe s'=>wpAny (model prog w) A (do
     let b ← yhq e (Value.type "StopIteration")
     if b=true then pure none else throw e) Q E s') s:=λq=>by
  unfold ysp;refine yba (yzl hoT ?_);rw[hdT];exact yea q
 refine yba (sq ?_);dsimp only;rw[hpl];dsimp only;rw[yib];unfold setNextDrawn;refine yba (yba (yjb hoS hdS hf ?_));dsimp only;rw[if_neg (by simp),he];refine yea ?_;refine yba (yfg hit (by simp) λh' g sb=>?_);refine yea ⟨_,rfl,yea (hQ h' ?_ sb)⟩;exact g
theorem zuib {it a tp:Addr}{i n ep:Nat}{es:Array (Int×Value)}{t:ymc}{pl:Array Value}{Q:Option Value->Shared->Prop}(hh:A.handled=none)
  (hit:zww s.heap it a (.ref tp) i n ep) (hs:SObj s.heap a es ep t) (hn:es.size=n) (htp:IsTup s.heap tp pl) (hpl:pl[i]?=none)
  (hQ:∀h',(∀b o,b≠it->s.heap.get? b=some o->h'.get? b=some o)->Q none { s with heap:=h' }):wpAny (model prog w) A (pyNext (.ref it)) Q E s:=by
 refine zsv hit hs hn ?_;dsimp only;obtain⟨oT,hoT,hcT,nT,hdT⟩:=htp;have sq:∀{Q':Option (Array Value)->Shared->Prop},Q' (some pl) s->wpAny (model prog w) A.in1 (ysp (.ref tp)) Q' (λe s'=>wpAny (model prog w) A (do
     let b ← yhq e (Value.type "StopIteration")
     if b=true then pure none else throw e) Q E s') s:=λq=>by
  unfold ysp;refine yba (yzl hoT ?_);rw[hdT];exact yea q
 refine yba (sq ?_);dsimp only;rw[hpl];dsimp only;refine yba (yfg hit (by simp) λh1 g1 sb1=>?_);refine yba (yfg g1 (by simp) λh2 g2 sb2=>?_);refine zjx hh λh' k=>hQ h' λb o nb e=>k b o ?_;show h2.get? b=some o
 rw[sb2.2 b nb,sb1.2 b nb];exact e
end
end SSet
namespace SSet
open PySem PySem.Spec PyProof.Rows
theorem pull {α:Type}:∀{l:List α} {i:Nat} (h:i<l.length),(l[i]::l.eraseIdx i).Perm l
 | [],i,h=>by simp at h
 | x::r,0,h=>ypj _
 | x::r,i+1,h=>by
  have ih:=pull (l:=r) (i:=i) (by simpa using h);exact (ytp.swap x _ _).trans (ytp.cons x ih)
theorem zdhb {α:Type}(nx:Nat->Nat):∀(k j:Nat) (left:List α) (out:Array α),left.length=k->(yjl nx k j left out).toList.Perm (out.toList++left)
 | 0,j,left,out,h=>by
  have e:left=[]:=ygh.mp h;subst e;rw[yad];exact ypj _
 | k+1,j,left,out,h=>by
  have hlt:nx j % left.length<left.length:=yiq _ (by omega);unfold yjl;rw[ylb hlt];dsimp only;refine (zdhb nx k (j+1) _ _ (by rw[ycl hlt];omega)).trans ?_;rw[ylj,ydd];exact ytp.append_left _ (pull hlt)
theorem ztx {α:Type}(nx:Nat->Nat)(xs:Array α):(ygf nx xs).toList.Perm xs.toList:=by
 have q:=zdhb nx xs.size 0 xs.toList #[] (by simp);unfold ygf
 simpa using q
section
variable {prog:yvb}{w:World}{A:Around}{E:Value->Shared->Prop}{s:Shared}
theorem zlfb {src:Source}{n:Nat}{Q:Nat->Shared->Prop}(hn:n≠0)(h:∀i d,i<n->Q i { s with drawn:=d }):wpAny (model prog w) A (choose src n) Q E s:=fun Γ p hΓ=>by
 unfold choose;show Sem.wp _ _ (.choose src n .pure) _ _ _ _
 rw[Sem.wp_choose];exact⟨hn,h _ _ (yiq _ (by omega))⟩
theorem zgw {α:Type}:∀(n:Nat) (xs:List α) (s:Shared) (Q:List α->Shared->Prop),xs.length=n->(∀ys d,ys.Perm xs->Q ys { s with drawn:=d })->wpAny (model prog w) A (drawOrder n xs) Q E s
 | 0,xs,s,Q,hl,h=>by
  have e:xs=[]:=ygh.mp hl;subst e;exact yea (h [] s.drawn (ypj _))
 | n+1,[],s,Q,hl,h=>by cases hl
 | n+1,x::r,s,Q,hl,h=>by
  unfold drawOrder;refine yba (zlfb (by simp) λi d hi=>?_);rw[ylb hi];dsimp only;refine yba (zgw n _ _ _ (by rw[ycl hi];omega) λys d2 hp=>?_);exact yea (h _ d2 ((ytp.cons _ hp).trans (pull hi)))
theorem zyy {it a:Addr}{f:Value}{i n ep:Nat}{Q:Value->Shared->Prop}(hit:zww s.heap it a f i n ep)(h:Q (.ref it) s):wpAny (model prog w) A (pyIter (.ref it)) Q E s:=by
 refine yjm hit.typeIs zpgb (yxd zpgb hit.typeIs zapb ?_ (zlpb _));show wpAny _ _ (ret (Value.ref it)) _ _ s
 exact yea ⟨_,rfl,"set_iterator",_,hit.typeIs,zwq.lookup,h⟩
theorem zrq (hh:A.handled=none){it a tp:Addr}(h1:a≠it)(h2:tp≠it)(es:Array (Int×Value))(ep:Nat)(t:ymc)(js:List Nat)(hl:js.length=es.size)(hj:∀j∈js,j<es.size) :
  Walks prog w A it [it,a,tp] [it] es.size (λi v=>∃j e,js[i]?=some j∧es[j]?=some e∧v=e.2) (λi h=>zww h it a (.ref tp) i es.size ep∧SObj h a es ep t∧IsTup h tp (js.map λ(j:Nat)=>rawInt j).toArray) where
 sub:=λb hb=>by
  have e:b=it:=by simpa using hb
  rw[e];exact yqa
 frame:=λi h h' st k=>⟨k it (by simp) _ st.1,st.2.1.keep λo e=>k a (by simp) o e,let ⟨o,e,r⟩:=st.2.2;⟨o,k tp (by simp) o e,r⟩⟩
 item:=λi s Q E hi st hQ=>by
  have hi':i<js.length:=by omega
  have ej:js[i]?=some js[i]:=ylb hi';have hlt:js[i]<es.size:=hj _ (yen hi');have ee:es[js[i]]?=some es[js[i]]:=ynb hlt;refine zcfb (j:=js[i]) (tk:=0) (e:=es[js[i]]) st.1 st.2.1 rfl st.2.2 ?_ ee λh' g sb=>?_
  ·rw[ydo,yna,ej];rfl
  ·exact hQ _ h' s.toks ⟨_,_,ej,ee,rfl⟩ ⟨g,st.2.1.keep λo e=>(sb.2 a h1).trans e,let ⟨o,e,r⟩:=st.2.2;⟨o,(sb.2 tp h2).trans e,r⟩⟩ λb o hb e=>(sb.2 b λz=>hb (by rw[z];exact yqa)).trans e
 done:=λs Q E st hQ=>by
  refine zuib hh st.1 st.2.1 rfl st.2.2 ?_ λh' k=>hQ h' s.toks λb o hb e=>k b o (λz=>hb (by rw[z];exact yqa)) e;rw[ydo,yna,yze (by omega)];rfl
 self:=λi s Q E st h=>zyy st.1 h
theorem zbn (hh:A.handled=none){it a:Addr}(h1:a≠it)(es:Array (Int×Value))(ep:Nat)(t:ymc)(ord:List Value)(R:Nat->Nat->Prop)
  (hs:∀(A:Around) (E:Value->Shared->Prop) (i slot:Nat) (s:Shared) (Q:Option (Value×Nat)->Shared->Prop),i<es.size->R slot i->SObj s.heap a es ep t->(∀x nx,ord[i]?=some x->R nx (i+1)->Q (some (x,nx)) s)->wpAny (model prog w) A (yzj a slot i ep) Q E s)
  (he:∀(A:Around) (E:Value->Shared->Prop) (slot:Nat) (s:Shared) (Q:Option (Value×Nat)->Shared->Prop),R slot es.size->SObj s.heap a es ep t->Q none s->wpAny (model prog w) A (yzj a slot es.size ep) Q E s) :
  Walks prog w A it [it,a] [it] es.size (λi v=>ord[i]?=some v) (λi h=>(∃slot:Nat,zww h it a (rawInt slot) i es.size ep∧R slot i)∧SObj h a es ep t) where
 sub:=λb hb=>by
  have e:b=it:=by simpa using hb
  rw[e];exact yqa
 frame:=λi h h' ⟨⟨slot,g,r⟩,so⟩ k=>⟨⟨slot,k it (by simp) _ g,r⟩,so.keep λo e=>k a (by simp) o e⟩
 item:=λi s Q E hi st hQ=>by
  obtain⟨⟨slot,g,r⟩,so⟩:=st;refine zsv g so rfl ?_;show wpAny _ _ (yzj a ((slot:Int).toNat) i ep >>= _) _ _ _
  rw[yib];refine yba (hs _ _ i slot s _ hi r so λx nx hx r'=>?_);dsimp only;refine yba (yfg g (by simp) λh2 g2 sb2=>?_);refine yba (yfg g2 (by simp) λh3 g3 sb3=>?_);have sb:∀b,b≠it->h3.get? b=s.heap.get? b:=λb nb=>(sb3.2 b nb).trans (sb2.2 b nb);refine yea ⟨_,rfl,yea (hQ _ h3 s.toks hx ⟨⟨nx,g3,r'⟩,so.keep λo e=>(sb a h1).trans e⟩ λb o hb e=>(sb b λz=>hb (by rw[z];exact yqa)).trans e)⟩
 done:=λs Q E st hQ=>by
  obtain⟨⟨slot,g,r⟩,so⟩:=st;refine zsv g so rfl ?_;show wpAny _ _ (yzj a ((slot:Int).toNat) es.size ep >>= _) _ _ _
  rw[yib];refine yba (he _ _ slot s _ r so ?_);dsimp only;refine yba (yfg g (by simp) λh2 g2 sb2=>?_);refine zjx hh λh' k=>hQ h' s.toks λb o hb e=>k b o ?_;exact (sb2.2 b λz=>hb (by rw[z];exact yqa)).trans e
 self:=λi s Q E ⟨⟨slot,g,_⟩,_⟩ h=>zyy g h
end
end SSet
namespace SSet
open PySem PySem.Spec PyProof.Rows
theorem zdj {α:Type}{vs ord:List α}(hl:vs.length=ord.length)(h:∀(i:Nat) v,vs[i]?=some v->ord[i]?=some v):vs=ord:=by
 refine yjq λi=>?_
 by_cases hi:i<vs.length
 ·rw[ylb hi];exact (h i _ (ylb hi)).symm
 ·rw[yze (by omega),yze (by omega)]
section
variable {prog:yvb}{w:World}{A:Around}{E:Value->Shared->Prop}{s:Shared}
theorem zyj {es:List (Int×Value)}{D:List Str}{vs:List Value}(hel:ypk (ydc prog w) es)(hp:(es.map λe=>strOf e.2).Perm D)(hv:vs.Perm (es.map (·.2))):∃ys,ypl vs ys∧ys.Perm D:=by
 refine⟨vs.map strOf,strsAre_map vs λv hm=>?_,?_⟩
 ·obtain⟨e,he,rfl⟩:=yac.mp (hv.mem_iff.mp hm);obtain⟨x,t,e1,_⟩:=zwib hel he;exact⟨x,t,e1⟩
 ·refine (hv.map strOf).trans ?_;rw[yeo];exact hp
theorem znu {es:Array (Int×Value)}{js:List Nat}(hj:js.Perm (yuc es.size)){vs:List Value}(hl:vs.length=es.size)(h:∀(i:Nat) v,vs[i]?=some v->∃j e,js[i]?=some j∧es[j]?=some e∧v=e.2):vs.Perm (es.toList.map (·.2)):=by
 have ev:vs=js.map λj=>(es.toList.getD j (0,.none)).2:=by
  refine zdj (by rw[yaa,hj.length_eq,yke,hl]) λi v hv=>?_;obtain⟨j,e,h1,h2,rfl⟩:=h i v hv;rw[yna,h1];show some (es.toList.getD j (0,.none)).2=some e.2
  rw[yxa,ydb,h2];rfl
 rw[ev];refine (hj.map _).trans (ytp.of_eq ?_);refine zdj (by simp) λi v hv=>?_;rw[yna] at hv
 by_cases hi:i<es.size
 ·rw[ycp hi] at hv;have hv':(es.toList.getD i (0,.none)).2=v:=yvc hv;rw[yna,← hv',yxa,ylb (by simpa using hi)];rfl
 ·rw[yze (by simp;omega)] at hv;cases hv
theorem zmlb {a:Addr}{D:List Str}{Q:Value->Shared->Prop}(hh:A.handled=none)(hS:SS prog w s.heap a D (!w.params.followText "set-order"))
  (h:∀(h':Heap) (d':Drawn) (I:Addr) (n:Nat) (fp:List Addr) (P:Nat->Value->Prop) (St:Nat->Heap->Prop),(∀b o,s.heap.get? b=some o->h'.get? b=some o)->s.heap.objs.size≤I->(∀b∈fp,b=a∨s.heap.objs.size≤b) →
   Walks prog w A I fp [I] n P St->St 0 h'->n=D.length->(∀vs:List Value,vs.length=n->(∀(i:Nat) v,vs[i]?=some v->P i v)->∃ys,ypl vs ys∧ys.Perm D)->Q (.ref I) { s with heap:=h',drawn:=d' }) :
  wpAny (model prog w) A (pyIter (.ref a)) Q E s:=by
 obtain⟨o,es,ep,t,ho,hex,hd,hel,hp,hb,hf,hl,hpl⟩:=hS;have hT:s.TypeIs (.ref a) "set":=⟨o,ho,hex.1⟩;have so:SObj s.heap a es ep t:=⟨o,ho,hex.1,hd,hf⟩;have hz:es.size=D.length:=by rw[← hp.length_eq,yaa,yga]
 have alt:a<s.heap.objs.size:=yra ho;refine yjm hT yoh (yxd yoh hT zvib ?_ (yxm _));unfold yye.«frozenset.__iter__»;refine yba (m:=yym "__iter__" _) (yea ?_);refine yba (m:=ykm a) (yba (yrk ho hd hf (yea ?_)));refine yba (m:=setDrawn a) (yba (yjb ho hd hf (yba (m:=ycg) (yba (yzc (yea (yea ?_)))))));dsimp only;have jp:∀{first:Value} {h1:Heap} {d1:Drawn},SObj h1 a es ep t->Q (.ref h1.objs.size) { s with heap:=h1.push { cls:=.type "set_iterator",dict:=none,data:=.fields #[first,rawInt (0:Nat),.ref a,rawInt es.size,rawInt ep],slots:=#[] },drawn:=d1 } →
   wpAny (model prog w) A.in1 (do
    let e ← setEpoch a
    let v ← ynr "set_iterator" [first,rawInt 0,Value.ref a,rawInt es.size,rawInt e]
    ret v) (λfin s'=>∃v,fin=Fin.done (Flow.ret v)∧∃T' r,s'.TypeIs v T'∧typeLookup (Value.type T') (yhi "__next__")=pure (some r)∧Q v s') E { s with heap:=h1,drawn:=d1 }:=by
  intro first h1 d1 ⟨o1,e1,e2,e3,e4⟩ q
  refine yba (m:=setEpoch a) (yba (yjb e1 e3 e4 (yea ?_)));refine yba (m:=ynr _ _) (ymd (yea ⟨_,rfl,"set_iterator",_,⟨_,yla _ rfl,rfl⟩,zwq.lookup,?_⟩));exact q
 split
 ·rename_i hc;have hc':(!w.params.followText "set-order" && (!t.plain&&decide (es.size>1)))=true:=hc;refine yba (zgw es.size (yuc es.size) s _ (by simp) λjs d1 pj=>?_);refine yba (wpAny_newTuple ?_ (by rw[yaa,pj.length_eq,yke];exact ynf hb));have jl:js.length=es.size:=by rw[pj.length_eq,yke]
  have jm:∀j∈js,j<es.size:=λj hj=>ynl.mp (pj.mem_iff.mp hj);refine jp (so.keep λo e=>yca _ e) ?_;have sz:(s.heap.push { cls:=.type "tuple",data:=.seq (js.map λ(j:Nat)=>rawInt j).toArray }).objs.size=s.heap.objs.size+1:=ykd _ _;refine h _ d1 _ es.size _ _ _ (λb o e=>yca _ (yca _ e)) (by rw[sz];exact yhg _) ?_ (zrq (a:=a) (tp:=s.heap.objs.size) hh ?_ ?_ es ep t js jl jm) ⟨?_,?_,?_⟩ hz λvs hv hP=>zyj hel hp (znu pj hv hP)
  ·intro b hb';rw[sz] at hb'
   rcases yma.mp hb' with z|z
   ·exact .inr (by rw[z];exact yhg _)
   ·rcases yma.mp z with z|z
    ·exact .inl z
    ·exact .inr (by rw[yia.mp z];exact yja _)
  ·rw[sz];exact yya (yzd alt)
  ·rw[sz];exact yya (ydf _)
  ·exact yla _ rfl
  ·exact so.keep λo e=>yca _ (yca _ e)
  ·exact⟨_,yca _ (yla _ rfl),rfl,_,rfl⟩
 ·rename_i hc;have hc':¬ (!w.params.followText "set-order" && (!t.plain&&decide (es.size>1)))=true:=hc;refine yba (yea (jp (h1:=s.heap) (d1:=s.drawn) so ?_));have fpk:∀b∈[s.heap.objs.size,a],b=a∨s.heap.objs.size≤b:=λb hb'=>by
   rcases yma.mp hb' with z|z
   ·exact .inr (by rw[z];exact yja _)
   ·exact .inl (yia.mp z)
  have ne:a≠s.heap.objs.size:=yya alt;cases ft:w.params.followText "set-order" with
  | true =>
   have bt:∀{A':Around} {E':Value->Shared->Prop} {s':Shared} {Q':Bool->Shared->Prop},Q' true s'->wpAny (model prog w) A' ycg Q' E' s':=λ{A' E' s' Q'} q=>by
    unfold ycg;refine yba (yzc (yea ?_));show Q' (w.params.followText "set-order") s'
    rw[ft];exact q
   have stp:∀(A:Around) (E:Value->Shared->Prop) (i slot:Nat) (s:Shared) (Q:Option (Value×Nat)->Shared->Prop),SObj s.heap a es ep t->Q (((ygf (w.params.setOrder a ep) es)[i]?).map λe=>(e.2,slot)) s->wpAny (model prog w) A (yzj a slot i ep) Q E s:=by
    intro A E i slot s Q ⟨o1,e1,e2,e3,e4⟩ q;unfold yzj;refine yba (yjb e1 e3 e4 ?_);dsimp only;refine yba (bt ?_);rw[if_pos rfl,if_neg (by simp)];unfold setWalk;refine yba (yba (yjb e1 e3 e4 (yba (bt ?_))));rw[if_pos rfl];exact yba (yzc (yea (yea q)))
   have po:=ztx (w.params.setOrder a ep) es;have pz:(ygf (w.params.setOrder a ep) es).size=es.size:=(by rw[← yga,po.length_eq,yga]);refine h _ s.drawn _ es.size _ _ _ (λb o e=>yca _ e) (yja _) fpk (zbn (a:=a) hh ne es ep t ((ygf (w.params.setOrder a ep) es).toList.map (·.2)) (λslot _=>slot=0) ?_ ?_) ⟨⟨0,yla _ rfl,rfl⟩,so.keep λo e=>yca _ e⟩ hz λvs hv hP=>?_
   ·intro A E i slot s Q hi r so' q;have e1:(ygf (w.params.setOrder a ep) es)[i]?=some (ygf (w.params.setOrder a ep) es)[i]:=ynb (by omega);refine stp A E i slot s Q so' ?_;rw[e1];exact q _ _ (by rw[yna,ydb,e1];rfl) r
   ·intro A E slot s Q r so' q;refine stp A E _ slot s Q so' ?_;rw[yce (by omega)];exact q
   ·refine zyj hel hp ?_;have e1:vs=(ygf (w.params.setOrder a ep) es).toList.map (·.2):=zdj (by rw[hv,yaa,yga,pz]) hP;rw[e1];exact po.map _
  | false =>
   rw[ft] at hc' hl;have sm:es.size≤1:=by
    rcases hpl with z|z
    ·omega
    ·rw[z] at hc';simp at hc';exact hc'
   have bt:∀{A':Around} {E':Value->Shared->Prop} {s':Shared} {Q':Bool->Shared->Prop},Q' false s'->wpAny (model prog w) A' ycg Q' E' s':=λ{A' E' s' Q'} q=>by
    unfold ycg;refine yba (yzc (yea ?_));show Q' (w.params.followText "set-order") s'
    rw[ft];exact q
   have stp:∀(A:Around) (E:Value->Shared->Prop) (i slot:Nat) (s:Shared) (Q:Option (Value×Nat)->Shared->Prop),SObj s.heap a es ep t->Q (match es[yxb t.place slot]?,t.place[yxb t.place slot]? with|some (_,x),some j=>some (x,j+1)|_,_=>none) s->wpAny (model prog w) A (yzj a slot i ep) Q E s:=by
    intro A E i slot s Q ⟨o1,e1,e2,e3,e4⟩ q;unfold yzj;refine yba (yjb e1 e3 e4 ?_);dsimp only;refine yba (bt ?_);rw[if_neg (by simp)];have nd:¬ (!t.plain&&decide (es.size>1))=true:=by
     rw[decide_eq_false (by omega),yrl];exact ygb
    refine yaf (λz=>absurd z nd) (λ_=>?_);have nl:¬ (!t.led && !es.isEmpty)=true:=by
     rw[hl];simp
    refine yba (yaf (λz=>absurd z nl) (λ_=>yea ?_));exact yea q
   have ps:t.place.size=es.size:=by
    have z:=hf;unfold yvi at z;simp at z;exact z.1
   refine h _ s.drawn _ es.size _ _ _ (λb o e=>yca _ e) (yja _) fpk (zbn (a:=a) hh ne es ep t (es.toList.map (·.2)) (λslot i=>(i=0∧slot=0)∨(i=1∧∃j,t.place=#[j]∧slot=j+1)) ?_ ?_) ⟨⟨0,yla _ rfl,.inl ⟨rfl,rfl⟩⟩,so.keep λo e=>yca _ e⟩ hz λvs hv hP=>?_
   ·intro A E i slot s Q hi r so' q;have i0:i=0:=(by omega);subst i0;have s0:slot=0:=by
     rcases r with⟨_,z⟩|⟨z,_⟩
     ·exact z
     ·cases z
    subst s0;obtain⟨j,ej⟩:∃j,t.place=#[j]:=by
     rcases yfo.mp (show t.place.size=1 by omega) with⟨j,z⟩
     exact⟨j,z⟩
    have e1:es[0]?=some es[0]:=ynb hi;refine stp A E 0 0 s Q so' ?_;have bl:yxb t.place 0=0:=by
     rw[ej];simp[yxb,yqf]
    rw[bl,e1,ej];exact q _ _ (by rw[yna,ydb,e1];rfl) (.inr ⟨rfl,j,ej,rfl⟩)
   ·intro A E slot s Q r so' q;refine stp A E _ slot s Q so' ?_;have en:es[yxb t.place slot]?=none:=by
     rcases r with⟨z,y⟩|⟨z,j,ej,y⟩
     ·exact yce (by omega)
     ·have bl:yxb t.place slot=1:=by
       rw[ej,y];simp[yxb,yqf]
      rw[bl];exact yce (by omega)
    rw[en];exact q
   ·refine zyj hel hp ?_;have e1:vs=es.toList.map (·.2):=zdj (by rw[hv,yaa,yga]) hP;rw[e1]
end
end SSet
namespace SSet
open PySem PySem.Spec PyProof.Rows PySem.W
section
variable {prog:yvb}{w:World}{A:Around}{E:Value->Shared->Prop}{s:Shared}
theorem zrdb {r:Addr}{Q:Bool->Shared->Prop}(ty:s.TypeIs (.ref r) "set")(q:Q false s):wpAny (model prog w) A (ysk (.ref r)) Q E s:=by
 unfold ysk;refine yba (wpAny_specialOf ty PySem.F.slot_set_len.lookup ?_);generalize hx:("set.__len__":String)=nm
 wp_delta
 rw[show splitId nm=some ("set","__len__") from by subst hx;decide +kernel];subst hx;refine yba (wpAny_isInstance (b:=true) (T:="set") ty (by rw[yuo];kernel_rfl) ?_);refine yaf (λz=>absurd z (by decide)) (λ_=>?_);refine yaf (λ_=>?_) (λz=>absurd (by decide +kernel) z);exact yba (yii ty (yea q))
theorem zrbb {a:Addr}{D:List Str}{R:List Value->Shared->Prop}(hh:A.handled=none)(hS:SS prog w s.heap a D (!w.params.followText "set-order"))
  (h:∀(h':Heap) (d':Drawn) (tk:Nat) (vs:List Value) (ys:List Str),(∀b o,s.heap.get? b=some o->h'.get? b=some o)->s.heap.objs.size<h'.objs.size->ypl vs ys->ys.Perm D->R vs { s with heap:=h',drawn:=d',toks:=tk }) :
  wpAny (model prog w) A (yor (.ref a)) R E s:=by
 obtain⟨oA,hoA⟩:∃o,s.heap.get? a=some o:=let ⟨o,_,_,_,e,_⟩:=hS;⟨o,e⟩;have alt:a<s.heap.objs.size:=yra hoA;have dz:D.length≤yza:=by
  obtain⟨o,es,ep,t,_,_,_,_,hp,hb,_⟩:=hS;rw[← hp.length_eq,yaa,yga];exact ynf hb
 have nSa:s.heap.objs.size≠a:=ylf alt;unfold yor;refine yba (yzh (ypc ybk ?_));rw[ytc ytk _];show wpAny _ A.in1 (newList [] >>= λl=>again (.builtin "list.__iadd__" ⟨[l,.ref a],[]⟩)) _ _ s
 refine yba (ymd (yea ⟨ywe yhh _,ypc ygn ?_⟩));rw[ytc yhh _];show wpAny _ A.in1 (yud (.ref s.heap.objs.size) (.ref a) (.ref s.heap.objs.size)) _ _ _
 unfold yud;have S1:SS prog w (s.heap.push { cls:=.type "list",data:=.seq ([]:List Value).toArray }) a D (!w.params.followText "set-order"):=hS.keep λo e=>yca _ e;have g1:(s.heap.push { cls:=.type "list",data:=.seq ([]:List Value).toArray }).get? s.heap.objs.size=some { cls:=.type "list",dict:=none,data:=.seq #[] 0,slots:=#[] }:=yla _ rfl;have k1:∀b o,s.heap.get? b=some o->(s.heap.push { cls:=.type "list",data:=.seq ([]:List Value).toArray }).get? b=some o:=λb o e=>yca _ e;generalize s.heap.push { cls:=.type "list",data:=.seq ([]:List Value).toArray }=h1 at S1 g1 k1 ⊢;have ty1:yuh { s with heap:=h1 } (.ref a) "set":=by
  obtain⟨o,es,ep,t,ho,hex,_⟩:=S1;exact⟨o,ho,hex.1⟩
 refine yba (yii (T:="set") ty1 ?_);have ns:yug (.ref s.heap.objs.size) (.ref a)=false:=by simp[yug,nSa]
 simp only[ns,show (Value.type "set" == Value.type "list")=false by decide,show (Value.type "set" == Value.type "tuple")=false by decide,ynp,ypi,if_false];refine yba (zmlb (s:={ s with heap:=h1 }) (A:=A.in1) hh S1 λh2 d2 I n fp P St k2 hI hfp W st hn hv=>?_);have ty2:yuh { s with heap:=h2,drawn:=d2 } (.ref a) "set":=by
  obtain⟨o,e,c⟩:=ty1;exact⟨o,k2 _ _ e,c⟩
 have slt:s.heap.objs.size<h1.objs.size:=yra g1;have nf:s.heap.objs.size∉fp:=λz=>by
  rcases hfp _ z with z|z
  ·exact nSa z
  ·exact absurd (yva slt z) (yfe _)
 have key:∀(R':Result->Shared->Prop) (h3:Heap) (c:Nat),St 0 h3->(∀b o,b≠s.heap.objs.size->h2.get? b=some o->h3.get? b=some o)->h3.get? s.heap.objs.size=some { cls:=.type "list",dict:=none,data:=.seq #[] c,slots:=#[] } →
   (∀(h4:Heap) (tk:Nat) (vs:List Value) (ys:List Str) (c':Nat),(∀b o,s.heap.get? b=some o->h4.get? b=some o)->ypl vs ys->ys.Perm D->h4.get? s.heap.objs.size=some { cls:=.type "list",dict:=none,data:=.seq vs.toArray c',slots:=#[] }->R' (.ok (.ret (.ref s.heap.objs.size))) { s with heap:=h4,drawn:=d2,toks:=tk }) →
   yfj (model prog w) A (.builtin "list.extend.loop" ⟨[.ref s.heap.objs.size,.ref I,.ref s.heap.objs.size],[]⟩) R' { s with heap:=h3,drawn:=d2 }:=by
  intro R' h3 c st3 k3 g3 hR;refine codeAny_extend_loopS W.toS (by omega) s.heap.objs.size nf _ n 0 _ #[] c rfl (ytb _) st3 g3 (ItemsOf.nil _) λs' acc c' mv g' ia=>?_;rw[Moved.eq_with mv];obtain⟨ys,sy,py⟩:=hv acc.toList (by rw[yga];exact ia.1) λi v e=>ia.2 i v (by rw[← ydb];exact e);refine hR s'.heap s'.toks acc.toList ys c' (λb o e=>?_) sy py (by rw[yae];exact g');have nb:b≠s.heap.objs.size:=yya (yra e);refine mv.heap b o (λz=>?_) (k3 b o nb (k2 b o (k1 b o e)))
  rcases yma.mp z with z|z
  ·exact nb z
  ·have bi:b=I:=yia.mp z;have:=yra (k1 b o e);rw[bi] at this;exact absurd (yva this hI) (yfe _)
 have g2:=k2 _ _ g1;have fin:∀(h4:Heap) (tk:Nat) (vs:List Value) (ys:List Str) (c':Nat),(∀b o,s.heap.get? b=some o->h4.get? b=some o)->ypl vs ys->ys.Perm D->h4.get? s.heap.objs.size=some { cls:=.type "list",dict:=none,data:=.seq vs.toArray c',slots:=#[] } →
   wpAny (model prog w) A (load s.heap.objs.size >>= λo=>match o.data with
    | .seq xs _=>pure xs.toList
    | _=>yte "internal:collect") R E { s with heap:=h4,drawn:=d2,toks:=tk }:=λh4 tk vs ys c' k4 sy py g4=>by
  refine yba (yzl g4 ?_);show wpAny _ _ (pure vs.toArray.toList) _ _ _
  exact yea (h h4 d2 tk vs ys k4 (yra g4) sy py)
 refine yba (ycc (zrdb ty2 ?_));refine yaf (λ_=>?_) (λ_=>yea ⟨ywe yjg _,key _ h2 0 st (λb o _ e=>e) g2 fin⟩);refine yba (ykj (yba ?_));show wpAny _ _ (ypr s.heap.objs.size (·.push .none) >>= λ_=>ypr s.heap.objs.size (·.pop)) _ _ _
 refine yba (ywi g2 rfl ?_);have g3:=ywc (yre (·.push Value.none)) g2 rfl;refine ywi (hz:=by seq_fits) g3 rfl ?_;have g4:=ywc (yre (·.pop)) g3 rfl;refine yea ⟨ywe yjg _,key _ _ _ ?_ (λb o nb e=>?_) g4 fin⟩
 ·refine W.frame 0 _ _ st λb hb o e=>?_;have nb:s.heap.objs.size≠b:=λz=>nf (z▸hb);exact (yqc _ _ nb).trans ((yqc _ _ nb).trans e)
 ·exact (yqc _ _ (yqd nb)).trans ((yqc _ _ (yqd nb)).trans e)
theorem zpeb {a:Addr}{D:List Str}{Q:Value->Shared->Prop}(hh:A.handled=none)(hS:SS prog w s.heap a D (!w.params.followText "set-order"))(h64:D.length<64)
  (h:∀(h':Heap) (d':Drawn) (tk:Nat) (p:Addr) (vs:List Value) (ys:List Str) (n:Nat),(∀b o,s.heap.get? b=some o->h'.get? b=some o)->s.heap.objs.size≤p->h'.get? p=some { cls:=.type "list",data:=.seq vs.toArray n }->ypl vs ys->ys.Perm D->yuk ys=true →
   Q (.ref p) { s with heap:=h',drawn:=d',toks:=tk }):wpAny (model prog w) A (call (.builtin "sorted") [.ref a]) Q E s:=by
 refine yai kind_sorted yuq yvq (ywq _) ?_;unfold yye.«sorted»;refine yba (m:=checkCount "sorted" 1 1 _) (yea (yba (zrbb (A:=A.in1) hh hS λh1 d1 tk vs ys k1 lt1 sy py=>?_)));have vl:vs.length<64:=by rw[sy.length,py.length_eq];exact h64
 refine yba (yzm ?_ (ykb (yge vl) (by decide)));have g1:(h1.push (seqObj "list" vs.toArray 0)).get? h1.objs.size=some (seqObj "list" vs.toArray 0):=yla _ rfl;refine yba (ycc (yxd ywo ⟨_,g1,rfl⟩ ygo (list_sort_treeK strKind_oneLt g1 sy.keysOf (λv1 v2 rest e=>keyKind_strs (by rw[← e];exact sy)) vl λst' a1 a2=>⟨_,rfl,?_⟩) (yxo _)));obtain⟨zs,z1,z2,z3⟩:=sorted_out_str sy a1 a2;obtain⟨e,he⟩:=sortedHeap_at (vs:=vs) (out:=(arrOf st').map (·.2)) g1;refine yea ⟨_,rfl,h _ d1 tk h1.objs.size ((arrOf st').map (·.2)).toList zs e (λb o q=>?_) (yge lt1) ?_ z1 (z2.trans py) z3⟩
 ·have q1:=k1 b o q;have bl:=yra q1;rw[sortedHeap_old (yya bl) (by rw[size_push'];exact yzd bl)];exact yca _ q1
 ·rw[yae];exact he
end
end SSet
namespace L2
open PySem PySem.Spec PyProof.Rows
theorem strs_vals':∀{vs:List Value} {ys:List Str},ypl vs ys->Vals (ys.map V.str) vs
 | _,_,.nil=>.nil
 | _,_,.cons x t r=>.cons ⟨t,rfl⟩ (strs_vals' r)
def setO (X:Cx)(l:Addr)(D:List Str):HO:=.ext λh=>SSet.SS X.prog X.w h l D (!X.w.params.followText "set-order")
section
variable {X:Cx}
theorem Inv.zzgb {pins:List (Addr×Obj)}{σ:St}{H:Hp}{s:Shared}(I:Inv X pins σ H s)(d:Drawn):Inv X pins σ H { s with drawn:=d } :=
 I.call (h':=s.heap) (g':=s.gens) (d':=d) (t':=s.toks) (ch:=[]) (Un.kept λb o e=>e) I.hok I.bare (λb z=>absurd z (by simp))
theorem zzn (hc:X.calm=true):zwf X (.type "set") (λxs H Q=>Ex2 λp ys=>xs=[.ref p]∧SqL X.K H p (ys.map V.str)∧ys.length≤1000∧∀l,H l=none->Q (.ref l) (upd H l (setO X l (SSet.dd ys)))):=by
 intro pins s σ H xs us Q I r h;obtain⟨p,ys,rfl,hq,hy,q⟩:=h;obtain⟨u,rfl,ru⟩:=vals1 r;cases ru;obtain⟨its,rv,pl,hz⟩:=I.list hq;have sy:=zaj rv;have il:its.length=ys.length:=sy.length;refine SSet.set_list (xs:=ys) (I.ok.hd hc) pl.isList (by simpa using sy) (by rw[yoa,il];have:yuf=4096:=rfl;omega) λh' tk S k=>?_;have I1:Inv X pins σ (upd H s.heap.objs.size (setO X s.heap.objs.size (SSet.dd ys))) { s with heap:=h',toks:=tk }:=I.laid (t':=tk) (λb o e=>k b o e) (yja _) ⟨S,let ⟨o,_,_,_,e,_⟩:=S;⟨o,e⟩,λh1 h2 x y=>x.keep y⟩;exact⟨.ref s.heap.objs.size,_,I1,rfl,q _ (I.hok.fresh (yja _))⟩
theorem zyh (hc:X.calm=true):zwf X (.builtin "sorted") (λxs H Q=>Ex2 λl D=>xs=[.ref l]∧H l=some (setO X l D)∧D.length<64∧∀p ys,H p=none->ys.Perm D->yuk ys=true->Q (.ref p) (upd H p (.lst (ys.map V.str)))):=by
 intro pins s σ H xs us Q I r h;obtain⟨l,D,rfl,hl,h64,q⟩:=h;obtain⟨u,rfl,ru⟩:=vals1 r;cases ru;obtain⟨S,_,_⟩:=I.hok l _ hl;refine SSet.zpeb (I.ok.hd hc) S h64 λh' d' tk p vs ys n k hp g sy py so=>?_;have I0:=I.zzgb d';have vl:vs.length≤yza:=by
  rw[sy.length,py.length_eq];exact ykb (yge h64) (by decide)
 have I1:Inv X pins σ (upd H p (.lst (ys.map V.str))) { s with heap:=h',drawn:=d',toks:=tk }:=I0.laid (t':=tk) (λb o e=>k b o e) hp ⟨by rw[yaa,← sy.length];exact vl,vs,n,strs_vals' sy,g⟩;exact⟨.ref p,_,I1,rfl,q p ys (I.hok.fresh hp) py so⟩
end
end L2
namespace L2
open PySem PySem.Spec PyProof.Rows
theorem zwlb {x:Str}:∀{v:Value},KTD.flatLooks (.str x) v=true->RelV (.str x) v
 | .str y t,h=>⟨t,by rw[show x=y from beq_iff_eq.mp h]⟩
theorem zlu:∀{ss:List Str} {vs:List Value},KTD.flatsLook (ss.map PyData.str) vs=true->Vals (ss.map V.str) vs
 | [],[],_=>.nil
 | x::ss,v::vs,h=>by
  rw[yob] at h;have h':(KTD.flatLooks (.str x) v&&KTD.flatsLook (ss.map PyData.str) vs)=true:=h;rw[yhc] at h';exact .cons (zwlb h'.1) (zlu h'.2)
def TupK (K:yda)(a:Addr)(ss:List Str):Prop:=yji (λb=>K.lookup b) (.tup (ss.map PyData.str)) (.ref a)=true
theorem TupK.sq {K:yda}{a:Addr}{ss:List Str}(h:TupK K a ss)(hz:ss.length≤1000)(H:Hp):SqT K H a (ss.map V.str):=by
 unfold TupK yji at h;simp only at h
 split at h
 ·rename_i o ho;rw[yhc] at h;obtain⟨e1,e2⟩:=h
  split at e2
  ·rename_i vs n hd;have V:=zlu e2;have hl:=V.length;refine .inr ⟨o,vs,n,ho,beq_iff_eq.mp e1,hd,?_,V⟩;rw[yaa] at hl;have:vs.size=ss.length:=by simpa using hl.symm
   rw[this];exact ykb hz (by decide)
  ·cases e2
 ·cases h
theorem zilb {K:yda}{ss:List Str}:∀{v:Value},yji (λb=>K.lookup b) (.tup (ss.map PyData.str)) v=true->∃b,v = .ref b∧TupK K b ss
 | .ref b,h=>⟨b,rfl,h⟩
section
variable {X:Cx}{a:Addr}{D:List (Str×yyr)}
abbrev TabK (K:yda)(a:Addr)(D:List (Str×yyr)):Prop:=yqr (yji λb=>K.lookup b) (λb=>K.lookup b) a D=true
theorem zrob {K:yda}(hK:X.K=K)(l:TabK K a D):IxR X (λx y H Q=>Ex2 λk ss=>x = .ref a∧y = .str k∧ybp k D=some (.tup (ss.map PyData.str))∧∀b,TupK K b ss->Q (.ref b) H):=by
 subst hK;intro value slice pins s σ H x y v u Q I rx ry h hs;obtain⟨k,ss,rfl,rfl,hat,q⟩:=h;cases rx;obtain⟨tk,rfl⟩:=ry;obtain⟨_,o,es,ep,ho,hc,hd,hr⟩:=KTD.tab_of_look (R:=λd v=>yji (λb=>X.K.lookup b) d v=true) (λ_ _ z=>z) (h:=s.heap) (λb o z=>I.kIn b o z) l;obtain⟨z,hz,hl⟩:=hr.find_some hat
 obtain⟨b,rfl,hb⟩:=zilb hl;have ty:s.TypeIs (.ref a) "dict":=⟨o,ho,hc.1⟩;refine yyi (x:=.ref b) ty ytg.lookup ?_ hs;unfold yun
 try with_reducible refine ycc ?_
 refine yba (yhj ty (by decide) ?_);refine yba (yhf (name:=yhi "__getitem__") ty ytg
  (yxd ytg ty entry_dict_getitem ?_ (args_dict_getitem _ _)))
 have fin:∀k',EP X pins σ Q (.ref b) { s with toks:=k' }:=λk'=>⟨.ref b,H,I.tok _,rfl,q b hb⟩;have fnd:findBy (λk v=>v.isStr k) es k=some (.ref b):=by
  rw[← hz];obtain⟨l⟩:=es;simp[findBy]
 show wpAny _ _ (dictGet a (.str k tk) >>= _) _ _ s
 refine yba ?_;unfold dictGet
 try with_reducible refine ycc ?_
 refine yba (wpAny_pyHash_str (yba (KTD.kt_dictFind_strs (s:={ s with toks:=s.toks+1 }) ho hd (by obtain⟨l⟩:=es;simpa using hr.exact) ?_)));rw[findBy_of_findIdx?] at fnd;cases hi:es.findIdx? λe=>e.key.isStr k with
 | none=>rw[hi] at fnd;cases fnd
 | some i =>
  rw[hi] at fnd;refine yba (wpAny_dictEntries (s:={ s with toks:=s.toks+1 }) ho hd (yea ?_));rw[show es[i]?.map (·.val)=some (.ref b) from fnd];exact yea ⟨_,rfl,yea ⟨rfl,fin _⟩⟩
end
structure Isi (K:yda)(C:Addr):Prop where
 ha:ymb K (.ref C) "__class__" = some (some (.builtin "object.__class__"))
 hn:ygj K (.builtin "object.__class__") "__get__" = some (some (.builtin "getset_descriptor.__get__"))
 ht:yqn K (.builtin "object.__class__")=some true
 hm:ylp K C (.type "object")=some true
 oStr:yqb K (.ref C) (.type "str")=some false
 oInt:yqb K (.ref C) (.type "int")=some false
 oTup:yqb K (.ref C) (.type "tuple")=some false
 oLst:yqb K (.ref C) (.type "list")=some false
 sO:yqb K (.type "str") (.ref C)=some false
 iO:yqb K (.type "int") (.ref C)=some false
end L2
namespace L2
open PySem PySem.Spec PyProof.Rows
section
variable {X:Cx}
theorem zelb:MtR X "str.join" (λx xs H Q=>Ex3 λsep a ys=>x = .str sep∧xs=[.ref a]∧SqT X.K H a (ys.map V.str)∧(ys.map (·.length)).sum+ys.length*sep.length≤16777216∧Q (.str (ywa sep ys)) H):=by
 intro pins s σ H x xs v us Q I rx rs h;obtain⟨sep,a,ys,rfl,rfl,hq,hz,q⟩:=h;obtain⟨t,rfl⟩:=rx;obtain⟨u,rfl,ru⟩:=vals1 rs;cases ru;obtain⟨its,rv,p,_⟩:=I.tuple hq;refine join_tuple (items:=its.toArray) (ys:=ys) p (by simpa using zaj rv) hz λt' k=>⟨.str _,H,I.tok k,⟨t',rfl⟩,?_⟩;have e:Txt.join sep ys=ywa sep ys:=by first|rfl|exact yyn sep ys
 rw[e];exact q
theorem zik:zwf X (.builtin "sorted") (λxs H Q=>Ex2 λl zs=>xs=[.ref l]∧SqL X.K H l (zs.map V.str)∧zs.length<64∧∀p ys,H p=none->ys.Perm zs->yuk ys=true->Q (.ref p) (upd H p (.lst (ys.map V.str)))):=by
 intro pins s σ H xs us Q I r h;obtain⟨l,zs,rfl,hl,h64,q⟩:=h;obtain⟨u,rfl,ru⟩:=vals1 r;cases ru;obtain⟨its,rv,pl,_⟩:=I.list hl;have sy:=zaj rv;refine sorted_strs (vs:=its) (ss:=zs) pl.isList sy (by rw[sy.length];exact h64) λout ys a1 a2 a3=>?_;obtain⟨e,he⟩:=sortedAll_at s.heap its out;have vl:out.toList.length≤yza:=by
  rw[a1.length,a2.length_eq];exact ykb (yge h64) (by decide)
 have I1:Inv X pins σ (upd H (s.heap.objs.size+1) (.lst (ys.map V.str))) { s with heap:=yrr s.heap its out }:=I.laid (t':=s.toks) (λb o e=>sortedAll_old e) (yhg _) ⟨by rw[yaa,← a1.length];exact vl,out.toList,e,strs_vals' a1,by rw[yae];exact he⟩;exact⟨.ref (s.heap.objs.size+1),_,I1,rfl,q _ ys (I.hok.fresh (yhg _)) a2 a3⟩
end
end L2
namespace TSort
open PySem PyProof.Rows
abbrev IL:=List Int
section keys
variable (k:Value->IL)
def ka (xs:Array Keyed)(i:Nat):IL:=((xs[i]?).map λp=>k p.1).getD []
def Up (xs:Array Keyed)(n:Nat):Prop:=∀i j,i<j->j<n->ka k xs i<ka k xs j
variable {k}
end keys
structure Ok (a0:Array Keyed)(kd:SortKind)(st:SortSt):Prop where
 perm:(arrOf st).Perm a0
 kind:kindOf st=kd
 none:failedOf st=none
 pend:pendingOf st=#[]
section
variable {pr:yvb}{wo:World}{Ar:Around}{Ex:Value->Shared->Prop}{sh:Shared}{k:Value->IL}{a0:Array Keyed}{kd:SortKind}
structure Cmp (pr:yvb)(wo:World)(Ar:Around)(Ex:Value->Shared->Prop)(sh:Shared)(k:Value->IL)(a0:Array Keyed)(kd:SortKind):Prop where
 lt:∀(x y:Keyed) (st:SortSt) (R:Option Bool->SortSt->Prop),kindOf st=kd->x∈a0.toList->y∈a0.toList->k x.1≠k y.1->R (some (decide (k x.1<k y.1))) st->wpS (model pr wo) Ar Ex sh (lt' x y) R st
 un:(a0.toList.map λp=>k p.1).Nodup
end
end TSort
namespace TSort
open PySem PyProof.Rows
section
variable {pr:yvb}{wo:World}{Ar:Around}{Ex:Value->Shared->Prop}{sh:Shared}{k:Value->IL}{a0:Array Keyed}{kd:SortKind}
structure Fin (k:Value->IL)(a0:Array Keyed)(st:SortSt):Prop where
 perm:(arrOf st).Perm a0
 none:failedOf st=none
 pend:pendingOf st=#[(0,a0.size,0)]
 up:Up k (arrOf st) a0.size
end
end TSort
namespace TSort
open PySem PyProof.Rows
def kf (f:Addr->IL):Value->IL
 | .ref a=>f a
 | _=>[]
section
variable {pr:yvb}{wo:World}{Ar:Around}{Ex:Value->Shared->Prop}{sh:Shared}
end
end TSort
namespace TSort
open PySem PyProof.Rows
section
variable {pr:yvb}{wo:World}{Ar:Around}{Ex:Value->Shared->Prop}{sh:Shared}
end
end TSort
namespace L2
open PySem PyProof.Rows
section
variable {X:Cx}
end
end L2
namespace L2
open PySem PyProof.Rows
section
variable {pr:yvb}{wo:World}{Ar:Around}{Ex:Value->Shared->Prop}
end
section
variable {X:Cx}
end
end L2
namespace L2
open PySem PyProof.Rows
section
variable {X:Cx}
inductive TyB (K:yda)(H:Hp):V->Value->Prop where
 | non:TyB K H .non (.type "NoneType")
 | bl (x:Bool):TyB K H (.bl x) (.type "bool")
 | int (i:Int):TyB K H (.int i) (.type "int")
 | str (x:Str):TyB K H (.str x) (.type "str")
 | lst {a:Addr} {xs:List V} (e:SqL K H a xs):TyB K H (.ref a) (.type "list")
 | tup {a:Addr} {xs:List V} (e:SqT K H a xs):TyB K H (.ref a) (.type "tuple")
theorem zqt:∀{ns:List String} {us:List Value},Vals (ns.map V.ty) us->us=ns.map Value.type
 | [],_,.nil=>rfl
 | n::r,_,.cons h t=>by
  rw[zqt t,show _=Value.type n from h];rfl
theorem znz:zwf X (.builtin "isinstance") (λxs H Q=>Ex5 λ(x:V) (tp:Addr) (t:Value) (ns:List String) (b:Bool)=>xs=[x,.ref tp]∧TyB X.K H x t∧SqT X.K H tp (ns.map V.ty)∧yur X.K t (ns.map Value.type)=some b∧Q (.bl b) H):=by
 intro pins s σ H xs us Q I r h;obtain⟨x,tp,t,ns,b,rfl,ty,ht,e,q⟩:=h;obtain⟨u,u',rfl,rx,r2⟩:=vals2 r;cases (show u'=Value.ref tp from r2);obtain⟨its,rv,⟨⟨cl,dd,da,sl⟩,g1,g2,n,g3⟩,_⟩:=I.tuple ht;cases zqt rv;simp only at g2 g3;subst g2 g3;have fin:∀tk,Ex2 λy H'=>Inv X pins σ H' { s with toks:=tk }∧RelV y (.bool b)∧Q y H':=λtk=>⟨.bl b,H,I.tok tk,rfl,q⟩;cases ty with
 | non=>cases (show u=Value.none from rx);exact yph yzp I.kIn True.intro g1 e (λz=>nomatch z) fin
 | bl y=>cases (show u=Value.bool y from rx);exact yph yaq I.kIn True.intro g1 e (λz=>nomatch z) fin
 | int i=>obtain⟨t,z⟩:=(show ∃t,u=Value.int i t from rx);cases z;exact yph yar I.kIn True.intro g1 e (λz=>nomatch z) fin
 | str y=>obtain⟨t,z⟩:=(show ∃t,u=Value.str y t from rx);cases z;exact yph ybr I.kIn True.intro g1 e (λz=>nomatch z) fin
 | @lst a xs el =>
  cases (show u=Value.ref a from rx);obtain⟨_,_,pl,_⟩:=I.list el;obtain⟨o,h1,h2,_⟩:=pl.isList;exact yph ycm I.kIn ⟨o,h1,h2⟩ g1 e (λz=>nomatch z) fin
 | @tup a xs el =>
  cases (show u=Value.ref a from rx);obtain⟨_,_,⟨o,h1,h2,_⟩,_⟩:=I.tuple el;exact yph ymp I.kIn ⟨o,h1,h2⟩ g1 e (λz=>nomatch z) fin
theorem zbib (K:yda)(hK:X.K=K:=by rfl):IxR X (rIx K):=hK▸zasb
theorem eq_self (A:Around)(s:Shared)(a:Addr):yne A s (.ref a) (.ref a) true:=λpr wo E R h=>by
 unfold eqBool;refine ycc ?_;rw[if_pos (by simp)];exact yba (ykj (yea h))
theorem zxeb {us:List V}(hu:∀u∈us,∃a,u = .ref a){v w:List Value}(h1:Vals us v)(h2:Vals us w):v=w∧∀x∈v,∃a,x = .ref a:=by
 induction h1 generalizing w with
 | nil=>cases h2;exact⟨rfl,by simp⟩
 | cons r t ih =>
  cases h2 with
  | cons r' t' =>
   obtain⟨a,rfl⟩:=hu _ yqa;obtain⟨e,m⟩:=ih (λu z=>hu u (ysa _ z)) t';cases r;cases r';refine⟨by rw[e],?_⟩;intro x hx
   rcases yma.mp hx with z|z
   ·exact⟨a,z⟩
   ·exact m x z
theorem all_true (n:Nat):(yuc n).all (λ_=>true)=true:=by simp
def zcob:V->List V->Hp->VK->Prop:=λx vs H Q=>Ex4 λl xs i y=>x = .ref l∧vs=[.int i,y]∧H l=some (.lst xs)∧0≤i∧i≤(xs.length:Int)∧xs.length<1000∧Q .non (upd H l (.lst (xs.take i.toNat++y::xs.drop i.toNat)))
theorem zry:MtM X "list.insert" zcob:=by
 intro pins s σ H x vs v us Q I rx rv h;obtain⟨l,xs,i,y,rfl,rfl,hH,h0,h1,hz,q⟩:=h;cases rx;obtain⟨u,u',rfl,⟨t,rfl⟩,ru⟩:=vals2 rv;obtain⟨z,its,n,r,hl,e⟩:=I.lstM hH;have len:its.length=xs.length:=r.length.symm;refine yik F.slot_list_insert ⟨_,e,rfl⟩ F.entry_list_insert (F.args_list_insert_3 _ _ _) (AutoListH.list_insert_list_int_val_1 l its.toArray n i t u' ?_ (by rw[yoa];omega)) ⟨e,?_⟩
 ·unfold yye.List.listFitsIndex;have a:decide (-(2 ^ 63:Int)≤i)=true:=decide_eq_true (by omega);have b:decide (i<2 ^ 63)=true:=decide_eq_true (by omega);rw[a,b];decide
 ·refine⟨.non,_,I.lset (its':=its.take i.toNat++u'::its.drop i.toNat) hH e ?_ ((r.take _).append (.cons ru (r.drop _))) ?_,rfl,q⟩
  ·have k:(if i<0 then (i+((its.toArray.size:Nat):Int)).toNat else min i.toNat its.toArray.size)=i.toNat:=by
    rw[if_neg (by omega),yoa];omega
   show ((its.toArray.extract 0 _).push u'++its.toArray.extract _)=_
   rw[k];apply yci.mp;simp;exact yta (by rw[yjd];exact yja _)
  ·rw[yfa,yka,ycb,yjd];have:1001≤yza:=by decide
   omega
end
end L2
namespace L2
open PySem PySem.Spec PyProof.Rows
section
variable {κ:Type}[DecidableEq κ]
def valV (kvs:List (κ×V))(k:κ):Option V:=(kvs.find? λkv=>decide (kv.1=k)).map (·.2)
end
section
variable {P:yvb}{w:World}{H:Hp}{h:Heap}{a:Addr}
end
section
variable {X:Cx}{pins:List (Addr×Obj)}{σ:St}{H:Hp}{s:Shared}{a:Addr}{y v:V}{u r:Value}{o:Option V}{A:Around}{E:Value->Shared->Prop}
end
section
variable {X:Cx}{pins:List (Addr×Obj)}{σ:St}{H:Hp}{s:Shared}{a:Addr}{kvs:List (Key×V)}{k:Key}{u:Value}{A:Around}{E:Value->Shared->Prop}
end
section
variable {X:Cx}{o i e value:Expr}{pos pos' tpos:Pos}{td ty tv:TE}
end
section
variable {X:Cx}{pos:Pos}
end
structure M1 (X:Cx)(o:Expr)(m:Str)(apos:Pos)(e:Expr)(cpos:Pos):Prop where
 base:yfk o m X.env (eval o X.env)=eval o X.env
 few:((backTo cpos (yhd [e] X.env)).all (λx=>!x.1)&&(ygr cpos (yum [] X.env)).all (λx=>x.1.isSome)
  && decide (([e]:List Expr).length+([]:List ydq).length+(if ([]:List ydq).isEmpty then 0 else 1)<30))=true
 line:(apos.endLine==cpos.line)=true
 trees:backTo cpos (yhd [e] X.env)=[(false,eval e X.env)]
structure M2 (X:Cx)(o:Expr)(m:Str)(apos:Pos)(e f:Expr)(cpos:Pos):Prop where
 base:yfk o m X.env (eval o X.env)=eval o X.env
 few:((backTo cpos (yhd [e,f] X.env)).all (λx=>!x.1)&&(ygr cpos (yum [] X.env)).all (λx=>x.1.isSome)
  && decide (([e,f]:List Expr).length+([]:List ydq).length+(if ([]:List ydq).isEmpty then 0 else 1)<30))=true
 line:(apos.endLine==cpos.line)=true
 trees:backTo cpos (yhd [e,f] X.env)=[(false,eval e X.env),(false,eval f X.env)]
section
variable {X:Cx}{pins:List (Addr×Obj)}{σ:St}{H:Hp}{s:Shared}{a:Addr}{y d:V}{u r:Value}{o:Option V}{A:Around}{E:Value->Shared->Prop}
end
section
variable {X:Cx}{o e f:Expr}{apos cpos:Pos}{td ty tx:TE}
end
section
variable {X:Cx}{pins:List (Addr×Obj)}{σ:St}{H:Hp}{s:Shared}{a:Addr}{kvs:List (Key×V)}{A:Around}{E:Value->Shared->Prop}
end
section
variable {X:Cx}{pins:List (Addr×Obj)}{σ:St}{H:Hp}{s:Shared}{a:Addr}{y:V}{u:Value}{A:Around}{E:Value->Shared->Prop}
end
end L2
namespace L2
open PySem PyProof.Rows
section
variable {pr:yvb}{wo:World}{Ar:Around}{Ex:Value->Shared->Prop}{sh:Shared}
end
section
variable {X:Cx}{pins:List (Addr×Obj)}{σ:St}{H:Hp}{s:Shared}{h':Heap}
end
section
variable {X:Cx}
end
end L2
namespace L2
open PySem PyProof.Rows
section
variable {X:Cx}{e st:Expr}{te ts:TE}{p2 pos:Pos}
end
end L2
namespace DL
open PySem PySem.Spec PyProof.Rows
section
variable {prog:yvb}{w:World}{A:Around}{E:Value->Shared->Prop}{s:Shared}
section
variable {κ:Type}[DecidableEq κ]{knd:KeyKind prog w κ}
end
end
end DL
namespace L2
open PySem PyProof.Rows
section
variable {X:Cx}
end
end L2
namespace SSet
open PySem PySem.Spec PyProof.Rows
section
variable {prog:yvb}{w:World}{A:Around}{E:Value->Shared->Prop}{s:Shared}
theorem set_tuple {l:Addr}{its:Array Value}{xs:List Str}{Q:Value->Shared->Prop}(hh:A.handled=none)(hl:s.heap.IsTuple l its)(hi:ypl its.toList xs)(hb:its.size+1<yuf)
  (h:∀(h':Heap) (tk:Nat),SS prog w h' s.heap.objs.size (dd xs) (!w.params.followText "set-order")->(∀c o,s.heap.get? c=some o->h'.get? c=some o)->Q (.ref s.heap.objs.size) { s with heap:=h',toks:=tk }) :
  wpAny (model prog w) A (call (.type "set") [.ref l]) Q E s:=by
 obtain⟨cM,tM,mro⟩:=yeb.mro;have made:=yeb.made;have subs:=yeb.sub;have notT:=yeb.notType;have canC:=yeb.canCreate;have chk:=yzi (.ref l);refine ydm (yqk ?_);show wpAny _ _ (callAny (.type "set") ⟨[.ref l],[]⟩) _ _ _
 refine yea ⟨yti _ (by decide +kernel),ypc yui ?_⟩;rw[yil (ytj "set" [Value.ref l] []) rfl]
 repeat (any_goals (first|assumption|wp_step))
 refine yeg (zgbb (.ref l) (E:=E) (Q1:=λob s1=>ob = .ref s.heap.objs.size∧s1={ s with heap:=s.heap.push (empt w) }) ⟨rfl,rfl⟩) λr s1 hr=>?_;cases r with
 | error e=>exact hr
 | ok fl =>
  cases fl with
  | ret ob =>
   obtain⟨rfl,rfl⟩:=hr;have g0:(s.heap.push (empt w)).get? s.heap.objs.size=some (empt w):=yla _ rfl;have ty0:yuh { s with heap:=s.heap.push (empt w) } (.ref s.heap.objs.size) "set":=⟨_,g0,rfl⟩;have lk:=yeb.init.lookup;have bd:=yeb.init.bind (.ref s.heap.objs.size)
   repeat (any_goals (first|assumption|wp_step))
   refine yeg (ywh (R:=wants (λr s2=>r = .none∧∃h' tk,s2={ s with heap:=h',toks:=tk }∧SS prog w h' s.heap.objs.size (dd xs) (!w.params.followText "set-order") ∧
     (∀c o,s.heap.get? c=some o->h'.get? c=some o)) E) yeb.init.plain yaj (yfn ty0 ?_)) λr2 s2 hr2=>?_
   ·obtain⟨ol,e1,e2,nl,e3⟩:=hl;obtain⟨oc,od,oD,osl⟩:=ol;dsimp only at e2 e3;subst e2 e3;have e1':(s.heap.push (empt w)).get? l=some { cls:=.type "tuple",dict:=od,data:=.seq its nl,slots:=osl }:=yca _ e1;have q1:=yho;have q2:=yvk;have q3:(Value.type "tuple" == Value.type "dict")=false:=by decide
    have L1:(s.heap.push (empt w)).IsTuple l its:=⟨_,e1',rfl,nl,rfl⟩;have lt:l<s.heap.objs.size:=yra e1;unfold yye.«set.__init__» noKeywords yif;generalize hPI:pyIter=PI
    wp_walk
    subst hPI;refine ydl L1 (yba (yzh ?_));have ne:l≠(s.heap.push (empt w)).objs.size:=by
     rw[ykd];exact yya (yzd lt)
    have nf:s.heap.objs.size∉[(s.heap.push (empt w)).objs.size,l]:=by
     rw[ykd];intro z
     rcases yma.mp z with z|z
     ·exact absurd z (yya (ydf _))
     ·exact absurd (yia.mp z) (ylf lt)
    have hv:∀(i:Nat) (v:Value),its[i]?=some v->∃x t,xs[i]?=some x∧v = .str x t:=λi v e=>zsab hi i v (by rw[ydb];exact e);have hx:xs.take its.size=xs:=yta (by rw[← yga,hi.length];exact yja _);refine zkq (b:=!w.params.followText "set-order") (Walks.tuple (by simp[hh]) _ l ne its) nf xs hv hb (its.size-0) 0 _ (by omega) (ytb _) ⟨⟨_,yla _ rfl,rfl,rfl⟩,L1.push _⟩ ?S0 ?R0
    case S0=>exact (zpbb s.heap).keep λo e=>yca _ e
    case R0 =>
     intro h' tk S' keep;rw[hx] at S';show wpAny _ _ _ _ _ _
     refine yea ?_;show wpAny _ _ (ret Value.none) _ _ _
     refine yea ⟨rfl,h',tk,rfl,S',λc o e=>?_⟩;have clt:=yra e;refine keep c o ?_ (yca _ (yca _ e));rw[ykd];intro z
     rcases yma.mp z with z|z
     ·exact absurd z (yya clt)
     ·exact absurd (yia.mp z) (yya (yzd clt))
   ·cases r2 with
    | error e=>exact hr2
    | ok fl2 =>
     cases fl2 with
     | ret r =>
      obtain⟨rfl,h',tk,rfl,S',keep⟩:=hr2
      repeat (any_goals (first|assumption|wp_step))
      exact h _ _ S' keep
     | next=>exact hr2.elim
     | brk=>exact hr2.elim
     | cont=>exact hr2.elim
  | next=>exact hr.elim
  | brk=>exact hr.elim
  | cont=>exact hr.elim
end
end SSet
namespace L2
open PySem PyProof.Rows
section
variable {X:Cx}
theorem zwp (hc:X.calm=true):zwf X (.type "set") (λxs H Q=>∃p ys,xs=[.ref p]∧SqT X.K H p (ys.map V.str)∧ys.length≤1000∧∀l,H l=none->Q (.ref l) (upd H l (setO X l (SSet.dd ys)))):=by
 intro pins s σ H xs us Q I r h;obtain⟨p,ys,rfl,hq,hy,q⟩:=h;obtain⟨u,rfl,ru⟩:=vals1 r;cases ru;obtain⟨its,rv,pl,hz⟩:=I.tuple hq;have sy:=zaj rv;have il:its.length=ys.length:=sy.length;refine SSet.set_tuple (xs:=ys) (I.ok.hd hc) pl (by simpa using sy) (by rw[yoa,il];have:yuf=4096:=rfl;omega) λh' tk S k=>?_;have I1:Inv X pins σ (upd H s.heap.objs.size (setO X s.heap.objs.size (SSet.dd ys))) { s with heap:=h',toks:=tk }:=I.laid (t':=tk) (λb o e=>k b o e) (yja _) ⟨S,let ⟨o,_,_,_,e,_⟩:=S;⟨o,e⟩,λh1 h2 x y=>x.keep y⟩;exact⟨.ref s.heap.objs.size,_,I1,rfl,q _ (I.hok.fresh (yja _))⟩
end
end L2
namespace L2
open PySem PySem.Spec PyProof.Rows PySem.MeetsSeq
theorem zssb (l b:Addr)(items items2:Array Value)(n n2:Nat)(dd dd2:Option Addr)(sl sl2:Array (Option Value))(hc0:items.isEmpty=true) :
  Meets (yye.«tuple.__add__» ⟨[.ref l,.ref b],[]⟩) (λ_ R s=>s.heap.get? l=some { cls:=.type "tuple",dict:=dd,data:=.seq items n,slots:=sl }∧s.heap.get? b=some { cls:=.type "tuple",dict:=dd2,data:=.seq items2 n2,slots:=sl2 }∧R (.ok (.ret (Value.ref b))) s):=by
 refine .of_wp λprog w A R s h=>?_;obtain⟨hp,g,d,tk,os⟩:=s;obtain⟨hl,hb,h⟩:=h;have f2:=PySem.F.sub_tuple_tuple;unfold yye.«tuple.__add__»
 wp_walk using wpAny_loadPart' hl,wpAny_loadPart' hb
 exact⟨_,rfl,h⟩
section
variable {X:Cx}
def zsqb (K:yda):R2:=λx y H Q=>Ex4 λa b xs ys=>x = .ref a∧y = .ref b∧SqT K H a xs∧SqT K H b ys∧ys≠[]∧xs.length+ys.length≤yza∧(xs=[]->Q (.ref b) H)∧(xs≠[]->∀p,H p=none->Q (.ref p) (upd H p (.tup (xs++ys))))
theorem zmv:OpR X (ysh .Add) (zsqb X.K):=by
 intro pins s σ H x y v u Q I rx ry h;obtain⟨a,b,xs,ys,rfl,rfl,ha,hb,hy,hz,q1,q2⟩:=h
 by_cases c:xs=[]
 ·subst c;cases rx;cases ry;obtain⟨its,r1,p1,_⟩:=I.tuple ha;obtain⟨its2,r2,p2,_⟩:=I.tuple hb;cases r1;obtain⟨⟨cls,dd,data,sl⟩,ho,hc,n,hd⟩:=id p1;obtain⟨⟨cls2,dd2,data2,sl2⟩,ho2,hc2,n2,hd2⟩:=id p2;simp only at hc hd hc2 hd2;subst hc hd hc2 hd2;exact ytn ⟨_,ho,rfl⟩ ⟨_,ho2,rfl⟩ yyj yvm ylh ydh (ypg _ _)
   (zssb a b _ its2.toArray n n2 dd dd2 sl sl2 rfl) ⟨ho,ho2,⟨.ref b,H,I,rfl,q1 rfl⟩⟩
 ·exact zbbb pins s σ H (.ref a) (.ref b) v u Q I rx ry ⟨a,b,xs,ys,rfl,rfl,ha,hb,c,hz,λz=>absurd z hy,λ_=>q2 c⟩
end
end L2
namespace L2
open PySem PyProof.Rows
section
variable {X:Cx}
end
end L2
namespace DK
open PySem PySem.Spec PyProof.Rows
section
variable {prog:yvb}{w:World}{A:Around}{E:Value->Shared->Prop}{s:Shared}
end
end DK
namespace L2
open PySem PyProof.Rows
section
variable {X:Cx}{pins:List (Addr×Obj)}{σ:St}{H:Hp}{s:Shared}
end
section
variable {X:Cx}
end
end L2
namespace L2
open PySem PyProof.Rows
section
variable {X:Cx}
end
end L2
namespace L2
open PySem PyProof.Rows
section
open PySem.SeqAt PySem.MeetsSeq
open AutoSeq1 (wpAny_loadPart')
theorem zoqb (q:Addr)(ys:Array Value)(c:Nat)(z:Value)(f:Value->Bool)(j:Nat)(lt:j<ys.size)(yes:f ys[j]=true)(le:ys.size≤yza)(k:Nat):∀i:Nat,j-i=k->i≤j->(∀m (hm:m<ys.size),i≤m->m<j->f ys[m]=false) →
  Meets (yye.«list.remove.loop» ⟨[.ref q,z,rawInt i],[]⟩) (λA R s=>s.heap.get? q=some { cls:=.type "list",data:=.seq ys c }∧(∀y,y∈ys->EqAt A.in1 s y z (f y))∧R (.ok (.ret .none)) { s with heap:=s.heap.update q (yre λu=>u.eraseIdxIfInBounds j) }):=by
 induction k with
 | zero =>
  intro i ek il no pr wo A R sh h;obtain⟨hp,g,d,tk,os⟩:=sh;obtain⟨hq,hf,h⟩:=h;obtain rfl:i=j:=by omega
  wp_walk using wpAny_loadPart' hq
  rw[show ys[((i:Nat):Int).toNat]?=some ys[i] by simp[lt]];refine yba (hf _ (ykq lt) pr wo _ _ ?_);rw[yes];have z':(ys.eraseIdxIfInBounds i).size≤yza+1:=ykb (MeetsSeq.size_erased ys _) (yrf le)
  wp_walk using (ywi hq rfl (hz:=le) (_hz':=z')),wpAny_loadPart' hq
  simpa using h
 | succ k ih =>
  intro i ek il no pr wo A R sh h;obtain⟨hp,g,d,tk,os⟩:=sh;obtain⟨hq,hf,h⟩:=h;have li:i<ys.size:=by omega
  wp_walk using wpAny_loadPart' hq
  rw[show ys[((i:Nat):Int).toNat]?=some ys[i] by simp[li]];refine yba (hf _ (ykq li) pr wo _ _ ?_);rw[no i li (yja _) (by omega)]
  wp_walk
  rw[show ((i:Int)+1)=((i+1:Nat):Int) by omega];exact⟨ywe ymj _,ypc entry_remove_loop (by
   rw[ytc ymj _];exact ih (i+1) (by omega) (by omega) (λm hm a b=>no m hm (by omega) b) pr wo A R _ ⟨hq,hf,h⟩)⟩
theorem zpqb (q:Addr)(ys:Array Value)(c:Nat)(z:Value)(f:Value->Bool)(j:Nat)(lt:j<ys.size)(yes:f ys[j]=true)(no:∀m (hm:m<ys.size),m<j->f ys[m]=false)(le:ys.size≤yza) :
  Meets (yye.«list.remove» ⟨[.ref q,z],[]⟩) (λA R s=>s.heap.get? q=some { cls:=.type "list",data:=.seq ys c }∧(∀y,y∈ys->EqAt A.in1 s y z (f y))∧R (.ok (.ret .none)) { s with heap:=s.heap.update q (yre λu=>u.eraseIdxIfInBounds j) }):=by
 intro pr wo A R sh h;obtain⟨hp,g,d,tk,os⟩:=sh;obtain⟨hq,hf,h⟩:=h
 wp_walk using wpAny_loadPart' hq
 exact⟨ywe ymj _,ypc entry_remove_loop (by
  rw[ytc ymj _];exact zoqb q ys c z f j lt yes le _ 0 rfl (ytb _) (λm hm _ b=>no m hm b) pr wo A R _ ⟨hq,hf,h⟩)⟩
end
section
variable {X:Cx}
def zbob (X:Cx):V->List V->Hp->VK->Prop:=λx vs H Q=>Ex7 λ(l:Addr) (xs:List V) (u:V) (d:PyData) (ds:List PyData) (j:Nat) (dj:PyData)=>x = .ref l∧vs=[u]∧H l=some (.lst xs)∧DV X.K H (.ref l) (.list ds)∧DV X.K H u d∧ybe d=true∧ybe (.list ds)=true∧d.depth≤8∧ds[j]?=some dj∧yje dj d=true∧(∀(m:Nat) (dm:PyData),m<j->ds[m]?=some dm->yje dm d=false)∧Q .non (upd H l (.lst (xs.eraseIdx j)))
theorem zdfb (hu:X.A.units+64<cLine):MtM X "list.remove" (zbob X):=by
 intro pins s σ H x vs v us Q I rx rv h;obtain⟨l,xs,u,d,ds,j,dj,rfl,rfl,hH,hD,hd,s1,s2,dp,ej,yes,no,q⟩:=h;obtain⟨as,r2⟩:=hD.reads I rx;cases rx;obtain⟨w,rfl,rw'⟩:=rv.one;obtain⟨bs,r1⟩:=hd.reads I rw';obtain⟨z,its,n,r,hl,e⟩:=I.lstM hH;have c2:=yjn s2;rw[yxe] at c2;have c1:=yjn s1;have al:∃as',ReadsAll s.heap its.toArray.toList ds as':=by
  cases r2 with
  | list h1 h2 h3 h4 =>
   rw[e] at h1;cases h1;injection h3 with h3 _
   subst h3;exact⟨_,h4⟩
 obtain⟨as',rs⟩:=al;have mp:=SeqAt.readsAll_map ds _ _ c2 rs;have at_:∀(m:Nat) (hm:m<its.toArray.size),ds[m]?=some (yxq s.heap its.toArray[m]):=λm hm=>by
  rw[← mp,yna,ydb,ynb hm];rfl
 have jl:j<its.toArray.size:=by
  have z:=(yha.mp ej).1;rw[← mp,yaa,yga] at z;exact z
 have ey:=SeqAt.items_eqAt (A:=X.A) rs r1 c2 c1 (by have:=Nat.min_le_right (yvg ds) d.depth;omega);refine yik F.slot_list_remove ⟨_,e,rfl⟩ F.entry_list_remove (F.args_list_remove_2 _ _)
  (zpqb l its.toArray n w (λy=>yje (yxq s.heap y) d) j jl ?_ ?_ (by rw[yoa];omega)) ⟨e,ey,?_⟩
 ·have y:=at_ j jl;rw[ej] at y;injection y with y
  show yje (yxq s.heap its.toArray[j]) d=true
  rw[← y];exact yes
 ·exact λm hm lt=>no m _ lt (at_ m hm)
 ·refine⟨.non,_,I.lset (its':=its.eraseIdx j) hH e ?_ (r.eraseIdx j) ?_,rfl,q⟩
  ·show its.toArray.eraseIdxIfInBounds j=(its.eraseIdx j).toArray;rw[yjj]
  ·have:=zbs xs j;omega
end
section
open TSort
end
section
variable {pr:yvb}{wo:World}{A:Around}{R:Result->Shared->Prop}{I S:Addr}{fp wr:List Addr}{n:Nat}{P:Nat->Value->Prop}{St:Nat->Heap->Prop}{h0:Heap}
end
section
variable {pr:yvb}{wo:World}{A:Around}{E:Value->Shared->Prop}{s:Shared}
end
section
variable {X:Cx}
end
end L2
namespace ISet
open PySem PySem.Spec PyProof.Rows
def Rise (xs:Array Nat):Prop:=xs.toList.Pairwise (· < ·)
theorem Rise.at {xs:Array Nat}(h:Rise xs){i j:Nat}(hij:i<j)(hj:j<xs.size):xs[i]<xs[j]:=by
 have z:=ysl.mp h i j (by simp;omega) (by simp;omega) hij
 simpa using z
theorem zvob {xs:Array Nat}(h:Rise xs)(j:Nat):∀(fuel lo hi:Nat),hi≤xs.size->lo≤hi->hi-lo≤fuel->(∀i (hi':i<xs.size),i<lo->xs[i]<j)->(∀i (hi':i<xs.size),hi≤i->j≤xs[i]) →
  yqf xs j fuel lo hi≤xs.size∧(∀i (hi':i<xs.size),i<yqf xs j fuel lo hi->xs[i]<j)∧(∀i (hi':i<xs.size),yqf xs j fuel lo hi≤i->j≤xs[i]):=by
 intro fuel
 induction fuel with
 | zero =>
  intro lo hi h1 h2 h3 h4 h5;have e:lo=hi:=by omega
  subst e;unfold yqf;exact⟨h1,h4,h5⟩
 | succ n ih =>
  intro lo hi h1 h2 h3 h4 h5;unfold yqf
  by_cases c:lo<hi
  ·rw[if_pos c];have hm:(lo+hi) / 2<xs.size:=(by omega);have eg:xs.getD ((lo+hi) / 2) j=xs[(lo+hi) / 2]:=by
    rw[yoc,ynb hm];rfl
   dsimp only;rw[eg]
   by_cases c2:xs[(lo+hi) / 2]<j
   ·rw[if_pos c2];refine ih _ _ h1 (by omega) (by omega) (λi hi' hl=>?_) h5
    rcases yuj i ((lo+hi) / 2) with z|z
    ·exact Nat.lt_trans (h.at z hm) c2
    ·have e:i=(lo+hi) / 2:=by omega
     subst e;exact c2
   ·rw[if_neg c2];refine ih _ _ (by omega) (by omega) (by omega) h4 (λi hi' hl=>?_)
    rcases yuj ((lo+hi) / 2) i with z|z
    ·have:=h.at z hi';omega
    ·have e:i=(lo+hi) / 2:=by omega
     subst e;omega
  ·rw[if_neg c];have e:lo=hi:=(by omega);subst e;exact⟨h1,h4,h5⟩
theorem zso {xs:Array Nat}(h:Rise xs)(j:Nat):yxb xs j≤xs.size∧(∀i (hi:i<xs.size),i<yxb xs j->xs[i]<j)∧(∀i (hi:i<xs.size),yxb xs j≤i->j≤xs[i]) :=
 zvob h j xs.size 0 xs.size (yja _) (ytb _) (by omega) (λi _ h=>absurd h (yio _)) (λi h1 h2=>by omega)
theorem znfb {xs:Array Nat}(h:Rise xs){i:Nat}(hi:i<xs.size):yxb xs (xs[i]+1)=i+1:=by
 obtain⟨b1,b2,b3⟩:=zso h (xs[i]+1);generalize hp:yxb xs (xs[i]+1)=p at b1 b2 b3
 rcases ylm p (i+1) with z|z|z
 ·have:=b3 i hi (by omega);omega
 ·exact z
 ·have q:=b2 (i+1) (by omega) z;have r:=h.at (show i<i+1 by omega) (show i+1<xs.size by omega);omega
theorem zmfb {xs:Array Nat}(h:Rise xs):yxb xs 0=0:=by
 obtain⟨b1,b2,b3⟩:=zso h 0;generalize hp:yxb xs 0=p at b1 b2 b3
 rcases ykl p with z|z
 ·exact z
 ·have:=b2 0 (by omega) z;omega
theorem zobb {α:Type}(xs:Array α)(p:Nat)(x:α):(ymm xs p x).toList=xs.toList.take p++x::xs.toList.drop p:=by
 unfold ymm;rw[yvf,ylj,yck,yck];simp[yta]
theorem zpkb {xs:Array Nat}(h:Rise xs){j:Nat}(hj:¬ xs[yxb xs j]?=some j):Rise (ymm xs (yxb xs j) j):=by
 obtain⟨b1,b2,b3⟩:=zso h j;generalize hp:yxb xs j=p at hj b1 b2 b3;unfold Rise;rw[zobb,List.pairwise_append,yll];have lt:∀a∈xs.toList.take p,a<j:=λa ha=>by
  obtain⟨i,hi⟩:=ynd ha;rw[List.getElem?_take] at hi
  split at hi
  ·rename_i c;obtain⟨hi',e⟩:=yha.mp hi;rw[← e];exact b2 i (by simpa using hi') c
  ·cases hi
 have gt:∀a∈xs.toList.drop p,j<a:=λa ha=>by
  obtain⟨i,hi⟩:=ynd ha;rw[ybf] at hi;obtain⟨hi',e⟩:=yha.mp hi;have hs:p+i<xs.size:=by simpa using hi'
  have q:=b3 (p+i) hs (by omega);have e':xs[p+i]=a:=by simpa using e
  rw[e'] at q
  rcases Nat.lt_or_eq_of_le q with z|z
  ·exact z
  ·exfalso
   rcases ykl i with y|y
   ·subst y;apply hj;have hs':p<xs.size:=hs;rw[ynb hs',z]
    congr 1
   ·have r:=h.at (show p<p+i by omega) hs;have s:=b3 p (by omega) (yja _);omega
 refine⟨yjo (yfm _ _) h,⟨gt,yjo (List.drop_sublist _ _) h⟩,λa ha b hb=>?_⟩
 rcases yma.mp hb with z|z
 ·rw[z];exact lt a ha
 ·exact Nat.lt_trans (lt a ha) (gt b z)
structure RT (t:ymc):Prop where
 rise:Rise t.place
 none:t.dummies=#[]
theorem RT.stand (t:ymc)(n:Nat):RT (t.standIn n):=⟨by
 show (Array.range n).toList.Pairwise (· < ·)
 rw[Array.toList_range];exact ykn,rfl⟩
theorem RT.or {t:ymc}(h:RT t)(n:Nat):RT (t.orStandIn n):=by
 unfold ypp
 split
 ·exact h
 ·exact RT.stand t n
theorem zgdb {t:ymc}(h:t.dummies=#[])(j:Nat):yyq t.dummies j=false:=by
 rw[h];simp[yyq]
theorem zyeb {t:ymc}(h:RT t)(f:Nat->Int)(x:Int):∀(n:Nat) (p:ymc.Probe),p.dummy=none->∀j d,ylq t f x n p=some (.empty j d)->d=none∧t.slot j = .empty:=by
 intro n
 induction n with
 | zero=>intro p hp j d e;cases e
 | succ n ih =>
  intro p hp j d e;unfold ylq at e;cases hs:t.slot p.j with
  | empty =>
   rw[hs] at e;injection e with e
   injection e with e1 e2
   rw[← e1,← e2];exact⟨hp,hs⟩
  | dummy =>
   exfalso;unfold yzr at hs;dsimp only at hs;rw[zgdb h.none] at hs
   split at hs
   ·cases hs
   ·simp at hs
  | live i =>
   rw[hs] at e;dsimp only at e;have adv:(t.advance p).dummy=none:=by
    unfold ymc.advance
    split
    ·exact hp
    ·exact hp
   split at e
   ·injection e with e
    cases e
   ·exact ih _ adv j d e
theorem zwob {t:ymc}(h:RT t){x:Int}{j:Nat}{b:Bool}(e:t.freeSlot x=some (j,b)):¬ t.place[yxb t.place j]?=some j:=by
 unfold ymc.freeSlot at e
 split at e
 ·rename_i j' d hq;obtain⟨hd,hs⟩:=zyeb h _ _ _ _ rfl _ _ hq;subst hd;injection e with e
  injection e with e _
  have e':j'=j:=e;subst e';intro z;unfold yzr at hs;dsimp only at hs;rw[if_pos (by rw[z];simp)] at hs;cases hs
 ·cases e
theorem RT.put {t:ymc}(h:RT t){j:Nat}(hj:¬ t.place[yxb t.place j]?=some j):RT (t.put j).1:=by
 refine⟨zpkb h.rise hj,?_⟩;show (if yyq t.dummies j then _ else t.dummies)=#[]
 rw[zgdb h.none];exact h.none
theorem RT.new {t:ymc}(h:RT t)(es:Array (Int×Value))(x:Int)(v:Value):RT (layNew t es x v).2.1:=by
 unfold layNew
 split
 ·rename_i slot wd hf;exact (h.put (zwob h hf)).or _
 ·exact RT.stand _ _
theorem zthb (f:Nat->Option Nat)(n:Nat):(((yuc n).filterMap λj=>(f j).map (j,·)).map (·.1)).Pairwise (· < ·):=by
 rw[yup];refine List.Pairwise.filterMap _ (R:=λa b:Nat=>a<b) ?_ ykn;intro a a' haa b hb b' hb';cases ha:f a with
 | none=>rw[ha] at hb;cases hb
 | some x =>
  cases ha':f a' with
  | none=>rw[ha'] at hb';cases hb'
  | some y =>
   rw[ha] at hb;rw[ha'] at hb';have e1:a=b:=(by simpa using hb);have e2:a'=b':=(by simpa using hb');rw[← e1,← e2];exact haa
theorem RT.zjtb {t:ymc}(h:RT t)(es:Array (Int×Value))(k:Nat):RT (ybi t es k).2.1:=by
 unfold ybi
 split
 ·rename_i u order e;have q:RT u:=by
   unfold ymr yqi at e;simp only[bind,Option.bind,pure] at e
   split at e
   ·cases e
   ·injection e with e
    injection e with e _
    rw[← e];exact⟨by
     show (List.toArray _).toList.Pairwise _
     rw[ydp];exact zthb _ _,rfl⟩
  dsimp only
  split
  ·exact q
  ·exact RT.stand _ _
 ·exact RT.stand _ _
end ISet
namespace ISet
open PySem PySem.Spec PyProof.Rows
def intV:Value->Int
 | .int k _=>k
 | _=>0
def IS (prog:yvb)(w:World)(h:Heap)(a:Addr)(D:List Int)(b:Bool):Prop :=
 ∃o es ep t,h.get? a=some o∧o.ExactSet∧o.data = .set es ep t∧ypk (yyc prog w) es.toList∧(es.toList.map λe=>intV e.2).Perm D∧es.size<yuf∧t.fits es.size=true∧t.led=b∧RT t
section
variable {prog:yvb}{w:World}{A:Around}{E:Value->Shared->Prop}{s:Shared}
theorem IS.keep {h h':Heap}{a:Addr}{D:List Int}{b:Bool}(x:IS prog w h a D b)(k:∀o,h.get? a=some o->h'.get? a=some o):IS prog w h' a D b:=by
 obtain⟨o,es,ep,t,ho,r⟩:=x;exact⟨o,es,ep,t,k _ ho,r⟩
theorem zxmb {es:List (Int×Value)}(h:ypk (yyc prog w) es){e:Int×Value}(he:e∈es):∃x t,e.2 = .int x t∧e.1=(yyc prog w).hash x:=by
 obtain⟨⟨k,hk,hh⟩,_⟩:=h e he;obtain⟨t,et⟩:=ywl (k:=k) (v:=e.2) hk;exact⟨k,t,et,hh⟩
theorem zfm {es:List (Int×Value)}{D:List Int}{x:Int}(hel:ypk (yyc prog w) es)(hp:(es.map λe=>intV e.2).Perm D) :
  x∈D↔∃e∈es,(yyc prog w).is x e.2=true:=by
 rw[← hp.mem_iff,yac]
 constructor
 ·rintro⟨e,he,rfl⟩;obtain⟨y,t,e1,_⟩:=zxmb hel he;refine⟨e,he,?_⟩;rw[e1];show yej y (.int y t)=true
  simp[yej]
 ·rintro⟨e,he,hi⟩;obtain⟨t,e1⟩:=ywl (k:=x) (v:=e.2) hi;exact⟨e,he,by rw[e1];rfl⟩
theorem zvcb {g:Bool->Sem Unit}(hg:∀(b:Bool) (s₁:Shared) (Q':Unit->Shared->Prop),Q' () s₁->wpAny (model prog w) A (g b) Q' E s₁)
  {a:Addr} {o:Obj} {es:Array (Int×Value)} {ep:Nat} {t:ymc} (ho:s.heap.get? a=some o) (hex:o.ExactSet) (hd:o.data = .set es ep t)
  {fs:Array (Int×Value)} {u:ymc} {D:List Int} {b:Bool} (hel:ypk (yyc prog w) fs.toList) (hp:(fs.toList.map λe=>intV e.2).Perm D) (hb:fs.size<yuf) (hf:u.fits fs.size=true) (hl:u.led=b) (hpl:RT u)
  {dm:Bool} {R:Option Bool->Shared->Prop} (h:∀h',yrd a s.heap h'->IS prog w h' a D b->R (some true) { s with heap:=h' }) :
  wpAny (model prog w) A (do
    ywm a fs u
    if (!dm&&u.tooFull)=true then do
        g (ybi u fs (ygd fs.size)).2.2
        ywm a (ybi u fs (ygd fs.size)).1 (ybi u fs (ygd fs.size)).2.1
        pure (some true)
     else pure (some true)) R E s:=by
 have lim:∀{n:Nat},n<yuf->n≤yza:=λz=>ynf z;refine yba (yof ho hd ?_ (lim hb));have k1:(s.heap.update a (ypf fs u)).get? a=some { o with data:=.set fs (ep+1) u }:=by
  have z:=ywc (ypf fs u) ho (by rw[yri fs u hd];rfl);rw[yri fs u hd] at z;exact z
 have b1:=yse s.heap a (ypf fs u)
 split
 ·have p2:=relayAll_perm u fs (ygd fs.size);have f2:=relayAll_fits u fs (ygd fs.size);have l2:=(SSet.zty u fs (ygd fs.size)).1;have q2:=hpl.zjtb fs (ygd fs.size);generalize ybi u fs (ygd fs.size)=R2 at p2 f2 l2 q2 ⊢;obtain⟨fs2,u2,gv⟩:=R2;dsimp only at p2 f2 l2 q2 ⊢;have z2:fs2.size=fs.size:=by rw[← yga,p2.length_eq,yga]
  refine yba (hg _ _ _ ?_);refine yba (yof k1 rfl ?_ (lim (by rw[z2];exact hb)));have k2:((s.heap.update a (ypf fs u)).update a (ypf fs2 u2)).get? a=some { o with data:=.set fs2 (ep+1+1) u2 }:=by
   have z:=ywc (ypf fs2 u2) k1 (by rw[yri fs2 u2 rfl];rfl);rw[yri fs2 u2 rfl] at z;exact z
  exact yea (h _ (b1.trans (yse _ a _)) ⟨_,fs2,_,u2,k2,hex,rfl,yzn hel p2,(p2.map _).trans hp,by rw[z2];exact hb,f2,l2.trans hl,q2⟩)
 ·exact yea (h _ b1 ⟨_,fs,_,u,k1,hex,rfl,hel,hp,hb,hf,hl,hpl⟩)
theorem add_int {a:Addr}{D:List Int}{b:Bool}{x:Int}{tk:Tok}{Q:Bool->Shared->Prop}(hS:IS prog w s.heap a D b)(hroom:D.length+1<yuf)
  (h:∀h' r,yrd a s.heap h'->IS prog w h' a (if x∈D then D else D++[x]) b->Q r { s with heap:=h' }) :
  wpAny (model prog w) A (ysj a (.int x tk) ((yyc prog w).hash x)) Q E s:=by
 obtain⟨o,es,ep,t,ho,hex,hd,hel,hp,hb,hf,hl,hpl⟩:=hS;have key:(yyc prog w).is x (.int x tk)=true:=by
  show yej x (.int x tk)=true
  simp[yej]
 have hz:es.size=D.length:=by rw[← hp.length_eq,yaa,yga]
 unfold ysj setAddHashedIn;refine ycc (yba (yjb ho hd hf ?_));dsimp only;rw[byScan_of (x:=.int x tk) rfl hb hel];simp only[↓reduceIte];unfold setAddByScan;refine yba (yba (ykj (yba (wpAny_setScan_of key ho hd hf hel ?_))));have mi:=zfm (x:=x) hel hp;cases hr:List.findIdx? (λe=>(yyc prog w).is x e.2) es.toList with
 | some j =>
  obtain⟨hj,hpj,_⟩:=ysi.mp hr;have hin:x∈D:=mi.mpr ⟨_,yen hj,hpj⟩;dsimp only;refine yea (yea ?_);have z:=h s.heap false (ysg a s.heap);rw[if_pos hin] at z;exact z ⟨o,es,ep,t,ho,hex,hd,hel,hp,hb,hf,hl,hpl⟩
 | none =>
  have hno:¬ x∈D:=λhin=>by
   obtain⟨e,he,hi⟩:=mi.mp hin;have z:=yql.mp hr e he;rw[hi] at z;cases z
  simp only[if_neg hno] at h;dsimp only;have p1:=layNew_perm t es ((yyc prog w).hash x) (.int x tk);have f1:=layNew_fits t es ((yyc prog w).hash x) (.int x tk);have l1:=SSet.zuhb t es ((yyc prog w).hash x) (.int x tk);have r1:=hpl.new es ((yyc prog w).hash x) (.int x tk);generalize layNew t es ((yyc prog w).hash x) (.int x tk)=L at p1 f1 l1 r1 ⊢;obtain⟨fs,u,dm,gave⟩:=L;dsimp only at p1 f1 l1 r1 ⊢;rw[ylj] at p1;have el1:ypk (yyc prog w) fs.toList:=(hel.push key rfl).perm p1;have pp:(fs.toList.map λe=>intV e.2).Perm (D++[x]):=by
   refine (p1.map _).trans ?_;rw[yua];exact ydr hp (ypj _)
  have z1:fs.size=D.length+1:=by rw[← yga,p1.length_eq,yfa,yga,hz];rfl
  have give:∀(c:Bool) (s₁:Shared) (Q':Unit->Shared->Prop),Q' () s₁->wpAny (model prog w) A (match c with|true=>rule "set.scan.the-table-gave-way"|false=>pure ()) Q' E s₁:=λc s₁ Q' q=>by
   cases c
   ·exact yea q
   ·exact ykj q
  refine yba (give _ _ _ ?_)
  split
  ·refine yba ?_;rw[yao 8 (x:=.int x tk) rfl];refine yea ?_;refine zvcb (b:=b) (D:=D++[x]) give ho hex hd el1 pp (by omega) f1 (l1.trans hl) r1 ?_;intro h' sb S';exact yea (h h' _ sb S')
  ·rename_i np;refine yba (yea ?_);simp only[↓reduceIte];refine zvcb (b:=b) (D:=D++[x]) give ho hex hd el1 pp (by omega) f1 (l1.trans hl) r1 ?_;intro h' sb S';exact yea (h h' _ sb S')
def dd (xs:List Int):List Int:=xs.foldl (λD x=>if x∈D then D else D++[x]) []
theorem zxk (xs:List Int)(x:Int):dd (xs++[x])=if x∈dd xs then dd xs else dd xs++[x]:=by
 unfold dd;rw[ygq];rfl
theorem zqbb:∀n (xs:List Int),(dd (xs.take n)).length≤n
 | 0,xs=>yja 0
 | n+1,xs=>by
  have ih:=zqbb n xs;rw[yfb];cases e:xs[n]? with
  | none =>
   rw[yqp,yad];omega
  | some x =>
   rw[yfc,zxk]
   split
   ·omega
   ·rw[yfa,yub];omega
theorem zkq {R:Result->Shared->Prop}{I S:Addr}{fp wr:List Addr}{n:Nat}{P:Nat->Value->Prop}{St:Nat->Heap->Prop}{b:Bool}(W:Walks prog w A.in1 I fp wr n P St)(hSf:S∉fp)(xs:List Int)
  (hval:∀i v,P i v->∃x t,xs[i]?=some x∧v = .int x t) (hn:n+1<yuf) :
  ∀(k i:Nat) (s:Shared),n-i=k->i≤n->St i s.heap->IS prog w s.heap S (dd (xs.take i)) b →
   (∀h' tk,IS prog w h' S (dd (xs.take n)) b->(∀c o,c∉S::wr->s.heap.get? c=some o->h'.get? c=some o)->R (.ok (.ret .none)) { s with heap:=h',toks:=tk }) →
   yfj (model prog w) A (.builtin "set.update.loop" ⟨[.ref S,.ref I],[]⟩) R s:=by
 have nw:S∉wr:=λz=>hSf (W.sub _ z);intro k
 induction k with
 | zero =>
  intro i s hk hi st hS hR;obtain rfl:i=n:=by omega
  refine ypc yee ?_;rw[ytc yjc _];show wpAny _ A.in1 (pyNext (.ref I) >>= _) _ _ s
  refine yba (W.done s _ _ st λh' tk keep=>?_);show wpAny _ A.in1 (ret Value.none) _ _ _
  exact yea (hR h' tk (hS.keep λo e=>keep S o nw e) λc o hc e=>keep c o (λz=>hc (ysa _ z)) e)
 | succ k ih =>
  intro i s hk hi st hS hR;have hlt:i<n:=by omega
  refine ypc yee ?_;rw[ytc yjc _];show wpAny _ A.in1 (pyNext (.ref I) >>= _) _ _ s
  refine yba (W.item i s _ _ hlt st λv h1 tk hP st1 keep=>?_);obtain⟨x,t,hx,rfl⟩:=hval i v hP;have hS1:IS prog w h1 S (dd (xs.take i)) b:=hS.keep λo e=>keep S o nw e;show wpAny _ A.in1 (ysm [Value.int x t] (setAdd S (.int x t)) >>= _) _ _ _
  refine yba (ycc ?_);unfold setAdd;refine ycc (yba ((yyc prog w).pyHash (k:=x) (by show yej x (.int x t)=true;simp[yej]) ?_));have hle:=zqbb i xs;refine add_int (b:=b) (D:=dd (xs.take i)) (s:={ s with heap:=h1,toks:=tk+1 }) hS1 (by omega) λh2 r sb S2=>?_;have e2:(if x∈dd (xs.take i) then dd (xs.take i) else dd (xs.take i)++[x])=dd (xs.take (i+1)):=by
   rw[yfb,hx,yfc,zxk]
  rw[e2] at S2;refine yea ⟨ywe yjc _,ih (i+1) _ (by omega) hlt (W.frame _ h1 _ st1 λc hc o e=>?_) S2 λh3 tk3 S3 keep3=>?_⟩
  ·rw[sb.2 c (λz:c=S=>hSf (by rw[← z];exact hc))];exact e
  ·refine hR h3 tk3 S3 λc o hc e=>keep3 c o hc ?_;show h2.get? c=some o
   rw[sb.2 c (λz:c=S=>hc (by rw[z];exact yqa))];exact keep c o (λz=>hc (ysa _ z)) e
theorem zfib:∀{us:List Value} {xs:List Int},yeh us xs->∀(i:Nat) (v:Value),us[i]?=some v->∃x t,xs[i]?=some x∧v = .int x t
 | _,_,.nil,i,v,e=>by simp at e
 | _,_,.cons x t r,0,v,e=>by
  rw[yyd] at e;cases e;exact⟨x,t,rfl,rfl⟩
 | _,_,.cons x t r,i+1,v,e=>by
  rw[yrb] at e;obtain⟨y,u,h1,h2⟩:=zfib r i v e;exact⟨y,u,by rw[yrb];exact h1,h2⟩
theorem zjg:∀{us:List Value} {xs:List Int},yeh us xs->us.length=xs.length
 | _,_,.nil=>rfl
 | _,_,.cons _ _ r=>congrArg (· + 1) (zjg r)
theorem zcpb (h:Heap):IS prog w (h.push (SSet.empt w)) h.objs.size [] (!w.params.followText "set-order") :=
 ⟨_,#[],0,_,yla _ rfl,⟨rfl,rfl,rfl⟩,rfl,λe he=>by simp at he,.nil,by decide,by rfl,rfl,⟨.nil,rfl⟩⟩
theorem set_tuple {l:Addr}{its:Array Value}{xs:List Int}{Q:Value->Shared->Prop}(hh:A.handled=none)(hl:s.heap.IsTuple l its)(hi:yeh its.toList xs)(hb:its.size+1<yuf)
  (h:∀(h':Heap) (tk:Nat),IS prog w h' s.heap.objs.size (dd xs) (!w.params.followText "set-order")->(∀c o,s.heap.get? c=some o->h'.get? c=some o)->Q (.ref s.heap.objs.size) { s with heap:=h',toks:=tk }) :
  wpAny (model prog w) A (call (.type "set") [.ref l]) Q E s:=by
 obtain⟨cM,tM,mro⟩:=yeb.mro;have made:=yeb.made;have subs:=yeb.sub;have notT:=yeb.notType;have canC:=yeb.canCreate;have chk:=yzi (.ref l);refine ydm (yqk ?_);show wpAny _ _ (callAny (.type "set") ⟨[.ref l],[]⟩) _ _ _
 refine yea ⟨yti _ (by decide +kernel),ypc yui ?_⟩;rw[yil (ytj "set" [Value.ref l] []) rfl]
 repeat (any_goals (first|assumption|wp_step))
 refine yeg (SSet.zgbb (.ref l) (E:=E) (Q1:=λob s1=>ob = .ref s.heap.objs.size∧s1={ s with heap:=s.heap.push (SSet.empt w) }) ⟨rfl,rfl⟩) λr s1 hr=>?_;cases r with
 | error e=>exact hr
 | ok fl =>
  cases fl with
  | ret ob =>
   obtain⟨rfl,rfl⟩:=hr;have g0:(s.heap.push (SSet.empt w)).get? s.heap.objs.size=some (SSet.empt w):=yla _ rfl;have ty0:yuh { s with heap:=s.heap.push (SSet.empt w) } (.ref s.heap.objs.size) "set":=⟨_,g0,rfl⟩;have lk:=yeb.init.lookup;have bd:=yeb.init.bind (.ref s.heap.objs.size)
   repeat (any_goals (first|assumption|wp_step))
   refine yeg (ywh (R:=wants (λr s2=>r = .none∧∃h' tk,s2={ s with heap:=h',toks:=tk }∧IS prog w h' s.heap.objs.size (dd xs) (!w.params.followText "set-order") ∧
     (∀c o,s.heap.get? c=some o->h'.get? c=some o)) E) yeb.init.plain yaj (yfn ty0 ?_)) λr2 s2 hr2=>?_
   ·obtain⟨ol,e1,e2,nl,e3⟩:=hl;obtain⟨oc,od,oD,osl⟩:=ol;dsimp only at e2 e3;subst e2 e3;have e1':(s.heap.push (SSet.empt w)).get? l=some { cls:=.type "tuple",dict:=od,data:=.seq its nl,slots:=osl }:=yca _ e1;have q1:=yho;have q2:=yvk;have q3:(Value.type "tuple" == Value.type "dict")=false:=by decide
    have L1:(s.heap.push (SSet.empt w)).IsTuple l its:=⟨_,e1',rfl,nl,rfl⟩;have lt:l<s.heap.objs.size:=yra e1;unfold yye.«set.__init__» noKeywords yif;generalize hPI:pyIter=PI
    wp_walk
    subst hPI;refine ydl L1 (yba (yzh ?_));have ne:l≠(s.heap.push (SSet.empt w)).objs.size:=by
     rw[ykd];exact yya (yzd lt)
    have nf:s.heap.objs.size∉[(s.heap.push (SSet.empt w)).objs.size,l]:=by
     rw[ykd];intro z
     rcases yma.mp z with z|z
     ·exact absurd z (yya (ydf _))
     ·exact absurd (yia.mp z) (ylf lt)
    have hv:∀(i:Nat) (v:Value),its[i]?=some v->∃x t,xs[i]?=some x∧v = .int x t:=λi v e=>zfib hi i v (by rw[ydb];exact e);have hx:xs.take its.size=xs:=yta (by rw[← yga,zjg hi];exact yja _);refine zkq (b:=!w.params.followText "set-order") (Walks.tuple (by simp[hh]) _ l ne its) nf xs hv hb (its.size-0) 0 _ (by omega) (ytb _) ⟨⟨_,yla _ rfl,rfl,rfl⟩,L1.push _⟩ ?S0 ?R0
    case S0=>exact (zcpb s.heap).keep λo e=>yca _ e
    case R0 =>
     intro h' tk S' keep;rw[hx] at S';show wpAny _ _ _ _ _ _
     refine yea ?_;show wpAny _ _ (ret Value.none) _ _ _
     refine yea ⟨rfl,h',tk,rfl,S',λc o e=>?_⟩;have clt:=yra e;refine keep c o ?_ (yca _ (yca _ e));rw[ykd];intro z
     rcases yma.mp z with z|z
     ·exact absurd z (yya clt)
     ·exact absurd (yia.mp z) (yya (yzd clt))
   ·cases r2 with
    | error e=>exact hr2
    | ok fl2 =>
     cases fl2 with
     | ret r =>
      obtain⟨rfl,h',tk,rfl,S',keep⟩:=hr2
      repeat (any_goals (first|assumption|wp_step))
      exact h _ _ S' keep
     | next=>exact hr2.elim
     | brk=>exact hr2.elim
     | cont=>exact hr2.elim
  | next=>exact hr.elim
  | brk=>exact hr.elim
  | cont=>exact hr.elim
end
end ISet
namespace ISet
open PySem PySem.Spec PyProof.Rows PySem.W
section
variable {prog:yvb}{w:World}{A:Around}{E:Value->Shared->Prop}{s:Shared}
theorem intsAre_map:∀(vs:List Value),(∀v,v∈vs->∃x t,v = .int x t)->yeh vs (vs.map intV)
 | [],_=>.nil
 | v::vs,h=>by
  obtain⟨x,t,rfl⟩:=h v (yqa ..);exact .cons x t (intsAre_map vs λu hu=>h u (ysa _ hu))
theorem zyj {es:List (Int×Value)}{D:List Int}{vs:List Value}(hel:ypk (yyc prog w) es)(hp:(es.map λe=>intV e.2).Perm D)(hv:vs.Perm (es.map (·.2))):∃ys,yeh vs ys∧ys.Perm D:=by
 refine⟨vs.map intV,intsAre_map vs λv hm=>?_,?_⟩
 ·obtain⟨e,he,rfl⟩:=yac.mp (hv.mem_iff.mp hm);obtain⟨x,t,e1,_⟩:=zxmb hel he;exact⟨x,t,e1⟩
 ·refine (hv.map intV).trans ?_;rw[yeo];exact hp
theorem znlb {a:Addr}{D:List Int}{Q:Value->Shared->Prop}(hh:A.handled=none)(hS:IS prog w s.heap a D (!w.params.followText "set-order"))
  (h:∀(h':Heap) (d':Drawn) (I:Addr) (n:Nat) (fp:List Addr) (P:Nat->Value->Prop) (St:Nat->Heap->Prop),(∀b o,s.heap.get? b=some o->h'.get? b=some o)->s.heap.objs.size≤I->(∀b∈fp,b=a∨s.heap.objs.size≤b) →
   Walks prog w A I fp [I] n P St->St 0 h'->n=D.length->(∀vs:List Value,vs.length=n->(∀(i:Nat) v,vs[i]?=some v->P i v)->∃ys,yeh vs ys∧ys.Perm D)->Q (.ref I) { s with heap:=h',drawn:=d' }) :
  wpAny (model prog w) A (pyIter (.ref a)) Q E s:=by
 obtain⟨o,es,ep,t,ho,hex,hd,hel,hp,hb,hf,hl,hpl⟩:=hS;have hT:s.TypeIs (.ref a) "set":=⟨o,ho,hex.1⟩;have so:SSet.SObj s.heap a es ep t:=⟨o,ho,hex.1,hd,hf⟩;have hz:es.size=D.length:=by rw[← hp.length_eq,yaa,yga]
 have alt:a<s.heap.objs.size:=yra ho;refine yjm hT yoh (yxd yoh hT SSet.zvib ?_ (yxm _));unfold yye.«frozenset.__iter__»;refine yba (m:=yym "__iter__" _) (yea ?_);refine yba (m:=ykm a) (yba (yrk ho hd hf (yea ?_)));refine yba (m:=setDrawn a) (yba (yjb ho hd hf (yba (m:=ycg) (yba (yzc (yea (yea ?_)))))));dsimp only;have jp:∀{first:Value} {h1:Heap} {d1:Drawn},SSet.SObj h1 a es ep t->Q (.ref h1.objs.size) { s with heap:=h1.push { cls:=.type "set_iterator",dict:=none,data:=.fields #[first,rawInt (0:Nat),.ref a,rawInt es.size,rawInt ep],slots:=#[] },drawn:=d1 } →
   wpAny (model prog w) A.in1 (do
    let e ← setEpoch a
    let v ← ynr "set_iterator" [first,rawInt 0,Value.ref a,rawInt es.size,rawInt e]
    ret v) (λfin s'=>∃v,fin=Fin.done (Flow.ret v)∧∃T' r,s'.TypeIs v T'∧typeLookup (Value.type T') (yhi "__next__")=pure (some r)∧Q v s') E { s with heap:=h1,drawn:=d1 }:=by
  intro first h1 d1 ⟨o1,e1,e2,e3,e4⟩ q
  refine yba (m:=setEpoch a) (yba (yjb e1 e3 e4 (yea ?_)));refine yba (m:=ynr _ _) (ymd (yea ⟨_,rfl,"set_iterator",_,⟨_,yla _ rfl,rfl⟩,SSet.zwq.lookup,?_⟩));exact q
 split
 ·rename_i hc;have hc':(!w.params.followText "set-order" && (!t.plain&&decide (es.size>1)))=true:=hc;refine yba (SSet.zgw es.size (yuc es.size) s _ (by simp) λjs d1 pj=>?_);refine yba (wpAny_newTuple ?_ (by rw[yaa,pj.length_eq,yke];exact ynf hb));have jl:js.length=es.size:=by rw[pj.length_eq,yke]
  have jm:∀j∈js,j<es.size:=λj hj=>ynl.mp (pj.mem_iff.mp hj);refine jp (so.keep λo e=>yca _ e) ?_;have sz:(s.heap.push { cls:=.type "tuple",data:=.seq (js.map λ(j:Nat)=>rawInt j).toArray }).objs.size=s.heap.objs.size+1:=ykd _ _;refine h _ d1 _ es.size _ _ _ (λb o e=>yca _ (yca _ e)) (by rw[sz];exact yhg _) ?_ (SSet.zrq (a:=a) (tp:=s.heap.objs.size) hh ?_ ?_ es ep t js jl jm) ⟨?_,?_,?_⟩ hz λvs hv hP=>zyj hel hp (SSet.znu pj hv hP)
  ·intro b hb';rw[sz] at hb'
   rcases yma.mp hb' with z|z
   ·exact .inr (by rw[z];exact yhg _)
   ·rcases yma.mp z with z|z
    ·exact .inl z
    ·exact .inr (by rw[yia.mp z];exact yja _)
  ·rw[sz];exact yya (yzd alt)
  ·rw[sz];exact yya (ydf _)
  ·exact yla _ rfl
  ·exact so.keep λo e=>yca _ (yca _ e)
  ·exact⟨_,yca _ (yla _ rfl),rfl,_,rfl⟩
 ·rename_i hc;have hc':¬ (!w.params.followText "set-order" && (!t.plain&&decide (es.size>1)))=true:=hc;refine yba (yea (jp (h1:=s.heap) (d1:=s.drawn) so ?_));have fpk:∀b∈[s.heap.objs.size,a],b=a∨s.heap.objs.size≤b:=λb hb'=>by
   rcases yma.mp hb' with z|z
   ·exact .inr (by rw[z];exact yja _)
   ·exact .inl (yia.mp z)
  have ne:a≠s.heap.objs.size:=yya alt;cases ft:w.params.followText "set-order" with
  | true =>
   have bt:∀{A':Around} {E':Value->Shared->Prop} {s':Shared} {Q':Bool->Shared->Prop},Q' true s'->wpAny (model prog w) A' ycg Q' E' s':=λ{A' E' s' Q'} q=>by
    unfold ycg;refine yba (yzc (yea ?_));show Q' (w.params.followText "set-order") s'
    rw[ft];exact q
   have stp:∀(A:Around) (E:Value->Shared->Prop) (i slot:Nat) (s:Shared) (Q:Option (Value×Nat)->Shared->Prop),SSet.SObj s.heap a es ep t->Q (((ygf (w.params.setOrder a ep) es)[i]?).map λe=>(e.2,slot)) s->wpAny (model prog w) A (yzj a slot i ep) Q E s:=by
    intro A E i slot s Q ⟨o1,e1,e2,e3,e4⟩ q;unfold yzj;refine yba (yjb e1 e3 e4 ?_);dsimp only;refine yba (bt ?_);rw[if_pos rfl,if_neg (by simp)];unfold setWalk;refine yba (yba (yjb e1 e3 e4 (yba (bt ?_))));rw[if_pos rfl];exact yba (yzc (yea (yea q)))
   have po:=SSet.ztx (w.params.setOrder a ep) es;have pz:(ygf (w.params.setOrder a ep) es).size=es.size:=(by rw[← yga,po.length_eq,yga]);refine h _ s.drawn _ es.size _ _ _ (λb o e=>yca _ e) (yja _) fpk (SSet.zbn (a:=a) hh ne es ep t ((ygf (w.params.setOrder a ep) es).toList.map (·.2)) (λslot _=>slot=0) ?_ ?_) ⟨⟨0,yla _ rfl,rfl⟩,so.keep λo e=>yca _ e⟩ hz λvs hv hP=>?_
   ·intro A E i slot s Q hi r so' q;have e1:(ygf (w.params.setOrder a ep) es)[i]?=some (ygf (w.params.setOrder a ep) es)[i]:=ynb (by omega);refine stp A E i slot s Q so' ?_;rw[e1];exact q _ _ (by rw[yna,ydb,e1];rfl) r
   ·intro A E slot s Q r so' q;refine stp A E _ slot s Q so' ?_;rw[yce (by omega)];exact q
   ·refine zyj hel hp ?_;have e1:vs=(ygf (w.params.setOrder a ep) es).toList.map (·.2):=SSet.zdj (by rw[hv,yaa,yga,pz]) hP;rw[e1];exact po.map _
  | false =>
   rw[ft] at hc' hl;have bt:∀{A':Around} {E':Value->Shared->Prop} {s':Shared} {Q':Bool->Shared->Prop},Q' false s'->wpAny (model prog w) A' ycg Q' E' s':=λ{A' E' s' Q'} q=>by
    unfold ycg;refine yba (yzc (yea ?_));show Q' (w.params.followText "set-order") s'
    rw[ft];exact q
   have nd:¬ (!t.plain&&decide (es.size>1))=true:=λz=>hc' (by rw[z];rfl);have stp:∀(A:Around) (E:Value->Shared->Prop) (i slot:Nat) (s:Shared) (Q:Option (Value×Nat)->Shared->Prop),SSet.SObj s.heap a es ep t->Q (match es[yxb t.place slot]?,t.place[yxb t.place slot]? with|some (_,x),some j=>some (x,j+1)|_,_=>none) s->wpAny (model prog w) A (yzj a slot i ep) Q E s:=by
    intro A E i slot s Q ⟨o1,e1,e2,e3,e4⟩ q;unfold yzj;refine yba (yjb e1 e3 e4 ?_);dsimp only;refine yba (bt ?_);rw[if_neg (by simp)];refine yaf (λz=>absurd z nd) (λ_=>?_);have nl:¬ (!t.led && !es.isEmpty)=true:=by
     rw[hl];simp
    refine yba (yaf (λz=>absurd z nl) (λ_=>yea ?_));exact yea q
   have ps:t.place.size=es.size:=by
    have z:=hf;unfold yvi at z;simp at z;exact z.1
   refine h _ s.drawn _ es.size _ _ _ (λb o e=>yca _ e) (yja _) fpk (SSet.zbn (a:=a) hh ne es ep t (es.toList.map (·.2)) (λslot i=>yxb t.place slot=i) ?_ ?_) ⟨⟨0,yla _ rfl,zmfb hpl.rise⟩,so.keep λo e=>yca _ e⟩ hz λvs hv hP=>?_
   ·intro A E i slot s Q hi r so' q;have e1:es[i]?=some es[i]:=ynb hi;have hi2:i<t.place.size:=(by omega);have e2:t.place[i]?=some t.place[i]:=ynb hi2;refine stp A E i slot s Q so' ?_;rw[r,e1,e2];exact q _ _ (by rw[yna,ydb,e1];rfl) (znfb hpl.rise hi2)
   ·intro A E slot s Q r so' q;refine stp A E _ slot s Q so' ?_;rw[r,yce (yja _)];exact q
   ·refine zyj hel hp ?_;have e1:vs=es.toList.map (·.2):=SSet.zdj (by rw[hv,yaa,yga]) hP;rw[e1]
theorem zsbb {a:Addr}{D:List Int}{R:List Value->Shared->Prop}(hh:A.handled=none)(hS:IS prog w s.heap a D (!w.params.followText "set-order"))
  (h:∀(h':Heap) (d':Drawn) (tk:Nat) (vs:List Value) (ys:List Int),(∀b o,s.heap.get? b=some o->h'.get? b=some o)->s.heap.objs.size<h'.objs.size->yeh vs ys->ys.Perm D->R vs { s with heap:=h',drawn:=d',toks:=tk }) :
  wpAny (model prog w) A (yor (.ref a)) R E s:=by
 obtain⟨oA,hoA⟩:∃o,s.heap.get? a=some o:=let ⟨o,_,_,_,e,_⟩:=hS;⟨o,e⟩;have alt:a<s.heap.objs.size:=yra hoA;have dz:D.length≤yza:=by
  obtain⟨o,es,ep,t,_,_,_,_,hp,hb,_⟩:=hS;rw[← hp.length_eq,yaa,yga];exact ynf hb
 have nSa:s.heap.objs.size≠a:=ylf alt;unfold yor;refine yba (yzh (ypc ybk ?_));rw[ytc ytk _];show wpAny _ A.in1 (newList [] >>= λl=>again (.builtin "list.__iadd__" ⟨[l,.ref a],[]⟩)) _ _ s
 refine yba (ymd (yea ⟨ywe yhh _,ypc ygn ?_⟩));rw[ytc yhh _];show wpAny _ A.in1 (yud (.ref s.heap.objs.size) (.ref a) (.ref s.heap.objs.size)) _ _ _
 unfold yud;have S1:IS prog w (s.heap.push { cls:=.type "list",data:=.seq ([]:List Value).toArray }) a D (!w.params.followText "set-order"):=hS.keep λo e=>yca _ e;have g1:(s.heap.push { cls:=.type "list",data:=.seq ([]:List Value).toArray }).get? s.heap.objs.size=some { cls:=.type "list",dict:=none,data:=.seq #[] 0,slots:=#[] }:=yla _ rfl;have k1:∀b o,s.heap.get? b=some o->(s.heap.push { cls:=.type "list",data:=.seq ([]:List Value).toArray }).get? b=some o:=λb o e=>yca _ e;generalize s.heap.push { cls:=.type "list",data:=.seq ([]:List Value).toArray }=h1 at S1 g1 k1 ⊢;have ty1:yuh { s with heap:=h1 } (.ref a) "set":=by
  obtain⟨o,es,ep,t,ho,hex,_⟩:=S1;exact⟨o,ho,hex.1⟩
 refine yba (yii (T:="set") ty1 ?_);have ns:yug (.ref s.heap.objs.size) (.ref a)=false:=by simp[yug,nSa]
 simp only[ns,show (Value.type "set" == Value.type "list")=false by decide,show (Value.type "set" == Value.type "tuple")=false by decide,ynp,ypi,if_false];refine yba (znlb (s:={ s with heap:=h1 }) (A:=A.in1) hh S1 λh2 d2 I n fp P St k2 hI hfp W st hn hv=>?_);have ty2:yuh { s with heap:=h2,drawn:=d2 } (.ref a) "set":=by
  obtain⟨o,e,c⟩:=ty1;exact⟨o,k2 _ _ e,c⟩
 have slt:s.heap.objs.size<h1.objs.size:=yra g1;have nf:s.heap.objs.size∉fp:=λz=>by
  rcases hfp _ z with z|z
  ·exact nSa z
  ·exact absurd (yva slt z) (yfe _)
 have key:∀(R':Result->Shared->Prop) (h3:Heap) (c:Nat),St 0 h3->(∀b o,b≠s.heap.objs.size->h2.get? b=some o->h3.get? b=some o)->h3.get? s.heap.objs.size=some { cls:=.type "list",dict:=none,data:=.seq #[] c,slots:=#[] } →
   (∀(h4:Heap) (tk:Nat) (vs:List Value) (ys:List Int) (c':Nat),(∀b o,s.heap.get? b=some o->h4.get? b=some o)->yeh vs ys->ys.Perm D->h4.get? s.heap.objs.size=some { cls:=.type "list",dict:=none,data:=.seq vs.toArray c',slots:=#[] }->R' (.ok (.ret (.ref s.heap.objs.size))) { s with heap:=h4,drawn:=d2,toks:=tk }) →
   yfj (model prog w) A (.builtin "list.extend.loop" ⟨[.ref s.heap.objs.size,.ref I,.ref s.heap.objs.size],[]⟩) R' { s with heap:=h3,drawn:=d2 }:=by
  intro R' h3 c st3 k3 g3 hR;refine codeAny_extend_loopS W.toS (by omega) s.heap.objs.size nf _ n 0 _ #[] c rfl (ytb _) st3 g3 (ItemsOf.nil _) λs' acc c' mv g' ia=>?_;rw[Moved.eq_with mv];obtain⟨ys,sy,py⟩:=hv acc.toList (by rw[yga];exact ia.1) λi v e=>ia.2 i v (by rw[← ydb];exact e);refine hR s'.heap s'.toks acc.toList ys c' (λb o e=>?_) sy py (by rw[yae];exact g');have nb:b≠s.heap.objs.size:=yya (yra e);refine mv.heap b o (λz=>?_) (k3 b o nb (k2 b o (k1 b o e)))
  rcases yma.mp z with z|z
  ·exact nb z
  ·have bi:b=I:=yia.mp z;have:=yra (k1 b o e);rw[bi] at this;exact absurd (yva this hI) (yfe _)
 have g2:=k2 _ _ g1;have fin:∀(h4:Heap) (tk:Nat) (vs:List Value) (ys:List Int) (c':Nat),(∀b o,s.heap.get? b=some o->h4.get? b=some o)->yeh vs ys->ys.Perm D->h4.get? s.heap.objs.size=some { cls:=.type "list",dict:=none,data:=.seq vs.toArray c',slots:=#[] } →
   wpAny (model prog w) A (load s.heap.objs.size >>= λo=>match o.data with
    | .seq xs _=>pure xs.toList
    | _=>yte "internal:collect") R E { s with heap:=h4,drawn:=d2,toks:=tk }:=λh4 tk vs ys c' k4 sy py g4=>by
  refine yba (yzl g4 ?_);show wpAny _ _ (pure vs.toArray.toList) _ _ _
  exact yea (h h4 d2 tk vs ys k4 (yra g4) sy py)
 refine yba (ycc (SSet.zrdb ty2 ?_));refine yaf (λ_=>?_) (λ_=>yea ⟨ywe yjg _,key _ h2 0 st (λb o _ e=>e) g2 fin⟩);refine yba (ykj (yba ?_));show wpAny _ _ (ypr s.heap.objs.size (·.push .none) >>= λ_=>ypr s.heap.objs.size (·.pop)) _ _ _
 refine yba (ywi g2 rfl ?_);have g3:=ywc (yre (·.push Value.none)) g2 rfl;refine ywi (hz:=by seq_fits) g3 rfl ?_;have g4:=ywc (yre (·.pop)) g3 rfl;refine yea ⟨ywe yjg _,key _ _ _ ?_ (λb o nb e=>?_) g4 fin⟩
 ·refine W.frame 0 _ _ st λb hb o e=>?_;have nb:s.heap.objs.size≠b:=λz=>nf (z▸hb);exact (yqc _ _ nb).trans ((yqc _ _ nb).trans e)
 ·exact (yqc _ _ (yqd nb)).trans ((yqc _ _ (yqd nb)).trans e)
theorem zqeb {a:Addr}{D:List Int}{Q:Value->Shared->Prop}(hh:A.handled=none)(hS:IS prog w s.heap a D (!w.params.followText "set-order"))(h64:D.length<64)
  (h:∀(h':Heap) (d':Drawn) (tk:Nat) (p:Addr) (vs:List Value) (ys:List Int) (n:Nat),(∀b o,s.heap.get? b=some o->h'.get? b=some o)->s.heap.objs.size≤p->h'.get? p=some { cls:=.type "list",data:=.seq vs.toArray n }->yeh vs ys->ys.Perm D->ys.Pairwise (· ≤ ·) →
   Q (.ref p) { s with heap:=h',drawn:=d',toks:=tk }):wpAny (model prog w) A (call (.builtin "sorted") [.ref a]) Q E s:=by
 refine yai kind_sorted yuq yvq (ywq _) ?_;unfold yye.«sorted»;refine yba (m:=checkCount "sorted" 1 1 _) (yea (yba (zsbb (A:=A.in1) hh hS λh1 d1 tk vs ys k1 lt1 sy py=>?_)));have vl:vs.length<64:=by rw[zjg sy,py.length_eq];exact h64
 refine yba (yzm ?_ (ykb (yge vl) (by decide)));have g1:(h1.push (seqObj "list" vs.toArray 0)).get? h1.objs.size=some (seqObj "list" vs.toArray 0):=yla _ rfl;refine yba (ycc (yxd ywo ⟨_,g1,rfl⟩ ygo (list_sort_tree g1 sy vl λout zs z1 z2 z3=>⟨_,rfl,?_⟩) (yxo _)));obtain⟨e,he⟩:=sortedHeap_at (vs:=vs) (out:=out) g1;refine yea ⟨_,rfl,h _ d1 tk h1.objs.size out.toList zs e (λb o q=>?_) (yge lt1) ?_ z1 (z2.trans py) z3⟩
 ·have q1:=k1 b o q;have bl:=yra q1;rw[sortedHeap_old (yya bl) (by rw[size_push'];exact yzd bl)];exact yca _ q1
 ·rw[yae];exact he
end
end ISet
namespace ISet
open PySem PySem.Spec PyProof.Rows PySem.W
section
variable {prog:yvb}{w:World}{A:Around}{E:Value->Shared->Prop}{s:Shared}
theorem zlw {l:Addr}{vs:List Value}{Q:List Value->Shared->Prop}(hl:s.heap.IsTuple l vs.toArray)
  (h:Q vs { s with heap:=(s.heap.push (seqObj "list" #[] 0)).update s.heap.objs.size (yre (· ++ vs.toArray)) }) (hsz:vs.length≤yza) :
  wpAny (model prog w) A (yor (.ref l)) Q E s:=by
 obtain⟨o,ho,hc,n,hd⟩:=id hl;unfold yor;refine yba (yzh (ypc ybk ?_));show wpAny _ _ (do again (.builtin "list.__iadd__" ⟨[← newList [],.ref l],[]⟩)) _ _ s
 refine yba (yzm (yea ⟨yti _ (by decide +kernel),ypc ygn ?_⟩));show wpAny _ _ (yud (.ref s.heap.objs.size) (.ref l) (.ref s.heap.objs.size)) _ _ { s with heap:=s.heap.push (seqObj "list" #[] 0) }
 unfold yud;have ho':(s.heap.push (seqObj "list" #[] 0)).get? l=some o:=yca _ ho;refine yba (yii (T:="tuple") ⟨o,ho',hc⟩ ?_);have ht:(Value.type "tuple" == Value.type "tuple")=true:=by rfl
 rw[if_pos (by rw[ht];simp)];refine yba (listItems_at ho' hd ?_);refine yba (listItems_at (xs:=#[]) (n:=0) (yla _ rfl) rfl ?_);rw[if_neg (by simp)];refine yba (listUpdate_at (xs:=#[]) (n:=0) (yla _ rfl) rfl ?_ (ytb _) (by show (#[]++vs.toArray).size≤yza+1;simp only[ynj,yoa,ywg];omega));refine yea ?_;show wpAny (model prog w) A (do
   let o ← load s.heap.objs.size
   match o.data with
   | .seq xs _=>pure xs.toList
   | _=>yte "internal:collect") Q E { s with heap:=(s.heap.push (seqObj "list" #[] 0)).update s.heap.objs.size (yre (· ++ vs.toArray)) }
 refine yba (yzl (get?_update_seq (yla _ rfl) _) ?_);show wpAny _ _ (pure ((#[]:Array Value)++vs.toArray).toList) Q E _
 rw[show ((#[]:Array Value)++vs.toArray).toList=vs by simp];exact yea h
theorem ztab {l:Addr}{vs:List Value}{ns:List Int}{Q:Value->Shared->Prop}(hl:s.heap.IsTuple l vs.toArray)(hI:yeh vs ns)(h64:vs.length<64)
  (h:∀(out:Array Value) (ns':List Int),yeh out.toList ns'->ns'.Perm ns->ns'.Pairwise (· ≤ ·)->Q (.ref (s.heap.objs.size+1)) { s with heap:=yrr s.heap vs out }) :
  wpAny (model prog w) A (call (.builtin "sorted") [.ref l]) Q E s:=by
 refine yai kind_sorted yuq yvq (ywq _) ?_;unfold yye.«sorted»;have big:vs.length≤yza:=ykb (yge h64) (by decide);refine yba (m:=checkCount "sorted" 1 1 _) (yea ?_);refine yba (zlw hl ?_ big);refine yba (yzm ?_ big);have hsz:((s.heap.push (seqObj "list" #[] 0)).update s.heap.objs.size (yre (· ++ vs.toArray))).objs.size=s.heap.objs.size+1:=by
  rw[Heap.size_update,size_push']
 have hoL:(((s.heap.push (seqObj "list" #[] 0)).update s.heap.objs.size (yre (· ++ vs.toArray))).push (seqObj "list" vs.toArray 0)).get? (s.heap.objs.size+1)=some (seqObj "list" vs.toArray 0):=by
  rw[← hsz];exact yla _ rfl
 show wpAny _ _ _ _ _ { s with heap:=((s.heap.push (seqObj "list" #[] 0)).update s.heap.objs.size (yre (· ++ vs.toArray))).push (seqObj "list" vs.toArray 0) }
 rw[hsz];refine yba (ycc (yxd ywo ⟨_,hoL,rfl⟩ ygo (list_sort_tree hoL hI h64 λout ns' a1 a2 a3=>⟨_,rfl,?_⟩) (yxo _)));exact yea ⟨_,rfl,h out ns' a1 a2 a3⟩
end
end ISet
namespace SumL
open PySem PySem.Spec PyProof.Rows
section
variable {prog:yvb}{w:World}{A:Around}{R:Result->Shared->Prop}
end
section
variable {prog:yvb}{w:World}{A:Around}{E:Value->Shared->Prop}{s:Shared}
end
end SumL
namespace L2
open PySem PyProof.Rows
section
variable {X:Cx}
end
end L2
namespace L2
open PySem PySem.Spec PyProof.Rows
theorem ints_of:∀{vs:List Value} {ys:List Int},Vals (ys.map V.int) vs->yeh vs ys
 | _,[],.nil=>.nil
 | _,y::r,.cons h t=>by
  obtain⟨tk,rfl⟩:=h;exact .cons y tk (ints_of t)
def setI (X:Cx)(l:Addr)(D:List Int):HO:=.ext λh=>ISet.IS X.prog X.w h l D (!X.w.params.followText "set-order")
section
variable {X:Cx}
theorem znw (hc:X.calm=true):zwf X (.type "set") (λxs H Q=>Ex2 λp ys=>xs=[.ref p]∧SqT X.K H p (ys.map V.int)∧ys.length≤1000∧∀l,H l=none->Q (.ref l) (upd H l (setI X l (ISet.dd ys)))):=by
 intro pins s σ H xs us Q I r h;obtain⟨p,ys,rfl,hq,hy,q⟩:=h;obtain⟨u,rfl,ru⟩:=vals1 r;cases ru;obtain⟨its,rv,pl,hz⟩:=I.tuple hq;have sy:=ints_of rv;have il:its.length=ys.length:=ISet.zjg sy;refine ISet.set_tuple (xs:=ys) (I.ok.hd hc) pl (by simpa using sy) (by rw[yoa,il];have:yuf=4096:=rfl;omega) λh' tk S k=>?_;have I1:Inv X pins σ (upd H s.heap.objs.size (setI X s.heap.objs.size (ISet.dd ys))) { s with heap:=h',toks:=tk }:=I.laid (t':=tk) (λb o e=>k b o e) (yja _) ⟨S,let ⟨o,_,_,_,e,_⟩:=S;⟨o,e⟩,λh1 h2 x y=>x.keep y⟩;exact⟨.ref s.heap.objs.size,_,I1,rfl,q _ (I.hok.fresh (yja _))⟩
theorem zbq (hc:X.calm=true):zwf X (.builtin "sorted") (λxs H Q=>Ex2 λl D=>xs=[.ref l]∧H l=some (setI X l D)∧D.length<64∧∀(p:Addr) (ys:List Int),H p=none->ys.Perm D->ys.Pairwise (· ≤ ·)->Q (.ref p) (upd H p (.lst (ys.map V.int)))):=by
 intro pins s σ H xs us Q I r h;obtain⟨l,D,rfl,hl,h64,q⟩:=h;obtain⟨u,rfl,ru⟩:=vals1 r;cases ru;obtain⟨S,_,_⟩:=I.hok l _ hl;refine ISet.zqeb (I.ok.hd hc) S h64 λh' d' tk p vs ys n k hp g sy py so=>?_;have I0:=I.zzgb d';have vl:vs.length≤yza:=by
  rw[ISet.zjg sy,py.length_eq];exact ykb (yge h64) (by decide)
 have I1:Inv X pins σ (upd H p (.lst (ys.map V.int))) { s with heap:=h',drawn:=d',toks:=tk }:=I0.laid (t':=tk) (λb o e=>k b o e) hp ⟨by rw[yaa,← ISet.zjg sy];exact vl,vs,n,zcn sy,g⟩;exact⟨.ref p,_,I1,rfl,q p ys (I.hok.fresh hp) py so⟩
end
end L2
namespace L2
open PySem PySem.Spec PyProof.Rows PySem.MeetsSeq
section
variable {X:Cx}
theorem zfjb {v:Value}{r1 r2:List V->Hp->VK->Prop}(a:zwf X v r1)(b:zwf X v r2):zwf X v (λxs H Q=>r1 xs H Q∨r2 xs H Q):=by
 intro pins s σ H xs us Q I r h
 rcases h with h|h
 ·exact a pins s σ H xs us Q I r h
 ·exact b pins s σ H xs us Q I r h
theorem zmz (hc:X.calm=true):zwf X (.type "set") (λxs H Q=>(∃p,∃ys,xs=[.ref p]∧SqT X.K H p (ys.map V.str)∧ys.length≤1000∧∀l,H l=none->Q (.ref l) (upd H l (setO X l (SSet.dd ys))))∨Ex2 λp ys=>xs=[.ref p]∧SqT X.K H p (ys.map V.int)∧ys.length≤1000∧∀l,H l=none->Q (.ref l) (upd H l (setI X l (ISet.dd ys)))):=zfjb (zwp hc) (znw hc)
theorem zls (hc:X.calm=true):zwf X (.builtin "sorted") (λxs H Q=>(Ex2 λl D=>xs=[.ref l]∧H l=some (setO X l D)∧D.length<64∧∀p ys,H p=none->ys.Perm D->yuk ys=true->Q (.ref p) (upd H p (.lst (ys.map V.str))))∨Ex2 λl D=>xs=[.ref l]∧H l=some (setI X l D)∧D.length<64∧∀(p:Addr) (ys:List Int),H p=none->ys.Perm D->ys.Pairwise (· ≤ ·)->Q (.ref p) (upd H p (.lst (ys.map V.int)))):=zfjb (zyh hc) (zbq hc)
def zmtb (K:yda):R2:=λx y H Q=>Ex4 λa b xs ys=>x = .ref a∧y = .ref b∧SqT K H a xs∧SqT K H b ys∧xs.length+ys.length≤yza∧(xs=[]->Q (.ref b) H)∧(xs≠[]->ys=[]->Q (.ref a) H)∧(xs≠[]->ys≠[]->∀p,H p=none->Q (.ref p) (upd H p (.tup (xs++ys))))
theorem zkhb:OpR X (ysh .Add) (zmtb X.K):=by
 intro pins s σ H x y v u Q I rx ry h;obtain⟨a,b,xs,ys,rfl,rfl,ha,hb,hz,q1,q2,q3⟩:=h
 by_cases c:xs=[]
 ·subst c;cases rx;cases ry;obtain⟨its,r1,p1,_⟩:=I.tuple ha;obtain⟨its2,r2,p2,_⟩:=I.tuple hb;cases r1;obtain⟨⟨cls,dd,data,sl⟩,ho,hc,n,hd⟩:=id p1;obtain⟨⟨cls2,dd2,data2,sl2⟩,ho2,hc2,n2,hd2⟩:=id p2;simp only at hc hd hc2 hd2;subst hc hd hc2 hd2;exact ytn ⟨_,ho,rfl⟩ ⟨_,ho2,rfl⟩ yyj yvm ylh ydh (ypg _ _)
   (zssb a b _ its2.toArray n n2 dd dd2 sl sl2 rfl) ⟨ho,ho2,⟨.ref b,H,I,rfl,q1 rfl⟩⟩
 ·exact zbbb pins s σ H (.ref a) (.ref b) v u Q I rx ry ⟨a,b,xs,ys,rfl,rfl,ha,hb,c,hz,q2 c,q3 c⟩
theorem zeh:zwf X (.builtin "sorted") (λxs H Q=>Ex2 λl ns=>xs=[.ref l]∧(SqL X.K H l (ns.map V.int)∨SqT X.K H l (ns.map V.int))∧ns.length<64∧∀(p:Addr) (ys:List Int),H p=none->ys.Perm ns->ys.Pairwise (· ≤ ·)->Q (.ref p) (upd H p (.lst (ys.map V.int)))):=by
 intro pins s σ H xs us Q I r h;obtain⟨l,ns,rfl,hl,h64,q⟩:=h;obtain⟨u,rfl,ru⟩:=vals1 r;cases ru;have fin:∀(its:List Value),yeh its ns->∀(out:Array Value) (ys:List Int),yeh out.toList ys->ys.Perm ns->ys.Pairwise (· ≤ ·)->Ex2 λv H'=>Inv X pins σ H' { s with heap:=yrr s.heap its out }∧RelV v (.ref (s.heap.objs.size+1))∧Q v H':=λits sy out ys a1 a2 a3=>by
  obtain⟨e,he⟩:=sortedAll_at s.heap its out;have vl:out.toList.length≤yza:=by
   rw[ISet.zjg a1,a2.length_eq];exact ykb (yge h64) (by decide)
  have I1:Inv X pins σ (upd H (s.heap.objs.size+1) (.lst (ys.map V.int))) { s with heap:=yrr s.heap its out }:=I.laid (t':=s.toks) (λb o e=>sortedAll_old e) (yhg _) ⟨by rw[yaa,← ISet.zjg a1];exact vl,out.toList,e,zcn a1,by rw[yae];exact he⟩;exact⟨.ref (s.heap.objs.size+1),_,I1,rfl,q _ ys (I.hok.fresh (yhg _)) a2 a3⟩
 rcases hl with hl|hl
 ·obtain⟨its,rv,pl,_⟩:=I.list hl;have sy:=ints_of rv;exact sorted_ints (vs:=its) (ns:=ns) pl.isList sy (by rw[ISet.zjg sy];exact h64) λout ys a1 a2 a3=>fin its sy out ys a1 a2 a3
 ·obtain⟨its,rv,pl,_⟩:=I.tuple hl;have sy:=ints_of rv;exact ISet.ztab (vs:=its) (ns:=ns) pl sy (by rw[ISet.zjg sy];exact h64) λout ys a1 a2 a3=>fin its sy out ys a1 a2 a3
end
end L2
namespace HT
open PySem PySem.Spec PyProof.Rows L2
section
variable {prog:yvb}{w:World}{A:Around}{E:Value->Shared->Prop}{s:Shared}
theorem zim {t sl:Addr}{items:Array Value}{vl vu:Value}{lo hi:Option Int}{Q:Value->Shared->Prop}(ht:IsTup s.heap t items)(hs:s.heap.IsSliceOf sl vl vu .none)(pl:IsPart vl lo)(pu:IsPart vu hi)
  (hw:sIx items.size 0 lo=0∧sIx items.size items.size hi=items.size) (h:Q (.ref t) s):wpAny (model prog w) A (yun (.ref t) (.ref sl)) Q E s:=by
 obtain⟨os,hos,hcs,hds⟩:=id hs;have hTs:s.TypeIs (.ref sl) "slice":=⟨os,hos,hcs⟩;unfold yun
 try with_reducible refine ycc ?_
 first|refine yba (yea ?_)|skip
 refine yba (yhj ht.typeIs (by decide) ?_);refine yba (yhf (name:=yhi "__getitem__") ht.typeIs ybd
  (yxd ybd ht.typeIs entry_tuple_getitem ?_ (args_tuple_getitem _ _)))
 show wpAny _ _ (ybl (.ref t) >>= _) _ _ s
 refine yba (tupleItemsOf_ ht ?_);refine yba (yii hTs ?_);rw[if_pos (by decide)];refine yba (zck hs pl pu ?_);have hyes:((((sIx items.size 0 lo:Nat):Int)==0&&(1:Int)==1&&(sIx items.size items.size hi-sIx items.size 0 lo)==items.size)=true):=by
  rw[hw.1,hw.2];simp
 show wpAny _ _ (if (((sIx items.size 0 lo:Nat):Int)==0&&(1:Int)==1&&(sIx items.size items.size hi-sIx items.size 0 lo)==items.size)=true then _ else _) _ _ s
 rw[if_pos hyes];refine yba (m:=yye.Tuple.tupleIsExact _) (yba (yii ht.typeIs (yea ?_)));refine yaf (λ_=>?_) (λz=>absurd (by decide) z);exact yba (ykj (yea ⟨_,rfl,yea h⟩))
end
end HT
namespace L2
open PySem PySem.Spec PyProof.Rows
def rSlA (K:yda):V->Option Int->Option Int->Hp->VK->Prop:=λx lo hi H Q=>Ex2 λa xs=>x = .ref a∧SqT K H a xs ∧
 ((HT.sIx xs.length 0 lo=0∧HT.sIx xs.length xs.length hi=xs.length)->Q (.ref a) H)∧(¬ (HT.sIx xs.length 0 lo=0∧HT.sIx xs.length xs.length hi=xs.length)->∀p,H p=none->Q (.ref p) (upd H p (.tup (cutV xs lo hi))))
section
variable {X:Cx}
theorem zcv:SlR X (rSlA X.K):=by
 intro pins s σ H x v vl vu lo hi sl Q I rx hs pl pu h;obtain⟨a,xs,rfl,hx,q1,q2⟩:=h
 by_cases c:HT.sIx xs.length 0 lo=0∧HT.sIx xs.length xs.length hi=xs.length
 ·cases rx;obtain⟨its,r,ht,hz⟩:=I.tuple hx;have hlen:its.toArray.size=xs.length:=by rw[yoa];exact r.length.symm
  refine⟨"tuple",_,ybd.lookup,ht.typeIs,?_⟩;exact HT.zim ht hs pl pu (by rw[hlen];exact c) ⟨.ref a,H,I,rfl,q1 c⟩
 ·exact zxcb pins s σ H (.ref a) v vl vu lo hi sl Q I rx hs pl pu ⟨a,xs,rfl,hx,c,q2 c⟩
end
end L2
namespace L2
open PySem PySem.Spec PyProof.Rows PySem.MeetsSeq
section
variable {X:Cx}
end
end L2
namespace L2
open PySem PySem.Spec PyProof.Rows PySem.MeetsSeq
section
variable {X:Cx}
end
end L2
namespace L2
open PySem PySem.Spec PyProof.Rows PySem.MeetsSeq
section
variable {X:Cx}
end
end L2
namespace L2
open PySem PyProof.Rows
section
variable {X:Cx}
end
end L2
namespace SSet
open PySem PySem.Spec PyProof.Rows
def lcg (m:Nat):Nat->Nat->Nat
 | 0,i=>i
 | n+1,i=>lcg m n ((i*5+1) % m)
theorem cyc:∀m∈[8,16,32],∀i<m,∀j<m,∃t<m,lcg m t i=j:=by decide +kernel
section
variable {mask:Nat}{owner:Array (Option Nat)}
theorem znib:∀(fuel i p r:Nat),yrc mask owner fuel i p=some r->owner[r]?=some none
 | 0,_,_,_,h=>by cases h
 | fuel+1,i,p,r,h=>by
  unfold yrc at h
  split at h
  ·rename_i k e;injection h with h
   have z:=List.find?_some e;rw[← h];cases q:owner[i+k]? with
   | none=>rw[yoc,q] at z;cases z
   | some v =>
    cases v with
    | none=>rfl
    | some v=>rw[yoc,q] at z;cases z
  ·exact znib fuel _ _ r h
theorem zoib {fuel i p:Nat}(hn:owner[i]?=some none):∃r,yrc mask owner (fuel+1) i p=some r:=by
 unfold yrc
 split
 ·exact⟨_,rfl⟩
 ·rename_i e;exfalso;rw[List.find?_eq_none] at e;have ge:i≤ysr mask i:=by unfold ysr;split<;>omega
  refine e 0 (ynl.mpr (by omega)) ?_;rw[Nat.add_zero,yoc,hn];rfl
theorem ztdb {j:Nat}(hn:owner[j]?=some none):∀(fuel t i:Nat),t<fuel->lcg (mask+1) t i=j->∃r,yrc mask owner fuel i 0=some r
 | 0,_,_,h,_=>absurd h (yio _)
 | fuel+1,0,i,_,e=>by
  have e':i=j:=e;exact zoib (by rw[e'];exact hn)
 | fuel+1,t+1,i,h,e=>by
  unfold yrc
  split
  ·exact⟨_,rfl⟩
  ·have z:=ztdb hn fuel t ((i*5+1) % (mask+1)) (by omega) e;exact z
theorem zcz {j:Nat}(hm:mask+1∈[8,16,32])(hj:j<mask+1)(hn:owner[j]?=some none):∀(k fuel i p:Nat),p<32 ^ k->i<mask+1->mask+1+k≤fuel->∃r,yrc mask owner fuel i p=some r
 | 0,fuel,i,p,hp,hi,hf=>by
  have p0:p=0:=by rw[Nat.pow_zero] at hp;omega
  subst p0;obtain⟨t,ht,e⟩:=cyc (mask+1) hm i hi j hj;exact ztdb hn fuel t i (by omega) e
 | k+1,0,i,p,hp,hi,hf=>by omega
 | k+1,fuel+1,i,p,hp,hi,hf=>by
  unfold yrc
  split
  ·exact⟨_,rfl⟩
  ·refine zcz hm hj hn k fuel _ _ ?_ (yiq _ (by omega)) (by omega);rw[Nat.pow_succ] at hp;show p / 32<32 ^ k
   exact Nat.div_lt_of_lt_mul (by rw[Nat.mul_comm];exact hp)
end
theorem zgpb (h:Int):yih h<32 ^ 13:=by
 unfold yih;have a:=ymh h (show (0:Int)<2 ^ 64 by decide);have b:=yxi h (show (2 ^ 64:Int)≠0 by decide);have c:(32 ^ 13:Nat)=36893488147419103232:=by decide
 have d:(2 ^ 64:Int)=18446744073709551616:=by decide
 rw[d] at a b;rw[c];show (h % (2 ^ 64:Int)).toNat<_
 rw[d];omega
theorem zvmb {α:Type}:∀{l:List (Option α)} {j:Nat} (x:α),l[j]?=some none->((l.set j (some x)).filterMap id).Perm (x::l.filterMap id)
 | [],j,x,h=>by simp at h
 | y::l,0,x,h=>by
  rw[yyd] at h;injection h with h
  subst h;exact .refl _
 | y::l,j+1,x,h=>by
  rw[yrb] at h;have ih:=zvmb x h;rw[List.set_cons_succ];cases y with
  | none=>exact ih
  | some y=>exact (ih.cons y).trans (.swap ..)
theorem zpib {α:Type}:∀{l:List (Option α)},(∀j:Nat,j<l.length->l[j]?≠some none)->(l.filterMap id).length=l.length
 | [],_=>rfl
 | none::l,h=>absurd rfl (h 0 (Nat.zero_lt_succ _))
 | some x::l,h=>by
  have ih:=zpib (l:=l) λj hj=>h (j+1) (Nat.succ_lt_succ hj);show (l.filterMap id).length+1=l.length+1
  rw[ih]
theorem zkdb {mask:Nat}(hm:mask+1∈[8,16,32]):∀(hs:List Int) (owner:Array (Option Nat)) (k:Nat),owner.size=mask+1->(owner.toList.filterMap id).Perm (yuc k)->k+hs.length≤mask →
  ∃ow:Array (Option Nat),hs.foldl (λ(acc:Option (Array (Option Nat)×Nat)) h=>do
   let (owner,k) ← acc
   let j ← yrc mask owner (ytl mask) (yih h % (mask+1)) (yih h)
   pure (owner.setIfInBounds j (some k),k+1)) (some (owner,k))=some (ow,k+hs.length)∧ow.size=mask+1∧(ow.toList.filterMap id).Perm (yuc (k+hs.length))
 | [],owner,k,hz,hp,_=>⟨owner,rfl,hz,hp⟩
 | h::hs,owner,k,hz,hp,hl=>by
  rw[yka] at hl;obtain⟨j,hj,hn⟩:∃j,j<mask+1∧owner[j]?=some none:=by
   apply Classical.byContradiction;intro c;have z:=zpib (l:=owner.toList) λj hj q=>c ⟨j,by rw[yga,hz] at hj;exact hj,by rw[← ydb];exact q⟩;rw[hp.length_eq,yke,yga,hz] at z;omega
  obtain⟨r,er⟩:=zcz hm hj hn 13 (ytl mask) (yih h % (mask+1)) (yih h) (zgpb h) (yiq _ (by omega)) (by unfold ytl;omega);have hr:=znib _ _ _ _ er;have rl:r<owner.size:=by
   cases yuj r owner.size with
   | inl z=>exact z
   | inr z=>rw[yce z] at hr;cases hr
  obtain⟨ow,e1,e2,e3⟩:=zkdb hm hs (owner.setIfInBounds r (some k)) (k+1) (by rw[Array.size_setIfInBounds];exact hz) (by
   rw[Array.toList_setIfInBounds];refine (zvmb k (by rw[ydb];exact hr)).trans ((hp.cons k).trans ?_);rw[yko];exact ylo (l₁:=[k])) (by omega)
  refine⟨ow,?_,e2,by rw[yka,show k+(hs.length+1)=k+1+hs.length by omega];exact e3⟩;rw[List.foldl_cons,yka,show k+(hs.length+1)=k+1+hs.length by omega];rw[← e1]
  congr 1
  show (do
   let j ← yrc mask owner (ytl mask) (yih h % (mask+1)) (yih h)
   pure (owner.setIfInBounds j (some k),k+1))=_
  rw[er];rfl
theorem zwhb {mask:Nat}(hm:mask+1∈[8,16,32])(fg mv:Nat)(led plain:Bool)(hs:Array Int)(hl:hs.size≤mask) :
  ∃t order,yqi mask fg mv led plain hs=some (t,order)∧order.toList.Perm (yuc hs.size)∧t.fits hs.size=true∧t.mask=mask∧t.dummies=#[]∧t.led=led∧t.plain=plain:=by
 obtain⟨ow,e1,e2,e3⟩:=zkdb hm hs.toList (Array.replicate (mask+1) none) 0 (by rw[Array.size_replicate]) (by
  have:∀n:Nat,(ypb n (none:Option Nat)).filterMap id=[]:=λn=>by induction n with
   | zero=>rfl
   | succ n ih=>rw[List.replicate_succ];exact ih
  rw[Array.toList_replicate,this];exact .refl _) (by rw[yga];omega)
 rw[Nat.zero_add,yga] at e3;have lc:ymq mask hs=some ow:=by
  unfold ymq;rw[← Array.foldl_toList,e1];rfl
 have lv:((yuc (mask+1)).filterMap λj=>(ow.getD j none).map ((j,·):Nat->Nat×Nat)).map (·.2)=ow.toList.filterMap id:=by
  rw[yup];have:(yuc (mask+1)).filterMap (λj=>((ow.getD j none).map ((j,·):Nat->Nat×Nat)).map (·.2))=((yuc (mask+1)).map λj=>ow.getD j none).filterMap id:=by
   rw[ygl]
   congr 1
   funext j
   show _=ow.getD j none
   cases ow.getD j none<;>rfl
  rw[this]
  congr 1
  apply yjq;intro j;have q:ow.toList[j]?=ow[j]?:=ydb;rw[yna,q]
  by_cases hj:j<mask+1
  ·rw[ycp hj];show some (ow.getD j none)=ow[j]?
   rw[yoc,ynb (by omega)];rfl
  ·rw[yze (by rw[yke];omega),yce (by omega)];rfl
 refine⟨_,_,by unfold yqi;rw[lc];rfl,?_,?_,rfl,rfl,rfl,rfl⟩
 ·show (((yuc (mask+1)).filterMap λj=>(ow.getD j none).map ((j,·):Nat->Nat×Nat)).map (·.2)).Perm _;rw[lv];exact e3
 ·have pl:((yuc (mask+1)).filterMap λj=>(ow.getD j none).map ((j,·):Nat->Nat×Nat)).length=hs.size:=by
   have z:=congrArg ybh lv;rw[yaa,e3.length_eq,yke] at z;exact z
  unfold yvi yvp;dsimp only;rw[yoa,yaa,pl];simp;omega
theorem zfo {α:Type}{es:Array α}{order:Array Nat}(h:order.toList.Perm (yuc es.size)):(order.filterMap (es[·]?)).toList.Perm es.toList:=by
 rw[Array.toList_filterMap];refine (h.filterMap _).trans ?_;have:(yuc es.size).filterMap (λi=>es[i]?)=es.toList:=by
  have g:∀n≤es.size,(yuc n).filterMap (λi=>es[i]?)=es.toList.take n:=by
   intro n
   induction n with
   | zero=>intro _;simp
   | succ n ih =>
    intro hn;rw[yko,ymo,ih (by omega),yfb,ydb];simp[ynb (show n<es.size by omega)]
  have z:=g es.size (yja _);rw[yta (by simp)] at z;exact z
 rw[this]
theorem zbmb:∀n,n≤31->ycf n∈[8,16,32]∧n<ycf n:=by decide +kernel
end SSet
namespace SSet
open PySem PySem.Spec PyProof.Rows
section
variable {prog:yvb}{w:World}{A:Around}{E:Value->Shared->Prop}{s:Shared}
theorem zcdb {es:Array (Int×Value)}{l:Option (ymc×Array Nat)}{t:ymc}{order:Array Nat}(hl:l=some (t,order))(ho:order.toList.Perm (yuc es.size)){Q:Array (Int×Value)×ymc->Shared->Prop}
  (h:Q (order.filterMap (es[·]?),t) s) :
  wpAny (model prog w) A (do
   let some (t,order):=l|yte "internal:set-table-without-room"
   let es':=order.filterMap (es[·]?)
   if es'.size != es.size then yte "internal:set-table-lost-an-element"
   pure (es',t)) Q E s:=by
 subst hl;have z:(order.filterMap (es[·]?)).size=es.size:=by rw[← yga,(zfo ho).length_eq,yga]
 have c:((order.filterMap (es[·]?)).size != es.size)=false:=by rw[z];simp
 dsimp only;rw[c];exact yea h
theorem zuq {h:Heap}{a:Addr}{o:Obj}{es fs:Array (Int×Value)}{ep:Nat}{t u:ymc}(ho:h.get? a=some o)(hd:o.data = .set es ep t):(h.update a (ypf fs u)).get? a=some { o with data:=.set fs (ep+1) u }:=by
 have z:=ywc (ypf fs u) ho (by rw[yri fs u hd];rfl);rw[yri fs u hd] at z;exact z
theorem znkb {a:Addr}{o:Obj}{es:Array (Int×Value)}{ep:Nat}{t:ymc}{wanted:Nat}(ho:s.heap.get? a=some o)(hd:o.data = .set es ep t)(hf:t.fits es.size=true)(hw:wanted≤31)(hn:es.size<wanted){Q:Unit->Shared->Prop}
  (h:∀(fs:Array (Int×Value)) (u:ymc) (h':Heap),yrd a s.heap h'->h'.get? a=some { o with data:=.set fs (ep+1) u }->fs.toList.Perm es.toList->u.fits fs.size=true->u.led=t.led->u.plain=t.plain->u.dummies=#[]->wanted≤u.mask->u.mask+1∈[8,16,32]->Q () { s with heap:=h' }) :
  wpAny (model prog w) A (setRelay a wanted) Q E s:=by
 obtain⟨hm,hlt⟩:=zbmb wanted hw;have hm':ycf wanted-1+1∈[8,16,32]:=by rw[show ycf wanted-1+1=ycf wanted by omega];exact hm
 have le32:ycf wanted≤32:=by
  simp only[yma,yff,or_false] at hm;omega
 obtain⟨u,order,e1,e2,e3,e4,e5,e6,e7⟩:=zwhb hm' t.finger (t.movedTo (ycf wanted-1)) t.led t.plain (es.map (·.1)) (by rw[yul];omega);rw[yul] at e2 e3;have pm:=zfo e2;have z:(order.filterMap (es[·]?)).size=es.size:=by rw[← yga,pm.length_eq,yga]
 unfold setRelay;refine yba (yjb ho hd hf ?_);dsimp only;have sl32:yza≥32:=by decide
 rw[if_neg (by omega)];refine yba (zcdb (t:=u) (order:=order) e1 e2 ?_);dsimp only;refine yof ho hd ?_ (by rw[z];omega);exact h _ u _ (yse _ _ _) (zuq ho hd) pm (by rw[z];exact e3) e6 e7 e5 (by rw[e4];omega) (by rw[e4];exact hm')
theorem zygb {a:Addr}{o:Obj}{es:Array (Int×Value)}{ep:Nat}{t:ymc}{more:Nat}(ho:s.heap.get? a=some o)(hd:o.data = .set es ep t)(hf:t.fits es.size=true)(hw:(es.size+more)*2≤31)(hn:0<es.size+more){Q:Unit->Shared->Prop}
  (h0:¬ (t.fill+more)*5≥t.mask*3->Q () s)
  (h:∀(fs:Array (Int×Value)) (u:ymc) (h':Heap),yrd a s.heap h'->h'.get? a=some { o with data:=.set fs (ep+1) u }->fs.toList.Perm es.toList->u.fits fs.size=true->u.led=t.led->u.plain=t.plain->u.dummies=#[]->(es.size+more)*2≤u.mask->u.mask+1∈[8,16,32]->Q () { s with heap:=h' }) :
  wpAny (model prog w) A (setRoomFor a more) Q E s:=by
 have pz:t.place.size=es.size:=by
  simp only[yvi,yhc,beq_iff_eq,decide_eq_true_eq] at hf;exact hf.1
 unfold setRoomFor;refine yba (yjb ho hd hf ?_);dsimp only;unfold ymc.roomFor
 split
 ·rename_i wanted e
  split at e
  ·injection e with e
   rw[pz] at e;subst e;exact znkb ho hd hf hw (by omega) h
  ·cases e
 ·rename_i e
  split at e
  ·exact (e _ rfl).elim
  ·rename_i c;exact yea (h0 c)
theorem zsy {r a:Addr}{D:List Str}{each:Sem Unit}{Q:Unit->Shared->Prop}(hr:s.heap.get? r=some (empt w))(hS:SS prog w s.heap a D (!w.params.followText "set-order"))(hne:r≠a)(hD:D.length≤15)
  (h:∀h',yrd r s.heap h'->SS prog w h' r D (!w.params.followText "set-order")->Q () { s with heap:=h' }) :
  wpAny (model prog w) A (ywp r a each) Q E s:=by
 obtain⟨o,es,ep,t,ho,hex,hd,hel,hp,hb,hf,hl,hpl⟩:=hS;have hz:es.size=D.length:=by rw[← hp.length_eq,yaa,yga]
 unfold ywp;rw[if_neg (by simpa using hne)];refine yba (yjb ho hd hf ?_);dsimp only
 by_cases he:es.isEmpty=true
 ·rw[if_pos he];have e0:es=#[]:=by simpa using he
  refine yea (h s.heap (ysg _ _) ?_);have D0:D=[]:=by
   rw[e0] at hz;exact ygh.mp hz.symm
  rw[D0];exact⟨_,#[],0,_,hr,⟨rfl,rfl,rfl⟩,rfl,λe he=>by simp at he,.nil,by decide,by rfl,rfl,.inl rfl⟩
 rw[if_neg he];have n1:1≤es.size:=by
  rcases ykl es.size with z|z
  ·exact absurd (by simpa using z) he
  ·exact z
 have tpl:t.plain=false:=hpl.resolve_left (by omega);have key:∀(o1:Obj) (ep1:Nat) (u:ymc) (h1:Heap),yrd r s.heap h1->h1.get? r=some o1->o1.ExactSet->o1.data = .set #[] ep1 u->u.fits 0=true->u.fill=0->u.led=(!w.params.followText "set-order")->es.size≤u.mask->u.mask+1∈[8,16,32] →
   wpAny (model prog w) A (do
    let (_,_,ts) ← setState r
    match ts.road t with
    | .slotForSlot=>ywm r es { t with finger:=ts.finger,led:=ts.led&&t.led,moves:=ts.moves,plain:=ts.plain&&t.plain }
    | .clean =>
     let (es,t) ← (do
      let some (t,order):=yqi ts.mask ts.finger ts.moves (led:=ts.led&&t.led) (plain:=ts.plain&&t.plain) (es.map (·.1))|yte "internal:set-table-without-room"
      let es':=order.filterMap (es[·]?)
      if es'.size != es.size then yte "internal:set-table-lost-an-element"
      pure (es',t))
     ywm r es t
    | .oneByOne =>
     for (h,x) in ← yan a [r] (some r) do
      let _ ← ysm [x] (ysj r x h)
      each
      if (← setState a).2.1 != ep then yte "set.changed-during-merge") Q E { s with heap:=h1 }:=by
  intro o1 ep1 u h1 sb g1 x1 d1 f1 fl ld um mm;refine yba (yjb g1 d1 f1 ?_);dsimp only;have rd:u.road t = .slotForSlot∨u.road t = .clean:=by
   unfold yas;rw[fl];simp only[bne_self_eq_false,ypi,↓reduceIte]
   split
   ·exact .inl rfl
   ·exact .inr rfl
  have bb:(u.led&&t.led)=(!w.params.followText "set-order"):=by rw[ld,hl,Bool.and_self]
  have pp:(u.plain&&t.plain)=false:=by rw[tpl,yrl]
  have lim:es.size≤yza:=ynf hb
  rcases rd with rd|rd
  ·rw[rd];dsimp only;refine yof g1 d1 (h _ (sb.trans (yse _ _ _)) ?_) lim;exact⟨_,es,_,_,zuq g1 d1,x1,rfl,hel,hp,hb,hf,bb,.inr pp⟩
  ·rw[rd];dsimp only;obtain⟨v,order,e1,e2,e3,e4,e5,e6,e7⟩:=zwhb mm u.finger u.moves (u.led&&t.led) (u.plain&&t.plain) (es.map (·.1)) (by rw[yul];exact um);rw[yul] at e2 e3;have pm:=zfo e2;have z:(order.filterMap (es[·]?)).size=es.size:=(by rw[← yga,pm.length_eq,yga]);refine yba (zcdb (t:=v) (order:=order) e1 e2 ?_);dsimp only;refine yof g1 d1 (h _ (sb.trans (yse _ _ _)) ?_) (by rw[z];exact lim);exact⟨_,_,_,v,zuq g1 d1,x1,rfl,yzn hel pm,(pm.map _).trans hp,by rw[z];exact hb,by rw[z];exact e3,e6.trans bb,.inr (e7.trans pp)⟩
 refine yba (zygb hr rfl (by rfl) (by show (0+es.size)*2≤31;omega) (by show 0<0+es.size;omega) (λc=>?_) λfs u h' sb g pm uf ul up ud um mm=>?_)
 ·have c':¬ (0+es.size)*5≥7*3:=c;exact key _ 0 _ s.heap (ysg _ _) hr ⟨rfl,rfl,rfl⟩ rfl (by rfl) (by rfl) rfl (by show es.size≤7;omega) (by show 7+1∈_;decide)
 ·have f0:fs=#[]:=by
   have z:=pm.length_eq;rw[yga] at z;exact Array.eq_empty_of_size_eq_zero z
  subst f0;have um':(0+es.size)*2≤u.mask:=um;have pz:u.place.size=0:=by
   simp only[yvi,yhc,beq_iff_eq,decide_eq_true_eq] at uf;exact uf.1
  exact key _ _ u h' sb g ⟨rfl,rfl,rfl⟩ rfl uf (by unfold yvp;rw[pz,ud];rfl) ul (by omega) mm
theorem zzjb {a:Addr}{o:Obj}{hx:Int}{x:Value}{ep:Nat}{t:ymc}{Q:Array (Int×Value)->Shared->Prop}(ho:s.heap.get? a=some o)(hd:o.data = .set #[(hx,x)] ep t)(hf:t.fits 1=true)(h:Q #[(hx,x)] s) :
  wpAny (model prog w) A (setWalk a) Q E s:=by
 unfold setWalk;refine yba (yjb ho hd hf ?_);dsimp only;unfold ycg;refine yba (yba (yzc (yea ?_)))
 split
 ·refine yba (yzc (yea ?_));have z:(ygf (w.params.setOrder a ep) #[(hx,x)])=#[(hx,x)]:=by
   unfold ygf;show yjl _ 1 0 [(hx,x)] #[]=_
   unfold yjl;simp[Nat.mod_one];unfold yjl;rfl
  show Q (ygf (w.params.setOrder a ep) #[(hx,x)]) s
  rw[z];exact h
 ·have c:(!t.plain&&decide ((#[(hx,x)]:Array (Int×Value)).size>1))=false:=by simp
  have c2:(!t.led&&decide ((#[(hx,x)]:Array (Int×Value)).size>1))=false:=by simp
  have g:wpAny (model prog w) A (if (!t.led&&decide ((#[(hx,x)]:Array (Int×Value)).size>1))=true then yte "set:maker-not-led" else pure ()) (λ_ s'=>wpAny (model prog w) A (pure #[(hx,x)]) Q E s') E s:=by
   rw[c2];exact yea (yea h)
  show wpAny (model prog w) A (if (!t.plain&&decide ((#[(hx,x)]:Array (Int×Value)).size>1))=true then _ else _) Q E s
  rw[c];exact yba g
theorem zkeb {a r:Addr}{o:Obj}{hx:Int}{x:Value}{ep:Nat}{t:ymc}{Q:Array (Int×Value)->Shared->Prop}(ho:s.heap.get? a=some o)(hd:o.data = .set #[(hx,x)] ep t)(hf:t.fits 1=true)(h:Q #[(hx,x)] s) :
  wpAny (model prog w) A (yan a [r] (some r)) Q E s:=by
 unfold yan;refine yba (yjb ho hd hf ?_);dsimp only;unfold ycg;refine yba (yba (yzc (yea ?_)));rw[if_pos (by simp)];exact zzjb ho hd hf h
theorem zohb {r a:Addr}{D:List Str}{x:Str}{each:Sem Unit}{Q:Unit->Shared->Prop}(hS:SS prog w s.heap r D (!w.params.followText "set-order"))(hA:SS prog w s.heap a [x] (!w.params.followText "set-order"))(hne:r≠a)(hD:D.length≤14)(hD1:1≤D.length)
  (he:∀(h':Heap) (Q':Unit->Shared->Prop),h'.get? a=s.heap.get? a->Q' () { s with heap:=h' }->wpAny (model prog w) A each Q' E { s with heap:=h' })
  (h:∀h',yrd r s.heap h'->SS prog w h' r (if x∈D then D else D++[x]) (!w.params.followText "set-order")->Q () { s with heap:=h' }) :
  wpAny (model prog w) A (ywp r a each) Q E s:=by
 obtain⟨o,es,ep,t,ho,hex,hd,hel,hp,hb,hf,hl,hpl⟩:=hA;have hz:es.size=1:=by rw[← yga,← yaa (as:=es.toList) (λe=>strOf e.2),hp.length_eq];rfl
 obtain⟨⟨hx,v⟩,rfl⟩:∃e,es=#[e]:=yfo.mp hz;obtain⟨y,tk,e1,e2⟩:=zwib (e:=(hx,v)) hel (by simp);have e1':v = .str y tk:=e1;have e2':hx=(ydc prog w).hash y:=e2;subst e1' e2';have yx:y=x:=by
  have z:=List.perm_singleton.mp hp;simp at z;exact z
 subst yx;unfold ywp;rw[if_neg (by simpa using hne)];refine yba (yjb ho hd hf ?_);dsimp only;rw[if_neg (by simp)];have key:∀h1:Heap,yrd r s.heap h1->SS prog w h1 r D (!w.params.followText "set-order") →
   wpAny (model prog w) A (do
    let (_,_,ts) ← setState r
    match ts.road t with
    | .slotForSlot=>ywm r #[((ydc prog w).hash y,Value.str y tk)] { t with finger:=ts.finger,led:=ts.led&&t.led,moves:=ts.moves,plain:=ts.plain&&t.plain }
    | .clean =>
     let (es,t) ← (do
      let some (t,order):=yqi ts.mask ts.finger ts.moves (led:=ts.led&&t.led) (plain:=ts.plain&&t.plain) (#[((ydc prog w).hash y,Value.str y tk)].map (·.1))|yte "internal:set-table-without-room"
      let es':=order.filterMap (#[((ydc prog w).hash y,Value.str y tk)][·]?)
      if es'.size != #[((ydc prog w).hash y,Value.str y tk)].size then yte "internal:set-table-lost-an-element"
      pure (es',t))
     ywm r es t
    | .oneByOne =>
     for (h,x) in ← yan a [r] (some r) do
      let _ ← ysm [x] (ysj r x h)
      each
      if (← setState a).2.1 != ep then yte "set.changed-during-merge") Q E { s with heap:=h1 }:=by
  intro h1 sb S1;obtain⟨o1,es1,ep1,u,g1,x1,d1,el1,p1,b1,f1,l1,pl1⟩:=id S1;have z1:es1.size=D.length:=by rw[← p1.length_eq,yaa,yga]
  have pz:u.place.size=es1.size:=by
   simp only[yvi,yhc,beq_iff_eq,decide_eq_true_eq] at f1;exact f1.1
  have rd:u.road t = .oneByOne:=by
   have fz:u.fill≠0:=(by unfold yvp;omega);unfold yas;rw[if_pos (bne_iff_ne.mpr fz)]
  have oa:h1.get? a=some o:=by rw[sb.2 a (yqd hne)];exact ho
  refine yba (yjb g1 d1 f1 ?_);dsimp only;rw[rd];dsimp only;refine yba (zkeb (s:={ s with heap:=h1 }) oa hd hf ?_);refine yba (wpAny_forIn_array' _ (λrest _ s'=>(rest=[((ydc prog w).hash y,Value.str y tk)]∧s'={ s with heap:=h1 })∨(rest=[]∧Q () s')) _ (λe rest b s' hI=>?_) (λb s' hI=>?_) _ _ (.inl ⟨rfl,rfl⟩))
  ·rcases hI with⟨er,rfl⟩|⟨er,_⟩
   ·injection er with e3 e4
    subst e3 e4;dsimp only;refine yba (ycc (add_str (s:={ s with heap:=h1 }) S1 (by show D.length+1<4096;omega) λh2 rr sb2 S2=>?_));have oa2:h2.get? a=some o:=(by rw[sb2.2 a (yqd hne)];exact oa);refine yba (he h2 _ (by rw[oa2,ho]) ?_);refine yba (yjb (s:={ s with heap:=h2 }) oa2 hd hf ?_);rw[if_neg (by simp)];exact yea (.inr ⟨rfl,h h2 (sb.trans sb2) S2⟩)
   ·cases er
  ·rcases hI with⟨er,_⟩|⟨_,q⟩
   ·cases er
   ·exact yea q
 obtain⟨o1,es1,ep1,u,g1,x1,d1,el1,p1,b1,f1,l1,pl1⟩:=id hS;have z1:es1.size=D.length:=by rw[← p1.length_eq,yaa,yga]
 refine yba (zygb g1 d1 f1 (by show (es1.size+1)*2≤31;omega) (by show 0<es1.size+1;omega) (λc=>?_) λfs u2 h' sb g pm uf ul up ud um mm=>?_)
 ·exact key s.heap (ysg _ _) hS
 ·have fz:fs.size=es1.size:=by rw[← yga,pm.length_eq,yga]
  refine key h' sb ⟨_,fs,_,u2,g,x1,rfl,yzn el1 pm,(pm.map _).trans p1,by rw[fz];exact b1,uf,ul.trans l1,.inr ?_⟩;rw[up];exact pl1.resolve_left (by omega)
end
end SSet
namespace SSet
open PySem PySem.Spec PyProof.Rows
theorem zztb:entryFor table "set.__or__" = some yye.«frozenset.__or__»:=yvo (id':="frozenset.__or__") (by kernel_rfl) rfl (by decide +kernel) (by kernel_rfl)
section
variable {prog:yvb}{w:World}{A:Around}{E:Value->Shared->Prop}{s:Shared}
theorem SS.ty {h:Heap}{a:Addr}{D:List Str}{b:Bool}(x:SS prog w h a D b){g:Array GenState}{d:Drawn}{tk:Nat}{os:OsState}:(⟨h,g,d,tk,os⟩:Shared).TypeIs (.ref a) "set":=by
 obtain⟨o,_,_,_,ho,hex,_⟩:=x;exact⟨o,ho,hex.1⟩
theorem zpjb {v:Value}{Q:Bool->Shared->Prop}(hT:s.TypeIs v "set")(h:Q true s):wpAny (model prog w) A (yyf v) Q E s:=by
 have sb:=ytq;unfold yyf
 repeat (any_goals (first|assumption|wp_step))
theorem zipb {a:Addr}{Q:Value->Shared->Prop}(hT:s.TypeIs (.ref a) "set")(h:Q (.type "set") s):wpAny (model prog w) A (ynm a) Q E s:=by
 have sb:=ytq;unfold ynm
 repeat (any_goals (first|assumption|wp_step))
theorem zcrb {Q:Value->Shared->Prop}(h:Q (.ref s.heap.objs.size) { s with heap:=s.heap.push (empt w) }):wpAny (model prog w) A (newSet (.type "set")) Q E s:=by
 unfold newSet ycg;refine yba (yba (yzc (yea ?_)));dsimp only;simp only[newObj];exact yba (wpAny_alloc (yea h))
theorem zphb {r a:Addr}{each:Sem Unit}{Q:Unit->Shared->Prop}(hS:SS prog w s.heap a [] (!w.params.followText "set-order"))(hne:r≠a)(h:Q () s):wpAny (model prog w) A (ywp r a each) Q E s:=by
 obtain⟨o,es,ep,t,ho,hex,hd,hel,hp,hb,hf,hl,hpl⟩:=hS;have hz:es.size=0:=by rw[← yga,← yaa (as:=es.toList) (λe=>strOf e.2),hp.length_eq];rfl
 unfold ywp;rw[if_neg (by simpa using hne)];refine yba (yjb ho hd hf ?_);dsimp only;rw[if_pos (by simpa using hz)];exact yea h
theorem zepb {a:Addr}{D:List Str}{Q:Value->Shared->Prop}(hS:SS prog w s.heap a D (!w.params.followText "set-order"))(hD:D.length≤15)
  (h:∀h',(∀b o,s.heap.get? b=some o->h'.get? b=some o)->SS prog w h' s.heap.objs.size D (!w.params.followText "set-order")->(D=[]->h'.get? s.heap.objs.size=some (empt w))->Q (.ref s.heap.objs.size) { s with heap:=h' }) :
  wpAny (model prog w) A (yki a) Q E s:=by
 have alt:a<s.heap.objs.size:=by
  obtain⟨o,_,_,_,ho,_⟩:=hS;exact yra ho
 unfold yki;refine yba (zipb hS.ty ?_);refine yba (zcrb ?_);have S1:SS prog w (s.heap.push (empt w)) a D (!w.params.followText "set-order"):=hS.keep λo e=>yca _ e;have g0:(s.heap.push (empt w)).get? s.heap.objs.size=some (empt w):=yla _ rfl;refine yba (yea (yba ?_));cases D with
 | nil=>exact zphb (s:={ s with heap:=s.heap.push (empt w) }) S1 (ylf alt) (yea (h _ (λb o e=>yca _ e) (zpbb s.heap) λ_=>g0))
 | cons x D =>
  refine zsy (s:={ s with heap:=s.heap.push (empt w) }) g0 S1 (ylf alt) hD λh' sb S'=>yea (h h' (λb o e=>?_) S' λz=>by cases z);rw[sb.2 b (yya (yra e))];exact yca _ e
theorem zntb {a b:Addr}{D:List Str}{x:Str}{Q:Value->Shared->Prop}(hS:SS prog w s.heap a D (!w.params.followText "set-order"))(hB:SS prog w s.heap b [x] (!w.params.followText "set-order"))(hD:D.length≤14)(hne:b≠a)
  (h:∀h',(∀c o,s.heap.get? c=some o->h'.get? c=some o)->SS prog w h' s.heap.objs.size (if x∈D then D else D++[x]) (!w.params.followText "set-order")->Q (.ref s.heap.objs.size) { s with heap:=h' }) :
  wpAny (model prog w) A (ysh .BitOr (.ref a) (.ref b)) Q E s:=by
 have blt:b<s.heap.objs.size:=by
  obtain⟨o,_,_,_,ho,_⟩:=hB;exact yra ho
 refine wpAny_binaryOp_same hS.ty hB.ty PySem.F.fills_set_or ywk ?_;refine ydm (ywh ywk.plain zztb (ywk.check _ _ _ _ _ _ _ _ hS.ty (PySem.F.args_set_or_2 _ _) ?_));unfold yye.«frozenset.__or__»;change wpAny _ _ (ybn "__or__" ⟨[.ref a,.ref b],[]⟩ >>= _) _ _ _;refine yba ?_;have sl:ybn "__or__" ⟨[.ref a,.ref b],[]⟩=pure (.ref a,.ref b):=rfl;rw[sl];refine yea ?_;dsimp only;have both:∀{Q':Bool->Shared->Prop},Q' true s->wpAny (model prog w) A.in1 (yyf (.ref a) <&&> yyf (.ref b)) Q' (λe s'=>E e s') s:=λ{Q'} q=>by
  unfold andM;refine yba (zpjb hS.ty ?_);exact zpjb hB.ty q
 refine yba (both ?_);rw[if_neg (by decide)];refine yba (yea (yba ?_));change wpAny _ _ (yki a >>= _) _ _ _;refine yba (zepb hS (by omega) λh1 k1 S1 n1=>?_);have B1:SS prog w h1 b [x] (!w.params.followText "set-order"):=hB.keep λo e=>k1 _ _ e;have rne:s.heap.objs.size≠b:=ylf blt;rw[if_pos (by simpa using hne)];refine yba (yea (yba (ycc ?_)));unfold yif;refine yba (zpjb (s:={ s with heap:=h1 }) B1.ty ?_);rw[if_pos rfl];refine yba (yea ?_);unfold yye.Frozenset.merge;have fin:∀h':Heap,yrd s.heap.objs.size h1 h'->SS prog w h' s.heap.objs.size (if x∈D then D else D++[x]) (!w.params.followText "set-order")->Q (.ref s.heap.objs.size) { s with heap:=h' }:=λh' sb S'=>h h' (λc o e=>by
  rw[sb.2 c (yya (yra e))];exact k1 c o e) S'
 obtain⟨o,es,ep,t,ho,hex,hd,hel,hp,hb,hf,hl,hpl⟩:=id B1;refine yba (wpAny_setEpoch_of (s:={ s with heap:=h1 }) ho hd hf ?_);cases D with
 | nil =>
  refine zsy (s:={ s with heap:=h1 }) (n1 rfl) B1 rne (by show 1≤15;decide) λh' sb S'=>yea (yea ⟨by simp,fin h' sb ?_⟩);rw[if_neg (by simp)];exact S'
 | cons y D =>
  refine zohb (s:={ s with heap:=h1 }) S1 B1 rne hD (by simp) (λh2 Q' e2 q=>?_) λh' sb S'=>yea (yea ⟨by simp,fin h' sb S'⟩);unfold yye.Frozenset.unchanged;refine yba (wpAny_setEpoch_of (s:={ s with heap:=h2 }) (e2.trans ho) hd hf ?_);rw[if_neg (by simp)];exact yea q
end
end SSet
namespace L2
open PySem PySem.Spec PyProof.Rows PySem.MeetsSeq
section
variable {X:Cx}
theorem zyqb:OpR X (ysh .BitOr) (λx y H Q=>Ex4 λa b D u=>x = .ref a∧y = .ref b∧H a=some (setO X a D)∧H b=some (setO X b [u])∧b≠a∧D.length≤14∧∀l,H l=none->Q (.ref l) (upd H l (setO X l (if u∈D then D else D++[u])))):=by
 intro pins s σ H x y v u Q I rx ry h;obtain⟨a,b,D,t,rfl,rfl,ha,hb,ne,hD,q⟩:=h;cases rx;cases ry;obtain⟨S,_,_⟩:=I.hok a _ ha;obtain⟨S2,_,_⟩:=I.hok b _ hb;refine SSet.zntb S S2 hD ne λh' k S'=>?_;have I1:Inv X pins σ (upd H s.heap.objs.size (setO X s.heap.objs.size (if t∈D then D else D++[t]))) { s with heap:=h' }:=I.laid (t':=s.toks) (λb o e=>k b o e) (yja _) ⟨S',let ⟨o,_,_,_,e,_⟩:=S';⟨o,e⟩,λh1 h2 x y=>x.keep y⟩;exact⟨.ref s.heap.objs.size,_,I1,rfl,q _ (I.hok.fresh (yja _))⟩
theorem zzqb (hu:X.A.units+64<cLine):OpR X (yle .NotEq) (λx y H Q=>Ex3 λa b us=>x = .ref a∧y = .ref b∧SqT X.K H a us∧SqT X.K H b us∧(∀u∈us,∃c,u = .ref c)∧Q (.bl false) H):=by
 intro pins s σ H x y v u Q I rx ry h;obtain⟨a,b,us,rfl,rfl,ha,hb,hr,q⟩:=h;cases rx;cases ry;obtain⟨i1,v1,p1,_⟩:=I.tuple ha;obtain⟨i2,v2,p2,_⟩:=I.tuple hb;obtain⟨rfl,hm⟩:=zxeb hr v1 v2;have z:=SeqAt.RcNeAt.tuples (A:=X.A) (s:=s) (e:=λ_=>true) p1 p2 (by omega) λj h1 h2=>by
  obtain⟨c,e⟩:=hm i1.toArray[j] (by simp);rw[e];exact eq_self _ _ c
 rw[all_true,beq_self_eq_true] at z;exact z X.prog X.w X.xe _ ⟨.bl false,H,I,rfl,q⟩
end
end L2
namespace Wm
open PySem
theorem zcjb {c:Nat}:∀{x y a b:List Nat},c∉x->c∉y->x++c::a=y++c::b->x=y∧a=b
 | [],[],a,b,_,_,h=>⟨rfl,by simpa using h⟩
 | [],y::ys,a,b,_,hy,h=>by
  exfalso;simp only[yno,ydg,yxk] at h;exact hy (by rw[← h.1];exact yqa)
 | x::xs,[],a,b,hx,_,h=>by
  exfalso;simp only[yno,ydg,yxk] at h;exact hx (by rw[h.1];exact yqa)
 | x::xs,y::ys,a,b,hx,hy,h=>by
  simp only[ydg,yxk] at h;obtain⟨h1,h2⟩:=h;obtain⟨e1,e2⟩:=zcjb (λz=>hx (ysa _ z)) (λz=>hy (ysa _ z)) h2;exact⟨by rw[h1,e1],e2⟩
def jl (c:Nat):List (List Nat)->List Nat
 | []=>[]
 | [x]=>x
 | x::y::r=>x++c::jl c (y::r)
theorem zrmb {c:Nat}:∀{xs ys:List (List Nat)},xs≠[]->ys≠[]->(∀x∈xs,c∉x)->(∀y∈ys,c∉y)->jl c xs=jl c ys->xs=ys
 | [],_,h,_,_,_,_=>absurd rfl h
 | _,[],_,h,_,_,_=>absurd rfl h
 | [x],[y],_,_,_,_,h=>by
  have h':x=y:=h;rw[h']
 | [x],y::z::r,_,_,hx,_,h=>by
  exfalso;have h':x=y++c::jl c (z::r):=h;exact hx x yqa (by rw[h'];simp)
 | x::z::r,[y],_,_,_,hy,h=>by
  exfalso;have h':x++c::jl c (z::r)=y:=h;exact hy y yqa (by rw[← h'];simp)
 | x::z::r,y::z'::r',_,_,hx,hy,h=>by
  have h':x++c::jl c (z::r)=y++c::jl c (z'::r'):=h;obtain⟨e1,e2⟩:=zcjb (hx x yqa) (hy y yqa) h';rw[e1,zrmb (by simp) (by simp) (λq hq=>hx q (ysa _ hq)) (λq hq=>hy q (ysa _ hq)) e2]
theorem zgm (c:Nat):∀ws:List Str,(ywa ⟨#[c]⟩ ws).cps.toList=jl c (ws.map λw=>w.cps.toList)
 | []=>rfl
 | [x]=>rfl
 | x::y::r=>by
  have ih:=zgm c (y::r);show (x++(⟨#[c]⟩:Str)++ywa ⟨#[c]⟩ (y::r)).cps.toList=x.cps.toList++c::jl c ((y::r).map λw=>w.cps.toList)
  rw[← ih];show ((x.cps++#[c])++(ywa ⟨#[c]⟩ (y::r)).cps).toList=_
  simp
theorem toList_inj {xs ys:List Str}(h:(xs.map λw=>w.cps.toList)=(ys.map λw=>w.cps.toList)):xs=ys:=by
 induction xs generalizing ys with
 | nil=>cases ys with
  | nil=>rfl
  | cons y r=>simp at h
 | cons x r ih=>cases ys with
  | nil=>simp at h
  | cons y s =>
   simp only[yob,yxk] at h;have e:x=y:=by
    obtain⟨a⟩:=x;obtain⟨b⟩:=y;have h1:a.toList=b.toList:=h.1;rw[yci.mp h1]
   rw[e,ih h.2]
theorem zbkb (x y:Str):ytf x y≠[]:=by
 unfold ytf
 split
 ·simp
 ·split
  ·simp
  ·unfold yrg;cases yid x y 0 x.length (x.length+1)<;>simp
theorem zdo {c:Nat}{ws:List Str}(hne:ws≠[])(hf:∀w∈ws,c∉w.cps.toList):ytf (ywa ⟨#[c]⟩ ws) ⟨#[c]⟩=ws:=by
 refine toList_inj (zrmb (c:=c) (by simpa using zbkb _ _) (by simpa using hne) (λx hx=>?_) (λx hx=>?_) ?_)
 ·obtain⟨w,hw,rfl⟩:=yac.mp hx;exact StrLaws.split_free _ c w hw
 ·obtain⟨w,hw,rfl⟩:=yac.mp hx;exact hf w hw
 ·rw[← zgm,← zgm,StrLaws.join_split]
theorem zxj (s:Str):∀ws:List Str,(ywa s ws).length≤(ws.map (·.length)).sum+ws.length*s.length
 | []=>ytb _
 | [x]=>by
  show x.length≤_
  simp only[yob,yah,yme,yvj,yub];omega
 | x::y::r=>by
  have ih:=zxj s (y::r);show (x++s++ywa s (y::r)).length≤_
  rw[ynq,ynq];simp only[yob,yme,yka,Nat.add_mul,Nat.one_mul] at ih ⊢;omega
theorem join_cons (s x:Str){r:List Str}(h:r≠[]):ywa s (x::r)=x++s++ywa s r:=by
 cases r with
 | nil=>exact absurd rfl h
 | cons y r=>rfl
theorem zql (s:Str):∀{xs ys:List Str},xs≠[]->ys≠[]->ywa s (xs++ys)=ywa s xs++s++ywa s ys
 | [],_,h,_=>absurd rfl h
 | [x],ys,_,h=>by rw[List.singleton_append,join_cons s x h];rfl
 | x::y::r,ys,_,h=>by
  have ih:=zql s (xs:=y::r) (by simp) h;rw[ydg,join_cons s x (by simp),ih,join_cons s x (by simp)];simp only[Str.append_assoc]
theorem zxy (s:Str):∀{xss:List (List Str)},(∀xs∈xss,xs≠[])->ywa s (xss.map (ywa s))=ywa s xss.flatten
 | [],_=>rfl
 | [xs],_=>by simp[ywa]
 | xs::ys::r,h=>by
  have ih:=zxy s (xss:=ys::r) (λq hq=>h q (ysa _ hq));have hx:=h xs yqa;have hy:=h ys (ysa _ yqa);have ne:(ys::r).flatten≠[]:=by
   rw[yoj];intro z;exact hy (ybj.mp z).1
  rw[yob,join_cons s _ (by simp),ih,yoj (l:=xs),zql s hx ne]
inductive Wh where
 | all|self|mine|mark (n:Str)|force (i:Nat)|not (a:Wh)|both (a b:Wh)|any (a b:Wh)
def Wh.word:Wh->Str
 | .all=>"all"
 | .self=>"self"
 | .mine=>"mine"
 | .mark _=>"mark"
 | .force _=>"force"
 | .not _=>"not"
 | .both _ _=>"both"
 | .any _ _=>"any"
inductive Wv where
 | non|name (n:Str)|num (i:Nat)
def Wh.val:Wh->Wv
 | .mark n=>.name n
 | .force i=>.num i
 | _=>.non
def Wh.parts:Wh->List Wh
 | .not a=>[a]
 | .both a b=>[a,b]
 | .any a b=>[a,b]
 | _=>[]
def Wv.words:Wv->List Str
 | .non=>[]
 | .name n=>[n]
 | .num i=>[toString (i:Int)]
def Wh.words:Wh->List Str
 | .all=>["all"]
 | .self=>["self"]
 | .mine=>["mine"]
 | .mark n=>["mark",n]
 | .force i=>["force",toString (i:Int)]
 | .not a=>"not" :: a.words
 | .both a b=>"both" :: (a.words++b.words)
 | .any a b=>"any" :: (a.words++b.words)
def Wh.size:Wh->Nat
 | .not a=>a.size+1
 | .both a b=>a.size+b.size+1
 | .any a b=>a.size+b.size+1
 | _=>1
theorem Wh.ztcb (w:Wh):w.words=w.word::(w.val.words++(w.parts.map Wh.words).flatten):=by
 cases w<;>simp[Wh.words,Wh.word,Wh.val,Wv.words,Wh.parts]
theorem Wh.zod (w:Wh):w.words≠[]:=by
 rw[w.ztcb];simp
theorem Wh.size_eq (w:Wh):w.size=1+(w.parts.map Wh.size).sum:=by
 cases w<;>simp[Wh.size,Wh.parts]<;>omega
theorem Wh.size_pos (w:Wh):0<w.size:=by
 rw[w.size_eq];omega
def Wh.flat:Wh->List (Str×Wv)
 | .not a=>("not",.non)::a.flat
 | .both a b=>("both",.non)::(a.flat++b.flat)
 | .any a b=>("any",.non)::(a.flat++b.flat)
 | w=>[(w.word,w.val)]
theorem Wh.zzob (w:Wh):w.flat=(w.word,w.val)::(w.parts.map Wh.flat).flatten:=by
 cases w<;>simp[Wh.flat,Wh.word,Wh.val,Wh.parts]
theorem Wh.zmq (w:Wh):w.flat.length=w.size:=by
 induction w<;>simp[Wh.flat,Wh.size, *]
def zaq (ws:List Wh):List (Str×Wv):=(ws.map Wh.flat).flatten
def zlk (ws:List Wh):List Str:=(ws.map Wh.words).flatten
def zen (ws:List Wh):Nat:=(ws.map Wh.size).sum
theorem zmu (w:Wh)(ws:List Wh):zaq (w::ws)=(w.word,w.val)::zaq (w.parts++ws):=by
 unfold zaq;rw[yob,yoj,w.zzob,yua,yep];rfl
theorem zqab (w:Wh)(ws:List Wh):zlk (w::ws)=w.word::(w.val.words++zlk (w.parts++ws)):=by
 unfold zlk;rw[yob,yoj,w.ztcb,yua,yep];simp
theorem zteb (w:Wh)(ws:List Wh):zen (w::ws)=1+zen (w.parts++ws):=by
 unfold zen;rw[yob,yme,w.size_eq,yua,List.sum_append];omega
theorem zqgb {ws:List Wh}(h:ws≠[]):0<zen ws:=by
 cases ws with
 | nil=>exact absurd rfl h
 | cons w r=>rw[zteb];omega
def zje (n:Str):Prop:=1≤n.length∧n.length≤8∧∀c∈n.cps.toList,97≤c∧c≤122
def Wh.ok:Wh->Prop
 | .mark n=>zje n
 | .force i=>i<1000
 | .not a=>a.ok
 | .both a b=>a.ok∧b.ok
 | .any a b=>a.ok∧b.ok
 | _=>True
theorem Wh.zalb {w:Wh}(h:w.ok):∀p∈w.parts,p.ok:=by
 cases w with
 | not a =>
  intro p hp;have e:p=a:=by simpa [Wh.parts] using hp
  rw[e];exact h
 | both a b =>
  intro p hp;have e:p=a∨p=b:=by simpa [Wh.parts] using hp
  rcases e with e|e<;>rw[e]
  ·exact h.1
  ·exact h.2
 | any a b =>
  intro p hp;have e:p=a∨p=b:=by simpa [Wh.parts] using hp
  rcases e with e|e<;>rw[e]
  ·exact h.1
  ·exact h.2
 | _=>intro p hp;simp[Wh.parts] at hp
theorem zny:∀i:Nat,i<1000->∀c∈(toString (i:Int):Str).cps.toList,48≤c∧c≤57:=by decide +kernel
theorem zmo:∀i:Nat,i<1000->1≤(toString (i:Int):Str).length∧(toString (i:Int):Str).length≤3:=by decide +kernel
def zsu (u:Str):Prop:=32∉u.cps.toList∧1≤u.length∧u.length≤8
theorem zqy {n:Str}(h:zje n):zsu n:=⟨λz=>absurd (h.2.2 32 z).1 (by decide),h.1,h.2.1⟩
theorem zxd {i:Nat}(h:i<1000):zsu (toString (i:Int):Str):=by
 have q:=zmo i h;exact⟨λz=>absurd (zny i h 32 z).1 (by decide),q.1,by omega⟩
theorem Wh.zoj (w:Wh):zsu w.word:=by
 have h:∀u∈(["all","self","mine","mark","force","not","both","any"]:List Str),32∉u.cps.toList∧1≤u.length∧u.length≤8:=by decide +kernel
 refine h _ ?_;cases w<;>simp[Wh.word]
theorem Wh.zwjb {w:Wh}(h:w.ok):∀u∈w.words,zsu u:=by
 induction w with
 | not a ih =>
  intro u hu
  rcases yma.mp hu with e|e
  ·rw[e];exact Wh.zoj (.not a)
  ·exact ih h u e
 | both a b iha ihb =>
  intro u hu
  rcases yma.mp hu with e|e
  ·rw[e];exact Wh.zoj (.both a b)
  ·rcases ysb.mp e with e|e
   ·exact iha h.1 u e
   ·exact ihb h.2 u e
 | any a b iha ihb =>
  intro u hu
  rcases yma.mp hu with e|e
  ·rw[e];exact Wh.zoj (.any a b)
  ·rcases ysb.mp e with e|e
   ·exact iha h.1 u e
   ·exact ihb h.2 u e
 | mark n =>
  intro u hu;have e:u = "mark" ∨ u=n:=by simpa [Wh.words] using hu
  rcases e with e|e<;>rw[e]
  ·exact Wh.zoj (.mark n)
  ·exact zqy h
 | force i =>
  intro u hu;have e:u = "force" ∨ u=toString (i:Int):=by simpa [Wh.words] using hu
  rcases e with e|e<;>rw[e]
  ·exact Wh.zoj (.force i)
  ·exact zxd h
 | all=>intro u hu;have e:u = "all":=by simpa [Wh.words] using hu
        rw[e];exact Wh.zoj .all
 | self=>intro u hu;have e:u = "self":=by simpa [Wh.words] using hu
         rw[e];exact Wh.zoj .self
 | mine=>intro u hu;have e:u = "mine":=by simpa [Wh.words] using hu
         rw[e];exact Wh.zoj .mine
theorem Wh.zcx (w:Wh):w.words.length≤2*w.size:=by
 induction w<;>simp[Wh.words,Wh.size]<;>omega
theorem zdn {l:List Nat}{k:Nat}(h:∀x∈l,x≤k):l.sum≤l.length*k:=by
 induction l with
 | nil=>simp
 | cons x r ih =>
  have a:=h x yqa;have b:=ih λy hy=>h y (ysa _ hy);rw[yme,yka,Nat.add_mul,Nat.one_mul];omega
def step:List Wh->List Wh
 | []=>[]
 | h::t=>h.parts++t
def pend (w:Wh):Nat->List Wh
 | 0=>[w]
 | j+1=>step (pend w j)
theorem zrib (w:Wh):zaq [w]=w.flat:=by simp[zaq]
theorem zpt (w:Wh):zlk [w]=w.words:=by simp[zlk]
theorem zrr (w:Wh):∀j,zaq (pend w j)=w.flat.drop j
 | 0=>by rw[yqj];exact zrib w
 | j+1=>by
  have ih:=zrr w j;show zaq (step (pend w j))=_
  cases e:pend w j with
  | nil =>
   rw[e] at ih;have z:w.flat.drop j=[]:=ih.symm;rw[← yrj (i:=1),z];rfl
  | cons h t =>
   rw[e,zmu] at ih;show zaq (h.parts++t)=_
   have z:=congrArg (List.drop 1) ih;rw[yrj] at z
   simpa using z
theorem zqr (w:Wh)(j:Nat):zen (pend w j)=w.size-j:=by
 have a:∀ws:List Wh,(zaq ws).length=zen ws:=by
  intro ws
  induction ws with
  | nil=>rfl
  | cons x r ih =>
   have e1:zaq (x::r)=x.flat++zaq r:=(by simp[zaq]);have e2:zen (x::r)=x.size+zen r:=(by simp[zen]);rw[e1,e2,yfa,x.zmq,ih]
 rw[← a,zrr,yjd,w.zmq]
theorem zabb {w:Wh}{j:Nat}(h:j<w.size):Ex2 λx t=>pend w j=x::t:=by
 cases e:pend w j with
 | nil =>
  have z:=zqr w j;rw[e] at z;have z':0=w.size-j:=z;omega
 | cons x t=>exact⟨x,t,rfl⟩
theorem zkv (w:Wh):pend w w.size=[]:=by
 cases e:pend w w.size with
 | nil=>rfl
 | cons x t =>
  have z:=zqr w w.size;rw[e] at z;have p:=zqgb (ws:=x::t) (by simp);omega
theorem zfhb {w x:Wh}{t:List Wh}{j:Nat}(e:pend w j=x::t):w.flat[j]?=some (x.word,x.val):=by
 have z:=zrr w j;rw[e,zmu] at z;have q:(w.flat.drop j)[0]?=some (x.word,x.val):=by rw[← z];rfl
 rw[ybf] at q
 simpa using q
theorem zehb {w:Wh}(h:w.ok):∀j,∀x∈pend w j,x.ok
 | 0=>λx hx=>by
  have e:x=w:=by simpa [pend] using hx
  rw[e];exact h
 | j+1=>λx hx=>by
  have ih:=zehb h j;cases e:pend w j with
  | nil =>
   have hx':x∈step (pend w j):=hx;rw[e] at hx';simp[step] at hx'
  | cons y t =>
   have hx':x∈step (pend w j):=hx;rw[e] at hx' ih
   rcases ysb.mp hx' with q|q
   ·exact Wh.zalb (ih y yqa) x q
   ·exact ih x (ysa _ q)
def Wh.depth:Wh->Nat
 | .not a=>a.depth+1
 | .both a b=>max a.depth b.depth+1
 | .any a b=>max a.depth b.depth+1
 | _=>1
end Wm
namespace Wm
open PySem
def plain (w:Wh):Prop:=w.ok∧w.size≤9
structure Deed where
 each:Str
 kind:Str
 amt:Wv
 whom:Wh
def zgz:List Str:=["each","one"]
def zne:List Str:=["leave","hurt","gain","lack","lose","score","draw"]
def zlf:List Str:=["come","leave","hurt","gain","lack","lose","score","draw"]
def zvb:List Str:=["lose","score","draw"]
def changes:List Str:=["mute","steal","gain","lack","be","more","less","per"]
def sorts:List Str:=["hold","when","instead","may"]
inductive zep:Str->Wv->Prop
 | leave:zep "leave" .non
 | gain {n:Str}:zje n->zep "gain" (.name n)
 | lack {n:Str}:zje n->zep "lack" (.name n)
 | hurt {i:Nat}:i<1000->zep "hurt" (.num i)
 | lose {i:Nat}:i<1000->zep "lose" (.num i)
 | score {i:Nat}:i<1000->zep "score" (.num i)
 | draw {i:Nat}:i<1000->zep "draw" (.num i)
structure Deed.ok (d:Deed):Prop where
 each:d.each∈zgz
 amt:zep d.kind d.amt
 whom:plain d.whom
def Deed.words (d:Deed):List Str:=d.each::d.kind::(d.amt.words++d.whom.words)
inductive Hv where
 | v (x:Wv)|w (y:Wh)
def Hv.words:Hv->List Str
 | .v x=>x.words
 | .w y=>y.words
inductive zci:Str->Hv->Prop
 | mute:zci "mute" (.v .non)
 | steal:zci "steal" (.v .non)
 | gain {n:Str}:zje n->zci "gain" (.v (.name n))
 | lack {n:Str}:zje n->zci "lack" (.v (.name n))
 | be {i:Nat}:i<1000->zci "be" (.v (.num i))
 | more {i:Nat}:i<1000->zci "more" (.v (.num i))
 | less {i:Nat}:i<1000->zci "less" (.v (.num i))
 | per {y:Wh}:plain y->zci "per" (.w y)
inductive TurnOk:Str->Wv->Prop
 | none:TurnOk "none" .non
 | here:TurnOk "here" .non
 | less {i:Nat}:i<1000->TurnOk "less" (.num i)
 | more {i:Nat}:i<1000->TurnOk "more" (.num i)
 | as {n:Str}:n∈zvb->TurnOk "as" (.name n)
def turns:Str->List Str:=λk =>
 if k = "leave" then ["none","here"] else if k = "hurt" then ["none","here","less","more"] else if k = "gain" then ["none","here"] else if k = "lack" then ["none","here"]
 else ["none","less","more","as"]
inductive Rule where
 | hold (word:Str) (val:Hv) (whom:Wh)
 | wen (kind:Str) (whom:Wh) (deed:Deed)
 | instead (kind:Str) (whom:Wh) (word:Str) (val:Wv)
 | may (cost:Nat) (deed:Deed)
def Rule.ok:Rule->Prop
 | .hold w v y=>zci w v∧plain y
 | .wen k y d=>k∈zlf∧plain y∧d.ok
 | .instead k y w v=>k∈zne∧plain y∧w∈turns k∧TurnOk w v
 | .may c d=>c<1000∧d.ok
def Rule.words:Rule->List Str
 | .hold w v y=>"hold" :: w::(v.words++y.words)
 | .wen k y d=>"when" :: k::(y.words++("do":Str)::d.words)
 | .instead k y w v=>"instead" :: k::(y.words++("do":Str)::w::v.words)
 | .may c d=>"may" :: toString (c:Int) :: "do" :: d.words
theorem zep.kind {k:Str}{v:Wv}(h:zep k v):k∈zne:=by cases h<;>decide
theorem zci.word {k:Str}{v:Hv}(h:zci k v):k∈changes:=by cases h<;>decide
theorem Rule.zod (r:Rule):r.words≠[]:=by cases r<;>exact ybc _ _
def zrs (u:Str):Prop:=zsu u∧47∉u.cps.toList
theorem zxr {n:Str}(h:zje n):zrs n:=⟨zqy h,λz=>absurd (h.2.2 47 z).1 (by decide)⟩
theorem zdm {i:Nat}(h:i<1000):zrs (toString (i:Int):Str):=⟨zxd h,λz=>absurd (zny i h 47 z).1 (by decide)⟩
def goodW (u:Str):Bool:=!u.cps.toList.contains 32 && !u.cps.toList.contains 47&&decide (1≤u.length)&&decide (u.length≤8)
theorem zqi {u:Str}(h:goodW u=true):zrs u:=by
 unfold goodW at h;rw[yhc,yhc,yhc] at h;obtain⟨⟨⟨a,b⟩,c⟩,d⟩:=h;refine⟨⟨λz=>?_,of_decide_eq_true c,of_decide_eq_true d⟩,λz=>?_⟩
 ·rw[yoo.mpr z] at a;cases a
 ·rw[yoo.mpr z] at b;cases b
theorem zsn {l:List Str}(h:l.all goodW=true){u:Str}(hu:u∈l):zrs u:=zqi (ybg.mp h u hu)
theorem Wh.zzg {w:Wh}(h:w.ok):∀u∈w.words,zrs u:=by
 induction w with
 | all=>intro u hu;exact zsn (l:=["all"]) (by decide +kernel) hu
 | self=>intro u hu;exact zsn (l:=["self"]) (by decide +kernel) hu
 | mine=>intro u hu;exact zsn (l:=["mine"]) (by decide +kernel) hu
 | mark n =>
  intro u hu
  rcases yma.mp hu with rfl|hu
  ·exact zqi (by decide +kernel)
  ·rw[yia.mp hu];exact zxr h
 | force i =>
  intro u hu
  rcases yma.mp hu with rfl|hu
  ·exact zqi (by decide +kernel)
  ·rw[yia.mp hu];exact zdm h
 | not a ih =>
  intro u hu
  rcases yma.mp hu with rfl|hu
  ·exact zqi (by decide +kernel)
  ·exact ih h u hu
 | both a b ia ib =>
  intro u hu
  rcases yma.mp hu with rfl|hu
  ·exact zqi (by decide +kernel)
  ·rcases ysb.mp hu with hu|hu
   ·exact ia h.1 u hu
   ·exact ib h.2 u hu
 | any a b ia ib =>
  intro u hu
  rcases yma.mp hu with rfl|hu
  ·exact zqi (by decide +kernel)
  ·rcases ysb.mp hu with hu|hu
   ·exact ia h.1 u hu
   ·exact ib h.2 u hu
theorem zep.words {k:Str}{v:Wv}(h:zep k v):∀u∈v.words,zrs u:=by
 intro u hu;cases h with
 | leave=>cases hu
 | gain h=>rw[yia.mp hu];exact zxr h
 | lack h=>rw[yia.mp hu];exact zxr h
 | hurt h=>rw[yia.mp hu];exact zdm h
 | lose h=>rw[yia.mp hu];exact zdm h
 | score h=>rw[yia.mp hu];exact zdm h
 | draw h=>rw[yia.mp hu];exact zdm h
theorem TurnOk.words {k:Str}{v:Wv}(h:TurnOk k v):∀u∈v.words,zrs u:=by
 intro u hu;cases h with
 | none=>cases hu
 | here=>cases hu
 | less h=>rw[yia.mp hu];exact zdm h
 | more h=>rw[yia.mp hu];exact zdm h
 | as h=>rw[yia.mp hu];exact zsn (l:=zvb) (by decide +kernel) h
theorem TurnOk.word {k:Str}{v:Wv}(h:TurnOk k v):zrs k:=by cases h<;>exact zqi (by decide +kernel)
theorem zci.words {k:Str}{v:Hv}(h:zci k v):∀u∈v.words,zrs u:=by
 intro u hu;cases h with
 | mute=>cases hu
 | steal=>cases hu
 | gain h=>rw[yia.mp hu];exact zxr h
 | lack h=>rw[yia.mp hu];exact zxr h
 | be h=>rw[yia.mp hu];exact zdm h
 | more h=>rw[yia.mp hu];exact zdm h
 | less h=>rw[yia.mp hu];exact zdm h
 | per h=>exact Wh.zzg h.1 u hu
theorem Deed.zzg {d:Deed}(h:d.ok):∀u∈d.words,zrs u:=by
 intro u hu
 rcases yma.mp hu with rfl|hu
 ·exact zsn (l:=zgz) (by decide +kernel) h.each
 rcases yma.mp hu with rfl|hu
 ·exact zsn (l:=zne) (by decide +kernel) h.amt.kind
 rcases ysb.mp hu with hu|hu
 ·exact h.amt.words u hu
 ·exact Wh.zzg h.whom.1 u hu
theorem Rule.zzg {r:Rule}(h:r.ok):∀u∈r.words,zrs u:=by
 intro u hu;cases r with
 | hold w v y =>
  rcases yma.mp hu with rfl|hu
  ·exact zqi (by decide +kernel)
  rcases yma.mp hu with rfl|hu
  ·exact zsn (l:=changes) (by decide +kernel) h.1.word
  rcases ysb.mp hu with hu|hu
  ·exact h.1.words u hu
  ·exact Wh.zzg h.2.1 u hu
 | wen k y d =>
  rcases yma.mp hu with rfl|hu
  ·exact zqi (by decide +kernel)
  rcases yma.mp hu with rfl|hu
  ·exact zsn (l:=zlf) (by decide +kernel) h.1
  rcases ysb.mp hu with hu|hu
  ·exact Wh.zzg h.2.1.1 u hu
  rcases yma.mp hu with rfl|hu
  ·exact zqi (by decide +kernel)
  ·exact Deed.zzg h.2.2 u hu
 | instead k y w v =>
  rcases yma.mp hu with rfl|hu
  ·exact zqi (by decide +kernel)
  rcases yma.mp hu with rfl|hu
  ·exact zsn (l:=zne) (by decide +kernel) h.1
  rcases ysb.mp hu with hu|hu
  ·exact Wh.zzg h.2.1.1 u hu
  rcases yma.mp hu with rfl|hu
  ·exact zqi (by decide +kernel)
  rcases yma.mp hu with rfl|hu
  ·exact h.2.2.2.word
  ·exact h.2.2.2.words u hu
 | may c d =>
  rcases yma.mp hu with rfl|hu
  ·exact zqi (by decide +kernel)
  rcases yma.mp hu with rfl|hu
  ·exact zdm h.1
  rcases yma.mp hu with rfl|hu
  ·exact zqi (by decide +kernel)
  ·exact Deed.zzg h.2 u hu
end Wm
namespace Wm
open PySem PySem.StrLaws PySem.Builtin.Str
def SL:Str:=⟨#[32,47,32]⟩
theorem zqu {s sub:Str}{hi:Nat}:∀{cuts cuts':List Nat} {a f f':Nat},ChainG s sub hi a cuts f->(∀k,f≤k->¬ At s sub hi k)->ChainG s sub hi a cuts' f'->(∀k,f'≤k->¬ At s sub hi k)->cuts=cuts'
 | [],[],_,_,_,_,_,_,_=>rfl
 | [],c::r,a,f,f',h,n,h',n'=>by
  have e:f=a:=h;subst e;exact absurd h'.2.1 (n c h'.1)
 | c::r,[],a,f,f',h,n,h',n'=>by
  have e:f'=a:=h';subst e;exact absurd h.2.1 (n' c h.1)
 | c::r,c'::r',a,f,f',h,n,h',n'=>by
  rcases ylm c c' with z|z|z
  ·exact absurd h.2.1 (h'.2.2.1 c h.1 z)
  ·subst z;rw[zqu h.2.2.2 n h'.2.2.2 n']
  ·exact absurd h'.2.1 (h.2.2.1 c' h'.1 z)
theorem zdw (x:Str)(a b:Nat):(x.cps.extract a b).toList=(x.cps.toList.drop a).take (b-a):=by
 rw[yck,List.extract_eq_take_drop]
theorem zanb {x:Str}{hi k:Nat}(h:At x SL hi k):x.cps.toList[k+1]?=some 47:=by
 have e:x.cps.extract k (k+3)=#[32,47,32]:=by
  have:=h.2;unfold subAt at this;exact beq_iff_eq.mp this
 have q:=congrArg (λz=>z.toList[1]?) e;simp only[zdw] at q;rw[yem (by omega),ybf] at q;exact q
theorem at_of {x:Str}{pre r:List Nat}(e:x.cps.toList=pre++32::47::32::r):At x SL x.length pre.length:=by
 have hl:=congrArg ybh e;rw[yfa] at hl;simp only[yka,yga] at hl;refine⟨?_,?_⟩
 ·show pre.length+3≤x.cps.size;omega
 ·unfold subAt;rw[beq_iff_eq];apply yci.mp;rw[zdw,e,yvl];show ((32::47::32::r:List Nat).take (pre.length+3-pre.length))=[32,47,32]
  rw[yjf];rfl
def jl3:List (List Nat)->List Nat
 | []=>[]
 | [p]=>p
 | p::q::r=>p++32::47::32::jl3 (q::r)
def cutsOf:Nat->List (List Nat)->List Nat
 | a,p::q::r=>(a+p.length)::cutsOf (a+p.length+3) (q::r)
 | _,_=>[]
def lastOf:Nat->List (List Nat)->Nat
 | a,p::q::r=>lastOf (a+p.length+3) (q::r)
 | a,_=>a
theorem zzrb:∀ws:List Str,(ywa SL ws).cps.toList=jl3 (ws.map λw=>w.cps.toList)
 | []=>rfl
 | [x]=>rfl
 | x::y::r=>by
  have e:ywa SL (x::y::r)=x++SL++ywa SL (y::r):=rfl;rw[e];show ((x.cps++SL.cps)++(ywa SL (y::r)).cps).toList=_
  rw[yvf,yvf,zzrb (y::r),ydd];rfl
theorem zimb {x:Str}{pre p r:List Nat}{b:Nat}(e:x.cps.toList=pre++(p++r))(hb:b=pre.length+p.length)(q:Str)(hq:q.cps.toList=p):strSub x pre.length b=q:=by
 obtain⟨c⟩:=q;have z:x.cps.extract pre.length b=c:=by
  apply yci.mp;rw[zdw,e,yvl,hb,yjf,List.take_left];exact hq.symm
 show (⟨x.cps.extract pre.length b⟩:Str)=⟨c⟩
 rw[z]
theorem zydb {x:Str}:∀{ps:List Str} {pre:List Nat},ps≠[]->(∀p∈ps,47∉p.cps.toList)->x.cps.toList=pre++jl3 (ps.map λw=>w.cps.toList) →
  ChainG x SL x.length pre.length (cutsOf pre.length (ps.map λw=>w.cps.toList)) (lastOf pre.length (ps.map λw=>w.cps.toList))∧(∀k,lastOf pre.length (ps.map λw=>w.cps.toList)≤k->¬ At x SL x.length k)∧partsFrom x 3 pre.length (cutsOf pre.length (ps.map λw=>w.cps.toList))=ps
 | [],_,h,_,_=>absurd rfl h
 | [p],pre,_,hf,e=>by
  have e':x.cps.toList=pre++p.cps.toList:=e;refine⟨rfl,λk hk hA=>?_,?_⟩
  ·have hk':pre.length≤k:=hk;have m:=zanb hA;rw[e',yab (by omega)] at m;exact hf p (yia.mpr rfl) (ypa m)
  ·show [strSub x pre.length x.length]=[p];rw[zimb (r:=[]) (by rw[yad];exact e') ?_ p rfl];have hl:=congrArg ybh e';rw[yfa,yga] at hl;exact hl
 | p::q::r,pre,_,hf,e=>by
  have e':x.cps.toList=pre++(p.cps.toList++32::47::32::jl3 ((q::r).map λw=>w.cps.toList)):=e;have e1:x.cps.toList=(pre++p.cps.toList)++32::47::32::jl3 ((q::r).map λw=>w.cps.toList):=by rw[e',ydd]
  have e2:x.cps.toList=(pre++p.cps.toList++[32,47,32])++jl3 ((q::r).map λw=>w.cps.toList):=by rw[e1,ydd (pre++p.cps.toList)];rfl
  obtain⟨c1,c2,c3⟩:=zydb (ps:=q::r) (pre:=pre++p.cps.toList++[32,47,32]) (ybc _ _) (λy hy=>hf y (ysa _ hy)) e2;have el:(pre++p.cps.toList++[32,47,32]).length=pre.length+p.cps.toList.length+3:=by
   rw[yfa,yfa];rfl
  rw[el] at c1 c2 c3;have eA:=at_of e1;rw[yfa] at eA;refine⟨⟨Nat.le_add_right _ _,eA,λk h1 h2 hA=>?_,c1⟩,c2,?_⟩
  ·have m:=zanb hA
   rcases yuj (k+1) (pre.length+p.cps.toList.length) with z|z
   ·rw[e',yab (by omega),ywb (by omega)] at m;exact hf p yqa (ypa m)
   ·have h2':k<pre.length+p.cps.toList.length:=h2;have ek:k+1=(pre++p.cps.toList).length:=(by rw[yfa];omega);rw[e1,ek,yab (yja _),yli] at m;exact absurd m (by simp)
  ·show strSub x pre.length (pre.length+p.cps.toList.length)::partsFrom x 3 (pre.length+p.cps.toList.length+3) (cutsOf (pre.length+p.cps.toList.length+3) ((q::r).map λw=>w.cps.toList))=p::q::r;rw[c3,zimb e' rfl p rfl]
theorem zaqb {ps:List Str}(hne:ps≠[])(hf:∀p∈ps,47∉p.cps.toList):ytf (ywa SL ps) SL=ps:=by
 obtain⟨f,hG,hn⟩:=occ_tight (ywa SL ps) SL (by decide);obtain⟨c1,c2,c3⟩:=zydb (x:=ywa SL ps) (ps:=ps) (pre:=[]) hne hf (zzrb ps);have u:=zqu hG hn c1 c2;unfold ytf;rw[u];have one:cutsOf ([]:List Nat).length (ps.map λw=>w.cps.toList)=[]->[ywa SL ps]=ps:=λz=>by
  cases ps with
  | nil=>exact absurd rfl hne
  | cons p r =>
   cases r with
   | nil=>rfl
   | cons q r=>cases z
 split
 ·rename_i hc;rw[Bool.or_eq_true,decide_eq_true_eq,decide_eq_true_eq] at hc;apply one
  rcases hc with h|h
  ·cases hcut:cutsOf ([]:List Nat).length (ps.map λw=>w.cps.toList) with
   | nil=>rfl
   | cons c r =>
    rw[hcut] at c1;have:=c1.2.1.1;omega
  ·exfalso;have ek:yei SL=1:=(by decide +kernel);rw[ek] at h;unfold yei at h
   split at h
   ·omega
   ·split at h
    ·omega
    ·omega
 ·split
  ·rename_i he;exact one (List.isEmpty_iff.mp he)
  ·rw[partsBetween_eq];exact c3
end Wm
namespace Wm
open PySem PySem.Spec PyProof.Rows
def leS (a b:Str):Prop:=a.cps.toList≤b.cps.toList
theorem zmrb {a b:Str}(h:ltCps b.cps.toList a.cps.toList=false):leS a b:=by
 rw[ltCps_eq] at h;exact List.not_lt.mp (of_decide_eq_false h)
theorem zvhb {a b c:Str}(h:leS a b)(g:leS b c):leS a c:=List.le_trans h g
theorem zklb {a b:Str}(h:leS a b)(g:leS b a):a=b:=by
 have e:=List.le_antisymm h g;obtain⟨x⟩:=a;obtain⟨y⟩:=b;rw[show x=y from yci.mp e]
theorem zrx:∀(p:Str) (l:List Str),risingS p l=true->(p::l).Pairwise leS
 | p,[],_=>ycn _ _
 | p,x::r,h=>by
  have h':(!ltCps x.cps.toList p.cps.toList&&risingS x r)=true:=h;rw[yhc] at h';have h1:leS p x:=zmrb (by have:=h'.1;revert this;cases ltCps x.cps.toList p.cps.toList<;>simp);have h2:=zrx x r h'.2;rw[yll];refine⟨λb hb=>?_,h2⟩
  rcases yma.mp hb with rfl|hb
  ·exact h1
  ·exact zvhb h1 ((yll.mp h2).1 b hb)
theorem zkx:∀{l:List Str},yuk l=true->l.Pairwise leS
 | [],_=>.nil
 | x::r,h=>zrx x r h
theorem zvq {xs ys:List Str}(hp:xs.Perm ys)(hx:yuk xs=true)(hy:yuk ys=true):xs=ys :=
 yom (le:=leS) (λ_ _ _ _ h g=>zklb h g) (zkx hx) (zkx hy) hp
theorem zwdb {xs:List Str}(h:xs.Nodup):SSet.dd xs=xs:=by
 have key:∀n,n≤xs.length->SSet.dd (xs.take n)=xs.take n:=by
  intro n
  induction n with
  | zero=>intro _;rfl
  | succ n ih =>
   intro hn;have hlt:n<xs.length:=hn;rw[yfb,ylb hlt];show SSet.dd (xs.take n++[xs[n]])=xs.take n++[xs[n]]
   rw[SSet.zxk,ih (by omega),if_neg];intro hm;obtain⟨i,hi,e⟩:=List.getElem_of_mem hm;rw[ycb] at hi;rw[List.getElem_take] at e;exact (ysl.mp h) i n (by omega) hlt (by omega) e
 have:=key xs.length (yja _)
 rwa [yhn] at this
structure Marks (ms:List Str):Prop where
 ok:∀m∈ms,zje m
 nd:ms.Nodup
 so:yuk ms=true
 le:ms.length≤20
theorem Marks.same {ms ys:List Str}(h:Marks ms)(hp:ys.Perm (SSet.dd ms))(hs:yuk ys=true):ys=ms:=by
 rw[zwdb h.nd] at hp;exact zvq hp hs h.so
def CM:Str:=⟨#[44]⟩
def zwh:List Str->Str
 | []=>"-"
 | m::r=>ywa CM (m::r)
theorem zoo {c:Nat}:∀{ws:List Str} {d:Nat},d∈(ywa ⟨#[c]⟩ ws).cps.toList->d=c∨∃w∈ws,d∈w.cps.toList
 | [],d,h=>by cases h
 | [x],d,h=>.inr ⟨x,yia.mpr rfl,h⟩
 | x::y::r,d,h=>by
  have e:ywa ⟨#[c]⟩ (x::y::r)=x++⟨#[c]⟩++ywa ⟨#[c]⟩ (y::r):=rfl;rw[e] at h;have h':d∈((x.cps++#[c])++(ywa ⟨#[c]⟩ (y::r)).cps).toList:=h;rw[yvf,yvf] at h'
  rcases ysb.mp h' with h'|h'
  ·rcases ysb.mp h' with h'|h'
   ·exact .inr ⟨x,yqa,h'⟩
   ·exact .inl (yia.mp h')
  ·rcases zoo h' with z|⟨w,hw,z⟩
   ·exact .inl z
   ·exact .inr ⟨w,ysa _ hw,z⟩
theorem zuk {ms:List Str}(h:Marks ms)(hne:ms≠[]):∀d∈(zwh ms).cps.toList,d=44∨(97≤d∧d≤122):=by
 cases ms with
 | nil=>exact absurd rfl hne
 | cons m r =>
  intro d hd
  rcases zoo (c:=44) hd with z|⟨w,hw,z⟩
  ·exact .inl z
  ·exact .inr ((h.ok w hw).2.2 d z)
theorem zrhb {ms:List Str}(h:Marks ms)(hne:ms≠[]):zwh ms ≠ "-":=by
 intro z;have:=zuk h hne 45 (by rw[z];decide +kernel);omega
theorem zpl {ms:List Str}(h:Marks ms):1≤(zwh ms).length∧(zwh ms).length≤180:=by
 cases ms with
 | nil=>exact⟨by decide,by decide⟩
 | cons m r =>
  have a:=zxj CM (m::r);have c:=zdn (l:=(m::r).map (·.length)) (k:=8) (λx hx=>by
   obtain⟨u,hu,rfl⟩:=yac.mp hx;exact (h.ok u hu).2.1)
  rw[yaa] at c;have e:CM.length=1:=rfl;rw[e] at a;have l:=h.le;refine⟨?_,?_⟩
  ·have m1:=(h.ok m yqa).1;cases r with
   | nil=>exact m1
   | cons y r =>
    have e2:ywa CM (m::y::r)=m++CM++ywa CM (y::r):=rfl;show 1≤(ywa CM (m::y::r)).length
    rw[e2];show 1≤((m.cps++CM.cps)++(ywa CM (y::r)).cps).size
    rw[ynj,ynj];have:m.length=m.cps.size:=rfl;omega
  ·show (ywa CM (m::r)).length≤180;omega
theorem zibb {ms:List Str}(h:Marks ms)(hne:ms≠[]):ytf (zwh ms) CM=ms:=by
 cases ms with
 | nil=>exact absurd rfl hne
 | cons m r=>exact zdo (c:=44) (ybc _ _) (λw hw z=>absurd ((h.ok w hw).2.2 44 z).1 (by decide))
structure Crd where
 name:Str
 cost:Nat
 force:Nat
 marks:List Str
 rules:List Rule
structure Crd.ok (c:Crd):Prop where
 name:zje c.name
 cost:c.cost<1000
 force:c.force<1000
 marks:Marks c.marks
 rules:∀r∈c.rules,r.ok
 few:c.rules.length≤3
def Crd.head (c:Crd):List Str:=[c.name,toString (c.cost:Int),toString (c.force:Int),zwh c.marks]
def zuf (r:Rule):Str:=ywa " " r.words
def Crd.text (c:Crd):Str:=ywa SL (ywa " " c.head::c.rules.map zuf)
theorem zdz {c d:Nat}{ws:List Str}(h:∀w∈ws,d∉w.cps.toList)(n:d≠c):d∉(ywa ⟨#[c]⟩ ws).cps.toList:=λz=>by
 rcases zoo z with e|⟨w,hw,z⟩
 ·exact n e
 ·exact h w hw z
theorem zjbb {ms:List Str}(h:Marks ms):32∉(zwh ms).cps.toList∧47∉(zwh ms).cps.toList:=by
 by_cases e:ms=[]
 ·subst e;exact⟨by decide,by decide⟩
 ·exact⟨λz=>by have:=zuk h e 32 z;omega,λz=>by have:=zuk h e 47 z;omega⟩
theorem Crd.zaz {c:Crd}(h:c.ok):∀u∈c.head,32∉u.cps.toList∧47∉u.cps.toList:=by
 intro u hu;simp only[Crd.head,yma,yff,or_false] at hu
 rcases hu with rfl|rfl|rfl|rfl
 ·exact⟨(zxr h.name).1.1,(zxr h.name).2⟩
 ·exact⟨(zdm h.cost).1.1,(zdm h.cost).2⟩
 ·exact⟨(zdm h.force).1.1,(zdm h.force).2⟩
 ·exact zjbb h.marks
theorem Crd.zifb {c:Crd}(h:c.ok):ytf (ywa " " c.head) " " = c.head:=zdo (c:=32) (ybc _ _) (λu hu=>(Crd.zaz h u hu).1)
theorem Crd.zaw {c:Crd}(h:c.ok):(ywa " " c.head).length≤300:=by
 have a:=zxj " " c.head;have c':=zdn (l:=c.head.map (·.length)) (k:=180) (λx hx=>by
  obtain⟨u,hu,rfl⟩:=yac.mp hx;simp only[Crd.head,yma,yff,or_false] at hu
  rcases hu with rfl|rfl|rfl|rfl
  ·have:=h.name.2.1;omega
  ·have:=(zmo _ h.cost).2;omega
  ·have:=(zmo _ h.force).2;omega
  ·exact (zpl h.marks).2)
 have e:(" ":Str).length=1:=rfl;rw[e] at a;have s:(c.head.map (·.length)).sum=c.name.length+((toString (c.cost:Int):Str).length+((toString (c.force:Int):Str).length+((zwh c.marks).length+0))):=rfl;have hl:c.head.length=4:=rfl;rw[s,hl] at a;have b1:=h.name.2.1;have b2:=(zmo _ h.cost).2;have b3:=(zmo _ h.force).2;have b4:=(zpl h.marks).2;omega
theorem Crd.split {c:Crd}(h:c.ok):ytf c.text SL=ywa " " c.head::c.rules.map zuf:=by
 refine zaqb (ybc _ _) λp hp=>?_
 rcases yma.mp hp with rfl|hp
 ·exact zdz (λu hu=>(Crd.zaz h u hu).2) (by decide)
 ·obtain⟨r,hr,rfl⟩:=yac.mp hp;exact zdz (λu hu=>(Rule.zzg (h.rules r hr) u hu).2) (by decide)
end Wm
namespace Wm
open PySem PySem.Spec PyProof.Rows
end Wm
namespace K26
open PySem L2 PyProof.Rows Wm
variable {P:yvb}{w:World}{K:yda}{mg:Str->Option Value}{base:Heap}
def top (i:Nat):Stmt:=PySem.Challenge.pw_turnstack_k26_what_happens.main.body.getD i (.Pass ⟨0,0,0,0⟩)
abbrev zpx:Stmt:=top 9
abbrev ztjb:List Str:=["word"]
abbrev zws:List Str:=["word"]
theorem zweb:zxa ztjb zws (zja zpx):=scOf (by decide +kernel)
abbrev zfr:Stmt:=top 10
abbrev zncb:List Str:=["word"]
abbrev ztm:List Str:=["word"]
theorem zmx:zxa zncb ztm (zja zfr):=scOf (by decide +kernel)
abbrev zxt:Stmt:=top 11
abbrev zxfb:List Str:=["word","most"]
abbrev zzo:List Str:=["word","most"]
theorem zwab:zxa zxfb zzo (zja zxt):=scOf (by decide +kernel)
abbrev zah:Stmt:=inClass (top 12) 0
abbrev zjq:List Str:=["self","text"]
abbrev zjh:List Str:=["self","text"]
theorem zeo:zxa zjq zjh (zja zah):=scOf (by decide +kernel)
abbrev zsk:Stmt:=inClass (top 12) 1
abbrev zlab:List Str:=["self"]
abbrev zll:List Str:=["self"]
theorem zjv:zxa zlab zll (zja zsk):=scOf (by decide +kernel)
abbrev zxe:Stmt:=inClass (top 12) 2
abbrev zym:List Str:=["self","known","word"]
abbrev zbf:List Str:=["self","known"]
theorem zkh:zxa zym zbf (zja zxe):=scOf (by decide +kernel)
abbrev zbg:Stmt:=inClass (top 12) 3
abbrev zdp:List Str:=["self","word"]
abbrev zgg:List Str:=["self"]
theorem zji:zxa zdp zgg (zja zbg):=scOf (by decide +kernel)
abbrev zye:Stmt:=inClass (top 12) 4
abbrev zzm:List Str:=["self","word"]
abbrev zcf:List Str:=["self"]
theorem zlh:zxa zzm zcf (zja zye):=scOf (by decide +kernel)
abbrev zvi:Stmt:=inClass (top 12) 5
abbrev zot:List Str:=["self"]
abbrev zzi:List Str:=["self"]
theorem zyq:zxa zot zzi (zja zvi):=scOf (by decide +kernel)
abbrev zrh:Stmt:=inClass (top 13) 0
abbrev zys:List Str:=["self","word","value","parts"]
abbrev zai:List Str:=["self","word","value","parts"]
theorem zyp:zxa zys zai (zja zrh):=scOf (by decide +kernel)
abbrev zzq:Stmt:=top 14
abbrev zgcb:List Str:=["words","taken","missing","word"]
abbrev znm:List Str:=["words"]
theorem zng:zxa zgcb znm (zja zzq):=scOf (by decide +kernel)
abbrev zlp:Stmt:=top 15
abbrev zdab:List Str:=["words","word"]
abbrev zfl:List Str:=["words","word"]
theorem zgv:zxa zdab zfl (zja zlp):=scOf (by decide +kernel)
abbrev zugb:Stmt:=top 16
abbrev zspb:List Str:=["taken","whoms","word","value","many"]
abbrev zfcb:List Str:=["taken"]
theorem zol:zxa zspb zfcb (zja zugb):=scOf (by decide +kernel)
abbrev zsh:Stmt:=inClass (top 25) 0
abbrev zzs:List Str:=["self","name","cost","force","marks","rules"]
abbrev zbi:List Str:=["self","name","cost","force","marks","rules"]
theorem zzp:zxa zzs zbi (zja zsh):=scOf (by decide +kernel)
abbrev zer:Stmt:=top 26
abbrev zmcb:List Str:=["text","texts","words","name","cost","force","marks"]
abbrev zsm:List Str:=["text"]
theorem zee:zxa zmcb zsm (zja zer):=scOf (by decide +kernel)
abbrev zmp:Stmt:=top 27
abbrev zeab:List Str:=["word","marks"]
abbrev zgl:List Str:=["word"]
theorem zgn:zxa zeab zgl (zja zmp):=scOf (by decide +kernel)
abbrev zdr:Stmt:=top 28
abbrev zlcb:List Str:=["text","words","first","rule"]
abbrev zrm:List Str:=["text"]
theorem zde:zxa zlcb zrm (zja zdr):=scOf (by decide +kernel)
abbrev zbr:Stmt:=top 29
abbrev zjcb:List Str:=["words","word","value","whom"]
abbrev zpm:List Str:=["words"]
theorem zei:zxa zjcb zpm (zja zbr):=scOf (by decide +kernel)
abbrev zqh:Stmt:=top 30
abbrev zxm:List Str:=["words","word"]
abbrev zaf:List Str:=["words","word"]
theorem zsl:zxa zxm zaf (zja zqh):=scOf (by decide +kernel)
abbrev zar:Stmt:=top 31
abbrev zicb:List Str:=["words","kind","whom"]
abbrev zom:List Str:=["words"]
theorem zqk:zxa zicb zom (zja zar):=scOf (by decide +kernel)
abbrev zvl:Stmt:=top 32
abbrev zmt:List Str:=["words","kind","whom","word"]
abbrev zxi:List Str:=["words"]
theorem zmf:zxa zmt zxi (zja zvl):=scOf (by decide +kernel)
abbrev zej:Stmt:=top 33
abbrev zap:List Str:=["words","word"]
abbrev zdg:List Str:=["words","word"]
theorem zfn:zxa zap zdg (zja zej):=scOf (by decide +kernel)
abbrev zut:Stmt:=top 34
abbrev zufb:List Str:=["words","cost"]
abbrev zwo:List Str:=["words"]
theorem zxq:zxa zufb zwo (zja zut):=scOf (by decide +kernel)
abbrev zcr:Stmt:=top 35
abbrev zkcb:List Str:=["words","each","kind","amount","whom"]
abbrev zqm:List Str:=["words"]
theorem zog:zxa zkcb zqm (zja zcr):=scOf (by decide +kernel)
abbrev zjn:Stmt:=top 36
abbrev zzw:List Str:=["words","kind"]
abbrev zzj:List Str:=["words","kind"]
theorem zct:zxa zzw zzj (zja zjn):=scOf (by decide +kernel)
abbrev zycb:Stmt:=top 43
abbrev zdmb:List Str:=["values","one"]
abbrev zxw:List Str:=["values","one"]
theorem zsgb:zxa zdmb zxw (zja zycb):=scOf (by decide +kernel)
abbrev znx:Stmt:=top 44
abbrev zrjb:List Str:=["values","one"]
abbrev zus:List Str:=["values","one"]
theorem zueb:zxa zrjb zus (zja znx):=scOf (by decide +kernel)
abbrev zvt:Stmt:=top 55
abbrev zvfb:List Str:=["values","place","value"]
abbrev zxo:List Str:=["values","place","value"]
theorem zvab:zxa zvfb zxo (zja zvt):=scOf (by decide +kernel)
abbrev zkp:Stmt:=top 56
abbrev zcab:List Str:=["table","part","place","value"]
abbrev zel:List Str:=["table","part","place","value"]
theorem zfv:zxa zcab zel (zja zkp):=scOf (by decide +kernel)
abbrev zqx:Stmt:=top 57
abbrev zujb:List Str:=["table","happening","kind","thing","amount"]
abbrev zxs:List Str:=["table","happening"]
theorem znl:zxa zujb zxs (zja zqx):=scOf (by decide +kernel)
abbrev zzcb:Stmt:=top 58
abbrev zemb:List Str:=["cards","table","happening"]
abbrev zyw:List Str:=["cards","table","happening"]
theorem ztgb:zxa zemb zyw (zja zzcb):=scOf (by decide +kernel)
abbrev zki:Stmt:=top 59
abbrev zco:List Str:=["table","happening","kind","thing","amount","player","deck","hand"]
abbrev ztf:List Str:=["table","happening"]
theorem zbc:zxa zco ztf (zja zki):=scOf (by decide +kernel)
abbrev zdk:Stmt:=top 60
abbrev zfq:List Str:=["cards","table","happening","kind","number","amount","marks"]
abbrev zfh:List Str:=["cards","table","happening"]
theorem zfd:zxa zfq zfh (zja zdk):=scOf (by decide +kernel)
abbrev zox:Stmt:=top 61
abbrev zsjb:List Str:=["cards","table","number"]
abbrev zvs:List Str:=["cards","table","number"]
theorem zveb:zxa zsjb zvs (zja zox):=scOf (by decide +kernel)
abbrev zwt:Stmt:=top 62
abbrev zwfb:List Str:=["cards","table","number"]
abbrev zyo:List Str:=["cards","table","number"]
theorem zbm:zxa zwfb zyo (zja zwt):=scOf (by decide +kernel)
abbrev zir:Stmt:=top 64
abbrev zpcb:List Str:=["_law_script","_law_k","_law_seed","_law_mixed"]
abbrev zvm:List Str:=["_law_script","_law_k"]
theorem zii:zxa zpcb zvm (zja zir):=scOf (by decide +kernel)
abbrev zgr:Stmt:=top 65
abbrev zocb:List Str:=["_law_pen","_law_most","_law_cell_here"]
abbrev zum:List Str:=["_law_pen","_law_most"]
theorem zjp:zxa zocb zum (zja zgr):=scOf (by decide +kernel)
abbrev zpp:Stmt:=top 66
abbrev ziab:List Str:=["_law_pen","_law_letters","_law_base","_law_at","_law_first"]
abbrev zjl:List Str:=["_law_pen"]
theorem znf:zxa ziab zjl (zja zpp):=scOf (by decide +kernel)
abbrev zln:Stmt:=top 67
abbrev zbx:List Str:=["_law_pen"]
abbrev zbk:List Str:=["_law_pen"]
theorem zet:zxa zbx zbk (zja zln):=scOf (by decide +kernel)
abbrev znp:Stmt:=top 69
abbrev zfab:List Str:=["_law_whom_here","_law_words_here","_law_part"]
abbrev zef:List Str:=["_law_whom_here"]
theorem zqj:zxa zfab zef (zja znp):=scOf (by decide +kernel)
abbrev zgj:Stmt:=top 72
abbrev zcp:List Str:=["_law_deed_here","_law_words_here"]
abbrev zfg:List Str:=["_law_deed_here"]
theorem zgi:zxa zcp zfg (zja zgj):=scOf (by decide +kernel)
abbrev zfj:Stmt:=top 75
abbrev zbp:List Str:=["_law_rule","_law_words_here"]
abbrev zeg:List Str:=["_law_rule"]
theorem zfi:zxa zbp zeg (zja zfj):=scOf (by decide +kernel)
abbrev zjr:Stmt:=top 76
abbrev zqcb:List Str:=["_law_pen","_law_names_here","_law_rules","_law_marks","_law_cost","_law_force","_law_shown","_law_head","_law_text"]
abbrev zwm:List Str:=["_law_pen","_law_names_here","_law_rules"]
theorem zid:zxa zqcb zwm (zja zjr):=scOf (by decide +kernel)
abbrev zqp:Stmt:=top 77
abbrev zjab:List Str:=["_law_pen","_law_many","_law_points","_law_scores"]
abbrev zkl:List Str:=["_law_pen","_law_many"]
theorem zrj:zxa zjab zkl (zja zqp):=scOf (by decide +kernel)
abbrev zop:Stmt:=top 78
abbrev zgab:List Str:=["_law_pen","_law_names_here","_law_cards","_law_owners","_law_many","_law_heads_here","_law_decks","_law_hands","_law_lying","_law_heap","_law_marks","_law_wounds","_law_number","_law_owner","_law_way","_law_cells"]
abbrev zil:List Str:=["_law_pen","_law_names_here","_law_cards","_law_owners","_law_many"]
theorem zyb:zxa zgab zil (zja zop):=scOf (by decide +kernel)
abbrev zek:Stmt:=top 79
abbrev zgq:List Str:=["_law_rows","_law_kind","_law_player","_law_amount","_law_many"]
abbrev zgh:List Str:=["_law_rows","_law_kind","_law_player","_law_amount"]
theorem zcj:zxa zgq zgh (zja zek):=scOf (by decide +kernel)
abbrev zkn:Stmt:=top 80
abbrev zax:List Str:=["_law_cards","_law_table_here","_law_happening_here","_law_kind","_law_thing","_law_amount","_law_rows"]
abbrev zak:List Str:=["_law_cards","_law_table_here","_law_happening_here"]
theorem zme:zxa zax zak (zja zkn):=scOf (by decide +kernel)
abbrev zwl:Stmt:=top 81
abbrev znt:List Str:=["_law_table_here","_law_number","_law_part"]
abbrev zyi:List Str:=["_law_table_here","_law_number"]
theorem zrk:zxa znt zyi (zja zwl):=scOf (by decide +kernel)
abbrev zrp:Stmt:=top 82
abbrev zkab:List Str:=["_law_found","_law_due"]
abbrev zff:List Str:=["_law_found","_law_due"]
theorem ziv:zxa zkab zff (zja zrp):=scOf (by decide +kernel)
abbrev zfk:Stmt:=top 83
abbrev ziq:List Str:=["_law_pen","_law_names_here","_law_cards","_law_many","_law_table_here","_law_kind","_law_amount","_law_thing","_law_free"]
abbrev zih:List Str:=["_law_pen","_law_names_here","_law_cards","_law_many","_law_table_here"]
theorem zdc:zxa ziq zih (zja zfk):=scOf (by decide +kernel)
abbrev zmqb:Stmt:=top 84
abbrev zaub:List Str:=["_law_script","_law_pen","_law_names_here","_law_many","_law_cards","_law_owners","_law_read","_law_table_here","_law_k","_law_happening_here","_law_due","_law_kept"]
abbrev ztsb:List Str:=["_law_script"]
theorem zbj:zxa zaub ztsb (zja zmqb):=scOf (by decide +kernel)
abbrev zss:Str:="abcdefghijklmnopqrstuvwxyz"
abbrev zts:Str:="0123456789"
abbrev zat:List (Str×yyr):=[("all",.flat (.int 0)),("self",.flat (.int 0)),("mine",.flat (.int 0)),("mark",.flat (.int 0)),("force",.flat (.int 0)),("not",.flat (.int 1)),("both",.flat (.int 2)),("any",.flat (.int 2))]
abbrev zrcb:List (Str×yyr):=[("leave",.tup ((["none","here"]:List Str).map PyData.str)),("hurt",.tup ((["none","here","less","more"]:List Str).map PyData.str)),("gain",.tup ((["none","here"]:List Str).map PyData.str)),("lack",.tup ((["none","here"]:List Str).map PyData.str)),("lose",.tup ((["none","less","more","as"]:List Str).map PyData.str)),("score",.tup ((["none","less","more","as"]:List Str).map PyData.str)),("draw",.tup ((["none","less","more","as"]:List Str).map PyData.str))]
theorem onlZ {m:List Value->Prop}(h:m [])(us:List Value)(hl:us.length=0):m us:=by rw[ygh.mp hl];exact h
theorem onlS {m:List Value->Prop}{k:Nat}(h:∀a,∀us,us.length=k->m (a::us))(us:List Value)(hl:us.length=k+1):m us:=by
 obtain⟨a,t,rfl⟩:=List.exists_cons_of_length_eq_add_one hl;exact h a t (Nat.succ.inj hl)
@[elab_as_elim] theorem onl1 {m:List Value->Prop} (h:∀a,m [a]) (us:List Value) (hl:us.length=1):m us:=(onlS (m:=λt=>m (t)) λa=>onlZ (h a)) us hl
@[elab_as_elim] theorem onl2 {m:List Value->Prop} (h:∀a b,m [a,b]) (us:List Value) (hl:us.length=2):m us:=(onlS (m:=λt=>m (t)) λa=>onlS (m:=λt=>m (a::t)) λb=>onlZ (h a b)) us hl
@[elab_as_elim] theorem onl3 {m:List Value->Prop} (h:∀a b c,m [a,b,c]) (us:List Value) (hl:us.length=3):m us:=(onlS (m:=λt=>m (t)) λa=>onlS (m:=λt=>m (a::t)) λb=>onlS (m:=λt=>m (a::b::t)) λc=>onlZ (h a b c)) us hl
@[elab_as_elim] theorem onl4 {m:List Value->Prop} (h:∀a b c d,m [a,b,c,d]) (us:List Value) (hl:us.length=4):m us:=(onlS (m:=λt=>m (t)) λa=>onlS (m:=λt=>m (a::t)) λb=>onlS (m:=λt=>m (a::b::t)) λc=>onlS (m:=λt=>m (a::b::c::t)) λd=>onlZ (h a b c d)) us hl
@[elab_as_elim] theorem onl5 {m:List Value->Prop} (h:∀a b c d e,m [a,b,c,d,e]) (us:List Value) (hl:us.length=5):m us:=(onlS (m:=λt=>m (t)) λa=>onlS (m:=λt=>m (a::t)) λb=>onlS (m:=λt=>m (a::b::t)) λc=>onlS (m:=λt=>m (a::b::c::t)) λd=>onlS (m:=λt=>m (a::b::c::d::t)) λe=>onlZ (h a b c d e)) us hl
@[elab_as_elim] theorem onl6 {m:List Value->Prop} (h:∀a b c d e f,m [a,b,c,d,e,f]) (us:List Value) (hl:us.length=6):m us:=(onlS (m:=λt=>m (t)) λa=>onlS (m:=λt=>m (a::t)) λb=>onlS (m:=λt=>m (a::b::t)) λc=>onlS (m:=λt=>m (a::b::c::t)) λd=>onlS (m:=λt=>m (a::b::c::d::t)) λe=>onlS (m:=λt=>m (a::b::c::d::e::t)) λf=>onlZ (h a b c d e f)) us hl
set_option genInjectivity false in
set_option genSizeOf false in
structure Tf (K:yda)(mg:Str->Option Value) where
 zkf:Gf K mg "is_name" "is_name" zpx
 zue:Gf K mg "is_number" "is_number" zfr
 zag:Gf K mg "is_whole" "is_whole" zxt
 zzb:Gf K mg "take_whom" "take_whom" zzq
 zyd:Gf K mg "take_value" "take_value" zlp
 zam:Gf K mg "built" "built" zugb
 zte:Gf K mg "read_card" "read_card" zer
 zzd:Gf K mg "read_marks" "read_marks" zmp
 zse:Gf K mg "read_rule" "read_rule" zdr
 zre:Gf K mg "take_hold" "take_hold" zbr
 zac:Gf K mg "take_change_value" "take_change_value" zqh
 zqe:Gf K mg "take_when" "take_when" zar
 zdd:Gf K mg "take_instead" "take_instead" zvl
 zkc:Gf K mg "take_turn_value" "take_turn_value" zej
 zyf:Gf K mg "take_may" "take_may" zut
 zkd:Gf K mg "take_deed" "take_deed" zcr
 zld:Gf K mg "take_amount" "take_amount" zjn
 zmh:Gf K mg "joined" "joined" zycb
 zif:Gf K mg "without" "without" znx
 zlc:Gf K mg "replaced" "replaced" zvt
 zgb:Gf K mg "with_value" "with_value" zkp
 zph:Gf K mg "happens" "happens" zqx
 znh:Gf K mg "happen" "happen" zzcb
 zgc:Gf K mg "happen_to_player" "happen_to_player" zki
 zqc:Gf K mg "happen_to_card" "happen_to_card" zdk
 zjf:Gf K mg "renewed" "renewed" zox
 zzf:Gf K mg "put_away" "put_away" zwt
 zve:Gf K mg "_law_cell" "_law_cell" zir
 zea:Gf K mg "_law_take" "_law_take" zgr
 zbe:Gf K mg "_law_names" "_law_names" zpp
 znd:Gf K mg "_law_figure" "_law_figure" zln
 zib:Gf K mg "_law_words" "_law_words" znp
 znc:Gf K mg "_law_deed_words" "_law_deed_words" zgj
 zmc:Gf K mg "_law_rule_words" "_law_rule_words" zfj
 zwe:Gf K mg "_law_card" "_law_card" zjr
 zce:Gf K mg "_law_heads" "_law_heads" zqp
 zae:Gf K mg "_law_table" "_law_table" zop
 zrc:Gf K mg "_law_to_player" "_law_to_player" zek
 zmd:Gf K mg "_law_happen" "_law_happen" zkn
 zed:Gf K mg "_law_nowhere" "_law_nowhere" zwl
 zpb:Gf K mg "_law_alike" "_law_alike" zrp
 zsc:Gf K mg "_law_happening" "_law_happening" zfk
 zyfb:Gf K mg "law" "law" zmqb
set_option genInjectivity false in
set_option genSizeOf false in
structure Tx (K:yda)(mg:Str->Option Value) extends Tf K mg where
 zqb:Addr
 zfb:Cls K zqb
 zkbb:mg "Words" = some (.ref zqb)
 zjc:If K zqb "__init__" "Words.__init__" zah
 zpc:Mf K zqb "take" "Words.take" zsk
 zla:Mf K zqb "take_one_of" "Words.take_one_of" zxe
 zrb:Mf K zqb "take_name" "Words.take_name" zbg
 zab:Mf K zqb "take_number" "Words.take_number" zye
 zuc:Mf K zqb "finish" "Words.finish" zvi
 zpd:zxg K zqb "words"
 zcd:zxg K zqb "place"
 zgd:Addr
 zmw:Cls K zgd
 zmmb:mg "Whom" = some (.ref zgd)
 zvc:If K zgd "__init__" "Whom.__init__" zrh
 zuj:zxg K zgd "word"
 zli:zxg K zgd "value"
 zmi:zxg K zgd "parts"
 zfsb:Isi K zgd
 zsf:Addr
 zkm:Cls K zsf
 znmb:mg "Card" = some (.ref zsf)
 zwc:If K zsf "__init__" "Card.__init__" zsh
 zvj:zxg K zsf "name"
 zwj:zxg K zsf "cost"
 zoi:zxg K zsf "force"
 zrg:zxg K zsf "marks"
 zni:zxg K zsf "rules"
 zgeb:mg "all" = none
 zpq:mg "bool" = none
 zfeb:mg "int" = none
 zob:mg "isinstance" = none
 zyg:mg "len" = none
 zul:mg "list" = none
 zvjb:mg "min" = none
 zpe:mg "range" = none
 zml:mg "reversed" = none
 zpab:mg "set" = none
 zgf:mg "sorted" = none
 zbt:mg "str" = none
 zec:mg "tuple" = none
 zvy:Tok
 zvn:mg "LETTERS" = some (.str zss zvy)
 zwy:Tok
 zwn:mg "FIGURES" = some (.str zts zwy)
 zup:Tok
 zsi:mg "MOST_WORDS" = some (.int 9 zup)
 zmm:Addr
 zqo:mg "PARTS" = some (.ref zmm)
 zyv:yqr (yji λb=>K.lookup b) (λb=>K.lookup b) zmm zat=true
 zvp:Tok
 zti:mg "MOST_RULES" = some (.int 3 zvp)
 zvw:Addr
 zcw:mg "SORTS" = some (.ref zvw)
 zxv:TupK K zvw ["hold","when","instead","may"]
 zbo:Addr
 zxn:mg "CHANGES" = some (.ref zbo)
 zrn:TupK K zbo ["mute","steal","gain","lack","be","more","less","per"]
 zui:Addr
 zri:mg "WHEN_KINDS" = some (.ref zui)
 zpi:TupK K zui ["come","leave","hurt","gain","lack","lose","score","draw"]
 zwg:Addr
 ztg:mg "DEED_KINDS" = some (.ref zwg)
 zsg:TupK K zwg ["leave","hurt","gain","lack","lose","score","draw"]
 zmg:Addr
 zkg:mg "PLAYER_KINDS" = some (.ref zmg)
 zig:TupK K zmg ["lose","score","draw"]
 zuw:Addr
 zbw:mg "TURNS" = some (.ref zuw)
 zwv:TabK K zuw zrcb
 zndb:Tok
 zun:mg "POINTS" = some (.int 0 zndb)
 zmdb:Tok
 ztn:mg "SCORES" = some (.int 1 zmdb)
 zqmb:Tok
 zsdb:mg "GONE" = some (.int 2 zqmb)
 zaib:Tok
 zgs:mg "DECKS" = some (.int 3 zaib)
 zzhb:Tok
 zfs:mg "HANDS" = some (.int 4 zzhb)
 zyhb:Tok
 zvk:mg "LYING" = some (.int 5 zyhb)
 zpmb:Tok
 zbz:mg "HEAP" = some (.int 6 zpmb)
 zxhb:Tok
 zro:mg "MARKS" = some (.int 7 zxhb)
 zldb:Tok
 zrl:mg "WOUNDS" = some (.int 8 zldb)
theorem zxz (T:Tx K mg):Binds K T.zkf.d zws []:=T.zkf.F.binds λ_ _ _ _ _ _ us hl=>onl1 (λ_=>rfl) us hl
theorem zxbb (T:Tx K mg):Binds K T.zue.d ztm []:=T.zue.F.binds λ_ _ _ _ _ _ us hl=>onl1 (λ_=>rfl) us hl
theorem zqfb (T:Tx K mg):Binds K T.zag.d zzo []:=T.zag.F.binds λ_ _ _ _ _ _ us hl=>onl2 (λ_ _=>rfl) us hl
theorem zjk (T:Tx K mg):Binds K T.zjc.d zjh []:=T.zjc.F.binds λ_ _ _ _ _ _ us hl=>onl2 (λ_ _=>rfl) us hl
theorem zvg (T:Tx K mg):Binds K T.zpc.d zll []:=T.zpc.F.binds λ_ _ _ _ _ _ us hl=>onl1 (λ_=>rfl) us hl
theorem zjb (T:Tx K mg):Binds K T.zla.d zbf []:=T.zla.F.binds λ_ _ _ _ _ _ us hl=>onl2 (λ_ _=>rfl) us hl
theorem zke (T:Tx K mg):Binds K T.zrb.d zgg []:=T.zrb.F.binds λ_ _ _ _ _ _ us hl=>onl1 (λ_=>rfl) us hl
theorem zcc (T:Tx K mg):Binds K T.zab.d zcf []:=T.zab.F.binds λ_ _ _ _ _ _ us hl=>onl1 (λ_=>rfl) us hl
theorem zzl (T:Tx K mg):Binds K T.zuc.d zzi []:=T.zuc.F.binds λ_ _ _ _ _ _ us hl=>onl1 (λ_=>rfl) us hl
theorem zns (T:Tx K mg):Binds K T.zvc.d zai []:=T.zvc.F.binds λ_ _ _ _ _ _ us hl=>onl4 (λ_ _ _ _=>rfl) us hl
theorem zzh (T:Tx K mg):Binds K T.zzb.d znm []:=T.zzb.F.binds λ_ _ _ _ _ _ us hl=>onl1 (λ_=>rfl) us hl
theorem zuz (T:Tx K mg):Binds K T.zyd.d zfl []:=T.zyd.F.binds λ_ _ _ _ _ _ us hl=>onl2 (λ_ _=>rfl) us hl
theorem zjpb (T:Tx K mg):Binds K T.zam.d zfcb []:=T.zam.F.binds λ_ _ _ _ _ _ us hl=>onl1 (λ_=>rfl) us hl
theorem zos (T:Tx K mg):Binds K T.zwc.d zbi []:=T.zwc.F.binds λ_ _ _ _ _ _ us hl=>onl6 (λ_ _ _ _ _ _=>rfl) us hl
theorem zwbb (T:Tx K mg):Binds K T.zte.d zsm []:=T.zte.F.binds λ_ _ _ _ _ _ us hl=>onl1 (λ_=>rfl) us hl
theorem zwz (T:Tx K mg):Binds K T.zzd.d zgl []:=T.zzd.F.binds λ_ _ _ _ _ _ us hl=>onl1 (λ_=>rfl) us hl
theorem zvbb (T:Tx K mg):Binds K T.zse.d zrm []:=T.zse.F.binds λ_ _ _ _ _ _ us hl=>onl1 (λ_=>rfl) us hl
theorem zubb (T:Tx K mg):Binds K T.zre.d zpm []:=T.zre.F.binds λ_ _ _ _ _ _ us hl=>onl1 (λ_=>rfl) us hl
theorem zlm (T:Tx K mg):Binds K T.zac.d zaf []:=T.zac.F.binds λ_ _ _ _ _ _ us hl=>onl2 (λ_ _=>rfl) us hl
theorem ztbb (T:Tx K mg):Binds K T.zqe.d zom []:=T.zqe.F.binds λ_ _ _ _ _ _ us hl=>onl1 (λ_=>rfl) us hl
theorem zkt (T:Tx K mg):Binds K T.zdd.d zxi []:=T.zdd.F.binds λ_ _ _ _ _ _ us hl=>onl1 (λ_=>rfl) us hl
theorem zto (T:Tx K mg):Binds K T.zkc.d zdg []:=T.zkc.F.binds λ_ _ _ _ _ _ us hl=>onl2 (λ_ _=>rfl) us hl
theorem zofb (T:Tx K mg):Binds K T.zyf.d zwo []:=T.zyf.F.binds λ_ _ _ _ _ _ us hl=>onl1 (λ_=>rfl) us hl
theorem zms (T:Tx K mg):Binds K T.zkd.d zqm []:=T.zkd.F.binds λ_ _ _ _ _ _ us hl=>onl1 (λ_=>rfl) us hl
theorem zrw (T:Tx K mg):Binds K T.zld.d zzj []:=T.zld.F.binds λ_ _ _ _ _ _ us hl=>onl2 (λ_ _=>rfl) us hl
theorem zdeb (T:Tx K mg):Binds K T.zmh.d zxw []:=T.zmh.F.binds λ_ _ _ _ _ _ us hl=>onl2 (λ_ _=>rfl) us hl
theorem ztz (T:Tx K mg):Binds K T.zif.d zus []:=T.zif.F.binds λ_ _ _ _ _ _ us hl=>onl2 (λ_ _=>rfl) us hl
theorem zlj (T:Tx K mg):Binds K T.zlc.d zxo []:=T.zlc.F.binds λ_ _ _ _ _ _ us hl=>onl3 (λ_ _ _=>rfl) us hl
theorem zjd (T:Tx K mg):Binds K T.zgb.d zel []:=T.zgb.F.binds λ_ _ _ _ _ _ us hl=>onl4 (λ_ _ _ _=>rfl) us hl
theorem zmjb (T:Tx K mg):Binds K T.zph.d zxs []:=T.zph.F.binds λ_ _ _ _ _ _ us hl=>onl2 (λ_ _=>rfl) us hl
theorem zeeb (T:Tx K mg):Binds K T.znh.d zyw []:=T.znh.F.binds λ_ _ _ _ _ _ us hl=>onl3 (λ_ _ _=>rfl) us hl
theorem zao (T:Tx K mg):Binds K T.zgc.d ztf []:=T.zgc.F.binds λ_ _ _ _ _ _ us hl=>onl2 (λ_ _=>rfl) us hl
theorem zcq (T:Tx K mg):Binds K T.zqc.d zfh []:=T.zqc.F.binds λ_ _ _ _ _ _ us hl=>onl3 (λ_ _ _=>rfl) us hl
theorem zvz (T:Tx K mg):Binds K T.zjf.d zvs []:=T.zjf.F.binds λ_ _ _ _ _ _ us hl=>onl3 (λ_ _ _=>rfl) us hl
theorem zpfb (T:Tx K mg):Binds K T.zzf.d zyo []:=T.zzf.F.binds λ_ _ _ _ _ _ us hl=>onl3 (λ_ _ _=>rfl) us hl
theorem zybb (T:Tx K mg):Binds K T.zve.d zvm []:=T.zve.F.binds λ_ _ _ _ _ _ us hl=>onl2 (λ_ _=>rfl) us hl
theorem zra (T:Tx K mg):Binds K T.zea.d zum []:=T.zea.F.binds λ_ _ _ _ _ _ us hl=>onl2 (λ_ _=>rfl) us hl
theorem zaab (T:Tx K mg):Binds K T.zbe.d zjl []:=T.zbe.F.binds λ_ _ _ _ _ _ us hl=>onl1 (λ_=>rfl) us hl
theorem ztw (T:Tx K mg):Binds K T.znd.d zbk []:=T.znd.F.binds λ_ _ _ _ _ _ us hl=>onl1 (λ_=>rfl) us hl
theorem zug (T:Tx K mg):Binds K T.zib.d zef []:=T.zib.F.binds λ_ _ _ _ _ _ us hl=>onl1 (λ_=>rfl) us hl
theorem zvo (T:Tx K mg):Binds K T.znc.d zfg []:=T.znc.F.binds λ_ _ _ _ _ _ us hl=>onl1 (λ_=>rfl) us hl
theorem zuo (T:Tx K mg):Binds K T.zmc.d zeg []:=T.zmc.F.binds λ_ _ _ _ _ _ us hl=>onl1 (λ_=>rfl) us hl
theorem zzbb (T:Tx K mg):Binds K T.zwe.d zwm []:=T.zwe.F.binds λ_ _ _ _ _ _ us hl=>onl3 (λ_ _ _=>rfl) us hl
theorem zbab (T:Tx K mg):Binds K T.zce.d zkl []:=T.zce.F.binds λ_ _ _ _ _ _ us hl=>onl2 (λ_ _=>rfl) us hl
theorem zyz (T:Tx K mg):Binds K T.zae.d zil []:=T.zae.F.binds λ_ _ _ _ _ _ us hl=>onl5 (λ_ _ _ _ _=>rfl) us hl
theorem zdq (T:Tx K mg):Binds K T.zrc.d zgh []:=T.zrc.F.binds λ_ _ _ _ _ _ us hl=>onl4 (λ_ _ _ _=>rfl) us hl
theorem zsw (T:Tx K mg):Binds K T.zmd.d zak []:=T.zmd.F.binds λ_ _ _ _ _ _ us hl=>onl3 (λ_ _ _=>rfl) us hl
theorem zlt (T:Tx K mg):Binds K T.zed.d zyi []:=T.zed.F.binds λ_ _ _ _ _ _ us hl=>onl2 (λ_ _=>rfl) us hl
theorem zdl (T:Tx K mg):Binds K T.zpb.d zff []:=T.zpb.F.binds λ_ _ _ _ _ _ us hl=>onl2 (λ_ _=>rfl) us hl
theorem zeq (T:Tx K mg):Binds K T.zsc.d zih []:=T.zsc.F.binds λ_ _ _ _ _ _ us hl=>onl5 (λ_ _ _ _ _=>rfl) us hl
theorem ztq (T:Tx K mg)(kb:K.In base):ylr base T.zmm zat:=KTD.text_of_look (λb o q=>kb b o q) T.zyv
abbrev LL:Str:="abcdefghijklmnopqrstuvwxyz"
abbrev FF:Str:="0123456789"
def inS (c:Nat)(u:Str):Bool:=!(yid u ⟨#[c]⟩ 0 u.length 1).isEmpty
def allIn (t u:Str):Bool:=(t.cps.toList.map λc=>inS c u).all id
def zeu (t:Str):Bool:=decide (V.str t=V.str "0")||(!decide (V.str ⟨#[t.cps.getD 0 0]⟩=V.str "0"))
def short (t:Str)(n:Int):Bool:=decide ((1:Int)≤((t.length:Nat):Int))&&decide (((t.length:Nat):Int)≤n)
def isName (t:Str):Bool:=short t 8&&allIn t LL
def isWhole (t:Str)(n:Int):Bool:=short t n&&(allIn t FF&&zeu t)
def isNumber (t:Str):Bool:=isWhole t 3
theorem small {n:Nat}(h:n≤1000):n≤yza:=yge (zle h)
theorem zjfb {t:Str}(h:(1:Int)≤((t.length:Nat):Int)):atI t.cps.toList 0=some (t.cps.getD 0 0):=by
 have hl:0<t.cps.size:=by
  have e:t.length=t.cps.size:=rfl;omega
 have e:t.cps.toList[0]?=some (t.cps.getD 0 0):=by
  rw[ydb,yoc,ynb hl];rfl
 exact zsa (j:=0) e
theorem zojb {α:Type}{xs:List α}{i:Int}(h0:0≤i)(h:i<(xs.length:Int)):∃v,atI xs i=some v∧v∈xs:=by
 have hk:i.toNat<xs.length:=by omega
 have e:xs[i.toNat]?=some xs[i.toNat]:=ylb hk;have q:=zsa e;rw[show ((i.toNat:Nat):Int)=i by omega] at q;exact⟨_,q,ypa e⟩
theorem znjb {ns:List Int}{i:Int}(h0:0≤i)(h:i<(ns.length:Int)):∃z,atI (ns.map V.int) i=some (.int z):=by
 obtain⟨v,hv,hm⟩:=zojb (xs:=ns.map V.int) h0 (by rw[yaa];exact h);obtain⟨z,_,rfl⟩:=yac.mp hm;exact⟨z,hv⟩
def But (p:Addr)(H H':Hp):Prop:=∀b o,b≠p->H b=some o->H' b=some o
theorem But.refl (p:Addr)(H:Hp):But p H H:=λ_ _ _ h=>h
theorem But.trans {p:Addr}{H H1 H2:Hp}(a:But p H H1)(b:But p H1 H2):But p H H2:=λc o n h=>b c o n (a c o n h)
theorem But.laid {p q:Addr}{H:Hp}{o:HO}(h:H q=none):But p H (upd H q o):=λb u n e=>by rw[zlb (zka e h)];exact e
theorem But.put {p:Addr}{H:Hp}{o:HO}:But p H (upd H p o):=λb u n e=>by rw[zlb n];exact e
theorem But.same {p:Addr}{H H':Hp}(h:Same H H'):But p H H':=λb o _ e=>h b o e
theorem zcb {H:Hp}{p:Addr}(h:H p=none)(o:HO):Same H (upd H p o):=λb u q=>by rw[zlb (zka q h)];exact q
def SqF (K:yda)(H:Hp)(a:Addr)(xs:List V):Prop :=
 (∃o,H a=some (.frz o (.lst xs)))∨Ex3 λ(o:Obj) (its:Array Value) (n:Nat)=>K.lookup a=some o∧o.cls = .type "list" ∧ o.dict=none∧o.data = .seq its n∧its.size≤yza∧Vals xs its.toList
theorem SqF.sq {K:yda}{H:Hp}{a:Addr}{xs:List V}(h:SqF K H a xs):SqL K H a xs:=by
 rcases h with⟨o,h⟩|h
 ·exact .inl (.inr ⟨o,h⟩)
 ·exact .inr h
theorem SqF.of {K:yda}{H:Hp}{a:Addr}{xs:List V}(O:Only H)(h:SqL K H a xs):SqF K H a xs:=by
 rcases h with (h|⟨o,h⟩)|h
 ·rcases O a with z|⟨o,ys,z⟩
  ·rw[z] at h;cases h
  ·rw[z] at h;cases h
 ·exact .inl ⟨o,h⟩
 ·exact .inr h
theorem SqF.keep {K:yda}{H H':Hp}{a:Addr}{xs:List V}(h:SqF K H a xs)(k:∀o u,H a=some (.frz o u)->H' a=some (.frz o u)):SqF K H' a xs:=by
 rcases h with⟨o,h⟩|h
 ·exact .inl ⟨o,k _ _ h⟩
 ·exact .inr h
structure Tk (K:yda)(H:Hp)(p:Addr)(k:Int):Prop where
 ex:Ex2 λa (ns:List Int)=>H p=some (.lst [.ref a,.int k])∧SqF K H a (ns.map V.int)∧ns.length≤63
 lo:0≤k
theorem Tk.ne {K:yda}{H:Hp}{p q:Addr}{k:Int}(T:Tk K H p k)(h:H q=none):p≠q:=by
 obtain⟨⟨a,ns,h1,_⟩,_⟩:=T;exact zka h1 h
theorem Tk.same {K:yda}{H H':Hp}{p:Addr}{k:Int}(T:Tk K H p k)(h:Same H H'):Tk K H' p k:=by
 obtain⟨⟨a,ns,h1,h2,h3⟩,lo⟩:=T;exact⟨⟨a,ns,h p _ h1,h2.keep λo u z=>h _ _ z,h3⟩,lo⟩
theorem Tk.other {K:yda}{H:Hp}{p q:Addr}{k:Int}{us vs:List V}(T:Tk K H p k)(hq:H q=some (.lst us))(n:p≠q):Tk K (upd H q (.lst vs)) p k:=by
 obtain⟨⟨a,ns,h1,h2,h3⟩,lo⟩:=T;exact⟨⟨a,ns,by rw[zlb n];exact h1,h2.keep λo u z=>by rw[zlb (zpn z hq (by intro y;cases y))];exact z,h3⟩,lo⟩
theorem Tk.begin {K:yda}{H:Hp}{p a:Addr}{ns:List Int}(hp:H p=none)(hS:SqF K H a (ns.map V.int))(h63:ns.length≤63):Tk K (upd H p (.lst [.ref a,.int 0])) p 0 :=
 ⟨⟨a,ns,zia,hS.keep λo u z=>by rw[zlb (zka z hp)];exact z,h63⟩,Int.le_refl 0⟩
def zfqb (K:yda):Sp:=λvs H Q _=>Ex3 λp (k m:Int)=>vs=[.ref p,.int m]∧Tk K H p k∧k≤1000000∧0<m∧∀(r:Int) H',0≤r->r<m->But p H H'->Tk K H' p (k+1)->Q (.int r) H'
def ziqb:Sp:=λvs H Q _=>∃t:Str,vs=[.str t]∧t.length≤1000∧∀H',Same H H'->Q (.bl (isName t)) H'
def zckb:Sp:=λvs H Q _=>∃t:Str,vs=[.str t]∧t.length≤1000∧∀H',Same H H'->Q (.bl (isNumber t)) H'
def znnb:Sp:=λvs H Q _=>Ex2 λ(t:Str) (n:Int)=>vs=[.str t,.int n]∧t.length≤1000∧∀H',Same H H'->Q (.bl (isWhole t n)) H'
def zdkb (K:yda):Sp:=λvs H Q _=>Ex2 λa (ns:List Int)=>vs=[.ref a]∧SqF K H a (ns.map V.int)∧ns.length≤63∧∀H',Q (.bl true) H'
abbrev zrqb:R2:=λx y H Q=>Ex2 λi j=>x = .str i∧y = .str j∧Q (.bl (!(yid j i 0 j.length 1).isEmpty)) H
theorem zou {t L:Str}{σ:L2.St}{H:Hp}{Q:VK}(hz:t.length≤yza)(q:∀p,H p=none->Q (.ref p) (upd H p (.lst ((t.cps.toList.map λc=>inS c L).map V.bl)))) :
  zscb (Its t) H (zulb 0) zvpb (tOp zrqb (tVar 0) (tC (.str L))) 1 [] σ Q:=by
 refine zzlb (λi ys H'=>H'=H∧i≤t.cps.size∧ys=((t.cps.toList.take i).map λc=>inS c L).map V.bl) ⟨rfl,ytb _,rfl⟩ ?_ ?_ ?_
 ·rintro i ys H' ⟨_,hi,rfl⟩;rw[yaa,yaa,ycb];have e:t.length=t.cps.toList.length:=by simp[yvr]
  omega
 ·rintro i c ys H' hc ⟨rfl,hi,rfl⟩;refine⟨rfl,_,rfl,_,_,rfl,rfl,rfl,?_,?_⟩
  ·have hlt:i<t.cps.size:=(Array.getElem?_eq_some_iff.mp hc).1;exact hlt
  ·have e:t.cps.toList[i]?=some c:=by simpa using hc
   rw[yfb,e,yua,yua];rfl
 ·rintro ys H' ⟨rfl,_,rfl⟩ p hp;have q':=q p hp;rw[yta (by simp)];exact q'
section
variable {P:yvb}{w:World}{K:yda}{mg:Str->Option Value}{base:Heap}{f:Addr}{fd:yxf}
theorem zdu (T:Tx K mg):FnOk P w K mg base CX0 2 T.zkf.f T.zkf.d zws ziqb:=by
 refine T.zkf.ok zweb ?_;rintro f c A o s H vs Q E hr ⟨t,rfl,hz,q⟩ X;have hz':=small hz;refine⟨_,  (zda (zua (zxx (zxkb zykb zykb zfa (zva zcl rfl T.zyg yyb (zaa (pv 0) zba)) zfa) (zzt (zva (zqw rfl) rfl T.zgeb boot_all (zaa (zud (own:=["sign"]) (cap:=[]) rfl (znb.chk rfl rfl) .nil (zkmb (pv 0)) (λ_ _ _ _=>(zkb (i:=0) (show ylc (["sign"]:List Str) by decide +kernel) rfl (.inl rfl))) (λ_ _ _ _=>zzc) (λ_ _ _ _=>by exact (zdh zby (pv 0) (zsb (v:=.str zss) rfl T.zvn ⟨_,rfl⟩) rfl))) zba)))))),?_⟩;refine⟨_,rfl,t,rfl,hz',_,_,rfl,rfl,_,rfl,?_⟩;refine ite2 (λc1=>?_) (λc1=>?_)
 ·refine⟨_,_,rfl,rfl,_,rfl,?_⟩;refine ite2 (λc2=>?_) (λc2=>?_)
  ·refine⟨_,rfl,t,rfl,?_⟩;refine zou hz' λp hp=>?_;refine⟨p,_,rfl,SqL.of zia,?_⟩;have q':=q (upd H p (.lst ((t.cps.toList.map λc=>inS c LL).map V.bl))) (zcb hp _);have e:isName t=allIn t LL:=by
    unfold isName short;rw[c1,c2,yvh,yvh]
   rw[e] at q';exact q'
  ·have q':=q H (Same.refl H);have e:isName t=false:=by
    unfold isName short;rw[yxg.mpr c2,yrl,ygg]
   rw[e] at q';exact q'
 ·refine⟨_,rfl,iteF ?_⟩;have q':=q H (Same.refl H);have e:isName t=false:=by
   unfold isName short;rw[yxg.mpr c1,ygg,ygg]
  rw[e] at q';exact q'
theorem zebb (T:Tx K mg):FnOk P w K mg base CX0 1 T.zag.f T.zag.d zzo znnb:=by
 refine T.zag.ok zwab ?_;rintro f c A o s H vs Q E hr ⟨t,n,rfl,hz,q⟩ X;have hz':=small hz;refine⟨_,  (zca (zub (PW.pt (zxab (zgk (zqkb zykb zykb zfa (zva zcl rfl T.zyg yyb (zaa (pv 0) zba)) (pv 1))) (zmr (zgk (zof (zva (zqw rfl) rfl T.zgeb boot_all (zaa (zud (own:=["sign"]) (cap:=[]) rfl (znb.chk rfl rfl) .nil (zkmb (pv 0)) (λ_ _ _ _=>(zkb (i:=0) (show ylc (["sign"]:List Str) by decide +kernel) rfl (.inl rfl))) (λ_ _ _ _=>zzc) (λ_ _ _ _=>by exact (zdh zby (pv 0) (zsb (v:=.str zts) rfl T.zwn ⟨_,rfl⟩) rfl))) zba)))))))
   (zda (zua zwx))
   zqa)
  (zda (zua (zvqb (zdh zad (pv 0) zoa (zeb _)) (zzt (zdh zjhb (zya zodb (pv 0) zfa (λ_ _=>rfl)) zoa (zeb _))))))),?_⟩
 refine⟨_,rfl,t,rfl,hz',_,_,rfl,rfl,_,rfl,?_⟩;refine ite2 (λc1=>?_) (λc1=>?_)
 ·refine⟨_,rfl,_,_,rfl,rfl,_,rfl,?_⟩;refine ite2 (λc2=>?_) (λc2=>?_)
  ·refine iteT ?_;have q':=q H (Same.refl H);have c2':decide (((t.length:Nat):Int)≤n)=false:=(by simpa using c2);have e:isWhole t n=false:=by
    unfold isWhole short;rw[c2',yrl,ygg]
   rw[e] at q';exact q'
  ·have c2':decide (((t.length:Nat):Int)≤n)=true:=by simpa using c2
   refine⟨_,rfl,t,rfl,?_⟩;refine zou hz' λp hp=>?_;refine⟨p,_,rfl,SqL.of zia,_,rfl,?_⟩;have S1:=zcb hp (.lst ((t.cps.toList.map λc=>inS c FF).map V.bl));have q':=q _ S1;have e0:isWhole t n=(allIn t FF&&zeu t):=by
    unfold isWhole short;rw[c1,c2',yvh,yvh]
   rw[e0] at q';refine ite2 (λc3=>?_) (λc3=>?_)
   ·have c3':allIn t FF=false:=by simpa [allIn] using c3
    rw[c3',ygg] at q';exact q'
   ·have c3':allIn t FF=true:=by simpa [allIn] using c3
    rw[c3',yvh] at q';refine⟨_,rfl,rfl,_,rfl,?_⟩;refine ite2 (λc4=>?_) (λc4=>?_)
    ·have e:zeu t=true:=by
      unfold zeu;rw[c4,ypo]
     rw[e] at q';exact q'
    ·refine⟨_,rfl,t,_,_,rfl,rfl,hz',zjfb (of_decide_eq_true c1),rfl,?_⟩;have e:zeu t=(!decide (V.str ⟨#[t.cps.getD 0 0]⟩=V.str "0")):=by
      unfold zeu;rw[yxg.mpr c4,yxp]
     rw[e] at q';exact q'
 ·refine⟨_,rfl,iteT (iteT ?_)⟩;have q':=q H (Same.refl H);have e:isWhole t n=false:=by
   unfold isWhole short;rw[yxg.mpr c1,ygg,ygg]
  rw[e] at q';exact q'
theorem zjy (T:Tx K mg):FnOk P w K mg base CX0 2 T.zue.f T.zue.d ztm zckb:=by
 refine T.zue.ok zmx ?_;rintro f c A o s H vs Q E hr ⟨t,rfl,hz,q⟩ X;refine⟨_,  (zda (zua (zga (zebb T) hr rfl T.zag.m T.zag.F.kp (zqfb T) .nil zpa (zaa (pv 0) (zaa zfa zba))))),?_⟩;exact⟨_,rfl,t,3,rfl,hz,q⟩
end
section
seal PySem.wpAny
theorem zesb:∀c:Nat,c<123->97≤c->inS c LL=true:=by decide +kernel
theorem zwr {n:Str}(h:zje n):isName n=true:=by
 unfold isName short allIn;obtain⟨h1,h2,h3⟩:=h;rw[decide_eq_true (by omega),decide_eq_true (by omega),yvh,yvh,ybg];intro b hb;obtain⟨c,hc,rfl⟩:=yac.mp hb;exact zesb c (by have:=h3 c hc;omega) (h3 c hc).1
theorem zoy:∀i:Nat,i<1000->isNumber (toString (i:Int):Str)=true:=by decide +kernel
theorem zpob:∀i:Nat,i<1000->PySem.intText? (toString (i:Int):Str)=some (i:Int):=by decide +kernel
theorem zuv {f:Str}{v:V}{r:List (Str×V)}:yqe f ((f,v)::r)=some v:=by rw[yef,beq_self_eq_true]
theorem zkj {f g:Str}{v:V}{r:List (Str×V)}(h:¬ f=g):yqe f ((g,v)::r)=yqe f r:=by
 have e:(f==g)=false:=by simpa using h
 rw[yef,e]
theorem zgo {f:Str}{v:V}:putF f v []=[(f,v)]:=rfl
theorem zeob {f:Str}{v u:V}{r:List (Str×V)}:putF f v ((f,u)::r)=(f,v)::r:=by
 show (if f=f then (f,v)::r else (f,u)::putF f v r)=_
 rw[if_pos rfl]
theorem ztj {f g:Str}{v u:V}{r:List (Str×V)}(h:¬ g=f):putF f v ((g,u)::r)=(g,u)::putF f v r:=by
 show (if g=f then (g,v)::r else (g,u)::putF f v r)=_
 rw[if_neg h]
def wfs (l:Addr)(k:Int):List (Str×V):=[("words",.ref l),("place",.int k)]
theorem zfrb:¬ (("words":Str) = "place"):=by decide +kernel
theorem zotb:¬ (("place":Str) = "words"):=by decide +kernel
theorem zqq (l:Addr)(k:Int):(wfs l k).lookup ("words":Str)=some (.ref l):=zuv
theorem zan (l:Addr)(k:Int):(wfs l k).lookup ("place":Str)=some (.int k):=(zkj zotb).trans zuv
theorem zenb (l:Addr)(k j:Int):putF "place" (.int j) (wfs l k)=wfs l j:=(ztj zfrb).trans (congrArg _ zeob)
theorem zxjb (l:Addr)(j:Int):putF "place" (.int j) (putF "words" (.ref l) [])=wfs l j:=(ztj zfrb).trans rfl
theorem zfc (l:Addr)(k:Int){m:Str}(h1:¬ m = "words")(h2:¬ m = "place"):(wfs l k).lookup m=none:=(zkj h1).trans ((zkj h2).trans rfl)
def WAt (C:Addr)(H:Hp)(p:Addr)(ws:List Str)(k:Nat):Prop:=Ex2 λdx l=>H p=some (.ins C dx (wfs l (k:Int)))∧H l=some (.lst (ws.map V.str))
theorem WAt.at {C:Addr}{H H':Hp}{p:Addr}{ws:List Str}{k:Nat}(h:WAt C H p ws k)(s:Same H H'):WAt C H' p ws k:=by
 obtain⟨dx,l,h1,h2⟩:=h;exact⟨dx,l,s _ _ h1,s _ _ h2⟩
theorem WAt.go {C:Addr}{H:Hp}{p dx l:Addr}{ws:List Str}{k j:Nat}(h1:H p=some (.ins C dx (wfs l (k:Int))))(h2:H l=some (.lst (ws.map V.str))):WAt C (upd H p (.ins C dx (wfs l (j:Int)))) p ws j:=by
 have n:l≠p:=zpn h2 h1 (by intro z;cases z);exact⟨dx,l,zia,by rw[zlb n];exact h2⟩
theorem But.of_same {p:Addr}{H H1 H2:Hp}(a:But p H H1)(b:Same H1 H2):But p H H2:=a.trans (But.same b)
theorem zrsb {ws:List Str}{k:Nat}{u:Str}(h:ws[k]?=some u):atI (ws.map V.str) (k:Int)=some (.str u):=zsa (by rw[yna,h];rfl)
def zmnb (C:Addr):Sp:=λvs H Q _=>Ex3 λp dx (t:Str)=>vs=[.ref p,.str t]∧H p=some (.ins C dx [])∧t.length≤1000∧∀H',WAt C H' p (ytf t " ") 0->But p H H'->Q .non H'
def zonb (C:Addr):Sp:=λvs H Q _=>Ex4 λp (ws:List Str) (k:Nat) (u:Str)=>vs=[.ref p]∧WAt C H p ws k∧ws[k]?=some u∧∀H',WAt C H' p ws (k+1)->But p H H'->Q (.str u) H'
def zpnb (C:Addr):Sp:=λvs H Q _=>Ex4 λp (ws:List Str) (k:Nat) (u:Str)=>vs=[.ref p]∧WAt C H p ws k∧ws[k]?=some u∧zje u∧∀H',WAt C H' p ws (k+1)->But p H H'->Q (.str u) H'
def zjgb (C:Addr):Sp:=λvs H Q _=>Ex4 λp (ws:List Str) (k i:Nat)=>vs=[.ref p]∧WAt C H p ws k∧ws[k]?=some (toString (i:Int):Str)∧i<1000∧∀H',WAt C H' p ws (k+1)->But p H H'->Q (.int i) H'
def zkgb (C:Addr):Sp:=λvs H Q _=>Ex2 λp (ws:List Str)=>vs=[.ref p]∧WAt C H p ws ws.length∧Q .non H
theorem zedb (T:Tx K mg):FnOk P w K mg base CX0 2 T.zjc.f T.zjc.d zjh (zmnb T.zqb):=by
 refine T.zjc.ok zeo ?_;rintro f c A o s H vs Q E hr ⟨p,dx,t,rfl,hp,ht,q⟩ X;refine⟨_,  (zca (zxl (pv 0) (zdi ygc ycj ydj ztv (pv 1) (zaa zoa zba)) rfl)
  (zda (zxl (pv 0) zfa rfl))),?_⟩
 refine⟨_,rfl,rfl,t,_,rfl,rfl,(by decide +kernel),(ykb (ydk ht 2) (by decide)),λl hl=>?_⟩;have npl:p≠l:=zka hp hl;refine⟨_,rfl,p,_,dx,_,rfl,(by rw[zlb npl];exact hp),T.zfb,T.zpd,(by show 0<1000;decide),?_⟩;refine⟨_,rfl,p,_,dx,_,rfl,zia,T.zfb,T.zcd,(by show 1<1000;decide),?_⟩;refine q _ ⟨dx,l,?_,?_⟩ ?_
 ·rw[zia,zxjb];rfl
 ·rw[zlb npl.symm,zlb npl.symm,zia]
 ·exact (But.laid hl).trans (But.put.trans But.put)
theorem zqf (T:Tx K mg):FnOk P w K mg base CX0 2 T.zpc.f T.zpc.d zll (zonb T.zqb):=by
 refine T.zpc.ok zjv ?_;rintro f c A o s H vs Q E hr ⟨p,ws,k,u,rfl,⟨dx,l,h1,h2⟩,hu,q⟩ X;refine⟨_,  (zca (zub (zma zad (zsr (pv 0) rfl) (zva zmb rfl T.zyg yyb (zaa (zsr (pv 0) rfl) zba)) (zeb _))
   (zda zpf)
   zqa)
  (zca (zbhb (pv 0) zfa zdsb)
  (zda (zua (zya zwa (zsr (pv 0) rfl) (zic zyl (zsr (pv 0) rfl) zfa) (λ_ _=>rfl)))))),?_⟩
 have hk:k<ws.length:=(yha.mp hu).1;have n:l≠p:=zpn h2 h1 (by intro z;cases z);refine⟨_,rfl,p,_,dx,_,_,rfl,h1,T.zfb,T.zcd,zan _ _,_,rfl,p,_,dx,_,_,rfl,h1,T.zfb,T.zpd,zqq _ _,l,_,rfl,.inl (SqL.of h2),rfl,_,rfl,?_⟩;refine ite2 (λc=>?_) (λc=>?_)
 ·exfalso;have c':=of_decide_eq_true c;injection c' with c'
  rw[yaa] at c';omega
 ·refine⟨_,rfl,p,_,dx,_,_,rfl,h1,T.zfb,T.zcd,zan _ _,_,_,rfl,rfl,dx,_,h1,(by show 2<1000;decide),?_⟩;rw[zenb];refine⟨_,rfl,p,_,dx,_,_,rfl,zia,T.zfb,T.zpd,zqq _ _,_,rfl,p,_,dx,_,_,rfl,zia,T.zfb,T.zcd,zan _ _,_,_,rfl,rfl,l,_,_,_,rfl,rfl,SqL.of (by rw[zlb n];exact h2),(by rw[Int.add_sub_cancel];exact zrsb hu),?_⟩;exact q _ (WAt.go (j:=k+1) h1 h2) But.put
theorem ztk (T:Tx K mg):FnOk P w K mg base CX0 2 T.zuc.f T.zuc.d zzi (zkgb T.zqb):=by
 refine T.zuc.ok zyq ?_;rintro f c A o s H vs Q E hr ⟨p,ws,rfl,⟨dx,l,h1,h2⟩,q⟩ X;refine⟨_,  (zda (zub (zma zafb (zsr (pv 0) rfl) (zva zmb rfl T.zyg yyb (zaa (zsr (pv 0) rfl) zba)) (zeb _))
   (zda zpf)
   zqa)),?_⟩
 refine⟨_,rfl,p,_,dx,_,_,rfl,h1,T.zfb,T.zcd,zan _ _,_,rfl,p,_,dx,_,_,rfl,h1,T.zfb,T.zpd,zqq _ _,l,_,rfl,.inl (SqL.of h2),_,_,rfl,rfl,_,rfl,?_⟩;refine ite2 (λc=>?_) (λc=>?_)
 ·exfalso;have c':=of_decide_eq_true c;rw[yaa] at c';omega
 ·exact q
theorem zwd (T:Tx K mg):FnOk P w K mg base CX0 3 T.zrb.f T.zrb.d zgg (zpnb T.zqb):=by
 refine T.zrb.ok zji ?_;rintro f c A o s H vs Q E hr ⟨p,ws,k,u,rfl,W,hu,hn,q⟩ X;refine⟨_,  (zca (zta (i:=1) zji.nd rfl (.inl rfl) (zxc (pv 0) T.zfb T.zpc.M (zqf T) hr (zvg T) .nil zpa))
  (zca (zub (zgk (zof (zga (zdu T) hr rfl T.zkf.m T.zkf.F.kp (zxz T) .nil zpa (zaa (pv 1) zba))))
   (zda zpf)
   zqa)
  (zda (zua (pv 1))))),?_⟩
 obtain⟨dx,l,h1,h2⟩:=id W;refine⟨_,rfl,p,dx,_,rfl,h1,zfc _ _ (by decide +kernel) (by decide +kernel),p,ws,k,u,rfl,W,hu,λH1 W1 B1=>?_⟩;refine⟨_,rfl,u,rfl,(ykb hn.2.1 (by decide)),λH2 S2=>?_⟩;rw[zwr hn];refine⟨_,rfl,iteF ?_⟩;exact⟨_,rfl,q H2 (W1.at S2) (B1.of_same S2)⟩
theorem zxb (T:Tx K mg):FnOk P w K mg base CX0 3 T.zab.f T.zab.d zcf (zjgb T.zqb):=by
 refine T.zab.ok zlh ?_;rintro f c A o s H vs Q E hr ⟨p,ws,k,i,rfl,W,hu,hi,q⟩ X;refine⟨_,  (zca (zta (i:=1) zlh.nd rfl (.inl rfl) (zxc (pv 0) T.zfb T.zpc.M (zqf T) hr (zvg T) .nil zpa))
  (zca (zub (zgk (zof (zga (zjy T) hr rfl T.zue.m T.zue.F.kp (zxbb T) .nil zpa (zaa (pv 1) zba))))
   (zda zpf)
   zqa)
  (zda (zua (zza zpw rfl T.zfeb boot_int (zaa (pv 1) zba)))))),?_⟩
 obtain⟨dx,l,h1,h2⟩:=id W;refine⟨_,rfl,p,dx,_,rfl,h1,zfc _ _ (by decide +kernel) (by decide +kernel),p,ws,k,_,rfl,W,hu,λH1 W1 B1=>?_⟩;have hl:=zmo i hi;refine⟨_,rfl,_,rfl,(by omega),λH2 S2=>?_⟩;rw[zoy i hi];refine⟨_,rfl,iteF ?_⟩;exact⟨_,rfl,_,_,rfl,zpob i hi,(by omega),q H2 (W1.at S2) (B1.of_same S2)⟩
def valV:Wv->V
 | .non=>.non
 | .name n=>.str n
 | .num i=>.int i
def hfs (w:Str)(v:V)(t:Addr):List (Str×V):=[("word",.str w),("value",v),("parts",.ref t)]
theorem zdrb:¬ (("word":Str) = "value"):=by decide +kernel
theorem zerb:¬ (("word":Str) = "parts"):=by decide +kernel
theorem zgrb:¬ (("value":Str) = "parts"):=by decide +kernel
theorem zrlb (w:Str)(v:V)(t:Addr):putF "parts" (.ref t) (putF "value" v (putF "word" (.str w) []))=hfs w v t:=by
 rw[zgo,ztj zdrb,zgo,ztj zerb,ztj zgrb,zgo];rfl
theorem zsob {C D dx dy t l:Addr}{w:Str}{v:V}{k:Int}:HO.ins D dx (hfs w v t)≠HO.ins C dy (wfs l k):=by
 intro z;injection z with _ _ z
 exact absurd (congrArg ybh z) (by show ¬ (3=2);decide)
mutual
inductive IsW (D:Addr)(H:Hp):V->Wh->Prop where
 | mk {a dx t:Addr} {vs:List V} {w:Wh} (h1:H a=some (.ins D dx (hfs w.word (valV w.val) t))) (h2:H t=some (.tup vs)) (h3:IsWs D H vs w.parts):IsW D H (.ref a) w
inductive IsWs (D:Addr)(H:Hp):List V->List Wh->Prop where
 | nil:IsWs D H [] []
 | cons {v:V} {w:Wh} {vs:List V} {ws:List Wh}:IsW D H v w->IsWs D H vs ws->IsWs D H (v::vs) (w::ws)
end
mutual
theorem IsW.same {D:Addr}{H H':Hp}(s:Same H H'):∀{v:V} {w:Wh},IsW D H v w->IsW D H' v w
 | _,_,.mk h1 h2 h3=>.mk (s _ _ h1) (s _ _ h2) (h3.same s)
theorem IsWs.same {D:Addr}{H H':Hp}(s:Same H H'):∀{vs:List V} {ws:List Wh},IsWs D H vs ws->IsWs D H' vs ws
 | _,_,.nil=>.nil
 | _,_,.cons h t=>.cons (h.same s) (t.same s)
end
mutual
theorem IsW.but {D C p dy l:Addr}{k:Int}{H H':Hp}(b:But p H H')(hp:H p=some (.ins C dy (wfs l k))):∀{v:V} {w:Wh},IsW D H v w->IsW D H' v w
 | _,_,.mk h1 h2 h3=>.mk (b _ _ (zpn h1 hp zsob) h1) (b _ _ (zpn h2 hp (by intro z;cases z)) h2) (h3.but b hp)
theorem IsWs.but {D C p dy l:Addr}{k:Int}{H H':Hp}(b:But p H H')(hp:H p=some (.ins C dy (wfs l k))):∀{vs:List V} {ws:List Wh},IsWs D H vs ws->IsWs D H' vs ws
 | _,_,.nil=>.nil
 | _,_,.cons h t=>.cons (h.but b hp) (t.but b hp)
end
theorem IsWs.length {D:Addr}{H:Hp}:∀{vs:List V} {ws:List Wh},IsWs D H vs ws->vs.length=ws.length
 | _,_,.nil=>rfl
 | _,_,.cons _ t=>by rw[yka,yka,t.length]
theorem IsWs.split {D:Addr}{H:Hp}:∀{xs:List Wh} {vs:List V} {ys:List Wh},IsWs D H vs (xs++ys)->IsWs D H (vs.take xs.length) xs∧IsWs D H (vs.drop xs.length) ys
 | [],vs,ys,h=>⟨by rw[ywg,yyo];exact .nil,by rw[ywg,yqj];exact h⟩
 | x::xs,_,ys,.cons h t=>by
  obtain⟨a,b⟩:=IsWs.split (xs:=xs) t;exact⟨.cons h a,b⟩
theorem zjs (xs:List V)(n:Nat):cutV xs none (some (n:Int))=xs.take n:=by
 unfold cutV;rw[HT.zadb,HT.zkr,yqj,yqo]
 by_cases h:n≤xs.length
 ·rw[yyk h]
 ·rw[yak (by omega),yta (yja _),yta (by omega)]
theorem zyk (xs:List V)(n:Nat):cutV xs (some (n:Int)) none=xs.drop n:=by
 unfold cutV;rw[HT.zadb,HT.zkr]
 by_cases h:n≤xs.length
 ·rw[yyk h,yta (by rw[yjd];exact yja _)]
 ·rw[yak (by omega),yli,yyo,List.drop_eq_nil_of_le (by omega)]
theorem zvu {w:Wh}(h:w.ok)(hs:w.size≤9):(ywa " " w.words).length≤200:=by
 have a:=zxj " " w.words;have b:=w.zcx;have c:=zdn (l:=w.words.map (·.length)) (k:=8) (λx hx=>by
  obtain⟨u,hu,rfl⟩:=yac.mp hx;exact (Wh.zwjb h u hu).2.2)
 rw[yaa] at c;have e:(" ":Str).length=1:=rfl;rw[e] at a;omega
theorem zzr:∀i:Nat,i<1000->i.log2<1920:=by decide +kernel
theorem zddb (w:Wh):ybp w.word zat=some (.flat (.int (w.parts.length:Nat))):=by
 cases w<;>rfl
theorem zkob (w:Wh):KTD.inKeys w.word zat=true:=by
 cases w<;>rfl
def zcqb (D:Addr):Sp:=λvs H Q _=>Ex5 λx dx t (u:Str) v=>vs=[.ref x,.str u,v,.ref t]∧H x=some (.ins D dx [])∧Q .non (upd H x (.ins D dx (hfs u v t)))
theorem zmob (T:Tx K mg):FnOk P w K mg base CX0 2 T.zvc.f T.zvc.d zai (zcqb T.zgd):=by
 refine T.zvc.ok zyp ?_;rintro f c A o s H vs Q E hr ⟨x,dx,t,u,v,rfl,hx,q⟩ X;refine⟨_,  (zca (zxl (pv 0) (pv 1) rfl)
  (zca (zxl (pv 0) (pv 2) rfl)
  (zda (zxl (pv 0) (pv 3) rfl)))),?_⟩
 refine⟨_,rfl,_,rfl,x,_,dx,_,rfl,hx,T.zmw,T.zuj,(by show 0<1000;decide),?_⟩;refine⟨_,rfl,_,rfl,x,_,dx,_,rfl,zia,T.zmw,T.zli,(by show 1<1000;decide),?_⟩;refine⟨_,rfl,_,rfl,x,_,dx,_,rfl,zia,T.zmw,T.zmi,(by rw[zgo,ztj zdrb,zgo];show 2<1000;decide),?_⟩;show Q .non _
 rw[zmk,zmk,zrlb];exact q
def TkAt (H:Hp)(l:Addr)(fl:List (Str×Wv)):Prop:=∃as:List Addr,H l=some (.lst (as.map V.ref))∧as.length=fl.length∧∀(i:Nat) a (x:Str×Wv),as[i]?=some a->fl[i]?=some x->H a=some (.tup [.str x.1,valV x.2])
theorem TkAt.same {H H':Hp}{l:Addr}{fl:List (Str×Wv)}(h:TkAt H l fl)(s:Same H H'):TkAt H' l fl:=by
 obtain⟨as,h1,h2,h3⟩:=h;exact⟨as,s _ _ h1,h2,λi a x e1 e2=>s _ _ (h3 i a x e1 e2)⟩
theorem TkAt.but {H H':Hp}{l p C dy wl:Addr}{k:Int}{fl:List (Str×Wv)}(h:TkAt H l fl)(b:But p H H')(hp:H p=some (.ins C dy (wfs wl k))):TkAt H' l fl:=by
 obtain⟨as,h1,h2,h3⟩:=h;exact⟨as,b _ _ (zpn h1 hp (by intro z;cases z)) h1,h2,λi a x e1 e2=>b _ _ (zpn (h3 i a x e1 e2) hp (by intro z;cases z)) (h3 i a x e1 e2)⟩
theorem TkAt.snoc {H:Hp}{l a:Addr}{fl:List (Str×Wv)}{x:Str×Wv}(h:TkAt H l fl)(ha:H a=some (.tup [.str x.1,valV x.2])){as:List Addr}(hl:H l=some (.lst (as.map V.ref))):TkAt (upd H l (.lst (as.map V.ref++[.ref a]))) l (fl++[x]):=by
 obtain⟨as',h1,h2,h3⟩:=h;have e:as'=as:=by
  rw[h1] at hl;injection hl with hl
  injection hl with hl
  exact List.map_inj_right (λx y z=>by injection z) |>.mp hl
 subst e;refine⟨as'++[a],?_,?_,λi b y e1 e2=>?_⟩
 ·rw[zia,yua];rfl
 ·rw[yfa,yfa,h2];rfl
 ·by_cases hi:i<as'.length
  ·rw[ywb hi] at e1;rw[ywb (by omega)] at e2;have z:=h3 i b y e1 e2;rw[zlb (zpn z h1 (by intro z;cases z))];exact z
  ·have hi2:i<(as'++[a]).length:=(yha.mp e1).1;rw[yfa,yub] at hi2;have ei:i=as'.length:=(by omega);rw[yab (by omega),ei,yli] at e1;rw[yab (by omega),ei,h2,yli] at e2;cases e1;cases e2;rw[zlb (zpn ha h1 (by intro z;cases z))];exact ha
def zwnb (D:Addr):Sp:=λvs H Q _=>Ex2 λl (y:Wh)=>vs=[.ref l]∧TkAt H l y.flat∧y.size≤9∧∀v H',Same H H'->IsW D H' v y->Q v H'
def spTV (C:Addr):Sp:=λvs H Q _=>Ex5 λp (ws rest:List Str) (k:Nat) (y:Wh)=>vs=[.ref p,.str y.word]∧WAt C H p ws k∧y.ok∧ws.drop k=y.val.words++rest∧∀H',WAt C H' p ws (k+y.val.words.length)->But p H H'->Q (valV y.val) H'
def spTW (C D:Addr):Sp:=λvs H Q _=>Ex5 λp (ws rest:List Str) (k:Nat) (y:Wh)=>vs=[.ref p]∧WAt C H p ws k∧y.ok∧y.size≤9∧ws.drop k=y.words++rest∧∀v H',WAt C H' p ws (k+y.words.length)->But p H H'->IsW D H' v y->Q v H'
theorem zwb {ws rest:List Str}{k:Nat}{u:Str}(h:ws.drop k=u::rest):ws[k]?=some u∧ws.drop (k+1)=rest:=by
 constructor
 ·have e:(ws.drop k)[0]?=some u:=by rw[h];rfl
  rw[ybf] at e
  simpa using e
 ·rw[← yrj,h];rfl
theorem znv (T:Tx K mg):FnOk P w K mg base CX0 4 T.zyd.f T.zyd.d zfl (spTV T.zqb):=by
 refine T.zyd.ok zgv ?_;rintro f c A o s H vs Q E hr ⟨p,ws,rest,k,y,rfl,W,ok,hd,q⟩ X;refine⟨_,  (zca (zub (zma zad (pv 1) zoa (zeb _))
   (zda (zua (zxc (pv 0) T.zfb T.zrb.M (zwd T) hr (zke T) .nil zpa)))
   zqa)
  (zca (zub (zma zad (pv 1) zoa (zeb _))
   (zda (zua (zxc (pv 0) T.zfb T.zab.M (zxb T) hr (zcc T) .nil zpa)))
   zqa)
  (zda (zua zau)))),?_⟩
 obtain⟨dx,l,h1,h2⟩:=id W;refine⟨_,rfl,rfl,_,rfl,?_⟩;cases y with
 | mark n =>
  refine iteT ?_;refine⟨_,rfl,p,dx,_,rfl,h1,zfc _ _ (by decide +kernel) (by decide +kernel),p,ws,k,n,rfl,W,(zwb hd).1,ok,λH1 W1 B1=>?_⟩;exact q H1 W1 B1
 | force i =>
  refine iteF ?_;refine⟨_,rfl,rfl,_,rfl,iteT ?_⟩;refine⟨_,rfl,p,dx,_,rfl,h1,zfc _ _ (by decide +kernel) (by decide +kernel),p,ws,k,i,rfl,W,(zwb hd).1,ok,λH1 W1 B1=>?_⟩;exact q H1 W1 B1
 | _=>exact iteF ⟨_,rfl,rfl,_,rfl,iteF (q H W (But.refl p H))⟩
theorem zblb (T:Tx K mg)(kb:K.In base):FnOk P w K mg base CX0 4 T.zam.f T.zam.d zfcb (zwnb T.zgd):=by
 refine T.zam.ok zol ?_;rintro f c A o s H vs Q E hr ⟨l,y,rfl,⟨as,h1,h2,h3⟩,hs,q⟩ X;refine⟨_,  (zca (zta (i:=1) zol.nd rfl (.inl rfl) (zge zba))
  (zca (zsx yqh rfl (zzab rfl T.zml (zaa (pv 0) zba)) (zvx (n:=2) rfl (zvd (zkb (i:=2) zol.nd rfl (.inl rfl)) (zvd (zkb (i:=3) zol.nd rfl (.inl rfl)) zpr)))
   (zca (zta (i:=4) zol.nd rfl (.inl rfl) (zya (zsmb (ztq T kb)) (zsb (v:=.ref T.zmm) rfl T.zqo rfl) (pv 2) (λ_ _=>rfl)))
   (zda (zta (i:=1) zol.nd rfl (.inl rfl) (zic zcy (zge (zaa (zlv T.zvc.M (zmob T) hr rfl T.zmmb (zns T) .nil zpa (zaa (pv 2) (zaa (pv 3) (zaa (zza zbb rfl T.zec ysc (zaa (zoe zuab (pv 1) zch (zbh (pv 4))) zba)) zba)))) zba)) (zoe zuab (pv 1) (zbh (pv 4)) zch))))))
  (zda (zua (zya zwa (pv 1) zfa (λ_ _=>rfl)))))),?_⟩
 refine⟨sz0,λw0 hw0=>?_⟩;have S0:Same H (upd H w0 (.lst [])):=zcb hw0 _;have fl:=y.zmq;have len:(as.map V.ref).length=y.size:=by rw[yaa,h2,fl]
 refine⟨_,rfl,l,as.map V.ref,rfl,SqL.of (S0 _ _ h1),?_⟩;refine zyob (xs:=as.map V.ref) (λi σ H'=>Ex5 λwl vs o2 o3 o4=>σ=[some (.ref l),some (.ref wl),o2,o3,o4]∧Same H H'∧H' wl=some (.lst vs)∧IsWs T.zgd H' vs (pend y (y.size-i))) ⟨w0,[],_,_,_,rfl,S0,zia,by rw[yqo,zkv];exact .nil⟩ (λi σ H' _ ⟨_,_,_,_,_,_,S',_⟩=>SqL.of (S' _ _ h1)) ?_ ?_
 ·rintro i x σ H' hi hx ⟨wl,vs,o2,o3,o4,rfl,S1,e1,W1⟩;rw[len] at hi hx;have hj:y.size-1-i<y.size:=by omega
  obtain⟨z,t,ez⟩:=zabb hj;have ef:=zfhb ez;rw[yna] at hx;cases ea:as[y.size-1-i]? with
  | none =>
   rw[ea] at hx;cases hx
  | some a =>
  rw[ea] at hx;cases hx;have ha:=S1 _ _ (h3 _ _ _ ea ef);have ep:pend y (y.size-i)=z.parts++t:=by
   rw[show y.size-i=(y.size-1-i)+1 by omega];show step (pend y (y.size-1-i))=_
   rw[ez];rfl
  rw[ep] at W1;obtain⟨Wp,Wt⟩:=W1.split;have vl:=W1.length;rw[yfa] at vl;have szp:=zqr y (y.size-i);have lez:(z.parts++t).length≤zen (z.parts++t):=by
   have go:∀l:List Wh,l.length≤zen l:=by
    intro l
    induction l with
    | nil=>exact ytb _
    | cons x r ih =>
     have e2:zen (x::r)=x.size+zen r:=(by simp[zen]);have:=x.size_pos;rw[e2,yka];omega
   exact go _
  rw[ep] at szp;rw[yfa] at lez;refine⟨a,_,rfl,SqT.of ha,rfl,_,_,rfl,_,_,rfl,rfl,?_⟩;refine⟨_,rfl,_,_,rfl,rfl,zddb z,?_⟩;refine⟨_,rfl,_,rfl,_,rfl,_,rfl,_,rfl,wl,vs,rfl,SqL.of e1,λs1 hs1=>?_⟩;have S2:=zcb hs1 (.lst (cutV vs none (some ((z.parts.length:Nat):Int))));refine⟨s1,_,rfl,.inl ⟨SqL.of zia,λtp htp=>?_⟩⟩;have S3:=zcb htp (.tup (cutV vs none (some ((z.parts.length:Nat):Int))));intro x dx nx ndx nex;refine⟨x,dx,tp,z.word,valV z.val,rfl,zia,rfl,?_⟩;rw[zmk];have etp:=zka (b:=x) (zia (H:=upd H' s1 (.lst (cutV vs none (some ((z.parts.length:Nat):Int))))) (a:=tp) (o:=.tup (cutV vs none (some ((z.parts.length:Nat):Int))))) nx;have etd:=zka (b:=dx) (zia (H:=upd H' s1 (.lst (cutV vs none (some ((z.parts.length:Nat):Int))))) (a:=tp) (o:=.tup (cutV vs none (some ((z.parts.length:Nat):Int))))) ndx;generalize hH3:upd (upd H' s1 (.lst (cutV vs none (some ((z.parts.length:Nat):Int))))) tp (.tup (cutV vs none (some ((z.parts.length:Nat):Int))))=H3 at *;have e3:H3 tp=some (.tup (vs.take z.parts.length)):=by rw[← hH3,zia,zjs]
  have S4:Same H3 (upd (upd H3 dx (.own x)) x (.ins T.zgd dx (hfs z.word (valV z.val) tp))):=λb o e=>by
   rw[zlb (zka e nx),zlb (zka e ndx)];exact e
  have e4:upd (upd H3 dx (.own x)) x (.ins T.zgd dx (hfs z.word (valV z.val) tp)) x=some (.ins T.zgd dx (hfs z.word (valV z.val) tp)):=zia;generalize upd (upd H3 dx (.own x)) x (.ins T.zgd dx (hfs z.word (valV z.val) tp))=H4 at *;have S14:Same H' H4:=S2.trans (S3.trans S4);refine⟨sz1,λq1 hq1=>?_⟩;have S5:=zcb hq1 (.lst [.ref x]);refine⟨_,rfl,_,rfl,_,rfl,wl,vs,rfl,SqL.of (S5 _ _ (S14 _ _ e1)),λs2 hs2=>?_⟩;have e5:upd H4 q1 (.lst [.ref x]) q1=some (.lst [.ref x]):=zia;generalize upd H4 q1 (.lst [.ref x])=H5 at *;have S6:=zcb hs2 (.lst (cutV vs (some ((z.parts.length:Nat):Int)) none));have e6:upd H5 s2 (.lst (cutV vs (some ((z.parts.length:Nat):Int)) none)) s2=some (.lst (vs.drop z.parts.length)):=by rw[zia,zyk]
  generalize upd H5 s2 (.lst (cutV vs (some ((z.parts.length:Nat):Int)) none))=H6 at *;refine⟨q1,s2,_,_,rfl,rfl,S6 _ _ e5,e6,?_,λr hr'=>?_⟩
  ·rw[yjd,yub];exact small (by omega)
  have S7:=zcb hr' (.lst ([.ref x]++vs.drop z.parts.length));have S37:Same H3 (upd H6 r (.lst ([.ref x]++vs.drop z.parts.length))):=S4.trans (S5.trans (S6.trans S7));have S17:Same H' (upd H6 r (.lst ([.ref x]++vs.drop z.parts.length))):=S14.trans (S5.trans (S6.trans S7));refine⟨r,_,_,_,_,rfl,S1.trans S17,zia,?_⟩;rw[show y.size-(i+1)=y.size-1-i by omega,ez];exact .cons (.mk ((S5.trans (S6.trans S7)) _ _ e4) (S37 _ _ e3) (Wp.same S17)) (Wt.same S17)
 ·rintro σ H' ⟨wl,vs,o2,o3,o4,rfl,S1,e1,W1⟩;rw[len,yli] at W1;have W1':IsWs T.zgd H' vs [y]:=W1;cases W1' with
  | cons hv ht =>
  cases ht;exact⟨_,rfl,wl,_,_,_,rfl,rfl,SqL.of e1,rfl,q _ H' S1 hv⟩
theorem zlnb {y z:Wh}{t:List Wh}{j:Nat}(e:pend y j=z::t):pend y (j+1)=z.parts++t:=by
 show step (pend y j)=_
 rw[e];rfl
theorem zqib {y:Wh}{j:Nat}{x:Str×Wv}(h:y.flat[j]?=some x):y.flat.take j++[x]=y.flat.take (j+1):=by
 rw[yfb,h];rfl
theorem zqg (T:Tx K mg)(kb:K.In base):FnOk P w K mg base CX0 5 T.zzb.f T.zzb.d znm (spTW T.zqb T.zgd):=by
 refine T.zzb.ok zng ?_;rintro f c A o s H vs Q E hr ⟨p,ws,rest,k,y,rfl,W,ok,hs,hd,q⟩ X;refine⟨_,  (zca (zta (i:=1) zng.nd rfl (.inl rfl) (zge zba))
  (zca (zta (i:=2) zng.nd rfl (.inl rfl) zfa)
  (zca (zrkb yqh (zma zzkb (pv 2) zfa (zeb _))
   (zca (zub (zma zad (zva zmb rfl T.zyg yyb (zaa (pv 1) zba)) (zsb (v:=.int 9) rfl T.zsi ⟨_,rfl⟩) (zeb _))
    (zda zpf)
    zqa)
   (zca (zta (i:=3) zng.nd rfl (.inl rfl) (zxc (pv 0) T.zfb T.zpc.M (zqf T).up hr (zvg T) .nil zpa))
   (zca (zub (zma (zyx (ztq T kb)) (pv 3) (zsb (v:=.ref T.zmm) rfl T.zqo rfl) rfl)
    (zda zpf)
    zqa)
   (zca (zfe (zdi yec yod ypd zvh (pv 1) (zaa (zyc (zaa (pv 3) (zaa (zga (znv T) hr rfl T.zyd.m T.zyd.F.kp (zuz T) .nil zpa (zaa (pv 0) (zaa (pv 3) zba))) zba))) zba)))
   (zda (ztqb (i:=2) zng.nd rfl (.inl rfl) (zic zyl (zya (zsmb (ztq T kb)) (zsb (v:=.ref T.zmm) rfl T.zqo rfl) (pv 3) (λ_ _=>rfl)) zfa) zcsb)))))))
  (zda (zua (zga (zblb T kb) hr rfl T.zam.m T.zam.F.kp (zjpb T) .nil zpa (zaa (pv 1) zba))))))),?_⟩
 refine⟨sz0,λl hl=>?_⟩;have fl:=y.zmq;refine⟨λm σ H'=>Ex3 λ(j k':Nat) o=>m=y.size-j∧σ=[some (.ref p),some (.ref l),some (.int ((pend y j).length:Nat)),o]∧j≤y.size∧But p H H'∧WAt T.zqb H' p ws k'∧ws.drop k'=zlk (pend y j)++rest∧k'+(zlk (pend y j)).length=k+y.words.length∧TkAt H' l (y.flat.take j),⟨_,0,k,none,rfl,rfl,ytb _,But.laid hl,W.at (zcb hl _),?_,?_,[],zia,rfl,?_⟩,?_⟩
 ·show _=zlk [y]++rest;rw[zpt];exact hd
 ·show _+(zlk [y]).length=_;rw[zpt]
 ·intro i a x e;simp at e
 rintro m σ H' ⟨j,k',o,rfl,rfl,hj,B,W',hd',hk',TA⟩;refine⟨_,rfl,_,_,rfl,rfl,_,rfl,?_⟩;obtain⟨as,t1,t2,t3⟩:=id TA;rw[ycb] at t2;refine ite2 (λc=>?_) (λc=>?_)
 ·have c':(0:Int)<(((pend y j).length:Nat):Int):=of_decide_eq_true c;have hjl:j<y.size:=by
   rcases yuj j y.size with z|z
   ·exact z
   ·have e:j=y.size:=by omega
    rw[e,zkv] at c';exact absurd c' (by simp)
  obtain⟨z,t,ez⟩:=zabb hjl;have zok:z.ok:=zehb ok j z (by rw[ez];exact yqa);have ef:=zfhb ez;rw[ez,zqab] at hd' hk';have es:=zlnb ez;obtain⟨u1,u2⟩:=zwb (rest:=(z.val.words++zlk (z.parts++t))++rest) hd';have u2':ws.drop (k'+1)=z.val.words++(zlk (z.parts++t)++rest):=by rw[u2,ydd]
  have kws:k'<ws.length:=(yha.mp u1).1;refine⟨_,fun σ' H' n=>n,?_⟩;refine⟨_,rfl,l,_,rfl,.inl (SqL.of t1),rfl,_,rfl,?_⟩;refine ite2 (λc1=>?_) (λc1=>?_)
  ·exfalso;have c1':=of_decide_eq_true c1;injection c1' with c1'
   rw[yaa] at c1';omega
  obtain⟨dx,wl,w1,w2⟩:=id W';refine⟨_,rfl,p,dx,_,rfl,w1,zfc _ _ (by decide +kernel) (by decide +kernel),p,ws,k',z.word,rfl,W',u1,λH1 W1 B1=>?_⟩;refine⟨_,rfl,_,rfl,rfl,_,rfl,?_⟩;rw[zkob];refine iteF ?_;have TA1:=TA.but B1 w1;obtain⟨dx1,wl1,w11,w12⟩:=id W1;have t11:=B1 _ _ (zpn t1 w1 (by intro z;cases z)) t1;refine⟨_,rfl,.inl ⟨rfl,_,SqL.of t11⟩,_,rfl,_,rfl,_,rfl,p,ws,_,k'+1,z,rfl,W1,zok,u2',λH2 W2 B2=>?_⟩;have TA2:=TA1.but B2 w11;have t12:=B2 _ _ (zpn t11 w11 (by intro z;cases z)) t11;refine⟨sz2,λa ha=>?_⟩;have S3:=zcb ha (.tup [.str z.word,valV z.val]);have TA3:=TA2.same S3;have t13:=S3 _ _ t12;have e3:upd H2 a (.tup [.str z.word,valV z.val]) a=some (.tup [.str z.word,valV z.val]):=zia;generalize upd H2 a (.tup [.str z.word,valV z.val])=H3 at *;have W3:=W2.at S3;obtain⟨dx3,wl3,w31,w32⟩:=id W3;have npl:p≠l:=zpn w31 t13 (by intro z;cases z);have nwl:wl3≠l:=by
   intro z;rw[z,t13] at w32;injection w32 with w32
   injection w32 with w32
   cases ws with
   | nil=>exact absurd kws (by simp)
   | cons u r =>
    cases as with
    | nil=>simp at w32
    | cons b r'=>simp at w32
  refine⟨l,_,_,rfl,rfl,t13,?_,?_⟩
  ·rw[yaa];exact zle (by omega)
  have TA4:=TA3.snoc (x:=(z.word,z.val)) e3 t13;rw[zqib ef] at TA4;have W4:WAt T.zqb (upd H3 l (.lst (as.map V.ref++[.ref a]))) p ws (k'+1+z.val.words.length):=⟨dx3,wl3,by rw[zlb npl];exact w31,by rw[zlb nwl];exact w32⟩;have B4:But p H (upd H3 l (.lst (as.map V.ref++[.ref a]))):=λb o n e=>by
   rw[zlb (zka e hl)];exact S3 _ _ (B2 _ _ n (B1 _ _ n (B _ _ n e)))
  have em:(((pend y j).length:Nat):Int)+(((z.parts.length:Nat):Int)-1)=(((pend y (j+1)).length:Nat):Int):=by
   rw[ez,es,yka,yfa];omega
  refine⟨_,rfl,_,rfl,_,_,rfl,rfl,zddb z,_,_,rfl,rfl,_,_,rfl,rfl,?_⟩;refine⟨y.size-(j+1),by omega,j+1,k'+1+z.val.words.length,_,rfl,(by rw[← em];rfl),hjl,B4,W4,?_,?_,TA4⟩
  ·rw[es,← yrj,u2',yvl]
  ·rw[es];rw[yka,yfa] at hk';omega
 ·have c':¬ (0:Int)<(((pend y j).length:Nat):Int):=of_decide_eq_false (yxg.mpr c);have ej:j=y.size:=by
   rcases yuj j y.size with z|z
   ·obtain⟨z,t,ez⟩:=zabb z;rw[ez,yka] at c';omega
   ·omega
  subst ej;rw[zkv] at hk';rw[yta (by omega)] at TA;have hk2:k'=k+y.words.length:=hk';subst hk2;refine⟨_,rfl,l,y,rfl,TA,hs,λv H2 S2 IW=>?_⟩;exact q v H2 (W'.at S2) (B.of_same S2) IW
theorem zgib {u:Str}:∀{ss:List Str},u∈ss->inV (.str u) (ss.map V.str)=true
 | x::ss,h=>by
  show (eqV (.str x) (.str u)||inV (.str u) (ss.map V.str))=true
  rcases yma.mp h with rfl|h
  ·have e:eqV (.str u) (.str u)=true:=by show (u==u)=true;simp
   rw[e];rfl
  ·rw[zgib h,Bool.or_true]
theorem zfz:∀ss:List Str,(ss.map V.str).all zjt=true
 | []=>rfl
 | _::ss=>zfz ss
def Kn (K:yda)(H:Hp)(t:Addr)(ss:List Str):Prop:=TupK K t ss∨H t=some (.tup (ss.map V.str))
theorem Kn.sq {K:yda}{H H':Hp}{t p C dx l:Addr}{k:Int}{ss:List Str}(h:Kn K H t ss)(hz:ss.length≤1000)(hp:H p=some (.ins C dx (wfs l k)))(b:But p H H'):SqT K H' t (ss.map V.str):=by
 rcases h with h|h
 ·exact h.sq hz H'
 ·exact SqT.of (b _ _ (zpn h hp (by intro z;cases z)) h)
theorem zfw {ws xs:List Str}{k:Nat}(h:ws.drop k=xs)(hx:xs≠[]):k+xs.length=ws.length:=by
 have e:=congrArg ybh h;rw[yjd] at e;have:xs.length≠0:=λz=>hx (List.eq_nil_of_length_eq_zero z);omega
theorem zyn {ws xs ys:List Str}{k:Nat}(h:ws.drop k=xs++ys):ws.drop (k+xs.length)=ys:=by
 rw[← yrj,h,yvl]
def amtV:Wv->V
 | .non=>.int 0
 | .name n=>.str n
 | .num i=>.int i
def HvAt (D:Addr)(H:Hp)(x:V):Hv->Prop
 | .v y=>x=valV y
 | .w y=>IsW D H x y
def ztu (D:Addr)(H:Hp)(v:V)(d:Deed):Prop:=Ex2 λa x=>v = .ref a∧H a=some (.tup [.str d.each,.str d.kind,amtV d.amt,x])∧IsW D H x d.whom
def zxp (D:Addr)(H:Hp)(v:V):Rule->Prop
 | .hold w y z=>Ex3 λa x u=>v = .ref a∧H a=some (.tup [.str "hold",.str w,x,u])∧HvAt D H x y∧IsW D H u z
 | .wen k y d=>Ex3 λa x u=>v = .ref a∧H a=some (.tup [.str "when",.str k,x,u])∧IsW D H x y∧ztu D H u d
 | .instead k y w z=>Ex2 λa x=>v = .ref a∧H a=some (.tup [.str "instead",.str k,x,.str w,valV z])∧IsW D H x y
 | .may c d=>Ex2 λa u=>v = .ref a∧H a=some (.tup [.str "may",.int c,u])∧ztu D H u d
theorem HvAt.same {D:Addr}{H H':Hp}(s:Same H H'){x:V}:∀{y:Hv},HvAt D H x y->HvAt D H' x y
 | .v _,h=>h
 | .w _,h=>IsW.same s h
theorem HvAt.but {D C p dy l:Addr}{k:Int}{H H':Hp}(b:But p H H')(hp:H p=some (.ins C dy (wfs l k))){x:V}:∀{y:Hv},HvAt D H x y->HvAt D H' x y
 | .v _,h=>h
 | .w _,h=>IsW.but b hp h
theorem ztu.same {D:Addr}{H H':Hp}(s:Same H H'){v:V}{d:Deed}(h:ztu D H v d):ztu D H' v d:=by
 obtain⟨a,x,e,h1,h2⟩:=h;exact⟨a,x,e,s _ _ h1,h2.same s⟩
theorem zxp.same {D:Addr}{H H':Hp}(s:Same H H'){v:V}:∀{r:Rule},zxp D H v r->zxp D H' v r
 | .hold w y z,⟨a,x,u,e,h,p,q⟩=>⟨a,x,u,e,s _ _ h,p.same s,q.same s⟩
 | .wen k y d,⟨a,x,u,e,h,p,q⟩=>⟨a,x,u,e,s _ _ h,p.same s,q.same s⟩
 | .instead k y w z,⟨a,x,e,h,p⟩=>⟨a,x,e,s _ _ h,p.same s⟩
 | .may c d,⟨a,u,e,h,p⟩=>⟨a,u,e,s _ _ h,p.same s⟩
theorem zcgb {k:Str}(h:k∈zne):ybp k zrcb=some (.tup ((turns k).map PyData.str)):=by
 simp only[zne,yma,yff,or_false] at h
 rcases h with rfl|rfl|rfl|rfl|rfl|rfl|rfl<;>rfl
theorem zbgb (k:Str):(turns k).length≤1000:=by
 unfold turns
 repeat' split
 all_goals decide
def zetb (K:yda)(C:Addr):Sp:=λvs H Q _=>Ex6 λp t (ws:List Str) (k:Nat) (u:Str) (ss:List Str)=>vs=[.ref p,.ref t]∧WAt C H p ws k∧ws[k]?=some u∧u∈ss∧ss.length≤1000∧Kn K H t ss∧∀H',WAt C H' p ws (k+1)->But p H H'->Q (.str u) H'
def zitb (C:Addr):Sp:=λvs H Q _=>Ex6 λp (ws rest:List Str) (k:Nat) (u:Str) (v:Wv)=>vs=[.ref p,.str u]∧WAt C H p ws k∧zep u v∧ws.drop k=v.words++rest∧∀H',WAt C H' p ws (k+v.words.length)->But p H H'->Q (amtV v) H'
def zdqb (C:Addr):Sp:=λvs H Q _=>Ex5 λp (ws:List Str) (k:Nat) (u:Str) (v:Wv)=>vs=[.ref p,.str u]∧WAt C H p ws k∧TurnOk u v∧ws.drop k=v.words∧∀H',WAt C H' p ws (k+v.words.length)->But p H H'->Q (valV v) H'
def zikb (C D:Addr):Sp:=λvs H Q _=>Ex6 λp (ws rest:List Str) (k:Nat) (u:Str) (v:Hv)=>vs=[.ref p,.str u]∧WAt C H p ws k∧zci u v∧ws.drop k=v.words++rest∧∀x H',WAt C H' p ws (k+v.words.length)->But p H H'->HvAt D H' x v->Q x H'
def zkqb (C D:Addr):Sp:=λvs H Q _=>Ex4 λp (ws:List Str) (k:Nat) (d:Deed)=>vs=[.ref p]∧WAt C H p ws k∧d.ok∧ws.drop k=d.words∧∀v H',WAt C H' p ws ws.length->But p H H'->ztu D H' v d->Q v H'
def zav (C D:Addr)(f:Rule->Prop):Sp:=λvs H Q _=>Ex4 λp (ws:List Str) (k:Nat) (r:Rule)=>vs=[.ref p]∧f r∧WAt C H p ws k∧r.ok∧ws.drop k=r.words.drop 1∧∀v H',WAt C H' p ws ws.length->But p H H'->zxp D H' v r->Q v H'
theorem zdb (T:Tx K mg):FnOk P w K mg base CX0 3 T.zla.f T.zla.d zbf (zetb K T.zqb):=by
 refine T.zla.ok zkh ?_;rintro f c A o s H vs Q E hr ⟨p,t,ws,k,u,ss,rfl,W,hu,hm,hz,hk,q⟩ X;refine⟨_,  (zca (zta (i:=2) zkh.nd rfl (.inl rfl) (zxc (pv 0) T.zfb T.zpc.M (zqf T) hr (zvg T) .nil zpa))
  (zca (zub (zma zzx (pv 2) (pv 1) rfl)
   (zda zpf)
   zqa)
  (zda (zua (pv 2))))),?_⟩
 obtain⟨dx,l,h1,h2⟩:=id W;refine⟨_,rfl,p,dx,_,rfl,h1,zfc _ _ (by decide +kernel) (by decide +kernel),p,ws,k,u,rfl,W,hu,λH1 W1 B1=>?_⟩;refine⟨_,rfl,_,rfl,t,_,rfl,.inr (hk.sq hz h1 B1),rfl,zfz ss,_,rfl,?_⟩;have e:(if true=true then !inV (.str u) (ss.map V.str) else inV (.str u) (ss.map V.str))=false:=by rw[zgib hm];rfl
 refine ite2 (λc=>absurd (e.symm.trans c) ygb) (λ_=>?_);exact⟨_,rfl,q H1 W1 B1⟩
theorem zft (T:Tx K mg):FnOk P w K mg base CX0 4 T.zld.f T.zld.d zzj (zitb T.zqb):=by
 refine T.zld.ok zct ?_;rintro f c A o s H vs Q E hr ⟨p,ws,rest,k,u,v,rfl,W,ok,hd,q⟩ X;refine⟨_,  (zca (zub (zma zad (pv 1) zoa (zeb _))
   (zda (zua zfa))
   zqa)
  (zca (zub (zma zie (pv 1) (zyc (zaa zoa (zaa zoa zba))) rfl)
   (zda (zua (zxc (pv 0) T.zfb T.zrb.M (zwd T) hr (zke T) .nil zpa)))
   zqa)
  (zda (zua (zxc (pv 0) T.zfb T.zab.M (zxb T) hr (zcc T) .nil zpa))))),?_⟩
 obtain⟨dx,l,h1,h2⟩:=id W;have nam:∀{n:Str},zje n->ws.drop k=n::rest->∀{a:Addr} {o:HO},H a=none->(∀H',WAt T.zqb H' p ws (k+1)->But p H H'->Q (.str n) H')->Ex4 λp' (ws':List Str) (k':Nat) (u':Str)=>[V.ref p]=[.ref p']∧WAt T.zqb (upd H a o) p' ws' k'∧ws'[k']?=some u'∧zje u'∧∀H',WAt T.zqb H' p' ws' (k'+1)->But p' (upd H a o) H'->Q (.str u') H' :=
  λ{_} hn e {a o} ha q=>⟨p,ws,k,_,rfl,W.at (zcb ha o),(zwb e).1,hn,λH1 W1 B1=>q H1 W1 ((But.laid ha).trans B1)⟩
 have num:∀{i:Nat},i<1000->ws.drop k=(toString (i:Int):Str)::rest->∀{a:Addr} {o:HO},H a=none->(∀H',WAt T.zqb H' p ws (k+1)->But p H H'->Q (.int i) H')->Ex4 λp' (ws':List Str) (k' i':Nat)=>[V.ref p]=[.ref p']∧WAt T.zqb (upd H a o) p' ws' k'∧ws'[k']?=some (toString (i':Int):Str)∧i'<1000∧∀H',WAt T.zqb H' p' ws' (k'+1)->But p' (upd H a o) H'->Q (.int i') H' :=
  λ{_} hn e {a o} ha q=>⟨p,ws,k,_,rfl,W.at (zcb ha o),(zwb e).1,hn,λH1 W1 B1=>q H1 W1 ((But.laid ha).trans B1)⟩
 have at1:∀{a:Addr} {o:HO},H a=none->upd H a o p=some (.ins T.zqb dx (wfs l (k:Int))):=λ{a o} ha=>by rw[zlb (zka h1 ha)];exact h1
 refine⟨_,rfl,rfl,_,rfl,?_⟩;cases ok with
 | leave=>exact iteT (q H W (But.refl p H))
 | gain hn =>
  refine iteF ⟨_,rfl,sz2,λa ha=>⟨a,_,rfl,.inr (SqT.of zia),rfl,rfl,_,rfl,iteT ?_⟩⟩;exact⟨_,rfl,p,dx,_,rfl,at1 ha,zfc _ _ (by decide +kernel) (by decide +kernel),nam hn hd ha q⟩
 | lack hn =>
  refine iteF ⟨_,rfl,sz2,λa ha=>⟨a,_,rfl,.inr (SqT.of zia),rfl,rfl,_,rfl,iteT ?_⟩⟩;exact⟨_,rfl,p,dx,_,rfl,at1 ha,zfc _ _ (by decide +kernel) (by decide +kernel),nam hn hd ha q⟩
 | hurt hn =>
  refine iteF ⟨_,rfl,sz2,λa ha=>⟨a,_,rfl,.inr (SqT.of zia),rfl,rfl,_,rfl,iteF ?_⟩⟩;exact⟨_,rfl,p,dx,_,rfl,at1 ha,zfc _ _ (by decide +kernel) (by decide +kernel),num hn hd ha q⟩
 | lose hn =>
  refine iteF ⟨_,rfl,sz2,λa ha=>⟨a,_,rfl,.inr (SqT.of zia),rfl,rfl,_,rfl,iteF ?_⟩⟩;exact⟨_,rfl,p,dx,_,rfl,at1 ha,zfc _ _ (by decide +kernel) (by decide +kernel),num hn hd ha q⟩
 | score hn =>
  refine iteF ⟨_,rfl,sz2,λa ha=>⟨a,_,rfl,.inr (SqT.of zia),rfl,rfl,_,rfl,iteF ?_⟩⟩;exact⟨_,rfl,p,dx,_,rfl,at1 ha,zfc _ _ (by decide +kernel) (by decide +kernel),num hn hd ha q⟩
 | draw hn =>
  refine iteF ⟨_,rfl,sz2,λa ha=>⟨a,_,rfl,.inr (SqT.of zia),rfl,rfl,_,rfl,iteF ?_⟩⟩;exact⟨_,rfl,p,dx,_,rfl,at1 ha,zfc _ _ (by decide +kernel) (by decide +kernel),num hn hd ha q⟩
theorem zmn (T:Tx K mg):FnOk P w K mg base CX0 4 T.zkc.f T.zkc.d zdg (zdqb T.zqb):=by
 refine T.zkc.ok zfn ?_;rintro f c A o s H vs Q E hr ⟨p,ws,k,u,v,rfl,W,ok,hd,q⟩ X;refine⟨_,  (zca (zub (zma zie (pv 1) (zyc (zaa zoa (zaa zoa zba))) rfl)
   (zda (zua (zxc (pv 0) T.zfb T.zab.M (zxb T) hr (zcc T) .nil zpa)))
   zqa)
  (zca (zub (zma zad (pv 1) zoa (zeb _))
   (zda (zua (zth (pv 0) T.zfb T.zla.M (zdb T) hr (zjb T) .nil zpa (zaa (zsb (v:=.ref T.zmg) rfl T.zkg rfl) zba))))
   zqa)
  (zda (zua zau)))),?_⟩
 obtain⟨dx,l,h1,h2⟩:=id W;refine⟨_,rfl,sz2,λa ha=>⟨a,_,rfl,.inr (SqT.of zia),rfl,rfl,_,rfl,?_⟩⟩;have S:=zcb ha (.tup [.str "less",.str "more"]);have W1:=W.at S;have at1:upd H a (.tup [.str "less",.str "more"]) p=some (.ins T.zqb dx (wfs l (k:Int))):=by rw[zlb (zka h1 ha)];exact h1
 have B:But p H (upd H a (.tup [.str "less",.str "more"])):=But.laid ha;cases ok with
 | none=>exact iteF ⟨_,rfl,rfl,_,rfl,iteF (q _ W1 B)⟩
 | here=>exact iteF ⟨_,rfl,rfl,_,rfl,iteF (q _ W1 B)⟩
 | less hn =>
  refine iteT ?_;exact⟨_,rfl,p,dx,_,rfl,at1,zfc _ _ (by decide +kernel) (by decide +kernel),p,ws,k,_,rfl,W1,(zwb hd).1,hn,λH2 W2 B2=>q H2 W2 (B.trans B2)⟩
 | more hn =>
  refine iteT ?_;exact⟨_,rfl,p,dx,_,rfl,at1,zfc _ _ (by decide +kernel) (by decide +kernel),p,ws,k,_,rfl,W1,(zwb hd).1,hn,λH2 W2 B2=>q H2 W2 (B.trans B2)⟩
 | as hn =>
  refine iteF ⟨_,rfl,rfl,_,rfl,iteT ?_⟩;exact⟨_,rfl,p,dx,_,rfl,at1,zfc _ _ (by decide +kernel) (by decide +kernel),p,_,ws,k,_,zvb,rfl,W1,(zwb hd).1,hn,(by decide),.inl T.zig,λH2 W2 B2=>q H2 W2 (B.trans B2)⟩
theorem ztl (T:Tx K mg)(kb:K.In base):FnOk P w K mg base CX0 6 T.zac.f T.zac.d zaf (zikb T.zqb T.zgd):=by
 refine T.zac.ok zsl ?_;rintro f c A o s H vs Q E hr ⟨p,ws,rest,k,u,v,rfl,W,ok,hd,q⟩ X;refine⟨_,  (zca (zub (zma zie (pv 1) (zyc (zaa zoa (zaa zoa zba))) rfl)
   (zda (zua (zxc (pv 0) T.zfb T.zrb.M (zwd T).up hr (zke T) .nil zpa)))
   zqa)
  (zca (zub (zma zie (pv 1) (zyc (zaa zoa (zaa zoa (zaa zoa zba)))) rfl)
   (zda (zua (zxc (pv 0) T.zfb T.zab.M (zxb T).up hr (zcc T) .nil zpa)))
   zqa)
  (zca (zub (zma zad (pv 1) zoa (zeb _))
   (zda (zua (zga (zqg T kb) hr rfl T.zzb.m T.zzb.F.kp (zzh T) .nil zpa (zaa (pv 0) zba))))
   zqa)
  (zda (zua zau))))),?_⟩
 obtain⟨dx,l,h1,h2⟩:=id W;refine⟨_,rfl,sz2,λa ha=>⟨a,_,rfl,.inr (SqT.of zia),rfl,rfl,_,rfl,?_⟩⟩;have S:=zcb ha (.tup [.str "gain",.str "lack"]);have W1:=W.at S;have B:But p H (upd H a (.tup [.str "gain",.str "lack"])):=But.laid ha;generalize upd H a (.tup [.str "gain",.str "lack"])=H0 at *;obtain⟨dx1,l1,at1,_⟩:=id W1;have two:∀{b:Addr},H0 b=none->WAt T.zqb (upd H0 b (.tup [.str "be",.str "more",.str "less"])) p ws k∧But p H (upd H0 b (.tup [.str "be",.str "more",.str "less"])):=λ{b} hb=>⟨W1.at (zcb hb _),B.trans (But.laid hb)⟩;cases ok with
 | gain hn =>
  exact iteT ⟨_,rfl,p,dx1,_,rfl,at1,zfc _ _ (by decide +kernel) (by decide +kernel),p,ws,k,_,rfl,W1,(zwb hd).1,hn,λH2 W2 B2=>q _ H2 W2 (B.trans B2) rfl⟩
 | lack hn =>
  exact iteT ⟨_,rfl,p,dx1,_,rfl,at1,zfc _ _ (by decide +kernel) (by decide +kernel),p,ws,k,_,rfl,W1,(zwb hd).1,hn,λH2 W2 B2=>q _ H2 W2 (B.trans B2) rfl⟩
 | be hn =>
  refine iteF ⟨_,rfl,sz3,λb hb=>⟨b,_,rfl,.inr (SqT.of zia),rfl,rfl,_,rfl,iteT ?_⟩⟩;obtain⟨W3,B3⟩:=two hb;obtain⟨dx3,l3,at3,_⟩:=id W3;exact⟨_,rfl,p,dx3,_,rfl,at3,zfc _ _ (by decide +kernel) (by decide +kernel),p,ws,k,_,rfl,W3,(zwb hd).1,hn,λH2 W2 B2=>q _ H2 W2 (B3.trans B2) rfl⟩
 | more hn =>
  refine iteF ⟨_,rfl,sz3,λb hb=>⟨b,_,rfl,.inr (SqT.of zia),rfl,rfl,_,rfl,iteT ?_⟩⟩;obtain⟨W3,B3⟩:=two hb;obtain⟨dx3,l3,at3,_⟩:=id W3;exact⟨_,rfl,p,dx3,_,rfl,at3,zfc _ _ (by decide +kernel) (by decide +kernel),p,ws,k,_,rfl,W3,(zwb hd).1,hn,λH2 W2 B2=>q _ H2 W2 (B3.trans B2) rfl⟩
 | less hn =>
  refine iteF ⟨_,rfl,sz3,λb hb=>⟨b,_,rfl,.inr (SqT.of zia),rfl,rfl,_,rfl,iteT ?_⟩⟩;obtain⟨W3,B3⟩:=two hb;obtain⟨dx3,l3,at3,_⟩:=id W3;exact⟨_,rfl,p,dx3,_,rfl,at3,zfc _ _ (by decide +kernel) (by decide +kernel),p,ws,k,_,rfl,W3,(zwb hd).1,hn,λH2 W2 B2=>q _ H2 W2 (B3.trans B2) rfl⟩
 | per hn =>
  refine iteF ⟨_,rfl,sz3,λb hb=>⟨b,_,rfl,.inr (SqT.of zia),rfl,rfl,_,rfl,iteF ?_⟩⟩;obtain⟨W3,B3⟩:=two hb;exact⟨_,rfl,rfl,_,rfl,iteT ⟨_,rfl,p,ws,rest,k,_,rfl,W3,hn.1,hn.2,hd,λx H2 W2 B2 IW=>q x H2 W2 (B3.trans B2) IW⟩⟩
 | mute =>
  refine iteF ⟨_,rfl,sz3,λb hb=>⟨b,_,rfl,.inr (SqT.of zia),rfl,rfl,_,rfl,iteF ?_⟩⟩;obtain⟨W3,B3⟩:=two hb;exact⟨_,rfl,rfl,_,rfl,iteF (q _ _ W3 B3 rfl)⟩
 | steal =>
  refine iteF ⟨_,rfl,sz3,λb hb=>⟨b,_,rfl,.inr (SqT.of zia),rfl,rfl,_,rfl,iteF ?_⟩⟩;obtain⟨W3,B3⟩:=two hb;exact⟨_,rfl,rfl,_,rfl,iteF (q _ _ W3 B3 rfl)⟩
theorem ztp (T:Tx K mg)(kb:K.In base):FnOk P w K mg base CX0 6 T.zkd.f T.zkd.d zqm (zkqb T.zqb T.zgd):=by
 refine T.zkd.ok zog ?_;rintro f c A o s H vs Q E hr ⟨p,ws,k,d,rfl,W,ok,hd,q⟩ X;refine⟨_,  (zca (zta (i:=1) zog.nd rfl (.inl rfl) (zth (pv 0) T.zfb T.zla.M (zdb T).up hr (zjb T) .nil zpa (zaa (zyc (zaa zoa (zaa zoa zba))) zba)))
  (zca (zta (i:=2) zog.nd rfl (.inl rfl) (zth (pv 0) T.zfb T.zla.M (zdb T).up hr (zjb T) .nil zpa (zaa (zsb (v:=.ref T.zwg) rfl T.ztg rfl) zba)))
  (zca (zta (i:=3) zog.nd rfl (.inl rfl) (zga (zft T).up hr rfl T.zld.m T.zld.F.kp (zrw T) .nil zpa (zaa (pv 0) (zaa (pv 2) zba))))
  (zca (zta (i:=4) zog.nd rfl (.inl rfl) (zga (zqg T kb) hr rfl T.zzb.m T.zzb.F.kp (zzh T) .nil zpa (zaa (pv 0) zba)))
  (zda (zua (zyc (zaa (pv 1) (zaa (pv 2) (zaa (pv 3) (zaa (pv 4) zba))))))))))),?_⟩
 obtain⟨dx,l,h1,h2⟩:=id W;obtain⟨u1,hd1⟩:=zwb (show ws.drop k=d.each::(d.kind::(d.amt.words++d.whom.words)) from hd);obtain⟨u2,hd2⟩:=zwb hd1;have hd3:=zyn hd2;refine⟨_,rfl,p,dx,_,rfl,h1,zfc _ _ (by decide +kernel) (by decide +kernel),sz2,λa ha=>?_⟩;refine⟨p,a,ws,k,_,zgz,rfl,W.at (zcb ha _),u1,ok.each,(by decide),.inr zia,λH1 W1 B1=>?_⟩;have B1':But p H H1:=(But.laid ha).trans B1;obtain⟨dx1,l1,at1,_⟩:=id W1;refine⟨_,rfl,p,dx1,_,rfl,at1,zfc _ _ (by decide +kernel) (by decide +kernel),p,_,ws,k+1,_,zne,rfl,W1,u2,ok.amt.kind,(by decide),.inl T.zsg,λH2 W2 B2=>?_⟩;refine⟨_,rfl,_,rfl,p,ws,_,k+1+1,_,d.amt,rfl,W2,ok.amt,hd2,λH3 W3 B3=>?_⟩;refine⟨_,rfl,p,ws,[],_,d.whom,rfl,W3,ok.whom.1,ok.whom.2,(by rw[yad];exact hd3),λv H4 W4 B4 IW=>?_⟩;refine⟨_,rfl,_,rfl,_,rfl,_,rfl,sz4,λb hb=>?_⟩;have en:=zfw hd3 d.whom.zod;rw[en] at W4;exact q _ _ (W4.at (zcb hb _)) ((B1'.trans (B2.trans (B3.trans B4))).trans (But.laid hb)) ⟨b,v,rfl,zia,IW.same (zcb hb _)⟩
def zbsb:Rule->Prop
 | .hold _ _ _=>True
 | _=>False
def zutb:Rule->Prop
 | .wen _ _ _=>True
 | _=>False
def zdib:Rule->Prop
 | .instead _ _ _ _=>True
 | _=>False
def zvtb:Rule->Prop
 | .may _ _=>True
 | _=>False
theorem zey (T:Tx K mg)(kb:K.In base):FnOk P w K mg base CX0 7 T.zre.f T.zre.d zpm (zav T.zqb T.zgd zbsb):=by
 refine T.zre.ok zei ?_;rintro f c A o s H vs Q E hr ⟨p,ws,k,r,rfl,is,W,ok,hd,q⟩ X;refine⟨_,  (zca (zta (i:=1) zei.nd rfl (.inl rfl) (zth (pv 0) T.zfb T.zla.M (zdb T).up hr (zjb T) .nil zpa (zaa (zsb (v:=.ref T.zbo) rfl T.zxn rfl) zba)))
  (zca (zta (i:=2) zei.nd rfl (.inl rfl) (zga (ztl T kb) hr rfl T.zac.m T.zac.F.kp (zlm T) .nil zpa (zaa (pv 0) (zaa (pv 1) zba))))
  (zca (zta (i:=3) zei.nd rfl (.inl rfl) (zga (zqg T kb).up hr rfl T.zzb.m T.zzb.F.kp (zzh T) .nil zpa (zaa (pv 0) zba)))
  (zda (zua (zyc (zaa zoa (zaa (pv 1) (zaa (pv 2) (zaa (pv 3) zba)))))))))),?_⟩
 cases r with
 | hold u v y =>
  obtain⟨dx,l,h1,h2⟩:=id W;obtain⟨ok1,ok2⟩:=ok;obtain⟨u1,hd1⟩:=zwb (show ws.drop k=u::(v.words++y.words) from hd);have hd2:=zyn hd1;refine⟨_,rfl,p,dx,_,rfl,h1,zfc _ _ (by decide +kernel) (by decide +kernel),p,_,ws,k,_,changes,rfl,W,u1,ok1.word,(by decide),.inl T.zrn,λH1 W1 B1=>?_⟩;refine⟨_,rfl,_,rfl,p,ws,y.words,k+1,_,v,rfl,W1,ok1,hd1,λx H2 W2 B2 HV=>?_⟩;obtain⟨dx2,l2,at2,_⟩:=id W2;refine⟨_,rfl,p,ws,[],_,y,rfl,W2,ok2.1,ok2.2,(by rw[yad];exact hd2),λz H3 W3 B3 IW=>?_⟩;refine⟨_,rfl,_,rfl,_,rfl,sz4,λb hb=>?_⟩;rw[zfw hd2 y.zod] at W3;exact q _ _ (W3.at (zcb hb _)) ((B1.trans (B2.trans B3)).trans (But.laid hb)) ⟨b,x,z,rfl,zia,(HV.but B3 at2).same (zcb hb _),IW.same (zcb hb _)⟩
 | wen=>exact is.elim
 | instead=>exact is.elim
 | may=>exact is.elim
theorem zdy (T:Tx K mg)(kb:K.In base):FnOk P w K mg base CX0 7 T.zqe.f T.zqe.d zom (zav T.zqb T.zgd zutb):=by
 refine T.zqe.ok zqk ?_;rintro f c A o s H vs Q E hr ⟨p,ws,k,r,rfl,is,W,ok,hd,q⟩ X;refine⟨_,  (zca (zta (i:=1) zqk.nd rfl (.inl rfl) (zth (pv 0) T.zfb T.zla.M (zdb T).up hr (zjb T) .nil zpa (zaa (zsb (v:=.ref T.zui) rfl T.zri rfl) zba)))
  (zca (zta (i:=2) zqk.nd rfl (.inl rfl) (zga (zqg T kb).up hr rfl T.zzb.m T.zzb.F.kp (zzh T) .nil zpa (zaa (pv 0) zba)))
  (zca (zfe (zth (pv 0) T.zfb T.zla.M (zdb T).up hr (zjb T) .nil zpa (zaa (zyc (zaa zoa zba)) zba)))
  (zda (zua (zyc (zaa zoa (zaa (pv 1) (zaa (pv 2) (zaa (zga (ztp T kb) hr rfl T.zkd.m T.zkd.F.kp (zms T) .nil zpa (zaa (pv 0) zba)) zba)))))))))),?_⟩
 cases r with
 | wen u y d =>
  obtain⟨dx,l,h1,h2⟩:=id W;obtain⟨ok1,ok2,ok3⟩:=ok;obtain⟨u1,hd1⟩:=zwb (show ws.drop k=u::(y.words++("do":Str)::d.words) from hd);have hd2:=zyn hd1;obtain⟨u3,hd3⟩:=zwb hd2;refine⟨_,rfl,p,dx,_,rfl,h1,zfc _ _ (by decide +kernel) (by decide +kernel),p,_,ws,k,_,zlf,rfl,W,u1,ok1,(by decide),.inl T.zpi,λH1 W1 B1=>?_⟩;refine⟨_,rfl,p,ws,_,k+1,y,rfl,W1,ok2.1,ok2.2,hd1,λx H2 W2 B2 IW=>?_⟩;obtain⟨dx2,l2,at2,_⟩:=id W2;refine⟨_,rfl,p,dx2,_,rfl,at2,zfc _ _ (by decide +kernel) (by decide +kernel),sz1,λa ha=>?_⟩;refine⟨p,a,ws,_,_,["do"],rfl,W2.at (zcb ha _),u3,yia.mpr rfl,(by decide),.inr zia,λH3 W3 B3=>?_⟩;have B3':But p H2 H3:=(But.laid ha).trans B3;obtain⟨dx3,l3,at3,_⟩:=id W3;refine⟨_,rfl,_,rfl,_,rfl,p,ws,_,d,rfl,W3,ok3,hd3,λz H4 W4 B4 ID=>?_⟩;refine⟨sz4,λb hb=>?_⟩;exact q _ _ (W4.at (zcb hb _)) ((B1.trans (B2.trans (B3'.trans B4))).trans (But.laid hb)) ⟨b,x,z,rfl,zia,((IW.but B3' at2).but B4 at3).same (zcb hb _),ID.same (zcb hb _)⟩
 | hold=>exact is.elim
 | instead=>exact is.elim
 | may=>exact is.elim
theorem zur (T:Tx K mg)(kb:K.In base):FnOk P w K mg base CX0 6 T.zdd.f T.zdd.d zxi (zav T.zqb T.zgd zdib):=by
 refine T.zdd.ok zmf ?_;rintro f c A o s H vs Q E hr ⟨p,ws,k,r,rfl,is,W,ok,hd,q⟩ X;refine⟨_,  (zca (zta (i:=1) zmf.nd rfl (.inl rfl) (zth (pv 0) T.zfb T.zla.M (zdb T).up hr (zjb T) .nil zpa (zaa (zsb (v:=.ref T.zwg) rfl T.ztg rfl) zba)))
  (zca (zta (i:=2) zmf.nd rfl (.inl rfl) (zga (zqg T kb) hr rfl T.zzb.m T.zzb.F.kp (zzh T) .nil zpa (zaa (pv 0) zba)))
  (zca (zfe (zth (pv 0) T.zfb T.zla.M (zdb T).up hr (zjb T) .nil zpa (zaa (zyc (zaa zoa zba)) zba)))
  (zca (zta (i:=3) zmf.nd rfl (.inl rfl) (zth (pv 0) T.zfb T.zla.M (zdb T).up hr (zjb T) .nil zpa (zaa (zya (zrob rfl T.zwv) (zsb (v:=.ref T.zuw) rfl T.zbw rfl) (pv 1) (λ_ _=>rfl)) zba)))
  (zda (zua (zyc (zaa zoa (zaa (pv 1) (zaa (pv 2) (zaa (pv 3) (zaa (zga (zmn T).up hr rfl T.zkc.m T.zkc.F.kp (zto T) .nil zpa (zaa (pv 0) (zaa (pv 3) zba))) zba)))))))))))),?_⟩
 cases r with
 | instead u y t v =>
  obtain⟨dx,l,h1,h2⟩:=id W;obtain⟨ok1,ok2,ok3,ok4⟩:=ok;obtain⟨u1,hd1⟩:=zwb (show ws.drop k=u::(y.words++("do":Str)::t::v.words) from hd);have hd2:=zyn hd1;obtain⟨u3,hd3⟩:=zwb hd2;obtain⟨u4,hd4⟩:=zwb hd3;refine⟨_,rfl,p,dx,_,rfl,h1,zfc _ _ (by decide +kernel) (by decide +kernel),p,_,ws,k,_,zne,rfl,W,u1,ok1,(by decide),.inl T.zsg,λH1 W1 B1=>?_⟩;refine⟨_,rfl,p,ws,_,k+1,y,rfl,W1,ok2.1,ok2.2,hd1,λx H2 W2 B2 IW=>?_⟩;obtain⟨dx2,l2,at2,_⟩:=id W2;refine⟨_,rfl,p,dx2,_,rfl,at2,zfc _ _ (by decide +kernel) (by decide +kernel),sz1,λa ha=>?_⟩;refine⟨p,a,ws,_,_,["do"],rfl,W2.at (zcb ha _),u3,yia.mpr rfl,(by decide),.inr zia,λH3 W3 B3=>?_⟩;have B3':But p H2 H3:=(But.laid ha).trans B3;obtain⟨dx3,l3,at3,_⟩:=id W3;refine⟨_,rfl,p,dx3,_,rfl,at3,zfc _ _ (by decide +kernel) (by decide +kernel),_,rfl,_,_,rfl,rfl,zcgb ok1,λb hb=>?_⟩;refine⟨p,b,ws,_,_,turns u,rfl,W3,u4,ok3,zbgb u,.inl hb,λH4 W4 B4=>?_⟩;obtain⟨dx4,l4,at4,_⟩:=id W4;refine⟨_,rfl,_,rfl,_,rfl,_,rfl,_,rfl,p,ws,_,_,v,rfl,W4,ok4,hd4,λH5 W5 B5=>?_⟩;refine⟨sz5,λb hb=>?_⟩;have en:k+1+y.words.length+1+1+v.words.length=ws.length:=by
   have:=zfw hd3 (ybc _ _);rw[yka] at this;omega
  rw[en] at W5;exact q _ _ (W5.at (zcb hb _)) ((B1.trans (B2.trans (B3'.trans (B4.trans B5)))).trans (But.laid hb)) ⟨b,x,rfl,zia,(((IW.but B3' at2).but B4 at3).but B5 at4).same (zcb hb _)⟩
 | hold=>exact is.elim
 | wen=>exact is.elim
 | may=>exact is.elim
theorem zcbb (T:Tx K mg)(kb:K.In base):FnOk P w K mg base CX0 7 T.zyf.f T.zyf.d zwo (zav T.zqb T.zgd zvtb):=by
 refine T.zyf.ok zxq ?_;rintro f c A o s H vs Q E hr ⟨p,ws,k,r,rfl,is,W,ok,hd,q⟩ X;refine⟨_,  (zca (zta (i:=1) zxq.nd rfl (.inl rfl) (zxc (pv 0) T.zfb T.zab.M (zxb T).up hr (zcc T) .nil zpa))
  (zca (zfe (zth (pv 0) T.zfb T.zla.M (zdb T).up hr (zjb T) .nil zpa (zaa (zyc (zaa zoa zba)) zba)))
  (zda (zua (zyc (zaa zoa (zaa (pv 1) (zaa (zga (ztp T kb) hr rfl T.zkd.m T.zkd.F.kp (zms T) .nil zpa (zaa (pv 0) zba)) zba)))))))),?_⟩
 cases r with
 | may c d =>
  obtain⟨dx,l,h1,h2⟩:=id W;obtain⟨ok1,ok2⟩:=ok;obtain⟨u1,hd1⟩:=zwb (show ws.drop k=(toString (c:Int):Str)::("do":Str)::d.words from hd);obtain⟨u3,hd3⟩:=zwb hd1;refine⟨_,rfl,p,dx,_,rfl,h1,zfc _ _ (by decide +kernel) (by decide +kernel),p,ws,k,c,rfl,W,u1,ok1,λH2 W2 B2=>?_⟩;obtain⟨dx2,l2,at2,_⟩:=id W2;refine⟨_,rfl,p,dx2,_,rfl,at2,zfc _ _ (by decide +kernel) (by decide +kernel),sz1,λa ha=>?_⟩;refine⟨p,a,ws,_,_,["do"],rfl,W2.at (zcb ha _),u3,yia.mpr rfl,(by decide),.inr zia,λH3 W3 B3=>?_⟩;have B3':But p H2 H3:=(But.laid ha).trans B3;refine⟨_,rfl,_,rfl,p,ws,_,d,rfl,W3,ok2,hd3,λz H4 W4 B4 ID=>?_⟩;refine⟨sz3,λb hb=>?_⟩;exact q _ _ (W4.at (zcb hb _)) ((B2.trans (B3'.trans B4)).trans (But.laid hb)) ⟨b,z,rfl,zia,ID.same (zcb hb _)⟩
 | hold=>exact is.elim
 | wen=>exact is.elim
 | instead=>exact is.elim
def zogb:Rule->Str
 | .hold _ _ _=>"hold"
 | .wen _ _ _=>"when"
 | .instead _ _ _ _=>"instead"
 | .may _ _=>"may"
theorem zxgb (r:Rule):r.words=(zogb r)::r.words.drop 1:=by cases r<;>rfl
theorem zwgb (r:Rule):(zogb r)∈sorts:=by
 cases r with
 | hold=>exact (by decide:("hold":Str)∈sorts)
 | wen=>exact (by decide:("when":Str)∈sorts)
 | instead=>exact (by decide:("instead":Str)∈sorts)
 | may=>exact (by decide:("may":Str)∈sorts)
theorem zzfb (v:Wv):v.words.length≤1:=by cases v<;>simp[Wv.words]
theorem zdx {y:Wh}(h:plain y):y.words.length≤18:=by
 have a:=y.zcx;have b:=h.2;omega
theorem zisb {u:Str}{v:Hv}(h:zci u v):v.words.length≤18:=by
 cases v with
 | v x=>exact ykb (zzfb x) (by decide)
 | w y =>
  cases h with
  | per h=>exact zdx h
theorem zvdb {d:Deed}(h:d.ok):d.words.length≤21:=by
 have a:=zdx h.whom;have b:=zzfb d.amt;have e:d.words.length=d.amt.words.length+d.whom.words.length+1+1:=by
  show (d.each::d.kind::(d.amt.words++d.whom.words)).length=_
  rw[yka,yka,yfa]
 omega
theorem zmkb {r:Rule}(h:r.ok):r.words.length≤50:=by
 cases r with
 | hold u v y =>
  have a:=zdx h.2;have b:=zisb h.1;show (("hold":Str)::u::(v.words++y.words)).length≤50
  rw[yka,yka,yfa];omega
 | wen u y d =>
  have a:=zdx h.2.1;have b:=zvdb h.2.2;show (("when":Str)::u::(y.words++("do":Str)::d.words)).length≤50
  rw[yka,yka,yfa,yka];omega
 | instead u y t v =>
  have a:=zdx h.2.1;have b:=zzfb v;show (("instead":Str)::u::(y.words++("do":Str)::t::v.words)).length≤50
  rw[yka,yka,yfa,yka,yka];omega
 | may c d =>
  have b:=zvdb h.2;show (("may":Str)::(toString (c:Int):Str)::("do":Str)::d.words).length≤50
  rw[yka,yka,yka];omega
theorem text_len {ws:List Str}(h:∀u∈ws,zsu u):(ywa " " ws).length≤9*ws.length:=by
 have a:=zxj " " ws;have c:=zdn (l:=ws.map (·.length)) (k:=8) (λx hx=>by
  obtain⟨u,hu,rfl⟩:=yac.mp hx;exact (h u hu).2.2)
 rw[yaa] at c;have e:(" ":Str).length=1:=rfl;rw[e] at a;omega
theorem zlr {r:Rule}(h:r.ok):(zuf r).length≤450:=by
 have a:=text_len (ws:=r.words) (λu hu=>(Rule.zzg h u hu).1);have b:=zmkb h;show (ywa " " r.words).length≤450
 omega
def zgqb (D:Addr):Sp:=λvs H Q _=>∃r:Rule,vs=[.str (zuf r)]∧r.ok∧∀v H',Same H H'->zxp D H' v r->Q v H'
theorem zfy (T:Tx K mg)(kb:K.In base):FnOk P w K mg base CX0 8 T.zse.f T.zse.d zrm (zgqb T.zgd):=by
 refine T.zse.ok zde ?_;rintro f c A o s H vs Q E hr ⟨r,rfl,ok,q⟩ X;refine⟨_,  (zca (zta (i:=1) zde.nd rfl (.inl rfl) (zlv T.zjc.M (zedb T).up hr rfl T.zkbb (zjk T) .nil zpa (zaa (pv 0) zba)))
  (zca (zta (i:=2) zde.nd rfl (.inl rfl) (zth (pv 1) T.zfb T.zla.M (zdb T).up hr (zjb T) .nil zpa (zaa (zsb (v:=.ref T.zvw) rfl T.zcw rfl) zba)))
  (zca (zub (zma zad (pv 2) zoa (zeb _))
   (zda (zta (i:=3) zde.nd rfl (.inl rfl) (zga (zey T kb) hr rfl T.zre.m T.zre.F.kp (zubb T) .nil zpa (zaa (pv 1) zba))))
   (zda (zub (zma zad (pv 2) zoa (zeb _))
    (zda (zta (i:=3) zde.nd rfl (.inl rfl) (zga (zdy T kb) hr rfl T.zqe.m T.zqe.F.kp (ztbb T) .nil zpa (zaa (pv 1) zba))))
    (zda (zub (zma zad (pv 2) zoa (zeb _))
     (zda (zta (i:=3) zde.nd rfl (.inl rfl) (zga (zur T kb).up hr rfl T.zdd.m T.zdd.F.kp (zkt T) .nil zpa (zaa (pv 1) zba))))
     (zda (zta (i:=3) zde.nd rfl (.inl rfl) (zga (zcbb T kb) hr rfl T.zyf.m T.zyf.F.kp (zofb T) .nil zpa (zaa (pv 1) zba)))))))))
  (zca (zfe (zxc (pv 1) T.zfb T.zuc.M (ztk T).up hr (zzl T) .nil zpa))
  (zda (zua (pv 3))))))),?_⟩
 have tl:=zlr ok;refine⟨_,rfl,?_⟩;intro x dx nx ndx nex;refine⟨x,dx,_,rfl,zia,(by omega),λH1 W1 B1=>⟨rfl,?_⟩⟩;have es:ytf (zuf r) " " = r.words:=zdo (c:=32) r.zod (λu hu=>(Rule.zzg ok u hu).1.1);rw[es] at W1;have S1:Same H H1:=λb o e=>B1 b o (zka e nx) (by rw[zlb (zka e nx),zlb (zka e ndx)];exact e);obtain⟨dx1,l1,at1,_⟩:=id W1;refine⟨_,rfl,x,dx1,_,rfl,at1,zfc _ _ (by decide +kernel) (by decide +kernel),x,_,r.words,0,(zogb r),sorts,rfl,W1,(by rw[zxgb r];rfl),zwgb r,(by decide),.inl T.zxv,λH2 W2 B2=>?_⟩;have fin:∀{v:V} {H3:Hp},WAt T.zqb H3 x r.words r.words.length->But x H2 H3->zxp T.zgd H3 v r->Q v H3:=λ{v H3} W3 B3 IR =>
  q v H3 (λb o e=>B3 b o (zka e nx) (B2 b o (zka e nx) (S1 b o e))) IR
 refine⟨_,rfl,rfl,_,rfl,?_⟩;cases r with
 | hold u v y =>
  refine iteT ⟨_,rfl,x,_,1,.hold u v y,rfl,trivial,W2,ok,rfl,λz H3 W3 B3 IR=>?_⟩;obtain⟨dx3,l3,at3,_⟩:=id W3;exact⟨_,rfl,x,dx3,_,rfl,at3,zfc _ _ (by decide +kernel) (by decide +kernel),x,_,rfl,W3,⟨_,rfl,fin W3 B3 IR⟩⟩
 | wen u y d =>
  refine iteF ⟨_,rfl,rfl,_,rfl,iteT ⟨_,rfl,x,_,1,.wen u y d,rfl,trivial,W2,ok,rfl,λz H3 W3 B3 IR=>?_⟩⟩;obtain⟨dx3,l3,at3,_⟩:=id W3;exact⟨_,rfl,x,dx3,_,rfl,at3,zfc _ _ (by decide +kernel) (by decide +kernel),x,_,rfl,W3,⟨_,rfl,fin W3 B3 IR⟩⟩
 | instead u y t v =>
  refine iteF ⟨_,rfl,rfl,_,rfl,iteF ⟨_,rfl,rfl,_,rfl,iteT ⟨_,rfl,x,_,1,.instead u y t v,rfl,trivial,W2,ok,rfl,λz H3 W3 B3 IR=>?_⟩⟩⟩;obtain⟨dx3,l3,at3,_⟩:=id W3;exact⟨_,rfl,x,dx3,_,rfl,at3,zfc _ _ (by decide +kernel) (by decide +kernel),x,_,rfl,W3,⟨_,rfl,fin W3 B3 IR⟩⟩
 | may c d =>
  refine iteF ⟨_,rfl,rfl,_,rfl,iteF ⟨_,rfl,rfl,_,rfl,iteF ⟨_,rfl,x,_,1,.may c d,rfl,trivial,W2,ok,rfl,λz H3 W3 B3 IR=>?_⟩⟩⟩;obtain⟨dx3,l3,at3,_⟩:=id W3;exact⟨_,rfl,x,dx3,_,rfl,at3,zfc _ _ (by decide +kernel) (by decide +kernel),x,_,rfl,W3,⟨_,rfl,fin W3 B3 IR⟩⟩
def cfs (n:Str)(c f:Nat)(m t:Addr):List (Str×V):=[("name",.str n),("cost",.int c),("force",.int f),("marks",.ref m),("rules",.ref t)]
inductive IsRules (D:Addr)(H:Hp):List V->List Rule->Prop where
 | nil:IsRules D H [] []
 | cons {v:V} {r:Rule} {vs:List V} {rs:List Rule}:zxp D H v r->IsRules D H vs rs->IsRules D H (v::vs) (r::rs)
theorem IsRules.same {D:Addr}{H H':Hp}(s:Same H H'):∀{vs:List V} {rs:List Rule},IsRules D H vs rs->IsRules D H' vs rs
 | _,_,.nil=>.nil
 | _,_,.cons h t=>.cons (h.same s) (t.same s)
theorem IsRules.snoc {D:Addr}{H:Hp}{v:V}{r:Rule}(h:zxp D H v r):∀{vs:List V} {rs:List Rule},IsRules D H vs rs->IsRules D H (vs++[v]) (rs++[r])
 | _,_,.nil=>.cons h .nil
 | _,_,.cons h' t=>.cons h' (IsRules.snoc h t)
theorem IsRules.length {D:Addr}{H:Hp}:∀{vs:List V} {rs:List Rule},IsRules D H vs rs->vs.length=rs.length
 | _,_,.nil=>rfl
 | _,_,.cons _ t=>congrArg (· + 1) t.length
def zdnb (B D:Addr)(H:Hp)(v:V)(c:Crd):Prop:=Ex5 λa dx m t vs=>v = .ref a∧H a=some (.ins B dx (cfs c.name c.cost c.force m t))∧H m=some (.tup (c.marks.map V.str))∧H t=some (.tup vs)∧IsRules D H vs c.rules
def ztnb:Sp:=λvs H Q _=>∃ms:List Str,vs=[.str (zwh ms)]∧Marks ms∧∀m H',Same H H'->H' m=some (.tup (ms.map V.str))->Q (.ref m) H'
def zoeb (B:Addr):Sp:=λvs H Q _=>Ex7 λx dx m t (n:Str) (c f:Nat)=>vs=[.ref x,.str n,.int c,.int f,.ref m,.ref t]∧H x=some (.ins B dx [])∧Q .non (upd H x (.ins B dx (cfs n c f m t)))
def zneb (B D:Addr):Sp:=λvs H Q _=>∃c:Crd,vs=[.str c.text]∧c.ok∧∀v H',Same H H'->zdnb B D H' v c->Q v H'
theorem zamb (n:Str)(c f:V)(m t:Addr):putF "rules" (.ref t) (putF "marks" (.ref m) (putF "force" f (putF "cost" c (putF "name" (.str n) []))))=([("name",.str n),("cost",c),("force",f),("marks",.ref m),("rules",.ref t)]:List (Str×V)):=by
 repeat (first|rw[zgo]|rw[ztj (by decide +kernel)])
theorem zyu {K:yda}{H:Hp}:∀xs:List Str,DVs K H (xs.map V.str) (xs.map .str)
 | []=>.nil
 | x::r=>.cons (.str x) (zyu r)
theorem zudb:∀xs:List Str,ykf (xs.map .str) (xs.map .str)=true
 | []=>by simp[ykf]
 | x::r=>by simp[ykf,yje,zudb r]
theorem znob (T:Tx K mg):FnOk P w K mg base CX0 2 T.zwc.f T.zwc.d zbi (zoeb T.zsf):=by
 refine T.zwc.ok zzp ?_;rintro f c A o s H vs Q E hr ⟨x,dx,m,t,n,c,f,rfl,hx,q⟩ X;refine⟨_,  (zca (zxl (pv 0) (pv 1) rfl)
  (zca (zxl (pv 0) (pv 2) rfl)
  (zca (zxl (pv 0) (pv 3) rfl)
  (zca (zxl (pv 0) (pv 4) rfl)
  (zda (zxl (pv 0) (pv 5) rfl)))))),?_⟩
 refine⟨_,rfl,_,rfl,x,_,dx,_,rfl,hx,T.zkm,T.zvj,(by show 0<1000;decide),?_⟩;refine⟨_,rfl,_,rfl,x,_,dx,_,rfl,zia,T.zkm,T.zwj,(by show 1<1000;decide),?_⟩;refine⟨_,rfl,_,rfl,x,_,dx,_,rfl,zia,T.zkm,T.zoi,(by show 2<1000;decide),?_⟩;refine⟨_,rfl,_,rfl,x,_,dx,_,rfl,zia,T.zkm,T.zrg,(by show 3<1000;decide),?_⟩;refine⟨_,rfl,_,rfl,x,_,dx,_,rfl,zia,T.zkm,T.zni,(by show 4<1000;decide),?_⟩;show Q .non _
 rw[zmk,zmk,zmk,zmk,zamb];exact q
theorem zidb {n:Str}(h:zje n):yxe (.str n)=true:=by
 rw[yxe];unfold PyData.strOk;rw[← Array.all_toList,ybg];intro c hc;have:=(h.2.2 c hc).2;simp;omega
theorem zvv:∀xs:List Str,(∀x∈xs,yxe (.str x)=true)->yyg (xs.map .str)=true
 | [],_=>by simp[yyg]
 | x::r,h=>by
  have h1:=h x yqa;have h2:=zvv r λy hy=>h y (ysa _ hy);rw[yob,yyg,h1,h2];rfl
theorem ziw:∀xs:List Str,yvg (xs.map .str)=0
 | []=>by simp[yvg]
 | x::r=>by simp[yvg,ymi,ziw r]
theorem zgp {ms:List Str}(h:∀m∈ms,zje m):ybe (.list (ms.map .str))=true:=by
 unfold ybe;rw[yxe,zvv ms (λx hx=>zidb (h x hx)),ymi,ziw];rfl
theorem zov (T:Tx K mg):FnOk P w K mg base CX0 3 T.zzd.f T.zzd.d zgl ztnb:=by
 refine T.zzd.ok zgn ?_;rintro f c A o s H vs Q E hr ⟨ms,rfl,hm,q⟩ X;refine⟨_,  (zca (zub (zma zad (pv 0) zoa (zeb _))
   (zda (zua (zyc zba)))
   zqa)
  (zca (zta (i:=1) zgn.nd rfl (.inl rfl) (zdi ygc ycj ydj ztv (pv 0) (zaa zoa zba)))
  (zca (zub (zgk (zof (zva (zqw rfl) rfl T.zgeb boot_all (zaa (zud (own:=["mark"]) (cap:=[]) rfl (znb.chk rfl rfl) .nil (zcg (pv 1)) (λ_ _ _ _=>(zkb (i:=0) (show ylc (["mark"]:List Str) by decide +kernel) rfl (.inl rfl))) (λ_ _ _ _=>zzc) (λ_ _ _ _=>by exact (zga (zdu T) hr rfl T.zkf.m T.zkf.F.kp (zxz T) .nil zpa (zaa (pv 0) zba)))) zba))))
   (zda zpf)
   zqa)
  (zca (zub (zma (zihb hr.units) (pv 1) (zva (zyh rfl) rfl T.zgf yfi (zaa (zza (zzn rfl) rfl T.zpab boot_set (zaa (pv 1) zba)) zba)) (zeb _))
   (zda zpf)
   zqa)
  (zda (zua (zza zbb rfl T.zec ysc (zaa (pv 1) zba)))))))),?_⟩
 refine⟨_,rfl,rfl,_,rfl,?_⟩
 by_cases hne:ms=[]
 ·subst hne;exact iteT ⟨sz0,λa ha=>q a _ (zcb ha _) zia⟩
 refine ite2 (λc=>?_) (λ_=>?_)
 ·exfalso;have c':=of_decide_eq_true c;injection c' with c'
  exact zrhb hm hne c'
 have ml:=zpl hm;have es:ytf (zwh ms) "," = ms:=zibb hm hne;refine⟨_,rfl,rfl,_,_,rfl,rfl,(by decide +kernel),(ykb (ydk ml.2 2) (by decide)),λl hl=>?_⟩;rw[es];have S1:=zcb hl (.lst (ms.map V.str));have e1:upd H l (.lst (ms.map V.str)) l=some (.lst (ms.map V.str)):=zia;generalize upd H l (.lst (ms.map V.str))=H1 at *;refine⟨_,rfl,l,rfl,⟨_,SqL.of e1⟩,?_⟩;refine zsd (xs:=ms.map V.str) (λi ys H'=>Same H1 H'∧i≤ms.length∧ys=((ms.take i).map isName).map V.bl) (λi ys H' z=>SqL.of (z.1 _ _ e1)) ⟨Same.refl _,ytb _,rfl⟩ ?_ ?_ ?_
 ·rintro i ys H' ⟨_,_,rfl⟩;rw[yaa,yaa,ycb];have:=hm.le;exact small (by omega)
 ·rintro i x ys H' hx ⟨S3,hi,rfl⟩;obtain⟨m,hmm,rfl⟩:∃m,ms[i]?=some m∧V.str m=x:=by
   rw[yna] at hx;cases z:ms[i]? with
   | none=>rw[z] at hx;cases hx
   | some m=>rw[z] at hx;cases hx;exact⟨m,rfl,rfl⟩
  have hmem:=ypa hmm;refine⟨rfl,_,rfl,m,rfl,(ykb (hm.ok m hmem).2.1 (by decide)),λH4 S4=>⟨S3.trans S4,?_,?_⟩⟩
  ·exact (yha.mp hmm).1
  ·rw[yfb,hmm,yua,yua];rfl
 ·rintro ys H2 ⟨S2,_,rfl⟩ b hb;rw[yaa,yhn];have S3:=zcb hb (.lst ((ms.map isName).map V.bl));refine⟨b,_,rfl,SqL.of zia,_,rfl,?_⟩;have al:(ms.map isName).all id=true:=by
   rw[ybg];intro x hx;obtain⟨m,hmm,rfl⟩:=yac.mp hx;exact zwr (hm.ok m hmm)
  rw[al];refine iteF ?_;have e3:=S3 _ _ (S2 _ _ e1);generalize upd H2 b (.lst ((ms.map isName).map V.bl))=H3 at *;have ml2:=hm.le;refine⟨_,rfl,_,rfl,l,ms,rfl,SqL.of e3,(by omega),λp hp=>?_⟩;have S4:∀o,Same H3 (upd H3 p o):=λo=>zcb hp o;refine⟨p,_,rfl,zia,(by rw[zwdb hm.nd];omega),λp2 ys hp2 py so=>?_⟩;have ey:=hm.same py so;subst ey;have S5:=zcb hp2 (.lst (ys.map V.str));refine⟨.list (ys.map .str),.list (ys.map .str),.lst (SqL.of (S5 _ _ (S4 _ _ _ e3))) (zyu _),.lst (SqL.of zia) (zyu _),zgp hm.ok,zgp hm.ok,_,rfl,?_⟩;have ev:(!PyData.eqv (.list (ys.map .str)) (.list (ys.map .str)))=false:=by
   rw[yje,zudb];rfl
  rw[ev];refine iteF ?_;refine⟨_,rfl,l,_,rfl,.inl ⟨SqL.of (S5 _ _ (S4 _ _ _ e3)),λt ht=>?_⟩⟩;exact q t _ (λc o e=>zcb ht _ _ _ (S5 _ _ (S4 _ _ _ (S3 _ _ (S2 _ _ (S1 _ _ e)))))) zia
theorem zjnb {c:Crd}(h:c.ok):c.text.length≤2000:=by
 have a:=zxj SL (ywa " " c.head::c.rules.map zuf);have b:=Crd.zaw h;have s:=zdn (l:=(c.rules.map zuf).map (·.length)) (k:=450) (λx hx=>by
  obtain⟨t,ht,rfl⟩:=yac.mp hx;obtain⟨r,hr,rfl⟩:=yac.mp ht;exact zlr (h.rules r hr))
 have e:SL.length=3:=rfl;have f:=h.few;rw[yob,yme,yka,e] at a;rw[yaa,yaa] at s;rw[yaa] at a;show (ywa SL (ywa " " c.head::c.rules.map zuf)).length≤2000
 have:c.rules.length*450≤3*450:=Nat.mul_le_mul_right _ f;omega
theorem zgy (T:Tx K mg)(kb:K.In base):FnOk P w K mg base CX0 9 T.zte.f T.zte.d zsm (zneb T.zsf T.zgd):=by
 refine T.zte.ok zee ?_;rintro f c A o s H vs Q E hr ⟨c,rfl,ok,q⟩ X;refine⟨_,  (zca (zub (zgk (zof (zva zoc rfl T.zob yed (zaa (pv 0) (zaa (zze (v:=.ty "str") rfl T.zbt yro rfl) zba)))))
   (zda zpf)
   zqa)
  (zca (zta (i:=1) zee.nd rfl (.inl rfl) (zdi ygc ycj ydj ztv (pv 0) (zaa zoa zba)))
  (zca (zub (zma zzkb (zva zmb rfl T.zyg yyb (zaa (pv 1) zba)) (zic zxf zfa (zsb (v:=.int 3) rfl T.zti ⟨_,rfl⟩)) (zeb _))
   (zda zpf)
   zqa)
  (zca (zta (i:=2) zee.nd rfl (.inl rfl) (zlv T.zjc.M (zedb T).up hr rfl T.zkbb (zjk T) .nil zpa (zaa (zya zwa (pv 1) zfa (λ_ _=>rfl)) zba)))
  (zca (zta (i:=3) zee.nd rfl (.inl rfl) (zxc (pv 2) T.zfb T.zrb.M (zwd T).up hr (zke T) .nil zpa))
  (zca (zta (i:=4) zee.nd rfl (.inl rfl) (zxc (pv 2) T.zfb T.zab.M (zxb T).up hr (zcc T) .nil zpa))
  (zca (zta (i:=5) zee.nd rfl (.inl rfl) (zxc (pv 2) T.zfb T.zab.M (zxb T).up hr (zcc T) .nil zpa))
  (zca (zta (i:=6) zee.nd rfl (.inl rfl) (zga (zov T).up hr rfl T.zzd.m T.zzd.F.kp (zwz T) .nil zpa (zaa (zxc (pv 2) T.zfb T.zpc.M (zqf T).up hr (zvg T) .nil zpa) zba)))
  (zca (zfe (zxc (pv 2) T.zfb T.zuc.M (ztk T).up hr (zzl T) .nil zpa))
  (zda (zua (zlv T.zwc.M (znob T).up hr rfl T.znmb (zos T) .nil zpa (zaa (pv 3) (zaa (pv 4) (zaa (pv 5) (zaa (pv 6) (zaa (zza zbb rfl T.zec ysc (zaa (zud (own:=["rule"]) (cap:=[]) rfl (znb.chk rfl rfl) .nil (zcg (zoe zuab (pv 1) (zbh zfa) zch)) (λ_ _ _ _=>(zkb (i:=0) (show ylc (["rule"]:List Str) by decide +kernel) rfl (.inl rfl))) (λ_ _ _ _=>zzc) (λ_ _ _ _=>by exact (zga (zfy T kb) hr rfl T.zse.m T.zse.F.kp (zvbb T) .nil zpa (zaa (pv 0) zba)))) zba)) zba))))))))))))))))),?_⟩
 have tl:=zjnb ok;refine⟨_,rfl,_,_,.type "str",true,rfl,TyOf.str _,.inl ⟨"str",rfl,rfl⟩,true,rfl,?_⟩;refine iteF ?_;have es:ytf c.text " / " = ywa " " c.head::c.rules.map zuf:=Crd.split ok;refine⟨_,rfl,rfl,_,_,rfl,rfl,(by decide +kernel),(ykb (ydk tl 2) (by decide)),λl hl=>?_⟩;rw[es];have S1:=zcb hl (.lst ((ywa " " c.head::c.rules.map zuf).map V.str));have e1:upd H l (.lst ((ywa " " c.head::c.rules.map zuf).map V.str)) l=some (.lst ((ywa " " c.head::c.rules.map zuf).map V.str)):=zia;generalize upd H l (.lst ((ywa " " c.head::c.rules.map zuf).map V.str))=H1 at *;refine⟨_,rfl,l,_,rfl,.inl (SqL.of e1),_,_,rfl,rfl,_,_,rfl,rfl,_,rfl,?_⟩;refine ite2 (λz=>?_) (λ_=>?_)
 ·exfalso;have z':=of_decide_eq_true z;rw[yaa,yka,yaa] at z';have:=ok.few;omega
 refine⟨_,rfl,l,_,_,_,rfl,rfl,SqL.of e1,zsa (j:=0) rfl,?_⟩;intro x dx nx ndx nex;have hl2:=Crd.zaw ok;refine⟨x,dx,_,rfl,zia,(by omega),λH2 W2 B2=>⟨rfl,?_⟩⟩;rw[show ytf (ywa " " c.head) " " = c.head from Crd.zifb ok] at W2;have S2:Same H1 H2:=λb o e=>B2 b o (zka e nx) (by rw[zlb (zka e nx),zlb (zka e ndx)];exact e);obtain⟨dx2,l2,at2,_⟩:=id W2;refine⟨_,rfl,x,dx2,_,rfl,at2,zfc _ _ (by decide +kernel) (by decide +kernel),x,c.head,0,c.name,rfl,W2,rfl,ok.name,λH3 W3 B3=>?_⟩;obtain⟨dx3,l3,at3,_⟩:=id W3;refine⟨_,rfl,x,dx3,_,rfl,at3,zfc _ _ (by decide +kernel) (by decide +kernel),x,c.head,1,c.cost,rfl,W3,rfl,ok.cost,λH4 W4 B4=>?_⟩;obtain⟨dx4,l4,at4,_⟩:=id W4;refine⟨_,rfl,x,dx4,_,rfl,at4,zfc _ _ (by decide +kernel) (by decide +kernel),x,c.head,2,c.force,rfl,W4,rfl,ok.force,λH5 W5 B5=>?_⟩;obtain⟨dx5,l5,at5,_⟩:=id W5;refine⟨_,rfl,x,dx5,_,rfl,at5,zfc _ _ (by decide +kernel) (by decide +kernel),x,c.head,3,zwh c.marks,rfl,W5,rfl,λH6 W6 B6=>?_⟩;refine⟨c.marks,rfl,ok.marks,λm H7 S7 em=>?_⟩;have W7:=W6.at S7;obtain⟨dx7,l7,at7,_⟩:=id W7;refine⟨_,rfl,x,dx7,_,rfl,at7,zfc _ _ (by decide +kernel) (by decide +kernel),x,c.head,rfl,W7,?_⟩;have S37:Same H H7:=λb o e=>by
  have n:=zka (S1 _ _ e) nx;exact S7 _ _ (B6 _ _ n (B5 _ _ n (B4 _ _ n (B3 _ _ n (S2 _ _ (S1 _ _ e))))))
 have nlx:=zka e1 nx;have e7:H7 l=some (.lst ((ywa " " c.head::c.rules.map zuf).map V.str)):=S7 _ _ (B6 _ _ nlx (B5 _ _ nlx (B4 _ _ nlx (B3 _ _ nlx (S2 _ _ e1)))));clear W2 W3 W4 W5 W6 at2 at3 at4 at5;refine⟨_,rfl,_,rfl,_,rfl,_,rfl,_,rfl,_,rfl,l,_,rfl,SqL.of e7,λs1 hs1=>?_⟩;have ct:cutV ((ywa " " c.head::c.rules.map zuf).map V.str) (some (1:Int)) none=(c.rules.map zuf).map V.str:=by
  have:=zyk ((ywa " " c.head::c.rules.map zuf).map V.str) 1;exact this
 rw[ct];have S8:=zcb hs1 (.lst ((c.rules.map zuf).map V.str));have e8:upd H7 s1 (.lst ((c.rules.map zuf).map V.str)) s1=some (.lst ((c.rules.map zuf).map V.str)):=zia;generalize upd H7 s1 (.lst ((c.rules.map zuf).map V.str))=H8 at *;refine⟨s1,rfl,⟨_,SqL.of e8⟩,?_⟩;refine zsd (xs:=(c.rules.map zuf).map V.str) (λi ys H'=>Same H8 H'∧i≤c.rules.length∧IsRules T.zgd H' ys (c.rules.take i)) (λi ys H' z=>SqL.of (z.1 _ _ e8)) ⟨Same.refl _,ytb _,.nil⟩ ?_ ?_ ?_
 ·rintro i ys H' ⟨_,_,R⟩;rw[R.length,ycb];have:=ok.few;exact small (by omega)
 ·rintro i v ys H' hx ⟨S3,hi,R⟩;obtain⟨r,hrr,rfl⟩:∃r,c.rules[i]?=some r∧V.str (zuf r)=v:=by
   rw[yna,yna] at hx;cases z:c.rules[i]? with
   | none=>rw[z] at hx;cases hx
   | some m=>rw[z] at hx;cases hx;exact⟨m,rfl,rfl⟩
  refine⟨rfl,_,rfl,r,rfl,ok.rules r (ypa hrr),λu H9 S9 IR=>⟨S3.trans S9,?_,?_⟩⟩
  ·exact (yha.mp hrr).1
  ·rw[yfb,hrr];exact IsRules.snoc IR (R.same S9)
 ·rintro ys H9 ⟨S9,_,R⟩ b hb;rw[yaa,yaa,yhn] at R;refine⟨b,_,rfl,.inl ⟨SqL.of zia,λt ht=>?_⟩⟩;have S10:=zcb hb (.lst ys);generalize upd H9 b (.lst ys)=H10 at *;have S11:=zcb ht (.tup ys);have e11:upd H10 t (.tup ys) t=some (.tup ys):=zia;have Sall:Same H (upd H10 t (.tup ys)):=λb o e=>S11 _ _ (S10 _ _ (S9 _ _ (S8 _ _ (S37 _ _ e))));have em11:=S11 _ _ (S10 _ _ (S9 _ _ (S8 _ _ em)));have R11:=R.same (S10.trans S11);generalize upd H10 t (.tup ys)=H11 at *;intro y dy ny ndy ney;have S12:∀o,Same H11 (upd (upd (upd H11 dy (.own y)) y (.ins T.zsf dy [])) y o):=λo b u e=>by
   rw[zmk,zlb (zka e ny),zlb (zka e ndy)];exact e
  refine⟨y,dy,m,t,c.name,c.cost,c.force,rfl,zia,rfl,?_⟩;exact q _ _ (Sall.trans (S12 _)) ⟨y,dy,m,t,ys,rfl,zia,S12 _ _ _ em11,S12 _ _ _ e11,R11.same (S12 _)⟩
theorem zin {H H':Hp}{p:Addr}(S:Same H H')(h:H p=none)(o:HO):Same H (upd H' p o):=λb u q=>by rw[zlb (zka q h)];exact S b u q
theorem none_of {H H':Hp}{p:Addr}(S:Same H H')(h:H' p=none):H p=none:=by
 cases e:H p with
 | none=>rfl
 | some o =>
  have z:=S _ _ e;rw[z] at h;cases h
@[elab_as_elim] theorem laid {H:Hp} {l:Addr} {o:HO} {motive:Hp->Prop} (hl:H l=none) (h:∀H1,Same H H1->H1 l=some o->motive H1):motive (upd H l o):=h _ (zcb hl o) zia
theorem zbnb {ns:List Int}{i:Int}(h0:0≤i)(h:i<(ns.length:Int)):∃z,atI (ns.map V.int) i=some (.int z)∧z∈ns:=by
 obtain⟨v,hv,hm⟩:=zojb (xs:=ns.map V.int) h0 (by rw[yaa];exact h);obtain⟨z,hz,rfl⟩:=yac.mp hm;exact⟨z,hv,hz⟩
theorem zbcb {ss:List Str}{r:Int}(h0:0≤r)(h1:r<(ss.length:Int)):∃u,atI (ss.map V.str) r=some (.str u)∧u∈ss:=by
 obtain⟨v,hv,hm⟩:=zojb (xs:=ss.map V.str) h0 (by rw[yaa];exact h1);obtain⟨u,hu,rfl⟩:=yac.mp hm;exact⟨u,hv,hu⟩
theorem zfu (x:Int){m:Int}(h:0<m):0≤x % m∧x % m<m:=⟨yxi x (by omega),ymh x h⟩
def ltr (r:Int):Nat:=(LL.cps.toList[r.toNat]?).getD 0
theorem zlbb:∀n:Nat,n<26->LL.cps.toList[n]?=some (97+n):=by decide +kernel
theorem zjdb {r:Int}(h0:0≤r)(h1:r<26):(ltr r:Int)=97+r:=by
 unfold ltr;rw[zlbb r.toNat (by omega)];show ((97+r.toNat:Nat):Int)=97+r
 omega
theorem zomb {r:Int}(h0:0≤r)(h1:r<26):atI LL.cps.toList r=some (ltr r):=by
 have q:=zsa (zlbb r.toNat (by omega));rw[show ((r.toNat:Nat):Int)=r by omega] at q;rw[q];unfold ltr;rw[zlbb r.toNat (by omega)];rfl
theorem zjrb (x:Int):97≤ltr (x % 26)∧ltr (x % 26)≤122:=by
 have m:=zfu x (m:=26) (by decide);have:=zjdb m.1 m.2;omega
def sgn (c:Nat):Str:=⟨#[c]⟩
theorem ziu:∀cs:List Nat,(ywa "" (cs.map sgn)).cps.toList=cs
 | []=>rfl
 | [c]=>rfl
 | c::d::r=>by
  have ih:=ziu (d::r);have e:ywa "" ((c::d::r).map sgn)=sgn c ++ "" ++ ywa "" ((d::r).map sgn):=rfl;rw[e];show ((#[c]++("":Str).cps)++(ywa "" ((d::r).map sgn)).cps).toList=_
  rw[yvf,ih];rfl
theorem zfx:∀cs:List Nat,((cs.map sgn).map (·.length)).sum=cs.length
 | []=>rfl
 | c::r=>by
  rw[yob,yob,yme,zfx r,yka];show 1+r.length=r.length+1
  omega
theorem zplb (n L:Nat)(h:n≤L):ywf none (some (n:Int)) 1 L=yuc n:=by
 unfold ywf;dsimp only;have e:(if (1:Int)>0 then max 0 (min (if (n:Int)<0 then (n:Int)+(L:Int) else (n:Int)) (L:Int)) else max (-1) (min (if (n:Int)<0 then (n:Int)+(L:Int) else (n:Int)) ((L:Int)-1)))=(n:Int):=by
  rw[if_pos (by decide),if_neg (by omega)];omega
 rw[e,if_pos (by decide)];have z:=yto 0 n;rw[yqo] at z;rw[show ((0:Int))=((0:Nat):Int) from rfl,z];simp
theorem zor {x:Array Nat}:∀n:Nat,n≤x.size->(yuc n).filterMap (λj=>x[j]?)=x.toList.take n
 | 0,_=>rfl
 | n+1,h=>by
  rw[yko,ymo,zor n (by omega),yfb];have e:x.toList[n]?=x[n]?:=by rw[ydb]
  have hn:n<x.size:=by omega
  have e2:x[n]?=some x[n]:=ynb hn;rw[e,ydi,e2,List.filterMap_nil];rfl
theorem zseb (x:Str)(n:Nat)(h:n≤x.length):ywn x none (some (n:Int))=⟨(x.cps.toList.take n).toArray⟩:=by
 unfold ywn;rw[zplb n x.length h,yke]
 by_cases e:n=x.length
 ·subst e;rw[if_pos (by simp)];have:x.cps.toList.take x.length=x.cps.toList:=yta (by simp[yvr]);rw[this,yae]
 ·rw[if_neg (by simp[e])];rw[show (λj=>x.cps[j]?)=(λj=>x.cps[j]?) from rfl];have z:=zor (x:=x.cps) n h;rw[← z]
def zlqb (K:yda):Sp:=λvs H Q _=>Ex3 λa (ns:List Int) (k:Int)=>vs=[.ref a,.int k]∧SqL K H a (ns.map V.int)∧ns.length≤63∧0≤k∧k≤10000000∧∀z:Int,Q (.int z) H
theorem zly (T:Tx K mg):FnOk P w K mg base CX0 2 T.zve.f T.zve.d zvm (zlqb K):=by
 refine T.zve.ok zii ?_;rintro f c A o s H vs Q E hr ⟨a,ns,k,rfl,hS,h63,k0,k9,q⟩ X;refine⟨_,  (zca (zub (zma zafb (pv 1) (zva zmb rfl T.zyg yyb (zaa (pv 0) zba)) (zeb _))
   (zda (zua (zya zwa (pv 0) (pv 1) (λ_ _=>rfl))))
   zqa)
  (zca (zta (i:=2) zii.nd rfl (.inl rfl) (zic zxf zfa (pv 1)))
  (zca (zub (zma zzkb (zva zmb rfl T.zyg yyb (zaa (pv 0) zba)) zfa (zeb _))
   (zda (zta (i:=2) zii.nd rfl (.inl rfl) (zic zxf (pv 2) (zic zay (zic ztr (zya zwa (pv 0) (zic ztr (zic zxf (zic zay zfa (pv 1)) zfa) (zva zmb rfl T.zyg yyb (zaa (pv 0) zba))) (λ_ _=>rfl)) zfa) (zic zxf (zic ztr (pv 1) zfa) zfa)))))
   zqa)
  (zca (zta (i:=3) zii.nd rfl (.inl rfl) (zic ztr (zic zay (pv 2) zfa) zfa))
  (zda (zua (zic ztr (zic zay (pv 3) (pv 3)) zfa))))))),?_⟩
 have hl:(ns.map V.int).length=ns.length:=yaa _;refine⟨_,rfl,_,rfl,a,_,rfl,.inl hS,_,_,rfl,rfl,_,rfl,?_⟩;refine ite2 (λc=>?_) (λc=>?_)
 ·have c':k<(((ns.map V.int).length:Nat):Int):=of_decide_eq_true c;obtain⟨z,hz⟩:=znjb (ns:=ns) k0 (by omega);exact⟨_,rfl,_,rfl,a,_,_,_,rfl,rfl,hS,hz,q z⟩
 ·have big:∀c:Int,0≤c % 2147483629∧c % 2147483629<2147483629:=λc=>⟨yxi c (by omega),ymh c (by omega)⟩;have fin:∀z:Int,CMul (z*48271 % 2147483629) (z*48271 % 2147483629):=λz=>.inl ⟨by have:=big (z*48271);omega,by have:=big (z*48271);omega⟩;refine⟨_,rfl,_,_,rfl,rfl,?_⟩;refine⟨_,rfl,a,_,rfl,.inl hS,_,_,rfl,rfl,_,rfl,?_⟩;refine ite2 (λc=>?_) (λc=>?_)
  ·have c':(0:Int)<(((ns.map V.int).length:Nat):Int):=of_decide_eq_true c;have n0:0≤(3*k+1) % (((ns.map V.int).length:Nat):Int):=yxi _ (by omega);have n1:(3*k+1) % (((ns.map V.int).length:Nat):Int)<(((ns.map V.int).length:Nat):Int):=ymh _ c';obtain⟨z,hz⟩:=znjb (ns:=ns) n0 (by omega);refine⟨_,rfl,_,rfl,_,rfl,_,_,rfl,rfl,.inl ⟨by decide,by decide⟩,_,_,rfl,rfl,_,rfl,a,_,rfl,.inl hS,_,_,rfl,rfl,c',a,_,_,_,rfl,rfl,hS,hz,_,_,rfl,rfl,(by show (0:Int)<1000003;decide),_,rfl,_,_,rfl,rfl,(by show (0:Int)<97;decide),_,_,rfl,rfl,_,_,rfl,rfl,.inr ⟨by have:=zfu k (m:=97) (by decide);omega,by have:=zfu k (m:=97) (by decide);omega⟩,_,_,rfl,rfl,?_⟩;exact⟨_,rfl,_,_,rfl,rfl,.inr ⟨by decide,by decide⟩,_,_,rfl,rfl,(by show (0:Int)<2147483629;decide),_,rfl,_,rfl,_,_,rfl,rfl,fin _,_,_,rfl,rfl,(by show (0:Int)<2147483629;decide),q _⟩
  ·exact⟨_,rfl,_,_,rfl,rfl,.inr ⟨by decide,by decide⟩,_,_,rfl,rfl,(by show (0:Int)<2147483629;decide),_,rfl,_,rfl,_,_,rfl,rfl,fin _,_,_,rfl,rfl,(by show (0:Int)<2147483629;decide),q _⟩
theorem zna (T:Tx K mg):FnOk P w K mg base CX0 3 T.zea.f T.zea.d zum (zfqb K):=by
 refine T.zea.ok zjp ?_;rintro f c A o s H vs Q E hr ⟨p,k,m,rfl,TT,hk,hm,q⟩ X;refine⟨_,  (zca (zta (i:=2) zjp.nd rfl (.inl rfl) (zic ztr (zga (zly T) hr rfl T.zve.m T.zve.F.kp (zybb T) .nil zpa (zaa (zya zwa (pv 0) zfa (λ_ _=>rfl)) (zaa (zya zwa (pv 0) zfa (λ_ _=>rfl)) zba))) (pv 1)))
  (zca (zpg (zic zxf (zya zwa (pv 0) zfa (λ_ _=>rfl)) zfa) (zij (pv 0) zfa set_list))
  (zda (zua (pv 2))))),?_⟩
 obtain⟨⟨a,ns,h1,h2,h3⟩,lo⟩:=TT;have S0:SqL K H a (ns.map V.int):=h2.sq;refine⟨_,rfl,p,_,_,_,rfl,rfl,SqL.of h1,rfl,_,rfl,p,_,_,_,rfl,rfl,SqL.of h1,rfl,a,ns,k,rfl,S0,h3,lo,by omega,λz=>⟨_,rfl,_,_,rfl,rfl,hm,?_⟩⟩;refine⟨_,rfl,p,_,_,_,rfl,rfl,SqL.of h1,rfl,_,_,rfl,rfl,_,rfl,p,_,_,_,rfl,rfl,h1,rfl,?_⟩;have B:But p H (upd H p (.lst [.ref a,.int (k+1)])):=But.put;have T1:Tk K (upd H p (.lst [.ref a,.int (k+1)])) p (k+1):=⟨⟨a,ns,zia,h2.keep λo u z=>by rw[zlb (zpn z h1 (by intro y;cases y))];exact z,h3⟩,by omega⟩;have big:0≤z % m∧z % m<m:=⟨yxi z (by omega),ymh z hm⟩;exact⟨_,rfl,q _ _ big.1 big.2 B T1⟩
def zgkb (K:yda):Sp:=λvs H Q _=>Ex2 λp (k:Int)=>vs=[.ref p]∧Tk K H p k∧k≤900000∧∀(r:Nat) (k':Int) H',r<1000->But p H H'->Tk K H' p k'->k'≤k+2->Q (.int (r:Int)) H'
theorem zit (T:Tx K mg):FnOk P w K mg base CX0 4 T.znd.f T.znd.d zbk (zgkb K):=by
 refine T.znd.ok zet ?_;rintro f c A o s H vs Q E hr ⟨p,k,rfl,TT,hk,q⟩ X;refine⟨_,  (zca (zub (zma zad (zga (zna T) hr rfl T.zea.m T.zea.F.kp (zra T) .nil zpa (zaa (pv 0) (zaa zfa zba))) zfa (zeb _))
   (zda (zua (zga (zna T) hr rfl T.zea.m T.zea.F.kp (zra T) .nil zpa (zaa (pv 0) (zaa zfa zba)))))
   zqa)
  (zda (zua (zga (zna T) hr rfl T.zea.m T.zea.F.kp (zra T) .nil zpa (zaa (pv 0) (zaa zfa zba)))))),?_⟩
 refine⟨_,rfl,p,k,4,rfl,TT,by omega,by decide,λr H1 r0 r1 B1 T1=>⟨rfl,_,rfl,?_⟩⟩;refine ite2 (λc=>?_) (λc=>?_)
 ·refine⟨_,rfl,p,k+1,1000,rfl,T1,by omega,by decide,λr2 H2 a b B2 T2=>?_⟩;obtain⟨n,rfl⟩:∃n:Nat,r2=(n:Int):=⟨r2.toNat,by omega⟩;exact q n _ H2 (by omega) (B1.trans B2) T2 (by omega)
 ·refine⟨_,rfl,p,k+1,5,rfl,T1,by omega,by decide,λr2 H2 a b B2 T2=>?_⟩;obtain⟨n,rfl⟩:∃n:Nat,r2=(n:Int):=⟨r2.toNat,by omega⟩;exact q n _ H2 (by omega) (B1.trans B2) T2 (by omega)
theorem zolb (n L:Nat)(h:n≤L):ywf (some (n:Int)) none 1 L=(yuc (L-n)).map (n+·):=by
 unfold ywf;dsimp only;have e:(if (1:Int)>0 then max 0 (min (if (n:Int)<0 then (n:Int)+(L:Int) else (n:Int)) (L:Int)) else max (-1) (min (if (n:Int)<0 then (n:Int)+(L:Int) else (n:Int)) ((L:Int)-1)))=(n:Int):=by
  rw[if_pos (by decide),if_neg (by omega)];omega
 rw[e,if_pos (by decide)];exact yto n L
theorem zreb (x:Str)(n:Nat)(h:n≤x.length):ywn x (some (n:Int)) none=⟨(x.cps.toList.drop n).toArray⟩:=by
 have hl:x.cps.size=x.length:=rfl;unfold ywn;rw[zolb n x.length h]
 by_cases e:n=0
 ·subst e;rw[if_pos (by simp)];rw[yqj,yae]
 ·rw[if_neg (by simp;omega)];have z:=zor (x:=(x.cps.toList.drop n).toArray) (x.length-n) (by simp[hl]);rw[yta (by simp[hl])] at z;rw[ygl]
  congr 1
  rw[show (x.cps.toList.drop n)=(x.cps.toList.drop n).toArray.toList by simp,← z]
  congr 1
  congr 1
  funext j
  show x.cps[n+j]?=(List.drop n x.cps.toList).toArray[j]?
  rw[← ydb (xs:=(List.drop n x.cps.toList).toArray),ydp,ybf,ydb]
structure N4 (H:Hp)(nl:Addr)(ns:List Str):Prop where
 at_:H nl=some (.lst (ns.map V.str))
 len:ns.length=4
 ok:∀n∈ns,zje n
 nd:ns.Nodup
def nmIn (cs:List Nat)(a c:Nat):Str:=⟨(cs.take a).toArray⟩++sgn c++⟨(cs.drop a).toArray⟩
theorem zpy (cs:List Nat)(a c:Nat):(nmIn cs a c).cps.toList=cs.take a++c::cs.drop a:=by
 show ((cs.take a).toArray++#[c]++(cs.drop a).toArray).toList=_
 simp
theorem zqob {cs:List Nat}{a c:Nat}(h8:cs.length<8)(hc:97≤c∧c≤122)(hs:∀x∈cs,97≤x∧x≤122):zje (nmIn cs a c):=by
 have e:=zpy cs a c;have el:(nmIn cs a c).length=cs.length+1:=by
  have q:=congrArg ybh e;rw[yga,yfa,yka,ycb,yjd] at q;have q':(nmIn cs a c).length=min a cs.length+(cs.length-a+1):=q;omega
 refine⟨by omega,by omega,?_⟩;rw[e];intro x hx
 rcases ysb.mp hx with z|z
 ·exact hs x (List.mem_of_mem_take z)
 ·rcases yma.mp z with z|z
  ·rw[z];exact hc
  ·exact hs x (List.mem_of_mem_drop z)
theorem zclb {cs:List Nat}{a c d:Nat}(h:nmIn cs a c=nmIn cs a d):c=d:=by
 have e:=congrArg (λz:Str=>z.cps.toList) h;simp only[zpy] at e;have f:=List.append_cancel_left e;injection f
def zlgb (K:yda):Sp:=λvs H Q _=>Ex2 λp (k:Int)=>vs=[.ref p]∧Tk K H p k∧k≤900000∧∀nl (ns:List Str) (k':Int) H',But p H H'->Tk K H' p k'->k'≤k+11->H nl=none->N4 H' nl ns->Q (.ref nl) H'
theorem zqv (T:Tx K mg):FnOk P w K mg base CX0 4 T.zbe.f T.zbe.d zjl (zlgb K):=by
 refine T.zbe.ok znf ?_;rintro f c A o s H vs Q E hr ⟨p,k,rfl,TT,hk,q⟩ X;refine⟨_,  (zca (zta (i:=1) znf.nd rfl (.inr rfl) zoa)
  (zca (zta (i:=2) znf.nd rfl (.inr rfl) (zdi ygc yvd ywd zem zoa (zaa (zud (own:=["_law_k"]) (cap:=["_law_letters","_law_pen"]) rfl (znb.chk rfl rfl) (.cons (j:=1) rfl (.inl rfl) (.inl rfl) (.cons (j:=0) rfl (.inl rfl) (.inl rfl) .nil)) (zrd rfl T.zpe (zaa (zga (zna T) hr rfl T.zea.m T.zea.F.kp (zra T) .nil zpa (zaa (pv 0) (zaa zfa zba))) zba)) (λ_ _ _ _=>(zkb (i:=0) (show ylc (["_law_k","_law_letters","_law_pen"]:List Str) by decide +kernel) rfl (.inl rfl))) (λ_ _ _ _=>zzc) (λ_ _ _ _=>by exact (zya zodb (pv 1) (zga (zna T) hr rfl T.zea.m T.zea.F.kp (zra T) .nil zpa (zaa (pv 2) (zaa zfa zba))) (λ_ _=>rfl)))) zba)))
  (zca (zta (i:=3) znf.nd rfl (.inr rfl) (zga (zna T) hr rfl T.zea.m T.zea.F.kp (zra T) .nil zpa (zaa (pv 0) (zaa (zic zxf (zva zcl rfl T.zyg yyb (zaa (pv 2) zba)) zfa) zba))))
  (zca (zta (i:=4) znf.nd rfl (.inr rfl) (zga (zna T) hr rfl T.zea.m T.zea.F.kp (zra T) .nil zpa (zaa (pv 0) (zaa zfa zba))))
  (zda (zua (zud (own:=["_law_k"]) (cap:=["_law_base","_law_letters","_law_at","_law_first"]) rfl (znb.chk rfl rfl) (.cons (j:=2) rfl (.inl rfl) (.inl rfl) (.cons (j:=1) rfl (.inl rfl) (.inl rfl) (.cons (j:=3) rfl (.inl rfl) (.inl rfl) (.cons (j:=4) rfl (.inl rfl) (.inl rfl) .nil)))) (zrd rfl T.zpe (zaa zfa zba)) (λ_ _ _ _=>(zkb (i:=0) (show ylc (["_law_k","_law_base","_law_letters","_law_at","_law_first"]:List Str) by decide +kernel) rfl (.inl rfl))) (λ_ _ _ _=>zzc) (λ_ _ _ _=>by exact (zic zjj (zic zjj (zoe zjmb (pv 1) zch (zbh (pv 3))) (zya zodb (pv 2) (zic ztr (zic zxf (pv 4) (zic zay zfa (pv 0))) zfa) (λ_ _=>rfl))) (zoe zjmb (pv 1) (zbh (pv 3)) zch)))))))))),?_⟩
 refine⟨rfl,_,rfl,p,k,8,rfl,TT,by omega,by decide,λm0 H1 m1 m2 B1 T1=>?_⟩;obtain⟨m,rfl⟩:∃m:Nat,m0=(m:Int):=⟨m0.toNat,by omega⟩;refine⟨_,rfl,by omega,by omega,?_⟩;rw[yib];refine ztd (λj ys Hx=>Ex2 λ(cs:List Nat) (k':Int)=>But p H Hx∧Tk K Hx p k'∧k'≤k+1+(j:Int)∧j≤m∧cs.length=j∧(∀c∈cs,97≤c∧c≤122)∧ys=(cs.map sgn).map V.str) ⟨[],_,B1,T1,by omega,ytb _,rfl,by simp,rfl⟩ ?_ ?_ ?_
 ·rintro j ys Hx ⟨cs,k',_,_,_,hj,hl,_,rfl⟩;rw[yaa,yaa,hl];exact small (by omega)
 ·rintro j ys Hx hj ⟨cs,k',B,T2,hk',_,hl,hc,rfl⟩;refine⟨rfl,_,rfl,_,rfl,p,k',26,rfl,T2,by omega,by decide,λr H2 r0 r1 B2 T3=>?_⟩;refine⟨LL,_,_,rfl,rfl,(by decide +kernel),zomb r0 r1,cs++[ltr r],_,B.trans B2,T3,by omega,hj,by rw[yfa,hl];rfl,?_,?_⟩
  ·intro c z
   rcases ysb.mp z with y|y
   ·exact hc c y
   ·rw[yia.mp y];have:=zjdb r0 r1;omega
  ·rw[yua,yua];rfl
 ·rintro ys Hx ⟨cs,k',B,T2,hk',_,hl,hc,rfl⟩ sl hsl;refine laid hsl λH3 S3 e3=>?_;have B3:But p H H3:=B.trans (But.same S3);have T3:=T2.same S3;have nsl:p≠sl:=T2.ne hsl;refine⟨"",sl,cs.map sgn,rfl,rfl,SqL.of e3,?_,?_⟩
  ·rw[zfx,hl];have z0:("":Str).length=0:=rfl;rw[z0];omega
  have hx:=ziu cs;generalize ywa "" (cs.map sgn)=x at hx ⊢;have xl:x.length=m:=by
   have z:=congrArg ybh hx;rw[yga,hl] at z;exact z
  have s1000:∀{n:Nat},n≤1000->n≤yza:=λ{n} h=>yge (zle h);refine⟨_,rfl,_,rfl,x,rfl,s1000 (by omega),_,_,rfl,rfl,p,k',(m:Int)+1,(by rw[xl];rfl),T3,by omega,by omega,λa0 H4 a1 a2 B4 T4=>?_⟩;obtain⟨a,rfl⟩:∃a:Nat,a0=(a:Int):=⟨a0.toNat,by omega⟩;refine⟨_,rfl,p,_,26,rfl,T4,by omega,by decide,λf0 H5 f1 f2 B5 T5=>?_⟩;have B05:=B3.trans (B4.trans B5);refine⟨4,rfl,by decide,by decide,?_⟩;refine ztd (λj ys Hx=>Hx=H5∧j≤4∧∃ns:List Str,ys=ns.map V.str∧ns.length=j∧(∀n∈ns,zje n)∧ns.Nodup∧∀n∈ns,∃i:Nat,i<j∧n=nmIn cs a (ltr ((f0+7*(0+(i:Int))) % 26))) ⟨rfl,ytb _,[],rfl,rfl,by simp,.nil,by simp⟩ ?_ ?_ ?_
  ·rintro j ys Hx ⟨_,hj,ns,rfl,hl2,_⟩;rw[yaa,hl2];exact small (by omega)
  ·rintro j ys Hx hj ⟨rfl,_,ns,rfl,hl2,ok,nd,wh⟩;have hj4:j<4:=hj;have r26:=zfu (f0+7*(0+(j:Int))) (m:=26) (by decide);refine⟨rfl,_,rfl,_,rfl,_,rfl,x,rfl,s1000 (by omega),λt1 e1 l1=>?_⟩;refine⟨_,rfl,_,rfl,_,rfl,_,_,rfl,rfl,.inl ⟨by decide,by decide⟩,_,_,rfl,rfl,_,_,rfl,rfl,(by show (0:Int)<26;decide),LL,_,_,rfl,rfl,(by decide +kernel),zomb r26.1 r26.2,?_⟩;rw[zseb x a (by omega),hx] at e1;subst e1;refine⟨_,_,rfl,rfl,s1000 (by show _+1≤1000;omega),_,rfl,_,rfl,_,rfl,x,rfl,s1000 (by omega),λt2 e2 l2=>?_⟩;rw[zreb x a (by omega),hx] at e2;subst e2;refine⟨_,_,rfl,rfl,?_,rfl,hj,ns++[nmIn cs a (ltr ((f0+7*(0+(j:Int))) % 26))],?_,?_,?_,?_,?_⟩
   ·refine s1000 ?_;have t1:((cs.take a).toArray++#[ltr ((f0+7*(0+(j:Int))) % 26)]).size≤8:=by
     rw[ynj,yoa,ycb];show _+1≤8
     omega
    have t2:((cs.drop a).toArray).size≤8:=by
     rw[yoa,yjd];omega
    exact ykb (Nat.add_le_add t1 t2) (by decide)
   ·rw[yua];rfl
   ·rw[yfa,hl2];rfl
   ·intro n z
    rcases ysb.mp z with y|y
    ·exact ok n y
    ·rw[yia.mp y];exact zqob (by omega) (zjrb _) hc
   ·rw[yue];refine⟨nd,ycn _ _,λy hy n hn z=>?_⟩;rw[yia.mp hn] at z;obtain⟨i,hi,rfl⟩:=wh y hy;have ed:=zclb z;have e1:=zjdb (zfu (f0+7*(0+(i:Int))) (m:=26) (by decide)).1 (zfu (f0+7*(0+(i:Int))) (m:=26) (by decide)).2;have e2:=zjdb r26.1 r26.2;omega
   ·intro n z
    rcases ysb.mp z with y|y
    ·obtain⟨i,hi,e⟩:=wh n y;exact⟨i,by omega,e⟩
    ·exact⟨j,by omega,yia.mp y⟩
  ·rintro ys Hx ⟨rfl,_,ns,rfl,hl2,ok,nd,wh⟩ nl hnl;refine laid hnl λH6 S6 e6=>?_;refine q nl ns _ H6 (B05.trans (But.same S6)) (T5.same S6) (by omega) ?_ ⟨e6,hl2,ok,nd⟩;cases z:H nl with
   | none=>rfl
   | some o =>
    by_cases ep:nl=p
    ·rw[ep] at hnl;exact absurd rfl (T5.ne hnl)
    ·rw[B05 _ _ ep z] at hnl;cases hnl
def whT (y:Wh):Str:=ywa " " y.words
inductive WT (H:Hp):V->Wh->Prop where
 | all {a:Addr}:H a=some (.tup [.str "all"])->WT H (.ref a) .all
 | self {a:Addr}:H a=some (.tup [.str "self"])->WT H (.ref a) .self
 | mine {a:Addr}:H a=some (.tup [.str "mine"])->WT H (.ref a) .mine
 | mark {a:Addr} {n:Str}:H a=some (.tup [.str "mark",.str n])->WT H (.ref a) (.mark n)
 | force {a:Addr} {i:Nat}:H a=some (.tup [.str "force",.int (i:Int)])->WT H (.ref a) (.force i)
 | not {a:Addr} {x:V} {y:Wh}:H a=some (.tup [.str "not",x])->WT H x y->WT H (.ref a) (.not y)
 | both {a:Addr} {x x':V} {y y':Wh}:H a=some (.tup [.str "both",x,x'])->WT H x y->WT H x' y'->WT H (.ref a) (.both y y')
 | any {a:Addr} {x x':V} {y y':Wh}:H a=some (.tup [.str "any",x,x'])->WT H x y->WT H x' y'->WT H (.ref a) (.any y y')
theorem WT.same {H H':Hp}(s:Same H H'):∀{v:V} {y:Wh},WT H v y->WT H' v y
 | _,_,.all h=>.all (s _ _ h)
 | _,_,.self h=>.self (s _ _ h)
 | _,_,.mine h=>.mine (s _ _ h)
 | _,_,.mark h=>.mark (s _ _ h)
 | _,_,.force h=>.force (s _ _ h)
 | _,_,.not h t=>.not (s _ _ h) (t.same s)
 | _,_,.both h t u=>.both (s _ _ h) (t.same s) (u.same s)
 | _,_,.any h t u=>.any (s _ _ h) (t.same s) (u.same s)
theorem WT.tup {H:Hp}{v:V}{y:Wh}(h:WT H v y):Ex2 λa xs=>v = .ref a∧H a=some (.tup xs):=by
 cases h<;>exact⟨_,_,rfl,by assumption⟩
def dep:Wh->Nat
 | .not a=>dep a+1
 | .both a b=>max (dep a) (dep b)+1
 | .any a b=>max (dep a) (dep b)+1
 | _=>0
theorem Tk.two {K:yda}{H:Hp}{p:Addr}{k:Int}(t:Tk K H p k):∃a,H p=some (.lst [.ref a,.int k]):=by
 obtain⟨⟨a,ns,h,_⟩,_⟩:=t;exact⟨a,h⟩
theorem N4.ne {K:yda}{H:Hp}{p nl:Addr}{k:Int}{ns:List Str}(h:N4 H nl ns)(t:Tk K H p k):nl≠p:=λz=>by
 obtain⟨a,e⟩:=t.two;have e2:=h.at_;rw[z,e] at e2;injection e2 with e2
 injection e2 with e2
 have l:=congrArg ybh e2;rw[yaa,h.len] at l;cases l
theorem N4.but {K:yda}{H H':Hp}{p nl:Addr}{k:Int}{ns:List Str}(h:N4 H nl ns)(t:Tk K H p k)(b:But p H H'):N4 H' nl ns:=⟨b _ _ (h.ne t) h.at_,h.len,h.ok,h.nd⟩
theorem N4.same {H H':Hp}{nl:Addr}{ns:List Str}(h:N4 H nl ns)(s:Same H H'):N4 H' nl ns:=⟨s _ _ h.at_,h.len,h.ok,h.nd⟩
inductive All2 {α β:Type}(R:α->β->Prop):List α->List β->Prop where
 | nil:All2 R [] []
 | cons {a:α} {b:β} {as:List α} {bs:List β}:R a b->All2 R as bs->All2 R (a::as) (b::bs)
theorem All2.imp {α β:Type}{R S:α->β->Prop}(f:∀{a b},R a b->S a b){as:List α}{bs:List β}(z:All2 R as bs):All2 S as bs:=by
 induction z with
 | nil=>exact .nil
 | cons h _ ih=>exact .cons (f h) ih
theorem All2.snoc {α β:Type}{R:α->β->Prop}{a:α}{b:β}(h:R a b){as:List α}{bs:List β}(z:All2 R as bs):All2 R (as++[a]) (bs++[b]):=by
 induction z with
 | nil=>exact .cons h .nil
 | cons g _ ih=>exact .cons g ih
theorem All2.len {α β:Type}{R:α->β->Prop}{as:List α}{bs:List β}(z:All2 R as bs):as.length=bs.length:=by
 induction z with
 | nil=>rfl
 | cons _ _ ih=>rw[yka,yka,ih]
theorem All2.get {α β:Type}{R:α->β->Prop}:∀{as:List α} {bs:List β} {i:Nat} {a:α},All2 R as bs->as[i]?=some a->∃b,bs[i]?=some b∧R a b
 | _,_,_,_,.nil,e=>by simp at e
 | _,_,0,_,.cons h t,e=>by
  rw[yyd] at e;cases e;exact⟨_,rfl,h⟩
 | _,_,i+1,_,.cons h t,e=>by
  rw[yrb] at e;obtain⟨u,h1,h2⟩:=t.get e;exact⟨u,by rw[yrb];exact h1,h2⟩
theorem All2.mem2 {α β:Type}{R:α->β->Prop}{as:List α}{bs:List β}(z:All2 R as bs){b:β}(hb:b∈bs):∃a∈as,R a b:=by
 induction z with
 | nil=>cases hb
 | cons h _ ih =>
  rcases yma.mp hb with z|z
  ·rw[z];exact⟨_,yqa,h⟩
  ·obtain⟨a,ha,r⟩:=ih z;exact⟨a,ysa _ ha,r⟩
theorem zorb (K:yda):yqb K (.type "str") (.type "tuple")=some false:=by kernel_rfl
theorem zprb (K:yda):yqb K (.type "int") (.type "tuple")=some false:=by kernel_rfl
theorem zdcb {x:V}{u:Str}(hv:(x = .str u)∨∃i:Nat,i<1000∧x = .int i∧u=(toString (i:Int):Str))(H0:Hp)(Q':VK)(z:Q' (.str u) H0):rStrAny [x] H0 Q':=by
 unfold rStrAny
 rcases hv with e|⟨i,hi,e,rfl⟩
 ·exact .inl ⟨u,by rw[e],z⟩
 ·exact .inr ⟨i,by rw[e],(by rw[yml];exact zzr i hi),z⟩
inductive PT (n:Nat)(H:Hp):V->Str->Prop where
 | w {x:V} {y:Wh}:WT H x y->y.ok->dep y<n->y.size≤9->PT n H x (whT y)
 | s {u:Str}:zje u->PT n H (.str u) u
 | i {i:Nat}:i<1000->PT n H (.int (i:Int)) (toString (i:Int):Str)
theorem PT.len {n:Nat}{H:Hp}{x:V}{u:Str}(h:PT n H x u):u.length≤200:=by
 cases h with
 | w _ o _ d=>exact zvu o d
 | s o=>exact ykb o.2.1 (by decide)
 | i hi=>exact ykb (zxd hi).2.2 (by decide)
theorem PT.same {n:Nat}{H H':Hp}(s:Same H H'){x:V}{u:Str}(h:PT n H x u):PT n H' x u:=by
 cases h with
 | w a b c d=>exact .w (a.same s) b c d
 | s a=>exact .s a
 | i a=>exact .i a
theorem zod (y:Wh):y.words≠[]:=y.zod
theorem WT.open {n:Nat}{H:Hp}{v:V}{y:Wh}(h:WT H v y)(ok:y.ok)(hn:dep y<n+1)(h2:y.size≤9):Ex3 λa xs us=>v = .ref a∧H a=some (.tup (.str y.word::xs))∧xs.length≤2∧All2 (PT n H) xs us∧ywa " " (y.word::us)=whT y:=by
 cases h with
 | all h=>exact⟨_,[],[],rfl,h,by simp,.nil,rfl⟩
 | self h=>exact⟨_,[],[],rfl,h,by simp,.nil,rfl⟩
 | mine h=>exact⟨_,[],[],rfl,h,by simp,.nil,rfl⟩
 | mark h=>exact⟨_,_,_,rfl,h,by simp,.cons (.s ok) .nil,rfl⟩
 | force h=>exact⟨_,_,_,rfl,h,by simp,.cons (.i ok) .nil,rfl⟩
 | @not a x y h t =>
  have m1:dep y+1<n+1:=hn;have m2:y.size+1≤9:=h2;refine⟨_,_,_,rfl,h,by simp,.cons (.w t ok (by omega) (by omega)) .nil,?_⟩;show ywa " " ["not",ywa " " y.words]=ywa " " ("not" :: y.words)
  rw[join_cons " " "not" (zod y),join_cons " " "not" (ybc _ _)];rfl
 | @both a x x' y y' h t t' =>
  have m1:max (dep y) (dep y')+1<n+1:=hn;have m2:y.size+y'.size+1≤9:=h2;refine⟨_,_,_,rfl,h,by simp,.cons (.w t ok.1 (by omega) (by omega)) (.cons (.w t' ok.2 (by omega) (by omega)) .nil),?_⟩;show ywa " " ["both",ywa " " y.words,ywa " " y'.words]=ywa " " ("both" :: (y.words++y'.words))
  rw[join_cons " " "both" (ybc _ _),join_cons " " (ywa " " y.words) (ybc _ _),join_cons " " "both" (λz=>zod y (ybj.mp z).1),zql " " (zod y) (zod y')];rfl
 | @any a x x' y y' h t t' =>
  have m1:max (dep y) (dep y')+1<n+1:=hn;have m2:y.size+y'.size+1≤9:=h2;refine⟨_,_,_,rfl,h,by simp,.cons (.w t ok.1 (by omega) (by omega)) (.cons (.w t' ok.2 (by omega) (by omega)) .nil),?_⟩;show ywa " " ["any",ywa " " y.words,ywa " " y'.words]=ywa " " ("any" :: (y.words++y'.words))
  rw[join_cons " " "any" (ybc _ _),join_cons " " (ywa " " y.words) (ybc _ _),join_cons " " "any" (λz=>zod y (ybj.mp z).1),zql " " (zod y) (zod y')];rfl
def znk (n:Nat):Sp:=λvs H Q _=>Ex2 λv (y:Wh)=>vs=[v]∧WT H v y∧y.ok∧dep y<n∧y.size≤9∧∀H',Same H H'->Q (.str (whT y)) H'
theorem zdn {us:List Str}{m:Nat}(h:∀u∈us,u.length≤m):(us.map (·.length)).sum≤m*us.length:=by
 induction us with
 | nil=>exact ytb _
 | cons u r ih =>
  rw[yob,yme,yka,Nat.mul_succ];have:=h u yqa;have:=ih λv hv=>h v (ysa _ hv);omega
theorem zieb (T:Tx K mg){n:Nat}(zmab:FnOk P w K mg base CX0 (n+2) T.zib.f T.zib.d zef (znk n)):FnOk P w K mg base CX0 (n+3) T.zib.f T.zib.d zef (znk (n+1)):=by
 refine T.zib.ok zqj ?_;rintro f c A o s H vs Q E hr ⟨v,y,rfl,wt,ok,hn,h2,q⟩ X;obtain⟨a,xs,us,rfl,ea,hl,ps,eg⟩:=wt.open (n:=n) ok hn h2;refine⟨_,  (zca (zta (i:=1) zqj.nd rfl (.inl rfl) (zge (zaa (zya ztb (pv 0) zfa (λ_ _=>rfl)) zba)))
  (zca (zsx yqh rfl (zux (zoe zxcb (pv 0) (zbh zfa) zch)) (zkb (i:=2) zqj.nd rfl (.inl rfl))
   (zda (zub (zof (zva zoc rfl T.zob yed (zaa (pv 2) (zaa (zze (v:=.ty "tuple") rfl T.zec ysc rfl) zba))))
    (zda (zfe (zdi yec yod ypd zvh (pv 1) (zaa (zga zmab hr rfl T.zib.m T.zib.F.kp (zug T) .nil zpa (zaa (pv 2) zba)) zba))))
    (zda (zfe (zdi yec yod ypd zvh (pv 1) (zaa (zza zal rfl T.zbt yro (zaa (pv 2) zba)) zba)))))))
  (zda (zua (zdi ygc yvd ywd zem zoa (zaa (pv 1) zba)))))),?_⟩
 refine⟨_,rfl,a,_,_,_,rfl,rfl,SqT.of ea,zsa (j:=0) rfl,sz1,λwl hwl=>?_⟩;refine laid hwl λH0 S0 e0=>?_;refine⟨_,rfl,_,rfl,a,_,rfl,SqT.of (S0 _ _ ea),?_,λb hb=>?_⟩
 ·rintro⟨z,_⟩;rw[show (1:Int)=((1:Nat):Int) from rfl,HT.zkr,yka] at z;omega
 have ec:cutV (V.str y.word::xs) (some 1) none=xs:=by
  rw[show (1:Int)=((1:Nat):Int) from rfl,zyk];rfl
 rw[ec];refine laid hb λH1 S1 eb=>?_;have nbw:b≠wl:=yqd (zka e0 hb);have S01:=S0.trans S1;refine⟨b,rfl,⟨_,SqT.of eb⟩,?_⟩;have wdl:y.word.length≤8:=(y.zoj).2.2;have psl:=ps.len;refine zxob (xs:=xs) (λi σ H'=>∃o,σ=[some (.ref a),some (.ref wl),o]∧H' wl=some (.lst ((y.word::us.take i).map V.str))∧H' b=some (.tup xs)∧Same H H') ⟨_,rfl,S1 _ _ e0,eb,S01⟩ ?_ ?_ ?_
 ·rintro i σ H' _ ⟨o,rfl,_,e,S⟩;exact SqT.of e
 ·rintro i x σ H' hx ⟨o,rfl,ew,eb',S⟩;obtain⟨u,eu,pu⟩:=ps.get hx;have i2:i<xs.length:=(yha.mp hx).1;have eg2:(y.word::us.take (i+1)).map V.str=(y.word::us.take i).map V.str++[V.str u]:=by
   rw[yfb,eu,yfc,yob,yua];rfl
  have sz:((y.word::us.take i).map V.str).length≤1000:=by
   rw[yaa,yka,ycb];omega
  cases pu.same S with
  | @w x y' wt' ok' dn d2 =>
   obtain⟨a',xs',rfl,ea'⟩:=wt'.tup;refine⟨_,rfl,_,_,_,true,rfl,TyOf.tup ea',.inl ⟨"tuple",rfl,rfl⟩,_,rfl,iteT ?_⟩;refine⟨_,rfl,.inl ⟨rfl,_,SqL.of ew⟩,_,rfl,_,y',rfl,wt',ok',dn,d2,λH2 S2=>⟨wl,_,_,rfl,rfl,S2 _ _ ew,zle sz,?_⟩⟩;exact⟨_,rfl,by rw[eg2];exact zia,by rw[zlb nbw];exact S2 _ _ eb',zin (S.trans S2) hwl _⟩
  | s _ =>
   refine⟨_,rfl,_,_,_,false,rfl,TyOf.str _,.inl ⟨"tuple",rfl,zorb _⟩,_,rfl,iteF ?_⟩;refine⟨_,rfl,.inl ⟨rfl,_,SqL.of ew⟩,_,rfl,zdcb (.inl rfl) _ _ ⟨wl,_,_,rfl,rfl,ew,zle sz,?_⟩⟩;exact⟨_,rfl,by rw[eg2];exact zia,by rw[zlb nbw];exact eb',zin S hwl _⟩
  | i hi =>
   refine⟨_,rfl,_,_,_,false,rfl,TyOf.int _,.inl ⟨"tuple",rfl,zprb _⟩,_,rfl,iteF ?_⟩;refine⟨_,rfl,.inl ⟨rfl,_,SqL.of ew⟩,_,rfl,zdcb (.inr ⟨_,hi,rfl,rfl⟩) _ _ ⟨wl,_,_,rfl,rfl,ew,zle sz,?_⟩⟩;exact⟨_,rfl,by rw[eg2];exact zia,by rw[zlb nbw];exact eb',zin S hwl _⟩
 ·rintro σ H' ⟨o,rfl,ew,_,S⟩;rw[yta (by omega)] at ew;refine⟨rfl,_,rfl," ",wl,y.word::us,rfl,rfl,SqL.of ew,?_,?_⟩
  ·have z:=zdn (us:=y.word::us) (m:=200) λu hu=>by
    rcases yma.mp hu with z|z
    ·rw[z];omega
    ·obtain⟨x,_,pu⟩:=ps.mem2 z;exact pu.len
   rw[yka] at z ⊢;have e1:(" ":Str).length=1:=rfl;rw[e1];omega
  ·rw[eg];exact q H' S
theorem zjeb (T:Tx K mg):FnOk P w K mg base CX0 2 T.zib.f T.zib.d zef (znk 0):=by
 have no:∀vs H Q E,¬ znk 0 vs H Q E:=λvs H Q E h=>by
  obtain⟨v,y,_,_,_,hd,_⟩:=h;omega
 exact⟨λvs H Q E h=>absurd h (no vs H Q E),λA outer s H args us vs Q E _ _ _ _ h=>absurd h (no vs H Q E)⟩
theorem zkk (T:Tx K mg):∀n:Nat,FnOk P w K mg base CX0 (n+2) T.zib.f T.zib.d zef (znk n)
 | 0=>zjeb T
 | n+1=>zieb T (zkk T n)
def Kp (H H':Hp):Prop:=∀a o,(∀xs,o≠HO.lst xs)->H a=some o->H' a=some o
theorem Kp.same {H H':Hp}(s:Same H H'):Kp H H':=λ_ _ _ h=>s _ _ h
theorem Kp.trans {H H1 H2:Hp}(a:Kp H H1)(b:Kp H1 H2):Kp H H2:=λc o n h=>b c o n (a c o n h)
theorem Kp.but {K:yda}{H H':Hp}{p:Addr}{k:Int}(t:Tk K H p k)(b:But p H H'):Kp H H':=λa o n h=>by
 obtain⟨c,ep⟩:=t.two;refine b a o (λz=>?_) h;rw[z,ep] at h;injection h with h
 exact n _ h.symm
theorem Kp.put {H:Hp}{l:Addr}{us vs:List V}(e:H l=some (.lst us)):Kp H (upd H l (.lst vs)):=λa o n h=>by
 rw[zlb λz=>?_]
 ·exact h
 ·rw[z,e] at h;injection h with h
  exact n _ h.symm
theorem Kp.t {H H':Hp}(s:Kp H H'){a:Addr}{xs:List V}(h:H a=some (.tup xs)):H' a=some (.tup xs):=s _ _ (λ_ z=>by cases z) h
theorem WT.kp {H H':Hp}(s:Kp H H'){v:V}{y:Wh}(z:WT H v y):WT H' v y:=by
 induction z with
 | all h=>exact .all (s.t h)
 | self h=>exact .self (s.t h)
 | mine h=>exact .mine (s.t h)
 | mark h=>exact .mark (s.t h)
 | force h=>exact .force (s.t h)
 | not h _ i=>exact .not (s.t h) i
 | both h _ _ i j=>exact .both (s.t h) i j
 | any h _ _ i j=>exact .any (s.t h) i j
theorem zymb (y:Wh):dep y<y.size:=by
 induction y with
 | not a i=>exact Nat.succ_lt_succ i
 | both a b i j =>
  show max (dep a) (dep b)+1<a.size+b.size+1
  omega
 | any a b i j =>
  show max (dep a) (dep b)+1<a.size+b.size+1
  omega
 | _=>exact Nat.zero_lt_one
structure Tab where
 pts:List Int
 scs:List Int
 gone:List Bool
 decks:List (List Int)
 hands:List (List Int)
 lying:List Int
 heap:List Int
 marks:List (List Str)
 wnds:List Int
def T1 (H:Hp)(v:V)(xs:List V):Prop:=∃b,v = .ref b∧H b=some (.tup xs)
def T2 (H:Hp)(v:V)(xss:List (List V)):Prop:=Ex2 λb us=>v = .ref b∧H b=some (.tup us)∧All2 (T1 H) us xss
theorem T1.kp {H H':Hp}(s:Kp H H'){v:V}{xs:List V}(h:T1 H v xs):T1 H' v xs:=by
 obtain⟨b,e,h⟩:=h;exact⟨b,e,s.t h⟩
theorem T2.kp {H H':Hp}(s:Kp H H'){v:V}{xss:List (List V)}(h:T2 H v xss):T2 H' v xss:=by
 obtain⟨b,us,e,h,al⟩:=h;exact⟨b,us,e,s.t h,al.imp λz=>z.kp s⟩
def iM (xs:List Int):List V:=xs.map V.int
def sM (xs:List Str):List V:=xs.map V.str
structure TabP (H:Hp)(t:Tab)(v0 v1 v2 v3 v4 v5 v6 v7 v8:V):Prop where
 p0:T1 H v0 (iM t.pts)
 p1:T1 H v1 (iM t.scs)
 p2:T1 H v2 (t.gone.map V.bl)
 p3:T2 H v3 (t.decks.map iM)
 p4:T2 H v4 (t.hands.map iM)
 p5:T1 H v5 (iM t.lying)
 p6:T1 H v6 (iM t.heap)
 p7:T2 H v7 (t.marks.map sM)
 p8:T1 H v8 (iM t.wnds)
theorem TabP.kp {H H':Hp}(s:Kp H H'){t:Tab}{v0 v1 v2 v3 v4 v5 v6 v7 v8:V}(h:TabP H t v0 v1 v2 v3 v4 v5 v6 v7 v8):TabP H' t v0 v1 v2 v3 v4 v5 v6 v7 v8:=⟨h.p0.kp s,h.p1.kp s,h.p2.kp s,h.p3.kp s,h.p4.kp s,h.p5.kp s,h.p6.kp s,h.p7.kp s,h.p8.kp s⟩
def TabT (H:Hp)(v:V)(t:Tab):Prop:=Ex10 λa v0 v1 v2 v3 v4 v5 v6 v7 v8=>v = .ref a∧H a=some (.tup [v0,v1,v2,v3,v4,v5,v6,v7,v8])∧TabP H t v0 v1 v2 v3 v4 v5 v6 v7 v8
theorem TabT.kp {H H':Hp}(s:Kp H H'){v:V}{t:Tab}(h:TabT H v t):TabT H' v t:=by
 obtain⟨a,v0,v1,v2,v3,v4,v5,v6,v7,v8,e,h,p⟩:=h;exact⟨a,v0,v1,v2,v3,v4,v5,v6,v7,v8,e,s.t h,p.kp s⟩
theorem All2.set {α β:Type}{R:α->β->Prop}{as:List α}{bs:List β}(z:All2 R as bs){a:α}{b:β}(h:R a b):∀n:Nat,All2 R (as.set n a) (bs.set n b):=by
 induction z with
 | nil=>intro n;rw[List.set_nil,List.set_nil];exact .nil
 | cons g t ih =>
  intro n;cases n with
  | zero=>exact .cons h t
  | succ n=>exact .cons g (ih n)
theorem zdpb {α:Type}{xs:List α}{i:Nat}(h:i<xs.length)(x:α):xs.take i++[x]++xs.drop (i+1)=xs.set i x:=by
 rw[List.set_eq_take_append_cons_drop,if_pos h,ydd];rfl
theorem zsj {G:Prop}{Kx pre:Addr->Hp->Prop}(g:(∀b Hs,pre b Hs->Kx b Hs)->G)(k:∀b Hs,pre b Hs->Kx b Hs):G:=g k
def zrt:Sp:=λvs H Q _=>Ex4 λa xs (i:Nat) x=>vs=[.ref a,.int (i:Int),x]∧H a=some (.tup xs)∧i<xs.length∧xs.length≤1000∧∀b H',Same H H'->H' b=some (.tup (xs.set i x))->Q (.ref b) H'
def zigb:Sp:=λvs H Q _=>Ex7 λa q ps xs (k i:Nat) x=>vs=[.ref a,.int (k:Int),.int (i:Int),x]∧H a=some (.tup ps)∧ps.length≤1000∧ps[k]?=some (.ref q)∧H q=some (.tup xs)∧i<xs.length∧xs.length≤1000∧∀b q' H',Same H H'->H' q'=some (.tup (xs.set i x))->H' b=some (.tup (ps.set k (.ref q')))->Q (.ref b) H'
theorem zuh (T:Tx K mg):FnOk P w K mg base CX0 2 T.zlc.f T.zlc.d zxo zrt:=by
 refine T.zlc.ok zvab ?_;rintro f c A o s H vs Q E hr ⟨a,xs,i,x,rfl,ea,hi,hl,q⟩ X;refine⟨_,  (zda (zua (zic zbbb (zic zmv (zoe zxcb (pv 0) zch (zbh (pv 1))) (zyc (zaa (pv 2) zba))) (zoe zxcb (pv 0) (zbh (zic zxf (pv 1) zfa)) zch)))),?_⟩;refine⟨_,rfl,_,rfl,_,rfl,a,_,rfl,SqT.of ea,?_,λb1 hb1=>?_⟩
 ·rintro⟨_,z⟩;rw[HT.zkr] at z;omega
 rw[zjs];refine laid hb1 λH1 S1 e1=>?_;refine⟨_,rfl,sz1,λb2 hb2=>?_⟩;refine laid hb2 λH2 S2 e2=>?_;refine' zsj (pre:=λb H3=>Same H H3∧H3 b=some (.tup (xs.take i++[x]))) (λkk=>?gg) ?kn
 case gg =>
  refine⟨b1,b2,_,_,rfl,rfl,SqT.of (S2 _ _ e1),SqT.of e2,by simp,(by rw[ycb];exact small (by show min i xs.length+1≤1000;omega)),λz=>?_,λz b3 hb3=>?_⟩
  ·have e2':H2 b2=some (.tup (xs.take i++[x])):=by rw[z];exact e2
   obtain⟨c,hc⟩:∃c,c=b2:=⟨_,rfl⟩;obtain⟨Hz,hz⟩:∃h,h=H2:=⟨_,rfl⟩;rw[← hc,← hz];exact kk c Hz (by rw[hc,hz];exact⟨S1.trans S2,e2'⟩)
  ·refine laid hb3 λH3 S3 e3=>?_;exact kk b3 H3 ⟨S1.trans (S2.trans S3),e3⟩
 case kn =>
 rintro b3 H3 ⟨S3,e3⟩;refine⟨_,rfl,_,rfl,_,_,rfl,rfl,_,rfl,a,_,rfl,SqT.of (S3 _ _ ea),?_,λb4 hb4=>?_⟩
 ·rintro⟨z,_⟩;rw[show (i:Int)+1=((i+1:Nat):Int) by omega,HT.zkr] at z;omega
 dsimp only;rw[show (i:Int)+1=((i+1:Nat):Int) by omega,zyk];refine laid hb4 λH4 S4 e4=>?_;have cp:=zdpb hi x;refine⟨b3,b4,_,_,rfl,rfl,SqT.of (S4 _ _ e3),SqT.of e4,by simp,(by rw[yfa,ycb,yjd];exact small (by show min i xs.length+1+(xs.length-(i+1))≤1000;omega)),λz=>?_,λz b5 hb5=>?_⟩
 ·refine q b3 H4 (S3.trans S4) ?_;rw[z,yad] at cp;rw[← cp];exact S4 _ _ e3
 ·refine laid hb5 λH5 S5 e5=>?_;rw[cp] at e5;exact q b5 H5 (S3.trans (S4.trans S5)) e5
theorem zbd (T:Tx K mg):FnOk P w K mg base CX0 3 T.zgb.f T.zgb.d zel zigb:=by
 refine T.zgb.ok zfv ?_;rintro f c A o s H vs Q E hr ⟨a,qa,ps,xs,k,i,x,rfl,ea,pl,ek,eq,hi,hl,q⟩ X;refine⟨_,  (zda (zua (zga (zuh T) hr rfl T.zlc.m T.zlc.F.kp (zlj T) .nil zpa (zaa (pv 0) (zaa (pv 1) (zaa (zga (zuh T) hr rfl T.zlc.m T.zlc.F.kp (zlj T) .nil zpa (zaa (zya ztb (pv 0) (pv 1) (λ_ _=>rfl)) (zaa (pv 2) (zaa (pv 3) zba)))) zba)))))),?_⟩;refine⟨_,rfl,_,rfl,_,rfl,_,rfl,a,_,_,_,rfl,rfl,SqT.of ea,zsa ek,_,rfl,_,rfl,qa,xs,i,x,rfl,eq,hi,hl,λq' H1 S1 e1=>?_⟩;refine⟨a,ps,k,.ref q',rfl,S1 _ _ ea,(yha.mp ek).1,pl,λb H2 S2 e2=>?_⟩;exact q b q' H2 (S1.trans S2) (S2 _ _ e1) e2
def zekb:Sp:=λvs H Q _=>Ex2 λm x=>vs=[.ref m,x]∧((Ex2 λ(ms:List Str) (n:Str)=>x = .str n∧H m=some (.tup (sM ms))∧ms.length≤60∧∀p (zs:List Str) H',Same H H'->H' p=some (.tup (sM zs))->zs.Perm (SSet.dd (ms++[n]))->yuk zs=true->Q (.ref p) H') ∨
 Ex2 λ(ns:List Int) (n:Int)=>x = .int n∧H m=some (.tup (iM ns))∧ns.length≤60∧∀p (zs:List Int) H',Same H H'->H' p=some (.tup (iM zs))->zs.Perm (ISet.dd (ns++[n]))->zs.Pairwise (· ≤ ·)->Q (.ref p) H')
def zbqb:Sp:=λvs H Q _=>Ex3 λm xs x=>vs=[.ref m,x]∧H m=some (.tup xs)∧(∀v∈xs,scal v x=true)∧xs.length≤60∧∀p H',Same H H'->H' p=some (.tup (xs.filter λv=>!decide (v=x)))->Q (.ref p) H'
theorem zxdb (xs:List Str):(SSet.dd xs).length≤xs.length:=by
 have z:=SSet.zqbb xs.length xs;rw[yta (yja _)] at z;exact z
theorem zpsb (xs:List Int):(ISet.dd xs).length≤xs.length:=by
 have z:=ISet.zqbb xs.length xs;rw[yta (yja _)] at z;exact z
theorem ziy (T:Tx K mg):FnOk P w K mg base CX0 2 T.zmh.f T.zmh.d zxw zekb:=by
 refine T.zmh.ok zsgb ?_;rintro f c A o s H vs Q E hr ⟨m,x,rfl,h⟩ X;refine⟨_,  (zda (zua (zza zbb rfl T.zec ysc (zaa (zva (zls rfl) rfl T.zgf yfi (zaa (zza (zmz rfl) rfl T.zpab boot_set (zaa (zic zmv (pv 0) (zyc (zaa (pv 1) zba))) zba)) zba)) zba)))),?_⟩;refine⟨_,rfl,_,rfl,sz1,λt1 ht1=>?_⟩;refine laid ht1 λH1 S1 e1=>?_
 rcases h with⟨ms,n,rfl,em,le,q⟩|⟨ns,n,rfl,em,le,q⟩
 ·refine⟨m,t1,_,_,rfl,rfl,SqT.of (S1 _ _ em),SqT.of e1,by simp,(by unfold sM;rw[yaa];exact small (by show ms.length+1≤1000;omega)),λz=>?g1,λz t2 ht2=>?g2⟩
  case' g1 =>
   have z':ms=[]:=yve.mp z;have e2:H1 t1=some (.tup ((ms++[n]).map V.str)):=(by rw[e1,z'];rfl);have S2:=S1
  case' g2 =>
   refine laid ht2 λH2 S2' e2'=>?_;have e2:H2 t2=some (.tup ((ms++[n]).map V.str)):=(by rw[e2',yua];rfl);have S2:=S1.trans S2'
  all_goals
   have gl:=zxdb (ms++[n]);rw[yfa,yub] at gl;refine .inl ⟨_,ms++[n],rfl,SqT.of e2,(by rw[yfa];show ms.length+1≤1000;omega),λl hl=>?_⟩;refine laid hl λH3 S3 e3=>?_;refine .inl ⟨l,_,rfl,e3,(by omega),λp ys hp py sy=>?_⟩;refine laid hp λH4 S4 e4=>?_;refine⟨p,_,rfl,.inl ⟨SqL.of e4,λtm htm=>?_⟩⟩;refine laid htm λH5 S5 e5=>?_;exact q tm ys H5 (S2.trans (S3.trans (S4.trans S5))) e5 py sy
 ·refine⟨m,t1,_,_,rfl,rfl,SqT.of (S1 _ _ em),SqT.of e1,by simp,(by unfold iM;rw[yaa];exact small (by show ns.length+1≤1000;omega)),λz=>?g3,λz t2 ht2=>?g4⟩
  case' g3 =>
   have z':ns=[]:=yve.mp z;have e2:H1 t1=some (.tup ((ns++[n]).map V.int)):=(by rw[e1,z'];rfl);have S2:=S1
  case' g4 =>
   refine laid ht2 λH2 S2' e2'=>?_;have e2:H2 t2=some (.tup ((ns++[n]).map V.int)):=(by rw[e2',yua];rfl);have S2:=S1.trans S2'
  all_goals
   have gl:=zpsb (ns++[n]);rw[yfa,yub] at gl;refine .inr ⟨_,ns++[n],rfl,SqT.of e2,(by rw[yfa];show ns.length+1≤1000;omega),λl hl=>?_⟩;refine laid hl λH3 S3 e3=>?_;refine .inr ⟨l,_,rfl,e3,(by omega),λp ys hp py sy=>?_⟩;refine laid hp λH4 S4 e4=>?_;refine⟨p,_,rfl,.inl ⟨SqL.of e4,λtm htm=>?_⟩⟩;refine laid htm λH5 S5 e5=>?_;exact q tm ys H5 (S2.trans (S3.trans (S4.trans S5))) e5 py sy
theorem zbu (T:Tx K mg):FnOk P w K mg base CX0 2 T.zif.f T.zif.d zus zbqb:=by
 refine T.zif.ok zueb ?_;rintro f c A o s H vs Q E hr ⟨m,xs,x,rfl,em,sc,le,q⟩ X;refine⟨_,  (zda (zua (zza zbb rfl T.zec ysc (zaa (zud (own:=["value"]) (cap:=["one"]) rfl (znb.chk rfl rfl) (.cons (j:=1) rfl (.inl rfl) (.inl rfl) .nil) (zux (pv 0)) (λ_ _ _ _=>(zkb (i:=0) (show ylc (["value","one"]:List Str) by decide +kernel) rfl (.inl rfl))) (λ_ _ _ _=>zio (zma zjhb (pv 0) (pv 1) (zeb _))) (λ_ _ _ _=>by exact (pv 0))) zba)))),?_⟩;refine⟨_,rfl,m,rfl,⟨_,SqT.of em⟩,?_⟩;refine znq (xs:=xs) (λj ys H'=>H'=H∧ys=(xs.take j).filter λv=>!decide (v=x)) (λj ys H' z=>by rw[z.1];exact SqT.of em) ⟨rfl,rfl⟩ ?_ ?_ ?_
 ·rintro j ys H' ⟨_,rfl⟩;have h1:=ywj (λv=>!decide (v=x)) (xs.take j);rw[ycb] at h1;exact small (by omega)
 ·rintro j v ys H' hv ⟨rfl,rfl⟩;refine⟨rfl,_,rfl,_,rfl,sc v (ypa hv),_,rfl,?_⟩;rw[yfb,hv,yfc,yyp];refine ite2 (λc=>?_) (λc=>?_)
  ·exact⟨_,rfl,rfl,by rw[yjh (p:=λv=>!decide (v=x)) c];rfl⟩
  ·exact⟨rfl,by rw[ykh (p:=λv=>!decide (v=x)) c];simp⟩
 ·rintro ys H' ⟨rfl,rfl⟩ l1 hl1;rw[yta (yja _)];refine laid hl1 λHa Sa ea=>?_;refine⟨l1,_,rfl,.inl ⟨SqL.of ea,λtm htm=>?_⟩⟩;refine laid htm λHb Sb eb=>?_;exact q tm Hb (Sa.trans Sb) eb
def CmT (B:Addr)(H:Hp)(v:V)(ms:List Str):Prop:=Ex7 λa dx m tt (nm:Str) (c f:Nat)=>v = .ref a∧H a=some (.ins B dx (cfs nm c f m tt))∧H m=some (.tup (sM ms))
theorem CmT.kp {B:Addr}{H H':Hp}(s:Kp H H'){v:V}{ms:List Str}(h:CmT B H v ms):CmT B H' v ms:=by
 obtain⟨a,dx,m,tt,nm,c,f,e,h1,h2⟩:=h;exact⟨a,dx,m,tt,nm,c,f,e,s _ _ (λ_ z=>by cases z) h1,s.t h2⟩
theorem zejb (n:Str)(c f:Nat)(m t:Addr):(cfs n c f m t).lookup ("marks":Str)=some (.ref m):=(zkj (by decide +kernel)).trans ((zkj (by decide +kernel)).trans ((zkj (by decide +kernel)).trans zuv))
structure TOk (np nc:Nat)(t:Tab):Prop where
 pts:t.pts.length=np
 scs:t.scs.length=np
 gone:t.gone.length=np
 decks:t.decks.length=np
 hands:t.hands.length=np
 marks:t.marks.length=nc
 wnds:t.wnds.length=nc
 ly:t.lying.length≤16
 hp:t.heap.length≤16
 ms:∀m∈t.marks,m.length≤40
 ds:∀d∈t.decks,d.length≤16
 hs:∀d∈t.hands,d.length≤16
 np4:np≤4
 nc16:nc≤16
def hpM (t:Tab)(kd:Str)(th:Int):Bool:=if th<0 then !(t.gone.getD (-1-th).toNat false) else (decide (kd = "come")||decide (th∈t.lying))
inductive PlR (t:Tab)(p:Nat)(z:Int):Str->Tab->Prop where
 | lose {x:Int}:t.pts[p]?=some x->PlR t p z "lose" { t with pts:=t.pts.set p (x-z) }
 | score {x:Int}:t.scs[p]?=some x->PlR t p z "score" { t with scs:=t.scs.set p (x+z) }
 | draw {d h hand:List Int}:t.decks[p]?=some d->t.hands[p]?=some h->hand.Perm (h++d.take z.toNat)->hand.Pairwise (· ≤ ·)->PlR t p z "draw" { t with hands:=t.hands.set p hand,decks:=t.decks.set p (d.drop z.toNat) }
inductive CrR (cms:List (List Str))(t:Tab)(n:Nat):V->Str->Tab->Prop where
 | come {av:V} {ms:List Str}:cms[n]?=some ms->CrR cms t n av "come" { t with marks:=t.marks.set n ms,wnds:=t.wnds.set n 0,lying:=t.lying++[(n:Int)] }
 | leave {av:V} {ms:List Str} {heap:List Int}:cms[n]?=some ms->heap.Perm (ISet.dd (t.heap++[(n:Int)]))->heap.Pairwise (· ≤ ·)->CrR cms t n av "leave" { t with marks:=t.marks.set n ms,wnds:=t.wnds.set n 0,lying:=t.lying.filter λx=>!decide (x=(n:Int)),heap:=heap }
 | hurt {x z:Int}:t.wnds[n]?=some x->CrR cms t n (.int z) "hurt" { t with wnds:=t.wnds.set n (x+z) }
 | gain {ms zs:List Str} {u:Str}:t.marks[n]?=some ms->zs.Perm (SSet.dd (ms++[u]))->yuk zs=true->CrR cms t n (.str u) "gain" { t with marks:=t.marks.set n zs }
 | lack {ms:List Str} {u:Str}:t.marks[n]?=some ms->CrR cms t n (.str u) "lack" { t with marks:=t.marks.set n (ms.filter λx=>!decide (x=u)) }
def zngb:Sp:=λvs H Q _=>Ex8 λtv ha (t:Tab) (np nc:Nat) (kd:Str) (th:Int) av=>vs=[tv,.ref ha]∧TabT H tv t∧TOk np nc t∧H ha=some (.tup [.str kd,.int th,av]) ∧ -(np:Int)≤th∧∀H',Same H H'->Q (.bl (hpM t kd th)) H'
theorem inI (n:Int)(ns:List Int):inV (.int n) (iM ns)=decide (n∈ns):=by
 unfold inV iM
 induction ns with
 | nil=>rfl
 | cons x r ih =>
  rw[yob,yop,ih]
  by_cases e:x=n
  ·subst e;rw[decide_eq_true yqa];have:eqV (V.int x) (V.int x)=true:=by simp[eqV]
   rw[this,ypo]
  ·have h1:eqV (V.int x) (V.int n)=false:=by simp[eqV,e]
   rw[h1,yxp];refine decide_eq_decide.mpr ⟨λz=>ysa _ z,λz=>?_⟩
   rcases yma.mp z with y|y
   ·exact absurd y.symm e
   ·exact y
theorem zwk (ns:List Int):(iM ns).all zjt=true:=by
 rw[ybg];intro v hv;obtain⟨x,_,rfl⟩:=yac.mp hv;rfl
theorem zbfb (T:Tx K mg):FnOk P w K mg base CX0 2 T.zph.f T.zph.d zxs zngb:=by
 refine T.zph.ok znl ?_;rintro f c A o s H vs Q E hr ⟨tv,ha,t,np,nc,kd,th,av,rfl,TT,TO,eh,hth,q⟩ X;obtain⟨a,v0,v1,v2,v3,v4,v5,v6,v7,v8,rfl,ea,TP⟩:=TT;refine⟨_,  (zca (zpg (pv 1) (zvx (n:=3) rfl (zvd (zkb (i:=2) znl.nd rfl (.inl rfl)) (zvd (zkb (i:=3) znl.nd rfl (.inl rfl)) (zvd (zkb (i:=4) znl.nd rfl (.inl rfl)) zpr)))))
  (zca (zub (zma zafb (pv 3) zfa (zeb _))
   (zda (zua (zwqb (zya ztb (zya ztb (pv 0) (zsb (v:=.int 2) rfl T.zsdb ⟨_,rfl⟩) (λ_ _=>rfl)) (zic zyl (zghb zex zfa) (pv 3)) (λ_ _=>rfl)))))
   zqa)
  (zda (zua (zvqb (zdh zad (pv 2) zoa (zeb _)) (zzt (zdh zie (pv 3) (zya ztb (pv 0) (zsb (v:=.int 5) rfl T.zvk ⟨_,rfl⟩) (λ_ _=>rfl)) rfl))))))),?_⟩
 refine⟨_,rfl,ha,_,rfl,SqT.of eh,rfl,_,_,rfl,_,_,rfl,_,_,rfl,rfl,?_⟩;refine⟨_,rfl,_,_,rfl,rfl,_,rfl,ite2 (λc=>?_) (λc=>?_)⟩
 ·have c':th<0:=of_decide_eq_true c;obtain⟨b,rfl,eb⟩:=TP.p2;obtain⟨p,hp⟩:∃p:Nat,-1-th=(p:Int):=⟨(-1-th).toNat,by omega⟩;have pl:p<t.gone.length:=by rw[TO.gone];omega
  have eg:(t.gone.map V.bl)[p]?=some (.bl t.gone[p]):=by rw[yna,ylb pl];rfl
  refine⟨_,rfl,a,_,_,_,rfl,rfl,SqT.of ea,zsa (j:=2) rfl,_,rfl,_,rfl,_,_,rfl,rfl,?_⟩;dsimp only;rw[hp];refine⟨b,_,_,_,rfl,rfl,SqT.of eb,zsa eg,_,rfl,?_⟩;have z:=q H (Same.refl _);have e:hpM t kd th = !t.gone[p]:=by
   unfold hpM;rw[if_pos c',hp,yib,yxa,ylb pl];rfl
  rw[e] at z;exact z
 ·have c':¬ th<0:=λz=>c (decide_eq_true z);obtain⟨b,rfl,eb⟩:=TP.p5;have e:hpM t kd th=(decide (kd = "come")||decide (th∈t.lying)):=if_neg c';have ek:decide (V.str kd=V.str "come")=decide (kd = "come"):=decide_eq_decide.mpr ⟨λz=>by injection z,λz=>by rw[z]⟩;refine⟨_,rfl,rfl,_,rfl,?_⟩;have z:=q H (Same.refl _);rw[e] at z;refine ite2 (λc1=>?_) (λc1=>?_)
  ·rw[← ek,c1,ypo] at z;exact z
  ·rw[← ek,yxg.mpr c1,yxp] at z;refine⟨_,rfl,_,rfl,a,_,_,_,rfl,rfl,SqT.of ea,zsa (j:=5) rfl,b,_,rfl,.inr (SqT.of eb),rfl,zwk _,?_⟩;show Q (.bl (inV (.int th) (iM t.lying))) H
   rw[inI];exact z
def zftb:Sp:=λvs H Q _=>Ex8 λtv ha (t:Tab) (np nc p:Nat) (kd:Str) (z:Int)=>vs=[tv,.ref ha]∧TabT H tv t∧TOk np nc t∧H ha=some (.tup [.str kd,.int (-1-(p:Int)),.int z])∧p<np∧kd∈zvb∧0≤z∧∀v' (t':Tab) H',Same H H'->TabT H' v' t'->PlR t p z kd t'->Q v' H'
theorem getx {α:Type}{xs:List α}{i:Nat}(h:i<xs.length):∃x,xs[i]?=some x:=⟨_,ylb h⟩
theorem All2.get2 {α β:Type}{R:α->β->Prop}{as:List α}{bs:List β}(z:All2 R as bs){i:Nat}{b:β}(h:bs[i]?=some b):∃a,as[i]?=some a∧R a b:=by
 induction z generalizing i with
 | nil=>simp at h
 | cons r _ ih =>
  cases i with
  | zero =>
   rw[yyd] at h;cases h;exact⟨_,rfl,r⟩
  | succ i =>
   rw[yrb] at h;obtain⟨a,e,q⟩:=ih h;exact⟨a,by rw[yrb];exact e,q⟩
theorem zmj {α:Type}{f:α->V}{xs:List α}{i:Nat}{x:α}(h:xs[i]?=some x):atI (xs.map f) (i:Int)=some (f x):=zsa (by rw[yna,h];rfl)
theorem zaeb {xs:List V}{z:Int}(h:0≤z):cutV xs none (some z)=xs.take z.toNat:=by
 have e:z=((z.toNat:Nat):Int):=by omega
 rw[e,zjs,yib]
theorem zzdb {xs:List V}{z:Int}(h:0≤z):cutV xs (some z) none=xs.drop z.toNat:=by
 have e:z=((z.toNat:Nat):Int):=by omega
 rw[e,zyk,yib]
theorem zjw {xs:List V}{lo hi:Option Int}(h:HT.sIx xs.length 0 lo=0∧HT.sIx xs.length xs.length hi=xs.length):cutV xs lo hi=xs:=by
 unfold cutV;rw[h.1,h.2,yqj,yqo,yta (yja _)]
theorem zcm (T:Tx K mg):FnOk P w K mg base CX0 4 T.zgc.f T.zgc.d ztf zftb:=by
 refine T.zgc.ok zbc ?_;rintro f c A o s H vs Q E hr ⟨tv,ha,t,np,nc,p,kd,z,rfl,TT,TO,eh,hp,hk,z0,q⟩ X;obtain⟨a,v0,v1,v2,v3,v4,v5,v6,v7,v8,rfl,ea,TP⟩:=TT;have np4:=TO.np4;refine⟨_,  (zca (zpg (pv 1) (zvx (n:=3) rfl (zvd (zkb (i:=2) zbc.nd rfl (.inl rfl)) (zvd (zkb (i:=3) zbc.nd rfl (.inl rfl)) (zvd (zkb (i:=4) zbc.nd rfl (.inl rfl)) zpr)))))
  (zca (zta (i:=5) zbc.nd rfl (.inl rfl) (zic zyl (zghb zex zfa) (pv 3)))
  (zca (zub (zma zad (pv 2) zoa (zeb _))
   (zda (zua (zga (zbd T) hr rfl T.zgb.m T.zgb.F.kp (zjd T) .nil zpa (zaa (pv 0) (zaa (zsb (v:=.int 0) rfl T.zun ⟨_,rfl⟩) (zaa (pv 5) (zaa (zic zyl (zya ztb (zya ztb (pv 0) (zsb (v:=.int 0) rfl T.zun ⟨_,rfl⟩) (λ_ _=>rfl)) (pv 5) (λ_ _=>rfl)) (pv 4)) zba)))))))
   zqa)
  (zca (zub (zma zad (pv 2) zoa (zeb _))
   (zda (zua (zga (zbd T) hr rfl T.zgb.m T.zgb.F.kp (zjd T) .nil zpa (zaa (pv 0) (zaa (zsb (v:=.int 1) rfl T.ztn ⟨_,rfl⟩) (zaa (pv 5) (zaa (zic zxf (zya ztb (zya ztb (pv 0) (zsb (v:=.int 1) rfl T.ztn ⟨_,rfl⟩) (λ_ _=>rfl)) (pv 5) (λ_ _=>rfl)) (pv 4)) zba)))))))
   zqa)
  (zca (zta (i:=6) zbc.nd rfl (.inl rfl) (zya ztb (zya ztb (pv 0) (zsb (v:=.int 3) rfl T.zgs ⟨_,rfl⟩) (λ_ _=>rfl)) (pv 5) (λ_ _=>rfl)))
  (zca (zta (i:=7) zbc.nd rfl (.inl rfl) (zza zbb rfl T.zec ysc (zaa (zva zeh rfl T.zgf yfi (zaa (zic zkhb (zya ztb (zya ztb (pv 0) (zsb (v:=.int 4) rfl T.zfs ⟨_,rfl⟩) (λ_ _=>rfl)) (pv 5) (λ_ _=>rfl)) (zoe zcv (pv 6) zch (zbh (pv 4)))) zba)) zba)))
  (zda (zua (zga (zbd T) hr rfl T.zgb.m T.zgb.F.kp (zjd T) .nil zpa (zaa (zga (zbd T) hr rfl T.zgb.m T.zgb.F.kp (zjd T) .nil zpa (zaa (pv 0) (zaa (zsb (v:=.int 4) rfl T.zfs ⟨_,rfl⟩) (zaa (pv 5) (zaa (pv 7) zba))))) (zaa (zsb (v:=.int 3) rfl T.zgs ⟨_,rfl⟩) (zaa (pv 5) (zaa (zoe zcv (pv 6) (zbh (pv 4)) zch) zba))))))))))))),?_⟩
 refine⟨_,rfl,ha,_,rfl,SqT.of eh,rfl,_,_,rfl,_,_,rfl,_,_,rfl,rfl,?_⟩;refine⟨_,rfl,_,rfl,_,_,rfl,rfl,?_⟩;have ep:(-1:Int)-(-1-(p:Int))=(p:Int):=by omega
 dsimp only;rw[show (-(1:Int)-(-1-(p:Int)))=(p:Int) from ep];simp only[zvb,yma,yff,or_false] at hk
 rcases hk with rfl|rfl|rfl
 ·obtain⟨b,rfl,eb⟩:=TP.p0;obtain⟨x,hx⟩:=getx (xs:=t.pts) (by rw[TO.pts];exact hp);refine⟨_,rfl,rfl,_,rfl,iteT ?_⟩;refine⟨_,rfl,_,rfl,_,rfl,a,_,_,_,rfl,rfl,SqT.of ea,zsa (j:=0) rfl,_,rfl,b,_,_,_,rfl,rfl,SqT.of eb,zmj hx,_,rfl,_,_,rfl,rfl,?_⟩;refine⟨a,b,_,_,0,p,_,rfl,ea,(by show 9≤1000;decide),rfl,eb,by unfold iM;rw[yaa,TO.pts];exact hp,by unfold iM;rw[yaa,TO.pts];omega,λc b' H1 S1 e1 e2=>?_⟩;have TP1:=TP.kp (Kp.same S1);refine q (.ref c) _ H1 S1 ⟨c,_,v1,v2,v3,v4,v5,v6,v7,v8,rfl,e2,?_⟩ (.lose hx);exact { TP1 with p0:=⟨b',rfl,by rw[e1];unfold iM;rw[ykc]⟩ }
 ·obtain⟨b,rfl,eb⟩:=TP.p1;obtain⟨x,hx⟩:=getx (xs:=t.scs) (by rw[TO.scs];exact hp);refine⟨_,rfl,rfl,_,rfl,iteF ⟨_,rfl,rfl,_,rfl,iteT ?_⟩⟩;refine⟨_,rfl,_,rfl,_,rfl,a,_,_,_,rfl,rfl,SqT.of ea,zsa (j:=1) rfl,_,rfl,b,_,_,_,rfl,rfl,SqT.of eb,zmj hx,_,rfl,_,_,rfl,rfl,?_⟩;refine⟨a,b,_,_,1,p,_,rfl,ea,(by show 9≤1000;decide),rfl,eb,by unfold iM;rw[yaa,TO.scs];exact hp,by unfold iM;rw[yaa,TO.scs];omega,λc b' H1 S1 e1 e2=>?_⟩;have TP1:=TP.kp (Kp.same S1);refine q (.ref c) _ H1 S1 ⟨c,v0,_,v2,v3,v4,v5,v6,v7,v8,rfl,e2,?_⟩ (.score hx);exact { TP1 with p1:=⟨b',rfl,by rw[e1];unfold iM;rw[ykc]⟩ }
 ·obtain⟨b3,u3,rfl,e3,al3⟩:=TP.p3;obtain⟨b4,u4,rfl,e4,al4⟩:=TP.p4;obtain⟨d,hd⟩:=getx (xs:=t.decks) (by rw[TO.decks];exact hp);obtain⟨h,hh⟩:=getx (xs:=t.hands) (by rw[TO.hands];exact hp);obtain⟨_,edv,db,rfl,edb⟩:=al3.get2 (b:=iM d) (by rw[yna,hd];rfl);obtain⟨_,ehv,hb,rfl,ehb⟩:=al4.get2 (b:=iM h) (by rw[yna,hh];rfl);have dl:=TO.ds d (ypa hd);have hl:=TO.hs h (ypa hh);refine⟨_,rfl,rfl,_,rfl,iteF ⟨_,rfl,rfl,_,rfl,iteF ?_⟩⟩;refine⟨_,rfl,a,_,_,_,rfl,rfl,SqT.of ea,zsa (j:=3) rfl,_,rfl,b3,_,_,_,rfl,rfl,SqT.of e3,zsa edv,?_⟩;refine⟨_,rfl,a,_,_,_,rfl,rfl,SqT.of ea,zsa (j:=4) rfl,_,rfl,b4,_,_,_,rfl,rfl,SqT.of e4,zsa ehv,_,rfl,_,rfl,_,rfl,?_⟩;refine' zsj (pre:=λc H1=>Same H H1∧H1 c=some (.tup (iM (d.take z.toNat)))) (λkk=>?ga) ?ka
  case ga =>
   refine⟨db,_,rfl,SqT.of edb,λwh=>?w1,λ_ c hc=>?f1⟩
   case f1 =>
    rw[zaeb z0];refine laid hc λH1 S1 e1=>?_;exact kk c H1 ⟨S1,by rw[e1];unfold iM;rw[ygk]⟩
   case w1 =>
    have ew:=zjw wh;rw[zaeb z0] at ew;have ez:H db=some (.tup (iM (d.take z.toNat))):=by
     rw[edb];unfold iM at ew ⊢;rw[ygk,ew]
    exact kk db H ⟨Same.refl _,ez⟩
  case ka =>
  rintro c1 H1 ⟨S1,e1⟩;refine' zsj (pre:=λc H2=>Same H H2∧H2 c=some (.tup (iM (h++d.take z.toNat)))) (λkk=>?gb) ?kb
  case gb =>
   have ehb1:=S1 _ _ ehb;refine⟨hb,c1,_,_,rfl,rfl,SqT.of ehb1,SqT.of e1,?s2,λx0=>?a2,λx0 y0=>?b2,λx0 y0 c hc=>?f2⟩
   case f2 =>
    refine laid hc λH2 S2 e2=>?_;exact kk c H2 ⟨S1.trans S2,by rw[e2];unfold iM;rw[yua]⟩
   case s2 =>
    unfold iM;rw[yaa,yaa,ycb];exact small (by omega)
   case a2 =>
    have h0:h=[]:=yve.mp x0;have ez:H1 c1=some (.tup (iM (h++d.take z.toNat))):=(by rw[h0];exact e1);exact kk c1 H1 ⟨S1,ez⟩
   case b2 =>
    have d0:d.take z.toNat=[]:=yve.mp y0;have ez:H1 hb=some (.tup (iM (h++d.take z.toNat))):=(by rw[d0,yad];exact ehb1);exact kk hb H1 ⟨S1,ez⟩
  case kb =>
  rintro c2 H2 ⟨S2,e2⟩;refine⟨c2,_,rfl,.inr (SqT.of e2),(by rw[yfa,ycb];omega),λl ys hl' py sy=>?_⟩;refine laid hl' λH3 S3 e3'=>?_;refine⟨l,_,rfl,.inl ⟨SqL.of e3',λtm htm=>?_⟩⟩;refine laid htm λH4 S4 e4'=>?_;have S04:=S2.trans (S3.trans S4);have l4:=al4.len;have l3:=al3.len;rw[yaa,TO.hands] at l4;rw[yaa,TO.decks] at l3;refine⟨_,rfl,_,rfl,_,rfl,a,b4,_,u4,4,p,.ref tm,rfl,S04 _ _ ea,(by show 9≤1000;decide),rfl,S04 _ _ e4,by omega,by omega,λta b4' H5 S5 e5 e5'=>?_⟩;have S05:=S04.trans S5;refine⟨_,rfl,_,rfl,_,rfl,_,rfl,?_⟩;refine' zsj (pre:=λc H6=>Same H5 H6∧H6 c=some (.tup (iM (d.drop z.toNat)))) (λkk=>?gc) ?kc
  case gc =>
   have edb5:=S05 _ _ edb;refine⟨db,_,rfl,SqT.of edb5,λwh=>?w3,λ_ c hc=>?f3⟩
   case f3 =>
    rw[zzdb z0];refine laid hc λH6 S6 e6=>?_;exact kk c H6 ⟨S6,by rw[e6];unfold iM;rw[yhk]⟩
   case w3 =>
    have ew:=zjw wh;rw[zzdb z0] at ew;have ez:H5 db=some (.tup (iM (d.drop z.toNat))):=by
     rw[edb5];unfold iM at ew ⊢;rw[yhk,ew]
    exact kk db H5 ⟨Same.refl _,ez⟩
  case kc =>
  rintro c3 H6 ⟨S6,e6⟩;have S06:=S05.trans S6;refine⟨ta,b3,_,u3,3,p,.ref c3,rfl,S6 _ _ e5',(by show 9≤1000;decide),rfl,S06 _ _ e3,by omega,by omega,λtb b3' H7 S7 e7 e7'=>?_⟩;have S07:=S06.trans S7;have TP7:=TP.kp (Kp.same S07);have k7:=Kp.same S07;refine q (.ref tb) _ H7 S07 ⟨tb,v0,v1,v2,.ref b3',.ref b4',v5,v6,v7,v8,rfl,e7',?_⟩ (.draw hd hh py sy);refine { TP7 with p3:=⟨b3',_,rfl,e7,?_⟩,p4:=⟨b4',_,rfl,(S6.trans S7) _ _ e5,?_⟩ }
  ·rw[ykc];exact (al3.imp λz=>z.kp k7).set ⟨c3,rfl,S7 _ _ e6⟩ p
  ·rw[ykc];exact (al4.imp λz=>z.kp k7).set ⟨tm,rfl,(S5.trans (S6.trans S7)) _ _ e4'⟩ p
def CdsT (B:Addr)(H:Hp)(ca:Addr)(cms:List (List Str)):Prop:=∃cvs,H ca=some (.lst cvs)∧All2 (CmT B H) cvs cms
theorem CdsT.same {B:Addr}{H H':Hp}(s:Same H H'){ca:Addr}{cms:List (List Str)}(h:CdsT B H ca cms):CdsT B H' ca cms:=by
 obtain⟨cvs,e,al⟩:=h;exact⟨cvs,s _ _ e,al.imp λz=>z.kp (Kp.same s)⟩
def zctb (B:Addr):Sp:=λvs H Q _=>Ex8 λca tv (t:Tab) (np nc n:Nat) (cms:List (List Str)) (ms:List Str)=>vs=[.ref ca,tv,.int (n:Int)]∧CdsT B H ca cms∧TabT H tv t∧TOk np nc t∧n<nc∧cms[n]?=some ms∧∀v' H',Same H H'->TabT H' v' { t with marks:=t.marks.set n ms,wnds:=t.wnds.set n 0 }->Q v' H'
def zdtb (B:Addr):Sp:=λvs H Q _=>Ex7 λca tv (t:Tab) (np nc n:Nat) (cms:List (List Str))=>vs=[.ref ca,tv,.int (n:Int)]∧CdsT B H ca cms∧TabT H tv t∧TOk np nc t∧n<nc∧cms.length=nc∧∀v' (t':Tab) H',Same H H'->TabT H' v' t'->CrR cms t n .non "leave" t'->Q v' H'
def zgtb (B:Addr):Sp:=λvs H Q _=>Ex10 λca tv ha (t:Tab) (np nc n:Nat) (cms:List (List Str)) (kd:Str) av=>vs=[.ref ca,tv,.ref ha]∧CdsT B H ca cms∧TabT H tv t∧TOk np nc t∧H ha=some (.tup [.str kd,.int (n:Int),av])∧n<nc∧cms.length=nc∧(kd = "come" ∨ kd = "leave" ∨ (kd = "hurt" ∧ ∃z:Int,av = .int z)∨((kd = "gain" ∨ kd = "lack")∧∃u:Str,av = .str u))∧∀v' (t':Tab) H',Same H H'->TabT H' v' t'->CrR cms t n av kd t'->Q v' H'
theorem zcu (T:Tx K mg):FnOk P w K mg base CX0 4 T.zjf.f T.zjf.d zvs (zctb T.zsf):=by
 refine T.zjf.ok zveb ?_;rintro f c A o s H vs Q E hr ⟨ca,tv,t,np,nc,n,cms,ms,rfl,CD,TT,TO,hn,em,q⟩ X;obtain⟨a,v0,v1,v2,v3,v4,v5,v6,v7,v8,rfl,ea,TP⟩:=TT;have nc16:=TO.nc16;obtain⟨cvs,ec,al⟩:=CD;obtain⟨_,ecv,cd,dx,m,tt,nm,c,f,rfl,ecd,emm⟩:=al.get2 em;obtain⟨b7,u7,rfl,e7,al7⟩:=TP.p7;have l7:=al7.len;rw[yaa,TO.marks] at l7;refine⟨_,  (zda (zua (zga (zbd T) hr rfl T.zgb.m T.zgb.F.kp (zjd T) .nil zpa (zaa (zga (zbd T) hr rfl T.zgb.m T.zgb.F.kp (zjd T) .nil zpa (zaa (pv 1) (zaa (zsb (v:=.int 7) rfl T.zro ⟨_,rfl⟩) (zaa (pv 2) (zaa (zsr (zya zwa (pv 0) (pv 2) (λ_ _=>rfl)) rfl) zba))))) (zaa (zsb (v:=.int 8) rfl T.zrl ⟨_,rfl⟩) (zaa (pv 2) (zaa zfa zba))))))),?_⟩;refine⟨_,rfl,_,rfl,_,rfl,?_⟩;refine⟨_,rfl,ca,_,_,_,rfl,rfl,SqL.of ec,zsa ecv,cd,_,dx,_,_,rfl,ecd,T.zkm,T.zrg,zejb _ _ _ _ _,?_⟩;refine⟨a,b7,_,u7,7,n,.ref m,rfl,ea,(by show 9≤1000;decide),rfl,e7,by omega,by omega,λa1 b7' H1 S1 e1 e1'=>?_⟩;obtain⟨b8,rfl,e8⟩:=TP.p8;refine⟨_,rfl,a1,b8,_,_,8,n,.int 0,rfl,e1',(by show 9≤1000;decide),rfl,S1 _ _ e8,by unfold iM;rw[yaa,TO.wnds];exact hn,by unfold iM;rw[yaa,TO.wnds];omega,λa2 b8' H2 S2 e2 e2'=>?_⟩;have S12:=S1.trans S2;have k2:=Kp.same S12;have TP2:=TP.kp k2;refine q (.ref a2) H2 S12 ⟨a2,v0,v1,v2,v3,v4,v5,v6,.ref b7',.ref b8',rfl,e2',?_⟩;refine { TP2 with p7:=⟨b7',_,rfl,S2 _ _ e1,?_⟩,p8:=⟨b8',rfl,by rw[e2];unfold iM;rw[ykc]⟩ };rw[ykc];exact (al7.imp λz=>z.kp k2).set ⟨m,rfl,S12 _ _ emm⟩ n
theorem zdbb (T:Tx K mg):FnOk P w K mg base CX0 5 T.zzf.f T.zzf.d zyo (zdtb T.zsf):=by
 refine T.zzf.ok zbm ?_;rintro f c A o s H vs Q E hr ⟨ca,tv,t,np,nc,n,cms,rfl,CD,TT,TO,hn,hc,q⟩ X;obtain⟨ms,em⟩:=getx (xs:=cms) (by rw[hc];exact hn);refine⟨_,  (zca (zta (i:=1) zbm.nd rfl (.inl rfl) (zga (zcu T) hr rfl T.zjf.m T.zjf.F.kp (zvz T) .nil zpa (zaa (pv 0) (zaa (pv 1) (zaa (pv 2) zba)))))
  (zca (zta (i:=1) zbm.nd rfl (.inl rfl) (zga (zuh T).up hr rfl T.zlc.m T.zlc.F.kp (zlj T) .nil zpa (zaa (pv 1) (zaa (zsb (v:=.int 5) rfl T.zvk ⟨_,rfl⟩) (zaa (zga (zbu T).up hr rfl T.zif.m T.zif.F.kp (ztz T) .nil zpa (zaa (zya ztb (pv 1) (zsb (v:=.int 5) rfl T.zvk ⟨_,rfl⟩) (λ_ _=>rfl)) (zaa (pv 2) zba))) zba)))))
  (zda (zua (zga (zuh T).up hr rfl T.zlc.m T.zlc.F.kp (zlj T) .nil zpa (zaa (pv 1) (zaa (zsb (v:=.int 6) rfl T.zbz ⟨_,rfl⟩) (zaa (zga (ziy T).up hr rfl T.zmh.m T.zmh.F.kp (zdeb T) .nil zpa (zaa (zya ztb (pv 1) (zsb (v:=.int 6) rfl T.zbz ⟨_,rfl⟩) (λ_ _=>rfl)) (zaa (pv 2) zba))) zba)))))))),?_⟩
 refine⟨_,rfl,_,rfl,_,rfl,ca,tv,t,np,nc,n,cms,ms,rfl,CD,TT,TO,hn,em,λt1 H1 S1 TT1=>?_⟩;obtain⟨a,v0,v1,v2,v3,v4,v5,v6,v7,v8,rfl,ea,TP⟩:=TT1;obtain⟨b5,rfl,e5⟩:=TP.p5;obtain⟨b6,rfl,e6⟩:=TP.p6;have ly:=TO.ly;have hpl:=TO.hp;refine⟨_,rfl,_,rfl,a,_,_,_,rfl,rfl,SqT.of ea,zsa (j:=5) rfl,_,rfl,b5,_,.int (n:Int),rfl,e5,?_,by unfold iM;rw[yaa];show t.lying.length≤60;omega,λp5 H2 S2 e2=>?_⟩
 ·intro v hv;obtain⟨y,_,rfl⟩:=yac.mp hv;rfl
 refine⟨a,_,5,.ref p5,rfl,S2 _ _ ea,(by show 5<9;decide),(by show 9≤1000;decide),λa2 H3 S3 e3=>?_⟩;have S23:=S2.trans S3;refine⟨_,rfl,_,rfl,a2,_,_,_,rfl,rfl,SqT.of e3,zsa (j:=6) rfl,_,rfl,b6,.int (n:Int),rfl,.inr ⟨t.heap,(n:Int),rfl,S23 _ _ e6,by omega,λp6 zs H4 S4 e4 pz sz=>?_⟩⟩;refine⟨a2,_,6,.ref p6,rfl,S4 _ _ e3,(by show 6<9;decide),(by show 9≤1000;decide),λa3 H5 S5 e5'=>?_⟩;have S45:=S4.trans S5;have S25:=S23.trans S45;have S15:=S1.trans S25;have TP5:=TP.kp (Kp.same S25);refine q (.ref a3) _ H5 S15 ⟨a3,v0,v1,v2,v3,v4,.ref p5,.ref p6,v7,v8,rfl,e5',?_⟩ (.leave em pz sz);refine { TP5 with p5:=⟨p5,rfl,?_⟩,p6:=⟨p6,rfl,S5 _ _ e4⟩ };rw[(S3.trans S45) _ _ e2];unfold iM;rw[List.filter_map]
 congr 3
 refine yoq λx _=>?_;show (!decide (V.int x=V.int n)) = !decide (x=(n:Int))
 rw[decide_eq_decide.mpr ⟨λz=>by injection z,λz=>by rw[z]⟩]
theorem zjo (T:Tx K mg):FnOk P w K mg base CX0 6 T.zqc.f T.zqc.d zfh (zgtb T.zsf):=by
 refine T.zqc.ok zfd ?_;rintro f c A o s H vs Q E hr ⟨ca,tv,ha,t,np,nc,n,cms,kd,av,rfl,CD,TT,TO,eh,hn,hc,hk,q⟩ X;obtain⟨ms,em⟩:=getx (xs:=cms) (by rw[hc];exact hn);have nc16:=TO.nc16;refine⟨_,  (zca (zpg (pv 2) (zvx (n:=3) rfl (zvd (zkb (i:=3) zfd.nd rfl (.inl rfl)) (zvd (zkb (i:=4) zfd.nd rfl (.inl rfl)) (zvd (zkb (i:=5) zfd.nd rfl (.inl rfl)) zpr)))))
  (zca (zub (zma zad (pv 3) zoa (zeb _))
   (zda (zua (zga (zuh T).up hr rfl T.zlc.m T.zlc.F.kp (zlj T) .nil zpa (zaa (zga (zcu T).up hr rfl T.zjf.m T.zjf.F.kp (zvz T) .nil zpa (zaa (pv 0) (zaa (pv 1) (zaa (pv 4) zba)))) (zaa (zsb (v:=.int 5) rfl T.zvk ⟨_,rfl⟩) (zaa (zic zmv (zya ztb (pv 1) (zsb (v:=.int 5) rfl T.zvk ⟨_,rfl⟩) (λ_ _=>rfl)) (zyc (zaa (pv 4) zba))) zba))))))
   zqa)
  (zca (zub (zma zad (pv 3) zoa (zeb _))
   (zda (zua (zga (zdbb T) hr rfl T.zzf.m T.zzf.F.kp (zpfb T) .nil zpa (zaa (pv 0) (zaa (pv 1) (zaa (pv 4) zba))))))
   zqa)
  (zca (zub (zma zad (pv 3) zoa (zeb _))
   (zda (zua (zga (zbd T).up hr rfl T.zgb.m T.zgb.F.kp (zjd T) .nil zpa (zaa (pv 1) (zaa (zsb (v:=.int 8) rfl T.zrl ⟨_,rfl⟩) (zaa (pv 4) (zaa (zic zxf (zya ztb (zya ztb (pv 1) (zsb (v:=.int 8) rfl T.zrl ⟨_,rfl⟩) (λ_ _=>rfl)) (pv 4) (λ_ _=>rfl)) (pv 5)) zba)))))))
   zqa)
  (zca (zta (i:=6) zfd.nd rfl (.inl rfl) (zya ztb (zya ztb (pv 1) (zsb (v:=.int 7) rfl T.zro ⟨_,rfl⟩) (λ_ _=>rfl)) (pv 4) (λ_ _=>rfl)))
  (zda (zua (zga (zbd T).up hr rfl T.zgb.m T.zgb.F.kp (zjd T) .nil zpa (zaa (pv 1) (zaa (zsb (v:=.int 7) rfl T.zro ⟨_,rfl⟩) (zaa (pv 4) (zaa (zwkb (zma zad (pv 3) zoa (zeb _)) (zga (ziy T).up hr rfl T.zmh.m T.zmh.F.kp (zdeb T) .nil zpa (zaa (pv 6) (zaa (pv 5) zba))) (zga (zbu T).up hr rfl T.zif.m T.zif.F.kp (ztz T) .nil zpa (zaa (pv 6) (zaa (pv 5) zba)))) zba)))))))))))),?_⟩
 refine⟨_,rfl,ha,_,rfl,SqT.of eh,rfl,_,_,rfl,_,_,rfl,_,_,rfl,rfl,?_⟩
 rcases hk with rfl|rfl|⟨rfl,z,rfl⟩|⟨hk,u,rfl⟩
 ·refine⟨_,rfl,rfl,_,rfl,iteT ?_⟩;refine⟨_,rfl,_,rfl,_,rfl,ca,tv,t,np,nc,n,cms,ms,rfl,CD,TT,TO,hn,em,λt1 H1 S1 TT1=>?_⟩;obtain⟨a,v0,v1,v2,v3,v4,v5,v6,v7,v8,rfl,ea,TP⟩:=TT;obtain⟨a1,w0,w1,w2,w3,w4,w5,w6,w7,w8,rfl,ea1,TP1⟩:=TT1;obtain⟨b5,rfl,e5⟩:=TP.p5;have fin:∀c5 H2,Same H1 H2->H2 c5=some (.tup (iM (t.lying++[(n:Int)])))->zrt [.ref a1,.int ((5:Nat):Int),.ref c5] H2 Q E0:=by
   intro c5 H2 S2 e2;refine⟨a1,_,5,.ref c5,rfl,S2 _ _ ea1,(by show 5<9;decide),(by show 9≤1000;decide),λa3 H3 S3 e3=>?_⟩;have S13:=S2.trans S3;have TP3:=TP1.kp (Kp.same S13);refine q (.ref a3) _ H3 (S1.trans S13) ⟨a3,w0,w1,w2,w3,w4,.ref c5,w6,w7,w8,rfl,e3,?_⟩ (.come em);exact { TP3 with p5:=⟨c5,rfl,S3 _ _ e2⟩ }
  refine⟨_,rfl,a,_,_,_,rfl,rfl,SqT.of (S1 _ _ ea),zsa (j:=5) rfl,_,rfl,sz1,λt1 ht1=>?_⟩;refine laid ht1 λH2 S2 e2=>?_;have ly:=TO.ly;have e5':=(S1.trans S2) _ _ e5;refine⟨b5,t1,_,_,rfl,rfl,SqT.of e5',SqT.of e2,by simp,(by unfold iM;rw[yaa];exact small (by show t.lying.length+1≤1000;omega)),λz=>?g1,λz t2 ht2=>?g2⟩
  case g2 =>
   refine laid ht2 λH3 S3 e3=>?_;exact fin t2 H3 (S2.trans S3) (by rw[e3];unfold iM;rw[yua];rfl)
  case g1 =>
   have z':t.lying=[]:=yve.mp z;exact fin t1 H2 S2 (by rw[e2,z'];rfl)
 ·refine⟨_,rfl,rfl,_,rfl,iteF ⟨_,rfl,rfl,_,rfl,iteT ?_⟩⟩;refine⟨_,rfl,_,rfl,_,rfl,ca,tv,t,np,nc,n,cms,rfl,CD,TT,TO,hn,hc,λt1 t' H1 S1 TT1 cr=>?_⟩;refine q t1 t' H1 S1 TT1 ?_;cases cr with
  | leave e1 p1 s1=>exact .leave e1 p1 s1
 ·refine⟨_,rfl,rfl,_,rfl,iteF ⟨_,rfl,rfl,_,rfl,iteF ⟨_,rfl,rfl,_,rfl,iteT ?_⟩⟩⟩;obtain⟨a,v0,v1,v2,v3,v4,v5,v6,v7,v8,rfl,ea,TP⟩:=TT;obtain⟨b,rfl,eb⟩:=TP.p8;obtain⟨x,hx⟩:=getx (xs:=t.wnds) (by rw[TO.wnds];exact hn);refine⟨_,rfl,_,rfl,_,rfl,a,_,_,_,rfl,rfl,SqT.of ea,zsa (j:=8) rfl,_,rfl,b,_,_,_,rfl,rfl,SqT.of eb,zmj hx,_,rfl,_,_,rfl,rfl,?_⟩;refine⟨a,b,_,_,8,n,_,rfl,ea,(by show 9≤1000;decide),rfl,eb,by unfold iM;rw[yaa,TO.wnds];exact hn,by unfold iM;rw[yaa,TO.wnds];omega,λc b' H1 S1 e1 e2=>?_⟩;have TP1:=TP.kp (Kp.same S1);refine q (.ref c) _ H1 S1 ⟨c,v0,v1,v2,v3,v4,v5,v6,v7,_,rfl,e2,?_⟩ (.hurt hx);exact { TP1 with p8:=⟨b',rfl,by rw[e1];unfold iM;rw[ykc]⟩ }
 ·have k1:kd ≠ "come":=by rintro rfl;rcases hk with z|z<;>exact absurd z (by decide +kernel)
  have k2:kd ≠ "leave":=by rintro rfl;rcases hk with z|z<;>exact absurd z (by decide +kernel)
  have k3:kd ≠ "hurt":=by rintro rfl;rcases hk with z|z<;>exact absurd z (by decide +kernel)
  have kf:∀{u:Str},kd≠u->decide (V.str kd=V.str u)=false:=λh=>decide_eq_false (by intro z;injection z with z;exact h z);refine⟨_,rfl,rfl,_,rfl,ite2 (λz=>absurd z (by rw[kf k1];decide)) (λ_=>?_)⟩;refine⟨_,rfl,rfl,_,rfl,ite2 (λz=>absurd z (by rw[kf k2];decide)) (λ_=>?_)⟩;refine⟨_,rfl,rfl,_,rfl,ite2 (λz=>absurd z (by rw[kf k3];decide)) (λ_=>?_)⟩;obtain⟨a,v0,v1,v2,v3,v4,v5,v6,v7,v8,rfl,ea,TP⟩:=TT;obtain⟨b,u7,rfl,eb,al⟩:=TP.p7;have l7:=al.len;rw[yaa,TO.marks] at l7;obtain⟨mm,hm⟩:=getx (xs:=t.marks) (by rw[TO.marks];exact hn);obtain⟨_,emv,mb,rfl,emb⟩:=al.get2 (b:=sM mm) (by rw[yna,hm];rfl);have ml:=TO.ms mm (ypa hm);refine⟨_,rfl,a,_,_,_,rfl,rfl,SqT.of ea,zsa (j:=7) rfl,_,rfl,b,_,_,_,rfl,rfl,SqT.of eb,zsa emv,?_⟩;have fin:∀c7 (zs:List Str) H2,Same H H2->H2 c7=some (.tup (sM zs))->CrR cms t n (.str u) kd { t with marks:=t.marks.set n zs }->zigb [.ref a,.int ((7:Nat):Int),.int (n:Int),.ref c7] H2 Q E0:=by
   intro c7 zs H2 S2 e2 cr;refine⟨a,b,_,u7,7,n,.ref c7,rfl,S2 _ _ ea,(by show 9≤1000;decide),rfl,S2 _ _ eb,by omega,by omega,λc b' H3 S3 e3 e3'=>?_⟩;have k3:=Kp.same (S2.trans S3);have TP3:=TP.kp k3;refine q (.ref c) _ H3 (S2.trans S3) ⟨c,v0,v1,v2,v3,v4,v5,v6,_,v8,rfl,e3',?_⟩ cr;refine { TP3 with p7:=⟨b',_,rfl,e3,?_⟩ };rw[ykc];exact (al.imp λz=>z.kp k3).set ⟨c7,rfl,S3 _ _ e2⟩ n
  refine⟨_,rfl,_,rfl,_,rfl,rfl,_,rfl,?_⟩
  rcases hk with rfl|rfl
  ·refine iteT ?_;refine⟨_,rfl,_,rfl,mb,.str u,rfl,.inl ⟨mm,u,rfl,emb,by omega,λp zs H2 S2 e2 pz sz=>?_⟩⟩;exact fin p zs H2 S2 e2 (.gain hm pz sz)
  ·refine iteF ?_;refine⟨_,rfl,_,rfl,mb,_,.str u,rfl,emb,?_,by unfold sM;rw[yaa];omega,λp H2 S2 e2=>?_⟩
   ·intro v hv;obtain⟨y,_,rfl⟩:=yac.mp hv;rfl
   ·refine fin p _ H2 S2 ?_ (.lack hm);rw[e2];unfold sM;rw[List.filter_map]
    congr 3
    refine yoq λx _=>?_;show (!decide (V.str x=V.str u)) = !decide (x=u)
    rw[decide_eq_decide.mpr ⟨λz=>by injection z,λz=>by rw[z]⟩]
def CrK (kd:Str)(av:V):Prop:=kd = "come" ∨ kd = "leave" ∨ (kd = "hurt" ∧ ∃z:Int,av = .int z)∨((kd = "gain" ∨ kd = "lack")∧∃u:Str,av = .str u)
inductive HpR (cms:List (List Str))(t:Tab):Str->Int->V->Tab->Prop where
 | no {kd:Str} {th:Int} {av:V}:hpM t kd th=false->HpR cms t kd th av t
 | pl {kd:Str} {p:Nat} {z:Int} {t':Tab}:t.gone[p]?=some false->PlR t p z kd t'->HpR cms t kd (-1-(p:Int)) (.int z) t'
 | cr {kd:Str} {n:Nat} {av:V} {t':Tab}:(kd = "come" ∨ (n:Int)∈t.lying)->CrR cms t n av kd t'->HpR cms t kd (n:Int) av t'
def zfkb (B:Addr):Sp:=λvs H Q _=>Ex10 λca tv ha (t:Tab) (np nc:Nat) (th:Int) (cms:List (List Str)) (kd:Str) av=>vs=[.ref ca,tv,.ref ha]∧CdsT B H ca cms∧TabT H tv t∧TOk np nc t∧H ha=some (.tup [.str kd,.int th,av]) ∧ -(np:Int)≤th∧th<nc∧cms.length=nc∧(th<0->kd∈zvb∧∃z:Int,av = .int z∧0≤z)∧(0≤th->CrK kd av)∧∀v' (t':Tab) H',Same H H'->TabT H' v' t'->HpR cms t kd th av t'->Q v' H'
theorem zky (T:Tx K mg):FnOk P w K mg base CX0 7 T.znh.f T.znh.d zyw (zfkb T.zsf):=by
 refine T.znh.ok ztgb ?_;rintro f c A o s H vs Q E hr ⟨ca,tv,ha,t,np,nc,th,cms,kd,av,rfl,CD,TT,TO,eh,h1,h2,hc,kp,kc,q⟩ X;refine⟨_,  (zca (zub (zgk (zof (zga (zbfb T).up hr rfl T.zph.m T.zph.F.kp (zmjb T) .nil zpa (zaa (pv 1) (zaa (pv 2) zba)))))
   (zda (zua (pv 1)))
   zqa)
  (zca (zub (zma zafb (zya ztb (pv 2) zfa (λ_ _=>rfl)) zfa (zeb _))
   (zda (zua (zga (zcm T).up hr rfl T.zgc.m T.zgc.F.kp (zao T) .nil zpa (zaa (pv 1) (zaa (pv 2) zba)))))
   zqa)
  (zda (zua (zga (zjo T) hr rfl T.zqc.m T.zqc.F.kp (zcq T) .nil zpa (zaa (pv 0) (zaa (pv 1) (zaa (pv 2) zba)))))))),?_⟩
 refine⟨_,rfl,_,rfl,tv,ha,t,np,nc,kd,th,av,rfl,TT,TO,eh,h1,λH1 S1=>?_⟩;have eh1:=S1 _ _ eh;have TT1:=TT.kp (Kp.same S1);refine⟨_,rfl,ite2 (λc=>?_) (λc=>?_)⟩
 ·have c':hpM t kd th=false:=by simpa using c
  exact⟨_,rfl,q tv t H1 S1 TT1 (.no c')⟩
 have c':hpM t kd th=true:=by simpa using c
 refine⟨_,rfl,ha,_,_,_,rfl,rfl,SqT.of eh1,zsa (j:=1) rfl,_,_,rfl,rfl,_,rfl,ite2 (λd=>?_) (λd=>?_)⟩
 ·have d':th<0:=of_decide_eq_true d;obtain⟨hk,z,rfl,z0⟩:=kp d';obtain⟨p,rfl⟩:∃p:Nat,th = -1-(p:Int):=⟨(-1-th).toNat,by omega⟩;have pn:p<np:=by omega
  obtain⟨g,hg⟩:=getx (xs:=t.gone) (by rw[TO.gone];exact pn);have g0:g=false:=by
   unfold hpM at c';rw[if_pos d',show (-1-(-1-(p:Int))).toNat=p by omega,yxa,hg] at c'
   simpa using c'
  refine⟨_,rfl,_,rfl,tv,ha,t,np,nc,p,kd,z,rfl,TT1,TO,eh1,pn,hk,z0,λv' t' H' S' TT' pr=>?_⟩;exact q v' t' H' (S1.trans S') TT' (.pl (by rw[hg,g0]) pr)
 ·have d':¬ th<0:=λz=>d (decide_eq_true z);obtain⟨n,rfl⟩:∃n:Nat,th=(n:Int):=⟨th.toNat,by omega⟩;have nn:n<nc:=by omega
  have hm:kd = "come" ∨ (n:Int)∈t.lying:=by
   unfold hpM at c';rw[if_neg d'] at c'
   rcases Bool.or_eq_true_iff.mp c' with z|z
   ·exact .inl (of_decide_eq_true z)
   ·exact .inr (of_decide_eq_true z)
  refine⟨_,rfl,_,rfl,_,rfl,ca,tv,ha,t,np,nc,n,cms,kd,av,rfl,CD.same S1,TT1,TO,eh1,nn,hc,kc (by omega),λv' t' H' S' TT' cr=>?_⟩;exact q v' t' H' (S1.trans S') TT' (.cr hm cr)
theorem zxu {G:Prop}{Kx pre:V->Hp->Prop}(g:(∀v Hs,pre v Hs->Kx v Hs)->G)(k:∀v Hs,pre v Hs->Kx v Hs):G:=g k
inductive AmtV:Str->V->Wv->Prop where
 | leave:AmtV "leave" (.int 0) .non
 | gain {n:Str}:zje n->AmtV "gain" (.str n) (.name n)
 | lack {n:Str}:zje n->AmtV "lack" (.str n) (.name n)
 | hurt {i:Nat}:i<1000->AmtV "hurt" (.int (i:Int)) (.num i)
 | lose {i:Nat}:i<1000->AmtV "lose" (.int (i:Int)) (.num i)
 | score {i:Nat}:i<1000->AmtV "score" (.int (i:Int)) (.num i)
 | draw {i:Nat}:i<1000->AmtV "draw" (.int (i:Int)) (.num i)
def DT (H:Hp)(v:V)(d:Deed):Prop:=Ex3 λa av x=>v = .ref a∧H a=some (.tup [.str d.each,.str d.kind,av,x])∧WT H x d.whom∧AmtV d.kind av d.amt∧d.ok
theorem DT.kp {H H':Hp}(s:Kp H H'){v:V}{d:Deed}(h:DT H v d):DT H' v d:=by
 obtain⟨a,av,x,e,h1,h2,h3,h4⟩:=h;exact⟨a,av,x,e,s.t h1,h2.kp s,h3,h4⟩
def ziz (d:Deed):Str:=ywa " " d.words
theorem znpb {k:Str}{av:V}{z:Wv}(h:AmtV k av z):∃u:Str,((av = .str u)∨∃i:Nat,i<1000∧av = .int i∧u=(toString (i:Int):Str))∧u.length≤8∧((k = "leave" ∧ z = .non)∨(k ≠ "leave" ∧ z.words=[u])):=by
 cases h with
 | leave=>exact⟨_,.inr ⟨0,by decide,rfl,rfl⟩,(zxd (by decide:0<1000)).2.2,.inl ⟨rfl,rfl⟩⟩
 | gain h=>exact⟨_,.inl rfl,h.2.1,.inr ⟨by decide +kernel,rfl⟩⟩
 | lack h=>exact⟨_,.inl rfl,h.2.1,.inr ⟨by decide +kernel,rfl⟩⟩
 | hurt h=>exact⟨_,.inr ⟨_,h,rfl,rfl⟩,(zxd h).2.2,.inr ⟨by decide +kernel,rfl⟩⟩
 | lose h=>exact⟨_,.inr ⟨_,h,rfl,rfl⟩,(zxd h).2.2,.inr ⟨by decide +kernel,rfl⟩⟩
 | score h=>exact⟨_,.inr ⟨_,h,rfl,rfl⟩,(zxd h).2.2,.inr ⟨by decide +kernel,rfl⟩⟩
 | draw h=>exact⟨_,.inr ⟨_,h,rfl,rfl⟩,(zxd h).2.2,.inr ⟨by decide +kernel,rfl⟩⟩
theorem zis (ea kd:Str)(z:Wv)(y:Wh):ywa " " (ea::kd::(z.words++[whT y]))=ziz ⟨ea,kd,z,y⟩:=by
 have e:=zql " " (xs:=ea::kd::z.words) (ys:=[whT y]) (ybc _ _) (ybc _ _);have e2:=zql " " (xs:=ea::kd::z.words) (ys:=y.words) (ybc _ _) (zod y);rw[ydg,ydg] at e e2;rw[e];exact e2.symm
theorem zxib {d:Deed}(h:d.ok):(ziz d).length≤250:=by
 obtain⟨ea,kd,z,y⟩:=d;have a:=zxj " " (ea::kd::(z.words++[whT y]));rw[zis] at a;have l1:(" ":Str).length=1:=rfl;have w1:(whT y).length≤200:=zvu h.whom.1 h.whom.2;have e8:ea.length≤8:=(zsn (l:=zgz) (by decide +kernel) h.each).1.2.2;have k8:kd.length≤8:=(zsn (l:=zne) (by decide +kernel) h.amt.kind).1.2.2;have zz:z.words.length≤1∧(z.words.map (·.length)).sum≤8:=by
  have:=h.amt;cases this with
  | leave=>exact⟨by decide,by decide⟩
  | gain g=>exact⟨yja _,by show _+0≤8;exact g.2.1⟩
  | lack g=>exact⟨yja _,by show _+0≤8;exact g.2.1⟩
  | hurt g=>exact⟨yja _,by show _+0≤8;exact (zxd g).2.2⟩
  | lose g=>exact⟨yja _,by show _+0≤8;exact (zxd g).2.2⟩
  | score g=>exact⟨yja _,by show _+0≤8;exact (zxd g).2.2⟩
  | draw g=>exact⟨yja _,by show _+0≤8;exact (zxd g).2.2⟩
 simp only[yob,yua,yah,yme,List.sum_append,yvj,yka,yfa,ywg] at a;rw[l1] at a;omega
def zvnb:Sp:=λvs H Q _=>Ex2 λv (d:Deed)=>vs=[v]∧DT H v d∧∀H',Same H H'->Q (.str (ziz d)) H'
theorem zon (T:Tx K mg):FnOk P w K mg base CX0 12 T.znc.f T.znc.d zfg zvnb:=by
 refine T.znc.ok zgi ?_;rintro f c A o s H vs Q E hr ⟨v,⟨ea,kd,z,y⟩,rfl,⟨a,av,x,rfl,eA,W,am,ok⟩,q⟩ X;obtain⟨u,hv,u8,hz⟩:=znpb am;have w1:(whT y).length≤200:=zvu ok.whom.1 ok.whom.2;have y9:y.size≤9:=ok.whom.2;have e8:ea.length≤8:=(zsn (l:=zgz) (by decide +kernel) ok.each).1.2.2;have k8:kd.length≤8:=(zsn (l:=zne) (by decide +kernel) ok.amt.kind).1.2.2;have l1:(" ":Str).length=1:=rfl;refine⟨_,  (zca (zta (i:=1) zgi.nd rfl (.inl rfl) (zge (zaa (zya ztb (pv 0) zfa (λ_ _=>rfl)) (zaa (zya ztb (pv 0) zfa (λ_ _=>rfl)) (zaa (zza zal rfl T.zbt yro (zaa (zya ztb (pv 0) zfa (λ_ _=>rfl)) zba)) (zaa (zga (zkk T 9) hr rfl T.zib.m T.zib.F.kp (zug T) .nil zpa (zaa (zya ztb (pv 0) zfa (λ_ _=>rfl)) zba)) zba))))))
  (zca (zub (zma zad (zya ztb (pv 0) zfa (λ_ _=>rfl)) zoa (zeb _))
   (zda (zfe (zdi yec PySem.F.slot_list_pop PySem.F.type_list_pop zdlb (pv 1) (zaa zfa zba))))
   zqa)
  (zda (zua (zdi ygc yvd ywd zem zoa (zaa (pv 1) zba)))))),?_⟩
 refine⟨_,rfl,a,_,_,_,rfl,rfl,SqT.of eA,zsa (j:=0) rfl,_,rfl,a,_,_,_,rfl,rfl,SqT.of eA,zsa (j:=1) rfl,_,rfl,a,_,_,_,rfl,rfl,SqT.of eA,zsa (j:=2) rfl,zdcb hv _ _ ?_⟩;refine⟨_,rfl,a,_,_,_,rfl,rfl,SqT.of eA,zsa (j:=3) rfl,x,y,rfl,W,ok.whom.1,yva (zymb y) y9,y9,λH1 S1=>⟨sz4,λl hl=>?_⟩⟩;have hl0:H l=none:=none_of S1 hl;refine laid hl λH2 S2 e2=>?_;have S02:=S1.trans S2;refine⟨_,rfl,a,_,_,_,rfl,rfl,SqT.of (S02 _ _ eA),zsa (j:=1) rfl,rfl,_,rfl,ite2 (λc=>?_) (λc=>?_)⟩
 ·have c':=of_decide_eq_true c;injection c' with c'
  have c2:kd = "leave":=c';have zn:z = .non:=by
   rcases hz with⟨_,h⟩|⟨h,_⟩
   ·exact h
   ·exact absurd c2 h
  subst zn;refine⟨_,rfl,.inl ⟨rfl,_,SqL.of e2⟩,l,_,2,2,_,rfl,rfl,e2,by decide,by decide,rfl,rfl,?_⟩;refine⟨rfl,_,rfl," ",l,[ea,kd,whT y],rfl,rfl,SqL.of zia,?_,?_⟩
  ·simp only[yob,yah,yme,yvj,yka,ywg];omega
  ·have et:=zis ea kd .non y;have et':ywa " " [ea,kd,whT y]=ziz ⟨ea,kd,.non,y⟩:=et;rw[et'];exact q _ (zin S02 hl0 _)
 ·have c2:kd ≠ "leave":=λh=>c (decide_eq_true (by show V.str kd=_;rw[h]));have zw:z.words=[u]:=by
   rcases hz with⟨h,_⟩|⟨_,h⟩
   ·exact absurd h c2
   ·exact h
  refine⟨rfl,_,rfl," ",l,[ea,kd,u,whT y],rfl,rfl,SqL.of e2,?_,?_⟩
  ·simp only[yob,yah,yme,yvj,yka,ywg];omega
  ·have et:=zis ea kd z y;rw[zw] at et;have et':ywa " " [ea,kd,u,whT y]=ziz ⟨ea,kd,z,y⟩:=et;rw[et'];exact q _ S02
def R28 (H:Hp)(v:V)(r:Rule):Prop:=Ex6 λa (kd:Str) x dv (y:Wh) (d:Deed)=>v = .ref a∧r = .wen kd y d∧H a=some (.tup [.str "when",.str kd,x,dv])∧WT H x y∧DT H dv d∧kd∈zlf∧plain y
theorem R28.kp {H H':Hp}(s:Kp H H'){v:V}{r:Rule}(h:R28 H v r):R28 H' v r:=by
 obtain⟨a,kd,x,dv,y,d,e,e2,h1,h2,h3,h4,h5⟩:=h;exact⟨a,kd,x,dv,y,d,e,e2,s.t h1,h2.kp s,h3.kp s,h4,h5⟩
theorem R28.ok {H:Hp}{v:V}{r:Rule}(h:R28 H v r):r.ok:=by
 obtain⟨a,kd,x,dv,y,d,e,rfl,h1,h2,⟨_,_,_,_,_,_,_,dok⟩,h4,h5⟩:=h;exact⟨h4,h5,dok⟩
theorem zyjb (kd:Str)(y:Wh)(d:Deed):ywa " " ["when",kd,whT y,"do",ziz d]=zuf (.wen kd y d):=by
 have dn:d.words≠[]:=ybc _ _;have e:=zxy " " (xss:=([["when"],[kd],y.words,["do"],d.words]:List (List Str))) (λxs hx=>by
  simp only[yma,yff,or_false] at hx
  rcases hx with rfl|rfl|rfl|rfl|rfl
  ·exact ybc _ _
  ·exact ybc _ _
  ·exact zod y
  ·exact ybc _ _
  ·exact dn)
 refine Eq.trans e ?_;show _=ywa " " ("when" :: kd::(y.words++("do":Str)::d.words))
 congr 1
 simp
def zrnb:Sp:=λvs H Q _=>Ex2 λv (r:Rule)=>vs=[v]∧R28 H v r∧∀H',Same H H'->Q (.str (zuf r)) H'
theorem znn (T:Tx K mg):FnOk P w K mg base CX0 13 T.zmc.f T.zmc.d zeg zrnb:=by
 refine T.zmc.ok zfi ?_;rintro f c A o s H vs Q E hr ⟨v,r,rfl,⟨a,kd,x,dv,y,d,rfl,rfl,eA,W,D,hkd,py⟩,q⟩ X;refine⟨_,  (zca (zub (zma zad (zya ztb (pv 0) zfa (λ_ _=>rfl)) zoa (zeb _))
   (zda (zua (zdi ygc yvd ywd zem zoa (zaa (zge (zaa zoa (zaa (zya ztb (pv 0) zfa (λ_ _=>rfl)) (zaa (zga (zkk T 9).up hr rfl T.zib.m T.zib.F.kp (zug T) .nil zpa (zaa (zya ztb (pv 0) zfa (λ_ _=>rfl)) zba)) (zaa zoa (zaa (zga (zon T) hr rfl T.znc.m T.znc.F.kp (zvo T) .nil zpa (zaa (zya ztb (pv 0) zfa (λ_ _=>rfl)) zba)) zba)))))) zba))))
   zqa)
  (zca (zub (zma zad (zya ztb (pv 0) zfa (λ_ _=>rfl)) zoa (zeb _))
   (zda (zua (zic zjj (zic zjj (zic zjj zoa (zya ztb (pv 0) zfa (λ_ _=>rfl))) zoa) (zga (zkk T 9).up hr rfl T.zib.m T.zib.F.kp (zug T) .nil zpa (zaa (zya ztb (pv 0) zfa (λ_ _=>rfl)) zba)))))
   zqa)
  (zca (zta (i:=1) zfi.nd rfl (.inl rfl) (zge (zaa zoa (zaa (zya ztb (pv 0) zfa (λ_ _=>rfl)) (zaa (zga (zkk T 9).up hr rfl T.zib.m T.zib.F.kp (zug T) .nil zpa (zaa (zya ztb (pv 0) zfa (λ_ _=>rfl)) zba)) (zaa zoa (zaa (zya ztb (pv 0) zfa (λ_ _=>rfl)) zba)))))))
  (zca (zub (zma zlob (zya ztb (pv 0) zfa (λ_ _=>rfl)) zau (zeb _))
   (zda (zfe (zdi yec yod ypd zvh (pv 1) (zaa (zza zal rfl T.zbt yro (zaa (zya ztb (pv 0) zfa (λ_ _=>rfl)) zba)) zba))))
   zqa)
  (zda (zua (zdi ygc yvd ywd zem zoa (zaa (pv 1) zba)))))))),?_⟩
 have w1:(whT y).length≤200:=zvu py.1 py.2;have k8:kd.length≤8:=(zsn (l:=zlf) (by decide +kernel) hkd).1.2.2;have dl:(ziz d).length≤250:=by
  obtain⟨_,_,_,_,_,_,_,dok⟩:=D;exact zxib dok
 have l1:(" ":Str).length=1:=rfl;have lw:("when":Str).length=4:=by decide
 have ld:("do":Str).length=2:=by decide
 refine⟨_,rfl,a,_,_,_,rfl,rfl,SqT.of eA,zsa (j:=0) rfl,rfl,_,rfl,iteT ?_⟩;refine⟨rfl,_,rfl,a,_,_,_,rfl,rfl,SqT.of eA,zsa (j:=1) rfl,_,rfl,a,_,_,_,rfl,rfl,SqT.of eA,zsa (j:=2) rfl,x,y,rfl,W,py.1,yva (zymb y) py.2,py.2,λH1 S1=>?_⟩;refine⟨_,rfl,a,_,_,_,rfl,rfl,SqT.of (S1 _ _ eA),zsa (j:=3) rfl,dv,d,rfl,D.kp (Kp.same S1),λH2 S2=>⟨sz5,λl hl=>?_⟩⟩;refine laid hl λH3 S3 e3=>?_;refine⟨" ",l,["when",kd,whT y,"do",ziz d],rfl,rfl,SqL.of e3,?_,?_⟩
 ·simp only[yob,yah,yme,yvj,yka,ywg];omega
 ·rw[zyjb];exact q H3 (S1.trans (S2.trans S3))
theorem zflb {ns ms zs:List Str}(hs:ms.Sublist ns)(hl:ns.length=4)(hok:∀n∈ns,zje n)(hnd:ns.Nodup)(hp:zs.Perm ms)(so:yuk zs=true):Marks zs where
 ok:=λm hm=>hok m (hs.subset (hp.mem_iff.mp hm))
 nd:=hp.nodup_iff.mpr (hs.nodup hnd)
 so:=so
 le:=by
  have a:=hs.length_le;have b:=hp.length_eq;omega
theorem zdv {ms:List Str}(h:∀m∈ms,zje m):ybe (.tuple (ms.map .str))=true:=by
 unfold ybe;rw[yxe,zvv ms (λx hx=>zidb (h x hx)),ymi,ziw];rfl
theorem zxlb (zs:List Str):yje (.tuple (zs.map .str)) (.tuple [])=decide (zs=[]):=by
 cases zs with
 | nil=>simp[yje,ykf]
 | cons x r=>simp[yje,ykf]
def zjkb (K:yda):Sp:=λvs H Q _=>Ex7 λp nl rl (k:Int) (ns:List Str) us (rs:List Rule)=>vs=[.ref p,.ref nl,.ref rl]∧Tk K H p k∧k≤600000∧N4 H nl ns∧H rl=some (.lst us)∧rl≠p∧All2 (R28 H) us rs∧rs.length≤3∧∀l m (c:Crd) (k':Int) H',But p H H'->Tk K H' p k'->k'≤k+8->H l=none->H' l=some (.lst [.str c.text,.ref m,.int (c.force:Int),.ref rl,.int (c.cost:Int)])->H' m=some (.tup (sM c.marks))->c.ok->c.rules=rs->c.marks.length≤4->Q (.ref l) H'
theorem zmy (T:Tx K mg):FnOk P w K mg base CX0 14 T.zwe.f T.zwe.d zwm (zjkb K):=by
 refine T.zwe.ok zid ?_;rintro f c A o s H vs Q E hr ⟨p,nl,rl,k,ns,us,rs,rfl,TT,hk,N0,er,nrp,al,r3,q⟩ X;refine⟨_,  (zca (zta (i:=3) zid.nd rfl (.inl rfl) (zza zbb rfl T.zec ysc (zaa (zva zik rfl T.zgf yfi (zaa (zud (own:=["_law_name"]) (cap:=["_law_pen"]) rfl (znb.chk rfl rfl) (.cons (j:=0) rfl (.inl rfl) (.inl rfl) .nil) (zcg (pv 1)) (λ_ _ _ _=>(zkb (i:=0) (show ylc (["_law_name","_law_pen"]:List Str) by decide +kernel) rfl (.inl rfl))) (λ_ _ _ _=>zio (zma zad (zga (zna T).up hr rfl T.zea.m T.zea.F.kp (zra T) .nil zpa (zaa (pv 1) (zaa zfa zba))) zfa (zeb _))) (λ_ _ _ _=>by exact (pv 0))) zba)) zba)))
  (zca (zta (i:=4) zid.nd rfl (.inl rfl) (zga (zit T).up hr rfl T.znd.m T.znd.F.kp (ztw T) .nil zpa (zaa (pv 0) zba)))
  (zca (zta (i:=5) zid.nd rfl (.inl rfl) (zga (zna T).up hr rfl T.zea.m T.zea.F.kp (zra T) .nil zpa (zaa (pv 0) (zaa zfa zba))))
  (zca (zta (i:=6) zid.nd rfl (.inl rfl) (zdi ygc yvd ywd zelb zoa (zaa (pv 3) zba)))
  (zca (zub (zma (zarb hr.units) (pv 3) (zyc zba) (zeb _))
   (zda (zta (i:=6) zid.nd rfl (.inl rfl) zoa))
   zqa)
  (zca (zta (i:=7) zid.nd rfl (.inl rfl) (zdi ygc yvd ywd zem zoa (zaa (zge (zaa (zya zwa (pv 1) (zga (zna T).up hr rfl T.zea.m T.zea.F.kp (zra T) .nil zpa (zaa (pv 0) (zaa zfa zba))) (λ_ _=>rfl)) (zaa (zza zzk rfl T.zbt yro (zaa (pv 4) zba)) (zaa (zza zzk rfl T.zbt yro (zaa (pv 5) zba)) (zaa (pv 6) zba))))) zba)))
  (zca (zta (i:=8) zid.nd rfl (.inl rfl) (zdi ygc yvd ywd zem zoa (zaa (zic zcy (zge (zaa (pv 7) zba)) (zud (own:=["_law_rule"]) (cap:=[]) rfl (znb.chk rfl rfl) .nil (zcg (pv 2)) (λ_ _ _ _=>(zkb (i:=0) (show ylc (["_law_rule"]:List Str) by decide +kernel) rfl (.inl rfl))) (λ_ _ _ _=>zzc) (λ_ _ _ _=>by exact (zga (znn T) hr rfl T.zmc.m T.zmc.F.kp (zuo T) .nil zpa (zaa (pv 0) zba))))) zba)))
  (zda (zua (zge (zaa (pv 8) (zaa (pv 3) (zaa (pv 5) (zaa (pv 2) (zaa (pv 4) zba))))))))))))))),?_⟩
 refine⟨_,rfl,nl,rfl,⟨_,SqL.of N0.at_⟩,?_⟩;refine zsd (xs:=ns.map V.str) (λi ys H'=>Ex2 λ(ms:List Str) (k':Int)=>ys=ms.map V.str∧ms.Sublist (ns.take i)∧But p H H'∧Tk K H' p k'∧k'≤k+i∧i≤4) (λi ys H' ⟨ms,k',_,_,B,_⟩=>SqL.of (N0.but TT B).at_) ⟨[],k,rfl,List.nil_sublist _,But.refl p H,TT,by omega,by omega⟩ ?_ ?_ ?_
 ·rintro i ys H' ⟨ms,k',rfl,hs,_,_,_,hi⟩;rw[yaa];have:=hs.length_le;rw[ycb] at this;exact small (by omega)
 ·rintro i v ys H' hv ⟨ms,k',rfl,hs,B',T',hk',_⟩;rw[yna] at hv;obtain⟨u,hu,rfl⟩:=yxc.mp hv;have hi4:i<4:=by rw[← N0.len];exact (yha.mp hu).1
  refine⟨rfl,_,rfl,p,k',3,rfl,T',by omega,by decide,λr H5 a5 b5 B5 T5=>⟨rfl,_,rfl,?_⟩⟩;refine ite2 (λ_=>?_) (λ_=>?_)
  ·refine⟨_,rfl,ms++[u],k'+1,by rw[yua];rfl,?_,B'.trans B5,T5,by omega,by omega⟩;rw[yfb,hu];exact hs.append (List.Sublist.refl _)
  ·refine⟨ms,k'+1,rfl,?_,B'.trans B5,T5,by omega,by omega⟩;rw[yfb,hu];exact hs.trans (List.sublist_append_left _ _)
 rintro ys H1 ⟨ms,k1,rfl,hs,B1,T1,hk1,_⟩ b hb;rw[yaa,N0.len] at hk1;have ml4:=hs.length_le;rw[yaa,yta (yja _)] at hs;refine laid hb λH2 S2 e2=>?_;have ml:=hs.length_le;rw[N0.len] at ml;refine⟨b,ms,rfl,SqL.of e2,by omega,λso zs hso pz sz=>?_⟩;refine laid hso λH3 S3 e3=>?_;have MK:=zflb hs N0.len N0.ok N0.nd pz sz;have zl:zs.length≤4:=by rw[pz.length_eq];exact ml
 refine⟨so,_,rfl,.inl ⟨SqL.of e3,λtm htm=>?_⟩⟩;refine laid htm λH4 S4 e4=>?_;have S14:=S2.trans (S3.trans S4);have T4:=T1.same S14;have B4:=B1.trans (But.same S14);refine⟨_,rfl,p,k1,rfl,T4,by omega,λco k5 H5 hco B5 T5 hk5=>?_⟩;refine⟨_,rfl,p,k5,5,rfl,T5,by omega,by decide,λfo0 H6 f0 f1 B6 T6=>?_⟩;obtain⟨fo,rfl⟩:∃f:Nat,fo0=(f:Int):=⟨fo0.toNat,by omega⟩;have hfo:fo<1000:=by omega
 have B46:=B5.trans B6;have e6:=(Kp.but T4 B46).t e4;have zz:(zs.map (·.length)).sum+zs.length*(",":Str).length≤16777216:=by
  have z:=zdn (us:=zs) (m:=8) λu hu=>(MK.ok u hu).2.1;have l1:(",":Str).length=1:=rfl;rw[l1];omega
 refine⟨rfl,_,rfl,",",tm,zs,rfl,rfl,SqT.of e6,zz,?_⟩;refine⟨_,rfl,sz0,λem hem=>?_⟩;refine laid hem λH7 S7 e7=>?_;refine⟨.tuple (zs.map .str),.tuple [],.tup (SqT.of (S7 _ _ e6)) (zyu _),.tup (SqT.of e7) .nil,zdv MK.ok,(by unfold ybe;rw[yxe,yyg,ymi,yvg];rfl),_,rfl,?_⟩;rw[zxlb];refine' zxu (pre:=λv Hs=>Hs=H7∧v=V.str (zwh zs)) (λkk=>?g1) ?k1
 case g1 =>
  refine ite2 (λc=>?a) (λc=>?b)
  case b =>
   have zn:ywa "," zs=zwh zs:=by
    cases zs with
    | nil=>exact absurd (decide_eq_true rfl) c
    | cons x r=>rfl
   obtain⟨v4,hv4⟩:∃x,x=V.str (ywa "," zs):=⟨_,rfl⟩;obtain⟨Hz,hz⟩:∃h,h=H7:=⟨_,rfl⟩;rw[← hv4,← hz];exact kk v4 Hz ⟨hz,by rw[hv4,zn]⟩
  case a =>
   have z0:zs=[]:=of_decide_eq_true c;exact kk (.str "-") H7 ⟨rfl,by rw[z0];rfl⟩
 case k1 =>
 rintro _ _ ⟨rfl,rfl⟩;have T7:=T6.same S7;have B07:=B4.trans (B46.trans (But.same S7));refine⟨rfl,_,rfl,_,rfl,p,_,4,rfl,T7,by omega,by decide,λr H8 r0 r1 B8 T8=>?_⟩;have B08:=B07.trans B8;have N8:=N0.but TT B08;obtain⟨nm,hnm,hm⟩:=zbcb (ss:=ns) r0 (by rw[N0.len];exact r1);have nok:=N0.ok nm hm;refine⟨nl,_,_,_,rfl,rfl,SqL.of N8.at_,hnm,_,rfl,_,rfl,(by rw[yml];exact zzr _ hco),_,rfl,_,rfl,(by rw[yml];exact zzr _ hfo),_,rfl,sz4,λl9 hl9=>?_⟩;refine laid hl9 λH9 S9 e9=>?_;have mt:=(zpl MK).2;have n8:=nok.2.1;have c8:=(zxd hco).2.2;have f8:=(zxd hfo).2.2;have l1:(" ":Str).length=1:=rfl;refine⟨" ",l9,(Crd.mk nm co fo zs rs).head,rfl,rfl,SqL.of e9,?_,?_⟩
 ·show ([nm,(toString (co:Int):Str),(toString (fo:Int):Str),zwh zs].map (·.length)).sum+4*_≤_;simp only[yob,yah,yme,yvj];omega
 have cok:(Crd.mk nm co fo zs rs).ok:=⟨nok,hco,hfo,MK,(λr hr=>by
  obtain⟨v,_,z⟩:=al.mem2 hr;exact z.ok),r3⟩
 refine⟨rfl,_,rfl,sz1,λl10 hl10=>?_⟩;refine laid hl10 λH10 S10 e10=>?_;have S810:=S9.trans S10;have B010:=B08.trans (But.same S810);have er10:=B010 _ _ nrp er;have al10:All2 (R28 H10) us rs:=al.imp λz=>z.kp (Kp.but TT B010);have ul:=al.len;refine⟨_,rfl,rl,rfl,⟨_,SqL.of er10⟩,?_⟩;refine zsd (xs:=us) (λi ys H'=>Same H10 H'∧ys=(rs.take i).map λr=>V.str (zuf r)) (λi ys H' z=>SqL.of (z.1 _ _ er10)) ⟨Same.refl _,rfl⟩ ?_ ?_ ?_
 ·rintro i ys H' ⟨_,rfl⟩;rw[yaa,ycb];exact small (by omega)
 ·rintro i v ys H' hv ⟨S,rfl⟩;obtain⟨r,hr,z⟩:=al10.get hv;refine⟨rfl,_,rfl,v,r,rfl,z.kp (Kp.same S),λH'' S''=>⟨S.trans S'',?_⟩⟩;rw[yfb,hr,yfc,yua];rfl
 rintro ys H11 ⟨S11,rfl⟩ l12 hl12;rw[ul,yta (yja _)];refine laid hl12 λH12 S12 e12=>?_;refine⟨l10,l12,_,_,rfl,rfl,(S11.trans S12) _ _ e10,e12,?_,λl13 hl13=>?_⟩
 ·rw[yaa];exact small (by show 1+rs.length≤1000;omega)
 refine laid hl13 λH13 S13 e13=>?_;have e13':H13 l13=some (.lst ((ywa " " (Crd.mk nm co fo zs rs).head::rs.map zuf).map V.str)):=by
  rw[e13,yob,yeo];rfl
 have hh:=Crd.zaw cok;refine⟨" / ",l13,_,rfl,rfl,SqL.of e13',?_,?_⟩
 ·have z:=zdn (us:=ywa " " (Crd.mk nm co fo zs rs).head::rs.map zuf) (m:=450) λu hu=>by
   rcases yma.mp hu with z|z
   ·rw[z];omega
   ·obtain⟨r,hr,rfl⟩:=yac.mp z;exact zlr (cok.rules r hr)
  have l3:(" / ":Str).length=3:=by decide
  rw[yka,yaa] at z;rw[yka,yaa,l3];omega
 have S813:=S810.trans (S11.trans (S12.trans S13));refine⟨_,rfl,_,rfl,_,rfl,_,rfl,_,rfl,sz5,λl14 hl14=>?_⟩;have B013:=B08.trans (But.same S813);have hl0:H l14=none:=by
  cases e:H l14 with
  | none=>rfl
  | some o =>
   by_cases z:l14=p
   ·have T13:=T8.same S813;rw[z] at hl14;obtain⟨a,e2⟩:=T13.two;rw[e2] at hl14;cases hl14
   ·have:=B013 _ _ z e;rw[this] at hl14;cases hl14
 refine laid hl14 λH14 S14' e14=>?_;have S814:=S813.trans S14';refine q l14 tm (Crd.mk nm co fo zs rs) _ H14 (B08.trans (But.same S814)) (T8.same S814) (by omega) hl0 e14 ?_ cok rfl zl;exact S814 _ _ ((Kp.but T7 B8).t (S7 _ _ e6))
theorem zxrb (K:yda):yqb K (.type "str") (.type "bool")=some false:=by kernel_rfl
theorem zptb (K:yda):yqb K (.type "str") (.type "tuple")=some false:=by kernel_rfl
theorem zqtb (K:yda):yqb K (.type "str") (.type "list")=some false:=by kernel_rfl
theorem zrtb (K:yda):yqb K (.type "str") (.type "int")=some false:=by kernel_rfl
theorem zyrb (K:yda):yqb K (.type "int") (.type "bool")=some false:=by kernel_rfl
theorem zstb (K:yda):yqb K (.type "int") (.type "tuple")=some false:=by kernel_rfl
theorem zttb (K:yda):yqb K (.type "int") (.type "list")=some false:=by kernel_rfl
theorem zwrb (K:yda):yqb K (.type "tuple") (.type "bool")=some false:=by kernel_rfl
theorem zvrb (K:yda):yqb K (.type "tuple") (.type "list")=some false:=by kernel_rfl
theorem ka_t (K:yda):yur K (.type "tuple") (["list","tuple"].map Value.type)=some true:=by kernel_rfl
mutual
inductive AL (H:Hp):Nat->V->V->Prop where
 | str {n:Nat} (u:Str):AL H n (.str u) (.str u)
 | bl {n:Nat} (b:Bool):AL H n (.bl b) (.bl b)
 | int {n:Nat} (i:Int):AL H n (.int i) (.int i)
 | tup {n:Nat} {a b:Addr} {xs ys:List V}:H a=some (.tup xs)->H b=some (.tup ys)->ys.length≤1000->ALs H n xs ys->AL H (n+1) (.ref a) (.ref b)
inductive ALs (H:Hp):Nat->List V->List V->Prop where
 | nil {n:Nat}:ALs H n [] []
 | cons {n:Nat} {x y:V} {xs ys:List V}:AL H n x y->ALs H n xs ys->ALs H n (x::xs) (y::ys)
end
mutual
theorem AL.same {H H':Hp}(s:Same H H'):∀{n:Nat} {x y:V},AL H n x y->AL H' n x y
 | _,_,_,.str u=>.str u
 | _,_,_,.bl u=>.bl u
 | _,_,_,.int u=>.int u
 | _,_,_,.tup h g l t=>.tup (s _ _ h) (s _ _ g) l (t.same s)
theorem ALs.same {H H':Hp}(s:Same H H'):∀{n:Nat} {xs ys:List V},ALs H n xs ys->ALs H' n xs ys
 | _,_,_,.nil=>.nil
 | _,_,_,.cons h t=>.cons (h.same s) (t.same s)
end
theorem ALs.len {H:Hp}{n:Nat}:∀{xs ys:List V},ALs H n xs ys->xs.length=ys.length
 | _,_,.nil=>rfl
 | _,_,.cons _ t=>by rw[yka,yka,t.len]
theorem ALs.get {H:Hp}{n:Nat}:∀{xs ys:List V} {i:Nat},ALs H n xs ys->i<ys.length->Ex2 λx y=>xs[i]?=some x∧ys[i]?=some y∧AL H n x y
 | _,_,i,.nil,h=>absurd h (yio i)
 | _,_,0,.cons h t,_=>⟨_,_,rfl,rfl,h⟩
 | _,_,i+1,.cons h t,l=>by
  obtain⟨x,y,e1,e2,z⟩:=t.get (i:=i) (by rw[yka] at l;omega);exact⟨x,y,by rw[yrb];exact e1,by rw[yrb];exact e2,z⟩
theorem zecb {H:Hp}{n:Nat}:∀xs:List Int,ALs H n (iM xs) (iM xs)
 | []=>.nil
 | x::r=>.cons (.int x) (zecb r)
theorem zqjb {H:Hp}{n:Nat}:∀xs:List Str,ALs H n (sM xs) (sM xs)
 | []=>.nil
 | x::r=>.cons (.str x) (zqjb r)
theorem zcnb {H:Hp}{n:Nat}:∀xs:List Bool,ALs H n (xs.map V.bl) (xs.map V.bl)
 | []=>.nil
 | x::r=>.cons (.bl x) (zcnb r)
theorem T1.al {H:Hp}{n:Nat}{v u:V}{xs:List V}(h:T1 H v xs)(g:T1 H u xs)(l:xs.length≤1000)(z:ALs H n xs xs):AL H (n+1) v u:=by
 obtain⟨a,rfl,ea⟩:=h;obtain⟨b,rfl,eb⟩:=g;exact .tup ea eb l z
theorem T1s.al {H:Hp}{n:Nat}{vs us:List V}{xss:List (List V)}(h:All2 (T1 H) vs xss)(g:All2 (T1 H) us xss)(l:∀xs∈xss,xs.length≤1000∧ALs H n xs xs):ALs H (n+1) vs us:=by
 induction h generalizing us with
 | nil=>cases g;exact .nil
 | cons h _ ih =>
  cases g with
  | cons g gs =>
   obtain⟨l1,l2⟩:=l _ yqa;exact .cons (h.al g l1 l2) (ih gs λxs hx=>l xs (ysa _ hx))
theorem T2.al {H:Hp}{n:Nat}{v u:V}{xss:List (List V)}(h:T2 H v xss)(g:T2 H u xss)(l0:xss.length≤1000)(l:∀xs∈xss,xs.length≤1000∧ALs H n xs xs):AL H (n+2) v u:=by
 obtain⟨a,vs,rfl,ea,al1⟩:=h;obtain⟨b,us,rfl,eb,al2⟩:=g;exact .tup ea eb (by rw[al2.len];exact l0) (T1s.al al1 al2 l)
theorem zfmb {H:Hp}{v u:V}{t:Tab}{np nc:Nat}(o:TOk np nc t)(h:TabT H v t)(g:TabT H u t):AL H 3 v u:=by
 obtain⟨a,v0,v1,v2,v3,v4,v5,v6,v7,v8,rfl,ea,A⟩:=h;obtain⟨b,u0,u1,u2,u3,u4,u5,u6,u7,u8,rfl,eb,B⟩:=g;have np4:=o.np4;have nc16:=o.nc16;have il:∀{xs:List Int},xs.length≤16->(iM xs).length≤1000:=λh=>by rw[show (iM _).length=_ from yaa _];omega
 have ip:∀{x y:V} {xs:List Int},T1 H x (iM xs)->T1 H y (iM xs)->xs.length≤16->AL H 2 x y:=λp q l=>p.al q (il l) (zecb _);have dp:∀{x y:V} {xss:List (List Int)},T2 H x (xss.map iM)->T2 H y (xss.map iM)->xss.length≤16->(∀d∈xss,d.length≤16)->AL H 2 x y:=λp q l l2=>p.al q (by rw[yaa];omega) λxs hx=>by
  obtain⟨d,hd,rfl⟩:=yac.mp hx;exact⟨il (l2 d hd),zecb _⟩
 refine .tup ea eb (by show 9≤1000;decide) ?_;refine .cons (ip A.p0 B.p0 (by rw[o.pts];omega)) (.cons (ip A.p1 B.p1 (by rw[o.scs];omega)) (.cons (A.p2.al B.p2 (by rw[yaa,o.gone];omega) (zcnb _)) (.cons (dp A.p3 B.p3 (by rw[o.decks];omega) o.ds) (.cons (dp A.p4 B.p4 (by rw[o.hands];omega) o.hs) (.cons (ip A.p5 B.p5 o.ly) (.cons (ip A.p6 B.p6 o.hp) (.cons (A.p7.al B.p7 (by rw[yaa,o.marks];omega) λxs hx=>?_) (.cons (ip A.p8 B.p8 (by rw[o.wnds];exact nc16)) .nil))))))));obtain⟨d,hd,rfl⟩:=yac.mp hx;have:=o.ms d hd;exact⟨by rw[show (sM d).length=_ from yaa _];omega,zqjb _⟩
def zpk (n:Nat):Sp:=λvs H Q _=>Ex3 λ(m:Nat) x y=>vs=[x,y]∧m<n∧AL H m x y∧∀H',Same H H'->Q (.bl true) H'
theorem zrfb (T:Tx K mg){n:Nat}(znab:FnOk P w K mg base CX0 (n+2) T.zpb.f T.zpb.d zff (zpk n)):FnOk P w K mg base CX0 (n+3) T.zpb.f T.zpb.d zff (zpk (n+1)):=by
 refine T.zpb.ok ziv ?_;rintro f c A o s H vs Q E hr ⟨m,x,y,rfl,hm,al,q⟩ X;refine⟨_,  (zca (zub (PW.pt (zxab (zof (zva zoc rfl T.zob yed (zaa (pv 1) (zaa (zze (v:=.ty "bool") rfl T.zpq ytr rfl) zba)))) (zmr (zof (zva zoc rfl T.zob yed (zaa (pv 0) (zaa (zze (v:=.ty "bool") rfl T.zpq ytr rfl) zba)))))))
   (zda (zua (zxx (zva zoc rfl T.zob yed (zaa (pv 1) (zaa (zze (v:=.ty "bool") rfl T.zpq ytr rfl) zba))) (zxx (zva zoc rfl T.zob yed (zaa (pv 0) (zaa (zze (v:=.ty "bool") rfl T.zpq ytr rfl) zba))) (zzt (zdh zad (pv 0) (pv 1) (zeb _)))))))
   zqa)
  (zca (zub (PW.pt (zxab (zof (zva zoc rfl T.zob yed (zaa (pv 1) (zaa (zze (v:=.ty "tuple") rfl T.zec ysc rfl) zba)))) (zmr (zof (zva zoc rfl T.zob yed (zaa (pv 1) (zaa (zze (v:=.ty "list") rfl T.zul ypm rfl) zba)))))))
   (zca (zub (PW.pt (zxab (zgk (zof (zva znz rfl T.zob yed (zaa (pv 0) (zaa (zyc (zaa (zze (v:=.ty "list") rfl T.zul ypm rfl) (zaa (zze (v:=.ty "tuple") rfl T.zec ysc rfl) zba))) zba))))) (zmr (zma zjhb (zva zoc rfl T.zob yed (zaa (pv 0) (zaa (zze (v:=.ty "list") rfl T.zul ypm rfl) zba))) (zva zoc rfl T.zob yed (zaa (pv 1) (zaa (zze (v:=.ty "list") rfl T.zul ypm rfl) zba))) (zeb _)))))
    (zda (zua zwx))
    zqa)
   (zca (zub (zma zjhb (zva zmb rfl T.zyg yyb (zaa (pv 0) zba)) (zva zmb rfl T.zyg yyb (zaa (pv 1) zba)) (zeb _))
    (zda (zua zwx))
    zqa)
   (zda (zua (zdh zad (zva zmb rfl T.zyg yyb (zaa (zud (own:=["_law_k"]) (cap:=["_law_found","_law_due"]) rfl (znb.chk rfl rfl) (.cons (j:=0) rfl (.inl rfl) (.inl rfl) (.cons (j:=1) rfl (.inl rfl) (.inl rfl) .nil)) (zrd rfl T.zpe (zaa (zva zmb rfl T.zyg yyb (zaa (pv 1) zba)) zba)) (λ_ _ _ _=>(zkb (i:=0) (show ylc (["_law_k","_law_found","_law_due"]:List Str) by decide +kernel) rfl (.inl rfl))) (λ_ _ _ _=>zio (zgk (zof (zga znab hr rfl T.zpb.m T.zpb.F.kp (zdl T) .nil zpa (zaa (zya (zbib K) (pv 1) (pv 0) (λ_ _=>rfl)) (zaa (zya (zbib K) (pv 2) (pv 0) (λ_ _=>rfl)) zba)))))) (λ_ _ _ _=>by exact (pv 0))) zba)) zfa (zeb _))))))
   zqa)
  (zca (zub (zof (zva zoc rfl T.zob yed (zaa (pv 1) (zaa (zze (v:=.ty "int") rfl T.zfeb boot_int rfl) zba))))
   (zda (zua (zxx (zva zoc rfl T.zob yed (zaa (pv 0) (zaa (zze (v:=.ty "int") rfl T.zfeb boot_int rfl) zba))) (zzt (zdh zad (pv 0) (pv 1) (zeb _))))))
   zqa)
  (zca (zub (zma zlmb (pv 1) zau (zeb _))
   (zda (zua (zdh zlmb (pv 0) zau (zeb _))))
   zqa)
  (zda (zua (zxx (zva zoc rfl T.zob yed (zaa (pv 0) (zaa (zze (v:=.ty "str") rfl T.zbt yro rfl) zba))) (zzt (zdh zad (pv 0) (pv 1) (zeb _)))))))))),?_⟩
 cases al with
 | str u =>
  refine⟨_,rfl,_,_,_,false,rfl,TyOf.str _,.inl ⟨"bool",rfl,zxrb _⟩,_,rfl,iteF ⟨_,rfl,_,_,_,false,rfl,TyOf.str _,.inl ⟨"bool",rfl,zxrb _⟩,_,rfl,iteF ?_⟩⟩;refine⟨_,rfl,_,_,_,false,rfl,TyOf.str _,.inl ⟨"tuple",rfl,zptb _⟩,_,rfl,iteF ⟨_,rfl,_,_,_,false,rfl,TyOf.str _,.inl ⟨"list",rfl,zqtb _⟩,_,rfl,iteF ?_⟩⟩;refine⟨_,rfl,_,_,_,false,rfl,TyOf.str _,.inl ⟨"int",rfl,zrtb _⟩,_,rfl,iteF ?_⟩;refine⟨_,rfl,rfl,_,rfl,iteF ?_⟩;exact⟨_,rfl,_,_,_,true,rfl,TyOf.str _,.inl ⟨"str",rfl,rfl⟩,_,rfl,iteT ⟨_,rfl,_,rfl,rfl,by rw[decide_eq_true rfl];exact q H (Same.refl _)⟩⟩
 | bl u =>
  refine⟨_,rfl,_,_,_,true,rfl,TyOf.bl _,.inl ⟨"bool",rfl,rfl⟩,_,rfl,iteT (iteT ?_)⟩;exact⟨_,rfl,_,_,_,true,rfl,TyOf.bl _,.inl ⟨"bool",rfl,rfl⟩,_,rfl,iteT ⟨_,rfl,_,_,_,true,rfl,TyOf.bl _,.inl ⟨"bool",rfl,rfl⟩,_,rfl,iteT ⟨_,rfl,_,rfl,rfl,by rw[decide_eq_true rfl];exact q H (Same.refl _)⟩⟩⟩
 | int u =>
  refine⟨_,rfl,_,_,_,false,rfl,TyOf.int _,.inl ⟨"bool",rfl,zyrb _⟩,_,rfl,iteF ⟨_,rfl,_,_,_,false,rfl,TyOf.int _,.inl ⟨"bool",rfl,zyrb _⟩,_,rfl,iteF ?_⟩⟩;refine⟨_,rfl,_,_,_,false,rfl,TyOf.int _,.inl ⟨"tuple",rfl,zstb _⟩,_,rfl,iteF ⟨_,rfl,_,_,_,false,rfl,TyOf.int _,.inl ⟨"list",rfl,zttb _⟩,_,rfl,iteF ?_⟩⟩;refine⟨_,rfl,_,_,_,true,rfl,TyOf.int _,.inl ⟨"int",rfl,rfl⟩,_,rfl,iteT ?_⟩;exact⟨_,rfl,_,_,_,true,rfl,TyOf.int _,.inl ⟨"int",rfl,rfl⟩,_,rfl,iteT ⟨_,rfl,_,rfl,rfl,by rw[decide_eq_true rfl];exact q H (Same.refl _)⟩⟩
 | @tup m a b xs ys ea eb yl als =>
  refine⟨_,rfl,_,_,_,false,rfl,TyOf.tup eb,.inl ⟨"bool",rfl,zwrb _⟩,_,rfl,iteF ⟨_,rfl,_,_,_,false,rfl,TyOf.tup ea,.inl ⟨"bool",rfl,zwrb _⟩,_,rfl,iteF ?_⟩⟩;refine⟨_,rfl,_,_,_,true,rfl,TyOf.tup eb,.inl ⟨"tuple",rfl,rfl⟩,_,rfl,iteT (iteT ?_)⟩;refine⟨_,rfl,sz2,λt1 ht1=>?_⟩;refine laid ht1 λH1 S1 e1=>?_;have ea1:=S1 _ _ ea;have eb1:=S1 _ _ eb;refine⟨_,t1,_,["list","tuple"],true,rfl,TyB.tup (SqT.of ea1),SqT.of e1,ka_t _,_,rfl,iteF ?_⟩;refine⟨_,rfl,_,_,_,false,rfl,TyOf.tup ea1,.inl ⟨"list",rfl,zvrb _⟩,_,rfl,_,_,_,false,rfl,TyOf.tup eb1,.inl ⟨"list",rfl,zvrb _⟩,rfl,_,rfl,iteF ?_⟩;refine⟨_,rfl,a,_,rfl,.inr (SqT.of ea1),_,rfl,b,_,rfl,.inr (SqT.of eb1),rfl,_,rfl,?_⟩;rw[als.len,decide_eq_true rfl];refine iteF ⟨_,rfl,b,_,rfl,.inr (SqT.of eb1),_,rfl,by omega,by omega,?_⟩;rw[yib];refine ztd (λj zs Hx=>Same H1 Hx∧zs=[]) ⟨Same.refl _,rfl⟩ ?_ ?_ ?_
  ·rintro j zs Hx ⟨_,rfl⟩;exact ytb _
  ·rintro j zs Hx hj ⟨Sx,rfl⟩;obtain⟨x',y',ex,ey,al'⟩:=als.get hj;have ax:atI xs (0+(j:Int))=some x':=(by rw[Int.zero_add];exact zsa ex);have ay:atI ys (0+(j:Int))=some y':=(by rw[Int.zero_add];exact zsa ey);refine⟨rfl,_,rfl,_,rfl,.inr (.inl ⟨a,_,_,_,rfl,rfl,SqT.of (Sx _ _ ea1),ax,?_⟩)⟩;refine⟨_,rfl,_,rfl,.inr (.inl ⟨b,_,_,_,rfl,rfl,SqT.of (Sx _ _ eb1),ay,?_⟩)⟩;refine⟨m,x',y',rfl,by omega,(al'.same S1).same Sx,λHy Sy=>⟨_,rfl,iteF ⟨Sx.trans Sy,rfl⟩⟩⟩
  ·rintro zs Hx ⟨Sx,rfl⟩ l hl;refine laid hl λH3 S3 e3=>?_;refine⟨l,_,rfl,.inl (SqL.of e3),rfl,?_⟩;have zq:=q H3 (S1.trans (Sx.trans S3));rw[← decide_eq_true (p:=V.int ((([]:List V).length:Nat):Int)=V.int 0) rfl] at zq;exact zq
theorem zsfb (T:Tx K mg):FnOk P w K mg base CX0 2 T.zpb.f T.zpb.d zff (zpk 0):=by
 have no:∀vs H Q E,¬ zpk 0 vs H Q E:=λvs H Q E h=>by
  obtain⟨m,x,y,_,hd,_⟩:=h;omega
 exact⟨λvs H Q E h=>absurd h (no vs H Q E),λA outer s H args us vs Q E _ _ _ _ h=>absurd h (no vs H Q E)⟩
theorem zqs (T:Tx K mg):∀n:Nat,FnOk P w K mg base CX0 (n+2) T.zpb.f T.zpb.d zff (zpk n)
 | 0=>zsfb T
 | n+1=>zrfb T (zqs T n)
def CT (H:Hp)(v:V)(c:Crd):Prop:=Ex5 λl m x2 x3 x4=>v = .ref l∧H l=some (.lst [.str c.text,.ref m,x2,x3,x4])∧H m=some (.tup (sM c.marks))∧c.ok∧c.marks.length≤4∧∀r∈c.rules,Ex3 λkd y d=>r=Rule.wen kd y d
theorem CT.same {H H':Hp}(s:Same H H'){v:V}{c:Crd}(h:CT H v c):CT H' v c:=by
 obtain⟨l,m,x2,x3,x4,e,h1,h2,h3⟩:=h;exact⟨l,m,x2,x3,x4,e,s _ _ h1,s _ _ h2,h3⟩
theorem CT.but {K:yda}{H H':Hp}{p:Addr}{k:Int}(t:Tk K H p k)(b:But p H H'){v:V}{c:Crd}(h:CT H v c):CT H' v c:=by
 obtain⟨l,m,x2,x3,x4,e,h1,h2,h3⟩:=h;refine⟨l,m,x2,x3,x4,e,b _ _ (λz=>?_) h1,(Kp.but t b).t h2,h3⟩;obtain⟨a,ep⟩:=t.two;rw[z,ep] at h1;injection h1 with h1
 injection h1 with h1
 cases h1
theorem zrf {n j:Nat}(h:j<n):ixN n (j:Int)=some j:=by
 unfold ixN;rw[if_pos (by omega),if_pos (by omega),yib]
theorem ifT {c:Bool}{A B:Prop}(h:c=true)(a:A):if c=true then A else B:=by rw[if_pos h];exact a
theorem ifF {c:Bool}{A B:Prop}(h:¬ c=true)(b:B):if c=true then A else B:=by rw[if_neg h];exact b
theorem sT {x y:Str}(h:x=y):decide (V.str x=V.str y)=true:=by rw[h];exact decide_eq_true rfl
theorem sF {x y z:Str}(h:x=z)(n:z≠y):¬ decide (V.str x=V.str y)=true:=λw=>n (by have:=of_decide_eq_true w;injection this with this;rw[← h,this])
def Rw (H:Hp)(as:List Addr)(xss:List (List V)):Prop:=as.length=xss.length∧∀(j:Nat) a xs,as[j]?=some a->xss[j]?=some xs->H a=some (.lst xs)
theorem Rw.same {H H':Hp}{as:List Addr}{xss:List (List V)}(s:Same H H')(h:Rw H as xss):Rw H' as xss:=⟨h.1,λj a xs h1 h2=>s _ _ (h.2 j a xs h1 h2)⟩
theorem Rw.nil {H:Hp}:Rw H [] []:=⟨rfl,λj a xs h _=>by simp at h⟩
theorem Rw.get {H:Hp}{as:List Addr}{xss:List (List V)}(h:Rw H as xss){j:Nat}{xs:List V}(hx:xss[j]?=some xs):∃a,as[j]?=some a∧H a=some (.lst xs):=by
 obtain⟨a,ha⟩:=getx (xs:=as) (i:=j) (by rw[h.1];exact (yha.mp hx).1);exact⟨a,ha,h.2 j a xs ha hx⟩
theorem Rw.snoc {H:Hp}{as:List Addr}{xss:List (List V)}(h:Rw H as xss){a:Addr}{xs:List V}(ha:H a=some (.lst xs)):Rw H (as++[a]) (xss++[xs]):=by
 refine⟨by rw[yfa,yfa,h.1];rfl,λj b ys h1 h2=>?_⟩
 rcases ylm j as.length with z|z|z
 ·rw[ywb z] at h1;rw[ywb (by rw[← h.1];exact z)] at h2;exact h.2 j b ys h1 h2
 ·rw[yab (by omega),z,yli] at h1;rw[yab (by rw[← h.1];omega),z,h.1,yli] at h2;cases h1;cases h2;exact ha
 ·rw[yab (by omega),yze (by rw[yub];omega)] at h1;cases h1
theorem Rw.put {H:Hp}{as:List Addr}{xss:List (List V)}(h:Rw H as xss)(nd:as.Nodup){j:Nat}{a:Addr}(ha:as[j]?=some a)(ys:List V):Rw (upd H a (.lst ys)) as (xss.set j ys):=by
 refine⟨by rw[ycd];exact h.1,λi b zs h1 h2=>?_⟩
 by_cases e:i=j
 ·subst e;rw[ha] at h1;cases h1;rw[yoe (by rw[← h.1];exact (yha.mp ha).1)] at h2;cases h2;exact zia
 ·rw[ymg (λz=>e z.symm)] at h2;rw[zlb λz=>?_]
  ·exact h.2 i b zs h1 h2
  ·exact e ((ypq (yha.mp h1).1 nd).mp (by rw[h1,ha,z]))
theorem Rw.far {H:Hp}{as:List Addr}{xss:List (List V)}(h:Rw H as xss){b:Addr}(nb:b∉as){o:HO}:Rw (upd H b o) as xss :=
 ⟨h.1,λj a xs h1 h2=>by rw[zlb λz=>nb (by rw[← z];exact ypa h1)];exact h.2 j a xs h1 h2⟩
theorem Rw.off {H:Hp}{as:List Addr}{xss:List (List V)}(h:Rw H as xss){l:Addr}(n:H l=none):l∉as:=λz=>by
 obtain⟨j,hj⟩:=ynd z;obtain⟨zs,hz⟩:=getx (xs:=xss) (i:=j) (by rw[← h.1];exact (yha.mp hj).1);rw[h.2 j l zs hj hz] at n;cases n
theorem zoh {as:List Addr}(nd:as.Nodup){l:Addr}(n:l∉as):(as++[l]).Nodup:=by
 rw[yue];refine⟨nd,by simp,λx hx y hy z=>n ?_⟩;rw[← yia.mp hy,← z];exact hx
def zoab (H:Hp)(as:List Addr):Prop:=∀a∈as,H a=none
theorem zoab.snoc {H:Hp}{as:List Addr}(f:zoab H as){l:Addr}(n:H l=none):zoab H (as++[l]):=λx hx=>by
 rcases ysb.mp hx with z|z
 ·exact f x z
 ·rw[yia.mp z];exact n
def parts (t:Tab)(u3 u4 u7:List V):List (List V):=[iM t.pts,iM t.scs,t.gone.map V.bl,u3,u4,iM t.lying,iM t.heap,u7,iM t.wnds]
structure RT (H:Hp)(rl:Addr)(as:List Addr)(t:Tab)(u3 u4 u7:List V):Prop where
 at_:H rl=some (.lst (as.map V.ref))
 rw_:Rw H as (parts t u3 u4 u7)
 nd:as.Nodup
 nr:rl∉as
 d:All2 (T1 H) u3 (t.decks.map iM)
 h:All2 (T1 H) u4 (t.hands.map iM)
 m:All2 (T1 H) u7 (t.marks.map sM)
theorem T1s.kp {H H':Hp}(s:Kp H H'){us:List V}{xss:List (List V)}(h:All2 (T1 H) us xss):All2 (T1 H') us xss:=h.imp λz=>z.kp s
theorem RT.same {H H':Hp}{rl:Addr}{as:List Addr}{t:Tab}{u3 u4 u7:List V}(s:Same H H')(r:RT H rl as t u3 u4 u7):RT H' rl as t u3 u4 u7 :=
 ⟨s _ _ r.at_,r.rw_.same s,r.nd,r.nr,T1s.kp (Kp.same s) r.d,T1s.kp (Kp.same s) r.h,T1s.kp (Kp.same s) r.m⟩
theorem RT.row {H:Hp}{rl:Addr}{as:List Addr}{t:Tab}{u3 u4 u7:List V}(r:RT H rl as t u3 u4 u7){j:Nat}{xs:List V}(hx:(parts t u3 u4 u7)[j]?=some xs):∃a,as[j]?=some a∧H a=some (.lst xs)∧atI (as.map V.ref) (j:Int)=some (.ref a):=by
 obtain⟨a,h1,h2⟩:=r.rw_.get hx;exact⟨a,h1,h2,zmj h1⟩
theorem RT.put {H:Hp}{rl:Addr}{as:List Addr}{t t':Tab}{u3 u4 u7 v3 v4 v7:List V}(r:RT H rl as t u3 u4 u7){j:Nat}{a:Addr}{xs:List V}(ha:as[j]?=some a)(e:H a=some (.lst xs))(ys:List V)(hp:(parts t u3 u4 u7).set j ys=parts t' v3 v4 v7)
  (d:All2 (T1 H) v3 (t'.decks.map iM)) (h:All2 (T1 H) v4 (t'.hands.map iM)) (m:All2 (T1 H) v7 (t'.marks.map sM)):RT (upd H a (.lst ys)) rl as t' v3 v4 v7:=by
 have ne:rl≠a:=λz=>r.nr (by rw[z];exact ypa ha);refine⟨by rw[zlb ne];exact r.at_,by rw[← hp];exact r.rw_.put r.nd ha ys,r.nd,r.nr,T1s.kp (Kp.put e) d,T1s.kp (Kp.put e) h,T1s.kp (Kp.put e) m⟩
def Far (as:List Addr)(H H':Hp):Prop:=∀b o,b∉as->H b=some o->H' b=some o
theorem Far.same {as:List Addr}{H H':Hp}(s:Same H H'):Far as H H':=λb o _ h=>s b o h
theorem Far.trans {as:List Addr}{H H1 H2:Hp}(x:Far as H H1)(y:Far as H1 H2):Far as H H2:=λb o n h=>y b o n (x b o n h)
theorem Far.put {as:List Addr}{H:Hp}{j:Nat}{a:Addr}(ha:as[j]?=some a)(o:HO):Far as H (upd H a o):=λb u n h=>by
 rw[zlb λz=>n (by rw[z];exact ypa ha)];exact h
def zeqb:Sp:=λvs H Q _=>Ex11 λrl (as:List Addr) (t:Tab) u3 u4 u7 (np nc p:Nat) (kd:Str) (z:Int)=>vs=[.ref rl,.str kd,.int (p:Int),.int z]∧RT H rl as t u3 u4 u7∧TOk np nc t∧p<np∧kd∈zvb∧0≤z∧∀(t':Tab) v3 v4 v7 H',Far as H H'->RT H' rl as t' v3 v4 v7->PlR t p z kd t'->Q .non H'
theorem zirb {z:Int}{n:Nat}(h:0≤z):∃m:Nat,(if (n:Int)<z then (n:Int) else z)=(m:Int)∧m=min z.toNat n:=by
 refine⟨min z.toNat n,?_,rfl⟩
 split<;>omega
theorem zko (T:Tx K mg):FnOk P w K mg base CX0 2 T.zrc.f T.zrc.d zgh zeqb:=by
 refine T.zrc.ok zcj ?_;rintro f c A o s H vs Q E hr ⟨rl,as,t,u3,u4,u7,np,nc,p,kd,z,rfl,R,TO,hp,hk,z0,q⟩ X;refine⟨_,  (zca (zub (zma zad (pv 1) zoa (zeb _))
   (zda (zpg (zic zyl (zya zwa (zya zwa (pv 0) zfa (λ_ _=>rfl)) (pv 2) (λ_ _=>rfl)) (pv 3)) (zij (zya zwa (pv 0) zfa (λ_ _=>rfl)) (pv 2) set_list)))
   zqa)
  (zca (zub (zma zad (pv 1) zoa (zeb _))
   (zda (zpg (zic zxf (zya zwa (zya zwa (pv 0) zfa (λ_ _=>rfl)) (pv 2) (λ_ _=>rfl)) (pv 3)) (zij (zya zwa (pv 0) zfa (λ_ _=>rfl)) (pv 2) set_list)))
   zqa)
  (zda (zub (zma zad (pv 1) zoa (zeb _))
   (zca (zta (i:=4) zcj.nd rfl (.inl rfl) (zva (zgjb rfl) rfl T.zvjb boot_min (zaa (pv 3) (zaa (zva zmb rfl T.zyg yyb (zaa (zya zwa (zya zwa (pv 0) zfa (λ_ _=>rfl)) (pv 2) (λ_ _=>rfl)) zba)) zba))))
   (zca (zpg (zza zbb rfl T.zec ysc (zaa (zva zeh rfl T.zgf yfi (zaa (zic zkhb (zya zwa (zya zwa (pv 0) zfa (λ_ _=>rfl)) (pv 2) (λ_ _=>rfl)) (zoe zcv (zya zwa (zya zwa (pv 0) zfa (λ_ _=>rfl)) (pv 2) (λ_ _=>rfl)) zch (zbh (pv 4)))) zba)) zba)) (zij (zya zwa (pv 0) zfa (λ_ _=>rfl)) (pv 2) set_list))
   (zda (zpg (zoe zcv (zya zwa (zya zwa (pv 0) zfa (λ_ _=>rfl)) (pv 2) (λ_ _=>rfl)) (zbh (pv 4)) zch) (zij (zya zwa (pv 0) zfa (λ_ _=>rfl)) (pv 2) set_list)))))
   zqa)))),?_⟩
 simp only[zvb,yma,yff,or_false] at hk
 rcases hk with rfl|rfl|rfl
 ·obtain⟨a0,h0,e0,i0⟩:=R.row (j:=0) rfl;obtain⟨x,hx⟩:=getx (xs:=t.pts) (by rw[TO.pts];exact hp);refine⟨_,rfl,rfl,_,rfl,iteT ?_⟩;refine⟨_,rfl,rl,_,_,_,rfl,rfl,SqL.of R.at_,i0,_,rfl,a0,_,_,_,rfl,rfl,SqL.of e0,zmj hx,_,rfl,_,_,rfl,rfl,?_⟩;refine⟨_,rfl,rl,_,_,_,rfl,rfl,SqL.of R.at_,i0,_,rfl,a0,_,(p:Int),p,rfl,rfl,e0,zrf (by unfold iM;rw[yaa,TO.pts];exact hp),?_⟩;refine⟨_,rfl,rfl,_,rfl,iteF ⟨_,rfl,rfl,_,rfl,iteF ?_⟩⟩;exact q _ u3 u4 u7 _ (Far.put h0 _) (R.put (t':={ t with pts:=t.pts.set p (x-z) }) h0 e0 _ (by unfold parts iM;rw[ykc];rfl) R.d R.h R.m) (.lose hx)
 ·obtain⟨a0,h0,e0,i0⟩:=R.row (j:=1) rfl;obtain⟨x,hx⟩:=getx (xs:=t.scs) (by rw[TO.scs];exact hp);refine⟨_,rfl,rfl,_,rfl,iteF ⟨_,rfl,rfl,_,rfl,iteT ?_⟩⟩;refine⟨_,rfl,rl,_,_,_,rfl,rfl,SqL.of R.at_,i0,_,rfl,a0,_,_,_,rfl,rfl,SqL.of e0,zmj hx,_,rfl,_,_,rfl,rfl,?_⟩;refine⟨_,rfl,rl,_,_,_,rfl,rfl,SqL.of R.at_,i0,_,rfl,a0,_,(p:Int),p,rfl,rfl,e0,zrf (by unfold iM;rw[yaa,TO.scs];exact hp),?_⟩;refine⟨_,rfl,rfl,_,rfl,iteF ?_⟩;exact q _ u3 u4 u7 _ (Far.put h0 _) (R.put (t':={ t with scs:=t.scs.set p (x+z) }) h0 e0 _ (by unfold parts iM;rw[ykc];rfl) R.d R.h R.m) (.score hx)
 ·refine⟨_,rfl,rfl,_,rfl,iteF ⟨_,rfl,rfl,_,rfl,iteF ⟨_,rfl,rfl,_,rfl,iteT ?_⟩⟩⟩;obtain⟨a3,h3,e3,i3⟩:=R.row (j:=3) rfl;obtain⟨a4,h4,e4,i4⟩:=R.row (j:=4) rfl;obtain⟨d,hd⟩:=getx (xs:=t.decks) (by rw[TO.decks];exact hp);obtain⟨h,hh⟩:=getx (xs:=t.hands) (by rw[TO.hands];exact hp);obtain⟨_,edv,db,rfl,edb⟩:=R.d.get2 (b:=iM d) (by rw[yna,hd];rfl);obtain⟨_,ehv,hb,rfl,ehb⟩:=R.h.get2 (b:=iM h) (by rw[yna,hh];rfl);have dl:=TO.ds d (ypa hd);have hl:=TO.hs h (ypa hh);have l3:=R.d.len;have l4:=R.h.len;rw[yaa,TO.decks] at l3;rw[yaa,TO.hands] at l4;obtain⟨m,em,m'⟩:=zirb (n:=d.length) z0;refine⟨_,rfl,_,rfl,rl,_,_,_,rfl,rfl,SqL.of R.at_,i3,_,rfl,a3,_,_,_,rfl,rfl,SqL.of e3,zsa edv,db,_,rfl,.inr (SqT.of edb),z,(d.length:Int),(by rw[show (iM d).length=d.length from yaa _]),?_⟩;rw[em];have tk:d.take m=d.take z.toNat:=by
   rw[m']
   rcases Nat.le_total z.toNat d.length with y|y
   ·rw[yyk y]
   ·rw[yak y,yta (yja _),yta y]
  have dp:d.drop m=d.drop z.toNat:=by
   rw[m']
   rcases Nat.le_total z.toNat d.length with y|y
   ·rw[yyk y]
   ·rw[yak y,yln (yja _),yln y]
  have g4:=R.at_;refine⟨_,rfl,rl,_,_,_,rfl,rfl,SqL.of R.at_,i4,_,rfl,a4,_,_,_,rfl,rfl,SqL.of e4,zsa ehv,_,rfl,rl,_,_,_,rfl,rfl,SqL.of R.at_,i3,_,rfl,a3,_,_,_,rfl,rfl,SqL.of e3,zsa edv,_,rfl,_,rfl,?_⟩;have mz:(0:Int)≤(m:Int):=Int.natCast_nonneg m;refine' zsj (pre:=λc H1=>Same H H1∧H1 c=some (.tup (iM (d.take z.toNat)))) (λkk=>?ga) ?ka
  case ga =>
   refine⟨db,_,rfl,SqT.of edb,λwh=>?w1,λ_ c hc=>?f1⟩
   case f1 =>
    rw[zaeb mz];refine laid hc λH1 S1 e1=>?_;exact kk c H1 ⟨S1,by rw[e1,yib];unfold iM;rw[← ygk,tk]⟩
   case w1 =>
    have ew:=zjw wh;rw[zaeb mz,yib] at ew;have ez:H db=some (.tup (iM (d.take z.toNat))):=by
     rw[edb];unfold iM at ew ⊢;rw[← tk,ygk,ew]
    exact kk db H ⟨Same.refl _,ez⟩
  case ka =>
  rintro c1 H1 ⟨S1,e1⟩;refine' zsj (pre:=λc H2=>Same H H2∧H2 c=some (.tup (iM (h++d.take z.toNat)))) (λkk=>?gb) ?kb
  case gb =>
   have ehb1:=S1 _ _ ehb;refine⟨hb,c1,_,_,rfl,rfl,SqT.of ehb1,SqT.of e1,?s2,λx0=>?a2,λx0 y0=>?b2,λx0 y0 c hc=>?f2⟩
   case f2 =>
    refine laid hc λH2 S2 e2=>?_;exact kk c H2 ⟨S1.trans S2,by rw[e2];unfold iM;rw[yua]⟩
   case s2 =>
    unfold iM;rw[yaa,yaa,ycb];exact small (by omega)
   case a2 =>
    have h0:h=[]:=yve.mp x0;have ez:H1 c1=some (.tup (iM (h++d.take z.toNat))):=(by rw[h0];exact e1);exact kk c1 H1 ⟨S1,ez⟩
   case b2 =>
    have d0:d.take z.toNat=[]:=yve.mp y0;have ez:H1 hb=some (.tup (iM (h++d.take z.toNat))):=(by rw[d0,yad];exact ehb1);exact kk hb H1 ⟨S1,ez⟩
  case kb =>
  rintro c2 H2 ⟨S2,e2⟩;refine⟨c2,_,rfl,.inr (SqT.of e2),(by rw[yfa,ycb];omega),λl ys hl' py sy=>?_⟩;refine laid hl' λH3 S3 e3'=>?_;refine⟨l,_,rfl,.inl ⟨SqL.of e3',λtm htm=>?_⟩⟩;refine laid htm λH4 S4 e4'=>?_;have S04:=S2.trans (S3.trans S4);have R4:=R.same S04;refine⟨_,rfl,rl,_,_,_,rfl,rfl,SqL.of R4.at_,i4,_,rfl,a4,_,(p:Int),p,rfl,rfl,S04 _ _ e4,zrf (by omega),?_⟩;have R5:=R4.put (t':={ t with hands:=t.hands.set p ys }) (v3:=u3) (v4:=u4.set p (.ref tm)) (v7:=u7) h4 (S04 _ _ e4) _ rfl R4.d (by
   show All2 (T1 H4) (u4.set p (.ref tm)) ((t.hands.set p ys).map iM)
   rw[ykc];exact R4.h.set ⟨tm,rfl,e4'⟩ p) R4.m
  have F5:Far as H (upd H4 a4 (.lst (u4.set p (.ref tm)))):=(Far.same S04).trans (Far.put h4 _);have k5:Kp H (upd H4 a4 (.lst (u4.set p (.ref tm)))):=(Kp.same S04).trans (Kp.put (S04 _ _ e4));generalize upd H4 a4 (.lst (u4.set p (.ref tm)))=H5 at R5 F5 k5 ⊢;obtain⟨_,h3',e35,i35⟩:=R5.row (j:=3) rfl;rw[h3] at h3';cases h3';refine⟨_,rfl,rl,_,_,_,rfl,rfl,SqL.of R5.at_,i3,_,rfl,a3,_,_,_,rfl,rfl,SqL.of e35,zsa edv,_,rfl,_,rfl,?_⟩;refine' zsj (pre:=λc H6=>Same H5 H6∧H6 c=some (.tup (iM (d.drop z.toNat)))) (λkk=>?gc) ?kc
  case gc =>
   have edb5:=k5.t edb;refine⟨db,_,rfl,SqT.of edb5,λwh=>?w3,λ_ c hc=>?f3⟩
   case f3 =>
    rw[zzdb mz];refine laid hc λH6 S6 e6=>?_;exact kk c H6 ⟨S6,by rw[e6,yib];unfold iM;rw[← yhk,dp]⟩
   case w3 =>
    have ew:=zjw wh;rw[zzdb mz,yib] at ew;have ez:H5 db=some (.tup (iM (d.drop z.toNat))):=by
     rw[edb5];unfold iM at ew ⊢;rw[← dp,yhk,ew]
    exact kk db H5 ⟨Same.refl _,ez⟩
  case kc =>
  rintro c3 H6 ⟨S6,e6⟩;have R6:=R5.same S6;refine⟨_,rfl,rl,_,_,_,rfl,rfl,SqL.of R6.at_,i3,_,rfl,a3,_,(p:Int),p,rfl,rfl,S6 _ _ e35,zrf (by omega),?_⟩;have R7:=R6.put (t':={ t with hands:=t.hands.set p ys,decks:=t.decks.set p (d.drop z.toNat) }) (v3:=u3.set p (.ref c3)) (v4:=u4.set p (.ref tm)) (v7:=u7) h3 (S6 _ _ e35) _ rfl (by
   show All2 (T1 H6) (u3.set p (.ref c3)) ((t.decks.set p (d.drop z.toNat)).map iM)
   rw[ykc];exact R6.d.set ⟨c3,rfl,e6⟩ p) R6.h R6.m
  exact q _ _ _ _ _ (F5.trans ((Far.same S6).trans (Far.put h3 _))) R7 (.draw hd hh py sy)
theorem znbb {K:yda}{H:Hp}(c:List Int):DVs K H (c.map V.int) (c.map PyData.int):=by
 induction c with
 | nil=>exact .nil
 | cons i r ih=>exact .cons (.int i) ih
def chD (c:List Int):PyData:=.tuple (c.map .int)
theorem lay_ints (c:List Int):yyg (c.map .int)=true∧yvg (c.map .int)=0:=by
 induction c with
 | nil=>exact⟨rfl,rfl⟩
 | cons i r ih=>exact⟨by simp[yyg,yxe,ih.1],by simp[yvg,ymi,ih.2]⟩
theorem zkz (c:List Int):ybe (chD c)=true:=by
 obtain⟨h1,h2⟩:=lay_ints c;unfold ybe chD;rw[yxe,h1,ymi,h2];rfl
theorem zew:∀(c d:List Int),ykf (c.map .int) (d.map .int)=decide (c=d)
 | [],[]=>by simp[ykf]
 | [],_::_=>by simp[ykf]
 | _::_,[]=>by simp[ykf]
 | x::c,y::d=>by
  simp only[yob,ykf,zew c d]
  by_cases e:x=y
  ·by_cases e2:c=d<;>simp[yje,e,e2]
  ·simp[yje,e]
theorem zmsb (c d:List Int):yje (chD c) (chD d)=decide (c=d):=by
 unfold chD;rw[yje];exact zew c d
def ilD (c:List Int):PyData:=.list (c.map .int)
theorem zes (c:List Int):ybe (ilD c)=true:=by
 obtain⟨h1,h2⟩:=lay_ints c;unfold ybe ilD;rw[yxe,h1,ymi,h2];rfl
theorem zlsb (c d:List Int):yje (ilD c) (ilD d)=decide (c=d):=by
 unfold ilD;rw[yje];exact zew c d
theorem zsib:∀(os:List Int) (i:Nat),(os.map V.int).eraseIdx i=(os.eraseIdx i).map V.int
 | [],_=>rfl
 | _::_,0=>rfl
 | x::r,i+1=>by
  show V.int x::(r.map V.int).eraseIdx i=V.int x::(r.eraseIdx i).map V.int
  rw[zsib r i]
theorem zumb {G:Prop}{Kx pre:Hp->Prop}(g:(∀Hs,pre Hs->Kx Hs)->G)(k:∀Hs,pre Hs->Kx Hs):G:=g k
theorem zbjb {xs:List Int}(h:xs.Nodup):ISet.dd xs=xs:=by
 have z:∀n,n≤xs.length->ISet.dd (xs.take n)=xs.take n:=by
  intro n
  induction n with
  | zero=>intro _;rw[yyo];rfl
  | succ n ih =>
   intro hn;have e:xs.take (n+1)=xs.take n++[xs[n]]:=(by rw[yfb,ylb hn];rfl);have hd:(xs.take n++[xs[n]]).Nodup:=(by rw[← e];exact (yfm _ _).nodup h);have hne:xs[n]∉xs.take n:=λw=>(yue.mp hd).2.2 _ w _ (yia.mpr rfl) rfl;rw[e,ISet.zxk,ih (by omega),if_neg hne]
 have y:=z xs.length (yja _);rw[yta (yja _)] at y;exact y
theorem ztib {n:Int}:∀{xs:List Int} {j:Nat},xs.Nodup->xs[j]?=some n->xs.eraseIdx j=xs.filter λx=>!decide (x=n)
 | [],j,_,h=>by simp at h
 | x::r,0,nd,h=>by
  rw[yyd] at h;cases h;obtain⟨h1,_⟩:=ysd.mp nd;rw[ykh (by simp)];show r=_
  refine (yfp.mpr λy hy=>?_).symm;have:y≠n:=λz=>h1 (by rw[← z];exact hy);simp[this]
 | x::r,j+1,nd,h=>by
  rw[yrb] at h;obtain⟨h1,h2⟩:=ysd.mp nd;have:x≠n:=λz=>h1 (by rw[z];exact ypa h);rw[yjh (by simp[this])];show x::r.eraseIdx j=_
  rw[ztib h2 h]
theorem n_pl:∀kd∈zlf,inV (.str kd) [.str "lose",.str "score",.str "draw"]=decide (kd∈zvb):=by decide +kernel
theorem zoab.far {H H1 H2:Hp}{as:List Addr}(f:zoab H as)(s:Same H H1)(x:Far as H1 H2):Same H H2:=λb o h=>x b o (λz=>by rw[f b z] at h;cases h) (s b o h)
structure HpA (np nc:Nat)(t:Tab)(kd:Str)(th:Int)(av:V):Prop where
 ok:TOk np nc t
 lo:-(np:Int)≤th
 hi:th<nc
 pl:th<0->kd∈zvb∧∃z:Int,av = .int z∧0≤z
 cr:0≤th->CrK kd av
 nd:(t.lying++t.heap).Nodup
 mks:∀m∈t.marks,m.length≤14
theorem Rw.swap {H:Hp}{as:List Addr}{xss:List (List V)}(h:Rw H as xss){j:Nat}{p:Addr}{ys:List V}(e:H p=some (.lst ys))(hj:j<as.length):Rw H (as.set j p) (xss.set j ys):=by
 refine⟨by rw[ycd,ycd];exact h.1,λi b zs h1 h2=>?_⟩
 by_cases ij:i=j
 ·subst ij;rw[yoe hj] at h1;rw[yoe (by rw[← h.1];exact hj)] at h2;cases h1;cases h2;exact e
 ·rw[ymg (λz=>ij z.symm)] at h1 h2;exact h.2 i b zs h1 h2
theorem zmhb {as:List Addr}(nd:as.Nodup){p:Addr}(hp:p∉as)(j:Nat):(as.set j p).Nodup:=by
 induction as generalizing j with
 | nil=>exact nd
 | cons x r ih =>
  obtain⟨h1,h2⟩:=ysd.mp nd;have p1:p≠x:=λz=>hp (by rw[z];exact yqa);have p2:p∉r:=λz=>hp (ysa _ z);cases j with
  | zero=>exact ysd.mpr ⟨p2,h2⟩
  | succ j =>
   refine ysd.mpr ⟨λz=>?_,ih h2 p2 j⟩
   rcases ykg z with y|y
   ·exact h1 y
   ·exact p1 y.symm
theorem RT.swap {H:Hp}{rl:Addr}{as:List Addr}{t t':Tab}{u3 u4 u7:List V}(r:RT H rl as t u3 u4 u7){j:Nat}{p:Addr}{ys:List V}(e:H p=some (.lst ys))(hp:p∉as)(pr:p≠rl)(hj:j<9)(hl:as.length=9)(hs:(parts t u3 u4 u7).set j ys=parts t' u3 u4 u7)(d:t'.decks=t.decks)(h:t'.hands=t.hands)(m:t'.marks=t.marks) :
  RT (upd H rl (.lst ((as.map V.ref).set j (.ref p)))) rl (as.set j p) t' u3 u4 u7:=by
 have nr:rl∉as.set j p:=λz=>by
  rcases ykg z with y|y
  ·exact r.nr y
  ·exact pr y.symm
 refine⟨by rw[zia,ykc],by rw[← hs];exact (r.rw_.swap e (by rw[hl];exact hj)).far nr,zmhb r.nd hp j,nr,?_,?_,?_⟩
 ·rw[d];exact T1s.kp (Kp.put r.at_) r.d
 ·rw[h];exact T1s.kp (Kp.put r.at_) r.h
 ·rw[m];exact T1s.kp (Kp.put r.at_) r.m
def zjqb:Sp:=λvs H Q _=>Ex11 λcl tv ha (t:Tab) (np nc:Nat) cvs (cs:List Crd) (kd:Str) (th:Int) av=>vs=[.ref cl,tv,.ref ha]∧H cl=some (.lst cvs)∧All2 (CT H) cvs cs∧cs.length=nc∧TabT H tv t∧HpA np nc t kd th av∧H ha=some (.tup [.str kd,.int th,av])∧∀v' (t':Tab) H',Same H H'->TabT H' v' t'->HpR (cs.map (·.marks)) t kd th av t'->Q v' H'
theorem zylb:∀{kd:Str} {av:V},CrK kd av->kd∈zlf∧kd∉zvb:=by
 intro kd av h
 rcases h with rfl|rfl|⟨rfl,_⟩|⟨rfl|rfl,_⟩<;>exact⟨by decide +kernel,by decide +kernel⟩
theorem zgt (T:Tx K mg):FnOk P w K mg base CX0 3 T.zmd.f T.zmd.d zak zjqb:=by
 refine T.zmd.ok zme ?_;rintro f c A o s H vs Q E hr ⟨cl,tv,ha,t,np,nc,cvs,cs,kd,th,av,rfl,ec,alc,csl,TT,HA,eh,q⟩ X;obtain⟨a,v0,v1,v2,v3,v4,v5,v6,v7,v8,rfl,ea,TP⟩:=TT;obtain⟨b3,u3,hv3,e3,al3⟩:=id TP.p3;obtain⟨b4,u4,hv4,e4,al4⟩:=id TP.p4;obtain⟨b7,u7,hv7,e7,al7⟩:=id TP.p7;have alp:All2 (T1 H) [v0,v1,v2,v3,v4,v5,v6,v7,v8] (parts t u3 u4 u7):=.cons TP.p0 (.cons TP.p1 (.cons TP.p2 (.cons ⟨b3,hv3,e3⟩ (.cons ⟨b4,hv4,e4⟩ (.cons TP.p5 (.cons TP.p6 (.cons ⟨b7,hv7,e7⟩ (.cons TP.p8 .nil))))))));have TO:=HA.ok;have l7:=al7.len;rw[yaa,TO.marks] at l7;refine⟨_,  (zca (zpg (pv 2) (zvx (n:=3) rfl (zvd (zkb (i:=3) zme.nd rfl (.inl rfl)) (zvd (zkb (i:=4) zme.nd rfl (.inl rfl)) (zvd (zkb (i:=5) zme.nd rfl (.inr rfl)) zpr)))))
  (zca (zwi (i:=6) zme.nd rfl (.inl rfl) (own:=["_law_part"]) (cap:=[]) rfl (znb.chk rfl rfl) .nil (zux (pv 1)) (λ_ _ _ _=>(zkb (i:=0) (show ylc (["_law_part"]:List Str) by decide +kernel) rfl (.inl rfl))) (λ_ _ _ _=>zzc) (λ_ _ _ _=>by exact (zza (zow K) rfl T.zul ypm (zaa (pv 0) zba))))
  (zca (zub (zma zie (pv 3) (zyc (zaa zoa (zaa zoa (zaa zoa zba)))) rfl)
   (zda (zub (zgk (zof (zya zwa (zya zwa (pv 6) zfa (λ_ _=>rfl)) (zic zyl (zghb zex zfa) (pv 4)) (λ_ _=>rfl))))
    (zda (zfe (zga (zko T) hr rfl T.zrc.m T.zrc.F.kp (zdq T) .nil zpa (zaa (pv 6) (zaa (pv 3) (zaa (zic zyl (zghb zex zfa) (pv 4)) (zaa (pv 5) zba)))))))
    zqa))
   (zda (zub (PW.pt (zxab (zma zad (pv 3) zoa (zeb _)) (zmr (zma zie (pv 4) (zya zwa (pv 6) zfa (λ_ _=>rfl)) rfl))))
    (zca (zub (zma zad (pv 3) zoa (zeb _))
     (zda (zpg (zic zxf (zya zwa (zya zwa (pv 6) zfa (λ_ _=>rfl)) (pv 4) (λ_ _=>rfl)) (pv 5)) (zij (zya zwa (pv 6) zfa (λ_ _=>rfl)) (pv 4) set_list)))
     (zda (zub (zma zad (pv 3) zoa (zeb _))
      (zda (zpg (zza zbb rfl T.zec ysc (zaa (zva (zyh rfl) rfl T.zgf yfi (zaa (zic zyqb (zza (zwp rfl) rfl T.zpab boot_set (zaa (zya zwa (zya zwa (pv 6) zfa (λ_ _=>rfl)) (pv 4) (λ_ _=>rfl)) zba)) (zza (zzn rfl) rfl T.zpab boot_set (zaa (zge (zaa (pv 5) zba)) zba))) zba)) zba)) (zij (zya zwa (pv 6) zfa (λ_ _=>rfl)) (pv 4) set_list)))
      (zda (zub (zma zad (pv 3) zoa (zeb _))
       (zda (zpg (zza zbb rfl T.zec ysc (zaa (zud (own:=["_law_mark"]) (cap:=["_law_amount"]) rfl (znb.chk rfl rfl) (.cons (j:=5) rfl (.inl rfl) (.inl rfl) .nil) (zux (zya zwa (zya zwa (pv 6) zfa (λ_ _=>rfl)) (pv 4) (λ_ _=>rfl))) (λ_ _ _ _=>(zkb (i:=0) (show ylc (["_law_mark","_law_amount"]:List Str) by decide +kernel) rfl (.inl rfl))) (λ_ _ _ _=>zio (zma zjhb (pv 0) (pv 1) (zeb _))) (λ_ _ _ _=>by exact (pv 0))) zba)) (zij (zya zwa (pv 6) zfa (λ_ _=>rfl)) (pv 4) set_list)))
       (zca (zpg (zya zwa (zya zwa (pv 0) (pv 4) (λ_ _=>rfl)) zfa (λ_ _=>rfl)) (zij (zya zwa (pv 6) zfa (λ_ _=>rfl)) (pv 4) set_list))
       (zda (zpg zfa (zij (zya zwa (pv 6) zfa (λ_ _=>rfl)) (pv 4) set_list)))))))))
    (zca (zub (zma zad (pv 3) zoa (zeb _))
     (zda (zfe (zdi yec yod ypd zvh (zya zwa (pv 6) zfa (λ_ _=>rfl)) (zaa (pv 4) zba))))
     zqa)
    (zda (zub (zma zad (pv 3) zoa (zeb _))
     (zca (zfe (zdi yec PySem.F.slot_list_remove PySem.F.type_list_remove (zdfb hr.units) (zya zwa (pv 6) zfa (λ_ _=>rfl)) (zaa (pv 4) zba)))
     (zda (zpg (zva zeh rfl T.zgf yfi (zaa (zic zcy (zya zwa (pv 6) zfa (λ_ _=>rfl)) (zge (zaa (pv 4) zba))) zba)) (zij (pv 6) zfa set_list))))
     zqa))))
    zqa)))
  (zda (zua (zza zbb rfl T.zec ysc (zaa (zud (own:=["_law_part"]) (cap:=[]) rfl (znb.chk rfl rfl) .nil (zcg (pv 6)) (λ_ _ _ _=>(zkb (i:=0) (show ylc (["_law_part"]:List Str) by decide +kernel) rfl (.inl rfl))) (λ_ _ _ _=>zzc) (λ_ _ _ _=>by exact (zza (zlg K) rfl T.zec ysc (zaa (pv 0) zba)))) zba))))))),?_⟩
 refine⟨_,rfl,ha,_,rfl,SqT.of eh,rfl,_,_,rfl,_,_,rfl,_,_,rfl,rfl,?_⟩;refine⟨_,rfl,a,rfl,⟨_,SqT.of ea⟩,?_⟩;refine znq (xs:=[v0,v1,v2,v3,v4,v5,v6,v7,v8]) (λi ys H'=>∃as:List Addr,ys=as.map V.ref∧as.length=i∧i≤9∧Same H H'∧Rw H' as ((parts t u3 u4 u7).take i)∧as.Nodup∧zoab H as) (λi ys H' ⟨_,_,_,_,S,_⟩=>SqT.of (S _ _ ea)) ⟨[],rfl,rfl,ytb _,Same.refl _,Rw.nil,yzo,λ_ h=>nomatch h⟩ ?_ ?_ ?_
 ·rintro i ys H' ⟨as,rfl,hl,h9,_⟩;rw[yaa];exact small (by omega)
 ·rintro i v ys H' hv ⟨as,rfl,hl,h9,S,R,nd,fr⟩;obtain⟨xs,hx,b,rfl,eb⟩:=alp.get hv;refine⟨rfl,_,rfl,b,_,rfl,.inr (SqT.of (S _ _ eb)),λl hl'=>?_⟩;have nl:l∉as:=λz=>by
   obtain⟨j,hj⟩:=ynd z;obtain⟨zs,hz⟩:=getx (xs:=(parts t u3 u4 u7).take i) (i:=j) (by rw[← R.1];exact (yha.mp hj).1);rw[R.2 j l zs hj hz] at hl';cases hl'
  have il:i<9:=(yha.mp hv).1;refine laid hl' λH2 S2 e2=>?_;refine⟨as++[l],by rw[yua];rfl,by rw[yfa,hl];rfl,il,S.trans S2,?_,?_,?_⟩
  ·rw[yfb,hx,yfc];exact (R.same S2).snoc e2
  ·rw[yue];refine⟨nd,by simp,λx hx y hy z=>nl ?_⟩;rw[← yia.mp hy,← z];exact hx
  ·intro x hx
   rcases ysb.mp hx with z|z
   ·exact fr x z
   ·rw[yia.mp z];exact none_of S hl'
 rintro ys H1 ⟨as,rfl,hl,_,S1,R1,nd,fr⟩ rl hrl;have R1':Rw H1 as (parts t u3 u4 u7):=R1;have nrl:rl∉as:=λz=>by
  obtain⟨j,hj⟩:=ynd z;obtain⟨zs,hz⟩:=getx (xs:=parts t u3 u4 u7) (i:=j) (by rw[← R1'.1];exact (yha.mp hj).1);rw[R1'.2 j rl zs hj hz] at hrl;cases hrl
 have frl:H rl=none:=none_of S1 hrl;refine laid hrl λH2 S2 e2=>?_;have S02:=S1.trans S2;have RT2:RT H2 rl as t u3 u4 u7:=⟨e2,R1'.same S2,nd,nrl,T1s.kp (Kp.same S02) al3,T1s.kp (Kp.same S02) al4,T1s.kp (Kp.same S02) al7⟩;clear R1 R1' e2;refine⟨_,rfl,sz3,λq1 hq1=>?_⟩;refine laid hq1 λH3 S3 e3'=>?_;have S03:=S02.trans S3;have RT3:=RT2.same S3;refine⟨q1,_,rfl,.inr (SqT.of e3'),rfl,rfl,_,rfl,?_⟩;have kw:kd∈zlf∧(kd∈zvb↔th<0):=by
  by_cases c:th<0
  ·have w:∀kd∈zvb,kd∈zlf:=by decide +kernel
   exact⟨w kd (HA.pl c).1,λ_=>c,λ_=>(HA.pl c).1⟩
  ·obtain⟨h1,h2⟩:=zylb (HA.cr (by omega));exact⟨h1,λz=>absurd z h2,λz=>absurd z c⟩
 rw[n_pl kd kw.1];refine' zumb (pre:=λHs=>Ex5 λ(as':List Addr) (t':Tab) w3 w4 w7=>Same H Hs∧RT Hs rl as' t' w3 w4 w7∧HpR (cs.map (·.marks)) t kd th av t') (λkk=>?gg) ?kn
 case gg =>
  refine ite2 (λc=>?_) (λc=>?_)
  ·have c':=kw.2.mp (of_decide_eq_true c);obtain⟨hk,z,hav,z0⟩:=HA.pl c';obtain⟨p,hp⟩:∃p:Nat,-1-th=(p:Int):=⟨(-1-th).toNat,by omega⟩;have lo:=HA.lo;have pn:p<np:=(by omega);obtain⟨g,hg⟩:=getx (xs:=t.gone) (by rw[TO.gone];exact pn);obtain⟨a2,h2,e2,i2⟩:=RT3.row (j:=2) rfl;have ph:hpM t kd th = !g:=by
    unfold hpM;rw[if_pos c',hp,yib,yxa,hg];rfl
   have hp':(-(1:Int)-th)=(p:Int):=hp;refine⟨_,rfl,rl,_,_,_,rfl,rfl,SqL.of RT3.at_,i2,_,rfl,_,rfl,_,_,rfl,rfl,a2,_,_,_,rfl,rfl,SqL.of e2,(by show atI (t.gone.map V.bl) (-(1:Int)-th)=_;rw[hp'];exact zmj hg),_,rfl,ite2 (λc2=>?_) (λc2=>?b1)⟩
   ·have g0:g=false:=by simpa using c2
    refine⟨_,rfl,_,rfl,_,rfl,_,rfl,_,_,rfl,rfl,_,rfl,rl,as,t,u3,u4,u7,np,nc,p,kd,z,(by show [V.ref rl,V.str kd,V.int (-(1:Int)-th),av]=_;rw[hp',hav]),RT3,TO,pn,hk,z0,λt' w3 w4 w7 H4 F4 RT4 pr=>?_⟩;exact kk H4 ⟨as,t',w3,w4,w7,fr.far S03 F4,RT4,by rw[hav,show th = -1-(p:Int) by omega];exact .pl (by rw[hg,g0]) pr⟩
   case b1 =>
    have g1:g=true:=(by simpa using c2);exact kk H3 ⟨as,t,u3,u4,u7,S03,RT3,.no (by rw[ph,g1];rfl)⟩
  ·have c':¬ th<0:=λz=>c (decide_eq_true (kw.2.mpr z));obtain⟨n,hn⟩:∃n:Nat,th=(n:Int):=⟨th.toNat,by omega⟩;have CR:=HA.cr (by omega);have hi:=HA.hi;have nn:n<nc:=(by omega);obtain⟨a5,h5,e5,i5⟩:=RT3.row (j:=5) rfl;obtain⟨a7,h7,e7',i7⟩:=RT3.row (j:=7) rfl;obtain⟨a8,h8,e8,i8⟩:=RT3.row (j:=8) rfl;obtain⟨ms,hms⟩:=getx (xs:=t.marks) (by rw[TO.marks];exact nn);obtain⟨x8,hx8⟩:=getx (xs:=t.wnds) (by rw[TO.wnds];exact nn);obtain⟨_,emv,mb,rfl,emb⟩:=RT3.m.get2 (b:=sM ms) (by rw[yna,hms];rfl);have ml:=TO.ms ms (ypa hms);have n8:n<(iM t.wnds).length:=(by unfold iM;rw[yaa,TO.wnds];exact nn);have hno:kd ≠ "come"->th∉t.lying->hpM t kd th=false:=λk1 k2=>by
    unfold hpM;rw[if_neg c',decide_eq_false k1,decide_eq_false k2];rfl
   obtain⟨cc,hcc⟩:=getx (xs:=cs) (by rw[csl];exact nn);obtain⟨_,hcv,lc,m,x2,x3,x4,rfl,elc,emc,_⟩:=alc.get2 hcc;have hcm:(cs.map (·.marks))[n]?=some cc.marks:=(by rw[yna,hcc];rfl);have l9:as.length=9:=hl;have renew:∀{H4:Hp},H4=upd H3 a7 (.lst (u7.set n (.ref m)))->∃v7':List V,RT (upd H4 a8 (.lst ((iM t.wnds).set n (.int 0)))) rl as { t with marks:=t.marks.set n cc.marks,wnds:=t.wnds.set n 0 } u3 u4 v7'∧RT H4 rl as { t with marks:=t.marks.set n cc.marks } u3 u4 v7'∧H4 a8=some (.lst (iM t.wnds))∧H4 rl=some (.lst (as.map V.ref))∧Same H (upd H4 a8 (.lst ((iM t.wnds).set n (.int 0)))):=by
    intro H4 eH;have R4:=RT3.put (t':={ t with marks:=t.marks.set n cc.marks }) (v3:=u3) (v4:=u4) (v7:=u7.set n (.ref m)) h7 e7' _ rfl RT3.d RT3.h (by
     show All2 (T1 H3) (u7.set n (.ref m)) ((t.marks.set n cc.marks).map sM)
     rw[ykc];exact RT3.m.set ⟨m,rfl,S03 _ _ emc⟩ n)
    rw[← eH] at R4;have F4:Far as H3 H4:=(by rw[eH];exact Far.put h7 _);obtain⟨_,h8',e84,_⟩:=R4.row (j:=8) rfl;rw[h8] at h8';cases h8';exact⟨_,R4.put (t':={ t with marks:=t.marks.set n cc.marks,wnds:=t.wnds.set n 0 }) h8 e84 _ (by unfold parts iM;rw[ykc];rfl) R4.d R4.h R4.m,R4,e84,R4.at_,fr.far S03 (F4.trans (Far.put h8 _))⟩
   have n7:n<u7.length:=by rw[l7];exact nn
   rcases CR with hk|hk|⟨hk,z,hav⟩|⟨hk,u,hav⟩
   ·refine⟨_,rfl,rfl,_,rfl,ifT (sT hk) (iteT ?_)⟩;refine⟨_,rfl,rfl,_,rfl,ifF (sF hk (by decide +kernel)) ⟨_,rfl,rfl,_,rfl,ifF (sF hk (by decide +kernel)) ⟨_,rfl,rfl,_,rfl,ifF (sF hk (by decide +kernel)) ?_⟩⟩⟩;refine⟨_,rfl,_,rfl,cl,_,_,_,rfl,rfl,SqL.of (S03 _ _ ec),(by rw[hn];exact zsa hcv),lc,_,_,_,rfl,rfl,SqL.of (S03 _ _ elc),zsa (j:=1) rfl,_,rfl,rl,_,_,_,rfl,rfl,SqL.of RT3.at_,i7,_,rfl,a7,_,_,n,rfl,rfl,e7',(by rw[hn];exact zrf n7),?_⟩;obtain⟨H4,eH⟩:∃h,h=upd H3 a7 (.lst (u7.set n (.ref m))):=⟨_,rfl⟩;rw[← eH];obtain⟨v7',R5,R4,e84,at4,S5⟩:=renew eH;refine⟨_,rfl,rl,_,_,_,rfl,rfl,SqL.of at4,i8,_,rfl,a8,_,_,n,rfl,rfl,e84,(by rw[hn];exact zrf n8),?_⟩;generalize upd H4 a8 (.lst ((iM t.wnds).set n (.int 0)))=H5 at R5 S5 ⊢;obtain⟨_,h5',e55,_⟩:=R5.row (j:=5) rfl;rw[h5] at h5';cases h5';have ly:=TO.ly;refine⟨_,rfl,rfl,_,rfl,ifT (sT hk) ?_⟩;refine⟨_,rfl,rl,_,_,_,rfl,rfl,SqL.of R5.at_,i5,.inl ⟨rfl,_,SqL.of e55⟩,_,rfl,a5,_,_,rfl,rfl,e55,zle (by unfold iM;rw[yaa];show t.lying.length≤1000;omega),?_⟩;have R6:=R5.put (t':={ t with marks:=t.marks.set n cc.marks,wnds:=t.wnds.set n 0,lying:=t.lying++[(n:Int)] }) h5 e55 (iM t.lying++[.int th]) (by unfold parts iM;rw[yua,hn];rfl) R5.d R5.h R5.m;refine⟨_,rfl,rfl,_,rfl,ifF (sF hk (by decide +kernel)) ?_⟩;exact kk _ ⟨as,_,u3,u4,_,fr.far S5 (Far.put h5 _),R6,by rw[hk,hn];exact .cr (.inl rfl) (.come hcm)⟩
   ·refine⟨_,rfl,rfl,_,rfl,ifF (sF hk (by decide +kernel)) ?_⟩;refine⟨_,rfl,_,rfl,rl,_,_,_,rfl,rfl,SqL.of RT3.at_,i5,a5,_,rfl,.inl (SqL.of e5),rfl,zwk _,_,rfl,ite2 (λc5=>?_) (λc5=>?no)⟩
    case no =>
     rw[inI] at c5;exact kk H3 ⟨as,t,u3,u4,u7,S03,RT3,.no (hno (by rw[hk];decide +kernel) λz=>c5 (decide_eq_true z))⟩
    rw[inI] at c5;have c5':=of_decide_eq_true c5;refine⟨_,rfl,rfl,_,rfl,ifF (sF hk (by decide +kernel)) ⟨_,rfl,rfl,_,rfl,ifF (sF hk (by decide +kernel)) ⟨_,rfl,rfl,_,rfl,ifF (sF hk (by decide +kernel)) ?_⟩⟩⟩;refine⟨_,rfl,_,rfl,cl,_,_,_,rfl,rfl,SqL.of (S03 _ _ ec),(by rw[hn];exact zsa hcv),lc,_,_,_,rfl,rfl,SqL.of (S03 _ _ elc),zsa (j:=1) rfl,_,rfl,rl,_,_,_,rfl,rfl,SqL.of RT3.at_,i7,_,rfl,a7,_,_,n,rfl,rfl,e7',(by rw[hn];exact zrf n7),?_⟩;obtain⟨H4,eH⟩:∃h,h=upd H3 a7 (.lst (u7.set n (.ref m))):=⟨_,rfl⟩;rw[← eH];obtain⟨v7',R5,R4,e84,at4,S5⟩:=renew eH;refine⟨_,rfl,rl,_,_,_,rfl,rfl,SqL.of at4,i8,_,rfl,a8,_,_,n,rfl,rfl,e84,(by rw[hn];exact zrf n8),?_⟩;generalize upd H4 a8 (.lst ((iM t.wnds).set n (.int 0)))=H5 at R5 S5 ⊢;obtain⟨_,h5',e55,_⟩:=R5.row (j:=5) rfl;rw[h5] at h5';cases h5';have e55':H5 a5=some (.lst (iM t.lying)):=e55;obtain⟨j,hj⟩:=ynd c5';have nd0:=HA.nd;obtain⟨nd1,nd2,nd3⟩:=yue.mp nd0;refine⟨_,rfl,rfl,_,rfl,ifF (sF hk (by decide +kernel)) ⟨_,rfl,rfl,_,rfl,ifT (sT hk) ?_⟩⟩;refine⟨_,rfl,rl,_,_,_,rfl,rfl,SqL.of R5.at_,i5,.inl ⟨rfl,_,SqL.of e55⟩,_,rfl,a5,_,.int th,.int th,t.lying.map .int,j,.int th,rfl,rfl,e55',.lst (SqL.of e55') (znbb _),.int th,rfl,zes _,(show (0:Nat)≤8 by decide),(by rw[yna,hj];rfl),by simp[yje],(λk dm hk' hd=>?_),?_⟩
    ·rw[yna] at hd;obtain⟨y,hy,rfl⟩:=yxc.mp hd;have:y≠th:=λz=>by
      have w:=(ypq (j:=j) (yha.mp hy).1 nd1).mp (by rw[hy,hj,z]);omega
     simp[yje,this]
    have R6:=R5.put (t':={ t with marks:=t.marks.set n cc.marks,wnds:=t.wnds.set n 0,lying:=t.lying.filter λx=>!decide (x=(n:Int)) }) h5 e55' ((iM t.lying).eraseIdx j) (by
     have e:(iM t.lying).eraseIdx j=iM (t.lying.filter λx=>!decide (x=(n:Int))):=by
      unfold iM;rw[zsib,ztib nd1 hj,hn]
     rw[e];rfl) R5.d R5.h R5.m
    have S6:Same H (upd H5 a5 (.lst ((iM t.lying).eraseIdx j))):=fr.far S5 (Far.put h5 _);generalize upd H5 a5 (.lst ((iM t.lying).eraseIdx j))=H6 at R6 S6 ⊢;obtain⟨a6,h6,e6,i6⟩:=R6.row (j:=6) rfl;have e6':H6 a6=some (.lst (iM t.heap)):=e6;have hpl:=TO.hp;refine⟨_,rfl,rl,_,_,_,rfl,rfl,SqL.of R6.at_,i6,_,rfl,sz1,λl1 hl1=>?_⟩;refine laid hl1 λH7 S7 f7=>?_;refine⟨a6,l1,_,_,rfl,rfl,S7 _ _ e6',f7,(by rw[show (iM t.heap).length=_ from yaa _];exact small (by show t.heap.length+1≤1000;omega)),λl2 hl2=>?_⟩;refine laid hl2 λH8 S8 f8=>?_;have f8':H8 l2=some (.lst ((t.heap++[(n:Int)]).map V.int)):=by
     rw[f8,yua,hn];rfl
    refine⟨l2,t.heap++[(n:Int)],rfl,.inl (SqL.of f8'),(by rw[yfa];show t.heap.length+1<64;omega),λp ys hp py sy=>?_⟩;have S68:=S7.trans S8;have R8:=R6.same S68;have pn1:p∉as:=λz=>by
     obtain⟨k,hk'⟩:=ynd z;obtain⟨zs,hz⟩:=getx (xs:=parts { t with marks:=t.marks.set n cc.marks,wnds:=t.wnds.set n 0,lying:=t.lying.filter λx=>!decide (x=(n:Int)) } u3 u4 v7') (i:=k) (by rw[← R8.rw_.1];exact (yha.mp hk').1);rw[R8.rw_.2 k p zs hk' hz] at hp;cases hp
    have pn2:p≠rl:=yqd (zka R8.at_ hp);refine laid hp λH9 S9 f9=>?_;have R9:=R8.same S9;refine⟨_,rfl,rl,_,_,6,rfl,rfl,R9.at_,zrf (j:=6) (by rw[yaa,l9];decide),?_⟩;have RA:=R9.swap (j:=6) (t':={ t with marks:=t.marks.set n cc.marks,wnds:=t.wnds.set n 0,lying:=t.lying.filter λx=>!decide (x=(n:Int)),heap:=ys }) f9 pn1 pn2 (by decide) l9 rfl rfl rfl rfl;have hh:(n:Int)∉t.heap:=λz=>nd3 _ (by rw[← hn];exact c5') _ z rfl;have dd:ISet.dd (t.heap++[(n:Int)])=t.heap++[(n:Int)]:=zbjb (yue.mpr ⟨nd2,by simp,λx hx y hy z=>hh (by rw[← yia.mp hy,← z];exact hx)⟩);exact kk _ ⟨_,_,u3,u4,v7',zin (S6.trans (S68.trans S9)) frl _,RA,by rw[hk,hn];exact .cr (.inr (by rw[← hn];exact c5')) (.leave hcm (by rw[dd];exact py) sy)⟩
   ·refine⟨_,rfl,rfl,_,rfl,ifF (sF hk (by decide +kernel)) ?_⟩;refine⟨_,rfl,_,rfl,rl,_,_,_,rfl,rfl,SqL.of RT3.at_,i5,a5,_,rfl,.inl (SqL.of e5),rfl,zwk _,_,rfl,ite2 (λc5=>?_) (λc5=>?no)⟩
    case no =>
     rw[inI] at c5;exact kk H3 ⟨as,t,u3,u4,u7,S03,RT3,.no (hno (by rw[hk];decide +kernel) λz=>c5 (decide_eq_true z))⟩
    rw[inI] at c5;have c5':=of_decide_eq_true c5;refine⟨_,rfl,rfl,_,rfl,ifT (sT hk) ?_⟩;refine⟨_,rfl,rl,_,_,_,rfl,rfl,SqL.of RT3.at_,i8,_,rfl,a8,_,_,_,rfl,rfl,SqL.of e8,(by rw[hn];exact zmj hx8),_,rfl,_,_,rfl,hav,?_⟩;refine⟨_,rfl,rl,_,_,_,rfl,rfl,SqL.of RT3.at_,i8,_,rfl,a8,_,_,n,rfl,rfl,e8,(by rw[hn];exact zrf n8),?_⟩;refine⟨_,rfl,rfl,_,rfl,ifF (sF hk (by decide +kernel)) ⟨_,rfl,rfl,_,rfl,ifF (sF hk (by decide +kernel)) ?_⟩⟩;exact kk _ ⟨as,_,u3,u4,u7,fr.far S03 (Far.put h8 _),RT3.put (t':={ t with wnds:=t.wnds.set n (x8+z) }) h8 e8 _ (by unfold parts iM;rw[ykc];rfl) RT3.d RT3.h RT3.m,by rw[hk,hn,hav];exact .cr (.inr (by rw[← hn];exact c5')) (.hurt hx8)⟩
   ·have kno:kd ≠ "come":=by rcases hk with z|z<;>(rw[z];decide +kernel)
    refine⟨_,rfl,rfl,_,rfl,ifF (by rcases hk with z|z<;>exact sF z (by decide +kernel)) ?_⟩;refine⟨_,rfl,_,rfl,rl,_,_,_,rfl,rfl,SqL.of RT3.at_,i5,a5,_,rfl,.inl (SqL.of e5),rfl,zwk _,_,rfl,ite2 (λc5=>?_) (λc5=>?no)⟩
    case no =>
     rw[inI] at c5;exact kk H3 ⟨as,t,u3,u4,u7,S03,RT3,.no (hno kno λz=>c5 (decide_eq_true z))⟩
    rw[inI] at c5;have c5':=of_decide_eq_true c5
    rcases hk with hk|hk
    ·refine⟨_,rfl,rfl,_,rfl,ifF (sF hk (by decide +kernel)) ⟨_,rfl,rfl,_,rfl,ifT (sT hk) ?_⟩⟩;refine⟨_,rfl,rl,_,_,_,rfl,rfl,SqL.of RT3.at_,i7,_,rfl,a7,_,_,_,rfl,rfl,SqL.of e7',(by rw[hn];exact zsa emv),mb,ms,rfl,SqT.of emb,by omega,λl1 hl1=>?_⟩;refine laid hl1 λH4 S4 f4=>?_;refine⟨_,rfl,sz1,λl2 hl2=>?_⟩;refine laid hl2 λH5 S5 f5=>?_;have f5':H5 l2=some (.lst ([u].map V.str)):=(by rw[f5,hav];rfl);refine⟨l2,[u],rfl,SqL.of f5',by simp,λl3 hl3=>?_⟩;refine laid hl3 λH6 S6 f6=>?_;have dl:=zxdb ms;refine⟨l1,l3,SSet.dd ms,u,rfl,rfl,(S5.trans S6) _ _ f4,f6,yqd (zka (S5 _ _ f4) hl3),?_,λl4 hl4=>?_⟩
     ·have:=HA.mks ms (ypa hms);omega
     refine laid hl4 λH7 S7 f7=>?_;rw[← SSet.zxk] at f7;have gl:=zxdb (ms++[u]);rw[yfa,yub] at gl;refine⟨l4,_,rfl,f7,by omega,λp ys hp py sy=>?_⟩;refine laid hp λH8 S8 f8=>?_;refine⟨p,_,rfl,.inl ⟨SqL.of f8,λtm htm=>?_⟩⟩;refine laid htm λH9 S9 f9=>?_;have S39:=S4.trans (S5.trans (S6.trans (S7.trans (S8.trans S9))));have R9:=RT3.same S39;refine⟨_,rfl,rl,_,_,_,rfl,rfl,SqL.of R9.at_,i7,_,rfl,a7,_,_,n,rfl,rfl,S39 _ _ e7',(by rw[hn];exact zrf n7),?_⟩;refine⟨_,rfl,rfl,_,rfl,ifF (sF hk (by decide +kernel)) ⟨_,rfl,rfl,_,rfl,ifF (sF hk (by decide +kernel)) ?_⟩⟩;exact kk _ ⟨as,_,u3,u4,_,fr.far (S03.trans S39) (Far.put h7 _),R9.put (t':={ t with marks:=t.marks.set n ys }) (v3:=u3) (v4:=u4) (v7:=u7.set n (.ref tm)) h7 (S39 _ _ e7') _ rfl R9.d R9.h (by
      show All2 (T1 H9) (u7.set n (.ref tm)) ((t.marks.set n ys).map sM)
      rw[ykc];exact R9.m.set ⟨tm,rfl,f9⟩ n),by rw[hk,hn,hav];exact .cr (.inr (by rw[← hn];exact c5')) (.gain hms py sy)⟩
    ·refine⟨_,rfl,rfl,_,rfl,ifF (sF hk (by decide +kernel)) ⟨_,rfl,rfl,_,rfl,ifF (sF hk (by decide +kernel)) ⟨_,rfl,rfl,_,rfl,ifT (sT hk) ?_⟩⟩⟩;refine⟨_,rfl,rl,_,_,_,rfl,rfl,SqL.of RT3.at_,i7,_,rfl,a7,_,_,_,rfl,rfl,SqL.of e7',(by rw[hn];exact zsa emv),mb,rfl,⟨_,SqT.of emb⟩,?_⟩;refine znq (xs:=sM ms) (λj ys H'=>H'=H3∧ys=sM ((ms.take j).filter λx=>!decide (x=u))) (λj ys H' z=>by rw[z.1];exact SqT.of emb) ⟨rfl,rfl⟩ ?_ ?_ ?_
     ·rintro j ys H' ⟨_,rfl⟩;have h1:=ywj (λx=>!decide (x=u)) (ms.take j);rw[ycb] at h1;unfold sM;rw[yaa];exact small (by omega)
     ·rintro j v ys H' hv ⟨rfl,rfl⟩;unfold sM at hv;rw[yna] at hv;obtain⟨x,hx,rfl⟩:=yxc.mp hv;refine⟨rfl,_,rfl,_,rfl,by rw[hav];rfl,_,rfl,?_⟩;rw[yfb,hx,yfc,yyp];have dx:decide (V.str x=av)=decide (x=u):=decide_eq_decide.mpr ⟨λz=>by rw[hav] at z;injection z,λz=>by rw[hav,z]⟩;rw[dx];refine ite2 (λc=>?_) (λc=>?_)
      ·refine⟨_,rfl,rfl,?_⟩;rw[yjh (p:=λx=>!decide (x=u)) c];unfold sM;rw[yua];rfl
      ·refine⟨rfl,?_⟩;rw[ykh (p:=λx=>!decide (x=u)) c,List.filter_nil,yad]
     rintro ys H4 ⟨rfl,rfl⟩ l hl';rw[show (sM ms).length=_ from yaa _,yta (yja _)];refine laid hl' λH5 S5 f5=>?_;refine⟨l,_,rfl,.inl ⟨SqL.of f5,λtm htm=>?_⟩⟩;refine laid htm λH6 S6 f6=>?_;have S36:=S5.trans S6;have R6:=RT3.same S36;refine⟨_,rfl,rl,_,_,_,rfl,rfl,SqL.of R6.at_,i7,_,rfl,a7,_,_,n,rfl,rfl,S36 _ _ e7',(by rw[hn];exact zrf n7),?_⟩;refine⟨_,rfl,rfl,_,rfl,ifF (sF hk (by decide +kernel)) ⟨_,rfl,rfl,_,rfl,ifF (sF hk (by decide +kernel)) ?_⟩⟩;exact kk _ ⟨as,_,u3,u4,_,fr.far (S03.trans S36) (Far.put h7 _),R6.put (t':={ t with marks:=t.marks.set n (ms.filter λx=>!decide (x=u)) }) (v3:=u3) (v4:=u4) (v7:=u7.set n (.ref tm)) h7 (S36 _ _ e7') _ rfl R6.d R6.h (by
      show All2 (T1 H6) (u7.set n (.ref tm)) ((t.marks.set n (ms.filter λx=>!decide (x=u))).map sM)
      rw[ykc];exact R6.m.set ⟨tm,rfl,f6⟩ n),by rw[hk,hn,hav];exact .cr (.inr (by rw[← hn];exact c5')) (.lack hms)⟩
 case kn =>
 rintro H4 ⟨as',t',w3,w4,w7,S4,RT4,hr4⟩;refine⟨_,rfl,rl,rfl,⟨_,SqL.of RT4.at_⟩,?_⟩;have al':as'.length=9:=RT4.rw_.1;refine zsd (xs:=as'.map V.ref) (λi ys H'=>Same H4 H'∧All2 (T1 H') ys ((parts t' w3 w4 w7).take i)) (λi ys H' z=>SqL.of (z.1 _ _ RT4.at_)) ⟨Same.refl _,.nil⟩ ?_ ?_ ?_
 ·rintro i ys H' ⟨_,al⟩;have:=al.len;rw[ycb] at this;have h9:(parts t' w3 w4 w7).length=9:=rfl;exact small (by omega)
 ·rintro i v ys H' hv ⟨S,al⟩;rw[yna] at hv;obtain⟨b,hb,rfl⟩:=yxc.mp hv;obtain⟨xs,hx⟩:=getx (xs:=parts t' w3 w4 w7) (i:=i) (by rw[← RT4.rw_.1];exact (yha.mp hb).1);refine⟨rfl,_,rfl,b,_,rfl,.inl ⟨SqL.of (S _ _ (RT4.rw_.2 i b xs hb hx)),λl hl'=>?_⟩⟩;refine laid hl' λH5 S5 f5=>⟨S.trans S5,?_⟩;rw[yfb,hx,yfc];exact All2.snoc ⟨l,rfl,f5⟩ (T1s.kp (Kp.same S5) al)
 rintro ys H5 ⟨S5,al5⟩ l hl';have al5':All2 (T1 H5) ys (parts t' w3 w4 w7):=by
  rw[yaa,al'] at al5;exact al5
 refine laid hl' λH6 S6 f6=>?_;refine⟨l,_,rfl,.inl ⟨SqL.of f6,λtm htm=>?_⟩⟩;refine laid htm λH7 S7 f7=>?_;have S57:=S6.trans S7;have S47:=S5.trans S57;have al7':=T1s.kp (Kp.same S57) al5';unfold parts at al7';cases al7' with|cons g0 al7' =>
 cases al7' with|cons g1 al7' =>
 cases al7' with|cons g2 al7' =>
 cases al7' with|cons g3 al7' =>
 cases al7' with|cons g4 al7' =>
 cases al7' with|cons g5 al7' =>
 cases al7' with|cons g6 al7' =>
 cases al7' with|cons g7 al7' =>
 cases al7' with|cons g8 al7' =>
 cases al7';obtain⟨d3,e3a,e3b⟩:=g3;obtain⟨d4,e4a,e4b⟩:=g4;obtain⟨d7,e7a,e7b⟩:=g7;exact q (.ref tm) t' H7 (S4.trans S47) ⟨tm,_,_,_,_,_,_,_,_,_,rfl,f7,⟨g0,g1,g2,⟨d3,w3,e3a,e3b,T1s.kp (Kp.same S47) RT4.d⟩,⟨d4,w4,e4a,e4b,T1s.kp (Kp.same S47) RT4.h⟩,g5,g6,⟨d7,w7,e7a,e7b,T1s.kp (Kp.same S47) RT4.m⟩,g8⟩⟩ hr4
def zmgb (K:yda):Sp:=λvs H Q _=>Ex3 λp (k:Int) (np:Nat)=>vs=[.ref p,.int (np:Int)]∧Tk K H p k∧k≤600000∧np≤4∧∀l b0 b1 b2 (pts scs:List Int) (gone:List Bool) (k':Int) H',But p H H'->Tk K H' p k'->k'≤k+12->H l=none->H' l=some (.lst [.ref b0,.ref b1,.ref b2])->H' b0=some (.tup (iM pts))->H' b1=some (.tup (iM scs))->H' b2=some (.tup (gone.map V.bl))->pts.length=np->scs.length=np->gone.length=np->Q (.ref l) H'
theorem zrv (T:Tx K mg):FnOk P w K mg base CX0 4 T.zce.f T.zce.d zkl (zmgb K):=by
 refine T.zce.ok zrj ?_;rintro f c A o s H vs Q E hr ⟨p,k,np,rfl,T0,hk,h4,q⟩ X;refine⟨_,  (zca (zta (i:=2) zrj.nd rfl (.inl rfl) (zza zbb rfl T.zec ysc (zaa (zud (own:=["_law_k"]) (cap:=["_law_pen"]) rfl (znb.chk rfl rfl) (.cons (j:=0) rfl (.inl rfl) (.inl rfl) .nil) (zrd rfl T.zpe (zaa (pv 1) zba)) (λ_ _ _ _=>(zkb (i:=0) (show ylc (["_law_k","_law_pen"]:List Str) by decide +kernel) rfl (.inl rfl))) (λ_ _ _ _=>zzc) (λ_ _ _ _=>by exact (zic zyl (zga (zna T) hr rfl T.zea.m T.zea.F.kp (zra T) .nil zpa (zaa (pv 1) (zaa zfa zba))) zfa))) zba)))
  (zca (zta (i:=3) zrj.nd rfl (.inl rfl) (zza zbb rfl T.zec ysc (zaa (zud (own:=["_law_k"]) (cap:=["_law_pen"]) rfl (znb.chk rfl rfl) (.cons (j:=0) rfl (.inl rfl) (.inl rfl) .nil) (zrd rfl T.zpe (zaa (pv 1) zba)) (λ_ _ _ _=>(zkb (i:=0) (show ylc (["_law_k","_law_pen"]:List Str) by decide +kernel) rfl (.inl rfl))) (λ_ _ _ _=>zzc) (λ_ _ _ _=>by exact (zga (zna T) hr rfl T.zea.m T.zea.F.kp (zra T) .nil zpa (zaa (pv 1) (zaa zfa zba))))) zba)))
  (zda (zua (zge (zaa (pv 2) (zaa (pv 3) (zaa (zza zbb rfl T.zec ysc (zaa (zud (own:=["_law_k"]) (cap:=["_law_pen"]) rfl (znb.chk rfl rfl) (.cons (j:=0) rfl (.inl rfl) (.inl rfl) .nil) (zrd rfl T.zpe (zaa (pv 1) zba)) (λ_ _ _ _=>(zkb (i:=0) (show ylc (["_law_k","_law_pen"]:List Str) by decide +kernel) rfl (.inl rfl))) (λ_ _ _ _=>zzc) (λ_ _ _ _=>by exact (zdh zad (zga (zna T) hr rfl T.zea.m T.zea.F.kp (zra T) .nil zpa (zaa (pv 1) (zaa zfa zba))) zfa (zeb _)))) zba)) zba)))))))),?_⟩
 refine⟨_,rfl,(np:Int),rfl,by omega,by omega,?_⟩;rw[yib];refine ztd (λj ys Hy=>Ex2 λ(zs:List Int) (k2:Int)=>ys=zs.map V.int∧zs.length=j∧But p H Hy∧Tk K Hy p k2∧k2≤k+(j:Int)∧j≤np) ⟨[],_,rfl,rfl,But.refl _ _,T0,by omega,ytb _⟩ ?_ ?_ ?_
 ·rintro j ys Hy ⟨zs,k2,rfl,zl,_,_,_,hj⟩;rw[yaa,zl];exact small (by omega)
 ·rintro j ys Hy hj ⟨zs,k2,rfl,zl,b,Ty,hk2,_⟩;refine⟨rfl,_,rfl,p,k2,30,rfl,Ty,by omega,by decide,λx Hz x0 x1 bz Tz=>⟨_,_,rfl,rfl,?_⟩⟩;exact⟨zs++[x-4],_,by rw[yua];rfl,by rw[yfa,zl];rfl,b.trans bz,Tz,by omega,hj⟩
 rintro ys H1 ⟨pts,k1,rfl,pl,B1,T1,hk1,_⟩ l1 hl1;refine laid hl1 λH2 S2 e2=>?_;refine⟨l1,_,rfl,.inl ⟨SqL.of e2,λb0 hb0=>?_⟩⟩;refine laid hb0 λH3 S3 e3=>?_;have B3:=B1.trans (But.same (S2.trans S3));have T3:=T1.same (S2.trans S3);refine⟨_,rfl,(np:Int),rfl,by omega,by omega,?_⟩;rw[yib];refine ztd (λj ys Hy=>Ex2 λ(zs:List Int) (k2:Int)=>ys=zs.map V.int∧zs.length=j∧But p H3 Hy∧Tk K Hy p k2∧k2≤k1+(j:Int)∧j≤np) ⟨[],_,rfl,rfl,But.refl _ _,T3,by omega,ytb _⟩ ?_ ?_ ?_
 ·rintro j ys Hy ⟨zs,k2,rfl,zl,_,_,_,hj⟩;rw[yaa,zl];exact small (by omega)
 ·rintro j ys Hy hj ⟨zs,k2,rfl,zl,b,Ty,hk2,_⟩;refine⟨rfl,_,rfl,p,k2,50,rfl,Ty,by omega,by decide,λx Hz x0 x1 bz Tz=>?_⟩;exact⟨zs++[x],_,by rw[yua];rfl,by rw[yfa,zl];rfl,b.trans bz,Tz,by omega,hj⟩
 rintro ys H4 ⟨scs,k4,rfl,sl,B4,T4,hk4,_⟩ l4 hl4;refine laid hl4 λH5 S5 e5=>?_;refine⟨l4,_,rfl,.inl ⟨SqL.of e5,λb1 hb1=>?_⟩⟩;refine laid hb1 λH6 S6 e6=>?_;have B46:=B4.trans (But.same (S5.trans S6));have T6:=T4.same (S5.trans S6);refine⟨_,rfl,_,rfl,_,rfl,(np:Int),rfl,by omega,by omega,?_⟩;rw[yib];refine ztd (λj ys Hy=>Ex2 λ(zs:List Bool) (k2:Int)=>ys=zs.map V.bl∧zs.length=j∧But p H6 Hy∧Tk K Hy p k2∧k2≤k4+(j:Int)∧j≤np) ⟨[],_,rfl,rfl,But.refl _ _,T6,by omega,ytb _⟩ ?_ ?_ ?_
 ·rintro j ys Hy ⟨zs,k2,rfl,zl,_,_,_,hj⟩;rw[yaa,zl];exact small (by omega)
 ·rintro j ys Hy hj ⟨zs,k2,rfl,zl,b,Ty,hk2,_⟩;refine⟨rfl,_,rfl,p,k2,5,rfl,Ty,by omega,by decide,λx Hz x0 x1 bz Tz=>⟨rfl,?_⟩⟩;exact⟨zs++[_],_,by rw[yua];rfl,by rw[yfa,zl];rfl,b.trans bz,Tz,by omega,hj⟩
 rintro ys H7 ⟨gone,k7,rfl,gl,B7,T7,hk7,_⟩ l7 hl7;refine laid hl7 λH8 S8 e8=>?_;refine⟨l7,_,rfl,.inl ⟨SqL.of e8,λb2 hb2=>?_⟩⟩;refine laid hb2 λH9 S9 e9=>?_;have B69:=B7.trans (But.same (S8.trans S9));have T9:=T7.same (S8.trans S9);refine⟨sz3,λl hl=>?_⟩;have nl:H l=none:=by
  cases e:H l with
  | none=>rfl
  | some o =>
   by_cases c:l=p
   ·have z:=T9.ne hl;exact absurd c.symm z
   ·have z:=B69 l o c (B46 l o c (B3 l o c e));rw[z] at hl;cases hl
 refine laid hl λHA SA eA=>?_;have B6A:=B69.trans (But.same SA);have n0:b0≠p:=yqd ((T1.same S2).ne hb0);have n1:b1≠p:=yqd ((T4.same S5).ne hb1);exact q l b0 b1 b2 pts scs gone k7 HA (B3.trans (B46.trans B6A)) (T9.same SA) (by omega) nl eA (B6A _ _ n0 (B46 _ _ n0 e3)) (B6A _ _ n1 e6) (SA _ _ e9) pl sl gl
theorem All2.app {α β:Type}{R:α->β->Prop}{as cs:List α}{bs ds:List β}(x:All2 R as bs)(y:All2 R cs ds):All2 R (as++cs) (bs++ds):=by
 induction x with
 | nil=>exact y
 | cons h _ ih=>exact .cons h ih
def zsnb:Sp:=λvs H Q _=>Ex5 λtv (t:Tab) (np nc:Nat) (n:Int)=>vs=[tv,.int n]∧TabT H tv t∧TOk np nc t∧∀(b:Bool) H',Same H H'->(b=true->n∉t.lying++t.heap)->Q (.bl b) H'
theorem zvr (T:Tx K mg):FnOk P w K mg base CX0 2 T.zed.f T.zed.d zyi zsnb:=by
 refine T.zed.ok zrk ?_;rintro f c A o s H vs Q E hr ⟨tv,t,np,nc,n,rfl,TT,TO,q⟩ X;obtain⟨a,v0,v1,v2,v3,v4,v5,v6,v7,v8,rfl,ea,TP⟩:=TT;obtain⟨b3,u3,rfl,e3,al3⟩:=id TP.p3;obtain⟨b4,u4,rfl,e4,al4⟩:=id TP.p4;have l3:=al3.len;have l4:=al4.len;have np4:=TO.np4;rw[yaa,TO.decks] at l3;rw[yaa,TO.hands] at l4;have alp:All2 (T1 H) ([v5,v6]++u3++u4) ((t.lying::t.heap::(t.decks++t.hands)).map iM):=by
  have z:All2 (T1 H) (u3++u4) ((t.decks++t.hands).map iM):=by rw[yua];exact All2.app al3 al4
  exact .cons TP.p5 (.cons TP.p6 z)
 refine⟨_,  (zca (zsx yqh rfl (zcg (zic zcy (zic zcy (zge (zaa (zya ztb (pv 0) zfa (λ_ _=>rfl)) (zaa (zya ztb (pv 0) zfa (λ_ _=>rfl)) zba))) (zza zbl rfl T.zul ypm (zaa (zya ztb (pv 0) zfa (λ_ _=>rfl)) zba))) (zza zbl rfl T.zul ypm (zaa (zya ztb (pv 0) zfa (λ_ _=>rfl)) zba)))) (zkb (i:=2) zrk.nd rfl (.inl rfl))
   (zda (zub (zma zie (pv 1) (pv 2) rfl)
    (zda (zua zwx))
    zqa)))
  (zda (zua zwx))),?_⟩
 refine⟨_,rfl,a,_,_,_,rfl,rfl,SqT.of ea,zsa (j:=5) rfl,_,rfl,a,_,_,_,rfl,rfl,SqT.of ea,zsa (j:=6) rfl,sz2,λl1 hl1=>?_⟩;refine laid hl1 λH1 S1 f1=>?_;refine⟨_,rfl,a,_,_,_,rfl,rfl,SqT.of (S1 _ _ ea),zsa (j:=3) rfl,b3,_,rfl,.inr (SqT.of (S1 _ _ e3)),λl2 hl2=>?_⟩;refine laid hl2 λH2 S2 f2=>?_;refine⟨l1,l2,_,_,rfl,rfl,S2 _ _ f1,f2,small (by show 2+u3.length≤1000;omega),λl3' hl3=>?_⟩;refine laid hl3 λH3 S3 f3=>?_;have S03:=S1.trans (S2.trans S3);refine⟨_,rfl,a,_,_,_,rfl,rfl,SqT.of (S03 _ _ ea),zsa (j:=4) rfl,b4,_,rfl,.inr (SqT.of (S03 _ _ e4)),λl4' hl4=>?_⟩;refine laid hl4 λH4 S4 f4=>?_;refine⟨l3',l4',_,_,rfl,rfl,S4 _ _ f3,f4,small (by rw[yfa];show 2+u3.length+u4.length≤1000;omega),λl5 hl5=>?_⟩;refine laid hl5 λH5 S5 f5=>?_;have S05:=S03.trans (S4.trans S5);have f5':H5 l5=some (.lst ([v5,v6]++u3++u4)):=f5;refine⟨l5,rfl,⟨_,SqL.of f5'⟩,?_⟩;refine zvlb (xs:=[v5,v6]++u3++u4) (λi σ H'=>∃o2:Option V,σ=[some (.ref a),some (.int n),o2]∧Same H5 H'∧(1≤i->n∉t.lying)∧(2≤i->n∉t.heap)) ⟨_,rfl,Same.refl _,λz=>by omega,λz=>by omega⟩ (λi σ H' _ ⟨_,_,S,_⟩=>SqL.of (S _ _ f5')) ?_ ?_
 ·rintro i v σ H' hv ⟨o2,rfl,S,g1,g2⟩;obtain⟨xs,hx,b,rfl,eb⟩:=alp.get hv;rw[yna] at hx;obtain⟨ds,hds,rfl⟩:=yxc.mp hx;have S0:=S05.trans S;refine⟨_,rfl,_,rfl,b,_,rfl,.inr (SqT.of (S0 _ _ eb)),rfl,zwk _,_,rfl,ite2 (λc=>?_) (λc=>?_)⟩
  ·exact q false H' S0 (λz=>by cases z)
  ·rw[inI] at c;have c':n∉ds:=λz=>c (decide_eq_true z);refine⟨_,rfl,S,λ_=>?_,λ_=>?_⟩
   ·match i,hds with
    | 0,hds=>cases hds;exact c'
    | i+1,_=>exact g1 (by omega)
   ·match i,hds with
    | 0,_=>omega
    | 1,hds=>cases hds;exact c'
    | i+2,_=>exact g2 (by omega)
 ·rintro σ H' ⟨o2,rfl,S,g1,g2⟩;refine q true H' (S05.trans S) λ_ z=>?_;have ln:([v5,v6]++u3++u4).length=2+u3.length+u4.length:=by simp;omega
  rcases ysb.mp z with y|y
  ·exact g1 (by omega) y
  ·exact g2 (by omega) y
inductive HX (np nc:Nat)(t:Tab):Str->Int->V->Prop where
 | pl {kd:Str} {p:Nat} {z:Int}:kd∈zvb->p<np->0≤z->HX np nc t kd (-1-(p:Int)) (.int z)
 | come {n:Int}:0≤n->n<nc->n∉t.lying++t.heap->HX np nc t "come" n (.int 0)
 | leave {n:Int}:0≤n->n<nc->HX np nc t "leave" n (.int 0)
 | hurt {n z:Int}:0≤n->n<nc->HX np nc t "hurt" n (.int z)
 | mark {kd u:Str} {n:Int}:kd∈(["gain","lack"]:List Str)->0≤n->n<nc->HX np nc t kd n (.str u)
theorem HX.a {np nc:Nat}{t:Tab}{kd:Str}{th:Int}{av:V}(h:HX np nc t kd th av)(ok:TOk np nc t)(nd:(t.lying++t.heap).Nodup)(mks:∀m∈t.marks,m.length≤14):HpA np nc t kd th av:=by
 cases h with
 | @pl kd p z hk hp hz=>exact⟨ok,by omega,by omega,λ_=>⟨hk,z,rfl,hz⟩,λw=>by omega,nd,mks⟩
 | come a b _=>exact⟨ok,by omega,b,λw=>by omega,λ_=>.inl rfl,nd,mks⟩
 | leave a b=>exact⟨ok,by omega,b,λw=>by omega,λ_=>.inr (.inl rfl),nd,mks⟩
 | hurt a b=>exact⟨ok,by omega,b,λw=>by omega,λ_=>.inr (.inr (.inl ⟨rfl,_,rfl⟩)),nd,mks⟩
 | @mark kd u n hk a b=>exact⟨ok,by omega,b,λw=>by omega,λ_=>.inr (.inr (.inr ⟨by simpa using hk,u,rfl⟩)),nd,mks⟩
def eight:List Str:=["come","leave","hurt","gain","lack","lose","score","draw"]
theorem e_pl:∀kd∈eight,inV (.str kd) [.str "lose",.str "score",.str "draw"]=decide (kd∈zvb):=by decide +kernel
theorem e_cl:∀kd∈eight,inV (.str kd) [.str "come",.str "leave"]=decide (kd∈(["come","leave"]:List Str)):=by decide +kernel
theorem e_gl:∀kd∈eight,inV (.str kd) [.str "gain",.str "lack"]=decide (kd∈(["gain","lack"]:List Str)):=by decide +kernel
theorem zosb:∀kd∈eight,kd∉zvb->kd∉(["come","leave"]:List Str)->kd∉(["gain","lack"]:List Str)->kd = "hurt":=by decide +kernel
def zunb (K:yda):Sp:=λvs H Q _=>Ex10 λp nl cl tv (k:Int) (ns:List Str) cvs (t:Tab) (np nc:Nat)=>vs=[.ref p,.ref nl,.ref cl,.int (np:Int),tv]∧Tk K H p k∧k≤700000∧N4 H nl ns∧H cl=some (.lst cvs)∧cl≠p∧cvs.length=nc∧1≤nc∧nc≤7∧TabT H tv t∧TOk np nc t∧1≤np∧(∀n∈t.lying,0≤n∧n<nc) ∧
 ∀ha (kd:Str) (th:Int) av (k':Int) H',But p H H'->Tk K H' p k'->k'≤k+8->H' ha=some (.tup [.str kd,.int th,av])->HX np nc t kd th av->Q (.ref ha) H'
theorem zlo (T:Tx K mg):FnOk P w K mg base CX0 4 T.zsc.f T.zsc.d zih (zunb K):=by
 refine T.zsc.ok zdc ?_;rintro f c A o s H vs Q E hr ⟨p,nl,cl,tv,k,ns,cvs,t,np,nc,rfl,TT,hk,N0,ec,ncp,cvl,nc1,nc7,TB,TO,np1,lyb,q⟩ X;have TB0:=TB;obtain⟨a,v0,v1,v2,v3,v4,v5,v6,v7,v8,rfl,ea,TP⟩:=TB;obtain⟨b5,rfl,e5⟩:=TP.p5;have ly16:=TO.ly;refine⟨_,  (zca (zta (i:=5) zdc.nd rfl (.inl rfl) (zya zwa (zge (zaa zoa (zaa zoa (zaa zoa (zaa zoa (zaa zoa (zaa zoa (zaa zoa (zaa zoa zba))))))))) (zga (zna T) hr rfl T.zea.m T.zea.F.kp (zra T) .nil zpa (zaa (pv 0) (zaa zfa zba))) (λ_ _=>rfl)))
  (zca (zta (i:=6) zdc.nd rfl (.inl rfl) (zga (zna T) hr rfl T.zea.m T.zea.F.kp (zra T) .nil zpa (zaa (pv 0) (zaa zfa zba))))
  (zca (zub (zma zad (zga (zna T) hr rfl T.zea.m T.zea.F.kp (zra T) .nil zpa (zaa (pv 0) (zaa zfa zba))) zfa (zeb _))
   (zda (zta (i:=6) zdc.nd rfl (.inl rfl) (zic zxf (zic zxqb zfa zfa) (pv 6))))
   zqa)
  (zca (zub (zma zie (pv 5) (zyc (zaa zoa (zaa zoa (zaa zoa zba)))) rfl)
   (zda (zua (zyc (zaa (pv 5) (zaa (zic zyl (zghb zex zfa) (zga (zna T) hr rfl T.zea.m T.zea.F.kp (zra T) .nil zpa (zaa (pv 0) (zaa (pv 3) zba)))) (zaa (pv 6) zba))))))
   zqa)
  (zca (zta (i:=7) zdc.nd rfl (.inl rfl) (zga (zna T) hr rfl T.zea.m T.zea.F.kp (zra T) .nil zpa (zaa (pv 0) (zaa (zva zmb rfl T.zyg yyb (zaa (pv 2) zba)) zba))))
  (zca (zub (PW.pt (zahb (zma zzkb (zga (zna T) hr rfl T.zea.m T.zea.F.kp (zra T) .nil zpa (zaa (pv 0) (zaa zfa zba))) zfa (zeb _)) (zyab (zma (zihb hr.units) (zya ztb (pv 4) zfa (λ_ _=>rfl)) (zyc zba) (zeb _)))))
   (zda (zta (i:=7) zdc.nd rfl (.inl rfl) (zya ztb (zya ztb (pv 4) zfa (λ_ _=>rfl)) (zga (zna T) hr rfl T.zea.m T.zea.F.kp (zra T) .nil zpa (zaa (pv 0) (zaa (zva zmb rfl T.zyg yyb (zaa (zya ztb (pv 4) zfa (λ_ _=>rfl)) zba)) zba))) (λ_ _=>rfl))))
   zqa)
  (zca (zwi (i:=8) zdc.nd rfl (.inl rfl) (own:=["_law_number"]) (cap:=["_law_table_here"]) rfl (znb.chk rfl rfl) (.cons (j:=4) rfl (.inl rfl) (.inl rfl) .nil) (zrd rfl T.zpe (zaa (zva zmb rfl T.zyg yyb (zaa (pv 2) zba)) zba)) (λ_ _ _ _=>(zkb (i:=0) (show ylc (["_law_number","_law_table_here"]:List Str) by decide +kernel) rfl (.inl rfl))) (λ_ _ _ _=>zio (zof (zga (zvr T).up hr rfl T.zed.m T.zed.F.kp (zlt T) .nil zpa (zaa (pv 1) (zaa (pv 0) zba))))) (λ_ _ _ _=>by exact (pv 0)))
  (zca (zub (PW.pt (zahb (zma zad (pv 5) zoa (zeb _)) (zyab (zma (zihb hr.units) (pv 8) (zge zba) (zeb _)))))
   (zda (zua (zyc (zaa (pv 5) (zaa (zya zwa (pv 8) (zga (zna T) hr rfl T.zea.m T.zea.F.kp (zra T) .nil zpa (zaa (pv 0) (zaa (zva zmb rfl T.zyg yyb (zaa (pv 8) zba)) zba))) (λ_ _=>rfl)) (zaa zfa zba))))))
   zqa)
  (zca (zub (zma zie (pv 5) (zyc (zaa zoa (zaa zoa zba))) rfl)
   (zda (zua (zyc (zaa zoa (zaa (pv 7) (zaa zfa zba))))))
   zqa)
  (zca (zub (zma zie (pv 5) (zyc (zaa zoa (zaa zoa zba))) rfl)
   (zda (zta (i:=6) zdc.nd rfl (.inl rfl) (zya zwa (pv 1) (zga (zna T) hr rfl T.zea.m T.zea.F.kp (zra T) .nil zpa (zaa (pv 0) (zaa zfa zba))) (λ_ _=>rfl))))
   zqa)
  (zda (zua (zyc (zaa (pv 5) (zaa (pv 7) (zaa (pv 6) zba)))))))))))))))),?_⟩
 refine⟨sz8,λl1 hl1=>?_⟩;refine laid hl1 λH1 S1 e1=>?_;have T1':=TT.same S1;have n1:l1≠p:=yqd (TT.ne hl1);refine⟨_,rfl,p,k,8,rfl,T1',by omega,by decide,λr H2 r0 r1 B2 T2=>?_⟩;obtain⟨kd,hkd,hm⟩:=zbcb (ss:=eight) r0 r1;refine⟨l1,_,_,_,rfl,rfl,SqL.of (B2 _ _ n1 e1),hkd,?_⟩;have B02:But p H H2:=(But.same S1).trans B2;refine⟨_,rfl,p,k+1,6,rfl,T2,by omega,by decide,λa0 H3 a1 a2 B3 T3=>?_⟩;refine⟨_,rfl,p,k+1+1,5,rfl,T3,by omega,by decide,λs0 H4 s1 s2 B4 T4=>⟨rfl,_,rfl,?_⟩⟩;have B04:=B02.trans (B3.trans B4);refine' zxu (pre:=λv Hs=>Hs=H4∧∃z:Int,v=V.int z∧0≤z) (λkk=>?g1) ?k1
 case g1 =>
  refine ite2 (λc=>?_) (λc=>?_)
  ·refine⟨_,_,rfl,rfl,⟨by decide,by decide,by decide⟩,_,rfl,_,_,rfl,rfl,?_⟩;have p50:(0:Int)≤10 ^ (59:Int).toNat:=(by decide);dsimp only;generalize (10:Int) ^ (59:Int).toNat=t50 at p50 ⊢;obtain⟨v4,hv4⟩:∃v,v=V.int (t50+a0):=⟨_,rfl⟩;obtain⟨Hz,hz⟩:∃h,h=H4:=⟨_,rfl⟩;rw[← hv4,← hz];exact kk v4 Hz ⟨hz,_,hv4,by omega⟩
  ·exact kk (.int a0) H4 ⟨rfl,a0,rfl,a1⟩
 case k1 =>
 rintro _ _ ⟨rfl,z,rfl,z0⟩;refine⟨_,rfl,sz3,λq1 hq1=>?_⟩;refine laid hq1 λH5 S5 e5'=>?_;refine⟨q1,_,rfl,.inr (SqT.of e5'),rfl,rfl,_,rfl,?_⟩;rw[e_pl kd hm];have T5:=T4.same S5;have B05:=B04.trans (But.same S5);have K05:=Kp.but TT B05;refine ite2 (λc=>?_) (λc=>?_)
 ·have c':=of_decide_eq_true c;refine⟨_,rfl,_,rfl,_,rfl,_,rfl,p,k+1+1+1,(np:Int),rfl,T5,by omega,by omega,λt0 H6 t1 t2 B6 T6=>⟨_,_,rfl,rfl,_,rfl,sz3,λha hha=>?_⟩⟩;refine laid hha λH7 S7 e7'=>?_;obtain⟨pp,rfl⟩:∃pp:Nat,t0=(pp:Int):=⟨t0.toNat,by omega⟩;have B07:=B05.trans (B6.trans (But.same S7));exact q ha kd (-1-(pp:Int)) (.int z) _ H7 B07 (T6.same S7) (by omega) e7' (.pl c' (by omega) z0)
 have np':kd∉zvb:=λz=>c (decide_eq_true z);refine⟨_,rfl,_,rfl,cl,_,rfl,.inl (SqL.of (B05 _ _ ncp ec)),p,_,(nc:Int),(by rw[← cvl];rfl),T5,by omega,by omega,λth0 H7 h0 h1 B7 T7=>?_⟩;have B07:=B05.trans B7;have K07:=Kp.but TT B07;refine⟨_,rfl,p,_,4,rfl,T7,by omega,by decide,λw0 H8 w1 w2 B8 T8=>⟨_,_,rfl,rfl,_,rfl,?_⟩⟩;have B08:=B07.trans B8;have K08:=Kp.but TT B08;have lly:((iM t.lying).length:Int)=(t.lying.length:Int):=by unfold iM;rw[yaa]
 refine' zxu (pre:=λv Hs=>But p H Hs∧(∃k',Tk K Hs p k'∧k'≤k+6)∧∃n:Int,v = .int n∧0≤n∧n<nc) (λkk=>?g3) ?k3
 case g3 =>
  refine ite2 (λc1=>?_) (λc1=>?b1)
  ·refine⟨_,rfl,a,_,_,_,rfl,rfl,SqT.of (K08.t ea),zsa (j:=5) rfl,sz0,λem hem=>?_⟩;refine laid hem λH9 S9 e9=>?_;have B09:=B08.trans (But.same S9);have K09:=Kp.but TT B09;have T9:=T8.same S9;refine⟨chD t.lying,chD [],.tup (SqT.of (K09.t e5)) (znbb _),.tup (SqT.of e9) .nil,zkz _,zkz _,_,rfl,?_⟩;rw[zmsb];refine ite2 (λc2=>?a2) (λc2=>?b2)
   case a2 =>
    have on:t.lying≠[]:=by
     intro z;rw[z] at c2;cases c2
    have ol1:1≤t.lying.length:=ygp.mpr on;refine⟨_,rfl,a,_,_,_,rfl,rfl,SqT.of (K09.t ea),zsa (j:=5) rfl,_,rfl,_,rfl,a,_,_,_,rfl,rfl,SqT.of (K09.t ea),zsa (j:=5) rfl,b5,_,rfl,.inr (SqT.of (K09.t e5)),p,_,(t.lying.length:Int),(by rw[← lly];rfl),T9,by omega,by omega,λr2 H10 x0 x1 B10 T10=>?_⟩;obtain⟨n,hn,hmn⟩:=zbnb (ns:=t.lying) x0 x1;have B010:=B09.trans B10;refine⟨b5,_,_,_,rfl,rfl,SqT.of ((Kp.but TT B010).t e5),hn,?_⟩;obtain⟨v4,hv4⟩:∃v,v=V.int n:=⟨_,rfl⟩;rw[← hv4];exact kk v4 H10 ⟨B010,⟨_,T10,by omega⟩,n,hv4,(lyb n hmn).1,(lyb n hmn).2⟩
   case b2=>exact kk (.int th0) H9 ⟨B09,⟨_,T9,by omega⟩,th0,rfl,h0,h1⟩
  case b1=>exact iteF (kk (.int th0) H8 ⟨B08,⟨_,T8,by omega⟩,th0,rfl,h0,h1⟩)
 case k3 =>
 rintro _ H9 ⟨B09,⟨k9,T9,hk9⟩,n,rfl,n0,n1'⟩;have TB9:=TB0.kp (Kp.but TT B09);refine⟨_,rfl,cl,_,rfl,.inl (SqL.of (B09 _ _ ncp ec)),(nc:Int),(by rw[← cvl]),by omega,by omega,?_⟩;rw[yib];refine ztd (λj ys Hy=>∃zs:List Int,ys=iM zs∧zs.length≤j∧j≤nc∧Same H9 Hy∧∀x∈zs,0≤x∧x<nc∧x∉t.lying++t.heap) ⟨[],rfl,yja _,ytb _,Same.refl _,λ_ h=>nomatch h⟩ ?_ ?_ ?_
 ·rintro j ys Hy ⟨zs,rfl,zl,hj,_⟩;unfold iM;rw[yaa];exact small (by omega)
 ·rintro j ys Hy hj ⟨zs,rfl,zl,_,S,hz⟩;refine⟨rfl,_,rfl,_,rfl,.ref a,t,np,nc,0+(j:Int),rfl,TB9.kp (Kp.same S),TO,λb H' S' hb=>⟨_,rfl,ite2 (λc=>?_) (λc=>?_)⟩⟩
  ·refine⟨_,rfl,zs++[0+(j:Int)],by unfold iM;rw[yua];rfl,by rw[yfa,yub];omega,hj,S.trans S',λx hx=>?_⟩
   rcases ysb.mp hx with y|y
   ·exact hz x y
   ·rw[yia.mp y];exact⟨by omega,by omega,hb c⟩
  ·exact⟨zs,rfl,by omega,hj,S.trans S',hz⟩
 rintro ys Ha ⟨zs,rfl,zl,_,Sa,hz⟩ fl hfl;refine laid hfl λHb Sb efl=>?_;have S9b:=Sa.trans Sb;have B0b:=B09.trans (But.same S9b);have Tb:=T9.same S9b;have nfl:fl≠p:=yqd ((T9.same Sa).ne hfl);refine⟨_,rfl,rfl,_,rfl,?_⟩;refine' zumb (pre:=λHs=>Same Hb Hs) (λkk=>?g2) ?k2
 case g2 =>
  refine ite2 (λc1=>?_) (λc1=>iteF (kk Hb (Same.refl _)));have c1':=of_decide_eq_true c1;injection c1' with c1'
  refine⟨_,rfl,sz0,λem hem=>?_⟩;refine laid hem λHc Sc ec'=>?_;have Tc:=Tb.same Sc;have eflc:=Sc _ _ efl;refine⟨ilD zs,ilD [],.lst (SqL.of eflc) (znbb _),.lst (SqL.of ec') .nil,zes _,zes _,_,rfl,?_⟩;rw[zlsb];refine ite2 (λc2=>?ret) (λc2=>?cont)
  case cont=>exact kk Hc Sc
  case ret =>
   have on:zs≠[]:=by
    intro z;rw[z] at c2;cases c2
   have ol1:1≤zs.length:=ygp.mpr on;have lz:((iM zs).length:Int)=(zs.length:Int):=(by unfold iM;rw[yaa]);refine⟨_,rfl,_,rfl,_,rfl,_,rfl,fl,_,rfl,.inl (SqL.of eflc),p,_,(zs.length:Int),(by rw[← lz];rfl),Tc,by omega,by omega,λr2 Hd x0 x1 Bd Td=>?_⟩;obtain⟨m,hm',hmm⟩:=zbnb (ns:=zs) x0 x1;refine⟨fl,_,_,_,rfl,rfl,SqL.of (Bd _ _ nfl eflc),hm',sz3,λha hha=>?_⟩;refine laid hha λHe Se eh=>?_;have Bf:=B0b.trans ((But.same Sc).trans (Bd.trans (But.same Se)));obtain⟨m0,m1,m2⟩:=hz m hmm;exact q ha kd m (.int 0) _ He Bf (Td.same Se) (by omega) eh (by rw[c1'];exact .come m0 m1 m2)
 case k2 =>
 rintro Hc Sc;have Tc:=Tb.same Sc;have B0c:=B0b.trans (But.same Sc);refine⟨_,rfl,sz2,λq2 hq2=>?_⟩;refine laid hq2 λH10 S10 e10=>?_;refine⟨q2,_,rfl,.inr (SqT.of e10),rfl,rfl,_,rfl,?_⟩;rw[e_cl kd hm];have B010:=B0c.trans (But.same S10);have T10:=Tc.same S10;refine ite2 (λc2=>?_) (λc2=>?_)
 ·refine⟨_,rfl,sz3,λha hha=>?_⟩;refine laid hha λH11 S11 e11=>?_;have B011:=B010.trans (But.same S11);exact q ha "leave" n (.int 0) _ H11 B011 (T10.same S11) (by omega) e11 (.leave n0 n1')
 have ncl:kd∉(["come","leave"]:List Str):=λz=>c2 (decide_eq_true z);refine⟨_,rfl,sz2,λq3 hq3=>?_⟩;refine laid hq3 λH11 S11 e11=>?_;refine⟨q3,_,rfl,.inr (SqT.of e11),rfl,rfl,_,rfl,?_⟩;rw[e_gl kd hm];have B011:=B010.trans (But.same S11);have T11:=T10.same S11;refine' zxu (pre:=λv Hs=>But p H Hs∧(∃k',Tk K Hs p k'∧k'≤k+7)∧HX np nc t kd n v) (λkk=>?g4) ?k4
 case g4 =>
  refine ite2 (λc3=>?_) (λc3=>?_)
  ·have c3':=of_decide_eq_true c3;refine⟨_,rfl,_,rfl,p,_,4,rfl,T11,by omega,by decide,λt0 H12 t1 t2 B12 T12=>?_⟩;have B012:=B011.trans B12;have N12:=N0.but TT B012;obtain⟨u,hu,hmu⟩:=zbcb (ss:=ns) t1 (by rw[N0.len];exact t2);refine⟨nl,_,_,_,rfl,rfl,SqL.of N12.at_,hu,?_⟩;obtain⟨v4,hv4⟩:∃v,v=V.str u:=⟨_,rfl⟩;rw[← hv4];exact kk v4 H12 ⟨B012,⟨_,T12,by omega⟩,by rw[hv4];exact .mark c3' n0 n1'⟩
  ·have e:=zosb kd hm np' ncl (λz=>c3 (decide_eq_true z));exact kk (.int z) H11 ⟨B011,⟨_,T11,by omega⟩,by rw[e];exact .hurt n0 n1'⟩
 case k4 =>
 rintro av H12 ⟨B012,⟨k12,T12,hk12⟩,nx⟩;refine⟨_,rfl,_,rfl,_,rfl,sz3,λha hha=>?_⟩;refine laid hha λH13 S13 e13=>?_;have B013:=B012.trans (But.same S13);exact q ha kd n av k12 H13 B013 (T12.same S13) (by omega) e13 nx
theorem zukb {X:Cx}{tg l:Expr}{tl:TE}(K:yda)(hl:PE X l tl)(hK:X.K=K:=by rfl):PI X tg l (zgsb K tl):=hK▸zcg hl
structure IT (np nc:Nat)(t:Tab)(i:Nat):Prop where
 pts:t.pts.length=np
 scs:t.scs.length=np
 gone:t.gone.length=np
 decks:t.decks.length=np
 hands:t.hands.length=np
 marks:t.marks.length=nc
 wnds:t.wnds.length=nc
 np4:np≤4
 nc7:nc≤7
 dh:∀p:Nat,(t.decks.getD p []).length+(t.hands.getD p []).length≤14
 nd:(t.lying++t.heap).Nodup
 rng:∀n∈t.lying,0≤n∧n<nc
 lh:t.lying.length+t.heap.length≤7+i
 mks:∀m∈t.marks,m.length≤4+i
theorem mem_getD {α:Type}{xss:List (List α)}{d:List α}(h:d∈xss):∃p:Nat,xss.getD p []=d:=by
 obtain⟨p,hp⟩:=ynd h;exact⟨p,by rw[yxa,hp];rfl⟩
theorem IT.ok {np nc:Nat}{t:Tab}{i:Nat}(h:IT np nc t i)(hi:i≤9):TOk np nc t:=by
 have a:=h.lh;have b:=h.nc7;refine⟨h.pts,h.scs,h.gone,h.decks,h.hands,h.marks,h.wnds,by omega,by omega,λm hm=>by have:=h.mks m hm;omega,λd hd=>?_,λd hd=>?_,h.np4,by omega⟩
 ·obtain⟨p,rfl⟩:=mem_getD hd;have:=h.dh p;omega
 ·obtain⟨p,rfl⟩:=mem_getD hd;have:=h.dh p;omega
def zqnb (K:yda):Sp:=λvs H Q _=>Ex11 λp nl cl ol (k:Int) (np nc:Nat) (ns:List Str) cvs (cs:List Crd) (os:List Int)=>vs=[.ref p,.ref nl,.ref cl,.ref ol,.int (np:Int)]∧Tk K H p k∧k≤600000∧N4 H nl ns∧H cl=some (.lst cvs)∧All2 (CT H) cvs cs∧cs.length=nc∧nc≤7∧H ol=some (.lst (iM os))∧os.length=nc∧(∀o∈os,0≤o∧o<np)∧2≤np∧np≤4∧cl≠p∧ol≠p ∧
 ∀v (t:Tab) (k':Int) H',But p H H'->Tk K H' p k'->k'≤k+100->TabT H' v t->IT np nc t 0->Q v H'
theorem zqdb {α:Type}(xs:List α)(x:α)(i:Nat):(xs.take i++x::xs.drop i).Perm (x::xs):=by
 have h:(xs.take i++x::xs.drop i).Perm (x::(xs.take i++xs.drop i)):=yer;rw[List.take_append_drop] at h;exact h
theorem zlq {α:Type}{xss:List (List α)}{o:Nat}{ys:List α}(h:o<xss.length)(p:Nat):(xss.set o ys).getD p []=if p=o then ys else xss.getD p []:=by
 rw[yxa,yxa]
 split
 ·rename_i e;subst e;rw[yoe h];rfl
 ·rename_i e;rw[ymg (λz=>e z.symm)]
def zdf (ds hs:List (List Int))(ly hp:List Int)(us:List V)(ws:List Int):List (List V):=ds.map iM++(hs.map iM++[iM ly,iM hp,us,iM ws])
section
variable {ds hs:List (List Int)}{ly hp ws:List Int}{us:List V}{np:Nat}
theorem zrab (h:ds.length=np){o:Nat}{d:List Int}(hd:ds[o]?=some d):(zdf ds hs ly hp us ws)[o]?=some (iM d):=by
 unfold zdf;rw[ywb (by rw[yaa];exact (yha.mp hd).1),yna,hd];rfl
theorem zfgb (h:ds.length=np){o:Nat}{d:List Int}(hd:hs[o]?=some d):(zdf ds hs ly hp us ws)[np+o]?=some (iM d):=by
 unfold zdf;rw[yab (by rw[yaa];omega),yaa,h,yjf,ywb (by rw[yaa];exact (yha.mp hd).1),yna,hd];rfl
theorem zpj (h:ds.length=np)(h2:hs.length=np)(j:Nat):(zdf ds hs ly hp us ws)[np+np+j]?=[iM ly,iM hp,us,iM ws][j]?:=by
 unfold zdf;rw[yab (by rw[yaa];omega),yaa,yab (by rw[yaa];omega),yaa,h,h2]
 congr 1
 omega
theorem zinb {o:Nat}(h:o<ds.length)(d:List Int):(zdf ds hs ly hp us ws).set o (iM d)=zdf (ds.set o d) hs ly hp us ws:=by
 unfold zdf;rw[yso _ _ (by rw[yaa];exact h),ykc]
theorem zgnb (h:ds.length=np){o:Nat}(h2:o<hs.length)(d:List Int):(zdf ds hs ly hp us ws).set (np+o) (iM d)=zdf ds (hs.set o d) ly hp us ws:=by
 unfold zdf;rw[yxj _ _ (by rw[yaa];omega),yaa,h,yjf,yso _ _ (by rw[yaa];exact h2),ykc]
theorem zwu (h:ds.length=np)(h2:hs.length=np)(j:Nat)(x:List V):(zdf ds hs ly hp us ws).set (np+np+j) x=ds.map iM++(hs.map iM++[iM ly,iM hp,us,iM ws].set j x):=by
 unfold zdf;rw[yxj _ _ (by rw[yaa];omega),yaa,yxj _ _ (by rw[yaa];omega),yaa,h,h2]
 congr 3
 omega
end
def FarP (p:Addr)(as:List Addr)(H H':Hp):Prop:=∀b o,b≠p->b∉as->H b=some o->H' b=some o
theorem FarP.but {p:Addr}{as:List Addr}{H H1 H2:Hp}(x:FarP p as H H1)(b:But p H1 H2):FarP p as H H2:=λc o n m h=>b c o n (x c o n m h)
theorem FarP.same {p:Addr}{as:List Addr}{H H1 H2:Hp}(x:FarP p as H H1)(s:Same H1 H2):FarP p as H H2:=λc o n m h=>s c o (x c o n m h)
theorem FarP.put {p:Addr}{as:List Addr}{H H1:Hp}(x:FarP p as H H1){j:Nat}{a:Addr}(ha:as[j]?=some a)(o:HO):FarP p as H (upd H1 a o):=λc u n m h=>by
 rw[zlb λz=>m (by rw[z];exact ypa ha)];exact x c u n m h
theorem FarP.kp {K:yda}{p:Addr}{k:Int}{as:List Addr}{xss:List (List V)}{H H':Hp}(t:Tk K H p k)(r:Rw H as xss)(x:FarP p as H H'):Kp H H':=λc o n h=>by
 obtain⟨e,ep⟩:=t.two;refine x c o (λz=>?_) (λz=>?_) h
 ·rw[z,ep] at h;injection h with h
  exact n _ h.symm
 ·obtain⟨j,hj⟩:=ynd z;obtain⟨zs,hz⟩:=getx (xs:=xss) (i:=j) (by rw[← r.1];exact (yha.mp hj).1);rw[r.2 j c zs hj hz] at h;injection h with h
  exact n _ h.symm
theorem Rw.but {p:Addr}{as:List Addr}{xss:List (List V)}{H H':Hp}(r:Rw H as xss)(n:p∉as)(b:But p H H'):Rw H' as xss:=⟨r.1,λj a xs h1 h2=>b _ _ (λz=>n (by rw[← z];exact ypa h1)) (r.2 j a xs h1 h2)⟩
structure LT (np nc i:Nat)(ds hs:List (List Int))(ly he:List Int)(ms:List (List Str))(ws:List Int):Prop where
 d:ds.length=np
 h:hs.length=np
 m:ms.length=nc
 w:ws.length=nc
 dh:∀p:Nat,(ds.getD p []).length+(hs.getD p []).length≤i
 nd:(ly++he).Nodup
 rng:∀n∈ly++he,0≤n∧n<(i:Int)
 lh:ly.length+he.length≤i
 mks:∀m∈ms,m.length≤4
theorem LT.up {np nc i:Nat}{ds hs:List (List Int)}{ly he:List Int}{ms:List (List Str)}{ws:List Int}(h:LT np nc i ds hs ly he ms ws):LT np nc (i+1) ds hs ly he ms ws :=
 ⟨h.d,h.h,h.m,h.w,λp=>yrf (h.dh p),h.nd,λn hn=>⟨(h.rng n hn).1,by have:=(h.rng n hn).2;omega⟩,yrf h.lh,h.mks⟩
theorem ztmb (d:List Int)(x:Nat)(n:Int):(iM d).take x++V.int n::(iM d).drop x=iM (d.take x++n::d.drop x):=by
 unfold iM;rw[yua,yob,ygk,yhk]
theorem zpv (T:Tx K mg):FnOk P w K mg base CX0 5 T.zae.f T.zae.d zil (zqnb K):=by
 refine T.zae.ok zyb ?_;rintro f c A o s H vs Q E hr ⟨p,nl,cl,ol,k,np,nc,ns,cvs,cs,os,rfl,T0,hk,N0,ec,alc,csl,c7,eo,osl,orng,n2,n4,ncp,nop,q⟩ X;refine⟨_,  (zca (zta (i:=5) zyb.nd rfl (.inl rfl) (zga (zrv T) hr rfl T.zce.m T.zce.F.kp (zbab T) .nil zpa (zaa (pv 0) (zaa (pv 4) zba))))
  (zca (zwi (i:=6) zyb.nd rfl (.inl rfl) (own:=["_law_k"]) (cap:=[]) rfl (znb.chk rfl rfl) .nil (zrd rfl T.zpe (zaa (pv 4) zba)) (λ_ _ _ _=>(zkb (i:=0) (show ylc (["_law_k"]:List Str) by decide +kernel) rfl (.inl rfl))) (λ_ _ _ _=>zzc) (λ_ _ _ _=>by exact (zge zba)))
  (zca (zwi (i:=7) zyb.nd rfl (.inl rfl) (own:=["_law_k"]) (cap:=[]) rfl (znb.chk rfl rfl) .nil (zrd rfl T.zpe (zaa (pv 4) zba)) (λ_ _ _ _=>(zkb (i:=0) (show ylc (["_law_k"]:List Str) by decide +kernel) rfl (.inl rfl))) (λ_ _ _ _=>zzc) (λ_ _ _ _=>by exact (zge zba)))
  (zca (zta (i:=8) zyb.nd rfl (.inl rfl) (zge zba))
  (zca (zta (i:=9) zyb.nd rfl (.inl rfl) (zge zba))
  (zca (zwi (i:=10) zyb.nd rfl (.inl rfl) (own:=["_law_card_here"]) (cap:=[]) rfl (znb.chk rfl rfl) .nil (zcg (pv 2)) (λ_ _ _ _=>(zkb (i:=0) (show ylc (["_law_card_here"]:List Str) by decide +kernel) rfl (.inl rfl))) (λ_ _ _ _=>zzc) (λ_ _ _ _=>by exact (zya (zpdb K) (pv 0) zfa (λ_ _=>rfl))))
  (zca (zwi (i:=11) zyb.nd rfl (.inl rfl) (own:=["_law_card_here"]) (cap:=[]) rfl (znb.chk rfl rfl) .nil (zcg (pv 2)) (λ_ _ _ _=>(zkb (i:=0) (show ylc (["_law_card_here"]:List Str) by decide +kernel) rfl (.inl rfl))) (λ_ _ _ _=>zzc) (λ_ _ _ _=>by exact zfa))
  (zca (zsx yqh rfl (zrd rfl T.zpe (zaa (zva zmb rfl T.zyg yyb (zaa (pv 2) zba)) zba)) (zkb (i:=12) zyb.nd rfl (.inl rfl))
   (zca (zta (i:=13) zyb.nd rfl (.inl rfl) (zya zwa (pv 3) (pv 12) (λ_ _=>rfl)))
   (zca (zta (i:=14) zyb.nd rfl (.inl rfl) (zga (zna T).up hr rfl T.zea.m T.zea.F.kp (zra T) .nil zpa (zaa (pv 0) (zaa zfa zba))))
   (zda (zub (zma zad (pv 14) zfa (zeb _))
    (zda (zfe (zdi yec yqm yrm zry (zya zwa (pv 6) (pv 13) (λ_ _=>rfl)) (zaa (zga (zna T).up hr rfl T.zea.m T.zea.F.kp (zra T) .nil zpa (zaa (pv 0) (zaa (zic zxf (zva zmb rfl T.zyg yyb (zaa (zya zwa (pv 6) (pv 13) (λ_ _=>rfl)) zba)) zfa) zba))) (zaa (pv 12) zba)))))
    (zda (zub (zma zad (pv 14) zfa (zeb _))
     (zda (zfe (zdi yec yod ypd zvh (zya zwa (pv 7) (pv 13) (λ_ _=>rfl)) (zaa (pv 12) zba))))
     (zda (zub (PW.pt (zxab (zma zad (pv 14) zfa (zeb _)) (zmr (PW.pt (zahb (zma zafb (pv 14) zfa (zeb _)) (zyab (zof (zya ztb (zya zwa (pv 5) zfa (λ_ _=>rfl)) (pv 13) (λ_ _=>rfl)))))))))
      (zda (zfe (zdi yec yod ypd zvh (pv 9) (zaa (pv 12) zba))))
      (zda (zub (zma zafb (pv 14) zfa (zeb _))
       (zca (zfe (zdi yec yqm yrm zry (pv 8) (zaa (zga (zna T).up hr rfl T.zea.m T.zea.F.kp (zra T) .nil zpa (zaa (pv 0) (zaa (zic zxf (zva zmb rfl T.zyg yyb (zaa (pv 8) zba)) zfa) zba))) (zaa (pv 12) zba))))
       (zca (zpg (zza zbb rfl T.zec ysc (zaa (zva zik rfl T.zgf yfi (zaa (zud (own:=["_law_name"]) (cap:=["_law_pen"]) rfl (znb.chk rfl rfl) (.cons (j:=0) rfl (.inl rfl) (.inl rfl) .nil) (zcg (pv 1)) (λ_ _ _ _=>(zkb (i:=0) (show ylc (["_law_name","_law_pen"]:List Str) by decide +kernel) rfl (.inl rfl))) (λ_ _ _ _=>zio (zma zad (zga (zna T).up hr rfl T.zea.m T.zea.F.kp (zra T) .nil zpa (zaa (pv 1) (zaa zfa zba))) zfa (zeb _))) (λ_ _ _ _=>by exact (pv 0))) zba)) zba)) (zij (pv 10) (pv 12) set_list))
       (zda (zpg (zga (zna T).up hr rfl T.zea.m T.zea.F.kp (zra T) .nil zpa (zaa (pv 0) (zaa zfa zba))) (zij (pv 11) (pv 12) set_list)))))
       zqa)))))))))))
  (zca (zwi (i:=15) zyb.nd rfl (.inl rfl) (own:=["_law_part"]) (cap:=[]) rfl (znb.chk rfl rfl) .nil (zcg (zge (zaa (pv 6) (zaa (pv 7) zba)))) (λ_ _ _ _=>(zkb (i:=0) (show ylc (["_law_part"]:List Str) by decide +kernel) rfl (.inl rfl))) (λ_ _ _ _=>zzc) (λ_ _ _ _=>by exact (zza (zlg K) rfl T.zec ysc (zaa (zud (own:=["_law_one"]) (cap:=[]) rfl (znb.chk rfl rfl) .nil (zukb K (pv 0)) (λ_ _ _ _=>(zkb (i:=0) (show ylc (["_law_one"]:List Str) by decide +kernel) rfl (.inl rfl))) (λ_ _ _ _=>zzc) (λ_ _ _ _=>by exact (zza (zlg K) rfl T.zec ysc (zaa (pv 0) zba)))) zba))))
  (zda (zua (zyc (zaa (zya zwa (pv 5) zfa (λ_ _=>rfl)) (zaa (zya zwa (pv 5) zfa (λ_ _=>rfl)) (zaa (zya zwa (pv 5) zfa (λ_ _=>rfl)) (zaa (zya zwa (pv 15) zfa (λ_ _=>rfl)) (zaa (zya zwa (pv 15) zfa (λ_ _=>rfl)) (zaa (zza zbb rfl T.zec ysc (zaa (pv 8) zba)) (zaa (zza zbb rfl T.zec ysc (zaa (pv 9) zba)) (zaa (zza zbb rfl T.zec ysc (zaa (pv 10) zba)) (zaa (zza zbb rfl T.zec ysc (zaa (pv 11) zba)) zba))))))))))))))))))))),?_⟩
 refine⟨_,rfl,_,rfl,p,k,np,rfl,T0,hk,n4,λhl b0 b1 b2 pts scs gone k1 H1 B1 TK1 hk1 nhl ehl eb0 eb1 eb2 pl scs_ gol=>?_⟩;have nhp:hl≠p:=yqd (T0.ne nhl);refine⟨_,rfl,(np:Int),rfl,by omega,by omega,?_⟩;rw[yib];refine ztd (λj ys Hy=>∃as:List Addr,ys=as.map V.ref∧as.length=j∧j≤np∧Same H1 Hy∧Rw Hy as (ypb j [])∧as.Nodup∧zoab H1 as) ⟨[],rfl,rfl,ytb _,Same.refl _,Rw.nil,yzo,λ_ h=>nomatch h⟩ ?_ ?_ ?_
 ·rintro j ys Hy ⟨as,rfl,al,hj,_⟩;rw[yaa,al];exact small (by omega)
 ·rintro j ys Hy hj ⟨as,rfl,al,_,S,R,nd,fr⟩;refine⟨rfl,sz0,λl hl'=>?_⟩;have nl:l∉as:=R.off hl';refine laid hl' λH2 S2 e2=>?_;refine⟨as++[l],by rw[yua];rfl,by rw[yfa,al];rfl,hj,S.trans S2,?_,zoh nd nl,fr.snoc (none_of S hl')⟩;rw[yek];exact (R.same S2).snoc e2
 rintro ys H2 ⟨das,rfl,dal,_,S2,R2,nd2,fr2⟩ dl hdl;refine laid hdl λH3 S3 edl=>?_;have S13:=S2.trans S3;refine⟨_,rfl,(np:Int),rfl,by omega,by omega,?_⟩;rw[yib];refine ztd (λj ys Hy=>∃as:List Addr,ys=as.map V.ref∧as.length=j∧j≤np∧Same H3 Hy∧Rw Hy (das++as) (ypb np []++ypb j [])∧(das++as).Nodup∧zoab H3 as) ⟨[],rfl,rfl,ytb _,Same.refl _,by rw[yad];show Rw H3 das (ypb np []++[]);rw[yad];exact R2.same S3,by rw[yad];exact nd2,λ_ h=>nomatch h⟩ ?_ ?_ ?_
 ·rintro j ys Hy ⟨as,rfl,al,hj,_⟩;rw[yaa,al];exact small (by omega)
 ·rintro j ys Hy hj ⟨as,rfl,al,_,S,R,nd,fr⟩;refine⟨rfl,sz0,λl hl'=>?_⟩;have nl:l∉das++as:=R.off hl';refine laid hl' λH4 S4 e4=>?_;refine⟨as++[l],by rw[yua];rfl,by rw[yfa,al];rfl,hj,S.trans S4,?_,by rw[← ydd];exact zoh nd nl,fr.snoc (none_of S hl')⟩;rw[yek,← ydd,← ydd];exact (R.same S4).snoc e4
 rintro ys H4 ⟨has,rfl,hal,_,S4,R4,nd4,fr4⟩ gl hgl;refine laid hgl λH5 S5 egl=>?_;refine⟨sz0,λly hly=>?_⟩;refine laid hly λH6 S6 ely=>?_;refine⟨sz0,λhe hhe=>?_⟩;refine laid hhe λH7 S7 ehe=>?_;have S17:=S13.trans (S4.trans (S5.trans (S6.trans S7)));have R7:=((((R4.same S5).same S6).snoc ely).same S7).snoc ehe;have nd7:=zoh (zoh nd4 ((R4.same S5).off hly)) ((((R4.same S5).same S6).snoc ely).off hhe);have ec7:H7 cl=some (.lst cvs):=S17 _ _ (B1 _ _ ncp ec);have alc7:All2 (CT H7) cvs cs:=(alc.imp λz=>z.but T0 B1).imp λz=>z.same S17;refine⟨_,rfl,cl,rfl,⟨_,SqL.of ec7⟩,?_⟩;refine zsd (xs:=cvs) (λj ys Hy=>Hy=H7∧All2 (T1 H7) ys ((cs.take j).map λc=>sM c.marks)) (λj ys Hy z=>by rw[z.1];exact SqL.of ec7) ⟨rfl,.nil⟩ ?_ ?_ ?_
 ·rintro j ys Hy ⟨_,al⟩;have:=al.len;rw[yaa,ycb] at this;exact small (by omega)
 ·rintro j v ys Hy hv ⟨rfl,al⟩;obtain⟨c,hc,lc,m,x2,x3,x4,rfl,elc,emc,_⟩:=alc7.get hv;refine⟨rfl,_,rfl,lc,_,_,_,rfl,rfl,SqL.of elc,zsa (j:=1) rfl,rfl,?_⟩;rw[yfb,hc,yfc,yua];exact All2.snoc ⟨m,rfl,emc⟩ al
 rintro us H8 ⟨rfl,alu⟩ mk hmk;rw[alc.len,yta (yja _)] at alu;refine laid hmk λH8 S8 emk=>?_;refine⟨_,rfl,cl,rfl,⟨_,SqL.of (S8 _ _ ec7)⟩,?_⟩;refine zsd (xs:=cvs) (λj ys Hy=>Hy=H8∧ys=iM (ypb j 0)∧j≤7) (λj ys Hy z=>by rw[z.1];exact SqL.of (S8 _ _ ec7)) ⟨rfl,rfl,by decide⟩ ?_ ?_ ?_
 ·rintro j ys Hy ⟨_,rfl,hj⟩;unfold iM;rw[yaa,ytd];exact small (by omega)
 ·rintro j v ys Hy hv ⟨rfl,rfl,_⟩;have jl:=(yha.mp hv).1;rw[alc.len,csl] at jl;refine⟨rfl,rfl,?_,by omega⟩;rw[yek];unfold iM;rw[yua];rfl
 rintro ys H9 ⟨rfl,rfl,_⟩ wd hwd;refine laid hwd λHB S9 ewd=>?_;rw[alc.len,csl] at ewd;have S1B:=S17.trans (S8.trans S9);have TB:=TK1.same S1B;obtain⟨as,has_⟩:∃as:List Addr,as=das++(has++[ly,he,mk,wd]):=⟨_,rfl⟩;have R9:Rw HB as (zdf (ypb np []) (ypb np []) [] [] us (ypb nc 0)):=by
  have R:=(((R7.same S8).snoc emk).same S9).snoc ewd;have e1:das++has++[ly]++[he]++[mk]++[wd]=as:=by rw[has_];simp
  have e2:ypb np ([]:List V)++ypb np []++[[]]++[[]]++[us]++[iM (ypb nc 0)]=zdf (ypb np []) (ypb np []) [] [] us (ypb nc 0):=by
   unfold zdf;rw[List.map_replicate];show ypb np ([]:List V)++ypb np []++[[]]++[[]]++[us]++[iM (ypb nc 0)]=ypb np []++(ypb np []++[[],[],us,iM (ypb nc 0)])
   simp only[ydd,ydg,yno]
  rw[e1,e2] at R;exact R
 have nd9:as.Nodup:=by
  have z:=zoh (zoh nd7 (R7.off hmk)) (((R7.same S8).snoc emk).off hwd);have e1:das++has++[ly]++[he]++[mk]++[wd]=as:=by rw[has_];simp
  rw[e1] at z;exact z
 have mem:∀{x:Addr},x∈as->x∈das∨x∈has∨x=ly∨x=he∨x=mk∨x=wd:=λ{x} h=>by
  rw[has_] at h
  simpa using h
 have S67:=S6.trans S7;have old:∀{x:Addr} {o:HO},H1 x=some o->x∉as:=λ{x o} h z=>by
  have no:H1 x≠none:=by rw[h];intro y;cases y
  rcases mem z with y|y|y|y|y|y
  ·exact no (fr2 x y)
  ·exact no (none_of S13 (fr4 x y))
  ·rw[y] at no;exact no (none_of (S13.trans (S4.trans S5)) hly)
  ·rw[y] at no;exact no (none_of (S13.trans (S4.trans (S5.trans S6))) hhe)
  ·rw[y] at no;exact no (none_of S17 hmk)
  ·rw[y] at no;exact no (none_of (S17.trans S8) hwd)
 have S3B:Same H3 HB:=S4.trans (S5.trans (S67.trans (S8.trans S9)));have S5B:Same H5 HB:=S67.trans (S8.trans S9);have late:∀{x:Addr} {o:HO},H5 x=some o->x≠ly∧x≠he∧x≠mk∧x≠wd:=λh=>⟨zka h hly,zka (S6 _ _ h) hhe,zka (S67 _ _ h) hmk,zka ((S67.trans S8) _ _ h) hwd⟩;have ndl:dl∉as:=λz=>by
  obtain⟨l1,l2,l3,l4⟩:=late ((S4.trans S5) _ _ edl)
  rcases mem z with y|y|y|y|y|y
  ·exact R2.off hdl y
  ·have:=fr4 dl y;rw[edl] at this;cases this
  ·exact l1 y
  ·exact l2 y
  ·exact l3 y
  ·exact l4 y
 have ngl:gl∉as:=λz=>by
  obtain⟨l1,l2,l3,l4⟩:=late egl;have o4:=R4.off hgl
  rcases mem z with y|y|y|y|y|y
  ·exact o4 (ylg _ y)
  ·exact o4 (yic _ y)
  ·exact l1 y
  ·exact l2 y
  ·exact l3 y
  ·exact l4 y
 have ndp:dl≠p:=yqd ((TK1.same S2).ne hdl);have ngp:gl≠p:=yqd ((TK1.same (S13.trans S4)).ne hgl);have npa:p∉as:=by
  obtain⟨e,ep⟩:=TK1.two;exact old ep
 have eolB:HB ol=some (.lst (iM os)):=S1B _ _ (B1 _ _ nop eo);have nla:nl∉as:=old (N0.but T0 B1).at_;have ola:ol∉as:=old (B1 _ _ nop eo);have hla:hl∉as:=old ehl;have NB:=(N0.but T0 B1).same S1B;have nlp:=N0.ne T0;have a_d:∀{o:Nat} {a:Addr},das[o]?=some a->as[o]?=some a:=λ{o a} h=>by
  rw[has_,ywb (yha.mp h).1];exact h
 have a_h:∀{o:Nat} {a:Addr},has[o]?=some a->as[np+o]?=some a:=λ{o a} h=>by
  rw[has_,yab (by omega),dal,yjf,ywb (yha.mp h).1];exact h
 have a_r:∀j:Nat,as[np+np+j]?=[ly,he,mk,wd][j]?:=λj=>by
  rw[has_,yab (by omega),yab (by omega)]
  congr 1
  omega
 have LT0:LT np nc 0 (ypb np []) (ypb np []) [] [] (cs.map (·.marks)) (ypb nc 0):=by
  have z:∀p:Nat,((ypb np ([]:List Int)).getD p []).length=0:=λp=>by
   rw[yxa,yoi]
   split<;>rfl
  refine⟨by rw[ytd],by rw[ytd],by rw[yaa,csl],by rw[ytd],λp=>by rw[z];omega,yzo,(λn hn=>nomatch hn),ytb _,λm hm=>?_⟩;obtain⟨c,hc,rfl⟩:=yac.mp hm;obtain⟨_,_,⟨_,_,_,_,_,_,_,_,_,h,_⟩⟩:=alc.mem2 hc;exact h
 have alu0:All2 (T1 HB) us ((cs.map (·.marks)).map sM):=by
  rw[yeo];exact T1s.kp (Kp.same (S8.trans S9)) alu
 refine⟨_,rfl,cl,_,rfl,.inl (SqL.of ((S8.trans S9) _ _ ec7)),(nc:Int),(by rw[← csl,← alc.len]),by omega,by omega,?_⟩;rw[yib];refine zez (lo:=0) (n:=nc) (λi σ Hx=>Ex12 λds hs (lyi hei:List Int) us (ms:List (List Str)) (ws:List Int) (k':Int) o12 o13 o14 o15=>σ=[some (.ref p),some (.ref nl),some (.ref cl),some (.ref ol),some (.int (np:Int)),some (.ref hl),some (.ref dl),some (.ref gl),some (.ref ly),some (.ref he),some (.ref mk),some (.ref wd),o12,o13,o14,o15]∧Rw Hx as (zdf ds hs lyi hei us ws)∧All2 (T1 Hx) us (ms.map sM)∧FarP p as HB Hx∧Tk K Hx p k'∧k'≤k1+7*(i:Int)∧LT np nc i ds hs lyi hei ms ws) ⟨_,_,_,_,_,_,_,_,_,_,_,_,rfl,R9,alu0,(λ_ _ _ _ h=>h),TB,by omega,LT0⟩ ?_ ?_
 ·rintro i σ Hx hi ⟨ds,hs,lyi,hei,us,ms,ws,k',o12,o13,o14,o15,rfl,R,AM,F,TX,hk',L⟩;obtain⟨o0,ho0⟩:=getx (xs:=os) (i:=i) (by rw[osl];exact hi);obtain⟨oz,oy⟩:=orng o0 (ypa ho0);obtain⟨o,hoo⟩:∃o:Nat,o0=(o:Int):=⟨o0.toNat,by omega⟩;have on:o<np:=by omega
  have zi:(0:Int)+(i:Int)=(i:Int):=by omega
  refine⟨_,rfl,_,rfl,ol,_,_,_,rfl,rfl,SqL.of (F _ _ nop ola eolB),(by rw[zi];exact zmj ho0),?_⟩;rw[hoo];refine⟨_,rfl,p,k',8,rfl,TX,by omega,by decide,λw0 Ha w1 w2 Ba Ta=>?_⟩;have Ra:=R.but npa Ba;have Fa:=F.but Ba;have AMa:=T1s.kp (Kp.but TX Ba) AM;obtain⟨da,hda⟩:=getx (xs:=das) (i:=o) (by rw[dal];exact on);obtain⟨ga,hga⟩:=getx (xs:=has) (i:=o) (by rw[hal];exact on);obtain⟨d,hd⟩:=getx (xs:=ds) (i:=o) (by rw[L.d];exact on);obtain⟨h,hh⟩:=getx (xs:=hs) (i:=o) (by rw[L.h];exact on);have eda:=Ra.2 o da _ (a_d hda) (zrab L.d hd);have ega:=Ra.2 (np+o) ga _ (a_h hga) (zfgb L.d hh);have ely':=Ra.2 (np+np+0) ly _ (a_r 0) ((zpj L.d L.h 0).trans rfl);have ehe':=Ra.2 (np+np+1) he _ (a_r 1) ((zpj L.d L.h 1).trans rfl);have dg:ds.getD o []=d:=by rw[yxa,hd];rfl
  have hg:hs.getD o []=h:=by rw[yxa,hh];rfl
  have dho:=L.dh o;rw[dg,hg] at dho;have lh:=L.lh;have nin:(i:Int)∉lyi++hei:=λz=>by have:=(L.rng _ z).2;omega
  have LT2:∀{ly2 he2:List Int} {ms2:List (List Str)} {ws2:List Int},(ly2++he2).Perm ((i:Int)::(lyi++hei))->ms2.length=nc->ws2.length=nc->(∀m∈ms2,m.length≤4)->LT np nc (i+1) ds hs ly2 he2 ms2 ws2:=λ{ly2 he2 ms2 ws2} pm l1 l2 l3=>by
   refine⟨L.d,L.h,l1,l2,λp=>yrf (L.dh p),pm.nodup_iff.mpr (ysd.mpr ⟨nin,L.nd⟩),λn hn=>?_,?_,l3⟩
   ·rcases yma.mp (pm.mem_iff.mp hn) with z|z
    ·omega
    ·have:=L.rng n z;omega
   ·have:=pm.length_eq;rw[yfa,yka,yfa] at this;omega
  refine⟨_,rfl,rfl,_,rfl,ite2 (λc0=>?_) (λc0=>?_)⟩
  ·refine⟨_,rfl,_,rfl,dl,_,_,_,rfl,rfl,SqL.of (Fa _ _ ndp ndl (S3B _ _ edl)),zmj hda,.inl ⟨rfl,_,SqL.of eda⟩,_,rfl,_,rfl,_,rfl,dl,_,_,_,rfl,rfl,SqL.of (Fa _ _ ndp ndl (S3B _ _ edl)),zmj hda,da,_,rfl,.inl (SqL.of eda),_,_,rfl,rfl,p,k'+1,(d.length:Int)+1,(by rw[show (iM d).length=d.length from yaa _];rfl),Ta,by omega,by omega,λx Hb x0 x1 Bb Tb=>?_⟩;have Rb:=Ra.but npa Bb;have edb:=Rb.2 o da _ (a_d hda) (zrab L.d hd);have il:(iM d).length=d.length:=yaa _;refine⟨_,rfl,da,_,x,_,rfl,rfl,edb,x0,by rw[il];omega,by rw[il];omega,?_⟩;rw[zi,ztmb];have np':da≠p:=λz=>npa (by rw[← z];exact ypa (a_d hda));have Rc:=Rb.put nd9 (a_d hda) (iM (d.take x.toNat++(i:Int)::d.drop x.toNat));rw[zinb (by rw[L.d];exact on)] at Rc;refine⟨ds.set o (d.take x.toNat++(i:Int)::d.drop x.toNat),hs,lyi,hei,us,ms,ws,_,_,_,_,_,rfl,Rc,T1s.kp ((Kp.but Ta Bb).trans (Kp.put edb)) AMa,(Fa.but Bb).put (a_d hda) _,Tb.other edb (yqd np'),by omega,?_⟩;refine { L.up with d:=by rw[ycd];exact L.d,dh:=λq=>?_ };rw[zlq (by rw[L.d];exact on)];have:=L.dh q
   split
   ·rename_i e;rw[e,hg,(zqdb d (i:Int) x.toNat).length_eq,yka];omega
   ·omega
  refine⟨_,rfl,rfl,_,rfl,ite2 (λc1=>?_) (λc1=>?_)⟩
  ·have gl':(iM h).length=h.length:=yaa _;refine⟨_,rfl,_,rfl,gl,_,_,_,rfl,rfl,SqL.of (Fa _ _ ngp ngl (S5B _ _ egl)),zmj hga,.inl ⟨rfl,_,SqL.of ega⟩,_,rfl,ga,_,_,rfl,rfl,ega,zle (by rw[gl'];omega),?_⟩;rw[zi,show iM h++[V.int (i:Int)]=iM (h++[(i:Int)]) by unfold iM;rw[yua];rfl];have np':ga≠p:=λz=>npa (by rw[← z];exact ypa (a_h hga));have Rc:=Ra.put nd9 (a_h hga) (iM (h++[(i:Int)]));rw[zgnb L.d (by rw[L.h];exact on)] at Rc;refine⟨ds,hs.set o (h++[(i:Int)]),lyi,hei,us,ms,ws,_,_,_,_,_,rfl,Rc,T1s.kp (Kp.put ega) AMa,Fa.put (a_h hga) _,Ta.other ega (yqd np'),by omega,?_⟩;refine { L.up with h:=by rw[ycd];exact L.h,dh:=λq=>?_ };rw[zlq (by rw[L.h];exact on)];have:=L.dh q
   split
   ·rename_i e;rw[e,dg,yfa,yub];omega
   ·omega
  obtain⟨g,hgo⟩:=getx (xs:=gone) (i:=o) (by rw[gol];exact on);have ehlA:=Fa _ _ nhp hla (S1B _ _ ehl);have eb2A:Ha b2=some (.tup (gone.map V.bl)):=(FarP.kp TB R9 Fa).t (S1B _ _ eb2);have nhe:he≠p:=λz=>npa (by rw[← z];exact ypa (a_r 1));have nly:ly≠p:=λz=>npa (by rw[← z];exact ypa (a_r 0));have hpe:iM hei++[V.int (0+(i:Int))]=iM (hei++[(i:Int)]):=by unfold iM;rw[yua,zi];rfl
  have RH:=Ra.put nd9 (a_r 1) (iM (hei++[(i:Int)]));rw[zwu L.d L.h] at RH;have LH:=LT2 (ly2:=lyi) (he2:=hei++[(i:Int)]) (by rw[← ydd];exact ylo (l₁:=lyi++hei) (l₂:=[(i:Int)])) L.m L.w L.mks;refine⟨_,rfl,rfl,_,rfl,ite2 (λc2=>iteT ?h1) (λc2=>?_)⟩
  case h1=>exact⟨_,rfl,.inl ⟨rfl,_,SqL.of ehe'⟩,_,rfl,he,_,_,rfl,rfl,ehe',zle (by unfold iM;rw[yaa];omega),by rw[hpe];exact⟨ds,hs,lyi,hei++[(i:Int)],us,ms,ws,_,_,_,_,_,rfl,RH,T1s.kp (Kp.put ehe') AMa,Fa.put (a_r 1) _,Ta.other ehe' (yqd nhe),by omega,LH⟩⟩
  refine⟨_,rfl,_,_,rfl,rfl,_,rfl,ite2 (λc3=>?_) (λc3=>?skp)⟩
  case skp =>
   refine iteF ⟨_,rfl,_,_,rfl,rfl,_,rfl,ifF c3 ?_⟩;exact⟨ds,hs,lyi,hei,us,ms,ws,_,_,_,_,_,rfl,Ra,AMa,Fa,Ta,by omega,L.up⟩
  refine⟨_,rfl,hl,_,_,_,rfl,rfl,SqL.of ehlA,zsa (j:=2) rfl,_,rfl,b2,_,_,_,rfl,rfl,SqT.of eb2A,zmj hgo,_,rfl,ite2 (λc4=>?h2) (λc4=>?_)⟩
  case h2=>exact⟨_,rfl,.inl ⟨rfl,_,SqL.of ehe'⟩,_,rfl,he,_,_,rfl,rfl,ehe',zle (by unfold iM;rw[yaa];omega),by rw[hpe];exact⟨ds,hs,lyi,hei++[(i:Int)],us,ms,ws,_,_,_,_,_,rfl,RH,T1s.kp (Kp.put ehe') AMa,Fa.put (a_r 1) _,Ta.other ehe' (yqd nhe),by omega,LH⟩⟩
  refine⟨_,rfl,_,_,rfl,rfl,_,rfl,ifT c3 ?_⟩;have ll:(iM lyi).length=lyi.length:=yaa _;refine⟨_,rfl,.inl ⟨rfl,_,SqL.of ely'⟩,_,rfl,_,rfl,ly,_,rfl,.inl (SqL.of ely'),_,_,rfl,rfl,p,k'+1,(lyi.length:Int)+1,(by rw[ll];rfl),Ta,by omega,by omega,λx Hb x0 x1 Bb Tb=>?_⟩;have Rb:=Ra.but npa Bb;have elyb:=Rb.2 (np+np+0) ly _ (a_r 0) ((zpj L.d L.h 0).trans rfl);refine⟨_,rfl,ly,_,x,_,rfl,rfl,elyb,x0,by rw[ll];omega,by rw[ll];omega,?_⟩;rw[zi,ztmb];have Rc:=Rb.put nd9 (a_r 0) (iM (lyi.take x.toNat++(i:Int)::lyi.drop x.toNat));rw[zwu L.d L.h] at Rc;have Rc':Rw _ as (zdf ds hs (lyi.take x.toNat++(i:Int)::lyi.drop x.toNat) hei us ws):=Rc;have Tc:=Tb.other (vs:=iM (lyi.take x.toNat++(i:Int)::lyi.drop x.toNat)) elyb (yqd nly);have Fc:=(Fa.but Bb).put (a_r 0) (.lst (iM (lyi.take x.toNat++(i:Int)::lyi.drop x.toNat)));have AMc:=T1s.kp ((Kp.but Ta Bb).trans (Kp.put (vs:=iM (lyi.take x.toNat++(i:Int)::lyi.drop x.toNat)) elyb)) AMa;generalize upd Hb ly (.lst (iM (lyi.take x.toNat++(i:Int)::lyi.drop x.toNat)))=Hc at Rc' Tc Fc AMc ⊢;clear Rc Rb elyb RH;have Nc:N4 Hc nl ns:=⟨Fc _ _ nlp nla NB.at_,NB.len,NB.ok,NB.nd⟩;refine⟨_,rfl,nl,rfl,⟨_,SqL.of Nc.at_⟩,?_⟩;refine zsd (xs:=ns.map V.str) (λj ys H'=>Ex2 λ(zs:List Str) (k2:Int)=>ys=zs.map V.str∧zs.length≤j∧But p Hc H'∧Tk K H' p k2∧k2≤k'+2+j∧j≤4) (λj ys H' ⟨zs,k2,_,_,B,_⟩=>SqL.of (Nc.but Tc B).at_) ⟨[],_,rfl,yja _,But.refl p Hc,Tc,by omega,by omega⟩ ?_ ?_ ?_
  ·rintro j ys H' ⟨zs,k2,rfl,zl,_,_,_,hj⟩;rw[yaa];exact small (by omega)
  ·rintro j v ys H' hv ⟨zs,k2,rfl,zl,B',T',hk2,_⟩;rw[yna] at hv;obtain⟨u,hu,rfl⟩:=yxc.mp hv;have hi4:j<4:=(by rw[← Nc.len];exact (yha.mp hu).1);refine⟨rfl,_,rfl,p,k2,3,rfl,T',by omega,by decide,λr H5 a5 b5 B5 T5=>⟨rfl,_,rfl,?_⟩⟩;refine ite2 (λ_=>?_) (λ_=>?_)
   ·exact⟨_,rfl,zs++[u],k2+1,by rw[yua];rfl,by rw[yfa,yub];omega,B'.trans B5,T5,by omega,by omega⟩
   ·exact⟨zs,k2+1,rfl,by omega,B'.trans B5,T5,by omega,by omega⟩
  rintro ys Hd ⟨zs,kd,rfl,zl,Bd,Td,hkd,_⟩ b hb;rw[yaa,Nc.len] at hkd zl;refine laid hb λHe Se ee=>?_;refine⟨b,zs,rfl,SqL.of ee,by omega,λso ms2 hso pz sz=>?_⟩;refine laid hso λHf Sf ef=>?_;refine⟨so,_,rfl,.inl ⟨SqL.of ef,λtm htm=>?_⟩⟩;refine laid htm λHg Sg eg=>?_;have Scg:=Se.trans (Sf.trans Sg);have Rg:=(Rc'.but npa Bd).same Scg;have Fg:=(Fc.but Bd).same Scg;have Tg:=Td.same Scg;have AMg:=T1s.kp ((Kp.but Tc Bd).trans (Kp.same Scg)) AMc;have emg:=Rg.2 (np+np+2) mk _ (a_r 2) ((zpj L.d L.h 2).trans rfl);have ul:=AM.len;rw[yaa,L.m] at ul;have nmk:mk≠p:=λz=>npa (by rw[← z];exact ypa (a_r 2));have nwd:wd≠p:=λz=>npa (by rw[← z];exact ypa (a_r 3));refine⟨_,rfl,_,rfl,mk,_,_,i,rfl,rfl,emg,(zrf (by rw[ul];exact hi)),?_⟩;have Rh:=Rg.put nd9 (a_r 2) (us.set i (.ref tm));rw[zwu L.d L.h] at Rh;have Rh':Rw _ as (zdf ds hs (lyi.take x.toNat++(i:Int)::lyi.drop x.toNat) hei (us.set i (.ref tm)) ws):=Rh;have Th:=Tg.other (vs:=us.set i (.ref tm)) emg (yqd nmk);have Fh:=Fg.put (a_r 2) (.lst (us.set i (.ref tm)));have AMh:All2 (T1 (upd Hg mk (.lst (us.set i (.ref tm))))) (us.set i (.ref tm)) ((ms.set i ms2).map sM):=by
   rw[ykc];exact T1s.kp (Kp.put emg) (AMg.set ⟨tm,rfl,eg⟩ i)
  generalize upd Hg mk (.lst (us.set i (.ref tm)))=Hh at Rh' Th Fh AMh ⊢;refine⟨_,rfl,p,_,4,rfl,Th,by omega,by decide,λy Hi y0 y1 Bi Ti=>?_⟩;have Ri:=Rh'.but npa Bi;have ewi:=Ri.2 (np+np+3) wd _ (a_r 3) ((zpj L.d L.h 3).trans rfl);refine⟨_,rfl,_,rfl,wd,_,_,i,rfl,rfl,ewi,(zrf (by unfold iM;rw[yaa,L.w];exact hi)),?_⟩;have Rj:=Ri.put nd9 (a_r 3) ((iM ws).set i (.int y));rw[zwu L.d L.h] at Rj;have wse:(iM ws).set i (V.int y)=iM (ws.set i y):=by unfold iM;rw[ykc]
  refine⟨ds,hs,lyi.take x.toNat++(i:Int)::lyi.drop x.toNat,hei,us.set i (.ref tm),ms.set i ms2,ws.set i y,_,_,_,_,_,rfl,?_,T1s.kp ((Kp.but Th Bi).trans (Kp.put ewi)) AMh,(Fh.but Bi).put (a_r 3) _,Ti.other ewi (yqd nwd),by omega,LT2 ((zqdb lyi (i:Int) x.toNat).append_right hei) (by rw[ycd];exact L.m) (by rw[ycd];exact L.w) λm hm=>?_⟩
  ·have Rj':Rw (upd Hi wd (.lst ((iM ws).set i (V.int y)))) as (ds.map iM++(hs.map iM++[iM (lyi.take x.toNat++(i:Int)::lyi.drop x.toNat),iM hei,us.set i (.ref tm),(iM ws).set i (V.int y)])):=Rj;rw[wse] at Rj' ⊢;exact Rj'
  ·rcases ykg hm with z|z
   ·exact L.mks m z
   ·rw[z,pz.length_eq];omega
 ·rintro σ Hx ⟨ds,hs,lyi,hei,us,ms,ws,k',o12,o13,o14,o15,rfl,R,AM,F,TX,hk',L⟩;have RD:Rw Hx das (ds.map iM):=⟨by rw[dal,yaa,L.d],λj a xs h1 h2=>by
   rw[yna] at h2;obtain⟨d,hd,rfl⟩:=yxc.mp h2;exact R.2 j a _ (a_d h1) (zrab L.d hd)⟩
  have RH:Rw Hx has (hs.map iM):=⟨by rw[hal,yaa,L.h],λj a xs h1 h2=>by
   rw[yna] at h2;obtain⟨d,hd,rfl⟩:=yxc.mp h2;exact R.2 (np+j) a _ (a_h h1) (zfgb L.d hd)⟩
  have ely':=R.2 (np+np+0) ly _ (a_r 0) ((zpj L.d L.h 0).trans rfl);have ehe':=R.2 (np+np+1) he _ (a_r 1) ((zpj L.d L.h 1).trans rfl);have emk':=R.2 (np+np+2) mk _ (a_r 2) ((zpj L.d L.h 2).trans rfl);have ewd':=R.2 (np+np+3) wd _ (a_r 3) ((zpj L.d L.h 3).trans rfl);have edlx:=F _ _ ndp ndl (S3B _ _ edl);have eglx:=F _ _ ngp ngl (S5B _ _ egl);have ehlx:=F _ _ nhp hla (S1B _ _ ehl);have kx:=FarP.kp TB R9 F;have rows:∀{j:Nat} {v:V},[V.ref dl,V.ref gl][j]?=some v->Ex3 λla (ads:List Addr) xss=>v = .ref la∧Hx la=some (.lst (ads.map V.ref))∧Rw Hx ads (xss.map iM)∧[ds,hs][j]?=some xss∧ads.length≤4:=λ{j v} h=>by
   match j,h with
   | 0,h=>cases h;exact⟨dl,das,ds,rfl,edlx,RD,rfl,by omega⟩
   | 1,h=>cases h;exact⟨gl,has,hs,rfl,eglx,RH,rfl,by omega⟩
   | j+2,h=>simp at h
  refine⟨_,rfl,_,rfl,sz2,λq1 hq1=>?_⟩;refine laid hq1 λHq Sq eq1=>?_;refine⟨q1,rfl,⟨_,SqL.of eq1⟩,?_⟩;refine zsd (xs:=[V.ref dl,V.ref gl]) (λj ys Hy=>Same Hq Hy∧All2 (T2 Hy) ys (([ds,hs].take j).map λxss=>xss.map iM)∧j≤2) (λj ys Hy z=>SqL.of (z.1 _ _ eq1)) ⟨Same.refl _,.nil,by decide⟩ ?_ ?_ ?_
  ·rintro j ys Hy ⟨_,al,hj⟩;have:=al.len;rw[yaa,ycb] at this;have e2:[ds,hs].length=2:=rfl;exact small (by omega)
  ·rintro j v ys Hy hv ⟨S,al,_⟩;have j2:j<2:=(yha.mp hv).1;obtain⟨la,ads,xss,rfl,ela,RA,hx,al4⟩:=rows hv;have SxY:=Sq.trans S;refine⟨rfl,_,rfl,la,rfl,⟨_,SqL.of (SxY _ _ ela)⟩,?_⟩;refine zsd (xs:=ads.map V.ref) (λi zs Hz=>Same Hy Hz∧All2 (T1 Hz) zs ((xss.map iM).take i)) (λi zs Hz z=>SqL.of (z.1 _ _ (SxY _ _ ela))) ⟨Same.refl _,.nil⟩ ?_ ?_ ?_
   ·rintro i zs Hz ⟨_,al⟩;have a1:=al.len;have a2:=RA.1;rw[ycb] at a1;exact small (by omega)
   ·rintro i v zs Hz hv ⟨S',al⟩;rw[yna] at hv;obtain⟨b,hb,rfl⟩:=yxc.mp hv;obtain⟨xs,hxs⟩:=getx (xs:=xss.map iM) (i:=i) (by rw[← RA.1];exact (yha.mp hb).1);refine⟨rfl,_,rfl,b,_,rfl,.inl ⟨SqL.of ((SxY.trans S') _ _ (RA.2 i b xs hb hxs)),λl hl'=>?_⟩⟩;refine laid hl' λH5 S5 f5=>⟨S'.trans S5,?_⟩;rw[yfb,hxs,yfc];exact All2.snoc ⟨l,rfl,f5⟩ (T1s.kp (Kp.same S5) al)
   rintro zs Hz ⟨Sz,alz⟩ l hl';rw[yaa,RA.1,yta (yja _)] at alz;refine laid hl' λH5 S5 f5=>?_;refine⟨l,_,rfl,.inl ⟨SqL.of f5,λtm htm=>?_⟩⟩;refine laid htm λH6 S6 f6=>?_;have SyH:=Sz.trans (S5.trans S6);refine⟨S.trans SyH,?_,j2⟩;rw[yfb,hx,yfc,yua];exact All2.snoc ⟨tm,zs,rfl,f6,T1s.kp (Kp.same (S5.trans S6)) alz⟩ (al.imp λz=>z.kp (Kp.same SyH))
  rintro ys Hy ⟨Sy,al,_⟩ cl2 hcl2;have al':All2 (T2 Hy) ys [ds.map iM,hs.map iM]:=al;refine laid hcl2 λHz Sz ecl2=>?_;cases al' with | @cons y0 _ _ _ g0 al' =>
  cases al' with | @cons y1 _ _ _ g1 al' =>
  cases al';have SxZ:=Sq.trans (Sy.trans Sz);refine⟨_,rfl,hl,_,_,_,rfl,rfl,SqL.of (SxZ _ _ ehlx),zsa (j:=0) rfl,_,rfl,hl,_,_,_,rfl,rfl,SqL.of (SxZ _ _ ehlx),zsa (j:=1) rfl,_,rfl,hl,_,_,_,rfl,rfl,SqL.of (SxZ _ _ ehlx),zsa (j:=2) rfl,_,rfl,cl2,_,_,_,rfl,rfl,SqL.of ecl2,zsa (j:=0) rfl,_,rfl,cl2,_,_,_,rfl,rfl,SqL.of ecl2,zsa (j:=1) rfl,_,rfl,ly,_,rfl,.inl ⟨SqL.of (SxZ _ _ ely'),λt5 ht5=>?_⟩⟩;refine laid ht5 λH5 S5 f5=>?_;have Sx5:=SxZ.trans S5;refine⟨_,rfl,he,_,rfl,.inl ⟨SqL.of (Sx5 _ _ ehe'),λt6 ht6=>?_⟩⟩;refine laid ht6 λH6 S6 f6=>?_;have Sx6:=Sx5.trans S6;refine⟨_,rfl,mk,_,rfl,.inl ⟨SqL.of (Sx6 _ _ emk'),λt7 ht7=>?_⟩⟩;refine laid ht7 λH7 S7 f7=>?_;have Sx7:=Sx6.trans S7;refine⟨_,rfl,wd,_,rfl,.inl ⟨SqL.of (Sx7 _ _ ewd'),λt8 ht8=>?_⟩⟩;refine laid ht8 λH8 S8 f8=>?_;refine⟨(by show 9≤yza;decide),λtv htv=>?_⟩;refine laid htv λH9 S9 f9=>?_;have Sx9:=Sx7.trans (S8.trans S9);have k9:=kx.trans (Kp.same Sx9);have Sy9:=Sz.trans (S5.trans (S6.trans (S7.trans (S8.trans S9))));have BX:But p H H9:=λb o nb hb=>Sx9 _ _ (F b o nb (old (B1 b o nb hb)) (S1B _ _ (B1 b o nb hb)));refine q (.ref tv) ⟨pts,scs,gone,ds,hs,lyi,hei,ms,ws⟩ k' H9 BX (TX.same Sx9) (by omega) ⟨tv,_,_,_,_,_,_,_,_,_,rfl,f9,⟨⟨b0,rfl,k9.t (S1B _ _ eb0)⟩,⟨b1,rfl,k9.t (S1B _ _ eb1)⟩,⟨b2,rfl,k9.t (S1B _ _ eb2)⟩,g0.kp (Kp.same Sy9),g1.kp (Kp.same Sy9),⟨t5,rfl,(S6.trans (S7.trans (S8.trans S9))) _ _ f5⟩,⟨t6,rfl,(S7.trans (S8.trans S9)) _ _ f6⟩,⟨t7,_,rfl,(S8.trans S9) _ _ f7,T1s.kp (Kp.same Sx9) AM⟩,⟨t8,rfl,S9 _ _ f8⟩⟩⟩ ⟨pl,scs_,gol,L.d,L.h,L.m,L.w,n4,c7,λp=>?_,L.nd,λn hn=>L.rng n (ylg _ hn),?_,L.mks⟩
  ·have:=L.dh p;show (ds.getD p []).length+(hs.getD p []).length≤14
   omega
  ·have:=L.lh;show lyi.length+hei.length≤7+0
   omega
theorem zkfb {xs:List Int}{n:Int}(nd:xs.Nodup)(h:n∈xs):xs.Perm (n::xs.filter λx=>!decide (x=n)):=by
 induction xs with
 | nil=>cases h
 | cons x r ih =>
  obtain⟨n1,n2⟩:=ysd.mp nd
  by_cases e:x=n
  ·subst e;rw[ykh (by simp)];have z:(r.filter λy=>!decide (y=x))=r:=by
    rw[yfp];intro y hy;have:y≠x:=λw=>n1 (w▸hy);simp[this]
   rw[z]
  ·rw[yjh (by simp[e])];have hr:n∈r:=by
    rcases yma.mp h with w|w
    ·exact absurd w.symm e
    ·exact w
   exact ((ih n2 hr).cons x).trans (.swap _ _ _)
theorem zbdb {xs ys:List Int}(h1:xs.Pairwise (· ≤ ·))(h2:ys.Pairwise (· ≤ ·))(p:xs.Perm ys):xs=ys :=
 yom (le:=λa b:Int=>a≤b) (λa b _ _ x y=>Int.le_antisymm x y) h1 h2 p
theorem zqhb {t t':Tab}{kd:Str}{th:Int}{av:V}{cms:List (List Str)}{b:Nat}(hb:∀m∈t.marks,m.length≤b)(hc:∀m∈cms,m.length≤b+1)(h:HpR cms t kd th av t'):∀m∈t'.marks,m.length≤b+1:=by
 have old:∀m∈t.marks,m.length≤b+1:=λm hm=>yrf (hb m hm);have put:∀(n:Nat) (ms:List Str),ms.length≤b+1->∀m∈t.marks.set n ms,m.length≤b+1:=λn ms hl m hm=>by
  rcases ykg hm with w|w
  ·exact old m w
  ·rw[w];exact hl
 cases h with
 | no _=>exact old
 | pl g pr =>
  cases pr with
  | lose _=>exact old
  | score _=>exact old
  | draw _ _ _ _=>exact old
 | cr g cr =>
  cases cr with
  | come em=>exact put _ _ (hc _ (ypa em))
  | leave em _ _=>exact put _ _ (hc _ (ypa em))
  | hurt _=>exact old
  | @gain ms zs u hx pz sz =>
   refine put _ _ ?_;have a:=zxdb (ms++[u]);have c:=hb ms (ypa hx);rw[yfa,yub] at a;rw[pz.length_eq];omega
  | @lack ms u hx =>
   refine put _ _ ?_;have a:=ywj (λx=>!decide (x=u)) ms;have c:=hb ms (ypa hx);omega
theorem PlR.det {t t1 t2:Tab}{p:Nat}{z:Int}{kd:Str}(h1:PlR t p z kd t1)(h2:PlR t p z kd t2):t1=t2:=by
 cases h1 with
 | lose a=>cases h2 with|lose b=>rw[a] at b;cases b;rfl
 | score a=>cases h2 with|score b=>rw[a] at b;cases b;rfl
 | draw a b c d =>
  cases h2 with
  | draw a' b' c' d' =>
   rw[a] at a';cases a';rw[b] at b';cases b';rw[zbdb d d' (c.trans c'.symm)]
theorem CrR.det {cms:List (List Str)}{t t1 t2:Tab}{n:Nat}{kd:Str}{av:V}(h1:CrR cms t n av kd t1)(h2:CrR cms t n av kd t2):t1=t2:=by
 cases h1 with
 | come a=>cases h2 with|come b=>rw[a] at b;cases b;rfl
 | leave a b c =>
  cases h2 with
  | leave a' b' c' =>
   rw[a] at a';cases a';rw[zbdb c c' (b.trans b'.symm)]
 | hurt a=>cases h2 with|hurt b=>rw[a] at b;cases b;rfl
 | gain a b c =>
  cases h2 with
  | gain a' b' c' =>
   rw[a] at a';cases a';rw[zvq (b.trans b'.symm) c c']
 | lack a=>cases h2 with|lack b=>rw[a] at b;cases b;rfl
theorem zjsb {t:Tab}{kd:Str}{p:Nat}(g:t.gone[p]?=some false):hpM t kd (-1-(p:Int))=true:=by
 unfold hpM;rw[if_pos (by omega),show (-1-(-1-(p:Int))).toNat=p by omega,yxa,g];rfl
theorem zksb {t:Tab}{kd:Str}{n:Nat}(g:kd = "come" ∨ (n:Int)∈t.lying):hpM t kd (n:Int)=true:=by
 unfold hpM;rw[if_neg (by omega)]
 rcases g with z|z
 ·rw[decide_eq_true z,ypo]
 ·rw[decide_eq_true z,Bool.or_true]
theorem HpR.det {cms:List (List Str)}{t t1 t2:Tab}{kd:Str}{th:Int}{av:V}(h1:HpR cms t kd th av t1)(h2:HpR cms t kd th av t2):t1=t2:=by
 cases h1 with
 | no a =>
  cases h2 with
  | no _=>rfl
  | pl g _=>rw[zjsb g] at a;cases a
  | cr g _=>rw[zksb g] at a;cases a
 | pl g pr =>
  rename_i p z;generalize hq:-1-(p:Int)=q at h2;generalize hv:V.int z=v at h2;cases h2 with
  | no a=>rw[← hq,zjsb g] at a;cases a
  | pl g2 pr2 =>
   rename_i p2 z2;obtain rfl:p=p2:=by omega
   injection hv with hv
   subst hv;exact pr.det pr2
  | cr _ _=>omega
 | cr g c =>
  rename_i n;generalize hq:(n:Int)=q at h2;cases h2 with
  | no a=>rw[← hq,zksb g] at a;cases a
  | pl _ _=>omega
  | cr g2 c2 =>
   rename_i n2;obtain rfl:n=n2:=by omega
   exact c.det c2
theorem IT.up {np nc:Nat}{t:Tab}{i:Nat}(h:IT np nc t i):IT np nc t (i+1) :=
 { h with lh:=yrf h.lh,mks:=λm hm=>yrf (h.mks m hm) }
theorem IT.step {np nc:Nat}{t t':Tab}{i:Nat}{kd:Str}{th:Int}{av:V}{cms:List (List Str)}(h:IT np nc t i)(x:HX np nc t kd th av)(hc:∀m∈cms,m.length≤4)(r:HpR cms t kd th av t'):IT np nc t' (i+1):=by
 have mk:=zqhb (b:=4+i) h.mks (λm hm=>by have:=hc m hm;omega) r;have u:=h.up;cases r with
 | no _=>exact u
 | pl g pr =>
  rename_i p z;cases pr with
  | lose _=>exact { u with pts:=by show (t.pts.set p _).length=np;rw[ycd];exact h.pts }
  | score _=>exact { u with scs:=by show (t.scs.set p _).length=np;rw[ycd];exact h.scs }
  | @draw d hd hand ed eh pm sm =>
   have pd:p<t.decks.length:=(yha.mp ed).1;have ph:p<t.hands.length:=(yha.mp eh).1;refine { u with decks:=by show (t.decks.set p _).length=np;rw[ycd];exact h.decks,hands:=by show (t.hands.set p _).length=np;rw[ycd];exact h.hands,dh:=λq=>?_ };show ((t.decks.set p (d.drop z.toNat)).getD q []).length+((t.hands.set p hand).getD q []).length≤14
   rw[zlq pd,zlq ph];have a:=h.dh q
   split
   ·rename_i e;subst e;rw[yxa,yxa,ed,eh] at a;have a':d.length+hd.length≤14:=a;rw[pm.length_eq,yfa,ycb,yjd];omega
   ·exact a
 | cr g c =>
  rename_i n;have lm:∀ms:List Str,(t.marks.set n ms).length=nc:=λms=>by rw[ycd];exact h.marks
  have lw:∀x:Int,(t.wnds.set n x).length=nc:=λx=>by rw[ycd];exact h.wnds
  cases c with
  | @come _ ms em =>
   obtain⟨n0,n1,n2⟩:0≤(n:Int)∧(n:Int)<nc∧(n:Int)∉t.lying++t.heap:=by
    generalize hq:(n:Int)=q at x;cases x with
    | pl k _ _=>exact absurd k (by decide +kernel)
    | come a b c=>exact⟨a,b,c⟩
    | mark k _ _=>exact absurd k (by decide +kernel)
   have pm:((t.lying++[(n:Int)])++t.heap).Perm ((n:Int)::(t.lying++t.heap)):=by
    rw[ydd];exact yer
   refine { u with marks:=lm ms,wnds:=lw 0,nd:=pm.nodup_iff.mpr (ysd.mpr ⟨n2,h.nd⟩),rng:=λy hy=>?_,lh:=?_,mks:=mk }
   ·rcases ysb.mp hy with w|w
    ·exact h.rng y w
    ·rw[yia.mp w];exact⟨n0,n1⟩
   ·show (t.lying++[(n:Int)]).length+t.heap.length≤7+(i+1);have:=h.lh;rw[yfa,yub];omega
  | @leave _ ms heap em ph sh =>
   have nl:(n:Int)∈t.lying:=by
    rcases g with w|w
    ·exact absurd w (by decide +kernel)
    ·exact w
   obtain⟨nd1,nd2,nd3⟩:=yue.mp h.nd;have nhp:(n:Int)∉t.heap:=λw=>nd3 _ nl _ w rfl;have ndh:(t.heap++[(n:Int)]).Nodup:=by
    rw[yue];refine⟨nd2,by simp,λx hx y hy=>?_⟩;rw[yia.mp hy];rintro rfl;exact nhp hx
   have ph':heap.Perm (t.heap++[(n:Int)]):=(by rw[zbjb ndh] at ph;exact ph);have fo:=zkfb nd1 nl;have pm:((t.lying.filter λx=>!decide (x=(n:Int)))++heap).Perm (t.lying++t.heap):=by
    rw[List.perm_iff_count] at fo ph' ⊢;intro x;have a:=fo x;have b:=ph' x;simp only[List.count_append,List.count_cons,List.count_nil] at a b ⊢;omega
   refine { u with marks:=lm ms,wnds:=lw 0,nd:=pm.nodup_iff.mpr h.nd,rng:=λy hy=>h.rng y (ynn.mp hy).1,lh:=?_,mks:=mk };show (t.lying.filter λx=>!decide (x=(n:Int))).length+heap.length≤7+(i+1)
   have e:=pm.length_eq;rw[yfa,yfa] at e;have:=h.lh;omega
  | @hurt y z hx=>exact { u with wnds:=lw _ }
  | @gain ms zs v hx pz sz=>exact { u with marks:=lm zs,mks:=mk }
  | @lack ms v hx=>exact { u with marks:=lm _,mks:=mk }
theorem CmT.of {B D:Addr}{H:Hp}{v:V}{c:Crd}(h:zdnb B D H v c):CmT B H v c.marks:=by
 obtain⟨a,dx,m,t,vs,e,h1,h2,_⟩:=h;exact⟨a,dx,m,t,_,_,_,e,h1,h2⟩
theorem zbrb (T:Tx K mg)(kb:K.In base):FnOk P w K mg base CX0 16 T.zyfb.f T.zyfb.d ztsb (zdkb K):=by
 refine T.zyfb.ok zbj ?_;rintro f c A o s H vs Q E hr ⟨sa,sc,rfl,hS,h63,q⟩ X;refine⟨_,  (zca (zta (i:=1) zbj.nd rfl (.inr rfl) (zge (zaa (pv 0) (zaa zfa zba))))
  (zca (zta (i:=2) zbj.nd rfl (.inr rfl) (zga (zqv T).up hr rfl T.zbe.m T.zbe.F.kp (zaab T) .nil zpa (zaa (pv 1) zba)))
  (zca (zta (i:=3) zbj.nd rfl (.inr rfl) (zic zxf zfa (zga (zna T).up hr rfl T.zea.m T.zea.F.kp (zra T) .nil zpa (zaa (pv 1) (zaa zfa zba)))))
  (zca (zwi (i:=4) zbj.nd rfl (.inl rfl) (own:=["_law_k"]) (cap:=["_law_pen","_law_names_here"]) rfl (znb.chk rfl rfl) (.cons (j:=1) rfl (.inl rfl) (.inl rfl) (.cons (j:=2) rfl (.inl rfl) (.inl rfl) .nil)) (zrd rfl T.zpe (zaa (zic zxf zfa (zga (zna T).up hr rfl T.zea.m T.zea.F.kp (zra T) .nil zpa (zaa (pv 1) (zaa zfa zba)))) zba)) (λ_ _ _ _=>(zkb (i:=0) (show ylc (["_law_k","_law_pen","_law_names_here"]:List Str) by decide +kernel) rfl (.inl rfl))) (λ_ _ _ _=>zzc) (λ_ _ _ _=>by exact (zga (zmy T).up hr rfl T.zwe.m T.zwe.F.kp (zzbb T) .nil zpa (zaa (pv 1) (zaa (pv 2) (zaa (zge zba) zba))))))
  (zca (zwi (i:=5) zbj.nd rfl (.inl rfl) (own:=["_law_card_here"]) (cap:=["_law_pen","_law_many"]) rfl (znb.chk rfl rfl) (.cons (j:=1) rfl (.inl rfl) (.inl rfl) (.cons (j:=3) rfl (.inl rfl) (.inl rfl) .nil)) (zcg (pv 4)) (λ_ _ _ _=>(zkb (i:=0) (show ylc (["_law_card_here","_law_pen","_law_many"]:List Str) by decide +kernel) rfl (.inl rfl))) (λ_ _ _ _=>zzc) (λ_ _ _ _=>by exact (zga (zna T).up hr rfl T.zea.m T.zea.F.kp (zra T) .nil zpa (zaa (pv 1) (zaa (pv 2) zba)))))
  (zca (zwi (i:=6) zbj.nd rfl (.inl rfl) (own:=["_law_card_here"]) (cap:=[]) rfl (znb.chk rfl rfl) .nil (zcg (pv 4)) (λ_ _ _ _=>(zkb (i:=0) (show ylc (["_law_card_here"]:List Str) by decide +kernel) rfl (.inl rfl))) (λ_ _ _ _=>zzc) (λ_ _ _ _=>by exact (zga (zgy T kb).up hr rfl T.zte.m T.zte.F.kp (zwbb T) .nil zpa (zaa (zya (zpdb K) (pv 0) zfa (λ_ _=>rfl)) zba))))
  (zca (zta (i:=7) zbj.nd rfl (.inl rfl) (zga (zpv T).up hr rfl T.zae.m T.zae.F.kp (zyz T) .nil zpa (zaa (pv 1) (zaa (pv 2) (zaa (pv 4) (zaa (pv 5) (zaa (pv 3) zba)))))))
  (zca (zsx yqh rfl (zrd rfl T.zpe (zaa zfa zba)) (zkb (i:=8) zbj.nd rfl (.inl rfl))
   (zca (zta (i:=9) zbj.nd rfl (.inl rfl) (zga (zlo T).up hr rfl T.zsc.m T.zsc.F.kp (zeq T) .nil zpa (zaa (pv 1) (zaa (pv 2) (zaa (pv 4) (zaa (pv 3) (zaa (pv 7) zba)))))))
   (zca (zta (i:=10) zbj.nd rfl (.inl rfl) (zga (zgt T).up hr rfl T.zmd.m T.zmd.F.kp (zsw T) .nil zpa (zaa (pv 4) (zaa (pv 7) (zaa (pv 9) zba)))))
   (zca (zta (i:=11) zbj.nd rfl (.inl rfl) (zza zbb rfl T.zec ysc (zaa (zud (own:=["_law_part"]) (cap:=[]) rfl (znb.chk rfl rfl) .nil (zux (pv 7)) (λ_ _ _ _=>(zkb (i:=0) (show ylc (["_law_part"]:List Str) by decide +kernel) rfl (.inl rfl))) (λ_ _ _ _=>zzc) (λ_ _ _ _=>by exact (zza (zlg K) rfl T.zec ysc (zaa (pv 0) zba)))) zba)))
   (zca (zub (PW.pt (zxab (zgk (zof (zga (zqs T 4).up hr rfl T.zpb.m T.zpb.F.kp (zdl T) .nil zpa (zaa (zga (zky T).up hr rfl T.znh.m T.znh.F.kp (zeeb T) .nil zpa (zaa (pv 6) (zaa (pv 7) (zaa (pv 9) zba)))) (zaa (pv 10) zba))))) (zmr (zma (zzqb hr.units) (pv 7) (pv 11) (zeb _)))))
    (zda (zua zwx))
    zqa)
   (zca (zub (zgk (zof (zga (zqs T 4).up hr rfl T.zpb.m T.zpb.F.kp (zdl T) .nil zpa (zaa (zga (zky T).up hr rfl T.znh.m T.znh.F.kp (zeeb T) .nil zpa (zaa (pv 6) (zaa (pv 7) (zaa (pv 9) zba)))) (zaa (pv 10) zba)))))
    (zda (zua zwx))
    zqa)
   (zda (zta (i:=7) zbj.nd rfl (.inl rfl) (pv 10)))))))))
  (zda (zua zwx)))))))))),?_⟩
 refine⟨_,rfl,sz2,λp hp=>?_⟩;have T1:=Tk.begin hp hS h63;generalize upd H p (.lst [.ref sa,.int 0])=H1 at T1 ⊢;refine⟨_,rfl,p,0,rfl,T1,by decide,λnl ns k2 H2 B2 T2 hk2 _ N2=>?_⟩;refine⟨_,rfl,p,k2,3,rfl,T2,by omega,by decide,λm0 H3 m1 m2 B3 T3=>⟨_,_,rfl,rfl,?_⟩⟩;obtain⟨np,hnp⟩:∃m:Nat,2+m0=(m:Int):=⟨(2+m0).toNat,by omega⟩;dsimp only;rw[hnp];have N3:=N2.but T2 B3;refine⟨_,rfl,p,k2+1,7,rfl,T3,by omega,by decide,λc0 H4 c1 c2 B4 T4=>⟨_,_,rfl,rfl,?_⟩⟩;obtain⟨nc,hnc⟩:∃m:Nat,1+c0=(m:Int):=⟨(1+c0).toNat,by omega⟩;refine⟨(nc:Int),(by show [V.int (1+c0)]=_;rw[hnc]),by omega,by omega,?_⟩;rw[yib];have N4':=N3.but T3 B4;refine ztd (λj ys Hy=>Ex2 λ(cs:List Crd) (k':Int)=>All2 (CT Hy) ys cs∧cs.length=j∧But p H4 Hy∧Tk K Hy p k'∧k'≤k2+2+8*(j:Int)∧j≤nc) ⟨[],_,.nil,rfl,But.refl _ _,T4,by omega,ytb _⟩ ?_ ?_ ?_
 ·rintro j ys Hy ⟨cs,k',al,cl,_,_,_,hj⟩;rw[al.len,cl];exact small (by omega)
 ·rintro j ys Hy hj ⟨cs,k',al,cl,B,TY,hk',_⟩;refine⟨rfl,_,rfl,_,rfl,sz0,λrl hrl=>?_⟩;refine laid hrl λH5 S5 e5=>?_;have T5:=TY.same S5;have nrp:rl≠p:=yqd (TY.ne hrl);have N5:=N4'.but T4 (B.trans (But.same S5));refine⟨p,nl,rl,k',ns,[],[],rfl,T5,by omega,N5,e5,nrp,.nil,by decide,λl mm c k4 H8 B8 T8 hk4 hl8 e8 em8 cok crs cm4=>?_⟩;have B58:=(But.same (p:=p) S5).trans B8;refine⟨cs++[c],k4,All2.snoc ⟨l,mm,_,_,_,rfl,e8,em8,cok,cm4,λr hr'=>by rw[crs] at hr';cases hr'⟩ (al.imp λz=>z.but TY B58),by rw[yfa,cl];rfl,B.trans B58,T8,by omega,hj⟩
 rintro cvs H5 ⟨cs,k5,alc,csl,B5,T5,hk5,_⟩ cl hcl;have ncp:cl≠p:=yqd (T5.ne hcl);refine laid hcl λH6 S6 ec=>?_;have T6:=T5.same S6;have alc6:All2 (CT H6) cvs cs:=alc.imp λz=>z.same S6;have cvl:=alc.len;refine⟨_,rfl,cl,rfl,⟨_,SqL.of ec⟩,?_⟩;refine zsd (xs:=cvs) (λj ys Hy=>Ex2 λ(os:List Int) (k':Int)=>ys=iM os∧os.length=j∧(∀o∈os,0≤o∧o<np)∧But p H6 Hy∧Tk K Hy p k'∧k'≤k5+(j:Int)∧j≤7) (λj ys Hy ⟨_,_,_,_,_,B,_⟩=>SqL.of (B _ _ ncp ec)) ⟨[],_,rfl,rfl,(λ_ h=>nomatch h),But.refl _ _,T6,by omega,by decide⟩ ?_ ?_ ?_
 ·rintro j ys Hy ⟨os,k',rfl,ol,_,_,_,_,hj⟩;unfold iM;rw[yaa,ol];exact small (by omega)
 ·rintro j v ys Hy hv ⟨os,k',rfl,ol,hr',B,TY,hk',_⟩;have jl:=(yha.mp hv).1;refine⟨rfl,_,rfl,_,rfl,p,k',(np:Int),rfl,TY,by omega,by omega,λx Hz x0 x1 Bz Tz=>?_⟩;refine⟨os++[x],_,by unfold iM;rw[yua];rfl,by rw[yfa,ol];rfl,λo ho=>?_,B.trans Bz,Tz,by omega,by omega⟩
  rcases ysb.mp ho with y|y
  ·exact hr' o y
  ·rw[yia.mp y];exact⟨x0,x1⟩
 rintro ys H7 ⟨os,k7,rfl,osl,orng,B7,T7,hk7,_⟩ ol hol;have nop:ol≠p:=yqd (T7.ne hol);refine laid hol λH8 S8 eo=>?_;have T8:=T7.same S8;have B68:=B7.trans (But.same S8);have ec8:=B68 _ _ ncp ec;have alc8:All2 (CT H8) cvs cs:=alc6.imp λz=>z.but T6 B68;refine⟨_,rfl,cl,rfl,⟨_,SqL.of ec8⟩,?_⟩;refine zsd (xs:=cvs) (λj ys Hy=>Same H8 Hy∧All2 (CmT T.zsf Hy) ys ((cs.take j).map (·.marks))) (λj ys Hy z=>SqL.of (z.1 _ _ ec8)) ⟨Same.refl _,.nil⟩ ?_ ?_ ?_
 ·rintro j ys Hy ⟨_,al⟩;have:=al.len;rw[yaa,ycb] at this;exact small (by omega)
 ·rintro j v ys Hy hv ⟨S,al⟩;obtain⟨c,hc,lc,m,x2,x3,x4,rfl,elc,emc,cok,_⟩:=alc8.get hv;refine⟨rfl,_,rfl,lc,_,_,_,rfl,rfl,SqL.of (S _ _ elc),zsa (j:=0) rfl,c,rfl,cok,λv H' S' ic=>⟨S.trans S',?_⟩⟩;rw[yfb,hc,yfc,yua];exact All2.snoc (CmT.of ic) (al.imp λz=>z.kp (Kp.same S'))
 rintro rvs H9 ⟨S9,alr⟩ ra hra;rw[cvl,yta (yja _)] at alr;have nrp:ra≠p:=yqd ((T8.same S9).ne hra);refine laid hra λHA SA er=>?_;have S8A:=S9.trans SA;have TA:=T8.same S8A;have NA:=((N4'.but T4 (B5.trans (But.same S6))).but T6 B68).same S8A;have ecA:=S8A _ _ ec8;have eoA:=S8A _ _ eo;have alcA:All2 (CT HA) cvs cs:=alc8.imp λz=>z.same S8A;have CDA:CdsT T.zsf HA ra (cs.map (·.marks)):=⟨rvs,er,alr.imp λz=>z.kp (Kp.same SA)⟩;have cm4:∀m∈cs.map (·.marks),m.length≤4:=λm hm=>by
  obtain⟨c,hc,rfl⟩:=yac.mp hm;obtain⟨_,_,⟨_,_,_,_,_,_,_,_,_,h,_⟩⟩:=alc.mem2 hc;exact h
 clear alc alc6 alc8 ec ec8 eo;refine⟨_,rfl,_,rfl,_,rfl,_,rfl,_,rfl,p,nl,cl,ol,_,np,nc,ns,cvs,cs,os,rfl,TA,by omega,NA,ecA,alcA,csl,by omega,eoA,by omega,orng,by omega,by omega,ncp,nop,λtv0 t0 kB HB BB TB hkB TTB IT0=>?_⟩;have NB:=NA.but TA BB;have ecB:=BB _ _ ncp ecA;have alcB:All2 (CT HB) cvs cs:=alcA.imp λz=>z.but TA BB;have kAB:=Kp.but TA BB;have CDB:∀{Hx:Hp},But p HB Hx->CdsT T.zsf Hx ra (cs.map (·.marks)):=λb=>by
  obtain⟨vs,e,al⟩:=CDA;exact⟨vs,b _ _ nrp (BB _ _ nrp e),al.imp λz=>z.kp (kAB.trans (Kp.but TB b))⟩
 refine⟨8,rfl,by decide,by decide,?_⟩;refine zez (lo:=0) (n:=8) (λi σ Hx=>Ex7 λtv (t:Tab) (k':Int) o8 o9 o10 o11=>σ=[some (.ref sa),some (.ref p),some (.ref nl),some (.int (np:Int)),some (.ref cl),some (.ref ol),some (.ref ra),some tv,o8,o9,o10,o11]∧But p HB Hx∧Tk K Hx p k'∧k'≤kB+8*(i:Int)∧TabT Hx tv t∧IT np nc t i) ⟨_,_,_,_,_,_,_,rfl,But.refl _ _,TB,by omega,TTB,IT0⟩ ?_ ?_
 ·rintro i σ Hx hi ⟨tv,t,k',o8,o9,o10,o11,rfl,B,TX,hk',TT,I⟩;have TO:=I.ok (by omega);refine⟨_,rfl,_,rfl,_,rfl,_,rfl,_,rfl,p,nl,cl,tv,k',ns,cvs,t,np,nc,rfl,TX,by omega,NB.but TB B,B _ _ ncp ecB,ncp,by omega,by omega,by omega,TT,TO,by omega,I.rng,λha kd th av kC HC BC TC hkC eh hx=>?_⟩;have BBC:=B.trans BC;have TTC:=TT.kp (Kp.but TX BC);have HA':=hx.a TO I.nd λm hm=>by have:=I.mks m hm;omega
  refine⟨_,rfl,_,rfl,_,rfl,cl,tv,ha,t,np,nc,cvs,cs,kd,th,av,rfl,BBC _ _ ncp ecB,alcB.imp λz=>z.but TB BBC,csl,TTC,HA',eh,λdv t' HD SD TD HR=>?_⟩;have TTD:=TTC.kp (Kp.same SD);obtain⟨a,v0,v1,v2,v3,v4,v5,v6,v7,v8,rfl,ea,TP⟩:=id TTD;have refs:∀u∈[v0,v1,v2,v3,v4,v5,v6,v7,v8],Ex2 λb xs=>u=V.ref b∧HD b=some (.tup xs):=by
   obtain⟨b0,rfl,f0⟩:=TP.p0;obtain⟨b1,rfl,f1⟩:=TP.p1;obtain⟨b2,rfl,f2⟩:=TP.p2;obtain⟨b3,u3,rfl,f3,_⟩:=TP.p3;obtain⟨b4,u4,rfl,f4,_⟩:=TP.p4;obtain⟨b5,rfl,f5⟩:=TP.p5;obtain⟨b6,rfl,f6⟩:=TP.p6;obtain⟨b7,u7,rfl,f7,_⟩:=TP.p7;obtain⟨b8,rfl,f8⟩:=TP.p8;intro u hu;simp only[yma,yff,or_false] at hu
   rcases hu with rfl|rfl|rfl|rfl|rfl|rfl|rfl|rfl|rfl
   ·exact⟨_,_,rfl,f0⟩
   ·exact⟨_,_,rfl,f1⟩
   ·exact⟨_,_,rfl,f2⟩
   ·exact⟨_,_,rfl,f3⟩
   ·exact⟨_,_,rfl,f4⟩
   ·exact⟨_,_,rfl,f5⟩
   ·exact⟨_,_,rfl,f6⟩
   ·exact⟨_,_,rfl,f7⟩
   ·exact⟨_,_,rfl,f8⟩
  refine⟨_,rfl,a,rfl,⟨_,SqT.of ea⟩,?_⟩;refine znq (xs:=[v0,v1,v2,v3,v4,v5,v6,v7,v8]) (λj ys Hy=>Hy=HD∧ys=[v0,v1,v2,v3,v4,v5,v6,v7,v8].take j) (λj ys Hy z=>by rw[z.1];exact SqT.of ea) ⟨rfl,rfl⟩ ?_ ?_ ?_
  ·rintro j ys Hy ⟨_,rfl⟩;have e9:[v0,v1,v2,v3,v4,v5,v6,v7,v8].length=9:=rfl;rw[ycb];exact small (by omega)
  ·rintro j v ys Hy hv ⟨rfl,rfl⟩;obtain⟨b,xs,rfl,eb⟩:=refs v (ypa hv);refine⟨rfl,_,rfl,b,_,rfl,.inr ⟨SqT.of eb,rfl,?_⟩⟩;rw[yfb,hv];rfl
  rintro ys HE ⟨rfl,rfl⟩ lk hlk;refine laid hlk λHF SF fk=>?_;have fk':HF lk=some (.lst [v0,v1,v2,v3,v4,v5,v6,v7,v8]):=fk;refine⟨lk,_,rfl,.inl ⟨SqL.of fk',λkt hkt=>?_⟩⟩;refine laid hkt λHG SG ekt=>?_;have SCG:=SD.trans (SF.trans SG);have BG:But p HB HG:=BBC.trans (But.same SCG);have TTG:=TTC.kp (Kp.same SCG);have ehG:=SCG _ _ eh;refine⟨_,rfl,_,rfl,_,rfl,ra,.ref a,ha,t,np,nc,th,cs.map (·.marks),kd,av,rfl,CDB BG,TTG,TO,ehG,HA'.lo,HA'.hi,by rw[yaa,csl],HA'.pl,HA'.cr,λfv t'' HH SH TH HR2=>?_⟩;have te:t''=t':=HR2.det HR;subst te;have I':=I.step hx cm4 HR2;have TO':=I'.ok (by omega);have TDH:=TD.kp (Kp.same (SF.trans (SG.trans SH)));refine⟨_,rfl,3,fv,dv,rfl,by decide,zfmb TO' TH TDH,λHI SI=>⟨_,rfl,iteF ?_⟩⟩;have SDI:=SF.trans (SG.trans (SH.trans SI));refine⟨_,rfl,_,rfl,a,kt,_,rfl,rfl,SqT.of (SDI _ _ ea),SqT.of ((SH.trans SI) _ _ ekt),(λu hu=>by
   obtain⟨b,_,e,_⟩:=refs u hu;exact⟨b,e⟩),_,rfl,iteF ?_⟩
  have SCI:=SD.trans SDI;have BI:But p HB HI:=BBC.trans (But.same SCI);refine⟨_,rfl,_,rfl,_,rfl,ra,.ref a,ha,t,np,nc,th,cs.map (·.marks),kd,av,rfl,CDB BI,TTC.kp (Kp.same SCI),TO,SCI _ _ eh,HA'.lo,HA'.hi,by rw[yaa,csl],HA'.pl,HA'.cr,λfv2 t3 HJ SJ TJ HR3=>?_⟩;have te3:t3=t'':=HR3.det HR;subst te3;refine⟨_,rfl,3,fv2,dv,rfl,by decide,zfmb TO' TJ (TD.kp (Kp.same (SDI.trans SJ))),λHK SK=>⟨_,rfl,iteF ?_⟩⟩;have SCK:=SCI.trans (SJ.trans SK);exact⟨_,rfl,dv,t3,kC,_,_,_,_,rfl,BBC.trans (But.same SCK),TC.same SCK,by omega,TD.kp (Kp.same (SDI.trans (SJ.trans SK))),I'⟩
 ·rintro σ Hx _;exact q _
end
def mkT {K:yda}{h:Heap}{mg:Str->Option Value}(X:K.In h)(G:h.Ns ybb mg){C_Words:Addr}{C_Whom:Addr}{C_Card:Addr}{t_LETTERS:Tok}{t_FIGURES:Tok}{t_MOST_WORDS:Tok}{A_PARTS:Addr}{t_MOST_RULES:Tok}{A_SORTS:Addr}{A_CHANGES:Addr}{A_WHEN_KINDS:Addr}{A_DEED_KINDS:Addr}{A_PLAYER_KINDS:Addr}{A_TURNS:Addr}{t_POINTS:Tok}{t_SCORES:Tok}{t_GONE:Tok}{t_DECKS:Tok}{t_HANDS:Tok}{t_LYING:Tok}{t_HEAP:Tok}{t_MARKS:Tok}{t_WOUNDS:Tok}(tf:Tf K mg)
  (zcmb:yhb K ybb "Words" = some (some (.ref C_Words)))
  (zvkb:yag K C_Words yjr=true)
  (zslb:yog K C_Words=true)
  (zskb:yth K C_Words=true)
  (zkkb:ymb K (.ref C_Words) "__setattr__" = some (some (.builtin "object.__setattr__")))
  (y_Words___init__:If K C_Words "__init__" "Words.__init__" zah)
  (y_Words_take:Mf K C_Words "take" "Words.take" zsk)
  (y_Words_take_one_of:Mf K C_Words "take_one_of" "Words.take_one_of" zxe)
  (y_Words_take_name:Mf K C_Words "take_name" "Words.take_name" zbg)
  (y_Words_take_number:Mf K C_Words "take_number" "Words.take_number" zye)
  (y_Words_finish:Mf K C_Words "finish" "Words.finish" zvi)
  (zpd:ymb K (.ref C_Words) "words" = some none)
  (zcd:ymb K (.ref C_Words) "place" = some none)
  (zppb:yhb K ybb "Whom" = some (some (.ref C_Whom)))
  (ziob:yag K C_Whom yjr=true)
  (ztob:yog K C_Whom=true)
  (zfob:yth K C_Whom=true)
  (zynb:ymb K (.ref C_Whom) "__setattr__" = some (some (.builtin "object.__setattr__")))
  (y_Whom___init__:If K C_Whom "__init__" "Whom.__init__" zrh)
  (zuj:ymb K (.ref C_Whom) "word" = some none)
  (zli:ymb K (.ref C_Whom) "value" = some none)
  (zmi:ymb K (.ref C_Whom) "parts" = some none)
  (q1_Whom:ymb K (.ref C_Whom) "__class__" = some (some (.builtin "object.__class__")))
  (q2_Whom:ygj K (.builtin "object.__class__") "__get__" = some (some (.builtin "getset_descriptor.__get__")))
  (q3_Whom:yqn K (.builtin "object.__class__")=some true)
  (q4_Whom:ylp K C_Whom (.type "object")=some true)
  (q5_Whom:yqb K (.ref C_Whom) (.type "str")=some false)
  (q6_Whom:yqb K (.ref C_Whom) (.type "int")=some false)
  (q7_Whom:yqb K (.ref C_Whom) (.type "tuple")=some false)
  (q8_Whom:yqb K (.ref C_Whom) (.type "list")=some false)
  (q9_Whom:yqb K (.type "str") (.ref C_Whom)=some false)
  (q10_Whom:yqb K (.type "int") (.ref C_Whom)=some false)
  (zqpb:yhb K ybb "Card" = some (some (.ref C_Card)))
  (zjob:yag K C_Card yjr=true)
  (zuob:yog K C_Card=true)
  (zgob:yth K C_Card=true)
  (zznb:ymb K (.ref C_Card) "__setattr__" = some (some (.builtin "object.__setattr__")))
  (y_Card___init__:If K C_Card "__init__" "Card.__init__" zsh)
  (zvj:ymb K (.ref C_Card) "name" = some none)
  (zwj:ymb K (.ref C_Card) "cost" = some none)
  (zoi:ymb K (.ref C_Card) "force" = some none)
  (zrg:ymb K (.ref C_Card) "marks" = some none)
  (zni:ymb K (.ref C_Card) "rules" = some none)
  (zgeb:yhb K ybb "all" = some none)
  (zpq:yhb K ybb "bool" = some none)
  (zfeb:yhb K ybb "int" = some none)
  (zob:yhb K ybb "isinstance" = some none)
  (zyg:yhb K ybb "len" = some none)
  (zul:yhb K ybb "list" = some none)
  (zvjb:yhb K ybb "min" = some none)
  (zpe:yhb K ybb "range" = some none)
  (zml:yhb K ybb "reversed" = some none)
  (zpab:yhb K ybb "set" = some none)
  (zgf:yhb K ybb "sorted" = some none)
  (zbt:yhb K ybb "str" = some none)
  (zec:yhb K ybb "tuple" = some none)
  (zvn:yhb K ybb "LETTERS" = some (some (.str zss t_LETTERS)))
  (zwn:yhb K ybb "FIGURES" = some (some (.str zts t_FIGURES)))
  (zsi:yhb K ybb "MOST_WORDS" = some (some (.int 9 t_MOST_WORDS)))
  (zqo:yhb K ybb "PARTS" = some (some (.ref A_PARTS)))
  (zyv:yqr (yji λb=>K.lookup b) (λb=>K.lookup b) A_PARTS zat=true)
  (zti:yhb K ybb "MOST_RULES" = some (some (.int 3 t_MOST_RULES)))
  (zcw:yhb K ybb "SORTS" = some (some (.ref A_SORTS)))
  (zxv:TupK K A_SORTS ["hold","when","instead","may"])
  (zxn:yhb K ybb "CHANGES" = some (some (.ref A_CHANGES)))
  (zrn:TupK K A_CHANGES ["mute","steal","gain","lack","be","more","less","per"])
  (zri:yhb K ybb "WHEN_KINDS" = some (some (.ref A_WHEN_KINDS)))
  (zpi:TupK K A_WHEN_KINDS ["come","leave","hurt","gain","lack","lose","score","draw"])
  (ztg:yhb K ybb "DEED_KINDS" = some (some (.ref A_DEED_KINDS)))
  (zsg:TupK K A_DEED_KINDS ["leave","hurt","gain","lack","lose","score","draw"])
  (zkg:yhb K ybb "PLAYER_KINDS" = some (some (.ref A_PLAYER_KINDS)))
  (zig:TupK K A_PLAYER_KINDS ["lose","score","draw"])
  (zbw:yhb K ybb "TURNS" = some (some (.ref A_TURNS)))
  (zwv:TabK K A_TURNS zrcb)
  (zun:yhb K ybb "POINTS" = some (some (.int 0 t_POINTS)))
  (ztn:yhb K ybb "SCORES" = some (some (.int 1 t_SCORES)))
  (zsdb:yhb K ybb "GONE" = some (some (.int 2 t_GONE)))
  (zgs:yhb K ybb "DECKS" = some (some (.int 3 t_DECKS)))
  (zfs:yhb K ybb "HANDS" = some (some (.int 4 t_HANDS)))
  (zvk:yhb K ybb "LYING" = some (some (.int 5 t_LYING)))
  (zbz:yhb K ybb "HEAP" = some (some (.int 6 t_HEAP)))
  (zro:yhb K ybb "MARKS" = some (some (.int 7 t_MARKS)))
  (zrl:yhb K ybb "WOUNDS" = some (some (.int 8 t_WOUNDS))):Tx K mg :=
 { tf with zqb:=C_Words,zkbb:=yzb X G zcmb,zfb:=⟨zvkb,zslb,zskb,zkkb⟩,zjc:=y_Words___init__,zpc:=y_Words_take,zla:=y_Words_take_one_of,zrb:=y_Words_take_name,zab:=y_Words_take_number,zuc:=y_Words_finish,zpd:=zpd,zcd:=zcd,zgd:=C_Whom,zmmb:=yzb X G zppb,zmw:=⟨ziob,ztob,zfob,zynb⟩,zvc:=y_Whom___init__,zuj:=zuj,zli:=zli,zmi:=zmi,zfsb:=⟨q1_Whom,q2_Whom,q3_Whom,q4_Whom,q5_Whom,q6_Whom,q7_Whom,q8_Whom,q9_Whom,q10_Whom⟩,zsf:=C_Card,znmb:=yzb X G zqpb,zkm:=⟨zjob,zuob,zgob,zznb⟩,zwc:=y_Card___init__,zvj:=zvj,zwj:=zwj,zoi:=zoi,zrg:=zrg,zni:=zni,zgeb:=ync X G zgeb,zpq:=ync X G zpq,zfeb:=ync X G zfeb,zob:=ync X G zob,zyg:=ync X G zyg,zul:=ync X G zul,zvjb:=ync X G zvjb,zpe:=ync X G zpe,zml:=ync X G zml,zpab:=ync X G zpab,zgf:=ync X G zgf,zbt:=ync X G zbt,zec:=ync X G zec,zvy:=t_LETTERS,zvn:=yzb X G zvn,zwy:=t_FIGURES,zwn:=yzb X G zwn,zup:=t_MOST_WORDS,zsi:=yzb X G zsi,zmm:=A_PARTS,zqo:=yzb X G zqo,zyv:=zyv,zvp:=t_MOST_RULES,zti:=yzb X G zti,zvw:=A_SORTS,zcw:=yzb X G zcw,zxv:=zxv,zbo:=A_CHANGES,zxn:=yzb X G zxn,zrn:=zrn,zui:=A_WHEN_KINDS,zri:=yzb X G zri,zpi:=zpi,zwg:=A_DEED_KINDS,ztg:=yzb X G ztg,zsg:=zsg,zmg:=A_PLAYER_KINDS,zkg:=yzb X G zkg,zig:=zig,zuw:=A_TURNS,zbw:=yzb X G zbw,zwv:=zwv,zndb:=t_POINTS,zun:=yzb X G zun,zmdb:=t_SCORES,ztn:=yzb X G ztn,zqmb:=t_GONE,zsdb:=yzb X G zsdb,zaib:=t_DECKS,zgs:=yzb X G zgs,zzhb:=t_HANDS,zfs:=yzb X G zfs,zyhb:=t_LYING,zvk:=yzb X G zvk,zpmb:=t_HEAP,zbz:=yzb X G zbz,zxhb:=t_MARKS,zro:=yzb X G zro,zldb:=t_WOUNDS,zrl:=yzb X G zrl }
theorem all_mk {l:yvn}{w:World}{K:yda}{mg:Str->Option Value}{fa:Addr}(hfa:mg "law" = some (.ref fa))(T:Tx K mg) :
  ∃fd:yxf,(∀(s:Shared) (v:Value),ycq s fd ⟨[v],[]⟩ [("_law_script",v)])∧∀base:Heap,K.In base->base.Ns ybb mg->FnOk l.prog w K mg base CX0 16 fa fd ["_law_script"] (zdkb K):=by
 cases znrb T.zyfb hfa;refine⟨_,(λs v=>?_),λbase kb _=>zbrb T kb⟩;obtain⟨oc,od,kV,doc,pm,an,cdv,ct,osl,e,lk,hcd⟩:=T.zyfb.F.ex;rw[e];exact .of_eq rfl
theorem walk {l:yvn}{q:yvb}{loose:List Str}{XP:(Str->Option Value)->Heap->Prop}{YP:World->Heap->Prop}{d:DefRec}{K:Params->yda}(hn:l.most=some 63)(hdf:d.params.defaults=[])
  (hY:∀(w:World) (h:Heap),YP w h->(K w.params).In h)
  (F:∀(w:World) (mg:Str->Option Value) fa (h:Heap),(K w.params).In h->h.Ns ybb mg->mg d.name=some (.ref fa) →
   ∃fd:yxf,(∀(s:Shared) (u:Value),ycq s fd ⟨[u],[]⟩ [("_law_script",u)])∧∀base:Heap,(K w.params).In base->base.Ns ybb mg->FnOk l.prog w (K w.params) mg base CX0 16 fa fd ["_law_script"] (zdkb (K w.params))) :
  yxr q loose XP YP l.row.toRowW d [] (λf vs=>ywr f vs) :=
 L2.zfnb (n:=63) (k:=16) (x:="_law_script") (CX:=λ_=>CX0) (sp:=λw=>zdkb (K w.params)) hn (by decide) hdf ⟨rfl,by decide,by decide⟩ hY F (λ_ _ a ns hl hO hS=>⟨a,ns,rfl,SqF.of hO hS,hl,λ_=>rfl⟩) λ_ _ _ _ _ z=>z
end K26
namespace PySem.W.Fast
def tw9011638671619887204:=()
def tw18385594708323143171:=()
def tw12026054127820973290:=()
def tw5144068684034902223:=()
def tw17010791240430767486:=()
def tw6285205799575764754:=()
def tw6890474520343428549:=()
def tw14634270487430138863:=()
def tw13742956671218301374:=()
def tw7165849591170978427:=()
def tw912502096439876776:=()
def tw11590717222049947965:=()
def tw17385901899242321851:=()
def tw14379137356670924982:=()
def tw16252435390291396360:=()
def tw13041062277587565559:=()
def tw8849476864230866397:=()
def tw17851720843790312386:=()
def tw20852120749193560:=()
def tw18214957438317090622:=()
def tw12594981978118585482:=()
def tw6173798009229167462:=()
def tw12600952550338584807:=()
def tw15493929905395260997:=()
def tw13564279239385879223:=()
def tw7395172626069729893:=()
def tw15721763787360166985:=()
def tw8326691241977388515:=()
def tw10949963329446648203:=()
def tw12750646950606346418:=()
def tw8017126360359926678:=()
def tw12130305021883440410:=()
def tw14072256904391546012:=()
def tw4356525177286955532:=()
def tw2830304074626621642:=()
def tw9855351646931708480:=()
def tw12515965226153488538:=()
def tw6815680011088353660:=()
def tw6017919763720147526:=()
def tw17477251705158975158:=()
def tw6979032871394648009:=()
def tw5611793121522436478:=()
def tw3962708342835457846:=()
def tw5351474378934975789:=()
def tw2563025652793442687:=()
def tw14160223405201034941:=()
def tw4338043473019799278:=()
def tw1737630683372574920:=()
def tw8085136929851692217:=()
def tw3041069861540279498:=()
def tw6152107887593293329:=()
def tw6927437083005774499:=()
def tw17194135102610400283:=()
def tw84455178974682175:=()
def tw1204159455881919183:=()
def tw3858409725989478462:=()
def tw8414738458742696568:=()
def tw2879879475844143090:=()
def tw2439441071644852757:=()
def tw11558004639275538554:=()
def tw2291353954405993:=()
def tw14438397066854566987:=()
def tw1354001457812633135:=()
def tw17609580050112797576:=()
def tw17848601636118845602:=()
def tw866249190165475349:=()
def tw7559990256873721202:=()
def tw9581162325320249934:=()
def tw5778395821987593840:=()
def tw13138058814670466852:=()
def tw5220944427839210421:=()
def tw16248121780795405151:=()
def tw8100099474546755921:=()
def tw6602984781955596320:=()
def tw6421368267811512886:=()
def tw14863812039584687585:=()
def tw15765976927301135875:=()
def tw7249219450452587929:=()
def tw14481212038349142935:=()
def tw13698087922059302554:=()
def tw3625054609645942112:=()
def tw4367518807457084561:=()
def tw4346248154373563246:=()
def tw17229790426525238621:=()
def tw16223927082463627894:=()
def tw10801214641990811338:=()
def tw17565486074376089970:=()
def tw9315926021040190114:=()
def tw955307202951585271:=()
def tw16317361357092328980:=()
def tw1434007321688371935:=()
def tw14930696016491647512:=()
def tw7680408835341340126:=()
def tw12729484432760211420:=()
def tw851184144724498663:=()
def tw8560845956798465736:=()
def tw2447785371352884425:=()
def tw4984607420480161084:=()
def tw13605209126505704463:=()
def tw7077289774014670048:=()
def tw13522043903144503584:=()
def tw7168691703496453393:=()
def tw11808719795302580745:=()
def tw9141433916179872731:=()
def tw14010045915814392975:=()
def tw9088389745243460877:=()
def tw2699256685689669153:=()
def tw1492398836893829507:=()
def tw3180777300760418677:=()
def tw17645614025880192873:=()
def tw11661314932020598863:=()
def tw12062777702750235447:=()
def tw1383743192350476556:=()
def tw11494073257862822451:=()
def tw3008685649624539552:=()
def tw11580745280403570593:=()
def tw2980114053689563501:=()
def tw14129406893603818507:=()
def tw4798615104397196686:=()
def tw6959218925459418488:=()
def tw3865317217892485502:=()
def tw11905561124732168159:=()
def tw6803212216610662533:=()
def tw1983413902687562779:=()
def tw11327029273266968421:=()
def tw13281564452395623446:=()
def tw8066348586883704261:=()
def tw5150125459120697495:=()
def tw204321981250455925:=()
def tw16122365041262172449:=()
def tw14187016023655993926:=()
def tw10484284767509949579:=()
def tw1888983473999547888:=()
def tw13304276646572678419:=()
def tw6093290559132100771:=()
def tw8774433100597869927:=()
def tw889805752107419317:=()
def tw316355886363283246:=()
def tw2664536789299600299:=()
def tw1480764997034338960:=()
def tw4457979521052862168:=()
def tw17293688795838325907:=()
def tw3453556401979583782:=()
def tw3164917469637557983:=()
def tw8401213901945502049:=()
def tw5899259124793683674:=()
def tw2205295560304159083:=()
def tw7398848364037165431:=()
def tw1835709358231804064:=()
def tw13309164726271602776:=()
def tw8950404727001721197:=()
def tw14392305492725452997:=()
def tw10920127750334004794:=()
def tw6846179213275224284:=()
def tw1361032951906011086:=()
def tw4642024710223530568:=()
def tw6088179702768745221:=()
def tw12084237841464651153:=()
def tw14229297448885940868:=()
def tw9439190140378046419:=()
def tw6629009749775131258:=()
def tw6297378895037041701:=()
def tw9928152386549918063:=()
def tw4385638252718938830:=()
def tw8632598030506342468:=()
def tw13990681950809514470:=()
def tw15858895906208539037:=()
def tw12586939442722417278:=()
def tw12450153743641061834:=()
def tw3954530040178681114:=()
def tw8095075811744630176:=()
def tw9091747259882865454:=()
def tw5388399302709723087:=()
def tw17093835570211790481:=()
def tw13319510168636223246:=()
def tw11219770629202951290:=()
def tw7433642228395598046:=()
def tw13039802088384787655:=()
def tw11994106966202266476:=()
def tw15788446699843873355:=()
def tw15922088016824909859:=()
def tw3040518392190352103:=()
def tw13071064433437241016:=()
def tw16592230024050002261:=()
def tw13099502327730515664:=()
def tw7316683622193739970:=()
def tw1762181010002602531:=()
def tw18446714201227464905:=()
def tw1597010836716004656:=()
def tw15699773097293024311:=()
def tw586356610951437086:=()
def tw10362777119389241228:=()
def tw3254909869369564868:=()
def tw14287961697350116126:=()
def tw15384776481083334593:=()
def tw2023528386298601140:=()
def tw1547665428837022958:=()
def tw10340121819041209070:=()
def tw11724414847064002896:=()
def tw8480670894034467408:=()
def tw17701475380463336164:=()
def tw10041718180013658015:=()
def tw17720337227220013500:=()
def tw10438793548199354305:=()
def tw17799003645222491985:=()
def tw264486360511257565:=()
def tw11716036114344943674:=()
def tw2128551008070732435:=()
def tw15893582456399315721:=()
def tw11364114107893247369:=()
def tw6032373364750707479:=()
def tw5657956973835008878:=()
def tw3702357010175692156:=()
def tw12573632206531481316:=()
def tw797615658348883304:=()
def tw15160737939752014877:=()
def tw8642635535788931399:=()
def tw11815944773787828102:=()
def tw663961355750625150:=()
def tw7928211521779677339:=()
def tw14733772054347548263:=()
def tw1296287613835477008:=()
def tw12324031392553934022:=()
def tw5264764233660313257:=()
def tw12143521504809149883:=()
def tw14413509622032999832:=()
def tw15606831543941761085:=()
def tw18151271330937946323:=()
def tw2748713579476420132:=()
def tw11150645371013180525:=()
def tw1640639070663071548:=()
def tw17822912358887632435:=()
def tw3894274161272989253:=()
def tw17909146070589915062:=()
def tw11572081470083906836:=()
def tw3763486661568003972:=()
def tw7422104711303351633:=()
def tw13248020177429556198:=()
def tw12280720963870404878:=()
def tw10679424697093874012:=()
def tw13425756660827162093:=()
def tw17354025268544142405:=()
def tw14677161735038078990:=()
def tw2656760029744655810:=()
def tw9367684888945121404:=()
def tw4939301956008681607:=()
def tw15707723430133127752:=()
def tw18300934765278101651:=()
def tw10947965333743433144:=()
def tw435635754666433712:=()
def tw7284539315572454736:=()
def tw5365504255206845594:=()
def tw8404783371648596985:=()
def tw8405854841617522065:=()
def tw17433231274053733193:=()
def tw17909638888900046381:=()
def tw10142345391604028133:=()
def tw17752040857694039835:=()
def tw5290225857099616139:=()
def tw18119620228572993628:=()
def tw13250414666908154211:=()
def tw15467073072960382115:=()
def tw10591575437232255723:=()
def tw868947440140354919:=()
def tw17324618722364642847:=()
def tw1873582052963179334:=()
def tw14448664627296764533:=()
def tw13464399607121754070:=()
def tw8217380957651860981:=()
def tw15986407652177338039:=()
def tw7559403502281012565:=()
def tw5461311414648094430:=()
def tw11486250333826666627:=()
def tw2354616324773292252:=()
def tw18253468745494855868:=()
def tw15283704739201549477:=()
def tw5174245381747420163:=()
def tw7355302898268799296:=()
def tw16031636306986456334:=()
def tw2569623224115380067:=()
def tw1673245235554989280:=()
def tw14629260736934932228:=()
def tw5622869573884244226:=()
def tw18396541561933463493:=()
def tw2120966153505594492:=()
def tw10372027666018716659:=()
def tw16309160885978498331:=()
def tw5313134501597085816:=()
def tw619262127608705392:=()
def tw12025950297719877858:=()
def tw1924265458962267644:=()
def tw1545101986214091594:=()
def tw9047397033029459439:=()
def tw6882737154838149795:=()
def tw10339251248007601958:=()
def tw3961007586591863826:=()
def tw1445117484084585989:=()
def tw14788827064907367143:=()
def tw688211355915575833:=()
def tw7797916894868681349:=()
def tw10990818095653237996:=()
def tw8691429900872509999:=()
def tw5857645349954822806:=()
def tw7982005681901279112:=()
def tw6261902020644832562:=()
def tw11572287318709657201:=()
def tw7985608860498771546:=()
def tw5778214578089352755:=()
def tw9477063338287535063:=()
def tw12914334455423155907:=()
def tw17620212872790089531:=()
def tw6049039869883637952:=()
def tw9631668072566460301:=()
end PySem.W.Fast
open PySem PySem.W PyProof.Rows
set_option maxRecDepth 100000 in
set_option maxHeartbeats 0 in
theorem PySem.Challenge.cw_turnstack_k26_what_happens_holds : PySem.Challenge.rw_turnstack_k26_what_happens.Holds := by
  w_on; o_law; k_head; (case hw => w_witness2)
  k_fill
  refine K26.walk (l := PySem.Challenge.rw_turnstack_k26_what_happens) rfl rfl (fun w h Y => PySem.W.kIn_of Y) ?F
  case F =>
    intro w mg fa h KX G hmg
    refine' K26.all_mk hmg (K26.mkT KX G ⟨L2.gf_of KX G ?qda ?qea ?qfa ?qga, L2.gf_of KX G ?qha ?qia ?qja ?qka, L2.gf_of KX G ?qla ?qma ?qna ?qoa, L2.gf_of KX G ?qyb ?qzb ?qac ?qbc, L2.gf_of KX G ?qcc ?qdc ?qec ?qfc, L2.gf_of KX G ?qgc ?qhc ?qic ?qjc, L2.gf_of KX G ?qpc ?qqc ?qrc ?qsc, L2.gf_of KX G ?qtc ?quc ?qvc ?qwc, L2.gf_of KX G ?qxc ?qyc ?qzc ?qad, L2.gf_of KX G ?qbd ?qcd ?qdd ?qed, L2.gf_of KX G ?qfd ?qgd ?qhd ?qid, L2.gf_of KX G ?qjd ?qkd ?qld ?qmd, L2.gf_of KX G ?qnd ?qod ?qpd ?qqd, L2.gf_of KX G ?qrd ?qsd ?qtd ?qud, L2.gf_of KX G ?qvd ?qwd ?qxd ?qyd, L2.gf_of KX G ?qzd ?qae ?qbe ?qce, L2.gf_of KX G ?qde ?qee ?qfe ?qge, L2.gf_of KX G ?qhe ?qie ?qje ?qke, L2.gf_of KX G ?qle ?qme ?qne ?qoe, L2.gf_of KX G ?qpe ?qqe ?qre ?qse, L2.gf_of KX G ?qte ?que ?qve ?qwe, L2.gf_of KX G ?qxe ?qye ?qze ?qaf, L2.gf_of KX G ?qbf ?qcf ?qdf ?qef, L2.gf_of KX G ?qff ?qgf ?qhf ?qif, L2.gf_of KX G ?qjf ?qkf ?qlf ?qmf, L2.gf_of KX G ?qnf ?qof ?qpf ?qqf, L2.gf_of KX G ?qrf ?qsf ?qtf ?quf, L2.gf_of KX G ?qvf ?qwf ?qxf ?qyf, L2.gf_of KX G ?qzf ?qag ?qbg ?qcg, L2.gf_of KX G ?qdg ?qeg ?qfg ?qgg, L2.gf_of KX G ?qhg ?qig ?qjg ?qkg, L2.gf_of KX G ?qlg ?qmg ?qng ?qog, L2.gf_of KX G ?qpg ?qqg ?qrg ?qsg, L2.gf_of KX G ?qtg ?qug ?qvg ?qwg, L2.gf_of KX G ?qxg ?qyg ?qzg ?qah, L2.gf_of KX G ?qbh ?qch ?qdh ?qeh, L2.gf_of KX G ?qfh ?qgh ?qhh ?qih, L2.gf_of KX G ?qjh ?qkh ?qlh ?qmh, L2.gf_of KX G ?qnh ?qoh ?qph ?qqh, L2.gf_of KX G ?qrh ?qsh ?qth ?quh, L2.gf_of KX G ?qvh ?qwh ?qxh ?qyh, L2.gf_of KX G ?qzh ?qai ?qbi ?qci, L2.gf_of KX G ?qdi ?qei ?qfi ?qgi⟩ ?qaa ?qhi ?qii ?qji ?qki (L2.if_of ?qpa ?qqa ?qra ?qsa ?qta ?qli ?qmi) (L2.mf_of ?qua ?qva ?qwa ?qxa ?qya) (L2.mf_of ?qza ?qab ?qbb ?qcb ?qdb) (L2.mf_of ?qeb ?qfb ?qgb ?qhb ?qib) (L2.mf_of ?qjb ?qkb ?qlb ?qmb ?qnb) (L2.mf_of ?qob ?qpb ?qqb ?qrb ?qsb) ?qni ?qoi ?qba ?qpi ?qqi ?qri ?qsi (L2.if_of ?qtb ?qub ?qvb ?qwb ?qxb ?qti ?qui) ?qvi ?qwi ?qxi ?qyi ?qzi ?qaj ?qbj ?qcj ?qdj ?qej ?qfj ?qgj ?qhj ?qca ?qij ?qjj ?qkj ?qlj (L2.if_of ?qkc ?qlc ?qmc ?qnc ?qoc ?qmj ?qnj) ?qoj ?qpj ?qqj ?qrj ?qsj ?qtj ?quj ?qvj ?qwj ?qxj ?qyj ?qzj ?qak ?qbk ?qck ?qdk ?qek ?qfk ?qgk ?qhk ?qik ?qjk ?qkk ?qlk ?qmk ?qnk ?qok ?qpk ?qqk ?qrk ?qsk ?qtk ?quk ?qvk ?qwk ?qxk ?qyk ?qzk ?qal ?qbl ?qcl ?qdl ?qel ?qfl ?qgl)
    case qaa | qba | qca | qda | qea | qfa | qga | qha | qia | qja | qka | qla | qma | qna | qoa | qpa | qqa | qra | qsa | qta | qua | qva | qwa | qxa | qya | qza | qab | qbb | qcb | qdb | qeb | qfb | qgb | qhb | qib | qjb | qkb | qlb | qmb | qnb | qob | qpb | qqb | qrb | qsb | qtb | qub | qvb | qwb | qxb | qyb | qzb | qac | qbc | qcc | qdc | qec | qfc | qgc | qhc | qic | qjc | qkc | qlc | qmc | qnc | qoc | qpc | qqc | qrc | qsc | qtc | quc | qvc | qwc | qxc | qyc | qzc | qad | qbd | qcd | qdd | qed | qfd | qgd | qhd | qid | qjd | qkd | qld | qmd | qnd | qod | qpd | qqd | qrd | qsd | qtd | qud | qvd | qwd | qxd | qyd | qzd | qae | qbe | qce | qde | qee | qfe | qge | qhe | qie | qje | qke | qle | qme | qne | qoe | qpe | qqe | qre | qse | qte | que | qve | qwe | qxe | qye | qze | qaf | qbf | qcf | qdf | qef | qff | qgf | qhf | qif | qjf | qkf | qlf | qmf | qnf | qof | qpf | qqf | qrf | qsf | qtf | quf | qvf | qwf | qxf | qyf | qzf | qag | qbg | qcg | qdg | qeg | qfg | qgg | qhg | qig | qjg | qkg | qlg | qmg | qng | qog | qpg | qqg | qrg | qsg | qtg | qug | qvg | qwg | qxg | qyg | qzg | qah | qbh | qch | qdh | qeh | qfh | qgh | qhh | qih | qjh | qkh | qlh | qmh | qnh | qoh | qph | qqh | qrh | qsh | qth | quh | qvh | qwh | qxh | qyh | qzh | qai | qbi | qci | qdi | qei | qfi | qgi | qhi | qii | qji | qki | qli | qmi | qni | qoi | qpi | qqi | qri | qsi | qti | qui | qvi | qwi | qxi => k_is
    case qyi | qzi | qaj | qbj | qcj | qdj | qej | qfj | qgj | qhj => first | k_is | kit_is | kernel_rfl
    case qij | qjj | qkj | qlj | qmj | qnj | qoj | qpj | qqj | qrj | qsj | qtj | quj | qvj | qwj | qxj | qyj | qzj | qak | qbk | qck | qdk | qek | qfk | qgk | qhk | qik | qjk => k_is
    case qkk => first | kernel_rfl | (unfold L2.TupK; kernel_rfl)
    case qlk | qmk => k_is
    case qnk => first | kernel_rfl | (unfold L2.TupK; kernel_rfl)
    case qok => k_is
    case qpk => first | kernel_rfl | (unfold L2.TupK; kernel_rfl)
    case qqk => k_is
    case qrk => first | kernel_rfl | (unfold L2.TupK; kernel_rfl)
    case qsk => k_is
    case qtk => first | kernel_rfl | (unfold L2.TupK; kernel_rfl)
    case quk => k_is
    case qvk => first | kernel_rfl | (unfold L2.TupK; kernel_rfl)
    case qwk => k_is
    case qxk => first | kernel_rfl | (unfold L2.TupK; kernel_rfl)
    case qyk | qzk | qal | qbl | qcl | qdl | qel | qfl | qgl => k_is
