import PyProof.Rows.All
import Wide.All
import OpenK.AllK
import Wide.FinOn
import Lean
import PyProof.EqAt
import PyProof.EqKinds
import PyProof.TupleCall
import PyProof.StrLawsTight
import PyProof.StrLawsChain
import KE.KSortTup
import PyProof.EnumIter
import PyProof.EnumMake
import PyProof.EnumFor
import KE.KDictOf
import PyProof.AttrMissHeap
import PyProof.Walks
import PyProof.WalksMore
import PyProof.P3In
import PyProof.DictIter
import PyProof.SumWalkG
import PyProof.Rows.SumAny
import PyProof.FactsAll.subtypes_4
import PyProof.ListOps
import PyProof.ListRange
import PyProof.FactsAll.tuple
import PyProof.ListMulRoad
import PyProof.EnumIter
import PyProof.EnumMake
import PyProof.EnumFor
import PyProof.FactsAll.set_2
import PyProof.StrLawsTight
import PyProof.StrLawsIn
import PyProof.ZipIter
import PySem.Challenge.RW_turnstack_k33_a_plain_look
set_option Elab.async false
set_option linter.all false
set_option maxRecDepth 100000
inductive Ex2 {A1 A2 : Type} (p : A1 → A2 → Prop) : Prop
  | mk (a1 : A1) (a2 : A2) (h : p a1 a2) : Ex2 p
inductive Ex3 {A1 A2 A3 : Type} (p : A1 → A2 → A3 → Prop) : Prop
  | mk (a1 : A1) (a2 : A2) (a3 : A3) (h : p a1 a2 a3) : Ex3 p
inductive Ex4 {A1 A2 A3 A4 : Type} (p : A1 → A2 → A3 → A4 → Prop) : Prop
  | mk (a1 : A1) (a2 : A2) (a3 : A3) (a4 : A4) (h : p a1 a2 a3 a4) : Ex4 p
inductive Ex5 {A1 A2 A3 A4 A5 : Type} (p : A1 → A2 → A3 → A4 → A5 → Prop) : Prop
  | mk (a1 : A1) (a2 : A2) (a3 : A3) (a4 : A4) (a5 : A5) (h : p a1 a2 a3 a4 a5) : Ex5 p
inductive Ex6 {A1 A2 A3 A4 A5 A6 : Type} (p : A1 → A2 → A3 → A4 → A5 → A6 → Prop) : Prop
  | mk (a1 : A1) (a2 : A2) (a3 : A3) (a4 : A4) (a5 : A5) (a6 : A6) (h : p a1 a2 a3 a4 a5 a6) : Ex6 p
inductive Ex7 {A1 A2 A3 A4 A5 A6 A7 : Type} (p : A1 → A2 → A3 → A4 → A5 → A6 → A7 → Prop) : Prop
  | mk (a1 : A1) (a2 : A2) (a3 : A3) (a4 : A4) (a5 : A5) (a6 : A6) (a7 : A7) (h : p a1 a2 a3 a4 a5 a6 a7) : Ex7 p
inductive Ex8 {A1 A2 A3 A4 A5 A6 A7 A8 : Type} (p : A1 → A2 → A3 → A4 → A5 → A6 → A7 → A8 → Prop) : Prop
  | mk (a1 : A1) (a2 : A2) (a3 : A3) (a4 : A4) (a5 : A5) (a6 : A6) (a7 : A7) (a8 : A8) (h : p a1 a2 a3 a4 a5 a6 a7 a8) : Ex8 p
inductive Ex9 {A1 A2 A3 A4 A5 A6 A7 A8 A9 : Type} (p : A1 → A2 → A3 → A4 → A5 → A6 → A7 → A8 → A9 → Prop) : Prop
  | mk (a1 : A1) (a2 : A2) (a3 : A3) (a4 : A4) (a5 : A5) (a6 : A6) (a7 : A7) (a8 : A8) (a9 : A9) (h : p a1 a2 a3 a4 a5 a6 a7 a8 a9) : Ex9 p
inductive Ex10 {A1 A2 A3 A4 A5 A6 A7 A8 A9 A10 : Type} (p : A1 → A2 → A3 → A4 → A5 → A6 → A7 → A8 → A9 → A10 → Prop) : Prop
  | mk (a1 : A1) (a2 : A2) (a3 : A3) (a4 : A4) (a5 : A5) (a6 : A6) (a7 : A7) (a8 : A8) (a9 : A9) (a10 : A10) (h : p a1 a2 a3 a4 a5 a6 a7 a8 a9 a10) : Ex10 p
inductive Ex11 {A1 A2 A3 A4 A5 A6 A7 A8 A9 A10 A11 : Type} (p : A1 → A2 → A3 → A4 → A5 → A6 → A7 → A8 → A9 → A10 → A11 → Prop) : Prop
  | mk (a1 : A1) (a2 : A2) (a3 : A3) (a4 : A4) (a5 : A5) (a6 : A6) (a7 : A7) (a8 : A8) (a9 : A9) (a10 : A10) (a11 : A11) (h : p a1 a2 a3 a4 a5 a6 a7 a8 a9 a10 a11) : Ex11 p
inductive Ex12 {A1 A2 A3 A4 A5 A6 A7 A8 A9 A10 A11 A12 : Type} (p : A1 → A2 → A3 → A4 → A5 → A6 → A7 → A8 → A9 → A10 → A11 → A12 → Prop) : Prop
  | mk (a1 : A1) (a2 : A2) (a3 : A3) (a4 : A4) (a5 : A5) (a6 : A6) (a7 : A7) (a8 : A8) (a9 : A9) (a10 : A10) (a11 : A11) (a12 : A12) (h : p a1 a2 a3 a4 a5 a6 a7 a8 a9 a10 a11 a12) : Ex12 p
inductive Ex13 {A1 A2 A3 A4 A5 A6 A7 A8 A9 A10 A11 A12 A13 : Type} (p : A1 → A2 → A3 → A4 → A5 → A6 → A7 → A8 → A9 → A10 → A11 → A12 → A13 → Prop) : Prop
  | mk (a1 : A1) (a2 : A2) (a3 : A3) (a4 : A4) (a5 : A5) (a6 : A6) (a7 : A7) (a8 : A8) (a9 : A9) (a10 : A10) (a11 : A11) (a12 : A12) (a13 : A13) (h : p a1 a2 a3 a4 a5 a6 a7 a8 a9 a10 a11 a12 a13) : Ex13 p
inductive Ex14 {A1 A2 A3 A4 A5 A6 A7 A8 A9 A10 A11 A12 A13 A14 : Type} (p : A1 → A2 → A3 → A4 → A5 → A6 → A7 → A8 → A9 → A10 → A11 → A12 → A13 → A14 → Prop) : Prop
  | mk (a1 : A1) (a2 : A2) (a3 : A3) (a4 : A4) (a5 : A5) (a6 : A6) (a7 : A7) (a8 : A8) (a9 : A9) (a10 : A10) (a11 : A11) (a12 : A12) (a13 : A13) (a14 : A14) (h : p a1 a2 a3 a4 a5 a6 a7 a8 a9 a10 a11 a12 a13 a14) : Ex14 p
set_option maxHeartbeats 0
noncomputable section
open PySem renaming wpAny_bind→yaa,wpAny_pure→yda,sizeLine→yxa,mainGlobals→yza,Program→ytb,wpAny_setField_rec→yxb,wpAny_call_entry→yic,boot_len→ylc,wpAny_holding→yoc,wpAny_callSpecial?_slot→ypc,codeAny_builtin→yxc,wpAny_newObj_type→ydd,wpAny_setState_of→yed,starEach→yjd,intKind→ymd,wpAny_field→yod,NameKind→yqd,strKind→yvd,compareOp→yzd,wpAny_truthy_bool→yee,SetTable→yie,Builtin→yue,wpAny_mono→ywe,wpAny_askSetting→yye,plainId_quiet→ybf,wpAny_ite_split→yef,wpAny_pyIter_tuple→yff,wpAny_rule→ytf,scanBound→yag,FuncData→ycg,codeAny_mono→yjg,wpAny_seqItems→yrg,wpAny_passesOwn→ysg,fits_of_scanBound→yxg,pickOrder→yzg,mem_of_lookup→yfh,bootBuiltins→yph,setsByText→yai,wpAny_runValue→yhi,relayAll→yii,wpAny_typeOf→ymi,binaryOp→yqi,attributeBase→yri,wpAny_Call_Name_kw→ysi,wpAny_attempt→yxi,wpAny_updateSeq→yzi,wpAny_newList→yaj,assignEach→yhj,wpAny_pyIter_list→yij,codeAny→yjj,sliceBounds→ylj,wpAny_storeSet_of→ymj,wpAny_newTuple→ysj,weight_type_call_type→ytj,noFill_tuple_add→yzj,wpAny_isInstance→yak,setNext→ybk,codeAny_call_builtin→yek,wpAny_updateSeq_pair→yhk,call_meets→ymk,wpAny_execs_nil→ypk,letOwnedTupleGo→yqk,ElemsOf→ytk,putSet_of→yuk,codeAny_of_tree→yvk,wpAny_setEntries_of→ywk,firstArgMember→yul,wpAny_load→yam,foldedSetIterable→ybm,wpAny_sequenceKey→ydm,wpAny_comprehension_free→yem,slot_dict_getitem→yhm,seqItems?→yim,wpAny_pyIter_slot→ykm,behindInMarks→ytm,keywordEach→yum,seq_tuple_add→ywm,setField→yym,unsupported→yzm,wpAny_onRaise→ygn,check_set_init_1→yon,Within→yxn,holding→yyn,concat_meets→yfo,setAddHashed→yio,hashByValue_scannable→yjo,builtinLookup_eq_fast→ylo,wpAny_call→ycp,typeIs_str→ydp,ZipApart→yfp,isSubtype_type→yip,isSubtype_stop→yjp,getItem→yop,wpAny_letGo→yrp,wpAny_standAt→yvp,BindsTo→ylq,Keyword→ymq,callerA→ynq,relabel→yoq,isInstance→ypq,checkCount→yrq,backToKw→yor,raiseNew→ypr,swapsWith→yqr,getMethod→yrr,notedBy→ytr,newFields→ywr,collect→yxr,updateSeq→yyr,call→yfs,Fin→yms
open PySem.Heap renaming get?_push_of_some→yba,get?_push_size→yfa,lt_size→yma,size_push→yjc,get?_update_other→yzc,get?_update_self→ygd,SameBut→yxd,get?_push_ne→ytq,size_update→ylr,ExtBut→ycs
open List renaming length_map→yca,getElem?_eq_some_iff→yga,mem_singleton→yia,length_append→yja,mem_cons→yka,getElem?_map→yla,size_toArray→yna,mem_cons_of_mem→yoa,mem_cons_self→ypa,take_add_one→yqa,mem_of_getElem?→yta,map_append→yva,length_take→ywa,getElem?_eq_getElem→ybb,take_of_length_le→yfb,Nodup→yjb,getElem?_append_right→ykb,getD_eq_getElem?_getD→ylb,replicate→ypb,take_length→yrb,length_filter_le→ysb,length_cons→yub,mem_append_right→yzb,append_assoc→yec,map_cons→ygc,mem_filter→yhc,mem_map→ymc,append_nil→ync,getElem?_cons_succ→yqc,getElem?_append_left→yrc,mem_append→ywc,filter_cons_of_pos→yhd,filter_cons_of_neg→yid,length_replicate→ysd,length_singleton→ytd,map_set→ybe,getElem?_zipWith→yce,foldl_append→yge,length_set→yle,not_mem_nil→ype,nodup_append→yte,filter_append→yve,lookup→yze,mem_or_eq_of_mem_set→ycf,getElem?_take_of_lt→ygf,lookup_cons→yjf,all_eq_true→ykf,mem_append_left→ylf,getElem?_of_mem→ynf,getElem?_cons_zero→yof,range→ysf,length_range→yuf,filter_sublist→ybg,getElem?_eq_none→ymg,pairwise_iff_getElem→yqg,map_eq_nil_iff→ykh,length_drop→ylh,getElem_map→ymh,nodup_cons→yqh,map_nil→yrh,map_map→ysh,getElem?_set_ne→ydi,replicate_succ'→yei,length_zipWith→yli,getElem?_drop→yti,findIdx?_eq_some_iff_getElem→yui,length_eq_zero_iff→yyi,getElem?_set_self→ybj,getElem?_inj→ypj,mem_range→yqj,cons_lt_cons_iff→ywj,set_append_right→yyj,cons_append→yck,cons_ne_nil→ydk,Pairwise→yjk,sum_cons→ylk,filterMap_cons→yok,map_congr_left→yal,length_eraseIdx_of_lt→yjl,pairwise_cons→ypl,findIdx?_eq_none_iff→ytl,take_sublist→ycm,Perm→yjm,filter_congr→yqm,getElem?_replicate→yvm,lt_trans→ydn,pairwise_singleton→yhn,set→yjn,getElem_mem→ynn,pairwise_lt_range→yun,filter_eq_nil_iff→ywn,of_mem_zip→yeo,forIn_cons→yho,getElem?_toArray→ymo,take_append_drop→yto,nil_append→ywo,contains_iff_mem→yxo,pairwise_append→ygp,set_append_left→yhp,length→ynp,filter_eq_self→ysp,mem_filterMap→ywp,any_cons→yyp,map_take→yeq,map_drop→yfq,perm_nil→ygq,mem_replicate→yiq,ext_getElem?→yqq,pairwise_map→yxq,le_antisymm→yjr,map_fst_zip→ykr,zipIdx_cons→ymr,not_lt→yas
open PySem.W renaming Frag→yea,nsIn→ydb,findIn→yob,mg_of→yvb,mg_none_of→yyb,kitOne→yad,kia_one→yke,emptyDict→yse,keepIn→yrf,instObj→ywf,plainGet→yig,hasDictIn→ytg,fnOf→ydh,plainOver→yxh,codeIn→yfi,specialIn→ykj,plainGet_of→ysk,isFn→ykl,callWith_K→yll,lookIn→yql,methodObj→yzl,cellsFrom_some→yrn,takerIn→yzn,makesIn→yao,takesIn→yco,methodCall_KW→ydo,OpenLaw→ygo,mroIn→yxp,kitx_list→yjq,kitx_dict→ykq,handedIn→ygr,WalkO→ygs
open Nat renaming le_refl→yha,lt_of_lt_of_le→yua,ne_of_lt→yab,zero_le→ycb,le_trans→yqb,lt_succ_of_lt→yhe,lt_irrefl→yoe,le_of_lt→yre,ne_of_gt→yxe,lt_succ_self→yhf,le_succ→yif,add_sub_cancel_left→yqf,le_succ_of_le→ybh,lt_or_ge→yeh,add_le_add_right→yik,lt_trichotomy→ymm,min_le_right→yln,le_add_right→yqn,lt_of_succ_lt_succ→yvn,le_of_eq→ybo,min_self→yro,sub_self→yyo,eq_zero_or_pos→ycq,sub_zero→yar
open Array renaming length_toList→yra,getElem?_eq_getElem→yeb,getElem?_toList→yfc,toArray_toList→ymf,getD_eq_getD_getElem?→yzf,getElem?_eq_none→ydg,toList_append→yih,perm_iff_toList_perm→yci,toList_inj→yji,toList_push→ynj,toList_extract→ygk,size_append→yom,getElem_mem→yuq
open Int renaming toNat_natCast→ysa,natAbs_natCast→yhq
open PySem.F renaming plainAttrs_list→yya,called_set→yib,slot_list_append→ymb,type_list_append→ynb,plainAttrs_str→yfg,slot_tuple_iterator_next→ygg,plain_extend_loop→yog,args_tuple_add_2→yug,entry_tuple_add→ygh,plain_list_iadd→yhh,slot_tuple_add→ynh,slot_set_iter→yth,slot_enumerate_next→yuh,slot_list_extend→yoi,type_list_extend→ypi,entry_type_call→ywi,typeCall_set_1→ycj,entry_set_init→ydj,slot_str_split→yej,type_str_split→yfj,args_tuple_iterator_next_1→ykk,plain_proto_collect→yyk,entry_tuple_iterator_next→ybl,sub_tuple_frozenset→ycl,slot_zip_next→ydl,args_str_split_2→yml,entry_str_split→yfm,slot_list_insert→yrm,type_list_insert→ysm,args_set_iter_1→yan,args_enumerate_next_1→yfn,slot_str_split→ymn,entry_enumerate_next→ytn,plain_set_new→yko,sub_tuple_set→yuo,slot_str_join→yap,type_str_join→ybp
open Option renaming map_eq_some_iff→ygb,toList_some→ywb,toList_none→yaq,getD_none→yhr
open Bool renaming false_ne_true→yhb,and_eq_true→yde,false_and→yaf,false_eq_true→ykg,true_and→yjh,eq_false_iff→ybi,eq_iff_iff→yrk,and_false→yrl,or_false→yxm,and_true→ykn,false_or→ydq,true_or→yfr
open PySem.PyData renaming canLayAll0→yac,depthAll→ycc,canLay0→ycd,depth→yje,eqv→yyh,eqvAll→yin
open PySem.SetTable renaming below→ybc,grown→yrd,insertAt→ynm,orStandIn→yzp,has→yer,relaid→yvr,laid→yhs,fits→yis,slot→yjs
open PySem.PassesOwn renaming never→ydc
open PySem.Str renaming join→ykc,ofString→ydf,length_append→ywq,empty→ysr
open PySem.SeqAt renaming shaped→ysc,EqAt→yfe,canLay_of_shaped→yeg,eqv_refl→ylp,readOf→ydr
open PyProof.Rows.F renaming plain_set_update_loop→ytc,entry_set_update_loop→yme
open PySem.Builtin.SmallTypes renaming nextOf→yuc,ownedTupleIsFree→yyc,ownedTupleHandOut→yne
open PyProof.Rows renaming boot_tuple→yvc,slot_tuple_getitem→ypd,wpS_bind→yyd,wpS_pure→ypf,callWith_type1→yxf,IntsAre→yyf,boot_sorted→yvh,wpS_forRange→yvj,entry_proto_collect'→yfk,entry_list_sort→yzk,boot_list→yfl,pairsOf_size→yol,StrsAre→ysl,sortedS→yvl,slot_list_sort→ywl,args_list_sort→yxl,listUpdate_at→yen,entry_list_iadd'→ypn,subscriptTail_builtinR→ysn,plain_sorted→yno,entry_sorted→yoo,args_sorted1→ypo,pendingOf→yqo,sortedAll→yso,boot_isinstance→yzo,SortKind→yep,pairsOf_toList→ykp,AllBare→ymp,kind_sorted→ypp,pairsOf→yqp,size_push'→ysq,mem_zip_self→ybr,listItems_at→ycr,wpS_get→yzr
open PySem.Around renaming under_plainId→ybd,under_plain→ynl,under→yyq,in1_units→ynr
open Option.some renaming inj→yfd
open Ne renaming symm→ykd
open PySem.Builtin.Str renaming occurrences→yud,partsBetween→ywg,strKind→yki
open PySem.Obj renaming mapSeq→ywd,putSet→yyg,data_mapFields→ybq
open PySem.Builtin.List renaming listExtendWith→yae,listSameRef→yah,listTooLong→yni,listLengthHint→yxk
open PySem.Heap.SameBut renaming update→yqe,refl→ygm
open PySem.SetTable.below renaming go→yvf
open False renaming elim→yhg
open PySem.Txt renaming split→ylg
open PySem.Builtin.Slice renaming slicePlaces→yng,sliceAdjust→ygi,sliceApplied→yhl
open PySem.Calls renaming call_function_entry→ypg,Name_function_global→ygl
open PySem.Builtin.Tuple renaming tupleExact→yvg,tupleItemsOf→yil
open List.Pairwise renaming imp→ych,sublist→yvo
open PySem.Builtin.Frozenset renaming updateFrom→yoh,sizeOf→ylm,slot0→ybn
open PySem.Value renaming isStrOf→ywh,isInt→ygj,isStrOf_shape→ynk,isInt_shape→yyl
open PySem.Shared renaming TypeIs→yzh,heap→yds
open PySem.Code renaming quiet_builtin→yvi,isFrame→yzq
open PySem.MeetsSeq renaming plain_remove_loop→yoj
open List.Perm renaming refl→yrj,eq_of_pairwise→ypm,append→yir
open PyProof.Rows.KTD renaming datLooks→yuj,tabLook→ycn,Dat→yur
open List.Nodup renaming length_le_of_subset→yxj
open List.cons renaming injEq→yel
open PySem.SeqAt.EqAt renaming int_str→ytp,str_int→yup
open PySem.SetTable.probe renaming go→yvq
open Array.Perm renaming refl→ybs
open PyProof.Rows.IsTup renaming new→yks
open PySem.pickOrder renaming go→yls
namespace L2
open PySem PySem.Spec PyProof.Rows
abbrev Key:=Sum Int Str
def zjsb:Key->Value->Bool
 | .inl k,v=>ygj k v
 | .inr x,v=>ywh x v
def keyH (w:World):Key->Int
 | .inl k=>hashInt k
 | .inr x=>hashStr w x
theorem zid:∀{k:Key} {v:Value},zjsb k v=true->(Ex2 λi t=>k=Sum.inl i∧v=Value.int i t)∨(Ex2 λx t=>k=Sum.inr x∧v=Value.str x t)
 | .inl i,v,h=>by
  obtain⟨t,e⟩:=yyl (k:=i) (v:=v) h;exact .inl ⟨i,t,rfl,e⟩
 | .inr x,v,h=>by
  obtain⟨t,e⟩:=ynk (x:=x) (v:=v) h;exact .inr ⟨x,t,rfl,e⟩
theorem zisb (a b:Int):decide ((Sum.inl a:Key)=Sum.inl b)=(a==b):=by
 by_cases e:a=b
 ·subst e;simp
 ·have h:¬ (Sum.inl a:Key)=Sum.inl b:=λq=>e (Sum.inl.inj q);rw[decide_eq_false h];exact (beq_eq_false_iff_ne.mpr e).symm
theorem zesb (a b:Str):decide ((Sum.inr a:Key)=Sum.inr b)=decide (a=b):=by
 by_cases e:a=b
 ·subst e;simp
 ·have h:¬ (Sum.inr a:Key)=Sum.inr b:=λq=>e (Sum.inr.inj q);rw[decide_eq_false h,decide_eq_false e]
theorem zgsb (a:Int)(b:Str):decide ((Sum.inl a:Key)=Sum.inr b)=false:=decide_eq_false (λq=>nomatch q)
theorem zfsb (a:Str)(b:Int):decide ((Sum.inr a:Key)=Sum.inl b)=false:=decide_eq_false (λq=>nomatch q)
def zfz (prog:ytb)(w:World):PySem.KeyKind prog w Key where
 is:=zjsb
 hash:=keyH w
 inj:=λv a b ha hb=>by
  rcases zid ha with⟨i,t,rfl,rfl⟩|⟨x,t,rfl,rfl⟩
  ·rcases zid hb with⟨j,u,rfl,e⟩|⟨y,u,rfl,e⟩
   ·injection e with e1 _;rw[e1]
   ·exact nomatch e
  ·rcases zid hb with⟨j,u,rfl,e⟩|⟨y,u,rfl,e⟩
   ·exact nomatch e
   ·injection e with e1 _;rw[e1]
 byValue:=λk v h=>by
  rcases zid h with⟨i,t,rfl,rfl⟩|⟨x,t,rfl,rfl⟩<;>rfl
 pyHash:=λhv h=>by
  rcases zid hv with⟨i,t,rfl,rfl⟩|⟨x,t,rfl,rfl⟩
  ·exact wpAny_pyHash_int h
  ·exact wpAny_pyHash_str h
 eqBool:=λhu hv h=>by
  rcases zid hu with⟨i,t,rfl,rfl⟩|⟨x,t,rfl,rfl⟩
  ·rcases zid hv with⟨j,u,rfl,rfl⟩|⟨y,u,rfl,rfl⟩
   ·rw[zisb] at h;exact wpAny_eqBool_int h
   ·rw[zgsb] at h;exact ytp i t y u _ _ _ _ h
  ·rcases zid hv with⟨j,u,rfl,rfl⟩|⟨y,u,rfl,rfl⟩
   ·rw[zfsb] at h;exact yup x t j u _ _ _ _ h
   ·rw[zesb] at h;exact wpAny_eqBool_str h
 «strs»:=λk x t v h=>by
  rcases zid h with⟨i,u,rfl,e⟩|⟨y,u,rfl,e⟩
  ·exact nomatch e
  ·injection e with e1 _
   subst e1;cases v<;>rfl
end L2
namespace L2
open PySem PySem.Spec PyProof.Rows
inductive V where
 | non|bl (b:Bool)|int (i:Int)|str (x:Str)|byt (b:Array UInt8)|flt (b:UInt64)|ref (a:Addr)|ty (n:String)
 deriving DecidableEq
def RelV:V->Value->Prop
 | .non,u=>u=Value.none
 | .bl b,u=>u=Value.bool b
 | .int i,u=>∃t,u=Value.int i t
 | .str x,u=>∃t,u=Value.str x t
 | .byt b,u=>∃t,u=Value.bytes b t
 | .flt b,u=>∃t,u=Value.float b t
 | .ref a,u=>u=Value.ref a
 | .ty n,u=>u=Value.type n
abbrev Vals:List V->List Value->Prop:=Paired RelV
theorem Vals.length {xs:List V}{us:List Value}(r:Vals xs us):xs.length=us.length:=Paired.length r
theorem Vals.get:∀{xs:List V} {us:List Value} {i:Nat} {x:V},Vals xs us->xs[i]?=some x->∃u,us[i]?=some u∧RelV x u
 | _,_,_,_,.nil,e=>by simp at e
 | _,_,0,_,.cons r _,e=>by simp at e;subst e;exact⟨_,rfl,r⟩
 | _,_,i+1,x,.cons _ t,e=>by
  obtain⟨u,h1,h2⟩:=Vals.get (i:=i) (x:=x) t (by simpa using e);exact⟨u,by simpa using h1,h2⟩
theorem Vals.set {x:V}{u:Value}(r:RelV x u):∀{xs:List V} {us:List Value} (i:Nat),Vals xs us->Vals (xs.set i x) (us.set i u)
 | _,_,_,.nil=>.nil
 | _,_,0,.cons _ t=>.cons r t
 | _,_,i+1,.cons q t=>.cons q (Vals.set r i t)
theorem Vals.append:∀{xs ys:List V} {us ws:List Value},Vals xs us->Vals ys ws->Vals (xs++ys) (us++ws)
 | _,_,_,_,.nil,s=>s
 | _,_,_,_,.cons r t,s=>.cons r (Vals.append t s)
theorem Vals.take:∀{xs:List V} {us:List Value} (n:Nat),Vals xs us->Vals (xs.take n) (us.take n)
 | _,_,0,_=>.nil
 | _,_,_+1,.nil=>.nil
 | _,_,n+1,.cons r t=>.cons r (Vals.take n t)
theorem Vals.drop:∀{xs:List V} {us:List Value} (n:Nat),Vals xs us->Vals (xs.drop n) (us.drop n)
 | _,_,0,r=>r
 | _,_,_+1,.nil=>.nil
 | _,_,n+1,.cons _ t=>Vals.drop n t
def RelO:Option V->Option Value->Prop
 | some v,some u=>RelV v u
 | none,none=>True
 | _,_=>False
def KV {κ:Type}:List (κ×V)->List (κ×Value)->Prop:=Paired λ(p:κ×V) (q:κ×Value)=>p.1=q.1∧RelV p.2 q.2
def kV:Key->V
 | .inl i=>.int i
 | .inr x=>.str x
inductive HO where
 | lst (xs:List V)
 | tup (xs:List V)
 | dK (kvs:List (Key×V))|dT (kvs:List (List Key×V))
 | set (S:Int->Bool) (n:Nat)
 | ins (C dx:Addr) (fs:List (Str×V))
 | own (x:Addr)
 | xd (fs:List (Str×V))
 | met (f x:Addr)
 | rng (lo hi:Int)
 | frz (o:Obj) (u:HO)
 | tbl (ps:Array Value)
 | ext (φ:Heap->Prop)
abbrev Hp:=Addr->Option HO
def upd (H:Hp)(a:Addr)(o:HO):Hp:=λb=>if b=a then some o else H b
theorem zua {H:Hp}{a:Addr}{o:HO}:upd H a o a=some o:=by unfold upd;rw[if_pos rfl]
theorem zta {H:Hp}{a b:Addr}{o:HO}(h:b≠a):upd H a o b=H b:=by unfold upd;rw[if_neg h]
theorem zno {H:Hp}{a:Addr}{o u:HO}:upd (upd H a o) a u=upd H a u:=by
 funext b;unfold upd;split<;>rfl
theorem zurb {H:Hp}{a b:Addr}{o u:HO}(h:H a=some o)(h':H b=some u)(d:o≠u):a≠b:=by
 intro e;subst e;rw[h] at h';exact d (yfd h')
theorem zga {H:Hp}{a b:Addr}{o:HO}(h:H a=some o)(h':H b=none):a≠b:=by
 intro e;subst e;rw[h] at h';cases h'
section
variable (P:ytb)(w:World)
def zvh (H:Hp)(h:Heap)(a:Addr):HO->Prop
 | .lst xs=>xs.length≤yxa∧Ex2 λ(its:List Value) (n:Nat)=>Vals xs its∧h.get? a=some { cls:=.type "list",data:=.seq its.toArray n }
 | .tup xs=>xs.length≤yxa∧∃its:List Value,Vals xs its∧IsTup h a its.toArray
 | .dK kvs=>kvs.length≤yxa∧(a==sysModules)=false∧∃vs,KV kvs vs∧h.DictOf (zfz P w) a vs
 | .dT kvs=>kvs.length≤yxa∧(a==sysModules)=false∧∃xs:List (List Key×Addr×Value),
   Paired (λ(p:List Key×V) (q:List Key×Addr×Value)=>p.1=q.1∧H q.2.1=some (.tup (p.1.map kV))∧RelV p.2 q.2.2) kvs xs ∧
   Ex3 λo es ep=>h.get? a=some o∧o.ExactDict∧o.data = .dict es ep∧es.toList=xs.map (entryOfKey (tupleKind (zfz P w)))∧(xs.map (·.1)).Nodup
 | .set S n=>h.SetOf (intKind P w) a S n
 | .ins C dx fs=>H dx=some (.own a)∧fs.length≤1000∧dx≠a∧h.get? a=some (ywf C dx) ∧
   ∃mA,h.Ns1 dx mA∧(∀f,RelO (fs.lookup f) (mA f))∧yxn mA (fs.map (·.1))
 | .own _=>∃o,h.get? a=some o
 | .xd fs=>∃mA,h.Ns1 a mA∧∀f,RelO (fs.lookup f) (mA f)
 | .rng lo hi=>Ex3 λt u v=>h.get? a=some { cls:=.type "range",data:=.fields #[.int lo t,.int hi u,.int 1 v] }
 | .frz o u=>h.get? a=some o∧zvh H h a u
 | .tbl ps=>h.get? a=some { cls:=.none,data:=.fields ps }
 | .met f x=>h.get? a=some (yzl (.ref f) (.ref x))
 | .ext φ=>φ h∧(∃o,h.get? a=some o)∧∀h1 h2:Heap,φ h1->(∀o,h1.get? a=some o->h2.get? a=some o)->φ h2
def HOk (H:Hp)(h:Heap):Prop:=∀a o,H a=some o->zvh P w H h a o
end
section
variable {P:ytb}{w:World}{H H':Hp}{h h':Heap}{a:Addr}{o:HO}
theorem zvh.lt (x:zvh P w H h a o):a<h.objs.size:=by
 cases o with
 | lst xs=>obtain⟨_,_,_,_,e⟩:=x;exact yma e
 | tup xs=>obtain⟨_,_,_,p⟩:=x;exact p.lt
 | dK kvs=>obtain⟨_,_,_,_,o,_,_,e,_⟩:=x;exact yma e
 | dT kvs=>obtain⟨_,_,_,_,o,_,_,e,_⟩:=x;exact yma e
 | set S n=>obtain⟨o,_,_,_,e,_⟩:=x;exact yma e
 | ins C dx fs=>obtain⟨_,_,_,e,_⟩:=x;exact yma e
 | own y=>obtain⟨_,e⟩:=x;exact yma e
 | xd fs=>obtain⟨_,⟨_,_,_,e,_⟩,_⟩:=x;exact yma e
 | rng lo hi=>obtain⟨_,_,_,e⟩:=x;exact yma e
 | frz ob u=>obtain⟨e,_⟩:=x;exact yma e
 | tbl ps=>exact yma (show h.get? a=some _ from x)
 | met f y=>exact yma (show h.get? a=some _ from x)
 | ext φ=>obtain⟨_,⟨_,e⟩,_⟩:=x;exact yma e
theorem Paired.mapP {α β:Type}{F G:α->β->Prop}:∀{l₁:List α} {l₂:List β},Paired F l₁ l₂->(∀a b,F a b->G a b)->Paired G l₁ l₂
 | _,_,.nil,_=>.nil
 | _,_,.cons r t,f=>.cons (f _ _ r) (Paired.mapP t f)
theorem zvh.stay (x:zvh P w H h a o)(k:∀b u,(b=a∨H b=some (.own a))->h.get? b=some u->h'.get? b=some u)
  (ho:∀b,H b=some (.own a)->H' b=some (.own a)) (ht:∀b xs,H b=some (.tup xs)->H' b=some (.tup xs)):zvh P w H' h' a o:=by
 induction o with
 | lst xs=>obtain⟨z,its,n,r,e⟩:=x;exact⟨z,its,n,r,k _ _ (.inl rfl) e⟩
 | tup xs=>obtain⟨z,its,r,ob,e,c⟩:=x;exact⟨z,its,r,ob,k _ _ (.inl rfl) e,c⟩
 | dK kvs=>obtain⟨z,y,vs,r,ob,es,ep,e,c⟩:=x;exact⟨z,y,vs,r,ob,es,ep,k _ _ (.inl rfl) e,c⟩
 | dT kvs =>
  obtain⟨z,y,xs,r,ob,es,ep,e,c⟩:=x;exact⟨z,y,xs,Paired.mapP r λp q z=>⟨z.1,ht _ _ z.2.1,z.2.2⟩,ob,es,ep,k _ _ (.inl rfl) e,c⟩
 | set S n=>obtain⟨ob,es,ep,t,e,c⟩:=x;exact⟨ob,es,ep,t,k _ _ (.inl rfl) e,c⟩
 | ins C dx fs =>
  obtain⟨d,z,ne,e,mA,⟨od,es,ep,e2,c⟩,r⟩:=x;exact⟨ho _ d,z,ne,k _ _ (.inl rfl) e,mA,⟨od,es,ep,k _ _ (.inr d) e2,c⟩,r⟩
 | own y=>obtain⟨ob,e⟩:=x;exact⟨ob,k _ _ (.inl rfl) e⟩
 | xd fs=>obtain⟨mA,⟨od,es,ep,e,c⟩,r⟩:=x;exact⟨mA,⟨od,es,ep,k _ _ (.inl rfl) e,c⟩,r⟩
 | rng lo hi=>obtain⟨t,u,v,e⟩:=x;exact⟨t,u,v,k _ _ (.inl rfl) e⟩
 | frz ob u ih=>obtain⟨e,q⟩:=x;exact⟨k _ _ (.inl rfl) e,ih q⟩
 | tbl ps =>
  have e:h.get? a=some { cls:=.none,data:=.fields ps }:=x;show h'.get? a=some { cls:=.none,data:=.fields ps }
  exact k a _ (.inl rfl) e
 | met f y =>
  have e:h.get? a=some (yzl (.ref f) (.ref y)):=x;show h'.get? a=some (yzl (.ref f) (.ref y))
  exact k a _ (.inl rfl) e
 | ext φ=>obtain⟨p,⟨o,e⟩,st⟩:=x;exact⟨st _ _ p λo q=>k _ _ (.inl rfl) q,⟨o,k _ _ (.inl rfl) e⟩,st⟩
theorem HOk.lt (x:HOk P w H h)(e:H a=some o):a<h.objs.size:=(x a o e).lt
theorem HOk.fresh (x:HOk P w H h)(e:h.objs.size≤a):H a=none:=by
 cases q:H a with
 | none=>rfl
 | some u=>exact absurd (yua (x.lt q) e) (yoe _)
theorem HOk.kept (x:HOk P w H h)(k:∀b u,h.get? b=some u->h'.get? b=some u):HOk P w H h':=λa o e =>
 (x a o e).stay (λb u _ q=>k b u q) (λ_ q=>q) λ_ _ q=>q
theorem HOk.laid (x:HOk P w H h)(k:∀b u,h.get? b=some u->h'.get? b=some u)(hp:h.objs.size≤a)(new:zvh P w (upd H a o) h' a o):HOk P w (upd H a o) h':=λb u e=>by
 have hn:=x.fresh hp
 by_cases hb:b=a
 ·subst hb;rw[zua] at e;cases e;exact new
 ·rw[zta hb] at e;exact (x b u e).stay (λc v _ q=>k c v q) (λc q=>by rw[zta (zga q hn)];exact q) λc xs q=>by rw[zta (zga q hn)];exact q
end
def Rd (H:Hp)(a:Addr)(u:HO):Prop:=H a=some u∨∃o,H a=some (.frz o u)
theorem Rd.ok {P:ytb}{w:World}{H:Hp}{h:Heap}{a:Addr}{u:HO}(r:Rd H a u)(x:HOk P w H h):zvh P w H h a u:=by
 rcases r with r|⟨o,r⟩
 ·exact x a u r
 ·obtain⟨_,q⟩:=x a _ r;exact q
def Mut:Option HO->Prop
 | some (.lst _)=>True
 | some (.dK _)=>True
 | some (.dT _)=>True
 | some (.set _ _)=>True
 | some (.ins _ _ _)=>True
 | some (.ext _)=>True
 | _=>False
section
variable {P:ytb}{w:World}{H:Hp}{h h':Heap}{x e:Addr}{o':HO}
theorem HOk.write (ok:HOk P w H h)(mu:Mut (H x))(he:e=x∨H e=some (.own x))(k:∀b u,b≠e->h.get? b=some u->h'.get? b=some u)(heo:∃u,h'.get? e=some u)
  (new:zvh P w (upd H x o') h' x o'):HOk P w (upd H x o') h':=λb u q=>by
 have nown:∀c y,H c=some (.own y)->c≠x:=λc y r z=>by subst z;rw[r] at mu;exact mu
 have ntup:∀c xs,H c=some (.tup xs)->c≠x:=λc xs r z=>by subst z;rw[r] at mu;exact mu
 by_cases hb:b=x
 ·subst hb;rw[zua] at q;cases q;exact new
 ·rw[zta hb] at q
  by_cases hbe:b=e
  ·have q':H b=some (.own x):=by
    rcases he with z|z
    ·exact absurd (hbe.trans z) hb
    ·rw[hbe];exact z
   rw[q] at q';cases q';obtain⟨v,hv⟩:=heo;exact⟨v,by rw[hbe];exact hv⟩
  ·refine (ok b u q).stay (λc v hc r=>k c v ?_ r) (λc r=>by rw[zta (nown c b r)];exact r) λc xs r=>by rw[zta (ntup c xs r)];exact r
   rcases hc with rfl|hc
   ·exact hbe
   ·rintro rfl
    rcases he with z|z
    ·exact nown c b hc z
    ·rw[hc] at z;cases z;exact hb rfl
end
structure Un (fs ex:List Addr)(H H':Hp)(h h':Heap):Prop where
 keep:∀b o,h.get? b=some o->H b=none->b∉fs->b∉ex->h'.get? b=some o
 slot:∀b o,h.get? b=some o->H b=none->b∈fs->b∉ex->∃sl,h'.get? b=some { o with slots:=sl }
 free:∀b o,h.get? b=some o->H b=none->b∉ex->H' b=none
 there:∀b o,h.get? b=some o->b∉ex->∃o',h'.get? b=some o'
 tups:∀b xs,H b=some (.tup xs)->H' b=some (.tup xs)
 frzs:∀b o u,H b=some (.frz o u)->H' b=some (.frz o u)
 tbls:∀b ps,H b=some (.tbl ps)->∃more,H' b=some (.tbl (ps++more))
section
variable {fs fs' ex ex':List Addr}{H H1 H2:Hp}{h h1 h2 h':Heap}{a x e:Addr}{o:HO}
theorem Un.any (u:Un fs ex H H1 h h1){b:Addr}{ob:Obj}(q:h.get? b=some ob)(n:H b=none)(hx:b∉ex):∃sl,h1.get? b=some { ob with slots:=sl }:=by
 by_cases hb:b∈fs
 ·exact u.slot b ob q n hb hx
 ·exact⟨ob.slots,u.keep b ob q n hb hx⟩
theorem Un.kept (k:∀b u,h.get? b=some u->h'.get? b=some u):Un fs ex H H h h' :=
 ⟨λb ob q _ _ _=>k b ob q,λb ob q _ _ _=>⟨ob.slots,k b ob q⟩,λ_ _ _ n _=>n,λb ob q _=>⟨ob,k b ob q⟩,λ_ _ q=>q,λ_ _ _ q=>q,λ_ ps q=>⟨#[],by rw[q];simp⟩⟩
theorem Un.refl:Un fs ex H H h h:=Un.kept λ_ _ q=>q
theorem Un.laid (k:∀b u,h.get? b=some u->h'.get? b=some u)(hp:h.objs.size≤a)(hn:H a=none):Un fs ex H (upd H a o) h h' where
 keep:=λb u q _ _ _=>k b u q
 slot:=λb u q _ _ _=>⟨u.slots,k b u q⟩
 free:=λb u q n _=>by rw[zta (yab (yua (yma q) hp))];exact n
 there:=λb u q _=>⟨u,k b u q⟩
 tups:=λb xs q=>by rw[zta (zga q hn)];exact q
 frzs:=λb u xs q=>by rw[zta (zga q hn)];exact q
 tbls:=λb ps q=>⟨#[],by rw[zta (zga q hn),q];simp⟩
theorem Un.write (mu:Mut (H x))(he:e=x∨H e=some (.own x))(k:∀b u,b≠e->h.get? b=some u->h'.get? b=some u)(heo:∃u,h'.get? e=some u):Un fs ex H (upd H x o) h h':=by
 have hx:∀b,H b=none->b≠x:=λb n z=>by subst z;rw[n] at mu;exact mu
 have hb:∀b,H b=none->b≠e:=λb n z=>by
  subst z
  rcases he with r|r
  ·exact hx b n r
  ·rw[n] at r;cases r
 have hm:∀b u,H b=some u->¬ Mut (some u)->b≠x:=λb u q nm z=>by subst z;rw[q] at mu;exact nm mu
 refine⟨λb u q n _ _=>k b u (hb b n) q,λb u q n _ _=>⟨u.slots,k b u (hb b n) q⟩,λb u q n _=>by rw[zta (hx b n)];exact n,λb u q _=>?_,
  λb xs q=>by rw[zta (hm b _ q λz=>z)];exact q,λb u xs q=>by rw[zta (hm b _ q λz=>z)];exact q,λb ps q=>⟨#[],by rw[zta (hm b _ q λz=>z),q];simp⟩⟩
 by_cases hbe:b=e
 ·subst hbe;exact heo
 ·exact⟨u,k b u hbe q⟩
end
def trk (h:Heap)(H:Hp):List Addr:=(ysf h.objs.size).filter λa=>(H a).isSome
def hidT (h:Heap)(H:Hp):Heap:=PySem.W.hideAll h (trk h H)
theorem zfhb (h:Heap)(H:Hp):(hidT h H).objs.size=h.objs.size:=PySem.W.hideAll_size _ _
theorem zvkb {h:Heap}{H:Hp}{b:Addr}{o:Obj}(e:h.get? b=some o)(n:H b=none):(hidT h H).get? b=some o :=
 PySem.W.hideAll_get _ e λhm=>by
  have q:(H b).isSome=true:=(yhc.mp hm).2;rw[n] at q;simp at q
theorem zgpb {h:Heap}{H:Hp}{b:Addr}{o:Obj}(e:(hidT h H).get? b=some o):h.get? b=some o∧H b=none:=by
 have e':h.get? b=some o:=PySem.W.of_hideAll (trk h H) e;refine⟨e',?_⟩;cases q:H b with
 | none=>rfl
 | some x =>
  have hm:b∈trk h H:=yhc.mpr ⟨yqj.mpr (yma e'),by simp[q]⟩;have z:(hidT h H).get? b=none:=PySem.W.hideAll_none (trk h H) hm;rw[z] at e;cases e
def zcqb (g h:Heap)(L:Addr):List (Addr×Obj):=(ysf h.objs.size).filterMap λa=>if a=L∨(g.get? a).isSome=true then none else (h.get? a).map λo=>(a,o)
def rest (g h:Heap)(L d:Addr):List (Addr×Obj):=(zcqb g h L).filter λp=>decide (p.1≠d)
end L2
namespace L2
open PySem PySem.Spec PyProof.Rows
structure Mod (K:yea)(mg:Str->Option Value)(base:Heap):Prop where
 kin:K.In base
 glob:base.Ns yza mg
 blt:∃mb,base.Ns builtinsNs mb∧∀x:Str,x ≠ "__name__"->mb x=yph x
 nolimit:base.NoLimit
structure Cx where
 prog:ytb
 w:World
 K:yea
 mg:Str->Option Value
 base:Heap
 A:Around
 N:List Str
 s₀:Shared
 H₀:Hp
 env:Env
 outer:List Env
 stack:List Env
 ex:List Addr
 fn:Str->Bool
 calm:Bool
 pn:List (Addr×Obj)
 xe:Value->Shared->Prop
def frs (l:List Env):List Addr:=l.filterMap (·.frame)
abbrev Cx.fs (X:Cx):List Addr:=frs X.outer
def Vis (sc:Scope)(x:Str):Prop:=sc.names.lookup x=some .local∨sc.names.lookup x=some .cell∨sc.names.lookup x=some .free
def Loc (sc:Scope)(x:Str):Prop:=sc.names.lookup x=some .local∨sc.names.lookup x=some .cell
def Look (env:Env)(h:Heap)(m:Str->Option Value)(x:Str)(u:Value):Prop :=
 (env.kindOf x=some .local∧m x=some u)∨((env.kindOf x=some .cell∨env.kindOf x=some .free)∧∃c,env.cells.lookup x=some c∧h.IsCell c (some u))
structure Cx.Ok (X:Cx):Prop where
 mod:Mod X.K X.mg X.base
 kind:X.env.scope.kind = .function
 glob:X.env.globals=yza
 blt:X.env.builtins=builtinsNs
 above:X.s₀.heap.objs.size≤X.env.locals
 inj:∀x y c,X.env.cells.lookup x=some c->X.env.cells.lookup y=some c->x=y
 has:∀x,(X.env.kindOf x=some .cell∨X.env.kindOf x=some .free)->∃c,X.env.cells.lookup x=some c
 cab:∀x c,X.fn x=true->X.env.cells.lookup x=some c->X.s₀.heap.objs.size≤c
 hd:X.calm=true->X.A.handled=none
 frames:X.A.frames=some X.stack
 stk:X.stack=X.outer∨(X.stack=X.env::X.outer∧X.env.frame=some X.env.locals)
 exf:∀b∈X.ex,b≠X.env.locals∧∀x c,X.env.cells.lookup x=some c->c≠b
 bs:∀b o,X.base.get? b=some o->X.s₀.heap.get? b=some o∧X.H₀ b=none
 bsz:X.base.objs.size≤X.s₀.heap.objs.size
 noex:∀b o,X.base.get? b=some o->b∉X.ex
 exfs:∀b∈X.ex,b∉X.fs
 funs:X.s₀.heap.FunFrames X.base X.outer
 frf:∀b∈X.fs,X.H₀ b=none
structure Inv (X:Cx)(pins:List (Addr×Obj))(σ:List (Option V))(H:Hp)(s:Shared):Prop where
 ok:X.Ok
 os:s.os=X.s₀.os
 bare:ymp s.gens
 base:Un X.fs X.ex X.H₀ H X.s₀.heap s.heap
 loc:∃m,s.heap.Ns X.env.locals m∧∀(i:Nat) (x:Str) (v:V),X.N[i]?=some x->σ[i]?=some (some v)->Vis X.env.scope x->∃u,RelV v u∧Look X.env s.heap m x u
 cell:∀x c,X.env.cells.lookup x=some c->∃v,s.heap.IsCell c v
 free:H X.env.locals=none
 freeC:∀x c,X.env.cells.lookup x=some c->H c=none
 pin:∀p∈X.pn++pins,s.heap.get? p.1=some p.2∧H p.1=none∧p.1≠X.env.locals∧p.1∉X.fs∧∀v,p.2.data ≠ .cell v
 hok:HOk X.prog X.w H s.heap
 len:σ.length=X.N.length
section
variable {X:Cx}{pins:List (Addr×Obj)}{σ:List (Option V)}{H H':Hp}{s:Shared}{h':Heap}
theorem Cx.Ok.nofr (ok:X.Ok){b:Addr}{o:Obj}(e:X.base.get? b=some o):b∉X.fs:=λhb=>by
 have:=(ok.funs.mem hb).1;rw[e] at this;cases this
theorem Inv.bs (I:Inv X pins σ H s):∀b o,X.base.get? b=some o->s.heap.get? b=some o∧H b=none:=λb o e =>
 ⟨I.base.keep b o (I.ok.bs b o e).1 (I.ok.bs b o e).2 (I.ok.nofr e) (I.ok.noex b o e),I.base.free b o (I.ok.bs b o e).1 (I.ok.bs b o e).2 (I.ok.noex b o e)⟩
theorem Inv.bk (I:Inv X pins σ H s):∀b o,X.base.get? b=some o->s.heap.get? b=some o:=λb o e=>(I.bs b o e).1
theorem Inv.mod (I:Inv X pins σ H s):Mod X.K X.mg X.base:=I.ok.mod
theorem Inv.kIn (I:Inv X pins σ H s):X.K.In s.heap:=I.ok.mod.kin.keeps I.bk
theorem Inv.fr (I:Inv X pins σ H s):∃m,Fr X.base X.env.locals s.heap m :=
 let ⟨m,hn,_⟩:=I.loc
 ⟨m,hn,I.bk,yqb I.ok.bsz I.ok.above⟩
theorem Inv.lt (I:Inv X pins σ H s):X.env.locals<s.heap.objs.size:=let ⟨_,hn,_⟩:=I.loc;hn.lt
theorem Inv.sz (I:Inv X pins σ H s):X.s₀.heap.objs.size≤s.heap.objs.size:=yqb I.ok.above (yre I.lt)
theorem Inv.nofs (I:Inv X pins σ H s){a:Addr}(h:s.heap.objs.size≤a):a∉X.fs:=λhb=>by
 obtain⟨_,o,ho,_⟩:=I.ok.funs.mem hb;exact absurd (yua (yma ho) (yqb I.sz h)) (yoe _)
theorem Inv.cne (I:Inv X pins σ H s):∀x c,X.env.cells.lookup x=some c->c≠X.env.locals:=λx c e z=>by
 obtain⟨v,o,ho,hd⟩:=I.cell x c e;obtain⟨m,⟨o',es,ep,ho',hd',_⟩,_⟩:=I.loc;rw[z,ho'] at ho;cases ho;rw[hd'] at hd;cases hd
theorem Inv.funs (I:Inv X pins σ H s):s.heap.FunFrames X.base X.outer:=by
 have all:∀(l:List Env),(∀b∈frs l,b∈X.fs)->X.s₀.heap.FunFrames X.base l->s.heap.FunFrames X.base l:=by
  intro l
  induction l with
  | nil=>intro _ _;trivial
  | cons env r ih =>
   intro hs hl;obtain⟨hk,⟨L,o,hf,hn,ho,hd⟩,hr⟩:=hl;have hL:L∈X.fs:=hs L (by unfold frs;rw[yok,hf];exact ypa);obtain⟨sl,e⟩:=I.base.slot L o ho (I.ok.frf L hL) hL λz=>I.ok.exfs L z hL;exact⟨hk,⟨L,_,hf,hn,e,hd⟩,ih (λb hb=>hs b (by unfold frs;rw[yok,hf];exact yoa _ hb)) hr⟩
 exact all X.outer (λ_ hb=>hb) I.ok.funs
theorem Inv.stack (I:Inv X pins σ H s):s.heap.FunFrames X.base X.stack:=by
 rcases I.ok.stk with e|⟨e,hf⟩
 ·rw[e];exact I.funs
 ·rw[e];obtain⟨m,hn,_⟩:=I.loc;refine .cons (by rw[I.ok.kind];decide) hf hn ?_ I.funs;exact Heap.get?_none_of_le (yqb I.ok.bsz I.ok.above)
theorem Inv.zyab (I:Inv X pins σ H s):∀b∈frs X.stack,b∈X.env.locals::X.fs:=λb hb=>by
 rcases I.ok.stk with e|⟨e,hf⟩
 ·rw[e] at hb;exact yoa _ hb
 ·rw[e] at hb;unfold frs at hb;rw[yok,hf] at hb;exact hb
theorem Inv.zveb (I:Inv X pins σ H s):∀b∈frs X.stack,H b=none:=λb hb=>by
 rcases yka.mp (I.zyab b hb) with e|hb
 ·rw[e];exact I.free
 ·obtain⟨_,o,ho,_⟩:=I.ok.funs.mem hb;exact I.base.free b o ho (I.ok.frf b hb) λz=>I.ok.exfs b z hb
theorem Inv.step {g':Array GenState}{t':Nat}{d':Drawn}{ch:List Addr}(I:Inv X pins σ H s)
  (hch:∀b∈ch,(b∈X.ex∨X.s₀.heap.objs.size≤b)∧b≠X.env.locals∧(∀x c,X.env.cells.lookup x=some c->c≠b)∧∀p∈X.pn++pins,p.1≠b)
  (keep:∀b o,b≠X.env.locals->b∉X.fs->b∉ch->s.heap.get? b=some o->H b=none->h'.get? b=some o)
  (slot:∀b o,b≠X.env.locals->b∈X.fs->b∉ch->s.heap.get? b=some o->H b=none->∃sl,h'.get? b=some { o with slots:=sl }) (free:∀b o,b∉ch->s.heap.get? b=some o->H b=none->H' b=none)
  (there:∀b o,b∉ch->s.heap.get? b=some o->∃o',h'.get? b=some o')
  (tups:∀b xs,H b=some (.tup xs)->H' b=some (.tup xs)) (frzs:∀b o u,H b=some (.frz o u)->H' b=some (.frz o u)) (tbls:∀b ps,H b=some (.tbl ps)->∃more,H' b=some (.tbl (ps++more)))
  (ns:∀m,s.heap.Ns X.env.locals m->h'.Ns X.env.locals m) (hok:HOk X.prog X.w H' h') (hg:ymp g') :
  Inv X pins σ H' { s with heap:=h',gens:=g',drawn:=d',toks:=t' }:=by
 have neL:∀b o,X.s₀.heap.get? b=some o->b≠X.env.locals:=λb o e=>yab (yua (yma e) I.ok.above);have neC:∀b o,X.s₀.heap.get? b=some o->b∉X.ex->b∉ch:=λb o e hx hb=>by
  rcases (hch b hb).1 with z|z
  ·exact hx z
  ·exact absurd (yua (yma e) z) (yoe _)
 have cellK:∀x c,X.env.cells.lookup x=some c->∀v,s.heap.IsCell c v->h'.IsCell c v:=λx c e v ⟨o,ho,hd⟩=>by
  have nch:c∉ch:=λz=>(hch c z).2.2.1 x c e rfl
  by_cases hc:c∈X.fs
  ·obtain⟨sl,q⟩:=slot c o (I.cne x c e) hc nch ho (I.freeC x c e);exact⟨_,q,hd⟩
  ·exact⟨o,keep c o (I.cne x c e) hc nch ho (I.freeC x c e),hd⟩
 refine⟨I.ok,I.os,hg,⟨λb o e n hb hx=>?_,λb o e n hb hx=>?_,λb o e n hx=>?_,λb o e hx=>?_,λb xs e=>tups b xs (I.base.tups b xs e),λb o xs e=>frzs b o xs (I.base.frzs b o xs e),λb ps e=>?_⟩,?_,λx c e=>?_,?_,λx c e=>?_,λp hp=>?_,hok,I.len⟩
 ·exact keep b o (neL b o e) hb (neC b o e hx) (I.base.keep b o e n hb hx) (I.base.free b o e n hx)
 ·obtain⟨sl,e1⟩:=I.base.slot b o e n hb hx;obtain⟨sl',e2⟩:=slot b _ (neL b o e) hb (neC b o e hx) e1 (I.base.free b o e n hx);exact⟨sl',e2⟩
 ·obtain⟨o',e1⟩:=I.base.there b o e hx;exact free b o' (neC b o e hx) e1 (I.base.free b o e n hx)
 ·obtain⟨o',e1⟩:=I.base.there b o e hx;exact there b o' (neC b o e hx) e1
 ·obtain⟨m1,e1⟩:=I.base.tbls b ps e;obtain⟨m2,e2⟩:=tbls b _ e1;exact⟨m1++m2,by rw[e2,Array.append_assoc]⟩
 ·obtain⟨m,hn,hl⟩:=I.loc;refine⟨m,ns m hn,λi x v e1 e2 e3=>?_⟩;obtain⟨u,r,l⟩:=hl i x v e1 e2 e3;refine⟨u,r,?_⟩
  rcases l with l|⟨k,c,e,z⟩
  ·exact .inl l
  ·exact .inr ⟨k,c,e,cellK x c e _ z⟩
 ·obtain⟨v,z⟩:=I.cell x c e;exact⟨v,cellK x c e v z⟩
 ·obtain⟨m,⟨o,_,_,ho,_⟩,_⟩:=I.loc;exact free _ o (λz=>(hch _ z).2.1 rfl) ho I.free
 ·obtain⟨v,o,ho,hd⟩:=I.cell x c e;exact free c o (λz=>(hch c z).2.2.1 x c e rfl) ho (I.freeC x c e)
 ·obtain⟨e,n,ne,nf,d⟩:=I.pin p hp;have nch:p.1∉ch:=λz=>(hch p.1 z).2.2.2 p hp rfl;exact⟨keep p.1 p.2 ne nf nch e n,free p.1 p.2 nch e n,ne,nf,d⟩
theorem Inv.un {t':Nat}(I:Inv X pins σ H s)(u:Un X.fs [] H H' s.heap h')(hok:HOk X.prog X.w H' h'):Inv X pins σ H' { s with heap:=h',toks:=t' }:=by
 obtain⟨m,⟨o,es,ep,ho,r⟩,_⟩:=id I.loc;obtain⟨sl,hL⟩:=u.any ho I.free (by simp);exact I.step (g':=s.gens) (d':=s.drawn) (ch:=[]) (λ_ z=>nomatch z) (λb o _ hb _ e n=>u.keep b o e n hb (by simp)) (λb o _ hb _ e n=>u.slot b o e n hb (by simp)) (λb o _ e n=>u.free b o e n (by simp)) (λb o _ e=>u.there b o e (by simp)) u.tups u.frzs u.tbls (λm' hm=>by
  obtain⟨o',es',ep',ho',r'⟩:=hm;rw[ho] at ho';cases ho';exact⟨_,es',ep',hL,r'⟩) hok I.bare
theorem Inv.call {g':Array GenState}{t':Nat}{d':Drawn}{ch:List Addr}(I:Inv X pins σ H s)(u:Un (frs X.stack) ch H H' s.heap h')(hok:HOk X.prog X.w H' h')(hg:ymp g')
  (hch:∀b∈ch,(b∈X.ex∨X.s₀.heap.objs.size≤b)∧b≠X.env.locals∧(∀x c,X.env.cells.lookup x=some c->c≠b)∧∀p∈X.pn++pins,p.1≠b) :
  Inv X pins σ H' { s with heap:=h',gens:=g',drawn:=d',toks:=t' }:=by
 obtain⟨m,⟨o,es,ep,ho,r⟩,_⟩:=id I.loc;obtain⟨sl,hL⟩:=u.any ho I.free λz=>(hch _ z).2.1 rfl;exact I.step (ch:=ch) hch (λb o hL hb hc e n=>u.keep b o e n (λz=>(yka.mp (I.zyab b z)).elim hL hb) hc) (λb o _ _ hc e n=>u.any e n hc) (λb o hc e n=>u.free b o e n hc) (λb o hc e=>u.there b o e hc) u.tups u.frzs u.tbls (λm' hm=>by
  obtain⟨o',es',ep',ho',r'⟩:=hm;rw[ho] at ho';cases ho';exact⟨_,es',ep',hL,r'⟩) hok hg
theorem Inv.turned {t':Nat}{it:Addr}(I:Inv X pins σ H s)(k:∀b o,b≠it->s.heap.get? b=some o->h'.get? b=some o)(hn:H it=none)(hL:it≠X.env.locals)
  (h1:it∈X.ex∨X.s₀.heap.objs.size≤it) (h2:∀x c,X.env.cells.lookup x=some c->c≠it) (h3:∀p∈X.pn++pins,p.1≠it):Inv X pins σ H { s with heap:=h',toks:=t' }:=by
 have nit:∀b u,H b=some u->b≠it:=λb u e z=>by rw[z,hn] at e;cases e
 refine I.step (g':=s.gens) (d':=s.drawn) (ch:=[it]) (λb hb=>?_) (λb o _ _ hc e _=>k b o (λz=>hc (by simp[z])) e) (λb o _ _ hc e _=>⟨o.slots,k b o (λz=>hc (by simp[z])) e⟩) (λ_ _ _ _ n=>n)
  (λb o hc e=>⟨o,k b o (λz=>hc (by simp[z])) e⟩) (λ_ _ e=>e) (λ_ _ _ e=>e) (λb ps e=>⟨#[],by rw[e];simp⟩) (λm hm=>?_) (λb u e=>?_) I.bare
 ·have e:b=it:=by simpa using hb
  subst e;exact⟨h1,hL,h2,h3⟩
 ·obtain⟨o,es,ep,ho,r⟩:=hm;exact⟨o,es,ep,k _ o (ykd hL) ho,r⟩
 ·refine (I.hok b u e).stay (λc v hc q=>k c v ?_ q) (λ_ q=>q) λ_ _ q=>q
  rcases hc with z|z
  ·rw[z];exact nit b u e
  ·exact nit c _ z
theorem Inv.tok (I:Inv X pins σ H s)(t:Nat):Inv X pins σ H { s with toks:=t }:=I.un (h':=s.heap) (t':=t) Un.refl I.hok
theorem Inv.kept {t':Nat}(I:Inv X pins σ H s)(k:∀b u,s.heap.get? b=some u->h'.get? b=some u):Inv X pins σ H { s with heap:=h',toks:=t' }:=I.un (Un.kept k) (I.hok.kept k)
theorem Inv.laid {a:Addr}{o:HO}{t':Nat}(I:Inv X pins σ H s)(k:∀b u,s.heap.get? b=some u->h'.get? b=some u)(hp:s.heap.objs.size≤a)(new:zvh X.prog X.w (upd H a o) h' a o) :
  Inv X pins σ (upd H a o) { s with heap:=h',toks:=t' }:=I.un (Un.laid k hp (I.hok.fresh hp)) (I.hok.laid k hp new)
theorem Inv.write {x e:Addr}{o:HO}{t':Nat}(I:Inv X pins σ H s)(mu:Mut (H x))(he:e=x∨H e=some (.own x))(k:∀b u,b≠e->s.heap.get? b=some u->h'.get? b=some u)(heo:∃u,h'.get? e=some u)
  (new:zvh X.prog X.w (upd H x o) h' x o):Inv X pins σ (upd H x o) { s with heap:=h',toks:=t' }:=I.un (Un.write mu he k heo) (I.hok.write mu he k heo new)
theorem Inv.weak {σ':List (Option V)}(I:Inv X pins σ H s)(hl:σ'.length=σ.length)(w:∀(i:Nat) v,σ'[i]?=some (some v)->σ[i]?=some (some v)):Inv X pins σ' H s :=
 ⟨I.ok,I.os,I.bare,I.base,let ⟨m,hn,hl'⟩:=I.loc;⟨m,hn,λi x v e1 e2 e3=>hl' i x v e1 (w i v e2) e3⟩,I.cell,I.free,I.freeC,I.pin,I.hok,hl.trans I.len⟩
theorem Inv.zcp {pins':List (Addr×Obj)}(I:Inv X pins σ H s)(h:∀p∈pins',s.heap.get? p.1=some p.2∧H p.1=none∧p.1≠X.env.locals∧p.1∉X.fs∧∀v,p.2.data ≠ .cell v):Inv X pins' σ H s :=
 ⟨I.ok,I.os,I.bare,I.base,I.loc,I.cell,I.free,I.freeC,λp hp=>(ywc.mp hp).elim (λz=>I.pin p (ylf _ z)) (h p),I.hok,I.len⟩
theorem zqbb {N:List Str}(hN:N.Nodup){i j:Nat}{x:Str}(a:N[i]?=some x)(b:N[j]?=some x):i=j:=by
 obtain⟨h1,e1⟩:=yga.mp a;obtain⟨h2,e2⟩:=yga.mp b;exact (List.getElem_inj hN).mp (e1.trans e2.symm)
theorem zvu {M:Model}{A:Around}{E:Value->Shared->Prop}{i:Nat}{x:Str}{v:V}{u:Value}{Q:Unit->Shared->Prop}(I:Inv X pins σ H s)(hN:X.N.Nodup)(hi:X.N[i]?=some x)(hx:Loc X.env.scope x)(r:RelV v u)
  (h:∀s',Inv X pins (σ.set i (some v)) H s'->(∃a,yxd a s.heap s'.heap∧(a=X.env.locals∨X.env.cells.lookup x=some a))->Q () s') (hf:X.fn x=true∨X.env.scope.names.lookup x=some .local:=by first|exact .inl rfl|exact .inr rfl|assumption):wpAny M A (storeName X.env x u) Q E s:=by
 obtain⟨m,hn,hl⟩:=id I.loc;have hcls:(X.env.scope.kind == .class||(X.env.scope.kind == .module&&X.env.locals != X.env.globals))=false:=by rw[I.ok.kind];rfl
 have hiσ:i<σ.length:=by rw[I.len];exact (yga.mp hi).1
 have cne:=I.cne;have tracked:∀{a:Addr} {h':Heap},(∃o,s.heap.get? a=some o∧H a=none)->yxd a s.heap h'->HOk X.prog X.w H h':=λ{a h'} ha hs b ob e=>by
  obtain⟨_,_,hfree⟩:=ha;refine (I.hok b ob e).stay (λc w' hc q=>(hs.2 c ?_).trans q) (λ_ q=>q) λ_ _ q=>q;rintro rfl
  rcases hc with rfl|hc
  ·rw[hfree] at e;cases e
  ·rw[hfree] at hc;cases hc
 rcases hx with hk|hk
 ·refine wpAny_storeName_local hk hn (λh' hn' hs=>?_) hcls;obtain⟨oL,_,_,hoL,_⟩:=id hn;refine h _ ⟨I.ok,I.os,I.bare,⟨λb o e n hb hx=>?_,λb o e n hb hx=>?_,I.base.free,λb o e hx=>?_,I.base.tups,I.base.frzs,I.base.tbls⟩,⟨_,hn',λj y v' e1 e2 e3=>?_⟩,λy c e=>?_,I.free,I.freeC,λp hp=>?_,tracked ⟨oL,hoL,I.free⟩ hs,by simpa using I.len⟩ ⟨_,hs,.inl rfl⟩
  ·exact (hs.2 b (yab (yua (yma e) I.ok.above))).trans (I.base.keep b o e n hb hx)
  ·obtain⟨sl,e1⟩:=I.base.slot b o e n hb hx;exact⟨sl,(hs.2 b (yab (yua (yma e) I.ok.above))).trans e1⟩
  ·obtain⟨o',e1⟩:=I.base.there b o e hx;exact⟨o',(hs.2 b (yab (yua (yma e) I.ok.above))).trans e1⟩
  ·by_cases hj:j=i
   ·subst hj;rw[hi] at e1;cases e1;rw[ybj hiσ] at e2;cases e2;exact⟨u,r,.inl ⟨hk,by simp⟩⟩
   ·rw[ydi (ykd hj)] at e2;obtain⟨u',r',q⟩:=hl j y v' e1 e2 e3;refine⟨u',r',?_⟩
    rcases q with⟨k,e⟩|⟨k,c,e,z⟩
    ·refine .inl ⟨k,?_⟩;have:y≠x:=λe=>hj (zqbb hN e1 (e▸hi));simp[this,e]
    ·exact .inr ⟨k,c,e,z.sameBut hs (cne y c e)⟩
  ·obtain⟨w',z⟩:=I.cell y c e;exact⟨w',z.sameBut hs (cne y c e)⟩
  ·obtain⟨e,n,ne,nf,d⟩:=I.pin p hp;exact⟨(hs.2 p.1 ne).trans e,n,ne,nf,d⟩
 ·have hfn:X.fn x=true:=by
   rcases hf with z|z
   ·exact z
   ·rw[z] at hk;cases hk
  obtain⟨c,hc⟩:=I.ok.has x (.inl hk);obtain⟨w',z⟩:=I.cell x c hc;refine wpAny_storeName_cell I.ok.kind hk hc z (λh' hc' hs=>?_);obtain⟨oc,hoc,hocd⟩:=id z;refine h { s with heap:=h' } ⟨I.ok,I.os,I.bare,⟨λb o e n hb hx=>?_,λb o e n hb hx=>?_,I.base.free,λb o e hx=>?_,I.base.tups,I.base.frzs,I.base.tbls⟩,⟨m,hn.sameBut hs (ykd (cne x c hc)),λj y v' e1 e2 e3=>?_⟩,λy c' e=>?_,I.free,I.freeC,λp hp=>?_,tracked ⟨oc,hoc,I.freeC x c hc⟩ hs,by simpa using I.len⟩ ⟨c,hs,.inr hc⟩
  ·exact (hs.2 b (yab (yua (yma e) (I.ok.cab x c hfn hc)))).trans (I.base.keep b o e n hb hx)
  ·obtain⟨sl,e1⟩:=I.base.slot b o e n hb hx;exact⟨sl,(hs.2 b (yab (yua (yma e) (I.ok.cab x c hfn hc)))).trans e1⟩
  ·obtain⟨o',e1⟩:=I.base.there b o e hx;exact⟨o',(hs.2 b (yab (yua (yma e) (I.ok.cab x c hfn hc)))).trans e1⟩
  ·by_cases hj:j=i
   ·subst hj;rw[hi] at e1;cases e1;rw[ybj hiσ] at e2;cases e2;exact⟨u,r,.inr ⟨.inl hk,c,hc,hc'⟩⟩
   ·rw[ydi (ykd hj)] at e2;obtain⟨u',r',q⟩:=hl j y v' e1 e2 e3;refine⟨u',r',?_⟩
    rcases q with q|⟨k,c',e,z'⟩
    ·exact .inl q
    ·refine .inr ⟨k,c',e,z'.sameBut hs ?_⟩;rintro rfl;exact hj (zqbb hN e1 (I.ok.inj _ _ _ e hc▸hi))
  ·by_cases hcc:c'=c
   ·subst hcc;exact⟨_,hc'⟩
   ·obtain⟨w2,z2⟩:=I.cell y c' e;exact⟨w2,z2.sameBut hs hcc⟩
  ·obtain⟨e,n,ne,nf,d⟩:=I.pin p hp;refine⟨(hs.2 p.1 ?_).trans e,n,ne,nf,d⟩;intro q;rw[q,hoc] at e;have q':oc=p.2:=yfd e;exact d w' (by rw[← q'];exact hocd)
theorem zwab {M:Model}{A:Around}{E:Value->Shared->Prop}{i:Nat}{x:Str}{v:V}{u:Value}{Q:Unit->Shared->Prop}(I:Inv X pins σ H s)(hN:X.N.Nodup)(hi:X.N[i]?=some x)(hx:Loc X.env.scope x)(r:RelV v u)
  (h:∀s',Inv X pins (σ.set i (some v)) H s'->Q () s') (hf:X.fn x=true∨X.env.scope.names.lookup x=some .local:=by first|exact .inl rfl|exact .inr rfl|assumption):wpAny M A (storeName X.env x u) Q E s :=
 zvu I hN hi hx r (λs' I' _=>h s' I') hf
end
abbrev XK:=Value->Option Addr->Hp->Prop
abbrev St:=List (Option V)
abbrev VK:=V->Hp->Prop
abbrev TE:=St->Hp->VK->Prop
abbrev TT:=St->Hp->(Bool->Hp->Prop)->Prop
abbrev TA:=St->Hp->(List V->Hp->Prop)->Prop
structure Ends where
 nx:St->Hp->Prop
 rt:VK
 bk:St->Hp->Prop:=λ_ _=>False
 ct:St->Hp->Prop:=λ_ _=>False
abbrev TS:=Ends->St->Hp->Prop
def EP (X:Cx)(pins:List (Addr×Obj))(σ:St)(Q:VK)(u:Value)(s':Shared):Prop:=Ex2 λv H'=>Inv X pins σ H' s'∧RelV v u∧Q v H'
def TP (X:Cx)(pins:List (Addr×Obj))(σ:St)(Q:Bool->Hp->Prop)(b:Bool)(s':Shared):Prop:=∃H',Inv X pins σ H' s'∧Q b H'
def AP (X:Cx)(pins:List (Addr×Obj))(σ:St)(Q:List V->Hp->Prop)(us:List Value)(s':Shared):Prop:=Ex2 λvs H'=>Inv X pins σ H' s'∧Vals vs us∧Q vs H'
def SP (X:Cx)(pins:List (Addr×Obj))(D:Ends)(f:Flow)(s':Shared):Prop :=
 match f with
 | .next=>∃ σ' H',Inv X pins σ' H' s'∧D.nx σ' H'
 | .brk=>∃ σ' H',Inv X pins σ' H' s'∧D.bk σ' H'
 | .cont=>∃ σ' H',Inv X pins σ' H' s'∧D.ct σ' H'
 | .ret u=>∃v σ' H',Inv X pins σ' H' s'∧RelV v u∧D.rt v H'
def PE (X:Cx)(e:Expr)(t:TE):Prop :=
 ∀(pins:List (Addr×Obj)) (s:Shared) (σ:St) (H:Hp) (Q:VK),Inv X pins σ H s->t σ H Q->wpAny (model X.prog X.w) X.A (eval e X.env) (EP X pins σ Q) X.xe s
def PT (X:Cx)(e:Expr)(t:TT):Prop :=
 ∀(pins:List (Addr×Obj)) (s:Shared) (σ:St) (H:Hp) (Q:Bool->Hp->Prop),Inv X pins σ H s->t σ H Q->wpAny (model X.prog X.w) X.A (isTrue e X.env (eval e X.env)) (TP X pins σ Q) X.xe s
def PW (X:Cx)(e:Expr)(t:TT):Prop :=
 ∀(whole:Sem Value) (pins:List (Addr×Obj)) (s:Shared) (σ:St) (H:Hp) (Q:Bool->Hp->Prop),Inv X pins σ H s->t σ H Q->wpAny (model X.prog X.w) X.A (isTrue e X.env whole) (TP X pins σ Q) X.xe s
theorem PW.pt {X:Cx}{e:Expr}{t:TT}(h:PW X e t):PT X e t:=h _
def PA (X:Cx)(es:List Expr)(t:TA):Prop :=
 ∀(pos:Pos) (pins:List (Addr×Obj)) (s:Shared) (σ:St) (H:Hp) (Q:List V->Hp->Prop),Inv X pins σ H s->t σ H Q->wpAny (model X.prog X.w) X.A (spliced (backTo pos (yjd es X.env))) (AP X pins σ Q) X.xe s
def PS (X:Cx)(st:Stmt)(t:TS):Prop :=
 ∀(pins:List (Addr×Obj)) (s:Shared) (σ:St) (H:Hp) (D:Ends),Inv X pins σ H s->t D σ H->wpAny (model X.prog X.w) X.A (exec st X.env) (SP X pins D) X.xe s
def PSs (X:Cx)(st:List Stmt)(t:TS):Prop :=
 ∀(pins:List (Addr×Obj)) (s:Shared) (σ:St) (H:Hp) (D:Ends),Inv X pins σ H s->t D σ H->wpAny (model X.prog X.w) X.A (execs st X.env) (SP X pins D) X.xe s
theorem thn {α:Type}{t:Sem α}{Q Q':α->Shared->Prop}{M:Model}{A:Around}{E:Value->Shared->Prop}{s:Shared}(h:wpAny M A t Q E s)(hQ:∀a s,Q a s->Q' a s):wpAny M A t Q' E s:=ywe h hQ λ_ _ x=>x
end L2
namespace L2
open PySem PySem.Spec PyProof.Rows
section
variable {X:Cx}
def tVar (i:Nat):TE:=fun σ H Q=>∃v,σ[i]?=some (some v)∧Q v H
def tC (v:V):TE:=λ_ H Q=>Q v H
theorem zjrb {i:Nat}{x:Str}{pos:Pos}(hN:X.N[i]?=some x)(hv:Vis X.env.scope x)(hd:(x==("__debug__":Str))=false:=by decide)(hcd:(x==("__classdict__":Str))=false:=by decide):PE X (.Name x pos) (tVar i):=by
 intro pins s σ H Q I h;obtain⟨v,e,h⟩:=h;obtain⟨m,hn,hl⟩:=I.loc;obtain⟨u,r,l⟩:=hl i x v hN e hv;have fin:EP X pins σ Q u s:=⟨v,H,I,r,h⟩
 rcases l with⟨hk,hm⟩|⟨hk,c,hc,hcell⟩
 ·exact wpAny_Name (wpAny_loadName_local I.ok.kind hk hn hm fin) hd
 ·rcases hk with hk|hk
  ·exact wpAny_Name (wpAny_loadName_cell I.ok.kind hk hc hcell fin) hd
  ·exact wpAny_Name (wpAny_loadName_free I.ok.kind hk hc hcell fin hcd) hd
theorem zea {i j pos}:PE X (.Constant (.int i) j pos) (tC (.int i)):=λ_ _ _ H _ I h=>wpAny_Constant_int ⟨.int i,H,I.tok _,⟨_,rfl⟩,h⟩
theorem zzy {b j pos}:PE X (.Constant (.bool b) j pos) (tC (.bl b)):=λ_ _ _ H _ I h=>Constant_bool ⟨.bl b,H,I,rfl,h⟩
theorem zwfb {j pos}:PE X (.Constant .none j pos) (tC .non):=λ_ _ _ H _ I h=>Constant_none ⟨.non,H,I,rfl,h⟩
theorem ztb {x j pos}:PE X (.Constant (.str x) j pos) (tC (.str x)):=λ_ _ _ H _ I h=>Calls.Constant_str ⟨.str x,H,I.tok _,⟨_,rfl⟩,h⟩
def Gl (X:Cx)(x:Str):Prop:=X.env.kindOf x=some .globalImplicit
theorem zjz {E:Value->Shared->Prop}{pins:List (Addr×Obj)}{s:Shared}{σ:St}{H:Hp}{x:Str}{u:Value}{pos:Pos}{Q:Value->Shared->Prop}(I:Inv X pins σ H s)(hg:Gl X x)(hm:X.mg x=some u)(h:Q u s)
  (hd:(x==("__debug__":Str))=false:=by decide):wpAny (model X.prog X.w) X.A (eval (.Name x pos) X.env) Q E s :=
 ygl I.ok.kind hg (Calls.loadGlobal_global (by rw[I.ok.glob];exact I.mod.glob.keeps I.bk) hm h) hd
theorem zbs {E:Value->Shared->Prop}{pins:List (Addr×Obj)}{s:Shared}{σ:St}{H:Hp}{x:Str}{u:Value}{pos:Pos}{Q:Value->Shared->Prop}(I:Inv X pins σ H s)(hg:Gl X x)(hm:X.mg x=none)(hv:yph x=some u)(h:Q u s)
  (hn:x ≠ "__name__":=by decide) (hd:(x==("__debug__":Str))=false:=by decide):wpAny (model X.prog X.w) X.A (eval (.Name x pos) X.env) Q E s:=by
 obtain⟨mb,h1,h2⟩:=I.mod.blt;exact ygl I.ok.kind hg (Calls.loadGlobal_builtin (by rw[I.ok.glob];exact I.mod.glob.keeps I.bk) hm (by rw[I.ok.blt];exact h1.keeps I.bk) ((h2 x hn).trans hv) h) hd
theorem zdb {x:Str}{v:V}{u:Value}{pos:Pos}(hg:Gl X x)(hm:X.mg x=some u)(r:RelV v u)(hd:(x==("__debug__":Str))=false:=by decide):PE X (.Name x pos) (tC v) :=
 λ_ _ _ H _ I h=>zjz I hg hm ⟨v,H,I,r,h⟩ hd
theorem zyy {x:Str}{v:V}{u:Value}{pos:Pos}(hg:Gl X x)(hm:X.mg x=none)(hv:yph x=some u)(r:RelV v u)(hn:x ≠ "__name__":=by decide)(hd:(x==("__debug__":Str))=false:=by decide):PE X (.Name x pos) (tC v) :=
 λ_ _ _ H _ I h=>zbs I hg hm hv ⟨v,H,I,r,h⟩ hn hd
variable {a b:Expr}{ta tb:TE}{pos:Pos}
def tB (t:TE):TT:=fun σ H Q=>t σ H λx H1=>∃c,x = .bl c∧Q c H1
theorem zng {e:Expr}{t:TE}(h:PE X e t)(he:∀whole,isTrue e X.env whole=(do let v ← whole;standAt e.pos;yyn [v] (truthy v)):=by intro _;rfl):PT X e (tB t):=by
 intro pins s σ H Q I hw;refine isTrue_plain (thn (h pins s σ H _ I hw) λv s1 ⟨x,H1,I1,r1,q1⟩=>?_) (he _);obtain⟨d,rfl,q⟩:=q1;cases r1;exact yee ⟨H1,I1,q⟩
variable {tA tB':TT}{rest:List Expr}
def tAnd (t u:TT):TT:=fun σ H Q=>t σ H λc H1=>if c=true then u σ H1 Q else Q false H1
def tOr (t u:TT):TT:=fun σ H Q=>t σ H λc H1=>if c=true then Q true H1 else u σ H1 Q
def tNot (t:TT):TT:=fun σ H Q=>t σ H λc H1=>Q (!c) H1
theorem zwy (ha:PT X a tA):PW X (.BoolOp .And [a] pos) tA:=by
 intro wh pins s σ H Q I h;refine isTrue_and (thn (ha pins s σ H Q I h) λc s1 e=>?_);cases c with
 | true=>exact isTrue_and_nil e
 | false=>exact e
theorem zfmb (ha:PT X a tA):PW X (.BoolOp .Or [a] pos) tA:=by
 intro wh pins s σ H Q I h;refine isTrue_or (thn (ha pins s σ H Q I h) λc s1 e=>?_);cases c with
 | false=>exact isTrue_or_nil e
 | true=>exact e
theorem zmbb (ha:PT X a tA)(hb:PW X (.BoolOp .And (b::rest) pos) tB'):PW X (.BoolOp .And (a::b::rest) pos) (tAnd tA tB'):=by
 intro wh pins s σ H Q I h;refine isTrue_and (thn (ha pins s σ H _ I h) λc s1 ⟨H1,I1,q1⟩=>?_);cases c with
 | true=>exact hb wh pins s1 σ H1 Q I1 q1
 | false=>exact⟨H1,I1,q1⟩
theorem zirb (ha:PT X a tA)(hb:PW X (.BoolOp .Or (b::rest) pos) tB'):PW X (.BoolOp .Or (a::b::rest) pos) (tOr tA tB'):=by
 intro wh pins s σ H Q I h;refine isTrue_or (thn (ha pins s σ H _ I h) λc s1 ⟨H1,I1,q1⟩=>?_);cases c with
 | true=>exact⟨H1,I1,q1⟩
 | false=>exact hb wh pins s1 σ H1 Q I1 q1
theorem zsh (ha:PT X a tA):PT X (.UnaryOp .Not a pos) (tNot tA):=by
 intro pins s σ H Q I h;exact isTrue_not (ha pins s σ H (λc H1=>Q (!c) H1) I h)
def zotb (ta tb:TE):TE:=fun σ H Q=>ta σ H λx H1=>∃c,x = .bl c∧if c=true then tb σ H1 Q else Q (.bl false) H1
def tOrV (ta tb:TE):TE:=fun σ H Q=>ta σ H λx H1=>∃c,x = .bl c∧if c=true then Q (.bl true) H1 else tb σ H1 Q
def zitb (ta:TE):TE:=fun σ H Q=>ta σ H λx H1=>∃c,x = .bl c∧Q (.bl (!c)) H1
theorem ztr {op}{t:TE}(h:PE X a t):PE X (.BoolOp op [a] pos) t:=λpins s σ H Q I hw=>BoolOp_one (h pins s σ H Q I hw)
theorem zjmb (ha:PE X a ta)(hb:PE X (.BoolOp .And (b::rest) pos) tb):PE X (.BoolOp .And (a::b::rest) pos) (zotb ta tb):=by
 intro pins s σ H Q I h;refine BoolOp_and (thn (ha pins s σ H _ I h) λv s1 ⟨x,H1,I1,r1,q1⟩=>?_);obtain⟨c,rfl,q1⟩:=q1;cases r1;refine yee ?_;cases c with
 | true=>exact hb pins s1 σ H1 Q I1 q1
 | false=>exact⟨.bl false,H1,I1,rfl,q1⟩
theorem zekb (ha:PE X a ta)(hb:PE X (.BoolOp .Or (b::rest) pos) tb):PE X (.BoolOp .Or (a::b::rest) pos) (tOrV ta tb):=by
 intro pins s σ H Q I h;refine BoolOp_or (thn (ha pins s σ H _ I h) λv s1 ⟨x,H1,I1,r1,q1⟩=>?_);obtain⟨c,rfl,q1⟩:=q1;cases r1;refine yee ?_;cases c with
 | false=>exact hb pins s1 σ H1 Q I1 q1
 | true=>exact⟨.bl true,H1,I1,rfl,q1⟩
theorem zimb (ha:PE X a ta):PE X (.UnaryOp .Not a pos) (zitb ta):=by
 intro pins s σ H Q I h;refine UnaryOp_ (thn (ha pins s σ H _ I h) λv s1 ⟨x,H1,I1,r1,q1⟩=>?_);obtain⟨c,rfl,q1⟩:=q1;cases r1;exact not_of (yee ⟨.bl (!c),H1,I1,rfl,q1⟩)
def tIf (t:TT)(ta tb:TE):TE:=fun σ H Q=>t σ H λc H1=>if c=true then ta σ H1 Q else tb σ H1 Q
theorem zobb {c:Expr}(hc:PT X c tA)(ha:PE X a ta)(hb:PE X b tb):PE X (.IfExp c a b pos) (tIf tA ta tb):=by
 intro pins s σ H Q I h;refine wpAny_IfExp (thn (hc pins s σ H _ I h) λd s1 ⟨H1,I1,q1⟩=>?_);cases d with
 | true=>exact ha pins s1 σ H1 Q I1 q1
 | false=>exact hb pins s1 σ H1 Q I1 q1
end
end L2
namespace L2
open PySem PySem.Spec PyProof.Rows
def SqL (K:yea)(H:Hp)(a:Addr)(xs:List V):Prop :=
 Rd H a (.lst xs) ∨
  Ex3 λ(o:Obj) (its:Array Value) (n:Nat)=>K.lookup a=some o∧o.cls = .type "list" ∧ o.dict=none∧o.data = .seq its n∧its.size≤yxa∧Vals xs its.toList
def SqT (K:yea)(H:Hp)(a:Addr)(xs:List V):Prop :=
 Rd H a (.tup xs) ∨
  Ex3 λ(o:Obj) (its:Array Value) (n:Nat)=>K.lookup a=some o∧o.cls = .type "tuple" ∧ o.data = .seq its n∧its.size≤yxa∧Vals xs its.toList
def absV:Value->Option V
 | .none=>some .non
 | .bool b=>some (.bl b)
 | .int i _=>some (.int i)
 | .str x _=>some (.str x)
 | .bytes b _=>some (.byt b)
 | .float b _=>some (.flt b)
 | .ref a=>some (.ref a)
 | .type n=>some (.ty n)
 | _=>none
theorem RelV.abs {x:V}{u:Value}(r:RelV x u):absV u=some x:=by
 cases x with
 | non=>cases r;rfl
 | bl _=>cases r;rfl
 | int _=>obtain⟨t,rfl⟩:=r;rfl
 | str _=>obtain⟨t,rfl⟩:=r;rfl
 | byt _=>obtain⟨t,rfl⟩:=r;rfl
 | flt _=>obtain⟨t,rfl⟩:=r;rfl
 | ref _=>cases r;rfl
 | ty _=>cases r;rfl
theorem RelV.inj {x y:V}{u:Value}(r:RelV x u)(q:RelV y u):x=y:=yfd (r.abs.symm.trans q.abs)
theorem Vals.inj:∀{xs ys:List V} {us:List Value},Vals xs us->Vals ys us->xs=ys
 | _,_,_,.nil,.nil=>rfl
 | _,_,_,.cons r t,.cons r' t'=>by rw[r.inj r',Vals.inj t t']
section
variable {X:Cx}{pins:List (Addr×Obj)}{σ:St}{H:Hp}{s:Shared}{a:Addr}{xs ys:List V}
theorem SqL.of {K:yea}(h:H a=some (.lst xs)):SqL K H a xs:=.inl (.inl h)
theorem SqT.of {K:yea}(h:H a=some (.tup xs)):SqT K H a xs:=.inl (.inl h)
theorem Inv.list (I:Inv X pins σ H s)(h:SqL X.K H a xs):∃its:List Value,Vals xs its∧PlainL s.heap a its.toArray∧xs.length≤yxa:=by
 rcases h with h|⟨o,its,n,hk,hc,hd,hs,hz,r⟩
 ·obtain⟨z,its,n,r,e⟩:=h.ok I.hok;exact⟨its,r,⟨_,n,e,rfl,rfl,rfl⟩,z⟩
 ·refine⟨its.toList,r,⟨o,n,I.kIn a o hk,hc,hd,by simpa using hs⟩,?_⟩;have e:=r.length;simp only[yra] at e;omega
theorem Inv.tuple (I:Inv X pins σ H s)(h:SqT X.K H a xs):∃its:List Value,Vals xs its∧IsTup s.heap a its.toArray∧xs.length≤yxa:=by
 rcases h with h|⟨o,its,n,hk,hc,hs,hz,r⟩
 ·obtain⟨z,its,r,p⟩:=h.ok I.hok;exact⟨its,r,p,z⟩
 ·refine⟨its.toList,r,⟨o,I.kIn a o hk,hc,n,by simpa using hs⟩,?_⟩;have e:=r.length;simp only[yra] at e;omega
theorem Inv.zsbb (I:Inv X pins σ H s)(h:SqL X.K H a xs)(h':SqL X.K H a ys):xs=ys:=by
 obtain⟨its,r,⟨o,n,e,_,_,d⟩,_⟩:=I.list h;obtain⟨its',r',⟨o',n',e',_,_,d'⟩,_⟩:=I.list h';rw[e] at e';cases e';rw[d] at d';injection d' with d1 _
 have:its=its':=by simpa using congrArg Array.toList d1
 subst this;exact r.inj r'
theorem Inv.zpo (I:Inv X pins σ H s)(h:SqT X.K H a xs)(h':SqT X.K H a ys):xs=ys:=by
 obtain⟨its,r,⟨o,e,_,n,d⟩,_⟩:=I.tuple h;obtain⟨its',r',⟨o',e',_,n',d'⟩,_⟩:=I.tuple h';rw[e] at e';cases e';rw[d] at d';injection d' with d1 _
 have:its=its':=by simpa using congrArg Array.toList d1
 subst this;exact r.inj r'
end
abbrev Cx.wish (X:Cx)(E:Value->Shared->Prop):Cx:={ X with xe:=E }
abbrev Cx.nox (X:Cx):Cx:=X.wish λ_ _=>False
theorem Cx.Ok.wish {X:Cx}(ok:X.Ok)(E:Value->Shared->Prop):(X.wish E).Ok :=
 ⟨ok.mod,ok.kind,ok.glob,ok.blt,ok.above,ok.inj,ok.has,ok.cab,ok.hd,ok.frames,ok.stk,ok.exf,ok.bs,ok.bsz,ok.noex,ok.exfs,ok.funs,ok.frf⟩
theorem Cx.Ok.zbn {X:Cx}{E:Value->Shared->Prop}(ok:(X.wish E).Ok):X.Ok :=
 ⟨ok.mod,ok.kind,ok.glob,ok.blt,ok.above,ok.inj,ok.has,ok.cab,ok.hd,ok.frames,ok.stk,ok.exf,ok.bs,ok.bsz,ok.noex,ok.exfs,ok.funs,ok.frf⟩
section
variable {X:Cx}{pins:List (Addr×Obj)}{σ:St}{H:Hp}{s:Shared}{E:Value->Shared->Prop}
theorem Inv.wish (I:Inv X pins σ H s)(E:Value->Shared->Prop):Inv (X.wish E) pins σ H s:=⟨I.ok.wish E,I.os,I.bare,I.base,I.loc,I.cell,I.free,I.freeC,I.pin,I.hok,I.len⟩
theorem Inv.zbn (I:Inv (X.wish E) pins σ H s):Inv X pins σ H s:=⟨I.ok.zbn,I.os,I.bare,I.base,I.loc,I.cell,I.free,I.freeC,I.pin,I.hok,I.len⟩
theorem SP.zbn {D:Ends}{f:Flow}{s':Shared}(h:SP (X.wish E) pins D f s'):SP X pins D f s':=by
 cases f with
 | next=>obtain⟨σ',H',I,q⟩:=h;exact⟨σ',H',I.zbn,q⟩
 | brk=>obtain⟨σ',H',I,q⟩:=h;exact⟨σ',H',I.zbn,q⟩
 | cont=>obtain⟨σ',H',I,q⟩:=h;exact⟨σ',H',I.zbn,q⟩
 | ret u=>obtain⟨v,σ',H',I,r,q⟩:=h;exact⟨v,σ',H',I.zbn,r,q⟩
theorem PSs.nox {st:List Stmt}{t:TS}(h:PSs X.nox st t):PSs X st t:=λpins s σ H D I hw =>
 ywe (h pins s σ H D (I.wish _) hw) (λ_ _ q=>q.zbn) λ_ _ z=>yhg z
end
section
variable {X:Cx}{st:Stmt}{rest:List Stmt}{t u:TS}{e:Expr}{te:TE}{pos:Pos}
def zjtb:TS:=λD σ H=>D.nx σ H
def tSeq (t u:TS):TS:=λD σ H=>t { D with nx:=u D } σ H
theorem zsb:PSs X [] zjtb:=λ_ _ σ H _ I h=>ypk ⟨σ,H,I,h⟩
theorem zca (h1:PS X st t)(h2:PSs X rest u):PSs X (st::rest) (tSeq t u):=by
 intro pins s σ H D I h;refine wpAny_execs_cons (thn (h1 pins s σ H { D with nx:=u D } I h) λf s1 q=>?_);cases f with
 | next =>
  obtain⟨σ',H',I',q⟩:=q;exact h2 pins s1 σ' H' D I' q
 | ret v=>exact q
 | brk=>exact q
 | cont=>exact q
theorem zfa (h1:PS X st t):PSs X [st] t:=by
 intro pins s σ H D I h;refine wpAny_execs_cons (thn (h1 pins s σ H D I h) λf s1 q=>?_);cases f with
 | next=>exact ypk q
 | ret v=>exact q
 | brk=>exact q
 | cont=>exact q
theorem Inv.quiet {pins:List (Addr×Obj)}{σ:St}{H:Hp}{s:Shared}(I:Inv X pins σ H s):interactive X.env=false:=by simp[interactive,I.ok.kind]
def zltb (te:TE):TS:=λD σ H=>te σ H λ_ H1=>D.nx σ H1
theorem zfc (he:PE X e te)(hs:yqr e none pos.line X.env=pure false:=by rfl):PS X (.Expr e pos) (zltb te):=by
 intro pins s σ H D I h;exact wpAny_Expr_any (thn (he pins s σ H _ I h) λv s1 ⟨x,H1,I1,r1,q1⟩=>⟨σ,H1,I1,q1⟩) I.quiet hs
def tRet (te:TE):TS:=λD σ H=>te σ H D.rt
theorem zbb (he:PE X e te):PS X (.Return (some e) pos) (tRet te):=by
 intro pins s σ H D I h;exact wpAny_Return_some (thn (he pins s σ H _ I h) λv s1 ⟨x,H1,I1,r1,q1⟩=>⟨x,σ,H1,I1,r1,q1⟩)
def tIfS (c:TT)(t u:TS):TS:=λD σ H=>c σ H λb H1=>if b=true then t D σ H1 else u D σ H1
theorem zyd {c:Expr}{a b:List Stmt}{tc:TT}(hc:PT X c tc)(ha:PSs X a t)(hb:PSs X b u):PS X (.If c a b pos) (tIfS tc t u):=by
 intro pins s σ H D I h;refine wpAny_If (thn (hc pins s σ H _ I h) λd s1 ⟨H1,I1,q1⟩=>?_);cases d with
 | true=>exact ha pins s1 σ H1 D I1 q1
 | false=>exact hb pins s1 σ H1 D I1 q1
def zpqb:TS:=λ_ _ _=>False
theorem zyg:PS X st zpqb:=λ_ _ _ _ _ _ h=>h.elim
end
abbrev TG:=V->St->Hp->(St->Hp->Prop)->Prop
abbrev TGs:=List V->St->Hp->(St->Hp->Prop)->Prop
def PG (X:Cx)(target:Expr)(t:TG):Prop :=
 ∀(pins:List (Addr×Obj)) (s:Shared) (σ:St) (H:Hp) (v:V) (u:Value) (Q:St->Hp->Prop),Inv X pins σ H s->RelV v u->t v σ H Q →
  wpAny (model X.prog X.w) X.A (assign target X.env u) (λ_ s'=>∃ σ' H',Inv X pins σ' H' s'∧Q σ' H') X.xe s
def PGs (X:Cx)(ts:List Expr)(t:TGs):Prop :=
 ∀(pins:List (Addr×Obj)) (s:Shared) (σ:St) (H:Hp) (vs:List V) (us:List Value) (Q:St->Hp->Prop),Inv X pins σ H s->Vals vs us->t vs σ H Q →
  wpAny (model X.prog X.w) X.A (assignInOrder ((yhj ts X.env).map (·.2)) us) (λ_ s'=>∃ σ' H',Inv X pins σ' H' s'∧Q σ' H') X.xe s
abbrev TSet:=V->V->V->Hp->(Hp->Prop)->Prop
def PSet (X:Cx)(t:TSet):Prop :=
 ∀(pins:List (Addr×Obj)) (s:Shared) (σ:St) (H:Hp) (o i v:V) (ov iv u:Value) (Q:Hp->Prop),Inv X pins σ H s->RelV o ov->RelV i iv->RelV v u->t o i v H Q →
  wpAny (model X.prog X.w) X.A (setItem ov iv u) (λ_ s'=>∃H',Inv X pins σ H' s'∧Q H') X.xe s
section
variable {X:Cx}{pos:Pos}
def zzkb (i:Nat):TG:=λv σ H Q=>Q (σ.set i (some v)) H
theorem zda {i:Nat}{x:Str}(hN:X.N.Nodup)(hi:X.N[i]?=some x)(hx:Loc X.env.scope x)(hf:X.fn x=true∨X.env.scope.names.lookup x=some .local:=by first|exact .inl rfl|exact .inr rfl|assumption):PG X (.Name x pos) (zzkb i):=by
 intro pins s σ H v u Q I r h;exact wpAny_assign_Name (zwab I hN hi hx r (λs' I'=>⟨_,H,I',h⟩) hf)
def gNil:TGs:=λvs σ H Q=>vs=[]∧Q σ H
def zdub (t:TG)(u:TGs):TGs:=λvs σ H Q=>Ex2 λv r=>vs=v::r∧t v σ H fun σ' H'=>u r σ' H' Q
theorem zfd:PGs X [] gNil:=by
 intro pins s σ H vs us Q I r h;obtain⟨e,h⟩:=h;subst e;cases r;exact assignInOrder_nil ⟨σ,H,I,h⟩
theorem zla {e:Expr}{es:List Expr}{t:TG}{u:TGs}(h1:PG X e t)(h2:PGs X es u)
  (hs:(yhj (e::es) X.env).map (·.2)=assign e X.env::(yhj es X.env).map (·.2):=by rfl):PGs X (e::es) (zdub t u):=by
 intro pins s σ H vs us Q I r h;obtain⟨v,vr,e1,h⟩:=h;subst e1;cases r with
 | cons r rr =>
  rw[hs];refine assignInOrder_cons (thn (h1 pins s σ H _ _ _ I r h) λ_ s1 ⟨σ1,H1,I1,q1⟩=>?_);exact h2 pins s1 σ1 H1 _ _ Q I1 rr q1
def gTup (K:yea)(n:Nat)(t:TGs):TG:=λv σ H Q=>Ex2 λa xs=>v = .ref a∧SqT K H a xs∧xs.length=n∧t xs σ H Q
theorem zzg {es:List Expr}{k:Nat}{t:TGs}{n:Nat}(hc:X.calm=true)(h:PGs X es t)
  (hn:(yhj es X.env).length=n:=by rfl) (hst:(yhj es X.env).findIdx? (·.1)=none:=by rfl):PG X (.Tuple es k pos) (gTup X.K n t):=by
 intro pins s σ H v u Q I r hw;obtain⟨a,xs,e1,hq,hl,hw⟩:=hw;subst e1;cases r;obtain⟨its,rv,ht,hz⟩:=I.tuple hq;refine assign_Tuple_tuple (I.ok.hd hc) ht (by simp[hn,← hl,rv.length]) hst λh' hx=>?_;have I1:Inv X pins σ H { s with heap:=h' }:=I.kept (t':=s.toks) λb o e=>hx b o (yab (yma e)) e;exact h pins _ σ H xs _ Q I1 (by simpa using rv) hw
def gSub (to ti:TE)(t:TSet):TG:=λv σ H Q=>to σ H λo H1=>ti σ H1 λi H2=>t o i v H2 λH3=>Q σ H3
theorem zsr {o i:Expr}{to ti:TE}{t:TSet}(ho:PE X o to)(hi:PE X i ti)(hs:PSet X t)
  (ha:∀v,assign (.Subscript o i pos) X.env v=(do
   let ov ← yyn [v] (eval o X.env)
   let iv ← yyn [v,ov] (eval i X.env)
   standAt pos
   yyn [v,ov,iv] (setItem ov iv v)
   release [v,ov,iv] []):=by intro _;rfl):PG X (.Subscript o i pos) (gSub to ti t):=by
 intro pins s σ H v u Q I r h;rw[ha];refine yaa (yoc (thn (ho pins s σ H _ I h) λov s1 ⟨x,H1,I1,r1,q1⟩=>?_));refine yaa (yoc (thn (hi pins s1 σ H1 _ I1 q1) λiv s2 ⟨y,H2,I2,r2,q2⟩=>?_));refine yaa (yvp (yaa (yoc (thn (hs pins s2 σ H2 x y v ov iv u _ I2 r1 r2 r q2) λ_ s3 ⟨H3,I3,q3⟩=>?_))));exact wpAny_release ⟨σ,H3,I3,q3⟩
def tAsg (te:TE)(g:TG):TS:=λD σ H=>te σ H λx H1=>g x σ H1 D.nx
theorem zog {tg e:Expr}{te:TE}{g:TG}(he:PE X e te)(hg:PG X tg g)(hs:swapsWithSole [tg] e pos.line X.env=pure false:=by rfl)(hw:swappedStores [tg] e X.env=pure none:=by rfl)
  (h1:(yhj [tg] X.env).map (·.2)=[assign tg X.env]:=by rfl):PS X (.Assign [tg] e pos) (tAsg te g):=by
 intro pins s σ H D I h;refine wpAny_Assign_stores (thn (he pins s σ H _ I h) λv s1 ⟨x,H1,I1,r1,q1⟩=>?_) hs hw;rw[h1];exact thn (hg pins s1 σ H1 x v _ I1 r1 q1) λ_ s2 q=>q
theorem zna {i:Nat}{x:Str}{e:Expr}{te:TE}{pos':Pos}(hN:X.N.Nodup)(hi:X.N[i]?=some x)(hx:Loc X.env.scope x)(he:PE X e te)(hs:yqr e (some (.Name x pos')) pos.line X.env=pure false:=by rfl)(hf:X.fn x=true∨X.env.scope.names.lookup x=some .local:=by first|exact .inl rfl|exact .inr rfl|assumption) :
  PS X (.Assign [.Name x pos'] e pos) (tAsg te (zzkb i)):=by
 intro pins s σ H D I h;refine wpAny_Assign_Name (thn (he pins s σ H _ I h) λv s1 ⟨y,H1,I1,r1,q1⟩=>?_) hs;exact zwab I1 hN hi hx r1 (λs2 I2=>⟨_,H1,I2,q1⟩) hf
end
section
variable {X:Cx}{pos:Pos}
def zmqb (c:TT)(tb:TS):TS:=λD σ H=>∃W:Nat->St->Hp->Prop,(∃m,W m σ H)∧∀m σ H,W m σ H →
 c σ H λb H1=>if b=true then ∃N:St->Hp->Prop,(∀ σ' H',N σ' H'->∃m',m'<m∧W m' σ' H')∧tb { D with nx:=N,ct:=N,bk:=D.nx } σ H1 else D.nx σ H1
theorem zzs {c:Expr}{body:List Stmt}{tc:TT}{tb:TS}(hp:PassesOwn (model X.prog X.w) X.A X.env X.xe)(hc:PT X c tc)(hb:PSs X body tb):PS X (.While c body [] pos) (zmqb tc tb):=by
 intro pins s σ H D I h;obtain⟨W,⟨m0,w0⟩,turn⟩:=h;refine wpAny_While (codeAny_whileLoop (λn s'=>∃ σ' H',Inv X pins σ' H' s'∧W n σ' H') ?_ m0 ⟨σ,H,I,w0⟩);rintro n s1 ⟨σ1,H1,I1,w1⟩;refine ysg hp (thn (hc pins s1 σ1 H1 _ I1 (turn n σ1 H1 w1)) λb s2 ⟨H2,I2,q2⟩=>?_);cases b with
 | true =>
  obtain⟨N,hN,q2⟩:=q2;rw[if_pos rfl];refine ysg hp (thn (hb pins s2 σ1 H2 _ I2 q2) λf s3 q3=>?_);cases f with
  | next =>
   obtain⟨σ3,H3,I3,n3⟩:=q3;obtain⟨m',hm,w3⟩:=hN σ3 H3 n3;exact⟨m',hm,σ3,H3,I3,w3⟩
  | cont =>
   obtain⟨σ3,H3,I3,n3⟩:=q3;obtain⟨m',hm,w3⟩:=hN σ3 H3 n3;exact⟨m',hm,σ3,H3,I3,w3⟩
  | brk=>exact q3
  | ret v=>exact q3
 | false =>
  rw[if_neg yhb];exact ypk ⟨σ1,H2,I2,q2⟩
end
structure It where
 go:Nat->Hp->Prop
 yld:Nat->Hp->V->Hp->Prop
 stop:Nat->Hp->Prop
def FpOk (X:Cx)(pins:List (Addr×Obj))(H:Hp)(b:Addr):Prop :=
 H b=none∧b≠X.env.locals∧b∉X.fs∧(b∈X.ex∨X.s₀.heap.objs.size≤b)∧(∀x c,X.env.cells.lookup x=some c->c≠b)∧∀p∈X.pn++pins,p.1≠b
theorem Inv.fpOk {X:Cx}{pins:List (Addr×Obj)}{σ:St}{H H':Hp}{s:Shared}{b:Addr}(I:Inv X pins σ H s)(hb:s.heap.objs.size≤b)(hn:H' b=none):FpOk X pins H' b:=by
 refine⟨hn,yxe (yua I.lt hb),I.nofs hb,.inr (yqb I.sz hb),λx c e z=>?_,λp hp z=>?_⟩
 ·obtain⟨v,q⟩:=I.cell x c e;exact absurd (yua q.lt (by rw[z];exact hb)) (yoe _)
 ·exact absurd (yua (yma (I.pin p hp).1) (by rw[z];exact hb)) (yoe _)
structure Turn (P:ytb)(w:World)(K:yea)(tg:Expr)(J:It)(fp:List Addr)(it:Addr)(tn:Nat->Heap->Prop):Prop where
 mem:it∈fp
 obj:∀i h,tn i h->∀b∈fp,∃o,h.get? b=some o∧∀v,o.data ≠ .cell v
 keep:∀i h h',tn i h->(∀b∈fp,∀o,h.get? b=some o->h'.get? b=some o)->tn i h'
 item:∀(X:Cx),X.prog=P->X.w=w->X.K=K->X.calm=true->∀(i:Nat) (pins:List (Addr×Obj)) (s:Shared) (σ:St) (H:Hp) (E:Value->Shared->Prop),Inv X pins σ H s->(∀b∈fp,FpOk X pins H b)->tn i s.heap->J.go i H →
  wpAny (model P w) X.A (pyNext (.ref it)) (λr s1=>∃u,r=some u ∧
   wpAny (model P w) X.A (yqk tg (.ref it) u) (λ_ s2=>Ex2 λx H'=>Inv X pins σ H' s2∧RelV x u∧J.yld i H x H'∧tn (i+1) s2.heap∧∀b∈fp,H' b=none) E s1) E s
 done:∀(X:Cx),X.prog=P->X.w=w->X.K=K->X.calm=true->∀(i:Nat) (pins:List (Addr×Obj)) (s:Shared) (σ:St) (H:Hp) (E:Value->Shared->Prop),Inv X pins σ H s->(∀b∈fp,FpOk X pins H b)->tn i s.heap->J.stop i H →
  wpAny (model P w) X.A (pyNext (.ref it)) (λr s1=>r=none∧Inv X pins σ H s1) E s
 self:∀(A:Around) (i:Nat) (s:Shared) (Q:Value->Shared->Prop) (E:Value->Shared->Prop),tn i s.heap->Q (.ref it) s->wpAny (model P w) A (pyIter (.ref it)) Q E s
abbrev TI:=St->Hp->(It->Hp->Prop)->Prop
def PIE (X:Cx)(pins:List (Addr×Obj))(σ:St)(tg:Expr)(R:It->Hp->Prop)(itv:Value)(s2:Shared):Prop :=
 Ex5 λ(it:Addr) (fp:List Addr) (tn:Nat->Heap->Prop) (J:It) (H':Hp)=>itv = .ref it∧Inv X pins σ H' s2∧Turn X.prog X.w X.K tg J fp it tn∧tn 0 s2.heap∧(∀b∈fp,FpOk X pins H' b)∧R J H'
def PI (X:Cx)(tg iter:Expr)(wi:TI):Prop :=
 ∀(pins:List (Addr×Obj)) (s:Shared) (σ:St) (H:Hp) (R:It->Hp->Prop),Inv X pins σ H s->wi σ H R →
  wpAny (model X.prog X.w) X.A (eval iter X.env) (λv s1=>wpAny (model X.prog X.w) X.A (pyIter v) (PIE X pins σ tg R) X.xe s1) X.xe s
theorem zxkb {M:Model}{A:Around}{E:Value->Shared->Prop}{s:Shared}{tg:Expr}{it:Addr}{u:Value}{o:Obj}{n:String}{vs:Array Value}{Q:Unit->Shared->Prop}(ho:s.heap.get? it=some o)(hc:o.cls = .type n)(hd:o.data = .fields vs)
  (hn:["enumerate","zip","dict_itemiterator","dict_reverseitemiterator","odict_iterator","itertools.zip_longest","itertools.pairwise"].contains n=false) (hQ:Q () s):wpAny M A (yqk tg (.ref it) u) Q E s:=by
 unfold yqk;cases tg<;>first
  | exact yda hQ
  | (cases u<;>first
    | exact yda hQ
    | (refine yaa (yam ho ?_)
       rw[hc,hd];show wpAny M A (if (["enumerate","zip","dict_itemiterator","dict_reverseitemiterator","odict_iterator","itertools.zip_longest","itertools.pairwise"].contains n&&vs[0]?==some (rawInt _))=true then _ else _) Q E s
       rw[if_neg (by intro h;rw[hn,yaf] at h;cases h)];exact yda hQ))
def Itl (K:yea)(a:Addr):It :=
 ⟨λi H=>Ex2 λxs x=>SqL K H a xs∧xs[i]?=some x,λi H x H'=>H'=H∧∀xs,SqL K H a xs->xs[i]?=some x,λi H=>∃xs,SqL K H a xs∧xs.length≤i⟩
def Itt (K:yea)(a:Addr):It :=
 ⟨λi H=>Ex2 λxs x=>SqT K H a xs∧xs[i]?=some x,λi H x H'=>H'=H∧∀xs,SqT K H a xs->xs[i]?=some x,λi H=>∃xs,SqT K H a xs∧xs.length≤i⟩
def Itr (lo:Int)(n:Nat):It:=⟨λi _=>i<n,λi H x H'=>H'=H∧x = .int (lo+i),λi _=>n≤i⟩
theorem zqeb {P:ytb}{w:World}{K:yea}{tg:Expr}(a it:Addr):Turn P w K tg (Itl K a) [it] it (λi h=>h.IsListIter it a i) where
 mem:=by simp
 obj:=λi h st b hb=>by
  have e:b=it:=by simpa using hb
  subst e;obtain⟨o,e,c,d⟩:=st;exact⟨o,e,λv z=>by rw[d] at z;cases z⟩
 keep:=λi h h' st k=>st.at λo e=>k it (by simp) o e
 item:=by
  intro X hP hw hK hc i pins s σ H E I hf st hg;subst hP hw hK;obtain⟨xs,x,hq,hx⟩:=hg;obtain⟨its,rv,p,hz⟩:=I.list hq;obtain⟨u,hu,ru⟩:=rv.get hx;obtain⟨f0,f1,f2,f3,f4,f5⟩:=hf it (by simp);refine wpAny_pyNext_list_item st p.isList (x:=u) (by simpa using hu) λh' st' sb=>?_;have I1:Inv X pins σ H { s with heap:=h' }:=I.turned (t':=s.toks) (λb o hb e=>(sb.2 b hb).trans e) f0 f1 f3 f4 f5;obtain⟨o,e,c,d⟩:=id st';exact⟨u,rfl,zxkb (s:={ s with heap:=h' }) e c d (by decide) ⟨x,H,I1,ru,⟨rfl,λys hy=>by rw[I.zsbb hy hq];exact hx⟩,st',λb hb=>(hf b hb).1⟩⟩
 done:=by
  intro X hP hw hK hc i pins s σ H E I hf st hg;subst hP hw hK;obtain⟨xs,hq,hx⟩:=hg;obtain⟨its,rv,p,hz⟩:=I.list hq;obtain⟨f0,f1,f2,f3,f4,f5⟩:=hf it (by simp);have hl:=rv.length;exact wpAny_pyNext_list_end (I.ok.hd hc) st p.isList (by simp;omega) λh' eb=>⟨rfl,I.turned (t':=s.toks) (λb o hb e=>eb b o hb e) f0 f1 f3 f4 f5⟩
 self:=λ_ _ _ _ _ st h=>wpAny_pyIter_listiter st h
theorem zlcb {P:ytb}{w:World}{K:yea}{tg:Expr}(a it:Addr):Turn P w K tg (Itt K a) [it] it (λi h=>h.IsTupleIter it a i) where
 mem:=by simp
 obj:=λi h st b hb=>by
  have e:b=it:=by simpa using hb
  subst e;obtain⟨o,e,c,d⟩:=st;exact⟨o,e,λv z=>by rw[d] at z;cases z⟩
 keep:=λi h h' st k=>st.at λo e=>k it (by simp) o e
 item:=by
  intro X hP hw hK hc i pins s σ H E I hf st hg;subst hP hw hK;obtain⟨xs,x,hq,hx⟩:=hg;obtain⟨its,rv,p,hz⟩:=I.tuple hq;obtain⟨u,hu,ru⟩:=rv.get hx;obtain⟨f0,f1,f2,f3,f4,f5⟩:=hf it (by simp);refine wpAny_pyNext_tuple_item st (show s.heap.IsTuple a its.toArray from p) (x:=u) (by simpa using hu) λh' st' sb=>?_;have I1:Inv X pins σ H { s with heap:=h' }:=I.turned (t':=s.toks) (λb o hb e=>(sb.2 b hb).trans e) f0 f1 f3 f4 f5;obtain⟨o,e,c,d⟩:=id st';exact⟨u,rfl,zxkb (s:={ s with heap:=h' }) e c d (by decide) ⟨x,H,I1,ru,⟨rfl,λys hy=>by rw[I.zpo hy hq];exact hx⟩,st',λb hb=>(hf b hb).1⟩⟩
 done:=by
  intro X hP hw hK hc i pins s σ H E I hf st hg;subst hP hw hK;obtain⟨xs,hq,hx⟩:=hg;obtain⟨its,rv,p,hz⟩:=I.tuple hq;obtain⟨f0,f1,f2,f3,f4,f5⟩:=hf it (by simp);have hl:=rv.length;exact wpAny_pyNext_tuple_end (I.ok.hd hc) st (show s.heap.IsTuple a its.toArray from p) (by simp;omega) λh' eb=>⟨rfl,I.turned (t':=s.toks) (λb o hb e=>eb b o hb e) f0 f1 f3 f4 f5⟩
 self:=λ_ _ _ _ _ st h=>wpAny_pyIter_tupleiter st h
theorem zmcb {P:ytb}{w:World}{K:yea}{tg:Expr}(it:Addr)(lo:Int)(n:Nat):Turn P w K tg (Itr lo n) [it] it (λi h=>IsRangeIter h it (lo+(i:Nat)*1) ((n:Int)-(i:Nat)) 1) where
 mem:=by simp
 obj:=λi h st b hb=>by
  have e:b=it:=by simpa using hb
  subst e;exact⟨_,st,λv z=>by
   have z':Data.fields _=Data.cell v:=z;cases z'⟩
 keep:=λi h h' st k=>k it (by simp) _ st
 item:=by
  intro X hP hw hK hc i pins s σ H E I hf st hg;subst hP hw hK;obtain⟨f0,f1,f2,f3,f4,f5⟩:=hf it (by simp);have W:=Walks.range (prog:=X.prog) (w:=X.w) (I.ok.hd hc) it lo 1 n;refine W.item i s _ _ hg st λv h' tk hv st' kk=>?_;obtain⟨t,rfl⟩:=hv;have I1:Inv X pins σ H { s with heap:=h',toks:=tk }:=I.turned (λb o hb e=>kk b o (by simpa using hb) e) f0 f1 f3 f4 f5;refine⟨_,rfl,zxkb (s:={ s with heap:=h',toks:=tk }) (n:="range_iterator") st' rfl rfl (by decide) ⟨.int (lo+i),H,I1,⟨t,?_⟩,⟨rfl,rfl⟩,st',λb hb=>(hf b hb).1⟩⟩;rw[Int.mul_one]
 done:=by
  intro X hP hw hK hc i pins s σ H E I hf st hg;subst hP hw hK;obtain⟨f0,f1,f2,f3,f4,f5⟩:=hf it (by simp);exact wpAny_pyNext_range_end (I.ok.hd hc) st (by have:n≤i:=hg;omega) λh' eb=>⟨rfl,I.turned (t':=s.toks) (λb o hb e=>eb b o hb e) f0 f1 f3 f4 f5⟩
 self:=λ_ _ _ _ _ st h=>wpAny_pyIter_rangeiter st h
end L2
namespace L2
open PySem PySem.Spec PyProof.Rows
section
variable {X:Cx}{tg:Expr}
def zcub (K:yea)(tl:TE):TI:=fun σ H R=>tl σ H λx H1=>∃a,x = .ref a∧(∃xs,SqL K H1 a xs)∧R (Itl K a) H1
def iTup (K:yea)(tl:TE):TI:=fun σ H R=>tl σ H λx H1=>∃a,x = .ref a∧(∃xs,SqT K H1 a xs)∧R (Itt K a) H1
theorem zic {l:Expr}{tl:TE}(hl:PE X l tl):PI X tg l (zcub X.K tl):=by
 intro pins s σ H R I h;refine thn (hl pins s σ H _ I h) λv s1 ⟨x,H1,I1,r1,q1⟩=>?_;obtain⟨a,e,⟨xs,hq⟩,q⟩:=q1;subst e;cases r1;obtain⟨its,rv,p,hz⟩:=I1.list hq;refine yij p.isList ?_;refine⟨s1.heap.objs.size,[s1.heap.objs.size],_,_,H1,rfl,I1.kept (t':=s1.toks) λb o e=>yba _ e,zqeb a _,⟨_,yfa _ rfl,rfl,rfl⟩,λb hb=>?_,q⟩;have e:b=s1.heap.objs.size:=by simpa using hb
 subst e;exact I1.fpOk (yha _) (I1.hok.fresh (yha _))
theorem zrr {l:Expr}{tl:TE}(hl:PE X l tl):PI X tg l (iTup X.K tl):=by
 intro pins s σ H R I h;refine thn (hl pins s σ H _ I h) λv s1 ⟨x,H1,I1,r1,q1⟩=>?_;obtain⟨a,e,⟨xs,hq⟩,q⟩:=q1;subst e;cases r1;obtain⟨its,rv,p,hz⟩:=I1.tuple hq;refine yff (show s1.heap.IsTuple a its.toArray from p) ?_;refine⟨s1.heap.objs.size,[s1.heap.objs.size],_,_,H1,rfl,I1.kept (t':=s1.toks) λb o e=>yba _ e,zlcb a _,⟨_,yfa _ rfl,rfl,rfl⟩,λb hb=>?_,q⟩;have e:b=s1.heap.objs.size:=by simpa using hb
 subst e;exact I1.fpOk (yha _) (I1.hok.fresh (yha _))
theorem zxjb {pins:List (Addr×Obj)}{σ:St}{H:Hp}{s:Shared}{R:It->Hp->Prop}{E:Value->Shared->Prop}{lo hi:Int}{t u v:Tok}{tk:Nat}(I:Inv X pins σ H s)(h1:-(2 ^ 62)≤lo)(h2:lo<2 ^ 62)(h3:-(2 ^ 62)≤hi)(h4:hi<2 ^ 62)
  (q:R (Itr lo (hi-lo).toNat) H):wpAny (model X.prog X.w) X.A (pyIter (.ref s.heap.objs.size)) (PIE X pins σ tg R) E { s with heap:=s.heap.push { cls:=.type "range",data:=.fields #[.int lo t,.int hi u,.int 1 v] },toks:=tk }:=by
 refine wpAny_pyIter_range (IsRange.new ..) (small_one h1 h2 h3 h4) ?_;have I1:Inv X pins σ H { s with heap:=s.heap.push { cls:=.type "range",data:=.fields #[.int lo t,.int hi u,.int 1 v] },toks:=tk }:=I.kept λb o e=>yba _ e;refine⟨(s.heap.push { cls:=.type "range",data:=.fields #[.int lo t,.int hi u,.int 1 v] }).objs.size,[(s.heap.push { cls:=.type "range",data:=.fields #[.int lo t,.int hi u,.int 1 v] }).objs.size],_,_,H,rfl,
  I1.kept (t':=tk) λb o e=>yba _ e,zmcb _ lo (hi-lo).toNat,?_,λb hb=>?_,q⟩
 ·have e1:lo+((0:Nat):Int)*1=lo:=by simp
  have e2:(((hi-lo).toNat:Nat):Int)-((0:Nat):Int)=yue.Range.rangeSize lo hi 1:=by rw[rangeSize_one];split<;>omega
  show IsRangeIter _ _ (lo+((0:Nat):Int)*1) ((((hi-lo).toNat:Nat):Int)-((0:Nat):Int)) 1
  rw[e1,e2];exact yfa _ rfl
 ·have e:b=(s.heap.push { cls:=.type "range",data:=.fields #[.int lo t,.int hi u,.int 1 v] }).objs.size:=by simpa using hb
  subst e;exact I1.fpOk (yha _) (I1.hok.fresh (yha _))
def zbub (ta:TA):TI:=fun σ H R=>ta σ H λvs H1=>∃j:Int,vs=[.int j] ∧ -(2 ^ 62)≤j∧j<2 ^ 62∧R (Itr 0 j.toNat) H1
theorem zqb {a:Expr}{ta:TA}{p pos:Pos}(hg:Gl X "range")(hm:X.mg "range" = none)(ha:PA X [a] ta)(hs:yjd [a] X.env=[(false,eval a X.env)]:=by rfl):PI X tg (.Call (.Name "range" p) [a] [] pos) (zbub ta):=by
 intro pins s σ H R I h;refine Call_ (zbs I hg hm boot_range (yxf (thn (ha pos pins s σ H _ I h) λus s1 ⟨vs,H1,I1,r1,q1⟩=>?_) hs rfl));obtain⟨j,e,q1,q2,q⟩:=q1;subst e;cases r1 with
 | cons r rr =>
  cases rr;obtain⟨t,rfl⟩:=r;exact call_range_1 (zxjb I1 (by omega) (by omega) q1 q2 (by simpa using q))
def tFor (wi:TI)(g:TG)(tb:TS):TS:=λD σ H=>wi σ H λJ H1=>∃W:Nat->Nat->St->Hp->Prop,(∃m,W 0 m σ H1)∧∀i m σ H,W i m σ H →
 (J.stop i H∧D.nx σ H)∨(J.go i H∧∃N:St->Hp->Prop,(∀ σ' H',N σ' H'->∃m',m'<m∧W (i+1) m' σ' H')∧∀x H',J.yld i H x H'->g x σ H' fun σ2 H2=>tb { D with nx:=N,ct:=N,bk:=D.nx } σ2 H2)
def zqr (fp:List Addr)(h:Heap):List (Addr×Obj):=fp.filterMap λb=>(h.get? b).map λo=>(b,o)
theorem zpm {fp:List Addr}{h:Heap}{b:Addr}{o:Obj}(hb:b∈fp)(e:h.get? b=some o):(b,o)∈zqr fp h:=ywp.mpr ⟨b,hb,by rw[e];rfl⟩
theorem zfgb {fp:List Addr}{h:Heap}{p:Addr×Obj}(hp:p∈zqr fp h):p.1∈fp∧h.get? p.1=some p.2:=by
 obtain⟨b,hb,e⟩:=ywp.mp hp;cases q:h.get? b with
 | none=>rw[q] at e;cases e
 | some o =>
  rw[q] at e;have e':(b,o)=p:=yfd e;subst e';exact⟨hb,q⟩
theorem Inv.pinned {pins:List (Addr×Obj)}{σ:St}{H:Hp}{s:Shared}{fp:List Addr}(I:Inv X pins σ H s)(hf:∀b∈fp,FpOk X pins H b)(ho:∀b∈fp,∃o,s.heap.get? b=some o∧∀v,o.data ≠ .cell v):Inv X (pins++zqr fp s.heap) σ H s :=
 I.zcp λp hp=>(ywc.mp hp).elim (λz=>I.pin p (yzb _ z)) λz=>by
  obtain⟨hb,e⟩:=zfgb z;obtain⟨f0,f1,f2,_⟩:=hf p.1 hb;obtain⟨o,e',d⟩:=ho p.1 hb;rw[e] at e';cases e';exact⟨e,f0,f1,f2,d⟩
theorem Inv.zos {pins pl:List (Addr×Obj)}{σ:St}{H:Hp}{s:Shared}(I:Inv X (pins++pl) σ H s):Inv X pins σ H s:=I.zcp λp hp=>I.pin p (yzb _ (ylf _ hp))
theorem zlf {iter:Expr}{body:List Stmt}{wi:TI}{g:TG}{tb:TS}{pos:Pos}(hp:PassesOwn (model X.prog X.w) X.A X.env X.xe)(hc:X.calm=true)(hi:PI X tg iter wi)(hg:PG X tg g)(hb:PSs X body tb)
  (hs:∀x,ybm iter X.env x=pure x:=by intro _;rfl):PS X (.For tg iter body [] pos) (tFor wi g tb):=by
 intro pins s σ H D I h;refine wpAny_For (thn (hi pins s σ H _ I h) λv s1 h1=>thn h1 λitv s2 h2=>?_) hs;obtain⟨it,fp,tn,J,H2,e,I2,T,st2,f2,W,⟨m0,w0⟩,turn⟩:=h2;subst e;have stat:∀{H':Hp},(∀b∈fp,H' b=none)->∀b∈fp,FpOk X pins H' b:=λhn b hb=>⟨hn b hb,(f2 b hb).2⟩;refine codeAny_forLoop_any (λn s'=>∃i σ' H',Inv X pins σ' H' s'∧tn i s'.heap∧(∀b∈fp,H' b=none)∧W i n σ' H') ?_ m0 ⟨0,σ,H2,I2,st2,λb hb=>(f2 b hb).1,w0⟩;rintro n s3 ⟨i,σ3,H3,I3,st3,fr3,w3⟩
 rcases turn i n σ3 H3 w3 with⟨stop,qn⟩|⟨go,N,hN,step⟩
 ·refine ysg hp (thn (T.done X rfl rfl rfl hc i pins s3 σ3 H3 X.xe I3 (stat fr3) st3 stop) λr s4 ⟨hr,I4⟩=>?_);subst hr;exact ypk ⟨σ3,H3,I4,qn⟩
 ·refine ysg hp (thn (T.item X rfl rfl rfl hc i pins s3 σ3 H3 X.xe I3 (stat fr3) st3 go) λr s4 ⟨u,hr,h4⟩=>?_);subst hr;refine ysg hp (thn h4 λ_ s5 ⟨x,H5,I5,r5,y5,st5,fr5⟩=>?_);have I5':=I5.pinned (stat fr5) (T.obj _ _ st5);refine ysg hp (thn (hg _ s5 σ3 H5 x u _ I5' r5 (step x H5 y5)) λ_ s6 ⟨σ6,H6,I6,q6⟩=>?_);refine ysg hp (thn (hb _ s6 σ6 H6 _ I6 q6) λf s7 q7=>?_);have again:∀{σ7:St} {H7:Hp},Inv X (pins++zqr fp s5.heap) σ7 H7 s7->N σ7 H7->∃m,m<n∧∃i σ' H',Inv X pins σ' H' s7∧tn i s7.heap∧(∀b∈fp,H' b=none)∧W i m σ' H':=λ{σ7 H7} I7 n7=>by
   obtain⟨m',hm,w7⟩:=hN σ7 H7 n7;refine⟨m',hm,i+1,σ7,H7,I7.zos,T.keep _ _ _ st5 λb hb o e=>(I7.pin (b,o) (yzb _ (yzb _ (zpm hb e)))).1,λb hb=>?_,w7⟩;obtain⟨o,e,d⟩:=T.obj _ _ st5 b hb;exact (I7.pin (b,o) (yzb _ (yzb _ (zpm hb e)))).2.1
  cases f with
  | next=>obtain⟨σ7,H7,I7,n7⟩:=q7;exact again I7 n7
  | cont=>obtain⟨σ7,H7,I7,n7⟩:=q7;exact again I7 n7
  | brk=>obtain⟨σ7,H7,I7,q7⟩:=q7;exact⟨σ7,H7,I7.zos,q7⟩
  | ret v=>obtain⟨x7,σ7,H7,I7,r7,q7⟩:=q7;exact⟨x7,σ7,H7,I7.zos,r7,q7⟩
end
theorem zdh {K:yea}{a:Addr}{xs:List V}{g:TG}{tb:TS}{D:Ends}{σ:St}{H:Hp}(Pv:Nat->St->Hp->Prop)(h0:Pv 0 σ H)(hl:∀i σ H,i≤xs.length->Pv i σ H->SqL K H a xs)
  (hs:∀i x σ H,xs[i]?=some x->Pv i σ H->g x σ H fun σ2 H2=>tb { D with nx:=Pv (i+1),ct:=Pv (i+1),bk:=D.nx } σ2 H2) (hd:∀ σ H,Pv xs.length σ H->D.nx σ H) :
  ∃W:Nat->Nat->St->Hp->Prop,(∃m,W 0 m σ H)∧∀i m σ H,W i m σ H →
   ((Itl K a).stop i H∧D.nx σ H)∨((Itl K a).go i H∧∃N:St->Hp->Prop,(∀ σ' H',N σ' H'->∃m',m'<m∧W (i+1) m' σ' H')∧∀x H',(Itl K a).yld i H x H'->g x σ H' fun σ2 H2=>tb { D with nx:=N,ct:=N,bk:=D.nx } σ2 H2):=by
 refine⟨λi m σ H=>m=xs.length-i∧i≤xs.length∧Pv i σ H,⟨xs.length,by simp,ycb _,h0⟩,?_⟩;rintro i m σ H ⟨rfl,hi,p⟩;have q:=hl i σ H hi p
 by_cases hlt:i<xs.length
 ·refine .inr ⟨⟨xs,xs[i],q,by simp[hlt]⟩,Pv (i+1),fun σ' H' p'=>⟨xs.length-(i+1),by omega,rfl,hlt,p'⟩,λx H' y=>?_⟩;obtain⟨e,y⟩:=y;subst e;exact hs i x σ _ (y xs q) p
 ·have e:i=xs.length:=by omega
  subst e;exact .inl ⟨⟨xs,q,yha _⟩,hd σ H p⟩
theorem zrg {lo:Int}{n:Nat}{g:TG}{tb:TS}{D:Ends}{σ:St}{H:Hp}(Pv:Nat->St->Hp->Prop)(h0:Pv 0 σ H)
  (hs:∀i σ H,i<n->Pv i σ H->g (.int (lo+i)) σ H fun σ2 H2=>tb { D with nx:=Pv (i+1),ct:=Pv (i+1),bk:=D.nx } σ2 H2) (hd:∀ σ H,Pv n σ H->D.nx σ H) :
  ∃W:Nat->Nat->St->Hp->Prop,(∃m,W 0 m σ H)∧∀i m σ H,W i m σ H →
   ((Itr lo n).stop i H∧D.nx σ H)∨((Itr lo n).go i H∧∃N:St->Hp->Prop,(∀ σ' H',N σ' H'->∃m',m'<m∧W (i+1) m' σ' H')∧∀x H',(Itr lo n).yld i H x H'->g x σ H' fun σ2 H2=>tb { D with nx:=N,ct:=N,bk:=D.nx } σ2 H2):=by
 refine⟨λi m σ H=>m=n-i∧i≤n∧Pv i σ H,⟨n,by simp,ycb _,h0⟩,?_⟩;rintro i m σ H ⟨rfl,hi,p⟩
 by_cases hlt:i<n
 ·refine .inr ⟨hlt,Pv (i+1),fun σ' H' p'=>⟨n-(i+1),by omega,rfl,hlt,p'⟩,λx H' y=>?_⟩;obtain⟨e,y⟩:=y;subst e y;exact hs i σ _ hlt p
 ·have e:i=n:=by omega
  subst e;exact .inl ⟨yha _,hd σ H p⟩
end L2
namespace L2
open PySem PySem.Spec PyProof.Rows
abbrev R2:=V->V->Hp->VK->Prop
def OpR (X:Cx)(f:Value->Value->Sem Value)(r:R2):Prop :=
 ∀(pins:List (Addr×Obj)) (s:Shared) (σ:St) (H:Hp) (x y:V) (v u:Value) (Q:VK),Inv X pins σ H s->RelV x v->RelV y u->r x y H Q →
  wpAny (model X.prog X.w) X.A (f v u) (EP X pins σ Q) X.xe s
def UnR (X:Cx)(f:Value->Sem Value)(r:V->Hp->VK->Prop):Prop :=
 ∀(pins:List (Addr×Obj)) (s:Shared) (σ:St) (H:Hp) (x:V) (v:Value) (Q:VK),Inv X pins σ H s->RelV x v->r x H Q →
  wpAny (model X.prog X.w) X.A (f v) (EP X pins σ Q) X.xe s
def zsf (X:Cx)(f:Value)(r:List V->Hp->VK->Prop):Prop :=
 ∀(pins:List (Addr×Obj)) (s:Shared) (σ:St) (H:Hp) (xs:List V) (us:List Value) (Q:VK),Inv X pins σ H s->Vals xs us->r xs H Q →
  wpAny (model X.prog X.w) X.A (call f us) (EP X pins σ Q) X.xe s
def TruR (X:Cx)(r:V->Hp->(Bool->Hp->Prop)->Prop):Prop :=
 ∀(pins:List (Addr×Obj)) (s:Shared) (σ:St) (H:Hp) (x:V) (v:Value) (Q:Bool->Hp->Prop),Inv X pins σ H s->RelV x v->r x H Q →
  wpAny (model X.prog X.w) X.A (truthy v) (TP X pins σ Q) X.xe s
def tOp (r:R2)(ta tb:TE):TE:=fun σ H Q=>ta σ H λx H1=>tb σ H1 λy H2=>r x y H2 Q
def tUn (r:V->Hp->VK->Prop)(ta:TE):TE:=fun σ H Q=>ta σ H λx H1=>r x H1 Q
def rI (C:Int->Int->Prop)(g:Int->Int->V):R2:=λx y H Q=>Ex2 λi j=>x = .int i∧y = .int j∧C i j∧Q (g i j) H
def rI0 (g:Int->Int->V):R2:=λx y H Q=>Ex2 λi j=>x = .int i∧y = .int j∧Q (g i j) H
def rU (g:Int->V):V->Hp->VK->Prop:=λx H Q=>∃i,x = .int i∧Q (g i) H
section
variable {X:Cx}{a b c:Expr}{ta tb tc:TE}{pos:Pos}
theorem binT (ha:PE X a ta)(hb:PE X b tb){pins:List (Addr×Obj)}{s:Shared}{σ:St}{H:Hp}{R:V->V->Hp->Prop}(I:Inv X pins σ H s)
  (h:ta σ H λx H1=>tb σ H1 λy H2=>R x y H2) {Q:Value->Shared->Prop} {f:Value->Value->Sem Value}
  (hf:∀v u s2 x y H2,Inv X pins σ H2 s2->RelV x v->RelV y u->R x y H2->wpAny (model X.prog X.w) X.A (f v u) Q X.xe s2) :
  wpAny (model X.prog X.w) X.A (eval a X.env) (λv s₁=>wpAny (model X.prog X.w) X.A (eval b X.env) (λu s₂=>wpAny (model X.prog X.w) X.A (f v u) Q X.xe s₂) X.xe s₁) X.xe s:=by
 refine thn (ha pins s σ H _ I h) λv s1 ⟨x,H1,I1,r1,q1⟩=>?_;refine thn (hb pins s1 σ H1 _ I1 q1) λu s2 ⟨y,H2,I2,r2,q2⟩=>?_;exact hf v u s2 x y H2 I2 r1 r2 q2
theorem zfb {op:Operator}{r:R2}(ho:OpR X (yqi op) r)(ha:PE X a ta)(hb:PE X b tb):PE X (.BinOp a op b pos) (tOp r ta tb):=by
 intro pins s σ H Q I h;exact wpAny_BinOp (binT ha hb I h λv u s2 x y H2 I2 rx ry q=>ho pins s2 σ H2 x y v u Q I2 rx ry q)
theorem zkrb {op:UnaryOp}{r:V->Hp->VK->Prop}(ho:UnR X (unaryOp op) r)(ha:PE X a ta):PE X (.UnaryOp op a pos) (tUn r ta):=by
 intro pins s σ H Q I h;exact UnaryOp_ (thn (ha pins s σ H _ I h) λv s1 ⟨x,H1,I1,r1,q1⟩=>ho pins s1 σ H1 x v Q I1 r1 q1)
theorem opI {f:Value->Value->Sem Value}{C:Int->Int->Prop}{g:Int->Int->Int}
  (rule:∀(i j:Int) (t u:Tok) (s:Shared) (Q:Value->Shared->Prop) (E:Value->Shared->Prop),C i j->Q (.int (g i j) s.toks) { s with toks:=s.toks+1 }->wpAny (model X.prog X.w) X.A (f (.int i t) (.int j u)) Q E s) :
  OpR X f (rI C λi j=>.int (g i j)):=by
 intro pins s σ H x y v u Q I rx ry h;obtain⟨i,j,rfl,rfl,hc,q⟩:=h;obtain⟨t,rfl⟩:=rx;obtain⟨t',rfl⟩:=ry;exact rule i j t t' s _ _ hc ⟨.int (g i j),H,I.tok _,⟨_,rfl⟩,q⟩
theorem opI0 {f:Value->Value->Sem Value}{g:Int->Int->Int}
  (rule:∀(i j:Int) (t u:Tok) (s:Shared) (Q:Value->Shared->Prop) (E:Value->Shared->Prop),Q (.int (g i j) s.toks) { s with toks:=s.toks+1 }->wpAny (model X.prog X.w) X.A (f (.int i t) (.int j u)) Q E s) :
  OpR X f (rI0 λi j=>.int (g i j)):=by
 intro pins s σ H x y v u Q I rx ry h;obtain⟨i,j,rfl,rfl,q⟩:=h;obtain⟨t,rfl⟩:=rx;obtain⟨t',rfl⟩:=ry;exact rule i j t t' s _ _ ⟨.int (g i j),H,I.tok _,⟨_,rfl⟩,q⟩
theorem opB0 {f:Value->Value->Sem Value}{g:Int->Int->Bool}
  (rule:∀(i j:Int) (t u:Tok) (s:Shared) (Q:Value->Shared->Prop) (E:Value->Shared->Prop),Q (.bool (g i j)) s->wpAny (model X.prog X.w) X.A (f (.int i t) (.int j u)) Q E s) :
  OpR X f (rI0 λi j=>.bl (g i j)):=by
 intro pins s σ H x y v u Q I rx ry h;obtain⟨i,j,rfl,rfl,q⟩:=h;obtain⟨t,rfl⟩:=rx;obtain⟨t',rfl⟩:=ry;exact rule i j t t' s _ _ ⟨.bl (g i j),H,I,rfl,q⟩
def CDiv (i j:Int):Prop:=0<j∧j<1073741824
def CPow (i j:Int):Prop:=0≤j∧j≤1000000∧i.natAbs<2 ^ 64
def CMul (i j:Int):Prop:=(-(2 ^ 64)<i∧i<2 ^ 64)∨(-(2 ^ 64)<j∧j<2 ^ 64)
theorem CMul.ok {i j:Int}(h:CMul i j):IntMulOk i j:=by
 rcases h with⟨h1,h2⟩|⟨h1,h2⟩
 ·exact .of_left (intBits_le_64 h1 h2)
 ·exact .of_right (intBits_le_64 h1 h2)
theorem zxe:OpR X (yqi .Add) (rI0 λi j=>.int (i+j)):=opI0 λ_ _ _ _ _ _ _ q=>add_int q
theorem zur:OpR X (yqi .Sub) (rI0 λi j=>.int (i-j)):=opI0 λ_ _ _ _ _ _ _ q=>sub_int q
theorem zol:OpR X (yqi .Mult) (rI CMul λi j=>.int (i*j)):=opI λ_ _ _ _ _ _ _ hc q=>mul_int q hc.ok
theorem zyi:OpR X (yqi .FloorDiv) (rI CDiv λi j=>.int (i / j)):=opI λi j _ _ _ _ _ hc q=>by
 have h1:(0:Int)<j:=hc.1;have h2:j<1073741824:=hc.2;exact floordiv_int (by omega) (by rw[Int.fdiv_eq_ediv_of_nonneg i (by omega)];exact q) (.inl (PyProof.noPylong_small (by omega)))
theorem zbf:OpR X (yqi .Mod) (rI (λ_ j=>0<j) λi j=>.int (i % j)):=opI λi j _ _ _ _ _ hc q=>by
 have h1:(0:Int)<j:=hc;exact mod_int' (by omega) (by rw[Int.fmod_eq_emod_of_nonneg i (by omega)];exact q)
theorem zlrb:OpR X (yqi .Pow) (rI CPow λi j=>.int (i ^ j.toNat)):=opI λ_ _ _ _ _ _ _ hc q=>pow_int_small hc.1 hc.2.1 hc.2.2 q
theorem unI {f:Value->Sem Value}{g:Int->Int}
  (rule:∀(i:Int) (t:Tok) (s:Shared) (Q:Value->Shared->Prop) (E:Value->Shared->Prop),Q (.int (g i) s.toks) { s with toks:=s.toks+1 }->wpAny (model X.prog X.w) X.A (f (.int i t)) Q E s) :
  UnR X f (rU λi=>.int (g i)):=by
 intro pins s σ H x v Q I rx h;obtain⟨i,rfl,q⟩:=h;obtain⟨t,rfl⟩:=rx;exact rule i t s _ _ ⟨.int (g i),H,I.tok _,⟨_,rfl⟩,q⟩
theorem zylb:UnR X (unaryOp .USub) (rU λi=>.int (-i)):=unI λ_ _ _ _ _ q=>neg_int q
end
def scal:V->V->Bool
 | .non,.non=>true|.non,.int _=>true|.int _,.non=>true|.non,.bl _=>true|.bl _,.non=>true|.non,.str _=>true|.str _,.non=>true
 | .int _,.int _=>true|.bl _,.bl _=>true|.str _,.str _=>true|.byt _,.byt _=>true
 | .int _,.str _=>true|.str _,.int _=>true|.bl _,.str _=>true|.str _,.bl _=>true
 | _,_=>false
def rEq:R2:=λx y H Q=>scal x y=true∧Q (.bl (decide (x=y))) H
def rNe:R2:=λx y H Q=>scal x y=true∧Q (.bl (!decide (x=y))) H
theorem znhb {i j:Int}:decide (V.int i=V.int j)=(i==j):=by
 rw[yrk];simp
theorem zwmb {i j:Bool}:decide (V.bl i=V.bl j)=(i==j):=by
 rw[yrk];simp
theorem zmhb {i j:Str}:decide (V.str i=V.str j)=(i==j):=by
 rw[yrk];simp
theorem zohb {i j:Array UInt8}:decide (V.byt i=V.byt j)=(i.toList==j.toList):=by
 rw[yrk];cases i;cases j;simp
section
variable {X:Cx}{a b c:Expr}{ta tb tc:TE}{pos:Pos}
theorem zcc {pins:List (Addr×Obj)}{σ:St}{H:Hp}{s:Shared}{Q:VK}{k k':Bool}(I:Inv X pins σ H s)(q:Q (.bl k) H)(e:k=k'):EP X pins σ Q (.bool k') s:=by
 subst e;exact⟨.bl k,H,I,rfl,q⟩
theorem zth:OpR X (yzd .Eq) rEq:=by
 intro pins s σ H x y v u Q I rx ry h;obtain⟨hs,q⟩:=h;cases x with
 | non =>
  cases rx;cases y with
  | non=>cases ry;exact PySem.EqNone.eq_none_none (zcc I q (by simp))
  | bl j=>cases ry;exact PySem.EqNone.eq_none_bool (zcc I q (by simp))
  | int j=>obtain⟨t',rfl⟩:=ry;exact PySem.EqNone.eq_none_int (zcc I q (by simp))
  | str j=>obtain⟨t',rfl⟩:=ry;exact PySem.EqNone.eq_none_str (zcc I q (by simp))
  | _=>exact absurd (show false=true from hs) yhb
 | bl i =>
  cases rx;cases y with
  | non=>cases ry;exact PySem.EqNone.eq_bool_none (zcc I q (by simp))
  | bl j=>cases ry;exact eq_bool (zcc I q zwmb)
  | str j=>obtain⟨t',rfl⟩:=ry;exact PySem.EqMixed.eq_bool_str (zcc I q (by simp))
  | _=>exact absurd (show false=true from hs) yhb
 | int i =>
  obtain⟨t,rfl⟩:=rx;cases y with
  | non=>cases ry;exact PySem.EqNone.eq_int_none (zcc I q (by simp))
  | int j=>obtain⟨t',rfl⟩:=ry;exact eq_int (zcc I q znhb)
  | str j=>obtain⟨t',rfl⟩:=ry;exact PySem.EqMixed.eq_int_str (zcc I q (by simp))
  | _=>exact absurd (show false=true from hs) yhb
 | str i =>
  obtain⟨t,rfl⟩:=rx;cases y with
  | non=>cases ry;exact PySem.EqNone.eq_str_none (zcc I q (by simp))
  | bl j=>cases ry;exact PySem.EqMixed.eq_str_bool (zcc I q (by simp))
  | int j=>obtain⟨t',rfl⟩:=ry;exact PySem.EqMixed.eq_str_int (zcc I q (by simp))
  | str j=>obtain⟨t',rfl⟩:=ry;exact eq_str (zcc I q zmhb)
  | _=>exact absurd (show false=true from hs) yhb
 | byt i =>
  obtain⟨t,rfl⟩:=rx;cases y with
  | byt j=>obtain⟨t',rfl⟩:=ry;exact PySem.W.eq_bytes (zcc I q zohb)
  | _=>exact absurd (show false=true from hs) yhb
 | _=>cases y<;>exact absurd (show false=true from hs) yhb
theorem zmrb:OpR X (yzd .NotEq) rNe:=by
 intro pins s σ H x y v u Q I rx ry h;obtain⟨hs,q⟩:=h;cases x with
 | non =>
  cases rx;cases y with
  | non=>cases ry;exact PySem.EqNone.ne_none_none (zcc I q (by simp))
  | bl j=>cases ry;exact PySem.EqNone.ne_none_bool (zcc I q (by simp))
  | int j=>obtain⟨t',rfl⟩:=ry;exact PySem.EqNone.ne_none_int (zcc I q (by simp))
  | str j=>obtain⟨t',rfl⟩:=ry;exact PySem.EqNone.ne_none_str (zcc I q (by simp))
  | _=>exact absurd (show false=true from hs) yhb
 | bl i =>
  cases rx;cases y with
  | non=>cases ry;exact PySem.EqNone.ne_bool_none (zcc I q (by simp))
  | bl j=>cases ry;exact ne_bool (zcc I q (congrArg not zwmb))
  | str j=>obtain⟨t',rfl⟩:=ry;exact PySem.EqMixed.ne_bool_str (zcc I q (by simp))
  | _=>exact absurd (show false=true from hs) yhb
 | int i =>
  obtain⟨t,rfl⟩:=rx;cases y with
  | non=>cases ry;exact PySem.EqNone.ne_int_none (zcc I q (by simp))
  | int j=>obtain⟨t',rfl⟩:=ry;exact ne_int (zcc I q (congrArg not znhb))
  | str j=>obtain⟨t',rfl⟩:=ry;exact PySem.EqMixed.ne_int_str (zcc I q (by simp))
  | _=>exact absurd (show false=true from hs) yhb
 | str i =>
  obtain⟨t,rfl⟩:=rx;cases y with
  | non=>cases ry;exact PySem.EqNone.ne_str_none (zcc I q (by simp))
  | bl j=>cases ry;exact PySem.EqMixed.ne_str_bool (zcc I q (by simp))
  | int j=>obtain⟨t',rfl⟩:=ry;exact PySem.EqMixed.ne_str_int (zcc I q (by simp))
  | str j=>obtain⟨t',rfl⟩:=ry;exact ne_str (zcc I q (congrArg not zmhb))
  | _=>exact absurd (show false=true from hs) yhb
 | byt i =>
  obtain⟨t,rfl⟩:=rx;cases y with
  | byt j=>obtain⟨t',rfl⟩:=ry;exact PySem.W.ne_bytes (zcc I q (congrArg not zohb))
  | _=>exact absurd (show false=true from hs) yhb
 | _=>cases y<;>exact absurd (show false=true from hs) yhb
theorem zikb:OpR X (yzd .Lt) (rI0 λi j=>.bl (decide (i<j))):=opB0 λ_ _ _ _ _ _ _ q=>lt_int q
theorem zagb:OpR X (yzd .LtE) (rI0 λi j=>.bl (decide (i≤j))):=opB0 λ_ _ _ _ _ _ _ q=>le_int q
theorem zorb:OpR X (yzd .Gt) (rI0 λi j=>.bl (decide (j<i))):=opB0 λ_ _ _ _ _ _ _ q=>gt_int q
theorem zprb:OpR X (yzd .GtE) (rI0 λi j=>.bl (decide (j≤i))):=opB0 λ_ _ _ _ _ _ _ q=>ge_int q
theorem zyv:OpR X (yzd .In) (λx y H Q=>Ex2 λi j=>x = .str i∧y = .str j∧Q (.bl (!(yud j i 0 j.length 1).isEmpty)) H):=by
 intro pins s σ H x y v u Q I rx ry h;obtain⟨i,j,rfl,rfl,q⟩:=h;obtain⟨t,rfl⟩:=rx;obtain⟨t',rfl⟩:=ry;exact in_str (zcc I q rfl)
theorem znrb:OpR X (yzd .Is) (λx y H Q=>y = .non∧Q (.bl (decide (x = .non))) H):=by
 intro pins s σ H x y v u Q I rx ry h;obtain⟨rfl,q⟩:=h;cases ry;refine is_none_gen (zcc I q ?_);cases x<;>first
  | (cases rx;rfl)
  | (obtain⟨t,rfl⟩:=rx;rfl)
theorem zbpb:OpR X (yzd .IsNot) (λx y H Q=>y = .non∧Q (.bl (!decide (x = .non))) H):=by
 intro pins s σ H x y v u Q I rx ry h;obtain⟨rfl,q⟩:=h;cases ry;refine isnot_none_gen (zcc I q ?_);cases x<;>first
  | (cases rx;rfl)
  | (obtain⟨t,rfl⟩:=rx;rfl)
theorem zrb (b:Expr){op:CmpOp}(h:op ≠ .In:=by decide)(h2:op ≠ .NotIn:=by decide):ytm op b=false:=by
 have e1:(op==CmpOp.In)=false:=by cases op<;>first|rfl|exact absurd rfl h
 have e2:(op==CmpOp.NotIn)=false:=by cases op<;>first|rfl|exact absurd rfl h2
 cases b<;>simp[ytm,e1,e2]
theorem zqg {op:CmpOp}{r:R2}(ho:OpR X (yzd op) r)(ha:PE X a ta)(hb:PE X b tb)(hm:ytm op b=false):PE X (.Compare a [op] [b] pos) (tOp r ta tb):=by
 intro pins s σ H Q I h;exact wpAny_Compare1 (binT ha hb I h λv u s2 x y H2 I2 rx ry q=>ho pins s2 σ H2 x y v u Q I2 rx ry q) hm
def zoqb (t:TE):TT:=fun σ H Q=>t σ H λx H'=>∃k,x = .bl k∧Q k H'
theorem zgb {op:CmpOp}{r:R2}(ho:OpR X (yzd op) r)(ha:PE X a ta)(hb:PE X b tb)(hm:ytm op b=false):PT X (.Compare a [op] [b] pos) (zoqb (tOp r ta tb)):=by
 intro pins s σ H Q I h;refine wpAny_isTrue_Compare1 (thn (ha pins s σ H _ I h) λv s1 ⟨x,H1,I1,r1,q1⟩=>thn (hb pins s1 σ H1 _ I1 q1) λu s2 ⟨y,H2,I2,r2,q2⟩ =>
  thn (ho pins s2 σ H2 x y v u _ I2 r1 r2 q2) λc s3 ⟨z,H3,I3,r3,k,e,q3⟩=>?_) hm
 subst e;cases r3;exact yee ⟨H3,I3,q3⟩
def zzlb (r r':R2)(ta tb tc:TE):TE:=fun σ H Q=>ta σ H λx H1=>tb σ H1 λy H2=>r x y H2 λz H3=>∃k,z = .bl k ∧
 (if k=true then tc σ H3 λw' H4=>r' y w' H4 Q else Q (.bl false) H3)
theorem zfkb {op op':CmpOp}{r r':R2}(ho:OpR X (yzd op) r)(ho':OpR X (yzd op') r')(ha:PE X a ta)(hb:PE X b tb)(hc:PE X c tc)
  (hm:lastMarks [op,op'] [b,c]=false:=by with_unfolding_all rfl):PE X (.Compare a [op,op'] [b,c] pos) (zzlb r r' ta tb tc):=by
 intro pins s σ H Q I h;refine Compare_chain (thn (ha pins s σ H _ I h) λv s1 ⟨x,H1,I1,r1,q1⟩=>chain_link (thn (hb pins s1 σ H1 _ I1 q1) λu s2 ⟨y,H2,I2,r2,q2⟩ =>
  thn (ho pins s2 σ H2 x y v u _ I2 r1 r2 q2) λd s3 ⟨z,H3,I3,r3,k,e,q3⟩=>?_)) hm
 subst e;cases r3;refine yee ?_;cases k with
 | false=>exact ite_ff ⟨.bl false,H3,I3,rfl,q3⟩
 | true=>exact ite_tt (chain_last (thn (hc pins s3 σ H3 _ I3 q3) λw' s4 ⟨z',H4,I4,r4,q4⟩=>ho' pins s4 σ H4 y z' u w' Q I4 r2 r4 q4))
theorem zzjb {op op':CmpOp}{r r':R2}(ho:OpR X (yzd op) r)(ho':OpR X (yzd op') r')(ha:PE X a ta)(hb:PE X b tb)(hc:PE X c tc)
  (hm:lastMarks [op,op'] [b,c]=false:=by with_unfolding_all rfl):PT X (.Compare a [op,op'] [b,c] pos) (zoqb (zzlb r r' ta tb tc)):=by
 intro pins s σ H Q I h;refine isTrue_chain (thn (ha pins s σ H _ I h) λv s1 ⟨x,H1,I1,r1,q1⟩=>test_link (thn (hb pins s1 σ H1 _ I1 q1) λu s2 ⟨y,H2,I2,r2,q2⟩ =>
  thn (ho pins s2 σ H2 x y v u _ I2 r1 r2 q2) λd s3 ⟨z,H3,I3,r3,k,e,q3⟩=>?_)) hm
 subst e;cases r3;refine yee ?_;cases k with
 | false =>
  obtain⟨k',e',q'⟩:=q3;cases e';exact ite_ff ⟨H3,I3,q'⟩
 | true =>
  refine ite_tt (test_last (thn (hc pins s3 σ H3 _ I3 q3) λw' s4 ⟨z',H4,I4,r4,q4⟩=>thn (ho' pins s4 σ H4 y z' u w' _ I4 r2 r4 q4) λd' s5 ⟨z2,H5,I5,r5,k2,e2,q5⟩=>?_));subst e2;cases r5;exact yee ⟨H5,I5,q5⟩
def TruV (K:yea)(x:V)(H:Hp)(k:Bool):Prop :=
 match x with
 | .non=>k=false
 | .bl b=>k=b
 | .int i=>k=(i != 0)
 | .str y=>y.length≤yxa∧k=((y.length:Int) != 0)
 | .byt y=>y.size≤yxa∧k=((y.size:Int) != 0)
 | .ref p=>(∃xs,SqL K H p xs∧k = !xs.isEmpty)∨(∃xs,SqT K H p xs∧k = !xs.isEmpty)∨∃kvs,H p=some (.dK kvs)∧k = !kvs.isEmpty
 | _=>False
theorem zqdb {κ:Type}{kvs:List (κ×V)}{vs:List (κ×Value)}(r:KV kvs vs):(!vs.isEmpty) = !kvs.isEmpty:=by
 cases r<;>rfl
theorem zcs {xs:List V}{its:List Value}(r:Vals xs its):(!its.toArray.isEmpty) = !xs.isEmpty:=by
 cases r<;>simp
theorem zop:(yxa:Nat)<2 ^ 63:=by rw[sizeLine_eq];decide
theorem zlqb:TruR X (λx H Q=>∃k,TruV X.K x H k∧Q k H):=by
 intro pins s σ H x v Q I rx h;obtain⟨k,e,q⟩:=h;have hl:=zop;have hs:yxa=16777216:=sizeLine_eq;cases x with
 | non =>
  cases rx;have e':k=false:=e;subst e';exact truthy_none ⟨H,I,q⟩
 | bl b =>
  cases rx;have e':k=b:=e;subst e';exact yee ⟨H,I,q⟩
 | int i =>
  obtain⟨t,rfl⟩:=rx;have e':k=(i != 0):=e;subst e';exact PySem.P.truthy_int ⟨H,I,q⟩
 | str y =>
  obtain⟨t,rfl⟩:=rx;obtain⟨hy,e'⟩:y.length≤yxa∧k=((y.length:Int) != 0):=e;subst e';exact PySem.P.truthy_str (by omega) ⟨H,I.tok _,q⟩
 | byt y =>
  obtain⟨t,rfl⟩:=rx;obtain⟨hy,e'⟩:y.size≤yxa∧k=((y.size:Int) != 0):=e;subst e';exact PySem.W.truthy_bytes (by omega) ⟨H,I.tok _,q⟩
 | ref p =>
  cases rx;have e':(∃xs,SqL X.K H p xs∧k = !xs.isEmpty)∨(∃xs,SqT X.K H p xs∧k = !xs.isEmpty)∨∃kvs,H p=some (.dK kvs)∧k = !kvs.isEmpty:=e
  rcases e' with⟨xs,hx,e'⟩|⟨xs,hx,e'⟩|⟨kvs,hx,e'⟩
  ·subst e';obtain⟨its,r,pl,hz⟩:=I.list hx;have hlen:=r.length;exact wpAny_truthy_list pl.isList (by simp only[yna];omega) ⟨H,I.tok _,by rw[zcs r];exact q⟩
  ·subst e';obtain⟨its,r,pl,hz⟩:=I.tuple hx;have hlen:=r.length;exact truthy_tuple pl (by simp only[yna];omega) ⟨H,I.tok _,by rw[zcs r];exact q⟩
  ·subst e';obtain⟨hz,hS,vs,r,m⟩:kvs.length≤yxa∧(p==sysModules)=false∧∃vs,KV kvs vs∧s.heap.DictOf (zfz X.prog X.w) p vs:=I.hok p _ hx;have hlen:kvs.length=vs.length:=Paired.length r;exact wpAny_truthy_dict hS m (by omega) ⟨H,I.tok _,by rw[zqdb r];exact q⟩
 | _=>exact (show False from e).elim
theorem znbb (ha:PE X a ta)(he:∀whole,isTrue a X.env whole=(do let v ← whole;standAt a.pos;yyn [v] (truthy v))) :
  PT X a (fun σ H Q=>ta σ H λx H'=>∃k,TruV X.K x H' k∧Q k H'):=by
 intro pins s σ H Q I h;exact isTrue_plain (thn (ha pins s σ H _ I h) λv s1 ⟨x,H1,I1,r1,q1⟩=>zlqb pins s1 σ H1 x v Q I1 r1 q1) (he _)
theorem vals1 {x:V}{us:List Value}(r:Vals [x] us):∃u,us=[u]∧RelV x u:=by
 cases r with
 | cons r1 r2=>cases r2;exact⟨_,rfl,r1⟩
theorem vals2 {x y:V}{us:List Value}(r:Vals [x,y] us):Ex2 λu w'=>us=[u,w']∧RelV x u∧RelV y w':=by
 cases r with
 | cons r1 r2 =>
  cases r2 with
  | cons r3 r4=>cases r4;exact⟨_,_,rfl,r1,r3⟩
theorem zuhb:zsf X (.type "int") (λxs H Q=>(∃i,xs=[.int i]∧Q (.int i) H)∨∃k,xs=[.bl k]∧Q (.int (if k then 1 else 0)) H):=by
 intro pins s σ H xs us Q I r h
 rcases h with⟨i,rfl,q⟩|⟨k,rfl,q⟩
 ·obtain⟨u,rfl,t,rfl⟩:=vals1 r;exact call_int_int ⟨.int i,H,I,⟨_,rfl⟩,q⟩
 ·obtain⟨u,rfl,r1⟩:=vals1 r;cases r1;exact call_int_bool ⟨.int (if k then 1 else 0),H,I.tok _,⟨_,rfl⟩,q⟩
theorem zon:zsf X (.type "str") (λxs H Q=>∃i,xs=[.int i]∧i.natAbs.log2<1920∧Q (.str (toString i)) H):=by
 intro pins s σ H xs us Q I r h;obtain⟨i,rfl,hz,q⟩:=h;obtain⟨u,rfl,t,rfl⟩:=vals1 r;exact PySem.P.str_of_int hz ⟨.str _,H,I.tok _,⟨_,rfl⟩,q⟩
end
end L2
namespace L2
open PySem PySem.Spec PyProof.Rows
structure ObjM (h:Heap)(x dx C:Addr)(mA:Str->Option Value):Prop where
 obj:h.get? x=some (ywf C dx)
 ns:h.Ns1 dx mA
 ne:dx≠x
theorem zrgb {h:Heap}{dx:Addr}{mA:Str->Option Value}(n:h.Ns1 dx mA):∃od,h.get? dx=some od∧∀name,yql name od=some (mA name):=by
 obtain⟨o,es,ep,ho,hd,hk,_,hm⟩:=n;refine⟨o,ho,λname=>?_⟩;have e:=hm name;unfold nsFind findBy at e;rw[← Array.find?_toList] at e;unfold yql;rw[hd];dsimp only
 split
 ·rename_i y q;rw[q] at e;exact congrArg some e
 ·rename_i q;rw[q] at e;have a:es.toList.any (·.refKey)=false:=by
   rw[List.any_eq_false];intro y hy;obtain⟨z,t,hkey⟩:=hk y (Array.mem_toList_iff.mp hy);simp[DictEntry.refKey,hkey]
  have a':¬ es.toList.any (·.refKey)=true:=by rw[a];exact yhb
  rw[if_neg a'];exact congrArg some e
theorem ObjM.look {h:Heap}{x dx C:Addr}{mA:Str->Option Value}(I:ObjM h x dx C mA):∃od,PySem.W.InstAt h x (ywf C dx) C (some od)∧∀name,yql name od=some (mA name) :=
 let ⟨od,ho,hl⟩:=zrgb I.ns
 ⟨od,⟨I.obj,rfl,rfl,ho⟩,hl⟩
section
variable {prog:ytb}{w:World}{A:Around}{E:Value->Shared->Prop}{s:Shared}{K:yea}{x dx C f:Addr}{mA:Str->Option Value}{name:Str}{v:Value}
theorem get_map {expr:Bool}{Q:Value->Shared->Prop}(X:K.In s.heap)(I:ObjM s.heap x dx C mA)(hg:yig K C name=true)(hh:ytg K C=true)
  (ha:yob K (.ref C) name=some none) (hv:mA name=some v) (hv':ygr v=true) (h:Q v { s with toks:=s.toks+1 }) :
  wpAny (model prog w) A (getAttr (.ref x) name expr) Q E s:=by
 obtain⟨od,J,hl⟩:=I.look;exact PySem.W.get_value X J (ysk hg).1 (PySem.W.findObj_own hh ha rfl (by rw[hl,hv])) hv' h
theorem zykb {pl:Sem Bool}{Q:Value×List Value->Shared->Prop}(X:K.In s.heap)(I:ObjM s.heap x dx C mA)(hg:yig K C name=true)
  (hf:yob K (.ref C) name=some (some (.ref f))) (ht:ykl K (.ref f)=true) (hv:mA name=none) (h:Q (.ref f,[.ref x]) s) :
  wpAny (model prog w) A (yrr (.ref x) name pl) Q E s:=by
 obtain⟨od,J,hl⟩:=I.look;exact PySem.W.method_fn X J (ysk hg).1 (ysk hg).2 hf (beq_iff_eq.mp ht) (by show (yql name od).map (·.isSome)=some false;rw[hl,hv];rfl) h
theorem zlob {ns:List Str}{Q:Unit->Shared->Prop}(X:K.In s.heap)(I:ObjM s.heap x dx C mA)
  (hs:yob K (.ref C) "__setattr__" = some (some (.builtin "object.__setattr__"))) (hp:yxh K C=true) (ht:yzn K C name=some none) (hh:ytg K C=true)
  (hw:yxn mA ns) (hsz:ns.length≤yxa)
  (h:∀h',ObjM h' x dx C (λy=>if y=name then some v else mA y)->yxd dx s.heap h'->Q () { s with heap:=h',toks:=s.toks+2 }) :
  wpAny (model prog w) A (setAttr (.ref x) name v) Q E s:=by
 obtain⟨od,J,hl⟩:=I.look;refine PySem.W.set_plain X J hs (PySem.W.osa_open (s:={ s with toks:=s.toks+1 }) (r:=none) X J hp ht λb=>?_);obtain⟨cd,hc,hd'⟩:=PySem.W.any_some hh;have hx:s.heap.get? x=some ⟨.ref C,some dx,.plain,#[]⟩:=I.obj;refine yaa (yda (yaa (yaa (wpAny_loadPart hx (yaa (PySem.W.Looks.here (s:={ s with toks:=s.toks+1 }) (PySem.W.looks_clsIn X hc) ?_))))));rw[hd'];refine yda (a:=some dx) (yaa (yda (yaa ?_)));refine wpAny_nsSet1 (s:={ s with toks:=s.toks+1 }) I.ns λh' hn2 hs2=>?_;obtain⟨oD,esD,epD,hoD,hdD,hcD⟩:=hn2.count (yxn.cons name v hw);refine yaa (wpAny_lookBehind hoD (by rw[hdD];exact pastItsLine_dict (yqb hcD (by rw[yub];omega))) ?_);exact yda (h _ ⟨(hs2.2 _ (ykd I.ne)).trans I.obj,hn2,I.ne⟩ hs2)
theorem zokb {R:Result->Shared->Prop}{vs:List Value}{kw:List (Str×Value)}(X:K.In s.heap)(hm:yao K C=true)
  (hi:yob K (.ref C) "__init__" = some (some (.ref f))) (hf:PySem.W.typeIn K (.ref f)=some (.type "function"))
  (h:yjj (model prog w) (A.under (.builtin "type.__call__" ⟨.ref C::vs,kw⟩)) (.call (.ref f) ⟨.ref (s.heap.objs.size+1)::vs,kw⟩) (PySem.W.InitBack (s.heap.objs.size+1) R)
   { s with heap:=(s.heap.push yse).push (ywf C s.heap.objs.size) }) :
  yjj (model prog w) A (.call (.ref C) ⟨vs,kw⟩) R s:=by
 obtain⟨hh,g,d,t,os⟩:=s;exact PySem.W.make_core (PySem.W.makes_of X hm) (PySem.W.looks_findIn X hi) (λself=>PySem.W.bind_fn X self hf) (.inl rfl) h
end
def putF (f:Str)(v:V):List (Str×V)->List (Str×V)
 | []=>[(f,v)]
 | (g,x)::r=>if g=f then (g,v)::r else (g,x)::putF f v r
theorem znp (f g:Str)(v:V):∀fs:List (Str×V),(putF f v fs).lookup g=if g=f then some v else fs.lookup g
 | []=>by
  show yze g [(f,v)]=_
  by_cases h:g=f
  ·have hb:(g==f)=true:=beq_iff_eq.mpr h;simp only[yze,hb,if_pos h]
  ·have hb:(g==f)=false:=beq_eq_false_iff_ne.mpr h;simp only[yze,hb,if_neg h]
 | (k,x)::r=>by
  have ih:=znp f g v r;rw[show putF f v ((k,x)::r)=(if k=f then (k,v)::r else (k,x)::putF f v r) from rfl]
  by_cases hk:k=f
  ·rw[if_pos hk]
   by_cases h:g=k
   ·have hb:(g==k)=true:=beq_iff_eq.mpr h;simp only[yze,hb,if_pos (h.trans hk)]
   ·have hb:(g==k)=false:=beq_eq_false_iff_ne.mpr h;simp only[yze,hb,if_neg (λe:g=f=>h (e.trans hk.symm))]
  ·rw[if_neg hk]
   by_cases h:g=k
   ·have hb:(g==k)=true:=beq_iff_eq.mpr h;simp only[yze,hb,if_neg (λe:g=f=>hk (h.symm.trans e))]
   ·have hb:(g==k)=false:=beq_eq_false_iff_ne.mpr h;simp only[yze,hb];exact ih
theorem zrp (f:Str)(v:V):∀fs:List (Str×V),f∈(putF f v fs).map (·.1)∧∀g,g∈fs.map (·.1)->g∈(putF f v fs).map (·.1)
 | []=>⟨by simp[putF],λg h=>by simp at h⟩
 | (k,x)::r=>by
  obtain⟨i1,i2⟩:=zrp f v r;rw[show putF f v ((k,x)::r)=(if k=f then (k,v)::r else (k,x)::putF f v r) from rfl]
  by_cases hk:k=f
  ·rw[if_pos hk];subst hk;exact⟨by simp,λg h=>by simpa using h⟩
  ·rw[if_neg hk];refine⟨?_,λg h=>?_⟩
   ·rw[ygc];exact yoa _ i1
   ·rw[ygc] at h ⊢
    rcases yka.mp h with e|e
    ·exact yka.mpr (.inl e)
    ·exact yoa _ (i2 g e)
theorem zpp (f:Str)(v:V):∀fs:List (Str×V),(putF f v fs).length≤fs.length+1
 | []=>by simp[putF]
 | (k,x)::r=>by
  have ih:=zpp f v r;rw[show putF f v ((k,x)::r)=(if k=f then (k,v)::r else (k,x)::putF f v r) from rfl]
  by_cases hk:k=f
  ·rw[if_pos hk,yub,yub];omega
  ·rw[if_neg hk,yub,yub];omega
theorem RelO.some_of {v:V}{o:Option Value}(r:RelO (some v) o):∃u,o=some u∧RelV v u:=by
 cases o with
 | none=>exact (show False from r).elim
 | some u=>exact⟨u,rfl,r⟩
theorem RelO.none_of {o:Option Value}(r:RelO none o):o=none:=by
 cases o with
 | none=>rfl
 | some u=>exact (show False from r).elim
theorem zghb {v:V}{u:Value}(r:RelV v u):ygr u=true:=by
 cases v with
 | non=>cases (show u=Value.none from r);rfl
 | bl b=>cases (show u=Value.bool b from r);rfl
 | int i=>obtain⟨t,e⟩:=(show ∃t,u=Value.int i t from r);cases e;rfl
 | str x=>obtain⟨t,e⟩:=(show ∃t,u=Value.str x t from r);cases e;rfl
 | byt b=>obtain⟨t,e⟩:=(show ∃t,u=Value.bytes b t from r);cases e;rfl
 | flt b=>obtain⟨t,e⟩:=(show ∃t,u=Value.float b t from r);cases e;rfl
 | ref a=>cases (show u=Value.ref a from r);rfl
 | ty n=>cases (show u=Value.type n from r);rfl
section
variable {P:ytb}{w:World}{H H':Hp}{h h':Heap}{a C dx:Addr}{fs fs':List (Str×V)}
theorem zpt (hok:HOk P w H h)(e:H a=some (.ins C dx fs)):∃mA,ObjM h a dx C mA∧(∀f,RelO (fs.lookup f) (mA f))∧yxn mA (fs.map (·.1))∧fs.length≤1000∧H dx=some (.own a):=by
 obtain⟨d,z,ne,ob,mA,n,r,q⟩:=(show zvh P w H h a (.ins C dx fs) from hok a _ e);exact⟨mA,⟨ob,n,ne⟩,r,q,z,d⟩
end
structure Cls (K:yea)(C:Addr):Prop where
 pg:yig K C ysr=true
 hd:ytg K C=true
 po:yxh K C=true
 sa:yob K (.ref C) "__setattr__" = some (some (.builtin "object.__setattr__"))
theorem Cls.get {K:yea}{C:Addr}(c:Cls K C)(f:Str):yig K C f=true:=c.pg
def zmf (K:yea)(C:Addr)(f:Str):Prop:=yob K (.ref C) f=some none
theorem zmf.taker {K:yea}{C:Addr}{f:Str}(n:zmf K C f):yzn K C f=some none:=by
 unfold yzn;rw[show yob K (.ref C) f=some none from n];rfl
structure Con (K:yea)(C:Addr)(f:Str)(v:V)(u:Value):Prop where
 at_:yob K (.ref C) f=some (some u)
 rel:RelV v u
 get:ykj K u "__get__" = some none
 cp:PySem.W.copiedNames.contains f=false
structure Meth (K:yea)(C:Addr)(m:Str)(f:Addr):Prop where
 at_:yob K (.ref C) m=some (some (.ref f))
 fn:ykl K (.ref f)=true
 kp:yrf K (.ref f)=true
section
variable {X:Cx}{pins:List (Addr×Obj)}{σ:St}{H:Hp}{s:Shared}{a C dx:Addr}{fs:List (Str×V)}{f:Str}{v:V}{A:Around}{E:Value->Shared->Prop}
theorem zes {b:Bool}{Q:Value->Shared->Prop}(I:Inv X pins σ H s)(e:H a=some (.ins C dx fs))(c:Cls X.K C)(n:zmf X.K C f)(l:fs.lookup f=some v)
  (h:∀u s',Inv X pins σ H s'->RelV v u->Q u s'):wpAny (model X.prog X.w) A (getAttr (.ref a) f b) Q E s:=by
 obtain⟨mA,O,r,_,_,_⟩:=zpt I.hok e;obtain⟨u,hu,ru⟩:=RelO.some_of (v:=v) (o:=mA f) (by rw[← l];exact r f);exact get_map I.kIn O (c.get f) c.hd n hu (zghb ru) (h u _ (I.tok _) ru)
theorem zds {m:Str}{g:Addr}{pl:Sem Bool}{Q:Value×List Value->Shared->Prop}(I:Inv X pins σ H s)(e:H a=some (.ins C dx fs))(c:Cls X.K C)(k:Meth X.K C m g)(l:fs.lookup m=none)
  (h:Q (.ref g,[.ref a]) s):wpAny (model X.prog X.w) A (yrr (.ref a) m pl) Q E s:=by
 obtain⟨mA,O,r,_,_,_⟩:=zpt I.hok e;have hn:mA m=none:=RelO.none_of (by rw[← l];exact r m);exact zykb I.kIn O (c.get m) k.at_ k.fn hn h
theorem zjr {y:V}{u:Value}{Q:Unit->Shared->Prop}(I:Inv X pins σ H s)(e:H a=some (.ins C dx fs))(c:Cls X.K C)(n:zmf X.K C f)(hl:fs.length<1000)(ry:RelV y u)
  (h:∀s',Inv X pins σ (upd H a (.ins C dx (putF f y fs))) s'->Q () s'):wpAny (model X.prog X.w) A (setAttr (.ref a) f u) Q E s:=by
 obtain⟨mA,O,r,wi,_,ho⟩:=zpt I.hok e;have hz:(fs.map (·.1)).length≤yxa:=by rw[yca,sizeLine_eq];omega
 refine zlob I.kIn O c.sa c.po n.taker c.hd wi hz λh' O' sb=>h _ ?_;have hd:∃o,h'.get? dx=some o:=let ⟨o,_,_,e',_⟩:=O'.ns;⟨o,e'⟩;refine I.write (x:=a) (e:=dx) (by rw[e];exact True.intro) (.inr ho) (λb q hb z=>(sb.2 b hb).trans z) hd ?_;refine⟨by rw[zta O.ne];exact ho,?_,O.ne,O'.obj,_,O'.ns,λg=>?_,λg hg=>?_⟩
 ·have:=zpp f y fs;omega
 ·show RelO ((putF f y fs).lookup g) (if g=f then some u else mA g);rw[znp]
  by_cases q:g=f
  ·rw[if_pos q,if_pos q];exact ry
  ·rw[if_neg q,if_neg q];exact r g
 ·by_cases q:g=f
  ·rw[q];exact (zrp f y fs).1
  ·refine (zrp f y fs).2 g (wi g λz=>hg ?_);show (if g=f then some u else mA g)=none
   rw[if_neg q];exact z
theorem Inv.made (I:Inv X pins σ H s):Inv X pins σ (upd (upd H s.heap.objs.size (.own (s.heap.objs.size+1))) (s.heap.objs.size+1) (.ins C s.heap.objs.size []))
  { s with heap:=(s.heap.push yse).push (ywf C s.heap.objs.size) }:=by
 have e1:(s.heap.push yse).get? s.heap.objs.size=some yse:=yfa s.heap rfl;have e2:((s.heap.push yse).push (ywf C s.heap.objs.size)).get? (s.heap.objs.size+1)=some (ywf C s.heap.objs.size):=by
  have:=yfa (s.heap.push yse) (o:=ywf C s.heap.objs.size) rfl
  rwa [yjc] at this
 have e3:(s.heap.push yse).Ns s.heap.objs.size (λ_=>none):=⟨yse,#[],_,e1,rfl,(λe he=>absurd he (by simp)),λ_=>rfl⟩;have I1:=I.laid (a:=s.heap.objs.size) (o:=.own (s.heap.objs.size+1)) (h':=s.heap.push yse) (t':=s.toks) (λb u q=>yba _ q) (yha _) ⟨_,e1⟩;refine I1.laid (a:=s.heap.objs.size+1) (o:=.ins C s.heap.objs.size []) (t':=s.toks) (λb u q=>yba _ q) (ybo (yjc _ _)) ?_;have ne:s.heap.objs.size≠s.heap.objs.size+1:=yab (yhf _);refine⟨by rw[zta ne,zua],ycb _,ne,e2,λ_=>none,(Heap.Ns1.of_empty e3).at λo q=>yba _ q,λ_=>True.intro,λy hy=>absurd rfl hy⟩
theorem zxpb {prog:ytb}{w:World}{env:Env}{e:Expr}{f:Str}{pos:Pos}{s:Shared}{Q:Value->Shared->Prop}(hb:yri e f env (eval e env)=eval e env)
  (h:wpAny (model prog w) A (eval e env) (λo s₁=>wpAny (model prog w) A (getAttr o f true) Q E s₁) E s):wpAny (model prog w) A (eval (.Attribute e f pos) env) Q E s :=
 Attribute_any_ h (by rw[arm_eval_Attribute,hb])
end
def tFld (K:yea)(ta:TE)(f:Str):TE:=fun σ H Q=>ta σ H λx H1=>Ex5 λa C dx fs v=>x = .ref a∧H1 a=some (.ins C dx fs)∧Cls K C∧zmf K C f∧fs.lookup f=some v∧Q v H1
def sFld (K:yea)(ta tv:TE)(f:Str):TS:=λD σ H=>tv σ H λy H1=>ta σ H1 λx H2=>Ex4 λa C dx fs=>x = .ref a∧H2 a=some (.ins C dx fs)∧Cls K C∧zmf K C f∧fs.length<1000 ∧
 D.nx σ (upd H2 a (.ins C dx (putF f y fs)))
def InOp (X:Cx)(op:Operator)(rd:V->V->Hp->VK->Prop):Prop :=
 ∀(pins:List (Addr×Obj)) (s:Shared) (σ:St) (H:Hp) (x y:V) (u v:Value) (Q:VK),Inv X pins σ H s->RelV x u->RelV y v->rd x y H Q->wpAny (model X.prog X.w) X.A (inplaceOp op u v) (EP X pins σ Q) X.xe s
def zpob (K:yea)(ta tv:TE)(rd:V->V->Hp->VK->Prop)(f:Str):TS:=λD σ H=>ta σ H λx H1=>Ex5 λa C dx fs v=>x = .ref a∧H1 a=some (.ins C dx fs)∧Cls K C∧zmf K C f∧fs.lookup f=some v ∧
 tv σ H1 λy H2=>rd v y H2 λz H3=>Ex2 λdx' fs'=>H3 a=some (.ins C dx' fs')∧fs'.length<1000∧D.nx σ (upd H3 a (.ins C dx' (putF f z fs')))
section
variable {X:Cx}{o e value:Expr}{f:Str}{pos pos' tpos:Pos}{ta tv:TE}
theorem zti (he:PE X e ta)(hb:yri e f X.env (eval e X.env)=eval e X.env):PE X (.Attribute e f pos) (tFld X.K ta f):=by
 intro pins s σ H Q I h;refine zxpb hb (thn (he pins s σ H _ I h) λu s1 ⟨x,H1,I1,rx,a,C,dx,fs,v,ex,ea,c,n,l,q⟩=>?_);subst ex;obtain rfl:u=Value.ref a:=rx;exact zes I1 ea c n l λu' s2 I2 ru=>⟨v,H1,I2,ru,q⟩
theorem zbp (ha:PE X o ta)(hv:PE X value tv)(hs:yqr value (some (.Attribute o f pos')) pos.line X.env=pure false):PS X (.Assign [.Attribute o f pos'] value pos) (sFld X.K ta tv f):=by
 intro pins s σ H D I h;refine plainObj_wpAny_Assign_Attribute (thn (hv pins s σ H _ I h) λu s1 ⟨y,H1,I1,ry,q⟩=>thn (ha pins s1 σ H1 _ I1 q) λov s2 ⟨x,H2,I2,rx,a,C,dx,fs,ex,ea,c,n,l,q2⟩=>?_) hs;subst ex;obtain rfl:ov=Value.ref a:=rx;exact zjr I2 ea c n l ry λs3 I3=>⟨σ,_,I3,q2⟩
theorem ztfb {op:Operator}{rd:V->V->Hp->VK->Prop}(ha:PE X o ta)(hv:PE X value tv)(hop:InOp X op rd):PS X (.AugAssign (.Attribute o f tpos) op value pos) (zpob X.K ta tv rd f):=by
 intro pins s σ H D I h;refine wpAny_AugAssign_AttributeAny (thn (ha pins s σ H _ I h) λov s1 ⟨x,H1,I1,rx,a,C,dx,fs,v,ex,ea,c,n,l,q⟩=>?_);subst ex;obtain rfl:ov=Value.ref a:=rx;refine zes I1 ea c n l λu s2 I2 ru=>thn (hv pins s2 σ H1 _ I2 q) λw3 s3 ⟨y,H2,I3,ry,q3⟩=>thn (hop pins s3 σ H2 v y u w3 _ I3 ru ry q3) λw4 s4 ⟨z,H3,I4,rz,dx',fs',ea',l',q4⟩=>?_;exact zjr I4 ea' c n l' rz λs5 I5=>⟨σ,_,I5,q4⟩
def rAdd:V->V->Hp->VK->Prop:=λx y H Q=>Ex2 λi j=>x = .int i∧y = .int j∧Q (.int (i+j)) H
theorem znsb:InOp X .Add rAdd:=by
 rintro pins s σ H x y u v Q I rx ry ⟨i,j,rfl,rfl,q⟩;obtain⟨t,rfl⟩:=(show ∃t,u=Value.int i t from rx);obtain⟨t',rfl⟩:=(show ∃t',v=Value.int j t' from ry);exact PyProof.Rows.iadd_int ⟨.int (i+j),H,I.tok _,⟨_,rfl⟩,q⟩
end
section
variable {X:Cx}{pins:List (Addr×Obj)}{σ:St}{H:Hp}{s:Shared}{A:Around}{E:Value->Shared->Prop}{Q:Value->Shared->Prop}{c:Value}{b:Bool}
inductive TyOf (K:yea)(H:Hp):V->Value->Prop where
 | non:TyOf K H .non (.type "NoneType")
 | bl (x:Bool):TyOf K H (.bl x) (.type "bool")
 | int (i:Int):TyOf K H (.int i) (.type "int")
 | str (x:Str):TyOf K H (.str x) (.type "str")
 | flt (x:UInt64):TyOf K H (.flt x) (.type "float")
 | lst {a:Addr} {xs:List V} (e:H a=some (.lst xs)):TyOf K H (.ref a) (.type "list")
 | frz {a:Addr} {o:Obj} {xs:List V} (e:H a=some (.frz o (.lst xs))):TyOf K H (.ref a) (.type "list")
 | tup {a:Addr} {xs:List V} (e:H a=some (.tup xs)):TyOf K H (.ref a) (.type "tuple")
 | dK {a:Addr} {kvs:List (Key×V)} (e:H a=some (.dK kvs)):TyOf K H (.ref a) (.type "dict")
 | dT {a:Addr} {kvs:List (List Key×V)} (e:H a=some (.dT kvs)):TyOf K H (.ref a) (.type "dict")
 | ins {a C dx:Addr} {fs:List (Str×V)} (e:H a=some (.ins C dx fs)) (cl:Cls K C) (ha:yob K (.ref C) "__class__" = some (some (.builtin "object.__class__")))
   (hn:ykj K (.builtin "object.__class__") "__get__" = some (some (.builtin "getset_descriptor.__get__"))) (htk:yco K (.builtin "object.__class__")=some true)
   (hm:yxp K C (.type "object")=some true):TyOf K H (.ref a) (.ref C)
theorem zww {x:V}{u t:Value}(I:Inv X pins σ H s)(rx:RelV x u)(ty:TyOf X.K H x t)(e:yad X.K t c=some b)(h:∀tk,Q (.bool b) { s with toks:=tk }) :
  wpAny (model X.prog X.w) A (call (.builtin "isinstance") [u,c]) Q E s:=by
 cases ty with
 | non=>cases (show u=Value.none from rx);exact yke PySem.W.kitx_none I.kIn True.intro e (λz=>nomatch z) h
 | bl y=>cases (show u=Value.bool y from rx);exact yke PySem.W.kitx_bool I.kIn True.intro e (λz=>nomatch z) h
 | int i=>obtain⟨t,q⟩:=(show ∃t,u=Value.int i t from rx);cases q;exact yke PySem.W.kitx_int I.kIn True.intro e (λz=>nomatch z) h
 | str y=>obtain⟨t,q⟩:=(show ∃t,u=Value.str y t from rx);cases q;exact yke PySem.W.kitx_str I.kIn True.intro e (λz=>nomatch z) h
 | flt y=>obtain⟨t,q⟩:=(show ∃t,u=Value.float y t from rx);cases q;exact yke PySem.W.kitx_float I.kIn True.intro e (λz=>nomatch z) h
 | @lst a xs ea =>
  cases (show u=Value.ref a from rx);obtain⟨_,_,n,_,h1⟩:=(show zvh X.prog X.w H s.heap a (.lst xs) from I.hok a _ ea);exact yke yjq I.kIn ⟨_,h1,rfl⟩ e (λz=>nomatch z) h
 | @frz a ob xs ea =>
  cases (show u=Value.ref a from rx);obtain⟨_,_,_,n,_,h1⟩:=(show zvh X.prog X.w H s.heap a (.frz ob (.lst xs)) from I.hok a _ ea);exact yke yjq I.kIn ⟨_,h1,rfl⟩ e (λz=>nomatch z) h
 | @tup a xs ea =>
  cases (show u=Value.ref a from rx);obtain⟨_,_,_,p⟩:=(show zvh X.prog X.w H s.heap a (.tup xs) from I.hok a _ ea);obtain⟨o,h1,h2,_⟩:=p;exact yke PySem.W.kitx_tuple I.kIn ⟨o,h1,h2⟩ e (λz=>nomatch z) h
 | @dK a kvs ea =>
  cases (show u=Value.ref a from rx);obtain⟨_,_,vs,_,p⟩:=(show zvh X.prog X.w H s.heap a (.dK kvs) from I.hok a _ ea);obtain⟨o,es,ep,h1,h2,_⟩:=p;exact yke ykq I.kIn ⟨o,h1,h2.1⟩ e (λz=>nomatch z) h
 | @dT a kvs ea =>
  cases (show u=Value.ref a from rx);obtain⟨_,_,xs,_,o,es,ep,h1,h2,_⟩:=(show zvh X.prog X.w H s.heap a (.dT kvs) from I.hok a _ ea);exact yke ykq I.kIn ⟨o,h1,h2.1⟩ e (λz=>nomatch z) h
 | @ins a C dx fs ea cl ha hn htk hm =>
  cases (show u=Value.ref a from rx);obtain⟨mA,O,_⟩:=zpt I.hok ea;obtain⟨od,J,_⟩:=O.look;exact yke (PySem.W.kitx_own (cl.get _) cl.hd ha hn htk hm) I.kIn J e (λz=>nomatch z) h
end
end L2
namespace L2
open PySem PySem.Spec PyProof.Rows
structure Room (k:Nat)(A:Around):Prop where
 hd:A.handled=none
 dp:A.depth+3*k+5<recursionLimit
 un:A.units+16*k+200<cLine
theorem Room.mono {j k:Nat}{A:Around}(r:Room k A)(h:j≤k):Room j A:=⟨r.hd,by have:=r.dp;omega,by have:=r.un;omega⟩
theorem Room.deeper {k:Nat}{A:Around}(r:Room (k+1) A)(env:Env):Room k (A.deeper env) :=
 ⟨r.hd,by have:=r.dp;show A.depth+1+3*k+5<_;omega,by have:=r.un;show A.units+3+16*k+200<_;omega⟩
theorem zpdb {A:Around}{C:Addr}{us:List Value}{kw:List (Str×Value)}:(A.under (.builtin "type.__call__" ⟨.ref C::us,kw⟩)).depth=A.depth+1:=by
 first|rfl|simp[yyq,Code.weight,Code.isCreation,Code.isGuard,Code.isCaller,Code.frames,yzq,guardIds]
theorem zodb {A:Around}{C:Addr}{us:List Value}{kw:List (Str×Value)}:(A.under (.builtin "type.__call__" ⟨.ref C::us,kw⟩)).units=A.units+1:=by
 first|rfl|simp[yyq,Code.cUnits,Code.frames,yzq]
theorem Room.make {k:Nat}{A:Around}(r:Room (k+1) A)(C:Addr)(us:List Value)(kw:List (Str×Value)):Room k (A.under (.builtin "type.__call__" ⟨.ref C::us,kw⟩)) :=
 ⟨r.hd,by have:=r.dp;rw[zpdb];omega,by have:=r.un;rw[zodb];omega⟩
theorem Room.depth {k:Nat}{A:Around}(r:Room k A):A.depth<recursionLimit:=by have:=r.dp;omega
theorem Room.units {k:Nat}{A:Around}(r:Room k A):A.units+64<cLine:=by have:=r.un;omega
def tNil:TA:=λ_ H Q=>Q [] H
def zmtb (ta:TE)(tr:TA):TA:=fun σ H Q=>ta σ H λx H1=>tr σ H1 λxs H2=>Q (x::xs) H2
section
variable {X:Cx}{e:Expr}{es:List Expr}{te:TE}{t:TA}{pos:Pos}
theorem zba:PA X [] tNil:=λ_ _ _ _ H Q I h=>Calls.spliced_nil ⟨[],H,I,.nil,h⟩
theorem zaa (ha:PE X e te)(hr:PA X es t)(hs:yjd (e::es) X.env=(false,eval e X.env)::yjd es X.env:=by rfl):PA X (e::es) (zmtb te t):=by
 intro pos pins s σ H Q I h;rw[hs];show wpAny _ _ (spliced ((false,eval e X.env)::backTo pos (yjd es X.env))) _ _ s
 refine Calls.spliced_cons (thn (ha pins s σ H _ I h) λu s1 ⟨x,H1,I1,r1,q1⟩=>?_);exact thn (hr pos pins s1 σ H1 _ I1 q1) λus s2 ⟨xs,H2,I2,r2,q2⟩=>⟨x::xs,H2,I2,.cons r1 r2,q2⟩
def tTup (t:TA):TE:=fun σ H Q=>t σ H λxs H1=>xs.length≤yxa∧∀p,H1 p=none->Q (.ref p) (upd H1 p (.tup xs))
def tLst (t:TA):TE:=fun σ H Q=>t σ H λxs H1=>xs.length≤yxa∧∀p,H1 p=none->Q (.ref p) (upd H1 p (.lst xs))
theorem znb {x1}(h:PA X es t):PE X (.Tuple es x1 pos) (tTup t):=by
 intro pins s σ H Q I hq;refine wpAny_Tuple_spliced (thn (h pos pins s σ H _ I hq) λus s1 ⟨xs,H1,I1,r,z,q⟩=>⟨by rw[← r.length];exact z,?_⟩);have hf:H1 s1.heap.objs.size=none:=I1.hok.fresh (yha _);refine⟨.ref s1.heap.objs.size,upd H1 s1.heap.objs.size (.tup xs),I1.laid (t':=s1.toks) (λb u e=>yba _ e) (yha _) ?_,rfl,q _ hf⟩;exact⟨z,us,r,⟨_,yfa _ rfl,rfl,_,rfl⟩⟩
theorem zlc (h:PA X es t):PE X (.List es pos) (tLst t):=by
 intro pins s σ H Q I hq;refine wpAny_List_spliced (thn (h pos pins s σ H _ I hq) λus s1 ⟨xs,H1,I1,r,z,q⟩=>⟨by rw[← r.length];exact z,?_⟩);have hf:H1 s1.heap.objs.size=none:=I1.hok.fresh (yha _);refine⟨.ref s1.heap.objs.size,upd H1 s1.heap.objs.size (.lst xs),I1.laid (t':=s1.toks) (λb u e=>yba _ e) (yha _) ?_,rfl,q _ hf⟩;exact⟨z,us,0,r,yfa _ rfl⟩
end
abbrev Sp:=List V->Hp->VK->XK->Prop
abbrev CXT:=List Env->Hp->Shared->XK->Value->Shared->Prop
structure Env0 (P:ytb)(w:World)(K:yea)(mg:Str->Option Value)(base:Heap)(A:Around)(outer:List Env)(s:Shared)(H:Hp):Prop where
 frames:A.frames=some outer
 mod:Mod K mg base
 bs:∀b o,base.get? b=some o->s.heap.get? b=some o∧H b=none
 bsz:base.objs.size≤s.heap.objs.size
 funs:s.heap.FunFrames base outer
 frf:∀b∈frs outer,H b=none
 hok:HOk P w H s.heap
 bare:ymp s.gens
def CE (outer:List Env)(P:ytb)(w:World)(H:Hp)(s:Shared)(Q:VK)(u:Value)(s':Shared):Prop :=
 Ex2 λv H'=>s'.os=s.os∧ymp s'.gens∧Un (frs outer) [] H H' s.heap s'.heap∧HOk P w H' s'.heap∧RelV v u∧Q v H'
def CR (CX:CXT)(outer:List Env)(P:ytb)(w:World)(H:Hp)(s:Shared)(Q:VK)(E:XK)(r:Result)(s':Shared):Prop :=
 match r with
 | .ok (.ret u)=>CE outer P w H s Q u s'
 | .ok _=>False
 | .error e=>CX outer H s E e s'
structure FnOk (P:ytb)(w:World)(K:yea)(mg:Str->Option Value)(base:Heap)(CX:CXT)(k:Nat)(f:Addr)(fd:ycg)(ps:List Str)(sp:Sp):Prop where
 len:∀vs H Q E,sp vs H Q E->vs.length=ps.length
 run:∀(A:Around) (outer:List Env) (s:Shared) (H:Hp) (args:Args) (us:List Value) (vs:List V) (Q:VK) (E:XK),Room k A->Env0 P w K mg base A outer s H->ylq s fd args (ps.zip us)->Vals vs us->sp vs H Q E →
  yjj (model P w) A (.call (.ref f) args) (CR CX outer P w H s Q E) s
theorem FnOk.mono {P:ytb}{w:World}{K:yea}{mg:Str->Option Value}{base:Heap}{CX:CXT}{j k:Nat}{f:Addr}{fd:ycg}{ps:List Str}{sp:Sp}(F:FnOk P w K mg base CX j f fd ps sp)(h:j≤k) :
  FnOk P w K mg base CX k f fd ps sp:=⟨F.len,λA outer s H args us vs Q E hr=>F.run A outer s H args us vs Q E (hr.mono h)⟩
theorem Env0.make {P:ytb}{w:World}{K:yea}{mg:Str->Option Value}{base:Heap}{A:Around}{outer:List Env}{s:Shared}{H:Hp}(e:Env0 P w K mg base A outer s H)(C:Addr)(us:List Value)(kw:List (Str×Value)) :
  Env0 P w K mg base (A.under (.builtin "type.__call__" ⟨.ref C::us,kw⟩)) outer s H:=⟨by first|exact e.frames|(simpa [yyq,Code.envs,yzq,pushEnvs] using e.frames),e.mod,e.bs,e.bsz,e.funs,e.frf,e.hok,e.bare⟩
section
variable {X:Cx}{pins:List (Addr×Obj)}{σ:St}{H:Hp}{s s':Shared}
theorem Inv.env0 (I:Inv X pins σ H s):Env0 X.prog X.w X.K X.mg X.base X.A X.stack s H :=
 ⟨I.ok.frames,I.ok.mod,I.bs,yqb I.ok.bsz I.sz,I.stack,I.zveb,I.hok,I.bare⟩
theorem Inv.after {Q:VK}{u:Value}(I:Inv X pins σ H s)(h:CE X.stack X.prog X.w H s Q u s'):EP X pins σ Q u s':=by
 obtain⟨v,H',os,bare,un,hok,r,q⟩:=h;obtain⟨hh,g,d,t,os'⟩:=s';obtain rfl:os'=s.os:=os;exact⟨v,H',I.call (h':=hh) (g':=g) (d':=d) (t':=t) (ch:=[]) un hok bare (λb z=>absurd z (by simp)),r,q⟩
end
def zntb (sp:Sp)(dvs:List V)(E:XK)(t:TA):TE:=fun σ H Q=>t σ H λvs H1=>sp (vs++dvs) H1 Q E
def zqqb (C:Addr)(m:Str)(sp:Sp)(dvs:List V)(E:XK)(ta:TE)(t:TA):TE:=fun σ H Q=>ta σ H λx H1=>Ex3 λa dx fs=>x = .ref a∧H1 a=some (.ins C dx fs)∧fs.lookup m=none ∧
 t σ H1 λvs H2=>sp (x::(vs++dvs)) H2 Q E
def zktb (C:Addr)(sp:Sp)(dvs:List V)(E:XK)(t:TA):TE:=fun σ H Q=>t σ H λvs H1=>∀x dx,H1 x=none->H1 dx=none->dx≠x →
 sp (.ref x::(vs++dvs)) (upd (upd H1 dx (.own x)) x (.ins C dx [])) (λv H2=>v = .non∧Q (.ref x) H2) E
def Binds (K:yea)(fd:ycg)(ps:List Str)(ds:List Value):Prop :=
 ∀(s:Shared) (us:List Value),K.In s.heap->(us++ds).length=ps.length->ylq s fd ⟨us,[]⟩ (ps.zip (us++ds))
theorem Binds.all {K:yea}{fd:ycg}{ps:List Str}(h:∀us:List Value,us.length=ps.length->bindArgs fd ⟨us,[]⟩=pure (ps.zip us)):Binds K fd ps []:=λs us _ hl=>by
 rw[ync] at hl ⊢;exact .of_eq (h us hl)
def Passes (CX:CXT)(X:Cx)(E:XK):Prop:=∀(pins:List (Addr×Obj)) (σ:St) (H:Hp) (s:Shared) (e:Value) (s':Shared),Inv X pins σ H s->CX X.stack H s E e s'->X.xe e s'
section
variable {X:Cx}{CX:CXT}{k:Nat}{f C:Addr}{fd:ycg}{ps:List Str}{sp:Sp}{dvs:List V}{ds:List Value}{E:XK}{x m:Str}{p pos apos:Pos}{e o:Expr}{es:List Expr}{ta:TE}{t:TA}
theorem zrfb {pins:List (Addr×Obj)}{σ:St}{H:Hp}{s:Shared}{Q:VK}{us:List Value}{vs:List V}(F:FnOk X.prog X.w X.K X.mg X.base CX k f fd ps sp)(hr:Room k X.A)(hb:Binds X.K fd ps ds)(hd:Vals dvs ds)(hx:Passes CX X E)
  (I:Inv X pins σ H s) (r:Vals vs us) (h:sp (vs++dvs) H Q E):wpAny (model X.prog X.w) X.A (call (.ref f) us) (EP X pins σ Q) X.xe s:=by
 have r2:Vals (vs++dvs) (us++ds):=r.append hd;have hl:(us++ds).length=ps.length:=by rw[← r2.length];exact F.len _ _ _ _ h
 refine ycp (yjg (F.run X.A X.stack s H ⟨us,[]⟩ (us++ds) (vs++dvs) Q E hr I.env0 (hb s us I.kIn hl) r2 h) λr s' hq=>?_);cases r with
 | error e=>exact hx pins σ H s e s' I hq
 | ok fl =>
  cases fl with
  | ret u=>exact I.after hq
  | next=>exact yhg hq
  | brk=>exact yhg hq
  | cont=>exact yhg hq
theorem zja (F:FnOk X.prog X.w X.K X.mg X.base CX k f fd ps sp)(hr:Room k X.A)(hg:Gl X x)(hm:X.mg x=some (.ref f))(hk:yrf X.K (.ref f)=true)(hb:Binds X.K fd ps ds)(hd:Vals dvs ds)(hx:Passes CX X E)
  (ha:PA X (e::es) t) (hdb:(x==("__debug__":Str))=false:=by decide) (he:yjd (e::es) X.env=(false,eval e X.env)::yjd es X.env:=by rfl) (hpl:(backTo pos (yjd es X.env)).any (·.1)=false:=by rfl) :
  PE X (.Call (.Name x p) (e::es) [] pos) (zntb sp dvs E t):=by
 intro pins s σ H Q I h;refine ysi (zjz I hg hm ?_ hdb);refine yll (h₀:=X.base) I.ok.mod.kin hk (thn (ha pos pins s σ H _ I h) λus s1 ⟨vs,H1,I1,r,q⟩=>⟨I1.kIn,?_⟩) he hpl;exact zrfb F hr hb hd hx I1 r q
theorem zapb {pl:Sem Bool}(he:PE X o ta)(c:Cls X.K C)(hm:Meth X.K C m f)(F:FnOk X.prog X.w X.K X.mg X.base CX k f fd ps sp)(hr:Room k X.A)(hb:Binds X.K fd ps ds)(hd:Vals dvs ds)(hx:Passes CX X E)(ha:PA X (e::es) t)
  (hst:yjd (e::es) X.env=(false,eval e X.env)::yjd es X.env:=by rfl) (hpl:(backTo pos (yjd es X.env)).any (·.1)=false:=by rfl)
  (ht:eval (.Call (.Attribute o m apos) (e::es) [] pos) X.env=(do
   let ov ← eval o X.env
   standAt apos.atName
   let (f,first) ← yyn [ov] (yrr ov m pl)
   callWith pos f first (backTo pos (yjd (e::es) X.env)) (yor pos (yum [] X.env))):=by rfl) :
  PE X (.Call (.Attribute o m apos) (e::es) [] pos) (zqqb C m sp dvs E ta t):=by
 intro pins s σ H Q I h;refine ydo (pl:=pl) (thn (he pins s σ H _ I h) λu s1 ⟨x,H1,I1,rx,a,dx,fs,ex,ea,l,q⟩=>?_) ht;subst ex;obtain rfl:u=Value.ref a:=rx;refine zds I1 ea c hm l ?_;refine yll (first:=[.ref a]) (h₀:=X.base) I.ok.mod.kin hm.kp (thn (ha pos pins s1 σ H1 _ I1 q) λus s2 ⟨vs,H2,I2,r,q2⟩=>⟨I2.kIn,?_⟩) hst hpl;exact zrfb (us:=.ref a::us) (vs:=.ref a::vs) F hr hb hd hx I2 (.cons rfl r) q2
theorem zei {pl:Sem Bool}(he:PE X o ta)(c:Cls X.K C)(hm:Meth X.K C m f)(F:FnOk X.prog X.w X.K X.mg X.base CX k f fd ps sp)(hr:Room k X.A)(hb:Binds X.K fd ps ds)(hd:Vals dvs ds)(hx:Passes CX X E)
  (ht:eval (.Call (.Attribute o m apos) [] [] pos) X.env=(do
   let ov ← eval o X.env
   standAt apos.atName
   let (f,first) ← yyn [ov] (yrr ov m pl)
   callWith pos f first (backTo pos (yjd [] X.env)) (yor pos (yum [] X.env))):=by rfl) :
  PE X (.Call (.Attribute o m apos) [] [] pos) (zqqb C m sp dvs E ta tNil):=by
 intro pins s σ H Q I h;refine ydo (pl:=pl) (thn (he pins s σ H _ I h) λu s1 ⟨x,H1,I1,rx,a,dx,fs,ex,ea,l,q⟩=>?_) ht;subst ex;obtain rfl:u=Value.ref a:=rx;refine zds I1 ea c hm l ?_;exact PySem.W.callWith_K0 (first:=[.ref a]) I1.kIn hm.kp (zrfb (us:=[.ref a]) (vs:=[.ref a]) F hr hb hd hx I1 (.cons rfl .nil) q)
structure Mk (K:yea)(C f:Addr):Prop where
 makes:yao K C=true
 init:yob K (.ref C) "__init__" = some (some (.ref f))
 fn:ykl K (.ref f)=true
 kp:yrf K (.ref C)=true
theorem zvjb {pins:List (Addr×Obj)}{σ:St}{H:Hp}{s:Shared}{Q:VK}{us:List Value}{vs:List V}(M:Mk X.K C f)(F:FnOk X.prog X.w X.K X.mg X.base CX k f fd ps sp)(hr:Room (k+1) X.A)(hb:Binds X.K fd ps ds)(hd:Vals dvs ds)
  (hx:Passes CX X E) (I:Inv X pins σ H s) (r:Vals vs us)
  (h:∀x dx,H x=none->H dx=none->dx≠x->sp (.ref x::(vs++dvs)) (upd (upd H dx (.own x)) x (.ins C dx [])) (λv H2=>v = .non∧Q (.ref x) H2) E) :
  wpAny (model X.prog X.w) X.A (call (.ref C) us) (EP X pins σ Q) X.xe s:=by
 have hq:=h (s.heap.objs.size+1) s.heap.objs.size (I.hok.fresh (yif _)) (I.hok.fresh (yha _)) (yab (yhf _));have I2:=Inv.made (C:=C) I;have r2:Vals (V.ref (s.heap.objs.size+1)::(vs++dvs)) (Value.ref (s.heap.objs.size+1)::(us++ds)):=.cons rfl (r.append hd);have hl:(Value.ref (s.heap.objs.size+1)::us++ds).length=ps.length:=by
  have e:=r2.length;rw[F.len _ _ _ _ hq] at e;exact e.symm
 refine ycp (zokb (f:=f) I.kIn M.makes M.init (beq_iff_eq.mp M.fn) (yjg (F.run _ X.stack _ _ ⟨Value.ref (s.heap.objs.size+1)::us,[]⟩ (Value.ref (s.heap.objs.size+1)::(us++ds)) _ _ E (hr.make C us [])
  (I2.env0.make C us []) (hb _ (Value.ref (s.heap.objs.size+1)::us) I2.kIn hl) r2 hq) λr s' hq'=>?_))
 cases r with
 | error e=>exact hx pins σ _ _ e s' I2 hq'
 | ok fl =>
  cases fl with
  | ret u =>
   obtain⟨v,H',I3,rv,ev,q3⟩:=I2.after hq';subst ev;exact⟨rv,⟨V.ref (s.heap.objs.size+1),H',I3,rfl,q3⟩⟩
  | next=>exact yhg hq'
  | brk=>exact yhg hq'
  | cont=>exact yhg hq'
theorem zxfb (M:Mk X.K C f)(F:FnOk X.prog X.w X.K X.mg X.base CX k f fd ps sp)(hr:Room (k+1) X.A)(hg:Gl X x)(hm:X.mg x=some (.ref C))(hb:Binds X.K fd ps ds)(hd:Vals dvs ds)(hx:Passes CX X E)
  (ha:PA X (e::es) t) (hdb:(x==("__debug__":Str))=false:=by decide) (he:yjd (e::es) X.env=(false,eval e X.env)::yjd es X.env:=by rfl) (hpl:(backTo pos (yjd es X.env)).any (·.1)=false:=by rfl) :
  PE X (.Call (.Name x p) (e::es) [] pos) (zktb C sp dvs E t):=by
 intro pins s σ H Q I h;refine ysi (zjz I hg hm ?_ hdb);refine yll (h₀:=X.base) I.ok.mod.kin M.kp (thn (ha pos pins s σ H _ I h) λus s1 ⟨vs,H1,I1,r,q⟩=>⟨I1.kIn,?_⟩) he hpl;exact zvjb M F hr hb hd hx I1 r q
end
section
variable {X:Cx}{CX:CXT}{k:Nat}{f C:Addr}{fd:ycg}{ps ks:List Str}{sp:Sp}{E:XK}{x m:Str}{p pos apos kpos:Pos}{e o:Expr}{es:List Expr}{kws:List ymq}{te ta:TE}{t tk:TA}{nm:Option Str}
structure ziub (K:yea)(fd:ycg)(ps ks:List Str)(g:List Value->List Value->List Value)(gV:List V->List V->List V):Prop where
 to:∀(s:Shared) (us ws:List Value),K.In s.heap->(g us ws).length=ps.length->ylq s fd ⟨us,ks.zip ws⟩ (ps.zip (g us ws))
 rel:∀{vs:List V} {us:List Value} {zs:List V} {ws:List Value},Vals vs us->Vals zs ws->Vals (gV vs zs) (g us ws)
variable {g:List Value->List Value->List Value}{gV:List V->List V->List V}
end
structure zpa (N P:List Str)(sc:Scope):Prop where
 kind:sc.kind = .function
 co:sc.isCoroutine=false
 gen:sc.isGenerator=false
 nd:N.Nodup
 pre:N.take P.length=P
 par:∀x∈P,sc.names.lookup x=some .local∨sc.names.lookup x=some .cell
 nofree:∀y∈sc.names,y.2 ≠ .free
theorem zlx {kindOf:Str->Option yqd}{x:Str}:∀{binds:List (Str×Value)} {m:Str->Option Value},(∀v,(x,v)∉binds)->bindL kindOf binds m x=m x
 | [],_,_=>rfl
 | (n,v)::r,m,h=>by
  unfold bindL;rw[zlx λw hw=>h w (yoa _ hw)]
  split
  ·have:x≠n:=by rintro rfl;exact h v ypa
   simp[this]
  ·rfl
theorem znx {kindOf:Str->Option yqd}{x:Str}:∀{binds:List (Str×Value)} {m:Str->Option Value},(∀v,(x,v)∉binds)->bindC kindOf binds m x=m x
 | [],_,_=>rfl
 | (n,v)::r,m,h=>by
  unfold bindC;rw[znx λw hw=>h w (yoa _ hw)]
  split
  ·rfl
  ·have:x≠n:=by rintro rfl;exact h v ypa
   simp[this]
theorem zmx {kindOf:Str->Option yqd}{x:Str}{v:Value}:∀{P:List Str} {vs:List Value} {i:Nat} {m:Str->Option Value},P.Nodup->P[i]?=some x->vs[i]?=some v->kindOf x=some .local →
  bindL kindOf (P.zip vs) m x=some v
 | [],_,_,_,_,h,_,_=>by simp at h
 | _::_,[],_,_,_,_,h,_=>by simp at h
 | p::P,w::vs,0,m,nd,h1,h2,hk=>by
  simp at h1 h2;subst h1;subst h2;show bindL kindOf ((p,w)::P.zip vs) m p=_
  unfold bindL;rw[zlx λv hv=>(yqh.mp nd).1 (yeo hv).1,if_pos hk];simp
 | p::P,w::vs,i+1,m,nd,h1,h2,hk=>by
  show bindL kindOf ((p,w)::P.zip vs) m x=_
  unfold bindL;exact zmx (i:=i) (yqh.mp nd).2 (by simpa using h1) (by simpa using h2) hk
theorem zox {kindOf:Str->Option yqd}{x:Str}{v:Value}:∀{P:List Str} {vs:List Value} {i:Nat} {m:Str->Option Value},P.Nodup->P[i]?=some x->vs[i]?=some v->kindOf x≠some .local →
  bindC kindOf (P.zip vs) m x=some v
 | [],_,_,_,_,h,_,_=>by simp at h
 | _::_,[],_,_,_,_,h,_=>by simp at h
 | p::P,w::vs,0,m,nd,h1,h2,hk=>by
  simp at h1 h2;subst h1;subst h2;show bindC kindOf ((p,w)::P.zip vs) m p=_
  unfold bindC;rw[znx λv hv=>(yqh.mp nd).1 (yeo hv).1,if_neg hk];simp
 | p::P,w::vs,i+1,m,nd,h1,h2,hk=>by
  show bindC kindOf ((p,w)::P.zip vs) m x=_
  unfold bindC;exact zox (i:=i) (yqh.mp nd).2 (by simpa using h1) (by simpa using h2) hk
def start (N:List Str)(vs:List V):St:=vs.map some++ypb (N.length-vs.length) none
def cxOf (CX:CXT)(P:ytb)(w:World)(K:yea)(mg:Str->Option Value)(base:Heap)(N:List Str)(qual:Str)(scope:Scope)(f:Addr)(cd:Value)(A:Around)(outer:List Env)(s:Shared)(H:Hp)(E:XK):Cx where
 prog:=P
 w:=w
 K:=K
 mg:=mg
 base:=base
 A:=A.deeper (envOfC qual scope s.heap.objs.size f cd)
 N:=N
 s₀:=s
 H₀:=H
 env:=envOfC qual scope s.heap.objs.size f cd
 outer:=outer
 stack:=envOfC qual scope s.heap.objs.size f cd::outer
 ex:=[]
 calm:=true
 fn:=λ_=>true
 pn:=[]
 xe:=λe s'=>wpAny (model P w) (A.deeper (envOfC qual scope s.heap.objs.size f cd)) (leaving (envOfC qual scope s.heap.objs.size f cd) e) (λ_ s''=>CX outer H s E e s'') (λe' s''=>CX outer H s E e' s'') s'
theorem zecb {sc:Scope}{n:Nat}{x:Str}(h:sc.names.lookup x=some .cell):∃c,(cellsFrom n sc.names []).lookup x=some c:=by
 have q:=yrn sc.names n [] (.inl h);exact Option.isSome_iff_exists.mp q
theorem zdhb {CX:CXT}{P:ytb}{w:World}{K:yea}{mg:Str->Option Value}{base:Heap}{N ps:List Str}{qual:Str}{scope:Scope}{f:Addr}{cd:Value}{A:Around}{outer:List Env}{s s1:Shared}{H:Hp}{E:XK}{us:List Value}{vs:List V}
  (S:zpa N ps scope) (hd:A.handled=none) (e0:Env0 P w K mg base A outer s H) (hl:vs.length=ps.length) (r:Vals vs us)
  (x:InCallC s s.heap.objs.size (bindL (envOfC qual scope s.heap.objs.size f cd).kindOf (ps.zip us) λ_=>none) (cellsFrom (s.heap.objs.size+1) scope.names []) (bindC (envOfC qual scope s.heap.objs.size f cd).kindOf (ps.zip us) λ_=>none) s1) :
  Inv (cxOf CX P w K mg base N qual scope f cd A outer s H E) [] (start N vs) H s1:=by
 have hpl:ps.length≤N.length:=by have:=congrArg ynp S.pre;rw[ywa] at this;omega
 obtain⟨h1,tk,rfl,hk⟩:=x.done;have noA:∀b:Addr,b∉(cxOf CX P w K mg base N qual scope f cd A outer s H E).ex:=λb z=>absurd (show b∈([]:List Addr) from z) (by simp);refine⟨⟨e0.mod,S.kind,rfl,rfl,yha _,λy z c h1 h2=>?_,λy hy=>?_,λy c _ h=>?_,λ_=>hd,Around.frames_deeper e0.frames,.inr ⟨rfl,rfl⟩,λb z=>absurd z (noA b),e0.bs,e0.bsz,λb _ _=>noA b,λb z=>absurd z (noA b),e0.funs,e0.frf⟩,
  rfl,e0.bare,Un.kept hk,⟨_,x.toInCall.ns,λi y v h1 h2 h3=>?_⟩,λy c h=>⟨_,x.cell y c h⟩,e0.hok.fresh (yha _),λy c h=>?_,λp hp=>absurd (show p∈([]:List (Addr×Obj)) from hp) (by simp),e0.hok.kept hk,?_⟩
 ·exact name_of_addr x.apart (yfh h1) (yfh h2)
 ·have hy:scope.names.lookup y=some .cell∨scope.names.lookup y=some .free:=hy
  rcases hy with hy|hy
  ·exact zecb hy
  ·exact absurd rfl (S.nofree _ (yfh hy))
 ·exact yre (x.above y c (yfh h))
 ·have hi:i<vs.length:=by
   unfold start at h2
   by_cases hi:i<vs.length
   ·exact hi
   ·rw[ykb (by simpa using hi)] at h2;rw[yvm] at h2
    split at h2<;>cases h2
  have ha:vs[i]?=some v:=by
   unfold start at h2;rw[yrc (by simpa using hi),yla] at h2;cases e:vs[i]? with
   | none=>rw[e] at h2;cases h2
   | some a=>rw[e] at h2;cases h2;rfl
  obtain⟨u,hu,rv⟩:=r.get ha;have hp:ps[i]?=some y:=by
   rw[← S.pre,ygf (by omega)];exact h1
  have ndP:ps.Nodup:=by rw[← S.pre];exact S.nd.sublist (ycm _ _)
  refine⟨u,rv,?_⟩
  rcases S.par y (yta hp) with k|k
  ·exact .inl ⟨k,zmx ndP hp hu k⟩
  ·obtain⟨c,e⟩:=zecb (n:=s.heap.objs.size+1) k;refine .inr ⟨.inl k,c,e,?_⟩;have q:=x.cell y c e;rw[zox ndP hp hu (by show scope.names.lookup y≠_;rw[k];decide)] at q;exact q
 ·exact e0.hok.fresh (yre (x.above y c (yfh h)))
 ·unfold start;show _=N.length
  rw[yja,yca,ysd];omega
theorem zeub {CX:CXT}{P:ytb}{w:World}{K:yea}{mg:Str->Option Value}{base:Heap}{k:Nat}{f:Addr}{name qual:Str}{params:Arguments}{body:List Stmt}{scope:Scope}{dV kV doc pm cdv ct oc:Value}{an od:Option Addr}
  {osl:Array (Option Value)} {N ps:List Str} {sp:Sp} (lk:K.lookup f=some ⟨oc,od,.func (ydh name qual params body scope dV kV doc pm an cdv ct),osl⟩) (hcd:yfi K cdv qual=true) (S:zpa N ps scope)
  (len:∀vs H Q E,sp vs H Q E->vs.length=ps.length)
  (hbody:∀(A:Around) (outer:List Env) (s:Shared) (H:Hp) (vs:List V) (Q:VK) (E:XK),Room k (A.deeper (envOfC qual scope s.heap.objs.size f cdv))->sp vs H Q E →
   ∃t,PSs (cxOf CX P w K mg base N qual scope f cdv A outer s H E) body t∧t { nx:=λ_ H'=>Q .non H',rt:=Q } (start N vs) H) :
  FnOk P w K mg base CX (k+1) f (ydh name qual params body scope dV kV doc pm an cdv ct) ps sp:=by
 refine⟨len,λA outer s H args us vs Q E hr e0 hb r hsp=>?_⟩;have hl:=len _ _ _ _ hsp;have KX:K.In s.heap:=e0.mod.kin.keeps λb o e=>(e0.bs b o e).1;have lim:s.heap.NoLimit:=e0.mod.nolimit.keeps λb o e=>(e0.bs b o e).1;have hkind:∀y∈ps.zip us,scope.names.lookup y.1=some .local∨(scope.names.lookup y.1=some .cell∧((cellsFrom (s.heap.objs.size+1) scope.names []).lookup y.1).isSome=true):=λ⟨n,v⟩ hy=>by
  rcases S.par n (yeo hy).1 with q|q
  ·exact .inl q
  ·exact .inr ⟨q,yrn _ _ _ (.inl q)⟩
 refine codeAny_call_function hr.depth (KX _ _ lk) rfl S.co S.gen rfl (PySem.W.codeRec_of KX hcd) (hb _ _ _ _ ?_);refine wpAny_newFunctionEnv_cells S.kind hkind λenv he s1 x=>?_;subst he;refine⟨lim.keeps x.toInCall.keep,codeAny_func ?_⟩;obtain⟨t,ht,hq⟩:=hbody A outer s H vs Q E (hr.deeper _) hsp;have I:Inv (cxOf CX P w K mg base N qual scope f cdv A outer s H E) [] (start N vs) H s1:=zdhb S hr.hd e0 hl r x;refine ywe (ht [] s1 (start N vs) H _ I hq) (λfl s' hs=>?_) λe s' hs=>hs;have fin:∀{σ':St} {H':Hp} {v:V} {u:Value},Inv (cxOf CX P w K mg base N qual scope f cdv A outer s H E) [] σ' H' s'->RelV v u->Q v H'->CE outer P w H s Q u s' :=
  λ{σ' H' v u} J rv q=>⟨v,H',J.os,J.bare,J.base,J.hok,rv,q⟩
 cases fl with
 | ret u =>
  obtain⟨v,σ',H',J,rv,q⟩:=hs;exact fin J rv q
 | next =>
  obtain⟨σ',H',J,q⟩:=hs;exact fin (v:=V.non) (u:=Value.none) J rfl q
 | brk =>
  obtain⟨_,_,_,q⟩:=hs;exact yhg q
 | cont =>
  obtain⟨_,_,_,q⟩:=hs;exact yhg q
end L2
namespace L2
open PySem PySem.Spec PyProof.Rows
section
variable {X:Cx}{x:Str}{p pos:Pos}{e:Expr}{es:List Expr}{t:TA}{id T:String}{r:List V->Hp->VK->Prop}
def tCB (r:List V->Hp->VK->Prop)(t:TA):TE:=fun σ H Q=>t σ H λvs H1=>r vs H1 Q
theorem zya (hc:zsf X (.builtin id) r)(hg:Gl X x)(hm:X.mg x=none)(hv:yph x=some (.builtin id))(ha:PA X (e::es) t)(hn:x ≠ "__name__":=by decide)(hdb:(x==("__debug__":Str))=false:=by decide)
  (he:yjd (e::es) X.env=(false,eval e X.env)::yjd es X.env:=by rfl) (hpl:(backTo pos (yjd es X.env)).any (·.1)=false:=by rfl):PE X (.Call (.Name x p) (e::es) [] pos) (tCB r t):=by
 intro pins s σ H Q I h;refine ysi (zbs I hg hm hv ?_ hn hdb);exact PyProof.Rows.callWith_builtin1 (thn (ha pos pins s σ H _ I h) λus s1 ⟨vs,H1,I1,r1,q1⟩=>hc pins s1 σ H1 vs us Q I1 r1 q1) he hpl
theorem zoa (hc:zsf X (.type T) r)(hg:Gl X x)(hm:X.mg x=none)(hv:yph x=some (.type T))(ha:PA X (e::es) t)(hn:x ≠ "__name__":=by decide)(hdb:(x==("__debug__":Str))=false:=by decide)
  (he:yjd (e::es) X.env=(false,eval e X.env)::yjd es X.env:=by rfl) (hpl:(backTo pos (yjd es X.env)).any (·.1)=false:=by rfl):PE X (.Call (.Name x p) (e::es) [] pos) (tCB r t):=by
 intro pins s σ H Q I h;refine ysi (zbs I hg hm hv ?_ hn hdb);exact yxf (thn (ha pos pins s σ H _ I h) λus s1 ⟨vs,H1,I1,r1,q1⟩=>hc pins s1 σ H1 vs us Q I1 r1 q1) he hpl
end
end L2
namespace HT
open PySem PyProof.Rows
section
open PySem.SeqAt
open PySem.AutoSeq1 (wpAny_loadPart')
open PySem.MeetsSeq PySem.MeetsSeq2 PySem.MeetsSeq3
end
section
variable {prog:ytb}{w:World}{A:Around}{E:Value->Shared->Prop}{s:Shared}
theorem zvpb {t b:Addr}{vs ws:List Value}{Q:Value->Shared->Prop}(ht:IsTup s.heap t vs.toArray)(hb:IsTup s.heap b ws.toArray)(hv:vs≠[])
  (h1:ws=[]->Q (.ref t) s) (h2:ws≠[]->Q (.ref s.heap.objs.size) { s with heap:=s.heap.push { cls:=.type "tuple",data:=.seq (vs++ws).toArray } })
  (hsz:vs.length+ws.length≤yxa):wpAny (model prog w) A (yqi .Add (.ref t) (.ref b)) Q E s:=by
 obtain⟨⟨cls,dd,data,sl⟩,ho,hc,n,hd⟩:=id ht;obtain⟨⟨cls2,dd2,data2,sl2⟩,ho2,hc2,n2,hd2⟩:=id hb;simp only at hc hd hc2 hd2;subst hc hd hc2 hd2;have e:vs.toArray++ws.toArray=(vs++ws).toArray:=by simp
 by_cases hw:ws=[]
 ·exact yfo ⟨_,ho,rfl⟩ ⟨_,ho2,rfl⟩ yzj ywm ynh ygh (yug _ _)
   (tuple_addW1 t b vs.toArray ws.toArray n n2 dd dd2 sl sl2 (by simpa using hv) (by simp[hw])) ⟨ho,ho2,h1 hw⟩
 ·refine yfo ⟨_,ho,rfl⟩ ⟨_,ho2,rfl⟩ yzj ywm ynh ygh (yug _ _)
   (tuple_addW2 t b vs.toArray ws.toArray n n2 dd dd2 sl sl2 (by simpa using hv) (by simpa using hw) (by rw[yna,yna];exact hsz)) ⟨ho,ho2,?_⟩
  rw[e];exact h2 hw
def sIx (n d:Nat):Option Int->Nat
 | none=>d
 | some v=>if v<0 then (v+(n:Int)).toNat else min v.toNat n
theorem zjbb (n d:Nat):sIx n d none=d:=rfl
theorem zlm (n d k:Nat):sIx n d (some (k:Int))=min k n:=by
 show (if (k:Int)<0 then ((k:Int)+(n:Int)).toNat else min (k:Int).toNat n)=min k n
 rw[if_neg (by omega),ysa]
theorem zcrb (n d:Nat)(hd:d≤n)(o:Option Int):sIx n d o≤n:=by
 cases o with
 | none=>exact hd
 | some v =>
  show (if v<0 then (v+(n:Int)).toNat else min v.toNat n)≤n
  by_cases hv:v<0
  ·rw[if_pos hv];omega
  ·rw[if_neg hv];exact yln _ _
theorem zrhb (v:Int)(n d:Nat):(if v<0 then max (v+(n:Int)) 0 else min v (n:Int))=((sIx n d (some v):Nat):Int):=by
 show (if v<0 then max (v+(n:Int)) 0 else min v (n:Int))=(((if v<0 then (v+(n:Int)).toNat else min v.toNat n):Nat):Int)
 by_cases hv:v<0
 ·simp only[if_pos hv];omega
 ·simp only[if_neg hv];omega
theorem zceb (lo hi:Option Int)(n:Nat):ygi lo hi 1 (n:Int)=(((sIx n 0 lo:Nat):Int),((sIx n n hi:Nat):Int)):=by
 have h1:¬ ((1:Int)<0):=by omega
 unfold ygi;simp only[h1,if_false];refine Prod.ext ?_ ?_
 ·cases lo with
  | none=>rfl
  | some v=>exact zrhb v n 0
 ·cases hi with
  | none=>rfl
  | some v=>exact zrhb v n n
theorem zbdb (i j:Nat):yng (i:Int) (j:Int) 1=j-i:=by
 unfold yng;have h1:(1:Int)>0:=by omega
 simp only[h1,if_true,Int.ediv_one]
 split<;>omega
theorem zir {v:Value}{o:Option Int}{Q:Option Int->Shared->Prop}(p:IsPart v o)(h:Q o s):wpAny (model prog w) A (yue.Slice.slicePartIndex v) Q E s:=by
 cases p with
 | none=>exact slicePart_none h
 | int i t=>exact slicePart_int h
theorem zqi {sl:Addr}{vl vu:Value}{lo hi:Option Int}{n:Nat}{Q:Int×Int×Nat->Shared->Prop}(hs:s.heap.IsSliceOf sl vl vu .none)(pl:IsPart vl lo)(pu:IsPart vu hi)
  (h:Q (((sIx n 0 lo:Nat):Int),1,sIx n n hi-sIx n 0 lo) s):wpAny (model prog w) A (yhl (.ref sl) (pure (n:Int))) Q E s:=by
 obtain⟨os,hos,hcs,hds⟩:=id hs;unfold yhl yue.Slice.sliceFields;refine yaa (yaa (yod hos hds (x:=vl) rfl (yaa (yod hos hds (x:=vu) rfl (yaa (yod hos hds (x:=.none) rfl (yda ?_)))))));refine yaa (slicePart_none ?_);show wpAny _ _ (if ((1:Int)==0)=true then _ else _) _ _ s
 rw[if_neg (by decide)];refine yaa (zir pl (yaa (zir pu (yaa (yda ?_)))));show wpAny _ _ (match ygi lo hi 1 (n:Int) with|(lo,hi)=>pure (lo,(1:Int),yng lo hi 1)) _ _ s
 rw[zceb lo hi n];show wpAny _ _ (pure (((sIx n 0 lo:Nat):Int),(1:Int),yng ((sIx n 0 lo:Nat):Int) ((sIx n n hi:Nat):Int) 1)) _ _ s
 rw[zbdb];exact yda h
theorem zbkb (xs:Array Value)(i k:Nat):((ysf k).filterMap λ(m:Nat)=>xs[((i:Int)+(m:Int)*1).toNat]?).toArray=((xs.toList.drop i).take k).toArray:=by
 have e:(λ(m:Nat)=>xs[((i:Int)+(m:Int)*1).toNat]?)=λm=>xs[i+m]?:=by
  funext m
  have:((i:Int)+(m:Int)*1).toNat=i+m:=by omega
  rw[this]
 rw[e];have:=pick_run xs i k;rw[List.filterMap_map] at this;have e2:((λx=>xs[x]?)∘λx=>i+x)=λm=>xs[i+m]?:=rfl;rw[e2] at this;rw[this]
theorem zsm {t sl:Addr}{items:Array Value}{vl vu:Value}{lo hi:Option Int}{Q:Value->Shared->Prop}(ht:IsTup s.heap t items)(hs:s.heap.IsSliceOf sl vl vu .none)(pl:IsPart vl lo)(pu:IsPart vu hi)
  (hw:¬ (sIx items.size 0 lo=0∧sIx items.size items.size hi=items.size))
  (h:Q (.ref s.heap.objs.size) { s with heap:=s.heap.push { cls:=.type "tuple",data:=.seq ((items.toList.drop (sIx items.size 0 lo)).take (sIx items.size items.size hi-sIx items.size 0 lo)).toArray } })
  (hsz:items.size≤yxa):wpAny (model prog w) A (yop (.ref t) (.ref sl)) Q E s:=by
 have htake:sizeOk (.seq ((items.toList.drop (sIx items.size 0 lo)).take (sIx items.size items.size hi-sIx items.size 0 lo)).toArray):=by
  show ((items.toList.drop (sIx items.size 0 lo)).take (sIx items.size items.size hi-sIx items.size 0 lo)).toArray.size≤yxa
  rw[yna,ywa,ylh,yra];omega
 have hj:sIx items.size items.size hi≤items.size:=zcrb _ _ (yha _) hi;obtain⟨os,hos,hcs,hds⟩:=id hs;have hTs:s.TypeIs (.ref sl) "slice":=⟨os,hos,hcs⟩;unfold yop
 try with_reducible refine yoc ?_
 first|refine yaa (yda ?_)|skip
 refine yaa (ydm ht.typeIs (by decide) ?_);refine yaa (ypc (name:=ydf "__getitem__") ht.typeIs ypd
  (yic ypd ht.typeIs entry_tuple_getitem ?_ (args_tuple_getitem _ _)))
 show wpAny _ _ (yil (.ref t) >>= _) _ _ s
 refine yaa (tupleItemsOf_ ht ?_);refine yaa (ymi hTs ?_);rw[if_pos (by decide)];refine yaa (zqi hs pl pu ?_);have hno:¬ ((((sIx items.size 0 lo:Nat):Int)==0&&(1:Int)==1&&(sIx items.size items.size hi-sIx items.size 0 lo)==items.size)=true):=by
  intro q;rw[yde,yde] at q;have q1:((sIx items.size 0 lo:Nat):Int)=0:=eq_of_beq q.1.1;have q2:sIx items.size items.size hi-sIx items.size 0 lo=items.size:=eq_of_beq q.2;exact hw ⟨by omega,by omega⟩
 show wpAny _ _ (if (((sIx items.size 0 lo:Nat):Int)==0&&(1:Int)==1&&(sIx items.size items.size hi-sIx items.size 0 lo)==items.size)=true then _ else _) _ _ s
 rw[if_neg hno,zbkb]
 first
  | exact yaa (m:=yvg _) (ydd (yda ⟨_,rfl,yda h⟩) htake)
  | exact yaa (m:=yvg _) (ydd (yaa (yda (yda ⟨_,rfl,yda h⟩))) htake)
  | exact yaa (yaa (m:=yvg _) (ydd (yda (yda ⟨_,rfl,yda h⟩)) htake))
  | exact yaa (yaa (m:=yvg _) (ydd (yda ⟨_,rfl,yda h⟩) htake))
end
end HT
namespace L2
open PySem PySem.Spec PyProof.Rows
abbrev TO:=St->Hp->(Option Int->Hp->Prop)->Prop
def PO (X:Cx)(e:Option Expr)(t:TO):Prop :=
 ∀(pins:List (Addr×Obj)) (s:Shared) (σ:St) (H:Hp) (Q:Option Int->Hp->Prop),Inv X pins σ H s->t σ H Q →
  wpAny (model X.prog X.w) X.A (evalPart e X.env) (λu s'=>Ex2 λo H'=>Inv X pins σ H' s'∧IsPart u o∧Q o H') X.xe s
def ztnb:TO:=λ_ H Q=>Q none H
def zgtb (t:TE):TO:=fun σ H Q=>t σ H λx H1=>∃i,x = .int i∧Q (some i) H1
theorem intsAre_of {ns:List Int}:∀{us:List Value},Vals (ns.map V.int) us->yyf us ns:=by
 induction ns with
 | nil=>intro us r;rw[yrh] at r;cases r;exact .nil
 | cons n ns ih =>
  intro us r;rw[ygc] at r;cases r with
  | cons r1 r2 =>
   obtain⟨t,e⟩:=r1;subst e;exact .cons n t (ih r2)
section
variable {X:Cx}{e:Expr}{te:TE}{lo hi:Option Expr}{tl th:TO}{pos p2:Pos}
theorem zkk:PO X none ztnb:=by
 intro pins s σ H Q I h;rw[evalPart_none];exact yda ⟨none,H,I,.none,h⟩
theorem zjk (h:PE X e te):PO X (some e) (zgtb te):=by
 intro pins s σ H Q I hw;rw[evalPart_some];refine thn (h pins s σ H _ I hw) λu s1 ⟨x,H1,I1,r1,q1⟩=>?_;obtain⟨i,rfl,q⟩:=q1;obtain⟨t,rfl⟩:=r1;exact⟨some i,H1,I1,.int i t,q⟩
def SlR (X:Cx)(r:V->Option Int->Option Int->Hp->VK->Prop):Prop :=
 ∀(pins:List (Addr×Obj)) (s:Shared) (σ:St) (H:Hp) (x:V) (v vl vu:Value) (lo hi:Option Int) (sl:Addr) (Q:VK),Inv X pins σ H s->RelV x v->s.heap.IsSliceOf sl vl vu .none->IsPart vl lo->IsPart vu hi->r x lo hi H Q →
  Ex2 λT id=>typeLookup (.type T) "__getitem__" = pure (some (.builtin id))∧s.TypeIs v T∧wpAny (model X.prog X.w) X.A (yop v (.ref sl)) (EP X pins σ Q) X.xe s
def tSl (r:V->Option Int->Option Int->Hp->VK->Prop)(te:TE)(tl th:TO):TE:=fun σ H Q=>te σ H λx H1=>tl σ H1 λl H2=>th σ H2 λu H3=>r x l u H3 Q
theorem zdi {r:V->Option Int->Option Int->Hp->VK->Prop}(hr:SlR X r)(he:PE X e te)(hl:PO X lo tl)(hu:PO X hi th):PE X (.Subscript e (.Slice lo hi none p2) pos) (tSl r te tl th):=by
 intro pins s σ H Q I h;refine Subscript_ (thn (he pins s σ H _ I h) λv s1 ⟨x,H1,I1,r1,q1⟩=>?_);refine wpAny_Slice (thn (hl pins s1 σ H1 _ I1 q1) λvl s2 ⟨l,H2,I2,pl,q2⟩=>thn (hu pins s2 σ H2 _ I2 q2) λvu s3 ⟨u,H3,I3,pu,q3⟩=>?_);rw[evalPart_none];refine yda ?_;have I4:Inv X pins σ H3 { s3 with heap:=s3.heap.push { cls:=.type "slice",data:=.fields #[vl,vu,.none] } }:=I3.kept (t':=s3.toks) λb ob q=>yba _ q;obtain⟨T,id,hT,ht,hg⟩:=hr pins { s3 with heap:=s3.heap.push { cls:=.type "slice",data:=.fields #[vl,vu,.none] } } σ H3 x v vl vu l u s3.heap.objs.size Q I4 r1 (Heap.IsSliceOf.new ..) pl pu q3;show wpAny (model X.prog X.w) X.A (subscriptTail e (.Slice lo hi none p2) v (.ref s3.heap.objs.size)) (EP X pins σ Q) X.xe { s3 with heap:=s3.heap.push { cls:=.type "slice",data:=.fields #[vl,vu,.none] } }
 exact tail_any (ops:=[.ref s3.heap.objs.size,v]) ht hT hg (by with_unfolding_all rfl)
def cutV (xs:List V)(lo hi:Option Int):List V:=(xs.drop (HT.sIx xs.length 0 lo)).take (HT.sIx xs.length xs.length hi-HT.sIx xs.length 0 lo)
theorem zzp (xs:List V)(lo hi:Option Int):(cutV xs lo hi).length≤xs.length:=by
 unfold cutV;rw[ywa,ylh];omega
def rSlT (K:yea):V->Option Int->Option Int->Hp->VK->Prop:=λx lo hi H Q=>Ex2 λa xs=>x = .ref a∧SqT K H a xs ∧
 ¬ (HT.sIx xs.length 0 lo=0∧HT.sIx xs.length xs.length hi=xs.length)∧∀p,H p=none->Q (.ref p) (upd H p (.tup (cutV xs lo hi)))
theorem zzu:SlR X (rSlT X.K):=by
 intro pins s σ H x v vl vu lo hi sl Q I rx hs pl pu h;obtain⟨a,xs,rfl,hx,hw,q⟩:=h;cases rx;obtain⟨its,r,ht,hz⟩:=I.tuple hx;have hlen:its.toArray.size=xs.length:=by rw[yna];exact r.length.symm
 refine⟨"tuple",_,ypd.lookup,ht.typeIs,?_⟩;refine HT.zsm ht hs pl pu (by rw[hlen];exact hw) ?_ (by rw[hlen];exact hz);rw[hlen];refine⟨.ref s.heap.objs.size,_,I.laid (t':=s.toks) (o:=.tup (cutV xs lo hi)) (λb ob q=>yba _ q) (yha _) ?_,rfl,q _ (I.hok.fresh (yha _))⟩;exact⟨yqb (zzp xs lo hi) hz,_,(r.drop (HT.sIx xs.length 0 lo)).take (HT.sIx xs.length xs.length hi-HT.sIx xs.length 0 lo),yks _ _⟩
def zwtb (K:yea):R2:=λx y H Q=>Ex4 λa b xs ys=>x = .ref a∧y = .ref b∧SqT K H a xs∧SqT K H b ys∧xs≠[]∧xs.length+ys.length≤yxa ∧
 (ys=[]->Q (.ref a) H)∧(ys≠[]->∀p,H p=none->Q (.ref p) (upd H p (.tup (xs++ys))))
theorem Vals.zcz {xs:List V}{us:List Value}(r:Vals xs us):us=[]↔xs=[]:=by
 cases r with
 | nil=>simp
 | cons _ _=>simp
theorem zzi:OpR X (yqi .Add) (zwtb X.K):=by
 intro pins s σ H x y v u Q I rx ry h;obtain⟨a,b,xs,ys,rfl,rfl,ha,hb,hx,hz,q1,q2⟩:=h;cases rx;cases ry;obtain⟨its,r1,p1,_⟩:=I.tuple ha;obtain⟨its2,r2,p2,_⟩:=I.tuple hb;refine HT.zvpb p1 p2 (λz=>hx (r1.zcz.mp z)) (λz=>⟨.ref a,H,I,rfl,q1 (r2.zcz.mp z)⟩) (λz=>?_) (by rw[← r1.length,← r2.length];exact hz);refine⟨.ref s.heap.objs.size,_,I.laid (t':=s.toks) (o:=.tup (xs++ys)) (λb ob q=>yba _ q) (yha _) ?_,rfl,q2 (λw=>z (r2.zcz.mpr w)) _ (I.hok.fresh (yha _))⟩;exact⟨by rw[yja];exact hz,_,r1.append r2,yks _ _⟩
end
end L2
namespace L2
open PySem PySem.Spec PyProof.Rows
def ixN (n:Nat)(i:Int):Option Nat:=if 0≤i then (if i<n then some i.toNat else none) else if -(n:Int)≤i then some (i+n).toNat else none
def atI {α:Type}(xs:List α)(i:Int):Option α:=(ixN xs.length i).bind λj=>xs[j]?
theorem zchb {n:Nat}{i:Int}{j:Nat}(h:ixN n i=some j):seqIndex? i n=some j∧j<n ∧ -(n:Int)≤i∧i<n:=by
 unfold ixN at h
 by_cases h0:0≤i
 ·rw[if_pos h0] at h
  by_cases h1:i<n
  ·rw[if_pos h1] at h;have e:i.toNat=j:=yfd h;exact⟨by rw[seqIndex_of h0 h1,e],by omega,by omega,h1⟩
  ·rw[if_neg h1] at h;cases h
 ·rw[if_neg h0] at h
  by_cases h1:-(n:Int)≤i
  ·rw[if_pos h1] at h;have e:(i+n).toNat=j:=yfd h;exact⟨by rw[seqIndex_neg (by omega) h1,e],by omega,h1,by omega⟩
  ·rw[if_neg h1] at h;cases h
theorem zeab {α:Type}{xs:List α}{i:Int}{v:α}(h:atI xs i=some v):∃j,seqIndex? i xs.length=some j∧xs[j]?=some v∧j<xs.length ∧ -(xs.length:Int)≤i∧i<xs.length:=by
 unfold atI at h;cases e:ixN xs.length i with
 | none=>rw[e] at h;cases h
 | some j =>
  rw[e] at h;obtain⟨h1,h2,h3,h4⟩:=zchb e;exact⟨j,h1,h,h2,h3,h4⟩
theorem zka {α:Type}{xs:List α}{j:Nat}{v:α}(h:xs[j]?=some v):atI xs (j:Int)=some v:=by
 have hj:j<xs.length:=(yga.mp h).1;have e:ixN xs.length (j:Int)=some j:=by
  unfold ixN;rw[if_pos (by omega),if_pos (by omega)];simp
 unfold atI;rw[e];exact h
def zfqb (b:Expr):Prop:=∀o i,subscripted b false o i=operate [o,i] (yop o i)
def IxR (X:Cx)(r:R2):Prop :=
 ∀(value slice:Expr) (pins:List (Addr×Obj)) (s:Shared) (σ:St) (H:Hp) (x y:V) (v u:Value) (Q:VK),Inv X pins σ H s->RelV x v->RelV y u->r x y H Q →
  subscripted slice false v u=operate [v,u] (yop v u)->wpAny (model X.prog X.w) X.A (subscriptTail value slice v u) (EP X pins σ Q) X.xe s
def MtR (X:Cx)(id:String)(r:V->List V->Hp->VK->Prop):Prop :=
 ∀(pins:List (Addr×Obj)) (s:Shared) (σ:St) (H:Hp) (x:V) (xs:List V) (v:Value) (us:List Value) (Q:VK),Inv X pins σ H s->RelV x v->Vals xs us->r x xs H Q →
  wpAny (model X.prog X.w) X.A (call (.builtin id) (v::us)) (EP X pins σ Q) X.xe s
section
variable {X:Cx}{a b:Expr}{ta tb:TE}{pos:Pos}
theorem zra {r:R2}(hr:IxR X r)(ha:PE X a ta)(hb:PE X b tb)(hs:zfqb b):PE X (.Subscript a b pos) (tOp r ta tb):=by
 intro pins s σ H Q I h;exact Subscript_ (binT ha hb I h λv u s2 x y H2 I2 rx ry q=>hr a b pins s2 σ H2 x y v u Q I2 rx ry q (hs _ _))
def rIxL (K:yea):R2:=λx y H Q=>Ex4 λp xs i v=>x = .ref p∧y = .int i∧SqL K H p xs∧atI xs i=some v∧Q v H
def rIxT (K:yea):R2:=λx y H Q=>Ex4 λp xs i v=>x = .ref p∧y = .int i∧SqT K H p xs∧atI xs i=some v∧Q v H
def rIxS:R2:=λx y H Q=>Ex3 λz i c=>x = .str z∧y = .int i∧z.length≤yxa∧atI z.cps.toList i=some c∧Q (.str ⟨#[c]⟩) H
theorem zjd:IxR X (rIxL X.K):=by
 intro value slice pins s σ H x y v u Q I rx ry h hs;obtain⟨p,xs,i,z,rfl,rfl,hq,he,q⟩:=h;cases rx;obtain⟨t,rfl⟩:=ry;obtain⟨its,r,pl,hz⟩:=I.list hq;obtain⟨j,h1,h2,h3,h4,h5⟩:=zeab he;obtain⟨w,ew,rw'⟩:=r.get h2;have hl:=r.length;have hn:=zop;have fin:EP X pins σ Q w s:=⟨z,H,I,rw',q⟩
 by_cases h0:0≤i
 ·have hj:i.toNat=j:=by
   rw[seqIndex_of h0 h5] at h1;exact yfd h1
  exact item_listR pl.isList h0 (by omega) (by rw[hj];simpa using ew) fin hs
 ·have hj:(i+(its.toArray.size:Int)).toNat=j:=by
   rw[seqIndex_neg (by omega) h4] at h1;rw[yna,← hl];exact yfd h1
  exact ysn (x:=w) pl.isList.typeIs slot_list_getitem.lookup
   (wpAny_getItem_list_neg (Q:=λr s'=>r=w∧EP X pins σ Q r s') pl.isList (by omega) (by rw[yna]<;>omega) (by omega) (by rw[hj];simpa using ew) ⟨rfl,fin⟩) hs
theorem zwa:IxR X (rIxT X.K):=by
 intro value slice pins s σ H x y v u Q I rx ry h hs;obtain⟨p,xs,i,z,rfl,rfl,hq,he,q⟩:=h;cases rx;obtain⟨t,rfl⟩:=ry;obtain⟨its,r,pl,hz⟩:=I.tuple hq;obtain⟨j,h1,h2,h3,h4,h5⟩:=zeab he;obtain⟨w,ew,rw'⟩:=r.get h2;have hl:=r.length;have hn:=zop;have fin:EP X pins σ Q w s:=⟨z,H,I,rw',q⟩;exact ysn (x:=w) pl.typeIs slot_tuple_getitem.lookup
  (getItem_tuple (j:=j) (Q:=λr s'=>r=w∧EP X pins σ Q r s') pl (by omega) (by omega) (by rw[yna,← hl];exact h1) (by simpa using ew) ⟨rfl,fin⟩) hs
theorem zmsb:IxR X rIxS:=by
 intro value slice pins s σ H x y v u Q I rx ry h hs;obtain⟨z,i,c,rfl,rfl,hz,he,q⟩:=h;obtain⟨t,rfl⟩:=rx;obtain⟨t',rfl⟩:=ry;obtain⟨j,h1,h2,h3,h4,h5⟩:=zeab he;have hl:z.cps.toList.length=z.length:=by simp[Str.length]
 rw[hl] at h1 h4 h5;have hn:=zop;exact tail_any (ydp s z t) slot_str_getitem.lookup (getItem_str (c:=c) (by
  have e1:decide (i < -(2 ^ 63:Int))=false:=decide_eq_false (by omega);have e2:decide (i≥2 ^ 63)=false:=decide_eq_false (by omega);rw[e1,e2,yxm]) (by rw[h1];simpa using h2) ⟨.str ⟨#[c]⟩,H,I.tok _,⟨_,rfl⟩,q⟩) hs
theorem zndb (its:List Value)(n j:Nat)(u:Value):ywd (·.setIfInBounds j u) { cls:=.type "list",data:=.seq its.toArray n }={ cls:=.type "list",data:=.seq (its.set j u).toArray n }:=by
 simp[ywd]
theorem Inv.lst {pins:List (Addr×Obj)}{σ:St}{H:Hp}{s:Shared}{p:Addr}{xs:List V}(I:Inv X pins σ H s)(h:H p=some (.lst xs)) :
  Ex2 λ(its:List Value) (n:Nat)=>Vals xs its∧s.heap.get? p=some { cls:=.type "list",data:=.seq its.toArray n }∧xs.length≤yxa:=by
 obtain⟨z,its,n,r,e⟩:=I.hok p _ h;exact⟨its,n,r,e,z⟩
theorem Inv.zzrb {pins:List (Addr×Obj)}{σ:St}{H:Hp}{s:Shared}{p:Addr}{xs ys:List V}{its its':List Value}{n n':Nat}{f:Obj->Obj}(I:Inv X pins σ H s)(h:H p=some (.lst xs))
  (ho:s.heap.get? p=some { cls:=.type "list",data:=.seq its.toArray n }) (hf:f { cls:=.type "list",data:=.seq its.toArray n }={ cls:=.type "list",data:=.seq its'.toArray n' }) (r:Vals ys its') (hz:ys.length≤yxa) (t:Nat) :
  Inv X pins σ (upd H p (.lst ys)) { s with heap:=s.heap.update p f,toks:=t }:=by
 have e:(s.heap.update p f).get? p=some { cls:=.type "list",data:=.seq its'.toArray n' }:=by
  rw[ygd f ho (by rw[hf]<;>rfl),hf]
 refine I.write (x:=p) (e:=p) (by rw[h];trivial) (.inl rfl) (λb u hb q=>(yzc _ _ (ykd hb)).trans q) ⟨_,e⟩ ?_;exact⟨hz,its',n',r,e⟩
def zvtb:V->V->V->Hp->(Hp->Prop)->Prop:=λo i v H Q=>Ex4 λp xs k j=>o = .ref p∧i = .int k∧H p=some (.lst xs)∧ixN xs.length k=some j∧Q (upd H p (.lst (xs.set j v)))
theorem set_list:PSet X zvtb:=by
 intro pins s σ H o i v ov iv u Q I ro ri rv h;obtain⟨p,xs,k,j,rfl,rfl,hp,hj,q⟩:=h;cases ro;obtain⟨t,rfl⟩:=ri;obtain⟨its,n,r,ho,hz⟩:=I.lst hp;obtain⟨h1,h2,h3,h4⟩:=zchb hj;have hl:=r.length;have hn:=zop;have I':Inv X pins σ (upd H p (.lst (xs.set j v))) { s with heap:=s.heap.update p (ywd (·.setIfInBounds j u)) } :=
  I.zzrb hp ho (zndb its n j u) (r.set rv j) (by rw[yle];exact hz) s.toks
 by_cases h0:0≤k
 ·have hk:k.toNat=j:=by
   rw[seqIndex_of h0 h4] at h1;exact yfd h1
  exact PySem.W.ki_setAt ho h0 (by omega) (by rw[yna,← hl];exact h4) (by rw[hk];exact⟨_,I',q⟩)
 ·have hk:(k+(its.toArray.size:Int)).toNat=j:=by
   rw[seqIndex_neg (by omega) h3] at h1;rw[yna,← hl];exact yfd h1
  exact PySem.W.ki_setBack ho (by omega) (by rw[yna,← hl];exact h3) (by omega) (by rw[hk];exact⟨_,I',q⟩)
theorem zyu (lo hi:Option Int)(n:Nat):(ylj lo hi none n).1=((HT.sIx n 0 lo:Nat):Int)∧(ylj lo hi none n).2.1=((HT.sIx n n hi:Nat):Int)∧(ylj lo hi none n).2.2=1:=by
 refine⟨?_,?_,rfl⟩
 ·cases lo with
  | none=>simp[ylj,HT.sIx]
  | some i =>
   simp only[ylj,HT.sIx,yhr,show (1:Int)>0 by decide,if_true]
   by_cases h:i<0
   ·simp only[h,if_true]<;>omega
   ·simp only[h,if_false]<;>omega
 ·cases hi with
  | none=>simp[ylj,HT.sIx]
  | some i =>
   simp only[ylj,HT.sIx,yhr,show (1:Int)>0 by decide,if_true]
   by_cases h:i<0
   ·simp only[h,if_true]<;>omega
   ·simp only[h,if_false]<;>omega
theorem zss (its:List Value)(lo hi:Option Int):slicePick its.toArray lo hi none=((its.drop (HT.sIx its.length 0 lo)).take (HT.sIx its.length its.length hi-HT.sIx its.length 0 lo)).toArray:=by
 obtain⟨h1,h2,h3⟩:=zyu lo hi its.toArray.size;unfold slicePick;rw[h1,h2,h3];simp only[sliceRange_one,pick_run,yna]<;>rfl
def rSlL (K:yea):V->Option Int->Option Int->Hp->VK->Prop:=λx lo hi H Q=>Ex2 λa xs=>x = .ref a∧SqL K H a xs∧∀p,H p=none->Q (.ref p) (upd H p (.lst (cutV xs lo hi)))
theorem zkob:SlR X (rSlL X.K):=by
 intro pins s σ H x v vl vu lo hi sl Q I rx hs pl pu h;obtain⟨a,xs,rfl,hx,q⟩:=h;cases rx;obtain⟨its,r,ht,hz⟩:=I.list hx;have hlen:=r.length;refine⟨"list",_,slot_list_getitem.lookup,ht.isList.typeIs,?_⟩;refine wpAny_getItem_list_slice ht.isList hs pl pu .none (by simp) ?_ (by rw[yna]<;>omega);rw[zss,← hlen];refine⟨.ref s.heap.objs.size,_,I.laid (t':=s.toks) (o:=.lst (cutV xs lo hi)) (λb ob q=>yba _ q) (yha _) ?_,rfl,q _ (I.hok.fresh (yha _))⟩;exact⟨yqb (zzp xs lo hi) hz,_,0,(r.drop (HT.sIx xs.length 0 lo)).take (HT.sIx xs.length xs.length hi-HT.sIx xs.length 0 lo),yfa _ rfl⟩
def zst:V->Bool
 | .non=>true
 | .bl _=>true
 | .int _=>true
 | .str _=>true
 | _=>false
def eqV:V->V->Bool
 | .non,.non=>true
 | .bl a,.bl b=>a==b
 | .bl a,.int b=>(if a then 1 else 0)==b
 | .int a,.bl b=>a==(if b then 1 else 0)
 | .int a,.int b=>a==b
 | .str a,.str b=>a==b
 | _,_=>false
theorem zssb {A:Around}{s:Shared}{y x:V}{u v:Value}(ry:RelV y u)(rx:RelV x v)(fy:zst y=true)(fx:zst x=true):yfe A s u v (eqV y x):=by
 cases y with
 | non =>
  cases ry;cases x with
  | non=>cases rx;exact yfe.same _
  | bl b=>cases rx;exact yfe.none_bool b
  | int b=>obtain⟨t,rfl⟩:=rx;exact yfe.none_int b t
  | str b=>obtain⟨t,rfl⟩:=rx;exact yfe.none_str b t
  | _=>exact absurd (show false=true from fx) yhb
 | bl a =>
  cases ry;cases x with
  | non=>cases rx;exact yfe.bool_none a
  | bl b=>cases rx;exact yfe.bool_bool a b
  | int b=>obtain⟨t,rfl⟩:=rx;exact yfe.bool_int a b t
  | str b=>obtain⟨t,rfl⟩:=rx;exact yfe.bool_str a b t
  | _=>exact absurd (show false=true from fx) yhb
 | int a =>
  obtain⟨t',rfl⟩:=ry;cases x with
  | non=>cases rx;exact yfe.int_none a t'
  | bl b=>cases rx;exact yfe.int_bool a t' b
  | int b=>obtain⟨t,rfl⟩:=rx;exact yfe.int_int a t' b t
  | str b=>obtain⟨t,rfl⟩:=rx;exact ytp a t' b t
  | _=>exact absurd (show false=true from fx) yhb
 | str a =>
  obtain⟨t',rfl⟩:=ry;cases x with
  | non=>cases rx;exact yfe.str_none a t'
  | bl b=>cases rx;exact yfe.str_bool a t' b
  | int b=>obtain⟨t,rfl⟩:=rx;exact yup a t' b t
  | str b=>obtain⟨t,rfl⟩:=rx;exact yfe.str_str a t' b t
  | _=>exact absurd (show false=true from fx) yhb
 | _=>exact absurd (show false=true from fy) yhb
def eqU (x:V)(u:Value):Bool:=match u with
 | .none=>eqV .non x
 | .bool b=>eqV (.bl b) x
 | .int i _=>eqV (.int i) x
 | .str z _=>eqV (.str z) x
 | _=>false
theorem zsmb {x y:V}{u:Value}(r:RelV y u)(f:zst y=true):eqU x u=eqV y x:=by
 cases y with
 | non=>cases r;rfl
 | bl b=>cases r;rfl
 | int i=>obtain⟨t,rfl⟩:=r;rfl
 | str z=>obtain⟨t,rfl⟩:=r;rfl
 | _=>exact absurd (show false=true from f) yhb
theorem zdq {x:V}:∀{xs:List V} {us:List Value},Vals xs us->xs.all zst=true->us.any (eqU x)=xs.any λy=>eqV y x
 | _,_,.nil,_=>rfl
 | y::xs,u::us,.cons r t,f=>by
  rw[List.all_cons,yde] at f;rw[yyp,yyp,zsmb r f.1,zdq t f.2]
theorem zql {A:Around}{s:Shared}{x:V}{v:Value}(rx:RelV x v)(fx:zst x=true):∀{xs:List V} {us:List Value},Vals xs us->xs.all zst=true->∀u∈us,yfe A s u v (eqU x u)
 | _,_,.nil,_=>λu hu=>by cases hu
 | y::xs,u::us,.cons r t,f=>λu' hu=>by
  rw[List.all_cons,yde] at f
  rcases yka.mp hu with rfl|hu
  ·rw[zsmb r f.1];exact zssb r rx f.1 fx
  ·exact zql rx fx t f.2 u' hu
def inV (x:V)(xs:List V):Bool:=xs.any λy=>eqV y x
def rIn (K:yea)(neg:Bool):R2:=λx y H Q=>Ex2 λp xs=>y = .ref p∧(SqL K H p xs∨SqT K H p xs)∧zst x=true∧xs.all zst=true∧Q (.bl (if neg then !inV x xs else inV x xs)) H
theorem zzv:OpR X (yzd .In) (rIn X.K false):=by
 intro pins s σ H x y v u Q I rx ry h;obtain⟨p,xs,rfl,hq,fx,fs,q⟩:=h;cases ry
 rcases hq with hq|hq
 ·obtain⟨its,r,pl,hz⟩:=I.list hq;refine SeqAt.in_listAt (eqU x) pl.isList (λw hw=>zql rx fx r fs w (by simpa using hw)) ⟨.bl _,H,I,rfl,?_⟩;rw[show its.toArray.any (eqU x)=its.any (eqU x) by simp,zdq r fs];exact q
 ·obtain⟨its,r,pl,hz⟩:=I.tuple hq;refine SeqAt.in_tupleAt (eqU x) pl (λw hw=>zql rx fx r fs w (by simpa using hw)) ⟨.bl _,H,I,rfl,?_⟩;rw[show its.toArray.any (eqU x)=its.any (eqU x) by simp,zdq r fs];exact q
theorem zxv:OpR X (yzd .NotIn) (rIn X.K true):=by
 intro pins s σ H x y v u Q I rx ry h;obtain⟨p,xs,rfl,hq,fx,fs,q⟩:=h;cases ry
 rcases hq with hq|hq
 ·obtain⟨its,r,pl,hz⟩:=I.list hq;refine SeqAt.notIn_listAt (eqU x) pl.isList (λw hw=>zql rx fx r fs w (by simpa using hw)) ⟨.bl _,H,I,rfl,?_⟩;rw[show its.toArray.any (eqU x)=its.any (eqU x) by simp,zdq r fs];exact q
 ·obtain⟨its,r,pl,hz⟩:=I.tuple hq;refine SeqAt.notIn_tupleAt (eqU x) pl (λw hw=>zql rx fx r fs w (by simpa using hw)) ⟨.bl _,H,I,rfl,?_⟩;rw[show its.toArray.any (eqU x)=its.any (eqU x) by simp,zdq r fs];exact q
theorem zcb:zsf X (.builtin "len") (λxs H Q=>Ex2 λp ys=>xs=[.ref p]∧(SqL X.K H p ys∨SqT X.K H p ys)∧Q (.int ys.length) H):=by
 intro pins s σ H xs us Q I r h;obtain⟨p,ys,rfl,hq,q⟩:=h;obtain⟨u,rfl,rx⟩:=vals1 r;cases rx;have hn:=zop
 rcases hq with hq|hq
 ·obtain⟨its,r',pl,hz⟩:=I.list hq;have hlen:=r'.length;exact Calls.call_len_list pl.isList (by simp only[yna]<;>omega) ⟨.int ys.length,H,I.tok _,⟨s.toks+1,by rw[yna,hlen]⟩,q⟩
 ·obtain⟨its,r',pl,hz⟩:=I.tuple hq;have hlen:=r'.length;exact len_tuple pl (by simp only[yna]<;>omega) ⟨.int ys.length,H,I.tok _,⟨s.toks+1,by rw[yna,hlen]⟩,q⟩
theorem zpn:zsf X (.builtin "len") (λxs H Q=>∃z,xs=[.str z]∧z.length≤yxa∧Q (.int z.length) H):=by
 intro pins s σ H xs us Q I r h;obtain⟨z,rfl,hz,q⟩:=h;obtain⟨u,rfl,t,rfl⟩:=vals1 r;have hn:=zop;exact len_str (by omega) ⟨.int z.length,H,I.tok _,⟨_,rfl⟩,q⟩
theorem zzc:zsf X (.type "list") (λxs H Q=>Ex2 λp ys=>xs=[.ref p]∧(SqL X.K H p ys∨SqT X.K H p ys)∧∀l,H l=none->Q (.ref l) (upd H l (.lst ys))):=by
 intro pins s σ H xs us Q I r h;obtain⟨p,ys,rfl,hq,q⟩:=h;obtain⟨u,rfl,rx⟩:=vals1 r;cases rx;have fin:∀(its:List Value),Vals ys its->ys.length≤yxa->∀(h':Heap) (c':Nat),(∀b o',s.heap.get? b=some o'->h'.get? b=some o') →
   h'.get? s.heap.objs.size=some { cls:=.type "list",dict:=none,data:=.seq its.toArray c',slots:=#[] }->EP X pins σ Q (.ref s.heap.objs.size) { s with heap:=h' }:=λits r' hz h' c' kp e =>
  ⟨.ref s.heap.objs.size,_,I.laid (t':=s.toks) kp (yha _) (show zvh X.prog X.w _ h' _ (.lst ys) from⟨hz,its,c',r',e⟩),rfl,q _ (I.hok.fresh (yha _))⟩
 rcases hq with hq|hq
 ·obtain⟨its,r',pl,hz⟩:=I.list hq;have hlen:=r'.length;obtain⟨o,ho,hc,n,hd⟩:=pl.isList;exact call_list_seq p (.inl rfl) ho hc hd (λh' c' kp e=>fin its r' hz h' c' kp e) (by simp only[yna]<;>omega)
 ·obtain⟨its,r',pl,hz⟩:=I.tuple hq;have hlen:=r'.length;obtain⟨o,ho,hc,n,hd⟩:=pl;exact call_list_seq p (.inr rfl) ho hc hd (λh' c' kp e=>fin its r' hz h' c' kp e) (by simp only[yna]<;>omega)
theorem zma:zsf X (.type "tuple") (λxs H Q=>Ex2 λp ys=>xs=[.ref p]∧((SqL X.K H p ys∧∀l,H l=none->Q (.ref l) (upd H l (.tup ys)))∨(SqT X.K H p ys∧Q (.ref p) H))):=by
 intro pins s σ H xs us Q I r h;obtain⟨p,ys,rfl,h⟩:=h;obtain⟨u,rfl,rx⟩:=vals1 r;cases rx
 rcases h with⟨hq,q⟩|⟨hq,q⟩
 ·obtain⟨its,r',pl,hz⟩:=I.list hq;have hlen:=r'.length;refine call_tuple_list pl.isList (λh' kp=>?_) (by simp only[yna]<;>omega);have I1:Inv X pins σ H { s with heap:=h' }:=I.kept (t':=s.toks) kp;have I2:Inv X pins σ (upd H h'.objs.size (.tup ys)) { s with heap:=h'.push { cls:=.type "tuple",data:=.seq its.toArray } } :=
   I1.laid (t':=s.toks) (λb o e=>yba _ e) (yha _) (show zvh X.prog X.w _ _ _ (.tup ys) from⟨hz,its,r',yks _ _⟩)
  exact⟨.ref h'.objs.size,_,I2,rfl,q _ (I1.hok.fresh (yha _))⟩
 ·obtain⟨its,r',pl,hz⟩:=I.tuple hq;exact call_tuple_same pl ⟨.ref p,H,I,rfl,q⟩
def tyV (K:yea)(T:String)(x:V)(H:Hp):Prop:=match x with
 | .str _=>T = "str"
 | .int _=>T = "int"
 | .ref p=>(T = "list" ∧ ∃xs,SqL K H p xs)∨(T = "tuple" ∧ ∃o,K.lookup p=some o∧o.cls = .type "tuple" ∧ o.dict=none) ∨
   (T = "dict" ∧ ((∃kvs,H p=some (.dK kvs))∨∃kvs,H p=some (.dT kvs)))∨(T = "set" ∧ Ex2 λS n=>H p=some (.set S n))
 | _=>False
theorem zkqb {pins:List (Addr×Obj)}{σ:St}{H:Hp}{s:Shared}{T:String}{x:V}{v:Value}(I:Inv X pins σ H s)(r:RelV x v)(ty:tyV X.K T x H) :
  s.TypeIs v T∧∀a,v = .ref a->∃ob,s.heap.get? a=some ob∧ob.dict=none:=by
 cases x with
 | str z =>
  obtain⟨t,rfl⟩:=r;cases (show T = "str" from ty);exact⟨ydp s z t,λ_ e=>nomatch e⟩
 | int i =>
  obtain⟨t,rfl⟩:=r;cases (show T = "int" from ty);exact⟨typeIs_int s i t,λ_ e=>nomatch e⟩
 | ref p =>
  cases r
  rcases ty with⟨rfl,xs,hq⟩|⟨rfl,o,hk,hc,hd⟩|⟨rfl,hk⟩|⟨rfl,S,n,hk⟩
  ·obtain⟨its,_,pl,_⟩:=I.list hq;refine⟨pl.isList.typeIs,λa e=>?_⟩;cases e;obtain⟨o,n,e,c,hd,_⟩:=pl;exact⟨o,e,hd⟩
  ·refine⟨⟨o,I.kIn p o hk,hc⟩,λa e=>?_⟩;cases e;exact⟨o,I.kIn _ o hk,hd⟩
  ·have z:∃o,s.heap.get? p=some o∧o.ExactDict:=by
    rcases hk with⟨kvs,hk⟩|⟨kvs,hk⟩
    ·obtain⟨_,_,_,_,o,_,_,e,ex,_⟩:=I.hok p _ hk;exact⟨o,e,ex⟩
    ·obtain⟨_,_,_,_,o,_,_,e,ex,_⟩:=I.hok p _ hk;exact⟨o,e,ex⟩
   obtain⟨o,e,ex⟩:=z;refine⟨⟨o,e,ex.1⟩,λa e2=>?_⟩;cases e2;exact⟨o,e,ex.2.1⟩
  ·obtain⟨o,_,_,_,e,ex,_⟩:=I.hok p _ hk;refine⟨⟨o,e,ex.1⟩,λa e2=>?_⟩;cases e2;exact⟨o,e,ex.2.1⟩
 | _=>exact yhg ty
def tBM (K:yea)(T:String)(r:V->List V->Hp->VK->Prop)(to:TE)(t:TA):TE:=fun σ H Q=>to σ H λx H1=>tyV K T x H1∧t σ H1 λxs H2=>r x xs H2 Q
variable {o e:Expr}{es:List Expr}{to:TE}{t:TA}{name:Str}{apos cpos:Pos}{T id:String}{r:V->List V->Hp->VK->Prop}
theorem zff (pa:PlainAttrs T)(slot:Slot T name id)(hty:typeOf (.builtin id)=pure (.type "method_descriptor"))(hm:MtR X id r)(ho:PE X o to)(ha:PA X (e::es) t)
  (hbase:yri o name X.env (eval o X.env)=eval o X.env:=by rfl)
  (hfew:((backTo cpos (yjd (e::es) X.env)).all (λx=>!x.1)&&(yor cpos (yum [] X.env)).all (λx=>x.1.isSome)
   && decide ((e::es).length+([]:List ymq).length+(if ([]:List ymq).isEmpty then 0 else 1)<30))=true:=by rfl)
  (hline:(apos.endLine==cpos.line)=true:=by rfl) (hs:yjd (e::es) X.env=(false,eval e X.env)::yjd es X.env:=by rfl) (hplain:(backTo cpos (yjd es X.env)).any (·.1)=false:=by rfl) :
  PE X (.Call (.Attribute o name apos) (e::es) [] cpos) (tBM X.K T r to t):=by
 intro pins s σ H Q I h;refine wpAny_Call_method_late hbase hfew hline rfl (thn (ho pins s σ H _ I h) λv s1 ⟨x,H1,I1,r1,ty,q1⟩=>?_);obtain⟨h1,h2⟩:=zkqb I1 r1 ty;refine⟨T,id,pa,slot,hty,h1,h2,?_⟩;have hA:=ha cpos pins s1 σ H1 _ I1 q1;rw[hs] at hA ⊢;refine Calls.callWith_builtin (by show (false||(backTo cpos (yjd es X.env)).any (·.1))=false;rw[hplain]<;>rfl) (Calls.evalArgs_plain ?_);exact thn hA λus s2 ⟨vs,H2,I2,r2,q2⟩=>hm pins s2 σ H2 x vs v us Q I2 r1 r2 q2
end
end L2
namespace L2
open PySem PySem.Spec PyProof.Rows
def MtM (X:Cx)(id:String)(r:V->List V->Hp->VK->Prop):Prop :=
 ∀(pins:List (Addr×Obj)) (s:Shared) (σ:St) (H:Hp) (x:V) (xs:List V) (v:Value) (us:List Value) (Q:VK),Inv X pins σ H s->RelV x v->Vals xs us->r x xs H Q →
  wpAny (model X.prog X.w) X.A (call (.builtin id) (v::us)) (EP X pins σ Q) X.xe s
theorem Vals.one:∀{x:V} {us:List Value},Vals [x] us->∃u,us=[u]∧RelV x u
 | _,_,.cons r .nil=>⟨_,rfl,r⟩
theorem Vals.eraseIdx:∀{xs:List V} {us:List Value} (i:Nat),Vals xs us->Vals (xs.eraseIdx i) (us.eraseIdx i)
 | _,_,_,.nil=>.nil
 | _,_,0,.cons _ t=>t
 | _,_,i+1,.cons r t=>.cons r (Vals.eraseIdx i t)
theorem zpw {α:Type}:∀(l:List α) (i:Nat),(l.eraseIdx i).length≤l.length
 | [],_=>yha _
 | _::_,0=>yif _
 | _::r,i+1=>Nat.succ_le_succ (zpw r i)
section
variable {X:Cx}{pins:List (Addr×Obj)}{σ:St}{H:Hp}{s:Shared}{l b:Addr}{xs ys zs:List V}
theorem Inv.lset {its its':List Value}{n:Nat}{f:Array Value->Array Value}{t':Nat}(I:Inv X pins σ H s)(hH:H l=some (.lst xs))
  (e:s.heap.get? l=some { cls:=.type "list",data:=.seq its.toArray n }) (hf:f its.toArray=its'.toArray) (hv:Vals ys its') (hz:ys.length≤yxa) :
  Inv X pins σ (upd H l (.lst ys)) { s with heap:=s.heap.update l (ywd f),toks:=t' }:=by
 have q:=PySem.IsL.update e f;rw[hf] at q;refine I.write (x:=l) (e:=l) (by rw[hH];exact trivial) (.inl rfl) (λb' u hb hu=>(yzc s.heap (ywd f) (ykd hb)).trans hu) ⟨_,q⟩ ?_;exact⟨hz,its',_,hv,q⟩
theorem Inv.lnew {its:List Value}{t':Nat}(I:Inv X pins σ H s)(hv:Vals ys its)(hz:ys.length≤yxa) :
  Inv X pins σ (upd H s.heap.objs.size (.lst ys)) { s with heap:=s.heap.push { cls:=.type "list",data:=.seq its.toArray },toks:=t' } :=
 I.laid (λ_ _ q=>yba _ q) (yha _) ⟨hz,its,0,hv,yfa _ rfl⟩
theorem Inv.fresh (I:Inv X pins σ H s):H s.heap.objs.size=none:=I.hok.fresh (yha _)
theorem Inv.lstM (I:Inv X pins σ H s)(hH:H l=some (.lst xs)):xs.length≤yxa∧Ex2 λ(its:List Value) (n:Nat)=>Vals xs its∧xs.length=its.length∧s.heap.get? l=some { cls:=.type "list",data:=.seq its.toArray n }:=by
 obtain⟨z,its,n,r,e⟩:=I.hok l _ hH;exact⟨z,its,n,r,r.length,e⟩
theorem zlkb {n:Nat}(h:n≤yxa):yni n=false:=by
 unfold yni;exact decide_eq_false (by omega)
end
section
variable {X:Cx}
def ztob:V->List V->Hp->VK->Prop:=λx vs H Q=>Ex3 λl xs y=>x = .ref l∧vs=[y]∧H l=some (.lst xs)∧xs.length<yxa∧Q .non (upd H l (.lst (xs++[y])))
theorem zbc:MtM X "list.append" ztob:=by
 intro pins s σ H x vs v us Q I rx rv h;obtain⟨l,xs,y,rfl,rfl,hH,hz,q⟩:=h;cases rx;obtain⟨u,rfl,ru⟩:=rv.one;obtain⟨z,its,n,r,hl,e⟩:=I.lstM hH;refine ymk F.slot_list_append ⟨_,e,rfl⟩ F.entry_list_append (F.args_list_append_2 _ _) (PySem.list_append l its.toArray n u (by rw[yna];omega)) ⟨e,?_⟩;refine⟨.non,_,I.lset (its':=its++[u]) hH e (by simp) (r.append (.cons ru .nil)) ?_,rfl,q⟩;rw[yja,ytd];omega
def zsob:V->List V->Hp->VK->Prop:=λx vs H Q=>Ex4 λl b xs zs=>x = .ref l∧vs=[.ref b]∧H l=some (.lst xs)∧H b=some (.lst zs)∧xs.length+zs.length≤yxa∧Q .non (upd H l (.lst (xs++zs)))
theorem zmp:MtM X "list.extend" zsob:=by
 intro pins s σ H x vs v us Q I rx rv h;obtain⟨l,b,xs,zs,rfl,rfl,hH,hB,hz,q⟩:=h;cases rx;obtain⟨u,rfl,ru⟩:=rv.one;cases ru;obtain⟨z,its,n,r,hl,e⟩:=I.lstM hH;obtain⟨z2,its2,n2,r2,hl2,e2⟩:=I.lstM hB;have hsz:its.toArray.size+its2.toArray.size≤yxa:=by rw[yna,yna];omega
 have hlong:¬ (!its.toArray.isEmpty&&yni (its.toArray.size+its2.toArray.size))=true:=by
  rw[zlkb hsz,yrl];exact yhb
 refine ymk F.slot_list_extend ⟨_,e,rfl⟩ F.entry_list_extend (F.args_list_extend_2 _ _)
  (AutoSeq1.list_extend_list_list_0 l its.toArray n b its2.toArray n2 hlong (by rw[yna];omega) (by omega)) ⟨e,e2,?_⟩
 refine⟨.non,_,I.lset (its':=its++its2) hH e (by simp) (r.append r2) ?_,rfl,q⟩;rw[yja];omega
def rCat:R2:=λx y H Q=>Ex4 λl b xs zs=>x = .ref l∧y = .ref b∧H l=some (.lst xs)∧H b=some (.lst zs)∧xs.length+zs.length≤yxa∧∀p,H p=none->Q (.ref p) (upd H p (.lst (xs++zs)))
theorem zbgb:OpR X (yqi .Add) rCat:=by
 intro pins s σ H x y v u Q I rx ry h;obtain⟨l,b,xs,zs,rfl,rfl,hH,hB,hz,q⟩:=h;cases rx;cases ry;obtain⟨z,its,n,r,hl,e⟩:=I.lstM hH;obtain⟨z2,its2,n2,r2,hl2,e2⟩:=I.lstM hB;refine PySem.P.add_list e e2 ?_ (by rw[yna,yna];omega);have ea:its.toArray++its2.toArray=(its++its2).toArray:=by simp
 rw[ea];exact⟨.ref _,_,I.lnew (t':=s.toks) (r.append r2) (by rw[yja];omega),rfl,q _ I.fresh⟩
end
section
variable {prog:ytb}{w:World}{A:Around}{E:Value->Shared->Prop}{s:Shared}
end
section
variable {X:Cx}
end
end L2
namespace Att
open PySem PySem.W PySem.Calls PyProof.Rows
theorem zsp {P:Params}{h:Heap}:∀(ns:List Int) (vs:List Value),WellAll P h vs (ns.map WData.int)->yyf vs ns:=by
 intro ns
 induction ns with
 | nil =>
  intro vs w;rw[yrh] at w;cases w;exact .nil
 | cons n ns ih =>
  intro vs w;rw[ygc] at w;cases w with
  | cons a b =>
   cases a;exact .cons _ _ (ih _ b)
theorem zjfb {l:OpenLaw}{n:Nat}(hn:l.most=some n){P:Params}{h:Heap}{args:List WData}{vals:List Value}
  (hpre:l.row.toRowW.claim.pre args=true) (hwl:WellAll P h vals args) :
  Ex3 λa vs ns=>vals=[Value.ref a]∧args=[WData.list (ns.map WData.int)]∧h.get? a=some { cls:=.type "list",data:=.seq vs.toArray }∧yyf vs ns∧ns.length≤n:=by
 have hsh:WShape.hasAll [] args [.list .int]=true:=(pre_splitW hpre).1;have hc:l.pre.holds [] { args:=args }=true:=(pre_splitW hpre).2;obtain⟨d,r,rfl,h1,h2⟩:=hasAllW_cons hsh;obtain rfl:=hasAllW_nil h2;obtain⟨xs,rfl,h3⟩:=hasW_list h1;obtain⟨ns,rfl⟩:=items_int h3;have hlen:ns.length≤n:=by
  unfold OpenLaw.pre at hc;have h4:(WTm.not (.lt (.lit (.int (n:Int))) (.len (.arg 0)))).holds [] { args:=[.list (ns.map .int)] }=true:=by
   have h4:=(holds_andW hc).1;rw[hn] at h4;exact h4
  have h5:=condW_of h4 (w_not (w_lt w_lit (w_len_list (w_arg rfl))));rw[yca] at h5;refine Nat.le_of_not_lt λq=>?_;have q':(n:Int)<((ns.length:Nat):Int):=by omega
  first
   | (rw[decide_eq_true q'] at h5;exact absurd h5 (by decide))
   | (simp at h5;omega)
 cases hwl with
 | cons w1 w2 =>
  cases w2;cases w1 with
  | list ho hall=>exact⟨_,_,ns,rfl,rfl,ho,zsp ns _ hall,hlen⟩
theorem zufb (l:OpenLaw)(args:List WData):l.row.toRowW.claim.post args (.bool true) args=true :=
 postW_of (r:=l.row.toRowW) (X:=(true==true))
  (show WShape.has [] (.bool true) .bool=true by first|rfl|decide|simp[WShape.has,WShape.arms,WShape.armsAll])
  (show (WTm.eq .res (.lit (.bool true))).value [] { args:=args,res:=some (.bool true),after:=args }=some (.bool (true==true)) from w_eq_bool (w_res rfl) w_lit) rfl
theorem zdab {l:OpenLaw}{n:Nat}{q:ytb}{loose:List Str}{XP:(Str->Option Value)->Heap->Prop}{YP:World->Heap->Prop}{d:DefRec}
  (hn:l.most=some n) (hdf:d.params.defaults=[])
  (call:∀(w:World) (s₀ s₁:Shared) (mg mb:Str->Option Value) (fa:Addr) (o:Obj) (pm cd doc:Value) (a:Addr) (vs:List Value) (ns:List Int),
   Ground q loose [] XP w s₀ mg mb s₁.heap->YP w s₁.heap →
   s₁.heap.get? fa=some o->o.data = .func (docDef d.name d.params d.body d.scope pm cd doc)->s₁.heap.CodeRec cd d.name->mg d.name=some (.ref fa) →
   s₁.heap.get? a=some { cls:=.type "list",data:=.seq vs.toArray }->yyf vs ns->ns.length≤n->s₁.gens=#[] →
   yjj (model l.prog w) ynq (.call (.ref fa) ⟨[.ref a],[]⟩) (λr s'=>r = .ok (.ret (.bool true))∧OldK s₁.heap s'.heap∧s'.os=s₁.os∧ymp s'.gens) s₁) :
  WalkO q loose XP YP l.row.toRowW d [] (λf vs=>yfs f vs):=by
 intro w s₀ s₁ mg mb G Y fa o pm cd doc dV kV ho hd hcd hD hmg hg args vals as hpre hlay hrd hwl hlo;obtain rfl:dV = .none:=Dflts.none hD hdf;obtain rfl:kV = .none:=Dflts.noKw hD;obtain⟨a,vs,ns,rfl,rfl,hobj,hints,hlen⟩:=zjfb hn hpre hwl;refine enter_call (yjg (call w s₀ s₁ mg mb fa o pm cd doc a vs ns G Y ho (fd_plain hd) hcd hmg hobj hints hlen hg) λr s' hq=>?_);obtain⟨rfl,h2,h3,h4⟩:=hq;exact⟨.inl ⟨.bool true,.bool true,[],rfl,λ_=>rfl,.bool true,zufb l _,λ_=>⟨yjk.nil,λ_ hm=>(nomatch hm)⟩⟩,h2,h3,h4⟩
section
variable {prog:ytb}{w:World}{A:Around}{E:Value->Shared->Prop}{s:Shared}{K:Frag}
end
end Att
namespace L2
open PySem PySem.Spec PyProof.Rows
theorem zil:∀{vs:List Value} {ns:List Int},yyf vs ns->Vals (ns.map V.int) vs
 | _,_,.nil=>.nil
 | _,_,.cons n t h=>.cons ⟨t,rfl⟩ (zil h)
def Only (H:Hp):Prop:=∀b,H b=none∨Ex2 λo xs=>H b=some (.frz o (.lst xs))
theorem zqkb {P:ytb}{w:World}{K:yea}{mg mb:Str->Option Value}{CX:CXT}{k:Nat}{fa a:Addr}{fd:ycg}{x:Str}{sp:Sp}{s₁:Shared}{vs:List Value}{ns:List Int}
  (KX:K.In s₁.heap) (hns:s₁.heap.Ns yza mg) (hb:s₁.heap.Ns builtinsNs mb) (hbb:∀x:Str,x ≠ "__name__"->mb x=yph x) (hlim:s₁.heap.NoLimit) (hg:s₁.gens=#[])
  (ha:s₁.heap.get? a=some { cls:=.type "list",data:=.seq vs.toArray }) (hi:yyf vs ns) (hl:ns.length≤yxa) (hr:Room k ynq)
  (F:∀base:Heap,K.In base->base.Ns yza mg->FnOk P w K mg base CX k fa fd [x] sp) (hbind:∀(s:Shared) (u:Value),ylq s fd ⟨[u],[]⟩ [(x,u)])
  (hsp:∀H:Hp,Only H->SqL K H a (ns.map V.int)->sp [.ref a] H (λv _=>v = .bl true) λ_ _ _=>False)
  (hCX:∀H e s',CX [] H s₁ (λ_ _ _=>False) e s'->False) :
  yjj (model P w) ynq (.call (.ref fa) ⟨[.ref a],[]⟩) (λr s'=>r = .ok (.ret (.bool true))∧OldK s₁.heap s'.heap∧s'.os=s₁.os∧ymp s'.gens) s₁:=by
 have rv:=zil hi;have lenV:=hi.length;have core:∀H:Hp,Only H->SqL K H a (ns.map V.int)->HOk P w H s₁.heap->(∀b,H b≠none->b=a)->(H a≠none->K.lookup a=none) →
   yjj (model P w) ynq (.call (.ref fa) ⟨[.ref a],[]⟩) (λr s'=>r = .ok (.ret (.bool true))∧OldK s₁.heap s'.heap∧s'.os=s₁.os∧ymp s'.gens) s₁:=by
  intro H hO hS hok hA hK;have base_of:∀{b:Addr} {o:Obj},s₁.heap.get? b=some o->H b=none->(hidT s₁.heap H).get? b=some o:=λe n=>zvkb e n;have noA:∀{b:Addr} {o:Obj} {es:Array DictEntry} {ep:Nat},s₁.heap.get? b=some o->o.data = .dict es ep->H b=none:=λ{b o es ep} e d=>by
   cases q:H b with
   | none=>rfl
   | some u =>
    have e':b=a:=hA b (by rw[q];simp);subst e';rw[ha] at e;cases e;have d':Data.seq vs.toArray _=Data.dict es ep:=d;cases d'
  have nsK:∀{b:Addr} {m:Str->Option Value},s₁.heap.Ns b m->(hidT s₁.heap H).Ns b m:=λ{b m} ⟨o,es,ep,e,d,r⟩=>⟨o,es,ep,base_of e (noA e d),d,r⟩;have hKb:K.In (hidT s₁.heap H):=λb o e=>base_of (KX b o e) (by
   cases q:H b with
   | none=>rfl
   | some u =>
    have e':b=a:=hA b (by rw[q];simp);subst e';rw[hK (by rw[q];simp)] at e;cases e)
  have hM:Mod K mg (hidT s₁.heap H):=⟨hKb,nsK hns,⟨mb,nsK hb,hbb⟩,let ⟨mc,h1,h2⟩:=hlim;⟨mc,nsK h1,h2⟩⟩;have e0:Env0 P w K mg (hidT s₁.heap H) ynq [] s₁ H:=⟨rfl,hM,λb o e=>zgpb e,ybo (zfhb _ _),trivial,λb hb=>absurd (show b∈([]:List Addr) from hb) (by simp),hok,.of_eq hg⟩;refine yjg ((F _ hKb (nsK hns)).run ynq [] s₁ H ⟨[.ref a],[]⟩ [.ref a] [.ref a] _ _ hr e0 (hbind s₁ (.ref a)) (.cons rfl .nil) (hsp H hO hS)) λr s' h=>?_;cases r with
  | error e=>exact (hCX H e s' h).elim
  | ok fl =>
   cases fl with
   | next=>exact yhg h
   | brk=>exact yhg h
   | cont=>exact yhg h
   | ret u =>
    obtain⟨v,H',os,bare,un,hok',r',q⟩:=h;have q':v = .bl true:=q;subst q';obtain rfl:u=Value.bool true:=r';refine⟨rfl,OldK.of_keep λb o e=>?_,os,bare⟩;cases q:H b with
    | none=>exact un.keep b o e q (by intro z;exact absurd (show b∈([]:List Addr) from z) (by simp)) (by simp)
    | some u =>
     rcases hO b with z|⟨ob,xs,z⟩
     ·rw[q] at z;cases z
     ·have z2:=un.frzs b ob _ z;obtain⟨e1,_⟩:=hok b _ z;obtain⟨e2,_⟩:=hok' b _ z2;rw[e] at e1;cases e1;exact e2
 cases hk:K.lookup a with
 | some o =>
  have e:=KX a o hk;rw[ha] at e;cases e;refine core (λ_=>none) (λ_=>.inl rfl) (.inr ⟨_,vs.toArray,_,hk,rfl,rfl,rfl,by rw[yna,lenV];exact hl,by simpa using rv⟩) (λb u z=>by have z':(none:Option HO)=some u:=z;cases z') (λb z=>absurd rfl z) λz=>absurd rfl z
 | none =>
  refine core (λb=>if b=a then some (.frz { cls:=.type "list",data:=.seq vs.toArray } (.lst (ns.map V.int))) else none) (λb=>?_) (.inl (.inr ⟨{ cls:=.type "list",data:=.seq vs.toArray },if_pos rfl⟩)) (λb u z=>?_) (λb z=>?_) λ_=>hk
  ·by_cases hb:b=a
   ·exact .inr ⟨_,_,if_pos hb⟩
   ·exact .inl (if_neg hb)
  ·by_cases hb:b=a
   ·have z':=(if_pos hb).symm.trans z;cases z';subst hb;exact⟨ha,by rw[yca];exact hl,vs,_,rv,ha⟩
   ·have z':=(if_neg hb).symm.trans z;cases z'
  ·by_cases hb:b=a
   ·exact hb
   ·exact absurd (if_neg hb) z
end L2
namespace L2
open PySem PySem.Spec PyProof.Rows
theorem zonb {l:ygo}{n k:Nat}{q:ytb}{loose:List Str}{XP:(Str->Option Value)->Heap->Prop}{YP:World->Heap->Prop}{d:DefRec}{K:Params->yea}{CX:World->CXT}{sp:World->Sp}{x:Str}
  (hn:l.most=some n) (hn2:n≤yxa) (hdf:d.params.defaults=[]) (hr:Room k ynq)
  (hY:∀(w:World) (h:Heap),YP w h->(K w.params).In h)
  (F:∀(w:World) (mg:Str->Option Value) (fa:Addr) (h:Heap),(K w.params).In h->h.Ns yza mg->mg d.name=some (.ref fa) →
   ∃fd:ycg,(∀(s:Shared) (u:Value),ylq s fd ⟨[u],[]⟩ [(x,u)]) ∧
    ∀base:Heap,(K w.params).In base->base.Ns yza mg->FnOk l.prog w (K w.params) mg base (CX w) k fa fd [x] (sp w))
  (hsp:∀(w:World) (H:Hp) (a:Addr) (ns:List Int),ns.length≤n->Only H->SqL (K w.params) H a (ns.map V.int)->sp w [.ref a] H (λv _=>v = .bl true) λ_ _ _=>False)
  (hCX:∀(w:World) (H:Hp) (s:Shared) (e:Value) (s':Shared),CX w [] H s (λ_ _ _=>False) e s'->False) :
  ygs q loose XP YP l.row.toRowW d [] (λf vs=>yfs f vs):=by
 refine Att.zdab hn hdf λw s₀ s₁ mg mb fa o pm cd doc a vs ns G Y ho hd hcd hmg hobj hints hlen hg=>?_;have KX:=hY w _ Y;obtain⟨fd,hb,hF⟩:=F w mg fa _ KX G.T.g hmg;exact zqkb KX G.T.g G.T.b G.T.builtins G.T.nolimit hg hobj hints (yqb hlen hn2) hr hF hb (λH hO hS=>hsp w H a ns hlen hO hS) λH e s'=>hCX w H s₁ e s'
end L2
namespace L2
open PySem PySem.Spec PyProof.Rows
def inClass (s:Stmt)(j:Nat):Stmt:=match s with
 | .ClassDef _ _ _ body _ _ _ _ _ _ _=>body.getD j (.Pass ⟨0,0,0,0⟩)
 | _=>.Pass ⟨0,0,0,0⟩
def zrk (s:Stmt):Arguments:=match s with
 | .FunctionDef _ a _ _ _ _ _ _ _ _=>a
 | _=>{ posonlyargs:=[],args:=[],vararg:=none,kwonlyargs:=[],kw_defaults:=[],kwarg:=none,defaults:=[] }
def zsg (s:Stmt):List Stmt:=match s with
 | .FunctionDef _ _ b _ _ _ _ _ _ _=>b
 | _=>[]
def zia (s:Stmt):Scope:=match s with
 | .FunctionDef _ _ _ _ _ _ sc _ _ _=>sc
 | _=>{ kind:=.function,names:=[],isGenerator:=false,isCoroutine:=false }
abbrev CX0:CXT:=λ_ _ _ _ _ _=>False
abbrev E0:XK:=λ_ _ _=>False
theorem zza {X:Cx}:Passes CX0 X E0:=λ_ _ _ _ _ _ _ h=>h.elim
structure Fun (K:yea)(x qual:Str)(st:Stmt)(f:Addr)(fd:ycg):Prop where
 ex:Ex9 λ(oc:Value) (od:Option Addr) (kV doc pm:Value) (an:Option Addr) (cdv ct:Value) (osl:Array (Option Value)) =>
  fd=ydh x qual (zrk st) (zsg st) (zia st) .none kV doc pm an cdv ct∧K.lookup f=some ⟨oc,od,.func fd,osl⟩∧yfi K cdv qual=true
 kp:yrf K (.ref f)=true
section
variable {P:ytb}{w:World}{K:yea}{mg:Str->Option Value}{base:Heap}
theorem Fun.ok {x qual:Str}{st:Stmt}{f:Addr}{fd:ycg}{N ps:List Str}{k:Nat}{sp:Sp}(F:Fun K x qual st f fd)(S:zpa N ps (zia st))(len:∀vs H Q E,sp vs H Q E->vs.length=ps.length)
  (hbody:∀(cdv:Value) (A:Around) (outer:List Env) (s:Shared) (H:Hp) (vs:List V) (Q:VK) (E:XK),Room k (A.deeper (envOfC qual (zia st) s.heap.objs.size f cdv))->sp vs H Q E →
   ∃t,PSs (cxOf CX0 P w K mg base N qual (zia st) f cdv A outer s H E).nox (zsg st) t∧t { nx:=λ_ H'=>Q .non H',rt:=Q } (start N vs) H):FnOk P w K mg base CX0 (k+1) f fd ps sp:=by
 obtain⟨oc,od,kV,doc,pm,an,cdv,ct,osl,rfl,lk,hcd⟩:=F.ex;refine zeub lk hcd S len λA outer s H vs Q E hr hsp=>?_;obtain⟨t,h,q⟩:=hbody cdv A outer s H vs Q E hr hsp;exact⟨t,h.nox,q⟩
theorem Fun.binds {x qual:Str}{st:Stmt}{f:Addr}{fd:ycg}{ps:List Str}(F:Fun K x qual st f fd)
  (h:∀(kV doc pm:Value) (an:Option Addr) (cdv ct:Value) (us:List Value),us.length=ps.length->bindArgs (ydh x qual (zrk st) (zsg st) (zia st) .none kV doc pm an cdv ct) ⟨us,[]⟩=pure (ps.zip us)):Binds K fd ps []:=by
 obtain⟨oc,od,kV,doc,pm,an,cdv,ct,osl,rfl,lk,hcd⟩:=F.ex;exact .all (h kV doc pm an cdv ct)
theorem zihb {x qual:Str}{st:Stmt}{f:Addr}{oc:Value}{od an:Option Addr}{osl:Array (Option Value)}{kV doc pm cdv ct:Value}(l:K.lookup f=some ⟨oc,od,.func (ydh x qual (zrk st) (zsg st) (zia st) .none kV doc pm an cdv ct),osl⟩)
  (c:yfi K cdv qual=true) (k:yrf K (.ref f)=true):Fun K x qual st f (ydh x qual (zrk st) (zsg st) (zia st) .none kV doc pm an cdv ct):=⟨⟨oc,od,kV,doc,pm,an,cdv,ct,osl,rfl,l,c⟩,k⟩
end
theorem zpd {n:Nat}(h:n≤1000):n<yxa:=Nat.lt_of_le_of_lt h (by decide)
section
variable {X:Cx}
theorem pv (i:Nat){x:Str}{pos:Pos}(hN:X.N[i]?=some x:=by rfl)(hv:Vis X.env.scope x:=by first|exact Or.inl rfl|exact Or.inr (Or.inl rfl)|exact Or.inr (Or.inr rfl))(hd:(x==("__debug__":Str))=false:=by decide)
  (hcd:(x==("__classdict__":Str))=false:=by decide):PE X (.Name x pos) (tVar i):=zjrb hN hv hd hcd
end
theorem iteF {A B:Prop}(h:B):if false=true then A else B:=by
 rw[if_neg yhb];exact h
theorem iteT {A B:Prop}(h:A):if true=true then A else B:=by
 rw[if_pos rfl];exact h
theorem ite2 {c A B:Prop}[Decidable c](h1:c->A)(h2:¬ c->B):if c then A else B:=by
 by_cases h:c
 ·rw[if_pos h];exact h1 h
 ·rw[if_neg h];exact h2 h
def Same (H H':Hp):Prop:=∀b o,H b=some o->H' b=some o
theorem Same.refl (H:Hp):Same H H:=λ_ _ h=>h
theorem Same.trans {H H1 H2:Hp}(a:Same H H1)(b:Same H1 H2):Same H H2:=λc o h=>b c o (a c o h)
end L2
namespace L2
open PySem PySem.Spec PyProof.Rows
def clGo (cells:List (Str×Addr)):List (Str×yqd)->List (Str×Addr)->List (Str×Addr)
 | [],cs=>cs
 | (n,k)::r,cs=>clGo cells r (if k == .free then (match cells.lookup n with|some c=>(n,c)::cs|none=>cs) else cs)
def clOf (sc:Scope)(cells:List (Str×Addr)):List (Str×Addr):=clGo cells sc.names []
theorem zjs {sc:Scope}{env:Env}(h:∀y∈sc.names,y.2 = .free->∃c,env.cells.lookup y.1=some c):closureFor sc env=pure (clOf sc env.cells):=by
 have go:∀(l:List (Str×yqd)) (cs:List (Str×Addr)),(∀y∈l,y.2 = .free->∃c,env.cells.lookup y.1=some c) →
   (forIn l cs (λ(x:Str×yqd) (r:List (Str×Addr))=>(match x with|(name,kind)=>if kind==yqd.free then (do let c ← cellOf env name;pure (ForInStep.yield ((name,c)::r))) else pure (ForInStep.yield r):Sem (ForInStep (List (Str×Addr))))))=pure (clGo env.cells l cs):=by
  intro l
  induction l with
  | nil=>intro cs _;rfl
  | cons y r ih =>
   intro cs h;obtain⟨n,k⟩:=y;have hr:∀y∈r,y.2 = .free->∃c,env.cells.lookup y.1=some c:=λy hy=>h y (yoa _ hy);rw[yho]
   by_cases hk:k = .free
   ·subst hk;obtain⟨c,e⟩:=h (n,.free) ypa rfl;have e':env.cells.lookup n=some c:=e;simp only[beq_self_eq_true,if_true,cellOf,e',pure_bind,clGo];exact ih _ hr
   ·have hb:(k==yqd.free)=false:=by simpa using hk
    simp only[hb,ykg,if_false,pure_bind,clGo];exact ih _ hr
 unfold closureFor clOf;refine Eq.trans (bind_pure _) ?_;exact go sc.names [] h
theorem zeo {cells:List (Str×Addr)}:∀(l:List (Str×yqd)) (cs:List (Str×Addr)),(∀x c,cs.lookup x=some c->cells.lookup x=some c)->∀x c,(clGo cells l cs).lookup x=some c->cells.lookup x=some c
 | [],_,h,x,c,e=>h x c e
 | (n,k)::r,cs,h,x,c,e=>by
  refine zeo r _ (λy d z=>?_) x c e
  by_cases hk:(k==yqd.free)=true
  ·rw[if_pos hk] at z;cases q:cells.lookup n with
   | none=>rw[q] at z;exact h y d z
   | some a =>
    rw[q] at z;have z':yze y ((n,a)::cs)=some d:=z;rw[yjf] at z';cases hy:y==n with
    | true =>
     rw[hy] at z';have ey:y=n:=(by simpa using hy);rw[ey,q];exact z'
    | false =>
     rw[hy] at z';exact h y d z'
  ·rw[if_neg hk] at z;exact h y d z
theorem zdcb {cells:List (Str×Addr)}:∀(l:List (Str×yqd)) (cs:List (Str×Addr)) (x:Str),((x,yqd.free)∈l∧(∃c,cells.lookup x=some c))∨(∃c,cs.lookup x=some c)->∃c,(clGo cells l cs).lookup x=some c
 | [],cs,x,h=>by
  rcases h with⟨h,_⟩|h
  ·cases h
  ·exact h
 | (n,k)::r,cs,x,h=>by
  refine zdcb r _ x ?_;have put:(∃c,cs.lookup x=some c)->∃c,(if (k==yqd.free)=true then (match cells.lookup n with|some c=>(n,c)::cs|none=>cs) else cs).lookup x=some c:=λ⟨c,e⟩=>by
   by_cases hk:(k==yqd.free)=true
   ·rw[if_pos hk];cases q:cells.lookup n with
    | none=>exact⟨c,e⟩
    | some a =>
     show ∃c,yze x ((n,a)::cs)=some c
     rw[yjf];cases hy:x==n with
     | true=>exact⟨a,rfl⟩
     | false=>exact⟨c,e⟩
   ·rw[if_neg hk];exact⟨c,e⟩
  rcases h with⟨h,c,e⟩|h
  ·rcases yka.mp h with z|z
   ·injection z with z1 z2
    subst z1;subst z2;refine .inr ⟨c,?_⟩;show yze x (match cells.lookup x with|some c=>(x,c)::cs|none=>cs)=some c
    rw[e];show yze x ((x,c)::cs)=some c
    rw[yjf,beq_self_eq_true]
   ·exact .inl ⟨z,c,e⟩
  ·exact .inr (put h)
theorem zkn {env:Env}:∀{l:List (Str×yqd)} {x:Str},(∀y∈l,y.2≠yqd.cell) →
  ((l.map λ(n,k)=>if (k==yqd.free&&env.scope.kind == .function&&env.kindOf n==some .cell) then (n,yqd.cell) else (n,k)).lookup x=some .cell ∨
   (l.map λ(n,k)=>if (k==yqd.free&&env.scope.kind == .function&&env.kindOf n==some .cell) then (n,yqd.cell) else (n,k)).lookup x=some .free)->(x,yqd.free)∈l
 | [],x,_,h=>by rcases h with h|h<;>simp at h
 | (n,k)::r,x,hc,h=>by
  rw[ygc] at h;have nk:k≠yqd.cell:=hc (n,k) ypa
  by_cases hx:x=n
  ·subst hx;have kf:k = .free:=by
    by_cases q:(k==yqd.free&&env.scope.kind == .function&&env.kindOf x==some .cell)=true
    ·rw[yde,yde] at q
     simpa using q.1.1
    ·have e:(match (x,k) with|(n,k)=>if (k==yqd.free&&env.scope.kind == .function&&env.kindOf n==some .cell)=true then (n,yqd.cell) else (n,k))=(x,k):=if_neg q;rw[e,yjf,beq_self_eq_true] at h
     rcases h with h|h
     ·exact absurd (yfd h) nk
     ·exact yfd h
   subst kf;exact ypa
  ·refine yoa _ (zkn (env:=env) (λy hy=>hc y (yoa _ hy)) ?_);have hb:(x==n)=false:=by simpa using hx
   by_cases q:(k==yqd.free&&env.scope.kind == .function&&env.kindOf n==some .cell)=true
   ·have e:(match (n,k) with|(n,k)=>if (k==yqd.free&&env.scope.kind == .function&&env.kindOf n==some .cell)=true then (n,yqd.cell) else (n,k))=(n,yqd.cell):=if_pos q;rw[e,yjf,hb] at h;exact h
   ·have e:(match (n,k) with|(n,k)=>if (k==yqd.free&&env.scope.kind == .function&&env.kindOf n==some .cell)=true then (n,yqd.cell) else (n,k))=(n,k):=if_neg q;rw[e,yjf,hb] at h;exact h
def blk (X:Cx)(N':List Str)(sc:Scope)(fp:List Addr)(s:Shared)(H:Hp)(C:Addr):Cx where
 prog:=X.prog
 w:=X.w
 K:=X.K
 mg:=X.mg
 base:=X.base
 A:=X.A
 N:=N'
 s₀:=s
 H₀:=H
 env:=compEnvC sc (clOf sc X.env.cells) C X.env
 outer:=X.stack
 stack:=X.stack
 ex:=fp
 fn:=λ_=>false
 calm:=X.calm
 pn:=[]
 xe:=λ_ _=>False
inductive Caps (X:Cx)(sc:Scope):List Str->List Nat->Prop where
 | nil:Caps X sc [] []
 | cons {x:Str} {j:Nat} {cap:List Str} {js:List Nat} (hj:X.N[j]?=some x) (hk:X.env.kindOf x=some .cell∨X.env.kindOf x=some .free)
   (hr:(yoq sc X.env).names.lookup x=some .cell∨(yoq sc X.env).names.lookup x=some .free):Caps X sc cap js->Caps X sc (x::cap) (j::js)
structure zsa (X:Cx)(sc:Scope):Prop where
 kind:sc.kind = .function
 cell:∀y∈sc.names,y.2 ≠ .cell
 names:∀y∈sc.names,y.2 = .local->sc.names.lookup y.1=some .local
 free:∀y∈sc.names,y.2 = .free->X.env.kindOf y.1=some .cell∨X.env.kindOf y.1=some .free
def zwsb (sc:Scope)(nm:List (Str×yqd)):Bool:=sc.names.all λy=>y.2 != .cell&&(y.2 != .local||sc.names.lookup y.1==some .local)&&(y.2 != .free||(nm.lookup y.1==some .cell||nm.lookup y.1==some .free))
theorem zsa.chk {X:Cx}{sc:Scope}(hk:sc.kind = .function)(h:zwsb sc X.env.scope.names=true):zsa X sc:=by
 have a:=ykf.mp h;refine⟨hk,λy hy e=>?_,λy hy e=>?_,λy hy e=>?_⟩
 ·have q:=a y hy;rw[e] at q;simp at q
 ·have q:=a y hy;rw[e] at q
  simpa using q
 ·have q:=a y hy;rw[e] at q;have q':X.env.scope.names.lookup y.1=some .cell∨X.env.scope.names.lookup y.1=some .free:=by simpa using q
  exact q'
def zzd (n:Nat)(js:List Nat)(σ:St):St:=ypb n none++js.map λj=>(σ[j]?).join
theorem Caps.len {X:Cx}{sc:Scope}:∀{cap:List Str} {js:List Nat},Caps X sc cap js->cap.length=js.length
 | _,_,.nil=>rfl
 | _,_,.cons _ _ _ c=>by rw[yub,yub,c.len]
theorem Caps.get {X:Cx}{sc:Scope}:∀{cap:List Str} {js:List Nat},Caps X sc cap js->∀{i:Nat} {x:Str},cap[i]?=some x →
  ∃j,js[i]?=some j∧X.N[j]?=some x∧(X.env.kindOf x=some .cell∨X.env.kindOf x=some .free)∧((yoq sc X.env).names.lookup x=some .cell∨(yoq sc X.env).names.lookup x=some .free)
 | _,_,.nil,i,x,e=>by simp at e
 | _,_,.cons hj hk hr c,0,x,e=>by
  rw[yof] at e;cases e;exact⟨_,rfl,hj,hk,hr⟩
 | _,_,.cons hj hk hr c,i+1,x,e=>by
  rw[yqc] at e;obtain⟨j,h1,h2⟩:=c.get e;exact⟨j,by rw[yqc];exact h1,h2⟩
theorem zzhb {X:Cx}{sc:Scope}{own cap:List Str}{js:List Nat}{σ:St}(C:Caps X sc cap js):(zzd own.length js σ).length=(own++cap).length:=by
 unfold zzd;rw[yja,ysd,yca,yja,C.len]
theorem zkx {n:Nat}{js:List Nat}{σ:St}{i:Nat}{v:V}(e:(zzd n js σ)[i]?=some (some v)):n≤i∧∃j,js[i-n]?=some j∧σ[j]?=some (some v):=by
 unfold zzd at e
 by_cases h:i<n
 ·rw[yrc (by simpa using h),yvm,if_pos h] at e;cases e
 ·refine⟨by omega,?_⟩;rw[ykb (by rw[ysd];omega),ysd,yla] at e;cases q:js[i-n]? with
  | none=>rw[q] at e;cases e
  | some j =>
   rw[q] at e;have e':(σ[j]?).join=some v:=yfd e;refine⟨j,rfl,?_⟩;cases z:σ[j]? with
   | none=>rw[z] at e';cases e'
   | some o =>
    rw[z] at e';have e2:o=some v:=e';rw[e2]
theorem zls {n:Nat}{js:List Nat}{σ σ2:St}(hd:σ2.drop n=(zzd n js σ).drop n){i:Nat}{v:V}(e:(zzd n js σ)[i]?=some (some v)):σ2[i]?=some (some v):=by
 have h:=(zkx e).1;have q:(σ2.drop n)[i-n]?=((zzd n js σ).drop n)[i-n]?:=by rw[hd]
 rw[yti,yti,show n+(i-n)=i by omega] at q;rw[q];exact e
def PTs (X:Cx)(ifs:List Expr)(t:TT):Prop :=
 ∀(pins:List (Addr×Obj)) (s:Shared) (σ:St) (H:Hp) (Q:Bool->Hp->Prop),Inv X pins σ H s->t σ H Q →
  wpAny (model X.prog X.w) X.A (forIn ifs true λc r=>if r=true then do let ok ← isTrue c X.env (eval c X.env);pure (ForInStep.yield ok) else pure (ForInStep.yield r)) (TP X pins σ Q) X.xe s
def znqb:TT:=λ_ H Q=>Q true H
theorem zyb {X:Cx}:PTs X [] znqb:=λ_ _ _ H _ I h=>wpAny_tests_nil ⟨H,I,h⟩
theorem zmg {X:Cx}{c:Expr}{t:TT}(hc:PT X c t):PTs X [c] t:=λpins s σ H Q I h=>wpAny_tests_one (hc pins s σ H Q I h)
theorem zdx {prog:ytb}{w:World}{A:Around}{R:Result->Shared->Prop}{s:Shared}{elt tg iter:Expr}{ifs:List Expr}{scope:Scope}{pos:Pos}{it acc:Value}{env:Env}(I:Nat->Shared->Prop)
  (turn:∀n s,I n s->wpAny (model prog w) A (pyNext it) (λr s₁=>match r with
   | none=>R (.ok .next) s₁
   | some v=>wpAny (model prog w) A (yqk tg it v) (λ_ s₀=>wpAny (model prog w) A (assign tg env v) (λ_ s₂ =>
     wpAny (model prog w) A (forIn ifs true λc r=>if r=true then do let ok ← isTrue c env (eval c env);pure (ForInStep.yield ok) else pure (ForInStep.yield r)) (λok s₃ =>
      if ok=true then wpAny (model prog w) A (eval elt env) (λx s₄ =>
       wpAny (model prog w) A (call (.builtin "list.append") [acc,x]) (λ_ s₅=>∃m,m<n∧I m s₅) (ytr (model prog w) A env λe s'=>R (.error e) s') s₄) (ytr (model prog w) A env λe s'=>R (.error e) s') s₃
      else ∃m,m<n∧I m s₃) (ytr (model prog w) A env λe s'=>R (.error e) s') s₂) (ytr (model prog w) A env λe s'=>R (.error e) s') s₀) (ytr (model prog w) A env λe s'=>R (.error e) s') s₁)
    (ytr (model prog w) A env λe s'=>R (.error e) s') s)
  (n:Nat) (h:I n s) :
  yjj (model prog w) A (.compLoop (.ListComp elt [⟨tg,iter,ifs,0⟩] scope pos) 0 it acc env) R s:=by
 refine codeAny_loop rfl I (λn s hI=>?_) n h;show wpAny _ A ((compTurn (.ListComp elt [⟨tg,iter,ifs,0⟩] scope pos) 0 it acc env).onRaise (λx=>do noteFrame x env;theTreesLotGoes x)) _ _ s
 refine wpAny_noted ?_;rw[compTurn_list];refine yaa (yvp (yaa (ywe (turn n s hI) (λr s₁ h₁=>?_) λ_ _ h'=>h')));cases r with
 | none=>exact yda h₁
 | some v =>
  refine yaa (ywe h₁ (λ_ s₀ h₀=>?_) λ_ _ h'=>h');refine yaa (ywe h₀ (λ_ s₂ h₂=>yaa (ywe h₂ (λok s₃ h₃=>?_) λ_ _ h'=>h')) λ_ _ h'=>h');cases ok with
  | false=>exact yda ⟨rfl,h₃⟩
  | true =>
   exact yaa (yaa (ywe h₃ (λx s₄ h₄=>yaa (ywe h₄ (λ_ s₅ h₅=>yda (yda ⟨rfl,h₅⟩)) λ_ _ h'=>h')) λ_ _ h'=>h'))
def zpu (J:It)(H1:Hp)(g:TG)(tt:TT)(te:TE)(n:Nat)(js:List Nat)(σ:St)(Q:VK):Prop:=∃W:Nat->Nat->List V->Hp->Prop,(∃m,W 0 m [] H1)∧∀i m ys H,W i m ys H →
 (J.stop i H∧ys.length≤yxa∧∀p,H p=none->Q (.ref p) (upd H p (.lst ys))) ∨
 (J.go i H∧ys.length≤yxa∧∃N:List V->Hp->Prop,(∀ys' H',N ys' H'->∃m',m'<m∧W (i+1) m' ys' H')∧∀x H',J.yld i H x H'->g x (zzd n js σ) H' fun σ2 H2=>σ2.drop n=(zzd n js σ).drop n∧tt σ2 H2 λb H3 =>
  if b=true then te σ2 H3 λy H4=>N (ys++[y]) H4 else N ys H3)
def zrqb (wi:TI)(g:TG)(tt:TT)(te:TE)(n:Nat)(js:List Nat):TE:=fun σ H Q=>wi σ H λJ H1=>zpu J H1 g tt te n js σ Q
section
variable {X:Cx}
theorem Vals.snoc {xs:List V}{us:List Value}{x:V}{u:Value}(r:Vals xs us)(q:RelV x u):Vals (xs++[x]) (us++[u]):=r.append (.cons q .nil)
theorem zwhb {pins:List (Addr×Obj)}{σ:St}{H:Hp}{s s3:Shared}{sc:Scope}{own cap:List Str}{js:List Nat}{fp:List Addr}{C:Addr}{tn:Nat->Heap->Prop}{h₁:Heap}{tk:Nat}{m:Str->Option Value}(I:Inv X pins σ H s)(S:zsa X sc)(cp:Caps X sc cap js)
  (hob:∀b∈fp,∃o,s.heap.get? b=some o∧∀v,o.data ≠ .cell v) (hf:∀b∈fp,FpOk X pins H b) (hC:s.heap.objs.size≤C) (hn:h₁.Ns C m) (old:∀b o,s.heap.get? b=some o->h₁.get? b=some o) :
  Inv (blk X (own++cap) sc fp s H C) [] (zzd own.length js σ) H { s with heap:=h₁,toks:=tk }:=by
 have sub:∀x c,(clOf sc X.env.cells).lookup x=some c->X.env.cells.lookup x=some c:=zeo sc.names [] (λx c e=>by simp at e);have has:∀x,((yoq sc X.env).names.lookup x=some .cell∨(yoq sc X.env).names.lookup x=some .free)->∃c,(clOf sc X.env.cells).lookup x=some c:=λx hx=>by
  have hm:=zkn (env:=X.env) (l:=sc.names) (x:=x) S.cell hx;exact zdcb sc.names [] x (.inl ⟨hm,I.ok.has x (S.free _ hm rfl)⟩)
 refine⟨⟨I.ok.mod,S.kind,I.ok.glob,I.ok.blt,hC,λx y c e1 e2=>I.ok.inj x y c (sub x c e1) (sub y c e2),has,(λx c e=>by cases e),I.ok.hd,I.ok.frames,.inl rfl,λb hb=>?_,I.bs,yqb I.ok.bsz I.sz,λb o e hb=>?_,λb hb z=>?_,I.stack,I.zveb⟩,
  rfl,I.bare,Un.kept old,⟨m,hn,λi x v h1 h2 h3=>?_⟩,λx c e=>?_,I.hok.fresh hC,λx c e=>I.freeC x c (sub x c e),λp hp=>absurd (show p∈([]:List (Addr×Obj)) from hp) (by simp),I.hok.kept old,zzhb cp⟩
 ·obtain⟨o,e,_⟩:=hob b hb;refine⟨yab (yua (yma e) hC),λx c e=>?_⟩;exact (hf b hb).2.2.2.2.1 x c (sub x c e)
 ·obtain⟨_,_,_,h4,_,_⟩:=hf b hb
  rcases h4 with z|z
  ·exact I.ok.noex b o e z
  ·exact absurd (yua (yma e) (yqb I.ok.bsz z)) (yoe _)
 ·obtain⟨_,h2,h3,_⟩:=hf b hb
  rcases yka.mp (I.zyab b z) with q|q
  ·exact h2 q
  ·exact h3 q
 ·obtain⟨hni,j,hj,hv⟩:=zkx h2;have h1':(own++cap)[i]?=some x:=h1;rw[ykb hni] at h1';obtain⟨j',e1,e2,e3,e4⟩:=cp.get h1';rw[hj] at e1;cases e1;obtain⟨m0,hn0,hl0⟩:=I.loc;have vis:Vis X.env.scope x:=.inr e3;obtain⟨u,ru,lk⟩:=hl0 j x v e2 hv vis;refine⟨u,ru,?_⟩
  rcases lk with⟨k,_⟩|⟨k,c,ec,hc⟩
  ·exfalso
   rcases e3 with q|q
   ·rw[q] at k;cases k
   ·rw[q] at k;cases k
  ·obtain⟨c',ec'⟩:=has x e4;have q:=sub x c' ec';rw[ec] at q;cases q;exact .inr ⟨e4,c,ec',hc.keeps old⟩
 ·obtain⟨v,z⟩:=I.cell x c (sub x c e);exact⟨v,z.keeps old⟩
theorem zyhb {pins pn:List (Addr×Obj)}{σ σ':St}{H H':Hp}{s s':Shared}{sc:Scope}{N':List Str}{fp:List Addr}{C D:Addr}{h':Heap}{ys:List V}{its:List Value}{nn:Nat}(I:Inv X pins σ H s)(J:Inv (blk X N' sc fp s H C) pn σ' H' s')
  (hf:∀b∈fp,FpOk X pins H b) (hC:s.heap.objs.size≤C) (hD:s.heap.objs.size≤D) (hDC:D≠C) (hn:H' D=none) (ho:s'.heap.get? D=some { cls:=.type "list",data:=.seq its.toArray nn }) (hz:ys.length≤yxa) (rv:Vals ys its)
  (hs:yxd C s'.heap h'):Inv X pins σ (upd H' D (.lst ys)) { s' with heap:=h' }:=by
 have u:Un (frs X.stack) fp H H' s.heap s'.heap:=J.base;have low:∀b o,s.heap.get? b=some o->b≠C∧b≠D:=λb o e=>⟨yab (yua (yma e) hC),yab (yua (yma e) hD)⟩;have kp:∀b o,b≠C->s'.heap.get? b=some o->h'.get? b=some o:=λb o hb e=>(hs.2 b hb).trans e;have u2:Un (frs X.stack) fp H (upd H' D (.lst ys)) s.heap h':=by
  refine⟨λb o e n hb hx=>kp b o (low b o e).1 (u.keep b o e n hb hx),λb o e n hb hx=>?_,λb o e n hx=>?_,λb o e hx=>?_,λb xs e=>?_,λb o xs e=>?_,λb ps e=>?_⟩
  ·obtain⟨sl,q⟩:=u.slot b o e n hb hx;exact⟨sl,kp b _ (low b o e).1 q⟩
  ·rw[zta (low b o e).2];exact u.free b o e n hx
  ·obtain⟨o',q⟩:=u.there b o e hx;exact⟨o',kp b _ (low b o e).1 q⟩
  ·have q:=u.tups b xs e;rw[zta (zga q hn)];exact q
  ·have q:=u.frzs b o xs e;rw[zta (zga q hn)];exact q
  ·obtain⟨more,q⟩:=u.tbls b ps e;exact⟨more,by rw[zta (zga q hn)];exact q⟩
 have nC:H' C=none:=J.free;have hok:HOk X.prog X.w (upd H' D (.lst ys)) h':=λb o e=>by
  by_cases hb:b=D
  ·subst hb;rw[zua] at e;cases e;exact⟨hz,its,nn,rv,kp b _ hDC ho⟩
  ·rw[zta hb] at e;refine (J.hok b o e).stay (λc v hc q=>kp c v ?_ q) (λc q=>?_) λc xs q=>?_
   ·rintro rfl
    rcases hc with z|z
    ·rw[← z,nC] at e;cases e
    ·rw[nC] at z;cases z
   ·rw[zta (zga q hn)];exact q
   ·rw[zta (zga q hn)];exact q
 have os:=J.os;have bare:=J.bare;obtain⟨hh,g,d,t,os'⟩:=s';obtain rfl:os'=s.os:=os;have z:=I.call (h':=h') (g':=g) (d':=d) (t':=t) (ch:=fp) u2 hok bare λb hb=>⟨(hf b hb).2.2.2.1,(hf b hb).2.1,(hf b hb).2.2.2.2.1,(hf b hb).2.2.2.2.2⟩;exact z
theorem zxhb {elt iter tg:Expr}{ifs:List Expr}{sc:Scope}{pos:Pos}{own cap:List Str}{js:List Nat}{g:TG}{tt:TT}{te:TE}{Qf:List V->Hp->Prop}{RR:Value->Addr->Result->Shared->Prop}{E:Value->Shared->Prop}
  {pins:List (Addr×Obj)} {σ:St} {H2:Hp} {s2:Shared} {it:Addr} {fp:List Addr} {tn:Nat->Heap->Prop} {J:It} {W:Nat->Nat->List V->Hp->Prop} {m0:Nat}
  (hc:X.calm=true) (S:zsa X sc) (cp:Caps X sc cap js)
  (hg:∀fp s H C,PG (blk X (own++cap) sc fp s H C) tg g) (ht:∀fp s H C,PTs (blk X (own++cap) sc fp s H C) ifs tt) (he:∀fp s H C,PE (blk X (own++cap) sc fp s H C) elt te)
  (I2:Inv X pins σ H2 s2) (T:Turn X.prog X.w X.K tg J fp it tn) (st2:tn 0 s2.heap) (f2:∀b∈fp,FpOk X pins H2 b) (w0:W 0 m0 [] H2)
  (turn:∀i m ys H,W i m ys H->(J.stop i H∧ys.length≤yxa∧Qf ys H) ∨
   (J.go i H∧ys.length≤yxa∧∃N:List V->Hp->Prop,(∀ys' H',N ys' H'->∃m',m'<m∧W (i+1) m' ys' H')∧∀x H',J.yld i H x H'->g x (zzd own.length js σ) H' fun σ2 H2=>σ2.drop own.length=(zzd own.length js σ).drop own.length∧tt σ2 H2 λb H3 =>
    if b=true then te σ2 H3 λy H4=>N (ys++[y]) H4 else N ys H3))
  (hRR:∀D C H4 s4 pn ys its nn,s2.heap.objs.size≤D->s2.heap.objs.size≤C->D≠C->Inv (blk X (own++cap) sc fp s2 H2 C) pn (zzd own.length js σ) H4 s4->H4 D=none->s4.heap.get? D=some { cls:=.type "list",data:=.seq its.toArray nn } →
   ys.length≤yxa->Vals ys its->Qf ys H4->RR (.ref D) C (.ok .next) s4) :
  wpAny (model X.prog X.w) X.A (newList []) (λacc s₃=>wpAny (model X.prog X.w) X.A (newFunctionEnv sc X.env.globals (clOf sc X.env.cells) [] X.env.qual none .none (some X.env)) (λcenv s₄ =>
   yjj (model X.prog X.w) X.A (.compStart (.ListComp elt [⟨tg,iter,ifs,0⟩] sc pos) 0 (.ref it) acc { cenv with scope:=yoq sc X.env }) (RR acc cenv.locals) s₄) E s₃) E s2:=by
 refine ydd (wpAny_newFunctionEnv S.cell (by intro y hy;simp at hy) (λh₁ hns₁ hsb₁=>?_) S.kind);dsimp only at hns₁ hsb₁ ⊢;generalize hH2:s2.heap.push { cls:=.type "list",dict:=none,data:=.seq ([]:List Value).toArray }=HH at hns₁ hsb₁ ⊢;generalize hDd:s2.heap.objs.size=D at hns₁ hsb₁ ⊢;generalize hCc:HH.objs.size=C at hns₁ hsb₁ ⊢;have hC:C=D+1:=by rw[← hCc,← hH2,yjc,hDd]
 have hDC:D≠C:=by rw[hC];exact yab (yhf _)
 have hCle:s2.heap.objs.size≤C:=by rw[hDd,hC];exact yif _
 have hDle:s2.heap.objs.size≤D:=ybo hDd;have below:∀b,b<s2.heap.objs.size->b≠C∧b≠D:=λb hb=>⟨yab (yua hb hCle),yab (yua hb hDle)⟩;have old:∀b o,s2.heap.get? b=some o->h₁.get? b=some o:=λb o e=>hsb₁.extBut b o (below b (yma e)).1 (yba _ (hH2▸yba _ e));have q0:HH.get? D=some { cls:=.type "list",data:=.seq ([]:List Value).toArray 0 }:=by
  rw[← hH2,← hDd];exact yfa _ rfl
 have hacc:h₁.get? D=some { cls:=.type "list",data:=.seq ([]:List Value).toArray 0 }:=hsb₁.extBut _ _ hDC (yba _ q0);have fpo:=T.obj 0 _ st2;have fplt:∀b∈fp,b<s2.heap.objs.size:=λb hb=>by obtain⟨o,e,_⟩:=fpo b hb;exact yma e
 have st3:tn 0 h₁:=T.keep 0 _ _ st2 λb hb o e=>old b o e;have I3:∀tk,Inv (blk X (own++cap) sc fp s2 H2 C) [] (zzd own.length js σ) H2 { s2 with heap:=h₁,toks:=tk }:=λtk=>zwhb (s3:=s2) (tn:=tn) I2 S cp fpo f2 hCle hns₁ old;have stkD:∀b,s2.heap.objs.size≤b->b∉frs X.stack:=λb hb hm=>by
  obtain⟨_,o,e,_⟩:=I2.stack.mem hm;exact absurd (yua (yma e) hb) (yoe _)
 have nD:H2 D=none:=I2.hok.fresh hDle;have stat:∀{pn:List (Addr×Obj)} {H':Hp},(∀p∈pn,p.1=D)->(∀b∈fp,H' b=none)->∀b∈fp,FpOk (blk X (own++cap) sc fp s2 H2 C) pn H' b:=λ{pn H'} hp hn b hb=>by
  refine⟨hn b hb,(below b (fplt b hb)).1,λz=>?_,.inl hb,λx c e=>?_,λp hp' z=>?_⟩
  ·obtain⟨_,h2,h3,_⟩:=f2 b hb
   rcases yka.mp (I2.zyab b z) with q|q
   ·exact h2 q
   ·exact h3 q
  ·exact (f2 b hb).2.2.2.2.1 x c (zeo sc.names [] (λx c e=>by simp at e) x c e)
  ·have e:=hp p (by simpa [blk] using hp');rw[e] at z;exact (below b (fplt b hb)).2 z.symm
 have pinD:∀{H':Hp} {s':Shared} {o:Obj},Inv (blk X (own++cap) sc fp s2 H2 C) [] (zzd own.length js σ) H' s'->H' D=none->s'.heap.get? D=some o->(∀v,o.data ≠ .cell v)->Inv (blk X (own++cap) sc fp s2 H2 C) [(D,o)] (zzd own.length js σ) H' s':=λ{H' s' o} I' n e d =>
  I'.zcp λp hp=>by
   have q:p=(D,o):=(by simpa using hp);subst q;exact⟨e,n,hDC,stkD D hDle,d⟩
 have loop:∀s₃:Shared,s₃={ s2 with heap:=h₁,toks:=s2.toks+([]:List (Str×Value)).length } →
   yjj (model X.prog X.w) X.A (.compLoop (.ListComp elt [⟨tg,iter,ifs,0⟩] sc pos) 0 (.ref it) (.ref D) (compEnvC sc (clOf sc X.env.cells) C X.env)) (RR (.ref D) C) s₃:=by
  rintro s₃ rfl;refine zdx (λk s'=>Ex5 λi ys its nn H'=>Inv (blk X (own++cap) sc fp s2 H2 C) [] (zzd own.length js σ) H' s'∧tn i s'.heap∧(∀b∈fp,H' b=none)∧H' D=none ∧
   s'.heap.get? D=some { cls:=.type "list",data:=.seq its.toArray nn }∧Vals ys its∧W i k ys H') ?_ m0 ⟨0,[],[],0,H2,I3 _,st3,λb hb=>(f2 b hb).1,nD,hacc,.nil,w0⟩
  rintro k s3 ⟨i,ys,its,nn,H3,I3,st3,fr3,d3,o3,rv3,w3⟩;have I3':=pinD I3 d3 o3 (λv z=>by cases z);have only:∀p∈[(D,({ cls:=.type "list",data:=.seq its.toArray nn }:Obj))],p.1=D:=λp hp=>by
   rw[yia.mp hp]
  rcases turn i k ys H3 w3 with⟨stop,hz,qn⟩|⟨go,hz,N,hN,step⟩
  ·refine ywe (T.done (blk X (own++cap) sc fp s2 H2 C) rfl rfl rfl hc i _ s3 _ H3 (λ_ _=>False) I3' (stat only fr3) st3 stop) (λr s4 ⟨hr,I4⟩=>?_) λ_ _ z=>z.elim;subst hr;have o4:=(I4.pin (D,_) (yzb _ (yia.mpr rfl))).1;exact hRR D C H3 s4 _ ys its nn hDle hCle hDC I4 d3 o4 hz rv3 qn
  ·refine ywe (T.item (blk X (own++cap) sc fp s2 H2 C) rfl rfl rfl hc i _ s3 _ H3 (λ_ _=>False) I3' (stat only fr3) st3 go) (λr s4 ⟨u,hr,h4⟩=>?_) λ_ _ z=>z.elim;subst hr;refine ywe h4 (λ_ s5 ⟨x,H5,I5,r5,y5,st5,fr5⟩=>?_) λ_ _ z=>z.elim;have I5':=I5.pinned (stat only fr5) (T.obj _ _ st5);refine ywe (hg fp s2 H2 C _ s5 _ H5 x u _ I5' r5 (step x H5 y5)) (λ_ s6 ⟨σ6,H6,I6,d6,q6⟩=>?_) λ_ _ z=>z.elim;refine ywe (ht fp s2 H2 C _ s6 σ6 H6 _ I6 q6) (λok s7 ⟨H7,I7,q7⟩=>?_) λ_ _ z=>z.elim;have memD:∀{o:Obj},(D,o)∈(blk X (own++cap) sc fp s2 H2 C).pn++([(D,o)]++zqr fp s5.heap):=yzb _ (ylf _ (yia.mpr rfl));have memF:∀{b:Addr} {o o':Obj},b∈fp->s5.heap.get? b=some o->(b,o)∈(blk X (own++cap) sc fp s2 H2 C).pn++([(D,o')]++zqr fp s5.heap):=λhb e=>yzb _ (yzb _ (zpm hb e));have σlen:(zzd own.length js σ).length=σ6.length:=by
    have a:=I6.len;have b:=I5.len;exact b.trans a.symm
   cases ok with
   | false =>
    have q7':N ys H7:=q7;obtain⟨m',hm,w7⟩:=hN _ _ q7';refine⟨m',hm,i+1,ys,its,nn,H7,(I7.zcp λp hp=>absurd hp (by simp)).weak σlen (λj v e=>zls d6 e),T.keep _ _ _ st5 λb hb o e=>(I7.pin (b,o) (memF hb e)).1,λb hb=>?_,(I7.pin (D,_) memD).2.1,(I7.pin (D,_) memD).1,rv3,w7⟩;obtain⟨o,e,_⟩:=T.obj _ _ st5 b hb;exact (I7.pin (b,o) (memF hb e)).2.1
   | true =>
    have q7':te σ6 H7 λy H4=>N (ys++[y]) H4:=q7;refine ywe (he fp s2 H2 C _ s7 σ6 H7 _ I7 q7') (λyv s8 ⟨y,H8,I8,r8,n8'⟩=>?_) λ_ _ z=>z.elim;obtain⟨m',hm,w8⟩:=hN _ _ n8';have o8:=(I8.pin (D,_) memD).1;have n8:=(I8.pin (D,_) memD).2.1;refine append_at (hsz:=by rw[yna,← rv3.length];exact hz) o8 λh9 hs9 hD9=>?_;have I8':=(I8.zcp (pins':=[]) λp hp=>absurd hp (by simp)).weak σlen (λj v e=>zls d6 e);have I9:=I8'.turned (h':=h9) (t':=s8.toks) (it:=D) (λb o hb e=>(hs9.2 b hb).trans e) n8 hDC (.inr hDle) (λx c e z=>by
     obtain⟨v,q⟩:=I2.cell x c (zeo sc.names [] (λx c e=>by simp at e) x c e);exact absurd (yua q.lt (by rw[z];exact hDle)) (yoe _)) (λp hp=>absurd (show p∈([]:List (Addr×Obj)) from hp) (by simp))
    refine⟨m',hm,i+1,ys++[y],its++[yv],nn+1,H8,I9,T.keep _ _ _ st5 λb hb o e=>(hs9.2 b (below b (fplt b hb)).2).trans (I8.pin (b,o) (memF hb e)).1,λb hb=>?_,n8,?_,rv3.snoc r8,w8⟩
    ·obtain⟨o,e,_⟩:=T.obj _ _ st5 b hb;exact (I8.pin (b,o) (memF hb e)).2.1
    ·rw[hD9,List.push_toArray]
 exact codeAny_compStart_list (loop _ rfl) (T.self X.A 0 _ _ _ st3 (loop _ rfl))
theorem zuc {elt iter tg:Expr}{ifs:List Expr}{sc:Scope}{pos:Pos}{own cap:List Str}{js:List Nat}{wi:TI}{g:TG}{tt:TT}{te:TE}(hc:X.calm=true)(S:zsa X sc)(cp:Caps X sc cap js)(hi:PI X tg iter wi)
  (hg:∀fp s H C,PG (blk X (own++cap) sc fp s H C) tg g) (ht:∀fp s H C,PTs (blk X (own++cap) sc fp s H C) ifs tt) (he:∀fp s H C,PE (blk X (own++cap) sc fp s H C) elt te)
  (hs:∀x,ybm iter X.env x=pure x:=by intro _;rfl):PE X (.ListComp elt [⟨tg,iter,ifs,0⟩] sc pos) (zrqb wi g tt te own.length js):=by
 intro pins s σ H Q I h;rw[eval_ListComp];refine yem (use:=none) rfl hs (zjs λy hy hf=>I.ok.has y.1 (S.free y hy hf)) S.kind S.names (thn (hi pins s σ H _ I h) λv s1 h1=>thn h1 λitv s2 h2=>?_);obtain⟨it,fp,tn,J,H2,e,I2,T,st2,f2,W,⟨m0,w0⟩,turn⟩:=h2;subst e;refine zxhb (RR:=λacc C=>compPost (model X.prog X.w) X.A X.xe none (EP X pins σ Q) acc C) (Qf:=λys H=>∀p,H p=none->Q (.ref p) (upd H p (.lst ys))) hc S cp hg ht he I2 T st2 f2 w0 turn ?_;intro D C H4 s4 pn ys its nn hD hC hDC I4 n4 o4 hz rv q;obtain⟨m,hn,_⟩:=I4.loc;exact⟨m,hn,λh' hs'=>⟨.ref D,upd H4 D (.lst ys),zyhb I2 I4 f2 hC hD hDC n4 o4 hz rv hs',rfl,q D n4⟩⟩
end
def Its (x:Str):It:=⟨λi _=>i<x.cps.size,λi H v H'=>H'=H∧∃c,x.cps[i]?=some c∧v = .str ⟨#[c]⟩,λi _=>i=x.cps.size⟩
section
variable {X:Cx}{tg:Expr}
def iStr (tl:TE):TI:=fun σ H R=>tl σ H λv H1=>∃x,v = .str x∧R (Its x) H1
theorem zoo {P:ytb}{w:World}{K:yea}{tg:Expr}{ty:String}(x:Str)(t:Tok)(it:Addr)(hty:["enumerate","zip","dict_itemiterator","dict_reverseitemiterator","odict_iterator","itertools.zip_longest","itertools.pairwise"].contains ty=false)
  (W:∀A:Around,A.handled=none->Walks P w A it [it] [it] x.cps.size (SignAt x) (λi h=>h.IsStrIter it ty x t i))
  (hself:∀(A:Around) (i:Nat) (s:Shared) (Q:Value->Shared->Prop) (E:Value->Shared->Prop),s.heap.IsStrIter it ty x t i->Q (.ref it) s->wpAny (model P w) A (pyIter (.ref it)) Q E s) :
  Turn P w K tg (Its x) [it] it (λi h=>h.IsStrIter it ty x t i) where
 mem:=by simp
 obj:=λi h st b hb=>by
  have e:b=it:=by simpa using hb
  subst e;obtain⟨o,e,c,d⟩:=st;exact⟨o,e,λv z=>by rw[d] at z;cases z⟩
 keep:=λi h h' st k=>by
  obtain⟨o,e,r⟩:=st;exact⟨o,k it (by simp) o e,r⟩
 item:=by
  intro X hP hw hK hc i pins s σ H E I hf st hg;subst hP hw hK;obtain⟨f0,f1,f2,f3,f4,f5⟩:=hf it (by simp);refine (W X.A (I.ok.hd hc)).item i s _ _ hg st λv h' tk hv st' kk=>?_;obtain⟨c,u,hcx,rfl⟩:=hv;have I1:Inv X pins σ H { s with heap:=h',toks:=tk }:=I.turned (λb o hb e=>kk b o (by simpa using hb) e) f0 f1 f3 f4 f5;obtain⟨o,e,c',d⟩:=id st';exact⟨_,rfl,zxkb (s:={ s with heap:=h',toks:=tk }) e c' d hty ⟨.str ⟨#[c]⟩,H,I1,⟨u,rfl⟩,⟨rfl,c,hcx,rfl⟩,st',λb hb=>(hf b hb).1⟩⟩
 done:=by
  intro X hP hw hK hc i pins s σ H E I hf st hg;subst hP hw hK;obtain⟨f0,f1,f2,f3,f4,f5⟩:=hf it (by simp);have le:i=x.cps.size:=hg;subst le;exact (W X.A (I.ok.hd hc)).done s _ _ st λh' tk kk=>⟨rfl,I.turned (λb o hb e=>kk b o (by simpa using hb) e) f0 f1 f3 f4 f5⟩
 self:=hself
theorem zgmb {l:Expr}{tl:TE}(hl:PE X l tl):PI X tg l (iStr tl):=by
 intro pins s σ H R I h;refine thn (hl pins s σ H _ I h) λv s1 ⟨y,H1,I1,r1,q1⟩=>?_;obtain⟨x,e,q⟩:=q1;subst e;obtain⟨t,rfl⟩:=r1;have fp:∀b∈[s1.heap.objs.size],FpOk X pins H1 b:=λb hb=>by
  have e:b=s1.heap.objs.size:=by simpa using hb
  subst e;exact I1.fpOk (yha _) (I1.hok.fresh (yha _))
 cases ha:x.cps.all (· < 128)
 ·refine wpAny_pyIter_wide ha ?_;exact⟨s1.heap.objs.size,[s1.heap.objs.size],_,Its x,H1,rfl,I1.kept (t':=s1.toks) λb o e=>yba _ e,zoo x t _ (by decide) (λA hA=>Walks.strWide hA _ x t) (λA i s Q E st h=>wpAny_pyIter_striter_wide st h),⟨_,yfa _ rfl,rfl,rfl⟩,fp,q⟩
 ·refine wpAny_pyIter_ascii ha ?_;exact⟨s1.heap.objs.size,[s1.heap.objs.size],_,Its x,H1,rfl,I1.kept (t':=s1.toks) λb o e=>yba _ e,zoo x t _ (by decide) (λA hA=>Walks.strAscii hA _ x t) (λA i s Q E st h=>wpAny_pyIter_striter_ascii st h),⟨_,yfa _ rfl,rfl,rfl⟩,fp,q⟩
end
theorem zwt {J:It}{len:Nat}{x:Nat->V}{H1:Hp}{g:TG}{tt:TT}{te:TE}{n:Nat}{js:List Nat}{σ:St}{Q:VK}(Pv:Nat->List V->Hp->Prop)(hgo:∀i ys H,Pv i ys H->i<len->J.go i H)(hst:∀ys H,Pv len ys H->J.stop len H)
  (hy:∀i ys H v H',Pv i ys H->i<len->J.yld i H v H'->H'=H∧v=x i) (h0:Pv 0 [] H1) (hz:∀i ys H,Pv i ys H->ys.length≤yxa)
  (hs:∀i ys H,i<len->Pv i ys H->g (x i) (zzd n js σ) H fun σ2 H2=>σ2.drop n=(zzd n js σ).drop n∧tt σ2 H2 λb H3=>if b=true then te σ2 H3 λy H4=>Pv (i+1) (ys++[y]) H4 else Pv (i+1) ys H3)
  (hd:∀ys H,Pv len ys H->∀p,H p=none->Q (.ref p) (upd H p (.lst ys))):zpu J H1 g tt te n js σ Q:=by
 refine⟨λi m ys H=>m=len-i∧i≤len∧Pv i ys H,⟨len,by simp,ycb _,h0⟩,?_⟩;rintro i m ys H ⟨rfl,hi,p⟩
 by_cases hlt:i<len
 ·refine .inr ⟨hgo i ys H p hlt,hz i ys H p,Pv (i+1),λys' H' p'=>⟨len-(i+1),by omega,rfl,hlt,p'⟩,λv H' y=>?_⟩;obtain⟨e,ev⟩:=hy i ys H v H' p hlt y;subst e ev;exact hs i ys _ hlt p
 ·have e:i=len:=by omega
  subst e;exact .inl ⟨hst ys H p,hz _ ys H p,hd ys H p⟩
theorem zclb {t:Str}{H1:Hp}{g:TG}{tt:TT}{te:TE}{n:Nat}{js:List Nat}{σ:St}{Q:VK}(Pv:Nat->List V->Hp->Prop)(h0:Pv 0 [] H1)(hz:∀i ys H,Pv i ys H->ys.length≤yxa)
  (hs:∀i c ys H,t.cps[i]?=some c->Pv i ys H->g (.str ⟨#[c]⟩) (zzd n js σ) H fun σ2 H2=>σ2.drop n=(zzd n js σ).drop n∧tt σ2 H2 λb H3=>if b=true then te σ2 H3 λy H4=>Pv (i+1) (ys++[y]) H4 else Pv (i+1) ys H3)
  (hd:∀ys H,Pv t.cps.size ys H->∀p,H p=none->Q (.ref p) (upd H p (.lst ys))):zpu (Its t) H1 g tt te n js σ Q:=by
 refine zwt (len:=t.cps.size) (x:=λi=>.str ⟨#[t.cps.getD i 0]⟩) Pv (λi ys H _ h=>h) (λys H _=>rfl) (λi ys H v H' _ hlt y=>?_) h0 hz (λi ys H hlt p=>?_) hd
 ·obtain⟨e,c,hc,ev⟩:=y;refine⟨e,?_⟩;rw[ev,yzf,hc];rfl
 ·have hc:t.cps[i]?=some (t.cps.getD i 0):=by
   rw[yzf,yeb hlt];rfl
  exact hs i _ ys H hc p
theorem zoc {K:yea}{a:Addr}{xs:List V}{H1:Hp}{g:TG}{tt:TT}{te:TE}{n:Nat}{js:List Nat}{σ:St}{Q:VK}(Pv:Nat->List V->Hp->Prop)(hl:∀i ys H,Pv i ys H->SqL K H a xs)(h0:Pv 0 [] H1)(hz:∀i ys H,Pv i ys H->ys.length≤yxa)
  (hs:∀i x ys H,xs[i]?=some x->Pv i ys H->g x (zzd n js σ) H fun σ2 H2=>σ2.drop n=(zzd n js σ).drop n∧tt σ2 H2 λb H3=>if b=true then te σ2 H3 λy H4=>Pv (i+1) (ys++[y]) H4 else Pv (i+1) ys H3)
  (hd:∀ys H,Pv xs.length ys H->∀p,H p=none->Q (.ref p) (upd H p (.lst ys))):zpu (Itl K a) H1 g tt te n js σ Q:=by
 refine zwt (len:=xs.length) (x:=λi=>xs.getD i .non) Pv (λi ys H p hlt=>⟨xs,xs[i],hl i ys H p,by simp[hlt]⟩) (λys H p=>⟨xs,hl _ ys H p,yha _⟩) (λi ys H v H' p hlt y=>?_) h0 hz (λi ys H hlt p=>?_) hd
 ·obtain⟨e,y⟩:=y;refine⟨e,?_⟩;rw[ylb,y xs (hl i ys H p)];rfl
 ·refine hs i _ ys H ?_ p;rw[ylb,ybb hlt];rfl
theorem zak {K:yea}{a:Addr}{xs:List V}{H1:Hp}{g:TG}{tt:TT}{te:TE}{n:Nat}{js:List Nat}{σ:St}{Q:VK}(Pv:Nat->List V->Hp->Prop)(hl:∀i ys H,Pv i ys H->SqT K H a xs)(h0:Pv 0 [] H1)(hz:∀i ys H,Pv i ys H->ys.length≤yxa)
  (hs:∀i x ys H,xs[i]?=some x->Pv i ys H->g x (zzd n js σ) H fun σ2 H2=>σ2.drop n=(zzd n js σ).drop n∧tt σ2 H2 λb H3=>if b=true then te σ2 H3 λy H4=>Pv (i+1) (ys++[y]) H4 else Pv (i+1) ys H3)
  (hd:∀ys H,Pv xs.length ys H->∀p,H p=none->Q (.ref p) (upd H p (.lst ys))):zpu (Itt K a) H1 g tt te n js σ Q:=by
 refine zwt (len:=xs.length) (x:=λi=>xs.getD i .non) Pv (λi ys H p hlt=>⟨xs,xs[i],hl i ys H p,by simp[hlt]⟩) (λys H p=>⟨xs,hl _ ys H p,yha _⟩) (λi ys H v H' p hlt y=>?_) h0 hz (λi ys H hlt p=>?_) hd
 ·obtain⟨e,y⟩:=y;refine⟨e,?_⟩;rw[ylb,y xs (hl i ys H p)];rfl
 ·refine hs i _ ys H ?_ p;rw[ylb,ybb hlt];rfl
theorem zjc {lo:Int}{len:Nat}{H1:Hp}{g:TG}{tt:TT}{te:TE}{n:Nat}{js:List Nat}{σ:St}{Q:VK}(Pv:Nat->List V->Hp->Prop)(h0:Pv 0 [] H1)(hz:∀i ys H,Pv i ys H->ys.length≤yxa)
  (hs:∀i ys H,i<len->Pv i ys H->g (.int (lo+i)) (zzd n js σ) H fun σ2 H2=>σ2.drop n=(zzd n js σ).drop n∧tt σ2 H2 λb H3=>if b=true then te σ2 H3 λy H4=>Pv (i+1) (ys++[y]) H4 else Pv (i+1) ys H3)
  (hd:∀ys H,Pv len ys H->∀p,H p=none->Q (.ref p) (upd H p (.lst ys))):zpu (Itr lo len) H1 g tt te n js σ Q :=
 zwt (len:=len) (x:=λi=>.int (lo+i)) Pv (λi ys H _ h=>h) (λys H _=>yha _) (λi ys H v H' _ hlt y=>y) h0 hz (λi ys H hlt p=>hs i ys H hlt p) hd
section
variable {X:Cx}
theorem zoeb:∀{bs:List Bool} {us:List Value},Vals (bs.map V.bl) us->us=bs.map Value.bool
 | [],us,r=>by rw[yrh] at r;cases r;rfl
 | b::bs,us,r=>by
  rw[ygc] at r;cases r with
  | cons r1 r2=>rw[ygc,zoeb r2,show _=Value.bool b from r1]
theorem zfo (hc:X.calm=true):zsf X (.builtin "all") (λxs H Q=>Ex2 λ(a:Addr) (bs:List Bool)=>xs=[.ref a]∧SqL X.K H a (bs.map V.bl)∧Q (.bl (bs.all id)) H):=by
 intro pins s σ H xs us Q I r h;obtain⟨a,bs,rfl,hq,q⟩:=h;obtain⟨u,rfl,ru⟩:=vals1 r;cases ru;obtain⟨its,rv,p,hz⟩:=I.list hq;have e:=zoeb rv;have hlt:a<s.heap.objs.size:=by obtain⟨o,n,e,_⟩:=p;exact yma e
 refine call_all_walk (yij p.isList ?_);refine⟨s.heap.objs.size,_,_,_,_,_,λi=>bs.getD i true,rfl,Walks.list (show X.A.in1.handled=none from I.ok.hd hc) s.heap.objs.size a (yab hlt) its.toArray,⟨⟨_,yfa _ rfl,rfl,rfl⟩,p.isList.push _⟩,?_,?_⟩
 ·intro i v s' Q' E' hP hQ;have hP':its[i]?=some v:=by simpa using hP
  rw[e,yla] at hP';cases z:bs[i]? with
  | none=>rw[z] at hP';cases hP'
  | some b =>
   rw[z] at hP';have ev:Value.bool b=v:=yfd hP';subst ev;have hQ':Q' (bs.getD i true) s':=hQ;rw[ylb,z] at hQ';exact yee hQ'
 ·intro h' tk kk;refine⟨.bl _,H,I.kept (t':=tk) λb o e=>kk b o (λz=>?_) (yba _ e),?_,q⟩
  ·have z':b=s.heap.objs.size:=by simpa using z
   exact absurd (yma e) (by rw[z'];exact yoe _)
  ·show Value.bool _=Value.bool _
   congr 1
   rw[yna,e,yca];have go:∀l:List Bool,(ysf l.length).all (λi=>l.getD i true)=l.all id:=λl=>by
    have q:=range_getD l true;have e2:((ysf l.length).map λj=>l.getD j true).all id=(ysf l.length).all λi=>l.getD i true:=by
     rw[List.all_map];rfl
    rw[← e2,q]
   exact go bs
theorem ztk:zsf X (.builtin "isinstance") (λxs H Q=>Ex4 λx c t b=>xs=[x,c]∧TyOf X.K H x t∧((∃n,c = .ty n∧yad X.K t (.type n)=some b)∨(∃a,c = .ref a∧yad X.K t (.ref a)=some b))∧Q (.bl b) H):=by
 intro pins s σ H xs us Q I r h;obtain⟨x,c,t,b,rfl,ty,hc,q⟩:=h;obtain⟨u,u',rfl,r1,r2⟩:=vals2 r
 rcases hc with⟨n,rfl,e⟩|⟨a,rfl,e⟩
 ·cases (show u'=Value.type n from r2);exact zww I r1 ty e λtk=>⟨.bl b,H,I.tok tk,rfl,q⟩
 ·cases (show u'=Value.ref a from r2);exact zww I r1 ty e λtk=>⟨.bl b,H,I.tok tk,rfl,q⟩
mutual
inductive DV (K:yea)(H:Hp):V->PyData->Prop where
 | non:DV K H .non .none
 | bl (b:Bool):DV K H (.bl b) (.bool b)
 | int (i:Int):DV K H (.int i) (.int i)
 | str (x:Str):DV K H (.str x) (.str x)
 | lst {a:Addr} {xs:List V} {ds:List PyData}:SqL K H a xs->DVs K H xs ds->DV K H (.ref a) (.list ds)
 | tup {a:Addr} {xs:List V} {ds:List PyData}:SqT K H a xs->DVs K H xs ds->DV K H (.ref a) (.tuple ds)
inductive DVs (K:yea)(H:Hp):List V->List PyData->Prop where
 | nil:DVs K H [] []
 | cons {x:V} {d:PyData} {xs:List V} {ds:List PyData}:DV K H x d->DVs K H xs ds->DVs K H (x::xs) (d::ds)
end
mutual
theorem DV.reads {pins:List (Addr×Obj)}{σ:St}{H:Hp}{s:Shared}(I:Inv X pins σ H s):∀{x:V} {d:PyData} {u:Value},DV X.K H x d->RelV x u->∃as,Reads s.heap u d as
 | _,_,_,.non,r=>by cases r;exact⟨_,.none⟩
 | _,_,_,.bl b,r=>by cases r;exact⟨_,.bool b⟩
 | _,_,_,.int i,r=>by obtain⟨t,rfl⟩:=r;exact⟨_,.int i t⟩
 | _,_,_,.str x,r=>by obtain⟨t,rfl⟩:=r;exact⟨_,.str x t⟩
 | _,_,_,.lst hq hs,r=>by
  cases r;obtain⟨its,rv,⟨o,n,e,c,_,d⟩,_⟩:=I.list hq;obtain⟨as,q⟩:=hs.reads I rv;exact⟨_,.list e c d (by simpa using q)⟩
 | _,_,_,.tup hq hs,r=>by
  cases r;obtain⟨its,rv,⟨o,e,c,n,d⟩,_⟩:=I.tuple hq;obtain⟨as,q⟩:=hs.reads I rv;exact⟨_,.tuple e c d (by simpa using q)⟩
theorem DVs.reads {pins:List (Addr×Obj)}{σ:St}{H:Hp}{s:Shared}(I:Inv X pins σ H s):∀{xs:List V} {ds:List PyData} {us:List Value},DVs X.K H xs ds->Vals xs us->∃as,ReadsAll s.heap us ds as
 | _,_,_,.nil,.nil=>⟨_,.nil⟩
 | _,_,_,.cons h hs,.cons r rs=>by
  obtain⟨as,q⟩:=h.reads I r;obtain⟨bs,p⟩:=hs.reads I rs;exact⟨_,.cons q p⟩
end
theorem zqrb (hu:X.A.units+64<cLine):OpR X (yzd .Eq) (λx y H Q=>Ex2 λd e=>DV X.K H x d∧DV X.K H y e∧ysc d=true∧ysc e=true∧Q (.bl (yyh d e)) H):=by
 intro pins s σ H x y v u Q I rx ry h;obtain⟨d,e,hd,he,s1,s2,q⟩:=h;obtain⟨as,r1⟩:=hd.reads I rx;obtain⟨bs,r2⟩:=he.reads I ry;exact eq_dataH r1 r2 s1 s2 hu ⟨.bl _,H,I,rfl,q⟩
theorem zpbb (hu:X.A.units+64<cLine):OpR X (yzd .NotEq) (λx y H Q=>Ex2 λd e=>DV X.K H x d∧DV X.K H y e∧ysc d=true∧ysc e=true∧Q (.bl (!PyData.eqv d e)) H):=by
 intro pins s σ H x y v u Q I rx ry h;obtain⟨d,e,hd,he,s1,s2,q⟩:=h;obtain⟨as,r1⟩:=hd.reads I rx;obtain⟨bs,r2⟩:=he.reads I ry;exact ne_dataH r1 r2 s1 s2 hu ⟨.bl _,H,I,rfl,q⟩
end
end L2
namespace L2
open PySem PyProof.Rows
set_option genInjectivity false in
structure Gf (K:yea)(mg:Str->Option Value)(x q:Str)(st:Stmt) where
 f:Addr
 d:ycg
 F:Fun K x q st f d
 m:mg x=some (.ref f)
set_option genInjectivity false in
structure Mf (K:yea)(C:Addr)(x q:Str)(st:Stmt) where
 f:Addr
 d:ycg
 F:Fun K x q st f d
 M:Meth K C x f
set_option genInjectivity false in
structure If (K:yea)(C:Addr)(x q:Str)(st:Stmt) where
 f:Addr
 d:ycg
 F:Fun K x q st f d
 M:Mk K C f
section
variable {K:yea}{mg:Str->Option Value}{h:Heap}{C f:Addr}{x q:Str}{st:Stmt}{oc:Value}{od an:Option Addr}{sl:Array (Option Value)}{kV dc pm cd ct:Value}
def gf_of (X:K.In h)(G:h.Ns yza mg)(a:ydb K yza x=some (some (.ref f)))
  (l:K.lookup f=some ⟨oc,od,.func (ydh x q (zrk st) (zsg st) (zia st) .none kV dc pm an cd ct),sl⟩) (c:yfi K cd q=true) (k:yrf K (.ref f)=true):Gf K mg x q st :=
 ⟨f,_,zihb l c k,yvb X G a⟩
def mf_of (a:yob K (.ref C) x=some (some (.ref f)))(i:ykl K (.ref f)=true)
  (l:K.lookup f=some ⟨oc,od,.func (ydh x q (zrk st) (zsg st) (zia st) .none kV dc pm an cd ct),sl⟩) (c:yfi K cd q=true) (k:yrf K (.ref f)=true):Mf K C x q st :=
 ⟨f,_,zihb l c k,⟨a,i,k⟩⟩
def if_of (a:yob K (.ref C) "__init__" = some (some (.ref f)))(i:ykl K (.ref f)=true)
  (l:K.lookup f=some ⟨oc,od,.func (ydh x q (zrk st) (zsg st) (zia st) .none kV dc pm an cd ct),sl⟩) (c:yfi K cd q=true) (k:yrf K (.ref f)=true)
  (mk:yao K C=true) (kc:yrf K (.ref C)=true):If K C x q st :=
 ⟨f,_,zihb l c k,⟨mk,a,i,kc⟩⟩
theorem zdsb {fa:Addr}(g:Gf K mg x q st)(e:mg x=some (.ref fa)):g.f=fa:=by
 have z:=g.m.symm.trans e;injection z with z
 injection z
end
section
variable {P:ytb}{w:World}{K:yea}{mg:Str->Option Value}{base:Heap}{C:Addr}{x q:Str}{st:Stmt}{N ps:List Str}{k:Nat}{sp:Sp}
theorem Gf.ok (g:Gf K mg x q st)(S:zpa N ps (zia st))
  (hb:∀(f:Addr) (cdv:Value) (A:Around) (outer:List Env) (s:Shared) (H:Hp) (vs:List V) (Q:VK) (E:XK),Room k (A.deeper (envOfC q (zia st) s.heap.objs.size f cdv))->sp vs H Q E->let X:=(cxOf CX0 P w K mg base N q (zia st) f cdv A outer s H E).nox;∃t,PSs X (zsg st) t∧t { nx:=λ_ H'=>Q .non H',rt:=Q } (start N vs) H)
  (len:∀vs H Q E,sp vs H Q E->vs.length=ps.length:=by intro _ _ _ _ h;cases h;rename_i h;rw[h.1];rfl):FnOk P w K mg base CX0 (k+1) g.f g.d ps sp:=g.F.ok S len (hb g.f)
theorem Mf.ok (g:Mf K C x q st)(S:zpa N ps (zia st))
  (hb:∀(f:Addr) (cdv:Value) (A:Around) (outer:List Env) (s:Shared) (H:Hp) (vs:List V) (Q:VK) (E:XK),Room k (A.deeper (envOfC q (zia st) s.heap.objs.size f cdv))->sp vs H Q E->let X:=(cxOf CX0 P w K mg base N q (zia st) f cdv A outer s H E).nox;∃t,PSs X (zsg st) t∧t { nx:=λ_ H'=>Q .non H',rt:=Q } (start N vs) H)
  (len:∀vs H Q E,sp vs H Q E->vs.length=ps.length:=by intro _ _ _ _ h;cases h;rename_i h;rw[h.1];rfl):FnOk P w K mg base CX0 (k+1) g.f g.d ps sp:=g.F.ok S len (hb g.f)
theorem If.ok (g:If K C x q st)(S:zpa N ps (zia st))
  (hb:∀(f:Addr) (cdv:Value) (A:Around) (outer:List Env) (s:Shared) (H:Hp) (vs:List V) (Q:VK) (E:XK),Room k (A.deeper (envOfC q (zia st) s.heap.objs.size f cdv))->sp vs H Q E->let X:=(cxOf CX0 P w K mg base N q (zia st) f cdv A outer s H E).nox;∃t,PSs X (zsg st) t∧t { nx:=λ_ H'=>Q .non H',rt:=Q } (start N vs) H)
  (len:∀vs H Q E,sp vs H Q E->vs.length=ps.length:=by intro _ _ _ _ h;cases h;rename_i h;rw[h.1];rfl):FnOk P w K mg base CX0 (k+1) g.f g.d ps sp:=g.F.ok S len (hb g.f)
theorem FnOk.up {CX:CXT}{f:Addr}{d:ycg}{m:Nat}(h:FnOk P w K mg base CX k f d ps sp)(le:k≤m:=by first|decide|omega):FnOk P w K mg base CX m f d ps sp:=h.mono le
end
theorem sz0:0≤yxa:=by decide
theorem sz1:1≤yxa:=by decide
theorem sz2:2≤yxa:=by decide
theorem sz3:3≤yxa:=by decide
theorem sz4:4≤yxa:=by decide
theorem sz5:5≤yxa:=by decide
theorem sz6:6≤yxa:=by decide
def scB (N P:List Str)(sc:Scope):Bool :=
 decide (sc.kind = .function)&&(!sc.isCoroutine&&(!sc.isGenerator&&(decide N.Nodup&&(decide (N.take P.length=P) &&
  (P.all (λx=>decide (sc.names.lookup x=some .local∨sc.names.lookup x=some .cell))&&sc.names.all λy=>decide (y.2 ≠ .free))))))
theorem scOf {N P:List Str}{sc:Scope}(h:scB N P sc=true):zpa N P sc:=by
 unfold scB at h;simp only[yde,Bool.not_eq_true',decide_eq_true_eq,ykf] at h;obtain⟨a,b,c,d,e,f,g⟩:=h;exact⟨a,b,c,d,e,f,g⟩
end L2
namespace L2
open PySem PySem.Spec PyProof.Rows
section
variable {X:Cx}
theorem zgl:∀{ys:List Str} {us:List Value},Vals (ys.map V.str) us->ysl us ys
 | [],us,r=>by rw[yrh] at r;cases r;exact .nil
 | y::ys,us,r=>by
  rw[ygc] at r;cases r with
  | cons r1 r2 =>
   obtain⟨t,e⟩:=r1;subst e;exact .cons y t (zgl r2)
theorem zuu:∀l:List (Str×Tok),Vals ((l.map (·.1)).map V.str) (strValues l)
 | []=>.nil
 | (x,t)::r=>.cons ⟨t,rfl⟩ (zuu r)
theorem zngb:MtR X "str.join" (λx xs H Q=>Ex3 λsep a ys=>x = .str sep∧xs=[.ref a]∧SqL X.K H a (ys.map V.str)∧(ys.map (·.length)).sum+ys.length*sep.length≤16777216∧Q (.str (ykc sep ys)) H):=by
 intro pins s σ H x xs v us Q I rx rs h;obtain⟨sep,a,ys,rfl,rfl,hq,hz,q⟩:=h;obtain⟨t,rfl⟩:=rx;obtain⟨u,rfl,ru⟩:=vals1 rs;cases ru;obtain⟨its,rv,p,_⟩:=I.list hq;refine join_list (items:=its.toArray) (ys:=ys) p.isList (by simpa using zgl rv) hz λt' k=>⟨.str _,H,I.tok k,⟨t',rfl⟩,?_⟩;have e:Txt.join sep ys=ykc sep ys:=by first|rfl|exact StrLaws.glued_eq_join sep ys
 rw[e];exact q
theorem zmt:MtR X "str.split" (λx xs H Q=>Ex2 λt y=>x = .str t∧xs=[.str y]∧(y.length==0)=false∧t.length+2≤yxa∧∀l,H l=none->Q (.ref l) (upd H l (.lst ((ylg t y).map V.str)))):=by
 intro pins s σ H x xs v us Q I rx rs h;obtain⟨x,y,rfl,rfl,hy,hsz,q⟩:=h;obtain⟨t,rfl⟩:=rx;obtain⟨u,rfl,ru⟩:=vals1 rs;obtain⟨tu,rfl⟩:=ru;have hn:(ywg x (yud x y 0 x.length (x.length+1)) y.length).length≤yxa:=by
  have e1:=StrLaws.occ_length_le x y 0 x.length (x.length+1);rw[length_partsBetween];omega
 have fin:∀(l:List (Str×Tok)) (k:Nat),l.map (·.1)=ylg x y->l.length≤yxa->EP X pins σ Q (.ref s.heap.objs.size) { s with heap:=s.heap.push { cls:=.type "list",data:=.seq (strValues l).toArray },toks:=k }:=λl k e hl=>by
  refine⟨.ref s.heap.objs.size,upd H s.heap.objs.size (.lst ((ylg x y).map V.str)),I.laid (t':=k) (λb o e=>yba _ e) (yha _) ⟨?_,strValues l,_,?_,yfa _ rfl⟩,rfl,q _ (I.hok.fresh (yha _))⟩
  ·rw[← e,yca,yca];exact hl
  ·rw[← e];exact zuu l
 cases h1:(decide (x.length<y.length)||decide (yki x<yki y))
 ·cases hf:(yud x y 0 x.length (x.length+1)).isEmpty
  ·refine ymk ymn (ydp _ _ _) yfm (yml _ _) (meets_str_split_sep x y t tu h1 hy hf (by omega) hn) ?_;show wants _ _ _ { s with toks:=_,heap:=s.heap.push { cls:=.type "list",data:=.seq (strsFrom s.toks (ywg x (yud x y 0 x.length (x.length+1)) y.length)).toArray } }
   rw[strsFrom_eq];refine fin (numbered s.toks _) _ ((numbered_texts _ _).trans ((if_neg (ne_true_of_eq_false h1)).trans (if_neg (ne_true_of_eq_false hf))).symm) ?_;have e:=congrArg ynp (numbered_texts s.toks (ywg x (yud x y 0 x.length (x.length+1)) y.length));rw[yca] at e;omega
  ·exact ymk ymn (ydp _ _ _) yfm (yml _ _) (meets_str_split_not_found x y t tu h1 hy hf)
    (fin [(x,t)] s.toks ((if_neg (ne_true_of_eq_false h1)).trans (if_pos hf)).symm (by show 1≤yxa;decide))
 ·exact ymk ymn (ydp _ _ _) yfm (yml _ _) (meets_str_split_cannot_occur x y t tu h1)
   (fin [(x,t)] s.toks (if_pos h1).symm (by show 1≤yxa;decide))
theorem zau:zsf X (.type "int") (λxs H Q=>Ex2 λx n=>xs=[.str x]∧PySem.intText? x=some n∧x.length≤640∧Q (.int n) H):=by
 intro pins s σ H xs us Q I r h;obtain⟨x,n,rfl,hn,hl,q⟩:=h;obtain⟨u,rfl,t,rfl⟩:=vals1 r;exact PySem.W.KIN.call_text hn hl ⟨.int n,H,I.tok _,⟨_,rfl⟩,q⟩
theorem zwd {i:Nat}{x:Str}{elt iter tg:Expr}{ifs:List Expr}{sc:Scope}{pos spos pos':Pos}{own cap:List Str}{js:List Nat}{wi:TI}{g:TG}{tt:TT}{te:TE}(hN:X.N.Nodup)(hix:X.N[i]?=some x)(hx:Loc X.env.scope x)
  (hc:X.calm=true) (S:zsa X sc) (cp:Caps X sc cap js) (hi:PI X tg iter wi)
  (hg:∀fp s H C,PG (blk X (own++cap) sc fp s H C) tg g) (ht:∀fp s H C,PTs (blk X (own++cap) sc fp s H C) ifs tt) (he:∀fp s H C,PE (blk X (own++cap) sc fp s H C) elt te)
  (hsw:yqr (.ListComp elt [⟨tg,iter,ifs,0⟩] sc pos) (some (.Name x pos')) spos.line X.env=pure true:=by rfl) (hs:∀x,ybm iter X.env x=pure x:=by intro _;rfl)
  (hf:X.fn x=true∨X.env.scope.names.lookup x=some .local:=by first|exact .inl rfl|exact .inr rfl|assumption) :
  PS X (.Assign [.Name x pos'] (.ListComp elt [⟨tg,iter,ifs,0⟩] sc pos) spos) (tAsg (zrqb wi g tt te own.length js) (zzkb i)):=by
 intro pins s σ H D I h;rw[exec_Assign_Name_used _ _ _ _ hsw];refine yaa (yvp (yaa ?_));show wpAny _ X.A (do let _ ← comprehension (.ListComp elt [⟨tg,iter,ifs,0⟩] sc pos) sc X.env _ (newList []) false (eval iter X.env) (some (assign (.Name x pos') X.env))) _ _ s
 refine yaa (ywe (yem (use:=some (assign (.Name x pos') X.env)) (Q:=λ_ s'=>SP X pins D .next s') rfl hs (zjs λy hy hf=>I.ok.has y.1 (S.free y hy hf)) S.kind S.names
  (thn (hi pins s σ H _ I h) λv s1 h1=>thn h1 λitv s2 h2=>?_)) (λ_ s' hq=>yda (yda hq)) λ_ _ e=>e)
 obtain⟨it,fp,tn,J,H2,e,I2,T,st2,f2,W,⟨m0,w0⟩,turn⟩:=h2;subst e;refine zxhb (RR:=λacc C=>compPost (model X.prog X.w) X.A X.xe (some (assign (.Name x pos') X.env)) (λ_ s'=>SP X pins D .next s') acc C) (Qf:=λys H=>∀p,H p=none->D.nx (σ.set i (some (.ref p))) (upd H p (.lst ys))) hc S cp hg ht he I2 T st2 f2 w0 turn ?_;intro DD C H4 s4 pn ys its nn hD hC hDC I4 n4 o4 hz rv q;have I5:Inv X pins σ (upd H4 DD (.lst ys)) s4:=zyhb (h':=s4.heap) I2 I4 f2 hC hD hDC n4 o4 hz rv (ygm ..);obtain⟨m,hn,_⟩:=I4.loc;have hn':s4.heap.Ns C m:=hn;show wpAny _ X.A (assign (.Name x pos') X.env (.ref DD)) _ _ s4
 refine wpAny_assign_Name (zvu I5 hN hix hx (v:=.ref DD) (u:=.ref DD) rfl (λs6 I6 ⟨a,hsb,ha⟩=>?_) hf);have lt2:X.env.locals<s2.heap.objs.size:=I2.lt;have cellC:∀y c,X.env.cells.lookup y=some c->c≠C:=λy c e=>by
  obtain⟨v,z⟩:=I2.cell y c e;exact yab (yua z.lt hC)
 have aC:C≠a:=by
  rcases ha with rfl|ha
  ·exact yxe (yua lt2 hC)
  ·exact ykd (cellC _ _ ha)
 refine⟨m,hn'.sameBut hsb aC,λh' hs'=>?_⟩;have nC:(upd H4 DD (.lst ys)) C=none:=by rw[zta (ykd hDC)];exact I4.free
 have I7:=I6.turned (h':=h') (t':=s6.toks) (it:=C) (λb o hb e=>(hs'.2 b hb).trans e) nC (yxe (yua lt2 hC)) (.inr (yqb I2.sz hC)) cellC (λp hp=>by
  exact yab (yua (yma (I2.pin p hp).1) hC))
 exact⟨_,_,I7,q DD n4⟩
end
end L2
namespace L2
open PySem PySem.Spec PyProof.Rows
section
variable {X:Cx}{a:Addr}{D:List (Str×yur)}
theorem zlsb (T:KTD.TextTab X.base a D):IxR X (λx y H Q=>Ex2 λk i=>x = .ref a∧y = .str k∧KTD.datumAt k D=some (.flat (.int i))∧Q (.int i) H):=by
 intro value slice pins s σ H x y v u Q I rx ry h hs;obtain⟨k,i,rfl,rfl,hd,q⟩:=h;cases rx;obtain⟨tk,rfl⟩:=ry;have T':KTD.Here X.base s.heap a D:=⟨T,I.bk⟩;refine subscriptTail_builtin_flat T'.typeIs yhm.lookup ?_ hs;unfold yop
 try with_reducible refine yoc ?_
 refine yaa (ydm T'.typeIs (by decide) ?_);refine yaa (ypc (name:=ydf "__getitem__") T'.typeIs yhm
  (yic yhm T'.typeIs entry_dict_getitem ?_ (args_dict_getitem _ _)))
 show wpAny _ _ (dictGet a (.str k tk) >>= _) _ _ s
 refine yaa (KTD.dictGet_text T' (λd v ha hv=>?_) λhn=>?_)
 ·rw[hd] at ha;cases ha;have hv':Reads s.heap v (.int i) []:=hv s.heap;obtain⟨t,rfl⟩:∃t,v=Value.int i t:=by
   cases hv' with
   | int _ t=>exact⟨t,rfl⟩
  have fin:EP X pins σ Q (.int i t) { s with toks:=s.toks+1 }:=⟨.int i,H,I.tok _,⟨t,rfl⟩,q⟩;exact yda ⟨Value.int i t,rfl,yda ⟨λb z=>(nomatch z),fin⟩⟩
 ·rw[hd] at hn;cases hn
end
end L2
namespace L2
open PySem PySem.Spec PyProof.Rows
section
variable {X:Cx}
@[irreducible] def rStrAny:List V->Hp->VK->Prop:=λxs H Q=>(∃x,xs=[.str x]∧Q (.str x) H)∨∃i:Int,xs=[.int i]∧i.natAbs.log2<1920∧Q (.str (toString i)) H
end
end L2
namespace L2
open PySem PySem.Spec PyProof.Rows
section
variable (K:yea){X:Cx}{a b o e:Expr}{es:List Expr}{ta tb to te:TE}{t:TA}{name f:Str}{apos cpos pos:Pos}{T id:String}{r:V->List V->Hp->VK->Prop}
theorem zyj (hK:X.K=K:=by rfl):IxR X (rIxL K):=hK▸zjd
theorem zwb (hK:X.K=K:=by rfl):IxR X (rIxT K):=hK▸zwa
theorem zvr (hK:X.K=K:=by rfl):OpR X (yzd .In) (rIn K false):=hK▸zzv
theorem znl (hK:X.K=K:=by rfl):OpR X (yzd .NotIn) (rIn K true):=hK▸zxv
theorem zlh (hK:X.K=K:=by rfl):zsf X (.type "tuple") (λxs H Q=>Ex2 λp ys=>xs=[.ref p]∧((SqL K H p ys∧∀l,H l=none->Q (.ref l) (upd H l (.tup ys)))∨(SqT K H p ys∧Q (.ref p) H))):=hK▸zma
theorem zxy (he:PE X e ta)(hb:yri e f X.env (eval e X.env)=eval e X.env)(hK:X.K=K:=by rfl):PE X (.Attribute e f pos) (tFld K ta f):=hK▸zti he hb
theorem zjx (hK:X.K=K:=by rfl):zsf X (.builtin "isinstance") (λxs H Q=>Ex4 λx c t b=>xs=[x,c]∧TyOf K H x t∧((∃n,c = .ty n∧yad K t (.type n)=some b)∨(∃a,c = .ref a∧yad K t (.ref a)=some b))∧Q (.bl b) H):=hK▸ztk
end
end L2
namespace SSet
open PySem PySem.Spec PyProof.Rows
theorem zasb (t:yie)(n:Nat):(t.orStandIn n).led=t.led∧(t.plain=false->(t.orStandIn n).plain=false):=by
 unfold yzp
 split
 ·exact⟨rfl,id⟩
 ·exact⟨rfl,λ_=>rfl⟩
theorem ztgb (t:yie)(es:Array (Int×Value))(h:Int)(x:Value):(layNew t es h x).2.1.led=t.led:=by
 unfold layNew
 split
 ·exact (zasb _ _).1
 ·rfl
theorem zqw (t:yie)(es:Array (Int×Value))(k:Nat):(yii t es k).2.1.led=t.led∧(t.plain=false->(yii t es k).2.1.plain=false):=by
 unfold yii
 split
 ·rename_i u order e;have q:u.led=t.led∧u.plain=t.plain:=by
   unfold yvr yhs at e;simp only[bind,Option.bind,pure] at e
   split at e
   ·cases e
   ·injection e with e
    injection e with e _
    rw[← e];exact⟨rfl,rfl⟩
  dsimp only
  split
  ·exact⟨q.1,λz=>q.2.trans z⟩
  ·exact⟨rfl,λ_=>rfl⟩
 ·exact⟨rfl,λ_=>rfl⟩
def SS (prog:ytb)(w:World)(h:Heap)(a:Addr)(D:List Str)(b:Bool):Prop :=
 ∃o es ep t,h.get? a=some o∧o.ExactSet∧o.data = .set es ep t∧ytk (yvd prog w) es.toList∧(es.toList.map λe=>strOf e.2).Perm D∧es.size<yag∧t.fits es.size=true∧t.led=b∧(es.size=0∨t.plain=false)
section
variable {prog:ytb}{w:World}{A:Around}{E:Value->Shared->Prop}{s:Shared}
theorem SS.keep {h h':Heap}{a:Addr}{D:List Str}{b:Bool}(x:SS prog w h a D b)(k:∀o,h.get? a=some o->h'.get? a=some o):SS prog w h' a D b:=by
 obtain⟨o,es,ep,t,ho,r⟩:=x;exact⟨o,es,ep,t,k _ ho,r⟩
theorem ztmb {es:List (Int×Value)}(h:ytk (yvd prog w) es){e:Int×Value}(he:e∈es):∃x t,e.2 = .str x t∧e.1=(yvd prog w).hash x:=by
 obtain⟨⟨k,hk,hh⟩,_⟩:=h e he;obtain⟨t,et⟩:=ynk (x:=k) (v:=e.2) hk;exact⟨k,t,et,hh⟩
theorem zok {es:List (Int×Value)}{D:List Str}{x:Str}(hel:ytk (yvd prog w) es)(hp:(es.map λe=>strOf e.2).Perm D) :
  x∈D↔∃e∈es,(yvd prog w).is x e.2=true:=by
 rw[← hp.mem_iff,ymc]
 constructor
 ·rintro⟨e,he,rfl⟩;obtain⟨y,t,e1,_⟩:=ztmb hel he;refine⟨e,he,?_⟩;rw[e1];show ywh y (.str y t)=true
  simp[ywh]
 ·rintro⟨e,he,hi⟩;obtain⟨t,e1⟩:=ynk (x:=x) (v:=e.2) hi;exact⟨e,he,by rw[e1];rfl⟩
theorem zuab {g:Bool->Sem Unit}(hg:∀(b:Bool) (s₁:Shared) (Q':Unit->Shared->Prop),Q' () s₁->wpAny (model prog w) A (g b) Q' E s₁)
  {a:Addr} {o:Obj} {es:Array (Int×Value)} {ep:Nat} {t:yie} (ho:s.heap.get? a=some o) (hex:o.ExactSet) (hd:o.data = .set es ep t)
  {fs:Array (Int×Value)} {u:yie} {D:List Str} {b:Bool} (hel:ytk (yvd prog w) fs.toList) (hp:(fs.toList.map λe=>strOf e.2).Perm D) (hb:fs.size<yag) (hf:u.fits fs.size=true) (hl:u.led=b) (hpl:u.plain=false)
  {dm:Bool} {R:Option Bool->Shared->Prop} (h:∀h',yxd a s.heap h'->SS prog w h' a D b->R (some true) { s with heap:=h' }) :
  wpAny (model prog w) A (do
    storeSet a fs u
    if (!dm&&u.tooFull)=true then do
        g (yii u fs (yrd fs.size)).2.2
        storeSet a (yii u fs (yrd fs.size)).1 (yii u fs (yrd fs.size)).2.1
        pure (some true)
     else pure (some true)) R E s:=by
 have lim:∀{n:Nat},n<yag->n≤yxa:=λz=>yxg z;refine yaa (ymj ho hd ?_ (lim hb));have k1:(s.heap.update a (yyg fs u)).get? a=some { o with data:=.set fs (ep+1) u }:=by
  have z:=ygd (yyg fs u) ho (by rw[yuk fs u hd];rfl);rw[yuk fs u hd] at z;exact z
 have b1:=yqe s.heap a (yyg fs u)
 split
 ·have p2:=relayAll_perm u fs (yrd fs.size);have f2:=relayAll_fits u fs (yrd fs.size);obtain⟨l2,q2⟩:=zqw u fs (yrd fs.size);generalize yii u fs (yrd fs.size)=R2 at p2 f2 l2 q2 ⊢;obtain⟨fs2,u2,gv⟩:=R2;dsimp only at p2 f2 l2 q2 ⊢;have z2:fs2.size=fs.size:=by rw[← yra,p2.length_eq,yra]
  refine yaa (hg _ _ _ ?_);refine yaa (ymj k1 rfl ?_ (lim (by rw[z2];exact hb)));have k2:((s.heap.update a (yyg fs u)).update a (yyg fs2 u2)).get? a=some { o with data:=.set fs2 (ep+1+1) u2 }:=by
   have z:=ygd (yyg fs2 u2) k1 (by rw[yuk fs2 u2 rfl];rfl);rw[yuk fs2 u2 rfl] at z;exact z
  exact yda (h _ (b1.trans (yqe _ a _)) ⟨_,fs2,_,u2,k2,hex,rfl,ElemsOf.perm hel p2,(p2.map _).trans hp,by rw[z2];exact hb,f2,l2.trans hl,.inr (q2 hpl)⟩)
 ·exact yda (h _ b1 ⟨_,fs,_,u,k1,hex,rfl,hel,hp,hb,hf,hl,.inr hpl⟩)
theorem add_str {a:Addr}{D:List Str}{b:Bool}{x:Str}{tk:Tok}{Q:Bool->Shared->Prop}(hS:SS prog w s.heap a D b)(hroom:D.length+1<yag)
  (h:∀h' r,yxd a s.heap h'->SS prog w h' a (if x∈D then D else D++[x]) b->Q r { s with heap:=h' }) :
  wpAny (model prog w) A (yio a (.str x tk) ((yvd prog w).hash x)) Q E s:=by
 obtain⟨o,es,ep,t,ho,hex,hd,hel,hp,hb,hf,hl,hpl⟩:=hS;have key:(yvd prog w).is x (.str x tk)=true:=by
  show ywh x (.str x tk)=true
  simp[ywh]
 have hz:es.size=D.length:=by rw[← hp.length_eq,yca,yra]
 unfold yio setAddHashedIn;refine yoc (yaa (yed ho hd hf ?_));dsimp only;rw[byScan_of (x:=.str x tk) rfl hb hel];simp only[↓reduceIte];unfold setAddByScan;refine yaa (yaa (ytf (yaa (wpAny_setScan_of key ho hd hf hel ?_))));have mi:=zok (x:=x) hel hp;cases hr:List.findIdx? (λe=>(yvd prog w).is x e.2) es.toList with
 | some j =>
  obtain⟨hj,hpj,_⟩:=yui.mp hr;have hin:x∈D:=mi.mpr ⟨_,ynn hj,hpj⟩;dsimp only;refine yda (yda ?_);have z:=h s.heap false (ygm a s.heap);rw[if_pos hin] at z;exact z ⟨o,es,ep,t,ho,hex,hd,hel,hp,hb,hf,hl,hpl⟩
 | none =>
  have hno:¬ x∈D:=λhin=>by
   obtain⟨e,he,hi⟩:=mi.mp hin;have z:=ytl.mp hr e he;rw[hi] at z;cases z
  simp only[if_neg hno] at h;dsimp only;have p1:=layNew_perm t es ((yvd prog w).hash x) (.str x tk);have f1:=layNew_fits t es ((yvd prog w).hash x) (.str x tk);have l1:=ztgb t es ((yvd prog w).hash x) (.str x tk);generalize layNew t es ((yvd prog w).hash x) (.str x tk)=L at p1 f1 l1 ⊢;obtain⟨fs,u,dm,gave⟩:=L;dsimp only at p1 f1 l1 ⊢;rw[ynj] at p1;have el1:ytk (yvd prog w) fs.toList:=(hel.push key rfl).perm p1;have pp:(fs.toList.map λe=>strOf e.2).Perm (D++[x]):=by
   refine (p1.map _).trans ?_;rw[yva];exact yir hp (yrj _)
  have z1:fs.size=D.length+1:=by rw[← yra,p1.length_eq,yja,yra,hz];rfl
  have give:∀(c:Bool) (s₁:Shared) (Q':Unit->Shared->Prop),Q' () s₁->wpAny (model prog w) A (match c with|true=>rule "set.scan.the-table-gave-way"|false=>pure ()) Q' E s₁:=λc s₁ Q' q=>by
   cases c
   ·exact yda q
   ·exact ytf q
  refine yaa (give _ _ _ ?_)
  split
  ·refine yaa ?_;rw[yjo 8 (x:=.str x tk) rfl];refine yda ?_;refine zuab (b:=b) (D:=D++[x]) give ho hex hd el1 pp (by omega) (yie.fits_plain_off f1) (l1.trans hl) rfl ?_;intro h' sb S';exact yda (h h' _ sb S')
  ·rename_i np;refine yaa (yda ?_);simp only[↓reduceIte];refine zuab (b:=b) (D:=D++[x]) give ho hex hd el1 pp (by omega) f1 (l1.trans hl) (by simpa using np) ?_;intro h' sb S';exact yda (h h' _ sb S')
def dd (xs:List Str):List Str:=xs.foldl (λD x=>if x∈D then D else D++[x]) []
theorem zsk (xs:List Str)(x:Str):dd (xs++[x])=if x∈dd xs then dd xs else dd xs++[x]:=by
 unfold dd;rw[yge];rfl
theorem zrz:∀n (xs:List Str),(dd (xs.take n)).length≤n
 | 0,xs=>yha 0
 | n+1,xs=>by
  have ih:=zrz n xs;rw[yqa];cases e:xs[n]? with
  | none =>
   rw[yaq,ync];omega
  | some x =>
   rw[ywb,zsk]
   split
   ·omega
   ·rw[yja,ytd];omega
theorem zxn {R:Result->Shared->Prop}{I S:Addr}{fp wr:List Addr}{n:Nat}{P:Nat->Value->Prop}{St:Nat->Heap->Prop}{b:Bool}(W:Walks prog w A.in1 I fp wr n P St)(hSf:S∉fp)(xs:List Str)
  (hval:∀i v,P i v->∃x t,xs[i]?=some x∧v = .str x t) (hn:n+1<yag) :
  ∀(k i:Nat) (s:Shared),n-i=k->i≤n->St i s.heap->SS prog w s.heap S (dd (xs.take i)) b →
   (∀h' tk,SS prog w h' S (dd (xs.take n)) b->(∀c o,c∉S::wr->s.heap.get? c=some o->h'.get? c=some o)->R (.ok (.ret .none)) { s with heap:=h',toks:=tk }) →
   yjj (model prog w) A (.builtin "set.update.loop" ⟨[.ref S,.ref I],[]⟩) R s:=by
 have nw:S∉wr:=λz=>hSf (W.sub _ z);intro k
 induction k with
 | zero =>
  intro i s hk hi st hS hR;obtain rfl:i=n:=by omega
  refine yxc yme ?_;rw[ybd ytc _];show wpAny _ A.in1 (pyNext (.ref I) >>= _) _ _ s
  refine yaa (W.done s _ _ st λh' tk keep=>?_);show wpAny _ A.in1 (ret Value.none) _ _ _
  exact yda (hR h' tk (hS.keep λo e=>keep S o nw e) λc o hc e=>keep c o (λz=>hc (yoa _ z)) e)
 | succ k ih =>
  intro i s hk hi st hS hR;have hlt:i<n:=by omega
  refine yxc yme ?_;rw[ybd ytc _];show wpAny _ A.in1 (pyNext (.ref I) >>= _) _ _ s
  refine yaa (W.item i s _ _ hlt st λv h1 tk hP st1 keep=>?_);obtain⟨x,t,hx,rfl⟩:=hval i v hP;have hS1:SS prog w h1 S (dd (xs.take i)) b:=hS.keep λo e=>keep S o nw e;show wpAny _ A.in1 (yyn [Value.str x t] (setAdd S (.str x t)) >>= _) _ _ _
  refine yaa (yoc ?_);unfold setAdd;refine yoc (yaa ((yvd prog w).pyHash (k:=x) (by show ywh x (.str x t)=true;simp[ywh]) ?_));have hle:=zrz i xs;refine add_str (b:=b) (D:=dd (xs.take i)) (s:={ s with heap:=h1,toks:=tk+1 }) hS1 (by omega) λh2 r sb S2=>?_;have e2:(if x∈dd (xs.take i) then dd (xs.take i) else dd (xs.take i)++[x])=dd (xs.take (i+1)):=by
   rw[yqa,hx,ywb,zsk]
  rw[e2] at S2;refine yda ⟨ybf ytc _,ih (i+1) _ (by omega) hlt (W.frame _ h1 _ st1 λc hc o e=>?_) S2 λh3 tk3 S3 keep3=>?_⟩
  ·rw[sb.2 c (λz:c=S=>hSf (by rw[← z];exact hc))];exact e
  ·refine hR h3 tk3 S3 λc o hc e=>keep3 c o hc ?_;show h2.get? c=some o
   rw[sb.2 c (λz:c=S=>hc (by rw[z];exact ypa))];exact keep c o (λz=>hc (yoa _ z)) e
abbrev empt (w:World):Obj:={ cls:=.type "set",dict:=none,data:=.set #[] 0 (.fresh 0 0 (!w.params.followText "set-order")) }
theorem zdz (v:Value){Q1:Value->Shared->Prop}(h:Q1 (.ref s.heap.objs.size) { s with heap:=s.heap.push (empt w) }) :
  yjj (model prog w) A (.call (.builtin "set.__new__") ⟨[.type "set",v],[]⟩) (wants Q1 E) s:=by
 refine yvk ?_;have sb:=sub_set_self;show wpAny _ A.in1 (checkBuiltinCall "set.__new__" ⟨[.type "set",v],[]⟩ >>= λ_=>again (.builtin "set.__new__" ⟨[.type "set",v],[]⟩)) _ _ s
 refine yaa (wpAny_of_eq (PySem.F.newCall_set_1 v) (yda ⟨ybf yko _,yxc PySem.F.entry_set_new ?_⟩));rw[ybd yko _];obtain⟨hp,gn,dr,tk,os⟩:=s;unfold yue.«set.__new__»;unfold yue.Frozenset.newClass;dsimp only
 wp_walk
 refine yye (yda ?_);dsimp only[newObj];refine yaa (wpAny_alloc (yda (yda ?_)));exact h
theorem zfy:∀{us:List Value} {xs:List Str},ysl us xs->∀(i:Nat) (v:Value),us[i]?=some v->∃x t,xs[i]?=some x∧v = .str x t
 | _,_,.nil,i,v,e=>by simp at e
 | _,_,.cons x t r,0,v,e=>by
  rw[yof] at e;cases e;exact⟨x,t,rfl,rfl⟩
 | _,_,.cons x t r,i+1,v,e=>by
  rw[yqc] at e;obtain⟨y,u,h1,h2⟩:=zfy r i v e;exact⟨y,u,by rw[yqc];exact h1,h2⟩
theorem zlhb (h:Heap):SS prog w (h.push (empt w)) h.objs.size [] (!w.params.followText "set-order") :=
 ⟨_,#[],0,_,yfa _ rfl,⟨rfl,rfl,rfl⟩,rfl,λe he=>by simp at he,.nil,by decide,by rfl,rfl,.inl rfl⟩
theorem set_list {l:Addr}{its:Array Value}{xs:List Str}{Q:Value->Shared->Prop}(hh:A.handled=none)(hl:s.heap.IsList l its)(hi:ysl its.toList xs)(hb:its.size+1<yag)
  (h:∀(h':Heap) (tk:Nat),SS prog w h' s.heap.objs.size (dd xs) (!w.params.followText "set-order")->(∀c o,s.heap.get? c=some o->h'.get? c=some o)->Q (.ref s.heap.objs.size) { s with heap:=h',toks:=tk }) :
  wpAny (model prog w) A (call (.type "set") [.ref l]) Q E s:=by
 obtain⟨cM,tM,mro⟩:=yib.mro;have made:=yib.made;have subs:=yib.sub;have notT:=yib.notType;have canC:=yib.canCreate;have chk:=ycj (.ref l);refine ycp (yvk ?_);show wpAny _ _ (callAny (.type "set") ⟨[.ref l],[]⟩) _ _ _
 refine yda ⟨yvi _ (by decide +kernel),yxc ywi ?_⟩;rw[ynl (ytj "set" [Value.ref l] []) rfl]
 repeat (any_goals (first|assumption|wp_step))
 refine yjg (zdz (.ref l) (E:=E) (Q1:=λob s1=>ob = .ref s.heap.objs.size∧s1={ s with heap:=s.heap.push (empt w) }) ⟨rfl,rfl⟩) λr s1 hr=>?_;cases r with
 | error e=>exact hr
 | ok fl =>
  cases fl with
  | ret ob =>
   obtain⟨rfl,rfl⟩:=hr;have g0:(s.heap.push (empt w)).get? s.heap.objs.size=some (empt w):=yfa _ rfl;have ty0:yzh { s with heap:=s.heap.push (empt w) } (.ref s.heap.objs.size) "set":=⟨_,g0,rfl⟩;have lk:=yib.init.lookup;have bd:=yib.init.bind (.ref s.heap.objs.size)
   repeat (any_goals (first|assumption|wp_step))
   refine yjg (yek (R:=wants (λr s2=>r = .none∧∃h' tk,s2={ s with heap:=h',toks:=tk }∧SS prog w h' s.heap.objs.size (dd xs) (!w.params.followText "set-order") ∧
     (∀c o,s.heap.get? c=some o->h'.get? c=some o)) E) yib.init.plain ydj (yon ty0 ?_)) λr2 s2 hr2=>?_
   ·obtain⟨ol,e1,e2,nl,e3⟩:=hl;obtain⟨oc,od,oD,osl⟩:=ol;dsimp only at e2 e3;subst e2 e3;have e1':(s.heap.push (empt w)).get? l=some { cls:=.type "list",dict:=od,data:=.seq its nl,slots:=osl }:=yba _ e1;have q1:=PySem.F.sub_list_set;have q2:=PySem.F.sub_list_frozenset;have q3:(Value.type "list" == Value.type "dict")=false:=by decide
    have L1:(s.heap.push (empt w)).IsList l its:=⟨_,e1',rfl,nl,rfl⟩;have lt:l<s.heap.objs.size:=yma e1;unfold yue.«set.__init__» noKeywords yoh;generalize hPI:pyIter=PI
    wp_walk
    subst hPI;refine yij L1 (yaa (yhi ?_));have ne:l≠(s.heap.push (empt w)).objs.size:=by
     rw[yjc];exact yab (yhe lt)
    have nf:s.heap.objs.size∉[(s.heap.push (empt w)).objs.size,l]:=by
     rw[yjc];intro z
     rcases yka.mp z with z|z
     ·exact absurd z (yab (yhf _))
     ·exact absurd (yia.mp z) (yxe lt)
    have hv:∀(i:Nat) (v:Value),its[i]?=some v->∃x t,xs[i]?=some x∧v = .str x t:=λi v e=>zfy hi i v (by rw[yfc];exact e);have hx:xs.take its.size=xs:=yfb (by rw[← yra,hi.length];exact yha _);refine zxn (b:=!w.params.followText "set-order") (Walks.list (by simp[hh]) _ l ne its) nf xs hv hb (its.size-0) 0 _ (by omega) (ycb _) ⟨⟨_,yfa _ rfl,rfl,rfl⟩,L1.push _⟩ ?S0 ?R0
    case S0=>exact (zlhb s.heap).keep λo e=>yba _ e
    case R0 =>
     intro h' tk S' keep;rw[hx] at S';show wpAny _ _ _ _ _ _
     refine yda ?_;show wpAny _ _ (ret Value.none) _ _ _
     refine yda ⟨rfl,h',tk,rfl,S',λc o e=>?_⟩;have clt:=yma e;refine keep c o ?_ (yba _ (yba _ e));rw[yjc];intro z
     rcases yka.mp z with z|z
     ·exact absurd z (yab clt)
     ·exact absurd (yia.mp z) (yab (yhe clt))
   ·cases r2 with
    | error e=>exact hr2
    | ok fl2 =>
     cases fl2 with
     | ret r =>
      obtain⟨rfl,h',tk,rfl,S',keep⟩:=hr2
      repeat (any_goals (first|assumption|wp_step))
      exact h _ _ S' keep
     | next=>exact hr2.elim
     | brk=>exact hr2.elim
     | cont=>exact hr2.elim
  | next=>exact hr.elim
  | brk=>exact hr.elim
  | cont=>exact hr.elim
end
end SSet
namespace SSet
open PySem PySem.Spec PyProof.Rows
theorem zqo:Slot "set_iterator" "__next__" "set_iterator.__next__":=.of (owner:="set_iterator") (n:="__next__") (by rw[typeLookup_type,ylo];kernel_rfl) (by decide +kernel) (by decide +kernel) (by decide +kernel) (by first|exact .inl (by decide +kernel)|exact .inr (by decide +kernel)) (by rw[yip];kernel_rfl)
theorem zqpb:entryFor table "set_iterator.__next__" = some yue.«set_iterator.__next__»:=entryFor_of_fast (by kernel_rfl)
theorem zaqb (v:Value):argsOk "set_iterator.__next__" ⟨[v],[]⟩:=by unfold argsOk;kernel_rfl
theorem zkhb:entryFor table "set.__iter__" = some yue.«frozenset.__iter__»:=entryFor_alias (id':="frozenset.__iter__") (by kernel_rfl) rfl (by decide +kernel) (by kernel_rfl)
theorem zgfb:Slot "set_iterator" "__iter__" "set_iterator.__iter__":=.of (owner:="set_iterator") (n:="__iter__") (by rw[typeLookup_type,ylo];kernel_rfl) (by decide +kernel) (by decide +kernel) (by decide +kernel) (by first|exact .inl (by decide +kernel)|exact .inr (by decide +kernel)) (by rw[yip];kernel_rfl)
theorem zppb:entryFor table "set_iterator.__iter__" = some yue.«dict_keyiterator.__iter__»:=entryFor_alias (id':="dict_keyiterator.__iter__") (by kernel_rfl) rfl (by decide +kernel) (by kernel_rfl)
theorem zzpb (v:Value):argsOk "set_iterator.__iter__" ⟨[v],[]⟩:=by unfold argsOk;kernel_rfl
def zcu (h:Heap)(it a:Addr)(first:Value)(i n ep:Nat):Prop:=h.get? it=some { cls:=.type "set_iterator",dict:=none,data:=.fields #[first,rawInt i,.ref a,rawInt n,rawInt ep],slots:=#[] }
def SObj (h:Heap)(a:Addr)(es:Array (Int×Value))(ep:Nat)(t:yie):Prop:=∃o,h.get? a=some o∧o.cls = .type "set" ∧ o.data = .set es ep t∧t.fits es.size=true
theorem SObj.keep {h h':Heap}{a:Addr}{es:Array (Int×Value)}{ep:Nat}{t:yie}(x:SObj h a es ep t)(k:∀o,h.get? a=some o->h'.get? a=some o):SObj h' a es ep t:=by
 obtain⟨o,ho,r⟩:=x;exact⟨o,k _ ho,r⟩
section
variable {prog:ytb}{w:World}{A:Around}{E:Value->Shared->Prop}{s:Shared}
theorem zcu.typeIs {it a:Addr}{f:Value}{i n ep:Nat}(h:zcu s.heap it a f i n ep):s.TypeIs (.ref it) "set_iterator":=⟨_,h,rfl⟩
theorem zwu {Q:Option Value->Shared->Prop}{F:Fin->Shared->Prop}(hh:A.handled=none)(hQ:∀h',(∀b o,s.heap.get? b=some o->h'.get? b=some o)->Q none { s with heap:=h' }) :
  wpAny (model prog w) A.in1 (newExc (.type "StopIteration") [] >>= λx=>ypr x) F (λe s'=>wpAny (model prog w) A (do
     let b ← ypq e (Value.type "StopIteration")
     if b=true then pure none else throw e) Q E s') s:=by
 refine yaa ?_;simp only[newExc,newTuple];refine yaa (ydd ?_ (by size_fits));refine yaa (m:=yul _ _) (wpAny_of_eq (a:=Value.none) (by first|rfl|(simp only[yul];rfl)) (ydd ?_ (by size_fits)));simp only[ypr];refine yaa (wpAny_handled ?_);rw[show A.in1.handled=none from hh];refine yaa (yda (wpAny_throw ?_));refine yaa (yak (b:=true) (T:="StopIteration") ⟨_,yfa _ rfl,rfl⟩ yjp ?_);exact yda (hQ _ λb o e=>yba _ (yba _ e))
theorem zkt {it a:Addr}{f:Value}{i n ep:Nat}{es:Array (Int×Value)}{t:yie}{Q:Option Value->Shared->Prop}(hit:zcu s.heap it a f i n ep)(hs:SObj s.heap a es ep t)(hn:es.size=n)
  (h:wpAny (model prog w) A.in1 (match f with
      | Value.int slot tok=>do
       let r ← ybk a slot.toNat i ep
       match r with
        | some (x,nx)=>do
         yym (Value.ref it) 0 (rawInt nx)
         yym (Value.ref it) 1 (rawInt ((i:Int)+1))
         ret x
        | none=>do
         yym (Value.ref it) 2 Value.none
         let y ← newExc (Value.type "StopIteration") []
         ypr y
      | x=>do
       let r ← yim f
       match r with
        | some places =>
         match places[i]? with
         | some (Value.int place tok)=>do
          let x ← setNextDrawn a place.toNat ep
          yym (Value.ref it) 1 (rawInt ((i:Int)+1))
          ret x
         | some val=>yzm "internal:set_iterator"
         | none=>do
          yym (Value.ref it) 0 (rawInt 0)
          yym (Value.ref it) 2 Value.none
          let y ← newExc (Value.type "StopIteration") []
          ypr y
        | x=>yzm "internal:set_iterator")
   (λfin s'=>∃v,fin=Fin.done (Flow.ret v)∧wpAny (model prog w) A (pure (some v)) Q E s')
   (λe s'=>wpAny (model prog w) A (do
     let b ← ypq e (Value.type "StopIteration")
     if b=true then pure none else throw e) Q E s') s):wpAny (model prog w) A (pyNext (.ref it)) Q E s:=by
 obtain⟨oS,hoS,hcS,hdS,hf⟩:=id hs;unfold pyNext;refine yaa (yxi (ypc (name:=ydf "__next__") hit.typeIs zqo (yic zqo hit.typeIs zqpb ?_ (zaqb _))));unfold yue.«set_iterator.__next__»;refine yaa (yda ?_);refine yaa (wpAny_fieldsOf hit rfl ?_);show wpAny _ _ (setEntries a >>= _) _ _ _
 refine yaa (ywk hoS hdS hf ?_);rw[if_neg (by rw[hn];simp[rawInt])];exact h
theorem zldb {it a tp:Addr}{i n ep:Nat}{es:Array (Int×Value)}{t:yie}{pl:Array Value}{j:Nat}{tk:Tok}{e:Int×Value}{Q:Option Value->Shared->Prop}
  (hit:zcu s.heap it a (.ref tp) i n ep) (hs:SObj s.heap a es ep t) (hn:es.size=n) (htp:IsTup s.heap tp pl) (hpl:pl[i]?=some (.int j tk)) (he:es[j]?=some e)
  (hQ:∀h',zcu h' it a (.ref tp) (i+1) n ep->yxd it s.heap h'->Q (some e.2) { s with heap:=h' }):wpAny (model prog w) A (pyNext (.ref it)) Q E s:=by
 obtain⟨oS,hoS,hcS,hdS,hf⟩:=id hs;refine zkt hit hs hn ?_;dsimp only;obtain⟨oT,hoT,hcT,nT,hdT⟩:=htp;have sq:∀{Q':Option (Array Value)->Shared->Prop},Q' (some pl) s->wpAny (model prog w) A.in1 (yim (.ref tp)) Q' (λe s'=>wpAny (model prog w) A (do
     let b ← ypq e (Value.type "StopIteration")
     if b=true then pure none else throw e) Q E s') s:=λq=>by
  unfold yim;refine yaa (yam hoT ?_);rw[hdT];exact yda q
 refine yaa (sq ?_);dsimp only;rw[hpl];dsimp only;rw[ysa];unfold setNextDrawn;refine yaa (yaa (yed hoS hdS hf ?_));dsimp only;rw[if_neg (by simp),he];refine yda ?_;refine yaa (yxb hit (by simp) λh' g sb=>?_);refine yda ⟨_,rfl,yda (hQ h' ?_ sb)⟩;exact g
theorem zjhb {it a tp:Addr}{i n ep:Nat}{es:Array (Int×Value)}{t:yie}{pl:Array Value}{Q:Option Value->Shared->Prop}(hh:A.handled=none)
  (hit:zcu s.heap it a (.ref tp) i n ep) (hs:SObj s.heap a es ep t) (hn:es.size=n) (htp:IsTup s.heap tp pl) (hpl:pl[i]?=none)
  (hQ:∀h',(∀b o,b≠it->s.heap.get? b=some o->h'.get? b=some o)->Q none { s with heap:=h' }):wpAny (model prog w) A (pyNext (.ref it)) Q E s:=by
 refine zkt hit hs hn ?_;dsimp only;obtain⟨oT,hoT,hcT,nT,hdT⟩:=htp;have sq:∀{Q':Option (Array Value)->Shared->Prop},Q' (some pl) s->wpAny (model prog w) A.in1 (yim (.ref tp)) Q' (λe s'=>wpAny (model prog w) A (do
     let b ← ypq e (Value.type "StopIteration")
     if b=true then pure none else throw e) Q E s') s:=λq=>by
  unfold yim;refine yaa (yam hoT ?_);rw[hdT];exact yda q
 refine yaa (sq ?_);dsimp only;rw[hpl];dsimp only;refine yaa (yxb hit (by simp) λh1 g1 sb1=>?_);refine yaa (yxb g1 (by simp) λh2 g2 sb2=>?_);refine zwu hh λh' k=>hQ h' λb o nb e=>k b o ?_;show h2.get? b=some o
 rw[sb2.2 b nb,sb1.2 b nb];exact e
end
end SSet
namespace SSet
open PySem PySem.Spec PyProof.Rows
theorem pull {α:Type}:∀{l:List α} {i:Nat} (h:i<l.length),(l[i]::l.eraseIdx i).Perm l
 | [],i,h=>by simp at h
 | x::r,0,h=>yrj _
 | x::r,i+1,h=>by
  have ih:=pull (l:=r) (i:=i) (by simpa using h);exact (yjm.swap x _ _).trans (yjm.cons x ih)
theorem zvfb {α:Type}(nx:Nat->Nat):∀(k j:Nat) (left:List α) (out:Array α),left.length=k->(yls nx k j left out).toList.Perm (out.toList++left)
 | 0,j,left,out,h=>by
  have e:left=[]:=yyi.mp h;subst e;rw[ync];exact yrj _
 | k+1,j,left,out,h=>by
  have hlt:nx j % left.length<left.length:=Nat.mod_lt _ (by omega);unfold yls;rw[ybb hlt];dsimp only;refine (zvfb nx k (j+1) _ _ (by rw[yjl hlt];omega)).trans ?_;rw[ynj,yec];exact yjm.append_left _ (pull hlt)
theorem zwv {α:Type}(nx:Nat->Nat)(xs:Array α):(yzg nx xs).toList.Perm xs.toList:=by
 have q:=zvfb nx xs.size 0 xs.toList #[] (by simp);unfold yzg
 simpa using q
section
variable {prog:ytb}{w:World}{A:Around}{E:Value->Shared->Prop}{s:Shared}
theorem zvdb {src:Source}{n:Nat}{Q:Nat->Shared->Prop}(hn:n≠0)(h:∀i d,i<n->Q i { s with drawn:=d }):wpAny (model prog w) A (choose src n) Q E s:=fun Γ p hΓ=>by
 unfold choose;show Sem.wp _ _ (.choose src n .pure) _ _ _ _
 rw[Sem.wp_choose];exact⟨hn,h _ _ (Nat.mod_lt _ (by omega))⟩
theorem zut {α:Type}:∀(n:Nat) (xs:List α) (s:Shared) (Q:List α->Shared->Prop),xs.length=n->(∀ys d,ys.Perm xs->Q ys { s with drawn:=d })->wpAny (model prog w) A (drawOrder n xs) Q E s
 | 0,xs,s,Q,hl,h=>by
  have e:xs=[]:=yyi.mp hl;subst e;exact yda (h [] s.drawn (yrj _))
 | n+1,[],s,Q,hl,h=>by cases hl
 | n+1,x::r,s,Q,hl,h=>by
  unfold drawOrder;refine yaa (zvdb (by simp) λi d hi=>?_);rw[ybb hi];dsimp only;refine yaa (zut n _ _ _ (by rw[yjl hi];omega) λys d2 hp=>?_);exact yda (h _ d2 ((yjm.cons _ hp).trans (pull hi)))
theorem zuw {it a:Addr}{f:Value}{i n ep:Nat}{Q:Value->Shared->Prop}(hit:zcu s.heap it a f i n ep)(h:Q (.ref it) s):wpAny (model prog w) A (pyIter (.ref it)) Q E s:=by
 refine ykm hit.typeIs zgfb (yic zgfb hit.typeIs zppb ?_ (zzpb _));show wpAny _ _ (ret (Value.ref it)) _ _ s
 exact yda ⟨_,rfl,"set_iterator",_,hit.typeIs,zqo.lookup,h⟩
theorem zmo (hh:A.handled=none){it a tp:Addr}(h1:a≠it)(h2:tp≠it)(es:Array (Int×Value))(ep:Nat)(t:yie)(js:List Nat)(hl:js.length=es.size)(hj:∀j∈js,j<es.size) :
  Walks prog w A it [it,a,tp] [it] es.size (λi v=>∃j e,js[i]?=some j∧es[j]?=some e∧v=e.2) (λi h=>zcu h it a (.ref tp) i es.size ep∧SObj h a es ep t∧IsTup h tp (js.map λ(j:Nat)=>rawInt j).toArray) where
 sub:=λb hb=>by
  have e:b=it:=by simpa using hb
  rw[e];exact ypa
 frame:=λi h h' st k=>⟨k it (by simp) _ st.1,st.2.1.keep λo e=>k a (by simp) o e,let ⟨o,e,r⟩:=st.2.2;⟨o,k tp (by simp) o e,r⟩⟩
 item:=λi s Q E hi st hQ=>by
  have hi':i<js.length:=by omega
  have ej:js[i]?=some js[i]:=ybb hi';have hlt:js[i]<es.size:=hj _ (ynn hi');have ee:es[js[i]]?=some es[js[i]]:=yeb hlt;refine zldb (j:=js[i]) (tk:=0) (e:=es[js[i]]) st.1 st.2.1 rfl st.2.2 ?_ ee λh' g sb=>?_
  ·rw[ymo,yla,ej];rfl
  ·exact hQ _ h' s.toks ⟨_,_,ej,ee,rfl⟩ ⟨g,st.2.1.keep λo e=>(sb.2 a h1).trans e,let ⟨o,e,r⟩:=st.2.2;⟨o,(sb.2 tp h2).trans e,r⟩⟩ λb o hb e=>(sb.2 b λz=>hb (by rw[z];exact ypa)).trans e
 done:=λs Q E st hQ=>by
  refine zjhb hh st.1 st.2.1 rfl st.2.2 ?_ λh' k=>hQ h' s.toks λb o hb e=>k b o (λz=>hb (by rw[z];exact ypa)) e;rw[ymo,yla,ymg (by omega)];rfl
 self:=λi s Q E st h=>zuw st.1 h
theorem zfl (hh:A.handled=none){it a:Addr}(h1:a≠it)(es:Array (Int×Value))(ep:Nat)(t:yie)(ord:List Value)(R:Nat->Nat->Prop)
  (hs:∀(A:Around) (E:Value->Shared->Prop) (i slot:Nat) (s:Shared) (Q:Option (Value×Nat)->Shared->Prop),i<es.size->R slot i->SObj s.heap a es ep t->(∀x nx,ord[i]?=some x->R nx (i+1)->Q (some (x,nx)) s)->wpAny (model prog w) A (ybk a slot i ep) Q E s)
  (he:∀(A:Around) (E:Value->Shared->Prop) (slot:Nat) (s:Shared) (Q:Option (Value×Nat)->Shared->Prop),R slot es.size->SObj s.heap a es ep t->Q none s->wpAny (model prog w) A (ybk a slot es.size ep) Q E s) :
  Walks prog w A it [it,a] [it] es.size (λi v=>ord[i]?=some v) (λi h=>(∃slot:Nat,zcu h it a (rawInt slot) i es.size ep∧R slot i)∧SObj h a es ep t) where
 sub:=λb hb=>by
  have e:b=it:=by simpa using hb
  rw[e];exact ypa
 frame:=λi h h' ⟨⟨slot,g,r⟩,so⟩ k=>⟨⟨slot,k it (by simp) _ g,r⟩,so.keep λo e=>k a (by simp) o e⟩
 item:=λi s Q E hi st hQ=>by
  obtain⟨⟨slot,g,r⟩,so⟩:=st;refine zkt g so rfl ?_;show wpAny _ _ (ybk a ((slot:Int).toNat) i ep >>= _) _ _ _
  rw[ysa];refine yaa (hs _ _ i slot s _ hi r so λx nx hx r'=>?_);dsimp only;refine yaa (yxb g (by simp) λh2 g2 sb2=>?_);refine yaa (yxb g2 (by simp) λh3 g3 sb3=>?_);have sb:∀b,b≠it->h3.get? b=s.heap.get? b:=λb nb=>(sb3.2 b nb).trans (sb2.2 b nb);refine yda ⟨_,rfl,yda (hQ _ h3 s.toks hx ⟨⟨nx,g3,r'⟩,so.keep λo e=>(sb a h1).trans e⟩ λb o hb e=>(sb b λz=>hb (by rw[z];exact ypa)).trans e)⟩
 done:=λs Q E st hQ=>by
  obtain⟨⟨slot,g,r⟩,so⟩:=st;refine zkt g so rfl ?_;show wpAny _ _ (ybk a ((slot:Int).toNat) es.size ep >>= _) _ _ _
  rw[ysa];refine yaa (he _ _ slot s _ r so ?_);dsimp only;refine yaa (yxb g (by simp) λh2 g2 sb2=>?_);refine zwu hh λh' k=>hQ h' s.toks λb o hb e=>k b o ?_;exact (sb2.2 b λz=>hb (by rw[z];exact ypa)).trans e
 self:=λi s Q E ⟨⟨slot,g,_⟩,_⟩ h=>zuw g h
end
end SSet
namespace SSet
open PySem PySem.Spec PyProof.Rows
theorem zqh {α:Type}{vs ord:List α}(hl:vs.length=ord.length)(h:∀(i:Nat) v,vs[i]?=some v->ord[i]?=some v):vs=ord:=by
 refine yqq λi=>?_
 by_cases hi:i<vs.length
 ·rw[ybb hi];exact (h i _ (ybb hi)).symm
 ·rw[ymg (by omega),ymg (by omega)]
section
variable {prog:ytb}{w:World}{A:Around}{E:Value->Shared->Prop}{s:Shared}
theorem zli {es:List (Int×Value)}{D:List Str}{vs:List Value}(hel:ytk (yvd prog w) es)(hp:(es.map λe=>strOf e.2).Perm D)(hv:vs.Perm (es.map (·.2))):∃ys,ysl vs ys∧ys.Perm D:=by
 refine⟨vs.map strOf,strsAre_map vs λv hm=>?_,?_⟩
 ·obtain⟨e,he,rfl⟩:=ymc.mp (hv.mem_iff.mp hm);obtain⟨x,t,e1,_⟩:=ztmb hel he;exact⟨x,t,e1⟩
 ·refine (hv.map strOf).trans ?_;rw[ysh];exact hp
theorem zfs {es:Array (Int×Value)}{js:List Nat}(hj:js.Perm (ysf es.size)){vs:List Value}(hl:vs.length=es.size)(h:∀(i:Nat) v,vs[i]?=some v->∃j e,js[i]?=some j∧es[j]?=some e∧v=e.2):vs.Perm (es.toList.map (·.2)):=by
 have ev:vs=js.map λj=>(es.toList.getD j (0,.none)).2:=by
  refine zqh (by rw[yca,hj.length_eq,yuf,hl]) λi v hv=>?_;obtain⟨j,e,h1,h2,rfl⟩:=h i v hv;rw[yla,h1];show some (es.toList.getD j (0,.none)).2=some e.2
  rw[ylb,yfc,h2];rfl
 rw[ev];refine (hj.map _).trans (yjm.of_eq ?_);refine zqh (by simp) λi v hv=>?_;rw[yla] at hv
 by_cases hi:i<es.size
 ·rw[List.getElem?_range hi] at hv;have hv':(es.toList.getD i (0,.none)).2=v:=yfd hv;rw[yla,← hv',ylb,ybb (by simpa using hi)];rfl
 ·rw[ymg (by simp;omega)] at hv;cases hv
theorem zskb {a:Addr}{D:List Str}{Q:Value->Shared->Prop}(hh:A.handled=none)(hS:SS prog w s.heap a D (!w.params.followText "set-order"))
  (h:∀(h':Heap) (d':Drawn) (I:Addr) (n:Nat) (fp:List Addr) (P:Nat->Value->Prop) (St:Nat->Heap->Prop),(∀b o,s.heap.get? b=some o->h'.get? b=some o)->s.heap.objs.size≤I->(∀b∈fp,b=a∨s.heap.objs.size≤b) →
   Walks prog w A I fp [I] n P St->St 0 h'->n=D.length->(∀vs:List Value,vs.length=n->(∀(i:Nat) v,vs[i]?=some v->P i v)->∃ys,ysl vs ys∧ys.Perm D)->Q (.ref I) { s with heap:=h',drawn:=d' }) :
  wpAny (model prog w) A (pyIter (.ref a)) Q E s:=by
 obtain⟨o,es,ep,t,ho,hex,hd,hel,hp,hb,hf,hl,hpl⟩:=hS;have hT:s.TypeIs (.ref a) "set":=⟨o,ho,hex.1⟩;have so:SObj s.heap a es ep t:=⟨o,ho,hex.1,hd,hf⟩;have hz:es.size=D.length:=by rw[← hp.length_eq,yca,yra]
 have alt:a<s.heap.objs.size:=yma ho;refine ykm hT yth (yic yth hT zkhb ?_ (yan _));unfold yue.«frozenset.__iter__»;refine yaa (m:=ybn "__iter__" _) (yda ?_);refine yaa (m:=ylm a) (yaa (ywk ho hd hf (yda ?_)));refine yaa (m:=setDrawn a) (yaa (yed ho hd hf (yaa (m:=yai) (yaa (yye (yda (yda ?_)))))));dsimp only;have jp:∀{first:Value} {h1:Heap} {d1:Drawn},SObj h1 a es ep t->Q (.ref h1.objs.size) { s with heap:=h1.push { cls:=.type "set_iterator",dict:=none,data:=.fields #[first,rawInt (0:Nat),.ref a,rawInt es.size,rawInt ep],slots:=#[] },drawn:=d1 } →
   wpAny (model prog w) A.in1 (do
    let e ← setEpoch a
    let v ← ywr "set_iterator" [first,rawInt 0,Value.ref a,rawInt es.size,rawInt e]
    ret v) (λfin s'=>∃v,fin=Fin.done (Flow.ret v)∧∃T' r,s'.TypeIs v T'∧typeLookup (Value.type T') (ydf "__next__")=pure (some r)∧Q v s') E { s with heap:=h1,drawn:=d1 }:=by
  intro first h1 d1 ⟨o1,e1,e2,e3,e4⟩ q
  refine yaa (m:=setEpoch a) (yaa (yed e1 e3 e4 (yda ?_)));refine yaa (m:=ywr _ _) (ydd (yda ⟨_,rfl,"set_iterator",_,⟨_,yfa _ rfl,rfl⟩,zqo.lookup,?_⟩));exact q
 split
 ·rename_i hc;have hc':(!w.params.followText "set-order" && (!t.plain&&decide (es.size>1)))=true:=hc;refine yaa (zut es.size (ysf es.size) s _ (by simp) λjs d1 pj=>?_);refine yaa (ysj ?_ (by rw[yca,pj.length_eq,yuf];exact yxg hb));have jl:js.length=es.size:=by rw[pj.length_eq,yuf]
  have jm:∀j∈js,j<es.size:=λj hj=>yqj.mp (pj.mem_iff.mp hj);refine jp (so.keep λo e=>yba _ e) ?_;have sz:(s.heap.push { cls:=.type "tuple",data:=.seq (js.map λ(j:Nat)=>rawInt j).toArray }).objs.size=s.heap.objs.size+1:=yjc _ _;refine h _ d1 _ es.size _ _ _ (λb o e=>yba _ (yba _ e)) (by rw[sz];exact yif _) ?_ (zmo (a:=a) (tp:=s.heap.objs.size) hh ?_ ?_ es ep t js jl jm) ⟨?_,?_,?_⟩ hz λvs hv hP=>zli hel hp (zfs pj hv hP)
  ·intro b hb';rw[sz] at hb'
   rcases yka.mp hb' with z|z
   ·exact .inr (by rw[z];exact yif _)
   ·rcases yka.mp z with z|z
    ·exact .inl z
    ·exact .inr (by rw[yia.mp z];exact yha _)
  ·rw[sz];exact yab (yhe alt)
  ·rw[sz];exact yab (yhf _)
  ·exact yfa _ rfl
  ·exact so.keep λo e=>yba _ (yba _ e)
  ·exact⟨_,yba _ (yfa _ rfl),rfl,_,rfl⟩
 ·rename_i hc;have hc':¬ (!w.params.followText "set-order" && (!t.plain&&decide (es.size>1)))=true:=hc;refine yaa (yda (jp (h1:=s.heap) (d1:=s.drawn) so ?_));have fpk:∀b∈[s.heap.objs.size,a],b=a∨s.heap.objs.size≤b:=λb hb'=>by
   rcases yka.mp hb' with z|z
   ·exact .inr (by rw[z];exact yha _)
   ·exact .inl (yia.mp z)
  have ne:a≠s.heap.objs.size:=yab alt;cases ft:w.params.followText "set-order" with
  | true =>
   have bt:∀{A':Around} {E':Value->Shared->Prop} {s':Shared} {Q':Bool->Shared->Prop},Q' true s'->wpAny (model prog w) A' yai Q' E' s':=λ{A' E' s' Q'} q=>by
    unfold yai;refine yaa (yye (yda ?_));show Q' (w.params.followText "set-order") s'
    rw[ft];exact q
   have stp:∀(A:Around) (E:Value->Shared->Prop) (i slot:Nat) (s:Shared) (Q:Option (Value×Nat)->Shared->Prop),SObj s.heap a es ep t->Q (((yzg (w.params.setOrder a ep) es)[i]?).map λe=>(e.2,slot)) s->wpAny (model prog w) A (ybk a slot i ep) Q E s:=by
    intro A E i slot s Q ⟨o1,e1,e2,e3,e4⟩ q;unfold ybk;refine yaa (yed e1 e3 e4 ?_);dsimp only;refine yaa (bt ?_);rw[if_pos rfl,if_neg (by simp)];unfold setWalk;refine yaa (yaa (yed e1 e3 e4 (yaa (bt ?_))));rw[if_pos rfl];exact yaa (yye (yda (yda q)))
   have po:=zwv (w.params.setOrder a ep) es;have pz:(yzg (w.params.setOrder a ep) es).size=es.size:=(by rw[← yra,po.length_eq,yra]);refine h _ s.drawn _ es.size _ _ _ (λb o e=>yba _ e) (yha _) fpk (zfl (a:=a) hh ne es ep t ((yzg (w.params.setOrder a ep) es).toList.map (·.2)) (λslot _=>slot=0) ?_ ?_) ⟨⟨0,yfa _ rfl,rfl⟩,so.keep λo e=>yba _ e⟩ hz λvs hv hP=>?_
   ·intro A E i slot s Q hi r so' q;have e1:(yzg (w.params.setOrder a ep) es)[i]?=some (yzg (w.params.setOrder a ep) es)[i]:=yeb (by omega);refine stp A E i slot s Q so' ?_;rw[e1];exact q _ _ (by rw[yla,yfc,e1];rfl) r
   ·intro A E slot s Q r so' q;refine stp A E _ slot s Q so' ?_;rw[ydg (by omega)];exact q
   ·refine zli hel hp ?_;have e1:vs=(yzg (w.params.setOrder a ep) es).toList.map (·.2):=zqh (by rw[hv,yca,yra,pz]) hP;rw[e1];exact po.map _
  | false =>
   rw[ft] at hc' hl;have sm:es.size≤1:=by
    rcases hpl with z|z
    ·omega
    ·rw[z] at hc';simp at hc';exact hc'
   have bt:∀{A':Around} {E':Value->Shared->Prop} {s':Shared} {Q':Bool->Shared->Prop},Q' false s'->wpAny (model prog w) A' yai Q' E' s':=λ{A' E' s' Q'} q=>by
    unfold yai;refine yaa (yye (yda ?_));show Q' (w.params.followText "set-order") s'
    rw[ft];exact q
   have stp:∀(A:Around) (E:Value->Shared->Prop) (i slot:Nat) (s:Shared) (Q:Option (Value×Nat)->Shared->Prop),SObj s.heap a es ep t->Q (match es[ybc t.place slot]?,t.place[ybc t.place slot]? with|some (_,x),some j=>some (x,j+1)|_,_=>none) s->wpAny (model prog w) A (ybk a slot i ep) Q E s:=by
    intro A E i slot s Q ⟨o1,e1,e2,e3,e4⟩ q;unfold ybk;refine yaa (yed e1 e3 e4 ?_);dsimp only;refine yaa (bt ?_);rw[if_neg (by simp)];have nd:¬ (!t.plain&&decide (es.size>1))=true:=by
     rw[decide_eq_false (by omega),yrl];exact yhb
    refine yef (λz=>absurd z nd) (λ_=>?_);have nl:¬ (!t.led && !es.isEmpty)=true:=by
     rw[hl];simp
    refine yaa (yef (λz=>absurd z nl) (λ_=>yda ?_));exact yda q
   have ps:t.place.size=es.size:=by
    have z:=hf;unfold yis at z;simp at z;exact z.1
   refine h _ s.drawn _ es.size _ _ _ (λb o e=>yba _ e) (yha _) fpk (zfl (a:=a) hh ne es ep t (es.toList.map (·.2)) (λslot i=>(i=0∧slot=0)∨(i=1∧∃j,t.place=#[j]∧slot=j+1)) ?_ ?_) ⟨⟨0,yfa _ rfl,.inl ⟨rfl,rfl⟩⟩,so.keep λo e=>yba _ e⟩ hz λvs hv hP=>?_
   ·intro A E i slot s Q hi r so' q;have i0:i=0:=(by omega);subst i0;have s0:slot=0:=by
     rcases r with⟨_,z⟩|⟨z,_⟩
     ·exact z
     ·cases z
    subst s0;obtain⟨j,ej⟩:∃j,t.place=#[j]:=by
     rcases Array.size_eq_one_iff.mp (show t.place.size=1 by omega) with⟨j,z⟩
     exact⟨j,z⟩
    have e1:es[0]?=some es[0]:=yeb hi;refine stp A E 0 0 s Q so' ?_;have bl:ybc t.place 0=0:=by
     rw[ej];simp[ybc,yvf]
    rw[bl,e1,ej];exact q _ _ (by rw[yla,yfc,e1];rfl) (.inr ⟨rfl,j,ej,rfl⟩)
   ·intro A E slot s Q r so' q;refine stp A E _ slot s Q so' ?_;have en:es[ybc t.place slot]?=none:=by
     rcases r with⟨z,y⟩|⟨z,j,ej,y⟩
     ·exact ydg (by omega)
     ·have bl:ybc t.place slot=1:=by
       rw[ej,y];simp[ybc,yvf]
      rw[bl];exact ydg (by omega)
    rw[en];exact q
   ·refine zli hel hp ?_;have e1:vs=es.toList.map (·.2):=zqh (by rw[hv,yca,yra]) hP;rw[e1]
end
end SSet
namespace SSet
open PySem PySem.Spec PyProof.Rows PySem.W
section
variable {prog:ytb}{w:World}{A:Around}{E:Value->Shared->Prop}{s:Shared}
theorem zybb {r:Addr}{Q:Bool->Shared->Prop}(ty:s.TypeIs (.ref r) "set")(q:Q false s):wpAny (model prog w) A (yxk (.ref r)) Q E s:=by
 unfold yxk;refine yaa (wpAny_specialOf ty PySem.F.slot_set_len.lookup ?_);generalize hx:("set.__len__":String)=nm
 wp_delta
 rw[show splitId nm=some ("set","__len__") from by subst hx;decide +kernel];subst hx;refine yaa (yak (b:=true) (T:="set") ty (by rw[yip];kernel_rfl) ?_);refine yef (λz=>absurd z (by decide)) (λ_=>?_);refine yef (λ_=>?_) (λz=>absurd (by decide +kernel) z);exact yaa (ymi ty (yda q))
theorem zsz {a:Addr}{D:List Str}{R:List Value->Shared->Prop}(hh:A.handled=none)(hS:SS prog w s.heap a D (!w.params.followText "set-order"))
  (h:∀(h':Heap) (d':Drawn) (tk:Nat) (vs:List Value) (ys:List Str),(∀b o,s.heap.get? b=some o->h'.get? b=some o)->s.heap.objs.size<h'.objs.size->ysl vs ys->ys.Perm D->R vs { s with heap:=h',drawn:=d',toks:=tk }) :
  wpAny (model prog w) A (yxr (.ref a)) R E s:=by
 obtain⟨oA,hoA⟩:∃o,s.heap.get? a=some o:=let ⟨o,_,_,_,e,_⟩:=hS;⟨o,e⟩;have alt:a<s.heap.objs.size:=yma hoA;have dz:D.length≤yxa:=by
  obtain⟨o,es,ep,t,_,_,_,_,hp,hb,_⟩:=hS;rw[← hp.length_eq,yca,yra];exact yxg hb
 have nSa:s.heap.objs.size≠a:=yxe alt;unfold yxr;refine yaa (yhi (yxc yfk ?_));rw[ybd yyk _];show wpAny _ A.in1 (newList [] >>= λl=>again (.builtin "list.__iadd__" ⟨[l,.ref a],[]⟩)) _ _ s
 refine yaa (ydd (yda ⟨ybf yhh _,yxc ypn ?_⟩));rw[ybd yhh _];show wpAny _ A.in1 (yae (.ref s.heap.objs.size) (.ref a) (.ref s.heap.objs.size)) _ _ _
 unfold yae;have S1:SS prog w (s.heap.push { cls:=.type "list",data:=.seq ([]:List Value).toArray }) a D (!w.params.followText "set-order"):=hS.keep λo e=>yba _ e;have g1:(s.heap.push { cls:=.type "list",data:=.seq ([]:List Value).toArray }).get? s.heap.objs.size=some { cls:=.type "list",dict:=none,data:=.seq #[] 0,slots:=#[] }:=yfa _ rfl;have k1:∀b o,s.heap.get? b=some o->(s.heap.push { cls:=.type "list",data:=.seq ([]:List Value).toArray }).get? b=some o:=λb o e=>yba _ e;generalize s.heap.push { cls:=.type "list",data:=.seq ([]:List Value).toArray }=h1 at S1 g1 k1 ⊢;have ty1:yzh { s with heap:=h1 } (.ref a) "set":=by
  obtain⟨o,es,ep,t,ho,hex,_⟩:=S1;exact⟨o,ho,hex.1⟩
 refine yaa (ymi (T:="set") ty1 ?_);have ns:yah (.ref s.heap.objs.size) (.ref a)=false:=by simp[yah,nSa]
 simp only[ns,show (Value.type "set" == Value.type "list")=false by decide,show (Value.type "set" == Value.type "tuple")=false by decide,yxm,ykg,if_false];refine yaa (zskb (s:={ s with heap:=h1 }) (A:=A.in1) hh S1 λh2 d2 I n fp P St k2 hI hfp W st hn hv=>?_);have ty2:yzh { s with heap:=h2,drawn:=d2 } (.ref a) "set":=by
  obtain⟨o,e,c⟩:=ty1;exact⟨o,k2 _ _ e,c⟩
 have slt:s.heap.objs.size<h1.objs.size:=yma g1;have nf:s.heap.objs.size∉fp:=λz=>by
  rcases hfp _ z with z|z
  ·exact nSa z
  ·exact absurd (yua slt z) (yoe _)
 have key:∀(R':Result->Shared->Prop) (h3:Heap) (c:Nat),St 0 h3->(∀b o,b≠s.heap.objs.size->h2.get? b=some o->h3.get? b=some o)->h3.get? s.heap.objs.size=some { cls:=.type "list",dict:=none,data:=.seq #[] c,slots:=#[] } →
   (∀(h4:Heap) (tk:Nat) (vs:List Value) (ys:List Str) (c':Nat),(∀b o,s.heap.get? b=some o->h4.get? b=some o)->ysl vs ys->ys.Perm D->h4.get? s.heap.objs.size=some { cls:=.type "list",dict:=none,data:=.seq vs.toArray c',slots:=#[] }->R' (.ok (.ret (.ref s.heap.objs.size))) { s with heap:=h4,drawn:=d2,toks:=tk }) →
   yjj (model prog w) A (.builtin "list.extend.loop" ⟨[.ref s.heap.objs.size,.ref I,.ref s.heap.objs.size],[]⟩) R' { s with heap:=h3,drawn:=d2 }:=by
  intro R' h3 c st3 k3 g3 hR;refine codeAny_extend_loopS W.toS (by omega) s.heap.objs.size nf _ n 0 _ #[] c rfl (ycb _) st3 g3 (ItemsOf.nil _) λs' acc c' mv g' ia=>?_;rw[Moved.eq_with mv];obtain⟨ys,sy,py⟩:=hv acc.toList (by rw[yra];exact ia.1) λi v e=>ia.2 i v (by rw[← yfc];exact e);refine hR s'.heap s'.toks acc.toList ys c' (λb o e=>?_) sy py (by rw[ymf];exact g');have nb:b≠s.heap.objs.size:=yab (yma e);refine mv.heap b o (λz=>?_) (k3 b o nb (k2 b o (k1 b o e)))
  rcases yka.mp z with z|z
  ·exact nb z
  ·have bi:b=I:=yia.mp z;have:=yma (k1 b o e);rw[bi] at this;exact absurd (yua this hI) (yoe _)
 have g2:=k2 _ _ g1;have fin:∀(h4:Heap) (tk:Nat) (vs:List Value) (ys:List Str) (c':Nat),(∀b o,s.heap.get? b=some o->h4.get? b=some o)->ysl vs ys->ys.Perm D->h4.get? s.heap.objs.size=some { cls:=.type "list",dict:=none,data:=.seq vs.toArray c',slots:=#[] } →
   wpAny (model prog w) A (load s.heap.objs.size >>= λo=>match o.data with
    | .seq xs _=>pure xs.toList
    | _=>yzm "internal:collect") R E { s with heap:=h4,drawn:=d2,toks:=tk }:=λh4 tk vs ys c' k4 sy py g4=>by
  refine yaa (yam g4 ?_);show wpAny _ _ (pure vs.toArray.toList) _ _ _
  exact yda (h h4 d2 tk vs ys k4 (yma g4) sy py)
 refine yaa (yoc (zybb ty2 ?_));refine yef (λ_=>?_) (λ_=>yda ⟨ybf yog _,key _ h2 0 st (λb o _ e=>e) g2 fin⟩);refine yaa (ytf (yaa ?_));show wpAny _ _ (yyr s.heap.objs.size (·.push .none) >>= λ_=>yyr s.heap.objs.size (·.pop)) _ _ _
 refine yaa (yzi g2 rfl ?_);have g3:=ygd (ywd (·.push Value.none)) g2 rfl;refine yzi (hz:=by seq_fits) g3 rfl ?_;have g4:=ygd (ywd (·.pop)) g3 rfl;refine yda ⟨ybf yog _,key _ _ _ ?_ (λb o nb e=>?_) g4 fin⟩
 ·refine W.frame 0 _ _ st λb hb o e=>?_;have nb:s.heap.objs.size≠b:=λz=>nf (z▸hb);exact (yzc _ _ nb).trans ((yzc _ _ nb).trans e)
 ·exact (yzc _ _ (ykd nb)).trans ((yzc _ _ (ykd nb)).trans e)
theorem zqcb {a:Addr}{D:List Str}{Q:Value->Shared->Prop}(hh:A.handled=none)(hS:SS prog w s.heap a D (!w.params.followText "set-order"))(h64:D.length<64)
  (h:∀(h':Heap) (d':Drawn) (tk:Nat) (p:Addr) (vs:List Value) (ys:List Str) (n:Nat),(∀b o,s.heap.get? b=some o->h'.get? b=some o)->s.heap.objs.size≤p->h'.get? p=some { cls:=.type "list",data:=.seq vs.toArray n }->ysl vs ys->ys.Perm D->yvl ys=true →
   Q (.ref p) { s with heap:=h',drawn:=d',toks:=tk }):wpAny (model prog w) A (call (.builtin "sorted") [.ref a]) Q E s:=by
 refine ypg ypp yno yoo (ypo _) ?_;unfold yue.«sorted»;refine yaa (m:=yrq "sorted" 1 1 _) (yda (yaa (zsz (A:=A.in1) hh hS λh1 d1 tk vs ys k1 lt1 sy py=>?_)));have vl:vs.length<64:=by rw[sy.length,py.length_eq];exact h64
 refine yaa (yaj ?_ (yqb (yre vl) (by decide)));have g1:(h1.push (seqObj "list" vs.toArray 0)).get? h1.objs.size=some (seqObj "list" vs.toArray 0):=yfa _ rfl;refine yaa (yoc (yic ywl ⟨_,g1,rfl⟩ yzk (list_sort_treeK strKind_oneLt g1 sy.keysOf (λv1 v2 rest e=>keyKind_strs (by rw[← e];exact sy)) vl λst' a1 a2=>⟨_,rfl,?_⟩) (yxl _)));obtain⟨zs,z1,z2,z3⟩:=sorted_out_str sy a1 a2;obtain⟨e,he⟩:=sortedHeap_at (vs:=vs) (out:=(arrOf st').map (·.2)) g1;refine yda ⟨_,rfl,h _ d1 tk h1.objs.size ((arrOf st').map (·.2)).toList zs e (λb o q=>?_) (yre lt1) ?_ z1 (z2.trans py) z3⟩
 ·have q1:=k1 b o q;have bl:=yma q1;rw[sortedHeap_old (yab bl) (by rw[ysq];exact yhe bl)];exact yba _ q1
 ·rw[ymf];exact he
end
end SSet
namespace L2
open PySem PySem.Spec PyProof.Rows
theorem strs_vals':∀{vs:List Value} {ys:List Str},ysl vs ys->Vals (ys.map V.str) vs
 | _,_,.nil=>.nil
 | _,_,.cons x t r=>.cons ⟨t,rfl⟩ (strs_vals' r)
def setO (X:Cx)(l:Addr)(D:List Str):HO:=.ext λh=>SSet.SS X.prog X.w h l D (!X.w.params.followText "set-order")
section
variable {X:Cx}
theorem Inv.zsfb {pins:List (Addr×Obj)}{σ:St}{H:Hp}{s:Shared}(I:Inv X pins σ H s)(d:Drawn):Inv X pins σ H { s with drawn:=d } :=
 I.call (h':=s.heap) (g':=s.gens) (d':=d) (t':=s.toks) (ch:=[]) (Un.kept λb o e=>e) I.hok I.bare (λb z=>absurd z (by simp))
theorem zyt (hc:X.calm=true):zsf X (.type "set") (λxs H Q=>Ex2 λp ys=>xs=[.ref p]∧SqL X.K H p (ys.map V.str)∧ys.length≤1000∧∀l,H l=none->Q (.ref l) (upd H l (setO X l (SSet.dd ys)))):=by
 intro pins s σ H xs us Q I r h;obtain⟨p,ys,rfl,hq,hy,q⟩:=h;obtain⟨u,rfl,ru⟩:=vals1 r;cases ru;obtain⟨its,rv,pl,hz⟩:=I.list hq;have sy:=zgl rv;have il:its.length=ys.length:=sy.length;refine SSet.set_list (xs:=ys) (I.ok.hd hc) pl.isList (by simpa using sy) (by rw[yna,il];have:yag=4096:=rfl;omega) λh' tk S k=>?_;have I1:Inv X pins σ (upd H s.heap.objs.size (setO X s.heap.objs.size (SSet.dd ys))) { s with heap:=h',toks:=tk }:=I.laid (t':=tk) (λb o e=>k b o e) (yha _) ⟨S,let ⟨o,_,_,_,e,_⟩:=S;⟨o,e⟩,λh1 h2 x y=>x.keep y⟩;exact⟨.ref s.heap.objs.size,_,I1,rfl,q _ (I.hok.fresh (yha _))⟩
theorem zkj (hc:X.calm=true):zsf X (.builtin "sorted") (λxs H Q=>Ex2 λl D=>xs=[.ref l]∧H l=some (setO X l D)∧D.length<64∧∀p ys,H p=none->ys.Perm D->yvl ys=true->Q (.ref p) (upd H p (.lst (ys.map V.str)))):=by
 intro pins s σ H xs us Q I r h;obtain⟨l,D,rfl,hl,h64,q⟩:=h;obtain⟨u,rfl,ru⟩:=vals1 r;cases ru;obtain⟨S,_,_⟩:=I.hok l _ hl;refine SSet.zqcb (I.ok.hd hc) S h64 λh' d' tk p vs ys n k hp g sy py so=>?_;have I0:=I.zsfb d';have vl:vs.length≤yxa:=by
  rw[sy.length,py.length_eq];exact yqb (yre h64) (by decide)
 have I1:Inv X pins σ (upd H p (.lst (ys.map V.str))) { s with heap:=h',drawn:=d',toks:=tk }:=I0.laid (t':=tk) (λb o e=>k b o e) hp ⟨by rw[yca,← sy.length];exact vl,vs,n,strs_vals' sy,g⟩;exact⟨.ref p,_,I1,rfl,q p ys (I.hok.fresh hp) py so⟩
end
end L2
namespace L2
open PySem PySem.Spec PyProof.Rows
def TupK (K:yea)(a:Addr)(ss:List Str):Prop:=yuj (λb=>K.lookup b) (.tup (ss.map PyData.str)) (.ref a)=true
section
variable {X:Cx}{a:Addr}{D:List (Str×yur)}
abbrev TabK (K:yea)(a:Addr)(D:List (Str×yur)):Prop:=ycn (yuj λb=>K.lookup b) (λb=>K.lookup b) a D=true
end
structure Isi (K:yea)(C:Addr):Prop where
 ha:yob K (.ref C) "__class__" = some (some (.builtin "object.__class__"))
 hn:ykj K (.builtin "object.__class__") "__get__" = some (some (.builtin "getset_descriptor.__get__"))
 ht:yco K (.builtin "object.__class__")=some true
 hm:yxp K C (.type "object")=some true
 oStr:yad K (.ref C) (.type "str")=some false
 oInt:yad K (.ref C) (.type "int")=some false
 oTup:yad K (.ref C) (.type "tuple")=some false
 oLst:yad K (.ref C) (.type "list")=some false
 sO:yad K (.type "str") (.ref C)=some false
 iO:yad K (.type "int") (.ref C)=some false
end L2
namespace L2
open PySem PySem.Spec PyProof.Rows
section
variable {X:Cx}
end
end L2
namespace TSort
open PySem PyProof.Rows
abbrev IL:=List Int
section keys
variable (k:Value->IL)
def ka (xs:Array Keyed)(i:Nat):IL:=((xs[i]?).map λp=>k p.1).getD []
def Up (xs:Array Keyed)(n:Nat):Prop:=∀i j,i<j->j<n->ka k xs i<ka k xs j
def Dn (xs:Array Keyed)(n:Nat):Prop:=∀i j,i<j->j<n->ka k xs j<ka k xs i
variable {k}
theorem zrkb {xs ys:Array Keyed}{i j:Nat}(e:xs[i]?=ys[j]?):ka k xs i=ka k ys j:=by
 unfold ka;rw[e]
theorem Up.more {xs:Array Keyed}{n:Nat}(h:Up k xs n)(h1:1≤n)(e:ka k xs (n-1)<ka k xs n):Up k xs (n+1):=by
 intro i j a b
 rcases yeh j n with c|c
 ·exact h i j a c
 ·obtain rfl:j=n:=by omega
  rcases yeh i (j-1) with d|d
  ·exact ydn (h i (j-1) d (by omega)) e
  ·obtain rfl:i=j-1:=by omega
   exact e
theorem Dn.more {xs:Array Keyed}{n:Nat}(h:Dn k xs n)(h1:1≤n)(e:ka k xs n<ka k xs (n-1)):Dn k xs (n+1):=by
 intro i j a b
 rcases yeh j n with c|c
 ·exact h i j a c
 ·obtain rfl:j=n:=by omega
  rcases yeh i (j-1) with d|d
  ·exact ydn e (h i (j-1) d (by omega))
  ·obtain rfl:i=j-1:=by omega
   exact e
theorem Dn.turn {xs:Array Keyed}{n:Nat}(h:Dn k xs n)(hn:n≤xs.size):Up k (mirror xs 0 n ((n-0) / 2)) n:=by
 intro i j a b;have e:∀m,m<n->ka k (mirror xs 0 n ((n-0) / 2)) m=ka k xs (0+n-1-m):=λm hm=>by
  have z:=getElem?_mirror_all (i:=0) hn m;rw[if_pos ⟨ycb _,hm⟩] at z;exact zrkb z
 rw[e i (by omega),e j b];exact h _ _ (by omega) (by omega)
end keys
structure Ok (a0:Array Keyed)(kd:yep)(st:SortSt):Prop where
 perm:(arrOf st).Perm a0
 kind:kindOf st=kd
 none:failedOf st=none
 pend:yqo st=#[]
theorem Ok.size {a0:Array Keyed}{kd:yep}{st:SortSt}(h:Ok a0 kd st):(arrOf st).size=a0.size:=h.perm.size_eq
theorem Ok.put {a0:Array Keyed}{kd:yep}{st:SortSt}(h:Ok a0 kd st){xs:Array Keyed}(p:xs.Perm (arrOf st)):Ok a0 kd (setArr st xs):=⟨p.trans h.perm,h.kind,h.none,h.pend⟩
section
variable {pr:ytb}{wo:World}{Ar:Around}{Ex:Value->Shared->Prop}{sh:Shared}{k:Value->IL}{a0:Array Keyed}{kd:yep}
structure Cmp (pr:ytb)(wo:World)(Ar:Around)(Ex:Value->Shared->Prop)(sh:Shared)(k:Value->IL)(a0:Array Keyed)(kd:yep):Prop where
 lt:∀(x y:Keyed) (st:SortSt) (R:Option Bool->SortSt->Prop),kindOf st=kd->x∈a0.toList->y∈a0.toList->k x.1≠k y.1->R (some (decide (k x.1<k y.1))) st->wpS (model pr wo) Ar Ex sh (lt' x y) R st
 un:(a0.toList.map λp=>k p.1).Nodup
theorem Cmp.apart (C:Cmp pr wo Ar Ex sh k a0 kd){st:SortSt}(G:Ok a0 kd st){i j:Nat}(hi:i<a0.size)(hj:j<a0.size)(n:i≠j):ka k (arrOf st) i≠ka k (arrOf st) j:=by
 have p:=(yci.mp G.perm).map λq:Keyed=>k q.1;have u:((arrOf st).toList.map λq:Keyed=>k q.1).Nodup:=p.symm.nodup C.un;have zi:i<(arrOf st).size:=by rw[G.size];exact hi
 have zj:j<(arrOf st).size:=by rw[G.size];exact hj
 have g:=yqg.mp u;have ei:ka k (arrOf st) i=k (arrOf st)[i].1:=by unfold ka;rw[yeb zi];rfl
 have ej:ka k (arrOf st) j=k (arrOf st)[j].1:=by unfold ka;rw[yeb zj];rfl
 rw[ei,ej]
 rcases Nat.lt_or_gt_of_ne n with c|c
 ·have z:=g i j (by simpa using zi) (by simpa using zj) c;rw[ymh,ymh] at z;exact z
 ·have z:=g j i (by simpa using zj) (by simpa using zi) c;rw[ymh,ymh] at z;exact λe=>z e.symm
theorem Cmp.at (C:Cmp pr wo Ar Ex sh k a0 kd){st:SortSt}(G:Ok a0 kd st){i j:Nat}(hi:i<a0.size)(hj:j<a0.size)(n:i≠j){R:Option Bool->SortSt->Prop}
  (h:R (some (decide (ka k (arrOf st) i<ka k (arrOf st) j))) st):wpS (model pr wo) Ar Ex sh (ltAt' i j) R st:=by
 have ap:=C.apart G hi hj n;have zi:i<(arrOf st).size:=by rw[G.size];exact hi
 have zj:j<(arrOf st).size:=by rw[G.size];exact hj
 have ei:(arrOf st)[i]?=some (arrOf st)[i]:=yeb zi;have ej:(arrOf st)[j]?=some (arrOf st)[j]:=yeb zj;have m:∀q:Keyed,q∈(arrOf st).toList->q∈a0.toList:=λq hq=>(yci.mp G.perm).mem_iff.mp hq;rw[ltAt'_eq];refine yyd (yzr ?_);show wpS (model pr wo) Ar Ex sh (elem' (arrOf st) i >>= λx=>elem' (arrOf st) j >>= λy=>lt' x y) R st
 rw[elem'_eq,elem'_eq,ei,ej];refine yyd (ypf (yyd (ypf ?_)));have ki:ka k (arrOf st) i=k (arrOf st)[i].1:=by unfold ka;rw[ei];rfl
 have kj:ka k (arrOf st) j=k (arrOf st)[j].1:=by unfold ka;rw[ej];rfl
 rw[ki,kj] at h ap;exact C.lt _ _ st R G.kind (m _ (by simp)) (m _ (by simp)) ap h
theorem not_lt {a b:IL}(n:a≠b)(h:¬ a<b):b<a:=by
 rcases Decidable.em (b<a) with c|c
 ·exact c
 ·exact absurd (yjr (yas.mp c) (yas.mp h)) n
theorem Cmp.asc (C:Cmp pr wo Ar Ex sh k a0 kd){st:SortSt}(G:Ok a0 kd st){a m:Nat}(hm:m≤a0.size)(h1:1≤a)(h2:a≤m)(u:Up k (arrOf st) a){R:AscSt->SortSt->Prop}
  (q:∀n,a≤n->n≤m->Up k (arrOf st) n->(n=m∨ka k (arrOf st) n<ka k (arrOf st) (n-1))->R (none,n) st):wpS (model pr wo) Ar Ex sh (ascLoop a m) R st:=by
 unfold ascLoop;refine yvj (I:=λx c z=>z=st∧c=(none,x)∧Up k (arrOf st) x) (λx c z ax xm I=>?_) (λc z I=>?_) ⟨rfl,rfl,u⟩
 ·obtain⟨rfl,rfl,v⟩:=I;dsimp only;refine yyd (C.at G (by omega) (by omega) (by omega) ?_);have ap:=C.apart G (i:=x) (j:=x-1) (by omega) (by omega) (by omega)
  by_cases c:ka k (arrOf z) x<ka k (arrOf z) (x-1)
  ·rw[decide_eq_true c];exact ypf (q x ax (by omega) v (.inr c))
  ·rw[decide_eq_false c];exact ypf ⟨rfl,rfl,v.more (by omega) (not_lt ap c)⟩
 ·obtain⟨rfl,rfl,v⟩:=I;rw[show max a m=m by omega] at v ⊢;exact q m h2 (yha _) v (.inl rfl)
theorem Cmp.last (C:Cmp pr wo Ar Ex sh k a0 kd){st:SortSt}(G:Ok a0 kd st){n m:Nat}(hm:m≤a0.size)(h1:1≤n)(h2:n≤m)(d:Dn k (arrOf st) n){R:Option Nat->SortSt->Prop}
  (q:∀l z,Ok a0 kd z->1≤l->l≤m->Up k (arrOf z) l->R (some l) z):wpS (model pr wo) Ar Ex sh (tail3 n m) R st:=by
 unfold tail3;refine yyd (wpS_reverse ?_);have G':Ok a0 kd (setArr st (mirror (arrOf st) 0 n ((n-0) / 2))):=G.put (mirror_perm _ _ _ _);exact yyd (C.asc G' hm h1 h2 (d.turn (by rw[G.size];omega)) λl a b c _=>ypf (q l _ G' (by omega) b c))
theorem Cmp.desc (C:Cmp pr wo Ar Ex sh k a0 kd){st:SortSt}(G:Ok a0 kd st){n m:Nat}(hm:m≤a0.size)(h1:1≤n)(h2:n≤m)(d:Dn k (arrOf st) n){R:DescSt->SortSt->Prop}
  (q:∀l,n≤l->l≤m->Dn k (arrOf st) l->R (none,l,0) st):wpS (model pr wo) Ar Ex sh (descLoop n m) R st:=by
 unfold descLoop;refine yvj (I:=λx c z=>z=st∧c=(none,x,0)∧Dn k (arrOf st) x) (λx c z ax xm I=>?_) (λc z I=>?_) ⟨rfl,rfl,d⟩
 ·obtain⟨rfl,rfl,v⟩:=I;dsimp only;refine yyd (C.at G (by omega) (by omega) (by omega) ?_);have ap:=C.apart G (i:=x) (j:=x-1) (by omega) (by omega) (by omega)
  by_cases c:ka k (arrOf z) x<ka k (arrOf z) (x-1)
  ·rw[decide_eq_true c];exact ypf ⟨rfl,rfl,v.more (by omega) c⟩
  ·rw[decide_eq_false c];refine yyd (C.at G (by omega) (by omega) (by omega) ?_);rw[decide_eq_true (not_lt ap c)];exact ypf (q x ax (by omega) v)
 ·obtain⟨rfl,rfl,v⟩:=I;rw[show max n m=m by omega] at v ⊢;exact q m h2 (yha _) v
theorem Cmp.part (C:Cmp pr wo Ar Ex sh k a0 kd){st:SortSt}(G:Ok a0 kd st){n m:Nat}(hm:m≤a0.size)(h2:n+1≤m)(d:Dn k (arrOf st) (n+1)){R:Option Nat->SortSt->Prop}
  (q:∀l z,Ok a0 kd z->1≤l->l≤m->Up k (arrOf z) l->R (some l) z):wpS (model pr wo) Ar Ex sh (descPart n m) R st:=by
 unfold descPart;refine yyd (wpS_lift (ytf ⟨rfl,?_⟩));refine yyd (C.desc G hm (by omega) h2 d λl a b c=>?_);exact C.last G hm (by omega) b c q
theorem Cmp.run (C:Cmp pr wo Ar Ex sh k a0 kd){st:SortSt}(G:Ok a0 kd st){m:Nat}(hm:m≤a0.size)(h1:1≤m){R:Option Nat->SortSt->Prop}
  (q:∀l z,Ok a0 kd z->1≤l->l≤m->Up k (arrOf z) l->R (some l) z):wpS (model pr wo) Ar Ex sh (countRun' 0 m) R st:=by
 rw[countRun0_eq];refine yyd (C.asc G hm (yha 1) h1 (λi j a b=>by omega) λn a b c d=>?_);dsimp only
 by_cases e:n=m
 ·rw[if_pos (by simpa using e)];exact ypf (q n st G a b c)
 ·rw[if_neg (by simpa using e)];have lt:=d.resolve_left e
  by_cases g:n>1
  ·rw[if_pos g];refine yyd (C.at G (by omega) (by omega) (by omega) ?_);rw[decide_eq_true (c 0 (n-1) (by omega) (by omega))];exact ypf (q n st G a b c)
  ·rw[if_neg g];obtain rfl:n=1:=by omega
   refine C.part G hm (by omega) (λi j x y=>?_) q;obtain rfl:i=0:=by omega
   obtain rfl:j=1:=by omega
   exact lt
end
end TSort
namespace TSort
open PySem PyProof.Rows
theorem zrw {k:Value->IL}{xs:Array Keyed}{c l:Nat}(hc:c<xs.size)(hl:l≤c)(m:Nat) :
  ka k (bubble xs c (c-l)) m=if m=l then ka k xs c else if l<m∧m≤c then ka k xs (m-1) else ka k xs m:=by
 have z:=getElem?_bubble hc (c-l) (by omega) m;rw[show c-(c-l)=l by omega] at z
 by_cases a:m=l
 ·rw[if_pos a] at z ⊢;exact zrkb z
 ·rw[if_neg a] at z ⊢
  by_cases b:l<m∧m≤c
  ·rw[if_pos b] at z ⊢;exact zrkb z
  ·rw[if_neg b] at z ⊢;exact zrkb z
theorem Up.put {k:Value->IL}{xs:Array Keyed}{c l:Nat}(h:Up k xs c)(hc:c<xs.size)(hl:l≤c)(lo:∀i,i<l->ka k xs i<ka k xs c)(hi:∀i,l≤i->i<c->ka k xs c<ka k xs i):Up k (bubble xs c (c-l)) (c+1):=by
 intro i j a b;rw[zrw hc hl,zrw hc hl]
 by_cases i1:i=l
 ·rw[if_pos i1,if_neg (by omega),if_pos (by omega)];exact hi _ (by omega) (by omega)
 ·rw[if_neg i1]
  by_cases j1:j=l
  ·rw[if_pos j1,if_neg (by omega)];exact lo i (by omega)
  ·rw[if_neg j1]
   by_cases i2:l<i∧i≤c
   ·rw[if_pos i2,if_pos (by omega)];exact h _ _ (by omega) (by omega)
   ·rw[if_neg i2]
    by_cases j2:l<j∧j≤c
    ·rw[if_pos j2];exact h _ _ (by omega) (by omega)
    ·rw[if_neg j2];exact h _ _ a (by omega)
section
variable {pr:ytb}{wo:World}{Ar:Around}{Ex:Value->Shared->Prop}{sh:Shared}{k:Value->IL}{a0:Array Keyed}{kd:yep}
theorem Cmp.ins (C:Cmp pr wo Ar Ex sh k a0 kd){st:SortSt}(G:Ok a0 kd st){n m:Nat}(hn:n≤a0.size)(hm:m≤n)(u:Up k (arrOf st) m){R:Bool->SortSt->Prop}
  (q:∀z,Ok a0 kd z->Up k (arrOf z) n->R true z):wpS (model pr wo) Ar Ex sh (binarySort' 0 n m) R st:=by
 rw[binarySort'_eq];simp only[Nat.zero_add];refine yyd (wpS_mono (yvj (I:=λc o z=>o=(none,())∧Ok a0 kd z∧Up k (arrOf z) (min c n)) (Q:=λo z=>o=(none,())∧Ok a0 kd z∧Up k (arrOf z) n) (λc o z mc cn I=>?_) (λo z I=>?_) ⟨rfl,G,λi j a b=>?_⟩) λo z I=>?_)
 ·obtain⟨rfl,G',v⟩:=I;rw[show min c n=c by omega] at v;have sz:c<(arrOf z).size:=by rw[G'.size];omega
  refine yyd (wpS_mono (yvj (I:=λx o y=>y=z∧Ex2 λl r=>o=(none,l,r)∧l≤r∧r≤c∧r-l≤c-x∧(∀i,i<l->ka k (arrOf z) i<ka k (arrOf z) c)∧∀i,r≤i->i<c->ka k (arrOf z) c<ka k (arrOf z) i)
   (Q:=λo y=>y=z∧Ex2 λl r=>o=(none,l,r)∧l≤c∧(∀i,i<l->ka k (arrOf z) i<ka k (arrOf z) c)∧∀i,l≤i->i<c->ka k (arrOf z) c<ka k (arrOf z) i) (λx o y _ xc J=>?_) (λo y J=>?_) ⟨rfl,0,c,rfl,by omega,by omega,by omega,λi h=>by omega,λi h1 h2=>by omega⟩) λo y J=>?_)
  ·obtain⟨rfl,l,r,rfl,lr,rc,w,lo,hi⟩:=J;dsimp only
   by_cases g:l≥r
   ·rw[if_pos g];obtain rfl:l=r:=by omega
    exact ypf ⟨rfl,l,l,rfl,rc,lo,hi⟩
   ·rw[if_neg g];refine yyd (C.at G' (by omega) (by omega) (by omega) ?_);have ap:=C.apart G' (i:=c) (j:=(l+r) / 2) (by omega) (by omega) (by omega)
    by_cases d:ka k (arrOf y) c<ka k (arrOf y) ((l+r) / 2)
    ·rw[decide_eq_true d];refine ypf ⟨rfl,l,(l+r) / 2,rfl,by omega,by omega,by omega,lo,λi h1 h2=>?_⟩
     rcases yeh ((l+r) / 2) i with e|e
     ·exact ydn d (v _ _ e h2)
     ·obtain rfl:i=(l+r) / 2:=by omega
      exact d
    ·rw[decide_eq_false d];have d':=not_lt ap d;refine ypf ⟨rfl,(l+r) / 2+1,r,rfl,by omega,by omega,by omega,λi h1=>?_,hi⟩
     rcases yeh i ((l+r) / 2) with e|e
     ·exact ydn (v _ _ e (by omega)) d'
     ·obtain rfl:i=(l+r) / 2:=by omega
      exact d'
  ·obtain⟨rfl,l,r,rfl,lr,rc,w,lo,hi⟩:=J;obtain rfl:l=r:=by omega
   exact⟨rfl,l,l,rfl,rc,lo,hi⟩
  ·obtain⟨rfl,l,r,rfl,lc,lo,hi⟩:=J;refine yyd (m:=moveDown' c l) ?_;rw[moveDown'_eq];refine wpS_modify (ypf ⟨rfl,G'.put (bubble_perm _ _ _),?_⟩);rw[show min (c+1) n=c+1 by omega];exact v.put sz lc lo hi
 ·obtain⟨rfl,G',v⟩:=I;rw[show min (max (max m 1) n) n=n by omega] at v;exact⟨rfl,G',v⟩
 ·exact u i j a (by omega)
 ·obtain⟨rfl,G',v⟩:=I;exact ypf (q z G' v)
structure Fin (k:Value->IL)(a0:Array Keyed)(st:SortSt):Prop where
 perm:(arrOf st).Perm a0
 none:failedOf st=none
 pend:yqo st=#[(0,a0.size,0)]
 up:Up k (arrOf st) a0.size
theorem Ok.fin {st:SortSt}(G:Ok a0 kd st)(u:Up k (arrOf st) a0.size):Fin k a0 (setPending st ((yqo st).push (0,a0.size,0))) :=
 ⟨G.perm,G.none,by show (yqo st).push (0,a0.size,0)=#[(0,a0.size,0)];rw[G.pend];rfl,u⟩
theorem Cmp.all (C:Cmp pr wo Ar Ex sh k a0 kd){st:SortSt}(G:Ok a0 kd st)(h2:2≤a0.size)(h64:a0.size<64){R:Unit->SortSt->Prop}
  (q:∀z,(arrOf z).Perm a0->failedOf z=none->Up k (arrOf z) a0.size->R () z):wpS (model pr wo) Ar Ex sh sortRuns' R st:=by
 rw[sortRuns'_eq];refine yyd (yzr ?_);dsimp only;have mr:minRun' a0.size a0.size 0=a0.size:=by
  obtain⟨f,hf⟩:∃f,a0.size=f+1:=⟨a0.size-1,by omega⟩;have z:minRun' (f+1) a0.size 0=a0.size:=by
   rw[minRun'_succ,if_pos h64,Nat.add_zero]
  rw[← hf] at z;exact z
 simp only[G.size,mr];refine yyd (wpS_mono (yvj (I:=λx o z=>(x=0∧o=(none,0)∧Ok a0 kd z)∨(1≤x∧o=(none,a0.size)∧Fin k a0 z)) (Q:=λo z=>o=(none,a0.size)∧Fin k a0 z) (λx o z _ hx I=>?_) (λo z I=>?_) (.inl ⟨rfl,rfl,G⟩)) λo z I=>?_)
 ·rcases I with⟨rfl,rfl,G'⟩|⟨x1,rfl,D⟩
  ·dsimp only;rw[if_neg (by omega)];simp only[yar,yro,Nat.zero_add];refine yyd (C.run G' (yha _) (by omega) λl y Gy l1 l2 uy=>?_);dsimp only
   by_cases lt:l<a0.size
   ·rw[if_pos lt];refine yyd (wpS_lift (ytf ⟨rfl,?_⟩));refine yyd (C.ins Gy (yha _) l2 uy λv Gv uv=>?_);simp only[Bool.not_true,ykg,if_false];refine yyd (yzr ?_);rw[show (yqo v).back?=none by rw[Gv.pend];rfl];exact yyd (wpS_modify (ypf (.inr ⟨by omega,rfl,Gv.fin uv⟩)))
   ·rw[if_neg lt];obtain rfl:l=a0.size:=by omega
    refine yyd (yzr ?_);rw[show (yqo y).back?=none by rw[Gy.pend];rfl];exact yyd (wpS_modify (ypf (.inr ⟨by omega,rfl,Gy.fin uy⟩)))
  ·dsimp only;rw[if_pos (yha _)];exact ypf ⟨rfl,D⟩
 ·rcases I with⟨hx,_,_⟩|⟨_,ho,D⟩
  ·omega
  ·exact⟨ho,D⟩
 ·obtain⟨rfl,D⟩:=I;dsimp only;refine yyd (wpS_mono (yvj (I:=λ_ o y=>y=z∧o=(none,())) (Q:=λo y=>y=z∧o=(none,())) (λx o y _ _ J=>?_) (λ_ _ J=>J) ⟨rfl,rfl⟩) λo y J=>?_)
  ·obtain⟨rfl,rfl⟩:=J;refine yyd (yzr ?_);rw[if_pos (by rw[D.pend];exact yha 1)];exact ypf ⟨rfl,rfl⟩
  ·obtain⟨rfl,rfl⟩:=J;exact ypf (q _ D.perm D.none D.up)
end
end TSort
namespace TSort
open PySem PyProof.Rows
def TupI (h:Heap)(a:Addr)(ks:IL):Prop:=Ex5 λ(o:Obj) (its:Array Value) (n:Nat) (us rest:List Value)=>h.get? a=some o∧o.cls = .type "tuple" ∧ o.data = .seq its n∧its.toList=us++rest∧yyf us ks
theorem TupI.keep {h h':Heap}{a:Addr}{ks:IL}(t:TupI h a ks)(e:∀o,h.get? a=some o->h'.get? a=some o):TupI h' a ks:=by
 obtain⟨o,its,n,us,rest,h1,h2⟩:=t;exact⟨o,its,n,us,rest,e _ h1,h2⟩
def kf (f:Addr->IL):Value->IL
 | .ref a=>f a
 | _=>[]
section
variable {pr:ytb}{wo:World}{Ar:Around}{Ex:Value->Shared->Prop}{sh:Shared}
theorem lex {b fin:Bool}{R:Bool->Shared->Prop}:∀{us vs:List Value} {xs ys:IL} {r1 r2:List Value} {i:Nat},yyf us xs->yyf vs ys->xs.length=ys.length->xs≠ys->R (decide (xs<ys)) sh->W.KatLex pr wo Ar b fin R ((us++r1).zip (vs++r2)) i sh
 | _,_,_,_,_,_,_,.nil,.nil,_,n,_=>absurd rfl n
 | _,_,_,_,_,_,_,.nil,.cons _ _ _,l,_,_=>by simp at l
 | _,_,_,_,_,_,_,.cons _ _ _,.nil,l,_,_=>by simp at l
 | _,_,_,_,r1,r2,i,.cons x t hx (vs:=us) (ns:=xs),.cons y u hy (vs:=vs) (ns:=ys),l,n,q=>by
  refine W.kat_cons (wpAny_eqBool_int ?_)
  by_cases e:x=y
  ·subst e;rw[show (x==x)=true by simp];refine W.kat_yes (lex hx hy (by simpa using l) (λz=>n (by rw[z])) ?_);have z:decide (x::xs<x::ys)=decide (xs<ys):=by
    apply decide_eq_decide.mpr;rw[ywj]
    constructor
    ·rintro (c|⟨_,c⟩)
     ·exact absurd c (Int.lt_irrefl x)
     ·exact c
    ·exact λc=>.inr ⟨rfl,c⟩
   rw[z] at q;exact q
  ·rw[show (x==y)=false by simpa using e];have z:decide (x::xs<y::ys)=decide (x<y):=by
    apply decide_eq_decide.mpr;rw[ywj]
    constructor
    ·rintro (c|⟨c,_⟩)
     ·exact c
     ·exact absurd c e
    ·exact λc=>.inl c
   rw[z] at q;refine W.kat_no ?_;cases (b&&i==0) with
   | true=>exact oneLt_int q
   | false=>exact W.kat_one _ _ (lt_int q)
theorem zdlb {f:Addr->IL}{vs:List Value}{m:Nat}{b:Bool}(hv:∀v∈vs,∃a,v = .ref a∧TupI sh.heap a (f a)∧(f a).length=m)(un:(vs.map (kf f)).Nodup):Cmp pr wo Ar Ex sh (kf f) (yqp vs) (tuples' b):=by
 refine⟨λx y st R hk mx my n q=>?_,?_⟩
 ·rw[ykp] at mx my;obtain⟨a,ea,⟨o1,i1,n1,u1,r1,g1,_,d1,l1,t1⟩,m1⟩:=hv _ (ybr mx).2;obtain⟨c,ec,⟨o2,i2,n2,u2,r2,g2,_,d2,l2,t2⟩,m2⟩:=hv _ (ybr my).2;rw[ea,ec] at n q;rw[lt'_eq];refine yyd (yzr ?_);rw[hk,ea,ec];refine yyd (wpS_lift (yxi (W.kat_lt g1 d1 g2 d2 ?_)));rw[l1,l2];exact lex t1 t2 (by rw[m1,m2]) n ⟨rfl,ypf q⟩
 ·rw[ykp];have e:(vs.zip vs).map (λp=>kf f p.1)=vs.map (kf f):=by
   rw[show (λp:Keyed=>kf f p.1)=kf f∘Prod.fst from rfl,← ysh,ykr (yha _)]
  rw[e];exact un
theorem zxgb {f:Addr->IL}{vs:List Value}{m:Nat}{R:yep->Shared->Prop}(hm:0<m)(h0:0<vs.length)(hv:∀v∈vs,∃a,v = .ref a∧TupI sh.heap a (f a)∧(f a).length=m)(q:R (tuples' true) sh):wpAny (model pr wo) Ar (keyKind' vs.toArray) R Ex sh:=by
 have all:∀vs:List Value,(∀v∈vs,∃a,v = .ref a∧TupI sh.heap a (f a)∧(f a).length=m)->∃fs,W.KatTups sh.heap vs fs∧fs.length=vs.length∧∀v∈fs,Ex2 λx t=>v = .int x t:=by
  intro vs
  induction vs with
  | nil=>exact λ_=>⟨[],.nil,rfl,by simp⟩
  | cons v r ih =>
   intro h;obtain⟨fs,a1,a2,a3⟩:=ih λz hz=>h z (yoa _ hz);obtain⟨a,rfl,⟨o,its,n,us,rest,g,c,d,l,t⟩,hl⟩:=h v ypa;generalize f a=ks at t hl;cases t with
   | nil=>simp at hl;omega
   | cons x tk h' =>
    refine⟨.int x tk::fs,.cons g c d (by rw[← yfc,l];rfl) a1,by rw[yub,yub,a2],?_⟩;intro z hz
    rcases yka.mp hz with e|e
    ·exact⟨x,tk,e⟩
    ·exact a3 z e
 obtain⟨fs,a1,a2,a3⟩:=all vs hv;refine W.kat_kind (T:=.type "int") a1 (by omega) (λv h=>?_) rfl q;obtain⟨x,t,rfl⟩:=a3 v h;exact .now
end
end TSort
namespace TSort
open PySem PyProof.Rows
section
variable {pr:ytb}{wo:World}{Ar:Around}{Ex:Value->Shared->Prop}{sh:Shared}
theorem le64:64≤yxa:=by decide
theorem zxlb {f:Addr->IL}{vs:List Value}{xs:Array Keyed}(p:xs.Perm (yqp vs))(u:Up (kf f) xs (yqp vs).size):(xs.map (·.2)).toList.Perm vs∧((xs.map (·.2)).toList.map (kf f)).Pairwise (· < ·):=by
 have pl:xs.toList.Perm (vs.zip vs):=by
  rw[← ykp];exact yci.mp p
 have same:∀q∈xs.toList,q.1=q.2:=λq hq=>(ybr (pl.mem_iff.mp hq)).1;have e:(xs.map (·.2)).toList=xs.toList.map (·.1):=by
  rw[Array.toList_map];exact yal λq hq=>(same q hq).symm
 refine⟨?_,?_⟩
 ·rw[e];have z:=pl.map Prod.fst;rw[ykr (yha _)] at z;exact z
 ·rw[e,ysh,yqg];intro i j hi hj ij;have hi':i<xs.size:=by simpa using hi
  have hj':j<xs.size:=by simpa using hj
  have z:=u i j ij (by rw[← p.size_eq];exact hj');unfold ka at z;rw[yeb hi',yeb hj'] at z;rw[ymh,ymh];exact z
theorem zjob {f:Addr->IL}{a:Addr}{vs:List Value}{m n:Nat}{R:yms->Shared->Prop}(ho:sh.heap.get? a=some (seqObj "list" vs.toArray n))(hm:0<m)(hv:∀v∈vs,∃b,v = .ref b∧TupI sh.heap b (f b)∧(f b).length=m)(un:(vs.map (kf f)).Nodup)(h64:vs.length<64)
  (q:∀out:Array Value,out.toList.Perm vs->(out.toList.map (kf f)).Pairwise (· < ·)->R (.done (.ret .none)) { sh with heap:=sortedHeap sh.heap a vs out }) :
  wpAny (model pr wo) Ar (yue.«list.sort» ⟨[.ref a],[]⟩) R Ex sh:=by
 have lt:a<sh.heap.objs.size:=yma ho;have len:vs.toArray.size=vs.length:=yna ..;rw[list_sort_plain];refine yaa (ycr ho rfl (yaa (yen ho rfl ?_)));obtain⟨ep,h1⟩:∃ep,(sh.heap.update a (ywd λ_=>#[])).get? a=some (seqObj "list" #[] ep):=⟨_,get?_update_seq ho λ_=>#[]⟩;refine yaa (seqEpoch_at h1 rfl (yaa (ysj (yaa (yaj (yoc ?_))))));show wpAny (model pr wo) Ar _ R Ex { sh with heap:=((sh.heap.update a (ywd λ_=>#[])).push (seqObj "tuple" vs.toArray 0)).push (seqObj "list" #[] 0) }
 generalize hH:((sh.heap.update a (ywd λ_=>#[])).push (seqObj "tuple" vs.toArray 0)).push (seqObj "list" #[] 0)=H;have h6:H.get? a=some (seqObj "list" #[] ep):=by
  rw[← hH];exact yba _ (yba _ h1)
 have hb:∀v∈vs,∃b,v = .ref b∧TupI H b (f b)∧(f b).length=m:=λv z=>by
  obtain⟨b,e,t,l⟩:=hv v z;refine⟨b,e,t.keep λo g=>?_,l⟩;have nb:b≠a:=by
   rintro rfl;obtain⟨o',_,_,_,_,g',c',_⟩:=t;rw[g'] at ho;cases ho;have z:Value.type "list" = Value.type "tuple":=c';injection z with z
   exact absurd z (by decide)
  rw[← hH];exact yba _ (yba _ ((yqe ..).extBut b o nb g))
 have done:∀out:Array Value,H.update a (ywd λ_=>out)=sortedHeap sh.heap a vs out:=λout=>by rw[← hH];rfl
 dsimp only
 by_cases two:vs.toArray.size<2
 ·rw[if_pos two,if_pos two];refine yaa (yda ?_);rw[StateT.run_pure];refine yaa (yda ?_);dsimp only;refine yaa (seqEpoch_at h6 rfl (yaa (yen h6 rfl ?_ (hsz2:=?_))))
  ·simp only[bne_self_eq_false,ykg,if_false];obtain⟨a1,a2⟩:=zxlb (f:=f) (vs:=vs) (xs:=yqp vs) (ybs _) (λi j ij hj=>by rw[yol] at hj;omega);refine yda ?_;have z:=q _ a1 a2;rw[← done] at z;exact z
  ·rw[Array.size_map];show (yqp vs).size≤yxa+1
   rw[yol];have:64≤yxa:=by decide
   omega
 ·rw[if_neg two,if_neg two];refine yaa (zxgb hm (by omega) hb ?_);have two':2≤(yqp vs).size:=by
   rw[yol];omega
  refine yaa (ywe ((zdlb (pr:=pr) (wo:=wo) (Ar:=Ar) (Ex:=Ex) (b:=true) hb un).all (st:=SortSt.mk' (tuples' true) (vs.toArray.zip vs.toArray) #[] 7 none) ⟨ybs _,rfl,rfl,rfl⟩ two' (by rw[yol];exact h64) (R:=λ_ z=>(arrOf z).Perm (yqp vs)∧failedOf z=none∧Up (kf f) (arrOf z) (yqp vs).size) λz b1 b2 b3=>⟨b1,b2,b3⟩) ?_ λ_ _ e=>e);rintro⟨⟨⟩,z⟩ s' ⟨rfl,b1,b2,b3⟩;dsimp only;refine yaa (seqEpoch_at h6 rfl (yaa (yen h6 rfl ?_ (hsz2:=?_))))
  ·rw[b2];simp only[bne_self_eq_false,ykg,if_false];obtain⟨a1,a2⟩:=zxlb b1 b3;refine yda ?_;have y:=q _ a1 a2;rw[← done] at y;exact y
  ·refine yqb (ybo ((Array.size_map ..).trans (b1.size_eq.trans (yol _)))) ?_;have:64≤yxa:=by decide
   omega
theorem ziy {f:Addr->IL}{l:Addr}{vs:List Value}{m:Nat}{R:Value->Shared->Prop}(hl:sh.heap.IsList l vs.toArray)(hm:0<m)(hv:∀v∈vs,∃b,v = .ref b∧TupI sh.heap b (f b)∧(f b).length=m)(un:(vs.map (kf f)).Nodup)(h64:vs.length<64)
  (q:∀out:Array Value,out.toList.Perm vs->(out.toList.map (kf f)).Pairwise (· < ·)->R (.ref (sh.heap.objs.size+1)) { sh with heap:=yso sh.heap vs out }) :
  wpAny (model pr wo) Ar (call (.builtin "sorted") [.ref l]) R Ex sh:=by
 refine ypg ypp yno yoo (ypo _) ?_;unfold yue.«sorted»;refine yaa (m:=yrq "sorted" 1 1 _) (yda (yaa (collect_list hl (yaa (yaj ?_)) (yqb (yre h64) le64))));show wpAny (model pr wo) _ _ _ Ex { sh with heap:=((sh.heap.push (seqObj "list" #[] 0)).update sh.heap.objs.size (ywd (· ++ vs.toArray))).push (seqObj "list" vs.toArray 0) }
 generalize hG:(sh.heap.push (seqObj "list" #[] 0)).update sh.heap.objs.size (ywd (· ++ vs.toArray))=G;have sz:G.objs.size=sh.heap.objs.size+1:=by
  rw[← hG,ylr,ysq]
 have kp:∀b o,sh.heap.get? b=some o->G.get? b=some o:=λb o g=>by
  rw[← hG];exact (yqe ..).extBut b o (yab (yma g)) (yba _ g)
 have at1:(G.push (seqObj "list" vs.toArray 0)).get? (sh.heap.objs.size+1)=some (seqObj "list" vs.toArray 0):=by
  rw[← sz];exact yfa _ rfl
 rw[sz];refine yaa (yoc (yic ywl ⟨_,at1,rfl⟩ yzk (zjob at1 hm (λv z=>?_) un h64 λout o1 o2=>⟨_,rfl,?_⟩) (yxl _)))
 ·obtain⟨b,e,t,l'⟩:=hv v z;exact⟨b,e,t.keep λo g=>yba _ (kp b o g),l'⟩
 ·refine yda ⟨_,rfl,?_⟩;have y:=q out o1 o2;unfold yso at y;rw[hG] at y;exact y
end
end TSort
namespace L2
open PySem PyProof.Rows
def refV:Value->V
 | .ref a=>.ref a
 | _=>.non
theorem zru:∀{us:List V} {its:List Value},Vals us its->(∀u∈us,∃a,u = .ref a)->its.map refV=us∧∀v∈its,∃a,v = .ref a∧V.ref a∈us
 | _,_,.nil,_=>⟨rfl,by simp⟩
 | _,_,.cons r t,h=>by
  obtain⟨a,rfl⟩:=h _ ypa;cases r;obtain⟨e1,e2⟩:=zru t λu hu=>h u (yoa _ hu);refine⟨by rw[ygc,e1];rfl,?_⟩;intro v hv
  rcases yka.mp hv with z|z
  ·exact⟨a,z,ypa⟩
  ·obtain⟨b,e,m⟩:=e2 v z;exact⟨b,e,yoa _ m⟩
theorem zsu:∀{vs:List Value},(∀v∈vs,∃a,v = .ref a)->Vals (vs.map refV) vs
 | [],_=>.nil
 | v::r,h=>by
  obtain⟨a,rfl⟩:=h v ypa;exact .cons rfl (zsu λu hu=>h u (yoa _ hu))
section
variable {X:Cx}
theorem zpf:zsf X (.builtin "sorted") (λxs H Q=>Ex4 λ(l:Addr) (us:List V) (g:V->List Int) (m:Nat)=>xs=[.ref l]∧SqL X.K H l us∧us.length<64∧0<m∧(∀u∈us,Ex3 λa ys zs=>u = .ref a∧SqT X.K H a (ys.map V.int++zs)∧g u=ys∧ys.length=m)∧(us.map g).Nodup ∧
  ∀p out,H p=none->out.Perm us->(out.map g).Pairwise (· < ·)->Q (.ref p) (upd H p (.lst out))):=by
 intro pins s σ H xs vs Q I r h;obtain⟨l,us,g,m,rfl,hl,h64,hm,ht,un,q⟩:=h;obtain⟨u,rfl,ru⟩:=vals1 r;cases ru;obtain⟨its,rv,pl,_⟩:=I.list hl;obtain⟨e1,e2⟩:=zru rv λu hu=>by
  obtain⟨a,_,_,e,_⟩:=ht u hu;exact⟨a,e⟩
 have len:its.length=us.length:=rv.length.symm;have kg:∀v∈its,TSort.kf (λa=>g (.ref a)) v=(g∘refV) v:=λv hv=>by
  obtain⟨a,rfl,_⟩:=e2 v hv;rfl
 have hv:∀v∈its,∃b,v = .ref b∧TSort.TupI s.heap b (g (.ref b))∧(g (.ref b)).length=m:=λv hv=>by
  obtain⟨a,rfl,ha⟩:=e2 v hv;obtain⟨a',ys,zs,e,sq,eg,lg⟩:=ht _ ha;cases e;obtain⟨jts,rj,⟨o,g1,g2,n,g3⟩,_⟩:=I.tuple sq;refine⟨a,rfl,?_,by rw[eg];exact lg⟩;have t1:=rj.take (ys.map V.int).length;rw[List.take_left' rfl] at t1;refine⟨o,jts.toArray,n,jts.take (ys.map V.int).length,jts.drop (ys.map V.int).length,g1,g2,g3,by rw[yto],?_⟩;rw[eg];exact intsAre_of t1
 have un':(its.map (TSort.kf λa=>g (.ref a))).Nodup:=by
  rw[yal kg,← ysh,e1];exact un
 refine TSort.ziy (vs:=its) (f:=λa=>g (.ref a)) (m:=m) pl.isList hm hv un' (by rw[len];exact h64) λout o1 o2=>?_;obtain⟨e,he⟩:=sortedAll_at s.heap its out;have mem:∀v∈out.toList,v∈its:=λv hv=>o1.mem_iff.mp hv;have rout:Vals (out.toList.map refV) out.toList:=zsu λv hv=>by
  obtain⟨a,e,_⟩:=e2 v (mem v hv);exact⟨a,e⟩
 have pm:(out.toList.map refV).Perm us:=by
  have z:=o1.map refV;rw[e1] at z;exact z
 have I1:Inv X pins σ (upd H (s.heap.objs.size+1) (.lst (out.toList.map refV))) { s with heap:=yso s.heap its out }:=I.laid (t':=s.toks) (λb o e=>sortedAll_old e) (yif _) ⟨by rw[pm.length_eq];exact yqb (yre h64) TSort.le64,out.toList,e,rout,by rw[ymf];exact he⟩;refine⟨.ref (s.heap.objs.size+1),_,I1,rfl,q _ _ (I.hok.fresh (yif _)) pm ?_⟩;rw[yal λv hv=>kg v (mem v hv),← ysh] at o2;exact o2
end
end L2
namespace L2
open PySem PyProof.Rows
section
variable {pr:ytb}{wo:World}{Ar:Around}{Ex:Value->Shared->Prop}
end
section
variable {X:Cx}
theorem zmm (K:yea){es:List Expr}{k:Nat}{t:TGs}{n:Nat}{pos:Pos}(hc:X.calm=true)(h:PGs X es t)
  (hn:(yhj es X.env).length=n:=by rfl) (hst:(yhj es X.env).findIdx? (·.1)=none:=by rfl) (hK:X.K=K:=by rfl):PG X (.Tuple es k pos) (gTup K n t):=hK▸zzg hc h hn hst
end
end L2
namespace L2
open PySem PyProof.Rows
section
variable {X:Cx}
inductive TyB (K:yea)(H:Hp):V->Value->Prop where
 | non:TyB K H .non (.type "NoneType")
 | bl (x:Bool):TyB K H (.bl x) (.type "bool")
 | int (i:Int):TyB K H (.int i) (.type "int")
 | str (x:Str):TyB K H (.str x) (.type "str")
 | lst {a:Addr} {xs:List V} (e:SqL K H a xs):TyB K H (.ref a) (.type "list")
 | tup {a:Addr} {xs:List V} (e:SqT K H a xs):TyB K H (.ref a) (.type "tuple")
theorem eq_self (A:Around)(s:Shared)(a:Addr):yfe A s (.ref a) (.ref a) true:=λpr wo E R h=>by
 unfold eqBool;refine yoc ?_;rw[if_pos (by simp)];exact yaa (ytf (yda h))
theorem zxcb {us:List V}(hu:∀u∈us,∃a,u = .ref a){v w:List Value}(h1:Vals us v)(h2:Vals us w):v=w∧∀x∈v,∃a,x = .ref a:=by
 induction h1 generalizing w with
 | nil=>cases h2;exact⟨rfl,by simp⟩
 | cons r t ih =>
  cases h2 with
  | cons r' t' =>
   obtain⟨a,rfl⟩:=hu _ ypa;obtain⟨e,m⟩:=ih (λu z=>hu u (yoa _ z)) t';cases r;cases r';refine⟨by rw[e],?_⟩;intro x hx
   rcases yka.mp hx with z|z
   ·exact⟨a,z⟩
   ·exact m x z
theorem all_true (n:Nat):(ysf n).all (λ_=>true)=true:=by simp
def zrob:V->List V->Hp->VK->Prop:=λx vs H Q=>Ex4 λl xs i y=>x = .ref l∧vs=[.int i,y]∧H l=some (.lst xs)∧0≤i∧i≤(xs.length:Int)∧xs.length<1000∧Q .non (upd H l (.lst (xs.take i.toNat++y::xs.drop i.toNat)))
theorem zmw:MtM X "list.insert" zrob:=by
 intro pins s σ H x vs v us Q I rx rv h;obtain⟨l,xs,i,y,rfl,rfl,hH,h0,h1,hz,q⟩:=h;cases rx;obtain⟨u,u',rfl,⟨t,rfl⟩,ru⟩:=vals2 rv;obtain⟨z,its,n,r,hl,e⟩:=I.lstM hH;have len:its.length=xs.length:=r.length.symm;refine ymk F.slot_list_insert ⟨_,e,rfl⟩ F.entry_list_insert (F.args_list_insert_3 _ _ _) (AutoListH.list_insert_list_int_val_1 l its.toArray n i t u' ?_ (by rw[yna];omega)) ⟨e,?_⟩
 ·unfold yue.List.listFitsIndex;have a:decide (-(2 ^ 63:Int)≤i)=true:=decide_eq_true (by omega);have b:decide (i<2 ^ 63)=true:=decide_eq_true (by omega);rw[a,b];decide
 ·refine⟨.non,_,I.lset (its':=its.take i.toNat++u'::its.drop i.toNat) hH e ?_ ((r.take _).append (.cons ru (r.drop _))) ?_,rfl,q⟩
  ·have k:(if i<0 then (i+((its.toArray.size:Nat):Int)).toNat else min i.toNat its.toArray.size)=i.toNat:=by
    rw[if_neg (by omega),yna];omega
   show ((its.toArray.extract 0 _).push u'++its.toArray.extract _)=_
   rw[k];apply yji.mp;simp;exact yfb (by rw[ylh];exact yha _)
  ·rw[yja,yub,ywa,ylh];have:1001≤yxa:=by decide
   omega
end
end L2
namespace L2
open PySem PySem.Spec PyProof.Rows
section
variable {κ:Type}[DecidableEq κ]
end
section
variable {P:ytb}{w:World}{H:Hp}{h:Heap}{a:Addr}
end
section
variable {X:Cx}{pins:List (Addr×Obj)}{σ:St}{H:Hp}{s:Shared}{a:Addr}{y v:V}{u r:Value}{o:Option V}{A:Around}{E:Value->Shared->Prop}
end
section
variable {X:Cx}{pins:List (Addr×Obj)}{σ:St}{H:Hp}{s:Shared}{a:Addr}{kvs:List (Key×V)}{k:Key}{u:Value}{A:Around}{E:Value->Shared->Prop}
end
section
variable {X:Cx}{o i e value:Expr}{pos pos' tpos:Pos}{td ty tv:TE}
end
section
variable {X:Cx}{pos:Pos}
end
structure M1 (X:Cx)(o:Expr)(m:Str)(apos:Pos)(e:Expr)(cpos:Pos):Prop where
 base:yri o m X.env (eval o X.env)=eval o X.env
 few:((backTo cpos (yjd [e] X.env)).all (λx=>!x.1)&&(yor cpos (yum [] X.env)).all (λx=>x.1.isSome)
  && decide (([e]:List Expr).length+([]:List ymq).length+(if ([]:List ymq).isEmpty then 0 else 1)<30))=true
 line:(apos.endLine==cpos.line)=true
 trees:backTo cpos (yjd [e] X.env)=[(false,eval e X.env)]
structure M2 (X:Cx)(o:Expr)(m:Str)(apos:Pos)(e f:Expr)(cpos:Pos):Prop where
 base:yri o m X.env (eval o X.env)=eval o X.env
 few:((backTo cpos (yjd [e,f] X.env)).all (λx=>!x.1)&&(yor cpos (yum [] X.env)).all (λx=>x.1.isSome)
  && decide (([e,f]:List Expr).length+([]:List ymq).length+(if ([]:List ymq).isEmpty then 0 else 1)<30))=true
 line:(apos.endLine==cpos.line)=true
 trees:backTo cpos (yjd [e,f] X.env)=[(false,eval e X.env),(false,eval f X.env)]
section
variable {X:Cx}{pins:List (Addr×Obj)}{σ:St}{H:Hp}{s:Shared}{a:Addr}{y d:V}{u r:Value}{o:Option V}{A:Around}{E:Value->Shared->Prop}
end
section
variable {X:Cx}{o e f:Expr}{apos cpos:Pos}{td ty tx:TE}
end
section
variable {X:Cx}{pins:List (Addr×Obj)}{σ:St}{H:Hp}{s:Shared}{a:Addr}{kvs:List (Key×V)}{A:Around}{E:Value->Shared->Prop}
end
section
variable {X:Cx}{pins:List (Addr×Obj)}{σ:St}{H:Hp}{s:Shared}{a:Addr}{y:V}{u:Value}{A:Around}{E:Value->Shared->Prop}
end
end L2
namespace L2
open PySem PyProof.Rows
section
variable {pr:ytb}{wo:World}{Ar:Around}{Ex:Value->Shared->Prop}{sh:Shared}
theorem zlbb (a:Addr):¬ ((Value.ref a==Value.none)=true):=yhb
theorem zsnb {it t:Addr}{i:Nat}{ys:Array Value}{v:Value}{R:yms->Shared->Prop}(h1:sh.heap.IsTupleIter it t i)(h2:sh.heap.IsTuple t ys)(h3:ys[i]?=some v)
  (q:∀g,g.IsTupleIter it t (i+1)->yxd it sh.heap g->R (.done (.ret v)) { sh with heap:=g }):wpAny (model pr wo) Ar (yue.«tuple_iterator.__next__» ⟨[.ref it],[]⟩) R Ex sh:=by
 obtain⟨ob,a1,a2,a3⟩:=id h1;obtain⟨ot,b1,_,nn,b3⟩:=h2;refine (show wpAny (model pr wo) Ar (field (.ref it) 0 >>= _) R Ex sh from yaa (yod a1 a3 (x:=.ref t) rfl ?_));rw[if_neg (zlbb t)];refine (show wpAny (model pr wo) Ar (field (.ref it) 1 >>= _) R Ex sh from yaa (yod a1 a3 (x:=.int i 0) rfl ?_));refine (show wpAny (model pr wo) Ar (yim (.ref t) >>= _) R Ex sh from yaa (yrg b1 b3 ?_));simp only[ysa,h3];refine yaa (wpAny_setField a1 a3 (by simp) (yda (q _ ⟨_,ygd _ a1 (Obj.isFreed_of_fields (ybq a3 _)),(Obj.cls_mapFields ..).trans a2,?_⟩ (yqe ..))));rw[ybq a3];simp[rawInt]
theorem zjt {it t:Addr}{i:Nat}{ys:Array Value}{v:Value}{R:Value->Shared->Prop}(h1:sh.heap.IsTupleIter it t i)(h2:sh.heap.IsTuple t ys)(h3:ys[i]?=some v)
  (q:∀g,g.IsTupleIter it t (i+1)->yxd it sh.heap g->R v { sh with heap:=g }):wpAny (model pr wo) Ar (yuc (.ref it)) R Ex sh:=by
 unfold yuc;exact yaa (ypc (name:=ydf "__next__") h1.typeIs ygg (yic ygg h1.typeIs ybl (zsnb h1 h2 h3 λg a b=>⟨v,rfl,yda (q g a b)⟩) (ykk _)))
theorem zxab {it t:Addr}{i:Nat}{ys:Array Value}{R:Value->Shared->Prop}(hd:Ar.handled=none)(h1:sh.heap.IsTupleIter it t i)(h2:sh.heap.IsTuple t ys)(h3:ys[i]?=none)
  (q:∀g e,ycs it sh.heap g->(∃o,g.get? e=some o∧o.cls = .type "StopIteration")->Ex (.ref e) { sh with heap:=g }):wpAny (model pr wo) Ar (yuc (.ref it)) R Ex sh:=by
 obtain⟨ob,a1,a2,a3⟩:=id h1;obtain⟨ot,b1,_,nn,b3⟩:=h2;unfold yuc;refine yaa (ypc (name:=ydf "__next__") h1.typeIs ygg (yic ygg h1.typeIs ybl ?_ (ykk _)));refine (show wpAny (model pr wo) Ar.in1 (field (.ref it) 0 >>= _) _ Ex sh from yaa (yod a1 a3 (x:=.ref t) rfl ?_));rw[if_neg (zlbb t)];refine (show wpAny (model pr wo) Ar.in1 (field (.ref it) 1 >>= _) _ Ex sh from yaa (yod a1 a3 (x:=.int i 0) rfl ?_));refine (show wpAny (model pr wo) Ar.in1 (yim (.ref t) >>= _) _ Ex sh from yaa (yrg b1 b3 ?_));simp only[ysa,h3];refine yaa (ytf (yaa (wpAny_setField a1 a3 (by simp) ?_)));refine (show wpAny (model pr wo) Ar.in1 (newExc (.type "StopIteration") [] >>= _) _ Ex _ from yaa ?_);simp only[newExc,newTuple];refine yaa (ydd ?_ (by size_fits));refine yaa (m:=yul _ _) (wpAny_of_eq (a:=Value.none) (by first|rfl|(simp only[yul];rfl)) (ydd ?_ (by size_fits)));simp only[ypr];refine yaa (wpAny_handled ?_)
 first|rw[show Ar.in1.handled=none from hd]|rw[hd]
 exact yaa (yda (wpAny_throw (q _ _ (((yqe ..).extBut.push _).push _) ⟨_,yfa _ rfl,rfl⟩)))
def En (h:Heap)(e it t:Addr)(i:Nat):Prop:=(∃old,IsEnum h e it (i:Int) old)∧h.IsTupleIter it t i∧e≠it
theorem zrpb {e it t:Addr}{i:Nat}{ys:Array Value}{v:Value}{R:Option Value->Shared->Prop}(hE:En sh.heap e it t i)(h2:sh.heap.IsTuple t ys)(h3:ys[i]?=some v)
  (q:∀g,IsEnumOut g e it ((i:Int)+1) v sh.heap.objs.size->g.IsTupleIter it t (i+1)->g.get? sh.heap.objs.size=some { cls:=.type "tuple",data:=.seq #[.int i sh.toks,v] } →
   (∀b o,b≠e->b≠it->sh.heap.get? b=some o->g.get? b=some o)->R (some (.ref sh.heap.objs.size)) { sh with heap:=g,toks:=sh.toks+1 }):wpAny (model pr wo) Ar (pyNext (.ref e)) R Ex sh:=by
 obtain⟨⟨old,he⟩,h1,ne⟩:=hE;have ty:sh.TypeIs (.ref e) "enumerate":=⟨_,he,rfl⟩;obtain⟨hp,gn,dr,tk,os⟩:=sh;unfold pyNext;refine yaa (yxi (ypc (name:=ydf "__next__") ty yuh (yic yuh ty ytn ?_ (yfn _))));refine (show wpAny (model pr wo) Ar.in1 (field (.ref e) 2 >>= _) _ _ ⟨hp,gn,dr,tk,os⟩ from yaa (yod he rfl (x:=.ref it) rfl ?_));refine yaa (zjt h1 h2 h3 λg1 i1 s1=>?_);have s1':yxd it hp g1:=s1;have e1:IsEnum g1 e it (i:Int) old:=(s1'.2 e ne).trans he;refine (show wpAny (model pr wo) Ar.in1 (field (.ref e) 3 >>= _) _ _ ⟨g1,gn,dr,tk,os⟩ from yaa (yod e1 rfl (x:=rawInt i) rfl ?_));refine (show wpAny (model pr wo) Ar.in1 (field (.ref e) 4 >>= _) _ _ ⟨g1,gn,dr,tk,os⟩ from yaa (yod e1 rfl (x:=.none) rfl ?_));refine (show wpAny (model pr wo) Ar.in1 (mkInt i >>= _) _ _ ⟨g1,gn,dr,tk,os⟩ from yaa (wpAny_mkInt ?_));refine (show wpAny (model pr wo) Ar.in1 (yym (.ref e) 3 (rawInt ((i:Int)+1)) >>= _) _ _ ⟨g1,gn,dr,tk+1,os⟩ from yaa (yxb e1 (by simp) λg2 e2 s2=>?_));have s2':yxd e g1 g2:=s2;have e2':IsEnum g2 e it ((i:Int)+1) old:=e2;refine (show wpAny (model pr wo) Ar.in1 (yym (.ref e) 4 .none >>= _) _ _ ⟨g2,gn,dr,tk+1,os⟩ from yaa (yxb e2' (by simp) λg3 e3 s3=>?_));have s3':yxd e g2 g3:=s3;have e3':IsEnum g3 e it ((i:Int)+1) old:=e3;refine (show wpAny (model pr wo) Ar.in1 (newTuple [.int i tk,v] >>= _) _ _ ⟨g3,gn,dr,tk+1,os⟩ from yaa (ysj ?_));have sz:g3.objs.size=hp.objs.size:=by rw[s3'.1,s2'.1,s1'.1]
 have lt:e<hp.objs.size:=yma he;obtain⟨g4,hg4⟩:∃g4,g4=g3.push { cls:=.type "tuple",data:=.seq #[.int i tk,v] }:=⟨_,rfl⟩;have e4:IsEnum g4 e it ((i:Int)+1) old:=by rw[hg4];exact yba _ e3'
 have t4:g4.get? hp.objs.size=some { cls:=.type "tuple",data:=.seq #[.int i tk,v] }:=by rw[hg4,← sz];exact yfa _ rfl
 have k4:∀b o,b≠e->b≠it->hp.get? b=some o->g4.get? b=some o:=λb o n1 n2 z=>by
  rw[hg4];exact yba _ (s3'.extBut b o n1 (s2'.extBut b o n1 (s1'.extBut b o n2 z)))
 have i4:g4.IsTupleIter it t (i+1):=by
  obtain⟨o,z,r⟩:=(i1.extBut s2'.extBut (ykd ne)).extBut s3'.extBut (ykd ne);exact⟨o,by rw[hg4];exact yba _ z,r⟩
 refine (show wpAny (model pr wo) Ar.in1 (yyc (.ref e) >>= _) _ _ ⟨g3.push { cls:=.type "tuple",data:=.seq #[.int i tk,v] },gn,dr,tk+1,os⟩ from ?_);rw[← hg4,sz];refine yaa ?_;unfold yyc;refine yaa (yod e4 rfl (x:=.none) rfl (yda ?_));simp only[if_true];refine yaa (ytf (yaa (yod e4 rfl (x:=old) rfl (yaa (yxb e4 (by simp) λg5 e5 s5=>?_)))));have s5':yxd e g4 g5:=s5;have e5':IsEnum g5 e it ((i:Int)+1) v:=e5;refine (show wpAny (model pr wo) Ar.in1 (yne (.ref e) (.ref hp.objs.size) >>= _) _ _ ⟨g5,gn,dr,tk+1,os⟩ from yaa ?_);unfold yne;refine yaa (yxb e5' (by simp) λg6 e6 s6=>?_);have s6':yxd e g5 g6:=s6;have e6':IsEnumOut g6 e it ((i:Int)+1) v hp.objs.size:=e6;refine yxb e6' (by simp) λg7 e7 s7=>?_;have s7':yxd e g6 g7:=s7;have up:∀b o,b≠e->g4.get? b=some o->g7.get? b=some o:=λb o n z=>s7'.extBut b o n (s6'.extBut b o n (s5'.extBut b o n z));refine yaa (yrp (yda ⟨_,rfl,yda (q g7 e7 ?_ (up _ _ (yxe lt) t4) λb o n1 n2 z=>up b o n1 (k4 b o n1 n2 z))⟩));obtain⟨o,z,r⟩:=i4;exact⟨o,up _ _ (ykd ne) z,r⟩
theorem ztsb {e it t:Addr}{i:Nat}{ys:Array Value}{R:Option Value->Shared->Prop}(hd:Ar.handled=none)(hE:En sh.heap e it t i)(h2:sh.heap.IsTuple t ys)(h3:ys[i]?=none)
  (q:∀g,ycs it sh.heap g->R none { sh with heap:=g }):wpAny (model pr wo) Ar (pyNext (.ref e)) R Ex sh:=by
 obtain⟨⟨old,he⟩,h1,ne⟩:=hE;have ty:sh.TypeIs (.ref e) "enumerate":=⟨_,he,rfl⟩;unfold pyNext;refine yaa (yxi (ypc (name:=ydf "__next__") ty yuh (yic yuh ty ytn ?_ (yfn _))));refine (show wpAny (model pr wo) Ar.in1 (field (.ref e) 2 >>= _) _ _ sh from yaa (yod he rfl (x:=.ref it) rfl ?_));refine yaa (zxab hd h1 h2 h3 λg x b z=>?_);obtain⟨o,z1,z2⟩:=z;exact yaa (yak (T:="StopIteration") (b:=true) ⟨o,z1,z2⟩ yjp (yda (q _ b)))
open AutoSeq1 (wpAny_loadPart') in
theorem zlgb (t:Addr)(ys:Array Value)(n:Nat)(dct:Option Addr)(sl:Array (Option Value)):Meets (yue.«enumerate.__new__» ⟨[.type "enumerate",.ref t],[]⟩) (λ_ R s=>s.heap.get? t=some { cls:=.type "tuple",dict:=dct,data:=.seq ys n,slots:=sl } ∧
   R (.ok (.ret (.ref (s.heap.push { cls:=.type "tuple_iterator",data:=.fields #[.ref t,.int 0 0] }).objs.size)))
    { s with heap:=(s.heap.push { cls:=.type "tuple_iterator",data:=.fields #[.ref t,.int 0 0] }).push { cls:=.type "enumerate",data:=.fields #[.none,.bool false,.ref s.heap.objs.size,rawInt 0,.none,.none] } }) :=
 .of_wp λprog w A R s h=>by
  obtain⟨hp,g,d,tk,os⟩:=s;obtain⟨ht,h⟩:=h;have hsub:=sub_enumerate;have hT:Heap.IsTuple (yds ⟨hp,g,d,tk,os⟩) t ys:=⟨_,ht,rfl,n,rfl⟩
  wp_walk using wpAny_loadPart' ht
  refine wpAny_stack_any λst=>yda ?_
  split
  ·rename_i c _ _ _ _ _;cases (c==Value.type "enumerate")
   ·wp_walk using wpAny_loadPart' ht,yff hT
    exact⟨_,rfl,h⟩
   ·wp_walk using wpAny_loadPart' ht,yff hT
    exact⟨_,rfl,h⟩
  ·wp_walk using wpAny_loadPart' ht,yff hT
   exact⟨_,rfl,h⟩
theorem zxdb {t:Addr}{ys:Array Value}{R:Value->Shared->Prop}(hT:sh.heap.IsTuple t ys)
  (q:∀g,En g (sh.heap.objs.size+1) sh.heap.objs.size t 0->(∀b o,sh.heap.get? b=some o->g.get? b=some o)->R (.ref (sh.heap.objs.size+1)) { sh with heap:=g }) :
  wpAny (model pr wo) Ar (call (.type "enumerate") [.ref t]) R Ex sh:=by
 obtain⟨⟨c,dct,dt,sl⟩,ht,hc,n,hd⟩:=hT;have hc':c = .type "tuple":=hc;have hd':dt = .seq ys n:=hd;subst hc' hd';refine callType_new F.called_enumerate (by decide) (F.typeCall_enumerate_1 _) (F.newCall_enumerate_1 _) (λobj=>F.args_object_init_2 obj _) F.entry_enumerate_new (zlgb t ys n dct sl) ⟨ht,?_⟩;obtain⟨g1,hg1⟩:∃g1,g1=sh.heap.push { cls:=.type "tuple_iterator",data:=.fields #[.ref t,.int 0 0] }:=⟨_,rfl⟩;have sz:g1.objs.size=sh.heap.objs.size+1:=by rw[hg1];exact yjc ..
 show _∧_
 rw[← hg1,sz];have he:IsEnum (g1.push { cls:=.type "enumerate",data:=.fields #[.none,.bool false,.ref sh.heap.objs.size,rawInt 0,.none,.none] }) (sh.heap.objs.size+1) sh.heap.objs.size ((0:Nat):Int) .none:=by
  have z:=yfa g1 (o:={ cls:=.type "enumerate",data:=.fields #[.none,.bool false,.ref sh.heap.objs.size,rawInt 0,.none,.none] }) rfl;rw[sz] at z;exact z
 refine⟨⟨_,he,rfl⟩,q _ ⟨⟨_,he⟩,⟨_,yba _ (by rw[hg1];exact yfa _ rfl),rfl,rfl⟩,Nat.succ_ne_self _⟩ λb o x=>yba _ (by rw[hg1];exact yba _ x)⟩
theorem zvw {e it t:Addr}{i:Nat}{R:Value->Shared->Prop}(h:En sh.heap e it t i)(q:R (.ref e) sh):wpAny (model pr wo) Ar (pyIter (.ref e)) R Ex sh:=by
 obtain⟨⟨old,he⟩,_,_⟩:=h;exact wpAny_pyIter_enum he q
end
section
variable {X:Cx}{pins:List (Addr×Obj)}{σ:St}{H:Hp}{s:Shared}{h':Heap}
theorem Inv.zpnb {t':Nat}{p q:Addr}(I:Inv X pins σ H s)(k:∀b o,b≠p->b≠q->s.heap.get? b=some o->h'.get? b=some o)(fp:FpOk X pins H p)(fq:FpOk X pins H q):Inv X pins σ H { s with heap:=h',toks:=t' }:=by
 have o1:∀b u,H b=some u->b≠p:=λb u e z=>by
  rw[z,fp.1] at e;cases e
 have o2:∀b u,H b=some u->b≠q:=λb u e z=>by
  rw[z,fq.1] at e;cases e
 have kk:∀b o,b∉[p,q]->s.heap.get? b=some o->h'.get? b=some o:=λb o hb e=>k b o (λz=>hb (by simp[z])) (λz=>hb (by simp[z])) e;refine I.step (g':=s.gens) (d':=s.drawn) (ch:=[p,q]) (λb hb=>?_) (λb o _ _ hc e _=>kk b o hc e) (λb o _ _ hc e _=>⟨o.slots,kk b o hc e⟩) (λ_ _ _ _ n=>n)
  (λb o hc e=>⟨o,kk b o hc e⟩) (λ_ _ e=>e) (λ_ _ _ e=>e) (λb ps e=>⟨#[],by rw[e];simp⟩) (λm hm=>?_) (λb u e=>?_) I.bare
 ·have e:b=p∨b=q:=by simpa using hb
  rcases e with e|e
  ·rw[e];exact⟨fp.2.2.2.1,fp.2.1,fp.2.2.2.2.1,fp.2.2.2.2.2⟩
  ·rw[e];exact⟨fq.2.2.2.1,fq.2.1,fq.2.2.2.2.1,fq.2.2.2.2.2⟩
 ·obtain⟨o,es,ep,ho,r⟩:=hm;exact⟨o,es,ep,k _ o (ykd fp.2.1) (ykd fq.2.1) ho,r⟩
 ·refine (I.hok b u e).stay (λc v hc z=>?_) (λ_ z=>z) λ_ _ z=>z
  rcases hc with y|y
  ·rw[y];rw[y] at z;exact k b v (o1 b u e) (o2 b u e) z
  ·exact k c v (o1 c _ y) (o2 c _ y) z
end
def Ite (K:yea)(a:Addr):It :=
 ⟨λi H=>Ex2 λxs x=>SqT K H a xs∧xs[i]?=some x,λi H x H'=>Ex2 λp v=>H p=none∧x = .ref p∧H'=upd H p (.tup [.int (i:Int),v])∧∀xs,SqT K H a xs->xs[i]?=some v,λi H=>∃xs,SqT K H a xs∧xs.length≤i⟩
theorem zncb {P:ytb}{w:World}{K:yea}{es:List Expr}{k1:Nat}{pos:Pos}(a e it:Addr):Turn P w K (.Tuple es k1 pos) (Ite K a) [e,it] e (λi h=>En h e it a i) where
 mem:=by simp
 obj:=λi h st b hb=>by
  have z:b=e∨b=it:=by simpa using hb
  obtain⟨⟨old,he⟩,⟨o,g1,g2,g3⟩,_⟩:=st
  rcases z with rfl|rfl
  ·exact⟨_,he,λv y=>by cases y⟩
  ·exact⟨o,g1,λv y=>by rw[g3] at y;cases y⟩
 keep:=λi h h' st k=>by
  obtain⟨⟨old,he⟩,⟨o,g1,g2⟩,n⟩:=st;exact⟨⟨old,k e (by simp) _ he⟩,⟨o,k it (by simp) _ g1,g2⟩,n⟩
 item:=by
  intro X hP hw hK hc i pins s σ H E I hf st hg;subst hP hw hK;obtain⟨xs,x,hq,hx⟩:=hg;obtain⟨its,rv,p,hz⟩:=I.tuple hq;obtain⟨u,hu,ru⟩:=rv.get hx;have fe:=hf e (by simp);have fi:=hf it (by simp);have ne:=st.2.2;refine zrpb st (show s.heap.IsTuple a its.toArray from p) (v:=u) (by simpa using hu) λg e1 i1 t1 k1=>?_;refine⟨_,rfl,wpAny_letOwnedTupleGo_enum e1 λg2 e2 s2=>?_⟩;have lt1:e<s.heap.objs.size:=by
   obtain⟨⟨old,he⟩,_⟩:=st;exact yma he
  have lt2:it<s.heap.objs.size:=by
   obtain⟨_,⟨o,g1,_⟩,_⟩:=st;exact yma g1
  have kk:∀b o,b≠e->b≠it->s.heap.get? b=some o->g2.get? b=some o:=λb o n1 n2 z=>s2.extBut b o n1 (k1 b o n1 n2 z);have tt:g2.get? s.heap.objs.size=some { cls:=.type "tuple",data:=.seq #[.int i s.toks,u] }:=s2.extBut _ _ (yxe lt1) t1;have na:∀b,b<s.heap.objs.size->b≠s.heap.objs.size:=λb h=>yab h;have I1:Inv X pins σ (upd H s.heap.objs.size (.tup [.int (i:Int),x])) { s with heap:=s.heap.push { cls:=.type "tuple",data:=.seq #[.int i s.toks,u] },toks:=s.toks+1 } :=
   I.laid (t':=s.toks+1) (λb o z=>yba _ z) (yha _) ⟨by show 2≤yxa;decide,[.int i s.toks,u],.cons ⟨_,rfl⟩ (.cons ru .nil),⟨_,yfa _ rfl,rfl,_,rfl⟩⟩
  have fo:∀b,b<s.heap.objs.size->FpOk X pins H b->FpOk X pins (upd H s.heap.objs.size (.tup [.int (i:Int),x])) b:=λb h f=>⟨by rw[zta (na b h)];exact f.1,f.2⟩;have I2:=I1.zpnb (h':=g2) (t':=s.toks+1) (p:=e) (q:=it) (λb o n1 n2 z=>by
   by_cases hb:b=s.heap.objs.size
   ·rw[hb] at z ⊢;rw[yfa _ rfl] at z;cases z;exact tt
   ·rw[ytq _ _ _ hb] at z;exact kk b o n1 n2 z) (fo e lt1 fe) (fo it lt2 fi)
  refine⟨.ref s.heap.objs.size,_,I2,rfl,⟨s.heap.objs.size,x,I.hok.fresh (yha _),rfl,rfl,λys hy=>by rw[I.zpo hy hq];exact hx⟩,⟨⟨u,e2⟩,?_,ne⟩,λb hb=>?_⟩
  ·obtain⟨o,z,r⟩:=i1;exact⟨o,s2.extBut _ _ (ykd ne) z,r⟩
  ·have z:b=e∨b=it:=by simpa using hb
   rcases z with rfl|rfl
   ·exact (fo _ lt1 fe).1
   ·exact (fo _ lt2 fi).1
 done:=by
  intro X hP hw hK hc i pins s σ H E I hf st hg;subst hP hw hK;obtain⟨xs,hq,hx⟩:=hg;obtain⟨its,rv,p,hz⟩:=I.tuple hq;obtain⟨f0,f1,f2,f3,f4,f5⟩:=hf it (by simp);have hl:=rv.length;exact ztsb (I.ok.hd hc) st (show s.heap.IsTuple a its.toArray from p) (by simp;omega) λg eb=>⟨rfl,I.turned (t':=s.toks) (λb o hb z=>eb b o hb z) f0 f1 f3 f4 f5⟩
 self:=λ_ _ _ _ _ st h=>zvw st h
section
variable {X:Cx}
theorem zvhb:yph "enumerate" = some (.type "enumerate"):=by decide +kernel
def iEnT (K:yea)(ta:TA):TI:=fun σ H R=>ta σ H λvs H1=>Ex2 λa xs=>vs=[.ref a]∧SqT K H1 a xs∧R (Ite K a) H1
theorem zzn {es:List Expr}{k1:Nat}{tp:Pos}{a:Expr}{ta:TA}{p pos:Pos}(hg:Gl X "enumerate")(hm:X.mg "enumerate" = none)(ha:PA X [a] ta)(hs:yjd [a] X.env=[(false,eval a X.env)]:=by rfl):PI X (.Tuple es k1 tp) (.Call (.Name "enumerate" p) [a] [] pos) (iEnT X.K ta):=by
 intro pins s σ H R I h;refine Call_ (zbs I hg hm zvhb (yxf (thn (ha pos pins s σ H _ I h) λus s1 ⟨vs,H1,I1,r1,q1⟩=>?_) hs rfl));obtain⟨b,xs,e,hq,q⟩:=q1;subst e;obtain⟨u,rfl,ru⟩:=vals1 r1;cases ru;obtain⟨its,rv,pl,hz⟩:=I1.tuple hq;refine zxdb (show s1.heap.IsTuple b its.toArray from pl) λg en kp=>?_;refine zvw (sh:={ s1 with heap:=g }) en ?_;refine⟨s1.heap.objs.size+1,[s1.heap.objs.size+1,s1.heap.objs.size],_,_,H1,rfl,I1.kept (t':=s1.toks) kp,zncb b _ _,en,λc hc=>?_,q⟩;have z:c=s1.heap.objs.size+1∨c=s1.heap.objs.size:=by simpa using hc
 rcases z with rfl|rfl
 ·exact I1.fpOk (yif _) (I1.hok.fresh (yif _))
 ·exact I1.fpOk (yha _) (I1.hok.fresh (yha _))
end
theorem zbx {K:yea}{a:Addr}{xs:List V}{g:TG}{tb:TS}{D:Ends}{σ:St}{H:Hp}(Pv:Nat->St->Hp->Prop)(h0:Pv 0 σ H)(hl:∀i σ H,i≤xs.length->Pv i σ H->SqT K H a xs)
  (hs:∀i x σ H p,xs[i]?=some x->Pv i σ H->H p=none->g (.ref p) σ (upd H p (.tup [.int (i:Int),x])) fun σ2 H2=>tb { D with nx:=Pv (i+1),ct:=Pv (i+1),bk:=D.nx } σ2 H2) (hd:∀ σ H,Pv xs.length σ H->D.nx σ H) :
  ∃W:Nat->Nat->St->Hp->Prop,(∃m,W 0 m σ H)∧∀i m σ H,W i m σ H →
   ((Ite K a).stop i H∧D.nx σ H)∨((Ite K a).go i H∧∃N:St->Hp->Prop,(∀ σ' H',N σ' H'->∃m',m'<m∧W (i+1) m' σ' H')∧∀x H',(Ite K a).yld i H x H'->g x σ H' fun σ2 H2=>tb { D with nx:=N,ct:=N,bk:=D.nx } σ2 H2):=by
 refine⟨λi m σ H=>m=xs.length-i∧i≤xs.length∧Pv i σ H,⟨xs.length,rfl,ycb _,h0⟩,?_⟩;rintro i m σ H ⟨rfl,hi,pv⟩;have sq:=hl i σ H hi pv
 by_cases lt:i<xs.length
 ·have ex:xs[i]?=some xs[i]:=ybb lt;refine .inr ⟨⟨xs,xs[i],sq,ex⟩,Pv (i+1),fun σ' H' z=>⟨xs.length-(i+1),by omega,rfl,lt,z⟩,λx H' y=>?_⟩;obtain⟨p,v,hp,rfl,rfl,hv⟩:=y;exact hs i v σ H p (hv xs sq) pv hp
 ·obtain rfl:i=xs.length:=by omega
  exact .inl ⟨⟨xs,sq,yha _⟩,hd σ H pv⟩
end L2
namespace L2
open PySem PyProof.Rows
section
variable {X:Cx}{e st:Expr}{te ts:TE}{p2 pos:Pos}
end
end L2
namespace DL
open PySem PySem.Spec PyProof.Rows
section
variable {prog:ytb}{w:World}{A:Around}{E:Value->Shared->Prop}{s:Shared}
section
variable {κ:Type}[DecidableEq κ]{knd:KeyKind prog w κ}
end
end
end DL
namespace L2
open PySem PyProof.Rows
section
variable {X:Cx}
theorem zblb {A:Around}{pins:List (Addr×Obj)}{σ:St}{H:Hp}{s:Shared}(I:Inv X pins σ H s)(hu:A.units+8<cLine){a b:Addr}{us:List V}(ha:SqL X.K H a us)(hb:SqL X.K H b us)(hr:∀u∈us,∃c,u = .ref c):yfe A s (.ref a) (.ref b) true:=by
 by_cases ne:a=b
 ·subst ne;exact eq_self _ _ _
 ·obtain⟨i1,v1,p1,_⟩:=I.list ha;obtain⟨i2,v2,p2,_⟩:=I.list hb;obtain⟨rfl,hm⟩:=zxcb hr v1 v2;have z:=SeqAt.RcAt.lists (A:=A) (s:=s) (e:=λ_=>true) p1.isList p2.isList rfl (by omega) λj h1 h2=>by
   obtain⟨c,e⟩:=hm i1.toArray[j] (by simp);rw[e];exact eq_self _ _ c
  rw[all_true] at z;exact yfe.of_refs ne z
end
end L2
namespace SSet
open PySem PySem.Spec PyProof.Rows
section
variable {prog:ytb}{w:World}{A:Around}{E:Value->Shared->Prop}{s:Shared}
theorem set_tuple {l:Addr}{its:Array Value}{xs:List Str}{Q:Value->Shared->Prop}(hh:A.handled=none)(hl:s.heap.IsTuple l its)(hi:ysl its.toList xs)(hb:its.size+1<yag)
  (h:∀(h':Heap) (tk:Nat),SS prog w h' s.heap.objs.size (dd xs) (!w.params.followText "set-order")->(∀c o,s.heap.get? c=some o->h'.get? c=some o)->Q (.ref s.heap.objs.size) { s with heap:=h',toks:=tk }) :
  wpAny (model prog w) A (call (.type "set") [.ref l]) Q E s:=by
 obtain⟨cM,tM,mro⟩:=yib.mro;have made:=yib.made;have subs:=yib.sub;have notT:=yib.notType;have canC:=yib.canCreate;have chk:=ycj (.ref l);refine ycp (yvk ?_);show wpAny _ _ (callAny (.type "set") ⟨[.ref l],[]⟩) _ _ _
 refine yda ⟨yvi _ (by decide +kernel),yxc ywi ?_⟩;rw[ynl (ytj "set" [Value.ref l] []) rfl]
 repeat (any_goals (first|assumption|wp_step))
 refine yjg (zdz (.ref l) (E:=E) (Q1:=λob s1=>ob = .ref s.heap.objs.size∧s1={ s with heap:=s.heap.push (empt w) }) ⟨rfl,rfl⟩) λr s1 hr=>?_;cases r with
 | error e=>exact hr
 | ok fl =>
  cases fl with
  | ret ob =>
   obtain⟨rfl,rfl⟩:=hr;have g0:(s.heap.push (empt w)).get? s.heap.objs.size=some (empt w):=yfa _ rfl;have ty0:yzh { s with heap:=s.heap.push (empt w) } (.ref s.heap.objs.size) "set":=⟨_,g0,rfl⟩;have lk:=yib.init.lookup;have bd:=yib.init.bind (.ref s.heap.objs.size)
   repeat (any_goals (first|assumption|wp_step))
   refine yjg (yek (R:=wants (λr s2=>r = .none∧∃h' tk,s2={ s with heap:=h',toks:=tk }∧SS prog w h' s.heap.objs.size (dd xs) (!w.params.followText "set-order") ∧
     (∀c o,s.heap.get? c=some o->h'.get? c=some o)) E) yib.init.plain ydj (yon ty0 ?_)) λr2 s2 hr2=>?_
   ·obtain⟨ol,e1,e2,nl,e3⟩:=hl;obtain⟨oc,od,oD,osl⟩:=ol;dsimp only at e2 e3;subst e2 e3;have e1':(s.heap.push (empt w)).get? l=some { cls:=.type "tuple",dict:=od,data:=.seq its nl,slots:=osl }:=yba _ e1;have q1:=yuo;have q2:=ycl;have q3:(Value.type "tuple" == Value.type "dict")=false:=by decide
    have L1:(s.heap.push (empt w)).IsTuple l its:=⟨_,e1',rfl,nl,rfl⟩;have lt:l<s.heap.objs.size:=yma e1;unfold yue.«set.__init__» noKeywords yoh;generalize hPI:pyIter=PI
    wp_walk
    subst hPI;refine yff L1 (yaa (yhi ?_));have ne:l≠(s.heap.push (empt w)).objs.size:=by
     rw[yjc];exact yab (yhe lt)
    have nf:s.heap.objs.size∉[(s.heap.push (empt w)).objs.size,l]:=by
     rw[yjc];intro z
     rcases yka.mp z with z|z
     ·exact absurd z (yab (yhf _))
     ·exact absurd (yia.mp z) (yxe lt)
    have hv:∀(i:Nat) (v:Value),its[i]?=some v->∃x t,xs[i]?=some x∧v = .str x t:=λi v e=>zfy hi i v (by rw[yfc];exact e);have hx:xs.take its.size=xs:=yfb (by rw[← yra,hi.length];exact yha _);refine zxn (b:=!w.params.followText "set-order") (Walks.tuple (by simp[hh]) _ l ne its) nf xs hv hb (its.size-0) 0 _ (by omega) (ycb _) ⟨⟨_,yfa _ rfl,rfl,rfl⟩,L1.push _⟩ ?S0 ?R0
    case S0=>exact (zlhb s.heap).keep λo e=>yba _ e
    case R0 =>
     intro h' tk S' keep;rw[hx] at S';show wpAny _ _ _ _ _ _
     refine yda ?_;show wpAny _ _ (ret Value.none) _ _ _
     refine yda ⟨rfl,h',tk,rfl,S',λc o e=>?_⟩;have clt:=yma e;refine keep c o ?_ (yba _ (yba _ e));rw[yjc];intro z
     rcases yka.mp z with z|z
     ·exact absurd z (yab clt)
     ·exact absurd (yia.mp z) (yab (yhe clt))
   ·cases r2 with
    | error e=>exact hr2
    | ok fl2 =>
     cases fl2 with
     | ret r =>
      obtain⟨rfl,h',tk,rfl,S',keep⟩:=hr2
      repeat (any_goals (first|assumption|wp_step))
      exact h _ _ S' keep
     | next=>exact hr2.elim
     | brk=>exact hr2.elim
     | cont=>exact hr2.elim
  | next=>exact hr.elim
  | brk=>exact hr.elim
  | cont=>exact hr.elim
end
end SSet
namespace L2
open PySem PyProof.Rows
section
variable {X:Cx}
theorem zgx (hc:X.calm=true):zsf X (.type "set") (λxs H Q=>∃p ys,xs=[.ref p]∧SqT X.K H p (ys.map V.str)∧ys.length≤1000∧∀l,H l=none->Q (.ref l) (upd H l (setO X l (SSet.dd ys)))):=by
 intro pins s σ H xs us Q I r h;obtain⟨p,ys,rfl,hq,hy,q⟩:=h;obtain⟨u,rfl,ru⟩:=vals1 r;cases ru;obtain⟨its,rv,pl,hz⟩:=I.tuple hq;have sy:=zgl rv;have il:its.length=ys.length:=sy.length;refine SSet.set_tuple (xs:=ys) (I.ok.hd hc) pl (by simpa using sy) (by rw[yna,il];have:yag=4096:=rfl;omega) λh' tk S k=>?_;have I1:Inv X pins σ (upd H s.heap.objs.size (setO X s.heap.objs.size (SSet.dd ys))) { s with heap:=h',toks:=tk }:=I.laid (t':=tk) (λb o e=>k b o e) (yha _) ⟨S,let ⟨o,_,_,_,e,_⟩:=S;⟨o,e⟩,λh1 h2 x y=>x.keep y⟩;exact⟨.ref s.heap.objs.size,_,I1,rfl,q _ (I.hok.fresh (yha _))⟩
end
end L2
namespace L2
open PySem PySem.Spec PyProof.Rows PySem.MeetsSeq
theorem zbtb (l b:Addr)(items items2:Array Value)(n n2:Nat)(dd dd2:Option Addr)(sl sl2:Array (Option Value))(hc0:items.isEmpty=true) :
  Meets (yue.«tuple.__add__» ⟨[.ref l,.ref b],[]⟩) (λ_ R s=>s.heap.get? l=some { cls:=.type "tuple",dict:=dd,data:=.seq items n,slots:=sl }∧s.heap.get? b=some { cls:=.type "tuple",dict:=dd2,data:=.seq items2 n2,slots:=sl2 }∧R (.ok (.ret (Value.ref b))) s):=by
 refine .of_wp λprog w A R s h=>?_;obtain⟨hp,g,d,tk,os⟩:=s;obtain⟨hl,hb,h⟩:=h;have f2:=PySem.F.sub_tuple_tuple;unfold yue.«tuple.__add__»
 wp_walk using wpAny_loadPart' hl,wpAny_loadPart' hb
 exact⟨_,rfl,h⟩
section
variable {X:Cx}
def zgrb (K:yea):R2:=λx y H Q=>Ex4 λa b xs ys=>x = .ref a∧y = .ref b∧SqT K H a xs∧SqT K H b ys∧ys≠[]∧xs.length+ys.length≤yxa∧(xs=[]->Q (.ref b) H)∧(xs≠[]->∀p,H p=none->Q (.ref p) (upd H p (.tup (xs++ys))))
theorem zbt:OpR X (yqi .Add) (zgrb X.K):=by
 intro pins s σ H x y v u Q I rx ry h;obtain⟨a,b,xs,ys,rfl,rfl,ha,hb,hy,hz,q1,q2⟩:=h
 by_cases c:xs=[]
 ·subst c;cases rx;cases ry;obtain⟨its,r1,p1,_⟩:=I.tuple ha;obtain⟨its2,r2,p2,_⟩:=I.tuple hb;cases r1;obtain⟨⟨cls,dd,data,sl⟩,ho,hc,n,hd⟩:=id p1;obtain⟨⟨cls2,dd2,data2,sl2⟩,ho2,hc2,n2,hd2⟩:=id p2;simp only at hc hd hc2 hd2;subst hc hd hc2 hd2;exact yfo ⟨_,ho,rfl⟩ ⟨_,ho2,rfl⟩ yzj ywm ynh ygh (yug _ _)
   (zbtb a b _ its2.toArray n n2 dd dd2 sl sl2 rfl) ⟨ho,ho2,⟨.ref b,H,I,rfl,q1 rfl⟩⟩
 ·exact zzi pins s σ H (.ref a) (.ref b) v u Q I rx ry ⟨a,b,xs,ys,rfl,rfl,ha,hb,c,hz,λz=>absurd z hy,λ_=>q2 c⟩
end
end L2
namespace L2
open PySem PyProof.Rows
section
variable {X:Cx}
end
end L2
namespace DK
open PySem PySem.Spec PyProof.Rows
section
variable {prog:ytb}{w:World}{A:Around}{E:Value->Shared->Prop}{s:Shared}
end
end DK
namespace L2
open PySem PyProof.Rows
section
variable {X:Cx}{pins:List (Addr×Obj)}{σ:St}{H:Hp}{s:Shared}
end
section
variable {X:Cx}
end
end L2
namespace L2
open PySem PyProof.Rows
section
variable {X:Cx}
theorem zzfb (hu:X.A.units+64<cLine):OpR X (yzd .NotIn) (λx y H Q=>Ex2 λd ds=>DV X.K H x d∧DV X.K H y (.list ds)∧ysc d=true∧ysc (.list ds)=true∧d.depth≤8∧Q (.bl (!ds.any λe=>yyh e d)) H):=by
 intro pins s σ H x y v u Q I rx ry h;obtain⟨d,ds,hd,he,s1,s2,dp,q⟩:=h;obtain⟨as,r1⟩:=hd.reads I rx;obtain⟨bs,r2⟩:=he.reads I ry;have c2:=yeg s2;rw[ycd] at c2;exact SeqAt.notIn_list_reads r2 r1 c2 (yeg s1) (by have:=yln (ycc ds) d.depth;omega) ⟨.bl _,H,I,rfl,q⟩
theorem zcdb (K:yea)(hu:X.A.units+64<cLine)(hK:X.K=K:=by rfl):OpR X (yzd .NotIn) (λx y H Q=>Ex2 λd ds=>DV K H x d∧DV K H y (.list ds)∧ysc d=true∧ysc (.list ds)=true∧d.depth≤8∧Q (.bl (!ds.any λe=>yyh e d)) H):=hK▸zzfb hu
theorem zgm:∀{as:List Addr} {is:List Value},Vals (as.map V.ref) is->is=as.map Value.ref
 | [],_,.nil=>rfl
 | a::r,_,.cons h t=>by
  cases h;rw[zgm t];rfl
end
end L2
namespace L2
open PySem PyProof.Rows
section
open PySem.SeqAt PySem.MeetsSeq
open AutoSeq1 (wpAny_loadPart')
theorem zdrb (q:Addr)(ys:Array Value)(c:Nat)(z:Value)(f:Value->Bool)(j:Nat)(lt:j<ys.size)(yes:f ys[j]=true)(le:ys.size≤yxa)(k:Nat):∀i:Nat,j-i=k->i≤j->(∀m (hm:m<ys.size),i≤m->m<j->f ys[m]=false) →
  Meets (yue.«list.remove.loop» ⟨[.ref q,z,rawInt i],[]⟩) (λA R s=>s.heap.get? q=some { cls:=.type "list",data:=.seq ys c }∧(∀y,y∈ys->EqAt A.in1 s y z (f y))∧R (.ok (.ret .none)) { s with heap:=s.heap.update q (ywd λu=>u.eraseIdxIfInBounds j) }):=by
 induction k with
 | zero =>
  intro i ek il no pr wo A R sh h;obtain⟨hp,g,d,tk,os⟩:=sh;obtain⟨hq,hf,h⟩:=h;obtain rfl:i=j:=by omega
  wp_walk using wpAny_loadPart' hq
  rw[show ys[((i:Nat):Int).toNat]?=some ys[i] by simp[lt]];refine yaa (hf _ (yuq lt) pr wo _ _ ?_);rw[yes];have z':(ys.eraseIdxIfInBounds i).size≤yxa+1:=yqb (MeetsSeq.size_erased ys _) (ybh le)
  wp_walk using (yzi hq rfl (hz:=le) (_hz':=z')),wpAny_loadPart' hq
  simpa using h
 | succ k ih =>
  intro i ek il no pr wo A R sh h;obtain⟨hp,g,d,tk,os⟩:=sh;obtain⟨hq,hf,h⟩:=h;have li:i<ys.size:=by omega
  wp_walk using wpAny_loadPart' hq
  rw[show ys[((i:Nat):Int).toNat]?=some ys[i] by simp[li]];refine yaa (hf _ (yuq li) pr wo _ _ ?_);rw[no i li (yha _) (by omega)]
  wp_walk
  rw[show ((i:Int)+1)=((i+1:Nat):Int) by omega];exact⟨ybf yoj _,yxc entry_remove_loop (by
   rw[ybd yoj _];exact ih (i+1) (by omega) (by omega) (λm hm a b=>no m hm (by omega) b) pr wo A R _ ⟨hq,hf,h⟩)⟩
theorem zerb (q:Addr)(ys:Array Value)(c:Nat)(z:Value)(f:Value->Bool)(j:Nat)(lt:j<ys.size)(yes:f ys[j]=true)(no:∀m (hm:m<ys.size),m<j->f ys[m]=false)(le:ys.size≤yxa) :
  Meets (yue.«list.remove» ⟨[.ref q,z],[]⟩) (λA R s=>s.heap.get? q=some { cls:=.type "list",data:=.seq ys c }∧(∀y,y∈ys->EqAt A.in1 s y z (f y))∧R (.ok (.ret .none)) { s with heap:=s.heap.update q (ywd λu=>u.eraseIdxIfInBounds j) }):=by
 intro pr wo A R sh h;obtain⟨hp,g,d,tk,os⟩:=sh;obtain⟨hq,hf,h⟩:=h
 wp_walk using wpAny_loadPart' hq
 exact⟨ybf yoj _,yxc entry_remove_loop (by
  rw[ybd yoj _];exact zdrb q ys c z f j lt yes le _ 0 rfl (ycb _) (λm hm _ b=>no m hm b) pr wo A R _ ⟨hq,hf,h⟩)⟩
end
section
variable {X:Cx}
def zqob (X:Cx):V->List V->Hp->VK->Prop:=λx vs H Q=>Ex7 λ(l:Addr) (xs:List V) (u:V) (d:PyData) (ds:List PyData) (j:Nat) (dj:PyData)=>x = .ref l∧vs=[u]∧H l=some (.lst xs)∧DV X.K H (.ref l) (.list ds)∧DV X.K H u d∧ysc d=true∧ysc (.list ds)=true∧d.depth≤8∧ds[j]?=some dj∧yyh dj d=true∧(∀(m:Nat) (dm:PyData),m<j->ds[m]?=some dm->yyh dm d=false)∧Q .non (upd H l (.lst (xs.eraseIdx j)))
theorem zmdb (hu:X.A.units+64<cLine):MtM X "list.remove" (zqob X):=by
 intro pins s σ H x vs v us Q I rx rv h;obtain⟨l,xs,u,d,ds,j,dj,rfl,rfl,hH,hD,hd,s1,s2,dp,ej,yes,no,q⟩:=h;obtain⟨as,r2⟩:=hD.reads I rx;cases rx;obtain⟨w,rfl,rw'⟩:=rv.one;obtain⟨bs,r1⟩:=hd.reads I rw';obtain⟨z,its,n,r,hl,e⟩:=I.lstM hH;have c2:=yeg s2;rw[ycd] at c2;have c1:=yeg s1;have al:∃as',ReadsAll s.heap its.toArray.toList ds as':=by
  cases r2 with
  | list h1 h2 h3 h4 =>
   rw[e] at h1;cases h1;injection h3 with h3 _
   subst h3;exact⟨_,h4⟩
 obtain⟨as',rs⟩:=al;have mp:=SeqAt.readsAll_map ds _ _ c2 rs;have at_:∀(m:Nat) (hm:m<its.toArray.size),ds[m]?=some (ydr s.heap its.toArray[m]):=λm hm=>by
  rw[← mp,yla,yfc,yeb hm];rfl
 have jl:j<its.toArray.size:=by
  have z:=(yga.mp ej).1;rw[← mp,yca,yra] at z;exact z
 have ey:=SeqAt.items_eqAt (A:=X.A) rs r1 c2 c1 (by have:=yln (ycc ds) d.depth;omega);refine ymk F.slot_list_remove ⟨_,e,rfl⟩ F.entry_list_remove (F.args_list_remove_2 _ _)
  (zerb l its.toArray n w (λy=>yyh (ydr s.heap y) d) j jl ?_ ?_ (by rw[yna];omega)) ⟨e,ey,?_⟩
 ·have y:=at_ j jl;rw[ej] at y;injection y with y
  show yyh (ydr s.heap its.toArray[j]) d=true
  rw[← y];exact yes
 ·exact λm hm lt=>no m _ lt (at_ m hm)
 ·refine⟨.non,_,I.lset (its':=its.eraseIdx j) hH e ?_ (r.eraseIdx j) ?_,rfl,q⟩
  ·show its.toArray.eraseIdxIfInBounds j=(its.eraseIdx j).toArray;rw[List.eraseIdxIfInBounds_toArray]
  ·have:=zpw xs j;omega
end
section
open TSort
end
section
variable {pr:ytb}{wo:World}{A:Around}{R:Result->Shared->Prop}{I S:Addr}{fp wr:List Addr}{n:Nat}{P:Nat->Value->Prop}{St:Nat->Heap->Prop}{h0:Heap}
end
section
variable {pr:ytb}{wo:World}{A:Around}{E:Value->Shared->Prop}{s:Shared}
end
section
variable {X:Cx}
end
end L2
namespace ISet
open PySem PySem.Spec PyProof.Rows
def Rise (xs:Array Nat):Prop:=xs.toList.Pairwise (· < ·)
theorem Rise.at {xs:Array Nat}(h:Rise xs){i j:Nat}(hij:i<j)(hj:j<xs.size):xs[i]<xs[j]:=by
 have z:=yqg.mp h i j (by simp;omega) (by simp;omega) hij
 simpa using z
theorem znpb {xs:Array Nat}(h:Rise xs)(j:Nat):∀(fuel lo hi:Nat),hi≤xs.size->lo≤hi->hi-lo≤fuel->(∀i (hi':i<xs.size),i<lo->xs[i]<j)->(∀i (hi':i<xs.size),hi≤i->j≤xs[i]) →
  yvf xs j fuel lo hi≤xs.size∧(∀i (hi':i<xs.size),i<yvf xs j fuel lo hi->xs[i]<j)∧(∀i (hi':i<xs.size),yvf xs j fuel lo hi≤i->j≤xs[i]):=by
 intro fuel
 induction fuel with
 | zero =>
  intro lo hi h1 h2 h3 h4 h5;have e:lo=hi:=by omega
  subst e;unfold yvf;exact⟨h1,h4,h5⟩
 | succ n ih =>
  intro lo hi h1 h2 h3 h4 h5;unfold yvf
  by_cases c:lo<hi
  ·rw[if_pos c];have hm:(lo+hi) / 2<xs.size:=(by omega);have eg:xs.getD ((lo+hi) / 2) j=xs[(lo+hi) / 2]:=by
    rw[yzf,yeb hm];rfl
   dsimp only;rw[eg]
   by_cases c2:xs[(lo+hi) / 2]<j
   ·rw[if_pos c2];refine ih _ _ h1 (by omega) (by omega) (λi hi' hl=>?_) h5
    rcases yeh i ((lo+hi) / 2) with z|z
    ·exact Nat.lt_trans (h.at z hm) c2
    ·have e:i=(lo+hi) / 2:=by omega
     subst e;exact c2
   ·rw[if_neg c2];refine ih _ _ (by omega) (by omega) (by omega) h4 (λi hi' hl=>?_)
    rcases yeh ((lo+hi) / 2) i with z|z
    ·have:=h.at z hi';omega
    ·have e:i=(lo+hi) / 2:=by omega
     subst e;omega
  ·rw[if_neg c];have e:lo=hi:=(by omega);subst e;exact⟨h1,h4,h5⟩
theorem ztm {xs:Array Nat}(h:Rise xs)(j:Nat):ybc xs j≤xs.size∧(∀i (hi:i<xs.size),i<ybc xs j->xs[i]<j)∧(∀i (hi:i<xs.size),ybc xs j≤i->j≤xs[i]) :=
 znpb h j xs.size 0 xs.size (yha _) (ycb _) (by omega) (λi _ h=>absurd h (Nat.not_lt_zero _)) (λi h1 h2=>by omega)
theorem zzdb {xs:Array Nat}(h:Rise xs){i:Nat}(hi:i<xs.size):ybc xs (xs[i]+1)=i+1:=by
 obtain⟨b1,b2,b3⟩:=ztm h (xs[i]+1);generalize hp:ybc xs (xs[i]+1)=p at b1 b2 b3
 rcases ymm p (i+1) with z|z|z
 ·have:=b3 i hi (by omega);omega
 ·exact z
 ·have q:=b2 (i+1) (by omega) z;have r:=h.at (show i<i+1 by omega) (show i+1<xs.size by omega);omega
theorem zydb {xs:Array Nat}(h:Rise xs):ybc xs 0=0:=by
 obtain⟨b1,b2,b3⟩:=ztm h 0;generalize hp:ybc xs 0=p at b1 b2 b3
 rcases ycq p with z|z
 ·exact z
 ·have:=b2 0 (by omega) z;omega
theorem znz {α:Type}(xs:Array α)(p:Nat)(x:α):(ynm xs p x).toList=xs.toList.take p++x::xs.toList.drop p:=by
 unfold ynm;rw[yih,ynj,ygk,ygk];simp[yfb]
theorem zyjb {xs:Array Nat}(h:Rise xs){j:Nat}(hj:¬ xs[ybc xs j]?=some j):Rise (ynm xs (ybc xs j) j):=by
 obtain⟨b1,b2,b3⟩:=ztm h j;generalize hp:ybc xs j=p at hj b1 b2 b3;unfold Rise;rw[znz,ygp,ypl];have lt:∀a∈xs.toList.take p,a<j:=λa ha=>by
  obtain⟨i,hi⟩:=ynf ha;rw[List.getElem?_take] at hi
  split at hi
  ·rename_i c;obtain⟨hi',e⟩:=yga.mp hi;rw[← e];exact b2 i (by simpa using hi') c
  ·cases hi
 have gt:∀a∈xs.toList.drop p,j<a:=λa ha=>by
  obtain⟨i,hi⟩:=ynf ha;rw[yti] at hi;obtain⟨hi',e⟩:=yga.mp hi;have hs:p+i<xs.size:=by simpa using hi'
  have q:=b3 (p+i) hs (by omega);have e':xs[p+i]=a:=by simpa using e
  rw[e'] at q
  rcases Nat.lt_or_eq_of_le q with z|z
  ·exact z
  ·exfalso
   rcases ycq i with y|y
   ·subst y;apply hj;have hs':p<xs.size:=hs;rw[yeb hs',z]
    congr 1
   ·have r:=h.at (show p<p+i by omega) hs;have s:=b3 p (by omega) (yha _);omega
 refine⟨yvo (ycm _ _) h,⟨gt,yvo (List.drop_sublist _ _) h⟩,λa ha b hb=>?_⟩
 rcases yka.mp hb with z|z
 ·rw[z];exact lt a ha
 ·exact Nat.lt_trans (lt a ha) (gt b z)
structure RT (t:yie):Prop where
 rise:Rise t.place
 none:t.dummies=#[]
theorem RT.stand (t:yie)(n:Nat):RT (t.standIn n):=⟨by
 show (Array.range n).toList.Pairwise (· < ·)
 rw[Array.toList_range];exact yun,rfl⟩
theorem RT.or {t:yie}(h:RT t)(n:Nat):RT (t.orStandIn n):=by
 unfold yzp
 split
 ·exact h
 ·exact RT.stand t n
theorem zrbb {t:yie}(h:t.dummies=#[])(j:Nat):yer t.dummies j=false:=by
 rw[h];simp[yer]
theorem zadb {t:yie}(h:RT t)(f:Nat->Int)(x:Int):∀(n:Nat) (p:yie.Probe),p.dummy=none->∀j d,yvq t f x n p=some (.empty j d)->d=none∧t.slot j = .empty:=by
 intro n
 induction n with
 | zero=>intro p hp j d e;cases e
 | succ n ih =>
  intro p hp j d e;unfold yvq at e;cases hs:t.slot p.j with
  | empty =>
   rw[hs] at e;injection e with e
   injection e with e1 e2
   rw[← e1,← e2];exact⟨hp,hs⟩
  | dummy =>
   exfalso;unfold yjs at hs;dsimp only at hs;rw[zrbb h.none] at hs
   split at hs
   ·cases hs
   ·simp at hs
  | live i =>
   rw[hs] at e;dsimp only at e;have adv:(t.advance p).dummy=none:=by
    unfold yie.advance
    split
    ·exact hp
    ·exact hp
   split at e
   ·injection e with e
    cases e
   ·exact ih _ adv j d e
theorem zopb {t:yie}(h:RT t){x:Int}{j:Nat}{b:Bool}(e:t.freeSlot x=some (j,b)):¬ t.place[ybc t.place j]?=some j:=by
 unfold yie.freeSlot at e
 split at e
 ·rename_i j' d hq;obtain⟨hd,hs⟩:=zadb h _ _ _ _ rfl _ _ hq;subst hd;injection e with e
  injection e with e _
  have e':j'=j:=e;subst e';intro z;unfold yjs at hs;dsimp only at hs;rw[if_pos (by rw[z];simp)] at hs;cases hs
 ·cases e
theorem RT.put {t:yie}(h:RT t){j:Nat}(hj:¬ t.place[ybc t.place j]?=some j):RT (t.put j).1:=by
 refine⟨zyjb h.rise hj,?_⟩;show (if yer t.dummies j then _ else t.dummies)=#[]
 rw[zrbb h.none];exact h.none
theorem RT.new {t:yie}(h:RT t)(es:Array (Int×Value))(x:Int)(v:Value):RT (layNew t es x v).2.1:=by
 unfold layNew
 split
 ·rename_i slot wd hf;exact (h.put (zopb h hf)).or _
 ·exact RT.stand _ _
theorem zsgb (f:Nat->Option Nat)(n:Nat):(((ysf n).filterMap λj=>(f j).map (j,·)).map (·.1)).Pairwise (· < ·):=by
 rw[List.map_filterMap];refine yjk.filterMap _ (R:=λa b:Nat=>a<b) ?_ yun;intro a a' haa b hb b' hb';cases ha:f a with
 | none=>rw[ha] at hb;cases hb
 | some x =>
  cases ha':f a' with
  | none=>rw[ha'] at hb';cases hb'
  | some y =>
   rw[ha] at hb;rw[ha'] at hb';have e1:a=b:=(by simpa using hb);have e2:a'=b':=(by simpa using hb');rw[← e1,← e2];exact haa
theorem RT.zutb {t:yie}(h:RT t)(es:Array (Int×Value))(k:Nat):RT (yii t es k).2.1:=by
 unfold yii
 split
 ·rename_i u order e;have q:RT u:=by
   unfold yvr yhs at e;simp only[bind,Option.bind,pure] at e
   split at e
   ·cases e
   ·injection e with e
    injection e with e _
    rw[← e];exact⟨by
     show (List.toArray _).toList.Pairwise _
     rw[List.toList_toArray];exact zsgb _ _,rfl⟩
  dsimp only
  split
  ·exact q
  ·exact RT.stand _ _
 ·exact RT.stand _ _
end ISet
namespace ISet
open PySem PySem.Spec PyProof.Rows
def intV:Value->Int
 | .int k _=>k
 | _=>0
def IS (prog:ytb)(w:World)(h:Heap)(a:Addr)(D:List Int)(b:Bool):Prop :=
 ∃o es ep t,h.get? a=some o∧o.ExactSet∧o.data = .set es ep t∧ytk (ymd prog w) es.toList∧(es.toList.map λe=>intV e.2).Perm D∧es.size<yag∧t.fits es.size=true∧t.led=b∧RT t
section
variable {prog:ytb}{w:World}{A:Around}{E:Value->Shared->Prop}{s:Shared}
theorem IS.keep {h h':Heap}{a:Addr}{D:List Int}{b:Bool}(x:IS prog w h a D b)(k:∀o,h.get? a=some o->h'.get? a=some o):IS prog w h' a D b:=by
 obtain⟨o,es,ep,t,ho,r⟩:=x;exact⟨o,es,ep,t,k _ ho,r⟩
theorem zumb {es:List (Int×Value)}(h:ytk (ymd prog w) es){e:Int×Value}(he:e∈es):∃x t,e.2 = .int x t∧e.1=(ymd prog w).hash x:=by
 obtain⟨⟨k,hk,hh⟩,_⟩:=h e he;obtain⟨t,et⟩:=yyl (k:=k) (v:=e.2) hk;exact⟨k,t,et,hh⟩
theorem zok {es:List (Int×Value)}{D:List Int}{x:Int}(hel:ytk (ymd prog w) es)(hp:(es.map λe=>intV e.2).Perm D) :
  x∈D↔∃e∈es,(ymd prog w).is x e.2=true:=by
 rw[← hp.mem_iff,ymc]
 constructor
 ·rintro⟨e,he,rfl⟩;obtain⟨y,t,e1,_⟩:=zumb hel he;refine⟨e,he,?_⟩;rw[e1];show ygj y (.int y t)=true
  simp[ygj]
 ·rintro⟨e,he,hi⟩;obtain⟨t,e1⟩:=yyl (k:=x) (v:=e.2) hi;exact⟨e,he,by rw[e1];rfl⟩
theorem zvab {g:Bool->Sem Unit}(hg:∀(b:Bool) (s₁:Shared) (Q':Unit->Shared->Prop),Q' () s₁->wpAny (model prog w) A (g b) Q' E s₁)
  {a:Addr} {o:Obj} {es:Array (Int×Value)} {ep:Nat} {t:yie} (ho:s.heap.get? a=some o) (hex:o.ExactSet) (hd:o.data = .set es ep t)
  {fs:Array (Int×Value)} {u:yie} {D:List Int} {b:Bool} (hel:ytk (ymd prog w) fs.toList) (hp:(fs.toList.map λe=>intV e.2).Perm D) (hb:fs.size<yag) (hf:u.fits fs.size=true) (hl:u.led=b) (hpl:RT u)
  {dm:Bool} {R:Option Bool->Shared->Prop} (h:∀h',yxd a s.heap h'->IS prog w h' a D b->R (some true) { s with heap:=h' }) :
  wpAny (model prog w) A (do
    storeSet a fs u
    if (!dm&&u.tooFull)=true then do
        g (yii u fs (yrd fs.size)).2.2
        storeSet a (yii u fs (yrd fs.size)).1 (yii u fs (yrd fs.size)).2.1
        pure (some true)
     else pure (some true)) R E s:=by
 have lim:∀{n:Nat},n<yag->n≤yxa:=λz=>yxg z;refine yaa (ymj ho hd ?_ (lim hb));have k1:(s.heap.update a (yyg fs u)).get? a=some { o with data:=.set fs (ep+1) u }:=by
  have z:=ygd (yyg fs u) ho (by rw[yuk fs u hd];rfl);rw[yuk fs u hd] at z;exact z
 have b1:=yqe s.heap a (yyg fs u)
 split
 ·have p2:=relayAll_perm u fs (yrd fs.size);have f2:=relayAll_fits u fs (yrd fs.size);have l2:=(SSet.zqw u fs (yrd fs.size)).1;have q2:=hpl.zutb fs (yrd fs.size);generalize yii u fs (yrd fs.size)=R2 at p2 f2 l2 q2 ⊢;obtain⟨fs2,u2,gv⟩:=R2;dsimp only at p2 f2 l2 q2 ⊢;have z2:fs2.size=fs.size:=by rw[← yra,p2.length_eq,yra]
  refine yaa (hg _ _ _ ?_);refine yaa (ymj k1 rfl ?_ (lim (by rw[z2];exact hb)));have k2:((s.heap.update a (yyg fs u)).update a (yyg fs2 u2)).get? a=some { o with data:=.set fs2 (ep+1+1) u2 }:=by
   have z:=ygd (yyg fs2 u2) k1 (by rw[yuk fs2 u2 rfl];rfl);rw[yuk fs2 u2 rfl] at z;exact z
  exact yda (h _ (b1.trans (yqe _ a _)) ⟨_,fs2,_,u2,k2,hex,rfl,ElemsOf.perm hel p2,(p2.map _).trans hp,by rw[z2];exact hb,f2,l2.trans hl,q2⟩)
 ·exact yda (h _ b1 ⟨_,fs,_,u,k1,hex,rfl,hel,hp,hb,hf,hl,hpl⟩)
theorem add_int {a:Addr}{D:List Int}{b:Bool}{x:Int}{tk:Tok}{Q:Bool->Shared->Prop}(hS:IS prog w s.heap a D b)(hroom:D.length+1<yag)
  (h:∀h' r,yxd a s.heap h'->IS prog w h' a (if x∈D then D else D++[x]) b->Q r { s with heap:=h' }) :
  wpAny (model prog w) A (yio a (.int x tk) ((ymd prog w).hash x)) Q E s:=by
 obtain⟨o,es,ep,t,ho,hex,hd,hel,hp,hb,hf,hl,hpl⟩:=hS;have key:(ymd prog w).is x (.int x tk)=true:=by
  show ygj x (.int x tk)=true
  simp[ygj]
 have hz:es.size=D.length:=by rw[← hp.length_eq,yca,yra]
 unfold yio setAddHashedIn;refine yoc (yaa (yed ho hd hf ?_));dsimp only;rw[byScan_of (x:=.int x tk) rfl hb hel];simp only[↓reduceIte];unfold setAddByScan;refine yaa (yaa (ytf (yaa (wpAny_setScan_of key ho hd hf hel ?_))));have mi:=zok (x:=x) hel hp;cases hr:List.findIdx? (λe=>(ymd prog w).is x e.2) es.toList with
 | some j =>
  obtain⟨hj,hpj,_⟩:=yui.mp hr;have hin:x∈D:=mi.mpr ⟨_,ynn hj,hpj⟩;dsimp only;refine yda (yda ?_);have z:=h s.heap false (ygm a s.heap);rw[if_pos hin] at z;exact z ⟨o,es,ep,t,ho,hex,hd,hel,hp,hb,hf,hl,hpl⟩
 | none =>
  have hno:¬ x∈D:=λhin=>by
   obtain⟨e,he,hi⟩:=mi.mp hin;have z:=ytl.mp hr e he;rw[hi] at z;cases z
  simp only[if_neg hno] at h;dsimp only;have p1:=layNew_perm t es ((ymd prog w).hash x) (.int x tk);have f1:=layNew_fits t es ((ymd prog w).hash x) (.int x tk);have l1:=SSet.ztgb t es ((ymd prog w).hash x) (.int x tk);have r1:=hpl.new es ((ymd prog w).hash x) (.int x tk);generalize layNew t es ((ymd prog w).hash x) (.int x tk)=L at p1 f1 l1 r1 ⊢;obtain⟨fs,u,dm,gave⟩:=L;dsimp only at p1 f1 l1 r1 ⊢;rw[ynj] at p1;have el1:ytk (ymd prog w) fs.toList:=(hel.push key rfl).perm p1;have pp:(fs.toList.map λe=>intV e.2).Perm (D++[x]):=by
   refine (p1.map _).trans ?_;rw[yva];exact yir hp (yrj _)
  have z1:fs.size=D.length+1:=by rw[← yra,p1.length_eq,yja,yra,hz];rfl
  have give:∀(c:Bool) (s₁:Shared) (Q':Unit->Shared->Prop),Q' () s₁->wpAny (model prog w) A (match c with|true=>rule "set.scan.the-table-gave-way"|false=>pure ()) Q' E s₁:=λc s₁ Q' q=>by
   cases c
   ·exact yda q
   ·exact ytf q
  refine yaa (give _ _ _ ?_)
  split
  ·refine yaa ?_;rw[yjo 8 (x:=.int x tk) rfl];refine yda ?_;refine zvab (b:=b) (D:=D++[x]) give ho hex hd el1 pp (by omega) f1 (l1.trans hl) r1 ?_;intro h' sb S';exact yda (h h' _ sb S')
  ·rename_i np;refine yaa (yda ?_);simp only[↓reduceIte];refine zvab (b:=b) (D:=D++[x]) give ho hex hd el1 pp (by omega) f1 (l1.trans hl) r1 ?_;intro h' sb S';exact yda (h h' _ sb S')
def dd (xs:List Int):List Int:=xs.foldl (λD x=>if x∈D then D else D++[x]) []
theorem zsk (xs:List Int)(x:Int):dd (xs++[x])=if x∈dd xs then dd xs else dd xs++[x]:=by
 unfold dd;rw[yge];rfl
theorem zrz:∀n (xs:List Int),(dd (xs.take n)).length≤n
 | 0,xs=>yha 0
 | n+1,xs=>by
  have ih:=zrz n xs;rw[yqa];cases e:xs[n]? with
  | none =>
   rw[yaq,ync];omega
  | some x =>
   rw[ywb,zsk]
   split
   ·omega
   ·rw[yja,ytd];omega
theorem zxn {R:Result->Shared->Prop}{I S:Addr}{fp wr:List Addr}{n:Nat}{P:Nat->Value->Prop}{St:Nat->Heap->Prop}{b:Bool}(W:Walks prog w A.in1 I fp wr n P St)(hSf:S∉fp)(xs:List Int)
  (hval:∀i v,P i v->∃x t,xs[i]?=some x∧v = .int x t) (hn:n+1<yag) :
  ∀(k i:Nat) (s:Shared),n-i=k->i≤n->St i s.heap->IS prog w s.heap S (dd (xs.take i)) b →
   (∀h' tk,IS prog w h' S (dd (xs.take n)) b->(∀c o,c∉S::wr->s.heap.get? c=some o->h'.get? c=some o)->R (.ok (.ret .none)) { s with heap:=h',toks:=tk }) →
   yjj (model prog w) A (.builtin "set.update.loop" ⟨[.ref S,.ref I],[]⟩) R s:=by
 have nw:S∉wr:=λz=>hSf (W.sub _ z);intro k
 induction k with
 | zero =>
  intro i s hk hi st hS hR;obtain rfl:i=n:=by omega
  refine yxc yme ?_;rw[ybd ytc _];show wpAny _ A.in1 (pyNext (.ref I) >>= _) _ _ s
  refine yaa (W.done s _ _ st λh' tk keep=>?_);show wpAny _ A.in1 (ret Value.none) _ _ _
  exact yda (hR h' tk (hS.keep λo e=>keep S o nw e) λc o hc e=>keep c o (λz=>hc (yoa _ z)) e)
 | succ k ih =>
  intro i s hk hi st hS hR;have hlt:i<n:=by omega
  refine yxc yme ?_;rw[ybd ytc _];show wpAny _ A.in1 (pyNext (.ref I) >>= _) _ _ s
  refine yaa (W.item i s _ _ hlt st λv h1 tk hP st1 keep=>?_);obtain⟨x,t,hx,rfl⟩:=hval i v hP;have hS1:IS prog w h1 S (dd (xs.take i)) b:=hS.keep λo e=>keep S o nw e;show wpAny _ A.in1 (yyn [Value.int x t] (setAdd S (.int x t)) >>= _) _ _ _
  refine yaa (yoc ?_);unfold setAdd;refine yoc (yaa ((ymd prog w).pyHash (k:=x) (by show ygj x (.int x t)=true;simp[ygj]) ?_));have hle:=zrz i xs;refine add_int (b:=b) (D:=dd (xs.take i)) (s:={ s with heap:=h1,toks:=tk+1 }) hS1 (by omega) λh2 r sb S2=>?_;have e2:(if x∈dd (xs.take i) then dd (xs.take i) else dd (xs.take i)++[x])=dd (xs.take (i+1)):=by
   rw[yqa,hx,ywb,zsk]
  rw[e2] at S2;refine yda ⟨ybf ytc _,ih (i+1) _ (by omega) hlt (W.frame _ h1 _ st1 λc hc o e=>?_) S2 λh3 tk3 S3 keep3=>?_⟩
  ·rw[sb.2 c (λz:c=S=>hSf (by rw[← z];exact hc))];exact e
  ·refine hR h3 tk3 S3 λc o hc e=>keep3 c o hc ?_;show h2.get? c=some o
   rw[sb.2 c (λz:c=S=>hc (by rw[z];exact ypa))];exact keep c o (λz=>hc (yoa _ z)) e
theorem zehb:∀{us:List Value} {xs:List Int},yyf us xs->∀(i:Nat) (v:Value),us[i]?=some v->∃x t,xs[i]?=some x∧v = .int x t
 | _,_,.nil,i,v,e=>by simp at e
 | _,_,.cons x t r,0,v,e=>by
  rw[yof] at e;cases e;exact⟨x,t,rfl,rfl⟩
 | _,_,.cons x t r,i+1,v,e=>by
  rw[yqc] at e;obtain⟨y,u,h1,h2⟩:=zehb r i v e;exact⟨y,u,by rw[yqc];exact h1,h2⟩
theorem zjf:∀{us:List Value} {xs:List Int},yyf us xs->us.length=xs.length
 | _,_,.nil=>rfl
 | _,_,.cons _ _ r=>congrArg (· + 1) (zjf r)
theorem zspb (h:Heap):IS prog w (h.push (SSet.empt w)) h.objs.size [] (!w.params.followText "set-order") :=
 ⟨_,#[],0,_,yfa _ rfl,⟨rfl,rfl,rfl⟩,rfl,λe he=>by simp at he,.nil,by decide,by rfl,rfl,⟨.nil,rfl⟩⟩
theorem set_tuple {l:Addr}{its:Array Value}{xs:List Int}{Q:Value->Shared->Prop}(hh:A.handled=none)(hl:s.heap.IsTuple l its)(hi:yyf its.toList xs)(hb:its.size+1<yag)
  (h:∀(h':Heap) (tk:Nat),IS prog w h' s.heap.objs.size (dd xs) (!w.params.followText "set-order")->(∀c o,s.heap.get? c=some o->h'.get? c=some o)->Q (.ref s.heap.objs.size) { s with heap:=h',toks:=tk }) :
  wpAny (model prog w) A (call (.type "set") [.ref l]) Q E s:=by
 obtain⟨cM,tM,mro⟩:=yib.mro;have made:=yib.made;have subs:=yib.sub;have notT:=yib.notType;have canC:=yib.canCreate;have chk:=ycj (.ref l);refine ycp (yvk ?_);show wpAny _ _ (callAny (.type "set") ⟨[.ref l],[]⟩) _ _ _
 refine yda ⟨yvi _ (by decide +kernel),yxc ywi ?_⟩;rw[ynl (ytj "set" [Value.ref l] []) rfl]
 repeat (any_goals (first|assumption|wp_step))
 refine yjg (SSet.zdz (.ref l) (E:=E) (Q1:=λob s1=>ob = .ref s.heap.objs.size∧s1={ s with heap:=s.heap.push (SSet.empt w) }) ⟨rfl,rfl⟩) λr s1 hr=>?_;cases r with
 | error e=>exact hr
 | ok fl =>
  cases fl with
  | ret ob =>
   obtain⟨rfl,rfl⟩:=hr;have g0:(s.heap.push (SSet.empt w)).get? s.heap.objs.size=some (SSet.empt w):=yfa _ rfl;have ty0:yzh { s with heap:=s.heap.push (SSet.empt w) } (.ref s.heap.objs.size) "set":=⟨_,g0,rfl⟩;have lk:=yib.init.lookup;have bd:=yib.init.bind (.ref s.heap.objs.size)
   repeat (any_goals (first|assumption|wp_step))
   refine yjg (yek (R:=wants (λr s2=>r = .none∧∃h' tk,s2={ s with heap:=h',toks:=tk }∧IS prog w h' s.heap.objs.size (dd xs) (!w.params.followText "set-order") ∧
     (∀c o,s.heap.get? c=some o->h'.get? c=some o)) E) yib.init.plain ydj (yon ty0 ?_)) λr2 s2 hr2=>?_
   ·obtain⟨ol,e1,e2,nl,e3⟩:=hl;obtain⟨oc,od,oD,osl⟩:=ol;dsimp only at e2 e3;subst e2 e3;have e1':(s.heap.push (SSet.empt w)).get? l=some { cls:=.type "tuple",dict:=od,data:=.seq its nl,slots:=osl }:=yba _ e1;have q1:=yuo;have q2:=ycl;have q3:(Value.type "tuple" == Value.type "dict")=false:=by decide
    have L1:(s.heap.push (SSet.empt w)).IsTuple l its:=⟨_,e1',rfl,nl,rfl⟩;have lt:l<s.heap.objs.size:=yma e1;unfold yue.«set.__init__» noKeywords yoh;generalize hPI:pyIter=PI
    wp_walk
    subst hPI;refine yff L1 (yaa (yhi ?_));have ne:l≠(s.heap.push (SSet.empt w)).objs.size:=by
     rw[yjc];exact yab (yhe lt)
    have nf:s.heap.objs.size∉[(s.heap.push (SSet.empt w)).objs.size,l]:=by
     rw[yjc];intro z
     rcases yka.mp z with z|z
     ·exact absurd z (yab (yhf _))
     ·exact absurd (yia.mp z) (yxe lt)
    have hv:∀(i:Nat) (v:Value),its[i]?=some v->∃x t,xs[i]?=some x∧v = .int x t:=λi v e=>zehb hi i v (by rw[yfc];exact e);have hx:xs.take its.size=xs:=yfb (by rw[← yra,zjf hi];exact yha _);refine zxn (b:=!w.params.followText "set-order") (Walks.tuple (by simp[hh]) _ l ne its) nf xs hv hb (its.size-0) 0 _ (by omega) (ycb _) ⟨⟨_,yfa _ rfl,rfl,rfl⟩,L1.push _⟩ ?S0 ?R0
    case S0=>exact (zspb s.heap).keep λo e=>yba _ e
    case R0 =>
     intro h' tk S' keep;rw[hx] at S';show wpAny _ _ _ _ _ _
     refine yda ?_;show wpAny _ _ (ret Value.none) _ _ _
     refine yda ⟨rfl,h',tk,rfl,S',λc o e=>?_⟩;have clt:=yma e;refine keep c o ?_ (yba _ (yba _ e));rw[yjc];intro z
     rcases yka.mp z with z|z
     ·exact absurd z (yab clt)
     ·exact absurd (yia.mp z) (yab (yhe clt))
   ·cases r2 with
    | error e=>exact hr2
    | ok fl2 =>
     cases fl2 with
     | ret r =>
      obtain⟨rfl,h',tk,rfl,S',keep⟩:=hr2
      repeat (any_goals (first|assumption|wp_step))
      exact h _ _ S' keep
     | next=>exact hr2.elim
     | brk=>exact hr2.elim
     | cont=>exact hr2.elim
  | next=>exact hr.elim
  | brk=>exact hr.elim
  | cont=>exact hr.elim
end
end ISet
namespace ISet
open PySem PySem.Spec PyProof.Rows PySem.W
section
variable {prog:ytb}{w:World}{A:Around}{E:Value->Shared->Prop}{s:Shared}
theorem intsAre_map:∀(vs:List Value),(∀v,v∈vs->∃x t,v = .int x t)->yyf vs (vs.map intV)
 | [],_=>.nil
 | v::vs,h=>by
  obtain⟨x,t,rfl⟩:=h v (ypa ..);exact .cons x t (intsAre_map vs λu hu=>h u (yoa _ hu))
theorem zli {es:List (Int×Value)}{D:List Int}{vs:List Value}(hel:ytk (ymd prog w) es)(hp:(es.map λe=>intV e.2).Perm D)(hv:vs.Perm (es.map (·.2))):∃ys,yyf vs ys∧ys.Perm D:=by
 refine⟨vs.map intV,intsAre_map vs λv hm=>?_,?_⟩
 ·obtain⟨e,he,rfl⟩:=ymc.mp (hv.mem_iff.mp hm);obtain⟨x,t,e1,_⟩:=zumb hel he;exact⟨x,t,e1⟩
 ·refine (hv.map intV).trans ?_;rw[ysh];exact hp
theorem ztkb {a:Addr}{D:List Int}{Q:Value->Shared->Prop}(hh:A.handled=none)(hS:IS prog w s.heap a D (!w.params.followText "set-order"))
  (h:∀(h':Heap) (d':Drawn) (I:Addr) (n:Nat) (fp:List Addr) (P:Nat->Value->Prop) (St:Nat->Heap->Prop),(∀b o,s.heap.get? b=some o->h'.get? b=some o)->s.heap.objs.size≤I->(∀b∈fp,b=a∨s.heap.objs.size≤b) →
   Walks prog w A I fp [I] n P St->St 0 h'->n=D.length->(∀vs:List Value,vs.length=n->(∀(i:Nat) v,vs[i]?=some v->P i v)->∃ys,yyf vs ys∧ys.Perm D)->Q (.ref I) { s with heap:=h',drawn:=d' }) :
  wpAny (model prog w) A (pyIter (.ref a)) Q E s:=by
 obtain⟨o,es,ep,t,ho,hex,hd,hel,hp,hb,hf,hl,hpl⟩:=hS;have hT:s.TypeIs (.ref a) "set":=⟨o,ho,hex.1⟩;have so:SSet.SObj s.heap a es ep t:=⟨o,ho,hex.1,hd,hf⟩;have hz:es.size=D.length:=by rw[← hp.length_eq,yca,yra]
 have alt:a<s.heap.objs.size:=yma ho;refine ykm hT yth (yic yth hT SSet.zkhb ?_ (yan _));unfold yue.«frozenset.__iter__»;refine yaa (m:=ybn "__iter__" _) (yda ?_);refine yaa (m:=ylm a) (yaa (ywk ho hd hf (yda ?_)));refine yaa (m:=setDrawn a) (yaa (yed ho hd hf (yaa (m:=yai) (yaa (yye (yda (yda ?_)))))));dsimp only;have jp:∀{first:Value} {h1:Heap} {d1:Drawn},SSet.SObj h1 a es ep t->Q (.ref h1.objs.size) { s with heap:=h1.push { cls:=.type "set_iterator",dict:=none,data:=.fields #[first,rawInt (0:Nat),.ref a,rawInt es.size,rawInt ep],slots:=#[] },drawn:=d1 } →
   wpAny (model prog w) A.in1 (do
    let e ← setEpoch a
    let v ← ywr "set_iterator" [first,rawInt 0,Value.ref a,rawInt es.size,rawInt e]
    ret v) (λfin s'=>∃v,fin=Fin.done (Flow.ret v)∧∃T' r,s'.TypeIs v T'∧typeLookup (Value.type T') (ydf "__next__")=pure (some r)∧Q v s') E { s with heap:=h1,drawn:=d1 }:=by
  intro first h1 d1 ⟨o1,e1,e2,e3,e4⟩ q
  refine yaa (m:=setEpoch a) (yaa (yed e1 e3 e4 (yda ?_)));refine yaa (m:=ywr _ _) (ydd (yda ⟨_,rfl,"set_iterator",_,⟨_,yfa _ rfl,rfl⟩,SSet.zqo.lookup,?_⟩));exact q
 split
 ·rename_i hc;have hc':(!w.params.followText "set-order" && (!t.plain&&decide (es.size>1)))=true:=hc;refine yaa (SSet.zut es.size (ysf es.size) s _ (by simp) λjs d1 pj=>?_);refine yaa (ysj ?_ (by rw[yca,pj.length_eq,yuf];exact yxg hb));have jl:js.length=es.size:=by rw[pj.length_eq,yuf]
  have jm:∀j∈js,j<es.size:=λj hj=>yqj.mp (pj.mem_iff.mp hj);refine jp (so.keep λo e=>yba _ e) ?_;have sz:(s.heap.push { cls:=.type "tuple",data:=.seq (js.map λ(j:Nat)=>rawInt j).toArray }).objs.size=s.heap.objs.size+1:=yjc _ _;refine h _ d1 _ es.size _ _ _ (λb o e=>yba _ (yba _ e)) (by rw[sz];exact yif _) ?_ (SSet.zmo (a:=a) (tp:=s.heap.objs.size) hh ?_ ?_ es ep t js jl jm) ⟨?_,?_,?_⟩ hz λvs hv hP=>zli hel hp (SSet.zfs pj hv hP)
  ·intro b hb';rw[sz] at hb'
   rcases yka.mp hb' with z|z
   ·exact .inr (by rw[z];exact yif _)
   ·rcases yka.mp z with z|z
    ·exact .inl z
    ·exact .inr (by rw[yia.mp z];exact yha _)
  ·rw[sz];exact yab (yhe alt)
  ·rw[sz];exact yab (yhf _)
  ·exact yfa _ rfl
  ·exact so.keep λo e=>yba _ (yba _ e)
  ·exact⟨_,yba _ (yfa _ rfl),rfl,_,rfl⟩
 ·rename_i hc;have hc':¬ (!w.params.followText "set-order" && (!t.plain&&decide (es.size>1)))=true:=hc;refine yaa (yda (jp (h1:=s.heap) (d1:=s.drawn) so ?_));have fpk:∀b∈[s.heap.objs.size,a],b=a∨s.heap.objs.size≤b:=λb hb'=>by
   rcases yka.mp hb' with z|z
   ·exact .inr (by rw[z];exact yha _)
   ·exact .inl (yia.mp z)
  have ne:a≠s.heap.objs.size:=yab alt;cases ft:w.params.followText "set-order" with
  | true =>
   have bt:∀{A':Around} {E':Value->Shared->Prop} {s':Shared} {Q':Bool->Shared->Prop},Q' true s'->wpAny (model prog w) A' yai Q' E' s':=λ{A' E' s' Q'} q=>by
    unfold yai;refine yaa (yye (yda ?_));show Q' (w.params.followText "set-order") s'
    rw[ft];exact q
   have stp:∀(A:Around) (E:Value->Shared->Prop) (i slot:Nat) (s:Shared) (Q:Option (Value×Nat)->Shared->Prop),SSet.SObj s.heap a es ep t->Q (((yzg (w.params.setOrder a ep) es)[i]?).map λe=>(e.2,slot)) s->wpAny (model prog w) A (ybk a slot i ep) Q E s:=by
    intro A E i slot s Q ⟨o1,e1,e2,e3,e4⟩ q;unfold ybk;refine yaa (yed e1 e3 e4 ?_);dsimp only;refine yaa (bt ?_);rw[if_pos rfl,if_neg (by simp)];unfold setWalk;refine yaa (yaa (yed e1 e3 e4 (yaa (bt ?_))));rw[if_pos rfl];exact yaa (yye (yda (yda q)))
   have po:=SSet.zwv (w.params.setOrder a ep) es;have pz:(yzg (w.params.setOrder a ep) es).size=es.size:=(by rw[← yra,po.length_eq,yra]);refine h _ s.drawn _ es.size _ _ _ (λb o e=>yba _ e) (yha _) fpk (SSet.zfl (a:=a) hh ne es ep t ((yzg (w.params.setOrder a ep) es).toList.map (·.2)) (λslot _=>slot=0) ?_ ?_) ⟨⟨0,yfa _ rfl,rfl⟩,so.keep λo e=>yba _ e⟩ hz λvs hv hP=>?_
   ·intro A E i slot s Q hi r so' q;have e1:(yzg (w.params.setOrder a ep) es)[i]?=some (yzg (w.params.setOrder a ep) es)[i]:=yeb (by omega);refine stp A E i slot s Q so' ?_;rw[e1];exact q _ _ (by rw[yla,yfc,e1];rfl) r
   ·intro A E slot s Q r so' q;refine stp A E _ slot s Q so' ?_;rw[ydg (by omega)];exact q
   ·refine zli hel hp ?_;have e1:vs=(yzg (w.params.setOrder a ep) es).toList.map (·.2):=SSet.zqh (by rw[hv,yca,yra,pz]) hP;rw[e1];exact po.map _
  | false =>
   rw[ft] at hc' hl;have bt:∀{A':Around} {E':Value->Shared->Prop} {s':Shared} {Q':Bool->Shared->Prop},Q' false s'->wpAny (model prog w) A' yai Q' E' s':=λ{A' E' s' Q'} q=>by
    unfold yai;refine yaa (yye (yda ?_));show Q' (w.params.followText "set-order") s'
    rw[ft];exact q
   have nd:¬ (!t.plain&&decide (es.size>1))=true:=λz=>hc' (by rw[z];rfl);have stp:∀(A:Around) (E:Value->Shared->Prop) (i slot:Nat) (s:Shared) (Q:Option (Value×Nat)->Shared->Prop),SSet.SObj s.heap a es ep t->Q (match es[ybc t.place slot]?,t.place[ybc t.place slot]? with|some (_,x),some j=>some (x,j+1)|_,_=>none) s->wpAny (model prog w) A (ybk a slot i ep) Q E s:=by
    intro A E i slot s Q ⟨o1,e1,e2,e3,e4⟩ q;unfold ybk;refine yaa (yed e1 e3 e4 ?_);dsimp only;refine yaa (bt ?_);rw[if_neg (by simp)];refine yef (λz=>absurd z nd) (λ_=>?_);have nl:¬ (!t.led && !es.isEmpty)=true:=by
     rw[hl];simp
    refine yaa (yef (λz=>absurd z nl) (λ_=>yda ?_));exact yda q
   have ps:t.place.size=es.size:=by
    have z:=hf;unfold yis at z;simp at z;exact z.1
   refine h _ s.drawn _ es.size _ _ _ (λb o e=>yba _ e) (yha _) fpk (SSet.zfl (a:=a) hh ne es ep t (es.toList.map (·.2)) (λslot i=>ybc t.place slot=i) ?_ ?_) ⟨⟨0,yfa _ rfl,zydb hpl.rise⟩,so.keep λo e=>yba _ e⟩ hz λvs hv hP=>?_
   ·intro A E i slot s Q hi r so' q;have e1:es[i]?=some es[i]:=yeb hi;have hi2:i<t.place.size:=(by omega);have e2:t.place[i]?=some t.place[i]:=yeb hi2;refine stp A E i slot s Q so' ?_;rw[r,e1,e2];exact q _ _ (by rw[yla,yfc,e1];rfl) (zzdb hpl.rise hi2)
   ·intro A E slot s Q r so' q;refine stp A E _ slot s Q so' ?_;rw[r,ydg (yha _)];exact q
   ·refine zli hel hp ?_;have e1:vs=es.toList.map (·.2):=SSet.zqh (by rw[hv,yca,yra]) hP;rw[e1]
theorem ztz {a:Addr}{D:List Int}{R:List Value->Shared->Prop}(hh:A.handled=none)(hS:IS prog w s.heap a D (!w.params.followText "set-order"))
  (h:∀(h':Heap) (d':Drawn) (tk:Nat) (vs:List Value) (ys:List Int),(∀b o,s.heap.get? b=some o->h'.get? b=some o)->s.heap.objs.size<h'.objs.size->yyf vs ys->ys.Perm D->R vs { s with heap:=h',drawn:=d',toks:=tk }) :
  wpAny (model prog w) A (yxr (.ref a)) R E s:=by
 obtain⟨oA,hoA⟩:∃o,s.heap.get? a=some o:=let ⟨o,_,_,_,e,_⟩:=hS;⟨o,e⟩;have alt:a<s.heap.objs.size:=yma hoA;have dz:D.length≤yxa:=by
  obtain⟨o,es,ep,t,_,_,_,_,hp,hb,_⟩:=hS;rw[← hp.length_eq,yca,yra];exact yxg hb
 have nSa:s.heap.objs.size≠a:=yxe alt;unfold yxr;refine yaa (yhi (yxc yfk ?_));rw[ybd yyk _];show wpAny _ A.in1 (newList [] >>= λl=>again (.builtin "list.__iadd__" ⟨[l,.ref a],[]⟩)) _ _ s
 refine yaa (ydd (yda ⟨ybf yhh _,yxc ypn ?_⟩));rw[ybd yhh _];show wpAny _ A.in1 (yae (.ref s.heap.objs.size) (.ref a) (.ref s.heap.objs.size)) _ _ _
 unfold yae;have S1:IS prog w (s.heap.push { cls:=.type "list",data:=.seq ([]:List Value).toArray }) a D (!w.params.followText "set-order"):=hS.keep λo e=>yba _ e;have g1:(s.heap.push { cls:=.type "list",data:=.seq ([]:List Value).toArray }).get? s.heap.objs.size=some { cls:=.type "list",dict:=none,data:=.seq #[] 0,slots:=#[] }:=yfa _ rfl;have k1:∀b o,s.heap.get? b=some o->(s.heap.push { cls:=.type "list",data:=.seq ([]:List Value).toArray }).get? b=some o:=λb o e=>yba _ e;generalize s.heap.push { cls:=.type "list",data:=.seq ([]:List Value).toArray }=h1 at S1 g1 k1 ⊢;have ty1:yzh { s with heap:=h1 } (.ref a) "set":=by
  obtain⟨o,es,ep,t,ho,hex,_⟩:=S1;exact⟨o,ho,hex.1⟩
 refine yaa (ymi (T:="set") ty1 ?_);have ns:yah (.ref s.heap.objs.size) (.ref a)=false:=by simp[yah,nSa]
 simp only[ns,show (Value.type "set" == Value.type "list")=false by decide,show (Value.type "set" == Value.type "tuple")=false by decide,yxm,ykg,if_false];refine yaa (ztkb (s:={ s with heap:=h1 }) (A:=A.in1) hh S1 λh2 d2 I n fp P St k2 hI hfp W st hn hv=>?_);have ty2:yzh { s with heap:=h2,drawn:=d2 } (.ref a) "set":=by
  obtain⟨o,e,c⟩:=ty1;exact⟨o,k2 _ _ e,c⟩
 have slt:s.heap.objs.size<h1.objs.size:=yma g1;have nf:s.heap.objs.size∉fp:=λz=>by
  rcases hfp _ z with z|z
  ·exact nSa z
  ·exact absurd (yua slt z) (yoe _)
 have key:∀(R':Result->Shared->Prop) (h3:Heap) (c:Nat),St 0 h3->(∀b o,b≠s.heap.objs.size->h2.get? b=some o->h3.get? b=some o)->h3.get? s.heap.objs.size=some { cls:=.type "list",dict:=none,data:=.seq #[] c,slots:=#[] } →
   (∀(h4:Heap) (tk:Nat) (vs:List Value) (ys:List Int) (c':Nat),(∀b o,s.heap.get? b=some o->h4.get? b=some o)->yyf vs ys->ys.Perm D->h4.get? s.heap.objs.size=some { cls:=.type "list",dict:=none,data:=.seq vs.toArray c',slots:=#[] }->R' (.ok (.ret (.ref s.heap.objs.size))) { s with heap:=h4,drawn:=d2,toks:=tk }) →
   yjj (model prog w) A (.builtin "list.extend.loop" ⟨[.ref s.heap.objs.size,.ref I,.ref s.heap.objs.size],[]⟩) R' { s with heap:=h3,drawn:=d2 }:=by
  intro R' h3 c st3 k3 g3 hR;refine codeAny_extend_loopS W.toS (by omega) s.heap.objs.size nf _ n 0 _ #[] c rfl (ycb _) st3 g3 (ItemsOf.nil _) λs' acc c' mv g' ia=>?_;rw[Moved.eq_with mv];obtain⟨ys,sy,py⟩:=hv acc.toList (by rw[yra];exact ia.1) λi v e=>ia.2 i v (by rw[← yfc];exact e);refine hR s'.heap s'.toks acc.toList ys c' (λb o e=>?_) sy py (by rw[ymf];exact g');have nb:b≠s.heap.objs.size:=yab (yma e);refine mv.heap b o (λz=>?_) (k3 b o nb (k2 b o (k1 b o e)))
  rcases yka.mp z with z|z
  ·exact nb z
  ·have bi:b=I:=yia.mp z;have:=yma (k1 b o e);rw[bi] at this;exact absurd (yua this hI) (yoe _)
 have g2:=k2 _ _ g1;have fin:∀(h4:Heap) (tk:Nat) (vs:List Value) (ys:List Int) (c':Nat),(∀b o,s.heap.get? b=some o->h4.get? b=some o)->yyf vs ys->ys.Perm D->h4.get? s.heap.objs.size=some { cls:=.type "list",dict:=none,data:=.seq vs.toArray c',slots:=#[] } →
   wpAny (model prog w) A (load s.heap.objs.size >>= λo=>match o.data with
    | .seq xs _=>pure xs.toList
    | _=>yzm "internal:collect") R E { s with heap:=h4,drawn:=d2,toks:=tk }:=λh4 tk vs ys c' k4 sy py g4=>by
  refine yaa (yam g4 ?_);show wpAny _ _ (pure vs.toArray.toList) _ _ _
  exact yda (h h4 d2 tk vs ys k4 (yma g4) sy py)
 refine yaa (yoc (SSet.zybb ty2 ?_));refine yef (λ_=>?_) (λ_=>yda ⟨ybf yog _,key _ h2 0 st (λb o _ e=>e) g2 fin⟩);refine yaa (ytf (yaa ?_));show wpAny _ _ (yyr s.heap.objs.size (·.push .none) >>= λ_=>yyr s.heap.objs.size (·.pop)) _ _ _
 refine yaa (yzi g2 rfl ?_);have g3:=ygd (ywd (·.push Value.none)) g2 rfl;refine yzi (hz:=by seq_fits) g3 rfl ?_;have g4:=ygd (ywd (·.pop)) g3 rfl;refine yda ⟨ybf yog _,key _ _ _ ?_ (λb o nb e=>?_) g4 fin⟩
 ·refine W.frame 0 _ _ st λb hb o e=>?_;have nb:s.heap.objs.size≠b:=λz=>nf (z▸hb);exact (yzc _ _ nb).trans ((yzc _ _ nb).trans e)
 ·exact (yzc _ _ (ykd nb)).trans ((yzc _ _ (ykd nb)).trans e)
theorem zrcb {a:Addr}{D:List Int}{Q:Value->Shared->Prop}(hh:A.handled=none)(hS:IS prog w s.heap a D (!w.params.followText "set-order"))(h64:D.length<64)
  (h:∀(h':Heap) (d':Drawn) (tk:Nat) (p:Addr) (vs:List Value) (ys:List Int) (n:Nat),(∀b o,s.heap.get? b=some o->h'.get? b=some o)->s.heap.objs.size≤p->h'.get? p=some { cls:=.type "list",data:=.seq vs.toArray n }->yyf vs ys->ys.Perm D->ys.Pairwise (· ≤ ·) →
   Q (.ref p) { s with heap:=h',drawn:=d',toks:=tk }):wpAny (model prog w) A (call (.builtin "sorted") [.ref a]) Q E s:=by
 refine ypg ypp yno yoo (ypo _) ?_;unfold yue.«sorted»;refine yaa (m:=yrq "sorted" 1 1 _) (yda (yaa (ztz (A:=A.in1) hh hS λh1 d1 tk vs ys k1 lt1 sy py=>?_)));have vl:vs.length<64:=by rw[zjf sy,py.length_eq];exact h64
 refine yaa (yaj ?_ (yqb (yre vl) (by decide)));have g1:(h1.push (seqObj "list" vs.toArray 0)).get? h1.objs.size=some (seqObj "list" vs.toArray 0):=yfa _ rfl;refine yaa (yoc (yic ywl ⟨_,g1,rfl⟩ yzk (list_sort_tree g1 sy vl λout zs z1 z2 z3=>⟨_,rfl,?_⟩) (yxl _)));obtain⟨e,he⟩:=sortedHeap_at (vs:=vs) (out:=out) g1;refine yda ⟨_,rfl,h _ d1 tk h1.objs.size out.toList zs e (λb o q=>?_) (yre lt1) ?_ z1 (z2.trans py) z3⟩
 ·have q1:=k1 b o q;have bl:=yma q1;rw[sortedHeap_old (yab bl) (by rw[ysq];exact yhe bl)];exact yba _ q1
 ·rw[ymf];exact he
end
end ISet
namespace ISet
open PySem PySem.Spec PyProof.Rows PySem.W
section
variable {prog:ytb}{w:World}{A:Around}{E:Value->Shared->Prop}{s:Shared}
theorem zxt {l:Addr}{vs:List Value}{Q:List Value->Shared->Prop}(hl:s.heap.IsTuple l vs.toArray)
  (h:Q vs { s with heap:=(s.heap.push (seqObj "list" #[] 0)).update s.heap.objs.size (ywd (· ++ vs.toArray)) }) (hsz:vs.length≤yxa) :
  wpAny (model prog w) A (yxr (.ref l)) Q E s:=by
 obtain⟨o,ho,hc,n,hd⟩:=id hl;unfold yxr;refine yaa (yhi (yxc yfk ?_));show wpAny _ _ (do again (.builtin "list.__iadd__" ⟨[← newList [],.ref l],[]⟩)) _ _ s
 refine yaa (yaj (yda ⟨yvi _ (by decide +kernel),yxc ypn ?_⟩));show wpAny _ _ (yae (.ref s.heap.objs.size) (.ref l) (.ref s.heap.objs.size)) _ _ { s with heap:=s.heap.push (seqObj "list" #[] 0) }
 unfold yae;have ho':(s.heap.push (seqObj "list" #[] 0)).get? l=some o:=yba _ ho;refine yaa (ymi (T:="tuple") ⟨o,ho',hc⟩ ?_);have ht:(Value.type "tuple" == Value.type "tuple")=true:=by rfl
 rw[if_pos (by rw[ht];simp)];refine yaa (ycr ho' hd ?_);refine yaa (ycr (xs:=#[]) (n:=0) (yfa _ rfl) rfl ?_);rw[if_neg (by simp)];refine yaa (yen (xs:=#[]) (n:=0) (yfa _ rfl) rfl ?_ (ycb _) (by show (#[]++vs.toArray).size≤yxa+1;simp only[yom,yna,List.length_nil];omega));refine yda ?_;show wpAny (model prog w) A (do
   let o ← load s.heap.objs.size
   match o.data with
   | .seq xs _=>pure xs.toList
   | _=>yzm "internal:collect") Q E { s with heap:=(s.heap.push (seqObj "list" #[] 0)).update s.heap.objs.size (ywd (· ++ vs.toArray)) }
 refine yaa (yam (get?_update_seq (yfa _ rfl) _) ?_);show wpAny _ _ (pure ((#[]:Array Value)++vs.toArray).toList) Q E _
 rw[show ((#[]:Array Value)++vs.toArray).toList=vs by simp];exact yda h
theorem zjy {l:Addr}{vs:List Value}{ns:List Int}{Q:Value->Shared->Prop}(hl:s.heap.IsTuple l vs.toArray)(hI:yyf vs ns)(h64:vs.length<64)
  (h:∀(out:Array Value) (ns':List Int),yyf out.toList ns'->ns'.Perm ns->ns'.Pairwise (· ≤ ·)->Q (.ref (s.heap.objs.size+1)) { s with heap:=yso s.heap vs out }) :
  wpAny (model prog w) A (call (.builtin "sorted") [.ref l]) Q E s:=by
 refine ypg ypp yno yoo (ypo _) ?_;unfold yue.«sorted»;have big:vs.length≤yxa:=yqb (yre h64) (by decide);refine yaa (m:=yrq "sorted" 1 1 _) (yda ?_);refine yaa (zxt hl ?_ big);refine yaa (yaj ?_ big);have hsz:((s.heap.push (seqObj "list" #[] 0)).update s.heap.objs.size (ywd (· ++ vs.toArray))).objs.size=s.heap.objs.size+1:=by
  rw[ylr,ysq]
 have hoL:(((s.heap.push (seqObj "list" #[] 0)).update s.heap.objs.size (ywd (· ++ vs.toArray))).push (seqObj "list" vs.toArray 0)).get? (s.heap.objs.size+1)=some (seqObj "list" vs.toArray 0):=by
  rw[← hsz];exact yfa _ rfl
 show wpAny _ _ _ _ _ { s with heap:=((s.heap.push (seqObj "list" #[] 0)).update s.heap.objs.size (ywd (· ++ vs.toArray))).push (seqObj "list" vs.toArray 0) }
 rw[hsz];refine yaa (yoc (yic ywl ⟨_,hoL,rfl⟩ yzk (list_sort_tree hoL hI h64 λout ns' a1 a2 a3=>⟨_,rfl,?_⟩) (yxl _)));exact yda ⟨_,rfl,h out ns' a1 a2 a3⟩
end
end ISet
namespace SumL
open PySem PySem.Spec PyProof.Rows
section
variable {prog:ytb}{w:World}{A:Around}{R:Result->Shared->Prop}
end
section
variable {prog:ytb}{w:World}{A:Around}{E:Value->Shared->Prop}{s:Shared}
end
end SumL
namespace L2
open PySem PyProof.Rows
section
variable {X:Cx}
end
end L2
namespace L2
open PySem PySem.Spec PyProof.Rows
theorem ints_of:∀{vs:List Value} {ys:List Int},Vals (ys.map V.int) vs->yyf vs ys
 | _,[],.nil=>.nil
 | _,y::r,.cons h t=>by
  obtain⟨tk,rfl⟩:=h;exact .cons y tk (ints_of t)
def setI (X:Cx)(l:Addr)(D:List Int):HO:=.ext λh=>ISet.IS X.prog X.w h l D (!X.w.params.followText "set-order")
section
variable {X:Cx}
theorem zzt (hc:X.calm=true):zsf X (.type "set") (λxs H Q=>Ex2 λp ys=>xs=[.ref p]∧SqT X.K H p (ys.map V.int)∧ys.length≤1000∧∀l,H l=none->Q (.ref l) (upd H l (setI X l (ISet.dd ys)))):=by
 intro pins s σ H xs us Q I r h;obtain⟨p,ys,rfl,hq,hy,q⟩:=h;obtain⟨u,rfl,ru⟩:=vals1 r;cases ru;obtain⟨its,rv,pl,hz⟩:=I.tuple hq;have sy:=ints_of rv;have il:its.length=ys.length:=ISet.zjf sy;refine ISet.set_tuple (xs:=ys) (I.ok.hd hc) pl (by simpa using sy) (by rw[yna,il];have:yag=4096:=rfl;omega) λh' tk S k=>?_;have I1:Inv X pins σ (upd H s.heap.objs.size (setI X s.heap.objs.size (ISet.dd ys))) { s with heap:=h',toks:=tk }:=I.laid (t':=tk) (λb o e=>k b o e) (yha _) ⟨S,let ⟨o,_,_,_,e,_⟩:=S;⟨o,e⟩,λh1 h2 x y=>x.keep y⟩;exact⟨.ref s.heap.objs.size,_,I1,rfl,q _ (I.hok.fresh (yha _))⟩
theorem zrn (hc:X.calm=true):zsf X (.builtin "sorted") (λxs H Q=>Ex2 λl D=>xs=[.ref l]∧H l=some (setI X l D)∧D.length<64∧∀(p:Addr) (ys:List Int),H p=none->ys.Perm D->ys.Pairwise (· ≤ ·)->Q (.ref p) (upd H p (.lst (ys.map V.int)))):=by
 intro pins s σ H xs us Q I r h;obtain⟨l,D,rfl,hl,h64,q⟩:=h;obtain⟨u,rfl,ru⟩:=vals1 r;cases ru;obtain⟨S,_,_⟩:=I.hok l _ hl;refine ISet.zrcb (I.ok.hd hc) S h64 λh' d' tk p vs ys n k hp g sy py so=>?_;have I0:=I.zsfb d';have vl:vs.length≤yxa:=by
  rw[ISet.zjf sy,py.length_eq];exact yqb (yre h64) (by decide)
 have I1:Inv X pins σ (upd H p (.lst (ys.map V.int))) { s with heap:=h',drawn:=d',toks:=tk }:=I0.laid (t':=tk) (λb o e=>k b o e) hp ⟨by rw[yca,← ISet.zjf sy];exact vl,vs,n,zil sy,g⟩;exact⟨.ref p,_,I1,rfl,q p ys (I.hok.fresh hp) py so⟩
end
end L2
namespace L2
open PySem PySem.Spec PyProof.Rows PySem.MeetsSeq
section
variable {X:Cx}
theorem zthb {v:Value}{r1 r2:List V->Hp->VK->Prop}(a:zsf X v r1)(b:zsf X v r2):zsf X v (λxs H Q=>r1 xs H Q∨r2 xs H Q):=by
 intro pins s σ H xs us Q I r h
 rcases h with h|h
 ·exact a pins s σ H xs us Q I r h
 ·exact b pins s σ H xs us Q I r h
theorem zix (hc:X.calm=true):zsf X (.type "set") (λxs H Q=>(∃p,∃ys,xs=[.ref p]∧SqT X.K H p (ys.map V.str)∧ys.length≤1000∧∀l,H l=none->Q (.ref l) (upd H l (setO X l (SSet.dd ys))))∨Ex2 λp ys=>xs=[.ref p]∧SqT X.K H p (ys.map V.int)∧ys.length≤1000∧∀l,H l=none->Q (.ref l) (upd H l (setI X l (ISet.dd ys)))):=zthb (zgx hc) (zzt hc)
theorem zaq (hc:X.calm=true):zsf X (.builtin "sorted") (λxs H Q=>(Ex2 λl D=>xs=[.ref l]∧H l=some (setO X l D)∧D.length<64∧∀p ys,H p=none->ys.Perm D->yvl ys=true->Q (.ref p) (upd H p (.lst (ys.map V.str))))∨Ex2 λl D=>xs=[.ref l]∧H l=some (setI X l D)∧D.length<64∧∀(p:Addr) (ys:List Int),H p=none->ys.Perm D->ys.Pairwise (· ≤ ·)->Q (.ref p) (upd H p (.lst (ys.map V.int)))):=zthb (zkj hc) (zrn hc)
def zxtb (K:yea):R2:=λx y H Q=>Ex4 λa b xs ys=>x = .ref a∧y = .ref b∧SqT K H a xs∧SqT K H b ys∧xs.length+ys.length≤yxa∧(xs=[]->Q (.ref b) H)∧(xs≠[]->ys=[]->Q (.ref a) H)∧(xs≠[]->ys≠[]->∀p,H p=none->Q (.ref p) (upd H p (.tup (xs++ys))))
theorem zdpb:OpR X (yqi .Add) (zxtb X.K):=by
 intro pins s σ H x y v u Q I rx ry h;obtain⟨a,b,xs,ys,rfl,rfl,ha,hb,hz,q1,q2,q3⟩:=h
 by_cases c:xs=[]
 ·subst c;cases rx;cases ry;obtain⟨its,r1,p1,_⟩:=I.tuple ha;obtain⟨its2,r2,p2,_⟩:=I.tuple hb;cases r1;obtain⟨⟨cls,dd,data,sl⟩,ho,hc,n,hd⟩:=id p1;obtain⟨⟨cls2,dd2,data2,sl2⟩,ho2,hc2,n2,hd2⟩:=id p2;simp only at hc hd hc2 hd2;subst hc hd hc2 hd2;exact yfo ⟨_,ho,rfl⟩ ⟨_,ho2,rfl⟩ yzj ywm ynh ygh (yug _ _)
   (zbtb a b _ its2.toArray n n2 dd dd2 sl sl2 rfl) ⟨ho,ho2,⟨.ref b,H,I,rfl,q1 rfl⟩⟩
 ·exact zzi pins s σ H (.ref a) (.ref b) v u Q I rx ry ⟨a,b,xs,ys,rfl,rfl,ha,hb,c,hz,q2 c,q3 c⟩
theorem zbe:zsf X (.builtin "sorted") (λxs H Q=>Ex2 λl ns=>xs=[.ref l]∧(SqL X.K H l (ns.map V.int)∨SqT X.K H l (ns.map V.int))∧ns.length<64∧∀(p:Addr) (ys:List Int),H p=none->ys.Perm ns->ys.Pairwise (· ≤ ·)->Q (.ref p) (upd H p (.lst (ys.map V.int)))):=by
 intro pins s σ H xs us Q I r h;obtain⟨l,ns,rfl,hl,h64,q⟩:=h;obtain⟨u,rfl,ru⟩:=vals1 r;cases ru;have fin:∀(its:List Value),yyf its ns->∀(out:Array Value) (ys:List Int),yyf out.toList ys->ys.Perm ns->ys.Pairwise (· ≤ ·)->Ex2 λv H'=>Inv X pins σ H' { s with heap:=yso s.heap its out }∧RelV v (.ref (s.heap.objs.size+1))∧Q v H':=λits sy out ys a1 a2 a3=>by
  obtain⟨e,he⟩:=sortedAll_at s.heap its out;have vl:out.toList.length≤yxa:=by
   rw[ISet.zjf a1,a2.length_eq];exact yqb (yre h64) (by decide)
  have I1:Inv X pins σ (upd H (s.heap.objs.size+1) (.lst (ys.map V.int))) { s with heap:=yso s.heap its out }:=I.laid (t':=s.toks) (λb o e=>sortedAll_old e) (yif _) ⟨by rw[yca,← ISet.zjf a1];exact vl,out.toList,e,zil a1,by rw[ymf];exact he⟩;exact⟨.ref (s.heap.objs.size+1),_,I1,rfl,q _ ys (I.hok.fresh (yif _)) a2 a3⟩
 rcases hl with hl|hl
 ·obtain⟨its,rv,pl,_⟩:=I.list hl;have sy:=ints_of rv;exact sorted_ints (vs:=its) (ns:=ns) pl.isList sy (by rw[ISet.zjf sy];exact h64) λout ys a1 a2 a3=>fin its sy out ys a1 a2 a3
 ·obtain⟨its,rv,pl,_⟩:=I.tuple hl;have sy:=ints_of rv;exact ISet.zjy (vs:=its) (ns:=ns) pl sy (by rw[ISet.zjf sy];exact h64) λout ys a1 a2 a3=>fin its sy out ys a1 a2 a3
end
end L2
namespace HT
open PySem PySem.Spec PyProof.Rows L2
section
variable {prog:ytb}{w:World}{A:Around}{E:Value->Shared->Prop}{s:Shared}
theorem zqk {t sl:Addr}{items:Array Value}{vl vu:Value}{lo hi:Option Int}{Q:Value->Shared->Prop}(ht:IsTup s.heap t items)(hs:s.heap.IsSliceOf sl vl vu .none)(pl:IsPart vl lo)(pu:IsPart vu hi)
  (hw:sIx items.size 0 lo=0∧sIx items.size items.size hi=items.size) (h:Q (.ref t) s):wpAny (model prog w) A (yop (.ref t) (.ref sl)) Q E s:=by
 obtain⟨os,hos,hcs,hds⟩:=id hs;have hTs:s.TypeIs (.ref sl) "slice":=⟨os,hos,hcs⟩;unfold yop
 try with_reducible refine yoc ?_
 first|refine yaa (yda ?_)|skip
 refine yaa (ydm ht.typeIs (by decide) ?_);refine yaa (ypc (name:=ydf "__getitem__") ht.typeIs ypd
  (yic ypd ht.typeIs entry_tuple_getitem ?_ (args_tuple_getitem _ _)))
 show wpAny _ _ (yil (.ref t) >>= _) _ _ s
 refine yaa (tupleItemsOf_ ht ?_);refine yaa (ymi hTs ?_);rw[if_pos (by decide)];refine yaa (zqi hs pl pu ?_);have hyes:((((sIx items.size 0 lo:Nat):Int)==0&&(1:Int)==1&&(sIx items.size items.size hi-sIx items.size 0 lo)==items.size)=true):=by
  rw[hw.1,hw.2];simp
 show wpAny _ _ (if (((sIx items.size 0 lo:Nat):Int)==0&&(1:Int)==1&&(sIx items.size items.size hi-sIx items.size 0 lo)==items.size)=true then _ else _) _ _ s
 rw[if_pos hyes];refine yaa (m:=yue.Tuple.tupleIsExact _) (yaa (ymi ht.typeIs (yda ?_)));refine yef (λ_=>?_) (λz=>absurd (by decide) z);exact yaa (ytf (yda ⟨_,rfl,yda h⟩))
end
end HT
namespace L2
open PySem PySem.Spec PyProof.Rows
def rSlA (K:yea):V->Option Int->Option Int->Hp->VK->Prop:=λx lo hi H Q=>Ex2 λa xs=>x = .ref a∧SqT K H a xs ∧
 ((HT.sIx xs.length 0 lo=0∧HT.sIx xs.length xs.length hi=xs.length)->Q (.ref a) H)∧(¬ (HT.sIx xs.length 0 lo=0∧HT.sIx xs.length xs.length hi=xs.length)->∀p,H p=none->Q (.ref p) (upd H p (.tup (cutV xs lo hi))))
section
variable {X:Cx}
theorem zffb:SlR X (rSlA X.K):=by
 intro pins s σ H x v vl vu lo hi sl Q I rx hs pl pu h;obtain⟨a,xs,rfl,hx,q1,q2⟩:=h
 by_cases c:HT.sIx xs.length 0 lo=0∧HT.sIx xs.length xs.length hi=xs.length
 ·cases rx;obtain⟨its,r,ht,hz⟩:=I.tuple hx;have hlen:its.toArray.size=xs.length:=by rw[yna];exact r.length.symm
  refine⟨"tuple",_,ypd.lookup,ht.typeIs,?_⟩;exact HT.zqk ht hs pl pu (by rw[hlen];exact c) ⟨.ref a,H,I,rfl,q1 c⟩
 ·exact zzu pins s σ H (.ref a) v vl vu lo hi sl Q I rx hs pl pu ⟨a,xs,rfl,hx,c,q2 c⟩
end
end L2
namespace L2
open PySem PySem.Spec PyProof.Rows PySem.MeetsSeq
section
variable {X:Cx}
end
end L2
namespace L2
open PySem PySem.Spec PyProof.Rows PySem.MeetsSeq
section
variable {X:Cx}
end
end L2
namespace L2
open PySem PySem.Spec PyProof.Rows PySem.MeetsSeq
section
variable {X:Cx}
end
end L2
namespace L2
open PySem PyProof.Rows
section
variable {X:Cx}
end
end L2
namespace SSet
open PySem PySem.Spec PyProof.Rows
section
variable {mask:Nat}{owner:Array (Option Nat)}
end
end SSet
namespace SSet
open PySem PySem.Spec PyProof.Rows
section
variable {prog:ytb}{w:World}{A:Around}{E:Value->Shared->Prop}{s:Shared}
end
end SSet
namespace SSet
open PySem PySem.Spec PyProof.Rows
section
variable {prog:ytb}{w:World}{A:Around}{E:Value->Shared->Prop}{s:Shared}
end
end SSet
namespace L2
open PySem PySem.Spec PyProof.Rows PySem.MeetsSeq
section
variable {X:Cx}
end
end L2
namespace L2
open PySem PyProof.Rows
section
variable {X:Cx}{pins:List (Addr×Obj)}{σ:St}{H:Hp}{s:Shared}{h':Heap}
theorem Inv.zpeb {t':Nat}{fp:List Addr}(I:Inv X pins σ H s)(k:∀b o,b∉fp->s.heap.get? b=some o->h'.get? b=some o)(ff:∀b∈fp,FpOk X pins H b):Inv X pins σ H { s with heap:=h',toks:=t' }:=by
 have o1:∀b u,H b=some u->b∉fp:=λb u e z=>by
  rw[(ff b z).1] at e;cases e
 refine I.step (g':=s.gens) (d':=s.drawn) (ch:=fp) (λb hb=>?_) (λb o _ _ hc e _=>k b o hc e) (λb o _ _ hc e _=>⟨o.slots,k b o hc e⟩) (λ_ _ _ _ n=>n)
  (λb o hc e=>⟨o,k b o hc e⟩) (λ_ _ e=>e) (λ_ _ _ e=>e) (λb ps e=>⟨#[],by rw[e];simp⟩) (λm hm=>?_) (λb u e=>?_) I.bare
 ·obtain⟨_,f1,_,f3,f4,f5⟩:=ff b hb;exact⟨f3,f1,f4,f5⟩
 ·obtain⟨o,es,ep,ho,r⟩:=hm;exact⟨o,es,ep,k _ o (λz=>(ff _ z).2.1 rfl) ho,r⟩
 ·refine (I.hok b u e).stay (λc v hc q=>k c v ?_ q) (λ_ q=>q) λ_ _ q=>q
  rcases hc with z|z
  ·rw[z];exact o1 b u e
  ·exact o1 c _ z
end
theorem boot_zip:yph "zip" = some (.type "zip"):=by decide +kernel
section
variable {X:Cx}
end
section
variable {X:Cx}
open PySem.Spec PySem.MeetsSeq
end
end L2
namespace L2
open PySem PyProof.Rows
section
variable {pr:ytb}{wo:World}{Ar:Around}{Ex:Value->Shared->Prop}{sh:Shared}
theorem tupB {h g:Heap}{b t:Addr}{xs:Array Value}(x:h.IsTuple t xs)(e:ycs b h g)(n:t≠b):g.IsTuple t xs:=by
 obtain⟨o,ho,r⟩:=x;exact⟨o,e _ _ n ho,r⟩
theorem zdjb {z TI TO i1 i2 l1 l2:Addr}{k1 k2:Nat}{xs ys:Array Value}{x y a b:Value}{Q:Value->Shared->Prop}(D:yfp z TI TO i1 i2 l1 l2)
  (hz:IsZip sh.heap z TI TO .none) (hI:IsPair sh.heap TI (.ref i1) (.ref i2)) (hO:IsPair sh.heap TO a b) (h1:sh.heap.IsTupleIter i1 l1 k1) (h2:sh.heap.IsListIter i2 l2 k2) (hl1:sh.heap.IsTuple l1 xs) (hl2:sh.heap.IsList l2 ys) (hx:xs[k1]?=some x) (hy:ys[k2]?=some y)
  (q:∀g,IsZip g z TI TO (rawInt sh.heap.objs.size)->IsPair g TO x y->g.IsTupleIter i1 l1 (k1+1)->g.IsListIter i2 l2 (k2+1)->IsPair g sh.heap.objs.size x y->g.objs.size=sh.heap.objs.size+1->(∀c o,c≠z->c≠TO->c≠i1->c≠i2->sh.heap.get? c=some o->g.get? c=some o)->Q (.ref sh.heap.objs.size) { sh with heap:=g }) :
  wpAny (model pr wo) Ar (yue.«zip.__next__» ⟨[.ref z],[]⟩) (λfin s'=>∃v,fin = .done (.ret v)∧Q v s') Ex sh:=by
 refine (show wpAny (model pr wo) Ar (field (.ref z) 2 >>= _) _ Ex sh from yaa (yod hz rfl (x:=.bool false) rfl ?_));refine (show wpAny (model pr wo) Ar (field (.ref z) 3 >>= _) _ Ex sh from yaa (yod hz rfl (x:=.ref TI) rfl ?_));refine yaa (yrg hI rfl ?_);refine (show wpAny (model pr wo) Ar (yyc (.ref z) >>= _) _ Ex sh from yaa ?_);unfold yyc;refine yaa (yod hz rfl (x:=.none) rfl (yda ?_));simp only[if_true];refine yaa (ytf (yaa (yod hz rfl (x:=.ref TO) rfl ?_)));refine yaa (yxb hz (by simp) λg1 z1 s1=>yaa ?_)
 replace z1:IsZip g1 z TI TO .ellipsis:=z1
 simp only[ymr,List.zipIdx_nil,yho,List.forIn_nil];refine yaa (yaa (ygn ?_));refine (show wpAny (model pr wo) _ (yuc (.ref i1) >>= _) _ _ _ from yaa (zjt (h1.extBut s1.extBut D.i1z) (tupB hl1 s1.extBut D.l1z) hx λg2 t2 s2=>yda ?_));have O2:IsPair g2 TO a b:=s2.extBut _ _ D.TOi1 (s1.extBut _ _ D.TOz hO);refine yaa (yrg O2 rfl (yaa (yhk O2 λg3 O3 s3=>?_)))
 replace O3:IsPair g3 TO x b:=O3
 refine yaa (yrp (yda ?_));refine yaa (yaa (ygn ?_));refine (show wpAny (model pr wo) _ (yuc (.ref i2) >>= _) _ _ _ from yaa (wpAny_nextOf_list_item (((h2.extBut s1.extBut D.i2z).extBut s2.extBut D.i12.symm).extBut s3.extBut D.TOi2.symm) (((hl2.extBut s1.extBut D.l2z).extBut s2.extBut D.l2i1).extBut s3.extBut D.l2TO) hy λg4 t4 s4=>yda ?_));have O4:IsPair g4 TO x b:=s4.extBut _ _ D.TOi2 O3;refine yaa (yrg O4 rfl (yaa (yhk O4 λg5 O5 s5=>?_)))
 replace O5:IsPair g5 TO x y:=O5
 refine yaa (yrp (yda (yda ?_)));refine yaa (yrg O5 rfl (yaa (ysj ?_)));have sz:g5.objs.size=sh.heap.objs.size:=by rw[s5.1,s4.1,s3.1,s2.1,s1.1]
 have z5:IsZip g5 z TI TO .ellipsis:=s5.extBut _ _ D.TOz.symm (s4.extBut _ _ D.i2z.symm (s3.extBut _ _ D.TOz.symm (s2.extBut _ _ D.i1z.symm z1)));have k5:∀c o,c≠z->c≠TO->c≠i1->c≠i2->sh.heap.get? c=some o->g5.get? c=some o:=λc o c1 c2 c3 c4 e=>s5.extBut _ _ c2 (s4.extBut _ _ c4 (s3.extBut _ _ c2 (s2.extBut _ _ c3 (s1.extBut _ _ c1 e))));have a5:g5.IsTupleIter i1 l1 (k1+1):=((t2.extBut s3.extBut D.TOi1.symm).extBut s4.extBut D.i12).extBut s5.extBut D.TOi1.symm;have b5:g5.IsListIter i2 l2 (k2+1):=t4.extBut s5.extBut D.TOi2.symm;have zl:z<g5.objs.size:=yma z5;refine (show wpAny (model pr wo) _ (yne (.ref z) (.ref g5.objs.size) >>= _) _ _ _ from yaa ?_);unfold yne;have z6:IsZip (g5.push { cls:=.type "tuple",data:=.seq #[x,y] }) z TI TO .ellipsis:=yba _ z5;refine yaa (yxb z6 (by simp) λg7 z7 s7=>?_)
 replace z7:IsZip g7 z TI TO (rawInt g5.objs.size):=z7
 refine yxb z7 (by simp) λg8 z8 s8=>?_
 replace z8:IsZip g8 z TI TO (rawInt g5.objs.size):=z8
 have up:∀c o,c≠z->g5.get? c=some o->g8.get? c=some o:=λc o c1 e=>s8.extBut _ _ c1 (s7.extBut _ _ c1 (yba _ e));have T8:IsPair g8 g5.objs.size x y:=s8.extBut _ _ (yxe zl) (s7.extBut _ _ (yxe zl) (yfa _ rfl));have n8:g8.objs.size=g5.objs.size+1:=by rw[s8.1,s7.1,yjc]
 rw[sz] at z8 T8 n8;refine yda ⟨_,rfl,(show Q (.ref g5.objs.size) _ from ?_)⟩;rw[sz];obtain⟨o1,e1,r1⟩:=a5;obtain⟨o2,e2,r2⟩:=b5;exact q g8 z8 (up _ _ D.TOz O5) ⟨o1,up _ _ D.i1z e1,r1⟩ ⟨o2,up _ _ D.i2z e2,r2⟩ T8 n8 λc o c1 c2 c3 c4 e=>up c o c1 (k5 c o c1 c2 c3 c4 e)
theorem zbjb {z TI TO i1 i2 l1 l2:Addr}{k1 k2:Nat}{xs ys:Array Value}{a b:Value}{Q:yms->Shared->Prop}(hd:Ar.handled=none)(D:yfp z TI TO i1 i2 l1 l2)
  (hz:IsZip sh.heap z TI TO .none) (hI:IsPair sh.heap TI (.ref i1) (.ref i2)) (hO:IsPair sh.heap TO a b) (h1:sh.heap.IsTupleIter i1 l1 k1) (h2:sh.heap.IsListIter i2 l2 k2) (hl1:sh.heap.IsTuple l1 xs) (hl2:sh.heap.IsList l2 ys) (he:xs[k1]?=none∨ys[k2]?=none)
  (q:∀g e,(∀c o,c≠z->c≠TO->c≠i1->c≠i2->sh.heap.get? c=some o->g.get? c=some o)->(∃o,g.get? e=some o∧o.cls = .type "StopIteration")->Ex (.ref e) { sh with heap:=g }) :
  wpAny (model pr wo) Ar (yue.«zip.__next__» ⟨[.ref z],[]⟩) Q Ex sh:=by
 refine (show wpAny (model pr wo) Ar (field (.ref z) 2 >>= _) _ Ex sh from yaa (yod hz rfl (x:=.bool false) rfl ?_));refine (show wpAny (model pr wo) Ar (field (.ref z) 3 >>= _) _ Ex sh from yaa (yod hz rfl (x:=.ref TI) rfl ?_));refine yaa (yrg hI rfl ?_);refine (show wpAny (model pr wo) Ar (yyc (.ref z) >>= _) _ Ex sh from yaa ?_);unfold yyc;refine yaa (yod hz rfl (x:=.none) rfl (yda ?_));simp only[if_true];refine yaa (ytf (yaa (yod hz rfl (x:=.ref TO) rfl ?_)));refine yaa (yxb hz (by simp) λg1 z1 s1=>yaa ?_)
 replace z1:IsZip g1 z TI TO .ellipsis:=z1
 simp only[ymr,List.zipIdx_nil,yho,List.forIn_nil];refine yaa (yaa (ygn ?_));cases hx:xs[k1]? with
 | none =>
  refine (show wpAny (model pr wo) _ (yuc (.ref i1) >>= _) _ _ _ from yaa (zxab hd (h1.extBut s1.extBut D.i1z) (tupB hl1 s1.extBut D.l1z) hx λg2 e s2 ⟨oe,h3,h4⟩=>?_));have z2:IsZip g2 z TI TO .ellipsis:=s2 _ _ D.i1z.symm z1;have nz:e≠z:=λy=>by subst y;rw[z2] at h3;cases h3;simp at h4
  exact yxb z2 (by simp) λg3 _ s3=>q g3 e (λc o c1 _ c3 _ y=>s3.extBut _ _ c1 (s2 _ _ c3 (s1.extBut _ _ c1 y))) ⟨oe,s3.extBut _ _ nz h3,h4⟩
 | some x =>
  have hy:ys[k2]?=none:=by
   rcases he with h|h
   ·rw[hx] at h;cases h
   ·exact h
  refine (show wpAny (model pr wo) _ (yuc (.ref i1) >>= _) _ _ _ from yaa (zjt (h1.extBut s1.extBut D.i1z) (tupB hl1 s1.extBut D.l1z) hx λg2 t2 s2=>yda ?_));have O2:IsPair g2 TO a b:=s2.extBut _ _ D.TOi1 (s1.extBut _ _ D.TOz hO);refine yaa (yrg O2 rfl (yaa (yhk O2 λg3 O3 s3=>?_)));refine yaa (yrp (yda ?_));refine yaa (yaa (ygn ?_));refine (show wpAny (model pr wo) _ (yuc (.ref i2) >>= _) _ _ _ from yaa (wpAny_nextOf_list_end hd (((h2.extBut s1.extBut D.i2z).extBut s2.extBut D.i12.symm).extBut s3.extBut D.TOi2.symm) (((hl2.extBut s1.extBut D.l2z).extBut s2.extBut D.l2i1).extBut s3.extBut D.l2TO) hy λg4 e s4 ⟨oe,h3,h4⟩=>?_));have z4:IsZip g4 z TI TO .ellipsis:=s4 _ _ D.i2z.symm (s3.extBut _ _ D.TOz.symm (s2.extBut _ _ D.i1z.symm z1));have nz:e≠z:=λy=>by subst y;rw[z4] at h3;cases h3;simp at h4
  exact yxb z4 (by simp) λg5 _ s5=>q g5 e (λc o c1 c2 c3 c4 y=>s5.extBut _ _ c1 (s4 _ _ c4 (s3.extBut _ _ c2 (s2.extBut _ _ c3 (s1.extBut _ _ c1 y))))) ⟨oe,s5.extBut _ _ nz h3,h4⟩
theorem zcjb {z TI TO i1 i2 l1 l2:Addr}{k1 k2:Nat}{xs ys:Array Value}{x y a b:Value}{Q:Option Value->Shared->Prop}(D:yfp z TI TO i1 i2 l1 l2)
  (hz:IsZip sh.heap z TI TO .none) (hI:IsPair sh.heap TI (.ref i1) (.ref i2)) (hO:IsPair sh.heap TO a b) (h1:sh.heap.IsTupleIter i1 l1 k1) (h2:sh.heap.IsListIter i2 l2 k2) (hl1:sh.heap.IsTuple l1 xs) (hl2:sh.heap.IsList l2 ys) (hx:xs[k1]?=some x) (hy:ys[k2]?=some y)
  (q:∀g,IsZip g z TI TO (rawInt sh.heap.objs.size)->IsPair g TO x y->g.IsTupleIter i1 l1 (k1+1)->g.IsListIter i2 l2 (k2+1)->IsPair g sh.heap.objs.size x y->g.objs.size=sh.heap.objs.size+1->(∀c o,c≠z->c≠TO->c≠i1->c≠i2->sh.heap.get? c=some o->g.get? c=some o)->Q (some (.ref sh.heap.objs.size)) { sh with heap:=g }) :
  wpAny (model pr wo) Ar (pyNext (.ref z)) Q Ex sh:=by
 have ty:sh.TypeIs (.ref z) "zip":=⟨_,hz,rfl⟩;unfold pyNext;exact yaa (yxi (ypc (name:=ydf "__next__") ty ydl (yic ydl ty F.entry_zip_next (zdjb D hz hI hO h1 h2 hl1 hl2 hx hy λg a1 a2 a3 a4 a5 a6 a7=>yda (q g a1 a2 a3 a4 a5 a6 a7)) (F.args_zip_next_1 _))))
theorem zcnb {z TI TO i1 i2 l1 l2:Addr}{k1 k2:Nat}{xs ys:Array Value}{a b:Value}{Q:Option Value->Shared->Prop}(hd:Ar.handled=none)(D:yfp z TI TO i1 i2 l1 l2)
  (hz:IsZip sh.heap z TI TO .none) (hI:IsPair sh.heap TI (.ref i1) (.ref i2)) (hO:IsPair sh.heap TO a b) (h1:sh.heap.IsTupleIter i1 l1 k1) (h2:sh.heap.IsListIter i2 l2 k2) (hl1:sh.heap.IsTuple l1 xs) (hl2:sh.heap.IsList l2 ys) (he:xs[k1]?=none∨ys[k2]?=none)
  (q:∀g,(∀c o,c≠z->c≠TO->c≠i1->c≠i2->sh.heap.get? c=some o->g.get? c=some o)->Q none { sh with heap:=g }):wpAny (model pr wo) Ar (pyNext (.ref z)) Q Ex sh:=by
 have ty:sh.TypeIs (.ref z) "zip":=⟨_,hz,rfl⟩;unfold pyNext;refine yaa (yxi (ypc (name:=ydf "__next__") ty ydl (yic ydl ty F.entry_zip_next (zbjb hd D hz hI hO h1 h2 hl1 hl2 he λg e hk ⟨o,ho,hc⟩=>?_) (F.args_zip_next_1 _))));exact yaa (yak (T:="StopIteration") (b:=true) ⟨o,ho,hc⟩ yjp (yda (q _ hk)))
abbrev zt1 (h:Heap)(t:Addr):Heap:=h.push { cls:=.type "tuple_iterator",data:=.fields #[.ref t,.int 0 0] }
abbrev zt2 (h:Heap)(t l:Addr):Heap:=(zt1 h t).push { cls:=.type "list_iterator",data:=.fields #[.ref l,.int 0 0] }
abbrev zt3 (h:Heap)(t l:Addr):Heap:=(zt2 h t l).push { cls:=.type "tuple",data:=.seq #[.ref h.objs.size,.ref (zt1 h t).objs.size] }
abbrev zt4 (h:Heap)(t l:Addr):Heap:=(zt3 h t l).push { cls:=.type "tuple",data:=.seq #[.none,.none] }
abbrev zt5 (h:Heap)(t l:Addr):Heap:=(zt4 h t l).push { cls:=.type "zip",data:=.fields #[.none,.bool false,.bool false,.ref (zt2 h t l).objs.size,.ref (zt3 h t l).objs.size] }
theorem zkgb (t l:Addr)(xs ys:Array Value):Meets (yue.«zip.__new__» ⟨[.type "zip",.ref t,.ref l],[]⟩) (λ_ R s=>s.heap.IsTuple t xs∧s.heap.IsList l ys∧R (.ok (.ret (.ref (zt4 s.heap t l).objs.size))) { s with heap:=zt5 s.heap t l }) :=
 .of_wp λprog w A R s h=>by
  obtain⟨hp,g,d,tk,os⟩:=s;obtain⟨a1,a2,h⟩:=h;have hsub:=sub_zip;have b1:Heap.IsTuple (yds ⟨hp,g,d,tk,os⟩) t xs:=a1;have b2:Heap.IsList (yds ⟨hp.push { cls:=.type "tuple_iterator",data:=.fields #[.ref t,.int 0 0] },g,d,tk,os⟩) l ys:=Heap.IsList.push a2 _
  wp_walk using yff b1,yij b2
  exact⟨_,rfl,h⟩
theorem zwdb {t l:Addr}{xs ys:Array Value}{Q:Value->Shared->Prop}(h1:sh.heap.IsTuple t xs)(h2:sh.heap.IsList l ys)
  (q:∀g,IsZip g (sh.heap.objs.size+4) (sh.heap.objs.size+2) (sh.heap.objs.size+3) .none->IsPair g (sh.heap.objs.size+2) (.ref sh.heap.objs.size) (.ref (sh.heap.objs.size+1))->IsPair g (sh.heap.objs.size+3) .none .none->g.IsTupleIter sh.heap.objs.size t 0->g.IsListIter (sh.heap.objs.size+1) l 0->(∀c o,sh.heap.get? c=some o->g.get? c=some o)->Q (.ref (sh.heap.objs.size+4)) { sh with heap:=g }) :
  wpAny (model pr wo) Ar (call (.type "zip") [.ref t,.ref l]) Q Ex sh:=by
 refine callType_new F.called_zip (by decide) (F.typeCall_zip_2 _ _) (F.newCall_zip_2 _ _) (λobj=>F.args_object_init_3 obj _ _) F.entry_zip_new (zkgb t l xs ys) ⟨h1,h2,?_⟩;have n1:(zt1 sh.heap t).objs.size=sh.heap.objs.size+1:=yjc ..;have n2:(zt2 sh.heap t l).objs.size=sh.heap.objs.size+2:=by rw[yjc,n1]
 have n3:(zt3 sh.heap t l).objs.size=sh.heap.objs.size+3:=by rw[yjc,n2]
 have n4:(zt4 sh.heap t l).objs.size=sh.heap.objs.size+4:=by rw[yjc,n3]
 have e5:(zt5 sh.heap t l).get? (zt4 sh.heap t l).objs.size=some _:=yfa _ rfl;have e4:(zt5 sh.heap t l).get? (zt3 sh.heap t l).objs.size=some _:=yba _ (yfa _ rfl);have e3:(zt5 sh.heap t l).get? (zt2 sh.heap t l).objs.size=some _:=yba _ (yba _ (yfa _ rfl));have e2:(zt5 sh.heap t l).get? (zt1 sh.heap t).objs.size=some _:=yba _ (yba _ (yba _ (yfa _ rfl)));have e1:(zt5 sh.heap t l).get? sh.heap.objs.size=some _:=yba _ (yba _ (yba _ (yba _ (yfa _ rfl))));show _∧_
 rw[n2,n3,n4] at e5;rw[n1,n2] at e3;rw[n3] at e4;rw[n1] at e2;rw[n4];exact⟨⟨_,e5,rfl⟩,q _ e5 e3 e4 ⟨_,e1,rfl,rfl⟩ ⟨_,e2,rfl,rfl⟩ λc o x=>yba _ (yba _ (yba _ (yba _ (yba _ x))))⟩
end
def ZpT (h:Heap)(z TI TO i1 i2 l1 l2:Addr)(i:Nat):Prop:=IsZip h z TI TO .none∧IsPair h TI (.ref i1) (.ref i2)∧(Ex2 λa b=>IsPair h TO a b)∧h.IsTupleIter i1 l1 i∧h.IsListIter i2 l2 i
def Izt (K:yea)(a b:Addr):It :=
 ⟨λi H=>Ex4 λxs ys x y=>SqT K H a xs∧SqL K H b ys∧xs[i]?=some x∧ys[i]?=some y,λi H x H'=>Ex3 λp v u=>H p=none∧x = .ref p∧H'=upd H p (.tup [v,u])∧∀xs ys,SqT K H a xs->SqL K H b ys->xs[i]?=some v∧ys[i]?=some u,λi H=>Ex2 λxs ys=>SqT K H a xs∧SqL K H b ys∧(xs.length≤i∨ys.length≤i)⟩
theorem zjeb {h:Heap}{z TI TO i1 i2 a b:Addr}{i:Nat}{xs ys:Array Value}(D1:TI≠z)(D2:TO≠z)(D3:i1≠z)(D4:i2≠z)(D5:TI≠TO)(D6:TI≠i1)(D7:TI≠i2)(D8:TO≠i1)(D9:TO≠i2)(D10:i1≠i2)(nTO:a≠TO)(st:ZpT h z TI TO i1 i2 a b i)(p:h.IsTuple a xs)(q:h.IsList b ys):yfp z TI TO i1 i2 a b:=by
 obtain⟨g1,g2,⟨x0,y0,g3⟩,⟨o4,g4,c4,_⟩,⟨o5,g5,c5,_⟩⟩:=st;obtain⟨b1,b2,b3,b4⟩:b≠z∧b≠TO∧b≠i1∧b≠i2:=by
  obtain⟨o,ho,hc,_⟩:=q;refine⟨λe=>?_,λe=>?_,λe=>?_,λe=>?_⟩
  ·rw[e,g1] at ho;cases ho;exact absurd hc (by simp)
  ·rw[e,g3] at ho;cases ho;exact absurd hc (by simp)
  ·rw[e,g4] at ho;cases ho;exact absurd (c4.symm.trans hc) (by simp)
  ·rw[e,g5] at ho;cases ho;exact absurd (c5.symm.trans hc) (by simp)
 obtain⟨a1,a3,a4⟩:a≠z∧a≠i1∧a≠i2:=by
  obtain⟨o,ho,hc,_⟩:=p;refine⟨λe=>?_,λe=>?_,λe=>?_⟩
  ·rw[e,g1] at ho;cases ho;exact absurd hc (by simp)
  ·rw[e,g4] at ho;cases ho;exact absurd (c4.symm.trans hc) (by simp)
  ·rw[e,g5] at ho;cases ho;exact absurd (c5.symm.trans hc) (by simp)
 exact⟨D1,D2,D3,D4,D5,D6,D7,D8,D9,D10,a1,nTO,a3,a4,b1,b2,b3,b4⟩
theorem zkcb {P:ytb}{w:World}{K:yea}{es:List Expr}{k1:Nat}{pos:Pos}(a b z TI TO i1 i2:Addr)(D1:TI≠z)(D2:TO≠z)(D3:i1≠z)(D4:i2≠z)(D5:TI≠TO)(D6:TI≠i1)(D7:TI≠i2)(D8:TO≠i1)(D9:TO≠i2)(D10:i1≠i2)(nTO:a≠TO):Turn P w K (.Tuple es k1 pos) (Izt K a b) [z,TI,TO,i1,i2] z (λi h=>ZpT h z TI TO i1 i2 a b i) where
 mem:=by simp
 obj:=λi h st c hc=>by
  obtain⟨g1,g2,⟨x,y,g3⟩,⟨o4,h4,_,d4⟩,⟨o5,h5,_,d5⟩⟩:=st;simp only[yka,ype,or_false] at hc
  rcases hc with rfl|rfl|rfl|rfl|rfl
  ·exact⟨_,g1,λv y=>by cases y⟩
  ·exact⟨_,g2,λv y=>by cases y⟩
  ·exact⟨_,g3,λv y=>by cases y⟩
  ·exact⟨o4,h4,λv y=>by rw[d4] at y;cases y⟩
  ·exact⟨o5,h5,λv y=>by rw[d5] at y;cases y⟩
 keep:=λi h h' st k=>by
  obtain⟨g1,g2,⟨x,y,g3⟩,⟨o4,h4,r4⟩,⟨o5,h5,r5⟩⟩:=st;exact⟨k z (by simp) _ g1,k TI (by simp) _ g2,⟨x,y,k TO (by simp) _ g3⟩,⟨o4,k i1 (by simp) _ h4,r4⟩,⟨o5,k i2 (by simp) _ h5,r5⟩⟩
 item:=by
  intro X hP hw hK hc i pins s σ H E I hf st hg;subst hP hw hK;obtain⟨xs,ys,x,y,hq,hq2,hx,hy⟩:=hg;obtain⟨its,rv,p,hz⟩:=I.tuple hq;obtain⟨its2,rv2,p2,hz2⟩:=I.list hq2;obtain⟨u,hu,ru⟩:=rv.get hx;obtain⟨u2,hu2,ru2⟩:=rv2.get hy;obtain⟨g1,g2,⟨x0,y0,g3⟩,g4,g5⟩:=id st;have low:∀c∈[z,TI,TO,i1,i2],c<s.heap.objs.size:=λc hc=>by
   simp only[yka,ype,or_false] at hc
   rcases hc with rfl|rfl|rfl|rfl|rfl
   ·exact yma g1
   ·exact yma g2
   ·exact yma g3
   ·obtain⟨o,h,_⟩:=g4;exact yma h
   ·obtain⟨o,h,_⟩:=g5;exact yma h
  have D:yfp z TI TO i1 i2 a b:=zjeb D1 D2 D3 D4 D5 D6 D7 D8 D9 D10 nTO st p p2.isList;refine zcjb D g1 g2 g3 g4 g5 p p2.isList (x:=u) (y:=u2) (by simpa using hu) (by simpa using hu2) λg e1 eo i1' i2' t1 sz k1=>?_;refine⟨_,rfl,wpAny_letOwnedTupleGo_zip e1 λg2' e2 s2=>?_⟩;have na:∀c,c<s.heap.objs.size->c≠s.heap.objs.size:=λc h=>yab h;have ltz:=low z (by simp);have tt:g2'.get? s.heap.objs.size=some { cls:=.type "tuple",data:=.seq #[u,u2] }:=s2.extBut _ _ (yxe ltz) t1;have kk:∀c o,c∉[z,TI,TO,i1,i2]->s.heap.get? c=some o->g2'.get? c=some o:=λc o hc e=>by
   simp only[yka,ype,or_false,not_or] at hc;exact s2.extBut c o hc.1 (k1 c o hc.1 hc.2.2.1 hc.2.2.2.1 hc.2.2.2.2 e)
  have I1:Inv X pins σ (upd H s.heap.objs.size (.tup [x,y])) { s with heap:=s.heap.push { cls:=.type "tuple",data:=.seq #[u,u2] },toks:=s.toks } :=
   I.laid (t':=s.toks) (λb o z=>yba _ z) (yha _) ⟨by show 2≤yxa;decide,[u,u2],.cons ru (.cons ru2 .nil),⟨_,yfa _ rfl,rfl,_,rfl⟩⟩
  have fo:∀c∈[z,TI,TO,i1,i2],FpOk X pins (upd H s.heap.objs.size (.tup [x,y])) c:=λc hc=>⟨by rw[zta (na c (low c hc))];exact (hf c hc).1,(hf c hc).2⟩;have I2:=I1.zpeb (h':=g2') (t':=s.toks) (fp:=[z,TI,TO,i1,i2]) (λc o hc e=>by
   by_cases hb:c=s.heap.objs.size
   ·rw[hb] at e ⊢;rw[yfa _ rfl] at e;cases e;exact tt
   ·rw[ytq _ _ _ hb] at e;exact kk c o hc e) fo
  refine⟨.ref s.heap.objs.size,_,I2,rfl,⟨s.heap.objs.size,x,y,I.hok.fresh (yha _),rfl,rfl,λzs ws hz hw=>⟨by rw[I.zpo hz hq];exact hx,by rw[I.zsbb hw hq2];exact hy⟩⟩,⟨e2,?_,⟨u,u2,?_⟩,?_,?_⟩,λc hc=>(fo c hc).1⟩
  ·exact s2.extBut _ _ D1 (k1 _ _ D1 D5 D6 D7 g2)
  ·exact s2.extBut _ _ D2 eo
  ·obtain⟨o,e,r⟩:=i1';exact⟨o,s2.extBut _ _ D3 e,r⟩
  ·obtain⟨o,e,r⟩:=i2';exact⟨o,s2.extBut _ _ D4 e,r⟩
 done:=by
  intro X hP hw hK hc i pins s σ H E I hf st hg;subst hP hw hK;obtain⟨xs,ys,hq,hq2,hx⟩:=hg;obtain⟨its,rv,p,hz⟩:=I.tuple hq;obtain⟨its2,rv2,p2,hz2⟩:=I.list hq2;obtain⟨g1,g2,⟨x0,y0,g3⟩,g4,g5⟩:=id st;have D:yfp z TI TO i1 i2 a b:=zjeb D1 D2 D3 D4 D5 D6 D7 D8 D9 D10 nTO st p p2.isList;have hl:=rv.length;have hl2:=rv2.length;refine zcnb (I.ok.hd hc) D g1 g2 g3 g4 g5 p p2.isList ?_ λg kp=>⟨rfl,I.zpeb (t':=s.toks) (fp:=[z,TI,TO,i1,i2]) (λc o hc e=>?_) hf⟩
  ·rcases hx with hx|hx
   ·exact .inl (by simp;omega)
   ·exact .inr (by simp;omega)
  ·simp only[yka,ype,or_false,not_or] at hc;exact kp c o hc.1 hc.2.2.1 hc.2.2.2.1 hc.2.2.2.2 e
 self:=λ_ _ _ _ _ st h=>by
  obtain⟨g1,_⟩:=st;exact wpAny_pyIter_zip g1 h
section
variable {X:Cx}
def iZpT (K:yea)(ta:TA):TI:=fun σ H R=>ta σ H λvs H1=>Ex4 λa b xs ys=>vs=[.ref a,.ref b]∧SqT K H1 a xs∧SqL K H1 b ys∧R (Izt K a b) H1
theorem zckb {es:List Expr}{k1:Nat}{tp:Pos}{a b:Expr}{ta:TA}{p pos:Pos}(hg:Gl X "zip")(hm:X.mg "zip" = none)(ha:PA X [a,b] ta)(hs:yjd [a,b] X.env=(false,eval a X.env)::yjd [b] X.env:=by rfl)(hp:(backTo pos (yjd [b] X.env)).any (·.1)=false:=by rfl):PI X (.Tuple es k1 tp) (.Call (.Name "zip" p) [a,b] [] pos) (iZpT X.K ta):=by
 intro pins s σ H R I h;refine Call_ (zbs I hg hm boot_zip (yxf (thn (ha pos pins s σ H _ I h) λus s1 ⟨vs,H1,I1,r1,q1⟩=>?_) hs hp));obtain⟨c,d,xs,ys,e,hq,hq2,q⟩:=q1;subst e;obtain⟨u,u',rfl,ru,ru'⟩:=vals2 r1;cases ru;cases ru';obtain⟨its,rv,pl,hz⟩:=I1.tuple hq;obtain⟨its2,rv2,pl2,hz2⟩:=I1.list hq2;refine zwdb pl pl2.isList λg zz ti to li1 li2 kp=>?_;refine wpAny_pyIter_zip (s:={ s1 with heap:=g }) zz ?_;have n:∀{i j:Nat},i≠j->s1.heap.objs.size+i≠s1.heap.objs.size+j:=λh e=>h (Nat.add_left_cancel e);have cl:c<s1.heap.objs.size:=by
  obtain⟨o,ho,_⟩:=pl;exact yma ho
 refine⟨s1.heap.objs.size+4,[s1.heap.objs.size+4,s1.heap.objs.size+2,s1.heap.objs.size+3,s1.heap.objs.size,s1.heap.objs.size+1],_,_,H1,rfl,I1.kept (t':=s1.toks) kp,zkcb c d (s1.heap.objs.size+4) (s1.heap.objs.size+2) (s1.heap.objs.size+3) s1.heap.objs.size (s1.heap.objs.size+1) (n (by decide)) (n (by decide)) (n (i:=0) (by decide)) (n (by decide)) (n (by decide)) (n (j:=0) (by decide)) (n (by decide)) (n (j:=0) (by decide)) (n (by decide)) (n (i:=0) (by decide)) (yab (yua cl (yqn _ _))),⟨zz,ti,⟨_,_,to⟩,li1,li2⟩,λx hx=>?_,q⟩;have le:s1.heap.objs.size≤x:=by
  simp only[yka,ype,or_false] at hx
  rcases hx with e|e|e|e|e<;>rw[e]<;>first|exact yha _|exact yqn _ _
 exact I1.fpOk le (I1.hok.fresh le)
end
theorem zudb {K:yea}{a b:Addr}{xs zs:List V}{H1:Hp}{g:TG}{tt:TT}{te:TE}{n:Nat}{js:List Nat}{σ:St}{Q:VK}(Pv:Nat->List V->Hp->Prop)(hlen:xs.length=zs.length)(hl:∀i ys H,Pv i ys H->SqT K H a xs∧SqL K H b zs)(h0:Pv 0 [] H1)(hz:∀i ys H,Pv i ys H->ys.length≤yxa)
  (hs:∀i x y ys H p,xs[i]?=some x->zs[i]?=some y->Pv i ys H->H p=none->g (.ref p) (zzd n js σ) (upd H p (.tup [x,y])) fun σ2 H2=>σ2.drop n=(zzd n js σ).drop n∧tt σ2 H2 λb H3=>if b=true then te σ2 H3 λy H4=>Pv (i+1) (ys++[y]) H4 else Pv (i+1) ys H3)
  (hd:∀ys H,Pv xs.length ys H->∀p,H p=none->Q (.ref p) (upd H p (.lst ys))):zpu (Izt K a b) H1 g tt te n js σ Q:=by
 refine⟨λi m ys H=>m=xs.length-i∧i≤xs.length∧Pv i ys H,⟨xs.length,rfl,ycb _,h0⟩,?_⟩;rintro i m ys H ⟨rfl,hi,pv⟩;obtain⟨sq,sq2⟩:=hl i ys H pv
 by_cases lt:i<xs.length
 ·have ex:xs[i]?=some xs[i]:=ybb lt;have ey:zs[i]?=some (zs[i]'(by omega)):=ybb (by omega);refine .inr ⟨⟨xs,zs,xs[i],_,sq,sq2,ex,ey⟩,hz i ys H pv,Pv (i+1),λys' H' z=>⟨xs.length-(i+1),by omega,rfl,lt,z⟩,λx H' y=>?_⟩;obtain⟨p,v,u,hp,rfl,rfl,hv⟩:=y;obtain⟨h1,h2⟩:=hv xs zs sq sq2;exact hs i v u ys H p h1 h2 pv hp
 ·obtain rfl:i=xs.length:=by omega
  exact .inl ⟨⟨xs,zs,sq,sq2,.inl (yha _)⟩,hz _ ys H pv,hd ys H pv⟩
section
variable {X:Cx}
def EqL (K:yea)(H:Hp)(a b:Addr):Prop:=(∃us:List V,SqL K H a us∧SqL K H b us∧∀u∈us,∃c,u = .ref c)∨∃d,DV K H (.ref a) d∧DV K H (.ref b) d∧ysc d=true∧d.depth≤8
theorem zcpb (hu:X.A.units+64<cLine):OpR X (yzd .NotEq) (λx y H Q=>Ex4 λ(p q:Addr) (as bs:List Addr)=>x = .ref p∧y = .ref q∧SqT X.K H p (as.map V.ref)∧SqT X.K H q (bs.map V.ref)∧Paired (EqL X.K H) as bs∧Q (.bl false) H):=by
 intro pins s σ H x y v u Q I rx ry h;obtain⟨p,q,as,bs,rfl,rfl,hp,hq,hs,qq⟩:=h;cases rx;cases ry;obtain⟨i1,v1,p1,_⟩:=I.tuple hp;obtain⟨i2,v2,p2,_⟩:=I.tuple hq;have e1:=zgm v1;have e2:=zgm v2;subst e1 e2;have hat:∀{as bs:List Addr},Paired (EqL X.K H) as bs->as.length=bs.length∧∀(j:Nat) (h1:j<as.length) (h2:j<bs.length),EqL X.K H as[j] bs[j]:=by
  intro as bs hs
  induction hs with
  | nil=>exact⟨rfl,λj h=>absurd h (Nat.not_lt_zero _)⟩
  | cons h t ih =>
   refine⟨by rw[yub,yub,ih.1],λj h1 h2=>?_⟩;cases j with
   | zero=>exact h
   | succ j=>exact ih.2 j (yvn h1) (yvn h2)
 obtain⟨hl,hat⟩:=hat hs;have z:=SeqAt.RcNeAt.tuples (A:=X.A) (s:=s) (e:=λ_=>true) p1 p2 (by omega) λj g1 g2=>by
  have k1:j<as.length:=by rw[yna,yca] at g1;exact g1
  have k2:j<bs.length:=by rw[yna,yca] at g2;exact g2
  have w:yfe X.A.in1 s (.ref as[j]) (.ref bs[j]) true:=by
   rcases hat j k1 k2 with⟨us,h1,h2,h3⟩|⟨d,h1,h2,sh,dp⟩
   ·exact zblb (A:=X.A.in1) I (by rw[ynr];omega) h1 h2 h3
   ·obtain⟨a1,r1⟩:=h1.reads I rfl;obtain⟨a2,r2⟩:=h2.reads I rfl;have c:=yeg sh;have w:=SeqAt.eqAt_reads d d X.A.in1 s _ _ _ _ r1 r2 c c (by rw[ynr,yro];omega);rw[ylp d c] at w;exact w
  simpa using w
 rw[all_true,yna,yna,yca,yca,hl,beq_self_eq_true] at z;exact z X.prog X.w X.xe _ ⟨.bl false,H,I,rfl,qq⟩
end
end L2
namespace Wm
open PySem
theorem zphb {c:Nat}:∀{x y a b:List Nat},c∉x->c∉y->x++c::a=y++c::b->x=y∧a=b
 | [],[],a,b,_,_,h=>⟨rfl,by simpa using h⟩
 | [],y::ys,a,b,_,hy,h=>by
  exfalso;simp only[ywo,yck,yel] at h;exact hy (by rw[← h.1];exact ypa)
 | x::xs,[],a,b,hx,_,h=>by
  exfalso;simp only[ywo,yck,yel] at h;exact hx (by rw[h.1];exact ypa)
 | x::xs,y::ys,a,b,hx,hy,h=>by
  simp only[yck,yel] at h;obtain⟨h1,h2⟩:=h;obtain⟨e1,e2⟩:=zphb (λz=>hx (yoa _ z)) (λz=>hy (yoa _ z)) h2;exact⟨by rw[h1,e1],e2⟩
def jl (c:Nat):List (List Nat)->List Nat
 | []=>[]
 | [x]=>x
 | x::y::r=>x++c::jl c (y::r)
theorem zqmb {c:Nat}:∀{xs ys:List (List Nat)},xs≠[]->ys≠[]->(∀x∈xs,c∉x)->(∀y∈ys,c∉y)->jl c xs=jl c ys->xs=ys
 | [],_,h,_,_,_,_=>absurd rfl h
 | _,[],_,h,_,_,_=>absurd rfl h
 | [x],[y],_,_,_,_,h=>by
  have h':x=y:=h;rw[h']
 | [x],y::z::r,_,_,hx,_,h=>by
  exfalso;have h':x=y++c::jl c (z::r):=h;exact hx x ypa (by rw[h'];simp)
 | x::z::r,[y],_,_,_,hy,h=>by
  exfalso;have h':x++c::jl c (z::r)=y:=h;exact hy y ypa (by rw[← h'];simp)
 | x::z::r,y::z'::r',_,_,hx,hy,h=>by
  have h':x++c::jl c (z::r)=y++c::jl c (z'::r'):=h;obtain⟨e1,e2⟩:=zphb (hx x ypa) (hy y ypa) h';rw[e1,zqmb (by simp) (by simp) (λq hq=>hx q (yoa _ hq)) (λq hq=>hy q (yoa _ hq)) e2]
theorem zpk (c:Nat):∀ws:List Str,(ykc ⟨#[c]⟩ ws).cps.toList=jl c (ws.map λw=>w.cps.toList)
 | []=>rfl
 | [x]=>rfl
 | x::y::r=>by
  have ih:=zpk c (y::r);show (x++(⟨#[c]⟩:Str)++ykc ⟨#[c]⟩ (y::r)).cps.toList=x.cps.toList++c::jl c ((y::r).map λw=>w.cps.toList)
  rw[← ih];show ((x.cps++#[c])++(ykc ⟨#[c]⟩ (y::r)).cps).toList=_
  simp
theorem toList_inj {xs ys:List Str}(h:(xs.map λw=>w.cps.toList)=(ys.map λw=>w.cps.toList)):xs=ys:=by
 induction xs generalizing ys with
 | nil=>cases ys with
  | nil=>rfl
  | cons y r=>simp at h
 | cons x r ih=>cases ys with
  | nil=>simp at h
  | cons y s =>
   simp only[ygc,yel] at h;have e:x=y:=by
    obtain⟨a⟩:=x;obtain⟨b⟩:=y;have h1:a.toList=b.toList:=h.1;rw[yji.mp h1]
   rw[e,ih h.2]
theorem zijb (x y:Str):ylg x y≠[]:=by
 unfold ylg
 split
 ·simp
 ·split
  ·simp
  ·unfold ywg;cases yud x y 0 x.length (x.length+1)<;>simp
theorem zfr {c:Nat}{ws:List Str}(hne:ws≠[])(hf:∀w∈ws,c∉w.cps.toList):ylg (ykc ⟨#[c]⟩ ws) ⟨#[c]⟩=ws:=by
 refine toList_inj (zqmb (c:=c) (by simpa using zijb _ _) (by simpa using hne) (λx hx=>?_) (λx hx=>?_) ?_)
 ·obtain⟨w,hw,rfl⟩:=ymc.mp hx;exact StrLaws.split_free _ c w hw
 ·obtain⟨w,hw,rfl⟩:=ymc.mp hx;exact hf w hw
 ·rw[← zpk,← zpk,StrLaws.join_split]
theorem zbo (s:Str):∀ws:List Str,(ykc s ws).length≤(ws.map (·.length)).sum+ws.length*s.length
 | []=>ycb _
 | [x]=>by
  show x.length≤_
  simp only[ygc,yrh,ylk,List.sum_nil,ytd];omega
 | x::y::r=>by
  have ih:=zbo s (y::r);show (x++s++ykc s (y::r)).length≤_
  rw[ywq,ywq];simp only[ygc,ylk,yub,Nat.add_mul,Nat.one_mul] at ih ⊢;omega
inductive Wh where
 | all|self|mine|mark (n:Str)|force (i:Nat)|not (a:Wh)|both (a b:Wh)|any (a b:Wh)
def Wh.word:Wh->Str
 | .all=>"all"
 | .self=>"self"
 | .mine=>"mine"
 | .mark _=>"mark"
 | .force _=>"force"
 | .not _=>"not"
 | .both _ _=>"both"
 | .any _ _=>"any"
inductive Wv where
 | non|name (n:Str)|num (i:Nat)
def Wh.val:Wh->Wv
 | .mark n=>.name n
 | .force i=>.num i
 | _=>.non
def Wh.parts:Wh->List Wh
 | .not a=>[a]
 | .both a b=>[a,b]
 | .any a b=>[a,b]
 | _=>[]
def Wv.words:Wv->List Str
 | .non=>[]
 | .name n=>[n]
 | .num i=>[toString (i:Int)]
def Wh.words:Wh->List Str
 | .all=>["all"]
 | .self=>["self"]
 | .mine=>["mine"]
 | .mark n=>["mark",n]
 | .force i=>["force",toString (i:Int)]
 | .not a=>"not" :: a.words
 | .both a b=>"both" :: (a.words++b.words)
 | .any a b=>"any" :: (a.words++b.words)
def Wh.size:Wh->Nat
 | .not a=>a.size+1
 | .both a b=>a.size+b.size+1
 | .any a b=>a.size+b.size+1
 | _=>1
def Wh.flat:Wh->List (Str×Wv)
 | .not a=>("not",.non)::a.flat
 | .both a b=>("both",.non)::(a.flat++b.flat)
 | .any a b=>("any",.non)::(a.flat++b.flat)
 | w=>[(w.word,w.val)]
def zqc (n:Str):Prop:=1≤n.length∧n.length≤8∧∀c∈n.cps.toList,97≤c∧c≤122
def Wh.ok:Wh->Prop
 | .mark n=>zqc n
 | .force i=>i<1000
 | .not a=>a.ok
 | .both a b=>a.ok∧b.ok
 | .any a b=>a.ok∧b.ok
 | _=>True
theorem zfw:∀i:Nat,i<1000->∀c∈(toString (i:Int):Str).cps.toList,48≤c∧c≤57:=by decide +kernel
theorem zom:∀i:Nat,i<1000->1≤(toString (i:Int):Str).length∧(toString (i:Int):Str).length≤3:=by decide +kernel
def zjib (u:Str):Prop:=32∉u.cps.toList∧1≤u.length∧u.length≤8
theorem zmgb {n:Str}(h:zqc n):zjib n:=⟨λz=>absurd (h.2.2 32 z).1 (by decide),h.1,h.2.1⟩
theorem zit {i:Nat}(h:i<1000):zjib (toString (i:Int):Str):=by
 have q:=zom i h;exact⟨λz=>absurd (zfw i h 32 z).1 (by decide),q.1,by omega⟩
theorem zbmb {l:List Nat}{k:Nat}(h:∀x∈l,x≤k):l.sum≤l.length*k:=by
 induction l with
 | nil=>simp
 | cons x r ih =>
  have a:=h x ypa;have b:=ih λy hy=>h y (yoa _ hy);rw[ylk,yub,Nat.add_mul,Nat.one_mul];omega
def step:List Wh->List Wh
 | []=>[]
 | h::t=>h.parts++t
def pend (w:Wh):Nat->List Wh
 | 0=>[w]
 | j+1=>step (pend w j)
def Wh.depth:Wh->Nat
 | .not a=>a.depth+1
 | .both a b=>max a.depth b.depth+1
 | .any a b=>max a.depth b.depth+1
 | _=>1
end Wm
namespace Wm
open PySem
def plain (w:Wh):Prop:=w.ok∧w.size≤9
structure Deed where
 each:Str
 kind:Str
 amt:Wv
 whom:Wh
def zvmb:List Str:=["each","one"]
def zxl:List Str:=["leave","hurt","gain","lack","lose","score","draw"]
def zqu:List Str:=["come","leave","hurt","gain","lack","lose","score","draw"]
def zpg:List Str:=["lose","score","draw"]
def changes:List Str:=["mute","steal","gain","lack","be","more","less","per"]
inductive zwn:Str->Wv->Prop
 | leave:zwn "leave" .non
 | gain {n:Str}:zqc n->zwn "gain" (.name n)
 | lack {n:Str}:zqc n->zwn "lack" (.name n)
 | hurt {i:Nat}:i<1000->zwn "hurt" (.num i)
 | lose {i:Nat}:i<1000->zwn "lose" (.num i)
 | score {i:Nat}:i<1000->zwn "score" (.num i)
 | draw {i:Nat}:i<1000->zwn "draw" (.num i)
structure Deed.ok (d:Deed):Prop where
 each:d.each∈zvmb
 amt:zwn d.kind d.amt
 whom:plain d.whom
def Deed.words (d:Deed):List Str:=d.each::d.kind::(d.amt.words++d.whom.words)
inductive Hv where
 | v (x:Wv)|w (y:Wh)
def Hv.words:Hv->List Str
 | .v x=>x.words
 | .w y=>y.words
inductive zwh:Str->Hv->Prop
 | mute:zwh "mute" (.v .non)
 | steal:zwh "steal" (.v .non)
 | gain {n:Str}:zqc n->zwh "gain" (.v (.name n))
 | lack {n:Str}:zqc n->zwh "lack" (.v (.name n))
 | be {i:Nat}:i<1000->zwh "be" (.v (.num i))
 | more {i:Nat}:i<1000->zwh "more" (.v (.num i))
 | less {i:Nat}:i<1000->zwh "less" (.v (.num i))
 | per {y:Wh}:plain y->zwh "per" (.w y)
inductive TurnOk:Str->Wv->Prop
 | none:TurnOk "none" .non
 | here:TurnOk "here" .non
 | less {i:Nat}:i<1000->TurnOk "less" (.num i)
 | more {i:Nat}:i<1000->TurnOk "more" (.num i)
 | as {n:Str}:n∈zpg->TurnOk "as" (.name n)
def turns:Str->List Str:=λk =>
 if k = "leave" then ["none","here"] else if k = "hurt" then ["none","here","less","more"] else if k = "gain" then ["none","here"] else if k = "lack" then ["none","here"]
 else ["none","less","more","as"]
inductive Rule where
 | hold (word:Str) (val:Hv) (whom:Wh)
 | wen (kind:Str) (whom:Wh) (deed:Deed)
 | instead (kind:Str) (whom:Wh) (word:Str) (val:Wv)
 | may (cost:Nat) (deed:Deed)
def Rule.ok:Rule->Prop
 | .hold w v y=>zwh w v∧plain y
 | .wen k y d=>k∈zqu∧plain y∧d.ok
 | .instead k y w v=>k∈zxl∧plain y∧w∈turns k∧TurnOk w v
 | .may c d=>c<1000∧d.ok
def Rule.words:Rule->List Str
 | .hold w v y=>"hold" :: w::(v.words++y.words)
 | .wen k y d=>"when" :: k::(y.words++("do":Str)::d.words)
 | .instead k y w v=>"instead" :: k::(y.words++("do":Str)::w::v.words)
 | .may c d=>"may" :: toString (c:Int) :: "do" :: d.words
theorem zwn.kind {k:Str}{v:Wv}(h:zwn k v):k∈zxl:=by cases h<;>decide
theorem zwh.word {k:Str}{v:Hv}(h:zwh k v):k∈changes:=by cases h<;>decide
def zfq (u:Str):Prop:=zjib u∧47∉u.cps.toList
theorem zlp {n:Str}(h:zqc n):zfq n:=⟨zmgb h,λz=>absurd (h.2.2 47 z).1 (by decide)⟩
theorem zmk {i:Nat}(h:i<1000):zfq (toString (i:Int):Str):=⟨zit h,λz=>absurd (zfw i h 47 z).1 (by decide)⟩
def goodW (u:Str):Bool:=!u.cps.toList.contains 32 && !u.cps.toList.contains 47&&decide (1≤u.length)&&decide (u.length≤8)
theorem zbh {u:Str}(h:goodW u=true):zfq u:=by
 unfold goodW at h;rw[yde,yde,yde] at h;obtain⟨⟨⟨a,b⟩,c⟩,d⟩:=h;refine⟨⟨λz=>?_,of_decide_eq_true c,of_decide_eq_true d⟩,λz=>?_⟩
 ·rw[yxo.mpr z] at a;cases a
 ·rw[yxo.mpr z] at b;cases b
theorem zrt {l:List Str}(h:l.all goodW=true){u:Str}(hu:u∈l):zfq u:=zbh (ykf.mp h u hu)
theorem Wh.zeh {w:Wh}(h:w.ok):∀u∈w.words,zfq u:=by
 induction w with
 | all=>intro u hu;exact zrt (l:=["all"]) (by decide +kernel) hu
 | self=>intro u hu;exact zrt (l:=["self"]) (by decide +kernel) hu
 | mine=>intro u hu;exact zrt (l:=["mine"]) (by decide +kernel) hu
 | mark n =>
  intro u hu
  rcases yka.mp hu with rfl|hu
  ·exact zbh (by decide +kernel)
  ·rw[yia.mp hu];exact zlp h
 | force i =>
  intro u hu
  rcases yka.mp hu with rfl|hu
  ·exact zbh (by decide +kernel)
  ·rw[yia.mp hu];exact zmk h
 | not a ih =>
  intro u hu
  rcases yka.mp hu with rfl|hu
  ·exact zbh (by decide +kernel)
  ·exact ih h u hu
 | both a b ia ib =>
  intro u hu
  rcases yka.mp hu with rfl|hu
  ·exact zbh (by decide +kernel)
  ·rcases ywc.mp hu with hu|hu
   ·exact ia h.1 u hu
   ·exact ib h.2 u hu
 | any a b ia ib =>
  intro u hu
  rcases yka.mp hu with rfl|hu
  ·exact zbh (by decide +kernel)
  ·rcases ywc.mp hu with hu|hu
   ·exact ia h.1 u hu
   ·exact ib h.2 u hu
theorem zwn.words {k:Str}{v:Wv}(h:zwn k v):∀u∈v.words,zfq u:=by
 intro u hu;cases h with
 | leave=>cases hu
 | gain h=>rw[yia.mp hu];exact zlp h
 | lack h=>rw[yia.mp hu];exact zlp h
 | hurt h=>rw[yia.mp hu];exact zmk h
 | lose h=>rw[yia.mp hu];exact zmk h
 | score h=>rw[yia.mp hu];exact zmk h
 | draw h=>rw[yia.mp hu];exact zmk h
theorem TurnOk.words {k:Str}{v:Wv}(h:TurnOk k v):∀u∈v.words,zfq u:=by
 intro u hu;cases h with
 | none=>cases hu
 | here=>cases hu
 | less h=>rw[yia.mp hu];exact zmk h
 | more h=>rw[yia.mp hu];exact zmk h
 | as h=>rw[yia.mp hu];exact zrt (l:=zpg) (by decide +kernel) h
theorem TurnOk.word {k:Str}{v:Wv}(h:TurnOk k v):zfq k:=by cases h<;>exact zbh (by decide +kernel)
theorem zwh.words {k:Str}{v:Hv}(h:zwh k v):∀u∈v.words,zfq u:=by
 intro u hu;cases h with
 | mute=>cases hu
 | steal=>cases hu
 | gain h=>rw[yia.mp hu];exact zlp h
 | lack h=>rw[yia.mp hu];exact zlp h
 | be h=>rw[yia.mp hu];exact zmk h
 | more h=>rw[yia.mp hu];exact zmk h
 | less h=>rw[yia.mp hu];exact zmk h
 | per h=>exact Wh.zeh h.1 u hu
theorem Deed.zeh {d:Deed}(h:d.ok):∀u∈d.words,zfq u:=by
 intro u hu
 rcases yka.mp hu with rfl|hu
 ·exact zrt (l:=zvmb) (by decide +kernel) h.each
 rcases yka.mp hu with rfl|hu
 ·exact zrt (l:=zxl) (by decide +kernel) h.amt.kind
 rcases ywc.mp hu with hu|hu
 ·exact h.amt.words u hu
 ·exact Wh.zeh h.whom.1 u hu
theorem Rule.zeh {r:Rule}(h:r.ok):∀u∈r.words,zfq u:=by
 intro u hu;cases r with
 | hold w v y =>
  rcases yka.mp hu with rfl|hu
  ·exact zbh (by decide +kernel)
  rcases yka.mp hu with rfl|hu
  ·exact zrt (l:=changes) (by decide +kernel) h.1.word
  rcases ywc.mp hu with hu|hu
  ·exact h.1.words u hu
  ·exact Wh.zeh h.2.1 u hu
 | wen k y d =>
  rcases yka.mp hu with rfl|hu
  ·exact zbh (by decide +kernel)
  rcases yka.mp hu with rfl|hu
  ·exact zrt (l:=zqu) (by decide +kernel) h.1
  rcases ywc.mp hu with hu|hu
  ·exact Wh.zeh h.2.1.1 u hu
  rcases yka.mp hu with rfl|hu
  ·exact zbh (by decide +kernel)
  ·exact Deed.zeh h.2.2 u hu
 | instead k y w v =>
  rcases yka.mp hu with rfl|hu
  ·exact zbh (by decide +kernel)
  rcases yka.mp hu with rfl|hu
  ·exact zrt (l:=zxl) (by decide +kernel) h.1
  rcases ywc.mp hu with hu|hu
  ·exact Wh.zeh h.2.1.1 u hu
  rcases yka.mp hu with rfl|hu
  ·exact zbh (by decide +kernel)
  rcases yka.mp hu with rfl|hu
  ·exact h.2.2.2.word
  ·exact h.2.2.2.words u hu
 | may c d =>
  rcases yka.mp hu with rfl|hu
  ·exact zbh (by decide +kernel)
  rcases yka.mp hu with rfl|hu
  ·exact zmk h.1
  rcases yka.mp hu with rfl|hu
  ·exact zbh (by decide +kernel)
  ·exact Deed.zeh h.2 u hu
end Wm
namespace Wm
open PySem PySem.StrLaws PySem.Builtin.Str
def SL:Str:=⟨#[32,47,32]⟩
theorem zks {s sub:Str}{hi:Nat}:∀{cuts cuts':List Nat} {a f f':Nat},ChainG s sub hi a cuts f->(∀k,f≤k->¬ At s sub hi k)->ChainG s sub hi a cuts' f'->(∀k,f'≤k->¬ At s sub hi k)->cuts=cuts'
 | [],[],_,_,_,_,_,_,_=>rfl
 | [],c::r,a,f,f',h,n,h',n'=>by
  have e:f=a:=h;subst e;exact absurd h'.2.1 (n c h'.1)
 | c::r,[],a,f,f',h,n,h',n'=>by
  have e:f'=a:=h';subst e;exact absurd h.2.1 (n' c h.1)
 | c::r,c'::r',a,f,f',h,n,h',n'=>by
  rcases ymm c c' with z|z|z
  ·exact absurd h.2.1 (h'.2.2.1 c h.1 z)
  ·subst z;rw[zks h.2.2.2 n h'.2.2.2 n']
  ·exact absurd h'.2.1 (h.2.2.1 c' h'.1 z)
theorem ztt (x:Str)(a b:Nat):(x.cps.extract a b).toList=(x.cps.toList.drop a).take (b-a):=by
 rw[ygk,List.extract_eq_take_drop]
theorem zzmb {x:Str}{hi k:Nat}(h:At x SL hi k):x.cps.toList[k+1]?=some 47:=by
 have e:x.cps.extract k (k+3)=#[32,47,32]:=by
  have:=h.2;unfold subAt at this;exact beq_iff_eq.mp this
 have q:=congrArg (λz=>z.toList[1]?) e;simp only[ztt] at q;rw[ygf (by omega),yti] at q;exact q
theorem at_of {x:Str}{pre r:List Nat}(e:x.cps.toList=pre++32::47::32::r):At x SL x.length pre.length:=by
 have hl:=congrArg ynp e;rw[yja] at hl;simp only[yub,yra] at hl;refine⟨?_,?_⟩
 ·show pre.length+3≤x.cps.size;omega
 ·unfold subAt;rw[beq_iff_eq];apply yji.mp;rw[ztt,e,List.drop_left];show ((32::47::32::r:List Nat).take (pre.length+3-pre.length))=[32,47,32]
  rw[yqf];rfl
def jl3:List (List Nat)->List Nat
 | []=>[]
 | [p]=>p
 | p::q::r=>p++32::47::32::jl3 (q::r)
def cutsOf:Nat->List (List Nat)->List Nat
 | a,p::q::r=>(a+p.length)::cutsOf (a+p.length+3) (q::r)
 | _,_=>[]
def lastOf:Nat->List (List Nat)->Nat
 | a,p::q::r=>lastOf (a+p.length+3) (q::r)
 | a,_=>a
theorem zksb:∀ws:List Str,(ykc SL ws).cps.toList=jl3 (ws.map λw=>w.cps.toList)
 | []=>rfl
 | [x]=>rfl
 | x::y::r=>by
  have e:ykc SL (x::y::r)=x++SL++ykc SL (y::r):=rfl;rw[e];show ((x.cps++SL.cps)++(ykc SL (y::r)).cps).toList=_
  rw[yih,yih,zksb (y::r),yec];rfl
theorem zcmb {x:Str}{pre p r:List Nat}{b:Nat}(e:x.cps.toList=pre++(p++r))(hb:b=pre.length+p.length)(q:Str)(hq:q.cps.toList=p):strSub x pre.length b=q:=by
 obtain⟨c⟩:=q;have z:x.cps.extract pre.length b=c:=by
  apply yji.mp;rw[ztt,e,List.drop_left,hb,yqf,List.take_left];exact hq.symm
 show (⟨x.cps.extract pre.length b⟩:Str)=⟨c⟩
 rw[z]
theorem zccb {x:Str}:∀{ps:List Str} {pre:List Nat},ps≠[]->(∀p∈ps,47∉p.cps.toList)->x.cps.toList=pre++jl3 (ps.map λw=>w.cps.toList) →
  ChainG x SL x.length pre.length (cutsOf pre.length (ps.map λw=>w.cps.toList)) (lastOf pre.length (ps.map λw=>w.cps.toList))∧(∀k,lastOf pre.length (ps.map λw=>w.cps.toList)≤k->¬ At x SL x.length k)∧partsFrom x 3 pre.length (cutsOf pre.length (ps.map λw=>w.cps.toList))=ps
 | [],_,h,_,_=>absurd rfl h
 | [p],pre,_,hf,e=>by
  have e':x.cps.toList=pre++p.cps.toList:=e;refine⟨rfl,λk hk hA=>?_,?_⟩
  ·have hk':pre.length≤k:=hk;have m:=zzmb hA;rw[e',ykb (by omega)] at m;exact hf p (yia.mpr rfl) (yta m)
  ·show [strSub x pre.length x.length]=[p];rw[zcmb (r:=[]) (by rw[ync];exact e') ?_ p rfl];have hl:=congrArg ynp e';rw[yja,yra] at hl;exact hl
 | p::q::r,pre,_,hf,e=>by
  have e':x.cps.toList=pre++(p.cps.toList++32::47::32::jl3 ((q::r).map λw=>w.cps.toList)):=e;have e1:x.cps.toList=(pre++p.cps.toList)++32::47::32::jl3 ((q::r).map λw=>w.cps.toList):=by rw[e',yec]
  have e2:x.cps.toList=(pre++p.cps.toList++[32,47,32])++jl3 ((q::r).map λw=>w.cps.toList):=by rw[e1,yec (pre++p.cps.toList)];rfl
  obtain⟨c1,c2,c3⟩:=zccb (ps:=q::r) (pre:=pre++p.cps.toList++[32,47,32]) (ydk _ _) (λy hy=>hf y (yoa _ hy)) e2;have el:(pre++p.cps.toList++[32,47,32]).length=pre.length+p.cps.toList.length+3:=by
   rw[yja,yja];rfl
  rw[el] at c1 c2 c3;have eA:=at_of e1;rw[yja] at eA;refine⟨⟨yqn _ _,eA,λk h1 h2 hA=>?_,c1⟩,c2,?_⟩
  ·have m:=zzmb hA
   rcases yeh (k+1) (pre.length+p.cps.toList.length) with z|z
   ·rw[e',ykb (by omega),yrc (by omega)] at m;exact hf p ypa (yta m)
   ·have h2':k<pre.length+p.cps.toList.length:=h2;have ek:k+1=(pre++p.cps.toList).length:=(by rw[yja];omega);rw[e1,ek,ykb (yha _),yyo] at m;exact absurd m (by simp)
  ·show strSub x pre.length (pre.length+p.cps.toList.length)::partsFrom x 3 (pre.length+p.cps.toList.length+3) (cutsOf (pre.length+p.cps.toList.length+3) ((q::r).map λw=>w.cps.toList))=p::q::r;rw[c3,zcmb e' rfl p rfl]
theorem ztqb {ps:List Str}(hne:ps≠[])(hf:∀p∈ps,47∉p.cps.toList):ylg (ykc SL ps) SL=ps:=by
 obtain⟨f,hG,hn⟩:=occ_tight (ykc SL ps) SL (by decide);obtain⟨c1,c2,c3⟩:=zccb (x:=ykc SL ps) (ps:=ps) (pre:=[]) hne hf (zksb ps);have u:=zks hG hn c1 c2;unfold ylg;rw[u];have one:cutsOf ([]:List Nat).length (ps.map λw=>w.cps.toList)=[]->[ykc SL ps]=ps:=λz=>by
  cases ps with
  | nil=>exact absurd rfl hne
  | cons p r =>
   cases r with
   | nil=>rfl
   | cons q r=>cases z
 split
 ·rename_i hc;rw[Bool.or_eq_true,decide_eq_true_eq,decide_eq_true_eq] at hc;apply one
  rcases hc with h|h
  ·cases hcut:cutsOf ([]:List Nat).length (ps.map λw=>w.cps.toList) with
   | nil=>rfl
   | cons c r =>
    rw[hcut] at c1;have:=c1.2.1.1;omega
  ·exfalso;have ek:yki SL=1:=(by decide +kernel);rw[ek] at h;unfold yki at h
   split at h
   ·omega
   ·split at h
    ·omega
    ·omega
 ·split
  ·rename_i he;exact one (List.isEmpty_iff.mp he)
  ·rw[partsBetween_eq];exact c3
end Wm
namespace Wm
open PySem PySem.Spec PyProof.Rows
def leS (a b:Str):Prop:=a.cps.toList≤b.cps.toList
theorem zbsb {a b:Str}(h:ltCps b.cps.toList a.cps.toList=false):leS a b:=by
 rw[ltCps_eq] at h;exact yas.mp (of_decide_eq_false h)
theorem zugb {a b c:Str}(h:leS a b)(g:leS b c):leS a c:=List.le_trans h g
theorem zpkb {a b:Str}(h:leS a b)(g:leS b a):a=b:=by
 have e:=yjr h g;obtain⟨x⟩:=a;obtain⟨y⟩:=b;rw[show x=y from yji.mp e]
theorem zvv:∀(p:Str) (l:List Str),risingS p l=true->(p::l).Pairwise leS
 | p,[],_=>yhn _ _
 | p,x::r,h=>by
  have h':(!ltCps x.cps.toList p.cps.toList&&risingS x r)=true:=h;rw[yde] at h';have h1:leS p x:=zbsb (by have:=h'.1;revert this;cases ltCps x.cps.toList p.cps.toList<;>simp);have h2:=zvv x r h'.2;rw[ypl];refine⟨λb hb=>?_,h2⟩
  rcases yka.mp hb with rfl|hb
  ·exact h1
  ·exact zugb h1 ((ypl.mp h2).1 b hb)
theorem zxu:∀{l:List Str},yvl l=true->l.Pairwise leS
 | [],_=>.nil
 | x::r,h=>zvv x r h
theorem zgy {xs ys:List Str}(hp:xs.Perm ys)(hx:yvl xs=true)(hy:yvl ys=true):xs=ys :=
 ypm (le:=leS) (λ_ _ _ _ h g=>zpkb h g) (zxu hx) (zxu hy) hp
theorem zbcb {xs:List Str}(h:xs.Nodup):SSet.dd xs=xs:=by
 have key:∀n,n≤xs.length->SSet.dd (xs.take n)=xs.take n:=by
  intro n
  induction n with
  | zero=>intro _;rfl
  | succ n ih =>
   intro hn;have hlt:n<xs.length:=hn;rw[yqa,ybb hlt];show SSet.dd (xs.take n++[xs[n]])=xs.take n++[xs[n]]
   rw[SSet.zsk,ih (by omega),if_neg];intro hm;obtain⟨i,hi,e⟩:=List.getElem_of_mem hm;rw[ywa] at hi;rw[List.getElem_take] at e;exact (yqg.mp h) i n (by omega) hlt (by omega) e
 have:=key xs.length (yha _)
 rwa [yrb] at this
structure Marks (ms:List Str):Prop where
 ok:∀m∈ms,zqc m
 nd:ms.Nodup
 so:yvl ms=true
 le:ms.length≤20
theorem Marks.same {ms ys:List Str}(h:Marks ms)(hp:ys.Perm (SSet.dd ms))(hs:yvl ys=true):ys=ms:=by
 rw[zbcb h.nd] at hp;exact zgy hp hs h.so
def CM:Str:=⟨#[44]⟩
def zah:List Str->Str
 | []=>"-"
 | m::r=>ykc CM (m::r)
theorem zqm {c:Nat}:∀{ws:List Str} {d:Nat},d∈(ykc ⟨#[c]⟩ ws).cps.toList->d=c∨∃w∈ws,d∈w.cps.toList
 | [],d,h=>by cases h
 | [x],d,h=>.inr ⟨x,yia.mpr rfl,h⟩
 | x::y::r,d,h=>by
  have e:ykc ⟨#[c]⟩ (x::y::r)=x++⟨#[c]⟩++ykc ⟨#[c]⟩ (y::r):=rfl;rw[e] at h;have h':d∈((x.cps++#[c])++(ykc ⟨#[c]⟩ (y::r)).cps).toList:=h;rw[yih,yih] at h'
  rcases ywc.mp h' with h'|h'
  ·rcases ywc.mp h' with h'|h'
   ·exact .inr ⟨x,ypa,h'⟩
   ·exact .inl (yia.mp h')
  ·rcases zqm h' with z|⟨w,hw,z⟩
   ·exact .inl z
   ·exact .inr ⟨w,yoa _ hw,z⟩
theorem zcj {ms:List Str}(h:Marks ms)(hne:ms≠[]):∀d∈(zah ms).cps.toList,d=44∨(97≤d∧d≤122):=by
 cases ms with
 | nil=>exact absurd rfl hne
 | cons m r =>
  intro d hd
  rcases zqm (c:=44) hd with z|⟨w,hw,z⟩
  ·exact .inl z
  ·exact .inr ((h.ok w hw).2.2 d z)
theorem zpgb {ms:List Str}(h:Marks ms)(hne:ms≠[]):zah ms ≠ "-":=by
 intro z;have:=zcj h hne 45 (by rw[z];decide +kernel);omega
theorem zxj {ms:List Str}(h:Marks ms):1≤(zah ms).length∧(zah ms).length≤180:=by
 cases ms with
 | nil=>exact⟨by decide,by decide⟩
 | cons m r =>
  have a:=zbo CM (m::r);have c:=zbmb (l:=(m::r).map (·.length)) (k:=8) (λx hx=>by
   obtain⟨u,hu,rfl⟩:=ymc.mp hx;exact (h.ok u hu).2.1)
  rw[yca] at c;have e:CM.length=1:=rfl;rw[e] at a;have l:=h.le;refine⟨?_,?_⟩
  ·have m1:=(h.ok m ypa).1;cases r with
   | nil=>exact m1
   | cons y r =>
    have e2:ykc CM (m::y::r)=m++CM++ykc CM (y::r):=rfl;show 1≤(ykc CM (m::y::r)).length
    rw[e2];show 1≤((m.cps++CM.cps)++(ykc CM (y::r)).cps).size
    rw[yom,yom];have:m.length=m.cps.size:=rfl;omega
  ·show (ykc CM (m::r)).length≤180;omega
theorem zgz {ms:List Str}(h:Marks ms)(hne:ms≠[]):ylg (zah ms) CM=ms:=by
 cases ms with
 | nil=>exact absurd rfl hne
 | cons m r=>exact zfr (c:=44) (ydk _ _) (λw hw z=>absurd ((h.ok w hw).2.2 44 z).1 (by decide))
structure Crd where
 name:Str
 cost:Nat
 force:Nat
 marks:List Str
 rules:List Rule
structure Crd.ok (c:Crd):Prop where
 name:zqc c.name
 cost:c.cost<1000
 force:c.force<1000
 marks:Marks c.marks
 rules:∀r∈c.rules,r.ok
 few:c.rules.length≤3
def Crd.head (c:Crd):List Str:=[c.name,toString (c.cost:Int),toString (c.force:Int),zah c.marks]
def zwjb (r:Rule):Str:=ykc " " r.words
def Crd.text (c:Crd):Str:=ykc SL (ykc " " c.head::c.rules.map zwjb)
theorem zax {c d:Nat}{ws:List Str}(h:∀w∈ws,d∉w.cps.toList)(n:d≠c):d∉(ykc ⟨#[c]⟩ ws).cps.toList:=λz=>by
 rcases zqm z with e|⟨w,hw,z⟩
 ·exact n e
 ·exact h w hw z
theorem ziz {ms:List Str}(h:Marks ms):32∉(zah ms).cps.toList∧47∉(zah ms).cps.toList:=by
 by_cases e:ms=[]
 ·subst e;exact⟨by decide,by decide⟩
 ·exact⟨λz=>by have:=zcj h e 32 z;omega,λz=>by have:=zcj h e 47 z;omega⟩
theorem Crd.zyw {c:Crd}(h:c.ok):∀u∈c.head,32∉u.cps.toList∧47∉u.cps.toList:=by
 intro u hu;simp only[Crd.head,yka,ype,or_false] at hu
 rcases hu with rfl|rfl|rfl|rfl
 ·exact⟨(zlp h.name).1.1,(zlp h.name).2⟩
 ·exact⟨(zmk h.cost).1.1,(zmk h.cost).2⟩
 ·exact⟨(zmk h.force).1.1,(zmk h.force).2⟩
 ·exact ziz h.marks
theorem Crd.zrdb {c:Crd}(h:c.ok):ylg (ykc " " c.head) " " = c.head:=zfr (c:=32) (ydk _ _) (λu hu=>(Crd.zyw h u hu).1)
theorem Crd.zqt {c:Crd}(h:c.ok):(ykc " " c.head).length≤300:=by
 have a:=zbo " " c.head;have c':=zbmb (l:=c.head.map (·.length)) (k:=180) (λx hx=>by
  obtain⟨u,hu,rfl⟩:=ymc.mp hx;simp only[Crd.head,yka,ype,or_false] at hu
  rcases hu with rfl|rfl|rfl|rfl
  ·have:=h.name.2.1;omega
  ·have:=(zom _ h.cost).2;omega
  ·have:=(zom _ h.force).2;omega
  ·exact (zxj h.marks).2)
 have e:(" ":Str).length=1:=rfl;rw[e] at a;have s:(c.head.map (·.length)).sum=c.name.length+((toString (c.cost:Int):Str).length+((toString (c.force:Int):Str).length+((zah c.marks).length+0))):=rfl;have hl:c.head.length=4:=rfl;rw[s,hl] at a;have b1:=h.name.2.1;have b2:=(zom _ h.cost).2;have b3:=(zom _ h.force).2;have b4:=(zxj h.marks).2;omega
theorem Crd.split {c:Crd}(h:c.ok):ylg c.text SL=ykc " " c.head::c.rules.map zwjb:=by
 refine ztqb (ydk _ _) λp hp=>?_
 rcases yka.mp hp with rfl|hp
 ·exact zax (λu hu=>(Crd.zyw h u hu).2) (by decide)
 ·obtain⟨r,hr,rfl⟩:=ymc.mp hp;exact zax (λu hu=>(Rule.zeh (h.rules r hr) u hu).2) (by decide)
end Wm
namespace Wm
open PySem PySem.Spec PyProof.Rows
end Wm
namespace K33
open PySem L2 PyProof.Rows Wm
variable {P:ytb}{w:World}{K:yea}{mg:Str->Option Value}{base:Heap}
def top (i:Nat):Stmt:=PySem.Challenge.pw_turnstack_k33_a_plain_look.main.body.getD i (.Pass ⟨0,0,0,0⟩)
abbrev zrv:Stmt:=top 8
abbrev ztib:List Str:=["word"]
abbrev zqq:List Str:=["word"]
theorem zwcb:zpa ztib zqq (zia zrv):=scOf (by decide +kernel)
abbrev zyo:Stmt:=top 9
abbrev zpab:List Str:=["word"]
abbrev zzk:List Str:=["word"]
theorem zdv:zpa zpab zzk (zia zyo):=scOf (by decide +kernel)
abbrev zor:Stmt:=top 10
abbrev zgeb:List Str:=["word","most"]
abbrev zym:List Str:=["word","most"]
theorem zmy:zpa zgeb zym (zia zor):=scOf (by decide +kernel)
abbrev znf:Stmt:=inClass (top 11) 0
abbrev zvn:List Str:=["self","text"]
abbrev zrf:List Str:=["self","text"]
theorem zim:zpa zvn zrf (zia znf):=scOf (by decide +kernel)
abbrev zvi:Stmt:=inClass (top 11) 1
abbrev zcy:List Str:=["self"]
abbrev zuj:List Str:=["self"]
theorem zws:zpa zcy zuj (zia zvi):=scOf (by decide +kernel)
abbrev zkg:Stmt:=inClass (top 11) 2
abbrev zef:Stmt:=inClass (top 11) 3
abbrev zan:List Str:=["self","word"]
abbrev zif:List Str:=["self"]
theorem zwg:zpa zan zif (zia zef):=scOf (by decide +kernel)
abbrev zme:Stmt:=inClass (top 11) 4
abbrev zdl:List Str:=["self","word"]
abbrev zne:List Str:=["self"]
theorem ztf:zpa zdl zne (zia zme):=scOf (by decide +kernel)
abbrev zgh:Stmt:=inClass (top 11) 5
abbrev zdr:List Str:=["self"]
abbrev zph:List Str:=["self"]
theorem zso:zpa zdr zph (zia zgh):=scOf (by decide +kernel)
abbrev zxi:Stmt:=inClass (top 12) 0
abbrev zik:Stmt:=inClass (top 12) 2
abbrev zsab:List Str:=["self","sight","number","keeper","thing"]
abbrev zcl:List Str:=["self","sight","number","keeper","thing"]
theorem zgv:zpa zsab zcl (zia zik):=scOf (by decide +kernel)
abbrev zwi:Stmt:=inClass (top 12) 3
abbrev zrh:Stmt:=inClass (top 12) 4
abbrev zcbb:Stmt:=top 13
abbrev zplb:List Str:=["sight","thing","row"]
abbrev zeu:List Str:=["sight","thing"]
theorem zav:zpa zplb zeu (zia zcbb):=scOf (by decide +kernel)
abbrev zny:Stmt:=top 14
abbrev zkv:Stmt:=top 15
abbrev zoob:Stmt:=top 16
abbrev zlg:Stmt:=inClass (top 25) 0
abbrev zuq:List Str:=["self","name","cost","force","marks","rules"]
abbrev zug:List Str:=["self","name","cost","force","marks","rules"]
theorem zqn:zpa zuq zug (zia zlg):=scOf (by decide +kernel)
abbrev zwo:Stmt:=top 26
abbrev znab:List Str:=["text","texts","words","name","cost","force","marks"]
abbrev zxk:List Str:=["text"]
theorem zqd:zpa znab zxk (zia zwo):=scOf (by decide +kernel)
abbrev zfn:Stmt:=top 27
abbrev zyx:List Str:=["word","marks"]
abbrev zqj:List Str:=["word"]
theorem zjl:zpa zyx zqj (zia zfn):=scOf (by decide +kernel)
abbrev zvo:Stmt:=top 28
abbrev zmab:List Str:=["text","words","first","rule"]
abbrev zwk:List Str:=["text"]
theorem zbv:zpa zmab zwk (zia zvo):=scOf (by decide +kernel)
abbrev zpy:Stmt:=top 29
abbrev zgk:Stmt:=top 30
abbrev zoy:Stmt:=top 31
abbrev zwq:Stmt:=top 32
abbrev zjm:Stmt:=top 33
abbrev zycb:Stmt:=top 34
abbrev zqy:Stmt:=top 35
abbrev zxs:Stmt:=top 36
abbrev zll:Stmt:=top 45
abbrev zmu:List Str:=["lying"]
abbrev zoi:List Str:=["lying"]
theorem zvq:zpa zmu zoi (zia zll):=scOf (by decide +kernel)
abbrev zuv:Stmt:=top 46
abbrev zwib:List Str:=["lying","found","number","card","keeper","came","marks","place","rule"]
abbrev ztq:List Str:=["lying"]
theorem zud:zpa zwib ztq (zia zuv):=scOf (by decide +kernel)
abbrev zpfb:Stmt:=top 47
abbrev zgqb:List Str:=["lying","sight","change","asker","rule","fitting","amount"]
abbrev zjab:List Str:=["lying","sight","change"]
theorem zsjb:zpa zgqb zjab (zia zpfb):=scOf (by decide +kernel)
abbrev zlv:Stmt:=top 48
abbrev znib:List Str:=["lying","number","place","rules"]
abbrev zkq:List Str:=["lying","number","place"]
theorem ztcb:zpa znib zkq (zia zlv):=scOf (by decide +kernel)
abbrev zkm:Stmt:=top 49
abbrev zsy:Stmt:=top 50
abbrev zibb:Stmt:=top 51
abbrev zulb:List Str:=["lying","sight","change","word","amounts"]
abbrev zku:List Str:=["lying","sight","change"]
theorem zofb:zpa zulb zku (zia zibb):=scOf (by decide +kernel)
abbrev zqfb:Stmt:=top 52
abbrev zebb:Stmt:=top 53
abbrev zrlb:List Str:=["values","one"]
abbrev zgu:List Str:=["values","one"]
theorem zlfb:zpa zrlb zgu (zia zebb):=scOf (by decide +kernel)
abbrev ziv:Stmt:=top 54
abbrev zmib:List Str:=["values","one"]
abbrev zjq:List Str:=["values","one"]
theorem zscb:zpa zmib zjq (zia ziv):=scOf (by decide +kernel)
abbrev zry:Stmt:=top 55
abbrev zjv:Stmt:=top 56
abbrev zujb:Stmt:=top 57
abbrev zqv:Stmt:=top 58
abbrev zsib:List Str:=["lying","sight","order","every","layer","left","change"]
abbrev zpq:List Str:=["lying"]
theorem zqe:zpa zsib zpq (zia zqv):=scOf (by decide +kernel)
abbrev zpv:Stmt:=top 59
abbrev zrib:List Str:=["lying","sight","left","leaned"]
abbrev zoq:List Str:=["lying","sight","left"]
theorem zvcb:zpa zrib zoq (zia zpv):=scOf (by decide +kernel)
abbrev zgbb:Stmt:=top 61
abbrev ztlb:List Str:=["ways","choices"]
abbrev zju:List Str:=["ways","choices"]
theorem znfb:zpa ztlb zju (zia zgbb):=scOf (by decide +kernel)
abbrev zkl:Stmt:=top 62
abbrev zlu:List Str:=["lying","sight","sort","happening","kind","thing","amount","found","number","card","owner","came","marks","keeper","place","rule"]
abbrev zni:List Str:=["lying","sight","sort","happening"]
theorem zeb:zpa zlu zni (zia zkl):=scOf (by decide +kernel)
abbrev zuo:Stmt:=top 63
abbrev zlab:List Str:=["lying","sight","happening","used","meant"]
abbrev zvk:List Str:=["lying","sight","happening","used"]
theorem zdn:zpa zlab zvk (zia zuo):=scOf (by decide +kernel)
abbrev zbbb:Stmt:=top 64
abbrev zolb:List Str:=["happening","word","value","number","kind","thing","amount"]
abbrev zdu:List Str:=["happening","word","value","number"]
theorem zkfb:zpa zolb zdu (zia zbbb):=scOf (by decide +kernel)
abbrev zxo:Stmt:=top 65
abbrev zoab:List Str:=["sight","thing"]
abbrev zyk:List Str:=["sight","thing"]
theorem zcv:zpa zoab zyk (zia zxo):=scOf (by decide +kernel)
abbrev zbk:Stmt:=top 66
abbrev zbr:List Str:=["lying","sight","happening","choices","trail","used","left","rules","player","way","came","number","place","rule"]
abbrev znh:List Str:=["lying","sight","happening","choices"]
theorem zxa:zpa zbr znh (zia zbk):=scOf (by decide +kernel)
abbrev zmv:Stmt:=top 77
abbrev zoib:List Str:=["cards","owners","table","marks"]
abbrev zlq:List Str:=["cards","owners","table"]
theorem zkr:zpa zoib zlq (zia zmv):=scOf (by decide +kernel)
abbrev zlr:Stmt:=top 78
abbrev zdeb:List Str:=["cards","owners","table"]
abbrev zvm:List Str:=["cards","owners","table"]
theorem zky:zpa zdeb zvm (zia zlr):=scOf (by decide +kernel)
abbrev zmr:Stmt:=top 79
abbrev zeeb:List Str:=["values","place","value"]
abbrev zwm:List Str:=["values","place","value"]
theorem zly:zpa zeeb zwm (zia zmr):=scOf (by decide +kernel)
abbrev zen:Stmt:=top 80
abbrev zxx:List Str:=["table","part","place","value"]
abbrev zpj:List Str:=["table","part","place","value"]
theorem zts:zpa zxx zpj (zia zen):=scOf (by decide +kernel)
abbrev zsv:Stmt:=top 81
abbrev zuib:List Str:=["table","happening","kind","thing","amount"]
abbrev zrq:List Str:=["table","happening"]
theorem zvj:zpa zuib zrq (zia zsv):=scOf (by decide +kernel)
abbrev zfbb:Stmt:=top 82
abbrev zslb:List Str:=["cards","table","happening"]
abbrev ziu:List Str:=["cards","table","happening"]
theorem zmfb:zpa zslb ziu (zia zfbb):=scOf (by decide +kernel)
abbrev zxg:Stmt:=top 83
abbrev zdm:List Str:=["table","happening","kind","thing","amount","player","deck","hand"]
abbrev zaf:List Str:=["table","happening"]
theorem zlb:zpa zdm zaf (zia zxg):=scOf (by decide +kernel)
abbrev zsi:Stmt:=top 84
abbrev zun:List Str:=["cards","table","happening","kind","number","amount","marks"]
abbrev zqf:List Str:=["cards","table","happening"]
theorem zxc:zpa zun zqf (zia zsi):=scOf (by decide +kernel)
abbrev znv:Stmt:=top 85
abbrev zpib:List Str:=["cards","table","number"]
abbrev zmq:List Str:=["cards","table","number"]
theorem zucb:zpa zpib zmq (zia znv):=scOf (by decide +kernel)
abbrev znr:Stmt:=top 86
abbrev zfeb:List Str:=["cards","table","number"]
abbrev zxm:List Str:=["cards","table","number"]
theorem zfk:zpa zfeb zxm (zia znr):=scOf (by decide +kernel)
abbrev ztv:Stmt:=top 87
abbrev zvib:List Str:=["cards","owners","table","sight","happening","then","then_sight","meant"]
abbrev zsq:List Str:=["cards","owners","table","sight","happening"]
theorem zag:zpa zvib zsq (zia ztv):=scOf (by decide +kernel)
abbrev zov:Stmt:=top 88
abbrev zqib:List Str:=["cards","owners","table","sight","happenings","choices","log","calls","left","happening","trail","came","more"]
abbrev znq:List Str:=["cards","owners","table","sight","happenings","choices"]
theorem zwc:zpa zqib znq (zia zov):=scOf (by decide +kernel)
abbrev zdbb:Stmt:=top 90
abbrev zqlb:List Str:=["cards","owners","table","choices","log","calls","left","rests","then","entries","more"]
abbrev zfu:List Str:=["cards","owners","table","choices"]
theorem zrd:zpa zqlb zfu (zia zdbb):=scOf (by decide +kernel)
abbrev zemb:Stmt:=top 91
abbrev zdtb:List Str:=["cards","owners","table","choices","sight","leavings"]
abbrev zkib:List Str:=["cards","owners","table","choices"]
theorem zus:zpa zdtb zkib (zia zemb):=scOf (by decide +kernel)
abbrev zto:Stmt:=top 92
abbrev zkab:List Str:=["cards","owners","table","gone","going","theirs","number"]
abbrev zuk:List Str:=["cards","owners","table"]
theorem zpe:zpa zkab zuk (zia zto):=scOf (by decide +kernel)
abbrev zml:Stmt:=top 94
abbrev znu:List Str:=["_law_script","_law_k","_law_cell"]
abbrev zpi:List Str:=["_law_script","_law_k"]
theorem zfh:zpa znu zpi (zia zml):=scOf (by decide +kernel)
abbrev zty:Stmt:=top 95
abbrev zvy:Stmt:=top 96
abbrev zuy:Stmt:=top 97
abbrev zzo:Stmt:=top 98
abbrev zqab:List Str:=["_law_number_here","_law_sorts","_law_sort","_law_kinds","_law_deed_here","_law_kind"]
abbrev zal:List Str:=["_law_number_here","_law_sorts"]
theorem zfv:zpa zqab zal (zia zzo):=scOf (by decide +kernel)
abbrev zap:Stmt:=top 99
abbrev zrab:List Str:=["_law_number_here","_law_sorts","_law_name","_law_head","_law_rules","_law_k"]
abbrev zbl:List Str:=["_law_number_here","_law_sorts"]
theorem zkf:zpa zrab zbl (zia zap):=scOf (by decide +kernel)
abbrev zjn:Stmt:=top 100
abbrev zby:List Str:=["_law_script","_law_sorts","_law_first","_law_decks_here","_law_player","_law_deck","_law_k"]
abbrev ztj:List Str:=["_law_script","_law_sorts"]
theorem zvd:zpa zby ztj (zia zjn):=scOf (by decide +kernel)
abbrev zin:Stmt:=top 101
abbrev zay:List Str:=["_law_number_here"]
abbrev zsj:List Str:=["_law_number_here"]
theorem zvs:zpa zay zsj (zia zin):=scOf (by decide +kernel)
abbrev zgn:Stmt:=top 102
abbrev zzx:List Str:=["_law_script","_law_cards","_law_owners","_law_players","_law_lying","_law_heap","_law_hands","_law_decks_here","_law_gone","_law_wounds","_law_marks_here","_law_n","_law_number_here","_law_place","_law_own","_law_points","_law_scores","_law_rows","_law_head"]
abbrev zrj:List Str:=["_law_script","_law_cards","_law_owners","_law_players"]
theorem zab:zpa zzx zrj (zia zgn):=scOf (by decide +kernel)
abbrev zck:Stmt:=top 103
abbrev zcr:List Str:=["_law_cards","_law_owners","_law_table_here","_law_out","_law_left","_law_gone","_law_lying","_law_marks_here","_law_wounds","_law_n","_law_heap","_law_head"]
abbrev zoh:List Str:=["_law_cards","_law_owners","_law_table_here"]
theorem zjb:zpa zcr zoh (zia zck):=scOf (by decide +kernel)
abbrev zpr:Stmt:=top 104
abbrev zieb:List Str:=["_law_cards","_law_owners","_law_table_here","_law_now","_law_worn","_law_lying","_law_marks_here","_law_wounds","_law_n","_law_log","_law_heap"]
abbrev zzm:List Str:=["_law_cards","_law_owners","_law_table_here"]
theorem zdd:zpa zieb zzm (zia zpr):=scOf (by decide +kernel)
abbrev zbrb:Stmt:=top 105
abbrev zgub:List Str:=["_law_script","_law_decks_here","_law_cards","_law_owners","_law_player","_law_text","_law_table_here","_law_choices","_law_due_here","_law_turn_here","_law_handed","_law_found"]
abbrev zctb:List Str:=["_law_script"]
theorem zri:zpa zgub zctb (zia zbrb):=scOf (by decide +kernel)
abbrev zgq:Str:="abcdefghijklmnopqrstuvwxyz"
abbrev ziq:Str:="0123456789"
abbrev zyib:List (Str×yur):=[("all",.flat (.int 0)),("self",.flat (.int 0)),("mine",.flat (.int 0)),("mark",.flat (.int 0)),("force",.flat (.int 0)),("not",.flat (.int 1)),("both",.flat (.int 2)),("any",.flat (.int 2))]
abbrev zxib:List (Str×yur):=[("leave",.tup ((["none","here"]:List Str).map PyData.str)),("hurt",.tup ((["none","here","less","more"]:List Str).map PyData.str)),("gain",.tup ((["none","here"]:List Str).map PyData.str)),("lack",.tup ((["none","here"]:List Str).map PyData.str)),("lose",.tup ((["none","less","more","as"]:List Str).map PyData.str)),("score",.tup ((["none","less","more","as"]:List Str).map PyData.str)),("draw",.tup ((["none","less","more","as"]:List Str).map PyData.str))]
abbrev zou:List (Str×yur):=[("mute",.flat (.int 0)),("steal",.flat (.int 1)),("gain",.flat (.int 2)),("lack",.flat (.int 2)),("be",.flat (.int 3)),("more",.flat (.int 4)),("less",.flat (.int 4)),("per",.flat (.int 4))]
theorem onlZ {m:List Value->Prop}(h:m [])(us:List Value)(hl:us.length=0):m us:=by rw[yyi.mp hl];exact h
theorem onlS {m:List Value->Prop}{k:Nat}(h:∀a,∀us,us.length=k->m (a::us))(us:List Value)(hl:us.length=k+1):m us:=by
 obtain⟨a,t,rfl⟩:=List.exists_cons_of_length_eq_add_one hl;exact h a t (Nat.succ.inj hl)
@[elab_as_elim] theorem onl1 {m:List Value->Prop} (h:∀a,m [a]) (us:List Value) (hl:us.length=1):m us:=(onlS (m:=λt=>m (t)) λa=>onlZ (h a)) us hl
@[elab_as_elim] theorem onl2 {m:List Value->Prop} (h:∀a b,m [a,b]) (us:List Value) (hl:us.length=2):m us:=(onlS (m:=λt=>m (t)) λa=>onlS (m:=λt=>m (a::t)) λb=>onlZ (h a b)) us hl
@[elab_as_elim] theorem onl3 {m:List Value->Prop} (h:∀a b c,m [a,b,c]) (us:List Value) (hl:us.length=3):m us:=(onlS (m:=λt=>m (t)) λa=>onlS (m:=λt=>m (a::t)) λb=>onlS (m:=λt=>m (a::b::t)) λc=>onlZ (h a b c)) us hl
@[elab_as_elim] theorem onl4 {m:List Value->Prop} (h:∀a b c d,m [a,b,c,d]) (us:List Value) (hl:us.length=4):m us:=(onlS (m:=λt=>m (t)) λa=>onlS (m:=λt=>m (a::t)) λb=>onlS (m:=λt=>m (a::b::t)) λc=>onlS (m:=λt=>m (a::b::c::t)) λd=>onlZ (h a b c d)) us hl
@[elab_as_elim] theorem onl5 {m:List Value->Prop} (h:∀a b c d e,m [a,b,c,d,e]) (us:List Value) (hl:us.length=5):m us:=(onlS (m:=λt=>m (t)) λa=>onlS (m:=λt=>m (a::t)) λb=>onlS (m:=λt=>m (a::b::t)) λc=>onlS (m:=λt=>m (a::b::c::t)) λd=>onlS (m:=λt=>m (a::b::c::d::t)) λe=>onlZ (h a b c d e)) us hl
@[elab_as_elim] theorem onl6 {m:List Value->Prop} (h:∀a b c d e f,m [a,b,c,d,e,f]) (us:List Value) (hl:us.length=6):m us:=(onlS (m:=λt=>m (t)) λa=>onlS (m:=λt=>m (a::t)) λb=>onlS (m:=λt=>m (a::b::t)) λc=>onlS (m:=λt=>m (a::b::c::t)) λd=>onlS (m:=λt=>m (a::b::c::d::t)) λe=>onlS (m:=λt=>m (a::b::c::d::e::t)) λf=>onlZ (h a b c d e f)) us hl
set_option genInjectivity false in
set_option genSizeOf false in
structure Tf (K:yea)(mg:Str->Option Value) where
 zve:Gf K mg "is_name" "is_name" zrv
 zie:Gf K mg "is_number" "is_number" zyo
 zcf:Gf K mg "is_whole" "is_whole" zor
 zyh:Gf K mg "row_of" "row_of" zcbb
 zdnb:Gf K mg "take_whom" "take_whom" zny
 zwlb:Gf K mg "take_value" "take_value" zkv
 zftb:Gf K mg "built" "built" zoob
 zfe:Gf K mg "read_card" "read_card" zwo
 zld:Gf K mg "read_marks" "read_marks" zfn
 zee:Gf K mg "read_rule" "read_rule" zvo
 zfnb:Gf K mg "take_hold" "take_hold" zpy
 zey:Gf K mg "take_change_value" "take_change_value" zgk
 zenb:Gf K mg "take_when" "take_when" zoy
 zzib:Gf K mg "take_instead" "take_instead" zwq
 zicb:Gf K mg "take_turn_value" "take_turn_value" zjm
 ziqb:Gf K mg "take_may" "take_may" zycb
 zgnb:Gf K mg "take_deed" "take_deed" zqy
 zejb:Gf K mg "take_amount" "take_amount" zxs
 zcd:Gf K mg "first_sight" "first_sight" zll
 zig:Gf K mg "changes" "changes" zuv
 zdk:Gf K mg "reach" "reach" zpfb
 zcg:Gf K mg "rule_of" "rule_of" zlv
 zjcb:Gf K mg "numbers_fitting" "numbers_fitting" zkm
 zjnb:Gf K mg "amount_of" "amount_of" zsy
 zci:Gf K mg "behind" "behind" zibb
 zjqb:Gf K mg "changed" "changed" zqfb
 zwf:Gf K mg "joined" "joined" zebb
 zte:Gf K mg "without" "without" ziv
 zinb:Gf K mg "leaned_on" "leaned_on" zry
 zvlb:Gf K mg "waited_for" "waited_for" zjv
 zetb:Gf K mg "led_to" "led_to" zujb
 zfg:Gf K mg "layered" "layered" zqv
 zeg:Gf K mg "next_of" "next_of" zpv
 zbi:Gf K mg "chosen" "chosen" zgbb
 zob:Gf K mg "rules_meant" "rules_meant" zkl
 zbd:Gf K mg "rules_for" "rules_for" zuo
 zxh:Gf K mg "turned" "turned" zbbb
 zge:Gf K mg "player_of" "player_of" zxo
 zrc:Gf K mg "put_in_place" "put_in_place" zbk
 zvc:Gf K mg "rows_of" "rows_of" zmv
 zsd:Gf K mg "sight_of" "sight_of" zlr
 zmb:Gf K mg "replaced" "replaced" zmr
 zva:Gf K mg "with_value" "with_value" zen
 zwe:Gf K mg "happens" "happens" zsv
 zai:Gf K mg "happen" "happen" zfbb
 zpb:Gf K mg "happen_to_player" "happen_to_player" zxg
 zzb:Gf K mg "happen_to_card" "happen_to_card" zsi
 zue:Gf K mg "renewed" "renewed" znv
 ztd:Gf K mg "put_away" "put_away" znr
 zgg:Gf K mg "done_to" "done_to" ztv
 zdg:Gf K mg "put_all" "put_all" zov
 zzh:Gf K mg "looked" "looked" zdbb
 zgo:Gf K mg "look" "look" zemb
 zde:Gf K mg "with_gone" "with_gone" zto
 zqa:Gf K mg "_law_number" "_law_number" zml
 zknb:Gf K mg "_law_whom" "_law_whom" zty
 zmnb:Gf K mg "_law_deed" "_law_deed" zvy
 zlnb:Gf K mg "_law_turn" "_law_turn" zuy
 zje:Gf K mg "_law_rule" "_law_rule" zzo
 zke:Gf K mg "_law_card" "_law_card" zap
 zod:Gf K mg "_law_decks" "_law_decks" zjn
 znd:Gf K mg "_law_marks" "_law_marks" zin
 zmd:Gf K mg "_law_table" "_law_table" zgn
 zsc:Gf K mg "_law_without" "_law_without" zck
 zdf:Gf K mg "_law_due" "_law_due" zpr
 zneb:Gf K mg "law" "law" zbrb
set_option genInjectivity false in
set_option genSizeOf false in
structure Tx (K:yea)(mg:Str->Option Value) extends Tf K mg where
 zxd:Addr
 zpc:Cls K zxd
 zqgb:mg "Words" = some (.ref zxd)
 zac:If K zxd "__init__" "Words.__init__" znf
 zkc:Mf K zxd "take" "Words.take" zvi
 zek:Mf K zxd "take_one_of" "Words.take_one_of" zkg
 zvb:Mf K zxd "take_name" "Words.take_name" zef
 zib:Mf K zxd "take_number" "Words.take_number" zme
 ztc:Mf K zxd "finish" "Words.finish" zgh
 zgd:zmf K zxd "words"
 znc:zmf K zxd "place"
 zlj:Addr
 zshb:Cls K zlj
 zxrb:mg "Whom" = some (.ref zlj)
 zjo:If K zlj "__init__" "Whom.__init__" zxi
 zle:Mf K zlj "fits" "Whom.fits" zik
 zio:Mf K zlj "fits_row" "Whom.fits_row" zwi
 zfm:Mf K zlj "fits_parts" "Whom.fits_parts" zrh
 znk:zmf K zlj "word"
 zaj:zmf K zlj "value"
 zbj:zmf K zlj "parts"
 zpsb:Isi K zlj
 zub:Addr
 zye:Cls K zub
 zmmb:mg "Card" = some (.ref zub)
 zec:If K zub "__init__" "Card.__init__" zlg
 zgi:zmf K zub "name"
 zii:zmf K zub "cost"
 zse:zmf K zub "force"
 zyc:zmf K zub "marks"
 zre:zmf K zub "rules"
 zdy:mg "all" = none
 ztab:mg "bool" = none
 zmeb:mg "dict" = none
 zce:mg "enumerate" = none
 zleb:mg "int" = none
 zoe:mg "isinstance" = none
 zvg:mg "len" = none
 zui:mg "list" = none
 zbnb:mg "max" = none
 zanb:mg "min" = none
 zgc:mg "range" = none
 zem:mg "reversed" = none
 zkeb:mg "set" = none
 zae:mg "sorted" = none
 zgcb:mg "str" = none
 zkb:mg "tuple" = none
 zajb:mg "zip" = none
 zsw:Tok
 zvl:mg "LETTERS" = some (.str zgq zsw)
 ztw:Tok
 zwl:mg "FIGURES" = some (.str ziq ztw)
 zmn:Tok
 zgj:mg "MOST_WORDS" = some (.int 9 zmn)
 ziab:Addr
 zqz:mg "PARTS" = some (.ref ziab)
 zmz:ycn (yuj λb=>K.lookup b) (λb=>K.lookup b) ziab zyib=true
 znn:Tok
 zch:mg "MOST_RULES" = some (.int 3 znn)
 zgab:Addr
 zpz:mg "SORTS" = some (.ref zgab)
 zlz:TupK K zgab ["hold","when","instead","may"]
 zeq:Addr
 zyp:mg "CHANGES" = some (.ref zeq)
 zqp:TupK K zeq ["mute","steal","gain","lack","be","more","less","per"]
 znj:Addr
 zfj:mg "WHEN_KINDS" = some (.ref znj)
 zdj:TupK K znj ["come","leave","hurt","gain","lack","lose","score","draw"]
 zoj:Addr
 zij:mg "DEED_KINDS" = some (.ref zoj)
 zej:TupK K zoj ["leave","hurt","gain","lack","lose","score","draw"]
 zmh:Addr
 zkh:mg "PLAYER_KINDS" = some (.ref zmh)
 zjh:TupK K zmh ["lose","score","draw"]
 zfab:Addr
 zoz:mg "TURNS" = some (.ref zfab)
 zkz:TabK K zfab zxib
 zcm:Addr
 zdo:mg "LAYERS" = some (.ref zcm)
 zao:ycn (yuj λb=>K.lookup b) (λb=>K.lookup b) zcm zou=true
 zsl:Tok
 zzf:mg "MANY_LAYERS" = some (.int 5 zsl)
 zwbb:Tok
 zzj:mg "POINTS" = some (.int 0 zwbb)
 zvbb:Tok
 zul:mg "SCORES" = some (.int 1 zvbb)
 zpmb:Tok
 zwp:mg "GONE" = some (.int 2 zpmb)
 zbhb:Tok
 zxp:mg "DECKS" = some (.int 3 zbhb)
 zahb:Tok
 zvp:mg "HANDS" = some (.int 4 zahb)
 zzgb:Tok
 zof:mg "LYING" = some (.int 5 zzgb)
 zomb:Tok
 zzw:mg "HEAP" = some (.int 6 zomb)
 zygb:Tok
 zki:mg "MARKS" = some (.int 7 zygb)
 zubb:Tok
 zji:mg "WOUNDS" = some (.int 8 zubb)
theorem zsx (T:Tx K mg):Binds K T.zve.d zqq []:=T.zve.F.binds λ_ _ _ _ _ _ us hl=>onl1 (λ_=>rfl) us hl
theorem zyz (T:Tx K mg):Binds K T.zie.d zzk []:=T.zie.F.binds λ_ _ _ _ _ _ us hl=>onl1 (λ_=>rfl) us hl
theorem zaeb (T:Tx K mg):Binds K T.zcf.d zym []:=T.zcf.F.binds λ_ _ _ _ _ _ us hl=>onl2 (λ_ _=>rfl) us hl
theorem ztn (T:Tx K mg):Binds K T.zac.d zrf []:=T.zac.F.binds λ_ _ _ _ _ _ us hl=>onl2 (λ_ _=>rfl) us hl
theorem zmj (T:Tx K mg):Binds K T.zkc.d zuj []:=T.zkc.F.binds λ_ _ _ _ _ _ us hl=>onl1 (λ_=>rfl) us hl
theorem zum (T:Tx K mg):Binds K T.zvb.d zif []:=T.zvb.F.binds λ_ _ _ _ _ _ us hl=>onl1 (λ_=>rfl) us hl
theorem ztg (T:Tx K mg):Binds K T.zib.d zne []:=T.zib.F.binds λ_ _ _ _ _ _ us hl=>onl1 (λ_=>rfl) us hl
theorem zar (T:Tx K mg):Binds K T.ztc.d zph []:=T.ztc.F.binds λ_ _ _ _ _ _ us hl=>onl1 (λ_=>rfl) us hl
theorem zcab (T:Tx K mg):Binds K T.zle.d zcl []:=T.zle.F.binds λ_ _ _ _ _ _ us hl=>onl5 (λ_ _ _ _ _=>rfl) us hl
theorem zglb (T:Tx K mg):Binds K T.zyh.d zeu []:=T.zyh.F.binds λ_ _ _ _ _ _ us hl=>onl2 (λ_ _=>rfl) us hl
theorem zcq (T:Tx K mg):Binds K T.zec.d zug []:=T.zec.F.binds λ_ _ _ _ _ _ us hl=>onl6 (λ_ _ _ _ _ _=>rfl) us hl
theorem zwz (T:Tx K mg):Binds K T.zfe.d zxk []:=T.zfe.F.binds λ_ _ _ _ _ _ us hl=>onl1 (λ_=>rfl) us hl
theorem zrx (T:Tx K mg):Binds K T.zld.d zqj []:=T.zld.F.binds λ_ _ _ _ _ _ us hl=>onl1 (λ_=>rfl) us hl
theorem zvz (T:Tx K mg):Binds K T.zee.d zwk []:=T.zee.F.binds λ_ _ _ _ _ _ us hl=>onl1 (λ_=>rfl) us hl
theorem zbu (T:Tx K mg):Binds K T.zcd.d zoi []:=T.zcd.F.binds λ_ _ _ _ _ _ us hl=>onl1 (λ_=>rfl) us hl
theorem zfib (T:Tx K mg):Binds K T.zig.d ztq []:=T.zig.F.binds λ_ _ _ _ _ _ us hl=>onl1 (λ_=>rfl) us hl
theorem zwpb (T:Tx K mg):Binds K T.zdk.d zjab []:=T.zdk.F.binds λ_ _ _ _ _ _ us hl=>onl3 (λ_ _ _=>rfl) us hl
theorem zaib (T:Tx K mg):Binds K T.zcg.d zkq []:=T.zcg.F.binds λ_ _ _ _ _ _ us hl=>onl3 (λ_ _ _=>rfl) us hl
theorem zllb (T:Tx K mg):Binds K T.zci.d zku []:=T.zci.F.binds λ_ _ _ _ _ _ us hl=>onl3 (λ_ _ _=>rfl) us hl
theorem zfcb (T:Tx K mg):Binds K T.zwf.d zgu []:=T.zwf.F.binds λ_ _ _ _ _ _ us hl=>onl2 (λ_ _=>rfl) us hl
theorem zpx (T:Tx K mg):Binds K T.zte.d zjq []:=T.zte.F.binds λ_ _ _ _ _ _ us hl=>onl2 (λ_ _=>rfl) us hl
theorem zdib (T:Tx K mg):Binds K T.zfg.d zpq []:=T.zfg.F.binds λ_ _ _ _ _ _ us hl=>onl1 (λ_=>rfl) us hl
theorem zcib (T:Tx K mg):Binds K T.zeg.d zoq []:=T.zeg.F.binds λ_ _ _ _ _ _ us hl=>onl3 (λ_ _ _=>rfl) us hl
theorem zklb (T:Tx K mg):Binds K T.zbi.d zju []:=T.zbi.F.binds λ_ _ _ _ _ _ us hl=>onl2 (λ_ _=>rfl) us hl
theorem zmi (T:Tx K mg):Binds K T.zob.d zni []:=T.zob.F.binds λ_ _ _ _ _ _ us hl=>onl4 (λ_ _ _ _=>rfl) us hl
theorem zbq (T:Tx K mg):Binds K T.zbd.d zvk []:=T.zbd.F.binds λ_ _ _ _ _ _ us hl=>onl4 (λ_ _ _ _=>rfl) us hl
theorem zflb (T:Tx K mg):Binds K T.zxh.d zdu []:=T.zxh.F.binds λ_ _ _ _ _ _ us hl=>onl4 (λ_ _ _ _=>rfl) us hl
theorem zxz (T:Tx K mg):Binds K T.zge.d zyk []:=T.zge.F.binds λ_ _ _ _ _ _ us hl=>onl2 (λ_ _=>rfl) us hl
theorem zyq (T:Tx K mg):Binds K T.zrc.d znh []:=T.zrc.F.binds λ_ _ _ _ _ _ us hl=>onl4 (λ_ _ _ _=>rfl) us hl
theorem zam (T:Tx K mg):Binds K T.zvc.d zlq []:=T.zvc.F.binds λ_ _ _ _ _ _ us hl=>onl3 (λ_ _ _=>rfl) us hl
theorem zms (T:Tx K mg):Binds K T.zsd.d zvm []:=T.zsd.F.binds λ_ _ _ _ _ _ us hl=>onl3 (λ_ _ _=>rfl) us hl
theorem zbg (T:Tx K mg):Binds K T.zmb.d zwm []:=T.zmb.F.binds λ_ _ _ _ _ _ us hl=>onl3 (λ_ _ _=>rfl) us hl
theorem zad (T:Tx K mg):Binds K T.zva.d zpj []:=T.zva.F.binds λ_ _ _ _ _ _ us hl=>onl4 (λ_ _ _ _=>rfl) us hl
theorem ztx (T:Tx K mg):Binds K T.zwe.d zrq []:=T.zwe.F.binds λ_ _ _ _ _ _ us hl=>onl2 (λ_ _=>rfl) us hl
theorem zjlb (T:Tx K mg):Binds K T.zai.d ziu []:=T.zai.F.binds λ_ _ _ _ _ _ us hl=>onl3 (λ_ _ _=>rfl) us hl
theorem zbm (T:Tx K mg):Binds K T.zpb.d zaf []:=T.zpb.F.binds λ_ _ _ _ _ _ us hl=>onl2 (λ_ _=>rfl) us hl
theorem zsn (T:Tx K mg):Binds K T.zzb.d zqf []:=T.zzb.F.binds λ_ _ _ _ _ _ us hl=>onl3 (λ_ _ _=>rfl) us hl
theorem zqx (T:Tx K mg):Binds K T.zue.d zmq []:=T.zue.F.binds λ_ _ _ _ _ _ us hl=>onl3 (λ_ _ _=>rfl) us hl
theorem zns (T:Tx K mg):Binds K T.ztd.d zxm []:=T.ztd.F.binds λ_ _ _ _ _ _ us hl=>onl3 (λ_ _ _=>rfl) us hl
theorem zeib (T:Tx K mg):Binds K T.zgg.d zsq []:=T.zgg.F.binds λ_ _ _ _ _ _ us hl=>onl5 (λ_ _ _ _ _=>rfl) us hl
theorem zbib (T:Tx K mg):Binds K T.zdg.d znq []:=T.zdg.F.binds λ_ _ _ _ _ _ us hl=>onl6 (λ_ _ _ _ _ _=>rfl) us hl
theorem zilb (T:Tx K mg):Binds K T.zzh.d zfu []:=T.zzh.F.binds λ_ _ _ _ _ _ us hl=>onl4 (λ_ _ _ _=>rfl) us hl
theorem zysb (T:Tx K mg):Binds K T.zgo.d zkib []:=T.zgo.F.binds λ_ _ _ _ _ _ us hl=>onl4 (λ_ _ _ _=>rfl) us hl
theorem zuz (T:Tx K mg):Binds K T.zde.d zuk []:=T.zde.F.binds λ_ _ _ _ _ _ us hl=>onl3 (λ_ _ _=>rfl) us hl
theorem zdc (T:Tx K mg):Binds K T.zqa.d zpi []:=T.zqa.F.binds λ_ _ _ _ _ _ us hl=>onl2 (λ_ _=>rfl) us hl
theorem zaab (T:Tx K mg):Binds K T.zje.d zal []:=T.zje.F.binds λ_ _ _ _ _ _ us hl=>onl2 (λ_ _=>rfl) us hl
theorem zbab (T:Tx K mg):Binds K T.zke.d zbl []:=T.zke.F.binds λ_ _ _ _ _ _ us hl=>onl2 (λ_ _=>rfl) us hl
theorem zwx (T:Tx K mg):Binds K T.zod.d ztj []:=T.zod.F.binds λ_ _ _ _ _ _ us hl=>onl2 (λ_ _=>rfl) us hl
theorem zvx (T:Tx K mg):Binds K T.znd.d zsj []:=T.znd.F.binds λ_ _ _ _ _ _ us hl=>onl1 (λ_=>rfl) us hl
theorem zux (T:Tx K mg):Binds K T.zmd.d zrj []:=T.zmd.F.binds λ_ _ _ _ _ _ us hl=>onl4 (λ_ _ _ _=>rfl) us hl
theorem zzq (T:Tx K mg):Binds K T.zsc.d zoh []:=T.zsc.F.binds λ_ _ _ _ _ _ us hl=>onl3 (λ_ _ _=>rfl) us hl
theorem zbeb (T:Tx K mg):Binds K T.zdf.d zzm []:=T.zdf.F.binds λ_ _ _ _ _ _ us hl=>onl3 (λ_ _ _=>rfl) us hl
theorem zocb (T:Tx K mg)(kb:K.In base):KTD.TextTab base T.zcm zou:=KTD.text_of_look (λb o q=>kb b o q) T.zao
abbrev LL:Str:="abcdefghijklmnopqrstuvwxyz"
abbrev FF:Str:="0123456789"
def inS (c:Nat)(u:Str):Bool:=!(yud u ⟨#[c]⟩ 0 u.length 1).isEmpty
def allIn (t u:Str):Bool:=(t.cps.toList.map λc=>inS c u).all id
def zas (t:Str):Bool:=decide (V.str t=V.str "0")||(!decide (V.str ⟨#[t.cps.getD 0 0]⟩=V.str "0"))
def short (t:Str)(n:Int):Bool:=decide ((1:Int)≤((t.length:Nat):Int))&&decide (((t.length:Nat):Int)≤n)
def isName (t:Str):Bool:=short t 8&&allIn t LL
def isWhole (t:Str)(n:Int):Bool:=short t n&&(allIn t FF&&zas t)
def isNumber (t:Str):Bool:=isWhole t 3
theorem small {n:Nat}(h:n≤1000):n≤yxa:=yre (zpd h)
theorem zsdb {t:Str}(h:(1:Int)≤((t.length:Nat):Int)):atI t.cps.toList 0=some (t.cps.getD 0 0):=by
 have hl:0<t.cps.size:=by
  have e:t.length=t.cps.size:=rfl;omega
 have e:t.cps.toList[0]?=some (t.cps.getD 0 0):=by
  rw[yfc,yzf,yeb hl];rfl
 exact zka (j:=0) e
theorem ziib {α:Type}{xs:List α}{i:Int}(h0:0≤i)(h:i<(xs.length:Int)):∃v,atI xs i=some v∧v∈xs:=by
 have hk:i.toNat<xs.length:=by omega
 have e:xs[i.toNat]?=some xs[i.toNat]:=ybb hk;have q:=zka e;rw[show ((i.toNat:Nat):Int)=i by omega] at q;exact⟨_,q,yta e⟩
theorem zypb {ns:List Int}{i:Int}(h0:0≤i)(h:i<(ns.length:Int)):∃z,atI (ns.map V.int) i=some (.int z):=by
 obtain⟨v,hv,hm⟩:=ziib (xs:=ns.map V.int) h0 (by rw[yca];exact h);obtain⟨z,_,rfl⟩:=ymc.mp hm;exact⟨z,hv⟩
def But (p:Addr)(H H':Hp):Prop:=∀b o,b≠p->H b=some o->H' b=some o
theorem But.trans {p:Addr}{H H1 H2:Hp}(a:But p H H1)(b:But p H1 H2):But p H H2:=λc o n h=>b c o n (a c o n h)
theorem But.laid {p q:Addr}{H:Hp}{o:HO}(h:H q=none):But p H (upd H q o):=λb u n e=>by rw[zta (zga e h)];exact e
theorem But.put {p:Addr}{H:Hp}{o:HO}:But p H (upd H p o):=λb u n e=>by rw[zta n];exact e
theorem But.same {p:Addr}{H H':Hp}(h:Same H H'):But p H H':=λb o _ e=>h b o e
theorem zxf {H:Hp}{p:Addr}(h:H p=none)(o:HO):Same H (upd H p o):=λb u q=>by rw[zta (zga q h)];exact q
def SqF (K:yea)(H:Hp)(a:Addr)(xs:List V):Prop :=
 (∃o,H a=some (.frz o (.lst xs)))∨Ex3 λ(o:Obj) (its:Array Value) (n:Nat)=>K.lookup a=some o∧o.cls = .type "list" ∧ o.dict=none∧o.data = .seq its n∧its.size≤yxa∧Vals xs its.toList
theorem SqF.sq {K:yea}{H:Hp}{a:Addr}{xs:List V}(h:SqF K H a xs):SqL K H a xs:=by
 rcases h with⟨o,h⟩|h
 ·exact .inl (.inr ⟨o,h⟩)
 ·exact .inr h
theorem SqF.of {K:yea}{H:Hp}{a:Addr}{xs:List V}(O:Only H)(h:SqL K H a xs):SqF K H a xs:=by
 rcases h with (h|⟨o,h⟩)|h
 ·rcases O a with z|⟨o,ys,z⟩
  ·rw[z] at h;cases h
  ·rw[z] at h;cases h
 ·exact .inl ⟨o,h⟩
 ·exact .inr h
theorem SqF.keep {K:yea}{H H':Hp}{a:Addr}{xs:List V}(h:SqF K H a xs)(k:∀o u,H a=some (.frz o u)->H' a=some (.frz o u)):SqF K H' a xs:=by
 rcases h with⟨o,h⟩|h
 ·exact .inl ⟨o,k _ _ h⟩
 ·exact .inr h
structure Tk (K:yea)(H:Hp)(p:Addr)(k:Int):Prop where
 ex:Ex2 λa (ns:List Int)=>H p=some (.lst [.ref a,.int k])∧SqF K H a (ns.map V.int)∧ns.length≤63
 lo:0≤k
def zyqb:Sp:=λvs H Q _=>∃t:Str,vs=[.str t]∧t.length≤1000∧∀H',Same H H'->Q (.bl (isName t)) H'
def zljb:Sp:=λvs H Q _=>∃t:Str,vs=[.str t]∧t.length≤1000∧∀H',Same H H'->Q (.bl (isNumber t)) H'
def zwnb:Sp:=λvs H Q _=>Ex2 λ(t:Str) (n:Int)=>vs=[.str t,.int n]∧t.length≤1000∧∀H',Same H H'->Q (.bl (isWhole t n)) H'
def zmjb (K:yea):Sp:=λvs H Q _=>Ex2 λa (ns:List Int)=>vs=[.ref a]∧SqF K H a (ns.map V.int)∧ns.length≤63∧∀H',Q (.bl true) H'
abbrev zfrb:R2:=λx y H Q=>Ex2 λi j=>x = .str i∧y = .str j∧Q (.bl (!(yud j i 0 j.length 1).isEmpty)) H
theorem zgs {t L:Str}{σ:L2.St}{H:Hp}{Q:VK}(hz:t.length≤yxa)(q:∀p,H p=none->Q (.ref p) (upd H p (.lst ((t.cps.toList.map λc=>inS c L).map V.bl)))) :
  zpu (Its t) H (zzkb 0) znqb (tOp zfrb (tVar 0) (tC (.str L))) 1 [] σ Q:=by
 refine zclb (λi ys H'=>H'=H∧i≤t.cps.size∧ys=((t.cps.toList.take i).map λc=>inS c L).map V.bl) ⟨rfl,ycb _,rfl⟩ ?_ ?_ ?_
 ·rintro i ys H' ⟨_,hi,rfl⟩;rw[yca,yca,ywa];have e:t.length=t.cps.toList.length:=by simp[Str.length]
  omega
 ·rintro i c ys H' hc ⟨rfl,hi,rfl⟩;refine⟨rfl,_,rfl,_,_,rfl,rfl,rfl,?_,?_⟩
  ·have hlt:i<t.cps.size:=(Array.getElem?_eq_some_iff.mp hc).1;exact hlt
  ·have e:t.cps.toList[i]?=some c:=by simpa using hc
   rw[yqa,e,yva,yva];rfl
 ·rintro ys H' ⟨rfl,_,rfl⟩ p hp;have q':=q p hp;rw[yfb (by simp)];exact q'
section
variable {P:ytb}{w:World}{K:yea}{mg:Str->Option Value}{base:Heap}{f:Addr}{fd:ycg}
theorem zyr (T:Tx K mg):FnOk P w K mg base CX0 2 T.zve.f T.zve.d zqq zyqb:=by
 refine T.zve.ok zwcb ?_;rintro f c A o s H vs Q E hr ⟨t,rfl,hz,q⟩ X;have hz':=small hz;refine⟨_,  (zfa (zbb (zjmb (zfkb zagb zagb zea (zya zpn rfl T.zvg ylc (zaa (pv 0) zba)) zea) (ztr (zya (zfo rfl) rfl T.zdy boot_all (zaa (zuc (own:=["sign"]) (cap:=[]) rfl (zsa.chk rfl rfl) .nil (zgmb (pv 0)) (λ_ _ _ _=>(zda (i:=0) (show yjb (["sign"]:List Str) by decide +kernel) rfl (.inl rfl))) (λ_ _ _ _=>zyb) (λ_ _ _ _=>by exact (zqg zyv (pv 0) (zdb (v:=.str zgq) rfl T.zvl ⟨_,rfl⟩) rfl))) zba)))))),?_⟩;refine⟨_,rfl,t,rfl,hz',_,_,rfl,rfl,_,rfl,?_⟩;refine ite2 (λc1=>?_) (λc1=>?_)
 ·refine⟨_,_,rfl,rfl,_,rfl,?_⟩;refine ite2 (λc2=>?_) (λc2=>?_)
  ·refine⟨_,rfl,t,rfl,?_⟩;refine zgs hz' λp hp=>?_;refine⟨p,_,rfl,SqL.of zua,?_⟩;have q':=q (upd H p (.lst ((t.cps.toList.map λc=>inS c LL).map V.bl))) (zxf hp _);have e:isName t=allIn t LL:=by
    unfold isName short;rw[c1,c2,yjh,yjh]
   rw[e] at q';exact q'
  ·have q':=q H (Same.refl H);have e:isName t=false:=by
    unfold isName short;rw[ybi.mpr c2,yrl,yaf]
   rw[e] at q';exact q'
 ·refine⟨_,rfl,iteF ?_⟩;have q':=q H (Same.refl H);have e:isName t=false:=by
   unfold isName short;rw[ybi.mpr c1,yaf,yaf]
  rw[e] at q';exact q'
theorem zaz (T:Tx K mg):FnOk P w K mg base CX0 1 T.zcf.f T.zcf.d zym zwnb:=by
 refine T.zcf.ok zmy ?_;rintro f c A o s H vs Q E hr ⟨t,n,rfl,hz,q⟩ X;have hz':=small hz;refine⟨_,  (zca (zyd (PW.pt (zirb (zsh (zzjb zagb zagb zea (zya zpn rfl T.zvg ylc (zaa (pv 0) zba)) (pv 1))) (zfmb (zsh (zng (zya (zfo rfl) rfl T.zdy boot_all (zaa (zuc (own:=["sign"]) (cap:=[]) rfl (zsa.chk rfl rfl) .nil (zgmb (pv 0)) (λ_ _ _ _=>(zda (i:=0) (show yjb (["sign"]:List Str) by decide +kernel) rfl (.inl rfl))) (λ_ _ _ _=>zyb) (λ_ _ _ _=>by exact (zqg zyv (pv 0) (zdb (v:=.str ziq) rfl T.zwl ⟨_,rfl⟩) rfl))) zba)))))))
   (zfa (zbb zzy))
   zsb)
  (zfa (zbb (zekb (zqg zth (pv 0) ztb (zrb _)) (ztr (zqg zmrb (zra zmsb (pv 0) zea (λ_ _=>rfl)) ztb (zrb _))))))),?_⟩
 refine⟨_,rfl,t,rfl,hz',_,_,rfl,rfl,_,rfl,?_⟩;refine ite2 (λc1=>?_) (λc1=>?_)
 ·refine⟨_,rfl,_,_,rfl,rfl,_,rfl,?_⟩;refine ite2 (λc2=>?_) (λc2=>?_)
  ·refine iteT ?_;have q':=q H (Same.refl H);have c2':decide (((t.length:Nat):Int)≤n)=false:=(by simpa using c2);have e:isWhole t n=false:=by
    unfold isWhole short;rw[c2',yrl,yaf]
   rw[e] at q';exact q'
  ·have c2':decide (((t.length:Nat):Int)≤n)=true:=by simpa using c2
   refine⟨_,rfl,t,rfl,?_⟩;refine zgs hz' λp hp=>?_;refine⟨p,_,rfl,SqL.of zua,_,rfl,?_⟩;have S1:=zxf hp (.lst ((t.cps.toList.map λc=>inS c FF).map V.bl));have q':=q _ S1;have e0:isWhole t n=(allIn t FF&&zas t):=by
    unfold isWhole short;rw[c1,c2',yjh,yjh]
   rw[e0] at q';refine ite2 (λc3=>?_) (λc3=>?_)
   ·have c3':allIn t FF=false:=by simpa [allIn] using c3
    rw[c3',yaf] at q';exact q'
   ·have c3':allIn t FF=true:=by simpa [allIn] using c3
    rw[c3',yjh] at q';refine⟨_,rfl,rfl,_,rfl,?_⟩;refine ite2 (λc4=>?_) (λc4=>?_)
    ·have e:zas t=true:=by
      unfold zas;rw[c4,yfr]
     rw[e] at q';exact q'
    ·refine⟨_,rfl,t,_,_,rfl,rfl,hz',zsdb (of_decide_eq_true c1),rfl,?_⟩;have e:zas t=(!decide (V.str ⟨#[t.cps.getD 0 0]⟩=V.str "0")):=by
      unfold zas;rw[ybi.mpr c4,ydq]
     rw[e] at q';exact q'
 ·refine⟨_,rfl,iteT (iteT ?_)⟩;have q':=q H (Same.refl H);have e:isWhole t n=false:=by
   unfold isWhole short;rw[ybi.mpr c1,yaf,yaf]
  rw[e] at q';exact q'
theorem zdw (T:Tx K mg):FnOk P w K mg base CX0 2 T.zie.f T.zie.d zzk zljb:=by
 refine T.zie.ok zdv ?_;rintro f c A o s H vs Q E hr ⟨t,rfl,hz,q⟩ X;refine⟨_,  (zfa (zbb (zja (zaz T) hr rfl T.zcf.m T.zcf.F.kp (zaeb T) .nil zza (zaa (pv 0) (zaa zea zba))))),?_⟩;exact⟨_,rfl,t,3,rfl,hz,q⟩
end
section
seal PySem.wpAny
theorem zosb:∀c:Nat,c<123->97≤c->inS c LL=true:=by decide +kernel
theorem zkp {n:Str}(h:zqc n):isName n=true:=by
 unfold isName short allIn;obtain⟨h1,h2,h3⟩:=h;rw[decide_eq_true (by omega),decide_eq_true (by omega),yjh,yjh,ykf];intro b hb;obtain⟨c,hc,rfl⟩:=ymc.mp hb;exact zosb c (by have:=h3 c hc;omega) (h3 c hc).1
theorem zgw:∀i:Nat,i<1000->isNumber (toString (i:Int):Str)=true:=by decide +kernel
theorem zipb:∀i:Nat,i<1000->PySem.intText? (toString (i:Int):Str)=some (i:Int):=by decide +kernel
theorem zrl {f:Str}{v:V}{r:List (Str×V)}:yze f ((f,v)::r)=some v:=by rw[yjf,beq_self_eq_true]
theorem zkd {f g:Str}{v:V}{r:List (Str×V)}(h:¬ f=g):yze f ((g,v)::r)=yze f r:=by
 have e:(f==g)=false:=by simpa using h
 rw[yjf,e]
theorem zuob {f:Str}{v:V}:putF f v []=[(f,v)]:=rfl
theorem zvob {f:Str}{v u:V}{r:List (Str×V)}:putF f v ((f,u)::r)=(f,v)::r:=by
 show (if f=f then (f,v)::r else (f,u)::putF f v r)=_
 rw[if_pos rfl]
theorem zys {f g:Str}{v u:V}{r:List (Str×V)}(h:¬ g=f):putF f v ((g,u)::r)=(g,u)::putF f v r:=by
 show (if g=f then (g,v)::r else (g,u)::putF f v r)=_
 rw[if_neg h]
def wfs (l:Addr)(k:Int):List (Str×V):=[("words",.ref l),("place",.int k)]
theorem ztrb:¬ (("words":Str) = "place"):=by decide +kernel
theorem zztb:¬ (("place":Str) = "words"):=by decide +kernel
theorem zko (l:Addr)(k:Int):(wfs l k).lookup ("words":Str)=some (.ref l):=zrl
theorem zel (l:Addr)(k:Int):(wfs l k).lookup ("place":Str)=some (.int k):=(zkd zztb).trans zrl
theorem znnb (l:Addr)(k j:Int):putF "place" (.int j) (wfs l k)=wfs l j:=(zys ztrb).trans (congrArg _ zvob)
theorem zfjb (l:Addr)(j:Int):putF "place" (.int j) (putF "words" (.ref l) [])=wfs l j:=(zys ztrb).trans rfl
theorem zlo (l:Addr)(k:Int){m:Str}(h1:¬ m = "words")(h2:¬ m = "place"):(wfs l k).lookup m=none:=(zkd h1).trans ((zkd h2).trans rfl)
def WAt (C:Addr)(H:Hp)(p:Addr)(ws:List Str)(k:Nat):Prop:=Ex2 λdx l=>H p=some (.ins C dx (wfs l (k:Int)))∧H l=some (.lst (ws.map V.str))
theorem WAt.at {C:Addr}{H H':Hp}{p:Addr}{ws:List Str}{k:Nat}(h:WAt C H p ws k)(s:Same H H'):WAt C H' p ws k:=by
 obtain⟨dx,l,h1,h2⟩:=h;exact⟨dx,l,s _ _ h1,s _ _ h2⟩
theorem WAt.go {C:Addr}{H:Hp}{p dx l:Addr}{ws:List Str}{k j:Nat}(h1:H p=some (.ins C dx (wfs l (k:Int))))(h2:H l=some (.lst (ws.map V.str))):WAt C (upd H p (.ins C dx (wfs l (j:Int)))) p ws j:=by
 have n:l≠p:=zurb h2 h1 (by intro z;cases z);exact⟨dx,l,zua,by rw[zta n];exact h2⟩
theorem But.of_same {p:Addr}{H H1 H2:Hp}(a:But p H H1)(b:Same H1 H2):But p H H2:=a.trans (But.same b)
theorem zzsb {ws:List Str}{k:Nat}{u:Str}(h:ws[k]?=some u):atI (ws.map V.str) (k:Int)=some (.str u):=zka (by rw[yla,h];rfl)
def zvnb (C:Addr):Sp:=λvs H Q _=>Ex3 λp dx (t:Str)=>vs=[.ref p,.str t]∧H p=some (.ins C dx [])∧t.length≤1000∧∀H',WAt C H' p (ylg t " ") 0->But p H H'->Q .non H'
def zxnb (C:Addr):Sp:=λvs H Q _=>Ex4 λp (ws:List Str) (k:Nat) (u:Str)=>vs=[.ref p]∧WAt C H p ws k∧ws[k]?=some u∧∀H',WAt C H' p ws (k+1)->But p H H'->Q (.str u) H'
def zynb (C:Addr):Sp:=λvs H Q _=>Ex4 λp (ws:List Str) (k:Nat) (u:Str)=>vs=[.ref p]∧WAt C H p ws k∧ws[k]?=some u∧zqc u∧∀H',WAt C H' p ws (k+1)->But p H H'->Q (.str u) H'
def zxeb (C:Addr):Sp:=λvs H Q _=>Ex4 λp (ws:List Str) (k i:Nat)=>vs=[.ref p]∧WAt C H p ws k∧ws[k]?=some (toString (i:Int):Str)∧i<1000∧∀H',WAt C H' p ws (k+1)->But p H H'->Q (.int i) H'
def zyeb (C:Addr):Sp:=λvs H Q _=>Ex2 λp (ws:List Str)=>vs=[.ref p]∧WAt C H p ws ws.length∧Q .non H
theorem zjkb (T:Tx K mg):FnOk P w K mg base CX0 2 T.zac.f T.zac.d zrf (zvnb T.zxd):=by
 refine T.zac.ok zim ?_;rintro f c A o s H vs Q E hr ⟨p,dx,t,rfl,hp,ht,q⟩ X;refine⟨_,  (zca (zbp (pv 0) (zff yfg yej yfj zmt (pv 1) (zaa ztb zba)) rfl)
  (zfa (zbp (pv 0) zea rfl))),?_⟩
 refine⟨_,rfl,rfl,t,_,rfl,rfl,(by decide +kernel),(yqb (yik ht 2) (by decide)),λl hl=>?_⟩;have npl:p≠l:=zga hp hl;refine⟨_,rfl,p,_,dx,_,rfl,(by rw[zta npl];exact hp),T.zpc,T.zgd,(by show 0<1000;decide),?_⟩;refine⟨_,rfl,p,_,dx,_,rfl,zua,T.zpc,T.znc,(by show 1<1000;decide),?_⟩;refine q _ ⟨dx,l,?_,?_⟩ ?_
 ·rw[zua,zfjb];rfl
 ·rw[zta npl.symm,zta npl.symm,zua]
 ·exact (But.laid hl).trans (But.put.trans But.put)
theorem zfi (T:Tx K mg):FnOk P w K mg base CX0 2 T.zkc.f T.zkc.d zuj (zxnb T.zxd):=by
 refine T.zkc.ok zws ?_;rintro f c A o s H vs Q E hr ⟨p,ws,k,u,rfl,⟨dx,l,h1,h2⟩,hu,q⟩ X;refine⟨_,  (zca (zyd (zgb zth (zti (pv 0) rfl) (zya zcb rfl T.zvg ylc (zaa (zti (pv 0) rfl) zba)) (zrb _))
   (zfa zyg)
   zsb)
  (zca (ztfb (pv 0) zea znsb)
  (zfa (zbb (zra zjd (zti (pv 0) rfl) (zfb zur (zti (pv 0) rfl) zea) (λ_ _=>rfl)))))),?_⟩
 have hk:k<ws.length:=(yga.mp hu).1;have n:l≠p:=zurb h2 h1 (by intro z;cases z);refine⟨_,rfl,p,_,dx,_,_,rfl,h1,T.zpc,T.znc,zel _ _,_,rfl,p,_,dx,_,_,rfl,h1,T.zpc,T.zgd,zko _ _,l,_,rfl,.inl (SqL.of h2),rfl,_,rfl,?_⟩;refine ite2 (λc=>?_) (λc=>?_)
 ·exfalso;have c':=of_decide_eq_true c;injection c' with c'
  rw[yca] at c';omega
 ·refine⟨_,rfl,p,_,dx,_,_,rfl,h1,T.zpc,T.znc,zel _ _,_,_,rfl,rfl,dx,_,h1,(by show 2<1000;decide),?_⟩;rw[znnb];refine⟨_,rfl,p,_,dx,_,_,rfl,zua,T.zpc,T.zgd,zko _ _,_,rfl,p,_,dx,_,_,rfl,zua,T.zpc,T.znc,zel _ _,_,_,rfl,rfl,l,_,_,_,rfl,rfl,SqL.of (by rw[zta n];exact h2),(by rw[Int.add_sub_cancel];exact zzsb hu),?_⟩;exact q _ (WAt.go (j:=k+1) h1 h2) But.put
theorem zjp (T:Tx K mg):FnOk P w K mg base CX0 2 T.ztc.f T.ztc.d zph (zyeb T.zxd):=by
 refine T.ztc.ok zso ?_;rintro f c A o s H vs Q E hr ⟨p,ws,rfl,⟨dx,l,h1,h2⟩,q⟩ X;refine⟨_,  (zfa (zyd (zgb zikb (zti (pv 0) rfl) (zya zcb rfl T.zvg ylc (zaa (zti (pv 0) rfl) zba)) (zrb _))
   (zfa zyg)
   zsb)),?_⟩
 refine⟨_,rfl,p,_,dx,_,_,rfl,h1,T.zpc,T.znc,zel _ _,_,rfl,p,_,dx,_,_,rfl,h1,T.zpc,T.zgd,zko _ _,l,_,rfl,.inl (SqL.of h2),_,_,rfl,rfl,_,rfl,?_⟩;refine ite2 (λc=>?_) (λc=>?_)
 ·exfalso;have c':=of_decide_eq_true c;rw[yca] at c';omega
 ·exact q
theorem zpl (T:Tx K mg):FnOk P w K mg base CX0 3 T.zvb.f T.zvb.d zif (zynb T.zxd):=by
 refine T.zvb.ok zwg ?_;rintro f c A o s H vs Q E hr ⟨p,ws,k,u,rfl,W,hu,hn,q⟩ X;refine⟨_,  (zca (zna (i:=1) zwg.nd rfl (.inl rfl) (zei (pv 0) T.zpc T.zkc.M (zfi T) hr (zmj T) .nil zza))
  (zca (zyd (zsh (zng (zja (zyr T) hr rfl T.zve.m T.zve.F.kp (zsx T) .nil zza (zaa (pv 1) zba))))
   (zfa zyg)
   zsb)
  (zfa (zbb (pv 1))))),?_⟩
 obtain⟨dx,l,h1,h2⟩:=id W;refine⟨_,rfl,p,dx,_,rfl,h1,zlo _ _ (by decide +kernel) (by decide +kernel),p,ws,k,u,rfl,W,hu,λH1 W1 B1=>?_⟩;refine⟨_,rfl,u,rfl,(yqb hn.2.1 (by decide)),λH2 S2=>?_⟩;rw[zkp hn];refine⟨_,rfl,iteF ?_⟩;exact⟨_,rfl,q H2 (W1.at S2) (B1.of_same S2)⟩
theorem zuf (T:Tx K mg):FnOk P w K mg base CX0 3 T.zib.f T.zib.d zne (zxeb T.zxd):=by
 refine T.zib.ok ztf ?_;rintro f c A o s H vs Q E hr ⟨p,ws,k,i,rfl,W,hu,hi,q⟩ X;refine⟨_,  (zca (zna (i:=1) ztf.nd rfl (.inl rfl) (zei (pv 0) T.zpc T.zkc.M (zfi T) hr (zmj T) .nil zza))
  (zca (zyd (zsh (zng (zja (zdw T) hr rfl T.zie.m T.zie.F.kp (zyz T) .nil zza (zaa (pv 1) zba))))
   (zfa zyg)
   zsb)
  (zfa (zbb (zoa zau rfl T.zleb boot_int (zaa (pv 1) zba)))))),?_⟩
 obtain⟨dx,l,h1,h2⟩:=id W;refine⟨_,rfl,p,dx,_,rfl,h1,zlo _ _ (by decide +kernel) (by decide +kernel),p,ws,k,_,rfl,W,hu,λH1 W1 B1=>?_⟩;have hl:=zom i hi;refine⟨_,rfl,_,rfl,(by omega),λH2 S2=>?_⟩;rw[zgw i hi];refine⟨_,rfl,iteF ?_⟩;exact⟨_,rfl,_,_,rfl,zipb i hi,(by omega),q H2 (W1.at S2) (B1.of_same S2)⟩
def cfs (n:Str)(c f:Nat)(m t:Addr):List (Str×V):=[("name",.str n),("cost",.int c),("force",.int f),("marks",.ref m),("rules",.ref t)]
def zcob:Sp:=λvs H Q _=>∃ms:List Str,vs=[.str (zah ms)]∧Marks ms∧∀m H',Same H H'->H' m=some (.tup (ms.map V.str))->Q (.ref m) H'
def zpcb (B:Addr):Sp:=λvs H Q _=>Ex7 λx dx m t (n:Str) (c f:Nat)=>vs=[.ref x,.str n,.int c,.int f,.ref m,.ref t]∧H x=some (.ins B dx [])∧Q .non (upd H x (.ins B dx (cfs n c f m t)))
theorem zelb (n:Str)(c f:V)(m t:Addr):putF "rules" (.ref t) (putF "marks" (.ref m) (putF "force" f (putF "cost" c (putF "name" (.str n) []))))=([("name",.str n),("cost",c),("force",f),("marks",.ref m),("rules",.ref t)]:List (Str×V)):=by
 repeat (first|rw[zuob]|rw[zys (by decide +kernel)])
theorem zrs {K:yea}{H:Hp}:∀xs:List Str,DVs K H (xs.map V.str) (xs.map .str)
 | []=>.nil
 | x::r=>.cons (.str x) (zrs r)
theorem zacb:∀xs:List Str,yin (xs.map .str) (xs.map .str)=true
 | []=>by simp[yin]
 | x::r=>by simp[yin,yyh,zacb r]
theorem zfpb (T:Tx K mg):FnOk P w K mg base CX0 2 T.zec.f T.zec.d zug (zpcb T.zub):=by
 refine T.zec.ok zqn ?_;rintro f c A o s H vs Q E hr ⟨x,dx,m,t,n,c,f,rfl,hx,q⟩ X;refine⟨_,  (zca (zbp (pv 0) (pv 1) rfl)
  (zca (zbp (pv 0) (pv 2) rfl)
  (zca (zbp (pv 0) (pv 3) rfl)
  (zca (zbp (pv 0) (pv 4) rfl)
  (zfa (zbp (pv 0) (pv 5) rfl)))))),?_⟩
 refine⟨_,rfl,_,rfl,x,_,dx,_,rfl,hx,T.zye,T.zgi,(by show 0<1000;decide),?_⟩;refine⟨_,rfl,_,rfl,x,_,dx,_,rfl,zua,T.zye,T.zii,(by show 1<1000;decide),?_⟩;refine⟨_,rfl,_,rfl,x,_,dx,_,rfl,zua,T.zye,T.zse,(by show 2<1000;decide),?_⟩;refine⟨_,rfl,_,rfl,x,_,dx,_,rfl,zua,T.zye,T.zyc,(by show 3<1000;decide),?_⟩;refine⟨_,rfl,_,rfl,x,_,dx,_,rfl,zua,T.zye,T.zre,(by show 4<1000;decide),?_⟩;show Q .non _
 rw[zno,zno,zno,zno,zelb];exact q
theorem zlt {n:Str}(h:zqc n):ycd (.str n)=true:=by
 rw[ycd];unfold PyData.strOk;rw[← Array.all_toList,ykf];intro c hc;have:=(h.2.2 c hc).2;simp;omega
theorem zot:∀xs:List Str,(∀x∈xs,ycd (.str x)=true)->yac (xs.map .str)=true
 | [],_=>by simp[yac]
 | x::r,h=>by
  have h1:=h x ypa;have h2:=zot r λy hy=>h y (yoa _ hy);rw[ygc,yac,h1,h2];rfl
theorem zvt:∀xs:List Str,ycc (xs.map .str)=0
 | []=>by simp[ycc]
 | x::r=>by simp[ycc,yje,zvt r]
theorem zcn {ms:List Str}(h:∀m∈ms,zqc m):ysc (.list (ms.map .str))=true:=by
 unfold ysc;rw[ycd,zot ms (λx hx=>zlt (h x hx)),yje,zvt];rfl
theorem zct (T:Tx K mg):FnOk P w K mg base CX0 3 T.zld.f T.zld.d zqj zcob:=by
 refine T.zld.ok zjl ?_;rintro f c A o s H vs Q E hr ⟨ms,rfl,hm,q⟩ X;refine⟨_,  (zca (zyd (zgb zth (pv 0) ztb (zrb _))
   (zfa (zbb (znb zba)))
   zsb)
  (zca (zna (i:=1) zjl.nd rfl (.inl rfl) (zff yfg yej yfj zmt (pv 0) (zaa ztb zba)))
  (zca (zyd (zsh (zng (zya (zfo rfl) rfl T.zdy boot_all (zaa (zuc (own:=["mark"]) (cap:=[]) rfl (zsa.chk rfl rfl) .nil (zic (pv 1)) (λ_ _ _ _=>(zda (i:=0) (show yjb (["mark"]:List Str) by decide +kernel) rfl (.inl rfl))) (λ_ _ _ _=>zyb) (λ_ _ _ _=>by exact (zja (zyr T) hr rfl T.zve.m T.zve.F.kp (zsx T) .nil zza (zaa (pv 0) zba)))) zba))))
   (zfa zyg)
   zsb)
  (zca (zyd (zgb (zpbb hr.units) (pv 1) (zya (zkj rfl) rfl T.zae yvh (zaa (zoa (zyt rfl) rfl T.zkeb boot_set (zaa (pv 1) zba)) zba)) (zrb _))
   (zfa zyg)
   zsb)
  (zfa (zbb (zoa zma rfl T.zkb yvc (zaa (pv 1) zba)))))))),?_⟩
 refine⟨_,rfl,rfl,_,rfl,?_⟩
 by_cases hne:ms=[]
 ·subst hne;exact iteT ⟨sz0,λa ha=>q a _ (zxf ha _) zua⟩
 refine ite2 (λc=>?_) (λ_=>?_)
 ·exfalso;have c':=of_decide_eq_true c;injection c' with c'
  exact zpgb hm hne c'
 have ml:=zxj hm;have es:ylg (zah ms) "," = ms:=zgz hm hne;refine⟨_,rfl,rfl,_,_,rfl,rfl,(by decide +kernel),(yqb (yik ml.2 2) (by decide)),λl hl=>?_⟩;rw[es];have S1:=zxf hl (.lst (ms.map V.str));have e1:upd H l (.lst (ms.map V.str)) l=some (.lst (ms.map V.str)):=zua;generalize upd H l (.lst (ms.map V.str))=H1 at *;refine⟨_,rfl,l,rfl,⟨_,SqL.of e1⟩,?_⟩;refine zoc (xs:=ms.map V.str) (λi ys H'=>Same H1 H'∧i≤ms.length∧ys=((ms.take i).map isName).map V.bl) (λi ys H' z=>SqL.of (z.1 _ _ e1)) ⟨Same.refl _,ycb _,rfl⟩ ?_ ?_ ?_
 ·rintro i ys H' ⟨_,_,rfl⟩;rw[yca,yca,ywa];have:=hm.le;exact small (by omega)
 ·rintro i x ys H' hx ⟨S3,hi,rfl⟩;obtain⟨m,hmm,rfl⟩:∃m,ms[i]?=some m∧V.str m=x:=by
   rw[yla] at hx;cases z:ms[i]? with
   | none=>rw[z] at hx;cases hx
   | some m=>rw[z] at hx;cases hx;exact⟨m,rfl,rfl⟩
  have hmem:=yta hmm;refine⟨rfl,_,rfl,m,rfl,(yqb (hm.ok m hmem).2.1 (by decide)),λH4 S4=>⟨S3.trans S4,?_,?_⟩⟩
  ·exact (yga.mp hmm).1
  ·rw[yqa,hmm,yva,yva];rfl
 ·rintro ys H2 ⟨S2,_,rfl⟩ b hb;rw[yca,yrb];have S3:=zxf hb (.lst ((ms.map isName).map V.bl));refine⟨b,_,rfl,SqL.of zua,_,rfl,?_⟩;have al:(ms.map isName).all id=true:=by
   rw[ykf];intro x hx;obtain⟨m,hmm,rfl⟩:=ymc.mp hx;exact zkp (hm.ok m hmm)
  rw[al];refine iteF ?_;have e3:=S3 _ _ (S2 _ _ e1);generalize upd H2 b (.lst ((ms.map isName).map V.bl))=H3 at *;have ml2:=hm.le;refine⟨_,rfl,_,rfl,l,ms,rfl,SqL.of e3,(by omega),λp hp=>?_⟩;have S4:∀o,Same H3 (upd H3 p o):=λo=>zxf hp o;refine⟨p,_,rfl,zua,(by rw[zbcb hm.nd];omega),λp2 ys hp2 py so=>?_⟩;have ey:=hm.same py so;subst ey;have S5:=zxf hp2 (.lst (ys.map V.str));refine⟨.list (ys.map .str),.list (ys.map .str),.lst (SqL.of (S5 _ _ (S4 _ _ _ e3))) (zrs _),.lst (SqL.of zua) (zrs _),zcn hm.ok,zcn hm.ok,_,rfl,?_⟩;have ev:(!PyData.eqv (.list (ys.map .str)) (.list (ys.map .str)))=false:=by
   rw[yyh,zacb];rfl
  rw[ev];refine iteF ?_;refine⟨_,rfl,l,_,rfl,.inl ⟨SqL.of (S5 _ _ (S4 _ _ _ e3)),λt ht=>?_⟩⟩;exact q t _ (λc o e=>zxf ht _ _ _ (S5 _ _ (S4 _ _ _ (S3 _ _ (S2 _ _ (S1 _ _ e)))))) zua
theorem zed {H H':Hp}{p:Addr}(S:Same H H')(h:H p=none)(o:HO):Same H (upd H' p o):=λb u q=>by rw[zta (zga q h)];exact S b u q
theorem none_of {H H':Hp}{p:Addr}(S:Same H H')(h:H' p=none):H p=none:=by
 cases e:H p with
 | none=>rfl
 | some o =>
  have z:=S _ _ e;rw[z] at h;cases h
@[elab_as_elim] theorem laid {H:Hp} {l:Addr} {o:HO} {motive:Hp->Prop} (hl:H l=none) (h:∀H1,Same H H1->H1 l=some o->motive H1):motive (upd H l o):=h _ (zxf hl o) zua
theorem SqF.same {K:yea}{H H':Hp}{a:Addr}{xs:List V}(h:SqF K H a xs)(k:Same H H'):SqF K H' a xs:=h.keep λ_ _ z=>k _ _ z
theorem zatb {ns:List Int}{i:Int}(h0:0≤i)(h:i<(ns.length:Int)):∃z,atI (ns.map V.int) i=some (.int z)∧z∈ns:=by
 obtain⟨v,hv,hm⟩:=ziib (xs:=ns.map V.int) h0 (by rw[yca];exact h);obtain⟨z,hz,rfl⟩:=ymc.mp hm;exact⟨z,hv,hz⟩
theorem zgib {ss:List Str}{r:Int}(h0:0≤r)(h1:r<(ss.length:Int)):∃u,atI (ss.map V.str) r=some (.str u)∧u∈ss:=by
 obtain⟨v,hv,hm⟩:=ziib (xs:=ss.map V.str) h0 (by rw[yca];exact h1);obtain⟨u,hu,rfl⟩:=ymc.mp hm;exact⟨u,hv,hu⟩
theorem zvf (x:Int){m:Int}(h:0<m):0≤x % m∧x % m<m:=⟨Int.emod_nonneg x (by omega),Int.emod_lt_of_pos x h⟩
inductive All2 {α β:Type}(R:α->β->Prop):List α->List β->Prop where
 | nil:All2 R [] []
 | cons {a:α} {b:β} {as:List α} {bs:List β}:R a b->All2 R as bs->All2 R (a::as) (b::bs)
theorem All2.imp {α β:Type}{R S:α->β->Prop}(f:∀{a b},R a b->S a b){as:List α}{bs:List β}(z:All2 R as bs):All2 S as bs:=by
 induction z with
 | nil=>exact .nil
 | cons h _ ih=>exact .cons (f h) ih
theorem All2.snoc {α β:Type}{R:α->β->Prop}{a:α}{b:β}(h:R a b){as:List α}{bs:List β}(z:All2 R as bs):All2 R (as++[a]) (bs++[b]):=by
 induction z with
 | nil=>exact .cons h .nil
 | cons g _ ih=>exact .cons g ih
theorem All2.len {α β:Type}{R:α->β->Prop}{as:List α}{bs:List β}(z:All2 R as bs):as.length=bs.length:=by
 induction z with
 | nil=>rfl
 | cons _ _ ih=>rw[yub,yub,ih]
theorem All2.get {α β:Type}{R:α->β->Prop}:∀{as:List α} {bs:List β} {i:Nat} {a:α},All2 R as bs->as[i]?=some a->∃b,bs[i]?=some b∧R a b
 | _,_,_,_,.nil,e=>by simp at e
 | _,_,0,_,.cons h t,e=>by
  rw[yof] at e;cases e;exact⟨_,rfl,h⟩
 | _,_,i+1,_,.cons h t,e=>by
  rw[yqc] at e;obtain⟨u,h1,h2⟩:=t.get e;exact⟨u,by rw[yqc];exact h1,h2⟩
theorem All2.mem {α β:Type}{R:α->β->Prop}{as:List α}{bs:List β}(h:All2 R as bs){a:α}(ha:a∈as):∃b∈bs,R a b:=by
 induction h with
 | nil=>cases ha
 | cons r t ih =>
  rcases yka.mp ha with rfl|z
  ·exact⟨_,ypa,r⟩
  ·obtain⟨b,hb,rb⟩:=ih z;exact⟨b,yoa _ hb,rb⟩
theorem All2.perm {α β:Type}{R:α->β->Prop}{as cs:List α}(p:cs.Perm as):∀{bs:List β},All2 R as bs->∃ds,All2 R cs ds∧ds.Perm bs:=by
 induction p with
 | nil=>intro bs h;exact⟨bs,h,.refl _⟩
 | cons x p ih =>
  intro bs h;cases h with
  | cons r t =>
   obtain⟨ds,h1,h2⟩:=ih t;exact⟨_::ds,.cons r h1,h2.cons _⟩
 | swap x y l =>
  intro bs h;cases h with
  | cons r t =>
   cases t with
   | cons r' t'=>exact⟨_,.cons r' (.cons r t'),.swap _ _ _⟩
 | trans p1 p2 ih1 ih2 =>
  intro bs h;obtain⟨ds,h1,h2⟩:=ih2 h;obtain⟨es,h3,h4⟩:=ih1 h1;exact⟨es,h3,h4.trans h2⟩
def Kp (H H':Hp):Prop:=∀a o,(∀xs,o≠HO.lst xs)->H a=some o->H' a=some o
theorem Kp.same {H H':Hp}(s:Same H H'):Kp H H':=λ_ _ _ h=>s _ _ h
theorem Kp.trans {H H1 H2:Hp}(a:Kp H H1)(b:Kp H1 H2):Kp H H2:=λc o n h=>b c o n (a c o n h)
theorem Kp.put {H:Hp}{l:Addr}{us vs:List V}(e:H l=some (.lst us)):Kp H (upd H l (.lst vs)):=λa o n h=>by
 rw[zta λz=>?_]
 ·exact h
 ·rw[z,e] at h;injection h with h
  exact n _ h.symm
theorem Kp.t {H H':Hp}(s:Kp H H'){a:Addr}{xs:List V}(h:H a=some (.tup xs)):H' a=some (.tup xs):=s _ _ (λ_ z=>by cases z) h
theorem zyl (xs:List V)(n:Nat):cutV xs none (some (n:Int))=xs.take n:=by
 unfold cutV;rw[HT.zjbb,HT.zlm,List.drop_zero,yar]
 by_cases h:n≤xs.length
 ·rw[Nat.min_eq_left h]
 ·rw[Nat.min_eq_right (by omega),yfb (yha _),yfb (by omega)]
theorem zcx (xs:List V)(n:Nat):cutV xs (some (n:Int)) none=xs.drop n:=by
 unfold cutV;rw[HT.zjbb,HT.zlm]
 by_cases h:n≤xs.length
 ·rw[Nat.min_eq_left h,yfb (by rw[ylh];exact yha _)]
 ·rw[Nat.min_eq_right (by omega),yyo,List.take_zero,List.drop_eq_nil_of_le (by omega)]
structure Tab where
 pts:List Int
 scs:List Int
 gone:List Bool
 decks:List (List Int)
 hands:List (List Int)
 lying:List Int
 heap:List Int
 marks:List (List Str)
 wnds:List Int
def T1 (H:Hp)(v:V)(xs:List V):Prop:=∃b,v = .ref b∧H b=some (.tup xs)
def T2 (H:Hp)(v:V)(xss:List (List V)):Prop:=Ex2 λb us=>v = .ref b∧H b=some (.tup us)∧All2 (T1 H) us xss
theorem T1.kp {H H':Hp}(s:Kp H H'){v:V}{xs:List V}(h:T1 H v xs):T1 H' v xs:=by
 obtain⟨b,e,h⟩:=h;exact⟨b,e,s.t h⟩
theorem T2.kp {H H':Hp}(s:Kp H H'){v:V}{xss:List (List V)}(h:T2 H v xss):T2 H' v xss:=by
 obtain⟨b,us,e,h,al⟩:=h;exact⟨b,us,e,s.t h,al.imp λz=>z.kp s⟩
def iM (xs:List Int):List V:=xs.map V.int
def sM (xs:List Str):List V:=xs.map V.str
structure TabP (H:Hp)(t:Tab)(v0 v1 v2 v3 v4 v5 v6 v7 v8:V):Prop where
 p0:T1 H v0 (iM t.pts)
 p1:T1 H v1 (iM t.scs)
 p2:T1 H v2 (t.gone.map V.bl)
 p3:T2 H v3 (t.decks.map iM)
 p4:T2 H v4 (t.hands.map iM)
 p5:T1 H v5 (iM t.lying)
 p6:T1 H v6 (iM t.heap)
 p7:T2 H v7 (t.marks.map sM)
 p8:T1 H v8 (iM t.wnds)
theorem TabP.kp {H H':Hp}(s:Kp H H'){t:Tab}{v0 v1 v2 v3 v4 v5 v6 v7 v8:V}(h:TabP H t v0 v1 v2 v3 v4 v5 v6 v7 v8):TabP H' t v0 v1 v2 v3 v4 v5 v6 v7 v8:=⟨h.p0.kp s,h.p1.kp s,h.p2.kp s,h.p3.kp s,h.p4.kp s,h.p5.kp s,h.p6.kp s,h.p7.kp s,h.p8.kp s⟩
def TabT (H:Hp)(v:V)(t:Tab):Prop:=Ex10 λa v0 v1 v2 v3 v4 v5 v6 v7 v8=>v = .ref a∧H a=some (.tup [v0,v1,v2,v3,v4,v5,v6,v7,v8])∧TabP H t v0 v1 v2 v3 v4 v5 v6 v7 v8
theorem TabT.kp {H H':Hp}(s:Kp H H'){v:V}{t:Tab}(h:TabT H v t):TabT H' v t:=by
 obtain⟨a,v0,v1,v2,v3,v4,v5,v6,v7,v8,e,h,p⟩:=h;exact⟨a,v0,v1,v2,v3,v4,v5,v6,v7,v8,e,s.t h,p.kp s⟩
theorem All2.set {α β:Type}{R:α->β->Prop}{as:List α}{bs:List β}(z:All2 R as bs){a:α}{b:β}(h:R a b):∀n:Nat,All2 R (as.set n a) (bs.set n b):=by
 induction z with
 | nil=>intro n;rw[List.set_nil,List.set_nil];exact .nil
 | cons g t ih =>
  intro n;cases n with
  | zero=>exact .cons h t
  | succ n=>exact .cons g (ih n)
theorem zupb {α:Type}{xs:List α}{i:Nat}(h:i<xs.length)(x:α):xs.take i++[x]++xs.drop (i+1)=xs.set i x:=by
 rw[List.set_eq_take_append_cons_drop,if_pos h,yec];rfl
theorem zyn {G:Prop}{Kx pre:Addr->Hp->Prop}(g:(∀b Hs,pre b Hs->Kx b Hs)->G)(k:∀b Hs,pre b Hs->Kx b Hs):G:=g k
def zgr:Sp:=λvs H Q _=>Ex4 λa xs (i:Nat) x=>vs=[.ref a,.int (i:Int),x]∧H a=some (.tup xs)∧i<xs.length∧xs.length≤1000∧∀b H',Same H H'->H' b=some (.tup (xs.set i x))->Q (.ref b) H'
def zweb:Sp:=λvs H Q _=>Ex7 λa q ps xs (k i:Nat) x=>vs=[.ref a,.int (k:Int),.int (i:Int),x]∧H a=some (.tup ps)∧ps.length≤1000∧ps[k]?=some (.ref q)∧H q=some (.tup xs)∧i<xs.length∧xs.length≤1000∧∀b q' H',Same H H'->H' q'=some (.tup (xs.set i x))->H' b=some (.tup (ps.set k (.ref q')))->Q (.ref b) H'
theorem zgf (T:Tx K mg):FnOk P w K mg base CX0 2 T.zmb.f T.zmb.d zwm zgr:=by
 refine T.zmb.ok zly ?_;rintro f c A o s H vs Q E hr ⟨a,xs,i,x,rfl,ea,hi,hl,q⟩ X;refine⟨_,  (zfa (zbb (zfb zzi (zfb zbt (zdi zzu (pv 0) zkk (zjk (pv 1))) (znb (zaa (pv 2) zba))) (zdi zzu (pv 0) (zjk (zfb zxe (pv 1) zea)) zkk)))),?_⟩;refine⟨_,rfl,_,rfl,_,rfl,a,_,rfl,SqT.of ea,?_,λb1 hb1=>?_⟩
 ·rintro⟨_,z⟩;rw[HT.zlm] at z;omega
 rw[zyl];refine laid hb1 λH1 S1 e1=>?_;refine⟨_,rfl,sz1,λb2 hb2=>?_⟩;refine laid hb2 λH2 S2 e2=>?_;refine' zyn (pre:=λb H3=>Same H H3∧H3 b=some (.tup (xs.take i++[x]))) (λkk=>?gg) ?kn
 case gg =>
  refine⟨b1,b2,_,_,rfl,rfl,SqT.of (S2 _ _ e1),SqT.of e2,by simp,(by rw[ywa];exact small (by show min i xs.length+1≤1000;omega)),λz=>?_,λz b3 hb3=>?_⟩
  ·have e2':H2 b2=some (.tup (xs.take i++[x])):=by rw[z];exact e2
   obtain⟨c,hc⟩:∃c,c=b2:=⟨_,rfl⟩;obtain⟨Hz,hz⟩:∃h,h=H2:=⟨_,rfl⟩;rw[← hc,← hz];exact kk c Hz (by rw[hc,hz];exact⟨S1.trans S2,e2'⟩)
  ·refine laid hb3 λH3 S3 e3=>?_;exact kk b3 H3 ⟨S1.trans (S2.trans S3),e3⟩
 case kn =>
 rintro b3 H3 ⟨S3,e3⟩;refine⟨_,rfl,_,rfl,_,_,rfl,rfl,_,rfl,a,_,rfl,SqT.of (S3 _ _ ea),?_,λb4 hb4=>?_⟩
 ·rintro⟨z,_⟩;rw[show (i:Int)+1=((i+1:Nat):Int) by omega,HT.zlm] at z;omega
 dsimp only;rw[show (i:Int)+1=((i+1:Nat):Int) by omega,zcx];refine laid hb4 λH4 S4 e4=>?_;have cp:=zupb hi x;refine⟨b3,b4,_,_,rfl,rfl,SqT.of (S4 _ _ e3),SqT.of e4,by simp,(by rw[yja,ywa,ylh];exact small (by show min i xs.length+1+(xs.length-(i+1))≤1000;omega)),λz=>?_,λz b5 hb5=>?_⟩
 ·refine q b3 H4 (S3.trans S4) ?_;rw[z,ync] at cp;rw[← cp];exact S4 _ _ e3
 ·refine laid hb5 λH5 S5 e5=>?_;rw[cp] at e5;exact q b5 H5 (S3.trans (S4.trans S5)) e5
theorem zmc (T:Tx K mg):FnOk P w K mg base CX0 3 T.zva.f T.zva.d zpj zweb:=by
 refine T.zva.ok zts ?_;rintro f c A o s H vs Q E hr ⟨a,qa,ps,xs,k,i,x,rfl,ea,pl,ek,eq,hi,hl,q⟩ X;refine⟨_,  (zfa (zbb (zja (zgf T) hr rfl T.zmb.m T.zmb.F.kp (zbg T) .nil zza (zaa (pv 0) (zaa (pv 1) (zaa (zja (zgf T) hr rfl T.zmb.m T.zmb.F.kp (zbg T) .nil zza (zaa (zra zwa (pv 0) (pv 1) (λ_ _=>rfl)) (zaa (pv 2) (zaa (pv 3) zba)))) zba)))))),?_⟩;refine⟨_,rfl,_,rfl,_,rfl,_,rfl,a,_,_,_,rfl,rfl,SqT.of ea,zka ek,_,rfl,_,rfl,qa,xs,i,x,rfl,eq,hi,hl,λq' H1 S1 e1=>?_⟩;refine⟨a,ps,k,.ref q',rfl,S1 _ _ ea,(yga.mp ek).1,pl,λb H2 S2 e2=>?_⟩;exact q b q' H2 (S1.trans S2) (S2 _ _ e1) e2
def znjb:Sp:=λvs H Q _=>Ex2 λm x=>vs=[.ref m,x]∧((Ex2 λ(ms:List Str) (n:Str)=>x = .str n∧H m=some (.tup (sM ms))∧ms.length≤60∧∀p (zs:List Str) H',Same H H'->H' p=some (.tup (sM zs))->zs.Perm (SSet.dd (ms++[n]))->yvl zs=true->Q (.ref p) H') ∨
 Ex2 λ(ns:List Int) (n:Int)=>x = .int n∧H m=some (.tup (iM ns))∧ns.length≤60∧∀p (zs:List Int) H',Same H H'->H' p=some (.tup (iM zs))->zs.Perm (ISet.dd (ns++[n]))->zs.Pairwise (· ≤ ·)->Q (.ref p) H')
def zvqb:Sp:=λvs H Q _=>Ex3 λm xs x=>vs=[.ref m,x]∧H m=some (.tup xs)∧(∀v∈xs,scal v x=true)∧xs.length≤60∧∀p H',Same H H'->H' p=some (.tup (xs.filter λv=>!decide (v=x)))->Q (.ref p) H'
theorem zusb (xs:List Str):(SSet.dd xs).length≤xs.length:=by
 have z:=SSet.zrz xs.length xs;rw[yfb (yha _)] at z;exact z
theorem zvsb (xs:List Int):(ISet.dd xs).length≤xs.length:=by
 have z:=ISet.zrz xs.length xs;rw[yfb (yha _)] at z;exact z
theorem zcw (T:Tx K mg):FnOk P w K mg base CX0 2 T.zwf.f T.zwf.d zgu znjb:=by
 refine T.zwf.ok zlfb ?_;rintro f c A o s H vs Q E hr ⟨m,x,rfl,h⟩ X;refine⟨_,  (zfa (zbb (zoa zma rfl T.zkb yvc (zaa (zya (zaq rfl) rfl T.zae yvh (zaa (zoa (zix rfl) rfl T.zkeb boot_set (zaa (zfb zbt (pv 0) (znb (zaa (pv 1) zba))) zba)) zba)) zba)))),?_⟩;refine⟨_,rfl,_,rfl,sz1,λt1 ht1=>?_⟩;refine laid ht1 λH1 S1 e1=>?_
 rcases h with⟨ms,n,rfl,em,le,q⟩|⟨ns,n,rfl,em,le,q⟩
 ·refine⟨m,t1,_,_,rfl,rfl,SqT.of (S1 _ _ em),SqT.of e1,by simp,(by unfold sM;rw[yca];exact small (by show ms.length+1≤1000;omega)),λz=>?g1,λz t2 ht2=>?g2⟩
  case' g1 =>
   have z':ms=[]:=ykh.mp z;have e2:H1 t1=some (.tup ((ms++[n]).map V.str)):=(by rw[e1,z'];rfl);have S2:=S1
  case' g2 =>
   refine laid ht2 λH2 S2' e2'=>?_;have e2:H2 t2=some (.tup ((ms++[n]).map V.str)):=(by rw[e2',yva];rfl);have S2:=S1.trans S2'
  all_goals
   have gl:=zusb (ms++[n]);rw[yja,ytd] at gl;refine .inl ⟨_,ms++[n],rfl,SqT.of e2,(by rw[yja];show ms.length+1≤1000;omega),λl hl=>?_⟩;refine laid hl λH3 S3 e3=>?_;refine .inl ⟨l,_,rfl,e3,(by omega),λp ys hp py sy=>?_⟩;refine laid hp λH4 S4 e4=>?_;refine⟨p,_,rfl,.inl ⟨SqL.of e4,λtm htm=>?_⟩⟩;refine laid htm λH5 S5 e5=>?_;exact q tm ys H5 (S2.trans (S3.trans (S4.trans S5))) e5 py sy
 ·refine⟨m,t1,_,_,rfl,rfl,SqT.of (S1 _ _ em),SqT.of e1,by simp,(by unfold iM;rw[yca];exact small (by show ns.length+1≤1000;omega)),λz=>?g3,λz t2 ht2=>?g4⟩
  case' g3 =>
   have z':ns=[]:=ykh.mp z;have e2:H1 t1=some (.tup ((ns++[n]).map V.int)):=(by rw[e1,z'];rfl);have S2:=S1
  case' g4 =>
   refine laid ht2 λH2 S2' e2'=>?_;have e2:H2 t2=some (.tup ((ns++[n]).map V.int)):=(by rw[e2',yva];rfl);have S2:=S1.trans S2'
  all_goals
   have gl:=zvsb (ns++[n]);rw[yja,ytd] at gl;refine .inr ⟨_,ns++[n],rfl,SqT.of e2,(by rw[yja];show ns.length+1≤1000;omega),λl hl=>?_⟩;refine laid hl λH3 S3 e3=>?_;refine .inr ⟨l,_,rfl,e3,(by omega),λp ys hp py sy=>?_⟩;refine laid hp λH4 S4 e4=>?_;refine⟨p,_,rfl,.inl ⟨SqL.of e4,λtm htm=>?_⟩⟩;refine laid htm λH5 S5 e5=>?_;exact q tm ys H5 (S2.trans (S3.trans (S4.trans S5))) e5 py sy
theorem zwr (T:Tx K mg):FnOk P w K mg base CX0 2 T.zte.f T.zte.d zjq zvqb:=by
 refine T.zte.ok zscb ?_;rintro f c A o s H vs Q E hr ⟨m,xs,x,rfl,em,sc,le,q⟩ X;refine⟨_,  (zfa (zbb (zoa zma rfl T.zkb yvc (zaa (zuc (own:=["value"]) (cap:=["one"]) rfl (zsa.chk rfl rfl) (.cons (j:=1) rfl (.inl rfl) (.inl rfl) .nil) (zrr (pv 0)) (λ_ _ _ _=>(zda (i:=0) (show yjb (["value","one"]:List Str) by decide +kernel) rfl (.inl rfl))) (λ_ _ _ _=>zmg (zgb zmrb (pv 0) (pv 1) (zrb _))) (λ_ _ _ _=>by exact (pv 0))) zba)))),?_⟩;refine⟨_,rfl,m,rfl,⟨_,SqT.of em⟩,?_⟩;refine zak (xs:=xs) (λj ys H'=>H'=H∧ys=(xs.take j).filter λv=>!decide (v=x)) (λj ys H' z=>by rw[z.1];exact SqT.of em) ⟨rfl,rfl⟩ ?_ ?_ ?_
 ·rintro j ys H' ⟨_,rfl⟩;have h1:=ysb (λv=>!decide (v=x)) (xs.take j);rw[ywa] at h1;exact small (by omega)
 ·rintro j v ys H' hv ⟨rfl,rfl⟩;refine⟨rfl,_,rfl,_,rfl,sc v (yta hv),_,rfl,?_⟩;rw[yqa,hv,ywb,yve];refine ite2 (λc=>?_) (λc=>?_)
  ·exact⟨_,rfl,rfl,by rw[yhd (p:=λv=>!decide (v=x)) c];rfl⟩
  ·exact⟨rfl,by rw[yid (p:=λv=>!decide (v=x)) c];simp⟩
 ·rintro ys H' ⟨rfl,rfl⟩ l1 hl1;rw[yfb (yha _)];refine laid hl1 λHa Sa ea=>?_;refine⟨l1,_,rfl,.inl ⟨SqL.of ea,λtm htm=>?_⟩⟩;refine laid htm λHb Sb eb=>?_;exact q tm Hb (Sa.trans Sb) eb
def CmT (B:Addr)(H:Hp)(v:V)(ms:List Str):Prop:=Ex7 λa dx m tt (nm:Str) (c f:Nat)=>v = .ref a∧H a=some (.ins B dx (cfs nm c f m tt))∧H m=some (.tup (sM ms))
theorem CmT.kp {B:Addr}{H H':Hp}(s:Kp H H'){v:V}{ms:List Str}(h:CmT B H v ms):CmT B H' v ms:=by
 obtain⟨a,dx,m,tt,nm,c,f,e,h1,h2⟩:=h;exact⟨a,dx,m,tt,nm,c,f,e,s _ _ (λ_ z=>by cases z) h1,s.t h2⟩
theorem zzl (n:Str)(c f:Nat)(m t:Addr):(cfs n c f m t).lookup ("marks":Str)=some (.ref m):=(zkd (by decide +kernel)).trans ((zkd (by decide +kernel)).trans ((zkd (by decide +kernel)).trans zrl))
structure TOk (np nc:Nat)(t:Tab):Prop where
 pts:t.pts.length=np
 scs:t.scs.length=np
 gone:t.gone.length=np
 decks:t.decks.length=np
 hands:t.hands.length=np
 marks:t.marks.length=nc
 wnds:t.wnds.length=nc
 ly:t.lying.length≤16
 hp:t.heap.length≤16
 ms:∀m∈t.marks,m.length≤40
 ds:∀d∈t.decks,d.length≤16
 hs:∀d∈t.hands,d.length≤16
 np4:np≤4
 nc16:nc≤16
def hpM (t:Tab)(kd:Str)(th:Int):Bool:=if th<0 then !(t.gone.getD (-1-th).toNat false) else (decide (kd = "come")||decide (th∈t.lying))
inductive PlR (t:Tab)(p:Nat)(z:Int):Str->Tab->Prop where
 | lose {x:Int}:t.pts[p]?=some x->PlR t p z "lose" { t with pts:=t.pts.set p (x-z) }
 | score {x:Int}:t.scs[p]?=some x->PlR t p z "score" { t with scs:=t.scs.set p (x+z) }
 | draw {d h hand:List Int}:t.decks[p]?=some d->t.hands[p]?=some h->hand.Perm (h++d.take z.toNat)->hand.Pairwise (· ≤ ·)->PlR t p z "draw" { t with hands:=t.hands.set p hand,decks:=t.decks.set p (d.drop z.toNat) }
inductive CrR (cms:List (List Str))(t:Tab)(n:Nat):V->Str->Tab->Prop where
 | come {av:V} {ms:List Str}:cms[n]?=some ms->CrR cms t n av "come" { t with marks:=t.marks.set n ms,wnds:=t.wnds.set n 0,lying:=t.lying++[(n:Int)] }
 | leave {av:V} {ms:List Str} {heap:List Int}:cms[n]?=some ms->heap.Perm (ISet.dd (t.heap++[(n:Int)]))->heap.Pairwise (· ≤ ·)->CrR cms t n av "leave" { t with marks:=t.marks.set n ms,wnds:=t.wnds.set n 0,lying:=t.lying.filter λx=>!decide (x=(n:Int)),heap:=heap }
 | hurt {x z:Int}:t.wnds[n]?=some x->CrR cms t n (.int z) "hurt" { t with wnds:=t.wnds.set n (x+z) }
 | gain {ms zs:List Str} {u:Str}:t.marks[n]?=some ms->zs.Perm (SSet.dd (ms++[u]))->yvl zs=true->CrR cms t n (.str u) "gain" { t with marks:=t.marks.set n zs }
 | lack {ms:List Str} {u:Str}:t.marks[n]?=some ms->CrR cms t n (.str u) "lack" { t with marks:=t.marks.set n (ms.filter λx=>!decide (x=u)) }
def zcfb:Sp:=λvs H Q _=>Ex8 λtv ha (t:Tab) (np nc:Nat) (kd:Str) (th:Int) av=>vs=[tv,.ref ha]∧TabT H tv t∧TOk np nc t∧H ha=some (.tup [.str kd,.int th,av]) ∧ -(np:Int)≤th∧∀H',Same H H'->Q (.bl (hpM t kd th)) H'
theorem inI (n:Int)(ns:List Int):inV (.int n) (iM ns)=decide (n∈ns):=by
 unfold inV iM
 induction ns with
 | nil=>rfl
 | cons x r ih =>
  rw[ygc,yyp,ih]
  by_cases e:x=n
  ·subst e;rw[decide_eq_true ypa];have:eqV (V.int x) (V.int x)=true:=by simp[eqV]
   rw[this,yfr]
  ·have h1:eqV (V.int x) (V.int n)=false:=by simp[eqV,e]
   rw[h1,ydq];refine decide_eq_decide.mpr ⟨λz=>yoa _ z,λz=>?_⟩
   rcases yka.mp z with y|y
   ·exact absurd y.symm e
   ·exact y
theorem zjj (ns:List Int):(iM ns).all zst=true:=by
 rw[ykf];intro v hv;obtain⟨x,_,rfl⟩:=ymc.mp hv;rfl
theorem zzr (T:Tx K mg):FnOk P w K mg base CX0 2 T.zwe.f T.zwe.d zrq zcfb:=by
 refine T.zwe.ok zvj ?_;rintro f c A o s H vs Q E hr ⟨tv,ha,t,np,nc,kd,th,av,rfl,TT,TO,eh,hth,q⟩ X;obtain⟨a,v0,v1,v2,v3,v4,v5,v6,v7,v8,rfl,ea,TP⟩:=TT;refine⟨_,  (zca (zog (pv 1) (zzg (n:=3) rfl (zla (zda (i:=2) zvj.nd rfl (.inl rfl)) (zla (zda (i:=3) zvj.nd rfl (.inl rfl)) (zla (zda (i:=4) zvj.nd rfl (.inl rfl)) zfd)))))
  (zca (zyd (zgb zikb (pv 3) zea (zrb _))
   (zfa (zbb (zimb (zra zwa (zra zwa (pv 0) (zdb (v:=.int 2) rfl T.zwp ⟨_,rfl⟩) (λ_ _=>rfl)) (zfb zur (zkrb zylb zea) (pv 3)) (λ_ _=>rfl)))))
   zsb)
  (zfa (zbb (zekb (zqg zth (pv 2) ztb (zrb _)) (ztr (zqg zzv (pv 3) (zra zwa (pv 0) (zdb (v:=.int 5) rfl T.zof ⟨_,rfl⟩) (λ_ _=>rfl)) rfl))))))),?_⟩
 refine⟨_,rfl,ha,_,rfl,SqT.of eh,rfl,_,_,rfl,_,_,rfl,_,_,rfl,rfl,?_⟩;refine⟨_,rfl,_,_,rfl,rfl,_,rfl,ite2 (λc=>?_) (λc=>?_)⟩
 ·have c':th<0:=of_decide_eq_true c;obtain⟨b,rfl,eb⟩:=TP.p2;obtain⟨p,hp⟩:∃p:Nat,-1-th=(p:Int):=⟨(-1-th).toNat,by omega⟩;have pl:p<t.gone.length:=by rw[TO.gone];omega
  have eg:(t.gone.map V.bl)[p]?=some (.bl t.gone[p]):=by rw[yla,ybb pl];rfl
  refine⟨_,rfl,a,_,_,_,rfl,rfl,SqT.of ea,zka (j:=2) rfl,_,rfl,_,rfl,_,_,rfl,rfl,?_⟩;dsimp only;rw[hp];refine⟨b,_,_,_,rfl,rfl,SqT.of eb,zka eg,_,rfl,?_⟩;have z:=q H (Same.refl _);have e:hpM t kd th = !t.gone[p]:=by
   unfold hpM;rw[if_pos c',hp,ysa,ylb,ybb pl];rfl
  rw[e] at z;exact z
 ·have c':¬ th<0:=λz=>c (decide_eq_true z);obtain⟨b,rfl,eb⟩:=TP.p5;have e:hpM t kd th=(decide (kd = "come")||decide (th∈t.lying)):=if_neg c';have ek:decide (V.str kd=V.str "come")=decide (kd = "come"):=decide_eq_decide.mpr ⟨λz=>by injection z,λz=>by rw[z]⟩;refine⟨_,rfl,rfl,_,rfl,?_⟩;have z:=q H (Same.refl _);rw[e] at z;refine ite2 (λc1=>?_) (λc1=>?_)
  ·rw[← ek,c1,yfr] at z;exact z
  ·rw[← ek,ybi.mpr c1,ydq] at z;refine⟨_,rfl,_,rfl,a,_,_,_,rfl,rfl,SqT.of ea,zka (j:=5) rfl,b,_,rfl,.inr (SqT.of eb),rfl,zjj _,?_⟩;show Q (.bl (inV (.int th) (iM t.lying))) H
   rw[inI];exact z
def zstb:Sp:=λvs H Q _=>Ex8 λtv ha (t:Tab) (np nc p:Nat) (kd:Str) (z:Int)=>vs=[tv,.ref ha]∧TabT H tv t∧TOk np nc t∧H ha=some (.tup [.str kd,.int (-1-(p:Int)),.int z])∧p<np∧kd∈zpg∧0≤z∧∀v' (t':Tab) H',Same H H'->TabT H' v' t'->PlR t p z kd t'->Q v' H'
theorem getx {α:Type}{xs:List α}{i:Nat}(h:i<xs.length):∃x,xs[i]?=some x:=⟨_,ybb h⟩
theorem All2.get2 {α β:Type}{R:α->β->Prop}{as:List α}{bs:List β}(z:All2 R as bs){i:Nat}{b:β}(h:bs[i]?=some b):∃a,as[i]?=some a∧R a b:=by
 induction z generalizing i with
 | nil=>simp at h
 | cons r _ ih =>
  cases i with
  | zero =>
   rw[yof] at h;cases h;exact⟨_,rfl,r⟩
  | succ i =>
   rw[yqc] at h;obtain⟨a,e,q⟩:=ih h;exact⟨a,by rw[yqc];exact e,q⟩
theorem zze {α:Type}{f:α->V}{xs:List α}{i:Nat}{x:α}(h:xs[i]?=some x):atI (xs.map f) (i:Int)=some (f x):=zka (by rw[yla,h];rfl)
theorem zymb {xs:List V}{z:Int}(h:0≤z):cutV xs none (some z)=xs.take z.toNat:=by
 have e:z=((z.toNat:Nat):Int):=by omega
 rw[e,zyl,ysa]
theorem zxmb {xs:List V}{z:Int}(h:0≤z):cutV xs (some z) none=xs.drop z.toNat:=by
 have e:z=((z.toNat:Nat):Int):=by omega
 rw[e,zcx,ysa]
theorem zqhb {xs:List V}{lo hi:Option Int}(h:HT.sIx xs.length 0 lo=0∧HT.sIx xs.length xs.length hi=xs.length):cutV xs lo hi=xs:=by
 unfold cutV;rw[h.1,h.2,List.drop_zero,yar,yfb (yha _)]
theorem zlk (T:Tx K mg):FnOk P w K mg base CX0 4 T.zpb.f T.zpb.d zaf zstb:=by
 refine T.zpb.ok zlb ?_;rintro f c A o s H vs Q E hr ⟨tv,ha,t,np,nc,p,kd,z,rfl,TT,TO,eh,hp,hk,z0,q⟩ X;obtain⟨a,v0,v1,v2,v3,v4,v5,v6,v7,v8,rfl,ea,TP⟩:=TT;have np4:=TO.np4;refine⟨_,  (zca (zog (pv 1) (zzg (n:=3) rfl (zla (zda (i:=2) zlb.nd rfl (.inl rfl)) (zla (zda (i:=3) zlb.nd rfl (.inl rfl)) (zla (zda (i:=4) zlb.nd rfl (.inl rfl)) zfd)))))
  (zca (zna (i:=5) zlb.nd rfl (.inl rfl) (zfb zur (zkrb zylb zea) (pv 3)))
  (zca (zyd (zgb zth (pv 2) ztb (zrb _))
   (zfa (zbb (zja (zmc T) hr rfl T.zva.m T.zva.F.kp (zad T) .nil zza (zaa (pv 0) (zaa (zdb (v:=.int 0) rfl T.zzj ⟨_,rfl⟩) (zaa (pv 5) (zaa (zfb zur (zra zwa (zra zwa (pv 0) (zdb (v:=.int 0) rfl T.zzj ⟨_,rfl⟩) (λ_ _=>rfl)) (pv 5) (λ_ _=>rfl)) (pv 4)) zba)))))))
   zsb)
  (zca (zyd (zgb zth (pv 2) ztb (zrb _))
   (zfa (zbb (zja (zmc T) hr rfl T.zva.m T.zva.F.kp (zad T) .nil zza (zaa (pv 0) (zaa (zdb (v:=.int 1) rfl T.zul ⟨_,rfl⟩) (zaa (pv 5) (zaa (zfb zxe (zra zwa (zra zwa (pv 0) (zdb (v:=.int 1) rfl T.zul ⟨_,rfl⟩) (λ_ _=>rfl)) (pv 5) (λ_ _=>rfl)) (pv 4)) zba)))))))
   zsb)
  (zca (zna (i:=6) zlb.nd rfl (.inl rfl) (zra zwa (zra zwa (pv 0) (zdb (v:=.int 3) rfl T.zxp ⟨_,rfl⟩) (λ_ _=>rfl)) (pv 5) (λ_ _=>rfl)))
  (zca (zna (i:=7) zlb.nd rfl (.inl rfl) (zoa zma rfl T.zkb yvc (zaa (zya zbe rfl T.zae yvh (zaa (zfb zdpb (zra zwa (zra zwa (pv 0) (zdb (v:=.int 4) rfl T.zvp ⟨_,rfl⟩) (λ_ _=>rfl)) (pv 5) (λ_ _=>rfl)) (zdi zffb (pv 6) zkk (zjk (pv 4)))) zba)) zba)))
  (zfa (zbb (zja (zmc T) hr rfl T.zva.m T.zva.F.kp (zad T) .nil zza (zaa (zja (zmc T) hr rfl T.zva.m T.zva.F.kp (zad T) .nil zza (zaa (pv 0) (zaa (zdb (v:=.int 4) rfl T.zvp ⟨_,rfl⟩) (zaa (pv 5) (zaa (pv 7) zba))))) (zaa (zdb (v:=.int 3) rfl T.zxp ⟨_,rfl⟩) (zaa (pv 5) (zaa (zdi zffb (pv 6) (zjk (pv 4)) zkk) zba))))))))))))),?_⟩
 refine⟨_,rfl,ha,_,rfl,SqT.of eh,rfl,_,_,rfl,_,_,rfl,_,_,rfl,rfl,?_⟩;refine⟨_,rfl,_,rfl,_,_,rfl,rfl,?_⟩;have ep:(-1:Int)-(-1-(p:Int))=(p:Int):=by omega
 dsimp only;rw[show (-(1:Int)-(-1-(p:Int)))=(p:Int) from ep];simp only[zpg,yka,ype,or_false] at hk
 rcases hk with rfl|rfl|rfl
 ·obtain⟨b,rfl,eb⟩:=TP.p0;obtain⟨x,hx⟩:=getx (xs:=t.pts) (by rw[TO.pts];exact hp);refine⟨_,rfl,rfl,_,rfl,iteT ?_⟩;refine⟨_,rfl,_,rfl,_,rfl,a,_,_,_,rfl,rfl,SqT.of ea,zka (j:=0) rfl,_,rfl,b,_,_,_,rfl,rfl,SqT.of eb,zze hx,_,rfl,_,_,rfl,rfl,?_⟩;refine⟨a,b,_,_,0,p,_,rfl,ea,(by show 9≤1000;decide),rfl,eb,by unfold iM;rw[yca,TO.pts];exact hp,by unfold iM;rw[yca,TO.pts];omega,λc b' H1 S1 e1 e2=>?_⟩;have TP1:=TP.kp (Kp.same S1);refine q (.ref c) _ H1 S1 ⟨c,_,v1,v2,v3,v4,v5,v6,v7,v8,rfl,e2,?_⟩ (.lose hx);exact { TP1 with p0:=⟨b',rfl,by rw[e1];unfold iM;rw[ybe]⟩ }
 ·obtain⟨b,rfl,eb⟩:=TP.p1;obtain⟨x,hx⟩:=getx (xs:=t.scs) (by rw[TO.scs];exact hp);refine⟨_,rfl,rfl,_,rfl,iteF ⟨_,rfl,rfl,_,rfl,iteT ?_⟩⟩;refine⟨_,rfl,_,rfl,_,rfl,a,_,_,_,rfl,rfl,SqT.of ea,zka (j:=1) rfl,_,rfl,b,_,_,_,rfl,rfl,SqT.of eb,zze hx,_,rfl,_,_,rfl,rfl,?_⟩;refine⟨a,b,_,_,1,p,_,rfl,ea,(by show 9≤1000;decide),rfl,eb,by unfold iM;rw[yca,TO.scs];exact hp,by unfold iM;rw[yca,TO.scs];omega,λc b' H1 S1 e1 e2=>?_⟩;have TP1:=TP.kp (Kp.same S1);refine q (.ref c) _ H1 S1 ⟨c,v0,_,v2,v3,v4,v5,v6,v7,v8,rfl,e2,?_⟩ (.score hx);exact { TP1 with p1:=⟨b',rfl,by rw[e1];unfold iM;rw[ybe]⟩ }
 ·obtain⟨b3,u3,rfl,e3,al3⟩:=TP.p3;obtain⟨b4,u4,rfl,e4,al4⟩:=TP.p4;obtain⟨d,hd⟩:=getx (xs:=t.decks) (by rw[TO.decks];exact hp);obtain⟨h,hh⟩:=getx (xs:=t.hands) (by rw[TO.hands];exact hp);obtain⟨_,edv,db,rfl,edb⟩:=al3.get2 (b:=iM d) (by rw[yla,hd];rfl);obtain⟨_,ehv,hb,rfl,ehb⟩:=al4.get2 (b:=iM h) (by rw[yla,hh];rfl);have dl:=TO.ds d (yta hd);have hl:=TO.hs h (yta hh);refine⟨_,rfl,rfl,_,rfl,iteF ⟨_,rfl,rfl,_,rfl,iteF ?_⟩⟩;refine⟨_,rfl,a,_,_,_,rfl,rfl,SqT.of ea,zka (j:=3) rfl,_,rfl,b3,_,_,_,rfl,rfl,SqT.of e3,zka edv,?_⟩;refine⟨_,rfl,a,_,_,_,rfl,rfl,SqT.of ea,zka (j:=4) rfl,_,rfl,b4,_,_,_,rfl,rfl,SqT.of e4,zka ehv,_,rfl,_,rfl,_,rfl,?_⟩;refine' zyn (pre:=λc H1=>Same H H1∧H1 c=some (.tup (iM (d.take z.toNat)))) (λkk=>?ga) ?ka
  case ga =>
   refine⟨db,_,rfl,SqT.of edb,λwh=>?w1,λ_ c hc=>?f1⟩
   case f1 =>
    rw[zymb z0];refine laid hc λH1 S1 e1=>?_;exact kk c H1 ⟨S1,by rw[e1];unfold iM;rw[yeq]⟩
   case w1 =>
    have ew:=zqhb wh;rw[zymb z0] at ew;have ez:H db=some (.tup (iM (d.take z.toNat))):=by
     rw[edb];unfold iM at ew ⊢;rw[yeq,ew]
    exact kk db H ⟨Same.refl _,ez⟩
  case ka =>
  rintro c1 H1 ⟨S1,e1⟩;refine' zyn (pre:=λc H2=>Same H H2∧H2 c=some (.tup (iM (h++d.take z.toNat)))) (λkk=>?gb) ?kb
  case gb =>
   have ehb1:=S1 _ _ ehb;refine⟨hb,c1,_,_,rfl,rfl,SqT.of ehb1,SqT.of e1,?s2,λx0=>?a2,λx0 y0=>?b2,λx0 y0 c hc=>?f2⟩
   case f2 =>
    refine laid hc λH2 S2 e2=>?_;exact kk c H2 ⟨S1.trans S2,by rw[e2];unfold iM;rw[yva]⟩
   case s2 =>
    unfold iM;rw[yca,yca,ywa];exact small (by omega)
   case a2 =>
    have h0:h=[]:=ykh.mp x0;have ez:H1 c1=some (.tup (iM (h++d.take z.toNat))):=(by rw[h0];exact e1);exact kk c1 H1 ⟨S1,ez⟩
   case b2 =>
    have d0:d.take z.toNat=[]:=ykh.mp y0;have ez:H1 hb=some (.tup (iM (h++d.take z.toNat))):=(by rw[d0,ync];exact ehb1);exact kk hb H1 ⟨S1,ez⟩
  case kb =>
  rintro c2 H2 ⟨S2,e2⟩;refine⟨c2,_,rfl,.inr (SqT.of e2),(by rw[yja,ywa];omega),λl ys hl' py sy=>?_⟩;refine laid hl' λH3 S3 e3'=>?_;refine⟨l,_,rfl,.inl ⟨SqL.of e3',λtm htm=>?_⟩⟩;refine laid htm λH4 S4 e4'=>?_;have S04:=S2.trans (S3.trans S4);have l4:=al4.len;have l3:=al3.len;rw[yca,TO.hands] at l4;rw[yca,TO.decks] at l3;refine⟨_,rfl,_,rfl,_,rfl,a,b4,_,u4,4,p,.ref tm,rfl,S04 _ _ ea,(by show 9≤1000;decide),rfl,S04 _ _ e4,by omega,by omega,λta b4' H5 S5 e5 e5'=>?_⟩;have S05:=S04.trans S5;refine⟨_,rfl,_,rfl,_,rfl,_,rfl,?_⟩;refine' zyn (pre:=λc H6=>Same H5 H6∧H6 c=some (.tup (iM (d.drop z.toNat)))) (λkk=>?gc) ?kc
  case gc =>
   have edb5:=S05 _ _ edb;refine⟨db,_,rfl,SqT.of edb5,λwh=>?w3,λ_ c hc=>?f3⟩
   case f3 =>
    rw[zxmb z0];refine laid hc λH6 S6 e6=>?_;exact kk c H6 ⟨S6,by rw[e6];unfold iM;rw[yfq]⟩
   case w3 =>
    have ew:=zqhb wh;rw[zxmb z0] at ew;have ez:H5 db=some (.tup (iM (d.drop z.toNat))):=by
     rw[edb5];unfold iM at ew ⊢;rw[yfq,ew]
    exact kk db H5 ⟨Same.refl _,ez⟩
  case kc =>
  rintro c3 H6 ⟨S6,e6⟩;have S06:=S05.trans S6;refine⟨ta,b3,_,u3,3,p,.ref c3,rfl,S6 _ _ e5',(by show 9≤1000;decide),rfl,S06 _ _ e3,by omega,by omega,λtb b3' H7 S7 e7 e7'=>?_⟩;have S07:=S06.trans S7;have TP7:=TP.kp (Kp.same S07);have k7:=Kp.same S07;refine q (.ref tb) _ H7 S07 ⟨tb,v0,v1,v2,.ref b3',.ref b4',v5,v6,v7,v8,rfl,e7',?_⟩ (.draw hd hh py sy);refine { TP7 with p3:=⟨b3',_,rfl,e7,?_⟩,p4:=⟨b4',_,rfl,(S6.trans S7) _ _ e5,?_⟩ }
  ·rw[ybe];exact (al3.imp λz=>z.kp k7).set ⟨c3,rfl,S7 _ _ e6⟩ p
  ·rw[ybe];exact (al4.imp λz=>z.kp k7).set ⟨tm,rfl,(S5.trans (S6.trans S7)) _ _ e4'⟩ p
def CdsT (B:Addr)(H:Hp)(ca:Addr)(cms:List (List Str)):Prop:=∃cvs,H ca=some (.lst cvs)∧All2 (CmT B H) cvs cms
theorem CdsT.same {B:Addr}{H H':Hp}(s:Same H H'){ca:Addr}{cms:List (List Str)}(h:CdsT B H ca cms):CdsT B H' ca cms:=by
 obtain⟨cvs,e,al⟩:=h;exact⟨cvs,s _ _ e,al.imp λz=>z.kp (Kp.same s)⟩
def zqtb (B:Addr):Sp:=λvs H Q _=>Ex8 λca tv (t:Tab) (np nc n:Nat) (cms:List (List Str)) (ms:List Str)=>vs=[.ref ca,tv,.int (n:Int)]∧CdsT B H ca cms∧TabT H tv t∧TOk np nc t∧n<nc∧cms[n]?=some ms∧∀v' H',Same H H'->TabT H' v' { t with marks:=t.marks.set n ms,wnds:=t.wnds.set n 0 }->Q v' H'
def zrtb (B:Addr):Sp:=λvs H Q _=>Ex7 λca tv (t:Tab) (np nc n:Nat) (cms:List (List Str))=>vs=[.ref ca,tv,.int (n:Int)]∧CdsT B H ca cms∧TabT H tv t∧TOk np nc t∧n<nc∧cms.length=nc∧∀v' (t':Tab) H',Same H H'->TabT H' v' t'->CrR cms t n .non "leave" t'->Q v' H'
def zttb (B:Addr):Sp:=λvs H Q _=>Ex10 λca tv ha (t:Tab) (np nc n:Nat) (cms:List (List Str)) (kd:Str) av=>vs=[.ref ca,tv,.ref ha]∧CdsT B H ca cms∧TabT H tv t∧TOk np nc t∧H ha=some (.tup [.str kd,.int (n:Int),av])∧n<nc∧cms.length=nc∧(kd = "come" ∨ kd = "leave" ∨ (kd = "hurt" ∧ ∃z:Int,av = .int z)∨((kd = "gain" ∨ kd = "lack")∧∃u:Str,av = .str u))∧∀v' (t':Tab) H',Same H H'->TabT H' v' t'->CrR cms t n av kd t'->Q v' H'
theorem zxr (T:Tx K mg):FnOk P w K mg base CX0 4 T.zue.f T.zue.d zmq (zqtb T.zub):=by
 refine T.zue.ok zucb ?_;rintro f c A o s H vs Q E hr ⟨ca,tv,t,np,nc,n,cms,ms,rfl,CD,TT,TO,hn,em,q⟩ X;obtain⟨a,v0,v1,v2,v3,v4,v5,v6,v7,v8,rfl,ea,TP⟩:=TT;have nc16:=TO.nc16;obtain⟨cvs,ec,al⟩:=CD;obtain⟨_,ecv,cd,dx,m,tt,nm,c,f,rfl,ecd,emm⟩:=al.get2 em;obtain⟨b7,u7,rfl,e7,al7⟩:=TP.p7;have l7:=al7.len;rw[yca,TO.marks] at l7;refine⟨_,  (zfa (zbb (zja (zmc T) hr rfl T.zva.m T.zva.F.kp (zad T) .nil zza (zaa (zja (zmc T) hr rfl T.zva.m T.zva.F.kp (zad T) .nil zza (zaa (pv 1) (zaa (zdb (v:=.int 7) rfl T.zki ⟨_,rfl⟩) (zaa (pv 2) (zaa (zti (zra zjd (pv 0) (pv 2) (λ_ _=>rfl)) rfl) zba))))) (zaa (zdb (v:=.int 8) rfl T.zji ⟨_,rfl⟩) (zaa (pv 2) (zaa zea zba))))))),?_⟩;refine⟨_,rfl,_,rfl,_,rfl,?_⟩;refine⟨_,rfl,ca,_,_,_,rfl,rfl,SqL.of ec,zka ecv,cd,_,dx,_,_,rfl,ecd,T.zye,T.zyc,zzl _ _ _ _ _,?_⟩;refine⟨a,b7,_,u7,7,n,.ref m,rfl,ea,(by show 9≤1000;decide),rfl,e7,by omega,by omega,λa1 b7' H1 S1 e1 e1'=>?_⟩;obtain⟨b8,rfl,e8⟩:=TP.p8;refine⟨_,rfl,a1,b8,_,_,8,n,.int 0,rfl,e1',(by show 9≤1000;decide),rfl,S1 _ _ e8,by unfold iM;rw[yca,TO.wnds];exact hn,by unfold iM;rw[yca,TO.wnds];omega,λa2 b8' H2 S2 e2 e2'=>?_⟩;have S12:=S1.trans S2;have k2:=Kp.same S12;have TP2:=TP.kp k2;refine q (.ref a2) H2 S12 ⟨a2,v0,v1,v2,v3,v4,v5,v6,.ref b7',.ref b8',rfl,e2',?_⟩;refine { TP2 with p7:=⟨b7',_,rfl,S2 _ _ e1,?_⟩,p8:=⟨b8',rfl,by rw[e2];unfold iM;rw[ybe]⟩ };rw[ybe];exact (al7.imp λz=>z.kp k2).set ⟨m,rfl,S12 _ _ emm⟩ n
theorem zfp (T:Tx K mg):FnOk P w K mg base CX0 5 T.ztd.f T.ztd.d zxm (zrtb T.zub):=by
 refine T.ztd.ok zfk ?_;rintro f c A o s H vs Q E hr ⟨ca,tv,t,np,nc,n,cms,rfl,CD,TT,TO,hn,hc,q⟩ X;obtain⟨ms,em⟩:=getx (xs:=cms) (by rw[hc];exact hn);refine⟨_,  (zca (zna (i:=1) zfk.nd rfl (.inl rfl) (zja (zxr T) hr rfl T.zue.m T.zue.F.kp (zqx T) .nil zza (zaa (pv 0) (zaa (pv 1) (zaa (pv 2) zba)))))
  (zca (zna (i:=1) zfk.nd rfl (.inl rfl) (zja (zgf T).up hr rfl T.zmb.m T.zmb.F.kp (zbg T) .nil zza (zaa (pv 1) (zaa (zdb (v:=.int 5) rfl T.zof ⟨_,rfl⟩) (zaa (zja (zwr T).up hr rfl T.zte.m T.zte.F.kp (zpx T) .nil zza (zaa (zra zwa (pv 1) (zdb (v:=.int 5) rfl T.zof ⟨_,rfl⟩) (λ_ _=>rfl)) (zaa (pv 2) zba))) zba)))))
  (zfa (zbb (zja (zgf T).up hr rfl T.zmb.m T.zmb.F.kp (zbg T) .nil zza (zaa (pv 1) (zaa (zdb (v:=.int 6) rfl T.zzw ⟨_,rfl⟩) (zaa (zja (zcw T).up hr rfl T.zwf.m T.zwf.F.kp (zfcb T) .nil zza (zaa (zra zwa (pv 1) (zdb (v:=.int 6) rfl T.zzw ⟨_,rfl⟩) (λ_ _=>rfl)) (zaa (pv 2) zba))) zba)))))))),?_⟩
 refine⟨_,rfl,_,rfl,_,rfl,ca,tv,t,np,nc,n,cms,ms,rfl,CD,TT,TO,hn,em,λt1 H1 S1 TT1=>?_⟩;obtain⟨a,v0,v1,v2,v3,v4,v5,v6,v7,v8,rfl,ea,TP⟩:=TT1;obtain⟨b5,rfl,e5⟩:=TP.p5;obtain⟨b6,rfl,e6⟩:=TP.p6;have ly:=TO.ly;have hpl:=TO.hp;refine⟨_,rfl,_,rfl,a,_,_,_,rfl,rfl,SqT.of ea,zka (j:=5) rfl,_,rfl,b5,_,.int (n:Int),rfl,e5,?_,by unfold iM;rw[yca];show t.lying.length≤60;omega,λp5 H2 S2 e2=>?_⟩
 ·intro v hv;obtain⟨y,_,rfl⟩:=ymc.mp hv;rfl
 refine⟨a,_,5,.ref p5,rfl,S2 _ _ ea,(by show 5<9;decide),(by show 9≤1000;decide),λa2 H3 S3 e3=>?_⟩;have S23:=S2.trans S3;refine⟨_,rfl,_,rfl,a2,_,_,_,rfl,rfl,SqT.of e3,zka (j:=6) rfl,_,rfl,b6,.int (n:Int),rfl,.inr ⟨t.heap,(n:Int),rfl,S23 _ _ e6,by omega,λp6 zs H4 S4 e4 pz sz=>?_⟩⟩;refine⟨a2,_,6,.ref p6,rfl,S4 _ _ e3,(by show 6<9;decide),(by show 9≤1000;decide),λa3 H5 S5 e5'=>?_⟩;have S45:=S4.trans S5;have S25:=S23.trans S45;have S15:=S1.trans S25;have TP5:=TP.kp (Kp.same S25);refine q (.ref a3) _ H5 S15 ⟨a3,v0,v1,v2,v3,v4,.ref p5,.ref p6,v7,v8,rfl,e5',?_⟩ (.leave em pz sz);refine { TP5 with p5:=⟨p5,rfl,?_⟩,p6:=⟨p6,rfl,S5 _ _ e4⟩ };rw[(S3.trans S45) _ _ e2];unfold iM;rw[List.filter_map]
 congr 3
 refine yqm λx _=>?_;show (!decide (V.int x=V.int n)) = !decide (x=(n:Int))
 rw[decide_eq_decide.mpr ⟨λz=>by injection z,λz=>by rw[z]⟩]
theorem znm (T:Tx K mg):FnOk P w K mg base CX0 6 T.zzb.f T.zzb.d zqf (zttb T.zub):=by
 refine T.zzb.ok zxc ?_;rintro f c A o s H vs Q E hr ⟨ca,tv,ha,t,np,nc,n,cms,kd,av,rfl,CD,TT,TO,eh,hn,hc,hk,q⟩ X;obtain⟨ms,em⟩:=getx (xs:=cms) (by rw[hc];exact hn);have nc16:=TO.nc16;refine⟨_,  (zca (zog (pv 2) (zzg (n:=3) rfl (zla (zda (i:=3) zxc.nd rfl (.inl rfl)) (zla (zda (i:=4) zxc.nd rfl (.inl rfl)) (zla (zda (i:=5) zxc.nd rfl (.inl rfl)) zfd)))))
  (zca (zyd (zgb zth (pv 3) ztb (zrb _))
   (zfa (zbb (zja (zgf T).up hr rfl T.zmb.m T.zmb.F.kp (zbg T) .nil zza (zaa (zja (zxr T).up hr rfl T.zue.m T.zue.F.kp (zqx T) .nil zza (zaa (pv 0) (zaa (pv 1) (zaa (pv 4) zba)))) (zaa (zdb (v:=.int 5) rfl T.zof ⟨_,rfl⟩) (zaa (zfb zbt (zra zwa (pv 1) (zdb (v:=.int 5) rfl T.zof ⟨_,rfl⟩) (λ_ _=>rfl)) (znb (zaa (pv 4) zba))) zba))))))
   zsb)
  (zca (zyd (zgb zth (pv 3) ztb (zrb _))
   (zfa (zbb (zja (zfp T) hr rfl T.ztd.m T.ztd.F.kp (zns T) .nil zza (zaa (pv 0) (zaa (pv 1) (zaa (pv 4) zba))))))
   zsb)
  (zca (zyd (zgb zth (pv 3) ztb (zrb _))
   (zfa (zbb (zja (zmc T).up hr rfl T.zva.m T.zva.F.kp (zad T) .nil zza (zaa (pv 1) (zaa (zdb (v:=.int 8) rfl T.zji ⟨_,rfl⟩) (zaa (pv 4) (zaa (zfb zxe (zra zwa (zra zwa (pv 1) (zdb (v:=.int 8) rfl T.zji ⟨_,rfl⟩) (λ_ _=>rfl)) (pv 4) (λ_ _=>rfl)) (pv 5)) zba)))))))
   zsb)
  (zca (zna (i:=6) zxc.nd rfl (.inl rfl) (zra zwa (zra zwa (pv 1) (zdb (v:=.int 7) rfl T.zki ⟨_,rfl⟩) (λ_ _=>rfl)) (pv 4) (λ_ _=>rfl)))
  (zfa (zbb (zja (zmc T).up hr rfl T.zva.m T.zva.F.kp (zad T) .nil zza (zaa (pv 1) (zaa (zdb (v:=.int 7) rfl T.zki ⟨_,rfl⟩) (zaa (pv 4) (zaa (zobb (zgb zth (pv 3) ztb (zrb _)) (zja (zcw T).up hr rfl T.zwf.m T.zwf.F.kp (zfcb T) .nil zza (zaa (pv 6) (zaa (pv 5) zba))) (zja (zwr T).up hr rfl T.zte.m T.zte.F.kp (zpx T) .nil zza (zaa (pv 6) (zaa (pv 5) zba)))) zba)))))))))))),?_⟩
 refine⟨_,rfl,ha,_,rfl,SqT.of eh,rfl,_,_,rfl,_,_,rfl,_,_,rfl,rfl,?_⟩
 rcases hk with rfl|rfl|⟨rfl,z,rfl⟩|⟨hk,u,rfl⟩
 ·refine⟨_,rfl,rfl,_,rfl,iteT ?_⟩;refine⟨_,rfl,_,rfl,_,rfl,ca,tv,t,np,nc,n,cms,ms,rfl,CD,TT,TO,hn,em,λt1 H1 S1 TT1=>?_⟩;obtain⟨a,v0,v1,v2,v3,v4,v5,v6,v7,v8,rfl,ea,TP⟩:=TT;obtain⟨a1,w0,w1,w2,w3,w4,w5,w6,w7,w8,rfl,ea1,TP1⟩:=TT1;obtain⟨b5,rfl,e5⟩:=TP.p5;have fin:∀c5 H2,Same H1 H2->H2 c5=some (.tup (iM (t.lying++[(n:Int)])))->zgr [.ref a1,.int ((5:Nat):Int),.ref c5] H2 Q E0:=by
   intro c5 H2 S2 e2;refine⟨a1,_,5,.ref c5,rfl,S2 _ _ ea1,(by show 5<9;decide),(by show 9≤1000;decide),λa3 H3 S3 e3=>?_⟩;have S13:=S2.trans S3;have TP3:=TP1.kp (Kp.same S13);refine q (.ref a3) _ H3 (S1.trans S13) ⟨a3,w0,w1,w2,w3,w4,.ref c5,w6,w7,w8,rfl,e3,?_⟩ (.come em);exact { TP3 with p5:=⟨c5,rfl,S3 _ _ e2⟩ }
  refine⟨_,rfl,a,_,_,_,rfl,rfl,SqT.of (S1 _ _ ea),zka (j:=5) rfl,_,rfl,sz1,λt1 ht1=>?_⟩;refine laid ht1 λH2 S2 e2=>?_;have ly:=TO.ly;have e5':=(S1.trans S2) _ _ e5;refine⟨b5,t1,_,_,rfl,rfl,SqT.of e5',SqT.of e2,by simp,(by unfold iM;rw[yca];exact small (by show t.lying.length+1≤1000;omega)),λz=>?g1,λz t2 ht2=>?g2⟩
  case g2 =>
   refine laid ht2 λH3 S3 e3=>?_;exact fin t2 H3 (S2.trans S3) (by rw[e3];unfold iM;rw[yva];rfl)
  case g1 =>
   have z':t.lying=[]:=ykh.mp z;exact fin t1 H2 S2 (by rw[e2,z'];rfl)
 ·refine⟨_,rfl,rfl,_,rfl,iteF ⟨_,rfl,rfl,_,rfl,iteT ?_⟩⟩;refine⟨_,rfl,_,rfl,_,rfl,ca,tv,t,np,nc,n,cms,rfl,CD,TT,TO,hn,hc,λt1 t' H1 S1 TT1 cr=>?_⟩;refine q t1 t' H1 S1 TT1 ?_;cases cr with
  | leave e1 p1 s1=>exact .leave e1 p1 s1
 ·refine⟨_,rfl,rfl,_,rfl,iteF ⟨_,rfl,rfl,_,rfl,iteF ⟨_,rfl,rfl,_,rfl,iteT ?_⟩⟩⟩;obtain⟨a,v0,v1,v2,v3,v4,v5,v6,v7,v8,rfl,ea,TP⟩:=TT;obtain⟨b,rfl,eb⟩:=TP.p8;obtain⟨x,hx⟩:=getx (xs:=t.wnds) (by rw[TO.wnds];exact hn);refine⟨_,rfl,_,rfl,_,rfl,a,_,_,_,rfl,rfl,SqT.of ea,zka (j:=8) rfl,_,rfl,b,_,_,_,rfl,rfl,SqT.of eb,zze hx,_,rfl,_,_,rfl,rfl,?_⟩;refine⟨a,b,_,_,8,n,_,rfl,ea,(by show 9≤1000;decide),rfl,eb,by unfold iM;rw[yca,TO.wnds];exact hn,by unfold iM;rw[yca,TO.wnds];omega,λc b' H1 S1 e1 e2=>?_⟩;have TP1:=TP.kp (Kp.same S1);refine q (.ref c) _ H1 S1 ⟨c,v0,v1,v2,v3,v4,v5,v6,v7,_,rfl,e2,?_⟩ (.hurt hx);exact { TP1 with p8:=⟨b',rfl,by rw[e1];unfold iM;rw[ybe]⟩ }
 ·have k1:kd ≠ "come":=by rintro rfl;rcases hk with z|z<;>exact absurd z (by decide +kernel)
  have k2:kd ≠ "leave":=by rintro rfl;rcases hk with z|z<;>exact absurd z (by decide +kernel)
  have k3:kd ≠ "hurt":=by rintro rfl;rcases hk with z|z<;>exact absurd z (by decide +kernel)
  have kf:∀{u:Str},kd≠u->decide (V.str kd=V.str u)=false:=λh=>decide_eq_false (by intro z;injection z with z;exact h z);refine⟨_,rfl,rfl,_,rfl,ite2 (λz=>absurd z (by rw[kf k1];decide)) (λ_=>?_)⟩;refine⟨_,rfl,rfl,_,rfl,ite2 (λz=>absurd z (by rw[kf k2];decide)) (λ_=>?_)⟩;refine⟨_,rfl,rfl,_,rfl,ite2 (λz=>absurd z (by rw[kf k3];decide)) (λ_=>?_)⟩;obtain⟨a,v0,v1,v2,v3,v4,v5,v6,v7,v8,rfl,ea,TP⟩:=TT;obtain⟨b,u7,rfl,eb,al⟩:=TP.p7;have l7:=al.len;rw[yca,TO.marks] at l7;obtain⟨mm,hm⟩:=getx (xs:=t.marks) (by rw[TO.marks];exact hn);obtain⟨_,emv,mb,rfl,emb⟩:=al.get2 (b:=sM mm) (by rw[yla,hm];rfl);have ml:=TO.ms mm (yta hm);refine⟨_,rfl,a,_,_,_,rfl,rfl,SqT.of ea,zka (j:=7) rfl,_,rfl,b,_,_,_,rfl,rfl,SqT.of eb,zka emv,?_⟩;have fin:∀c7 (zs:List Str) H2,Same H H2->H2 c7=some (.tup (sM zs))->CrR cms t n (.str u) kd { t with marks:=t.marks.set n zs }->zweb [.ref a,.int ((7:Nat):Int),.int (n:Int),.ref c7] H2 Q E0:=by
   intro c7 zs H2 S2 e2 cr;refine⟨a,b,_,u7,7,n,.ref c7,rfl,S2 _ _ ea,(by show 9≤1000;decide),rfl,S2 _ _ eb,by omega,by omega,λc b' H3 S3 e3 e3'=>?_⟩;have k3:=Kp.same (S2.trans S3);have TP3:=TP.kp k3;refine q (.ref c) _ H3 (S2.trans S3) ⟨c,v0,v1,v2,v3,v4,v5,v6,_,v8,rfl,e3',?_⟩ cr;refine { TP3 with p7:=⟨b',_,rfl,e3,?_⟩ };rw[ybe];exact (al.imp λz=>z.kp k3).set ⟨c7,rfl,S3 _ _ e2⟩ n
  refine⟨_,rfl,_,rfl,_,rfl,rfl,_,rfl,?_⟩
  rcases hk with rfl|rfl
  ·refine iteT ?_;refine⟨_,rfl,_,rfl,mb,.str u,rfl,.inl ⟨mm,u,rfl,emb,by omega,λp zs H2 S2 e2 pz sz=>?_⟩⟩;exact fin p zs H2 S2 e2 (.gain hm pz sz)
  ·refine iteF ?_;refine⟨_,rfl,_,rfl,mb,_,.str u,rfl,emb,?_,by unfold sM;rw[yca];omega,λp H2 S2 e2=>?_⟩
   ·intro v hv;obtain⟨y,_,rfl⟩:=ymc.mp hv;rfl
   ·refine fin p _ H2 S2 ?_ (.lack hm);rw[e2];unfold sM;rw[List.filter_map]
    congr 3
    refine yqm λx _=>?_;show (!decide (V.str x=V.str u)) = !decide (x=u)
    rw[decide_eq_decide.mpr ⟨λz=>by injection z,λz=>by rw[z]⟩]
def CrK (kd:Str)(av:V):Prop:=kd = "come" ∨ kd = "leave" ∨ (kd = "hurt" ∧ ∃z:Int,av = .int z)∨((kd = "gain" ∨ kd = "lack")∧∃u:Str,av = .str u)
inductive HpR (cms:List (List Str))(t:Tab):Str->Int->V->Tab->Prop where
 | no {kd:Str} {th:Int} {av:V}:hpM t kd th=false->HpR cms t kd th av t
 | pl {kd:Str} {p:Nat} {z:Int} {t':Tab}:t.gone[p]?=some false->PlR t p z kd t'->HpR cms t kd (-1-(p:Int)) (.int z) t'
 | cr {kd:Str} {n:Nat} {av:V} {t':Tab}:(kd = "come" ∨ (n:Int)∈t.lying)->CrR cms t n av kd t'->HpR cms t kd (n:Int) av t'
def zojb (B:Addr):Sp:=λvs H Q _=>Ex10 λca tv ha (t:Tab) (np nc:Nat) (th:Int) (cms:List (List Str)) (kd:Str) av=>vs=[.ref ca,tv,.ref ha]∧CdsT B H ca cms∧TabT H tv t∧TOk np nc t∧H ha=some (.tup [.str kd,.int th,av]) ∧ -(np:Int)≤th∧th<nc∧cms.length=nc∧(th<0->kd∈zpg∧∃z:Int,av = .int z∧0≤z)∧(0≤th->CrK kd av)∧∀v' (t':Tab) H',Same H H'->TabT H' v' t'->HpR cms t kd th av t'->Q v' H'
theorem zegb (T:Tx K mg):FnOk P w K mg base CX0 7 T.zai.f T.zai.d ziu (zojb T.zub):=by
 refine T.zai.ok zmfb ?_;rintro f c A o s H vs Q E hr ⟨ca,tv,ha,t,np,nc,th,cms,kd,av,rfl,CD,TT,TO,eh,h1,h2,hc,kp,kc,q⟩ X;refine⟨_,  (zca (zyd (zsh (zng (zja (zzr T).up hr rfl T.zwe.m T.zwe.F.kp (ztx T) .nil zza (zaa (pv 1) (zaa (pv 2) zba)))))
   (zfa (zbb (pv 1)))
   zsb)
  (zca (zyd (zgb zikb (zra zwa (pv 2) zea (λ_ _=>rfl)) zea (zrb _))
   (zfa (zbb (zja (zlk T).up hr rfl T.zpb.m T.zpb.F.kp (zbm T) .nil zza (zaa (pv 1) (zaa (pv 2) zba)))))
   zsb)
  (zfa (zbb (zja (znm T) hr rfl T.zzb.m T.zzb.F.kp (zsn T) .nil zza (zaa (pv 0) (zaa (pv 1) (zaa (pv 2) zba)))))))),?_⟩
 refine⟨_,rfl,_,rfl,tv,ha,t,np,nc,kd,th,av,rfl,TT,TO,eh,h1,λH1 S1=>?_⟩;have eh1:=S1 _ _ eh;have TT1:=TT.kp (Kp.same S1);refine⟨_,rfl,ite2 (λc=>?_) (λc=>?_)⟩
 ·have c':hpM t kd th=false:=by simpa using c
  exact⟨_,rfl,q tv t H1 S1 TT1 (.no c')⟩
 have c':hpM t kd th=true:=by simpa using c
 refine⟨_,rfl,ha,_,_,_,rfl,rfl,SqT.of eh1,zka (j:=1) rfl,_,_,rfl,rfl,_,rfl,ite2 (λd=>?_) (λd=>?_)⟩
 ·have d':th<0:=of_decide_eq_true d;obtain⟨hk,z,rfl,z0⟩:=kp d';obtain⟨p,rfl⟩:∃p:Nat,th = -1-(p:Int):=⟨(-1-th).toNat,by omega⟩;have pn:p<np:=by omega
  obtain⟨g,hg⟩:=getx (xs:=t.gone) (by rw[TO.gone];exact pn);have g0:g=false:=by
   unfold hpM at c';rw[if_pos d',show (-1-(-1-(p:Int))).toNat=p by omega,ylb,hg] at c'
   simpa using c'
  refine⟨_,rfl,_,rfl,tv,ha,t,np,nc,p,kd,z,rfl,TT1,TO,eh1,pn,hk,z0,λv' t' H' S' TT' pr=>?_⟩;exact q v' t' H' (S1.trans S') TT' (.pl (by rw[hg,g0]) pr)
 ·have d':¬ th<0:=λz=>d (decide_eq_true z);obtain⟨n,rfl⟩:∃n:Nat,th=(n:Int):=⟨th.toNat,by omega⟩;have nn:n<nc:=by omega
  have hm:kd = "come" ∨ (n:Int)∈t.lying:=by
   unfold hpM at c';rw[if_neg d'] at c'
   rcases Bool.or_eq_true_iff.mp c' with z|z
   ·exact .inl (of_decide_eq_true z)
   ·exact .inr (of_decide_eq_true z)
  refine⟨_,rfl,_,rfl,_,rfl,ca,tv,ha,t,np,nc,n,cms,kd,av,rfl,CD.same S1,TT1,TO,eh1,nn,hc,kc (by omega),λv' t' H' S' TT' cr=>?_⟩;exact q v' t' H' (S1.trans S') TT' (.cr hm cr)
structure Pc where
 force:Nat
 marks:List Str
def PcT (B:Addr)(H:Hp)(v:V)(c:Pc):Prop:=Ex6 λa dx m tt (nm:Str) (k:Nat)=>v = .ref a∧H a=some (.ins B dx (cfs nm k c.force m tt))∧H m=some (.tup (sM c.marks))∧H tt=some (.tup [])
theorem zgjb {c:Crd}(h:c.ok)(h0:c.rules=[]):c.text.length≤2000:=by
 have b:=Crd.zqt h;show (ykc SL (ykc " " c.head::c.rules.map zwjb)).length≤2000
 have a:=zbo SL (ykc " " c.head::c.rules.map zwjb);rw[h0] at a ⊢;have e:SL.length=3:=rfl;rw[yrh,ygc,ylk,yub,e] at a;rw[yrh];simp at a;omega
def zkjb (B:Addr):Sp:=λvs H Q _=>∃c:Crd,vs=[.str c.text]∧c.ok∧c.rules=[]∧∀v H',Same H H'->PcT B H' v ⟨c.force,c.marks⟩->Q v H'
theorem ziw (T:Tx K mg):FnOk P w K mg base CX0 8 T.zee.f T.zee.d zwk (λ_ _ _ _=>False):=by
 refine T.zee.F.ok zbv (λvs H Q E h=>?_) (λcdv A outer s H vs Q E hr h=>?_)
 ·exact h.elim
 exact h.elim
theorem zbw (T:Tx K mg):FnOk P w K mg base CX0 9 T.zfe.f T.zfe.d zxk (zkjb T.zub):=by
 refine T.zfe.ok zqd ?_;rintro f c A o s H vs Q E hr ⟨c,rfl,ok,r0,q⟩ X;refine⟨_,  (zca (zyd (zsh (zng (zya ztk rfl T.zoe yzo (zaa (pv 0) (zaa (zyy (v:=.ty "str") rfl T.zgcb boot_str rfl) zba)))))
   (zfa zyg)
   zsb)
  (zca (zna (i:=1) zqd.nd rfl (.inl rfl) (zff yfg yej yfj zmt (pv 0) (zaa ztb zba)))
  (zca (zyd (zgb zorb (zya zcb rfl T.zvg ylc (zaa (pv 1) zba)) (zfb zxe zea (zdb (v:=.int 3) rfl T.zch ⟨_,rfl⟩)) (zrb _))
   (zfa zyg)
   zsb)
  (zca (zna (i:=2) zqd.nd rfl (.inl rfl) (zxfb T.zac.M (zjkb T).up hr rfl T.zqgb (ztn T) .nil zza (zaa (zra zjd (pv 1) zea (λ_ _=>rfl)) zba)))
  (zca (zna (i:=3) zqd.nd rfl (.inl rfl) (zei (pv 2) T.zpc T.zvb.M (zpl T).up hr (zum T) .nil zza))
  (zca (zna (i:=4) zqd.nd rfl (.inl rfl) (zei (pv 2) T.zpc T.zib.M (zuf T).up hr (ztg T) .nil zza))
  (zca (zna (i:=5) zqd.nd rfl (.inl rfl) (zei (pv 2) T.zpc T.zib.M (zuf T).up hr (ztg T) .nil zza))
  (zca (zna (i:=6) zqd.nd rfl (.inl rfl) (zja (zct T).up hr rfl T.zld.m T.zld.F.kp (zrx T) .nil zza (zaa (zei (pv 2) T.zpc T.zkc.M (zfi T).up hr (zmj T) .nil zza) zba)))
  (zca (zfc (zei (pv 2) T.zpc T.ztc.M (zjp T).up hr (zar T) .nil zza))
  (zfa (zbb (zxfb T.zec.M (zfpb T).up hr rfl T.zmmb (zcq T) .nil zza (zaa (pv 3) (zaa (pv 4) (zaa (pv 5) (zaa (pv 6) (zaa (zoa zma rfl T.zkb yvc (zaa (zuc (own:=["rule"]) (cap:=[]) rfl (zsa.chk rfl rfl) .nil (zic (zdi zkob (pv 1) (zjk zea) zkk)) (λ_ _ _ _=>(zda (i:=0) (show yjb (["rule"]:List Str) by decide +kernel) rfl (.inl rfl))) (λ_ _ _ _=>zyb) (λ_ _ _ _=>by exact (zja (ziw T) hr rfl T.zee.m T.zee.F.kp (zvz T) .nil zza (zaa (pv 0) zba)))) zba)) zba))))))))))))))))),?_⟩
 have tl:=zgjb ok r0;refine⟨_,rfl,_,_,.type "str",true,rfl,TyOf.str _,.inl ⟨"str",rfl,rfl⟩,true,rfl,?_⟩;refine iteF ?_;have es:ylg c.text " / " = [ykc " " c.head]:=by
  have z:=Crd.split ok;rw[r0] at z;exact z
 refine⟨_,rfl,rfl,_,_,rfl,rfl,(by decide +kernel),(yqb (yik tl 2) (by decide)),λl hl=>?_⟩;rw[es];refine laid hl λH1 S1 e1=>?_;refine⟨_,rfl,l,_,rfl,.inl (SqL.of e1),_,_,rfl,rfl,_,_,rfl,rfl,_,rfl,?_⟩;refine iteF ?_;refine⟨_,rfl,l,_,_,_,rfl,rfl,SqL.of e1,zka (j:=0) rfl,?_⟩;intro x dx nx ndx nex;have hl2:=Crd.zqt ok;refine⟨x,dx,_,rfl,zua,(by omega),λH2 W2 B2=>⟨rfl,?_⟩⟩;rw[show ylg (ykc " " c.head) " " = c.head from Crd.zrdb ok] at W2;have S2:Same H1 H2:=λb o e=>B2 b o (zga e nx) (by rw[zta (zga e nx),zta (zga e ndx)];exact e);obtain⟨dx2,l2,at2,_⟩:=id W2;refine⟨_,rfl,x,dx2,_,rfl,at2,zlo _ _ (by decide +kernel) (by decide +kernel),x,c.head,0,c.name,rfl,W2,rfl,ok.name,λH3 W3 B3=>?_⟩;obtain⟨dx3,l3,at3,_⟩:=id W3;refine⟨_,rfl,x,dx3,_,rfl,at3,zlo _ _ (by decide +kernel) (by decide +kernel),x,c.head,1,c.cost,rfl,W3,rfl,ok.cost,λH4 W4 B4=>?_⟩;obtain⟨dx4,l4,at4,_⟩:=id W4;refine⟨_,rfl,x,dx4,_,rfl,at4,zlo _ _ (by decide +kernel) (by decide +kernel),x,c.head,2,c.force,rfl,W4,rfl,ok.force,λH5 W5 B5=>?_⟩;obtain⟨dx5,l5,at5,_⟩:=id W5;refine⟨_,rfl,x,dx5,_,rfl,at5,zlo _ _ (by decide +kernel) (by decide +kernel),x,c.head,3,zah c.marks,rfl,W5,rfl,λH6 W6 B6=>?_⟩;refine⟨c.marks,rfl,ok.marks,λm H7 S7 em=>?_⟩;have W7:=W6.at S7;obtain⟨dx7,l7,at7,_⟩:=id W7;refine⟨_,rfl,x,dx7,_,rfl,at7,zlo _ _ (by decide +kernel) (by decide +kernel),x,c.head,rfl,W7,?_⟩;have S37:Same H H7:=λb o e=>by
  have n:=zga (S1 _ _ e) nx;exact S7 _ _ (B6 _ _ n (B5 _ _ n (B4 _ _ n (B3 _ _ n (S2 _ _ (S1 _ _ e))))))
 have nlx:=zga e1 nx;have e7:H7 l=some (.lst ([ykc " " c.head].map V.str)):=S7 _ _ (B6 _ _ nlx (B5 _ _ nlx (B4 _ _ nlx (B3 _ _ nlx (S2 _ _ e1)))));clear W2 W3 W4 W5 W6 at2 at3 at4 at5;refine⟨_,rfl,_,rfl,_,rfl,_,rfl,_,rfl,_,rfl,l,_,rfl,SqL.of e7,λs1 hs1=>?_⟩;have ct:cutV ([ykc " " c.head].map V.str) (some (1:Int)) none=[]:=rfl;rw[ct];refine laid hs1 λH8 S8 e8=>?_;refine⟨s1,rfl,⟨_,SqL.of e8⟩,?_⟩;refine zoc (xs:=[]) (λi ys H'=>H'=H8∧ys=[]) (λi ys H' z=>by rw[z.1];exact SqL.of e8) ⟨rfl,rfl⟩ ?_ ?_ ?_
 ·rintro i ys H' ⟨_,rfl⟩;exact ycb _
 ·intro i v ys H' hx;cases hx
 ·rintro ys H9 ⟨rfl,rfl⟩ b hb;refine laid hb λH10 S10 e10=>?_;refine⟨b,_,rfl,.inl ⟨SqL.of e10,λt ht=>?_⟩⟩;refine laid ht λH11 S11 e11=>?_;have Sall:Same H H11:=S37.trans (S8.trans (S10.trans S11));have em11:=(S8.trans (S10.trans S11)) _ _ em;intro y dy ny ndy ney;have S12:∀o,Same H11 (upd (upd (upd H11 dy (.own y)) y (.ins T.zub dy [])) y o):=λo b u e=>by
   rw[zno,zta (zga e ny),zta (zga e ndy)];exact e
  refine⟨y,dy,m,t,c.name,c.cost,c.force,rfl,zua,rfl,?_⟩;exact q _ _ (Sall.trans (S12 _)) ⟨y,dy,m,t,c.name,c.cost,rfl,zua,S12 _ _ _ em11,S12 _ _ _ e11⟩
theorem zis {K:yea}{a:Addr}{xs:List V}{H1:Hp}{g:TG}{tt:TT}{te:TE}{n:Nat}{js:List Nat}{σ:L2.St}{Q:VK}(Pv:Nat->List V->Hp->Prop)(hl:∀i ys H,Pv i ys H->SqT K H a xs)(h0:Pv 0 [] H1)(hz:∀i ys H,Pv i ys H->ys.length≤yxa)
  (hs:∀i x ys H p,xs[i]?=some x->Pv i ys H->H p=none->g (.ref p) (zzd n js σ) (upd H p (.tup [.int (i:Int),x])) fun σ2 H2=>σ2.drop n=(zzd n js σ).drop n∧tt σ2 H2 λb H3=>if b=true then te σ2 H3 λy H4=>Pv (i+1) (ys++[y]) H4 else Pv (i+1) ys H3)
  (hd:∀ys H,Pv xs.length ys H->∀p,H p=none->Q (.ref p) (upd H p (.lst ys))):zpu (Ite K a) H1 g tt te n js σ Q:=by
 refine⟨λi m ys H=>m=xs.length-i∧i≤xs.length∧Pv i ys H,⟨xs.length,rfl,ycb _,h0⟩,?_⟩;rintro i m ys H ⟨rfl,hi,pv⟩;have sq:=hl i ys H pv
 by_cases lt:i<xs.length
 ·have ex:xs[i]?=some xs[i]:=ybb lt;refine .inr ⟨⟨xs,xs[i],sq,ex⟩,hz i ys H pv,Pv (i+1),λys' H' z=>⟨xs.length-(i+1),by omega,rfl,lt,z⟩,λx H' y=>?_⟩;obtain⟨p,v,hp,rfl,rfl,hv⟩:=y;exact hs i v ys H p (hv xs sq) pv hp
 ·obtain rfl:i=xs.length:=by omega
  exact .inl ⟨⟨xs,sq,yha _⟩,hz _ ys H pv,hd ys H pv⟩
theorem PcT.kp {B:Addr}{H H':Hp}(s:Kp H H'){v:V}{c:Pc}(h:PcT B H v c):PcT B H' v c:=by
 obtain⟨a,dx,m,tt,nm,k,e,h1,h2,h3⟩:=h;exact⟨a,dx,m,tt,nm,k,e,s _ _ (λ_ z=>by cases z) h1,s.t h2,s.t h3⟩
theorem PcT.cm {B:Addr}{H:Hp}{v:V}{c:Pc}(h:PcT B H v c):CmT B H v c.marks:=by
 obtain⟨a,dx,m,tt,nm,k,e,h1,h2,h3⟩:=h;exact⟨a,dx,m,tt,nm,k,c.force,e,h1,h2⟩
theorem zfx (n:Str)(c f:Nat)(m t:Addr):(cfs n c f m t).lookup ("force":Str)=some (.int f):=(zkd (by decide +kernel)).trans ((zkd (by decide +kernel)).trans zrl)
theorem zex (n:Str)(c f:Nat)(m t:Addr):(cfs n c f m t).lookup ("rules":Str)=some (.ref t):=(zkd (by decide +kernel)).trans ((zkd (by decide +kernel)).trans ((zkd (by decide +kernel)).trans ((zkd (by decide +kernel)).trans zrl)))
def oM (os:List Nat):List V:=os.map λo=>V.int ((o:Nat):Int)
structure GC (B:Addr)(H:Hp)(ca oa:Addr)(cs:List Pc)(os:List Nat):Prop where
 c:∃cvs:List V,H ca=some (.lst cvs)∧All2 (PcT B H) cvs cs
 o:H oa=some (.lst (oM os))
 l:os.length=cs.length
 n:cs.length≤16
 k:∀m∈cs.map (·.marks),m.length≤40∧∀s∈m,zqc s
theorem GC.same {B:Addr}{H H':Hp}(s:Same H H'){ca oa:Addr}{cs:List Pc}{os:List Nat}(h:GC B H ca oa cs os):GC B H' ca oa cs os:=by
 obtain⟨⟨cvs,h1,h2⟩,h3,h4,h5,h6⟩:=h;exact⟨⟨cvs,s _ _ h1,h2.imp λz=>z.kp (Kp.same s)⟩,s _ _ h3,h4,h5,h6⟩
theorem zmlb {α β γ:Type}{R:α->β->Prop}{S:α->γ->Prop}{f:β->γ}(i:∀{a b},R a b->S a (f b)){as:List α}{bs:List β}(z:All2 R as bs):All2 S as (bs.map f):=by
 induction z with
 | nil=>exact .nil
 | cons h _ ih=>exact .cons (i h) ih
theorem GC.cds {B:Addr}{H:Hp}{ca oa:Addr}{cs:List Pc}{os:List Nat}(h:GC B H ca oa cs os):CdsT B H ca (cs.map (·.marks)):=by
 obtain⟨⟨cvs,h1,h2⟩,_⟩:=h;exact⟨cvs,h1,zmlb (λz=>z.cm) h2⟩
structure TI (np nc:Nat)(t:Tab):Prop where
 ok:TOk np nc t
 nd:(t.lying++t.heap).Nodup
 rg:∀n∈t.lying,0≤n∧n<nc
 hr:∀n∈t.heap,0≤n∧n<nc
 so:t.heap.Pairwise (· ≤ ·)
 nm:∀m∈t.marks,∀s∈m,zqc s
def RwN (B:Addr)(H:Hp)(cs:List Pc)(os:List Nat)(ms:List (List Str))(u:V)(n:Int):Prop :=
 Ex8 λa m cv (k o:Nat) (came:Int) (c:Pc) (mm:List Str)=>u = .ref a∧n=(k:Int)∧cs[k]?=some c∧os[k]?=some o∧ms[k]?=some mm∧H a=some (.tup [.int (k:Int),cv,.int (o:Int),.int came,.ref m])∧PcT B H cv c∧H m=some (.tup (sM mm))
theorem RwN.kp {B:Addr}{H H':Hp}(s:Kp H H'){cs:List Pc}{os:List Nat}{ms:List (List Str)}{u:V}{n:Int}(h:RwN B H cs os ms u n):RwN B H' cs os ms u n:=by
 obtain⟨a,m,cv,k,o,came,c,mm,e,e1,e2,e3,e4,h1,h2,h3⟩:=h;exact⟨a,m,cv,k,o,came,c,mm,e,e1,e2,e3,e4,s.t h1,h2.kp s,s.t h3⟩
def SgN (H:Hp)(cs:List Pc)(os:List Nat)(ms:List (List Str))(u:V)(n:Int):Prop :=
 Ex6 λa m (k o:Nat) (c:Pc) (mm:List Str)=>u = .ref a∧n=(k:Int)∧cs[k]?=some c∧os[k]?=some o∧ms[k]?=some mm∧H a=some (.tup [.int (k:Int),.int (o:Int),.ref m,.int (c.force:Int),.bl false])∧H m=some (.tup (sM mm))
theorem SgN.kp {H H':Hp}(s:Kp H H'){cs:List Pc}{os:List Nat}{ms:List (List Str)}{u:V}{n:Int}(h:SgN H cs os ms u n):SgN H' cs os ms u n:=by
 obtain⟨a,m,k,o,c,mm,e,e1,e2,e3,e4,h1,h3⟩:=h;exact⟨a,m,k,o,c,mm,e,e1,e2,e3,e4,s.t h1,s.t h3⟩
def numG (H:Hp):V->List Int
 | .ref a=>match H a with
  | some (.tup (.int n::_))=>[n]
  | _=>[]
 | _=>[]
theorem SgN.num {H:Hp}{cs:List Pc}{os:List Nat}{ms:List (List Str)}{u:V}{n:Int}(h:SgN H cs os ms u n):numG H u=[n]:=by
 obtain⟨a,m,k,o,c,mm,rfl,rfl,e2,e3,e4,h1,h3⟩:=h;show (match H a with
  | some (.tup (.int n::_))=>[n]
  | _=>[])=[(k:Int)]
 rw[h1]
theorem zifb {H:Hp}{cs:List Pc}{os:List Nat}{ms:List (List Str)}{vs:List V}{ns:List Int}(z:All2 (SgN H cs os ms) vs ns):vs.map (numG H)=ns.map λn=>[n]:=by
 induction z with
 | nil=>rfl
 | cons h _ ih=>rw[ygc,ygc,h.num,ih]
theorem zrrb {a b:Int}(h:([a]:List Int)<[b]):a<b:=by
 rcases ywj.mp h with z|⟨_,z⟩
 ·exact z
 ·exact absurd z (List.lt_irrefl _)
theorem zidb {ns:List Int}(h:ns.Nodup):(ns.map λn=>[n]).Nodup:=by
 refine yxq.mpr (ych ?_ h);intro a b n z;injection z with z
 exact n z
def zjjb (B:Addr):Sp:=λvs H Q _=>Ex8 λca oa tv (t:Tab) (np nc:Nat) (cs:List Pc) (os:List Nat)=>vs=[.ref ca,.ref oa,tv]∧GC B H ca oa cs os∧TabT H tv t∧TI np nc t∧cs.length=nc∧∀p us H',Same H H'->H p=none->H' p=some (.lst us)->All2 (RwN B H' cs os t.marks) us t.lying->Q (.ref p) H'
def SgP (B:Addr)(H:Hp)(cs:List Pc)(os:List Nat)(ms:List (List Str))(ly:List Int)(Q:VK):Prop:=∀p out (ns:List Int) H',Same H H'->H p=none->H' p=some (.lst out)->All2 (SgN H' cs os ms) out ns->ns.Perm ly->ns.Pairwise (· < ·)->Q (.ref p) H'
def zzeb (B:Addr):Sp:=λvs H Q _=>Ex6 λl us (cs:List Pc) (os:List Nat) (ms:List (List Str)) (ly:List Int)=>vs=[.ref l]∧H l=some (.lst us)∧All2 (RwN B H cs os ms) us ly∧ly.length≤16∧ly.Nodup∧SgP B H cs os ms ly Q
def zgob (B:Addr):Sp:=λvs H Q _=>Ex6 λl us (cs:List Pc) (os:List Nat) (ms:List (List Str)) (ly:List Int)=>vs=[.ref l]∧H l=some (.lst us)∧All2 (RwN B H cs os ms) us ly∧ly.length≤16∧∀p H',Same H H'->H p=none->H' p=some (.lst [])->Q (.ref p) H'
def zdob (B:Addr):Sp:=λvs H Q _=>Ex6 λl us (cs:List Pc) (os:List Nat) (ms:List (List Str)) (ly:List Int)=>vs=[.ref l]∧H l=some (.lst us)∧All2 (RwN B H cs os ms) us ly∧ly.length≤16∧ly.Nodup∧SgP B H cs os ms ly (λv H1=>∀t o H',Same H1 H'->H' t=some (.tup [v,.ref o])->Q (.ref t) H')
def zxqb (B:Addr):Sp:=λvs H Q _=>Ex8 λca oa tv (t:Tab) (np nc:Nat) (cs:List Pc) (os:List Nat)=>vs=[.ref ca,.ref oa,tv]∧GC B H ca oa cs os∧TabT H tv t∧TI np nc t∧cs.length=nc∧SgP B H cs os t.marks t.lying Q
theorem zwj (T:Tx K mg):FnOk P w K mg base CX0 2 T.zvc.f T.zvc.d zlq (zjjb T.zub):=by
 refine T.zvc.ok zkr ?_;rintro f c A o s H vs Q E hr ⟨ca,oa,tv,t,np,nc,cs,os,rfl,GG,TT,TI0,hc,q⟩ X;obtain⟨a,v0,v1,v2,v3,v4,v5,v6,v7,v8,rfl,ea,TP⟩:=TT;obtain⟨b5,rfl,e5⟩:=TP.p5;obtain⟨b7,u7,rfl,e7,al7⟩:=TP.p7;obtain⟨⟨cvs,ec,alc⟩,eo,ol,n16,_⟩:=GG;have ly:=TI0.ok.ly;refine⟨_,  (zca (zna (i:=3) zkr.nd rfl (.inr rfl) (zra zwa (pv 2) (zdb (v:=.int 7) rfl T.zki ⟨_,rfl⟩) (λ_ _=>rfl)))
  (zfa (zbb (zuc (own:=["came","number"]) (cap:=["cards","owners","marks"]) rfl (zsa.chk rfl rfl) (.cons (j:=0) rfl (.inl rfl) (.inl rfl) (.cons (j:=1) rfl (.inl rfl) (.inl rfl) (.cons (j:=3) rfl (.inl rfl) (.inl rfl) .nil))) (zzn rfl T.zce (zaa (zra zwa (pv 2) (zdb (v:=.int 5) rfl T.zof ⟨_,rfl⟩) (λ_ _=>rfl)) zba)) (λ_ _ _ _=>(zmm K (n:=2) rfl (zla (zda (i:=0) (show yjb (["came","number","cards","owners","marks"]:List Str) by decide +kernel) rfl (.inl rfl)) (zla (zda (i:=1) (show yjb (["came","number","cards","owners","marks"]:List Str) by decide +kernel) rfl (.inl rfl)) zfd)))) (λ_ _ _ _=>zyb) (λ_ _ _ _=>by exact (znb (zaa (pv 1) (zaa (zra (zyj K) (pv 2) (pv 1) (λ_ _=>rfl)) (zaa (zra (zyj K) (pv 3) (pv 1) (λ_ _=>rfl)) (zaa (pv 0) (zaa (zra (zwb K) (pv 4) (pv 1) (λ_ _=>rfl)) zba))))))))))),?_⟩
 refine⟨_,rfl,a,_,_,_,rfl,rfl,SqT.of ea,zka (j:=7) rfl,?_⟩;refine⟨_,rfl,a,_,_,_,rfl,rfl,SqT.of ea,zka (j:=5) rfl,b5,_,rfl,SqT.of e5,?_⟩;refine zis (xs:=iM t.lying) (λi ys H'=>Same H H'∧i≤t.lying.length∧All2 (RwN T.zub H' cs os t.marks) ys (t.lying.take i)) (λi ys H' z=>SqT.of (z.1 _ _ e5)) ⟨Same.refl _,ycb _,.nil⟩ ?_ ?_ ?_
 ·rintro i ys H' ⟨_,hi,hy⟩;have:=hy.len;rw[ywa] at this;exact small (by omega)
 ·rintro i v ys H' pp hv ⟨S,_,hy⟩ hp;unfold iM at hv;rw[yla] at hv;obtain⟨x,hx,rfl⟩:=ygb.mp hv;have hi:i<t.lying.length:=(yga.mp hx).1;obtain⟨x0,x1⟩:=TI0.rg x (yta hx);obtain⟨k,rfl⟩:∃k:Nat,x=(k:Int):=⟨x.toNat,by omega⟩;obtain⟨c,hcc⟩:=getx (xs:=cs) (i:=k) (by omega);obtain⟨o,ho⟩:=getx (xs:=os) (i:=k) (by omega);obtain⟨mm,hm⟩:=getx (xs:=t.marks) (i:=k) (by rw[TI0.ok.marks];omega);obtain⟨cv,hcv,pc⟩:=alc.get2 hcc;obtain⟨_,hmv,mb,rfl,emb⟩:=al7.get2 (b:=sM mm) (by rw[yla,hm];rfl);refine laid hp λH1 S1 e1=>?_;have S01:=S.trans S1;refine⟨pp,_,rfl,SqT.of e1,rfl,_,_,rfl,_,_,rfl,rfl,rfl,?_⟩;refine⟨_,rfl,_,rfl,_,rfl,ca,_,_,_,rfl,rfl,SqL.of (S01 _ _ ec),zka hcv,_,rfl,_,rfl,oa,_,_,_,rfl,rfl,SqL.of (S01 _ _ eo),zze ho,_,rfl,_,rfl,_,rfl,b7,_,_,_,rfl,rfl,SqT.of (S01 _ _ e7),zka hmv,sz5,λr hr'=>?_⟩;refine laid hr' λH2 S2 e2=>?_;refine⟨S01.trans S2,hi,?_⟩;rw[yqa,hx];have k2:=Kp.same (S01.trans S2);exact All2.snoc ⟨r,mb,cv,k,o,(i:Int),c,mm,rfl,rfl,hcc,ho,hm,e2,pc.kp k2,k2.t emb⟩ (hy.imp λz=>z.kp (Kp.same (S1.trans S2)))
 ·rintro ys H' ⟨S,_,hy⟩ p hp;have e:(t.lying.take (iM t.lying).length)=t.lying:=by
   unfold iM;rw[yca,yrb]
  rw[e] at hy;refine laid hp λH2 S2 e2=>?_;exact q p ys H2 (S.trans S2) (none_of S hp) e2 (hy.imp λz=>z.kp (Kp.same S2))
theorem zxq (T:Tx K mg):FnOk P w K mg base CX0 2 T.zcd.f T.zcd.d zoi (zzeb T.zub):=by
 refine T.zcd.ok zvq ?_;rintro f c A o s H vs Q E hr ⟨l,us,cs,os,ms,ly,rfl,el,LY,h16,hnd,q⟩ X;have ul:=LY.len;refine⟨_,  (zfa (zbb (zya zpf rfl T.zae yvh (zaa (zuc (own:=["number","card","keeper","came","marks"]) (cap:=[]) rfl (zsa.chk rfl rfl) .nil (zic (pv 0)) (λ_ _ _ _=>(zmm K (n:=5) rfl (zla (zda (i:=0) (show yjb (["number","card","keeper","came","marks"]:List Str) by decide +kernel) rfl (.inl rfl)) (zla (zda (i:=1) (show yjb (["number","card","keeper","came","marks"]:List Str) by decide +kernel) rfl (.inl rfl)) (zla (zda (i:=2) (show yjb (["number","card","keeper","came","marks"]:List Str) by decide +kernel) rfl (.inl rfl)) (zla (zda (i:=3) (show yjb (["number","card","keeper","came","marks"]:List Str) by decide +kernel) rfl (.inl rfl)) (zla (zda (i:=4) (show yjb (["number","card","keeper","came","marks"]:List Str) by decide +kernel) rfl (.inl rfl)) zfd))))))) (λ_ _ _ _=>zyb) (λ_ _ _ _=>by exact (znb (zaa (pv 0) (zaa (pv 2) (zaa (zoa (zlh K) rfl T.zkb yvc (zaa (pv 4) zba)) (zaa (zxy K (pv 1) rfl) (zaa zzy zba)))))))) zba)))),?_⟩;refine⟨_,rfl,l,rfl,⟨_,SqL.of el⟩,?_⟩;refine zoc (xs:=us) (λi ys H'=>Same H H'∧i≤us.length∧All2 (SgN H' cs os ms) ys (ly.take i)) (λi ys H' z=>SqL.of (z.1 _ _ el)) ⟨Same.refl _,ycb _,.nil⟩ ?_ ?_ ?_
 ·rintro i ys H' ⟨_,hi,hy⟩;have:=hy.len;rw[ywa] at this;exact small (by omega)
 ·rintro i u ys H' hu ⟨S,_,hy⟩;have hi:i<us.length:=(yga.mp hu).1;obtain⟨n,en,rw1⟩:=LY.get hu;obtain⟨a,m,cv,k,o,came,c,mm,rfl,rfl,e2,e3,e4,ea,pc,em⟩:=rw1.kp (Kp.same S);obtain⟨cd,dx,m2,tt,nm,kk,rfl,ecd,_⟩:=pc;refine⟨a,_,rfl,SqT.of ea,rfl,_,_,rfl,_,_,rfl,_,_,rfl,_,_,rfl,_,_,rfl,rfl,rfl,?_⟩;refine⟨_,rfl,_,rfl,_,rfl,m,_,rfl,.inr ⟨SqT.of em,?_⟩⟩;refine⟨_,rfl,cd,_,dx,_,_,rfl,ecd,T.zye,T.zse,zfx _ _ _ _ _,sz5,λt ht=>?_⟩;refine laid ht λH3 S3 e3'=>?_;refine⟨S.trans S3,hi,?_⟩;rw[yqa,en];exact All2.snoc ⟨t,m,k,o,c,mm,rfl,rfl,e2,e3,e4,e3',S3 _ _ em⟩ (hy.imp λz=>z.kp (Kp.same S3))
 ·rintro ys H' ⟨S,_,hy⟩ p hp;rw[yfb (by omega)] at hy;refine laid hp λH2 S2 e2=>?_;have hy2:All2 (SgN H2 cs os ms) ys ly:=hy.imp λz=>z.kp (Kp.same S2);have yl:=hy2.len;refine⟨p,ys,numG H2,1,rfl,SqL.of e2,by omega,by decide,λu hu=>?_,?_,λp' out hp' po so=>?_⟩
  ·obtain⟨r,_,sg⟩:=hy2.mem hu;have en:=sg.num;obtain⟨a,m,k,o,c,mm,rfl,rfl,_,_,_,h1,_⟩:=sg;exact⟨a,[(k:Int)],_,rfl,SqT.of h1,en,rfl⟩
  ·rw[zifb hy2];exact zidb hnd
  ·obtain⟨ns,h1,h2⟩:=hy2.perm po;refine laid hp' λH3 S3 e3=>?_;refine q p' out ns H3 (S.trans (S2.trans S3)) (none_of (S.trans S2) hp') e3 (h1.imp λz=>z.kp (Kp.same S3)) h2 ?_;rw[zifb h1] at so;exact ych (λz=>zrrb z) (yxq.mp so)
theorem zgdb (T:Tx K mg)(kb:K.In base):FnOk P w K mg base CX0 2 T.zig.f T.zig.d ztq (zgob T.zub):=by
 refine T.zig.ok zud ?_;rintro f c A o s H vs Q E hr ⟨l,us,cs,os,ms,ly,rfl,el,LY,h16,q⟩ X;refine⟨_,  (zca (zna (i:=1) zud.nd rfl (.inl rfl) (zlc zba))
  (zca (zlf ydc rfl (zic (pv 0)) (zzg (n:=5) rfl (zla (zda (i:=2) zud.nd rfl (.inl rfl)) (zla (zda (i:=3) zud.nd rfl (.inl rfl)) (zla (zda (i:=4) zud.nd rfl (.inl rfl)) (zla (zda (i:=5) zud.nd rfl (.inl rfl)) (zla (zda (i:=6) zud.nd rfl (.inl rfl)) zfd))))))
   (zfa (zlf ydc rfl (zzn rfl T.zce (zaa (zti (pv 3) rfl) zba)) (zzg (n:=2) rfl (zla (zda (i:=7) zud.nd rfl (.inl rfl)) (zla (zda (i:=8) zud.nd rfl (.inl rfl)) zfd)))
    (zfa (zyd (zgb zth (zra zwa (pv 8) zea (λ_ _=>rfl)) ztb (zrb _))
     (zfa (zfc (zff yya ymb ynb zbc (pv 1) (zaa (znb (zaa (zra (zlsb (zocb T kb)) (zdb (v:=.ref T.zcm) rfl T.zdo rfl) (zra zwa (pv 8) zea (λ_ _=>rfl)) (λ_ _=>rfl)) (zaa (pv 5) (zaa (pv 2) (zaa (pv 7) zba))))) zba))))
     zsb)))))
  (zfa (zbb (zya zpf rfl T.zae yvh (zaa (pv 1) zba)))))),?_⟩
 refine⟨sz0,λf hf=>?_⟩;refine laid hf λH1 S1 e1=>?_;refine⟨_,rfl,l,rfl,⟨_,SqL.of (S1 _ _ el)⟩,?_⟩;refine zdh (xs:=us) (λi σ H'=>Ex7 λ(o2 o3 o4 o5 o6 o7 o8:Option V)=>σ=[some (.ref l),some (.ref f),o2,o3,o4,o5,o6,o7,o8]∧Same H1 H') ⟨_,_,_,_,_,_,_,rfl,Same.refl _⟩ (λi σ H' _ ⟨_,_,_,_,_,_,_,_,S⟩=>SqL.of (S _ _ (S1 _ _ el))) ?_ ?_
 ·rintro i u σ H' hu ⟨o2,o3,o4,o5,o6,o7,o8,rfl,S⟩;obtain⟨n,en,rw1⟩:=LY.get hu;obtain⟨a,m,cv,k,o,came,c,mm,rfl,rfl,e2,e3,e4,ea,pc,em⟩:=rw1.kp (Kp.same (S1.trans S));obtain⟨cd,dx,m2,tt,nm,kk,rfl,ecd,_,ett⟩:=pc;refine⟨a,_,rfl,SqT.of ea,rfl,_,_,rfl,_,_,rfl,_,_,rfl,_,_,rfl,_,_,rfl,rfl,?_⟩;refine⟨_,rfl,cd,_,dx,_,_,rfl,ecd,T.zye,T.zre,zex _ _ _ _ _,tt,_,rfl,SqT.of ett,?_⟩;refine zbx (xs:=[]) (λi σ Hx=>Ex2 λ(o7 o8:Option V)=>σ=[some (.ref l),some (.ref f),some (.int (k:Int)),some (.ref cd),some (.int (o:Int)),some (.int came),some (.ref m),o7,o8]∧Hx=H') ⟨_,_,rfl,rfl⟩ (λi σ Hx _ ⟨_,_,_,e⟩=>by rw[e];exact SqT.of ett) ?_ ?_
  ·intro i x σ Hx p hx;cases hx
  ·rintro σ Hx ⟨o7,o8,rfl,rfl⟩;exact⟨_,_,_,_,_,_,_,rfl,S⟩
 ·rintro σ H' ⟨o2,o3,o4,o5,o6,o7,o8,rfl,S⟩;have ef:=S _ _ e1;refine⟨_,rfl,f,[],(λ_=>[]),1,rfl,SqL.of ef,(by decide),by decide,(λ_ h=>nomatch h),yjk.nil,λp out hp po _=>?_⟩;have eo:out=[]:=ygq.mp po;subst eo;refine laid hp λH2 S2 e2=>?_;exact q p H2 (S1.trans (S.trans S2)) (none_of (S1.trans S) hp) e2
theorem zkdb (T:Tx K mg):FnOk P w K mg base CX0 4 T.zeg.f T.zeg.d zoq (λ_ _ _ _=>False):=by
 refine T.zeg.F.ok zvcb (λvs H Q E h=>?_) (λcdv A outer s H vs Q E hr h=>?_)
 ·exact h.elim
 exact h.elim
theorem zmkb (T:Tx K mg):FnOk P w K mg base CX0 4 T.zdk.f T.zdk.d zjab (λ_ _ _ _=>False):=by
 refine T.zdk.F.ok zsjb (λvs H Q E h=>?_) (λcdv A outer s H vs Q E hr h=>?_)
 ·exact h.elim
 exact h.elim
theorem zjgb (T:Tx K mg):FnOk P w K mg base CX0 4 T.zci.f T.zci.d zku (λ_ _ _ _=>False):=by
 refine T.zci.F.ok zofb (λvs H Q E h=>?_) (λcdv A outer s H vs Q E hr h=>?_)
 ·exact h.elim
 exact h.elim
theorem zedb (T:Tx K mg)(kb:K.In base):FnOk P w K mg base CX0 5 T.zfg.f T.zfg.d zpq (zdob T.zub):=by
 refine T.zfg.ok zqe ?_;rintro f c A o s H vs Q E hr ⟨l,us,cs,os,ms,ly,rfl,el,LY,h16,hnd,q⟩ X;refine⟨_,  (zca (zna (i:=1) zqe.nd rfl (.inl rfl) (zja (zxq T).up hr rfl T.zcd.m T.zcd.F.kp (zbu T) .nil zza (zaa (pv 0) zba)))
  (zca (zna (i:=2) zqe.nd rfl (.inl rfl) (zlc zba))
  (zca (zna (i:=3) zqe.nd rfl (.inl rfl) (zja (zgdb T kb).up hr rfl T.zig.m T.zig.F.kp (zfib T) .nil zza (zaa (pv 0) zba)))
  (zca (zlf ydc rfl (zqb rfl T.zgc (zaa (zdb (v:=.int 5) rfl T.zzf ⟨_,rfl⟩) zba)) (zda (i:=4) zqe.nd rfl (.inr rfl))
   (zca (zwd (i:=5) zqe.nd rfl (.inl rfl) (own:=["change"]) (cap:=["layer"]) rfl (zsa.chk rfl rfl) (.cons (j:=4) rfl (.inl rfl) (.inl rfl) .nil) (zic (pv 3)) (λ_ _ _ _=>(zda (i:=0) (show yjb (["change","layer"]:List Str) by decide +kernel) rfl (.inl rfl))) (λ_ _ _ _=>zmg (zgb zth (zra (zwb K) (pv 0) zea (λ_ _=>rfl)) (pv 1) (zrb _))) (λ_ _ _ _=>by exact (pv 0)))
   (zfa (zzs ydc (znbb (pv 5) (λ_=>rfl))
    (zca (zna (i:=6) zqe.nd rfl (.inl rfl) (zja (zkdb T) hr rfl T.zeg.m T.zeg.F.kp (zcib T) .nil zza (zaa (pv 0) (zaa (pv 1) (zaa (pv 5) zba)))))
    (zca (zfc (zff yya ymb ynb zbc (pv 2) (zaa (znb (zaa (pv 6) (zaa (zja (zmkb T) hr rfl T.zdk.m T.zdk.F.kp (zwpb T) .nil zza (zaa (pv 0) (zaa (pv 1) (zaa (pv 6) zba)))) zba))) zba)))
    (zca (zna (i:=1) zqe.nd rfl (.inl rfl) (zja (zjgb T) hr rfl T.zci.m T.zci.F.kp (zllb T) .nil zza (zaa (pv 0) (zaa (pv 1) (zaa (pv 6) zba)))))
    (zfa (zfc (zff yya PySem.F.slot_list_remove PySem.F.type_list_remove (zmdb hr.units) (pv 5) (zaa (pv 6) zba)))))))))))
  (zfa (zbb (znb (zaa (pv 1) (zaa (pv 2) zba))))))))),?_⟩
 refine⟨_,rfl,l,us,cs,os,ms,ly,rfl,el,LY,h16,hnd,λp out ns H1 S1 np1 e1 al pn so=>?_⟩;refine⟨sz0,λod hod=>?_⟩;refine laid hod λH2 S2 e2=>?_;have S02:=S1.trans S2;refine⟨_,rfl,l,us,cs,os,ms,ly,rfl,S02 _ _ el,LY.imp λz=>z.kp (Kp.same S02),h16,λev H3 S3 nev e3=>?_⟩;refine⟨5,rfl,by decide,by decide,?_⟩;refine zrg (lo:=0) (n:=5) (λi σ Hx=>Ex3 λ(o4 o5 o6:Option V)=>σ=[some (.ref l),some (.ref p),some (.ref od),some (.ref ev),o4,o5,o6]∧Same H3 Hx) ⟨_,_,_,rfl,Same.refl _⟩ ?_ ?_
 ·rintro i σ Hx hi ⟨o4,o5,o6,rfl,S⟩;refine⟨_,rfl,ev,rfl,⟨_,SqL.of (S _ _ e3)⟩,?_⟩;refine zoc (xs:=[]) (λi ys H'=>H'=Hx∧ys=[]) (λi ys H' z=>by rw[z.1];exact SqL.of (S _ _ e3)) ⟨rfl,rfl⟩ ?_ ?_ ?_
  ·rintro i ys H' ⟨_,rfl⟩;exact ycb _
  ·intro i v ys H' hx;cases hx
  ·rintro ys H9 ⟨rfl,rfl⟩ b hb;refine laid hb λH10 S10 e10=>?_;refine⟨λm σ H'=>σ=[some (.ref l),some (.ref p),some (.ref od),some (.ref ev),some (.int (0+(i:Int))),some (.ref b),o6]∧H'=H10,⟨0,rfl,rfl⟩,?_⟩;rintro m σ H' ⟨rfl,rfl⟩;refine⟨_,rfl,_,.inl ⟨_,SqL.of e10,rfl⟩,?_⟩;exact iteF ⟨_,_,_,rfl,S.trans S10⟩
 ·rintro σ Hx ⟨o4,o5,o6,rfl,S⟩;refine⟨_,rfl,_,rfl,sz2,λt ht=>?_⟩;refine laid ht λH5 S5 e5=>?_;exact q p out ns H1 S1 np1 e1 al pn so t od H5 (S2.trans (S3.trans (S.trans S5))) e5
theorem zdp (T:Tx K mg)(kb:K.In base):FnOk P w K mg base CX0 6 T.zsd.f T.zsd.d zvm (zxqb T.zub):=by
 refine T.zsd.ok zky ?_;rintro f c A o s H vs Q E hr ⟨ca,oa,tv,t,np,nc,cs,os,rfl,GG,TT,TI0,hc,q⟩ X;refine⟨_,  (zfa (zbb (zra zwa (zja (zedb T kb) hr rfl T.zfg.m T.zfg.F.kp (zdib T) .nil zza (zaa (zja (zwj T).up hr rfl T.zvc.m T.zvc.F.kp (zam T) .nil zza (zaa (pv 0) (zaa (pv 1) (zaa (pv 2) zba)))) zba)) zea (λ_ _=>rfl)))),?_⟩;refine⟨_,rfl,_,rfl,_,rfl,ca,oa,tv,t,np,nc,cs,os,rfl,GG,TT,TI0,hc,λp us H1 S1 np1 e1 al=>?_⟩;refine⟨p,us,cs,os,t.marks,t.lying,rfl,e1,al,TI0.ok.ly,(yte.mp TI0.nd).1,λsp out ns H2 S2 np2 e2 al2 pn so t' od H3 S3 e3=>?_⟩;refine⟨t',_,_,_,rfl,rfl,SqT.of e3,zka (j:=0) rfl,?_⟩;exact q sp out ns H3 (S1.trans (S2.trans S3)) (none_of S1 np2) (S3 _ _ e2) (al2.imp λz=>z.kp (Kp.same S3)) pn so
theorem ztpb {xs:List Int}(h:xs.Nodup):ISet.dd xs=xs:=by
 have z:∀n,n≤xs.length->ISet.dd (xs.take n)=xs.take n:=by
  intro n
  induction n with
  | zero=>intro _;rw[List.take_zero];rfl
  | succ n ih =>
   intro hn;have e:xs.take (n+1)=xs.take n++[xs[n]]:=(by rw[yqa,ybb hn];rfl);have hd:(xs.take n++[xs[n]]).Nodup:=(by rw[← e];exact (ycm _ _).nodup h);have hne:xs[n]∉xs.take n:=λw=>(yte.mp hd).2.2 _ w _ (yia.mpr rfl) rfl;rw[e,ISet.zsk,ih (by omega),if_neg hne]
 have y:=z xs.length (yha _);rw[yfb (yha _)] at y;exact y
theorem ztdb {xs:List Int}{n:Int}(nd:xs.Nodup)(h:n∈xs):xs.Perm (n::xs.filter λx=>!decide (x=n)):=by
 induction xs with
 | nil=>cases h
 | cons x r ih =>
  obtain⟨n1,n2⟩:=yqh.mp nd
  by_cases e:x=n
  ·subst e;rw[yid (by simp)];have z:(r.filter λy=>!decide (y=x))=r:=by
    rw[ysp];intro y hy;have:y≠x:=λw=>n1 (w▸hy);simp[this]
   rw[z]
  ·rw[yhd (by simp[e])];have hr:n∈r:=by
    rcases yka.mp h with w|w
    ·exact absurd w.symm e
    ·exact w
   exact ((ih n2 hr).cons x).trans (.swap _ _ _)
theorem zkbb {xs ys:List Int}(h1:xs.Pairwise (· ≤ ·))(h2:ys.Pairwise (· ≤ ·))(p:xs.Perm ys):xs=ys :=
 ypm (le:=λa b:Int=>a≤b) (λa b _ _ x y=>Int.le_antisymm x y) h1 h2 p
theorem zyrb {xs:List Int}(h:xs.Pairwise (· < ·)):xs.Pairwise (· ≤ ·):=ych (λz=>Int.le_of_lt z) h
theorem few {ns:List Int}{nc:Nat}(nd:ns.Nodup)(h:∀n∈ns,0≤n∧n<nc):ns.length≤nc:=by
 have y:=yxj (l₂:=(ysf nc).map λi=>((i:Nat):Int)) nd λn hn=>by
  obtain⟨h0,h1⟩:=h n hn;exact ymc.mpr ⟨n.toNat,yqj.mpr (by omega),by omega⟩
 rw[yca,yuf] at y;exact y
theorem TI.leave {np nc:Nat}{t t':Tab}{cms:List (List Str)}{n:Nat}{av:V}(h:TI np nc t)(hn:(n:Int)∈t.lying)(hc:∀m∈cms,m.length≤40∧∀s∈m,zqc s)(cr:CrR cms t n av "leave" t'):TI np nc t'∧t'.heap.Perm (t.heap++[(n:Int)]):=by
 cases cr with
 | @leave _ ms heap em pz sz =>
 obtain⟨n1,n2,n3⟩:=yte.mp h.nd;have hh:(n:Int)∉t.heap:=λz=>n3 _ hn _ z rfl;have dd:ISet.dd (t.heap++[(n:Int)])=t.heap++[(n:Int)]:=ztpb (yte.mpr ⟨n2,by simp,λx hx y hy z=>hh (by rw[← yia.mp hy,← z];exact hx)⟩);rw[dd] at pz;have hm:=hc ms (yta em);have pf:=ztdb n1 hn;have nd':((t.lying.filter λx=>!decide (x=(n:Int)))++heap).Nodup:=by
  refine (yjm.nodup_iff ?_).mp h.nd;refine (pf.append_right t.heap).trans ?_;show ((n:Int)::((t.lying.filter λx=>!decide (x=(n:Int)))++t.heap)).Perm _
  refine yjm.trans ?_ (pz.symm.append_left _);rw[← yec];exact (List.perm_append_singleton _ _).symm
 have hr':∀x∈heap,0≤x∧x<nc:=λx hx=>by
  rcases ywc.mp (pz.mem_iff.mp hx) with z|z
  ·exact h.hr x z
  ·rw[yia.mp z];exact h.rg _ hn
 have nc16:=h.ok.nc16;have hl:=few (yte.mp nd').2.1 hr';have fl:=ysb (λx=>!decide (x=(n:Int))) t.lying;have ly:=h.ok.ly;refine⟨⟨{ h.ok with marks:=by rw[yle];exact h.ok.marks,wnds:=by rw[yle];exact h.ok.wnds,ly:=by show (t.lying.filter _).length≤16;omega,hp:=by show heap.length≤16;omega,ms:=λm hmm=>?_ },nd',λx hx=>h.rg x (yhc.mp hx).1,hr',sz,λm hmm=>?_⟩,pz⟩
 ·rcases ycf hmm with z|z
  ·exact h.ok.ms m z
  ·rw[z];exact hm.1
 ·rcases ycf hmm with z|z
  ·exact h.nm m z
  ·rw[z];exact hm.2
def setM (cs:List Pc)(ms:List (List Str))(ns:List Int):List (List Str):=ns.foldl (λm n=>m.set n.toNat (((cs.map (·.marks))[n.toNat]?).getD [])) ms
def setW (ws:List Int)(ns:List Int):List Int:=ns.foldl (λw n=>w.set n.toNat 0) ws
structure Lv (cs:List Pc)(t t':Tab)(ns:List Int):Prop where
 pts:t'.pts=t.pts
 scs:t'.scs=t.scs
 gone:t'.gone=t.gone
 decks:t'.decks=t.decks
 hands:t'.hands=t.hands
 lying:t'.lying=t.lying.filter λn=>!decide (n∈ns)
 heap:t'.heap.Perm (t.heap++ns)
 marks:t'.marks=setM cs t.marks ns
 wnds:t'.wnds=setW t.wnds ns
theorem Lv.nil {cs:List Pc}{t:Tab}:Lv cs t t []:=⟨rfl,rfl,rfl,rfl,rfl,(ysp.mpr (by simp)).symm,by simp,rfl,rfl⟩
theorem Lv.snoc {cs:List Pc}{t t1 t2:Tab}{ns:List Int}{n np nc:Nat}{av:V}(h:Lv cs t t1 ns)(T1:TI np nc t1)(hn:(n:Int)∈t1.lying)(hc:∀m∈cs.map (·.marks),m.length≤40∧∀s∈m,zqc s)(cr:CrR (cs.map (·.marks)) t1 n av "leave" t2):Lv cs t t2 (ns++[(n:Int)]):=by
 obtain⟨_,pp⟩:=T1.leave hn hc cr;cases cr with
 | @leave _ ms heap em pz sz =>
 refine⟨h.pts,h.scs,h.gone,h.decks,h.hands,?_,?_,?_,?_⟩
 ·show t1.lying.filter _=_;rw[h.lying,List.filter_filter];refine yqm λx _=>?_
  by_cases e1:x=(n:Int)<;>by_cases e2:x∈ns<;>simp[e1,e2]
 ·rw[← yec];exact pp.trans (h.heap.append_right _)
 ·show t1.marks.set n ms=_;unfold setM;rw[yge];show _=yjn _ (n:Int).toNat _
  rw[ysa,em,h.marks];rfl
 ·show t1.wnds.set n 0=_;unfold setW;rw[yge];show _=yjn _ (n:Int).toNat _
  rw[ysa,h.wnds];rfl
theorem Lv.det {cs:List Pc}{t t1 t2:Tab}{ns:List Int}(h1:Lv cs t t1 ns)(h2:Lv cs t t2 ns)(s1:t1.heap.Pairwise (· ≤ ·))(s2:t2.heap.Pairwise (· ≤ ·)):t1=t2:=by
 have eh:=zkbb s1 s2 (h1.heap.trans h2.heap.symm);obtain⟨a1,a2,a3,a4,a5,a6,a7,a8,a9⟩:=t1;obtain⟨b1,b2,b3,b4,b5,b6,b7,b8,b9⟩:=t2;have p1:=h1.pts.trans h2.pts.symm;have p2:=h1.scs.trans h2.scs.symm;have p3:=h1.gone.trans h2.gone.symm;have p4:=h1.decks.trans h2.decks.symm;have p5:=h1.hands.trans h2.hands.symm;have p6:=h1.lying.trans h2.lying.symm;have p8:=h1.marks.trans h2.marks.symm;have p9:=h1.wnds.trans h2.wnds.symm;dsimp only at eh p1 p2 p3 p4 p5 p6 p8 p9;rw[eh,p1,p2,p3,p4,p5,p6,p8,p9]
def going (t:Tab):List Bool:=List.zipWith (λp g=>decide (p≤0) && !g) t.pts t.gone
def zyf (t:Tab):List Bool:=List.zipWith (λg b=>g||b) t.gone (going t)
def outs (os:List Nat)(t:Tab):List Int:=t.lying.filter λn=>(going t).getD (os.getD n.toNat 0) false
def worn (cs:List Pc)(ws:List Int)(n:Int):Bool:=decide ((((cs[n.toNat]?).map (·.force)).getD 0:Int)≤(ws[n.toNat]?).getD 0)
structure Lk (cs:List Pc)(os:List Nat)(t t':Tab)(ns:List Int):Prop where
 ex:∃t1:Tab,Lv cs t t1 (outs os t)∧t1.heap.Pairwise (· ≤ ·)∧Lv cs { t1 with gone:=zyf t } t' ns∧t'.heap.Pairwise (· ≤ ·)∧ns.Perm (t1.lying.filter (worn cs t1.wnds))∧ns.Pairwise (· < ·)
theorem Lk.det {cs:List Pc}{os:List Nat}{t t1 t2:Tab}{n1 n2:List Int}(h1:Lk cs os t t1 n1)(h2:Lk cs os t t2 n2):t1=t2∧n1=n2:=by
 obtain⟨a,a1,a2,a3,a4,a5,a6⟩:=h1;obtain⟨b,b1,b2,b3,b4,b5,b6⟩:=h2;have e:=a1.det b1 a2 b2;subst e;have en:n1=n2:=zkbb (zyrb a6) (zyrb b6) (a5.trans b5.symm);subst en;exact⟨a3.det b3 a4 b4,rfl⟩
theorem zrjb {ns:List Int}{n:Int}:∀{ws:List Int},(∀x∈ns,0≤x)->0≤n->n∉ns->(setW ws ns)[n.toNat]?=ws[n.toNat]?:=by
 unfold setW
 induction ns with
 | nil=>intro ws _ _ _;rfl
 | cons x r ih =>
  intro ws h0 hn hm;rw[List.foldl_cons,ih (λy hy=>h0 y (yoa _ hy)) hn (λz=>hm (yoa _ z))];have h1:=h0 x ypa;have h2:x≠n:=λz=>hm (by rw[z];exact ypa);rw[ydi (by omega)]
theorem Lk.again {cs:List Pc}{os:List Nat}{t t1 t2:Tab}{n1 n2:List Int}{np nc:Nat}(TI0:TI np nc t)(h1:Lk cs os t t1 n1)(h2:Lk cs os t1 t2 n2):t2=t1∧n2=[]:=by
 obtain⟨a,a1,a2,a3,a4,a5,a6⟩:=h1;obtain⟨b,b1,b2,b3,b4,b5,b6⟩:=h2;have gl:=TI0.ok.gone;have pl:=TI0.ok.pts;have eg:t1.gone=zyf t:=a3.gone;have ep:t1.pts=t.pts:=a3.pts.trans a1.pts;have gg:∀i:Nat,(going t1).getD i false=false:=λi=>by
  unfold going;rw[eg,ep];unfold zyf going;rw[ylb,yce,yce,yce];cases e1:t.pts[i]? with
  | none=>rfl
  | some p =>
   cases e2:t.gone[i]? with
   | none=>rfl
   | some g =>
    show (decide (p≤0) && !(g||(decide (p≤0) && !g)))=false
    cases g<;>cases decide (p≤0)<;>rfl
 have eo:outs os t1=[]:=by
  unfold outs;rw[ywn];intro n _;rw[gg];decide
 have gt:zyf t1=t1.gone:=by
  refine yqq λi=>?_;have z:=gg i;unfold zyf;rw[yce];rw[ylb] at z;cases e1:t1.gone[i]? with
  | none=>rfl
  | some g =>
   cases e2:(going t1)[i]? with
   | none =>
    exfalso;have l1:=(yga.mp e1).1;rw[List.getElem?_eq_none_iff] at e2;unfold going at e2;rw[yli,ep] at e2;have:t1.gone.length≤t.gone.length:=by
     rw[eg];unfold zyf;rw[yli];exact Nat.min_le_left _ _
    omega
   | some x =>
    rw[e2] at z;have z':x=false:=z;show some (g||x)=some g
    rw[z',yxm]
 rw[eo] at b1;have e1:b=t1:=b1.det .nil b2 a4;subst e1;have hz:n2=[]:=by
  have:(b.lying.filter (worn cs b.wnds))=[]:=by
   rw[ywn];intro n hn hw;have hl:=a3.lying;rw[hl] at hn;obtain⟨m1,m2⟩:=yhc.mp hn;have m1':n∈a.lying:=m1;have m2':n∉n1:=(by simpa using m2);have al:=a1.lying;rw[al] at m1';have n0:=(TI0.rg n (yhc.mp m1').1).1;have np1:∀x∈n1,0≤x:=λx hx=>by
    have y:=(yhc.mp (a5.mem_iff.mp hx)).1;rw[al] at y;exact (TI0.rg x (yhc.mp y).1).1
   refine m2' (a5.mem_iff.mpr (yhc.mpr ⟨m1,?_⟩));unfold worn at hw ⊢;rw[a3.wnds,zrjb np1 n0 m2'] at hw;exact hw
  rw[this] at b5;exact ygq.mp b5
 subst hz;have e:({ b with gone:=zyf b }:Tab)=b:=by rw[gt]
 rw[e] at b3;exact⟨b3.det .nil b4 a4,rfl⟩
theorem ztp {K:yea}{H:Hp}(c:List Int):DVs K H (c.map V.int) (c.map PyData.int):=by
 induction c with
 | nil=>exact .nil
 | cons i r ih=>exact .cons (.int i) ih
theorem zxsb {K:yea}{H:Hp}(c:List Bool):DVs K H (c.map V.bl) (c.map PyData.bool):=by
 induction c with
 | nil=>exact .nil
 | cons i r ih=>exact .cons (.bl i) ih
theorem lay_ints (c:List Int):yac (c.map .int)=true∧ycc (c.map .int)=0:=by
 induction c with
 | nil=>exact⟨rfl,rfl⟩
 | cons i r ih=>exact⟨by simp[yac,ycd,ih.1],by simp[ycc,yje,ih.2]⟩
theorem zkpb (c:List Bool):yac (c.map .bool)=true∧ycc (c.map .bool)=0:=by
 induction c with
 | nil=>exact⟨rfl,rfl⟩
 | cons i r ih=>exact⟨by simp[yac,ycd,ih.1],by simp[ycc,yje,ih.2]⟩
def inD (c:List Int):PyData:=.tuple (c.map .int)
def stD (c:List Str):PyData:=.tuple (c.map .str)
theorem znt {α:Type}{f:α->PyData}(xs:List α)(h:∀x∈xs,(f x).canLay0=true∧(f x).depth≤1):yac (xs.map f)=true∧ycc (xs.map f)≤1:=by
 induction xs with
 | nil=>exact⟨rfl,ycb _⟩
 | cons c r ih =>
  obtain⟨h1,h2⟩:=ih λx hx=>h x (yoa _ hx);obtain⟨g1,g2⟩:=h c ypa;refine⟨by rw[ygc,yac,g1,h1];rfl,?_⟩;rw[ygc,ycc];omega
theorem ztbb (c:List Int):(inD c).canLay0=true∧(inD c).depth≤1:=by
 obtain⟨h1,h2⟩:=lay_ints c;unfold inD;exact⟨by rw[ycd,h1],by rw[yje,h2];decide⟩
theorem znmb {c:List Str}(h:∀s∈c,zqc s):(stD c).canLay0=true∧(stD c).depth≤1:=by
 unfold stD;exact⟨by rw[ycd,zot c λx hx=>zlt (h x hx)],by rw[yje,zvt];decide⟩
def tabD (t:Tab):PyData:=.tuple [inD t.pts,inD t.scs,.tuple (t.gone.map .bool),.tuple (t.decks.map inD),.tuple (t.hands.map inD),inD t.lying,inD t.heap,.tuple (t.marks.map stD),inD t.wnds]
theorem ztu {K:yea}{H:Hp}{v:V}{c:List Int}(h:T1 H v (iM c)):DV K H v (inD c):=by
 obtain⟨a,rfl,e⟩:=h;exact .tup (SqT.of e) (ztp _)
theorem zptb {K:yea}{H:Hp}{v:V}{c:List Str}(h:T1 H v (sM c)):DV K H v (stD c):=by
 obtain⟨a,rfl,e⟩:=h;exact .tup (SqT.of e) (zrs _)
theorem zamb {α:Type}{K:yea}{H:Hp}{f:α->List V}{g:α->PyData}(i:∀{v x},T1 H v (f x)->DV K H v (g x)){vs:List V}:∀{xs:List α},All2 (T1 H) vs (xs.map f)->DVs K H vs (xs.map g):=by
 induction vs with
 | nil =>
  intro xs z;cases xs with
  | nil=>exact .nil
  | cons x r=>cases z
 | cons v vs ih =>
  intro xs z;cases xs with
  | nil=>cases z
  | cons x r =>
   cases z with
   | cons h t=>exact .cons (i h) (ih t)
theorem zsqb {K:yea}{H:Hp}{v:V}{c:List (List Int)}(h:T2 H v (c.map iM)):DV K H v (.tuple (c.map inD)):=by
 obtain⟨a,us,rfl,e,al⟩:=h;exact .tup (SqT.of e) (zamb (λz=>ztu z) al)
theorem zunb {K:yea}{H:Hp}{v:V}{c:List (List Str)}(h:T2 H v (c.map sM)):DV K H v (.tuple (c.map stD)):=by
 obtain⟨a,us,rfl,e,al⟩:=h;exact .tup (SqT.of e) (zamb (λz=>zptb z) al)
theorem TabT.dv {K:yea}{H:Hp}{v:V}{t:Tab}(h:TabT H v t):DV K H v (tabD t):=by
 obtain⟨a,v0,v1,v2,v3,v4,v5,v6,v7,v8,rfl,ea,TP⟩:=h;obtain⟨b2,rfl,e2⟩:=TP.p2;exact .tup (SqT.of ea) (.cons (ztu TP.p0) (.cons (ztu TP.p1) (.cons (.tup (SqT.of e2) (zxsb _)) (.cons (zsqb TP.p3) (.cons (zsqb TP.p4) (.cons (ztu TP.p5) (.cons (ztu TP.p6) (.cons (zunb TP.p7) (.cons (ztu TP.p8) .nil)))))))))
theorem zwgb (c:List (List Int)):yac (c.map inD)=true∧ycc (c.map inD)≤1:=znt c λx _=>ztbb x
theorem zqs {t:Tab}(h:∀m∈t.marks,∀s∈m,zqc s):(tabD t).canLay0=true∧(tabD t).depth≤8:=by
 obtain⟨m1,m2⟩:=znt (f:=stD) t.marks λx hx=>znmb (h x hx);obtain⟨d1,d2⟩:=zwgb t.decks;obtain⟨e1,e2⟩:=zwgb t.hands;obtain⟨g1,g2⟩:=zkpb t.gone;have i:=λc=>(ztbb c).1;have j:=λc=>(ztbb c).2;unfold tabD
 constructor
 ·simp only[ycd,yac,i,m1,d1,e1,g1,ykn]
 ·simp only[yje,ycc,g2];have j1:=j t.pts;have j2:=j t.scs;have j3:=j t.lying;have j4:=j t.heap;have j5:=j t.wnds;omega
theorem zro {d:PyData}(h:d.canLay0=true∧d.depth≤8):ysc d=true:=by
 unfold ysc;rw[h.1,decide_eq_true (by omega)];rfl
def lmD (t:Tab):PyData:=.tuple [inD t.lying,.tuple (t.marks.map stD)]
theorem zow {t:Tab}(h:∀m∈t.marks,∀s∈m,zqc s):ysc (lmD t)=true:=by
 obtain⟨m1,m2⟩:=znt (f:=stD) t.marks λx hx=>znmb (h x hx);obtain⟨j1,j2⟩:=ztbb t.lying;refine zro ⟨?_,?_⟩
 ·unfold lmD;simp only[ycd,yac,j1,m1,ykn]
 ·unfold lmD;simp only[yje,ycc];omega
def SgA (H:Hp)(u:V)(n:Int):Prop:=Ex3 λa (o:Int) rest=>u = .ref a∧H a=some (.tup (.int n :: .int o::rest))
theorem SgA.kp {H H':Hp}(s:Kp H H'){u:V}{n:Int}(h:SgA H u n):SgA H' u n:=by
 obtain⟨a,o,rest,e,h⟩:=h;exact⟨a,o,rest,e,s.t h⟩
def CvT (H:Hp)(s:Addr)(ly:List Int):Prop:=Ex2 λout (ns:List Int)=>H s=some (.lst out)∧All2 (SgA H) out ns∧∀n∈ly,n∈ns
theorem CvT.at {H H':Hp}(k:Kp H H'){s:Addr}(e:∀xs,H s=some (.lst xs)->H' s=some (.lst xs)){ly:List Int}(h:CvT H s ly):CvT H' s ly:=by
 obtain⟨out,ns,h1,h2,h3⟩:=h;exact⟨out,ns,e _ h1,h2.imp λz=>z.kp k,h3⟩
theorem CvT.same {H H':Hp}(k:Same H H'){s:Addr}{ly:List Int}(h:CvT H s ly):CvT H' s ly:=h.at (Kp.same k) λ_ z=>k _ _ z
theorem CvT.less {H:Hp}{s:Addr}{ly ly':List Int}(h:CvT H s ly)(g:∀n∈ly',n∈ly):CvT H s ly':=by
 obtain⟨out,ns,h1,h2,h3⟩:=h;exact⟨out,ns,h1,h2,λn hn=>h3 n (g n hn)⟩
theorem SgN.a {H:Hp}{cs:List Pc}{os:List Nat}{ms:List (List Str)}{u:V}{n:Int}(h:SgN H cs os ms u n):SgA H u n:=by
 obtain⟨a,m,k,o,c,mm,e,e1,e2,e3,e4,h1,h3⟩:=h;exact⟨a,_,_,e,by rw[h1,e1]⟩
def zaob:Sp:=λvs H Q _=>Ex4 λs out (ns:List Int) (n:Int)=>vs=[.ref s,.int n]∧H s=some (.lst out)∧All2 (SgA H) out ns∧n∈ns∧∀a (o:Int) rest,H a=some (.tup (.int n :: .int o::rest))->Q (.ref a) H
def zbfb (B:Addr):Sp:=λvs H Q _=>Ex12 λl s ha us (cs:List Pc) (os:List Nat) (ms:List (List Str)) (ly:List Int) (st kd:Str) (th:Int) av=>vs=[.ref l,.ref s,.str st,.ref ha]∧H l=some (.lst us)∧All2 (RwN B H cs os ms) us ly∧CvT H s ly∧H ha=some (.tup [.str kd,.int th,av])∧∀p H',Same H H'->H p=none->H' p=some (.lst [])->Q (.ref p) H'
def zeob (B:Addr):Sp:=λvs H Q _=>Ex12 λl s ha uv us (cs:List Pc) (os:List Nat) (ms:List (List Str)) (ly:List Int) (kd:Str) (th:Int) av=>vs=[.ref l,.ref s,.ref ha,uv]∧H l=some (.lst us)∧All2 (RwN B H cs os ms) us ly∧CvT H s ly∧H ha=some (.tup [.str kd,.int th,av])∧∀p H',Same H H'->H p=none->H' p=some (.lst [])->Q (.ref p) H'
def zafb (B:Addr):Sp:=λvs H Q _=>Ex13 λl s ha cl us (cs:List Pc) (os:List Nat) (ms:List (List Str)) (ly:List Int) (kd:Str) (th:Int) av (ch:List Int)=>vs=[.ref l,.ref s,.ref ha,.ref cl]∧H l=some (.lst us)∧All2 (RwN B H cs os ms) us ly∧CvT H s ly∧H ha=some (.tup [.str kd,.int th,av])∧H cl=some (.lst (iM ch))∧∀t tr lf H',Same H H'->H tr=none->H lf=none->tr≠lf->H' t=some (.tup [.ref tr,.ref ha,.ref lf])->H' tr=some (.lst [])->H' lf=some (.lst (iM ch))->Q (.ref t) H'
theorem zcgb (T:Tx K mg):FnOk P w K mg base CX0 2 T.zyh.f T.zyh.d zeu zaob:=by
 refine T.zyh.ok zav ?_;rintro f c A o s H vs Q E hr ⟨sl,out,ns,n,rfl,hsl,R,hn,q⟩ X;refine⟨_,  (zca (zlf ydc rfl (zic (pv 0)) (zda (i:=2) zav.nd rfl (.inl rfl))
   (zfa (zyd (zgb zth (zra zwa (pv 2) zea (λ_ _=>rfl)) (pv 1) (zrb _))
    (zfa (zbb (pv 2)))
    zsb)))
  (zfa (zbb zwfb))),?_⟩
 have rl:=R.len;refine⟨_,rfl,sl,rfl,⟨_,SqL.of hsl⟩,zdh (xs:=out) (λi σ H'=>H'=H∧(∃o,σ=[some (.ref sl),some (.int n),o])∧n∈ns.drop i) ⟨rfl,⟨_,rfl⟩,hn⟩ (λi σ H' _ z=>by rw[z.1];exact SqL.of hsl) ?_ ?_⟩
 ·rintro i x σ H' hx ⟨rfl,⟨o,rfl⟩,hm⟩;obtain⟨r,hr,a,ow,rest,rfl,h1⟩:=R.get hx;refine⟨_,rfl,a,_,_,_,rfl,rfl,SqT.of h1,zka (j:=0) rfl,_,rfl,rfl,_,rfl,?_⟩;refine ite2 (λc=>?_) (λc=>?_)
  ·have c':=of_decide_eq_true c;injection c' with c'
   rw[c'] at h1;exact⟨_,rfl,q a ow rest h1⟩
  ·refine⟨rfl,⟨_,rfl⟩,?_⟩;have hi:=(yga.mp hr).1;rw[List.drop_eq_getElem_cons hi] at hm
   rcases yka.mp hm with z|z
   ·exfalso;have er:=(yga.mp hr).2;exact c (decide_eq_true (by rw[z,er]))
   ·exact z
 ·rintro σ H' ⟨rfl,⟨o,rfl⟩,hm⟩;rw[rl,List.drop_length] at hm;cases hm
theorem zlw (T:Tx K mg):FnOk P w K mg base CX0 2 T.zle.f T.zle.d zcl (λ_ _ _ _=>False):=by
 refine T.zle.F.ok zgv (λvs H Q E h=>?_) (λcdv A outer s H vs Q E hr h=>?_)
 ·exact h.elim
 exact h.elim
theorem zih (T:Tx K mg):FnOk P w K mg base CX0 3 T.zob.f T.zob.d zni (zbfb T.zub):=by
 refine T.zob.ok zeb ?_;rintro f c A o s H vs Q E hr ⟨l,sa,ha,us,cs,os,ms,ly,st,kd,th,av,rfl,el,LY,CV,eh,q⟩ X;refine⟨_,  (zca (zog (pv 3) (zzg (n:=3) rfl (zla (zda (i:=4) zeb.nd rfl (.inl rfl)) (zla (zda (i:=5) zeb.nd rfl (.inl rfl)) (zla (zda (i:=6) zeb.nd rfl (.inl rfl)) zfd)))))
  (zca (zna (i:=7) zeb.nd rfl (.inl rfl) (zlc zba))
  (zca (zlf ydc rfl (zic (pv 0)) (zzg (n:=5) rfl (zla (zda (i:=8) zeb.nd rfl (.inl rfl)) (zla (zda (i:=9) zeb.nd rfl (.inl rfl)) (zla (zda (i:=10) zeb.nd rfl (.inl rfl)) (zla (zda (i:=11) zeb.nd rfl (.inl rfl)) (zla (zda (i:=12) zeb.nd rfl (.inl rfl)) zfd))))))
   (zca (zna (i:=13) zeb.nd rfl (.inl rfl) (zra zwa (zja (zcgb T) hr rfl T.zyh.m T.zyh.F.kp (zglb T) .nil zza (zaa (pv 1) (zaa (pv 8) zba))) zea (λ_ _=>rfl)))
   (zfa (zlf ydc rfl (zzn rfl T.zce (zaa (zti (pv 9) rfl) zba)) (zzg (n:=2) rfl (zla (zda (i:=14) zeb.nd rfl (.inl rfl)) (zla (zda (i:=15) zeb.nd rfl (.inl rfl)) zfd)))
    (zfa (zyd (PW.pt (zmbb (zgb zth (zra zwa (pv 15) zea (λ_ _=>rfl)) (pv 2) (zrb _)) (zmbb (zgb zth (zra zwa (pv 15) zea (λ_ _=>rfl)) (pv 4) (zrb _)) (zwy (zng (zapb (zra zwa (pv 15) zea (λ_ _=>rfl)) T.zshb T.zle.M (zlw T) hr (zcab T) .nil zza (zaa (pv 1) (zaa (pv 8) (zaa (pv 13) (zaa (pv 5) zba))))))))))
     (zfa (zfc (zff yya ymb ynb zbc (pv 7) (zaa (znb (zaa (pv 11) (zaa (pv 14) (zaa (pv 8) (zaa (pv 13) zba))))) zba))))
     zsb))))))
  (zfa (zbb (zya zpf rfl T.zae yvh (zaa (pv 7) zba))))))),?_⟩
 refine⟨_,rfl,ha,_,rfl,SqT.of eh,rfl,_,_,rfl,_,_,rfl,_,_,rfl,rfl,?_⟩;refine⟨sz0,λf hf=>?_⟩;refine laid hf λH1 S1 e1=>?_;refine⟨_,rfl,l,rfl,⟨_,SqL.of (S1 _ _ el)⟩,?_⟩;refine zdh (xs:=us) (λi σ H'=>Ex8 λ(o8 o9 o10 o11 o12 o13 o14 o15:Option V)=>σ=[some (.ref l),some (.ref sa),some (.str st),some (.ref ha),some (.str kd),some (.int th),some av,some (.ref f),o8,o9,o10,o11,o12,o13,o14,o15]∧H'=H1) ⟨_,_,_,_,_,_,_,_,rfl,rfl⟩ (λi σ H' _ ⟨_,_,_,_,_,_,_,_,_,e⟩=>by rw[e];exact SqL.of (S1 _ _ el)) ?_ ?_
 ·rintro i u σ H' hu ⟨o8,o9,o10,o11,o12,o13,o14,o15,rfl,rfl⟩;obtain⟨n,en,rw1⟩:=LY.get hu;obtain⟨out,ns,es,als,inn⟩:=CV.same S1;obtain⟨a,m,cv,k,o,came,c,mm,rfl,rfl,e2,e3,e4,ea,pc,em⟩:=rw1.kp (Kp.same S1);obtain⟨cd,dx,m2,tt,nm,kk,rfl,ecd,_,ett⟩:=pc;refine⟨a,_,rfl,SqT.of ea,rfl,_,_,rfl,_,_,rfl,_,_,rfl,_,_,rfl,_,_,rfl,rfl,?_⟩;refine⟨_,rfl,_,rfl,sa,out,ns,(k:Int),rfl,es,als,inn _ (yta en),λra ow rest era=>?_⟩;refine⟨ra,_,_,_,rfl,rfl,SqT.of era,zka (j:=1) rfl,?_⟩;refine⟨_,rfl,cd,_,dx,_,_,rfl,ecd,T.zye,T.zre,zex _ _ _ _ _,tt,_,rfl,SqT.of ett,?_⟩;refine zbx (xs:=[]) (λi σ Hx=>Ex2 λ(o14 o15:Option V)=>σ=[some (.ref l),some (.ref sa),some (.str st),some (.ref ha),some (.str kd),some (.int th),some av,some (.ref f),some (.int (k:Int)),some (.ref cd),some (.int (o:Int)),some (.int came),some (.ref m),some (.int ow),o14,o15]∧Hx=H') ⟨_,_,rfl,rfl⟩ (λi σ Hx _ ⟨_,_,_,e⟩=>by rw[e];exact SqT.of ett) ?_ ?_
  ·intro i x σ Hx p hx;cases hx
  ·rintro σ Hx ⟨o14,o15,rfl,rfl⟩;exact⟨_,_,_,_,_,_,_,_,rfl,rfl⟩
 ·rintro σ H' ⟨o8,o9,o10,o11,o12,o13,o14,o15,rfl,rfl⟩;refine⟨_,rfl,f,[],(λ_=>[]),1,rfl,SqL.of e1,(by decide),by decide,(λ_ h=>nomatch h),yjk.nil,λp out hp po _=>?_⟩;have eo:out=[]:=ygq.mp po;subst eo;refine laid hp λH2 S2 e2=>?_;exact q p H2 (S1.trans S2) (none_of S1 hp) e2
theorem zln (T:Tx K mg):FnOk P w K mg base CX0 4 T.zbd.f T.zbd.d zvk (zeob T.zub):=by
 refine T.zbd.ok zdn ?_;rintro f c A o s H vs Q E hr ⟨l,sa,ha,uv,us,cs,os,ms,ly,kd,th,av,rfl,el,LY,CV,eh,q⟩ X;refine⟨_,  (zca (zna (i:=4) zdn.nd rfl (.inl rfl) (zja (zih T) hr rfl T.zob.m T.zob.F.kp (zmi T) .nil zza (zaa (pv 0) (zaa (pv 1) (zaa ztb (zaa (pv 2) zba))))))
  (zfa (zbb (zuc (own:=["came","place","number","keeper"]) (cap:=["used"]) rfl (zsa.chk rfl rfl) (.cons (j:=3) rfl (.inl rfl) (.inl rfl) .nil) (zic (pv 4)) (λ_ _ _ _=>(zmm K (n:=4) rfl (zla (zda (i:=0) (show yjb (["came","place","number","keeper","used"]:List Str) by decide +kernel) rfl (.inl rfl)) (zla (zda (i:=1) (show yjb (["came","place","number","keeper","used"]:List Str) by decide +kernel) rfl (.inl rfl)) (zla (zda (i:=2) (show yjb (["came","place","number","keeper","used"]:List Str) by decide +kernel) rfl (.inl rfl)) (zla (zda (i:=3) (show yjb (["came","place","number","keeper","used"]:List Str) by decide +kernel) rfl (.inl rfl)) zfd)))))) (λ_ _ _ _=>zmg (zgb (zcdb K hr.units) (znb (zaa (pv 2) (zaa (pv 1) zba))) (pv 4) rfl)) (λ_ _ _ _=>by exact (znb (zaa (pv 0) (zaa (pv 2) (zaa (pv 1) zba))))))))),?_⟩
 refine⟨_,rfl,_,rfl,_,rfl,l,sa,ha,us,cs,os,ms,ly,"instead",kd,th,av,rfl,el,LY,CV,eh,λp H1 S1 np1 e1=>?_⟩;refine⟨_,rfl,p,rfl,⟨_,SqL.of e1⟩,?_⟩;refine zoc (xs:=[]) (λi ys H'=>H'=H1∧ys=[]) (λi ys H' z=>by rw[z.1];exact SqL.of e1) ⟨rfl,rfl⟩ ?_ ?_ ?_
 ·rintro i ys H' ⟨_,rfl⟩;exact ycb _
 ·intro i v ys H' hx;cases hx
 ·rintro ys H9 ⟨rfl,rfl⟩ b hb;refine laid hb λH2 S2 e2=>?_;exact q b H2 (S1.trans S2) (none_of S1 hb) e2
theorem zjw (T:Tx K mg):FnOk P w K mg base CX0 4 T.zge.f T.zge.d zyk (λ_ _ _ _=>False):=by
 refine T.zge.F.ok zcv (λvs H Q E h=>?_) (λcdv A outer s H vs Q E hr h=>?_)
 ·exact h.elim
 exact h.elim
theorem zigb (T:Tx K mg):FnOk P w K mg base CX0 4 T.zbi.f T.zbi.d zju (λ_ _ _ _=>False):=by
 refine T.zbi.F.ok znfb (λvs H Q E h=>?_) (λcdv A outer s H vs Q E hr h=>?_)
 ·exact h.elim
 exact h.elim
theorem zjdb (T:Tx K mg):FnOk P w K mg base CX0 4 T.zcg.f T.zcg.d zkq (λ_ _ _ _=>False):=by
 refine T.zcg.F.ok ztcb (λvs H Q E h=>?_) (λcdv A outer s H vs Q E hr h=>?_)
 ·exact h.elim
 exact h.elim
theorem zggb (T:Tx K mg):FnOk P w K mg base CX0 4 T.zxh.f T.zxh.d zdu (λ_ _ _ _=>False):=by
 refine T.zxh.F.ok zkfb (λvs H Q E h=>?_) (λcdv A outer s H vs Q E hr h=>?_)
 ·exact h.elim
 exact h.elim
theorem zep (T:Tx K mg):FnOk P w K mg base CX0 5 T.zrc.f T.zrc.d znh (zafb T.zub):=by
 refine T.zrc.ok zxa ?_;rintro f c A o s H vs Q E hr ⟨l,sa,ha,cl,us,cs,os,ms,ly,kd,th,av,ch,rfl,el,LY,CV,eh,ec,q⟩ X;refine⟨_,  (zca (zna (i:=4) zxa.nd rfl (.inl rfl) (zlc zba))
  (zca (zna (i:=5) zxa.nd rfl (.inl rfl) (zlc zba))
  (zca (zna (i:=6) zxa.nd rfl (.inl rfl) (zoa zzc rfl T.zui yfl (zaa (pv 3) zba)))
  (zca (zna (i:=7) zxa.nd rfl (.inl rfl) (zja (zln T) hr rfl T.zbd.m T.zbd.F.kp (zbq T) .nil zza (zaa (pv 0) (zaa (pv 1) (zaa (pv 2) (zaa (pv 5) zba))))))
  (zca (zzs ydc (znbb (pv 7) (λ_=>rfl))
   (zca (zna (i:=8) zxa.nd rfl (.inl rfl) (zja (zjw T) hr rfl T.zge.m T.zge.F.kp (zxz T) .nil zza (zaa (pv 1) (zaa (zra zwa (pv 2) zea (λ_ _=>rfl)) zba))))
   (zca (zog (zja (zigb T) hr rfl T.zbi.m T.zbi.F.kp (zklb T) .nil zza (zaa (zya zcb rfl T.zvg ylc (zaa (pv 7) zba)) (zaa (pv 6) zba))) (zzg (n:=2) rfl (zla (zda (i:=9) zxa.nd rfl (.inl rfl)) (zla (zda (i:=6) zxa.nd rfl (.inl rfl)) zfd))))
   (zca (zog (zra zjd (pv 7) (pv 9) (λ_ _=>rfl)) (zzg (n:=3) rfl (zla (zda (i:=10) zxa.nd rfl (.inl rfl)) (zla (zda (i:=11) zxa.nd rfl (.inl rfl)) (zla (zda (i:=12) zxa.nd rfl (.inl rfl)) zfd)))))
   (zca (zna (i:=13) zxa.nd rfl (.inl rfl) (zja (zjdb T) hr rfl T.zcg.m T.zcg.F.kp (zaib T) .nil zza (zaa (pv 0) (zaa (pv 11) (zaa (pv 12) zba)))))
   (zca (zna (i:=2) zxa.nd rfl (.inl rfl) (zja (zggb T) hr rfl T.zxh.m T.zxh.F.kp (zflb T) .nil zza (zaa (pv 2) (zaa (zra zwa (pv 13) zea (λ_ _=>rfl)) (zaa (zra zwa (pv 13) zea (λ_ _=>rfl)) (zaa (pv 11) zba))))))
   (zca (zfc (zff yya ymb ynb zbc (pv 5) (zaa (znb (zaa (pv 11) (zaa (pv 12) zba))) zba)))
   (zca (zfc (zff yya ymb ynb zbc (pv 4) (zaa (znb (zaa (pv 8) (zaa (pv 11) (zaa (pv 12) (zaa (pv 2) zba))))) zba)))
   (zfa (zna (i:=7) zxa.nd rfl (.inl rfl) (zobb (zgb znrb (pv 2) zwfb (zrb _)) (zlc zba) (zja (zln T) hr rfl T.zbd.m T.zbd.F.kp (zbq T) .nil zza (zaa (pv 0) (zaa (pv 1) (zaa (pv 2) (zaa (pv 5) zba))))))))))))))))
  (zfa (zbb (znb (zaa (pv 4) (zaa (pv 2) (zaa (pv 6) zba))))))))))),?_⟩
 refine⟨sz0,λtr htr=>?_⟩;refine laid htr λH1 S1 e1=>?_;refine⟨sz0,λud hud=>?_⟩;refine laid hud λH2 S2 e2=>?_;have S02:=S1.trans S2;refine⟨_,rfl,cl,_,rfl,.inl (SqL.of (S02 _ _ ec)),λlf hlf=>?_⟩;refine laid hlf λH3 S3 e3=>?_;have S03:=S02.trans S3;refine⟨_,rfl,_,rfl,_,rfl,_,rfl,l,sa,ha,.ref ud,us,cs,os,ms,ly,kd,th,av,rfl,S03 _ _ el,LY.imp λz=>z.kp (Kp.same S03),CV.same S03,S03 _ _ eh,λrl H4 S4 nrl e4=>?_⟩;refine⟨λm σ H'=>σ=[some (.ref l),some (.ref sa),some (.ref ha),some (.ref cl),some (.ref tr),some (.ref ud),some (.ref lf),some (.ref rl),none,none,none,none,none,none]∧H'=H4,⟨0,rfl,rfl⟩,?_⟩;rintro m σ H' ⟨rfl,rfl⟩;refine⟨_,rfl,_,.inl ⟨_,SqL.of e4,rfl⟩,?_⟩;refine iteF ?_;refine⟨_,rfl,_,rfl,_,rfl,sz3,λt ht=>?_⟩;refine laid ht λH5 S5 e5=>?_;have S45:=S4.trans S5;exact q t tr lf H5 (S03.trans S45) htr (none_of S02 hlf) (zga (S2 _ _ e1) hlf) e5 ((S2.trans (S3.trans S45)) _ _ e1) (S45 _ _ e3)
def zwqb (B:Addr):Sp:=λvs H Q _=>Ex8 λca oa tv (t:Tab) (np nc:Nat) (cs:List Pc) (os:List Nat)=>vs=[.ref ca,.ref oa,tv]∧GC B H ca oa cs os∧TabT H tv t∧TI np nc t∧cs.length=nc∧(∀o∈os,o<np)∧∀v' (t1:Tab) H',Same H H'->TabT H' v' { t1 with gone:=zyf t }->Lv cs t t1 (outs os t)->TI np nc t1->Q v' H'
theorem TI.gone {np nc:Nat}{t:Tab}(h:TI np nc t){g:List Bool}(hg:g.length=np):TI np nc { t with gone:=g }:=⟨{ h.ok with gone:=hg },h.nd,h.rg,h.hr,h.so,h.nm⟩
theorem zup {np nc:Nat}{t:Tab}(h:TOk np nc t):(going t).length=np:=by
 unfold going;rw[yli,h.pts,h.gone,yro]
theorem ztl {np nc:Nat}{t:Tab}(h:TOk np nc t):(zyf t).length=np:=by
 unfold zyf;rw[yli,zup h,h.gone,yro]
theorem zaw (T:Tx K mg):FnOk P w K mg base CX0 6 T.zde.f T.zde.d zuk (zwqb T.zub):=by
 refine T.zde.ok zpe ?_;rintro f c A o s H vs Q E hr ⟨ca,oa,tv,t,np,nc,cs,os,rfl,GG,TT,TI0,hc,hos,q⟩ X;have TT0:=TT;obtain⟨a,v0,v1,v2,v3,v4,v5,v6,v7,v8,rfl,ea,TP⟩:=TT;obtain⟨b0,rfl,e0⟩:=TP.p0;obtain⟨b2,rfl,e2⟩:=TP.p2;obtain⟨b5,rfl,e5⟩:=TP.p5;have TO:=TI0.ok;have np4:=TO.np4;have ly:=TO.ly;have gol:=zup TO;obtain⟨n1,n2,n3⟩:=yte.mp TI0.nd;refine⟨_,  (zca (zna (i:=3) zpe.nd rfl (.inr rfl) (zra zwa (pv 2) (zdb (v:=.int 2) rfl T.zwp ⟨_,rfl⟩) (λ_ _=>rfl)))
  (zca (zna (i:=4) zpe.nd rfl (.inr rfl) (zuc (own:=["player","points"]) (cap:=["gone"]) rfl (zsa.chk rfl rfl) (.cons (j:=3) rfl (.inl rfl) (.inl rfl) .nil) (zzn rfl T.zce (zaa (zra zwa (pv 2) (zdb (v:=.int 0) rfl T.zzj ⟨_,rfl⟩) (λ_ _=>rfl)) zba)) (λ_ _ _ _=>(zmm K (n:=2) rfl (zla (zda (i:=0) (show yjb (["player","points","gone"]:List Str) by decide +kernel) rfl (.inl rfl)) (zla (zda (i:=1) (show yjb (["player","points","gone"]:List Str) by decide +kernel) rfl (.inl rfl)) zfd)))) (λ_ _ _ _=>zyb) (λ_ _ _ _=>by exact (zjmb (zqg zagb (pv 1) zea (zrb _)) (ztr (zimb (zra (zwb K) (pv 2) (pv 0) (λ_ _=>rfl))))))))
  (zca (zwd (i:=5) zpe.nd rfl (.inl rfl) (own:=["number"]) (cap:=["going","owners"]) rfl (zsa.chk rfl rfl) (.cons (j:=4) rfl (.inl rfl) (.inl rfl) (.cons (j:=1) rfl (.inl rfl) (.inl rfl) .nil)) (zrr (zra zwa (pv 2) (zdb (v:=.int 5) rfl T.zof ⟨_,rfl⟩) (λ_ _=>rfl))) (λ_ _ _ _=>(zda (i:=0) (show yjb (["number","going","owners"]:List Str) by decide +kernel) rfl (.inl rfl))) (λ_ _ _ _=>zmg (zng (zra (zyj K) (pv 1) (zra (zyj K) (pv 2) (pv 0) (λ_ _=>rfl)) (λ_ _=>rfl)))) (λ_ _ _ _=>by exact (pv 0)))
  (zca (zlf ydc rfl (zic (pv 5)) (zda (i:=6) zpe.nd rfl (.inl rfl))
   (zfa (zna (i:=2) zpe.nd rfl (.inl rfl) (zja (zfp T) hr rfl T.ztd.m T.ztd.F.kp (zns T) .nil zza (zaa (pv 0) (zaa (pv 2) (zaa (pv 6) zba)))))))
  (zfa (zbb (zja (zgf T).up hr rfl T.zmb.m T.zmb.F.kp (zbg T) .nil zza (zaa (pv 2) (zaa (zdb (v:=.int 2) rfl T.zwp ⟨_,rfl⟩) (zaa (zoa zma rfl T.zkb yvc (zaa (zuc (own:=["ahead","now"]) (cap:=[]) rfl (zsa.chk rfl rfl) .nil (zckb rfl T.zajb (zaa (pv 3) (zaa (pv 4) zba))) (λ_ _ _ _=>(zmm K (n:=2) rfl (zla (zda (i:=0) (show yjb (["ahead","now"]:List Str) by decide +kernel) rfl (.inl rfl)) (zla (zda (i:=1) (show yjb (["ahead","now"]:List Str) by decide +kernel) rfl (.inl rfl)) zfd)))) (λ_ _ _ _=>zyb) (λ_ _ _ _=>by exact (zekb (pv 0) (ztr (pv 1))))) zba)) zba)))))))))),?_⟩
 refine⟨_,rfl,a,_,_,_,rfl,rfl,SqT.of ea,zka (j:=2) rfl,?_⟩;refine⟨_,rfl,a,_,_,_,rfl,rfl,SqT.of ea,zka (j:=0) rfl,b0,_,rfl,SqT.of e0,?_⟩;refine zis (xs:=iM t.pts) (λi ys H'=>Same H H'∧i≤np∧ys=((going t).take i).map V.bl) (λi ys H' z=>SqT.of (z.1 _ _ e0)) ⟨Same.refl _,ycb _,rfl⟩ ?_ ?_ ?_
 ·rintro i ys H' ⟨_,hi,rfl⟩;rw[yca,ywa];exact small (by omega)
 ·rintro i v ys H' pp hv ⟨S,_,rfl⟩ hp;unfold iM at hv;rw[yla] at hv;obtain⟨x,hx,rfl⟩:=ygb.mp hv;have hi:i<np:=by rw[← TO.pts];exact (yga.mp hx).1
  obtain⟨g,hg⟩:=getx (xs:=t.gone) (i:=i) (by rw[TO.gone];exact hi);have eg:(going t)[i]?=some (decide (x≤0) && !g):=by
   unfold going;rw[yce,hx,hg]
  refine laid hp λH1 S1 e1=>?_;have S01:=S.trans S1;refine⟨pp,_,rfl,SqT.of e1,rfl,_,_,rfl,_,_,rfl,rfl,rfl,?_⟩;rw[yqa,eg,ywb,yva];refine⟨_,rfl,_,_,rfl,rfl,_,rfl,ite2 (λc=>?_) (λc=>?_)⟩
  ·have c':decide (x≤0)=true:=c;refine⟨_,rfl,_,rfl,b2,_,_,_,rfl,rfl,SqT.of (S01 _ _ e2),zze hg,_,rfl,S01,hi,?_⟩;rw[c',yjh];rfl
  ·have c':decide (x≤0)=false:=by simpa using c
   refine⟨S01,hi,?_⟩;rw[c',yaf];rfl
 rintro ys H1 ⟨S1,_,rfl⟩ gl hgl;rw[show (going t).take (iM t.pts).length=going t by
  unfold iM;rw[yca,TO.pts,← gol,yrb]]
 refine laid hgl λH2 S2 eg2=>?_;have S02:=S1.trans S2;have e52:=S02 _ _ e5;have eo2:=(GG.same S02).o;refine⟨_,rfl,a,_,_,_,rfl,rfl,SqT.of (S02 _ _ ea),zka (j:=5) rfl,b5,rfl,⟨_,SqT.of e52⟩,?_⟩;refine zak (xs:=iM t.lying) (λi ys H'=>H'=H2∧ys=iM ((t.lying.take i).filter λn=>(going t).getD (os.getD n.toNat 0) false)) (λi ys H' z=>by rw[z.1];exact SqT.of e52) ⟨rfl,rfl⟩ ?_ ?_ ?_
 ·rintro i ys H' ⟨_,rfl⟩;unfold iM;rw[yca];have h1:=ysb (λn=>(going t).getD (os.getD n.toNat 0) false) (t.lying.take i);rw[ywa] at h1;exact small (by omega)
 ·rintro i v ys H' hv ⟨rfl,rfl⟩;unfold iM at hv;rw[yla] at hv;obtain⟨x,hx,rfl⟩:=ygb.mp hv;obtain⟨x0,x1⟩:=TI0.rg x (yta hx);obtain⟨k,rfl⟩:∃k:Nat,x=(k:Int):=⟨x.toNat,by omega⟩;have gl:=GG.l;obtain⟨o,ho⟩:=getx (xs:=os) (i:=k) (by omega);have oN:=hos o (yta ho);obtain⟨b,hb⟩:=getx (xs:=going t) (i:=o) (by rw[gol];exact oN);have eb:(going t).getD (os.getD (k:Int).toNat 0) false=b:=by
   rw[ysa,ylb,ylb,ho];show ((going t)[o]?).getD false=b
   rw[hb];rfl
  rw[yqa,hx,ywb,yve];refine⟨rfl,_,rfl,_,rfl,_,rfl,oa,_,_,_,rfl,rfl,SqL.of eo2,zze ho,_,_,_,_,rfl,rfl,SqL.of eg2,zze hb,_,rfl,ite2 (λc=>?_) (λc=>?_)⟩
  ·refine⟨_,rfl,rfl,?_⟩;rw[yhd (by rw[eb];exact c)];unfold iM;rw[yva];rfl
  ·refine⟨rfl,?_⟩;rw[yid (by rw[eb];exact c)];simp
 rintro ys H3 ⟨rfl,rfl⟩ th hth;rw[show (t.lying.take (iM t.lying).length)=t.lying by
  unfold iM;rw[yca,yrb]]
 refine laid hth λH4 S4 e4=>?_;have e4':H4 th=some (.lst (iM (outs os t))):=e4;have S04:=S02.trans S4;refine⟨_,rfl,th,rfl,⟨_,SqL.of e4'⟩,?_⟩;have ond:(outs os t).Nodup:=n1.sublist ybg;refine zdh (xs:=iM (outs os t)) (λi σ H'=>Ex3 λtv (tx:Tab) o6=>σ=[some (.ref ca),some (.ref oa),some tv,some (.ref b2),some (.ref gl),some (.ref th),o6]∧Same H4 H'∧TabT H' tv tx∧TI np nc tx∧Lv cs t tx ((outs os t).take i)) ⟨.ref a,t,_,rfl,Same.refl _,TT0.kp (Kp.same S04),TI0,.nil⟩ (λi σ H' _ ⟨_,_,_,_,S,_⟩=>SqL.of (S _ _ e4')) ?_ ?_
 ·rintro i v σ H' hv ⟨tv,tx,o6,rfl,S,TTx,TIx,LV⟩;unfold iM at hv;rw[yla] at hv;obtain⟨x,hx,rfl⟩:=ygb.mp hv;have hm:=(yhc.mp (yta hx)).1;obtain⟨x0,x1⟩:=TI0.rg x hm;obtain⟨k,rfl⟩:∃k:Nat,x=(k:Int):=⟨x.toNat,by omega⟩;have hin:(k:Int)∈tx.lying:=by
   rw[LV.lying];refine yhc.mpr ⟨hm,?_⟩;have:(k:Int)∉(outs os t).take i:=λz=>by
    obtain⟨j,hj⟩:=ynf z;have jl:=(yga.mp hj).1;rw[ywa] at jl;rw[ygf (by omega)] at hj;have w:=(ypj (j:=i) (yga.mp hj).1 ond).mp (by rw[hj,hx]);omega
   simp[this]
  have S0:=S04.trans S;have GGx:=GG.same S0;refine⟨_,rfl,_,rfl,_,rfl,ca,tv,tx,np,nc,k,cs.map (·.marks),rfl,GGx.cds,TTx,TIx.ok,by omega,by rw[yca];exact hc,λv' t' H5 S5 TT5 cr=>?_⟩;refine⟨v',t',_,rfl,S.trans S5,TT5,(TIx.leave hin GG.k cr).1,?_⟩;rw[yqa,hx];exact LV.snoc TIx hin GG.k cr
 rintro σ H5 ⟨tv,tx,o6,rfl,S5,TTx,TIx,LV⟩;rw[show (outs os t).take (iM (outs os t)).length=outs os t by
  unfold iM;rw[yca,yrb]] at LV
 have S45:=S04.trans S5;have S25:=S4.trans S5;refine⟨_,rfl,_,rfl,_,rfl,b2,gl,_,_,rfl,SqT.of (S45 _ _ e2),SqL.of (S25 _ _ eg2),?_⟩;refine zudb (xs:=t.gone.map V.bl) (zs:=(going t).map V.bl) (λi ys H'=>Same H5 H'∧i≤np∧ys=((zyf t).take i).map V.bl) (by rw[yca,yca,gol,TO.gone]) (λi ys H' z=>⟨SqT.of ((S45.trans z.1) _ _ e2),SqL.of ((S25.trans z.1) _ _ eg2)⟩) ⟨Same.refl _,ycb _,rfl⟩ ?_ ?_ ?_
 ·rintro i ys H' ⟨_,hi,rfl⟩;rw[yca,ywa];exact small (by omega)
 ·rintro i x y ys H' pp hx hy ⟨S,_,rfl⟩ hp;rw[yla] at hx hy;obtain⟨g,hg,rfl⟩:=ygb.mp hx;obtain⟨b,hb,rfl⟩:=ygb.mp hy;have hi:i<np:=by rw[← gol];exact (yga.mp hb).1
  have eg:(zyf t)[i]?=some (g||b):=by
   unfold zyf;rw[yce,hg,hb]
  refine laid hp λH6 S6 e6=>?_;refine⟨pp,_,rfl,SqT.of e6,rfl,_,_,rfl,_,_,rfl,rfl,rfl,?_⟩;rw[yqa,eg,ywb,yva];refine⟨_,rfl,_,rfl,?_⟩;cases g with
  | true=>exact⟨S.trans S6,hi,rfl⟩
  | false=>exact⟨_,rfl,S.trans S6,hi,rfl⟩
 rintro ys H6 ⟨S6,_,rfl⟩ l hl;rw[show (zyf t).take (t.gone.map V.bl).length=zyf t by
  rw[yca,TO.gone,← ztl TO,yrb]]
 refine laid hl λH7 S7 e7=>?_;refine⟨l,_,rfl,.inl ⟨SqL.of e7,λtm htm=>?_⟩⟩;refine laid htm λH8 S8 e8=>?_;have S58:=S6.trans (S7.trans S8);obtain⟨a',w0,w1,w2,w3,w4,w5,w6,w7,w8,rfl,ea',TPx⟩:=TTx.kp (Kp.same S58);refine⟨a',_,2,.ref tm,rfl,ea',(by show 2<9;decide),(by show 9≤1000;decide),λr H9 S9 e9=>?_⟩;have TP9:=TPx.kp (Kp.same S9);refine q (.ref r) tx H9 (S45.trans (S58.trans S9)) ⟨r,w0,w1,.ref tm,w3,w4,w5,w6,w7,w8,rfl,e9,?_⟩ LV TIx;exact { TP9 with p2:=⟨tm,rfl,S9 _ _ e8⟩ }
theorem zueb {G:Prop}{Kx pre:V->Hp->Prop}(g:(∀v Hs,pre v Hs->Kx v Hs)->G)(k:∀v Hs,pre v Hs->Kx v Hs):G:=g k
theorem zukb {cms:List (List Str)}{t t':Tab}{n:Nat}{av:V}{kd:Str}(hn:(n:Int)∈t.lying){th:Int}(e:th=(n:Int))(h:HpR cms t kd th av t'):CrR cms t n av kd t':=by
 cases h with
 | no z =>
  exfalso;unfold hpM at z;rw[if_neg (by omega),e,decide_eq_true hn,Bool.or_true] at z;cases z
 | pl=>omega
 | @cr m _ _ _ c =>
  have:m=n:=by omega
  rw[← this];exact c
def zpjb (B:Addr):Sp:=λvs H Q _=>Ex11 λca oa sa ha tv (t:Tab) (np nc n:Nat) (cs:List Pc) (os:List Nat)=>vs=[.ref ca,.ref oa,tv,.ref sa,.ref ha]∧GC B H ca oa cs os∧TabT H tv t∧TI np nc t∧cs.length=nc∧CvT H sa t.lying∧H ha=some (.tup [.str "leave",.int (n:Int),.int 0])∧(n:Int)∈t.lying∧∀r s' m v' (t':Tab) H',Same H H'->TabT H' v' t'->CrR (cs.map (·.marks)) t n (.int 0) "leave" t'->H' r=some (.tup [v',.ref s',.ref m])->CvT H' s' t'.lying->(s'=sa∨H s'=none)->H m=none->H' m=some (.lst [])->Q (.ref r) H'
theorem zfdb (T:Tx K mg)(kb:K.In base):FnOk P w K mg base CX0 8 T.zgg.f T.zgg.d zsq (zpjb T.zub):=by
 refine T.zgg.ok zag ?_;rintro f c A o s H vs Q E hr ⟨ca,oa,sa,ha,tv,t,np,nc,n,cs,os,rfl,GG,TT,TI0,hc,CV,eh,hn,q⟩ X;have rn:=TI0.rg _ hn;refine⟨_,  (zca (zna (i:=5) zag.nd rfl (.inl rfl) (zja (zegb T) hr rfl T.zai.m T.zai.F.kp (zjlb T) .nil zza (zaa (pv 0) (zaa (pv 2) (zaa (pv 4) zba)))))
  (zca (zna (i:=6) zag.nd rfl (.inl rfl) (pv 3))
  (zca (zyd (zgb (zpbb hr.units) (znb (zaa (zra zwa (pv 5) (zdb (v:=.int 5) rfl T.zof ⟨_,rfl⟩) (λ_ _=>rfl)) (zaa (zra zwa (pv 5) (zdb (v:=.int 7) rfl T.zki ⟨_,rfl⟩) (λ_ _=>rfl)) zba))) (znb (zaa (zra zwa (pv 2) (zdb (v:=.int 5) rfl T.zof ⟨_,rfl⟩) (λ_ _=>rfl)) (zaa (zra zwa (pv 2) (zdb (v:=.int 7) rfl T.zki ⟨_,rfl⟩) (λ_ _=>rfl)) zba))) (zrb _))
   (zfa (zna (i:=6) zag.nd rfl (.inl rfl) (zja (zdp T kb).up hr rfl T.zsd.m T.zsd.F.kp (zms T) .nil zza (zaa (pv 0) (zaa (pv 1) (zaa (pv 5) zba))))))
   zsb)
  (zca (zyd (zgb zth (zra zwa (pv 4) zea (λ_ _=>rfl)) ztb (zrb _))
   (zfa (zna (i:=7) zag.nd rfl (.inl rfl) (zja (zih T).up hr rfl T.zob.m T.zob.F.kp (zmi T) .nil zza (zaa (zja (zwj T).up hr rfl T.zvc.m T.zvc.F.kp (zam T) .nil zza (zaa (pv 0) (zaa (pv 1) (zaa (pv 2) zba)))) (zaa (pv 3) (zaa ztb (zaa (pv 4) zba)))))))
   (zfa (zna (i:=7) zag.nd rfl (.inl rfl) (zja (zih T).up hr rfl T.zob.m T.zob.F.kp (zmi T) .nil zza (zaa (zja (zwj T).up hr rfl T.zvc.m T.zvc.F.kp (zam T) .nil zza (zaa (pv 0) (zaa (pv 1) (zaa (pv 5) zba)))) (zaa (pv 6) (zaa ztb (zaa (pv 4) zba))))))))
  (zfa (zbb (znb (zaa (pv 5) (zaa (pv 6) (zaa (zuc (own:=["came","place","number","keeper"]) (cap:=[]) rfl (zsa.chk rfl rfl) .nil (zic (pv 7)) (λ_ _ _ _=>(zmm K (n:=4) rfl (zla (zda (i:=0) (show yjb (["came","place","number","keeper"]:List Str) by decide +kernel) rfl (.inl rfl)) (zla (zda (i:=1) (show yjb (["came","place","number","keeper"]:List Str) by decide +kernel) rfl (.inl rfl)) (zla (zda (i:=2) (show yjb (["came","place","number","keeper"]:List Str) by decide +kernel) rfl (.inl rfl)) (zla (zda (i:=3) (show yjb (["came","place","number","keeper"]:List Str) by decide +kernel) rfl (.inl rfl)) zfd)))))) (λ_ _ _ _=>zyb) (λ_ _ _ _=>by exact (znb (zaa (pv 3) (zaa (pv 2) (zaa (pv 1) zba)))))) zba)))))))))),?_⟩
 refine⟨_,rfl,_,rfl,_,rfl,ca,tv,ha,t,np,nc,(n:Int),cs.map (·.marks),"leave",.int 0,rfl,GG.cds,TT,TI0.ok,eh,by omega,by omega,by rw[yca];exact hc,λz=>by omega,λ_=>.inr (.inl rfl),λv' t' H1 S1 TT1 hp=>?_⟩;have cr:=zukb hn rfl hp;obtain⟨TI1,_⟩:=TI0.leave hn GG.k cr;have lsub:∀x∈t'.lying,x∈t.lying:=λx hx=>by
  cases cr with
  | leave _ _ _=>exact (yhc.mp hx).1
 refine⟨_,rfl,?_⟩;obtain⟨a,v0,v1,v2,v3,v4,v5,v6,v7,v8,rfl,ea,TP⟩:=id TT;obtain⟨a1,w0,w1,w2,w3,w4,w5,w6,w7,w8,rfl,ea1,TP1⟩:=id TT1;refine⟨_,rfl,a1,_,_,_,rfl,rfl,SqT.of ea1,zka (j:=5) rfl,_,rfl,a1,_,_,_,rfl,rfl,SqT.of ea1,zka (j:=7) rfl,sz2,λp1 hp1=>?_⟩;refine laid hp1 λH2 S2 e2=>?_;have S02:=S1.trans S2;refine⟨_,rfl,a,_,_,_,rfl,rfl,SqT.of (S02 _ _ ea),zka (j:=5) rfl,_,rfl,a,_,_,_,rfl,rfl,SqT.of (S02 _ _ ea),zka (j:=7) rfl,sz2,λp2 hp2=>?_⟩;refine laid hp2 λH3 S3 e3=>?_;have S03:=S02.trans S3;have S13:=S2.trans S3;have TPa:=TP.kp (Kp.same S03);have TPb:=TP1.kp (Kp.same S13);refine⟨lmD t',lmD t,.tup (SqT.of (S3 _ _ e2)) (.cons (ztu TPb.p5) (.cons (zunb TPb.p7) .nil)),.tup (SqT.of e3) (.cons (ztu TPa.p5) (.cons (zunb TPa.p7) .nil)),zow TI1.nm,zow TI0.nm,_,rfl,?_⟩;refine' zueb (pre:=λv Hs=>∃s',v = .ref s'∧Same H3 Hs∧CvT Hs s' t'.lying∧(s'=sa∨H s'=none)) (λkk=>?g1) ?k1
 case g1 =>
  refine ite2 (λc=>?a) (λc=>?b)
  case a =>
   refine⟨_,rfl,_,rfl,_,rfl,ca,oa,.ref a1,t',np,nc,cs,os,rfl,GG.same S03,TT1.kp (Kp.same S13),TI1,hc,λp out ns H4 S4 np4 e4 al pn so=>?_⟩;obtain⟨v4,hv4⟩:∃x,x=V.ref p:=⟨_,rfl⟩;rw[← hv4];exact kk v4 H4 ⟨p,hv4,S4,⟨out,ns,e4,al.imp λz=>z.a,λx hx=>pn.mem_iff.mpr hx⟩,.inr (none_of S03 np4)⟩
  case b=>exact kk (.ref sa) H3 ⟨sa,rfl,Same.refl _,(CV.same S03).less lsub,.inl rfl⟩
 case k1 =>
 rintro _ H4 ⟨s',rfl,S4,CV4,hs'⟩;have S04:=S03.trans S4;refine⟨_,rfl,ha,_,_,_,rfl,rfl,SqT.of (S04 _ _ eh),zka (j:=0) rfl,rfl,_,rfl,iteT ?_⟩;refine⟨_,rfl,_,rfl,_,rfl,ca,oa,.ref a,t,np,nc,cs,os,rfl,GG.same S04,TT.kp (Kp.same S04),TI0,hc,λp us H5 S5 np5 e5 al=>?_⟩;have S05:=S04.trans S5;refine⟨_,rfl,_,rfl,p,sa,ha,us,cs,os,t.marks,t.lying,"when","leave",(n:Int),.int 0,rfl,e5,al,CV.same S05,S05 _ _ eh,λm H6 S6 nm6 e6=>?_⟩;refine⟨_,rfl,_,rfl,_,rfl,m,rfl,⟨_,SqL.of e6⟩,?_⟩;refine zoc (xs:=[]) (λi ys H'=>H'=H6∧ys=[]) (λi ys H' z=>by rw[z.1];exact SqL.of e6) ⟨rfl,rfl⟩ ?_ ?_ ?_
 ·rintro i ys H' ⟨_,rfl⟩;exact ycb _
 ·intro i v ys H' hx;cases hx
 ·rintro ys H9 ⟨rfl,rfl⟩ b hb;refine laid hb λH7 S7 e7=>?_;refine⟨sz3,λr hr'=>?_⟩;refine laid hr' λH8 S8 e8=>?_;have S48:=S5.trans (S6.trans (S7.trans S8));exact q r s' b (.ref a1) t' H8 (S04.trans S48) (TT1.kp (Kp.same (S13.trans (S4.trans S48)))) cr e8 (CV4.same S48) hs' (none_of (S05.trans S6) hb) (S8 _ _ e7)
def LgT (F H:Hp)(u:V)(n:Int):Prop:=Ex3 λa h tr=>u = .ref a∧H a=some (.tup [.ref h,.ref tr,.ref h])∧H h=some (.tup [.str "leave",.int n,.int 0])∧H tr=some (.lst [])∧F tr=none
theorem LgT.same {F H H':Hp}(s:Same H H'){u:V}{n:Int}(h:LgT F H u n):LgT F H' u n:=by
 obtain⟨a,h,tr,e,h1,h2,h3,h4⟩:=h;exact⟨a,h,tr,e,s _ _ h1,s _ _ h2,s _ _ h3,h4⟩
theorem LgT.put {F H:Hp}{y:Addr}{ys ws:List V}(e:H y=some (.lst ys))(hy:F y≠none){u:V}{n:Int}(h:LgT F H u n):LgT F (upd H y (.lst ws)) u n:=by
 obtain⟨a,h,tr,eu,h1,h2,h3,h4⟩:=h;exact⟨a,h,tr,eu,(Kp.put e).t h1,(Kp.put e).t h2,by rw[zta (λz=>hy (by rw[← z];exact h4))];exact h3,h4⟩
theorem LgT.bas {F G H:Hp}(g:∀a,F a=none->G a=none){u:V}{n:Int}(h:LgT F H u n):LgT G H u n:=by
 obtain⟨a,h,tr,e,h1,h2,h3,h4⟩:=h;exact⟨a,h,tr,e,h1,h2,h3,g _ h4⟩
def HpN (H:Hp)(u:V)(n:Int):Prop:=∃a,u = .ref a∧H a=some (.tup [.str "leave",.int n,.int 0])
theorem HpN.kp {H H':Hp}(s:Kp H H'){u:V}{n:Int}(h:HpN H u n):HpN H' u n:=by
 obtain⟨a,e,h⟩:=h;exact⟨a,e,s.t h⟩
def ResT (F H:Hp)(r:Addr)(t:Tab)(ns ch:List Int):Prop:=Ex5 λv lg c2 lf us=>H r=some (.tup [v,.ref lg,.ref c2,.ref lf])∧TabT H v t∧H lg=some (.lst us)∧All2 (LgT F H) us ns∧H c2=some (.lst [])∧H lf=some (.lst (iM ch))∧F lg=none∧F c2=none∧F lf=none∧lg≠c2∧lg≠lf∧c2≠lf
def ziob (B:Addr):Sp:=λvs H Q _=>Ex14 λca oa sa hl cl tv (t:Tab) (np nc:Nat) (cs:List Pc) (os:List Nat) hs (ns ch:List Int)=>vs=[.ref ca,.ref oa,tv,.ref sa,.ref hl,.ref cl]∧GC B H ca oa cs os∧TabT H tv t∧TI np nc t∧cs.length=nc∧CvT H sa t.lying∧H hl=some (.lst hs)∧All2 (HpN H) hs ns∧ns.Nodup∧(∀n∈ns,n∈t.lying)∧H cl=some (.lst (iM ch))∧∀r (t':Tab) H',Same H H'->Lv cs t t' ns->TI np nc t'->ResT H H' r t' ns ch->Q (.ref r) H'
theorem grow {F H:Hp}(h:Same F H):∀a,H a=none->F a=none:=λ_ z=>none_of h z
theorem zco {F H:Hp}{y:Addr}{o:HO}(e:∀a,H a=none->F a=none)(hy:H y≠none):∀a,upd H y o a=none->F a=none:=λa z=>by
 by_cases c:a=y
 ·rw[c,zua] at z;cases z
 ·rw[zta c] at z;exact e a z
theorem zddb (T:Tx K mg)(kb:K.In base):FnOk P w K mg base CX0 9 T.zdg.f T.zdg.d znq (ziob T.zub):=by
 refine T.zdg.ok zwc ?_;rintro f c A o s H vs Q E hr ⟨ca,oa,sa,hl,cl,tv,t,np,nc,cs,os,hs,ns,ch,rfl,GG,TT,TI0,hc,CV,ehl,alh,nnd,nin,ecl,q⟩ X;refine⟨_,  (zca (zna (i:=6) zwc.nd rfl (.inl rfl) (zlc zba))
  (zca (zna (i:=7) zwc.nd rfl (.inl rfl) (zlc zba))
  (zca (zna (i:=8) zwc.nd rfl (.inl rfl) (zoa zzc rfl T.zui yfl (zaa (pv 5) zba)))
  (zca (zlf ydc rfl (zic (pv 4)) (zda (i:=9) zwc.nd rfl (.inl rfl))
   (zfa (zyd (zng (zja (zzr T).up hr rfl T.zwe.m T.zwe.F.kp (ztx T) .nil zza (zaa (pv 2) (zaa (pv 9) zba))))
    (zca (zog (zja (zep T).up hr rfl T.zrc.m T.zrc.F.kp (zyq T) .nil zza (zaa (zja (zwj T).up hr rfl T.zvc.m T.zvc.F.kp (zam T) .nil zza (zaa (pv 0) (zaa (pv 1) (zaa (pv 2) zba)))) (zaa (pv 3) (zaa (pv 9) (zaa (pv 8) zba))))) (zzg (n:=3) rfl (zla (zda (i:=10) zwc.nd rfl (.inl rfl)) (zla (zda (i:=11) zwc.nd rfl (.inl rfl)) (zla (zda (i:=8) zwc.nd rfl (.inl rfl)) zfd)))))
    (zca (zfc (zff yya ymb ynb zbc (pv 6) (zaa (znb (zaa (pv 9) (zaa (pv 10) (zaa (pv 11) zba)))) zba)))
    (zfa (zyd (zgb zbpb (pv 11) zwfb (zrb _))
     (zca (zog (zja (zfdb T kb) hr rfl T.zgg.m T.zgg.F.kp (zeib T) .nil zza (zaa (pv 0) (zaa (pv 1) (zaa (pv 2) (zaa (pv 3) (zaa (pv 11) zba)))))) (zzg (n:=3) rfl (zla (zda (i:=2) zwc.nd rfl (.inl rfl)) (zla (zda (i:=3) zwc.nd rfl (.inl rfl)) (zla (zda (i:=12) zwc.nd rfl (.inl rfl)) zfd)))))
     (zfa (zfc (zff yya yoi ypi zmp (pv 7) (zaa (pv 12) zba)))))
     zsb))))
    zsb)))
  (zfa (zbb (znb (zaa (pv 2) (zaa (pv 6) (zaa (pv 7) (zaa (pv 8) zba))))))))))),?_⟩
 refine⟨sz0,λlg hlg=>?_⟩;refine laid hlg λH1 S1 e1=>?_;refine⟨sz0,λc2 hc2=>?_⟩;refine laid hc2 λH2 S2 e2=>?_;have S02:=S1.trans S2;refine⟨_,rfl,cl,_,rfl,.inl (SqL.of (S02 _ _ ecl)),λlf0 hlf0=>?_⟩;refine laid hlf0 λH3 S3 e3=>?_;have S03:=S02.trans S3;have e13:=(S2.trans S3) _ _ e1;have e23:=S3 _ _ e2;have fc2:H c2=none:=none_of S1 hc2;have n12:lg≠c2:=zga e1 hc2;have hal:=alh.len;have nl16:ns.length≤16:=yqb (yxj nnd λn hn=>nin n hn) TI0.ok.ly;obtain⟨outs0,nss0,esa,_⟩:=id CV;refine⟨_,rfl,hl,rfl,⟨_,SqL.of (S03 _ _ ehl)⟩,?_⟩;refine zdh (xs:=hs) (λi σ Hx=>Ex9 λtv s' lf (tx:Tab) us o9 o10 o11 o12=>σ=[some (.ref ca),some (.ref oa),some tv,some (.ref s'),some (.ref hl),some (.ref cl),some (.ref lg),some (.ref c2),some (.ref lf),o9,o10,o11,o12]∧Same H Hx∧(∀a,Hx a=none->H3 a=none)∧TabT Hx tv tx∧TI np nc tx∧Lv cs t tx (ns.take i)∧CvT Hx s' tx.lying∧s'≠lg∧s'≠c2∧Hx lg=some (.lst us)∧All2 (LgT H3 Hx) us (ns.take i)∧Hx c2=some (.lst [])∧Hx lf=some (.lst (iM ch))∧lf≠lg∧lf≠c2∧H lf=none) ⟨tv,sa,lf0,t,[],_,_,_,_,rfl,S03,λ_ z=>z,TT.kp (Kp.same S03),TI0,.nil,CV.same S03,zga esa hlg,zga esa fc2,e13,.nil,e23,e3,ykd (zga (S2 _ _ e1) hlf0),ykd (zga e2 hlf0),none_of S02 hlf0⟩ (λi σ Hx _ ⟨_,_,_,_,_,_,_,_,_,_,S,_⟩=>SqL.of (S _ _ ehl)) ?_ ?_
 ·rintro i u σ Hx hu ⟨tv,s',lf,tx,us,o9,o10,o11,o12,rfl,S,gr,TTx,TIx,LV,CVx,ns1,ns2,elg,alg,ec2,elf,nf1,nf2,flf⟩;obtain⟨n0,en,ha,rfl,eh⟩:=alh.get hu;have hi:i<hs.length:=(yga.mp hu).1;have hm:=nin n0 (yta en);obtain⟨x0,x1⟩:=TI0.rg n0 hm;obtain⟨n,rfl⟩:∃k:Nat,n0=(k:Int):=⟨n0.toNat,by omega⟩;have hin:(n:Int)∈tx.lying:=by
   rw[LV.lying];refine yhc.mpr ⟨hm,?_⟩;have:(n:Int)∉ns.take i:=λz=>by
    obtain⟨j,hj⟩:=ynf z;have jl:=(yga.mp hj).1;rw[ywa] at jl;rw[ygf (by omega)] at hj;have w:=(ypj (j:=i) (yga.mp hj).1 nnd).mp (by rw[hj,en]);omega
   simp[this]
  refine⟨_,rfl,_,rfl,tv,ha,tx,np,nc,"leave",(n:Int),.int 0,rfl,TTx,TIx.ok,S _ _ eh,by omega,λH4 S4=>?_⟩;have hh:hpM tx "leave" (n:Int)=true:=by
   unfold hpM;rw[if_neg (by omega),decide_eq_true hin,Bool.or_true]
  refine⟨_,rfl,?_⟩;rw[hh];refine iteT ?_;have S04:=S.trans S4;refine⟨_,rfl,_,rfl,_,rfl,ca,oa,tv,tx,np,nc,cs,os,rfl,GG.same S04,TTx.kp (Kp.same S4),TIx,hc,λrw5 ru H5 S5 nr5 e5 al5=>?_⟩;have S45:=S4.trans S5;have S05:=S.trans S45;refine⟨_,rfl,_,rfl,_,rfl,rw5,s',ha,lf,ru,cs,os,tx.marks,tx.lying,"leave",(n:Int),.int 0,ch,rfl,e5,al5,CVx.same S45,S05 _ _ eh,S45 _ _ elf,λtp tr lf' H6 S6 ftr flf' ntl e6 etr elf6=>?_⟩;have S46:=S45.trans S6;have S06:=S.trans S46;refine⟨tp,_,rfl,SqT.of e6,rfl,_,_,rfl,_,_,rfl,_,_,rfl,rfl,?_⟩;have elg6:=S46 _ _ elg;have ec26:=S46 _ _ ec2;refine⟨_,rfl,.inl ⟨rfl,_,SqL.of elg6⟩,_,rfl,_,rfl,_,rfl,sz3,λet het=>?_⟩;refine laid het λH7 S7 e7=>?_;have S47:=S46.trans S7;have S07:=S06.trans S7;have elg7:=S7 _ _ elg6;have ul:=alg.len;rw[ywa] at ul;refine⟨lg,_,_,rfl,rfl,elg7,zpd (by omega),?_⟩;have S08:Same H (upd H7 lg (.lst (us++[.ref et]))):=zed S07 hlg _;have kp8:Kp H7 (upd H7 lg (.lst (us++[.ref et]))):=Kp.put elg7;have ftr3:H3 tr=none:=gr _ (none_of S45 ftr);have ntr:tr≠lg:=λz=>by rw[z,e13] at ftr3;cases ftr3
  have flg3:H3 lg≠none:=by rw[e13];intro z;cases z
  have alg8:All2 (LgT H3 (upd H7 lg (.lst (us++[.ref et])))) (us++[.ref et]) (ns.take (i+1)):=by
   rw[yqa,en];refine All2.snoc ⟨et,ha,tr,rfl,kp8.t e7,kp8.t (S07 _ _ eh),?_,ftr3⟩ (alg.imp λz=>(z.same S47).put elg7 flg3);rw[zta ntr];exact S7 _ _ etr
  have lf'lg:lf'≠lg:=ykd (zga (S45 _ _ elg) flf');have lf'c2:lf'≠c2:=ykd (zga (S45 _ _ ec2) flf');have elg8:upd H7 lg (.lst (us++[.ref et])) lg=some (.lst (us++[.ref et])):=zua;have ec28:upd H7 lg (.lst (us++[.ref et])) c2=some (.lst []):=by rw[zta (ykd n12)];exact S7 _ _ ec26
  have elf8:upd H7 lg (.lst (us++[.ref et])) lf'=some (.lst (iM ch)):=by rw[zta lf'lg];exact S7 _ _ elf6
  have CV8:CvT (upd H7 lg (.lst (us++[.ref et]))) s' tx.lying:=(CVx.same S47).at kp8 λxs z=>by rw[zta ns1];exact z
  have TT8:=(TTx.kp (Kp.same S47)).kp kp8;have gr8:∀a,upd H7 lg (.lst (us++[.ref et])) a=none->H3 a=none:=zco (λa z=>gr a (none_of S47 z)) (by rw[elg7];intro z;cases z);generalize upd H7 lg (.lst (us++[.ref et]))=H8 at S08 alg8 elg8 ec28 elf8 CV8 TT8 gr8 ⊢;clear kp8;refine⟨_,rfl,rfl,_,rfl,iteT ?_⟩;refine⟨_,rfl,_,rfl,_,rfl,_,rfl,_,rfl,ca,oa,s',ha,tv,tx,np,nc,n,cs,os,rfl,GG.same S08,TT8,TIx,hc,CV8,S08 _ _ eh,hin,λr9 s9 m9 v9 t9 H9 S9 TT9 cr e9 CV9 hs9 fm9 em9=>?_⟩;refine⟨r9,_,rfl,SqT.of e9,rfl,_,_,rfl,_,_,rfl,_,_,rfl,rfl,?_⟩;have ec29:=S9 _ _ ec28;refine⟨_,rfl,.inl ⟨rfl,_,SqL.of ec29⟩,_,rfl,c2,m9,_,_,rfl,rfl,ec29,em9,(by decide),?_⟩;have S09:=S08.trans S9;have kpA:Kp H9 (upd H9 c2 (.lst ([]++[]))):=Kp.put ec29;have flc3:H3 c2≠none:=by rw[e23];intro z;cases z
  have s9n:s9≠lg∧s9≠c2:=by
   rcases hs9 with z|z
   ·rw[z];exact⟨ns1,ns2⟩
   ·exact⟨ykd (zga elg8 z),ykd (zga ec28 z)⟩
  refine⟨v9,s9,lf',t9,us++[.ref et],_,_,_,_,rfl,zed S09 fc2 _,zco (λa z=>gr8 a (none_of S9 z)) (by rw[ec29];intro z;cases z),TT9.kp kpA,(TIx.leave hin GG.k cr).1,?_,CV9.at kpA (λxs z=>by rw[zta s9n.2];exact z),s9n.1,s9n.2,by rw[zta n12];exact S9 _ _ elg8,alg8.imp λz=>(z.same S9).put ec29 flc3,zua,by rw[zta lf'c2];exact S9 _ _ elf8,lf'lg,lf'c2,none_of S05 flf'⟩;rw[yqa,en];exact LV.snoc TIx hin GG.k cr
 ·rintro σ Hx ⟨tv,s',lf,tx,us,o9,o10,o11,o12,rfl,S,gr,TTx,TIx,LV,CVx,ns1,ns2,elg,alg,ec2,elf,nf1,nf2,flf⟩;rw[hal,yrb] at LV alg;refine⟨_,rfl,_,rfl,_,rfl,_,rfl,sz4,λr hr'=>?_⟩;refine laid hr' λH5 S5 e5=>?_;exact q r tx H5 (S.trans S5) LV TIx ⟨tv,lg,c2,lf,us,e5,TTx.kp (Kp.same S5),S5 _ _ elg,alg.imp λz=>(z.same S5).bas (grow S03),S5 _ _ ec2,S5 _ _ elf,hlg,fc2,flf,n12,ykd nf1,ykd nf2⟩
theorem All2.app {α β:Type}{R:α->β->Prop}{as cs:List α}{bs ds:List β}(x:All2 R as bs)(y:All2 R cs ds):All2 R (as++cs) (bs++ds):=by
 induction x with
 | nil=>exact y
 | cons h _ ih=>exact .cons h ih
def zzab (B:Addr):Sp:=λvs H Q _=>Ex10 λca oa cl tv (t:Tab) (np nc:Nat) (cs:List Pc) (os:List Nat) (ch:List Int)=>vs=[.ref ca,.ref oa,tv,.ref cl]∧GC B H ca oa cs os∧TabT H tv t∧TI np nc t∧cs.length=nc∧(∀o∈os,o<np)∧H cl=some (.lst (iM ch))∧∀r (t':Tab) (ns:List Int) H',Same H H'->Lk cs os t t' ns->TI np nc t'->ResT H H' r t' ns ch->Q (.ref r) H'
theorem zepb (T:Tx K mg)(kb:K.In base):FnOk P w K mg base CX0 10 T.zgo.f T.zgo.d zkib (zzab T.zub):=by
 refine T.zgo.ok zus ?_;rintro f c A o s H vs Q E hr ⟨ca,oa,cl,tv,t,np,nc,cs,os,ch,rfl,GG,TT,TI0,hc,hos,ecl,q⟩ X;refine⟨_,  (zca (zna (i:=2) zus.nd rfl (.inr rfl) (zja (zaw T).up hr rfl T.zde.m T.zde.F.kp (zuz T) .nil zza (zaa (pv 0) (zaa (pv 1) (zaa (pv 2) zba)))))
  (zca (zna (i:=4) zus.nd rfl (.inl rfl) (zja (zdp T kb).up hr rfl T.zsd.m T.zsd.F.kp (zms T) .nil zza (zaa (pv 0) (zaa (pv 1) (zaa (pv 2) zba)))))
  (zca (zwd (i:=5) zus.nd rfl (.inl rfl) (own:=["row"]) (cap:=["table"]) rfl (zsa.chk rfl rfl) (.cons (j:=2) rfl (.inl rfl) (.inl rfl) .nil) (zic (pv 4)) (λ_ _ _ _=>(zda (i:=0) (show yjb (["row","table"]:List Str) by decide +kernel) rfl (.inl rfl))) (λ_ _ _ _=>zmg (zgb zprb (zra (zwb K) (zra (zwb K) (pv 1) (zdb (v:=.int 8) rfl T.zji ⟨_,rfl⟩) (λ_ _=>rfl)) (zra (zwb K) (pv 0) zea (λ_ _=>rfl)) (λ_ _=>rfl)) (zra (zwb K) (pv 0) zea (λ_ _=>rfl)) (zrb _))) (λ_ _ _ _=>by exact (znb (zaa ztb (zaa (zra (zwb K) (pv 0) zea (λ_ _=>rfl)) (zaa zea zba))))))
  (zfa (zbb (zja (zddb T kb) hr rfl T.zdg.m T.zdg.F.kp (zbib T) .nil zza (zaa (pv 0) (zaa (pv 1) (zaa (pv 2) (zaa (pv 4) (zaa (pv 5) (zaa (pv 3) zba)))))))))))),?_⟩
 refine⟨_,rfl,_,rfl,_,rfl,ca,oa,tv,t,np,nc,cs,os,rfl,GG,TT,TI0,hc,hos,λv1 t1 H1 S1 TT1 LV1 TI1=>?_⟩;have TI2:=TI1.gone (ztl TI0.ok);refine⟨_,rfl,_,rfl,_,rfl,ca,oa,v1,{ t1 with gone:=zyf t },np,nc,cs,os,rfl,GG.same S1,TT1,TI2,hc,λp out ns0 H2 S2 np2 e2 al pn so=>?_⟩;have pn':ns0.Perm t1.lying:=pn;have S02:=S1.trans S2;obtain⟨a,w0,w1,w2,w3,w4,w5,w6,w7,w8,rfl,ea,TP⟩:=TT1.kp (Kp.same S2);obtain⟨b8,rfl,e8⟩:=TP.p8;have e8':H2 b8=some (.tup (iM t1.wnds)):=e8;have ol:=al.len;have nl:=pn'.length_eq;have ly:=TI1.ok.ly;refine⟨_,rfl,p,rfl,⟨_,SqL.of e2⟩,?_⟩;refine zoc (xs:=out) (λi ys H'=>Same H2 H'∧All2 (HpN H') ys ((ns0.take i).filter (worn cs t1.wnds))) (λi ys H' z=>SqL.of (z.1 _ _ e2)) ⟨Same.refl _,.nil⟩ ?_ ?_ ?_
 ·rintro i ys H' ⟨_,hy⟩;have h1:=hy.len;have h2:=ysb (worn cs t1.wnds) (ns0.take i);rw[ywa] at h2;exact small (by omega)
 ·rintro i u ys H' hu ⟨S,hy⟩;obtain⟨n,en,sg⟩:=al.get hu;obtain⟨ra,m,k,o,c,mm,rfl,rfl,c1,c2,c3,er,em⟩:=sg.kp (Kp.same S);have kn:k<nc:=by rw[← hc];exact (yga.mp c1).1
  obtain⟨x,hx⟩:=getx (xs:=t1.wnds) (i:=k) (by rw[TI1.ok.wnds];exact kn);have ew:worn cs t1.wnds (k:Int)=decide ((c.force:Int)≤x):=by
   unfold worn;rw[ysa,c1,hx];rfl
  rw[yqa,en,ywb,yve];refine⟨rfl,_,rfl,a,_,_,_,rfl,rfl,SqT.of (S _ _ ea),zka (j:=8) rfl,_,rfl,ra,_,_,_,rfl,rfl,SqT.of er,zka (j:=0) rfl,b8,_,_,_,rfl,rfl,SqT.of (S _ _ e8'),zze hx,_,rfl,ra,_,_,_,rfl,rfl,SqT.of er,zka (j:=3) rfl,_,_,rfl,rfl,_,rfl,ite2 (λc=>?_) (λc=>?_)⟩
  ·refine⟨_,rfl,ra,_,_,_,rfl,rfl,SqT.of er,zka (j:=0) rfl,sz3,λta hta=>?_⟩;refine laid hta λH4 S4 e4=>?_;refine⟨S.trans S4,?_⟩;rw[yhd (by rw[ew];exact c)];exact All2.snoc ⟨ta,rfl,e4⟩ (hy.imp λz=>z.kp (Kp.same S4))
  ·refine⟨S,?_⟩;rw[yid (by rw[ew];exact c),List.filter_nil,ync];exact hy
 rintro ys H3 ⟨S3,hy⟩ hl hhl;rw[yfb (by omega)] at hy;refine laid hhl λH4 S4 e4=>?_;have S24:=S3.trans S4;have S04:=S02.trans S24;have nd0:ns0.Nodup:=ych (λz=>Int.ne_of_lt z) so;refine⟨_,rfl,_,rfl,_,rfl,_,rfl,_,rfl,_,rfl,ca,oa,p,hl,cl,.ref a,{ t1 with gone:=zyf t },np,nc,cs,os,ys,ns0.filter (worn cs t1.wnds),ch,rfl,GG.same S04,TT1.kp (Kp.same (S2.trans S24)),TI2,hc,⟨out,ns0,S24 _ _ e2,al.imp λz=>(z.kp (Kp.same S24)).a,λx hx=>pn'.mem_iff.mpr hx⟩,e4,hy.imp λz=>z.kp (Kp.same S4),nd0.sublist ybg,λx hx=>pn'.mem_iff.mp (yhc.mp hx).1,S04 _ _ ecl,λr t' H5 S5 LV TI5 RS=>?_⟩;refine q r t' _ H5 (S04.trans S5) ⟨t1,LV1,TI1.so,LV,TI5.so,pn'.filter _,so.sublist ybg⟩ TI5 ?_;obtain⟨v,lg,c2,lf,us,r1,r2,r3,r4,r5,r6,r7,r8,r9,r10⟩:=RS;exact⟨v,lg,c2,lf,us,r1,r2,r3,r4.imp λz=>z.bas (grow S04),r5,r6,none_of S04 r7,none_of S04 r8,none_of S04 r9,r10⟩
theorem zdgb (T:Tx K mg)(kb:K.In base):FnOk P w K mg base CX0 11 T.zzh.f T.zzh.d zfu (zzab T.zub):=by
 refine T.zzh.ok zrd ?_;rintro f c A o s H vs Q E hr ⟨ca,oa,cl,tv,t,np,nc,cs,os,ch,rfl,GG,TT,TI0,hc,hos,ecl,q⟩ X;refine⟨_,  (zca (zna (i:=4) zrd.nd rfl (.inl rfl) (zlc zba))
  (zca (zna (i:=5) zrd.nd rfl (.inl rfl) (zlc zba))
  (zca (zna (i:=6) zrd.nd rfl (.inl rfl) (zoa zzc rfl T.zui yfl (zaa (pv 3) zba)))
  (zca (zna (i:=7) zrd.nd rfl (.inl rfl) zzy)
  (zca (zzs ydc (zsh (zng (pv 7)))
   (zca (zog (zja (zepb T kb) hr rfl T.zgo.m T.zgo.F.kp (zysb T) .nil zza (zaa (pv 0) (zaa (pv 1) (zaa (pv 2) (zaa (pv 6) zba))))) (zzg (n:=4) rfl (zla (zda (i:=8) zrd.nd rfl (.inl rfl)) (zla (zda (i:=9) zrd.nd rfl (.inl rfl)) (zla (zda (i:=10) zrd.nd rfl (.inl rfl)) (zla (zda (i:=6) zrd.nd rfl (.inl rfl)) zfd))))))
   (zca (zfc (zff yya yoi ypi zmp (pv 4) (zaa (pv 9) zba)))
   (zca (zfc (zff yya yoi ypi zmp (pv 5) (zaa (pv 10) zba)))
   (zca (zna (i:=7) zrd.nd rfl (.inl rfl) (zqg (zqrb hr.units) (pv 8) (pv 2) (zrb _)))
   (zfa (zna (i:=2) zrd.nd rfl (.inr rfl) (pv 8))))))))
  (zfa (zbb (znb (zaa (pv 2) (zaa (pv 4) (zaa (zuc (own:=["one"]) (cap:=["table"]) rfl (zsa.chk rfl rfl) (.cons (j:=2) rfl (.inl rfl) (.inl rfl) .nil) (zic (pv 5)) (λ_ _ _ _=>(zda (i:=0) (show yjb (["one","table"]:List Str) by decide +kernel) rfl (.inl rfl))) (λ_ _ _ _=>zmg (zsh (zng (zra (zwb K) (zra (zwb K) (pv 1) (zdb (v:=.int 2) rfl T.zwp ⟨_,rfl⟩) (λ_ _=>rfl)) (zra (zwb K) (pv 0) zea (λ_ _=>rfl)) (λ_ _=>rfl))))) (λ_ _ _ _=>by exact (pv 0))) (zaa (pv 6) zba)))))))))))),?_⟩
 refine⟨sz0,λlg hlg=>?_⟩;refine laid hlg λH1 S1 e1=>?_;refine⟨sz0,λc2 hc2=>?_⟩;refine laid hc2 λH2 S2 e2=>?_;have S02:=S1.trans S2;refine⟨_,rfl,cl,_,rfl,.inl (SqL.of (S02 _ _ ecl)),λlf0 hlf0=>?_⟩;refine laid hlf0 λH3 S3 e3=>?_;have S03:=S02.trans S3;have e13:=(S2.trans S3) _ _ e1;have e23:=S3 _ _ e2;have fc2:H c2=none:=none_of S1 hc2;have n12:lg≠c2:=zga e1 hc2;have flg3:H3 lg≠none:=by rw[e13];intro z;cases z
 have flc3:H3 c2≠none:=by rw[e23];intro z;cases z
 obtain⟨W,hW⟩:∃W:Nat->L2.St->Hp->Prop,W=λm σ Hx=>Ex9 λtv lf (tx:Tab) us (ns:List Int) (rb:Bool) o8 o9 o10=>σ=[some (.ref ca),some (.ref oa),some tv,some (.ref cl),some (.ref lg),some (.ref c2),some (.ref lf),some (.bl rb),o8,o9,o10]∧Same H Hx∧(∀a,Hx a=none->H3 a=none)∧TabT Hx tv tx∧TI np nc tx∧Hx lg=some (.lst us)∧All2 (LgT H3 Hx) us ns∧Hx c2=some (.lst [])∧Hx lf=some (.lst (iM ch))∧lf≠lg∧lf≠c2∧H lf=none∧((m=2∧rb=false∧tx=t∧ns=[])∨(m=1∧Lk cs os t tx ns)∨(m=0∧rb=true∧Lk cs os t tx ns)):=⟨_,rfl⟩;refine⟨W,⟨2,by rw[hW];exact⟨tv,lf0,t,[],[],false,_,_,_,rfl,S03,λ_ z=>z,TT.kp (Kp.same S03),TI0,e13,.nil,e23,e3,ykd (zga (S2 _ _ e1) hlf0),ykd (zga e2 hlf0),none_of S02 hlf0,.inl ⟨rfl,rfl,rfl,rfl⟩⟩⟩,?_⟩;intro m σ Hx hw;rw[hW] at hw;obtain⟨tv,lf,tx,us,ns,rb,o8,o9,o10,rfl,S,gr,TTx,TIx,elg,alg,ec2,elf,nf1,nf2,flf,st⟩:=hw;refine⟨_,rfl,_,rfl,ite2 (λc=>?_) (λc=>?_)⟩
 ·have rf:rb=false:=by simpa using c
  refine⟨fun σ' H'=>∃m',m'<m∧W m' σ' H',λ_ _ z=>z,?_⟩;refine⟨_,rfl,_,rfl,_,rfl,_,rfl,ca,oa,lf,tv,tx,np,nc,cs,os,ch,rfl,GG.same S,TTx,TIx,hc,hos,elf,λr t' ns' H4 S4 LK TI4 RS=>?_⟩;obtain⟨v',lg',c2',lf',us',er,TT4,elg',alg',ec2',elf',f1,f2,f3,d1,d2,d3⟩:=RS;refine⟨r,_,rfl,SqT.of er,rfl,_,_,rfl,_,_,rfl,_,_,rfl,_,_,rfl,rfl,?_⟩;have S04:=S.trans S4;have elg4:=S4 _ _ elg;have ec24:=S4 _ _ ec2;have ul:us.length≤16∧us'.length≤16:=by
   have h1:=alg.len;have h2:=alg'.len;have key:∀{t1 t2:Tab} {xs:List Int},TI np nc t1->Lk cs os t1 t2 xs->xs.length≤16:=by
    rintro t1 t2 xs TI1 ⟨y,y1,_,_,_,y5,_⟩;have l1:=y5.length_eq;have l2:=ysb (worn cs y.wnds) y.lying;have l3:y.lying.length≤t1.lying.length:=(by rw[y1.lying];exact ysb _ _);have l4:=TI1.ok.ly;omega
   have h3:=key TIx LK;refine⟨?_,by omega⟩
   rcases st with⟨_,_,_,z⟩|⟨_,z⟩|⟨_,_,z⟩
   ·rw[h1,z];decide
   ·have:=key TI0 z;omega
   ·have:=key TI0 z;omega
  refine⟨_,rfl,.inl ⟨rfl,_,SqL.of elg4⟩,_,rfl,lg,lg',_,_,rfl,rfl,elg4,elg',small (by omega),?_⟩;have kp5:Kp H4 (upd H4 lg (.lst (us++us'))):=Kp.put elg4;have S05:Same H (upd H4 lg (.lst (us++us'))):=zed S04 hlg _;have al5:All2 (LgT H3 (upd H4 lg (.lst (us++us')))) (us++us') (ns++ns'):=All2.app (alg.imp λz=>(z.same S4).put elg4 flg3) (alg'.imp λz=>(z.bas gr).put elg4 flg3);have elg5:upd H4 lg (.lst (us++us')) lg=some (.lst (us++us')):=zua;have ec25:upd H4 lg (.lst (us++us')) c2=some (.lst []):=by rw[zta (ykd n12)];exact ec24
  have n1:c2'≠lg:=ykd (zga elg f2);have n2:lf'≠lg:=ykd (zga elg f3);have n3:lf'≠c2:=ykd (zga ec2 f3);have ec2'5:upd H4 lg (.lst (us++us')) c2'=some (.lst []):=by rw[zta n1];exact ec2'
  have elf5:upd H4 lg (.lst (us++us')) lf'=some (.lst (iM ch)):=by rw[zta n2];exact elf'
  have TT5:=TT4.kp kp5;have TTx5:=(TTx.kp (Kp.same S4)).kp kp5;have gr5:∀a,upd H4 lg (.lst (us++us')) a=none->H3 a=none:=zco (λa z=>gr a (none_of S4 z)) (by rw[elg4];intro z;cases z);generalize upd H4 lg (.lst (us++us'))=H5 at S05 al5 elg5 ec25 ec2'5 elf5 TT5 TTx5 gr5 ⊢;clear kp5;refine⟨_,rfl,.inl ⟨rfl,_,SqL.of ec25⟩,_,rfl,c2,c2',_,_,rfl,rfl,ec25,ec2'5,(by decide),?_⟩;have kp6:Kp H5 (upd H5 c2 (.lst ([]++[]))):=Kp.put ec25;have S06:Same H (upd H5 c2 (.lst ([]++[]))):=zed S05 fc2 _;have al6:All2 (LgT H3 (upd H5 c2 (.lst ([]++[])))) (us++us') (ns++ns'):=al5.imp λz=>z.put ec25 flc3;have elg6:upd H5 c2 (.lst ([]++[])) lg=some (.lst (us++us')):=by rw[zta n12];exact elg5
  have ec26:upd H5 c2 (.lst ([]++[])) c2=some (.lst []):=zua;have elf6:upd H5 c2 (.lst ([]++[])) lf'=some (.lst (iM ch)):=by rw[zta n3];exact elf5
  have TT6:=TT5.kp kp6;have TTx6:=TTx5.kp kp6;have gr6:∀a,upd H5 c2 (.lst ([]++[])) a=none->H3 a=none:=zco gr5 (by rw[ec25];intro z;cases z);generalize upd H5 c2 (.lst ([]++[]))=H6 at S06 al6 elg6 ec26 elf6 TT6 TTx6 gr6 ⊢;clear kp6;refine⟨_,rfl,_,rfl,tabD t',tabD tx,TT6.dv,TTx6.dv,zro (zqs TI4.nm),zro (zqs TIx.nm),?_⟩;refine⟨_,rfl,?_⟩
  rcases st with⟨rfl,_,rfl,rfl⟩|⟨rfl,z⟩|⟨_,z,_⟩
  ·refine⟨1,by decide,?_⟩;rw[hW];exact⟨v',lf',t',us++us',ns',_,_,_,_,rfl,S06,gr6,TT6,TI4,elg6,al6,ec26,elf6,n2,n3,none_of S f3,.inr (.inl ⟨rfl,LK⟩)⟩
  ·obtain⟨rfl,rfl⟩:=Lk.again TI0 z LK;rw[ylp _ (zqs TI4.nm).1];refine⟨0,by decide,?_⟩;rw[hW];rw[ync] at al6;exact⟨v',lf',t',us++us',ns,_,_,_,_,rfl,S06,gr6,TT6,TI4,elg6,al6,ec26,elf6,n2,n3,none_of S f3,.inr (.inr ⟨rfl,rfl,z⟩)⟩
  ·rw[rf] at z;cases z
 ·have rt:rb=true:=by simpa using c
  have LK:Lk cs os t tx ns:=by
   rcases st with⟨_,z,_⟩|⟨_,z⟩|⟨_,_,z⟩
   ·rw[rt] at z;cases z
   ·exact z
   ·exact z
  refine⟨_,rfl,_,rfl,_,rfl,c2,rfl,⟨_,SqL.of ec2⟩,?_⟩;refine zoc (xs:=[]) (λi ys H'=>H'=Hx∧ys=[]) (λi ys H' z=>by rw[z.1];exact SqL.of ec2) ⟨rfl,rfl⟩ ?_ ?_ ?_
  ·rintro i ys H' ⟨_,rfl⟩;exact ycb _
  ·intro i v ys H' hx;cases hx
  ·rintro ys H9 ⟨rfl,rfl⟩ b hb;refine laid hb λH7 S7 e7=>?_;refine⟨_,rfl,sz4,λr hr'=>?_⟩;refine laid hr' λH8 S8 e8=>?_;have S78:=S7.trans S8;exact q r tx ns H8 (S.trans S78) LK TIx ⟨tv,lg,b,lf,us,e8,TTx.kp (Kp.same S78),S78 _ _ elg,alg.imp λz=>(z.same S78).bas (grow S03),S8 _ _ e7,S78 _ _ elf,hlg,none_of S hb,flf,zga elg hb,ykd nf1,ykd (zga elf hb)⟩
theorem znw:∀i:Nat,i<1000->i.log2<1920:=by decide +kernel
def zbob (K:yea):Sp:=λvs H Q _=>Ex3 λa (ns:List Int) (k:Int)=>vs=[.ref a,.int k]∧SqF K H a (ns.map V.int)∧ns.length≤63∧0≤k∧k<1000∧∀r:Int,0≤r->r<2147483647->Q (.int r) H
def ms4:List (List Str):=[[],["a"],["bb"],["a","bb"]]
theorem nm_a:zqc "a":=⟨by decide +kernel,by decide +kernel,by decide +kernel⟩
theorem zytb:zqc "bb":=⟨by decide +kernel,by decide +kernel,by decide +kernel⟩
theorem zogb:∀ms∈ms4,∀s∈ms,zqc s:=by
 intro ms h s hs;have:s = "a" ∨ s = "bb":=by
  simp only[ms4,yka,ype,or_false] at h
  rcases h with rfl|rfl|rfl|rfl<;>simp only[yka,ype,or_false] at hs
  ·exact .inl hs
  ·exact .inr hs
  ·exact hs
 rcases this with rfl|rfl
 ·exact nm_a
 ·exact zytb
theorem zez:∀ms∈ms4,ms.length≤2:=by decide +kernel
theorem zwrb:∀ms∈ms4,ms.Nodup:=by decide +kernel
theorem zvrb:∀ms∈ms4,yvl ms=true:=by decide +kernel
theorem zlmb {ms:List Str}(h:ms∈ms4):Marks ms:=⟨zogb ms h,zwrb ms h,zvrb ms h,yqb (zez ms h) (by decide)⟩
def six:List Str:=["ox","wolf","a","bb","oxen","kestrels"]
theorem zarb:∀n∈six,zqc n:=by
 intro n h;refine⟨?_,?_,?_⟩
 ·revert n;decide +kernel
 ·revert n;decide +kernel
 ·revert n;decide +kernel
theorem mk4:ms4.map zah=(["-","a","bb","a,bb"]:List Str):=by decide +kernel
structure Cd33 (c:Crd):Prop where
 ok:c.ok
 no:c.rules=[]
 mks:c.marks∈ms4
def zqjb:Sp:=λvs H Q _=>Ex2 λ(n:Int) sa=>vs=[.int n,.ref sa]∧0≤n∧H sa=some (.lst [])∧∀(c:Crd) H',Same H H'->Cd33 c->Q (.str c.text) H'
theorem zrsb:(!PyData.eqv (.list []) (.list []))=false:=by simp[yyh,yin]
theorem zdmb:ysc (.list [])=true:=by
 unfold ysc;rw[ycd,yac,yje,ycc];rfl
theorem zxb (T:Tx K mg):FnOk P w K mg base CX0 2 T.zqa.f T.zqa.d zpi (zbob K):=by
 refine T.zqa.ok zfh ?_;rintro f c A o s H vs Q E hr ⟨a,ns,k,rfl,SF,n63,k0,k1,q⟩ X;refine⟨_,  (zca (zna (i:=2) zfh.nd rfl (.inl rfl) zea)
  (zca (zyd (zgb zorb (zya zcb rfl T.zvg ylc (zaa (pv 0) zba)) zea (zrb _))
   (zfa (zna (i:=2) zfh.nd rfl (.inl rfl) (zra zjd (pv 0) (zfb zbf (pv 1) (zya zcb rfl T.zvg ylc (zaa (pv 0) zba))) (λ_ _=>rfl))))
   zsb)
  (zfa (zbb (zfb zbf (zfb zxe (zfb zxe (zfb zxe (zfb zol (pv 2) zea) (zfb zol (zfb zol (pv 1) (pv 1)) zea)) (zfb zol zea (pv 1))) zea) zea))))),?_⟩
 refine⟨_,rfl,a,_,rfl,.inl SF.sq,_,_,rfl,rfl,_,rfl,?_⟩;refine' zueb (pre:=λv Hs=>Hs=H∧∃z:Int,v = .int z) (λkk=>?g1) ?k1
 case g1 =>
  refine ite2 (λc=>?a) (λc=>?b)
  case a =>
   have c':=of_decide_eq_true c;rw[yca] at c';obtain⟨z,hz⟩:=zypb (ns:=ns) (i:=k % (ns.length:Int)) (zvf k (by omega)).1 (zvf k (by omega)).2;refine⟨_,rfl,_,rfl,_,rfl,a,_,rfl,.inl SF.sq,_,_,rfl,rfl,(by rw[yca];omega),a,_,_,_,rfl,rfl,SF.sq,(by rw[yca];exact hz),?_⟩;obtain⟨v4,hv4⟩:∃x,x=V.int z:=⟨_,rfl⟩;obtain⟨Hz,hz'⟩:∃h,h=H:=⟨_,rfl⟩;rw[← hv4,← hz'];exact kk v4 Hz ⟨hz',z,hv4⟩
  case b=>exact kk (.int 0) H ⟨rfl,0,rfl⟩
 case k1 =>
 rintro _ _ ⟨rfl,z,rfl⟩;refine⟨_,rfl,_,_,rfl,rfl,.inr ⟨by decide,by decide⟩,_,rfl,_,rfl,_,_,rfl,rfl,.inr ⟨by omega,by omega⟩,_,_,rfl,rfl,.inr ⟨by decide,by decide⟩,_,_,rfl,rfl,_,rfl,_,_,rfl,rfl,.inl ⟨by decide,by decide⟩,_,_,rfl,rfl,_,_,rfl,rfl,_,_,rfl,rfl,(by show (0:Int)<_;decide),?_⟩;exact q _ (zvf _ (by decide)).1 (zvf _ (by decide)).2
theorem zkw (T:Tx K mg):FnOk P w K mg base CX0 2 T.zje.f T.zje.d zal (λ_ _ _ _=>False):=by
 refine T.zje.F.ok zfv (λvs H Q E h=>?_) (λcdv A outer s H vs Q E hr h=>?_)
 ·exact h.elim
 exact h.elim
theorem zew (T:Tx K mg):FnOk P w K mg base CX0 3 T.zke.f T.zke.d zbl zqjb:=by
 refine T.zke.ok zkf ?_;rintro f c A o s H vs Q E hr ⟨n,sa,rfl,n0,es,q⟩ X;obtain⟨co,hco⟩:∃co:Nat,n / 6 % 3=(co:Int):=⟨(n / 6 % 3).toNat,by omega⟩;obtain⟨fo,hfo⟩:∃fo:Nat,n / 18 % 5=(fo:Int):=⟨(n / 18 % 5).toNat,by omega⟩;have co3:co<1000:=by omega
 have fo5:fo<1000:=by omega
 obtain⟨nm,hnm,hm⟩:=zgib (ss:=six) (r:=n % 6) (zvf n (by decide)).1 (zvf n (by decide)).2;obtain⟨mt,hmt,hmm⟩:=zgib (ss:=["-","a","bb","a,bb"]) (r:=n / 90 % 4) (zvf _ (by decide)).1 (zvf _ (by decide)).2;rw[← mk4] at hmm;obtain⟨ms,hms,rfl⟩:=ymc.mp hmm;have nok:=zarb nm hm;have cok:(Crd.mk nm co fo ms []).ok:=⟨nok,co3,fo5,zlmb hms,(λr hr=>nomatch hr),ycb _⟩;refine⟨_,  (zca (zna (i:=2) zkf.nd rfl (.inl rfl) (zra zjd (zlc (zaa ztb (zaa ztb (zaa ztb (zaa ztb (zaa ztb (zaa ztb zba))))))) (zfb zbf (pv 0) zea) (λ_ _=>rfl)))
  (zca (zna (i:=3) zkf.nd rfl (.inl rfl) (zlc (zaa (pv 2) (zaa (zoa zon rfl T.zgcb boot_str (zaa (zfb zbf (zfb zyi (pv 0) zea) zea) zba)) (zaa (zoa zon rfl T.zgcb boot_str (zaa (zfb zbf (zfb zyi (pv 0) zea) zea) zba)) (zaa (zra zjd (zlc (zaa ztb (zaa ztb (zaa ztb (zaa ztb zba))))) (zfb zbf (zfb zyi (pv 0) zea) zea) (λ_ _=>rfl)) zba))))))
  (zca (zna (i:=4) zkf.nd rfl (.inl rfl) (zlc zba))
  (zca (zlf ydc rfl (zqb rfl T.zgc (zaa (zfb zol (zfb zbf (zfb zyi (pv 0) zea) zea) (zoa zuhb rfl T.zleb boot_int (zaa (zqg (zpbb hr.units) (pv 1) (zlc zba) (zrb _)) zba))) zba)) (zda (i:=5) zkf.nd rfl (.inl rfl))
   (zfa (zfc (zff yya ymb ynb zbc (pv 4) (zaa (zja (zkw T) hr rfl T.zje.m T.zje.F.kp (zaab T) .nil zza (zaa (zfb zbf (zfb zol (zfb zol (pv 0) (zfb zxe (pv 5) zea)) zea) zea) (zaa (pv 1) zba))) zba)))))
  (zfa (zbb (zff yfg yap ybp zngb ztb (zaa (zfb zbgb (zlc (zaa (zff yfg yap ybp zngb ztb (zaa (pv 3) zba)) zba)) (pv 4)) zba)))))))),?_⟩
 refine⟨sz6,λl1 hl1=>?_⟩;refine laid hl1 λH1 S1 e1=>?_;refine⟨_,rfl,_,_,rfl,rfl,(by show (0:Int)<_;decide),l1,_,_,_,rfl,rfl,SqL.of e1,hnm,?_⟩;refine⟨_,rfl,_,rfl,_,_,rfl,rfl,⟨by decide,by decide⟩,_,_,rfl,rfl,(by show (0:Int)<_;decide),(co:Int),(by show [V.int (n / 6 % 3)]=_;rw[hco]),(by rw[yhq];exact znw _ co3),?_⟩;refine⟨_,rfl,_,_,rfl,rfl,⟨by decide,by decide⟩,_,_,rfl,rfl,(by show (0:Int)<_;decide),(fo:Int),(by show [V.int (n / 18 % 5)]=_;rw[hfo]),(by rw[yhq];exact znw _ fo5),?_⟩;refine⟨sz4,λl2 hl2=>?_⟩;refine laid hl2 λH2 S2 e2=>?_;refine⟨_,rfl,_,_,rfl,rfl,⟨by decide,by decide⟩,_,_,rfl,rfl,(by show (0:Int)<_;decide),l2,_,_,_,rfl,rfl,SqL.of e2,hmt,sz4,λhd hhd=>?_⟩;refine laid hhd λH3 S3 e3=>?_;have e3':H3 hd=some (.lst ((Crd.mk nm co fo ms []).head.map V.str)):=e3;refine⟨sz0,λrl hrl=>?_⟩;refine laid hrl λH4 S4 e4=>?_;have S14:=S1.trans (S2.trans (S3.trans S4));refine⟨_,rfl,_,_,rfl,rfl,⟨by decide,by decide⟩,_,_,rfl,rfl,(by show (0:Int)<_;decide),_,rfl,sz0,λem hem=>?_⟩;refine laid hem λH5 S5 e5=>?_;refine⟨.list [],.list [],.lst (SqL.of ((S14.trans S5) _ _ es)) .nil,.lst (SqL.of e5) .nil,zdmb,zdmb,?_⟩;rw[zrsb];refine .inr ⟨false,rfl,_,_,rfl,rfl,.inr ⟨by decide,by decide⟩,0,(by show [V.int (n / 360 % 4*0)]=_;rw[Int.mul_zero]),by decide,by decide,?_⟩;refine zrg (lo:=0) (n:=0) (λi σ Hx=>σ=[some (.int n),some (.ref sa),some (.str nm),some (.ref hd),some (.ref rl),none]∧Hx=H5) ⟨rfl,rfl⟩ ?_ ?_
 ·intro i σ Hx hi;omega
 rintro σ Hx ⟨rfl,rfl⟩;have mt:=(zxj (zlmb hms)).2;have n8:=nok.2.1;have c8:=(zit co3).2.2;have f8:=(zit fo5).2.2;have w1:(" ":Str).length=1:=rfl;refine⟨rfl,rfl,_,rfl," ",hd,(Crd.mk nm co fo ms []).head,rfl,rfl,SqL.of ((S4.trans S5) _ _ e3'),?_,sz1,λl6 hl6=>?_⟩
 ·show ([nm,(toString (co:Int):Str),(toString (fo:Int):Str),zah ms].map (·.length)).sum+4*_≤_;simp only[ygc,yrh,ylk,List.sum_nil];omega
 refine laid hl6 λH6 S6 e6=>?_;refine⟨_,rfl,l6,rl,_,_,rfl,rfl,e6,(S5.trans S6) _ _ e4,small (by show 1+0≤1000;decide),λl7 hl7=>?_⟩;refine laid hl7 λH7 S7 e7=>?_;have hh:=Crd.zqt cok;refine⟨" / ",l7,[ykc " " (Crd.mk nm co fo ms []).head],rfl,rfl,SqL.of e7,?_,?_⟩
 ·have w3:(" / ":Str).length=3:=by decide
  show [(ykc " " (Crd.mk nm co fo ms []).head).length].sum+1*_≤_
  rw[w3,List.sum_singleton];omega
 exact q (Crd.mk nm co fo ms []) H7 (S14.trans (S5.trans (S6.trans S7))) ⟨cok,rfl,hms⟩
def DkS (X:Addr)(H:Hp)(v:V)(cs:List Crd):Prop:=∃d,v = .ref d∧H d=some (.lst (cs.map λc=>V.str c.text))∧d≠X∧cs.length≤4∧∀c∈cs,Cd33 c
theorem DkS.same {X:Addr}{H H':Hp}(s:Same H H'){v:V}{cs:List Crd}(h:DkS X H v cs):DkS X H' v cs:=by
 obtain⟨d,e,h1,h2⟩:=h;exact⟨d,e,s _ _ h1,h2⟩
theorem DkS.put {X:Addr}{H:Hp}{o:HO}{v:V}{cs:List Crd}(h:DkS X H v cs):DkS X (upd H X o) v cs:=by
 obtain⟨d,e,h1,h2,h3⟩:=h;exact⟨d,e,by rw[zta h2];exact h1,h2,h3⟩
def zdfb (K:yea):Sp:=λvs H Q _=>Ex3 λa sa (ns:List Int)=>vs=[.ref a,.ref sa]∧SqF K H a (ns.map V.int)∧ns.length≤63∧H sa=some (.lst [])∧∀dl ds (dss:List (List Crd)) H',Same H H'->H dl=none->H' dl=some (.lst ds)->All2 (DkS dl H') ds dss->2≤dss.length->dss.length≤4->Q (.ref dl) H'
theorem zgt (T:Tx K mg):FnOk P w K mg base CX0 4 T.zod.f T.zod.d ztj (zdfb K):=by
 refine T.zod.ok zvd ?_;rintro f c A o s H vs Q E hr ⟨a,sa,ns,rfl,SF,n63,es,q⟩ X;refine⟨_,  (zca (zna (i:=2) zvd.nd rfl (.inl rfl) (zja (zxb T).up hr rfl T.zqa.m T.zqa.F.kp (zdc T) .nil zza (zaa (pv 0) (zaa zea zba))))
  (zca (zna (i:=3) zvd.nd rfl (.inl rfl) (zlc zba))
  (zca (zlf ydc rfl (zqb rfl T.zgc (zaa (zfb zxe zea (zfb zbf (pv 2) zea)) zba)) (zda (i:=4) zvd.nd rfl (.inl rfl))
   (zca (zna (i:=5) zvd.nd rfl (.inl rfl) (zlc zba))
   (zca (zlf ydc rfl (zqb rfl T.zgc (zaa (zfb zbf (zja (zxb T).up hr rfl T.zqa.m T.zqa.F.kp (zdc T) .nil zza (zaa (pv 0) (zaa (zfb zxe zea (pv 4)) zba))) zea) zba)) (zda (i:=6) zvd.nd rfl (.inl rfl))
    (zfa (zfc (zff yya ymb ynb zbc (pv 5) (zaa (zja (zew T) hr rfl T.zke.m T.zke.F.kp (zbab T) .nil zza (zaa (zja (zxb T).up hr rfl T.zqa.m T.zqa.F.kp (zdc T) .nil zza (zaa (pv 0) (zaa (zfb zxe (zfb zxe zea (zfb zol zea (pv 4))) (pv 6)) zba))) (zaa (pv 1) zba))) zba)))))
   (zfa (zfc (zff yya ymb ynb zbc (pv 3) (zaa (pv 5) zba)))))))
  (zfa (zbb (pv 3)))))),?_⟩
 refine⟨_,rfl,a,ns,0,rfl,SF,n63,by decide,by decide,λf f0 f1=>?_⟩;refine⟨sz0,λdl hdl=>?_⟩;refine laid hdl λH1 S1 e1=>?_;have m3:=zvf f (m:=3) (by decide);obtain⟨m,hm⟩:∃m:Nat,2+f % 3=(m:Int):=⟨(2+f % 3).toNat,by omega⟩;refine⟨_,rfl,_,_,rfl,rfl,(by show (0:Int)<_;decide),_,_,rfl,rfl,(m:Int),(by show [V.int (2+f % 3)]=_;rw[hm]),by omega,by omega,?_⟩;rw[ysa];refine zrg (lo:=0) (n:=m) (λi σ Hx=>Ex5 λds (dss:List (List Crd)) o4 o5 o6=>σ=[some (.ref a),some (.ref sa),some (.int f),some (.ref dl),o4,o5,o6]∧Same H Hx∧Hx dl=some (.lst ds)∧All2 (DkS dl Hx) ds dss∧dss.length=i∧i≤m) ⟨[],[],_,_,_,rfl,S1,e1,.nil,rfl,ycb _⟩ ?_ ?_
 ·rintro i σ Hx hi ⟨ds,dss,o4,o5,o6,rfl,S,ed,al,dl',_⟩;refine⟨sz0,λd hd=>?_⟩;refine laid hd λH2 S2 e2=>?_;have S02:=S.trans S2;have ndl:d≠dl:=ykd (zga ed hd);refine⟨_,rfl,_,rfl,_,_,rfl,rfl,a,ns,_,rfl,SF.same S02,n63,(by show 0≤1+(0+(i:Int));omega),(by show 1+(0+(i:Int))<1000;omega),λg g0 g1=>?_⟩;have j5:=zvf g (m:=5) (by decide);obtain⟨j,hj⟩:∃j:Nat,g % 5=(j:Int):=⟨(g % 5).toNat,by omega⟩;refine⟨_,_,rfl,rfl,(by show (0:Int)<_;decide),(j:Int),(by show [V.int (g % 5)]=_;rw[hj]),by omega,by omega,?_⟩;rw[ysa];refine zrg (lo:=0) (n:=j) (λi2 σ Hy=>Ex2 λ(cs:List Crd) o6=>σ=[some (.ref a),some (.ref sa),some (.int f),some (.ref dl),some (.int (0+(i:Int))),some (.ref d),o6]∧Same Hx Hy∧Hy d=some (.lst (cs.map λc=>V.str c.text))∧cs.length=i2∧i2≤j∧∀c∈cs,Cd33 c) ⟨[],_,rfl,S2,e2,rfl,ycb _,(λ_ h=>nomatch h)⟩ ?_ ?_
  ·rintro i2 σ Hy hi2 ⟨cs,o6,rfl,Sy,ev,cl,_,ck⟩;have S0y:=S.trans Sy;refine⟨_,rfl,.inl ⟨rfl,_,SqL.of ev⟩,_,rfl,_,rfl,_,_,rfl,rfl,.inl ⟨by decide,by decide⟩,_,_,rfl,rfl,_,rfl,_,_,rfl,rfl,a,ns,_,rfl,SF.same S0y,n63,(by show 0≤5+5*(0+(i:Int))+(0+(i2:Int));omega),(by show 5+5*(0+(i:Int))+(0+(i2:Int))<1000;omega),λu u0 u1=>?_⟩;refine⟨_,rfl,u,sa,rfl,u0,S0y _ _ es,λc H3 S3 hc=>?_⟩;have ev3:=S3 _ _ ev;refine⟨d,_,_,rfl,rfl,ev3,zpd (by rw[yca];omega),?_⟩;refine⟨cs++[c],_,rfl,zed (Sy.trans S3) hd _,?_,by rw[yja,cl];rfl,hi2,λx hx=>?_⟩
   ·rw[zua,yva];rfl
   ·rcases ywc.mp hx with z|z
    ·exact ck x z
    ·rw[yia.mp z];exact hc
  ·rintro σ Hy ⟨cs,o6,rfl,Sy,ev,cl,_,ck⟩;have edy:=Sy _ _ ed;have dsl:=al.len;refine⟨_,rfl,.inl ⟨rfl,_,SqL.of edy⟩,_,rfl,dl,_,_,rfl,rfl,edy,zpd (by omega),?_⟩;exact⟨ds++[.ref d],dss++[cs],_,_,_,rfl,zed (S.trans Sy) hdl _,zua,All2.snoc (DkS.put ⟨d,rfl,ev,ndl,by omega,ck⟩) (al.imp λz=>(z.same Sy).put),by rw[yja,dl'];rfl,hi⟩
 ·rintro σ Hx ⟨ds,dss,o4,o5,o6,rfl,S,ed,al,dl',_⟩;exact⟨_,rfl,q dl ds dss Hx S hdl ed al (by omega) (by omega)⟩
theorem zrm {n j:Nat}(h:j<n):ixN n (j:Int)=some j:=by
 unfold ixN;rw[if_pos (by omega),if_pos (by omega),ysa]
def Rw (H:Hp)(as:List Addr)(xss:List (List V)):Prop:=as.length=xss.length∧∀(j:Nat) a xs,as[j]?=some a->xss[j]?=some xs->H a=some (.lst xs)
theorem Rw.same {H H':Hp}{as:List Addr}{xss:List (List V)}(s:Same H H')(h:Rw H as xss):Rw H' as xss:=⟨h.1,λj a xs h1 h2=>s _ _ (h.2 j a xs h1 h2)⟩
theorem Rw.nil {H:Hp}:Rw H [] []:=⟨rfl,λj a xs h _=>by simp at h⟩
theorem Rw.snoc {H:Hp}{as:List Addr}{xss:List (List V)}(h:Rw H as xss){a:Addr}{xs:List V}(ha:H a=some (.lst xs)):Rw H (as++[a]) (xss++[xs]):=by
 refine⟨by rw[yja,yja,h.1];rfl,λj b ys h1 h2=>?_⟩
 rcases ymm j as.length with z|z|z
 ·rw[yrc z] at h1;rw[yrc (by rw[← h.1];exact z)] at h2;exact h.2 j b ys h1 h2
 ·rw[ykb (by omega),z,yyo] at h1;rw[ykb (by rw[← h.1];omega),z,h.1,yyo] at h2;cases h1;cases h2;exact ha
 ·rw[ykb (by omega),ymg (by rw[ytd];omega)] at h1;cases h1
theorem Rw.put {H:Hp}{as:List Addr}{xss:List (List V)}(h:Rw H as xss)(nd:as.Nodup){j:Nat}{a:Addr}(ha:as[j]?=some a)(ys:List V):Rw (upd H a (.lst ys)) as (xss.set j ys):=by
 refine⟨by rw[yle];exact h.1,λi b zs h1 h2=>?_⟩
 by_cases e:i=j
 ·subst e;rw[ha] at h1;cases h1;rw[ybj (by rw[← h.1];exact (yga.mp ha).1)] at h2;cases h2;exact zua
 ·rw[ydi (λz=>e z.symm)] at h2;rw[zta λz=>?_]
  ·exact h.2 i b zs h1 h2
  ·exact e ((ypj (yga.mp h1).1 nd).mp (by rw[h1,ha,z]))
theorem Rw.off {H:Hp}{as:List Addr}{xss:List (List V)}(h:Rw H as xss){l:Addr}(n:H l=none):l∉as:=λz=>by
 obtain⟨j,hj⟩:=ynf z;obtain⟨zs,hz⟩:=getx (xs:=xss) (i:=j) (by rw[← h.1];exact (yga.mp hj).1);rw[h.2 j l zs hj hz] at n;cases n
theorem zuh {as:List Addr}(nd:as.Nodup){l:Addr}(n:l∉as):(as++[l]).Nodup:=by
 rw[yte];refine⟨nd,by simp,λx hx y hy z=>n ?_⟩;rw[← yia.mp hy,← z];exact hx
def zer (H:Hp)(as:List Addr):Prop:=∀a∈as,H a=none
theorem zer.snoc {H:Hp}{as:List Addr}(f:zer H as){l:Addr}(n:H l=none):zer H (as++[l]):=λx hx=>by
 rcases ywc.mp hx with z|z
 ·exact f x z
 ·rw[yia.mp z];exact n
theorem T1s.kp {H H':Hp}(s:Kp H H'){us:List V}{xss:List (List V)}(h:All2 (T1 H) us xss):All2 (T1 H') us xss:=h.imp λz=>z.kp s
def Far (as:List Addr)(H H':Hp):Prop:=∀b o,b∉as->H b=some o->H' b=some o
theorem Far.same {as:List Addr}{H H':Hp}(s:Same H H'):Far as H H':=λb o _ h=>s b o h
theorem Far.trans {as:List Addr}{H H1 H2:Hp}(x:Far as H H1)(y:Far as H1 H2):Far as H H2:=λb o n h=>y b o n (x b o n h)
theorem Far.put {as:List Addr}{H:Hp}{j:Nat}{a:Addr}(ha:as[j]?=some a)(o:HO):Far as H (upd H a o):=λb u n h=>by
 rw[zta λz=>n (by rw[z];exact yta ha)];exact h
theorem zer.far {H H1 H2:Hp}{as:List Addr}(f:zer H as)(s:Same H H1)(x:Far as H1 H2):Same H H2:=λb o h=>x b o (λz=>by rw[f b z] at h;cases h) (s b o h)
theorem zqsb {G:Prop}{Kx pre:Hp->Prop}(g:(∀Hs,pre Hs->Kx Hs)->G)(k:∀Hs,pre Hs->Kx Hs):G:=g k
theorem zxbb {α:Type}(xs:List α)(x:α)(i:Nat):(xs.take i++x::xs.drop i).Perm (x::xs):=by
 have h:(xs.take i++x::xs.drop i).Perm (x::(xs.take i++xs.drop i)):=List.perm_middle;rw[yto] at h;exact h
theorem zrmb (d:List Int)(x:Nat)(n:Int):(iM d).take x++V.int n::(iM d).drop x=iM (d.take x++n::d.drop x):=by
 unfold iM;rw[yva,ygc,yeq,yfq]
def tq (hs ds:List (List Int))(us:List V)(ws:List Int):List (List V):=hs.map iM++(ds.map iM++[iM ws,us])
def zjg (hs ds:List (List Int))(ly he:List Int)(us:List V)(ws:List Int):List (List V):=iM ly::iM he::tq hs ds us ws
section
variable {hs ds:List (List Int)}{ly he ws:List Int}{us:List V}{np:Nat}
theorem zseb {o:Nat}{d:List Int}(hd:hs[o]?=some d):(zjg hs ds ly he us ws)[o+2]?=some (iM d):=by
 show (tq hs ds us ws)[o]?=_
 unfold tq;rw[yrc (by rw[yca];exact (yga.mp hd).1),yla,hd];rfl
theorem zteb (h:hs.length=np){o:Nat}{d:List Int}(hd:ds[o]?=some d):(zjg hs ds ly he us ws)[np+o+2]?=some (iM d):=by
 show (tq hs ds us ws)[np+o]?=_
 unfold tq;rw[ykb (by rw[yca];omega),yca,h,yqf,yrc (by rw[yca];exact (yga.mp hd).1),yla,hd];rfl
theorem zps (h:hs.length=np)(h2:ds.length=np)(j:Nat):(zjg hs ds ly he us ws)[np+np+j+2]?=[iM ws,us][j]?:=by
 show (tq hs ds us ws)[np+np+j]?=_
 unfold tq;rw[ykb (by rw[yca];omega),yca,ykb (by rw[yca];omega),yca,h,h2]
 congr 1
 omega
theorem zqnb {o:Nat}(h:o<hs.length)(d:List Int):(zjg hs ds ly he us ws).set (o+2) (iM d)=zjg (hs.set o d) ds ly he us ws:=by
 show iM ly::iM he::(tq hs ds us ws).set o (iM d)=iM ly::iM he::tq (hs.set o d) ds us ws
 unfold tq;rw[yhp _ _ (by rw[yca];exact h),ybe]
theorem zrnb (h:hs.length=np){o:Nat}(h2:o<ds.length)(d:List Int):(zjg hs ds ly he us ws).set (np+o+2) (iM d)=zjg hs (ds.set o d) ly he us ws:=by
 show iM ly::iM he::(tq hs ds us ws).set (np+o) (iM d)=iM ly::iM he::tq hs (ds.set o d) us ws
 unfold tq;rw[yyj _ _ (by rw[yca];omega),yca,h,yqf,yhp _ _ (by rw[yca];exact h2),ybe]
theorem zreb (h:hs.length=np)(h2:ds.length=np)(j:Nat)(x:List V):(zjg hs ds ly he us ws).set (np+np+j+2) x=iM ly::iM he::(hs.map iM++(ds.map iM++[iM ws,us].set j x)):=by
 show iM ly::iM he::(tq hs ds us ws).set (np+np+j) x=_
 unfold tq;rw[yyj _ _ (by rw[yca];omega),yca,yyj _ _ (by rw[yca];omega),yca,h,h2]
 congr 5
 omega
end
structure LT (np nc i:Nat)(hs ds:List (List Int))(ly he:List Int)(ms:List (List Str))(ws:List Int):Prop where
 h:hs.length=np
 d:ds.length=np
 m:ms.length=nc
 w:ws.length=nc
 hl:∀x∈hs,x.length≤i
 dl:∀x∈ds,x.length≤i
 nd:(ly++he).Nodup
 rng:∀n∈ly++he,0≤n∧n<(i:Int)
 lh:ly.length+he.length≤i
 so:he.Pairwise (· ≤ ·)
 mks:∀m∈ms,m∈ms4
theorem LT.up {np nc i:Nat}{hs ds:List (List Int)}{ly he:List Int}{ms:List (List Str)}{ws:List Int}(h:LT np nc i hs ds ly he ms ws):LT np nc (i+1) hs ds ly he ms ws :=
 ⟨h.h,h.d,h.m,h.w,λx hx=>ybh (h.hl x hx),λx hx=>ybh (h.dl x hx),h.nd,λn hn=>⟨(h.rng n hn).1,by have:=(h.rng n hn).2;omega⟩,ybh h.lh,h.so,h.mks⟩
theorem LT.put {np nc i:Nat}{hs ds:List (List Int)}{ly he ly2 he2:List Int}{ms ms2:List (List Str)}{ws ws2:List Int}(L:LT np nc i hs ds ly he ms ws)(pm:(ly2++he2).Perm ((i:Int)::(ly++he)))(l1:ms2.length=nc)(l2:ws2.length=nc)(l3:∀m∈ms2,m∈ms4)(so:he2.Pairwise (· ≤ ·)):LT np nc (i+1) hs ds ly2 he2 ms2 ws2:=by
 have nin:(i:Int)∉ly++he:=λz=>by have:=(L.rng _ z).2;omega
 refine⟨L.h,L.d,l1,l2,λx hx=>ybh (L.hl x hx),λx hx=>ybh (L.dl x hx),pm.nodup_iff.mpr (yqh.mpr ⟨nin,L.nd⟩),λn hn=>?_,?_,so,l3⟩
 ·rcases yka.mp (pm.mem_iff.mp hn) with z|z
  ·omega
  ·have:=L.rng n z;omega
 ·have:=pm.length_eq;have:=L.lh;rw[yja,yub,yja] at *;omega
def zzqb:Sp:=λvs H Q _=>∃n:Int,vs=[.int n]∧∀m (ms:List Str) H',Same H H'->H' m=some (.tup (sM ms))->ms∈ms4->Q (.ref m) H'
def zznb (K:yea)(B:Addr):Sp:=λvs H Q _=>Ex8 λa ca oa (ns:List Int) (np nc:Nat) (cs:List Pc) (os:List Nat)=>vs=[.ref a,.ref ca,.ref oa,.int (np:Int)]∧SqF K H a (ns.map V.int)∧ns.length≤63∧GC B H ca oa cs os∧cs.length=nc∧(∀o∈os,o<np)∧np≤4∧(∀c∈cs,c.marks∈ms4)∧∀v (t:Tab) H',Same H H'->TabT H' v t->TI np nc t->Q v H'
theorem zft (T:Tx K mg):FnOk P w K mg base CX0 2 T.znd.f T.znd.d zsj zzqb:=by
 refine T.znd.ok zvs ?_;rintro f c A o s H vs Q E hr ⟨n,rfl,q⟩ X;refine⟨_,  (zfa (zbb (zra zjd (zlc (zaa (znb zba) (zaa (znb (zaa ztb zba)) (zaa (znb (zaa ztb zba)) (zaa (znb (zaa ztb (zaa ztb zba))) zba))))) (zfb zbf (pv 0) zea) (λ_ _=>rfl)))),?_⟩;refine⟨sz0,λa0 h0=>?_⟩;refine laid h0 λH0 S0 e0=>?_;refine⟨sz1,λa1 h1=>?_⟩;refine laid h1 λH1 S1 e1=>?_;refine⟨sz1,λa2 h2=>?_⟩;refine laid h2 λH2 S2 e2=>?_;refine⟨sz2,λa3 h3=>?_⟩;refine laid h3 λH3 S3 e3=>?_;refine⟨sz4,λl hl=>?_⟩;refine laid hl λH4 S4 e4=>?_;have S34:=S3.trans S4;have S24:=S2.trans S34;have S14:=S1.trans S24;have al:All2 (T1 H4) [V.ref a0,.ref a1,.ref a2,.ref a3] (ms4.map sM):=.cons ⟨a0,rfl,S14 _ _ e0⟩ (.cons ⟨a1,rfl,S24 _ _ e1⟩ (.cons ⟨a2,rfl,S34 _ _ e2⟩ (.cons ⟨a3,rfl,S4 _ _ e3⟩ .nil)));have m4:=zvf n (m:=4) (by decide);obtain⟨j,hj⟩:∃j:Nat,n % 4=(j:Int):=⟨(n % 4).toNat,by omega⟩;obtain⟨ms,hms⟩:=getx (xs:=ms4) (i:=j) (by show j<4;omega);obtain⟨_,hv,m,rfl,em⟩:=al.get2 (b:=sM ms) (by rw[yla,hms];rfl);refine⟨_,rfl,_,_,rfl,rfl,(by show (0:Int)<_;decide),l,_,_,_,rfl,rfl,SqL.of e4,(by rw[hj];exact zka hv),?_⟩;exact q m ms H4 (S0.trans S14) em (yta hms)
theorem zet (T:Tx K mg):FnOk P w K mg base CX0 3 T.zmd.f T.zmd.d zrj (zznb K T.zub):=by
 refine T.zmd.ok zab ?_;rintro f c A o s H vs Q E hr ⟨a,ca,oa,ns,np,nc,cs,os,rfl,SF,n63,GG,hc,hos,n4,hmk,q⟩ X;have n16:=GG.n;have osl:=GG.l;refine⟨_,  (zca (zna (i:=4) zab.nd rfl (.inl rfl) (zlc zba))
  (zca (zna (i:=5) zab.nd rfl (.inl rfl) (zlc zba))
  (zca (zwd (i:=6) zab.nd rfl (.inl rfl) (own:=["_law_player"]) (cap:=[]) rfl (zsa.chk rfl rfl) .nil (zqb rfl T.zgc (zaa (pv 3) zba)) (λ_ _ _ _=>(zda (i:=0) (show yjb (["_law_player"]:List Str) by decide +kernel) rfl (.inl rfl))) (λ_ _ _ _=>zyb) (λ_ _ _ _=>by exact (zlc zba)))
  (zca (zwd (i:=7) zab.nd rfl (.inl rfl) (own:=["_law_player"]) (cap:=[]) rfl (zsa.chk rfl rfl) .nil (zqb rfl T.zgc (zaa (pv 3) zba)) (λ_ _ _ _=>(zda (i:=0) (show yjb (["_law_player"]:List Str) by decide +kernel) rfl (.inl rfl))) (λ_ _ _ _=>zyb) (λ_ _ _ _=>by exact (zlc zba)))
  (zca (zwd (i:=8) zab.nd rfl (.inl rfl) (own:=["_law_player"]) (cap:=["_law_script"]) rfl (zsa.chk rfl rfl) (.cons (j:=0) rfl (.inl rfl) (.inl rfl) .nil) (zqb rfl T.zgc (zaa (pv 3) zba)) (λ_ _ _ _=>(zda (i:=0) (show yjb (["_law_player","_law_script"]:List Str) by decide +kernel) rfl (.inl rfl))) (λ_ _ _ _=>zyb) (λ_ _ _ _=>by exact (zqg zth (zfb zbf (zja (zxb T) hr rfl T.zqa.m T.zqa.F.kp (zdc T) .nil zza (zaa (pv 1) (zaa (zfb zxe zea (pv 0)) zba))) zea) zea (zrb _))))
  (zca (zwd (i:=9) zab.nd rfl (.inl rfl) (own:=["_law_card_here"]) (cap:=[]) rfl (zsa.chk rfl rfl) .nil (zic (pv 1)) (λ_ _ _ _=>(zda (i:=0) (show yjb (["_law_card_here"]:List Str) by decide +kernel) rfl (.inl rfl))) (λ_ _ _ _=>zyb) (λ_ _ _ _=>by exact zea))
  (zca (zwd (i:=10) zab.nd rfl (.inl rfl) (own:=["_law_card_here"]) (cap:=[]) rfl (zsa.chk rfl rfl) .nil (zic (pv 1)) (λ_ _ _ _=>(zda (i:=0) (show yjb (["_law_card_here"]:List Str) by decide +kernel) rfl (.inl rfl))) (λ_ _ _ _=>zyb) (λ_ _ _ _=>by exact (zxy K (pv 0) rfl)))
  (zca (zlf ydc rfl (zqb rfl T.zgc (zaa (zya zcb rfl T.zvg ylc (zaa (pv 1) zba)) zba)) (zda (i:=11) zab.nd rfl (.inl rfl))
   (zca (zna (i:=12) zab.nd rfl (.inl rfl) (zja (zxb T) hr rfl T.zqa.m T.zqa.F.kp (zdc T) .nil zza (zaa (pv 0) (zaa (zfb zxe zea (pv 11)) zba))))
   (zca (zna (i:=13) zab.nd rfl (.inl rfl) (zra zjd (zlc (zaa zea (zaa zea (zaa zea (zaa zea (zaa zea zba)))))) (zfb zbf (pv 12) zea) (λ_ _=>rfl)))
   (zfa (zyd (PW.pt (zmbb (zgb zth (pv 13) zea (zrb _)) (zwy (zsh (zng (zra zjd (pv 8) (zra zjd (pv 2) (pv 11) (λ_ _=>rfl)) (λ_ _=>rfl)))))))
    (zca (zfc (zff yya yrm ysm zmw (pv 4) (zaa (zfb zbf (zfb zyi (pv 12) zea) (zfb zxe (zya zcb rfl T.zvg ylc (zaa (pv 4) zba)) zea)) (zaa (pv 11) zba))))
    (zca (zog (zfb zbf (zfb zyi (pv 12) zea) zea) (zsr (pv 9) (pv 11) set_list))
    (zfa (zog (zja (zft T) hr rfl T.znd.m T.znd.F.kp (zvx T) .nil zza (zaa (zfb zyi (pv 12) zea) zba)) (zsr (pv 10) (pv 11) set_list)))))
    (zfa (zyd (zgb zth (pv 13) zea (zrb _))
     (zfa (zfc (zff yya ymb ynb zbc (zra zjd (pv 6) (zra zjd (pv 2) (pv 11) (λ_ _=>rfl)) (λ_ _=>rfl)) (zaa (pv 11) zba))))
     (zfa (zyd (zgb zth (pv 13) zea (zrb _))
      (zca (zna (i:=14) zab.nd rfl (.inl rfl) (zra zjd (pv 7) (zra zjd (pv 2) (pv 11) (λ_ _=>rfl)) (λ_ _=>rfl)))
      (zfa (zfc (zff yya yrm ysm zmw (pv 14) (zaa (zfb zbf (zfb zyi (pv 12) zea) (zfb zxe (zya zcb rfl T.zvg ylc (zaa (pv 14) zba)) zea)) (zaa (pv 11) zba))))))
      (zfa (zfc (zff yya ymb ynb zbc (pv 5) (zaa (pv 11) zba)))))))))))))
  (zca (zwd (i:=15) zab.nd rfl (.inl rfl) (own:=["_law_player"]) (cap:=["_law_script"]) rfl (zsa.chk rfl rfl) (.cons (j:=0) rfl (.inl rfl) (.inl rfl) .nil) (zqb rfl T.zgc (zaa (pv 3) zba)) (λ_ _ _ _=>(zda (i:=0) (show yjb (["_law_player","_law_script"]:List Str) by decide +kernel) rfl (.inl rfl))) (λ_ _ _ _=>zyb) (λ_ _ _ _=>by exact (zfb zur (zfb zbf (zja (zxb T) hr rfl T.zqa.m T.zqa.F.kp (zdc T) .nil zza (zaa (pv 1) (zaa (zfb zxe zea (pv 0)) zba))) zea) zea)))
  (zca (zwd (i:=16) zab.nd rfl (.inl rfl) (own:=["_law_player"]) (cap:=["_law_script"]) rfl (zsa.chk rfl rfl) (.cons (j:=0) rfl (.inl rfl) (.inl rfl) .nil) (zqb rfl T.zgc (zaa (pv 3) zba)) (λ_ _ _ _=>(zda (i:=0) (show yjb (["_law_player","_law_script"]:List Str) by decide +kernel) rfl (.inl rfl))) (λ_ _ _ _=>zyb) (λ_ _ _ _=>by exact (zfb zol (zja (zxb T) hr rfl T.zqa.m T.zqa.F.kp (zdc T) .nil zza (zaa (pv 1) (zaa (zfb zxe zea (pv 0)) zba))) zea)))
  (zca (zna (i:=17) zab.nd rfl (.inl rfl) (znb (zaa (zoa zma rfl T.zkb yvc (zaa (zuc (own:=["_law_deck"]) (cap:=[]) rfl (zsa.chk rfl rfl) .nil (zic (pv 7)) (λ_ _ _ _=>(zda (i:=0) (show yjb (["_law_deck"]:List Str) by decide +kernel) rfl (.inl rfl))) (λ_ _ _ _=>zyb) (λ_ _ _ _=>by exact (zoa (zlh K) rfl T.zkb yvc (zaa (pv 0) zba)))) zba)) (zaa (zoa zma rfl T.zkb yvc (zaa (zuc (own:=["_law_hand"]) (cap:=[]) rfl (zsa.chk rfl rfl) .nil (zic (pv 6)) (λ_ _ _ _=>(zda (i:=0) (show yjb (["_law_hand"]:List Str) by decide +kernel) rfl (.inl rfl))) (λ_ _ _ _=>zyb) (λ_ _ _ _=>by exact (zoa (zlh K) rfl T.zkb yvc (zaa (pv 0) zba)))) zba)) zba))))
  (zca (zna (i:=18) zab.nd rfl (.inl rfl) (zfb zzi (znb (zaa (zoa zma rfl T.zkb yvc (zaa (pv 15) zba)) (zaa (zoa zma rfl T.zkb yvc (zaa (pv 16) zba)) (zaa (zoa zma rfl T.zkb yvc (zaa (pv 8) zba)) zba)))) (pv 17)))
  (zfa (zbb (zfb zzi (pv 18) (znb (zaa (zoa zma rfl T.zkb yvc (zaa (pv 4) zba)) (zaa (zoa zma rfl T.zkb yvc (zaa (pv 5) zba)) (zaa (zoa zma rfl T.zkb yvc (zaa (pv 10) zba)) (zaa (zoa zma rfl T.zkb yvc (zaa (pv 9) zba)) zba)))))))))))))))))))),?_⟩
 refine⟨sz0,λly hly=>?_⟩;refine laid hly λH1 S1 ely=>?_;refine⟨sz0,λhe hhe=>?_⟩;refine laid hhe λH2 S2 ehe=>?_;have S02:=S1.trans S2;have R2:Rw H2 ([ly]++[he]) ([[]]++[[]]):=(((Rw.nil (H:=H1)).snoc ely).same S2).snoc ehe;have nd2:([ly]++[he]).Nodup:=zuh (by simp) (((Rw.nil (H:=H1)).snoc ely).off hhe);have fr2:zer H ([ly]++[he]):=zer.snoc (λx hx=>by rw[yia.mp hx];exact hly) (none_of S1 hhe);refine⟨_,rfl,(np:Int),rfl,by omega,by omega,?_⟩;rw[ysa];refine zjc (λj ys Hy=>∃as:List Addr,ys=as.map V.ref∧as.length=j∧j≤np∧Same H2 Hy∧Rw Hy ([ly]++[he]++as) ([[]]++[[]]++ypb j [])∧([ly]++[he]++as).Nodup∧zer H ([ly]++[he]++as)) ⟨[],rfl,rfl,ycb _,Same.refl _,(by rw[ync];show Rw H2 _ ([[]]++[[]]++[]);rw[ync];exact R2),(by rw[ync];exact nd2),(by rw[ync];exact fr2)⟩ ?_ ?_ ?_
 ·rintro j ys Hy ⟨as,rfl,al,hj,_⟩;rw[yca,al];exact small (by omega)
 ·rintro j ys Hy hj ⟨as,rfl,al,_,S,R,nd,fr⟩;refine⟨rfl,sz0,λl hl'=>?_⟩;have nl:=R.off hl';refine laid hl' λH3 S3 e3=>?_;refine⟨as++[l],by rw[yva];rfl,by rw[yja,al];rfl,hj,S.trans S3,?_,by rw[← yec];exact zuh nd nl,by rw[← yec];exact fr.snoc (none_of (S02.trans S) hl')⟩;rw[yei,← yec,← yec];exact (R.same S3).snoc e3
 rintro ys H3 ⟨has,rfl,hal,_,S3,R3,nd3,fr3⟩ gl hgl;have ogl:=R3.off hgl;refine laid hgl λH4 S4 egl=>?_;have S04:=S02.trans (S3.trans S4);refine⟨_,rfl,(np:Int),rfl,by omega,by omega,?_⟩;rw[ysa];refine zjc (λj ys Hy=>∃as:List Addr,ys=as.map V.ref∧as.length=j∧j≤np∧Same H4 Hy∧Rw Hy ([ly]++[he]++has++as) ([[]]++[[]]++ypb np []++ypb j [])∧([ly]++[he]++has++as).Nodup∧zer H ([ly]++[he]++has++as)∧gl∉as) ⟨[],rfl,rfl,ycb _,Same.refl _,(by rw[ync];show Rw H4 _ ([[]]++[[]]++ypb np []++[]);rw[ync];exact R3.same S4),by rw[ync];exact nd3,by rw[ync];exact fr3,by simp⟩ ?_ ?_ ?_
 ·rintro j ys Hy ⟨as,rfl,al,hj,_⟩;rw[yca,al];exact small (by omega)
 ·rintro j ys Hy hj ⟨as,rfl,al,_,S,R,nd,fr,ng⟩;refine⟨rfl,sz0,λl hl'=>?_⟩;have nl:=R.off hl';have lg:gl≠l:=zga (S _ _ egl) hl';refine laid hl' λH5 S5 e5=>?_;refine⟨as++[l],by rw[yva];rfl,by rw[yja,al];rfl,hj,S.trans S5,?_,by rw[← yec];exact zuh nd nl,by rw[← yec];exact fr.snoc (none_of (S04.trans S) hl'),λz=>?_⟩
  ·rw[yei,← yec,← yec];exact (R.same S5).snoc e5
  ·rcases ywc.mp z with y|y
   ·exact ng y
   ·exact lg (yia.mp y)
 rintro ys H5 ⟨das,rfl,dal,_,S5,R5,nd5,fr5,ngd⟩ dl hdl;have odl:=R5.off hdl;refine laid hdl λH6 S6 edl=>?_;have S46:=S5.trans S6;have S06:=S04.trans S46;refine⟨_,rfl,(np:Int),rfl,by omega,by omega,?_⟩;rw[ysa];refine zjc (λj ys Hy=>∃gs:List Bool,ys=gs.map V.bl∧gs.length=j∧j≤np∧Hy=H6) ⟨[],rfl,rfl,ycb _,rfl⟩ ?_ ?_ ?_
 ·rintro j ys Hy ⟨gs,rfl,al,hj,_⟩;rw[yca,al];exact small (by omega)
 ·rintro j ys Hy hj ⟨gs,rfl,al,_,rfl⟩;refine⟨rfl,_,rfl,_,rfl,_,_,rfl,rfl,a,ns,_,rfl,SF.same S06,n63,(by show 0≤40+(0+(j:Int));omega),(by show 40+(0+(j:Int))<1000;omega),λr r0 r1=>?_⟩;refine⟨_,_,rfl,rfl,(by show (0:Int)<_;decide),rfl,?_⟩;exact⟨gs++[_],by rw[yva];rfl,by rw[yja,al];rfl,hj,rfl⟩
 rintro ys H7 ⟨gs,rfl,gsl,_,rfl⟩ ga hga;have oga:=(R5.same S6).off hga;refine laid hga λH7 S7 ega=>?_;have S07:=S06.trans S7;obtain⟨⟨cvs,ec,alc⟩,eo,_⟩:=id GG;have cvl:=alc.len;have ec7:=S07 _ _ ec;refine⟨_,rfl,ca,rfl,⟨_,SqL.of ec7⟩,?_⟩;refine zoc (xs:=cvs) (λj ys Hy=>Hy=H7∧ys=iM (ypb j 0)∧j≤16) (λj ys Hy z=>by rw[z.1];exact SqL.of ec7) ⟨rfl,rfl,by decide⟩ ?_ ?_ ?_
 ·rintro j ys Hy ⟨_,rfl,hj⟩;unfold iM;rw[yca,ysd];exact small (by omega)
 ·rintro j v ys Hy hv ⟨rfl,rfl,_⟩;have jl:=(yga.mp hv).1;refine⟨rfl,rfl,?_,by omega⟩;rw[yei];unfold iM;rw[yva];rfl
 rintro ys H8 ⟨rfl,rfl,_⟩ wd hwd;rw[cvl,hc];refine laid hwd λH8 S8 ewd=>?_;have S08:=S07.trans S8;have ec8:=S08 _ _ ec;refine⟨_,rfl,ca,rfl,⟨_,SqL.of ec8⟩,?_⟩;refine zoc (xs:=cvs) (λj ys Hy=>Hy=H8∧All2 (T1 H8) ys ((cs.take j).map λc=>sM c.marks)) (λj ys Hy z=>by rw[z.1];exact SqL.of ec8) ⟨rfl,.nil⟩ ?_ ?_ ?_
 ·rintro j ys Hy ⟨_,al⟩;have:=al.len;rw[yca,ywa] at this;exact small (by omega)
 ·rintro j v ys Hy hv ⟨rfl,al⟩;obtain⟨c,hcc,pc⟩:=alc.get hv;obtain⟨cd,dx,m,tt,nm,kk,rfl,ecd,em,_⟩:=pc.kp (Kp.same S08);refine⟨rfl,_,rfl,cd,_,dx,_,_,rfl,ecd,T.zye,T.zyc,zzl _ _ _ _ _,rfl,?_⟩;rw[yqa,hcc,ywb,yva];exact All2.snoc ⟨m,rfl,em⟩ al
 rintro us H9 ⟨rfl,alu⟩ mk hmk';rw[cvl,yfb (yha _)] at alu;refine laid hmk' λHB S9 emk=>?_;have S0B:=S08.trans S9;obtain⟨as,has_⟩:∃as:List Addr,as=ly::he::(has++(das++[wd,mk])):=⟨_,rfl⟩;have e1:[ly]++[he]++has++das++[wd]++[mk]=as:=by rw[has_];simp
 have R8:=((R5.same (S6.trans (S7.trans S8))).snoc ewd);have RB:Rw HB as (zjg (ypb np []) (ypb np []) [] [] us (ypb nc 0)):=by
  have R:=(R8.same S9).snoc emk;have e2:[([]:List V)]++[[]]++ypb np []++ypb np []++[iM (ypb nc 0)]++[us]=zjg (ypb np []) (ypb np []) [] [] us (ypb nc 0):=by
   unfold zjg tq;rw[List.map_replicate];show [([]:List V)]++[[]]++ypb np []++ypb np []++[iM (ypb nc 0)]++[us]=[]::[]::(ypb np []++(ypb np []++[iM (ypb nc 0),us]))
   simp only[yec,yck,ywo]
  rw[e1,e2] at R;exact R
 have ndB:as.Nodup:=by
  have z:=zuh (zuh nd5 ((R5.same (S6.trans S7)).off hwd)) (R8.off hmk');rw[e1] at z;exact z
 have frB:zer H as:=by
  have z:=(fr5.snoc (none_of S07 hwd)).snoc (none_of S08 hmk');rw[e1] at z;exact z
 have mem:∀{x:Addr},x∈as->x∈[ly]++[he]++has∨x∈das∨x=wd∨x=mk:=λ{x} h=>by
  rw[← e1] at h
  simpa [or_assoc] using h
 have old:∀{x:Addr} {o:HO},H x=some o->x∉as:=λ{x o} h z=>by
  have:=frB x z;rw[h] at this;cases this
 have nga:gl∉as:=λz=>by
  rcases mem z with y|y|y|y
  ·exact ogl y
  ·exact ngd y
  ·exact zga ((S46.trans S7) _ _ egl) hwd y
  ·exact zga ((S46.trans (S7.trans S8)) _ _ egl) hmk' y
 have nda:dl∉as:=λz=>by
  rcases mem z with y|y|y|y
  ·exact odl (ylf _ y)
  ·exact odl (yzb _ y)
  ·exact zga (S7 _ _ edl) hwd y
  ·exact zga ((S7.trans S8) _ _ edl) hmk' y
 have nfa:ga∉as:=λz=>by
  rcases mem z with y|y|y|y
  ·exact oga (ylf _ y)
  ·exact oga (yzb _ y)
  ·exact zga ega hwd y
  ·exact zga (S8 _ _ ega) hmk' y
 have a_h:∀{o:Nat} {x:Addr},has[o]?=some x->as[o+2]?=some x:=λ{o x} h=>by
  rw[has_];show (has++(das++[wd,mk]))[o]?=_
  rw[yrc (yga.mp h).1];exact h
 have a_d:∀{o:Nat} {x:Addr},das[o]?=some x->as[np+o+2]?=some x:=λ{o x} h=>by
  rw[has_];show (has++(das++[wd,mk]))[np+o]?=_
  rw[ykb (by omega),hal,yqf,yrc (yga.mp h).1];exact h
 have a_r:∀j:Nat,as[np+np+j+2]?=[wd,mk][j]?:=λj=>by
  rw[has_];show (has++(das++[wd,mk]))[np+np+j]?=_
  rw[ykb (by omega),ykb (by omega)]
  congr 1
  omega
 have a_0:as[0]?=some ly:=by rw[has_];rfl
 have a_1:as[1]?=some he:=by rw[has_];rfl
 have LT0:LT np nc 0 (ypb np []) (ypb np []) [] [] (cs.map (·.marks)) (ypb nc 0):=by
  have z:∀x∈ypb np ([]:List Int),x.length≤0:=λx hx=>by rw[(yiq.mp hx).2];exact yha _
  refine⟨by rw[ysd],by rw[ysd],by rw[yca,hc],by rw[ysd],z,z,List.nodup_nil,(λn hn=>nomatch hn),ycb _,.nil,λm hm=>?_⟩;obtain⟨c,hcc,rfl⟩:=ymc.mp hm;exact hmk c hcc
 have alu0:All2 (T1 HB) us ((cs.map (·.marks)).map sM):=by
  rw[ysh];exact T1s.kp (Kp.same S9) alu
 refine⟨_,rfl,ca,_,rfl,.inl (SqL.of (S0B _ _ ec)),(nc:Int),(by rw[cvl,hc]),by omega,by omega,?_⟩;rw[ysa];refine zrg (lo:=0) (n:=nc) (λi σ Hx=>Ex11 λhs ds (lyi hei:List Int) us (ms:List (List Str)) (ws:List Int) o11 o12 o13 o14=>σ=[some (.ref a),some (.ref ca),some (.ref oa),some (.int (np:Int)),some (.ref ly),some (.ref he),some (.ref gl),some (.ref dl),some (.ref ga),some (.ref wd),some (.ref mk),o11,o12,o13,o14,none,none,none,none]∧Rw Hx as (zjg hs ds lyi hei us ws)∧All2 (T1 Hx) us (ms.map sM)∧Far as HB Hx∧LT np nc i hs ds lyi hei ms ws) ⟨_,_,_,_,_,_,_,_,_,_,_,rfl,RB,alu0,(λ_ _ _ h=>h),LT0⟩ ?_ ?_
 ·rintro i σ Hx hi ⟨hs,ds,lyi,hei,us,ms,ws,o11,o12,o13,o14,rfl,R,AM,F,L⟩;obtain⟨o,ho⟩:=getx (xs:=os) (i:=i) (by omega);have on:=hos o (yta ho);have zi:(0:Int)+(i:Int)=(i:Int):=by omega
  have S0x:=frB.far S0B F;refine⟨_,rfl,_,rfl,_,_,rfl,rfl,a,ns,_,rfl,SF.same S0x,n63,(by show 0≤44+(0+(i:Int));omega),(by show 44+(0+(i:Int))<1000;omega),λr r0 r1=>?_⟩;refine⟨sz5,λpl hpl=>?_⟩;obtain⟨z,hz,_⟩:=zatb (ns:=[0,0,1,2,3]) (i:=r % 5) (zvf r (by decide)).1 (zvf r (by decide)).2;refine laid hpl λHa Sa epl=>?_;refine⟨_,rfl,_,_,rfl,rfl,(by show (0:Int)<_;decide),pl,_,_,_,rfl,rfl,SqL.of epl,hz,?_⟩;have Ra:=R.same Sa;have Fa:Far as HB Ha:=F.trans (Far.same Sa);have AMa:=T1s.kp (Kp.same Sa) AM;have S0a:=S0x.trans Sa;have eoa:=S0a _ _ eo;have ega':=Fa _ _ nfa ((S8.trans S9) _ _ ega);obtain⟨g,hg⟩:=getx (xs:=gs) (i:=o) (by rw[gsl];exact on);have own:atI (oM os) (0+(i:Int))=some (.int (o:Int)):=by rw[zi];exact zze ho
  have lh:=L.lh;refine⟨_,rfl,rfl,_,rfl,?_⟩;refine' zqsb (pre:=λHs=>Hs=Ha) (λkk=>?g1) ?k1
  case g1 =>
   refine ite2 (λc=>?_) (λc=>iteF (kk Ha rfl));refine⟨_,rfl,_,rfl,_,rfl,oa,_,_,_,rfl,rfl,SqL.of eoa,own,ga,_,_,_,rfl,rfl,SqL.of ega',zze hg,_,rfl,ite2 (λd=>?_) (λd=>kk Ha rfl)⟩;have elya:=Ra.2 0 ly _ a_0 rfl;have ll:(iM lyi).length=lyi.length:=yca _;have x01:=zvf (r / 5) (m:=(lyi.length:Int)+1) (by omega);refine⟨_,rfl,.inl ⟨rfl,_,SqL.of elya⟩,_,rfl,_,_,rfl,rfl,⟨by decide,by decide⟩,_,rfl,ly,_,rfl,.inl (SqL.of elya),_,_,rfl,rfl,_,_,rfl,rfl,(by rw[ll];omega),_,rfl,ly,_,r / 5 % ((lyi.length:Int)+1),_,rfl,(by rw[ll]),elya,x01.1,by rw[ll];omega,by rw[ll];omega,?_⟩;generalize r / 5 % ((lyi.length:Int)+1)=x at x01 ⊢;rw[zi,zrmb];have Rc:Rw (upd Ha ly (.lst (iM (lyi.take x.toNat++(i:Int)::lyi.drop x.toNat)))) as (zjg hs ds (lyi.take x.toNat++(i:Int)::lyi.drop x.toNat) hei us ws):=Ra.put ndB a_0 _;have Fc:=Fa.trans (Far.put a_0 (.lst (iM (lyi.take x.toNat++(i:Int)::lyi.drop x.toNat))));have AMc:=T1s.kp (Kp.put (vs:=iM (lyi.take x.toNat++(i:Int)::lyi.drop x.toNat)) elya) AMa;generalize upd Ha ly (.lst (iM (lyi.take x.toNat++(i:Int)::lyi.drop x.toNat)))=Hc at Rc Fc AMc ⊢;have ewc:=Rc.2 (np+np+0+2) wd _ (a_r 0) ((zps L.h L.d 0).trans rfl);refine⟨_,rfl,_,_,rfl,rfl,⟨by decide,by decide⟩,_,_,rfl,rfl,(by show (0:Int)<_;decide),_,rfl,_,rfl,wd,_,_,i,rfl,rfl,ewc,(zrm (by unfold iM;rw[yca,L.w];exact hi)),?_⟩;have wse:∀y:Int,(iM ws).set i (V.int y)=iM (ws.set i y):=λy=>by unfold iM;rw[ybe]
   obtain⟨y,hy⟩:∃y:Int,r / 80 % 6=y:=⟨_,rfl⟩;rw[show ∀zs:List V,zs.set i (V.int (r / 80 % 6))=zs.set i (V.int y) from λzs=>by rw[hy]];rw[wse];have Rd:=Rc.put ndB (a_r 0) (iM (ws.set i y));rw[zreb L.h L.d 0] at Rd;have Rd':Rw (upd Hc wd (.lst (iM (ws.set i y)))) as (zjg hs ds (lyi.take x.toNat++(i:Int)::lyi.drop x.toNat) hei us (ws.set i y)):=Rd;have Fd:=Fc.trans (Far.put (a_r 0) (.lst (iM (ws.set i y))));have AMd:=T1s.kp (Kp.put (vs:=iM (ws.set i y)) ewc) AMc;generalize upd Hc wd (.lst (iM (ws.set i y)))=Hd at Rd' Fd AMd ⊢;clear Rd;refine⟨_,rfl,_,_,rfl,rfl,⟨by decide,by decide⟩,r / 480,rfl,λm ms2 He Se em hm2=>?_⟩;have Re:=Rd'.same Se;have AMe:=T1s.kp (Kp.same Se) AMd;have eme:=Re.2 (np+np+1+2) mk _ (a_r 1) ((zps L.h L.d 1).trans rfl);have ul:=AM.len;rw[yca,L.m] at ul;refine⟨_,rfl,_,rfl,mk,_,_,i,rfl,rfl,eme,(zrm (by rw[ul];exact hi)),?_⟩;have Rf:=Re.put ndB (a_r 1) (us.set i (.ref m));rw[zreb L.h L.d 1] at Rf;refine⟨hs,ds,lyi.take x.toNat++(i:Int)::lyi.drop x.toNat,hei,us.set i (.ref m),ms.set i ms2,ws.set i y,_,_,_,_,rfl,Rf,?_,(Fd.trans (Far.same Se)).trans (Far.put (a_r 1) _),L.put ((zxbb lyi (i:Int) x.toNat).append_right hei) (by rw[yle];exact L.m) (by rw[yle];exact L.w) (λmm hmm=>?_) L.so⟩
   ·rw[ybe];exact T1s.kp (Kp.put eme) (AMe.set ⟨m,rfl,em⟩ i)
   ·rcases ycf hmm with z|z
    ·exact L.mks mm z
    ·rw[z];exact hm2
  case k1 =>
  intro Hs eHs;rw[eHs];clear eHs;obtain⟨da,hda⟩:=getx (xs:=das) (i:=o) (by rw[dal];exact on);obtain⟨pa,hpa⟩:=getx (xs:=has) (i:=o) (by rw[hal];exact on);obtain⟨d,hd⟩:=getx (xs:=ds) (i:=o) (by rw[L.d];exact on);obtain⟨h,hh⟩:=getx (xs:=hs) (i:=o) (by rw[L.h];exact on);have dln:=L.dl d (yta hd);have hln:=L.hl h (yta hh);refine⟨_,rfl,rfl,_,rfl,ite2 (λc1=>?_) (λc1=>?_)⟩
  ·have epa:=Ra.2 (o+2) pa _ (a_h hpa) (zseb hh);have hl':(iM h).length=h.length:=yca _;refine⟨_,rfl,_,rfl,_,rfl,oa,_,_,_,rfl,rfl,SqL.of eoa,own,gl,_,_,_,rfl,rfl,SqL.of (Fa _ _ nga ((S46.trans (S7.trans (S8.trans S9))) _ _ egl)),zze hpa,.inl ⟨rfl,_,SqL.of epa⟩,_,rfl,pa,_,_,rfl,rfl,epa,zpd (by rw[hl'];omega),?_⟩;rw[zi,show iM h++[V.int (i:Int)]=iM (h++[(i:Int)]) by unfold iM;rw[yva];rfl];have Rc:=Ra.put ndB (a_h hpa) (iM (h++[(i:Int)]));rw[zqnb (by rw[L.h];exact on)] at Rc;refine⟨hs.set o (h++[(i:Int)]),ds,lyi,hei,us,ms,ws,_,_,_,_,rfl,Rc,T1s.kp (Kp.put epa) AMa,Fa.trans (Far.put (a_h hpa) _),?_⟩;refine { L.up with h:=by rw[yle];exact L.h,hl:=λx hx=>?_ }
   rcases ycf hx with z|z
   ·exact L.up.hl x z
   ·rw[z,yja,ytd];omega
  refine⟨_,rfl,rfl,_,rfl,ite2 (λc2=>?_) (λc2=>?_)⟩
  ·have eda:=Ra.2 (np+o+2) da _ (a_d hda) (zteb L.h hd);have il:(iM d).length=d.length:=yca _;have x01:=zvf (r / 5) (m:=(d.length:Int)+1) (by omega);refine⟨_,rfl,_,rfl,_,rfl,oa,_,_,_,rfl,rfl,SqL.of eoa,own,dl,_,_,_,rfl,rfl,SqL.of (Fa _ _ nda ((S7.trans (S8.trans S9)) _ _ edl)),zze hda,?_⟩;refine⟨_,rfl,.inl ⟨rfl,_,SqL.of eda⟩,_,rfl,_,_,rfl,rfl,⟨by decide,by decide⟩,_,rfl,da,_,rfl,.inl (SqL.of eda),_,_,rfl,rfl,_,_,rfl,rfl,(by rw[il];omega),_,rfl,da,_,r / 5 % ((d.length:Int)+1),_,rfl,(by rw[il]),eda,x01.1,by rw[il];omega,by rw[il];omega,?_⟩;generalize r / 5 % ((d.length:Int)+1)=x at x01 ⊢;rw[zi,zrmb];have Rc:=Ra.put ndB (a_d hda) (iM (d.take x.toNat++(i:Int)::d.drop x.toNat));rw[zrnb L.h (by rw[L.d];exact on)] at Rc;refine⟨hs,ds.set o (d.take x.toNat++(i:Int)::d.drop x.toNat),lyi,hei,us,ms,ws,_,_,_,_,rfl,Rc,T1s.kp (Kp.put eda) AMa,Fa.trans (Far.put (a_d hda) _),?_⟩;refine { L.up with d:=by rw[yle];exact L.d,dl:=λy hy=>?_ }
   rcases ycf hy with z|z
   ·exact L.up.dl y z
   ·rw[z,(zxbb d (i:Int) x.toNat).length_eq,yub];omega
  ·have ehe':=Ra.2 1 he _ a_1 rfl;have hpe:iM hei++[V.int (0+(i:Int))]=iM (hei++[(i:Int)]):=(by unfold iM;rw[yva,zi];rfl);refine⟨_,rfl,.inl ⟨rfl,_,SqL.of ehe'⟩,_,rfl,he,_,_,rfl,rfl,ehe',zpd (by unfold iM;rw[yca];omega),?_⟩;rw[hpe];have Rc:Rw (upd Ha he (.lst (iM (hei++[(i:Int)])))) as (zjg hs ds lyi (hei++[(i:Int)]) us ws):=Ra.put ndB a_1 _;refine⟨hs,ds,lyi,hei++[(i:Int)],us,ms,ws,_,_,_,_,rfl,Rc,T1s.kp (Kp.put ehe') AMa,Fa.trans (Far.put a_1 _),L.put (by rw[← yec];exact List.perm_append_comm (l₁:=lyi++hei) (l₂:=[(i:Int)])) L.m L.w L.mks ?_⟩;refine ygp.mpr ⟨L.so,yhn _ _,λx hx y hy=>?_⟩;rw[yia.mp hy];have:=(L.rng x (yzb _ hx)).2;omega
 rintro σ Hx ⟨hs,ds,lyi,hei,us,ms,ws,o11,o12,o13,o14,rfl,R,AM,F,L⟩;have S0x:=frB.far S0B F;have RD:Rw Hx das (ds.map iM):=⟨by rw[dal,yca,L.d],λj x xs h1 h2=>by
  rw[yla] at h2;obtain⟨d,hd,rfl⟩:=ygb.mp h2;exact R.2 (np+j+2) x _ (a_d h1) (zteb L.h hd)⟩
 have RH:Rw Hx has (hs.map iM):=⟨by rw[hal,yca,L.h],λj x xs h1 h2=>by
  rw[yla] at h2;obtain⟨d,hd,rfl⟩:=ygb.mp h2;exact R.2 (j+2) x _ (a_h h1) (zseb hd)⟩
 have ely':=R.2 0 ly _ a_0 rfl;have ehe':=R.2 1 he _ a_1 rfl;have ewd':=R.2 (np+np+0+2) wd _ (a_r 0) ((zps L.h L.d 0).trans rfl);have emk':=R.2 (np+np+1+2) mk _ (a_r 1) ((zps L.h L.d 1).trans rfl);have eDx:=F _ _ nda ((S7.trans (S8.trans S9)) _ _ edl);have eHx:=F _ _ nga ((S46.trans (S7.trans (S8.trans S9))) _ _ egl);have egax:=F _ _ nfa ((S8.trans S9) _ _ ega);refine⟨_,rfl,(np:Int),rfl,by omega,by omega,?_⟩;rw[ysa];refine zjc (λj ys Hy=>∃ps:List Int,ys=iM ps∧ps.length=j∧j≤np∧Hy=Hx) ⟨[],rfl,rfl,ycb _,rfl⟩ ?_ ?_ ?_
 ·rintro j ys Hy ⟨ps,rfl,al,hj,_⟩;unfold iM;rw[yca,al];exact small (by omega)
 ·rintro j ys Hy hj ⟨ps,rfl,al,_,rfl⟩;refine⟨rfl,_,rfl,_,rfl,_,_,rfl,rfl,a,ns,_,rfl,SF.same S0x,n63,(by show 0≤60+(0+(j:Int));omega),(by show 60+(0+(j:Int))<1000;omega),λr r0 r1=>?_⟩;refine⟨_,_,rfl,rfl,(by show (0:Int)<_;decide),_,_,rfl,rfl,?_⟩;exact⟨ps++[_],by unfold iM;rw[yva];rfl,by rw[yja,al];rfl,hj,rfl⟩
 rintro ys H1 ⟨ps,rfl,psl,_,rfl⟩ pp hpp;refine laid hpp λK1 Q1 epp=>?_;refine⟨_,rfl,(np:Int),rfl,by omega,by omega,?_⟩;rw[ysa];refine zjc (λj ys Hy=>∃ps:List Int,ys=iM ps∧ps.length=j∧j≤np∧Hy=K1) ⟨[],rfl,rfl,ycb _,rfl⟩ ?_ ?_ ?_
 ·rintro j ys Hy ⟨ps,rfl,al,hj,_⟩;unfold iM;rw[yca,al];exact small (by omega)
 ·rintro j ys Hy hj ⟨ps,rfl,al,_,rfl⟩;refine⟨rfl,_,rfl,_,rfl,_,_,rfl,rfl,a,ns,_,rfl,SF.same (S0x.trans Q1),n63,(by show 0≤64+(0+(j:Int));omega),(by show 64+(0+(j:Int))<1000;omega),λr r0 r1=>?_⟩;refine⟨_,_,rfl,rfl,.inr ⟨by decide,by decide⟩,?_⟩;exact⟨ps++[_],by unfold iM;rw[yva];rfl,by rw[yja,al];rfl,hj,rfl⟩
 rintro ys H1 ⟨ss,rfl,ssl,_,rfl⟩ sp hsp;refine laid hsp λK2 Q2 esp=>?_;have X2:=Q1.trans Q2;have dl4:=L.d;have hl4:=L.h;refine⟨_,rfl,dl,rfl,⟨_,SqL.of (X2 _ _ eDx)⟩,?_⟩;refine zoc (xs:=das.map V.ref) (λj ys Hy=>Same K2 Hy∧All2 (T1 Hy) ys ((ds.map iM).take j)) (λj ys Hy z=>SqL.of ((X2.trans z.1) _ _ eDx)) ⟨Same.refl _,.nil⟩ ?_ ?_ ?_
 ·rintro j ys Hy ⟨_,al⟩;have a1:=al.len;rw[ywa,yca] at a1;exact small (by omega)
 ·rintro j v ys Hy hv ⟨S,al⟩;rw[yla] at hv;obtain⟨b,hb,rfl⟩:=ygb.mp hv;obtain⟨xs,hxs⟩:=getx (xs:=ds.map iM) (i:=j) (by rw[← RD.1];exact (yga.mp hb).1);refine⟨rfl,_,rfl,b,_,rfl,.inl ⟨SqL.of ((X2.trans S) _ _ (RD.2 j b xs hb hxs)),λl hl'=>?_⟩⟩;refine laid hl' λH5 S5 f5=>⟨S.trans S5,?_⟩;rw[yqa,hxs,ywb];exact All2.snoc ⟨l,rfl,f5⟩ (T1s.kp (Kp.same S5) al)
 rintro u3 K3 ⟨Q3,al3⟩ l3 hl3;rw[yca,RD.1,yfb (yha _)] at al3;refine laid hl3 λK4 Q4 f4=>?_;refine⟨l3,_,rfl,.inl ⟨SqL.of f4,λt3 ht3=>?_⟩⟩;refine laid ht3 λK5 Q5 f5=>?_;have X5:=X2.trans (Q3.trans (Q4.trans Q5));have al3':=T1s.kp (Kp.same (Q4.trans Q5)) al3;refine⟨_,rfl,gl,rfl,⟨_,SqL.of (X5 _ _ eHx)⟩,?_⟩;refine zoc (xs:=has.map V.ref) (λj ys Hy=>Same K5 Hy∧All2 (T1 Hy) ys ((hs.map iM).take j)) (λj ys Hy z=>SqL.of ((X5.trans z.1) _ _ eHx)) ⟨Same.refl _,.nil⟩ ?_ ?_ ?_
 ·rintro j ys Hy ⟨_,al⟩;have a1:=al.len;rw[ywa,yca] at a1;exact small (by omega)
 ·rintro j v ys Hy hv ⟨S,al⟩;rw[yla] at hv;obtain⟨b,hb,rfl⟩:=ygb.mp hv;obtain⟨xs,hxs⟩:=getx (xs:=hs.map iM) (i:=j) (by rw[← RH.1];exact (yga.mp hb).1);refine⟨rfl,_,rfl,b,_,rfl,.inl ⟨SqL.of ((X5.trans S) _ _ (RH.2 j b xs hb hxs)),λl hl'=>?_⟩⟩;refine laid hl' λH5 S5 f5=>⟨S.trans S5,?_⟩;rw[yqa,hxs,ywb];exact All2.snoc ⟨l,rfl,f5⟩ (T1s.kp (Kp.same S5) al)
 rintro u4 K6 ⟨Q6,al4⟩ l4 hl4';rw[yca,RH.1,yfb (yha _)] at al4;refine laid hl4' λK7 Q7 f7=>?_;refine⟨l4,_,rfl,.inl ⟨SqL.of f7,λt4 ht4=>?_⟩⟩;refine laid ht4 λK8 Q8 f8=>?_;refine⟨sz2,λrt hrt=>?_⟩;refine laid hrt λK9 Q9 f9=>?_;have Q59:=Q6.trans (Q7.trans (Q8.trans Q9));have X9:=X5.trans Q59;have Q29:=Q3.trans (Q4.trans (Q5.trans Q59));have Q19:=Q2.trans Q29;refine⟨_,rfl,pp,_,rfl,.inl ⟨SqL.of (Q19 _ _ epp),λt0 ht0=>?_⟩⟩;refine laid ht0 λL0 P0 g0=>?_;refine⟨_,rfl,sp,_,rfl,.inl ⟨SqL.of ((Q29.trans P0) _ _ esp),λt1 ht1=>?_⟩⟩;refine laid ht1 λL1 P1 g1=>?_;have P01:=P0.trans P1;refine⟨_,rfl,ga,_,rfl,.inl ⟨SqL.of ((X9.trans P01) _ _ egax),λt2 ht2=>?_⟩⟩;refine laid ht2 λL2' P2 g2=>?_;refine⟨sz3,λh3 hh3=>?_⟩;refine laid hh3 λL3 P3 g3=>?_;have P23:=P2.trans P3;have P13:=P1.trans P23;have P03:=P0.trans P13;refine⟨_,rfl,h3,rt,_,_,rfl,rfl,SqT.of g3,SqT.of (P03 _ _ f9),(by simp),small (by show 3+2≤1000;decide),λz=>absurd z (by simp),λz h5 hh5=>?_⟩;refine laid hh5 λL5 P5 g5=>?_;have X5':=X9.trans (P03.trans P5);refine⟨_,rfl,_,rfl,ly,_,rfl,.inl ⟨SqL.of (X5' _ _ ely'),λt5 ht5=>?_⟩⟩;refine laid ht5 λM5 O5 k5=>?_;refine⟨_,rfl,he,_,rfl,.inl ⟨SqL.of ((X5'.trans O5) _ _ ehe'),λt6 ht6=>?_⟩⟩;refine laid ht6 λM6 O6 k6=>?_;have O56:=O5.trans O6;refine⟨_,rfl,mk,_,rfl,.inl ⟨SqL.of ((X5'.trans O56) _ _ emk'),λt7 ht7=>?_⟩⟩;refine laid ht7 λM7 O7 k7=>?_;have O57:=O56.trans O7;refine⟨_,rfl,wd,_,rfl,.inl ⟨SqL.of ((X5'.trans O57) _ _ ewd'),λt8 ht8=>?_⟩⟩;refine laid ht8 λM8 O8 k8=>?_;refine⟨sz4,λh9 hh9=>?_⟩;refine laid hh9 λM9 O9 k9=>?_;have O89:=O8.trans O9;have O79:=O7.trans O89;have O69:=O6.trans O79;have O59:=O5.trans O69;refine⟨h5,h9,_,_,rfl,rfl,SqT.of (O59 _ _ g5),SqT.of k9,(by simp),small (by show 5+4≤1000;decide),λz=>absurd z (by simp),λz tv htv=>?_⟩;refine laid htv λN1 U1 k10=>?_;have V5:=P5.trans (O59.trans U1);have V3:=P03.trans V5;have kx:=Kp.same (X9.trans V3);have ln:=L.lh;have nd:=L.nd;refine q (.ref tv) ⟨ps,ss,gs,ds,hs,lyi,hei,ms,ws⟩ N1 (S0x.trans (X9.trans V3)) ⟨tv,_,_,_,_,_,_,_,_,_,rfl,k10,⟨⟨t0,rfl,(P13.trans V5) _ _ g0⟩,⟨t1,rfl,(P23.trans V5) _ _ g1⟩,⟨t2,rfl,(P3.trans V5) _ _ g2⟩,⟨t3,u3,rfl,(Q59.trans V3) _ _ f5,T1s.kp (Kp.same (Q59.trans V3)) al3'⟩,⟨t4,u4,rfl,(Q9.trans V3) _ _ f8,T1s.kp (Kp.same (Q7.trans (Q8.trans (Q9.trans V3)))) al4⟩,⟨t5,rfl,(O69.trans U1) _ _ k5⟩,⟨t6,rfl,(O79.trans U1) _ _ k6⟩,⟨t7,us,rfl,(O89.trans U1) _ _ k7,T1s.kp kx AM⟩,⟨t8,rfl,(O9.trans U1) _ _ k8⟩⟩⟩ ⟨⟨psl,ssl,gsl,L.d,L.h,L.m,L.w,by show lyi.length≤16;omega,by show hei.length≤16;omega,λm hm=>yqb (zez m (L.mks m hm)) (by decide),λx hx=>by have:=L.dl x hx;omega,λx hx=>by have:=L.hl x hx;omega,n4,by omega⟩,nd,λn hn=>L.rng n (ylf _ hn),λn hn=>L.rng n (yzb _ hn),L.so,λm hm=>zogb m (L.mks m hm)⟩
theorem zabb {cs:List Pc}{ns:List Int}:∀{ms:List (List Str)},(setM cs ms ns).length=ms.length:=by
 unfold setM
 induction ns with
 | nil=>intro ms;rfl
 | cons x r ih=>intro ms;rw[List.foldl_cons,ih,yle]
theorem zefb (xs:List Int):∃ys:List Int,ys.Perm xs∧ys.Pairwise (· ≤ ·):=by
 refine⟨xs.mergeSort (λa b=>decide (a≤b)),List.mergeSort_perm _ _,?_⟩;have z:=List.pairwise_mergeSort (le:=λa b:Int=>decide (a≤b)) (λa b c h1 h2=>by simp at *;omega) (λa b=>by simp;omega) xs;exact ych (λh=>of_decide_eq_true h) z
theorem zkkb {ns:List Int}(nd:ns.Nodup){i:Nat}{n:Int}(h:ns[i]?=some n):n∉ns.take i:=λz=>by
 obtain⟨j,hj⟩:=ynf z;have jl:=(yga.mp hj).1;rw[ywa] at jl;rw[ygf (by omega)] at hj;have w:=(ypj (j:=i) (yga.mp hj).1 nd).mp (by rw[hj,h]);omega
theorem Lv.ex {cs:List Pc}{t:Tab}{np nc:Nat}(T0:TI np nc t)(hc:cs.length=nc)(hk:∀m∈cs.map (·.marks),m.length≤40∧∀s∈m,zqc s){ns:List Int}(nd:ns.Nodup)(hin:∀n∈ns,n∈t.lying):∀i:Nat,i≤ns.length->∃t',Lv cs t t' (ns.take i)∧TI np nc t':=by
 intro i
 induction i with
 | zero=>intro _;exact⟨t,.nil,T0⟩
 | succ i ih =>
  intro hi;obtain⟨tx,LV,TX⟩:=ih (by omega);have hn:ns[i]?=some ns[i]:=ybb hi;obtain⟨n0,hn0⟩:∃n,n=ns[i]:=⟨_,rfl⟩;rw[← hn0] at hn;have hm:=hin n0 (yta hn);obtain⟨x0,x1⟩:=T0.rg n0 hm;obtain⟨n,e⟩:∃k:Nat,n0=(k:Int):=⟨n0.toNat,by omega⟩;have hl:(n:Int)∈tx.lying:=by
   rw[LV.lying];have:=zkkb nd hn;rw[e] at this hm;exact yhc.mpr ⟨hm,by simp[this]⟩
  obtain⟨ms,hms⟩:=getx (xs:=cs.map (·.marks)) (i:=n) (by rw[yca];omega);obtain⟨hp,p1,p2⟩:=zefb (ISet.dd (tx.heap++[(n:Int)]));have cr:CrR (cs.map (·.marks)) tx n .non "leave" _:=.leave hms p1 p2;refine⟨_,?_,(TX.leave hl hk cr).1⟩;rw[yqa,hn,e];exact LV.snoc TX hl hk cr
theorem Lv.ti {cs:List Pc}{t t':Tab}{np nc:Nat}{ns:List Int}(T0:TI np nc t)(hc:cs.length=nc)(hk:∀m∈cs.map (·.marks),m.length≤40∧∀s∈m,zqc s)(nd:ns.Nodup)(hin:∀n∈ns,n∈t.lying)(h:Lv cs t t' ns)(so:t'.heap.Pairwise (· ≤ ·)):TI np nc t':=by
 obtain⟨t2,L2,T2⟩:=Lv.ex T0 hc hk nd hin ns.length (yha _);rw[yrb] at L2;rw[h.det L2 so T2.so];exact T2
def outL (t:Tab)(j:Nat):List Int:=((ysf j).filter λp=>(going t).getD p false).map λp=>((p:Nat):Int)
theorem zyfb (t:Tab)(j:Nat):outL t (j+1)=outL t j++if (going t).getD j false then [((j:Nat):Int)] else []:=by
 unfold outL;rw[List.range_succ,yve,yva];cases e:(going t).getD j false with
 | true=>rw[yhd (by rw[e])];rfl
 | false=>rw[yid (by rw[e];decide)];rfl
theorem zat {t:Tab}{j o:Nat}(h:o<j):decide (((o:Nat):Int)∈outL t j)=(going t).getD o false:=by
 unfold outL;cases e:(going t).getD o false with
 | true=>exact decide_eq_true (ymc.mpr ⟨o,yhc.mpr ⟨yqj.mpr h,e⟩,rfl⟩)
 | false =>
  refine decide_eq_false λz=>?_;obtain⟨p,hp,e2⟩:=ymc.mp z;have:p=o:=by omega
  rw[this] at hp;have:=(yhc.mp hp).2;rw[e] at this;cases this
theorem zgkb (t:Tab)(j:Nat):(outL t j).length≤j:=by
 unfold outL;rw[yca];have:=ysb (λp=>(going t).getD p false) (ysf j);rw[yuf] at this;exact this
theorem zzbb {np nc:Nat}{t:Tab}(h:TOk np nc t){i:Nat}(hi:i<np):Ex2 λ(p:Int) (g:Bool)=>t.pts[i]?=some p∧t.gone[i]?=some g∧(going t).getD i false=(decide (p≤0) && !g)∧(zyf t)[i]?=some (g||(decide (p≤0) && !g)):=by
 obtain⟨p,hp⟩:=getx (xs:=t.pts) (i:=i) (by rw[h.pts];exact hi);obtain⟨g,hg⟩:=getx (xs:=t.gone) (i:=i) (by rw[h.gone];exact hi);have e:(going t)[i]?=some (decide (p≤0) && !g):=by
  unfold going;rw[yce,hp,hg]
 refine⟨p,g,hp,hg,by rw[ylb,e];rfl,?_⟩;unfold zyf;rw[yce,hg,e]
def zuqb (B:Addr):Sp:=λvs H Q _=>Ex8 λca oa tv (t:Tab) (np nc:Nat) (cs:List Pc) (os:List Nat)=>vs=[.ref ca,.ref oa,tv]∧GC B H ca oa cs os∧TabT H tv t∧TI np nc t∧cs.length=nc∧(∀o∈os,o<np)∧∀v' (t1:Tab) H',Same H H'->TabT H' v' { t1 with gone:=zyf t }->Lv cs t t1 (outs os t)->TI np nc t1->Q v' H'
theorem zgp (T:Tx K mg):FnOk P w K mg base CX0 2 T.zsc.f T.zsc.d zoh (zuqb T.zub):=by
 refine T.zsc.ok zjb ?_;rintro f c A o s H vs Q E hr ⟨ca,oa,tv,t,np,nc,cs,os,rfl,GG,TT,TI0,hc,hos,q⟩ X;obtain⟨a,v0,v1,v2,v3,v4,v5,v6,v7,v8,rfl,ea,TP⟩:=TT;obtain⟨b0,rfl,e0⟩:=TP.p0;obtain⟨b2,rfl,e2⟩:=TP.p2;obtain⟨b5,rfl,e5⟩:=TP.p5;obtain⟨b6,rfl,e6⟩:=TP.p6;obtain⟨b7,u7,rfl,e7,al7⟩:=id TP.p7;obtain⟨b8,rfl,e8⟩:=TP.p8;have TO:=TI0.ok;have np4:=TO.np4;have ly:=TO.ly;have hpl:=TO.hp;have nc16:=TO.nc16;have gol:=zup TO;have osl:=GG.l;have l7:=al7.len;rw[yca,TO.marks] at l7;obtain⟨⟨cvs,ec,alc⟩,eo,_⟩:=id GG;have cvl:=alc.len;have ptl:(iM t.pts).length=np:=by unfold iM;rw[yca,TO.pts]
 refine⟨_,  (zca (zna (i:=3) zjb.nd rfl (.inr rfl) (zuc (own:=["_law_player"]) (cap:=["_law_table_here"]) rfl (zsa.chk rfl rfl) (.cons (j:=2) rfl (.inl rfl) (.inl rfl) .nil) (zqb rfl T.zgc (zaa (zya zcb rfl T.zvg ylc (zaa (zra zwa (pv 2) zea (λ_ _=>rfl)) zba)) zba)) (λ_ _ _ _=>(zda (i:=0) (show yjb (["_law_player","_law_table_here"]:List Str) by decide +kernel) rfl (.inl rfl))) (λ_ _ _ _=>zmg (PW.pt (zmbb (zsh (zng (zra (zwb K) (zra (zwb K) (pv 1) zea (λ_ _=>rfl)) (pv 0) (λ_ _=>rfl)))) (zwy (zgb zikb (zra (zwb K) (zra (zwb K) (pv 1) zea (λ_ _=>rfl)) (pv 0) (λ_ _=>rfl)) zea (zrb _)))))) (λ_ _ _ _=>by exact (pv 0))))
  (zca (zna (i:=4) zjb.nd rfl (.inr rfl) (zuc (own:=["_law_n"]) (cap:=["_law_out","_law_owners"]) rfl (zsa.chk rfl rfl) (.cons (j:=3) rfl (.inl rfl) (.inl rfl) (.cons (j:=1) rfl (.inl rfl) (.inl rfl) .nil)) (zrr (zra zwa (pv 2) zea (λ_ _=>rfl))) (λ_ _ _ _=>(zda (i:=0) (show yjb (["_law_n","_law_out","_law_owners"]:List Str) by decide +kernel) rfl (.inl rfl))) (λ_ _ _ _=>zmg (zgb (zvr K) (zra (zyj K) (pv 2) (pv 0) (λ_ _=>rfl)) (pv 1) rfl)) (λ_ _ _ _=>by exact (pv 0))))
  (zca (zna (i:=5) zjb.nd rfl (.inl rfl) (zoa zma rfl T.zkb yvc (zaa (zuc (own:=["_law_player"]) (cap:=["_law_out","_law_table_here"]) rfl (zsa.chk rfl rfl) (.cons (j:=3) rfl (.inl rfl) (.inl rfl) (.cons (j:=2) rfl (.inl rfl) (.inl rfl) .nil)) (zqb rfl T.zgc (zaa (zya zcb rfl T.zvg ylc (zaa (zra zwa (pv 2) zea (λ_ _=>rfl)) zba)) zba)) (λ_ _ _ _=>(zda (i:=0) (show yjb (["_law_player","_law_out","_law_table_here"]:List Str) by decide +kernel) rfl (.inl rfl))) (λ_ _ _ _=>zyb) (λ_ _ _ _=>by exact (zekb (zra (zwb K) (zra (zwb K) (pv 2) zea (λ_ _=>rfl)) (pv 0) (λ_ _=>rfl)) (ztr (zqg (zvr K) (pv 0) (pv 1) rfl))))) zba)))
  (zca (zna (i:=6) zjb.nd rfl (.inl rfl) (zoa zma rfl T.zkb yvc (zaa (zuc (own:=["_law_n"]) (cap:=["_law_left"]) rfl (zsa.chk rfl rfl) (.cons (j:=4) rfl (.inl rfl) (.inl rfl) .nil) (zrr (zra zwa (pv 2) zea (λ_ _=>rfl))) (λ_ _ _ _=>(zda (i:=0) (show yjb (["_law_n","_law_left"]:List Str) by decide +kernel) rfl (.inl rfl))) (λ_ _ _ _=>zmg (zgb (znl K) (pv 0) (pv 1) rfl)) (λ_ _ _ _=>by exact (pv 0))) zba)))
  (zca (zwd (i:=7) zjb.nd rfl (.inl rfl) (own:=["_law_n"]) (cap:=["_law_table_here"]) rfl (zsa.chk rfl rfl) (.cons (j:=2) rfl (.inl rfl) (.inl rfl) .nil) (zqb rfl T.zgc (zaa (zya zcb rfl T.zvg ylc (zaa (pv 0) zba)) zba)) (λ_ _ _ _=>(zda (i:=0) (show yjb (["_law_n","_law_table_here"]:List Str) by decide +kernel) rfl (.inl rfl))) (λ_ _ _ _=>zyb) (λ_ _ _ _=>by exact (zra (zwb K) (zra (zwb K) (pv 1) zea (λ_ _=>rfl)) (pv 0) (λ_ _=>rfl))))
  (zca (zwd (i:=8) zjb.nd rfl (.inl rfl) (own:=["_law_n"]) (cap:=["_law_table_here"]) rfl (zsa.chk rfl rfl) (.cons (j:=2) rfl (.inl rfl) (.inl rfl) .nil) (zqb rfl T.zgc (zaa (zya zcb rfl T.zvg ylc (zaa (pv 0) zba)) zba)) (λ_ _ _ _=>(zda (i:=0) (show yjb (["_law_n","_law_table_here"]:List Str) by decide +kernel) rfl (.inl rfl))) (λ_ _ _ _=>zyb) (λ_ _ _ _=>by exact (zra (zwb K) (zra (zwb K) (pv 1) zea (λ_ _=>rfl)) (pv 0) (λ_ _=>rfl))))
  (zca (zlf ydc rfl (zic (pv 4)) (zda (i:=9) zjb.nd rfl (.inl rfl))
   (zca (zog (zti (zra zjd (pv 0) (pv 9) (λ_ _=>rfl)) rfl) (zsr (pv 7) (pv 9) set_list))
   (zfa (zog zea (zsr (pv 8) (pv 9) set_list)))))
  (zca (zna (i:=10) zjb.nd rfl (.inl rfl) (zoa zma rfl T.zkb yvc (zaa (zya zbe rfl T.zae yvh (zaa (zfb zbgb (zoa zzc rfl T.zui yfl (zaa (zra zwa (pv 2) zea (λ_ _=>rfl)) zba)) (pv 4)) zba)) zba)))
  (zca (zna (i:=11) zjb.nd rfl (.inl rfl) (zfb zzi (zdi zzu (pv 2) zkk (zjk zea)) (znb (zaa (pv 5) (zaa (zra zwa (pv 2) zea (λ_ _=>rfl)) (zaa (zra zwa (pv 2) zea (λ_ _=>rfl)) zba))))))
  (zfa (zbb (zfb zzi (pv 11) (znb (zaa (pv 6) (zaa (pv 10) (zaa (zoa zma rfl T.zkb yvc (zaa (pv 7) zba)) (zaa (zoa zma rfl T.zkb yvc (zaa (pv 8) zba)) zba))))))))))))))))),?_⟩
 refine⟨_,rfl,a,_,_,_,rfl,rfl,SqT.of ea,zka (j:=0) rfl,b0,_,rfl,.inr (SqT.of e0),(np:Int),(by rw[ptl]),by omega,by omega,?_⟩;rw[ysa];refine zjc (λj ys Hy=>H=Hy∧j≤np∧ys=iM (outL t j)) ⟨rfl,ycb _,rfl⟩ ?_ ?_ ?_
 ·rintro j ys Hy ⟨_,hj,rfl⟩;unfold iM;rw[yca];have:=zgkb t j;exact small (by omega)
 ·rintro j ys Hy hj ⟨rfl,_,rfl⟩;have zj:(0:Int)+(j:Int)=(j:Int):=by omega
  obtain⟨p,g,hp,hg,eg,_⟩:=zzbb TO hj;rw[zyfb,eg,zj];refine⟨rfl,_,rfl,a,_,_,_,rfl,rfl,SqT.of ea,zka (j:=2) rfl,_,rfl,b2,_,_,_,rfl,rfl,SqT.of e2,zze hg,_,rfl,ite2 (λc=>?_) (λc=>iteF ?_)⟩
  ·have g0:g=false:=by simpa using c
   refine⟨_,rfl,a,_,_,_,rfl,rfl,SqT.of ea,zka (j:=0) rfl,_,rfl,b0,_,_,_,rfl,rfl,SqT.of e0,zze hp,_,_,rfl,rfl,_,rfl,ite2 (λd=>?_) (λd=>?_)⟩
   ·have d':decide (p≤0)=true:=decide_eq_true (by have:=of_decide_eq_true d;omega);refine⟨_,rfl,rfl,hj,?_⟩;rw[g0,d'];unfold iM;rw[yva];rfl
   ·have d':decide (p≤0)=false:=decide_eq_false (λz=>d (decide_eq_true (by omega)));refine⟨rfl,hj,?_⟩;rw[d',yaf];simp
  ·have g0:g=true:=by simpa using c
   refine⟨rfl,hj,?_⟩;rw[g0];simp
 rintro ys H1 ⟨rfl,_,rfl⟩ ol hol;refine laid hol λH1 S1 eol=>?_;have e51:=S1 _ _ e5;refine⟨_,rfl,a,_,_,_,rfl,rfl,SqT.of (S1 _ _ ea),zka (j:=5) rfl,b5,rfl,⟨_,SqT.of e51⟩,?_⟩;refine zak (xs:=iM t.lying) (λi ys H'=>H'=H1∧ys=iM ((t.lying.take i).filter λn=>(going t).getD (os.getD n.toNat 0) false)) (λi ys H' z=>by rw[z.1];exact SqT.of e51) ⟨rfl,rfl⟩ ?_ ?_ ?_
 ·rintro i ys H' ⟨_,rfl⟩;unfold iM;rw[yca];have h1:=ysb (λn=>(going t).getD (os.getD n.toNat 0) false) (t.lying.take i);rw[ywa] at h1;exact small (by omega)
 ·rintro i v ys H' hv ⟨rfl,rfl⟩;unfold iM at hv;rw[yla] at hv;obtain⟨x,hx,rfl⟩:=ygb.mp hv;obtain⟨x0,x1⟩:=TI0.rg x (yta hx);obtain⟨k,rfl⟩:∃k:Nat,x=(k:Int):=⟨x.toNat,by omega⟩;obtain⟨o,ho⟩:=getx (xs:=os) (i:=k) (by omega);have oN:=hos o (yta ho);have eb:(going t).getD (os.getD (k:Int).toNat 0) false=(going t).getD o false:=by
   rw[ysa,ylb (l:=os),ho];rfl
  rw[yqa,hx,ywb,yve];refine⟨rfl,_,rfl,_,rfl,oa,_,_,_,rfl,rfl,SqL.of (S1 _ _ eo),zze ho,_,rfl,ol,_,rfl,.inl (SqL.of eol),rfl,zjj _,_,rfl,ite2 (λc=>?_) (λc=>?_)⟩
  ·rw[inI,zat oN] at c;refine⟨_,rfl,rfl,?_⟩;rw[yhd (by rw[eb];exact c)];unfold iM;rw[yva];rfl
  ·rw[inI,zat oN] at c;refine⟨rfl,?_⟩;rw[yid (by rw[eb];exact c)];simp
 rintro ys H2 ⟨rfl,rfl⟩ lf hlf;rw[show (t.lying.take (iM t.lying).length)=t.lying by
  unfold iM;rw[yca,yrb]]
 refine laid hlf λH2 S2 elf0=>?_;have elf:H2 lf=some (.lst (iM (outs os t))):=elf0;have S02:=S1.trans S2;have ofl:=ysb (λn=>(going t).getD (os.getD n.toNat 0) false) t.lying;have ol16:(outs os t).length≤16:=yqb ofl ly;refine⟨_,rfl,a,_,_,_,rfl,rfl,SqT.of (S02 _ _ ea),zka (j:=0) rfl,b0,_,rfl,.inr (SqT.of (S02 _ _ e0)),(np:Int),(by rw[ptl]),by omega,by omega,?_⟩;rw[ysa];refine zjc (λj ys Hy=>Hy=H2∧j≤np∧ys=((zyf t).take j).map V.bl) ⟨rfl,ycb _,rfl⟩ ?_ ?_ ?_
 ·rintro j ys Hy ⟨_,hj,rfl⟩;rw[yca,ywa];exact small (by omega)
 ·rintro j ys Hy hj ⟨rfl,_,rfl⟩;have zj:(0:Int)+(j:Int)=(j:Int):=by omega
  obtain⟨p,g,hp,hg,eg,egt⟩:=zzbb TO hj;rw[zj,yqa,egt,ywb,yva];refine⟨rfl,_,rfl,a,_,_,_,rfl,rfl,SqT.of (S02 _ _ ea),zka (j:=2) rfl,_,rfl,b2,_,_,_,rfl,rfl,SqT.of (S02 _ _ e2),zze hg,_,rfl,?_⟩;cases g with
  | true=>exact⟨rfl,hj,rfl⟩
  | false =>
   refine⟨_,rfl,_,rfl,ol,_,rfl,.inl (SqL.of (S2 _ _ eol)),rfl,zjj _,rfl,hj,?_⟩;have z:inV (.int (j:Int)) (iM (outL t np))=(decide (p≤0) && !false):=(by rw[inI,zat hj,eg]);show _++[V.bl (inV (.int (j:Int)) (iM (outL t np)))]=_
   rw[z];rfl
 rintro ys H3 ⟨rfl,_,rfl⟩ gl hgl;rw[show (zyf t).take np=zyf t by rw[← ztl TO,yrb]];refine laid hgl λH3 S3 egl=>?_;refine⟨gl,_,rfl,.inl ⟨SqL.of egl,λg5 hg5=>?_⟩⟩;refine laid hg5 λH4 S4 eg5=>?_;have S24:=S3.trans S4;have S04:=S02.trans S24;have e54:=S04 _ _ e5;have elf4:=S24 _ _ elf;refine⟨_,rfl,a,_,_,_,rfl,rfl,SqT.of (S04 _ _ ea),zka (j:=5) rfl,b5,rfl,⟨_,SqT.of e54⟩,?_⟩;refine zak (xs:=iM t.lying) (λi ys H'=>H'=H4∧ys=iM ((t.lying.take i).filter λn=>!decide (n∈outs os t))) (λi ys H' z=>by rw[z.1];exact SqT.of e54) ⟨rfl,rfl⟩ ?_ ?_ ?_
 ·rintro i ys H' ⟨_,rfl⟩;unfold iM;rw[yca];have h1:=ysb (λn=>!decide (n∈outs os t)) (t.lying.take i);rw[ywa] at h1;exact small (by omega)
 ·rintro i v ys H' hv ⟨rfl,rfl⟩;unfold iM at hv;rw[yla] at hv;obtain⟨x,hx,rfl⟩:=ygb.mp hv;rw[yqa,hx,ywb,yve];refine⟨rfl,_,rfl,_,rfl,lf,_,rfl,.inl (SqL.of elf4),rfl,zjj _,_,rfl,ite2 (λc=>?_) (λc=>?_)⟩
  ·rw[inI] at c;refine⟨_,rfl,rfl,?_⟩;rw[yhd (p:=λn=>!decide (n∈outs os t)) c];unfold iM;rw[yva];rfl
  ·rw[inI] at c;refine⟨rfl,?_⟩;rw[yid (p:=λn=>!decide (n∈outs os t)) c];simp
 rintro ys H5 ⟨rfl,rfl⟩ l5 hl5;rw[show (t.lying.take (iM t.lying).length)=t.lying by
  unfold iM;rw[yca,yrb]]
 refine laid hl5 λH5 S5 el5=>?_;refine⟨l5,_,rfl,.inl ⟨SqL.of el5,λt5 ht5=>?_⟩⟩;refine laid ht5 λH6 S6 et5=>?_;have S46:=S5.trans S6;have S06:=S04.trans S46;refine⟨_,rfl,ca,_,rfl,.inl (SqL.of (S06 _ _ ec)),(nc:Int),(by rw[cvl,hc]),by omega,by omega,?_⟩;rw[ysa];refine zjc (λj ys Hy=>Hy=H6∧j≤nc∧ys=u7.take j) ⟨rfl,ycb _,rfl⟩ ?_ ?_ ?_
 ·rintro j ys Hy ⟨_,hj,rfl⟩;rw[ywa];exact small (by omega)
 ·rintro j ys Hy hj ⟨rfl,_,rfl⟩;have zj:(0:Int)+(j:Int)=(j:Int):=by omega
  obtain⟨u,hu⟩:=getx (xs:=u7) (i:=j) (by omega);rw[zj,yqa,hu];exact⟨rfl,_,rfl,a,_,_,_,rfl,rfl,SqT.of (S06 _ _ ea),zka (j:=7) rfl,_,rfl,b7,_,_,_,rfl,rfl,SqT.of (S06 _ _ e7),zka hu,rfl,hj,rfl⟩
 rintro ys H7 ⟨rfl,_,rfl⟩ mk hmk;rw[show u7.take nc=u7 by rw[← l7,yrb]];refine laid hmk λH7 S7 emk=>?_;have S07:=S06.trans S7;refine⟨_,rfl,ca,_,rfl,.inl (SqL.of (S07 _ _ ec)),(nc:Int),(by rw[cvl,hc]),by omega,by omega,?_⟩;rw[ysa];refine zjc (λj ys Hy=>Hy=H7∧j≤nc∧ys=iM (t.wnds.take j)) ⟨rfl,ycb _,rfl⟩ ?_ ?_ ?_
 ·rintro j ys Hy ⟨_,hj,rfl⟩;unfold iM;rw[yca,ywa];exact small (by omega)
 ·rintro j ys Hy hj ⟨rfl,_,rfl⟩;have zj:(0:Int)+(j:Int)=(j:Int):=by omega
  obtain⟨u,hu⟩:=getx (xs:=t.wnds) (i:=j) (by rw[TO.wnds];exact hj);rw[zj,yqa,hu];refine⟨rfl,_,rfl,a,_,_,_,rfl,rfl,SqT.of (S07 _ _ ea),zka (j:=8) rfl,_,rfl,b8,_,_,_,rfl,rfl,SqT.of (S07 _ _ e8),zze hu,rfl,hj,?_⟩;unfold iM;rw[yva];rfl
 rintro ys H8 ⟨rfl,_,rfl⟩ wd hwd;rw[show t.wnds.take nc=t.wnds by rw[← TO.wnds,yrb]];refine laid hwd λH8 S8 ewd=>?_;have S08:=S07.trans S8;have emk8:=S8 _ _ emk;have nmw:mk≠wd:=zga emk hwd;have fmk:H mk=none:=none_of S06 hmk;have fwd:H wd=none:=none_of S07 hwd;have S68:=S7.trans S8;have elf6:=S46 _ _ elf4;have nlm:lf≠mk:=zga elf6 hmk;have nlw:lf≠wd:=zga (S7 _ _ elf6) hwd;have elf8:=S68 _ _ elf6;refine⟨_,rfl,lf,rfl,⟨_,SqL.of elf8⟩,?_⟩;refine zdh (xs:=iM (outs os t)) (λi σ Hx=>Ex2 λus o9=>σ=[some (.ref ca),some (.ref oa),some (.ref a),some (.ref ol),some (.ref lf),some (.ref g5),some (.ref t5),some (.ref mk),some (.ref wd),o9,none,none]∧Same H Hx∧Kp H8 Hx∧Hx lf=some (.lst (iM (outs os t)))∧Hx mk=some (.lst us)∧All2 (T1 Hx) us ((setM cs t.marks ((outs os t).take i)).map sM)∧Hx wd=some (.lst (iM (setW t.wnds ((outs os t).take i))))∧(setW t.wnds ((outs os t).take i)).length=nc) ⟨u7,_,rfl,S08,Kp.same (Same.refl _),elf8,emk8,T1s.kp (Kp.same S08) al7,ewd,TO.wnds⟩ (λi σ Hx _ ⟨_,_,_,_,_,e,_⟩=>SqL.of e) ?_ ?_
 ·rintro i v σ Hx hv ⟨us,o9,rfl,S,kp,el,em,alm,ew,wl⟩;unfold iM at hv;rw[yla] at hv;obtain⟨x,hx,rfl⟩:=ygb.mp hv;have hm:=(yhc.mp (yta hx)).1;obtain⟨x0,x1⟩:=TI0.rg x hm;obtain⟨k,rfl⟩:∃k:Nat,x=(k:Int):=⟨x.toNat,by omega⟩;obtain⟨c,hcc⟩:=getx (xs:=cs) (i:=k) (by omega);obtain⟨_,hcv,pc⟩:=alc.get2 hcc;obtain⟨cd,dx,m,tt,nm,kk,rfl,ecd,emm,_⟩:=pc.kp (Kp.same S);have ul:=alm.len;rw[yca,zabb,TO.marks] at ul;refine⟨_,rfl,_,rfl,ca,_,_,_,rfl,rfl,SqL.of (S _ _ ec),zka hcv,cd,_,dx,_,_,rfl,ecd,T.zye,T.zyc,zzl _ _ _ _ _,_,rfl,_,rfl,mk,_,_,k,rfl,rfl,em,zrm (by omega),?_⟩;have kpa:Kp Hx (upd Hx mk (.lst (us.set k (.ref m)))):=Kp.put em;have ewa:upd Hx mk (.lst (us.set k (.ref m))) wd=some (.lst (iM (setW t.wnds ((outs os t).take i)))):=by rw[zta (ykd nmw)];exact ew
  refine⟨_,rfl,_,rfl,wd,_,_,k,rfl,rfl,ewa,zrm (by unfold iM;rw[yca];omega),?_⟩;have kpb:=kpa.trans (Kp.put (vs:=(iM (setW t.wnds ((outs os t).take i))).set k (.int 0)) ewa);have emk2:(cs.map (·.marks))[k]?=some c.marks:=by rw[yla,hcc];rfl
  refine⟨us.set k (.ref m),_,rfl,zed (zed S fmk _) fwd _,kp.trans kpb,by rw[zta nlw,zta nlm];exact el,by rw[zta nmw,zua],?_,?_,?_⟩
  ·rw[yqa,hx];show All2 _ _ ((setM cs t.marks ((outs os t).take i++[(k:Int)])).map sM)
   unfold setM at alm ⊢;rw[yge];show All2 _ _ ((yjn _ (k:Int).toNat _).map sM)
   rw[ysa,emk2,ybe];exact T1s.kp kpb (alm.set ⟨m,rfl,emm⟩ k)
  ·rw[zua,yqa,hx];show some (HO.lst _)=some (HO.lst (iM (setW t.wnds ((outs os t).take i++[(k:Int)]))))
   unfold setW iM;rw[yge];show _=some (HO.lst ((yjn _ (k:Int).toNat 0).map V.int))
   rw[ysa,ybe]
  ·rw[yqa,hx];show (setW t.wnds ((outs os t).take i++[(k:Int)])).length=nc
   unfold setW at wl ⊢;rw[yge];show (yjn _ (k:Int).toNat 0).length=nc
   rw[yle];exact wl
 rintro σ Hx ⟨us,o9,rfl,S,kp,el,em,alm,ew,wl⟩;rw[show (outs os t).take (iM (outs os t)).length=outs os t by
  unfold iM;rw[yca,yrb]] at alm ew
 refine⟨_,rfl,a,_,_,_,rfl,rfl,SqT.of (S _ _ ea),zka (j:=6) rfl,b6,_,rfl,.inr (SqT.of (S _ _ e6)),λh1 hh1=>?_⟩;refine laid hh1 λHa Sa eh1=>?_;have il:(iM t.heap).length=t.heap.length:=yca _;have il2:(iM (outs os t)).length=(outs os t).length:=yca _;refine⟨_,rfl,h1,lf,_,_,rfl,rfl,eh1,Sa _ _ el,(by rw[il,il2];exact small (by omega)),λh2 hh2=>?_⟩;refine laid hh2 λHb Sb eh2=>?_;have eh2':Hb h2=some (.lst ((t.heap++outs os t).map V.int)):=by rw[eh2,yva];rfl
 refine⟨h2,t.heap++outs os t,rfl,.inl (SqL.of eh2'),(by rw[yja];omega),λh3 hs hh3 ph sh=>?_⟩;refine laid hh3 λHc Sc eh3=>?_;refine⟨h3,_,rfl,.inl ⟨SqL.of eh3,λh4 hh4=>?_⟩⟩;refine laid hh4 λHd Sd eh4=>?_;have Sxd:=Sa.trans (Sb.trans (Sc.trans Sd));have S0d:=S.trans Sxd;refine⟨_,rfl,_,rfl,a,_,rfl,SqT.of (S0d _ _ ea),?_,λs2 hs2=>?_⟩
 ·rintro⟨_,z⟩;rw[show (some (2:Int))=some ((2:Nat):Int) from rfl,HT.zlm] at z;exact absurd z (by show ¬ min 2 9=9;decide)
 rw[show (2:Int)=((2:Nat):Int) from rfl,zyl];refine laid hs2 λHe Se es2=>?_;have S0e:=S0d.trans Se;refine⟨_,rfl,_,rfl,a,_,_,_,rfl,rfl,SqT.of (S0e _ _ ea),zka (j:=3) rfl,_,rfl,a,_,_,_,rfl,rfl,SqT.of (S0e _ _ ea),zka (j:=4) rfl,sz3,λs3 hs3=>?_⟩;refine laid hs3 λHf Sf es3=>?_;refine⟨s2,s3,_,_,rfl,rfl,SqT.of (Sf _ _ es2),SqT.of es3,(by simp),small (by show 2+3≤1000;decide),λz=>absurd z (by simp),λz s5 hs5=>?_⟩;refine laid hs5 λHg Sg es5=>?_;have Sdg:=Se.trans (Sf.trans Sg);have Sxg:=Sxd.trans Sdg;refine⟨_,rfl,_,rfl,_,rfl,_,rfl,mk,_,rfl,.inl ⟨SqL.of (Sxg _ _ em),λt7 ht7=>?_⟩⟩;refine laid ht7 λHh Sh k7=>?_;refine⟨_,rfl,wd,_,rfl,.inl ⟨SqL.of ((Sxg.trans Sh) _ _ ew),λt8 ht8=>?_⟩⟩;refine laid ht8 λHi Si k8=>?_;refine⟨sz4,λs9 hs9=>?_⟩;refine laid hs9 λHj Sj es9=>?_;have Sgj:=Sh.trans (Si.trans Sj);refine⟨s5,s9,_,_,rfl,rfl,SqT.of (Sgj _ _ es5),SqT.of es9,(by simp),small (by show 5+4≤1000;decide),λz=>absurd z (by simp),λz tv htv=>?_⟩;refine laid htv λHk Sk ek=>?_;have Shk:=Si.trans (Sj.trans Sk);have Sdk:=Sdg.trans (Sh.trans Shk);have Sxk:=Sxd.trans Sdk;have S0k:=S.trans Sxk;have TP9:=TP.kp (Kp.same S0k);have k8k:Kp H8 Hk:=kp.trans (Kp.same Sxk);have LV:Lv cs t ⟨t.pts,t.scs,t.gone,t.decks,t.hands,t.lying.filter λn=>!decide (n∈outs os t),hs,setM cs t.marks (outs os t),setW t.wnds (outs os t)⟩ (outs os t):=⟨rfl,rfl,rfl,rfl,rfl,rfl,ph,rfl,rfl⟩;have n1:=(yte.mp TI0.nd).1;refine q (.ref tv) _ Hk S0k ⟨tv,_,_,_,_,_,_,_,_,_,rfl,ek,?_⟩ LV (LV.ti TI0 hc GG.k (n1.sublist ybg) (λn hn=>(yhc.mp hn).1) sh);exact⟨TP9.p0,TP9.p1,⟨g5,rfl,k8k.t ((S46.trans S68) _ _ eg5)⟩,TP9.p3,TP9.p4,⟨t5,rfl,k8k.t (S68 _ _ et5)⟩,⟨h4,rfl,Sdk _ _ eh4⟩,⟨t7,us,rfl,Shk _ _ k7,T1s.kp (Kp.same Sxk) alm⟩,⟨t8,rfl,(Sj.trans Sk) _ _ k8⟩⟩
def DgT (H:Hp)(u:V)(n:Int):Prop:=Ex4 λa h tr h'=>u = .ref a∧H a=some (.tup [.ref h,.ref tr,.ref h'])∧H h=some (.tup [.str "leave",.int n,.int 0])∧H tr=some (.lst [])∧H h'=some (.tup [.str "leave",.int n,.int 0])
theorem DgT.same {H H':Hp}(s:Same H H'){u:V}{n:Int}(h:DgT H u n):DgT H' u n:=by
 obtain⟨a,h,tr,h',e,h1,h2,h3,h4⟩:=h;exact⟨a,h,tr,h',e,s _ _ h1,s _ _ h2,s _ _ h3,s _ _ h4⟩
def zfob (B:Addr):Sp:=λvs H Q _=>Ex8 λca oa tv (t:Tab) (np nc:Nat) (cs:List Pc) (os:List Nat)=>vs=[.ref ca,.ref oa,tv]∧GC B H ca oa cs os∧TabT H tv t∧TI np nc t∧cs.length=nc∧(∀o∈os,o<np)∧∀r lg v' us (t':Tab) (ns:List Int) H',Same H H'->H' r=some (.tup [v',.ref lg])->TabT H' v' t'->Lk cs os t t' ns->TI np nc t'->H' lg=some (.lst us)->All2 (DgT H') us ns->Q (.ref r) H'
theorem zbz (T:Tx K mg):FnOk P w K mg base CX0 3 T.zdf.f T.zdf.d zzm (zfob T.zub):=by
 refine T.zdf.ok zdd ?_;rintro f c A o s H vs Q E hr ⟨ca,oa,tv,t0,np,nc,cs,os,rfl,GG0,TT0,TI00,hc,hos,q⟩ X;refine⟨_,  (zca (zna (i:=3) zdd.nd rfl (.inr rfl) (zja (zgp T) hr rfl T.zsc.m T.zsc.F.kp (zzq T) .nil zza (zaa (pv 0) (zaa (pv 1) (zaa (pv 2) zba)))))
  (zca (zna (i:=4) zdd.nd rfl (.inr rfl) (zuc (own:=["_law_n"]) (cap:=["_law_now","_law_cards"]) rfl (zsa.chk rfl rfl) (.cons (j:=3) rfl (.inl rfl) (.inl rfl) (.cons (j:=0) rfl (.inl rfl) (.inl rfl) .nil)) (zic (zya zbe rfl T.zae yvh (zaa (zra zwa (pv 3) zea (λ_ _=>rfl)) zba))) (λ_ _ _ _=>(zda (i:=0) (show yjb (["_law_n","_law_now","_law_cards"]:List Str) by decide +kernel) rfl (.inl rfl))) (λ_ _ _ _=>zmg (zgb zprb (zra (zwb K) (zra (zwb K) (pv 1) zea (λ_ _=>rfl)) (pv 0) (λ_ _=>rfl)) (zxy K (zra (zyj K) (pv 2) (pv 0) (λ_ _=>rfl)) rfl) (zrb _))) (λ_ _ _ _=>by exact (pv 0))))
  (zca (zna (i:=5) zdd.nd rfl (.inl rfl) (zoa zma rfl T.zkb yvc (zaa (zuc (own:=["_law_n"]) (cap:=["_law_worn"]) rfl (zsa.chk rfl rfl) (.cons (j:=4) rfl (.inl rfl) (.inl rfl) .nil) (zrr (zra zwa (pv 3) zea (λ_ _=>rfl))) (λ_ _ _ _=>(zda (i:=0) (show yjb (["_law_n","_law_worn"]:List Str) by decide +kernel) rfl (.inl rfl))) (λ_ _ _ _=>zmg (zgb (znl K) (pv 0) (pv 1) rfl)) (λ_ _ _ _=>by exact (pv 0))) zba)))
  (zca (zwd (i:=6) zdd.nd rfl (.inl rfl) (own:=["_law_n"]) (cap:=["_law_now"]) rfl (zsa.chk rfl rfl) (.cons (j:=3) rfl (.inl rfl) (.inl rfl) .nil) (zqb rfl T.zgc (zaa (zya zcb rfl T.zvg ylc (zaa (pv 0) zba)) zba)) (λ_ _ _ _=>(zda (i:=0) (show yjb (["_law_n","_law_now"]:List Str) by decide +kernel) rfl (.inl rfl))) (λ_ _ _ _=>zyb) (λ_ _ _ _=>by exact (zra (zwb K) (zra (zwb K) (pv 1) zea (λ_ _=>rfl)) (pv 0) (λ_ _=>rfl))))
  (zca (zwd (i:=7) zdd.nd rfl (.inl rfl) (own:=["_law_n"]) (cap:=["_law_now"]) rfl (zsa.chk rfl rfl) (.cons (j:=3) rfl (.inl rfl) (.inl rfl) .nil) (zqb rfl T.zgc (zaa (zya zcb rfl T.zvg ylc (zaa (pv 0) zba)) zba)) (λ_ _ _ _=>(zda (i:=0) (show yjb (["_law_n","_law_now"]:List Str) by decide +kernel) rfl (.inl rfl))) (λ_ _ _ _=>zyb) (λ_ _ _ _=>by exact (zra (zwb K) (zra (zwb K) (pv 1) zea (λ_ _=>rfl)) (pv 0) (λ_ _=>rfl))))
  (zca (zlf ydc rfl (zic (pv 4)) (zda (i:=8) zdd.nd rfl (.inl rfl))
   (zca (zog (zti (zra zjd (pv 0) (pv 8) (λ_ _=>rfl)) rfl) (zsr (pv 6) (pv 8) set_list))
   (zfa (zog zea (zsr (pv 7) (pv 8) set_list)))))
  (zca (zwd (i:=9) zdd.nd rfl (.inl rfl) (own:=["_law_n"]) (cap:=[]) rfl (zsa.chk rfl rfl) .nil (zic (pv 4)) (λ_ _ _ _=>(zda (i:=0) (show yjb (["_law_n"]:List Str) by decide +kernel) rfl (.inl rfl))) (λ_ _ _ _=>zyb) (λ_ _ _ _=>by exact (znb (zaa (znb (zaa ztb (zaa (pv 0) (zaa zea zba)))) (zaa (zlc zba) (zaa (znb (zaa ztb (zaa (pv 0) (zaa zea zba)))) zba))))))
  (zca (zna (i:=10) zdd.nd rfl (.inl rfl) (zoa zma rfl T.zkb yvc (zaa (zya zbe rfl T.zae yvh (zaa (zfb zbgb (zoa zzc rfl T.zui yfl (zaa (zra zwa (pv 3) zea (λ_ _=>rfl)) zba)) (pv 4)) zba)) zba)))
  (zfa (zbb (znb (zaa (zfb zzi (zdi zzu (pv 3) zkk (zjk zea)) (znb (zaa (pv 5) (zaa (pv 10) (zaa (zoa zma rfl T.zkb yvc (zaa (pv 6) zba)) (zaa (zoa zma rfl T.zkb yvc (zaa (pv 7) zba)) zba)))))) (zaa (pv 9) zba))))))))))))),?_⟩
 refine⟨_,rfl,_,rfl,_,rfl,ca,oa,tv,t0,np,nc,cs,os,rfl,GG0,TT0,TI00,hc,hos,λv' t1 H0 S0 TT LV0 TI1=>?_⟩;have TI0:=TI1.gone (ztl TI00.ok);have GG:=GG0.same S0;obtain⟨t,ht⟩:∃t:Tab,t={ t1 with gone:=zyf t0 }:=⟨_,rfl⟩;rw[← ht] at TT TI0;obtain⟨a,v0,v1,v2,v3,v4,v5,v6,v7,v8,rfl,ea,TP⟩:=TT;obtain⟨b5,rfl,e5⟩:=TP.p5;obtain⟨b6,rfl,e6⟩:=TP.p6;obtain⟨b7,u7,rfl,e7,al7⟩:=id TP.p7;obtain⟨b8,rfl,e8⟩:=TP.p8;have TO:=TI0.ok;have ly:=TO.ly;have hpl:=TO.hp;have nc16:=TO.nc16;have l7:=al7.len;rw[yca,TO.marks] at l7;obtain⟨⟨cvs,ec,alc⟩,eo,_⟩:=id GG;have cvl:=alc.len;refine⟨_,rfl,a,_,_,_,rfl,rfl,SqT.of ea,zka (j:=5) rfl,b5,t.lying,rfl,.inr (SqT.of e5),by omega,λsl ys hsl py sy=>?_⟩;refine laid hsl λH1 S1 esl=>?_;have yl:=py.length_eq;refine⟨sl,rfl,⟨_,SqL.of esl⟩,?_⟩;refine zoc (xs:=ys.map V.int) (λi zs H'=>H1=H'∧zs=iM ((ys.take i).filter (worn cs t.wnds))) (λi zs H' z=>by rw[← z.1];exact SqL.of esl) ⟨rfl,rfl⟩ ?_ ?_ ?_
 ·rintro i zs H' ⟨_,rfl⟩;unfold iM;rw[yca];have h1:=ysb (worn cs t.wnds) (ys.take i);rw[ywa] at h1;exact small (by omega)
 ·rintro i v zs H' hv ⟨rfl,rfl⟩;rw[yla] at hv;obtain⟨x,hx,rfl⟩:=ygb.mp hv;obtain⟨x0,x1⟩:=TI0.rg x (py.mem_iff.mp (yta hx));obtain⟨k,rfl⟩:∃k:Nat,x=(k:Int):=⟨x.toNat,by omega⟩;obtain⟨c,hcc⟩:=getx (xs:=cs) (i:=k) (by omega);obtain⟨_,hcv,pc⟩:=alc.get2 hcc;obtain⟨cd,dx,m,tt,nm,kk,rfl,ecd,emm,_⟩:=pc.kp (Kp.same S1);obtain⟨y,hy⟩:=getx (xs:=t.wnds) (i:=k) (by rw[TO.wnds];omega);have ew:worn cs t.wnds (k:Int)=decide ((c.force:Int)≤y):=by
   unfold worn;rw[ysa,hcc,hy];rfl
  rw[yqa,hx,ywb,yve];refine⟨rfl,_,rfl,a,_,_,_,rfl,rfl,SqT.of (S1 _ _ ea),zka (j:=8) rfl,_,rfl,b8,_,_,_,rfl,rfl,SqT.of (S1 _ _ e8),zze hy,_,rfl,_,rfl,ca,_,_,_,rfl,rfl,SqL.of (S1 _ _ ec),zka hcv,cd,_,dx,_,_,rfl,ecd,T.zye,T.zse,zfx _ _ _ _ _,_,_,rfl,rfl,_,rfl,ite2 (λd=>?_) (λd=>?_)⟩
  ·refine⟨_,rfl,rfl,?_⟩;rw[yhd (by rw[ew];exact d)];unfold iM;rw[yva];rfl
  ·refine⟨rfl,?_⟩;rw[yid (by rw[ew];exact d)];simp
 rintro zs H2 ⟨rfl,rfl⟩ lf hlf;rw[show (ys.take (ys.map V.int).length)=ys by rw[yca,yrb]];obtain⟨ns,hns⟩:∃ns,ns=ys.filter (worn cs t.wnds):=⟨_,rfl⟩;rw[← hns];refine laid hlf λH2 S2 elf=>?_;have S02:=S1.trans S2;have nin:∀n∈ns,n∈t.lying:=λn hn=>by rw[hns] at hn;exact py.mem_iff.mp (yhc.mp hn).1
 have n1:=(yte.mp TI0.nd).1;have ynd:ys.Nodup:=py.nodup_iff.mpr n1;have nnd:ns.Nodup:=by rw[hns];exact ynd.sublist ybg
 have ns16:ns.length≤16:=by
  have:=ysb (worn cs t.wnds) ys;rw[hns];omega
 have e52:=S02 _ _ e5;refine⟨_,rfl,a,_,_,_,rfl,rfl,SqT.of (S02 _ _ ea),zka (j:=5) rfl,b5,rfl,⟨_,SqT.of e52⟩,?_⟩;refine zak (xs:=iM t.lying) (λi ys H'=>H'=H2∧ys=iM ((t.lying.take i).filter λn=>!decide (n∈ns))) (λi ys H' z=>by rw[z.1];exact SqT.of e52) ⟨rfl,rfl⟩ ?_ ?_ ?_
 ·rintro i ys H' ⟨_,rfl⟩;unfold iM;rw[yca];have h1:=ysb (λn=>!decide (n∈ns)) (t.lying.take i);rw[ywa] at h1;exact small (by omega)
 ·rintro i v ys H' hv ⟨rfl,rfl⟩;unfold iM at hv;rw[yla] at hv;obtain⟨x,hx,rfl⟩:=ygb.mp hv;rw[yqa,hx,ywb,yve];refine⟨rfl,_,rfl,_,rfl,lf,_,rfl,.inl (SqL.of elf),rfl,zjj _,_,rfl,ite2 (λc=>?_) (λc=>?_)⟩
  ·rw[inI] at c;refine⟨_,rfl,rfl,?_⟩;rw[yhd (p:=λn=>!decide (n∈ns)) c];unfold iM;rw[yva];rfl
  ·rw[inI] at c;refine⟨rfl,?_⟩;rw[yid (p:=λn=>!decide (n∈ns)) c];simp
 rintro zs H5 ⟨rfl,rfl⟩ l5 hl5;rw[show (t.lying.take (iM t.lying).length)=t.lying by
  unfold iM;rw[yca,yrb]]
 refine laid hl5 λH5 S5 el5=>?_;refine⟨l5,_,rfl,.inl ⟨SqL.of el5,λt5 ht5=>?_⟩⟩;refine laid ht5 λH6 S6 et5=>?_;have S26:=S5.trans S6;have S06:=S02.trans S26;refine⟨_,rfl,ca,_,rfl,.inl (SqL.of (S06 _ _ ec)),(nc:Int),(by rw[cvl,hc]),by omega,by omega,?_⟩;rw[ysa];refine zjc (λj ys Hy=>Hy=H6∧j≤nc∧ys=u7.take j) ⟨rfl,ycb _,rfl⟩ ?_ ?_ ?_
 ·rintro j ys Hy ⟨_,hj,rfl⟩;rw[ywa];exact small (by omega)
 ·rintro j ys Hy hj ⟨rfl,_,rfl⟩;have zj:(0:Int)+(j:Int)=(j:Int):=by omega
  obtain⟨u,hu⟩:=getx (xs:=u7) (i:=j) (by omega);rw[zj,yqa,hu];exact⟨rfl,_,rfl,a,_,_,_,rfl,rfl,SqT.of (S06 _ _ ea),zka (j:=7) rfl,_,rfl,b7,_,_,_,rfl,rfl,SqT.of (S06 _ _ e7),zka hu,rfl,hj,rfl⟩
 rintro zs H7 ⟨rfl,_,rfl⟩ mk hmk;rw[show u7.take nc=u7 by rw[← l7,yrb]];refine laid hmk λH7 S7 emk=>?_;have S07:=S06.trans S7;refine⟨_,rfl,ca,_,rfl,.inl (SqL.of (S07 _ _ ec)),(nc:Int),(by rw[cvl,hc]),by omega,by omega,?_⟩;rw[ysa];refine zjc (λj ys Hy=>Hy=H7∧j≤nc∧ys=iM (t.wnds.take j)) ⟨rfl,ycb _,rfl⟩ ?_ ?_ ?_
 ·rintro j ys Hy ⟨_,hj,rfl⟩;unfold iM;rw[yca,ywa];exact small (by omega)
 ·rintro j ys Hy hj ⟨rfl,_,rfl⟩;have zj:(0:Int)+(j:Int)=(j:Int):=by omega
  obtain⟨u,hu⟩:=getx (xs:=t.wnds) (i:=j) (by rw[TO.wnds];exact hj);rw[zj,yqa,hu];refine⟨rfl,_,rfl,a,_,_,_,rfl,rfl,SqT.of (S07 _ _ ea),zka (j:=8) rfl,_,rfl,b8,_,_,_,rfl,rfl,SqT.of (S07 _ _ e8),zze hu,rfl,hj,?_⟩;unfold iM;rw[yva];rfl
 rintro zs H8 ⟨rfl,_,rfl⟩ wd hwd;rw[show t.wnds.take nc=t.wnds by rw[← TO.wnds,yrb]];refine laid hwd λH8 S8 ewd=>?_;have S08:=S07.trans S8;have emk8:=S8 _ _ emk;have nmw:mk≠wd:=zga emk hwd;have fmk:H0 mk=none:=none_of S06 hmk;have fwd:H0 wd=none:=none_of S07 hwd;have S68:=S7.trans S8;have elf6:=S26 _ _ elf;have nlm:lf≠mk:=zga elf6 hmk;have nlw:lf≠wd:=zga (S7 _ _ elf6) hwd;have elf8:=S68 _ _ elf6;refine⟨_,rfl,lf,rfl,⟨_,SqL.of elf8⟩,?_⟩;refine zdh (xs:=iM ns) (λi σ Hx=>Ex2 λus o9=>σ=[some (.ref ca),some (.ref oa),some tv,some (.ref a),some (.ref lf),some (.ref t5),some (.ref mk),some (.ref wd),o9,none,none]∧Same H0 Hx∧Kp H8 Hx∧Hx lf=some (.lst (iM ns))∧Hx mk=some (.lst us)∧All2 (T1 Hx) us ((setM cs t.marks (ns.take i)).map sM)∧Hx wd=some (.lst (iM (setW t.wnds (ns.take i))))∧(setW t.wnds (ns.take i)).length=nc) ⟨u7,_,rfl,S08,Kp.same (Same.refl _),elf8,emk8,T1s.kp (Kp.same S08) al7,ewd,TO.wnds⟩ (λi σ Hx _ ⟨_,_,_,_,_,e,_⟩=>SqL.of e) ?_ ?_
 ·rintro i v σ Hx hv ⟨us,o9,rfl,S,kp,el,em,alm,ew,wl⟩;unfold iM at hv;rw[yla] at hv;obtain⟨x,hx,rfl⟩:=ygb.mp hv;have hm:=nin x (yta hx);obtain⟨x0,x1⟩:=TI0.rg x hm;obtain⟨k,rfl⟩:∃k:Nat,x=(k:Int):=⟨x.toNat,by omega⟩;obtain⟨c,hcc⟩:=getx (xs:=cs) (i:=k) (by omega);obtain⟨_,hcv,pc⟩:=alc.get2 hcc;obtain⟨cd,dx,m,tt,nm,kk,rfl,ecd,emm,_⟩:=pc.kp (Kp.same S);have ul:=alm.len;rw[yca,zabb,TO.marks] at ul;refine⟨_,rfl,_,rfl,ca,_,_,_,rfl,rfl,SqL.of (S _ _ ec),zka hcv,cd,_,dx,_,_,rfl,ecd,T.zye,T.zyc,zzl _ _ _ _ _,_,rfl,_,rfl,mk,_,_,k,rfl,rfl,em,zrm (by omega),?_⟩;have kpa:Kp Hx (upd Hx mk (.lst (us.set k (.ref m)))):=Kp.put em;have ewa:upd Hx mk (.lst (us.set k (.ref m))) wd=some (.lst (iM (setW t.wnds (ns.take i)))):=by rw[zta (ykd nmw)];exact ew
  refine⟨_,rfl,_,rfl,wd,_,_,k,rfl,rfl,ewa,zrm (by unfold iM;rw[yca];omega),?_⟩;have kpb:=kpa.trans (Kp.put (vs:=(iM (setW t.wnds (ns.take i))).set k (.int 0)) ewa);have emk2:(cs.map (·.marks))[k]?=some c.marks:=by rw[yla,hcc];rfl
  refine⟨us.set k (.ref m),_,rfl,zed (zed S fmk _) fwd _,kp.trans kpb,by rw[zta nlw,zta nlm];exact el,by rw[zta nmw,zua],?_,?_,?_⟩
  ·rw[yqa,hx];show All2 _ _ ((setM cs t.marks (ns.take i++[(k:Int)])).map sM)
   unfold setM at alm ⊢;rw[yge];show All2 _ _ ((yjn _ (k:Int).toNat _).map sM)
   rw[ysa,emk2,ybe];exact T1s.kp kpb (alm.set ⟨m,rfl,emm⟩ k)
  ·rw[zua,yqa,hx];show some (HO.lst _)=some (HO.lst (iM (setW t.wnds (ns.take i++[(k:Int)]))))
   unfold setW iM;rw[yge];show _=some (HO.lst ((yjn _ (k:Int).toNat 0).map V.int))
   rw[ysa,ybe]
  ·rw[yqa,hx];show (setW t.wnds (ns.take i++[(k:Int)])).length=nc
   unfold setW at wl ⊢;rw[yge];show (yjn _ (k:Int).toNat 0).length=nc
   rw[yle];exact wl
 rintro σ Hx ⟨us,o9,rfl,S,kp,el,em,alm,ew,wl⟩;rw[show ns.take (iM ns).length=ns by
  unfold iM;rw[yca,yrb]] at alm ew
 refine⟨_,rfl,lf,rfl,⟨_,SqL.of el⟩,?_⟩;refine zoc (xs:=iM ns) (λi zs H'=>Same Hx H'∧i≤ns.length∧All2 (DgT H') zs (ns.take i)) (λi zs H' z=>SqL.of (z.1 _ _ el)) ⟨Same.refl _,ycb _,.nil⟩ ?_ ?_ ?_
 ·rintro i zs H' ⟨_,hi,al⟩;have:=al.len;rw[ywa] at this;exact small (by omega)
 ·rintro i v zs H' hv ⟨S',_,al⟩;unfold iM at hv;rw[yla] at hv;obtain⟨x,hx,rfl⟩:=ygb.mp hv;refine⟨rfl,_,rfl,sz3,λd1 hd1=>?_⟩;refine laid hd1 λD1 R1 f1=>?_;refine⟨sz0,λd2 hd2=>?_⟩;refine laid hd2 λD2 R2 f2=>?_;refine⟨_,rfl,sz3,λd3 hd3=>?_⟩;refine laid hd3 λD3 R3 f3=>?_;refine⟨sz3,λd4 hd4=>?_⟩;refine laid hd4 λD4 R4 f4=>?_;have R34:=R3.trans R4;have R24:=R2.trans R34;refine⟨S'.trans (R1.trans R24),(yga.mp hx).1,?_⟩;rw[yqa,hx];exact All2.snoc ⟨d4,d1,d2,d3,rfl,f4,R24 _ _ f1,R34 _ _ f2,R4 _ _ f3⟩ (al.imp λz=>z.same (R1.trans R24))
 rintro zs Hy ⟨Sy,_,alg⟩ lg hlg;rw[show ns.take (iM ns).length=ns by
  unfold iM;rw[yca,yrb]] at alg
 refine laid hlg λHz Sz elg=>?_;have Syz:=Sy.trans Sz;have Sq:=S.trans Syz;have alg':All2 (DgT Hz) zs ns:=alg.imp λz=>z.same Sz;refine⟨_,rfl,a,_,_,_,rfl,rfl,SqT.of (Sq _ _ ea),zka (j:=6) rfl,b6,_,rfl,.inr (SqT.of (Sq _ _ e6)),λh1 hh1=>?_⟩;refine laid hh1 λHa Sa eh1=>?_;have il:(iM t.heap).length=t.heap.length:=yca _;have il2:(iM ns).length=ns.length:=yca _;refine⟨_,rfl,h1,lf,_,_,rfl,rfl,eh1,(Syz.trans Sa) _ _ el,(by rw[il,il2];exact small (by omega)),λh2 hh2=>?_⟩;refine laid hh2 λHb Sb eh2=>?_;have eh2':Hb h2=some (.lst ((t.heap++ns).map V.int)):=by rw[eh2,yva];rfl
 refine⟨h2,t.heap++ns,rfl,.inl (SqL.of eh2'),(by rw[yja];omega),λh3 hs hh3 ph sh=>?_⟩;refine laid hh3 λHc Sc eh3=>?_;refine⟨h3,_,rfl,.inl ⟨SqL.of eh3,λh4 hh4=>?_⟩⟩;refine laid hh4 λHd Sd eh4=>?_;have Szd:=Sa.trans (Sb.trans (Sc.trans Sd));have Sxd:=Syz.trans Szd;have S0d:=S.trans Sxd;refine⟨_,rfl,_,rfl,a,_,rfl,SqT.of (S0d _ _ ea),?_,λs5 hs5=>?_⟩
 ·rintro⟨_,z⟩;rw[show (some (5:Int))=some ((5:Nat):Int) from rfl,HT.zlm] at z;exact absurd z (by show ¬ min 5 9=9;decide)
 rw[show (5:Int)=((5:Nat):Int) from rfl,zyl];refine laid hs5 λHg Sg es5=>?_;have Sxg:=Sxd.trans Sg;refine⟨_,rfl,_,rfl,_,rfl,mk,_,rfl,.inl ⟨SqL.of (Sxg _ _ em),λt7 ht7=>?_⟩⟩;refine laid ht7 λHh Sh k7=>?_;refine⟨_,rfl,wd,_,rfl,.inl ⟨SqL.of ((Sxg.trans Sh) _ _ ew),λt8 ht8=>?_⟩⟩;refine laid ht8 λHi Si k8=>?_;refine⟨sz4,λs9 hs9=>?_⟩;refine laid hs9 λHj Sj es9=>?_;have Sgj:=Sh.trans (Si.trans Sj);refine⟨s5,s9,_,_,rfl,rfl,SqT.of (Sgj _ _ es5),SqT.of es9,(by simp),small (by show 5+4≤1000;decide),λz=>absurd z (by simp),λz tw htw=>?_⟩;refine laid htw λHk Sk ek=>?_;refine⟨_,rfl,sz2,λrr hrr=>?_⟩;refine laid hrr λHm Sm em'=>?_;have Skm:=Sk.trans Sm;have Shm:=Si.trans (Sj.trans Skm);have Sdm:=Sg.trans (Sh.trans Shm);have Szm:=Szd.trans Sdm;have Sxm:=Syz.trans Szm;have S0m:=S.trans Sxm;have TP9:=TP.kp (Kp.same S0m);have k8m:Kp H8 Hm:=kp.trans (Kp.same Sxm);have LV:Lv cs t ⟨t.pts,t.scs,t.gone,t.decks,t.hands,t.lying.filter λn=>!decide (n∈ns),hs,setM cs t.marks ns,setW t.wnds ns⟩ ns:=⟨rfl,rfl,rfl,rfl,rfl,rfl,ph,rfl,rfl⟩;have TIe:=LV.ti TI0 hc GG.k nnd nin sh;have TTe:TabT Hm (.ref tw) ⟨t.pts,t.scs,t.gone,t.decks,t.hands,t.lying.filter λn=>!decide (n∈ns),hs,setM cs t.marks ns,setW t.wnds ns⟩:=⟨tw,_,_,_,_,_,_,_,_,_,rfl,Sm _ _ ek,⟨TP9.p0,TP9.p1,TP9.p2,TP9.p3,TP9.p4,⟨t5,rfl,k8m.t (S68 _ _ et5)⟩,⟨h4,rfl,Sdm _ _ eh4⟩,⟨t7,us,rfl,Shm _ _ k7,T1s.kp (Kp.same Sxm) alm⟩,⟨t8,rfl,(Sj.trans Skm) _ _ k8⟩⟩⟩;have ylt:ys.Pairwise (· < ·):=by
  refine ych (λ{x y} h=>?_) (yjk.and sy ynd);have h1:=h.1;have h2:x≠y:=h.2;omega
 refine q rr lg (.ref tw) zs _ ns Hm (S0.trans S0m) em' TTe ⟨t1,LV0,TI1.so,?_,sh,?_,?_⟩ TIe (Szm _ _ elg) (alg'.imp λz=>z.same Szm)
 ·rw[← ht];exact LV
 ·rw[hns,ht];rw[ht] at py;exact py.filter _
 ·rw[hns];exact ylt.sublist ybg
def evD (n:Int):PyData:=.tuple [.str "leave",.int n,.int 0]
def lgD (n:Int):PyData:=.tuple [evD n,.list [],evD n]
def resD (t:Tab)(ns ch:List Int):PyData:=.tuple [tabD t,.list (ns.map lgD),.list [],.list (ch.map .int)]
theorem znkb:zqc "leave":=⟨by decide +kernel,by decide +kernel,by decide +kernel⟩
theorem zcsb (n:Int):(evD n).canLay0=true∧(evD n).depth≤1:=by
 have h:=zlt znkb;unfold evD;exact⟨by simp only[ycd,yac] at h ⊢;rw[h];rfl,by simp[yje,ycc]⟩
theorem zjpb (ns:List Int):yac (ns.map lgD)=true∧ycc (ns.map lgD)≤2:=by
 induction ns with
 | nil=>exact⟨rfl,ycb _⟩
 | cons n r ih =>
  obtain⟨h1,h2⟩:=zcsb n;refine⟨?_,?_⟩
  ·rw[ygc,yac,ih.1];unfold lgD;simp only[ycd,yac,h1,ykn]
  ·rw[ygc,ycc];have:=ih.2;unfold lgD;simp only[yje,ycc];unfold lgD at this;omega
theorem zvgb {t:Tab}(h:∀m∈t.marks,∀s∈m,zqc s)(ns ch:List Int):(resD t ns ch).canLay0=true∧(resD t ns ch).depth≤9:=by
 obtain⟨t1,t2⟩:=zqs h;obtain⟨l1,l2⟩:=zjpb ns;obtain⟨i1,i2⟩:=lay_ints ch;unfold resD;refine⟨?_,?_⟩
 ·simp only[ycd,yac,t1,l1,i1,ykn]
 ·simp only[yje,ycc,i2];omega
theorem zzcb {t:Tab}(h:∀m∈t.marks,∀s∈m,zqc s)(ns ch:List Int):ysc (resD t ns ch)=true:=by
 obtain⟨h1,h2⟩:=zvgb h ns ch;unfold ysc;rw[h1,decide_eq_true (by omega)];rfl
theorem zalb {K:yea}{H:Hp}{a:Addr}{n:Int}(h:H a=some (.tup [.str "leave",.int n,.int 0])):DV K H (.ref a) (evD n):=.tup (SqT.of h) (.cons (.str _) (.cons (.int _) (.cons (.int _) .nil)))
theorem zaub {K:yea}{F H:Hp}{us:List V}{ns:List Int}(z:All2 (LgT F H) us ns):DVs K H us (ns.map lgD):=by
 induction z with
 | nil=>exact .nil
 | cons h _ ih =>
  obtain⟨a,h,tr,rfl,h1,h2,h3,_⟩:=h;exact .cons (.tup (SqT.of h1) (.cons (zalb h2) (.cons (.lst (SqL.of h3) .nil) (.cons (zalb h2) .nil)))) ih
theorem zfub {K:yea}{H:Hp}{us:List V}{ns:List Int}(z:All2 (DgT H) us ns):DVs K H us (ns.map lgD):=by
 induction z with
 | nil=>exact .nil
 | cons h _ ih =>
  obtain⟨a,h,tr,h',rfl,h1,h2,h3,h4⟩:=h;exact .cons (.tup (SqT.of h1) (.cons (zalb h2) (.cons (.lst (SqL.of h3) .nil) (.cons (zalb h4) .nil)))) ih
theorem zkmb (os:List Nat):oM os=(os.map λo=>((o:Nat):Int)).map V.int:=by
 unfold oM;rw[ysh];rfl
theorem zxw (c:List Int):ysc (.list (c.map .int))=true∧yje (.list (c.map .int))≤8:=by
 obtain⟨h1,h2⟩:=lay_ints c;refine⟨?_,?_⟩
 ·unfold ysc;rw[ycd,h1,yje,h2];rfl
 ·rw[yje,h2];decide
theorem ilE {K:yea}{H:Hp}{a b:Addr}{c:List Int}(h1:H a=some (.lst (c.map V.int)))(h2:H b=some (.lst (c.map V.int))):EqL K H a b:=.inr ⟨.list (c.map .int),.lst (SqL.of h1) (ztp _),.lst (SqL.of h2) (ztp _),(zxw c).1,(zxw c).2⟩
theorem PcTs.ref {B:Addr}{H:Hp}{vs:List V}{cs:List Pc}(h:All2 (PcT B H) vs cs):∀u∈vs,∃l,u=V.ref l:=λu hu=>by
 obtain⟨c,_,a,_,_,_,_,_,e,_⟩:=h.mem hu;exact⟨a,e⟩
theorem zbqb (n:Nat):(ypb n true).all id=true:=by
 rw[ykf];intro x hx;rw[(yiq.mp hx).2];rfl
theorem zsrb (T:Tx K mg)(kb:K.In base):FnOk P w K mg base CX0 12 T.zneb.f T.zneb.d zctb (zmjb K):=by
 refine T.zneb.ok zri ?_;rintro f c A o s H vs Q E hr ⟨a,ns,rfl,SF,n63,q⟩ X;refine⟨_,  (zca (zna (i:=1) zri.nd rfl (.inl rfl) (zja (zgt T).up hr rfl T.zod.m T.zod.F.kp (zwx T) .nil zza (zaa (pv 0) (zaa (zlc zba) zba))))
  (zca (zna (i:=2) zri.nd rfl (.inl rfl) (zlc zba))
  (zca (zna (i:=3) zri.nd rfl (.inl rfl) (zlc zba))
  (zca (zlf ydc rfl (zqb rfl T.zgc (zaa (zya zcb rfl T.zvg ylc (zaa (pv 1) zba)) zba)) (zda (i:=4) zri.nd rfl (.inl rfl))
   (zfa (zlf ydc rfl (zic (zra zjd (pv 1) (pv 4) (λ_ _=>rfl))) (zda (i:=5) zri.nd rfl (.inl rfl))
    (zca (zfc (zff yya ymb ynb zbc (pv 2) (zaa (zja (zbw T).up hr rfl T.zfe.m T.zfe.F.kp (zwz T) .nil zza (zaa (pv 5) zba)) zba)))
    (zfa (zfc (zff yya ymb ynb zbc (pv 3) (zaa (pv 4) zba))))))))
  (zca (zna (i:=6) zri.nd rfl (.inl rfl) (zja (zet T).up hr rfl T.zmd.m T.zmd.F.kp (zux T) .nil zza (zaa (pv 0) (zaa (pv 2) (zaa (pv 3) (zaa (zya zcb rfl T.zvg ylc (zaa (pv 1) zba)) zba))))))
  (zca (zwd (i:=7) zri.nd rfl (.inl rfl) (own:=["_law_k"]) (cap:=["_law_script"]) rfl (zsa.chk rfl rfl) (.cons (j:=0) rfl (.inl rfl) (.inl rfl) .nil) (zqb rfl T.zgc (zaa (zfb zbf (zja (zxb T).up hr rfl T.zqa.m T.zqa.F.kp (zdc T) .nil zza (zaa (pv 0) (zaa zea zba))) zea) zba)) (λ_ _ _ _=>(zda (i:=0) (show yjb (["_law_k","_law_script"]:List Str) by decide +kernel) rfl (.inl rfl))) (λ_ _ _ _=>zyb) (λ_ _ _ _=>by exact (zfb zur (zja (zxb T).up hr rfl T.zqa.m T.zqa.F.kp (zdc T) .nil zza (zaa (pv 1) (zaa (zfb zxe zea (pv 0)) zba))) (zfb zlrb zea zea))))
  (zca (zna (i:=8) zri.nd rfl (.inl rfl) (zja (zbz T).up hr rfl T.zdf.m T.zdf.F.kp (zbeb T) .nil zza (zaa (pv 2) (zaa (pv 3) (zaa (pv 6) zba)))))
  (zca (zlf ydc rfl (zqb rfl T.zgc (zaa zea zba)) (zda (i:=9) zri.nd rfl (.inl rfl))
   (zca (zna (i:=10) zri.nd rfl (.inl rfl) (znb (zaa (zoa zzc rfl T.zui yfl (zaa (pv 2) zba)) (zaa (zoa zzc rfl T.zui yfl (zaa (pv 3) zba)) (zaa (zoa zzc rfl T.zui yfl (zaa (pv 7) zba)) zba)))))
   (zca (zna (i:=11) zri.nd rfl (.inl rfl) (zja (zdgb T kb) hr rfl T.zzh.m T.zzh.F.kp (zilb T) .nil zza (zaa (zra zwa (pv 10) zea (λ_ _=>rfl)) (zaa (zra zwa (pv 10) zea (λ_ _=>rfl)) (zaa (pv 6) (zaa (zra zwa (pv 10) zea (λ_ _=>rfl)) zba))))))
   (zca (zyd (PW.pt (zirb (zsh (zng (zya ztk rfl T.zoe yzo (zaa (pv 11) (zaa (zyy (v:=.ty "tuple") rfl T.zkb yvc rfl) zba))))) (zfmb (zgb (zpbb hr.units) (pv 11) (znb (zaa (zra zwa (pv 8) zea (λ_ _=>rfl)) (zaa (zra zwa (pv 8) zea (λ_ _=>rfl)) (zaa (zlc zba) (zaa (pv 7) zba))))) (zrb _)))))
    (zfa (zbb zzy))
    zsb)
   (zca (zyd (zsh (zng (zya (zfo rfl) rfl T.zdy boot_all (zaa (zuc (own:=["_law_truth"]) (cap:=[]) rfl (zsa.chk rfl rfl) .nil (zrr (zra zwa (zra zwa (pv 11) zea (λ_ _=>rfl)) zea (λ_ _=>rfl))) (λ_ _ _ _=>(zda (i:=0) (show yjb (["_law_truth"]:List Str) by decide +kernel) rfl (.inl rfl))) (λ_ _ _ _=>zyb) (λ_ _ _ _=>by exact (zya (zjx K) rfl T.zoe yzo (zaa (pv 0) (zaa (zyy (v:=.ty "bool") rfl T.ztab boot_bool rfl) zba))))) zba))))
    (zfa (zbb zzy))
    zsb)
   (zca (zyd (zgb (zcpb hr.units) (pv 10) (znb (zaa (pv 2) (zaa (pv 3) (zaa (pv 7) zba)))) (zrb _))
    (zfa (zbb zzy))
    zsb)
   (zca (zfc (zff yya ymb ynb zbc (zra zwa (pv 11) zea (λ_ _=>rfl)) (zaa zea zba)))
   (zca (zfc (zff yya ymb ynb zbc (zra zwa (pv 11) zea (λ_ _=>rfl)) (zaa zea zba)))
   (zfa (zfc (zff yya ymb ynb zbc (zra zwa (pv 11) zea (λ_ _=>rfl)) (zaa zea zba))))))))))))
  (zfa (zbb zzy)))))))))),?_⟩
 refine⟨_,rfl,sz0,λem hem=>?_⟩;refine laid hem λH1 S1 e1=>?_;refine⟨a,em,ns,rfl,SF.same S1,n63,e1,λdl ds dss H2 S2 ndl edl alk d2 d4=>?_⟩;have S02:=S1.trans S2;refine⟨sz0,λcl hcl=>?_⟩;refine laid hcl λH3 S3 ecl=>?_;refine⟨sz0,λow how=>?_⟩;refine laid how λH4 S4 eow=>?_;have S24:=S3.trans S4;have dsl:=alk.len;have nco:cl≠ow:=zga ecl how;have fow:H2 ow=none:=none_of S3 how;obtain⟨m,hm⟩:∃m,m=dss.length:=⟨_,rfl⟩;refine⟨_,rfl,dl,_,rfl,.inl (SqL.of (S24 _ _ edl)),(m:Int),(by rw[dsl,← hm]),by omega,by omega,?_⟩;rw[ysa];refine zrg (lo:=0) (n:=m) (λi σ Hx=>Ex5 λcvs (cs:List Pc) (os:List Nat) o4 o5=>σ=[some (.ref a),some (.ref dl),some (.ref cl),some (.ref ow),o4,o5,none,none,none,none,none,none]∧Same H2 Hx∧Hx cl=some (.lst cvs)∧All2 (PcT T.zub Hx) cvs cs∧Hx ow=some (.lst (oM os))∧os.length=cs.length∧cs.length≤4*i∧(∀o∈os,o<m)∧∀c∈cs,c.marks∈ms4) ⟨[],[],[],_,_,rfl,S24,S4 _ _ ecl,.nil,eow,rfl,ycb _,(λ_ h=>nomatch h),λ_ h=>nomatch h⟩ ?_ ?_
 ·rintro i σ Hx hi ⟨cvs,cs,os,o4,o5,rfl,S,ec,alc,eo,ol,cn,om,cm⟩;have zi:(0:Int)+(i:Int)=(i:Int):=by omega
  obtain⟨crs,hcr⟩:=getx (xs:=dss) (i:=i) (by omega);obtain⟨_,hdv,d,rfl,ed,_,c4,ck⟩:=alk.get2 hcr;refine⟨_,rfl,_,rfl,dl,_,_,_,rfl,rfl,SqL.of (S _ _ edl),(by rw[zi];exact zka hdv),d,rfl,⟨_,SqL.of (S _ _ ed)⟩,?_⟩;refine zdh (xs:=crs.map λc=>V.str c.text) (λj σ Hy=>Ex4 λcvs (cs:List Pc) (os:List Nat) o5=>σ=[some (.ref a),some (.ref dl),some (.ref cl),some (.ref ow),some (.int (0+(i:Int))),o5,none,none,none,none,none,none]∧Same H2 Hy∧Hy cl=some (.lst cvs)∧All2 (PcT T.zub Hy) cvs cs∧Hy ow=some (.lst (oM os))∧os.length=cs.length∧cs.length≤4*i+j∧(∀o∈os,o<m)∧∀c∈cs,c.marks∈ms4) ⟨cvs,cs,os,_,rfl,S,ec,alc,eo,ol,cn,om,cm⟩ (λj σ Hy _ ⟨_,_,_,_,_,S',_⟩=>SqL.of (S' _ _ ed)) ?_ ?_
  ·rintro j v σ Hy hv ⟨cvs,cs,os,o5,rfl,S',ec,alc,eo,ol,cn,om,cm⟩;rw[yla] at hv;obtain⟨c,hcc,rfl⟩:=ygb.mp hv;have hj:=(yga.mp hcc).1;have k33:=ck c (yta hcc);have cvl:=alc.len;refine⟨_,rfl,.inl ⟨rfl,_,SqL.of ec⟩,_,rfl,c,rfl,k33.ok,k33.no,λv H5 S5 pc=>?_⟩;have ec5:=S5 _ _ ec;refine⟨cl,_,_,rfl,rfl,ec5,zpd (by omega),?_⟩;have kp6:Kp H5 (upd H5 cl (.lst (cvs++[v]))):=Kp.put ec5;have eo6:upd H5 cl (.lst (cvs++[v])) ow=some (.lst (oM os)):=(by rw[zta (ykd nco)];exact S5 _ _ eo);refine⟨_,rfl,.inl ⟨rfl,_,SqL.of eo6⟩,_,rfl,ow,_,_,rfl,rfl,eo6,zpd (by unfold oM;rw[yca];omega),?_⟩;have kp7:=kp6.trans (Kp.put (vs:=oM os++[.int (0+(i:Int))]) eo6);refine⟨cvs++[v],cs++[⟨c.force,c.marks⟩],os++[i],_,rfl,zed (zed (S'.trans S5) hcl _) fow _,by rw[zta nco,zua],All2.snoc (pc.kp kp7) ((alc.imp λz=>z.kp (Kp.same S5)).imp λz=>z.kp kp7),?_,by rw[yja,yja,ol];rfl,by rw[yja,ytd];omega,λo ho=>?_,λx hx=>?_⟩
   ·rw[zua,zi];unfold oM;rw[yva];rfl
   ·rcases ywc.mp ho with z|z
    ·exact om o z
    ·rw[yia.mp z];exact hi
   ·rcases ywc.mp hx with z|z
    ·exact cm x z
    ·rw[yia.mp z];exact k33.mks
  ·rintro σ Hy ⟨cvs,cs,os,o5,rfl,S',ec,alc,eo,ol,cn,om,cm⟩;rw[yca] at cn;exact⟨cvs,cs,os,_,_,rfl,S',ec,alc,eo,ol,by omega,om,cm⟩
 rintro σ Hx ⟨cvs,cs,os,o4,o5,rfl,S,ec,alc,eo,ol,cn,om,cm⟩;have S0x:=S02.trans S;have GG:GC T.zub Hx cl ow cs os:=⟨⟨cvs,ec,alc⟩,eo,ol,by omega,λmm hmm=>by
  obtain⟨c,hcc,rfl⟩:=ymc.mp hmm;exact⟨yqb (zez _ (cm c hcc)) (by decide),zogb _ (cm c hcc)⟩⟩
 refine⟨_,rfl,_,rfl,_,rfl,_,rfl,dl,_,rfl,.inl (SqL.of (S _ _ edl)),a,cl,ow,ns,m,cs.length,cs,os,(by rw[dsl,← hm];rfl),SF.same S0x,n63,GG,rfl,om,by omega,cm,λtv t H5 S5 TT TI0=>?_⟩;have S05:=S0x.trans S5;refine⟨_,rfl,a,ns,69,rfl,SF.same S05,n63,by decide,by decide,λr r0 r1=>?_⟩;have m4:=zvf r (m:=4) (by decide);obtain⟨kn,hkn⟩:∃k:Nat,r % 4=(k:Int):=⟨(r % 4).toNat,by omega⟩;refine⟨_,_,rfl,rfl,(by show (0:Int)<_;decide),(kn:Int),(by show [V.int (r % 4)]=_;rw[hkn]),by omega,by omega,?_⟩;rw[ysa];refine zjc (λj ys Hy=>∃ch:List Int,ys=iM ch∧ch.length=j∧j≤kn∧H5=Hy) ⟨[],rfl,rfl,ycb _,rfl⟩ ?_ ?_ ?_
 ·rintro j ys Hy ⟨ch,rfl,al,hj,_⟩;unfold iM;rw[yca,al];exact small (by omega)
 ·rintro j ys Hy hj ⟨ch,rfl,al,_,rfl⟩;refine⟨rfl,_,rfl,_,rfl,_,_,rfl,rfl,a,ns,_,rfl,SF.same S05,n63,(by show 0≤70+(0+(j:Int));omega),(by show 70+(0+(j:Int))<1000;omega),λr' r0' r1'=>?_⟩;refine⟨_,_,rfl,rfl,⟨by decide,by decide,by decide⟩,_,_,rfl,rfl,?_⟩;exact⟨ch++[_],by unfold iM;rw[yva];rfl,by rw[yja,al];rfl,hj,rfl⟩
 rintro ys Hy ⟨ch,rfl,chl,_,rfl⟩ cc hcc;refine laid hcc λH6 S6 ecc=>?_;have S56:=S5.trans S6;refine⟨_,rfl,_,rfl,_,rfl,cl,ow,tv,t,m,cs.length,cs,os,rfl,GG.same S56,TT.kp (Kp.same S6),TI0,rfl,om,λdr lg v' us t' ns' H7 S7 edr TT7 LK7 TI7 elg alg=>?_⟩;have S57:=S56.trans S7;have GG7:=GG.same S57;have TT7t:=TT.kp (Kp.same (S6.trans S7));have ecc7:=S7 _ _ ecc;obtain⟨⟨cvs7,ec7,alc7⟩,eo7,_⟩:=id GG7;refine⟨2,rfl,by decide,by decide,?_⟩;refine zrg (lo:=0) (n:=2) (λi σ Hz=>Ex3 λ(o9 o10 o11:Option V)=>σ=[some (.ref a),some (.ref dl),some (.ref cl),some (.ref ow),o4,o5,some tv,some (.ref cc),some (.ref dr),o9,o10,o11]∧Same H7 Hz) ⟨_,_,_,rfl,Same.refl _⟩ ?_ ?_
 ·rintro i σ Hz hi ⟨o9,o10,o11,rfl,SZ⟩;refine⟨_,rfl,cl,_,rfl,.inl (SqL.of (SZ _ _ ec7)),λc1 hc1=>?_⟩;refine laid hc1 λA1 P1 f1=>?_;refine⟨_,rfl,ow,_,rfl,.inl (SqL.of ((SZ.trans P1) _ _ eo7)),λo1 ho1=>?_⟩;refine laid ho1 λA2 P2 f2=>?_;have P12:=P1.trans P2;refine⟨_,rfl,cc,_,rfl,.inl (SqL.of ((SZ.trans P12) _ _ ecc7)),λl1 hl1=>?_⟩;refine laid hl1 λA3 P3 f3=>?_;refine⟨sz3,λhd hhd=>?_⟩;refine laid hhd λA4 P4 f4=>?_;have P34:=P3.trans P4;have P24:=P2.trans P34;have S74:=SZ.trans (P1.trans P24);have k74:=Kp.same S74;have GG4:GC T.zub A4 c1 o1 cs os:=⟨⟨cvs7,P24 _ _ f1,alc7.imp λz=>z.kp k74⟩,P34 _ _ f2,ol,GG.n,GG.k⟩;refine⟨_,rfl,hd,_,_,_,rfl,rfl,SqT.of f4,zka (j:=0) rfl,_,rfl,hd,_,_,_,rfl,rfl,SqT.of f4,zka (j:=1) rfl,_,rfl,_,rfl,hd,_,_,_,rfl,rfl,SqT.of f4,zka (j:=2) rfl,c1,o1,l1,tv,t,m,cs.length,cs,os,ch,rfl,GG4,TT7t.kp k74,TI0,rfl,om,P4 _ _ f3,λrr t2 ns2 A5 P5 LK TI5 RS=>?_⟩;obtain⟨et,en⟩:=LK.det LK7;subst et en;obtain⟨v5,lg5,c5,lf5,us5,r1',r2',r3',r4',r5',r6',r7',r8',r9',q1,q2,q3⟩:=RS;have S75:=S74.trans P5;have alg5:All2 (DgT A5) us ns2:=alg.imp λz=>z.same S75;refine⟨_,rfl,_,_,_,true,rfl,TyOf.tup r1',.inl ⟨"tuple",rfl,rfl⟩,_,rfl,iteF ?_⟩;refine⟨_,rfl,_,rfl,dr,_,_,_,rfl,rfl,SqT.of (S75 _ _ edr),zka (j:=0) rfl,_,rfl,dr,_,_,_,rfl,rfl,SqT.of (S75 _ _ edr),zka (j:=1) rfl,sz0,λe6 he6=>?_⟩;refine laid he6 λA6 P6 f6=>?_;refine⟨_,rfl,sz4,λt6 ht6=>?_⟩;refine laid ht6 λA7 P7 f7=>?_;have P57:=P6.trans P7;have S77:=S75.trans P57;have dv1:DV K A7 (.ref rr) (resD t2 ns2 ch):=.tup (SqT.of (P57 _ _ r1')) (.cons (r2'.kp (Kp.same P57)).dv (.cons (.lst (SqL.of (P57 _ _ r3')) (zaub (r4'.imp λz=>z.same P57))) (.cons (.lst (SqL.of (P57 _ _ r5')) .nil) (.cons (.lst (SqL.of (P57 _ _ r6')) (ztp _)) .nil))));have dv2:DV K A7 (.ref t6) (resD t2 ns2 ch):=.tup (SqT.of f7) (.cons (TT7.kp (Kp.same S77)).dv (.cons (.lst (SqL.of (S77 _ _ elg)) (zfub (alg5.imp λz=>z.same P57))) (.cons (.lst (SqL.of (P7 _ _ f6)) .nil) (.cons (.lst (SqL.of (S77 _ _ ecc7)) (ztp _)) .nil))));have sh:=zzcb TI5.nm ns2 ch;refine⟨resD t2 ns2 ch,resD t2 ns2 ch,dv1,dv2,sh,sh,_,rfl,?_⟩;rw[ylp _ (zvgb TI5.nm ns2 ch).1];refine iteF ?_;obtain⟨ta,w0,w1,w2,w3,w4,w5,w6,w7,w8,rfl,eta,TPa⟩:=r2'.kp (Kp.same P57);obtain⟨b2,rfl,eb2⟩:=TPa.p2;refine⟨_,rfl,rr,_,_,_,rfl,rfl,SqT.of (P57 _ _ r1'),zka (j:=0) rfl,ta,_,_,_,rfl,rfl,SqT.of eta,zka (j:=2) rfl,b2,rfl,⟨_,SqT.of eb2⟩,?_⟩;have gl4:=TI5.ok.gone;have np4:=TI5.ok.np4;refine zak (xs:=t2.gone.map V.bl) (λj ys H'=>A7=H'∧j≤m∧ys=(ypb j true).map V.bl) (λj ys H' z=>by rw[← z.1];exact SqT.of eb2) ⟨rfl,ycb _,rfl⟩ ?_ ?_ ?_
  ·rintro j ys H' ⟨_,hj,rfl⟩;rw[yca,ysd];exact small (by omega)
  ·rintro j v ys H' hv ⟨rfl,_,rfl⟩;rw[yla] at hv;obtain⟨g,hg,rfl⟩:=ygb.mp hv;have hj:j<m:=(by rw[← gl4];exact (yga.mp hg).1);refine⟨rfl,_,rfl,_,_,_,true,rfl,TyOf.bl _,.inl ⟨"bool",rfl,rfl⟩,rfl,hj,?_⟩;rw[yei,yva];rfl
  rintro ys H' ⟨rfl,_,rfl⟩ tl htl;refine laid htl λA8 P8 f8=>?_;refine⟨tl,_,rfl,SqL.of f8,_,rfl,?_⟩;rw[zbqb];refine iteF ?_;have P58:=P57.trans P8;have P48:=P5.trans P58;have S78:=S77.trans P8;refine⟨_,rfl,_,rfl,_,rfl,_,rfl,sz3,λt9 ht9=>?_⟩;refine laid ht9 λA9 P9 f9=>?_;have P49:=P48.trans P9;have S79:=S78.trans P9;have g1:=(P24.trans P49) _ _ f1;have g2:=(P34.trans P49) _ _ f2;have g3:=(P4.trans P49) _ _ f3;rw[zkmb] at g2;have h2':=S79 _ _ eo7;rw[zkmb] at h2';refine⟨hd,t9,[c1,o1,l1],[cl,ow,cc],rfl,rfl,SqT.of (P49 _ _ f4),SqT.of f9,.cons (.inl ⟨cvs7,SqL.of g1,SqL.of (S79 _ _ ec7),PcTs.ref alc7⟩) (.cons (ilE g2 h2') (.cons (ilE g3 (S79 _ _ ecc7)) .nil)),_,rfl,iteF ?_⟩;have P59:=P58.trans P9;have rr9:=P59 _ _ r1';have l9:=P59 _ _ r3';have ul:us5.length≤16:=by
   have h1:=r4'.len;obtain⟨y,y1,_,_,_,y5,_⟩:=LK;have l1:=y5.length_eq;have l2:=ysb (worn cs y.wnds) y.lying;have l3:y.lying.length≤t.lying.length:=(by rw[y1.lying];exact ysb _ _);have l4:=TI0.ok.ly;omega
  refine⟨_,rfl,rr,_,_,_,rfl,rfl,SqT.of rr9,zka (j:=1) rfl,.inl ⟨rfl,_,SqL.of l9⟩,lg5,_,_,rfl,rfl,l9,zpd (by omega),?_⟩;have kpA:Kp A9 (upd A9 lg5 (.lst (us5++[.int 0]))):=Kp.put l9;have c9:upd A9 lg5 (.lst (us5++[.int 0])) c5=some (.lst []):=by rw[zta (ykd q1)];exact P59 _ _ r5'
  refine⟨_,rfl,rr,_,_,_,rfl,rfl,SqT.of (kpA.t rr9),zka (j:=2) rfl,.inl ⟨rfl,_,SqL.of c9⟩,c5,_,_,rfl,rfl,c9,zpd (by decide),?_⟩;have kpB:=kpA.trans (Kp.put (vs:=[]++[.int 0]) c9);have d9:upd (upd A9 lg5 (.lst (us5++[.int 0]))) c5 (.lst ([]++[.int 0])) lf5=some (.lst (iM ch)):=by rw[zta (ykd q3),zta (ykd q2)];exact P59 _ _ r6'
  refine⟨_,rfl,rr,_,_,_,rfl,rfl,SqT.of (kpB.t rr9),zka (j:=3) rfl,.inl ⟨rfl,_,SqL.of d9⟩,lf5,_,_,rfl,rfl,d9,zpd (by unfold iM;rw[yca];omega),?_⟩;exact⟨_,_,_,rfl,zed (zed (zed S79 (none_of S74 r7') _) (none_of S74 r8') _) (none_of S74 r9') _⟩
 ·rintro σ Hz _;exact q _
end
def mkT {K:yea}{h:Heap}{mg:Str->Option Value}(X:K.In h)(G:h.Ns yza mg){C_Words:Addr}{C_Whom:Addr}{C_Card:Addr}{t_LETTERS:Tok}{t_FIGURES:Tok}{t_MOST_WORDS:Tok}{A_PARTS:Addr}{t_MOST_RULES:Tok}{A_SORTS:Addr}{A_CHANGES:Addr}{A_WHEN_KINDS:Addr}{A_DEED_KINDS:Addr}{A_PLAYER_KINDS:Addr}{A_TURNS:Addr}{A_LAYERS:Addr}{t_MANY_LAYERS:Tok}{t_POINTS:Tok}{t_SCORES:Tok}{t_GONE:Tok}{t_DECKS:Tok}{t_HANDS:Tok}{t_LYING:Tok}{t_HEAP:Tok}{t_MARKS:Tok}{t_WOUNDS:Tok}(tf:Tf K mg)
  (znlb:ydb K yza "Words" = some (some (.ref C_Words)))
  (zdkb:yig K C_Words ysr=true)
  (zwkb:ytg K C_Words=true)
  (zakb:yxh K C_Words=true)
  (ztjb:yob K (.ref C_Words) "__setattr__" = some (some (.builtin "object.__setattr__")))
  (y_Words___init__:If K C_Words "__init__" "Words.__init__" znf)
  (y_Words_take:Mf K C_Words "take" "Words.take" zvi)
  (y_Words_take_one_of:Mf K C_Words "take_one_of" "Words.take_one_of" zkg)
  (y_Words_take_name:Mf K C_Words "take_name" "Words.take_name" zef)
  (y_Words_take_number:Mf K C_Words "take_number" "Words.take_number" zme)
  (y_Words_finish:Mf K C_Words "finish" "Words.finish" zgh)
  (zgd:yob K (.ref C_Words) "words" = some none)
  (znc:yob K (.ref C_Words) "place" = some none)
  (zdqb:ydb K yza "Whom" = some (some (.ref C_Whom)))
  (zyob:yig K C_Whom ysr=true)
  (zlpb:ytg K C_Whom=true)
  (zwob:yxh K C_Whom=true)
  (zmob:yob K (.ref C_Whom) "__setattr__" = some (some (.builtin "object.__setattr__")))
  (y_Whom___init__:If K C_Whom "__init__" "Whom.__init__" zxi)
  (y_Whom_fits:Mf K C_Whom "fits" "Whom.fits" zik)
  (y_Whom_fits_row:Mf K C_Whom "fits_row" "Whom.fits_row" zwi)
  (y_Whom_fits_parts:Mf K C_Whom "fits_parts" "Whom.fits_parts" zrh)
  (znk:yob K (.ref C_Whom) "word" = some none)
  (zaj:yob K (.ref C_Whom) "value" = some none)
  (zbj:yob K (.ref C_Whom) "parts" = some none)
  (q1_Whom:yob K (.ref C_Whom) "__class__" = some (some (.builtin "object.__class__")))
  (q2_Whom:ykj K (.builtin "object.__class__") "__get__" = some (some (.builtin "getset_descriptor.__get__")))
  (q3_Whom:yco K (.builtin "object.__class__")=some true)
  (q4_Whom:yxp K C_Whom (.type "object")=some true)
  (q5_Whom:yad K (.ref C_Whom) (.type "str")=some false)
  (q6_Whom:yad K (.ref C_Whom) (.type "int")=some false)
  (q7_Whom:yad K (.ref C_Whom) (.type "tuple")=some false)
  (q8_Whom:yad K (.ref C_Whom) (.type "list")=some false)
  (q9_Whom:yad K (.type "str") (.ref C_Whom)=some false)
  (q10_Whom:yad K (.type "int") (.ref C_Whom)=some false)
  (zeqb:ydb K yza "Card" = some (some (.ref C_Card)))
  (zzob:yig K C_Card ysr=true)
  (zmpb:ytg K C_Card=true)
  (zxob:yxh K C_Card=true)
  (znob:yob K (.ref C_Card) "__setattr__" = some (some (.builtin "object.__setattr__")))
  (y_Card___init__:If K C_Card "__init__" "Card.__init__" zlg)
  (zgi:yob K (.ref C_Card) "name" = some none)
  (zii:yob K (.ref C_Card) "cost" = some none)
  (zse:yob K (.ref C_Card) "force" = some none)
  (zyc:yob K (.ref C_Card) "marks" = some none)
  (zre:yob K (.ref C_Card) "rules" = some none)
  (zdy:ydb K yza "all" = some none)
  (ztab:ydb K yza "bool" = some none)
  (zmeb:ydb K yza "dict" = some none)
  (zce:ydb K yza "enumerate" = some none)
  (zleb:ydb K yza "int" = some none)
  (zoe:ydb K yza "isinstance" = some none)
  (zvg:ydb K yza "len" = some none)
  (zui:ydb K yza "list" = some none)
  (zbnb:ydb K yza "max" = some none)
  (zanb:ydb K yza "min" = some none)
  (zgc:ydb K yza "range" = some none)
  (zem:ydb K yza "reversed" = some none)
  (zkeb:ydb K yza "set" = some none)
  (zae:ydb K yza "sorted" = some none)
  (zgcb:ydb K yza "str" = some none)
  (zkb:ydb K yza "tuple" = some none)
  (zajb:ydb K yza "zip" = some none)
  (zvl:ydb K yza "LETTERS" = some (some (.str zgq t_LETTERS)))
  (zwl:ydb K yza "FIGURES" = some (some (.str ziq t_FIGURES)))
  (zgj:ydb K yza "MOST_WORDS" = some (some (.int 9 t_MOST_WORDS)))
  (zqz:ydb K yza "PARTS" = some (some (.ref A_PARTS)))
  (zmz:ycn (yuj λb=>K.lookup b) (λb=>K.lookup b) A_PARTS zyib=true)
  (zch:ydb K yza "MOST_RULES" = some (some (.int 3 t_MOST_RULES)))
  (zpz:ydb K yza "SORTS" = some (some (.ref A_SORTS)))
  (zlz:TupK K A_SORTS ["hold","when","instead","may"])
  (zyp:ydb K yza "CHANGES" = some (some (.ref A_CHANGES)))
  (zqp:TupK K A_CHANGES ["mute","steal","gain","lack","be","more","less","per"])
  (zfj:ydb K yza "WHEN_KINDS" = some (some (.ref A_WHEN_KINDS)))
  (zdj:TupK K A_WHEN_KINDS ["come","leave","hurt","gain","lack","lose","score","draw"])
  (zij:ydb K yza "DEED_KINDS" = some (some (.ref A_DEED_KINDS)))
  (zej:TupK K A_DEED_KINDS ["leave","hurt","gain","lack","lose","score","draw"])
  (zkh:ydb K yza "PLAYER_KINDS" = some (some (.ref A_PLAYER_KINDS)))
  (zjh:TupK K A_PLAYER_KINDS ["lose","score","draw"])
  (zoz:ydb K yza "TURNS" = some (some (.ref A_TURNS)))
  (zkz:TabK K A_TURNS zxib)
  (zdo:ydb K yza "LAYERS" = some (some (.ref A_LAYERS)))
  (zao:ycn (yuj λb=>K.lookup b) (λb=>K.lookup b) A_LAYERS zou=true)
  (zzf:ydb K yza "MANY_LAYERS" = some (some (.int 5 t_MANY_LAYERS)))
  (zzj:ydb K yza "POINTS" = some (some (.int 0 t_POINTS)))
  (zul:ydb K yza "SCORES" = some (some (.int 1 t_SCORES)))
  (zwp:ydb K yza "GONE" = some (some (.int 2 t_GONE)))
  (zxp:ydb K yza "DECKS" = some (some (.int 3 t_DECKS)))
  (zvp:ydb K yza "HANDS" = some (some (.int 4 t_HANDS)))
  (zof:ydb K yza "LYING" = some (some (.int 5 t_LYING)))
  (zzw:ydb K yza "HEAP" = some (some (.int 6 t_HEAP)))
  (zki:ydb K yza "MARKS" = some (some (.int 7 t_MARKS)))
  (zji:ydb K yza "WOUNDS" = some (some (.int 8 t_WOUNDS))):Tx K mg :=
 { tf with zxd:=C_Words,zqgb:=yvb X G znlb,zpc:=⟨zdkb,zwkb,zakb,ztjb⟩,zac:=y_Words___init__,zkc:=y_Words_take,zek:=y_Words_take_one_of,zvb:=y_Words_take_name,zib:=y_Words_take_number,ztc:=y_Words_finish,zgd:=zgd,znc:=znc,zlj:=C_Whom,zxrb:=yvb X G zdqb,zshb:=⟨zyob,zlpb,zwob,zmob⟩,zjo:=y_Whom___init__,zle:=y_Whom_fits,zio:=y_Whom_fits_row,zfm:=y_Whom_fits_parts,znk:=znk,zaj:=zaj,zbj:=zbj,zpsb:=⟨q1_Whom,q2_Whom,q3_Whom,q4_Whom,q5_Whom,q6_Whom,q7_Whom,q8_Whom,q9_Whom,q10_Whom⟩,zub:=C_Card,zmmb:=yvb X G zeqb,zye:=⟨zzob,zmpb,zxob,znob⟩,zec:=y_Card___init__,zgi:=zgi,zii:=zii,zse:=zse,zyc:=zyc,zre:=zre,zdy:=yyb X G zdy,ztab:=yyb X G ztab,zmeb:=yyb X G zmeb,zce:=yyb X G zce,zleb:=yyb X G zleb,zoe:=yyb X G zoe,zvg:=yyb X G zvg,zui:=yyb X G zui,zbnb:=yyb X G zbnb,zanb:=yyb X G zanb,zgc:=yyb X G zgc,zem:=yyb X G zem,zkeb:=yyb X G zkeb,zae:=yyb X G zae,zgcb:=yyb X G zgcb,zkb:=yyb X G zkb,zajb:=yyb X G zajb,zsw:=t_LETTERS,zvl:=yvb X G zvl,ztw:=t_FIGURES,zwl:=yvb X G zwl,zmn:=t_MOST_WORDS,zgj:=yvb X G zgj,ziab:=A_PARTS,zqz:=yvb X G zqz,zmz:=zmz,znn:=t_MOST_RULES,zch:=yvb X G zch,zgab:=A_SORTS,zpz:=yvb X G zpz,zlz:=zlz,zeq:=A_CHANGES,zyp:=yvb X G zyp,zqp:=zqp,znj:=A_WHEN_KINDS,zfj:=yvb X G zfj,zdj:=zdj,zoj:=A_DEED_KINDS,zij:=yvb X G zij,zej:=zej,zmh:=A_PLAYER_KINDS,zkh:=yvb X G zkh,zjh:=zjh,zfab:=A_TURNS,zoz:=yvb X G zoz,zkz:=zkz,zcm:=A_LAYERS,zdo:=yvb X G zdo,zao:=zao,zsl:=t_MANY_LAYERS,zzf:=yvb X G zzf,zwbb:=t_POINTS,zzj:=yvb X G zzj,zvbb:=t_SCORES,zul:=yvb X G zul,zpmb:=t_GONE,zwp:=yvb X G zwp,zbhb:=t_DECKS,zxp:=yvb X G zxp,zahb:=t_HANDS,zvp:=yvb X G zvp,zzgb:=t_LYING,zof:=yvb X G zof,zomb:=t_HEAP,zzw:=yvb X G zzw,zygb:=t_MARKS,zki:=yvb X G zki,zubb:=t_WOUNDS,zji:=yvb X G zji }
theorem all_mk {l:ygo}{w:World}{K:yea}{mg:Str->Option Value}{fa:Addr}(hfa:mg "law" = some (.ref fa))(T:Tx K mg) :
  ∃fd:ycg,(∀(s:Shared) (v:Value),ylq s fd ⟨[v],[]⟩ [("_law_script",v)])∧∀base:Heap,K.In base->base.Ns yza mg->FnOk l.prog w K mg base CX0 12 fa fd ["_law_script"] (zmjb K):=by
 cases zdsb T.zneb hfa;refine⟨_,(λs v=>?_),λbase kb _=>zsrb T kb⟩;obtain⟨oc,od,kV,doc,pm,an,cdv,ct,osl,e,lk,hcd⟩:=T.zneb.F.ex;rw[e];exact .of_eq rfl
theorem walk {l:ygo}{q:ytb}{loose:List Str}{XP:(Str->Option Value)->Heap->Prop}{YP:World->Heap->Prop}{d:DefRec}{K:Params->yea}(hn:l.most=some 63)(hdf:d.params.defaults=[])
  (hY:∀(w:World) (h:Heap),YP w h->(K w.params).In h)
  (F:∀(w:World) (mg:Str->Option Value) fa (h:Heap),(K w.params).In h->h.Ns yza mg->mg d.name=some (.ref fa) →
   ∃fd:ycg,(∀(s:Shared) (u:Value),ylq s fd ⟨[u],[]⟩ [("_law_script",u)])∧∀base:Heap,(K w.params).In base->base.Ns yza mg->FnOk l.prog w (K w.params) mg base CX0 12 fa fd ["_law_script"] (zmjb (K w.params))) :
  ygs q loose XP YP l.row.toRowW d [] (λf vs=>yfs f vs) :=
 L2.zonb (n:=63) (k:=12) (x:="_law_script") (CX:=λ_=>CX0) (sp:=λw=>zmjb (K w.params)) hn (by decide) hdf ⟨rfl,by decide,by decide⟩ hY F (λ_ _ a ns hl hO hS=>⟨a,ns,rfl,SqF.of hO hS,hl,λ_=>rfl⟩) λ_ _ _ _ _ z=>z
end K33
namespace PySem.W.Fast
def tw9793798588711876085:=()
def tw17091036514640839392:=()
def tw3673226467006930333:=()
def tw14859104920916560651:=()
def tw8832547094349668389:=()
def tw2876168945321578638:=()
def tw3259315093199596551:=()
def tw9904809355562567392:=()
def tw14338647086702214688:=()
def tw9467236455261760123:=()
def tw3007154836861497829:=()
def tw16629559924601754265:=()
def tw2771437420947515979:=()
def tw18208978259203322770:=()
def tw16195058640931608474:=()
def tw13731715330380450627:=()
def tw4856180084164101496:=()
def tw7867645446680024084:=()
def tw4285554323320463778:=()
def tw5270607475073496371:=()
def tw14162727314511039228:=()
def tw5025715494931444775:=()
def tw9465294583566450684:=()
def tw5775031379376575291:=()
def tw2444572043678809957:=()
def tw17451983915419820984:=()
def tw13536849411188744739:=()
def tw15074710111074527922:=()
def tw5336353923215985192:=()
def tw5914395593426543884:=()
def tw3461459081739499426:=()
def tw15188723355317762165:=()
def tw1460605576280388081:=()
def tw6998212219823555510:=()
def tw10313059801059433477:=()
def tw15246235865090836011:=()
def tw67535694932505502:=()
def tw15210949634844256267:=()
def tw16896360759712915230:=()
def tw12684354762993109449:=()
def tw11456283197031329123:=()
def tw10853978844152579050:=()
def tw16506749850347499213:=()
def tw14220471015720727568:=()
def tw13014455311377096029:=()
def tw9402995331916402581:=()
def tw17041248102348691199:=()
def tw17886338030799291830:=()
def tw5598159565535091982:=()
def tw5595675590878776752:=()
def tw14145528805692055426:=()
def tw7765293944242451751:=()
def tw13399604314581692029:=()
def tw3056297270828004854:=()
def tw713990412776606928:=()
def tw178771924312017302:=()
def tw14478522052521529810:=()
def tw13491923640216087578:=()
def tw12854107260157819091:=()
def tw5798489558202537576:=()
def tw16349968966642810938:=()
def tw15976852539943186421:=()
def tw17639115739035760902:=()
def tw1710816531964840135:=()
def tw14295028384700349825:=()
def tw17249119514956373995:=()
def tw10030752684511478156:=()
def tw6148153850025759895:=()
def tw17975734795427800913:=()
def tw2045031997041059477:=()
def tw12615698729510137349:=()
def tw5852942264361112206:=()
def tw16378741132611846067:=()
def tw6408384936710444329:=()
def tw9037654647675973467:=()
def tw7972939390696998647:=()
def tw4775470153367414379:=()
def tw8356316635708326925:=()
def tw9540406278995149146:=()
def tw8793778862844303465:=()
def tw7241171741884895042:=()
def tw14807435246030376619:=()
def tw5001715341232313886:=()
def tw15957778018230722017:=()
def tw5341612014734512228:=()
def tw16463376024559103924:=()
def tw3649104483207656506:=()
def tw7900387809039661274:=()
def tw4548213750302612505:=()
def tw3016485578123300372:=()
def tw9094604912066517572:=()
def tw12835716744549293956:=()
def tw540573974980645540:=()
def tw16578231054293105826:=()
def tw7458090716792171309:=()
def tw1277244158627965382:=()
def tw13858231362276732943:=()
def tw1378351642789303188:=()
def tw8034871313978364128:=()
def tw3162232789348998400:=()
def tw7399081347151827466:=()
def tw9187057109554683689:=()
def tw7066483109886581843:=()
def tw975837166045528061:=()
def tw5983994942437158994:=()
def tw7151686703196706032:=()
def tw4404373769032474357:=()
def tw1172472374770377232:=()
def tw4797925569700269237:=()
def tw12574412514839715424:=()
def tw13481448421799544945:=()
def tw8029838437071235170:=()
def tw12221045385227140633:=()
def tw5595807463366463446:=()
def tw821596775196856545:=()
def tw8586179548347882363:=()
def tw14952180732983819288:=()
def tw13709648418047814417:=()
def tw13872659376959903619:=()
def tw15751518480835334754:=()
def tw14868276518708278516:=()
def tw17447878166524540250:=()
def tw11381058252629303044:=()
def tw8024938865696464065:=()
def tw16630223829646289694:=()
def tw5117444553380446946:=()
def tw2791628104816077967:=()
def tw14198561438418852820:=()
def tw1587233552312388456:=()
def tw4845932092398461545:=()
def tw503058404932767319:=()
def tw4412126388412032107:=()
def tw8787778861112245955:=()
def tw6662861633809614958:=()
def tw8862466068732712963:=()
def tw4618995570037960276:=()
def tw7105659380212515672:=()
def tw6637557431540464525:=()
def tw5652510816774493744:=()
def tw4255437190713384228:=()
def tw13796162957287061557:=()
def tw7967112216257584592:=()
def tw17771910115142518346:=()
def tw6027350915292846550:=()
def tw13671898685214015635:=()
def tw496695336751449318:=()
def tw16033515218951759558:=()
def tw1626714190933151880:=()
def tw4606198212349536087:=()
def tw6168695585777766362:=()
def tw13325844584217847902:=()
def tw13960679965352770791:=()
def tw2809165713335369425:=()
def tw10797631490742126958:=()
def tw7870006534336867016:=()
def tw2988392540842465029:=()
def tw3764990747767454537:=()
def tw1809033498034994699:=()
def tw15046017459380997678:=()
def tw2123803034606891139:=()
def tw17053029575410844416:=()
def tw10229945760967590675:=()
def tw9815336465274121160:=()
def tw10874849737804191722:=()
def tw6381776619606391853:=()
def tw17448710753586184981:=()
def tw45161166016981943:=()
def tw11928812842760545503:=()
def tw12207236213225954514:=()
def tw15375456420464316316:=()
def tw12611179110107993092:=()
def tw3139907475063719991:=()
def tw2978133641162680436:=()
def tw2722512119025178867:=()
def tw6373282582582053001:=()
def tw8132118475464543805:=()
def tw10176233604082831317:=()
def tw9815892588723606365:=()
def tw9612611587086389369:=()
def tw17579717064208647356:=()
def tw14432648118148218702:=()
def tw3015353336826200530:=()
def tw16273810232906605605:=()
def tw5927274144018155916:=()
def tw14934906900973003920:=()
def tw28221055152154904:=()
def tw16256096569022520336:=()
def tw5710929870226742301:=()
def tw18387746533737348407:=()
def tw17146125064651631629:=()
def tw10661667432276498281:=()
def tw15815781543840638266:=()
def tw3464817679987204184:=()
def tw1843099486009551652:=()
def tw12199376351193696380:=()
def tw17892937809027820847:=()
def tw14688472865528526136:=()
def tw11878758016042768868:=()
def tw5355567554555912502:=()
def tw6707719740289756378:=()
def tw1178579041821086702:=()
def tw1837758880486397958:=()
def tw7433639171248778141:=()
def tw15655275229514994389:=()
def tw9270402015654010463:=()
def tw938902254024653422:=()
def tw5307797821263923203:=()
def tw13669334108830584009:=()
def tw16550206163843197434:=()
def tw17892761403854122050:=()
def tw4804247944527264269:=()
def tw15492424924519269211:=()
def tw7105976046809443078:=()
def tw17172624210670785888:=()
def tw1547029236551139347:=()
def tw1108528802087907589:=()
def tw6113274672616551539:=()
def tw16367973290322750049:=()
def tw13257646020512038037:=()
def tw7551055168516907519:=()
def tw13410177718168370274:=()
def tw1170138820153700649:=()
def tw5864576931678137779:=()
def tw9841929291283662657:=()
def tw4186143536244089287:=()
def tw15125955604183543449:=()
def tw6382360270358837577:=()
def tw6759479738252693613:=()
def tw14234964225380242062:=()
def tw15010513253081947916:=()
def tw17162624555240915805:=()
def tw17793838548888676633:=()
def tw3721284728642588246:=()
def tw8322568716841917779:=()
def tw1190398909552190486:=()
def tw11301238403965366083:=()
def tw5093084030572863937:=()
def tw5691868910253190170:=()
def tw14985731214102513844:=()
def tw3469263751224057135:=()
def tw11635242829074800899:=()
def tw5801284562039043525:=()
def tw16631810391033495380:=()
def tw4400343611384695655:=()
def tw16173434947924452063:=()
def tw15879547986084663763:=()
def tw1061393015926702404:=()
def tw8630469674751711426:=()
def tw7908995712982479596:=()
def tw3398019716893387123:=()
def tw11729948277312908190:=()
def tw13745910011260292727:=()
def tw679186501654024886:=()
def tw5614133362854396770:=()
def tw15356546350307710416:=()
def tw6153063029397224061:=()
def tw16434216485490015359:=()
def tw4053841248666618613:=()
def tw17621578291684256629:=()
def tw16162763611218763039:=()
def tw10533365610710523288:=()
def tw455250581254385161:=()
def tw4972165644587192826:=()
def tw14068729999349407703:=()
def tw9142700021372007103:=()
def tw7829391376872364281:=()
def tw16098797721808404937:=()
def tw3370587499597906957:=()
def tw15292252545861740958:=()
def tw2276639603733969522:=()
def tw12501813330301404863:=()
def tw13507537382331322347:=()
def tw586439458872217091:=()
def tw12447486807643282837:=()
def tw534143956548879247:=()
def tw710655459027442856:=()
def tw17140338375372021195:=()
def tw17970448230509887504:=()
def tw14817731087967088055:=()
def tw312620572531402389:=()
def tw12726824063408302732:=()
def tw13132983543157295075:=()
def tw15916329673316369725:=()
def tw195041402823885175:=()
def tw873668179467275883:=()
def tw9487100631364143236:=()
def tw12340131555761613923:=()
def tw17673129802685958979:=()
def tw18054707263614522775:=()
def tw17171089219049137879:=()
def tw14653135058797702406:=()
def tw5490267072063331006:=()
def tw5820865860791660179:=()
def tw13366346650741950061:=()
def tw4230895906674850584:=()
def tw1414722949384508059:=()
def tw9923821074176424424:=()
def tw1834591483716655626:=()
def tw5116051666113490591:=()
def tw15511741378758194796:=()
def tw12791155488413252097:=()
def tw2541410535134324796:=()
def tw15213793334283280834:=()
def tw10535429255810339499:=()
def tw16055502366444228839:=()
def tw990725622751509879:=()
def tw9432550333825481652:=()
def tw9886667909604063829:=()
def tw11572596049322550866:=()
def tw1983305865246988766:=()
def tw7185153690741262132:=()
def tw12504590678895378241:=()
def tw10523887747568788329:=()
def tw11152166191442357008:=()
def tw17715105748016130664:=()
def tw1823760939356877895:=()
def tw13551855975036687152:=()
def tw3427326659046150141:=()
def tw2083040233192243805:=()
def tw619649281674613599:=()
def tw2446967224806584063:=()
def tw12101068349757265374:=()
def tw4390614676219871990:=()
def tw17169417736604007918:=()
def tw7078291988810273278:=()
def tw12510273422142067279:=()
def tw17556799688738699630:=()
def tw304395191467374525:=()
def tw18266120106535892320:=()
def tw16168304102066024688:=()
def tw11843557093611269403:=()
def tw16676919528565504536:=()
def tw14752711933889095817:=()
def tw15132238822759735410:=()
def tw7205835801240545070:=()
def tw5779883917961580010:=()
def tw12679656605803532228:=()
def tw1762451614184991981:=()
def tw13253071725685995701:=()
def tw3460918755201355431:=()
def tw2186906529334485837:=()
def tw10270878601412417625:=()
def tw5461610831304870727:=()
def tw13954940539907760986:=()
def tw14136193848801760226:=()
def tw5665341706423306905:=()
def tw3925944364715334346:=()
def tw45718725240967629:=()
def tw15710783377516205840:=()
def tw11009055009521968976:=()
def tw5778579334434861760:=()
def tw18413542247314296685:=()
def tw8615348050965102194:=()
def tw9013682859567274750:=()
def tw4786752336104328771:=()
def tw8387022314152979645:=()
def tw13362223915410346750:=()
def tw2834735893930435264:=()
def tw3605841397238052169:=()
def tw1360817079683250993:=()
def tw14396210993281319573:=()
def tw3356388924161880613:=()
def tw12673125421312667447:=()
def tw6566608020681524603:=()
def tw3248803765235671141:=()
def tw14930639178100047231:=()
def tw7044867153723797972:=()
def tw13841299617823725244:=()
def tw8530934086853504237:=()
def tw15266999687809020573:=()
def tw17956854304004324638:=()
def tw13797015553536592478:=()
def tw5544084311601498688:=()
def tw14283499515152635649:=()
def tw12807053950747902592:=()
def tw17677810858992226119:=()
def tw9546833504564941504:=()
end PySem.W.Fast
open PySem PySem.W PyProof.Rows
set_option maxRecDepth 100000 in
set_option maxHeartbeats 0 in
theorem PySem.Challenge.cw_turnstack_k33_a_plain_look_holds : PySem.Challenge.rw_turnstack_k33_a_plain_look.Holds := by
  w_on; o_law; k_head; (case hw => w_witness2)
  k_fill
  refine K33.walk (l := PySem.Challenge.rw_turnstack_k33_a_plain_look) rfl rfl (fun w h Y => PySem.W.kIn_of Y) ?F
  case F =>
    intro w mg fa h KX G hmg
    refine' K33.all_mk hmg (K33.mkT KX G ⟨L2.gf_of KX G ?qda ?qea ?qfa ?qga, L2.gf_of KX G ?qha ?qia ?qja ?qka, L2.gf_of KX G ?qla ?qma ?qna ?qoa, L2.gf_of KX G ?qnc ?qoc ?qpc ?qqc, L2.gf_of KX G ?qrc ?qsc ?qtc ?quc, L2.gf_of KX G ?qvc ?qwc ?qxc ?qyc, L2.gf_of KX G ?qzc ?qad ?qbd ?qcd, L2.gf_of KX G ?qid ?qjd ?qkd ?qld, L2.gf_of KX G ?qmd ?qnd ?qod ?qpd, L2.gf_of KX G ?qqd ?qrd ?qsd ?qtd, L2.gf_of KX G ?qud ?qvd ?qwd ?qxd, L2.gf_of KX G ?qyd ?qzd ?qae ?qbe, L2.gf_of KX G ?qce ?qde ?qee ?qfe, L2.gf_of KX G ?qge ?qhe ?qie ?qje, L2.gf_of KX G ?qke ?qle ?qme ?qne, L2.gf_of KX G ?qoe ?qpe ?qqe ?qre, L2.gf_of KX G ?qse ?qte ?que ?qve, L2.gf_of KX G ?qwe ?qxe ?qye ?qze, L2.gf_of KX G ?qaf ?qbf ?qcf ?qdf, L2.gf_of KX G ?qef ?qff ?qgf ?qhf, L2.gf_of KX G ?qif ?qjf ?qkf ?qlf, L2.gf_of KX G ?qmf ?qnf ?qof ?qpf, L2.gf_of KX G ?qqf ?qrf ?qsf ?qtf, L2.gf_of KX G ?quf ?qvf ?qwf ?qxf, L2.gf_of KX G ?qyf ?qzf ?qag ?qbg, L2.gf_of KX G ?qcg ?qdg ?qeg ?qfg, L2.gf_of KX G ?qgg ?qhg ?qig ?qjg, L2.gf_of KX G ?qkg ?qlg ?qmg ?qng, L2.gf_of KX G ?qog ?qpg ?qqg ?qrg, L2.gf_of KX G ?qsg ?qtg ?qug ?qvg, L2.gf_of KX G ?qwg ?qxg ?qyg ?qzg, L2.gf_of KX G ?qah ?qbh ?qch ?qdh, L2.gf_of KX G ?qeh ?qfh ?qgh ?qhh, L2.gf_of KX G ?qih ?qjh ?qkh ?qlh, L2.gf_of KX G ?qmh ?qnh ?qoh ?qph, L2.gf_of KX G ?qqh ?qrh ?qsh ?qth, L2.gf_of KX G ?quh ?qvh ?qwh ?qxh, L2.gf_of KX G ?qyh ?qzh ?qai ?qbi, L2.gf_of KX G ?qci ?qdi ?qei ?qfi, L2.gf_of KX G ?qgi ?qhi ?qii ?qji, L2.gf_of KX G ?qki ?qli ?qmi ?qni, L2.gf_of KX G ?qoi ?qpi ?qqi ?qri, L2.gf_of KX G ?qsi ?qti ?qui ?qvi, L2.gf_of KX G ?qwi ?qxi ?qyi ?qzi, L2.gf_of KX G ?qaj ?qbj ?qcj ?qdj, L2.gf_of KX G ?qej ?qfj ?qgj ?qhj, L2.gf_of KX G ?qij ?qjj ?qkj ?qlj, L2.gf_of KX G ?qmj ?qnj ?qoj ?qpj, L2.gf_of KX G ?qqj ?qrj ?qsj ?qtj, L2.gf_of KX G ?quj ?qvj ?qwj ?qxj, L2.gf_of KX G ?qyj ?qzj ?qak ?qbk, L2.gf_of KX G ?qck ?qdk ?qek ?qfk, L2.gf_of KX G ?qgk ?qhk ?qik ?qjk, L2.gf_of KX G ?qkk ?qlk ?qmk ?qnk, L2.gf_of KX G ?qok ?qpk ?qqk ?qrk, L2.gf_of KX G ?qsk ?qtk ?quk ?qvk, L2.gf_of KX G ?qwk ?qxk ?qyk ?qzk, L2.gf_of KX G ?qal ?qbl ?qcl ?qdl, L2.gf_of KX G ?qel ?qfl ?qgl ?qhl, L2.gf_of KX G ?qil ?qjl ?qkl ?qll, L2.gf_of KX G ?qml ?qnl ?qol ?qpl, L2.gf_of KX G ?qql ?qrl ?qsl ?qtl, L2.gf_of KX G ?qul ?qvl ?qwl ?qxl, L2.gf_of KX G ?qyl ?qzl ?qam ?qbm, L2.gf_of KX G ?qcm ?qdm ?qem ?qfm, L2.gf_of KX G ?qgm ?qhm ?qim ?qjm⟩ ?qaa ?qkm ?qlm ?qmm ?qnm (L2.if_of ?qpa ?qqa ?qra ?qsa ?qta ?qom ?qpm) (L2.mf_of ?qua ?qva ?qwa ?qxa ?qya) (L2.mf_of ?qza ?qab ?qbb ?qcb ?qdb) (L2.mf_of ?qeb ?qfb ?qgb ?qhb ?qib) (L2.mf_of ?qjb ?qkb ?qlb ?qmb ?qnb) (L2.mf_of ?qob ?qpb ?qqb ?qrb ?qsb) ?qqm ?qrm ?qba ?qsm ?qtm ?qum ?qvm (L2.if_of ?qtb ?qub ?qvb ?qwb ?qxb ?qwm ?qxm) (L2.mf_of ?qyb ?qzb ?qac ?qbc ?qcc) (L2.mf_of ?qdc ?qec ?qfc ?qgc ?qhc) (L2.mf_of ?qic ?qjc ?qkc ?qlc ?qmc) ?qym ?qzm ?qan ?qbn ?qcn ?qdn ?qen ?qfn ?qgn ?qhn ?qin ?qjn ?qkn ?qca ?qln ?qmn ?qnn ?qon (L2.if_of ?qdd ?qed ?qfd ?qgd ?qhd ?qpn ?qqn) ?qrn ?qsn ?qtn ?qun ?qvn ?qwn ?qxn ?qyn ?qzn ?qao ?qbo ?qco ?qdo ?qeo ?qfo ?qgo ?qho ?qio ?qjo ?qko ?qlo ?qmo ?qno ?qoo ?qpo ?qqo ?qro ?qso ?qto ?quo ?qvo ?qwo ?qxo ?qyo ?qzo ?qap ?qbp ?qcp ?qdp ?qep ?qfp ?qgp ?qhp ?qip ?qjp ?qkp ?qlp ?qmp ?qnp ?qop ?qpp ?qqp)
    case qaa | qba | qca | qda | qea | qfa | qga | qha | qia | qja | qka | qla | qma | qna | qoa | qpa | qqa | qra | qsa | qta | qua | qva | qwa | qxa | qya | qza | qab | qbb | qcb | qdb | qeb | qfb | qgb | qhb | qib | qjb | qkb | qlb | qmb | qnb | qob | qpb | qqb | qrb | qsb | qtb | qub | qvb | qwb | qxb | qyb | qzb | qac | qbc | qcc | qdc | qec | qfc | qgc | qhc | qic | qjc | qkc | qlc | qmc | qnc | qoc | qpc | qqc | qrc | qsc | qtc | quc | qvc | qwc | qxc | qyc | qzc | qad | qbd | qcd | qdd | qed | qfd | qgd | qhd | qid | qjd | qkd | qld | qmd | qnd | qod | qpd | qqd | qrd | qsd | qtd | qud | qvd | qwd | qxd | qyd | qzd | qae | qbe | qce | qde | qee | qfe | qge | qhe | qie | qje | qke | qle | qme | qne | qoe | qpe | qqe | qre | qse | qte | que | qve | qwe | qxe | qye | qze | qaf | qbf | qcf | qdf | qef | qff | qgf | qhf | qif | qjf | qkf | qlf | qmf | qnf | qof | qpf | qqf | qrf | qsf | qtf | quf | qvf | qwf | qxf | qyf | qzf | qag | qbg | qcg | qdg | qeg | qfg | qgg | qhg | qig | qjg | qkg | qlg | qmg | qng | qog | qpg | qqg | qrg | qsg | qtg | qug | qvg | qwg | qxg | qyg | qzg | qah | qbh | qch | qdh | qeh | qfh | qgh | qhh | qih | qjh | qkh | qlh | qmh | qnh | qoh | qph | qqh | qrh | qsh | qth | quh | qvh | qwh | qxh | qyh | qzh | qai | qbi | qci | qdi | qei | qfi | qgi | qhi | qii | qji | qki | qli | qmi | qni | qoi | qpi | qqi | qri | qsi | qti | qui | qvi | qwi | qxi | qyi | qzi | qaj | qbj | qcj | qdj | qej | qfj | qgj | qhj | qij | qjj | qkj | qlj | qmj | qnj | qoj | qpj | qqj | qrj | qsj | qtj | quj | qvj | qwj | qxj | qyj | qzj | qak | qbk | qck | qdk | qek | qfk | qgk | qhk | qik | qjk | qkk | qlk | qmk | qnk | qok | qpk | qqk | qrk | qsk | qtk | quk | qvk | qwk | qxk | qyk | qzk | qal | qbl | qcl | qdl | qel | qfl | qgl | qhl | qil | qjl | qkl | qll | qml | qnl | qol | qpl | qql | qrl | qsl | qtl | qul | qvl | qwl | qxl | qyl | qzl | qam | qbm | qcm | qdm | qem | qfm | qgm | qhm | qim | qjm | qkm | qlm | qmm | qnm | qom | qpm | qqm | qrm | qsm | qtm | qum | qvm | qwm | qxm | qym | qzm | qan => k_is
    case qbn | qcn | qdn | qen | qfn | qgn | qhn | qin | qjn | qkn => first | k_is | kit_is | kernel_rfl
    case qln | qmn | qnn | qon | qpn | qqn | qrn | qsn | qtn | qun | qvn | qwn | qxn | qyn | qzn | qao | qbo | qco | qdo | qeo | qfo | qgo | qho | qio | qjo | qko | qlo | qmo | qno | qoo | qpo | qqo => k_is
    case qro => first | kernel_rfl | (unfold L2.TupK; kernel_rfl)
    case qso | qto => k_is
    case quo => first | kernel_rfl | (unfold L2.TupK; kernel_rfl)
    case qvo => k_is
    case qwo => first | kernel_rfl | (unfold L2.TupK; kernel_rfl)
    case qxo => k_is
    case qyo => first | kernel_rfl | (unfold L2.TupK; kernel_rfl)
    case qzo => k_is
    case qap => first | kernel_rfl | (unfold L2.TupK; kernel_rfl)
    case qbp => k_is
    case qcp => first | kernel_rfl | (unfold L2.TupK; kernel_rfl)
    case qdp => k_is
    case qep => first | kernel_rfl | (unfold L2.TupK; kernel_rfl)
    case qfp => k_is
    case qgp => first | kernel_rfl | (unfold L2.TupK; kernel_rfl)
    case qhp | qip | qjp | qkp | qlp | qmp | qnp | qop | qpp | qqp => k_is
