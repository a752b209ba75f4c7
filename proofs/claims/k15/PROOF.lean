import PyProof.Rows.All
import Wide.All
import OpenK.AllK
import Wide.FinOn
import Lean
import PyProof.EqAt
import PyProof.EqKinds
import PyProof.TupleCall
import PyProof.StrLawsTight
import PyProof.StrLawsChain
import KE.KSortTup
import PyProof.EnumIter
import PyProof.EnumMake
import PyProof.EnumFor
import KE.KDictOf
import PyProof.AttrMissHeap
import PyProof.Walks
import PyProof.WalksMore
import PyProof.P3In
import PyProof.DictIter
import PySem.Challenge.RW_turnstack_k15_whole_any_order
set_option Elab.async false
set_option linter.all false
set_option maxRecDepth 100000
inductive Ex2 {A1 A2 : Type} (p : A1 → A2 → Prop) : Prop
  | mk (a1 : A1) (a2 : A2) (h : p a1 a2) : Ex2 p
inductive Ex3 {A1 A2 A3 : Type} (p : A1 → A2 → A3 → Prop) : Prop
  | mk (a1 : A1) (a2 : A2) (a3 : A3) (h : p a1 a2 a3) : Ex3 p
inductive Ex4 {A1 A2 A3 A4 : Type} (p : A1 → A2 → A3 → A4 → Prop) : Prop
  | mk (a1 : A1) (a2 : A2) (a3 : A3) (a4 : A4) (h : p a1 a2 a3 a4) : Ex4 p
inductive Ex5 {A1 A2 A3 A4 A5 : Type} (p : A1 → A2 → A3 → A4 → A5 → Prop) : Prop
  | mk (a1 : A1) (a2 : A2) (a3 : A3) (a4 : A4) (a5 : A5) (h : p a1 a2 a3 a4 a5) : Ex5 p
inductive Ex6 {A1 A2 A3 A4 A5 A6 : Type} (p : A1 → A2 → A3 → A4 → A5 → A6 → Prop) : Prop
  | mk (a1 : A1) (a2 : A2) (a3 : A3) (a4 : A4) (a5 : A5) (a6 : A6) (h : p a1 a2 a3 a4 a5 a6) : Ex6 p
inductive Ex7 {A1 A2 A3 A4 A5 A6 A7 : Type} (p : A1 → A2 → A3 → A4 → A5 → A6 → A7 → Prop) : Prop
  | mk (a1 : A1) (a2 : A2) (a3 : A3) (a4 : A4) (a5 : A5) (a6 : A6) (a7 : A7) (h : p a1 a2 a3 a4 a5 a6 a7) : Ex7 p
inductive Ex8 {A1 A2 A3 A4 A5 A6 A7 A8 : Type} (p : A1 → A2 → A3 → A4 → A5 → A6 → A7 → A8 → Prop) : Prop
  | mk (a1 : A1) (a2 : A2) (a3 : A3) (a4 : A4) (a5 : A5) (a6 : A6) (a7 : A7) (a8 : A8) (h : p a1 a2 a3 a4 a5 a6 a7 a8) : Ex8 p
inductive Ex9 {A1 A2 A3 A4 A5 A6 A7 A8 A9 : Type} (p : A1 → A2 → A3 → A4 → A5 → A6 → A7 → A8 → A9 → Prop) : Prop
  | mk (a1 : A1) (a2 : A2) (a3 : A3) (a4 : A4) (a5 : A5) (a6 : A6) (a7 : A7) (a8 : A8) (a9 : A9) (h : p a1 a2 a3 a4 a5 a6 a7 a8 a9) : Ex9 p
inductive Ex10 {A1 A2 A3 A4 A5 A6 A7 A8 A9 A10 : Type} (p : A1 → A2 → A3 → A4 → A5 → A6 → A7 → A8 → A9 → A10 → Prop) : Prop
  | mk (a1 : A1) (a2 : A2) (a3 : A3) (a4 : A4) (a5 : A5) (a6 : A6) (a7 : A7) (a8 : A8) (a9 : A9) (a10 : A10) (h : p a1 a2 a3 a4 a5 a6 a7 a8 a9 a10) : Ex10 p
inductive Ex11 {A1 A2 A3 A4 A5 A6 A7 A8 A9 A10 A11 : Type} (p : A1 → A2 → A3 → A4 → A5 → A6 → A7 → A8 → A9 → A10 → A11 → Prop) : Prop
  | mk (a1 : A1) (a2 : A2) (a3 : A3) (a4 : A4) (a5 : A5) (a6 : A6) (a7 : A7) (a8 : A8) (a9 : A9) (a10 : A10) (a11 : A11) (h : p a1 a2 a3 a4 a5 a6 a7 a8 a9 a10 a11) : Ex11 p
inductive Ex12 {A1 A2 A3 A4 A5 A6 A7 A8 A9 A10 A11 A12 : Type} (p : A1 → A2 → A3 → A4 → A5 → A6 → A7 → A8 → A9 → A10 → A11 → A12 → Prop) : Prop
  | mk (a1 : A1) (a2 : A2) (a3 : A3) (a4 : A4) (a5 : A5) (a6 : A6) (a7 : A7) (a8 : A8) (a9 : A9) (a10 : A10) (a11 : A11) (a12 : A12) (h : p a1 a2 a3 a4 a5 a6 a7 a8 a9 a10 a11 a12) : Ex12 p
inductive Ex14 {A1 A2 A3 A4 A5 A6 A7 A8 A9 A10 A11 A12 A13 A14 : Type} (p : A1 → A2 → A3 → A4 → A5 → A6 → A7 → A8 → A9 → A10 → A11 → A12 → A13 → A14 → Prop) : Prop
  | mk (a1 : A1) (a2 : A2) (a3 : A3) (a4 : A4) (a5 : A5) (a6 : A6) (a7 : A7) (a8 : A8) (a9 : A9) (a10 : A10) (a11 : A11) (a12 : A12) (a13 : A13) (a14 : A14) (h : p a1 a2 a3 a4 a5 a6 a7 a8 a9 a10 a11 a12 a13 a14) : Ex14 p
inductive Ex16 {A1 A2 A3 A4 A5 A6 A7 A8 A9 A10 A11 A12 A13 A14 A15 A16 : Type} (p : A1 → A2 → A3 → A4 → A5 → A6 → A7 → A8 → A9 → A10 → A11 → A12 → A13 → A14 → A15 → A16 → Prop) : Prop
  | mk (a1 : A1) (a2 : A2) (a3 : A3) (a4 : A4) (a5 : A5) (a6 : A6) (a7 : A7) (a8 : A8) (a9 : A9) (a10 : A10) (a11 : A11) (a12 : A12) (a13 : A13) (a14 : A14) (a15 : A15) (a16 : A16) (h : p a1 a2 a3 a4 a5 a6 a7 a8 a9 a10 a11 a12 a13 a14 a15 a16) : Ex16 p
inductive Ex17 {A1 A2 A3 A4 A5 A6 A7 A8 A9 A10 A11 A12 A13 A14 A15 A16 A17 : Type} (p : A1 → A2 → A3 → A4 → A5 → A6 → A7 → A8 → A9 → A10 → A11 → A12 → A13 → A14 → A15 → A16 → A17 → Prop) : Prop
  | mk (a1 : A1) (a2 : A2) (a3 : A3) (a4 : A4) (a5 : A5) (a6 : A6) (a7 : A7) (a8 : A8) (a9 : A9) (a10 : A10) (a11 : A11) (a12 : A12) (a13 : A13) (a14 : A14) (a15 : A15) (a16 : A16) (a17 : A17) (h : p a1 a2 a3 a4 a5 a6 a7 a8 a9 a10 a11 a12 a13 a14 a15 a16 a17) : Ex17 p
set_option maxHeartbeats 0
noncomputable section
open PySem renaming wpAny_bind→yaa,wpAny_pure→yda,sizeLine→yta,mainGlobals→yfb,Program→yqb,wpAny_newObj_type→ybc,wpAny_callSpecial?_slot→yhc,wpAny_call_entry→ylc,wpAny_holding→ymc,wpAny_truthy_bool→yuc,codeAny_builtin→yvc,starEach→ywc,NameKind→yxc,wpAny_setField_rec→yyc,strKind→ycd,boot_len→yed,compareOp→yhd,wpAny_mono→ykd,Builtin→yod,plainId_quiet→yvd,wpAny_field→yle,wpAny_typeNameOfWhole_keyiter→yoe,wpAny_setState_of→yxe,FuncData→yef,SetTable→ytf,wpAny_passesOwn→ywf,slot_dict_getitem→ybg,wpAny_typeNameOf_keyiter→yeg,mem_of_lookup→ymg,wpAny_getItem_str_slice→yng,sysModules→yqg,wpAny_pyIter_tuple→ywg,bootBuiltins→yzg,DictEntry→ybh,codeAny_mono→ych,sliceBounds→yfh,wpAny_updateSeq→yih,wpAny_pyIter_list→ymh,attributeBase→yoh,wpAny_attempt→yph,firstArgMember→yxh,wpAny_seqItems→yyh,wpAny_askSetting→ybi,argBest→yji,call_meets→ymi,binaryOp→ypi,wpAny_Call_Name_kw→yqi,wpAny_ite_split→yti,tupleKind_room_in1→yui,assignEach→ydj,codeAny→yej,wpAny_rule→yhj,wpAny_dictEntries→yij,wpAny_tryCatch→yoj,scanBound→yrj,builtinLookup_eq_fast→ysj,wpAny_isInstance→yxj,behindInMarks→yzj,setField→yck,wpAny_execs_nil→yhk,letOwnedTupleGo→yik,post_val_or_str→ylk,pickOrder→ynk,wpAny_typeOf→ybl,wpAny_setField→yml,foldedSetIterable→yrl,wpAny_sequenceKey→yul,slot_list_getitem→yvl,typeIs_str→ywl,wpAny_getItem_list_slice→yxl,wpAny_comprehension_free→yyl,fits_of_scanBound→yam,seqItems?→ycm,wpAny_pyIter_slot→ydm,holding→ylm,keywordEach→ymm,getItem→yom,wpAny_of_eq→yrm,wpAny_letGo→yxm,noFill_tuple_add→yan,Within→ynn,wpAny_isTrue_Compare1→yon,codeAny_of_tree→yzn,weight_type_call_type→ybo,typeLookup_type→yco,setNext→ydo,wpAny_notOrdered_dict→yjo,wpAny_dictEpoch→ylo,wpAny_isOneOf_keyiter→ymo,relayAll→yto,setsByText→yuo,wpAny_runValue→yyo,isSubtype_type→yzo,isSubtype_stop→yap,wpAny_fieldsOf→ybp,wpAny_newTuple→ycp,subscripted→yhp,tupleKind→ysp,swapsWith→yup,wpAny_standAt→yvp,seq_tuple_add→yaq,evalPart_none→ycq,raiseNew→yiq,wpAny_handled→yjq,wpAny_newList→ykq,wpAny_load→yoq,BindsTo→yrq,wpAny_call→ysq,Keyword→ytq,typeLookup→yvq,callerA→yzq,relabel→yar,ElemsOf→ydr,isInstance→ygr,valueAt→yir,concat_meets→yqr,Operator→ybs,backToKw→ycs,standAt→yfs,getMethod→ygs,slicePick→yis,notedBy→yjs,putSet_of→yls,call→yrs
open PySem.Heap renaming get?_push_of_some→yba,get?_push_size→yna,lt_size→ysa,get?_update_other→ycc,get?_update_self→yzc,SameBut→yfd,size_push→yae,ExtBut→yps
open PySem.W renaming Frag→yca,findIn→ymb,nsIn→yob,mg_none_of→yzb,kitOne→yoc,mg_of→yrc,kia_one→ysd,emptyDict→yxd,keepIn→yte,instObj→yaf,plainGet→yif,hasDictIn→yxf,fnOf→ygg,plainOver→ynh,codeIn→yuh,specialIn→yfj,plainGet_of→yjk,isFn→yzk,callWith_K→yal,lookIn→ygl,methodObj→yql,cellsFrom_some→ygn,takerIn→ypn,makesIn→yqn,takesIn→ysn,methodCall_KW→ytn,OpenLaw→ywn,mroIn→yxp,kitx_list→ypq,kitx_dict→yqq,handedIn→ywr,WalkO→yts
open List renaming length_map→yea,length_cons→yfa,mem_singleton→yga,getElem?_eq_some_iff→yia,length_append→yja,mem_cons_self→yka,mem_cons→yla,mem_cons_of_mem→yma,getElem?_eq_getElem→yoa,take_of_length_le→ypa,size_toArray→yqa,mem_of_getElem?→yra,take_add_one→yva,getElem?_map→yya,length_take→yza,map_cons→ybb,getElem?_cons_succ→ycb,mem_append→yeb,getD_eq_getElem?_getD→yhb,mem_map→yjb,map_append→ykb,append_nil→ylb,mem_append_right→yrb,length_filter_le→ysb,length_singleton→yub,Nodup→ywb,getElem?_append_right→yxb,not_mem_nil→ydc,getElem?_cons_zero→yic,mem_append_left→ync,mem_filter→yqc,cons_ne_nil→ytc,cons_lt_cons_iff→yjd,append_assoc→ymd,filter_cons_of_pos→ynd,getElem?_of_mem→ypd,map_map→yrd,getElem?_append_left→ytd,pairwise_cons→ybe,filter_cons_of_neg→yce,lookup→yde,filter_append→yie,length_drop→yme,lookup_cons→yne,pairwise_singleton→yre,range→ywe,length_range→yze,all_eq_true→yjf,getElem_map→ykf,pairwise_iff_getElem→yqf,lt_irrefl→ysf,filterMap_cons→ykg,length→ylg,getElem?_drop→yxg,find?_eq_none→yyg,length_replicate→ydh,length_nil→yeh,getElem?_eq_none→yhh,take_append_drop→yjh,find?_cons→ykh,lt_trans→yqh,pairwise_map→yrh,filter_congr→ysh,cons_append→ydi,map_congr_left→ygi,length_eq_zero_iff→ysi,sum_cons→ywi,getElem?_set_self→yyi,eraseIdxIfInBounds_toArray→ygj,nodup_append→ymj,mem_range→ynj,drop_drop→ypj,map_nil→yqj,getElem?_toArray→ytj,filter_cons→yyj,any_cons→yak,countP_eq_length_filter→yfk,nodup_cons→ykk,nil_append→yrk,length_eraseIdx_of_lt→ywk,perm_append_singleton→yyk,drop_left→ynl,take_zero→yol,mem_of_find?_eq_some→ypl,getElem?_take_of_lt→ytl,getElem?_replicate→ynm,eraseIdx_cons_succ→yqm,getElem_mem→ycn,take_length→yen,of_mem_zip→yun,length_set→yvn,Perm→yyn,contains_iff_mem→yno,range_succ→ypo,filter_map→yso,getElem?_set_ne→ywo,mem_of_mem_take→yxo,drop_zero→yep,not_lt→yjp,length_pos_iff→ylp,getElem_of_mem→ymp,flatten_append→ynp,filter_sublist→yop,filter_eq_self→ypp,mem_filterMap→ywp,zip_cons_cons→yzp,filterMap_map→ybq,take_sublist→yuq,reverse_cons→yyq,foldl_append→yfr,flatten_cons→ymr,getElem_inj→yvr,le_antisymm→yyr,map_fst_zip→yzr,perm_middle→yas,map_id→yqs
open Nat renaming le_refl→yha,le_trans→yua,lt_of_lt_of_le→yxa,ne_of_lt→ydb,zero_le→ygb,lt_irrefl→yud,lt_succ_self→yje,le_succ→yke,lt_succ_of_lt→yye,le_of_lt→ymf,lt_or_ge→yof,add_le_add_right→yuf,pow_le_pow_right→yvf,ne_of_gt→yfg,add_sub_cancel_left→yxi,le_succ_of_le→yjj,sub_self→yvj,lt_of_le_of_lt→ycl,le_of_eq→yrn,zero_add→ygo,sub_zero→yho,add_le_add→yfp,pow_succ→yur
open PySem.Str renaming join→ywa,ofString→yue,length→yxq,length_append→ylr,empty→yhs
open Bool renaming false_ne_true→yab,and_eq_true→ysc,false_eq_true→yqd,eq_false_iff→yfe,false_and→yse,or_false→ynf,true_and→yog,eq_iff_iff→yah,and_false→yhl,false_or→ynq,true_or→ysr
open Array renaming length_toList→yib,getElem?_eq_getElem→ynb,getElem?_toList→yvb,toArray_toList→ype,toList_append→ydf,getElem?_eq_none→yug,getD_eq_getD_getElem?→ygh,perm_iff_toList_perm→yth,toList_inj→yci,getElem?_eq_some_iff→yxk,size_append→ygm,append_assoc→ytp,toList_push→yer,getElem_mem→ykr
open Option renaming toList_some→ypb,map_some→ydg,isSome_iff_exists→ysl,isSome_map→yfm,bind_some→yfn,map_eq_some_iff→ykn,toList_none→yfq,getD_none→yxr,map→yss
open PySem.F renaming called_set→ytb,plainAttrs_list→yac,slot_dict_keyiterator_next→ydd,slot_list_append→yyd,type_list_append→yzd,plainAttrs_str→yff,slot_tuple_iterator_next→ygf,plain_min_loop→ylf,slot_list_getattribute→yig,slot_enumerate_next→ylh,args_dict_keyiterator_next_1→yai,entry_dict_keyiterator_next→yii,args_tuple_add_2→yki,entry_tuple_add→yri,slot_tuple_add→yzi,slot_str_split→ybj,type_str_split→ycj,args_tuple_iterator_next_1→ydk,entry_tuple_iterator_next→yqk,args_str_split_2→ydl,plain_extend_loop→ykl,entry_str_split→yzl,slot_list_insert→yhm,type_list_insert→yim,entry_type_call→ysm,plain_list_iadd→yum,args_enumerate_next_1→ywm,slot_str_split→ybn,entry_min_loop→ydn,typeCall_set_1→yin,entry_set_init→yjn,entry_enumerate_next→yln,slot_dict_iter→ymn,plain_set_new→yao,slot_set_iter→yeo,slot_str_join→yqo,type_str_join→yro
open PySem.PyData renaming depthAll→yyb,canLayAll0→ykc,canLay0→ypc,depth→ygd,eqvAll→ypg,eqv→yrg
open Option.some renaming inj→yec
open PySem.Around renaming under_plainId→yfc,under_plain→yhq,under→yor
open PySem.PassesOwn renaming never→ygc
open Int renaming toNat_natCast→yjc,zero_add→ywj,natAbs_natCast→yfl,lt_irrefl→ylq
open PySem.SeqAt renaming shaped→yad,EqAt→yee,canLay_of_shaped→yvg,readOf→ytr
open PySem.Builtin.Str renaming occurrences→ybd,partsBetween→yag,strKind→yfi,strSliceIndices→ytk
open PyProof.Rows renaming wpS_bind→yid,wpS_pure→yqe,callWith_type1→ybf,slot_tuple_getitem→yyf,sortedS→ycg,IntsAre→yei,boot_tuple→yoi,subscriptTail_builtinR→yaj,boot_sorted→ylj,wpS_forRange→yuj,pairsOf_size→yel,StrsAre→yil,subscriptTail→ypm,pendingOf→yfo,boot_isinstance→yoo,SortKind→yvo,pairsOf_toList→ydp,AllBare→ygp,pairsOf→ykp,listUpdate_at→ymq,Subscript_→ywq,mem_zip_self→yrr,boot_str→yds,sortedAll→yms,wpS_get→yns
open PySem.Heap.SameBut renaming update→ywd,refl→ycr
open Ne renaming symm→yge
open PySem.Obj renaming mapSeq→yhe,data_mapFields→yvi,putSet→ybm,isFreed_of_fields→yio,cls_mapFields→yjr
open PyProof.Rows.F renaming plain_set_update_loop→yve,entry_set_update_loop→ywh
open PySem.Txt renaming split→ycf,slice_le→yxn,slice→yeq
open False renaming elim→yhf
open PySem.Builtin.Slice renaming slicePlaces→ypf,sliceAdjust→yvh,sliceApplied→yvk
open PySem.Builtin.SmallTypes renaming nextOf→yrf,ownedTupleHandOut→yzh,ownedTupleIsFree→yhi
open PySem.Builtin.Tuple renaming tupleExact→yzf
open PyProof.Rows.KTD renaming datLooks→yhg,datumAt→ymk,tabLook→yvm,TextTab→yip,Dat→yks
open PySem.Value renaming isStrOf→yjg,isStrOf_shape→ygk
open PySem.SetTable renaming grown→ysg,below→ytg
open PySem.Builtin.List renaming listTooLong→yli,listLengthHint→yok,listExtendWith→ypk,listSameRef→yem
open List.Perm renaming eq_of_pairwise→yni,refl→yjl
open PySem.MeetsSeq renaming plain_remove_loop→ykj
open PySem.Builtin.Frozenset renaming updateFrom→ybk
open PySem.Builtin.Dict_items renaming ownsTuple→yek
open List.cons renaming injEq→ysk
open PySem.Calls renaming Name_function_global→yuk,call_function_entry→yll,callWith_builtin→yhn
open List.Pairwise renaming imp→yjm
open PySem.Paired renaming length→ykm
open PySem.Shared renaming TypeIs→ytm
open PySem.Builtin.Dict renaming updateFrom→yym,showsAll→yko
open Classical renaming propDecidable→yzm,not_imp→ynr
open PySem.SeqAt.EqAt renaming int_str→yqp,str_int→yrp,int_int→yyp
open PySem.Heap.IsSliceOf renaming new→ydq
open PySem.Code renaming quiet_builtin→ygq,isFrame→ypr
open PySem.Walks renaming list→ybr
open PySem.SetTable.below renaming go→yhr
open Array.Perm renaming refl→yos
open PyProof.Rows.IsTup renaming new→yus
open PySem.pickOrder renaming go→yvs
namespace L2
open PySem PySem.Spec PyProof.Rows
abbrev Key:=Sum Int Str
def zqjb:Key->Value->Bool
 | .inl k,v=>Value.isInt k v
 | .inr x,v=>yjg x v
def keyH (w:World):Key->Int
 | .inl k=>hashInt k
 | .inr x=>hashStr w x
theorem zod:∀{k:Key} {v:Value},zqjb k v=true->(Ex2 λi t=>k=Sum.inl i∧v=Value.int i t)∨(Ex2 λx t=>k=Sum.inr x∧v=Value.str x t)
 | .inl i,v,h=>by
  obtain⟨t,e⟩:=Value.isInt_shape (k:=i) (v:=v) h;exact .inl ⟨i,t,rfl,e⟩
 | .inr x,v,h=>by
  obtain⟨t,e⟩:=ygk (x:=x) (v:=v) h;exact .inr ⟨x,t,rfl,e⟩
theorem zrnb (i:Int)(t:Tok):zqjb (.inl i) (.int i t)=true:=by simp[zqjb,Value.isInt]
theorem zqnb (x:Str)(t:Tok):zqjb (.inr x) (.str x t)=true:=by simp[zqjb,yjg]
theorem zjac (a b:Int):decide ((Sum.inl a:Key)=Sum.inl b)=(a==b):=by
 by_cases e:a=b
 ·subst e;simp
 ·have h:¬ (Sum.inl a:Key)=Sum.inl b:=λq=>e (Sum.inl.inj q);rw[decide_eq_false h];exact (beq_eq_false_iff_ne.mpr e).symm
theorem zfac (a b:Str):decide ((Sum.inr a:Key)=Sum.inr b)=decide (a=b):=by
 by_cases e:a=b
 ·subst e;simp
 ·have h:¬ (Sum.inr a:Key)=Sum.inr b:=λq=>e (Sum.inr.inj q);rw[decide_eq_false h,decide_eq_false e]
theorem ziac (a:Int)(b:Str):decide ((Sum.inl a:Key)=Sum.inr b)=false:=decide_eq_false (λq=>nomatch q)
theorem zgac (a:Str)(b:Int):decide ((Sum.inr a:Key)=Sum.inl b)=false:=decide_eq_false (λq=>nomatch q)
def zse (prog:yqb)(w:World):PySem.KeyKind prog w Key where
 is:=zqjb
 hash:=keyH w
 inj:=λv a b ha hb=>by
  rcases zod ha with⟨i,t,rfl,rfl⟩|⟨x,t,rfl,rfl⟩
  ·rcases zod hb with⟨j,u,rfl,e⟩|⟨y,u,rfl,e⟩
   ·injection e with e1 _;rw[e1]
   ·exact nomatch e
  ·rcases zod hb with⟨j,u,rfl,e⟩|⟨y,u,rfl,e⟩
   ·exact nomatch e
   ·injection e with e1 _;rw[e1]
 byValue:=λk v h=>by
  rcases zod h with⟨i,t,rfl,rfl⟩|⟨x,t,rfl,rfl⟩<;>rfl
 pyHash:=λhv h=>by
  rcases zod hv with⟨i,t,rfl,rfl⟩|⟨x,t,rfl,rfl⟩
  ·exact wpAny_pyHash_int h
  ·exact wpAny_pyHash_str h
 eqBool:=λhu hv h=>by
  rcases zod hu with⟨i,t,rfl,rfl⟩|⟨x,t,rfl,rfl⟩
  ·rcases zod hv with⟨j,u,rfl,rfl⟩|⟨y,u,rfl,rfl⟩
   ·rw[zjac] at h;exact wpAny_eqBool_int h
   ·rw[ziac] at h;exact yqp i t y u _ _ _ _ h
  ·rcases zod hv with⟨j,u,rfl,rfl⟩|⟨y,u,rfl,rfl⟩
   ·rw[zgac] at h;exact yrp x t j u _ _ _ _ h
   ·rw[zfac] at h;exact wpAny_eqBool_str h
 «strs»:=λk x t v h=>by
  rcases zod h with⟨i,u,rfl,e⟩|⟨y,u,rfl,e⟩
  ·exact nomatch e
  ·injection e with e1 _
   subst e1;cases v<;>rfl
theorem zqeb (prog:yqb)(w:World)(i:Int)(t:Tok):(zse prog w).is (.inl i) (.int i t)=true:=zrnb i t
theorem zpeb (prog:yqb)(w:World)(x:Str)(t:Tok):(zse prog w).is (.inr x) (.str x t)=true:=zqnb x t
end L2
namespace L2
open PySem PySem.Spec PyProof.Rows
inductive V where
 | non|bl (b:Bool)|int (i:Int)|str (x:Str)|byt (b:Array UInt8)|flt (b:UInt64)|ref (a:Addr)|ty (n:String)
 deriving DecidableEq
def RelV:V->Value->Prop
 | .non,u=>u=Value.none
 | .bl b,u=>u=Value.bool b
 | .int i,u=>∃t,u=Value.int i t
 | .str x,u=>∃t,u=Value.str x t
 | .byt b,u=>∃t,u=Value.bytes b t
 | .flt b,u=>∃t,u=Value.float b t
 | .ref a,u=>u=Value.ref a
 | .ty n,u=>u=Value.type n
abbrev Vals:List V->List Value->Prop:=Paired RelV
theorem Vals.length {xs:List V}{us:List Value}(r:Vals xs us):xs.length=us.length:=ykm r
theorem Vals.get:∀{xs:List V} {us:List Value} {i:Nat} {x:V},Vals xs us->xs[i]?=some x->∃u,us[i]?=some u∧RelV x u
 | _,_,_,_,.nil,e=>by simp at e
 | _,_,0,_,.cons r _,e=>by simp at e;subst e;exact⟨_,rfl,r⟩
 | _,_,i+1,x,.cons _ t,e=>by
  obtain⟨u,h1,h2⟩:=Vals.get (i:=i) (x:=x) t (by simpa using e);exact⟨u,by simpa using h1,h2⟩
theorem Vals.set {x:V}{u:Value}(r:RelV x u):∀{xs:List V} {us:List Value} (i:Nat),Vals xs us->Vals (xs.set i x) (us.set i u)
 | _,_,_,.nil=>.nil
 | _,_,0,.cons _ t=>.cons r t
 | _,_,i+1,.cons q t=>.cons q (Vals.set r i t)
theorem Vals.append:∀{xs ys:List V} {us ws:List Value},Vals xs us->Vals ys ws->Vals (xs++ys) (us++ws)
 | _,_,_,_,.nil,s=>s
 | _,_,_,_,.cons r t,s=>.cons r (Vals.append t s)
theorem Vals.take:∀{xs:List V} {us:List Value} (n:Nat),Vals xs us->Vals (xs.take n) (us.take n)
 | _,_,0,_=>.nil
 | _,_,_+1,.nil=>.nil
 | _,_,n+1,.cons r t=>.cons r (Vals.take n t)
theorem Vals.drop:∀{xs:List V} {us:List Value} (n:Nat),Vals xs us->Vals (xs.drop n) (us.drop n)
 | _,_,0,r=>r
 | _,_,_+1,.nil=>.nil
 | _,_,n+1,.cons _ t=>Vals.drop n t
def RelO:Option V->Option Value->Prop
 | some v,some u=>RelV v u
 | none,none=>True
 | _,_=>False
def KV {κ:Type}:List (κ×V)->List (κ×Value)->Prop:=Paired λ(p:κ×V) (q:κ×Value)=>p.1=q.1∧RelV p.2 q.2
def kV:Key->V
 | .inl i=>.int i
 | .inr x=>.str x
inductive HO where
 | lst (xs:List V)
 | tup (xs:List V)
 | dK (kvs:List (Key×V))|dT (kvs:List (List Key×V))
 | set (S:Int->Bool) (n:Nat)
 | ins (C dx:Addr) (fs:List (Str×V))
 | own (x:Addr)
 | xd (fs:List (Str×V))
 | met (f x:Addr)
 | rng (lo hi:Int)
 | frz (o:Obj) (u:HO)
 | tbl (ps:Array Value)
 | ext (φ:Heap->Prop)
abbrev Hp:=Addr->Option HO
def upd (H:Hp)(a:Addr)(o:HO):Hp:=λb=>if b=a then some o else H b
theorem zfa {H:Hp}{a:Addr}{o:HO}:upd H a o a=some o:=by unfold upd;rw[if_pos rfl]
theorem zta {H:Hp}{a b:Addr}{o:HO}(h:b≠a):upd H a o b=H b:=by unfold upd;rw[if_neg h]
theorem zdl {H:Hp}{a:Addr}{o u:HO}:upd (upd H a o) a u=upd H a u:=by
 funext b;unfold upd;split<;>rfl
theorem zng {H:Hp}{a b:Addr}{o u:HO}(h:H a=some o)(h':H b=some u)(d:o≠u):a≠b:=by
 intro e;subst e;rw[h] at h';exact d (yec h')
theorem zka {H:Hp}{a b:Addr}{o:HO}(h:H a=some o)(h':H b=none):a≠b:=by
 intro e;subst e;rw[h] at h';cases h'
section
variable (P:yqb)(w:World)
def zgg (H:Hp)(h:Heap)(a:Addr):HO->Prop
 | .lst xs=>xs.length≤yta∧Ex2 λ(its:List Value) (n:Nat)=>Vals xs its∧h.get? a=some { cls:=.type "list",data:=.seq its.toArray n }
 | .tup xs=>xs.length≤yta∧∃its:List Value,Vals xs its∧IsTup h a its.toArray
 | .dK kvs=>kvs.length≤yta∧(a==yqg)=false∧∃vs,KV kvs vs∧h.DictOf (zse P w) a vs
 | .dT kvs=>kvs.length≤yta∧(a==yqg)=false∧∃xs:List (List Key×Addr×Value),
   Paired (λ(p:List Key×V) (q:List Key×Addr×Value)=>p.1=q.1∧H q.2.1=some (.tup (p.1.map kV))∧RelV p.2 q.2.2) kvs xs ∧
   Ex3 λo es ep=>h.get? a=some o∧o.ExactDict∧o.data = .dict es ep∧es.toList=xs.map (entryOfKey (ysp (zse P w)))∧(xs.map (·.1)).Nodup
 | .set S n=>h.SetOf (intKind P w) a S n
 | .ins C dx fs=>H dx=some (.own a)∧fs.length≤1000∧dx≠a∧h.get? a=some (yaf C dx) ∧
   ∃mA,h.Ns1 dx mA∧(∀f,RelO (fs.lookup f) (mA f))∧ynn mA (fs.map (·.1))
 | .own _=>∃o,h.get? a=some o
 | .xd fs=>∃mA,h.Ns1 a mA∧∀f,RelO (fs.lookup f) (mA f)
 | .rng lo hi=>Ex3 λt u v=>h.get? a=some { cls:=.type "range",data:=.fields #[.int lo t,.int hi u,.int 1 v] }
 | .frz o u=>h.get? a=some o∧zgg H h a u
 | .tbl ps=>h.get? a=some { cls:=.none,data:=.fields ps }
 | .met f x=>h.get? a=some (yql (.ref f) (.ref x))
 | .ext φ=>φ h∧(∃o,h.get? a=some o)∧∀h1 h2:Heap,φ h1->(∀o,h1.get? a=some o->h2.get? a=some o)->φ h2
def HOk (H:Hp)(h:Heap):Prop:=∀a o,H a=some o->zgg P w H h a o
end
section
variable {P:yqb}{w:World}{H H':Hp}{h h':Heap}{a:Addr}{o:HO}
theorem zgg.lt (x:zgg P w H h a o):a<h.objs.size:=by
 cases o with
 | lst xs=>obtain⟨_,_,_,_,e⟩:=x;exact ysa e
 | tup xs=>obtain⟨_,_,_,p⟩:=x;exact p.lt
 | dK kvs=>obtain⟨_,_,_,_,o,_,_,e,_⟩:=x;exact ysa e
 | dT kvs=>obtain⟨_,_,_,_,o,_,_,e,_⟩:=x;exact ysa e
 | set S n=>obtain⟨o,_,_,_,e,_⟩:=x;exact ysa e
 | ins C dx fs=>obtain⟨_,_,_,e,_⟩:=x;exact ysa e
 | own y=>obtain⟨_,e⟩:=x;exact ysa e
 | xd fs=>obtain⟨_,⟨_,_,_,e,_⟩,_⟩:=x;exact ysa e
 | rng lo hi=>obtain⟨_,_,_,e⟩:=x;exact ysa e
 | frz ob u=>obtain⟨e,_⟩:=x;exact ysa e
 | tbl ps=>exact ysa (show h.get? a=some _ from x)
 | met f y=>exact ysa (show h.get? a=some _ from x)
 | ext φ=>obtain⟨_,⟨_,e⟩,_⟩:=x;exact ysa e
theorem Paired.mapP {α β:Type}{F G:α->β->Prop}:∀{l₁:List α} {l₂:List β},Paired F l₁ l₂->(∀a b,F a b->G a b)->Paired G l₁ l₂
 | _,_,.nil,_=>.nil
 | _,_,.cons r t,f=>.cons (f _ _ r) (Paired.mapP t f)
theorem zgg.stay (x:zgg P w H h a o)(k:∀b u,(b=a∨H b=some (.own a))->h.get? b=some u->h'.get? b=some u)
  (ho:∀b,H b=some (.own a)->H' b=some (.own a)) (ht:∀b xs,H b=some (.tup xs)->H' b=some (.tup xs)):zgg P w H' h' a o:=by
 induction o with
 | lst xs=>obtain⟨z,its,n,r,e⟩:=x;exact⟨z,its,n,r,k _ _ (.inl rfl) e⟩
 | tup xs=>obtain⟨z,its,r,ob,e,c⟩:=x;exact⟨z,its,r,ob,k _ _ (.inl rfl) e,c⟩
 | dK kvs=>obtain⟨z,y,vs,r,ob,es,ep,e,c⟩:=x;exact⟨z,y,vs,r,ob,es,ep,k _ _ (.inl rfl) e,c⟩
 | dT kvs =>
  obtain⟨z,y,xs,r,ob,es,ep,e,c⟩:=x;exact⟨z,y,xs,Paired.mapP r λp q z=>⟨z.1,ht _ _ z.2.1,z.2.2⟩,ob,es,ep,k _ _ (.inl rfl) e,c⟩
 | set S n=>obtain⟨ob,es,ep,t,e,c⟩:=x;exact⟨ob,es,ep,t,k _ _ (.inl rfl) e,c⟩
 | ins C dx fs =>
  obtain⟨d,z,ne,e,mA,⟨od,es,ep,e2,c⟩,r⟩:=x;exact⟨ho _ d,z,ne,k _ _ (.inl rfl) e,mA,⟨od,es,ep,k _ _ (.inr d) e2,c⟩,r⟩
 | own y=>obtain⟨ob,e⟩:=x;exact⟨ob,k _ _ (.inl rfl) e⟩
 | xd fs=>obtain⟨mA,⟨od,es,ep,e,c⟩,r⟩:=x;exact⟨mA,⟨od,es,ep,k _ _ (.inl rfl) e,c⟩,r⟩
 | rng lo hi=>obtain⟨t,u,v,e⟩:=x;exact⟨t,u,v,k _ _ (.inl rfl) e⟩
 | frz ob u ih=>obtain⟨e,q⟩:=x;exact⟨k _ _ (.inl rfl) e,ih q⟩
 | tbl ps =>
  have e:h.get? a=some { cls:=.none,data:=.fields ps }:=x;show h'.get? a=some { cls:=.none,data:=.fields ps }
  exact k a _ (.inl rfl) e
 | met f y =>
  have e:h.get? a=some (yql (.ref f) (.ref y)):=x;show h'.get? a=some (yql (.ref f) (.ref y))
  exact k a _ (.inl rfl) e
 | ext φ=>obtain⟨p,⟨o,e⟩,st⟩:=x;exact⟨st _ _ p λo q=>k _ _ (.inl rfl) q,⟨o,k _ _ (.inl rfl) e⟩,st⟩
theorem HOk.lt (x:HOk P w H h)(e:H a=some o):a<h.objs.size:=(x a o e).lt
theorem HOk.fresh (x:HOk P w H h)(e:h.objs.size≤a):H a=none:=by
 cases q:H a with
 | none=>rfl
 | some u=>exact absurd (yxa (x.lt q) e) (yud _)
theorem HOk.kept (x:HOk P w H h)(k:∀b u,h.get? b=some u->h'.get? b=some u):HOk P w H h':=λa o e =>
 (x a o e).stay (λb u _ q=>k b u q) (λ_ q=>q) λ_ _ q=>q
theorem HOk.laid (x:HOk P w H h)(k:∀b u,h.get? b=some u->h'.get? b=some u)(hp:h.objs.size≤a)(new:zgg P w (upd H a o) h' a o):HOk P w (upd H a o) h':=λb u e=>by
 have hn:=x.fresh hp
 by_cases hb:b=a
 ·subst hb;rw[zfa] at e;cases e;exact new
 ·rw[zta hb] at e;exact (x b u e).stay (λc v _ q=>k c v q) (λc q=>by rw[zta (zka q hn)];exact q) λc xs q=>by rw[zta (zka q hn)];exact q
end
def Rd (H:Hp)(a:Addr)(u:HO):Prop:=H a=some u∨∃o,H a=some (.frz o u)
theorem Rd.ok {P:yqb}{w:World}{H:Hp}{h:Heap}{a:Addr}{u:HO}(r:Rd H a u)(x:HOk P w H h):zgg P w H h a u:=by
 rcases r with r|⟨o,r⟩
 ·exact x a u r
 ·obtain⟨_,q⟩:=x a _ r;exact q
def Mut:Option HO->Prop
 | some (.lst _)=>True
 | some (.dK _)=>True
 | some (.dT _)=>True
 | some (.set _ _)=>True
 | some (.ins _ _ _)=>True
 | some (.ext _)=>True
 | _=>False
section
variable {P:yqb}{w:World}{H:Hp}{h h':Heap}{x e:Addr}{o':HO}
theorem HOk.write (ok:HOk P w H h)(mu:Mut (H x))(he:e=x∨H e=some (.own x))(k:∀b u,b≠e->h.get? b=some u->h'.get? b=some u)(heo:∃u,h'.get? e=some u)
  (new:zgg P w (upd H x o') h' x o'):HOk P w (upd H x o') h':=λb u q=>by
 have nown:∀c y,H c=some (.own y)->c≠x:=λc y r z=>by subst z;rw[r] at mu;exact mu
 have ntup:∀c xs,H c=some (.tup xs)->c≠x:=λc xs r z=>by subst z;rw[r] at mu;exact mu
 by_cases hb:b=x
 ·subst hb;rw[zfa] at q;cases q;exact new
 ·rw[zta hb] at q
  by_cases hbe:b=e
  ·have q':H b=some (.own x):=by
    rcases he with z|z
    ·exact absurd (hbe.trans z) hb
    ·rw[hbe];exact z
   rw[q] at q';cases q';obtain⟨v,hv⟩:=heo;exact⟨v,by rw[hbe];exact hv⟩
  ·refine (ok b u q).stay (λc v hc r=>k c v ?_ r) (λc r=>by rw[zta (nown c b r)];exact r) λc xs r=>by rw[zta (ntup c xs r)];exact r
   rcases hc with rfl|hc
   ·exact hbe
   ·rintro rfl
    rcases he with z|z
    ·exact nown c b hc z
    ·rw[hc] at z;cases z;exact hb rfl
end
structure Un (fs ex:List Addr)(H H':Hp)(h h':Heap):Prop where
 keep:∀b o,h.get? b=some o->H b=none->b∉fs->b∉ex->h'.get? b=some o
 slot:∀b o,h.get? b=some o->H b=none->b∈fs->b∉ex->∃sl,h'.get? b=some { o with slots:=sl }
 free:∀b o,h.get? b=some o->H b=none->b∉ex->H' b=none
 there:∀b o,h.get? b=some o->b∉ex->∃o',h'.get? b=some o'
 tups:∀b xs,H b=some (.tup xs)->H' b=some (.tup xs)
 frzs:∀b o u,H b=some (.frz o u)->H' b=some (.frz o u)
 tbls:∀b ps,H b=some (.tbl ps)->∃more,H' b=some (.tbl (ps++more))
section
variable {fs fs' ex ex':List Addr}{H H1 H2:Hp}{h h1 h2 h':Heap}{a x e:Addr}{o:HO}
theorem Un.any (u:Un fs ex H H1 h h1){b:Addr}{ob:Obj}(q:h.get? b=some ob)(n:H b=none)(hx:b∉ex):∃sl,h1.get? b=some { ob with slots:=sl }:=by
 by_cases hb:b∈fs
 ·exact u.slot b ob q n hb hx
 ·exact⟨ob.slots,u.keep b ob q n hb hx⟩
theorem Un.kept (k:∀b u,h.get? b=some u->h'.get? b=some u):Un fs ex H H h h' :=
 ⟨λb ob q _ _ _=>k b ob q,λb ob q _ _ _=>⟨ob.slots,k b ob q⟩,λ_ _ _ n _=>n,λb ob q _=>⟨ob,k b ob q⟩,λ_ _ q=>q,λ_ _ _ q=>q,λ_ ps q=>⟨#[],by rw[q];simp⟩⟩
theorem Un.refl:Un fs ex H H h h:=Un.kept λ_ _ q=>q
theorem Un.laid (k:∀b u,h.get? b=some u->h'.get? b=some u)(hp:h.objs.size≤a)(hn:H a=none):Un fs ex H (upd H a o) h h' where
 keep:=λb u q _ _ _=>k b u q
 slot:=λb u q _ _ _=>⟨u.slots,k b u q⟩
 free:=λb u q n _=>by rw[zta (ydb (yxa (ysa q) hp))];exact n
 there:=λb u q _=>⟨u,k b u q⟩
 tups:=λb xs q=>by rw[zta (zka q hn)];exact q
 frzs:=λb u xs q=>by rw[zta (zka q hn)];exact q
 tbls:=λb ps q=>⟨#[],by rw[zta (zka q hn),q];simp⟩
theorem Un.write (mu:Mut (H x))(he:e=x∨H e=some (.own x))(k:∀b u,b≠e->h.get? b=some u->h'.get? b=some u)(heo:∃u,h'.get? e=some u):Un fs ex H (upd H x o) h h':=by
 have hx:∀b,H b=none->b≠x:=λb n z=>by subst z;rw[n] at mu;exact mu
 have hb:∀b,H b=none->b≠e:=λb n z=>by
  subst z
  rcases he with r|r
  ·exact hx b n r
  ·rw[n] at r;cases r
 have hm:∀b u,H b=some u->¬ Mut (some u)->b≠x:=λb u q nm z=>by subst z;rw[q] at mu;exact nm mu
 refine⟨λb u q n _ _=>k b u (hb b n) q,λb u q n _ _=>⟨u.slots,k b u (hb b n) q⟩,λb u q n _=>by rw[zta (hx b n)];exact n,λb u q _=>?_,
  λb xs q=>by rw[zta (hm b _ q λz=>z)];exact q,λb u xs q=>by rw[zta (hm b _ q λz=>z)];exact q,λb ps q=>⟨#[],by rw[zta (hm b _ q λz=>z),q];simp⟩⟩
 by_cases hbe:b=e
 ·subst hbe;exact heo
 ·exact⟨u,k b u hbe q⟩
end
def trk (h:Heap)(H:Hp):List Addr:=(ywe h.objs.size).filter λa=>(H a).isSome
def hidT (h:Heap)(H:Hp):Heap:=PySem.W.hideAll h (trk h H)
theorem zynb (h:Heap)(H:Hp):(hidT h H).objs.size=h.objs.size:=PySem.W.hideAll_size _ _
theorem znsb {h:Heap}{H:Hp}{b:Addr}{o:Obj}(e:h.get? b=some o)(n:H b=none):(hidT h H).get? b=some o :=
 PySem.W.hideAll_get _ e λhm=>by
  have q:(H b).isSome=true:=(yqc.mp hm).2;rw[n] at q;simp at q
theorem znwb {h:Heap}{H:Hp}{b:Addr}{o:Obj}(e:(hidT h H).get? b=some o):h.get? b=some o∧H b=none:=by
 have e':h.get? b=some o:=PySem.W.of_hideAll (trk h H) e;refine⟨e',?_⟩;cases q:H b with
 | none=>rfl
 | some x =>
  have hm:b∈trk h H:=yqc.mpr ⟨ynj.mpr (ysa e'),by simp[q]⟩;have z:(hidT h H).get? b=none:=PySem.W.hideAll_none (trk h H) hm;rw[z] at e;cases e
def zuxb (g h:Heap)(L:Addr):List (Addr×Obj):=(ywe h.objs.size).filterMap λa=>if a=L∨(g.get? a).isSome=true then none else (h.get? a).map λo=>(a,o)
def rest (g h:Heap)(L d:Addr):List (Addr×Obj):=(zuxb g h L).filter λp=>decide (p.1≠d)
end L2
namespace L2
open PySem PySem.Spec PyProof.Rows
structure Mod (K:yca)(mg:Str->Option Value)(base:Heap):Prop where
 kin:K.In base
 glob:base.Ns yfb mg
 blt:∃mb,base.Ns builtinsNs mb∧∀x:Str,x ≠ "__name__"->mb x=yzg x
 nolimit:base.NoLimit
structure Cx where
 prog:yqb
 w:World
 K:yca
 mg:Str->Option Value
 base:Heap
 A:Around
 N:List Str
 s₀:Shared
 H₀:Hp
 env:Env
 outer:List Env
 stack:List Env
 ex:List Addr
 fn:Str->Bool
 calm:Bool
 pn:List (Addr×Obj)
 xe:Value->Shared->Prop
def frs (l:List Env):List Addr:=l.filterMap (·.frame)
abbrev Cx.fs (X:Cx):List Addr:=frs X.outer
def Vis (sc:Scope)(x:Str):Prop:=sc.names.lookup x=some .local∨sc.names.lookup x=some .cell∨sc.names.lookup x=some .free
def Loc (sc:Scope)(x:Str):Prop:=sc.names.lookup x=some .local∨sc.names.lookup x=some .cell
def Look (env:Env)(h:Heap)(m:Str->Option Value)(x:Str)(u:Value):Prop :=
 (env.kindOf x=some .local∧m x=some u)∨((env.kindOf x=some .cell∨env.kindOf x=some .free)∧∃c,env.cells.lookup x=some c∧h.IsCell c (some u))
structure Cx.Ok (X:Cx):Prop where
 mod:Mod X.K X.mg X.base
 kind:X.env.scope.kind = .function
 glob:X.env.globals=yfb
 blt:X.env.builtins=builtinsNs
 above:X.s₀.heap.objs.size≤X.env.locals
 inj:∀x y c,X.env.cells.lookup x=some c->X.env.cells.lookup y=some c->x=y
 has:∀x,(X.env.kindOf x=some .cell∨X.env.kindOf x=some .free)->∃c,X.env.cells.lookup x=some c
 cab:∀x c,X.fn x=true->X.env.cells.lookup x=some c->X.s₀.heap.objs.size≤c
 hd:X.calm=true->X.A.handled=none
 frames:X.A.frames=some X.stack
 stk:X.stack=X.outer∨(X.stack=X.env::X.outer∧X.env.frame=some X.env.locals)
 exf:∀b∈X.ex,b≠X.env.locals∧∀x c,X.env.cells.lookup x=some c->c≠b
 bs:∀b o,X.base.get? b=some o->X.s₀.heap.get? b=some o∧X.H₀ b=none
 bsz:X.base.objs.size≤X.s₀.heap.objs.size
 noex:∀b o,X.base.get? b=some o->b∉X.ex
 exfs:∀b∈X.ex,b∉X.fs
 funs:X.s₀.heap.FunFrames X.base X.outer
 frf:∀b∈X.fs,X.H₀ b=none
structure Inv (X:Cx)(pins:List (Addr×Obj))(σ:List (Option V))(H:Hp)(s:Shared):Prop where
 ok:X.Ok
 os:s.os=X.s₀.os
 bare:ygp s.gens
 base:Un X.fs X.ex X.H₀ H X.s₀.heap s.heap
 loc:∃m,s.heap.Ns X.env.locals m∧∀(i:Nat) (x:Str) (v:V),X.N[i]?=some x->σ[i]?=some (some v)->Vis X.env.scope x->∃u,RelV v u∧Look X.env s.heap m x u
 cell:∀x c,X.env.cells.lookup x=some c->∃v,s.heap.IsCell c v
 free:H X.env.locals=none
 freeC:∀x c,X.env.cells.lookup x=some c->H c=none
 pin:∀p∈X.pn++pins,s.heap.get? p.1=some p.2∧H p.1=none∧p.1≠X.env.locals∧p.1∉X.fs∧∀v,p.2.data ≠ .cell v
 hok:HOk X.prog X.w H s.heap
 len:σ.length=X.N.length
section
variable {X:Cx}{pins:List (Addr×Obj)}{σ:List (Option V)}{H H':Hp}{s:Shared}{h':Heap}
theorem Cx.Ok.nofr (ok:X.Ok){b:Addr}{o:Obj}(e:X.base.get? b=some o):b∉X.fs:=λhb=>by
 have:=(ok.funs.mem hb).1;rw[e] at this;cases this
theorem Inv.bs (I:Inv X pins σ H s):∀b o,X.base.get? b=some o->s.heap.get? b=some o∧H b=none:=λb o e =>
 ⟨I.base.keep b o (I.ok.bs b o e).1 (I.ok.bs b o e).2 (I.ok.nofr e) (I.ok.noex b o e),I.base.free b o (I.ok.bs b o e).1 (I.ok.bs b o e).2 (I.ok.noex b o e)⟩
theorem Inv.bk (I:Inv X pins σ H s):∀b o,X.base.get? b=some o->s.heap.get? b=some o:=λb o e=>(I.bs b o e).1
theorem Inv.mod (I:Inv X pins σ H s):Mod X.K X.mg X.base:=I.ok.mod
theorem Inv.kIn (I:Inv X pins σ H s):X.K.In s.heap:=I.ok.mod.kin.keeps I.bk
theorem Inv.fr (I:Inv X pins σ H s):∃m,Fr X.base X.env.locals s.heap m :=
 let ⟨m,hn,_⟩:=I.loc
 ⟨m,hn,I.bk,yua I.ok.bsz I.ok.above⟩
theorem Inv.lt (I:Inv X pins σ H s):X.env.locals<s.heap.objs.size:=let ⟨_,hn,_⟩:=I.loc;hn.lt
theorem Inv.sz (I:Inv X pins σ H s):X.s₀.heap.objs.size≤s.heap.objs.size:=yua I.ok.above (ymf I.lt)
theorem Inv.nofs (I:Inv X pins σ H s){a:Addr}(h:s.heap.objs.size≤a):a∉X.fs:=λhb=>by
 obtain⟨_,o,ho,_⟩:=I.ok.funs.mem hb;exact absurd (yxa (ysa ho) (yua I.sz h)) (yud _)
theorem Inv.cne (I:Inv X pins σ H s):∀x c,X.env.cells.lookup x=some c->c≠X.env.locals:=λx c e z=>by
 obtain⟨v,o,ho,hd⟩:=I.cell x c e;obtain⟨m,⟨o',es,ep,ho',hd',_⟩,_⟩:=I.loc;rw[z,ho'] at ho;cases ho;rw[hd'] at hd;cases hd
theorem Inv.funs (I:Inv X pins σ H s):s.heap.FunFrames X.base X.outer:=by
 have all:∀(l:List Env),(∀b∈frs l,b∈X.fs)->X.s₀.heap.FunFrames X.base l->s.heap.FunFrames X.base l:=by
  intro l
  induction l with
  | nil=>intro _ _;trivial
  | cons env r ih =>
   intro hs hl;obtain⟨hk,⟨L,o,hf,hn,ho,hd⟩,hr⟩:=hl;have hL:L∈X.fs:=hs L (by unfold frs;rw[ykg,hf];exact yka);obtain⟨sl,e⟩:=I.base.slot L o ho (I.ok.frf L hL) hL λz=>I.ok.exfs L z hL;exact⟨hk,⟨L,_,hf,hn,e,hd⟩,ih (λb hb=>hs b (by unfold frs;rw[ykg,hf];exact yma _ hb)) hr⟩
 exact all X.outer (λ_ hb=>hb) I.ok.funs
theorem Inv.stack (I:Inv X pins σ H s):s.heap.FunFrames X.base X.stack:=by
 rcases I.ok.stk with e|⟨e,hf⟩
 ·rw[e];exact I.funs
 ·rw[e];obtain⟨m,hn,_⟩:=I.loc;refine .cons (by rw[I.ok.kind];decide) hf hn ?_ I.funs;exact Heap.get?_none_of_le (yua I.ok.bsz I.ok.above)
theorem Inv.zvgb (I:Inv X pins σ H s):∀b∈frs X.stack,b∈X.env.locals::X.fs:=λb hb=>by
 rcases I.ok.stk with e|⟨e,hf⟩
 ·rw[e] at hb;exact yma _ hb
 ·rw[e] at hb;unfold frs at hb;rw[ykg,hf] at hb;exact hb
theorem Inv.zzkb (I:Inv X pins σ H s):∀b∈frs X.stack,H b=none:=λb hb=>by
 rcases yla.mp (I.zvgb b hb) with e|hb
 ·rw[e];exact I.free
 ·obtain⟨_,o,ho,_⟩:=I.ok.funs.mem hb;exact I.base.free b o ho (I.ok.frf b hb) λz=>I.ok.exfs b z hb
theorem Inv.step {g':Array GenState}{t':Nat}{d':Drawn}{ch:List Addr}(I:Inv X pins σ H s)
  (hch:∀b∈ch,(b∈X.ex∨X.s₀.heap.objs.size≤b)∧b≠X.env.locals∧(∀x c,X.env.cells.lookup x=some c->c≠b)∧∀p∈X.pn++pins,p.1≠b)
  (keep:∀b o,b≠X.env.locals->b∉X.fs->b∉ch->s.heap.get? b=some o->H b=none->h'.get? b=some o)
  (slot:∀b o,b≠X.env.locals->b∈X.fs->b∉ch->s.heap.get? b=some o->H b=none->∃sl,h'.get? b=some { o with slots:=sl }) (free:∀b o,b∉ch->s.heap.get? b=some o->H b=none->H' b=none)
  (there:∀b o,b∉ch->s.heap.get? b=some o->∃o',h'.get? b=some o')
  (tups:∀b xs,H b=some (.tup xs)->H' b=some (.tup xs)) (frzs:∀b o u,H b=some (.frz o u)->H' b=some (.frz o u)) (tbls:∀b ps,H b=some (.tbl ps)->∃more,H' b=some (.tbl (ps++more)))
  (ns:∀m,s.heap.Ns X.env.locals m->h'.Ns X.env.locals m) (hok:HOk X.prog X.w H' h') (hg:ygp g') :
  Inv X pins σ H' { s with heap:=h',gens:=g',drawn:=d',toks:=t' }:=by
 have neL:∀b o,X.s₀.heap.get? b=some o->b≠X.env.locals:=λb o e=>ydb (yxa (ysa e) I.ok.above);have neC:∀b o,X.s₀.heap.get? b=some o->b∉X.ex->b∉ch:=λb o e hx hb=>by
  rcases (hch b hb).1 with z|z
  ·exact hx z
  ·exact absurd (yxa (ysa e) z) (yud _)
 have cellK:∀x c,X.env.cells.lookup x=some c->∀v,s.heap.IsCell c v->h'.IsCell c v:=λx c e v ⟨o,ho,hd⟩=>by
  have nch:c∉ch:=λz=>(hch c z).2.2.1 x c e rfl
  by_cases hc:c∈X.fs
  ·obtain⟨sl,q⟩:=slot c o (I.cne x c e) hc nch ho (I.freeC x c e);exact⟨_,q,hd⟩
  ·exact⟨o,keep c o (I.cne x c e) hc nch ho (I.freeC x c e),hd⟩
 refine⟨I.ok,I.os,hg,⟨λb o e n hb hx=>?_,λb o e n hb hx=>?_,λb o e n hx=>?_,λb o e hx=>?_,λb xs e=>tups b xs (I.base.tups b xs e),λb o xs e=>frzs b o xs (I.base.frzs b o xs e),λb ps e=>?_⟩,?_,λx c e=>?_,?_,λx c e=>?_,λp hp=>?_,hok,I.len⟩
 ·exact keep b o (neL b o e) hb (neC b o e hx) (I.base.keep b o e n hb hx) (I.base.free b o e n hx)
 ·obtain⟨sl,e1⟩:=I.base.slot b o e n hb hx;obtain⟨sl',e2⟩:=slot b _ (neL b o e) hb (neC b o e hx) e1 (I.base.free b o e n hx);exact⟨sl',e2⟩
 ·obtain⟨o',e1⟩:=I.base.there b o e hx;exact free b o' (neC b o e hx) e1 (I.base.free b o e n hx)
 ·obtain⟨o',e1⟩:=I.base.there b o e hx;exact there b o' (neC b o e hx) e1
 ·obtain⟨m1,e1⟩:=I.base.tbls b ps e;obtain⟨m2,e2⟩:=tbls b _ e1;exact⟨m1++m2,by rw[e2,ytp]⟩
 ·obtain⟨m,hn,hl⟩:=I.loc;refine⟨m,ns m hn,λi x v e1 e2 e3=>?_⟩;obtain⟨u,r,l⟩:=hl i x v e1 e2 e3;refine⟨u,r,?_⟩
  rcases l with l|⟨k,c,e,z⟩
  ·exact .inl l
  ·exact .inr ⟨k,c,e,cellK x c e _ z⟩
 ·obtain⟨v,z⟩:=I.cell x c e;exact⟨v,cellK x c e v z⟩
 ·obtain⟨m,⟨o,_,_,ho,_⟩,_⟩:=I.loc;exact free _ o (λz=>(hch _ z).2.1 rfl) ho I.free
 ·obtain⟨v,o,ho,hd⟩:=I.cell x c e;exact free c o (λz=>(hch c z).2.2.1 x c e rfl) ho (I.freeC x c e)
 ·obtain⟨e,n,ne,nf,d⟩:=I.pin p hp;have nch:p.1∉ch:=λz=>(hch p.1 z).2.2.2 p hp rfl;exact⟨keep p.1 p.2 ne nf nch e n,free p.1 p.2 nch e n,ne,nf,d⟩
theorem Inv.un {t':Nat}(I:Inv X pins σ H s)(u:Un X.fs [] H H' s.heap h')(hok:HOk X.prog X.w H' h'):Inv X pins σ H' { s with heap:=h',toks:=t' }:=by
 obtain⟨m,⟨o,es,ep,ho,r⟩,_⟩:=id I.loc;obtain⟨sl,hL⟩:=u.any ho I.free (by simp);exact I.step (g':=s.gens) (d':=s.drawn) (ch:=[]) (λ_ z=>nomatch z) (λb o _ hb _ e n=>u.keep b o e n hb (by simp)) (λb o _ hb _ e n=>u.slot b o e n hb (by simp)) (λb o _ e n=>u.free b o e n (by simp)) (λb o _ e=>u.there b o e (by simp)) u.tups u.frzs u.tbls (λm' hm=>by
  obtain⟨o',es',ep',ho',r'⟩:=hm;rw[ho] at ho';cases ho';exact⟨_,es',ep',hL,r'⟩) hok I.bare
theorem Inv.call {g':Array GenState}{t':Nat}{d':Drawn}{ch:List Addr}(I:Inv X pins σ H s)(u:Un (frs X.stack) ch H H' s.heap h')(hok:HOk X.prog X.w H' h')(hg:ygp g')
  (hch:∀b∈ch,(b∈X.ex∨X.s₀.heap.objs.size≤b)∧b≠X.env.locals∧(∀x c,X.env.cells.lookup x=some c->c≠b)∧∀p∈X.pn++pins,p.1≠b) :
  Inv X pins σ H' { s with heap:=h',gens:=g',drawn:=d',toks:=t' }:=by
 obtain⟨m,⟨o,es,ep,ho,r⟩,_⟩:=id I.loc;obtain⟨sl,hL⟩:=u.any ho I.free λz=>(hch _ z).2.1 rfl;exact I.step (ch:=ch) hch (λb o hL hb hc e n=>u.keep b o e n (λz=>(yla.mp (I.zvgb b z)).elim hL hb) hc) (λb o _ _ hc e n=>u.any e n hc) (λb o hc e n=>u.free b o e n hc) (λb o hc e=>u.there b o e hc) u.tups u.frzs u.tbls (λm' hm=>by
  obtain⟨o',es',ep',ho',r'⟩:=hm;rw[ho] at ho';cases ho';exact⟨_,es',ep',hL,r'⟩) hok hg
theorem Inv.turned {t':Nat}{it:Addr}(I:Inv X pins σ H s)(k:∀b o,b≠it->s.heap.get? b=some o->h'.get? b=some o)(hn:H it=none)(hL:it≠X.env.locals)
  (h1:it∈X.ex∨X.s₀.heap.objs.size≤it) (h2:∀x c,X.env.cells.lookup x=some c->c≠it) (h3:∀p∈X.pn++pins,p.1≠it):Inv X pins σ H { s with heap:=h',toks:=t' }:=by
 have nit:∀b u,H b=some u->b≠it:=λb u e z=>by rw[z,hn] at e;cases e
 refine I.step (g':=s.gens) (d':=s.drawn) (ch:=[it]) (λb hb=>?_) (λb o _ _ hc e _=>k b o (λz=>hc (by simp[z])) e) (λb o _ _ hc e _=>⟨o.slots,k b o (λz=>hc (by simp[z])) e⟩) (λ_ _ _ _ n=>n)
  (λb o hc e=>⟨o,k b o (λz=>hc (by simp[z])) e⟩) (λ_ _ e=>e) (λ_ _ _ e=>e) (λb ps e=>⟨#[],by rw[e];simp⟩) (λm hm=>?_) (λb u e=>?_) I.bare
 ·have e:b=it:=by simpa using hb
  subst e;exact⟨h1,hL,h2,h3⟩
 ·obtain⟨o,es,ep,ho,r⟩:=hm;exact⟨o,es,ep,k _ o (yge hL) ho,r⟩
 ·refine (I.hok b u e).stay (λc v hc q=>k c v ?_ q) (λ_ q=>q) λ_ _ q=>q
  rcases hc with z|z
  ·rw[z];exact nit b u e
  ·exact nit c _ z
theorem Inv.tok (I:Inv X pins σ H s)(t:Nat):Inv X pins σ H { s with toks:=t }:=I.un (h':=s.heap) (t':=t) Un.refl I.hok
theorem Inv.kept {t':Nat}(I:Inv X pins σ H s)(k:∀b u,s.heap.get? b=some u->h'.get? b=some u):Inv X pins σ H { s with heap:=h',toks:=t' }:=I.un (Un.kept k) (I.hok.kept k)
theorem Inv.laid {a:Addr}{o:HO}{t':Nat}(I:Inv X pins σ H s)(k:∀b u,s.heap.get? b=some u->h'.get? b=some u)(hp:s.heap.objs.size≤a)(new:zgg X.prog X.w (upd H a o) h' a o) :
  Inv X pins σ (upd H a o) { s with heap:=h',toks:=t' }:=I.un (Un.laid k hp (I.hok.fresh hp)) (I.hok.laid k hp new)
theorem Inv.write {x e:Addr}{o:HO}{t':Nat}(I:Inv X pins σ H s)(mu:Mut (H x))(he:e=x∨H e=some (.own x))(k:∀b u,b≠e->s.heap.get? b=some u->h'.get? b=some u)(heo:∃u,h'.get? e=some u)
  (new:zgg X.prog X.w (upd H x o) h' x o):Inv X pins σ (upd H x o) { s with heap:=h',toks:=t' }:=I.un (Un.write mu he k heo) (I.hok.write mu he k heo new)
theorem Inv.weak {σ':List (Option V)}(I:Inv X pins σ H s)(hl:σ'.length=σ.length)(w:∀(i:Nat) v,σ'[i]?=some (some v)->σ[i]?=some (some v)):Inv X pins σ' H s :=
 ⟨I.ok,I.os,I.bare,I.base,let ⟨m,hn,hl'⟩:=I.loc;⟨m,hn,λi x v e1 e2 e3=>hl' i x v e1 (w i v e2) e3⟩,I.cell,I.free,I.freeC,I.pin,I.hok,hl.trans I.len⟩
theorem Inv.zxs {pins':List (Addr×Obj)}(I:Inv X pins σ H s)(h:∀p∈pins',s.heap.get? p.1=some p.2∧H p.1=none∧p.1≠X.env.locals∧p.1∉X.fs∧∀v,p.2.data ≠ .cell v):Inv X pins' σ H s :=
 ⟨I.ok,I.os,I.bare,I.base,I.loc,I.cell,I.free,I.freeC,λp hp=>(yeb.mp hp).elim (λz=>I.pin p (ync _ z)) (h p),I.hok,I.len⟩
theorem zjhb {N:List Str}(hN:N.Nodup){i j:Nat}{x:Str}(a:N[i]?=some x)(b:N[j]?=some x):i=j:=by
 obtain⟨h1,e1⟩:=yia.mp a;obtain⟨h2,e2⟩:=yia.mp b;exact (yvr hN).mp (e1.trans e2.symm)
theorem zeab {M:Model}{A:Around}{E:Value->Shared->Prop}{i:Nat}{x:Str}{v:V}{u:Value}{Q:Unit->Shared->Prop}(I:Inv X pins σ H s)(hN:X.N.Nodup)(hi:X.N[i]?=some x)(hx:Loc X.env.scope x)(r:RelV v u)
  (h:∀s',Inv X pins (σ.set i (some v)) H s'->(∃a,yfd a s.heap s'.heap∧(a=X.env.locals∨X.env.cells.lookup x=some a))->Q () s') (hf:X.fn x=true∨X.env.scope.names.lookup x=some .local:=by first|exact .inl rfl|exact .inr rfl|assumption):wpAny M A (storeName X.env x u) Q E s:=by
 obtain⟨m,hn,hl⟩:=id I.loc;have hcls:(X.env.scope.kind == .class||(X.env.scope.kind == .module&&X.env.locals != X.env.globals))=false:=by rw[I.ok.kind];rfl
 have hiσ:i<σ.length:=by rw[I.len];exact (yia.mp hi).1
 have cne:=I.cne;have tracked:∀{a:Addr} {h':Heap},(∃o,s.heap.get? a=some o∧H a=none)->yfd a s.heap h'->HOk X.prog X.w H h':=λ{a h'} ha hs b ob e=>by
  obtain⟨_,_,hfree⟩:=ha;refine (I.hok b ob e).stay (λc w' hc q=>(hs.2 c ?_).trans q) (λ_ q=>q) λ_ _ q=>q;rintro rfl
  rcases hc with rfl|hc
  ·rw[hfree] at e;cases e
  ·rw[hfree] at hc;cases hc
 rcases hx with hk|hk
 ·refine wpAny_storeName_local hk hn (λh' hn' hs=>?_) hcls;obtain⟨oL,_,_,hoL,_⟩:=id hn;refine h _ ⟨I.ok,I.os,I.bare,⟨λb o e n hb hx=>?_,λb o e n hb hx=>?_,I.base.free,λb o e hx=>?_,I.base.tups,I.base.frzs,I.base.tbls⟩,⟨_,hn',λj y v' e1 e2 e3=>?_⟩,λy c e=>?_,I.free,I.freeC,λp hp=>?_,tracked ⟨oL,hoL,I.free⟩ hs,by simpa using I.len⟩ ⟨_,hs,.inl rfl⟩
  ·exact (hs.2 b (ydb (yxa (ysa e) I.ok.above))).trans (I.base.keep b o e n hb hx)
  ·obtain⟨sl,e1⟩:=I.base.slot b o e n hb hx;exact⟨sl,(hs.2 b (ydb (yxa (ysa e) I.ok.above))).trans e1⟩
  ·obtain⟨o',e1⟩:=I.base.there b o e hx;exact⟨o',(hs.2 b (ydb (yxa (ysa e) I.ok.above))).trans e1⟩
  ·by_cases hj:j=i
   ·subst hj;rw[hi] at e1;cases e1;rw[yyi hiσ] at e2;cases e2;exact⟨u,r,.inl ⟨hk,by simp⟩⟩
   ·rw[ywo (yge hj)] at e2;obtain⟨u',r',q⟩:=hl j y v' e1 e2 e3;refine⟨u',r',?_⟩
    rcases q with⟨k,e⟩|⟨k,c,e,z⟩
    ·refine .inl ⟨k,?_⟩;have:y≠x:=λe=>hj (zjhb hN e1 (e▸hi));simp[this,e]
    ·exact .inr ⟨k,c,e,z.sameBut hs (cne y c e)⟩
  ·obtain⟨w',z⟩:=I.cell y c e;exact⟨w',z.sameBut hs (cne y c e)⟩
  ·obtain⟨e,n,ne,nf,d⟩:=I.pin p hp;exact⟨(hs.2 p.1 ne).trans e,n,ne,nf,d⟩
 ·have hfn:X.fn x=true:=by
   rcases hf with z|z
   ·exact z
   ·rw[z] at hk;cases hk
  obtain⟨c,hc⟩:=I.ok.has x (.inl hk);obtain⟨w',z⟩:=I.cell x c hc;refine wpAny_storeName_cell I.ok.kind hk hc z (λh' hc' hs=>?_);obtain⟨oc,hoc,hocd⟩:=id z;refine h { s with heap:=h' } ⟨I.ok,I.os,I.bare,⟨λb o e n hb hx=>?_,λb o e n hb hx=>?_,I.base.free,λb o e hx=>?_,I.base.tups,I.base.frzs,I.base.tbls⟩,⟨m,hn.sameBut hs (yge (cne x c hc)),λj y v' e1 e2 e3=>?_⟩,λy c' e=>?_,I.free,I.freeC,λp hp=>?_,tracked ⟨oc,hoc,I.freeC x c hc⟩ hs,by simpa using I.len⟩ ⟨c,hs,.inr hc⟩
  ·exact (hs.2 b (ydb (yxa (ysa e) (I.ok.cab x c hfn hc)))).trans (I.base.keep b o e n hb hx)
  ·obtain⟨sl,e1⟩:=I.base.slot b o e n hb hx;exact⟨sl,(hs.2 b (ydb (yxa (ysa e) (I.ok.cab x c hfn hc)))).trans e1⟩
  ·obtain⟨o',e1⟩:=I.base.there b o e hx;exact⟨o',(hs.2 b (ydb (yxa (ysa e) (I.ok.cab x c hfn hc)))).trans e1⟩
  ·by_cases hj:j=i
   ·subst hj;rw[hi] at e1;cases e1;rw[yyi hiσ] at e2;cases e2;exact⟨u,r,.inr ⟨.inl hk,c,hc,hc'⟩⟩
   ·rw[ywo (yge hj)] at e2;obtain⟨u',r',q⟩:=hl j y v' e1 e2 e3;refine⟨u',r',?_⟩
    rcases q with q|⟨k,c',e,z'⟩
    ·exact .inl q
    ·refine .inr ⟨k,c',e,z'.sameBut hs ?_⟩;rintro rfl;exact hj (zjhb hN e1 (I.ok.inj _ _ _ e hc▸hi))
  ·by_cases hcc:c'=c
   ·subst hcc;exact⟨_,hc'⟩
   ·obtain⟨w2,z2⟩:=I.cell y c' e;exact⟨w2,z2.sameBut hs hcc⟩
  ·obtain⟨e,n,ne,nf,d⟩:=I.pin p hp;refine⟨(hs.2 p.1 ?_).trans e,n,ne,nf,d⟩;intro q;rw[q,hoc] at e;have q':oc=p.2:=yec e;exact d w' (by rw[← q'];exact hocd)
theorem zbx {M:Model}{A:Around}{E:Value->Shared->Prop}{i:Nat}{x:Str}{v:V}{u:Value}{Q:Unit->Shared->Prop}(I:Inv X pins σ H s)(hN:X.N.Nodup)(hi:X.N[i]?=some x)(hx:Loc X.env.scope x)(r:RelV v u)
  (h:∀s',Inv X pins (σ.set i (some v)) H s'->Q () s') (hf:X.fn x=true∨X.env.scope.names.lookup x=some .local:=by first|exact .inl rfl|exact .inr rfl|assumption):wpAny M A (storeName X.env x u) Q E s :=
 zeab I hN hi hx r (λs' I' _=>h s' I') hf
end
abbrev XK:=Value->Option Addr->Hp->Prop
abbrev St:=List (Option V)
abbrev VK:=V->Hp->Prop
abbrev TE:=St->Hp->VK->Prop
abbrev TT:=St->Hp->(Bool->Hp->Prop)->Prop
abbrev TA:=St->Hp->(List V->Hp->Prop)->Prop
structure Ends where
 nx:St->Hp->Prop
 rt:VK
 bk:St->Hp->Prop:=λ_ _=>False
 ct:St->Hp->Prop:=λ_ _=>False
abbrev TS:=Ends->St->Hp->Prop
def EP (X:Cx)(pins:List (Addr×Obj))(σ:St)(Q:VK)(u:Value)(s':Shared):Prop:=Ex2 λv H'=>Inv X pins σ H' s'∧RelV v u∧Q v H'
def TP (X:Cx)(pins:List (Addr×Obj))(σ:St)(Q:Bool->Hp->Prop)(b:Bool)(s':Shared):Prop:=∃H',Inv X pins σ H' s'∧Q b H'
def AP (X:Cx)(pins:List (Addr×Obj))(σ:St)(Q:List V->Hp->Prop)(us:List Value)(s':Shared):Prop:=Ex2 λvs H'=>Inv X pins σ H' s'∧Vals vs us∧Q vs H'
def SP (X:Cx)(pins:List (Addr×Obj))(D:Ends)(f:Flow)(s':Shared):Prop :=
 match f with
 | .next=>∃ σ' H',Inv X pins σ' H' s'∧D.nx σ' H'
 | .brk=>∃ σ' H',Inv X pins σ' H' s'∧D.bk σ' H'
 | .cont=>∃ σ' H',Inv X pins σ' H' s'∧D.ct σ' H'
 | .ret u=>∃v σ' H',Inv X pins σ' H' s'∧RelV v u∧D.rt v H'
def PE (X:Cx)(e:Expr)(t:TE):Prop :=
 ∀(pins:List (Addr×Obj)) (s:Shared) (σ:St) (H:Hp) (Q:VK),Inv X pins σ H s->t σ H Q->wpAny (model X.prog X.w) X.A (eval e X.env) (EP X pins σ Q) X.xe s
def PT (X:Cx)(e:Expr)(t:TT):Prop :=
 ∀(pins:List (Addr×Obj)) (s:Shared) (σ:St) (H:Hp) (Q:Bool->Hp->Prop),Inv X pins σ H s->t σ H Q->wpAny (model X.prog X.w) X.A (isTrue e X.env (eval e X.env)) (TP X pins σ Q) X.xe s
def PW (X:Cx)(e:Expr)(t:TT):Prop :=
 ∀(whole:Sem Value) (pins:List (Addr×Obj)) (s:Shared) (σ:St) (H:Hp) (Q:Bool->Hp->Prop),Inv X pins σ H s->t σ H Q->wpAny (model X.prog X.w) X.A (isTrue e X.env whole) (TP X pins σ Q) X.xe s
theorem PW.pt {X:Cx}{e:Expr}{t:TT}(h:PW X e t):PT X e t:=h _
def PA (X:Cx)(es:List Expr)(t:TA):Prop :=
 ∀(pos:Pos) (pins:List (Addr×Obj)) (s:Shared) (σ:St) (H:Hp) (Q:List V->Hp->Prop),Inv X pins σ H s->t σ H Q->wpAny (model X.prog X.w) X.A (spliced (backTo pos (ywc es X.env))) (AP X pins σ Q) X.xe s
def PS (X:Cx)(st:Stmt)(t:TS):Prop :=
 ∀(pins:List (Addr×Obj)) (s:Shared) (σ:St) (H:Hp) (D:Ends),Inv X pins σ H s->t D σ H->wpAny (model X.prog X.w) X.A (exec st X.env) (SP X pins D) X.xe s
def PSs (X:Cx)(st:List Stmt)(t:TS):Prop :=
 ∀(pins:List (Addr×Obj)) (s:Shared) (σ:St) (H:Hp) (D:Ends),Inv X pins σ H s->t D σ H->wpAny (model X.prog X.w) X.A (execs st X.env) (SP X pins D) X.xe s
theorem thn {α:Type}{t:Sem α}{Q Q':α->Shared->Prop}{M:Model}{A:Around}{E:Value->Shared->Prop}{s:Shared}(h:wpAny M A t Q E s)(hQ:∀a s,Q a s->Q' a s):wpAny M A t Q' E s:=ykd h hQ λ_ _ x=>x
end L2
namespace L2
open PySem PySem.Spec PyProof.Rows
section
variable {X:Cx}
def tVar (i:Nat):TE:=fun σ H Q=>∃v,σ[i]?=some (some v)∧Q v H
def tC (v:V):TE:=λ_ H Q=>Q v H
theorem zezb {i:Nat}{x:Str}{pos:Pos}(hN:X.N[i]?=some x)(hv:Vis X.env.scope x)(hd:(x==("__debug__":Str))=false:=by decide)(hcd:(x==("__classdict__":Str))=false:=by decide):PE X (.Name x pos) (tVar i):=by
 intro pins s σ H Q I h;obtain⟨v,e,h⟩:=h;obtain⟨m,hn,hl⟩:=I.loc;obtain⟨u,r,l⟩:=hl i x v hN e hv;have fin:EP X pins σ Q u s:=⟨v,H,I,r,h⟩
 rcases l with⟨hk,hm⟩|⟨hk,c,hc,hcell⟩
 ·exact wpAny_Name (wpAny_loadName_local I.ok.kind hk hn hm fin) hd
 ·rcases hk with hk|hk
  ·exact wpAny_Name (wpAny_loadName_cell I.ok.kind hk hc hcell fin) hd
  ·exact wpAny_Name (wpAny_loadName_free I.ok.kind hk hc hcell fin hcd) hd
theorem zda {i j pos}:PE X (.Constant (.int i) j pos) (tC (.int i)):=λ_ _ _ H _ I h=>wpAny_Constant_int ⟨.int i,H,I.tok _,⟨_,rfl⟩,h⟩
theorem zyib {b j pos}:PE X (.Constant (.bool b) j pos) (tC (.bl b)):=λ_ _ _ H _ I h=>Constant_bool ⟨.bl b,H,I,rfl,h⟩
theorem zat {j pos}:PE X (.Constant .none j pos) (tC .non):=λ_ _ _ H _ I h=>Constant_none ⟨.non,H,I,rfl,h⟩
theorem zpa {x j pos}:PE X (.Constant (.str x) j pos) (tC (.str x)):=λ_ _ _ H _ I h=>Calls.Constant_str ⟨.str x,H,I.tok _,⟨_,rfl⟩,h⟩
def Gl (X:Cx)(x:Str):Prop:=X.env.kindOf x=some .globalImplicit
theorem zxeb {E:Value->Shared->Prop}{pins:List (Addr×Obj)}{s:Shared}{σ:St}{H:Hp}{x:Str}{u:Value}{pos:Pos}{Q:Value->Shared->Prop}(I:Inv X pins σ H s)(hg:Gl X x)(hm:X.mg x=some u)(h:Q u s)
  (hd:(x==("__debug__":Str))=false:=by decide):wpAny (model X.prog X.w) X.A (eval (.Name x pos) X.env) Q E s :=
 yuk I.ok.kind hg (Calls.loadGlobal_global (by rw[I.ok.glob];exact I.mod.glob.keeps I.bk) hm h) hd
theorem zcw {E:Value->Shared->Prop}{pins:List (Addr×Obj)}{s:Shared}{σ:St}{H:Hp}{x:Str}{u:Value}{pos:Pos}{Q:Value->Shared->Prop}(I:Inv X pins σ H s)(hg:Gl X x)(hm:X.mg x=none)(hv:yzg x=some u)(h:Q u s)
  (hn:x ≠ "__name__":=by decide) (hd:(x==("__debug__":Str))=false:=by decide):wpAny (model X.prog X.w) X.A (eval (.Name x pos) X.env) Q E s:=by
 obtain⟨mb,h1,h2⟩:=I.mod.blt;exact yuk I.ok.kind hg (Calls.loadGlobal_builtin (by rw[I.ok.glob];exact I.mod.glob.keeps I.bk) hm (by rw[I.ok.blt];exact h1.keeps I.bk) ((h2 x hn).trans hv) h) hd
theorem zre {x:Str}{v:V}{u:Value}{pos:Pos}(hg:Gl X x)(hm:X.mg x=some u)(r:RelV v u)(hd:(x==("__debug__":Str))=false:=by decide):PE X (.Name x pos) (tC v) :=
 λ_ _ _ H _ I h=>zxeb I hg hm ⟨v,H,I,r,h⟩ hd
theorem zleb {x:Str}{v:V}{u:Value}{pos:Pos}(hg:Gl X x)(hm:X.mg x=none)(hv:yzg x=some u)(r:RelV v u)(hn:x ≠ "__name__":=by decide)(hd:(x==("__debug__":Str))=false:=by decide):PE X (.Name x pos) (tC v) :=
 λ_ _ _ H _ I h=>zcw I hg hm hv ⟨v,H,I,r,h⟩ hn hd
variable {a b:Expr}{ta tb:TE}{pos:Pos}
def PC (X:Cx)(op:CmpOp)(a b:Expr)(t:TE):Prop :=
 ∀(pins:List (Addr×Obj)) (s:Shared) (σ:St) (H:Hp) (Q:VK),Inv X pins σ H s->t σ H Q →
  wpAny (model X.prog X.w) X.A (eval a X.env) (λv s₁=>wpAny (model X.prog X.w) X.A (eval b X.env) (λu s₂=>wpAny (model X.prog X.w) X.A (yhd op v u) (EP X pins σ Q) X.xe s₂) X.xe s₁) X.xe s
def tB (t:TE):TT:=fun σ H Q=>t σ H λx H1=>∃c,x = .bl c∧Q c H1
theorem zylb {op:CmpOp}{t:TE}(h:PC X op a b t)(h1:yzj op b=false:=by first|exact nobehind _ (by decide) (by decide)|rfl):PT X (.Compare a [op] [b] pos) (tB t):=by
 intro pins s σ H Q I hw;refine yon (thn (h pins s σ H _ I hw) λv s1 h1=>thn h1 λu s2 h2=>thn h2 λc s3 ⟨x,H1,I1,r1,q1⟩=>?_) h1;obtain⟨d,rfl,q⟩:=q1;cases r1;exact yuc ⟨H1,I1,q⟩
theorem zuq {e:Expr}{t:TE}(h:PE X e t)(he:∀whole,isTrue e X.env whole=(do let v ← whole;yfs e.pos;ylm [v] (truthy v)):=by intro _;rfl):PT X e (tB t):=by
 intro pins s σ H Q I hw;refine isTrue_plain (thn (h pins s σ H _ I hw) λv s1 ⟨x,H1,I1,r1,q1⟩=>?_) (he _);obtain⟨d,rfl,q⟩:=q1;cases r1;exact yuc ⟨H1,I1,q⟩
variable {tA tB':TT}{rest:List Expr}
def tAnd (t u:TT):TT:=fun σ H Q=>t σ H λc H1=>if c=true then u σ H1 Q else Q false H1
def tOr (t u:TT):TT:=fun σ H Q=>t σ H λc H1=>if c=true then Q true H1 else u σ H1 Q
def tNot (t:TT):TT:=fun σ H Q=>t σ H λc H1=>Q (!c) H1
theorem zgeb (ha:PT X a tA):PW X (.BoolOp .And [a] pos) tA:=by
 intro wh pins s σ H Q I h;refine isTrue_and (thn (ha pins s σ H Q I h) λc s1 e=>?_);cases c with
 | true=>exact isTrue_and_nil e
 | false=>exact e
theorem zzyb (ha:PT X a tA):PW X (.BoolOp .Or [a] pos) tA:=by
 intro wh pins s σ H Q I h;refine isTrue_or (thn (ha pins s σ H Q I h) λc s1 e=>?_);cases c with
 | false=>exact isTrue_or_nil e
 | true=>exact e
theorem zwlb (ha:PT X a tA)(hb:PW X (.BoolOp .And (b::rest) pos) tB'):PW X (.BoolOp .And (a::b::rest) pos) (tAnd tA tB'):=by
 intro wh pins s σ H Q I h;refine isTrue_and (thn (ha pins s σ H _ I h) λc s1 ⟨H1,I1,q1⟩=>?_);cases c with
 | true=>exact hb wh pins s1 σ H1 Q I1 q1
 | false=>exact⟨H1,I1,q1⟩
theorem zqbc (ha:PT X a tA)(hb:PW X (.BoolOp .Or (b::rest) pos) tB'):PW X (.BoolOp .Or (a::b::rest) pos) (tOr tA tB'):=by
 intro wh pins s σ H Q I h;refine isTrue_or (thn (ha pins s σ H _ I h) λc s1 ⟨H1,I1,q1⟩=>?_);cases c with
 | true=>exact⟨H1,I1,q1⟩
 | false=>exact hb wh pins s1 σ H1 Q I1 q1
theorem zus (ha:PT X a tA):PT X (.UnaryOp .Not a pos) (tNot tA):=by
 intro pins s σ H Q I h;exact isTrue_not (ha pins s σ H (λc H1=>Q (!c) H1) I h)
def zkbc (ta tb:TE):TE:=fun σ H Q=>ta σ H λx H1=>∃c,x = .bl c∧if c=true then tb σ H1 Q else Q (.bl false) H1
def tOrV (ta tb:TE):TE:=fun σ H Q=>ta σ H λx H1=>∃c,x = .bl c∧if c=true then Q (.bl true) H1 else tb σ H1 Q
def zdbc (ta:TE):TE:=fun σ H Q=>ta σ H λx H1=>∃c,x = .bl c∧Q (.bl (!c)) H1
theorem zwab {op}{t:TE}(h:PE X a t):PE X (.BoolOp op [a] pos) t:=λpins s σ H Q I hw=>BoolOp_one (h pins s σ H Q I hw)
theorem zlmb (ha:PE X a ta)(hb:PE X (.BoolOp .And (b::rest) pos) tb):PE X (.BoolOp .And (a::b::rest) pos) (zkbc ta tb):=by
 intro pins s σ H Q I h;refine BoolOp_and (thn (ha pins s σ H _ I h) λv s1 ⟨x,H1,I1,r1,q1⟩=>?_);obtain⟨c,rfl,q1⟩:=q1;cases r1;refine yuc ?_;cases c with
 | true=>exact hb pins s1 σ H1 Q I1 q1
 | false=>exact⟨.bl false,H1,I1,rfl,q1⟩
theorem zgzb (ha:PE X a ta)(hb:PE X (.BoolOp .Or (b::rest) pos) tb):PE X (.BoolOp .Or (a::b::rest) pos) (tOrV ta tb):=by
 intro pins s σ H Q I h;refine BoolOp_or (thn (ha pins s σ H _ I h) λv s1 ⟨x,H1,I1,r1,q1⟩=>?_);obtain⟨c,rfl,q1⟩:=q1;cases r1;refine yuc ?_;cases c with
 | false=>exact hb pins s1 σ H1 Q I1 q1
 | true=>exact⟨.bl true,H1,I1,rfl,q1⟩
theorem zizb (ha:PE X a ta):PE X (.UnaryOp .Not a pos) (zdbc ta):=by
 intro pins s σ H Q I h;refine UnaryOp_ (thn (ha pins s σ H _ I h) λv s1 ⟨x,H1,I1,r1,q1⟩=>?_);obtain⟨c,rfl,q1⟩:=q1;cases r1;exact not_of (yuc ⟨.bl (!c),H1,I1,rfl,q1⟩)
def tIf (t:TT)(ta tb:TE):TE:=fun σ H Q=>t σ H λc H1=>if c=true then ta σ H1 Q else tb σ H1 Q
theorem zorb {c:Expr}(hc:PT X c tA)(ha:PE X a ta)(hb:PE X b tb):PE X (.IfExp c a b pos) (tIf tA ta tb):=by
 intro pins s σ H Q I h;refine wpAny_IfExp (thn (hc pins s σ H _ I h) λd s1 ⟨H1,I1,q1⟩=>?_);cases d with
 | true=>exact ha pins s1 σ H1 Q I1 q1
 | false=>exact hb pins s1 σ H1 Q I1 q1
end
end L2
namespace L2
open PySem PySem.Spec PyProof.Rows
def SqL (K:yca)(H:Hp)(a:Addr)(xs:List V):Prop :=
 Rd H a (.lst xs) ∨
  Ex3 λ(o:Obj) (its:Array Value) (n:Nat)=>K.lookup a=some o∧o.cls = .type "list" ∧ o.dict=none∧o.data = .seq its n∧its.size≤yta∧Vals xs its.toList
def SqT (K:yca)(H:Hp)(a:Addr)(xs:List V):Prop :=
 Rd H a (.tup xs) ∨
  Ex3 λ(o:Obj) (its:Array Value) (n:Nat)=>K.lookup a=some o∧o.cls = .type "tuple" ∧ o.data = .seq its n∧its.size≤yta∧Vals xs its.toList
def absV:Value->Option V
 | .none=>some .non
 | .bool b=>some (.bl b)
 | .int i _=>some (.int i)
 | .str x _=>some (.str x)
 | .bytes b _=>some (.byt b)
 | .float b _=>some (.flt b)
 | .ref a=>some (.ref a)
 | .type n=>some (.ty n)
 | _=>none
theorem RelV.abs {x:V}{u:Value}(r:RelV x u):absV u=some x:=by
 cases x with
 | non=>cases r;rfl
 | bl _=>cases r;rfl
 | int _=>obtain⟨t,rfl⟩:=r;rfl
 | str _=>obtain⟨t,rfl⟩:=r;rfl
 | byt _=>obtain⟨t,rfl⟩:=r;rfl
 | flt _=>obtain⟨t,rfl⟩:=r;rfl
 | ref _=>cases r;rfl
 | ty _=>cases r;rfl
theorem RelV.inj {x y:V}{u:Value}(r:RelV x u)(q:RelV y u):x=y:=yec (r.abs.symm.trans q.abs)
theorem Vals.inj:∀{xs ys:List V} {us:List Value},Vals xs us->Vals ys us->xs=ys
 | _,_,_,.nil,.nil=>rfl
 | _,_,_,.cons r t,.cons r' t'=>by rw[r.inj r',Vals.inj t t']
section
variable {X:Cx}{pins:List (Addr×Obj)}{σ:St}{H:Hp}{s:Shared}{a:Addr}{xs ys:List V}
theorem SqL.of {K:yca}(h:H a=some (.lst xs)):SqL K H a xs:=.inl (.inl h)
theorem SqT.of {K:yca}(h:H a=some (.tup xs)):SqT K H a xs:=.inl (.inl h)
theorem Inv.list (I:Inv X pins σ H s)(h:SqL X.K H a xs):∃its:List Value,Vals xs its∧PlainL s.heap a its.toArray∧xs.length≤yta:=by
 rcases h with h|⟨o,its,n,hk,hc,hd,hs,hz,r⟩
 ·obtain⟨z,its,n,r,e⟩:=h.ok I.hok;exact⟨its,r,⟨_,n,e,rfl,rfl,rfl⟩,z⟩
 ·refine⟨its.toList,r,⟨o,n,I.kIn a o hk,hc,hd,by simpa using hs⟩,?_⟩;have e:=r.length;simp only[yib] at e;omega
theorem Inv.tuple (I:Inv X pins σ H s)(h:SqT X.K H a xs):∃its:List Value,Vals xs its∧IsTup s.heap a its.toArray∧xs.length≤yta:=by
 rcases h with h|⟨o,its,n,hk,hc,hs,hz,r⟩
 ·obtain⟨z,its,r,p⟩:=h.ok I.hok;exact⟨its,r,p,z⟩
 ·refine⟨its.toList,r,⟨o,I.kIn a o hk,hc,n,by simpa using hs⟩,?_⟩;have e:=r.length;simp only[yib] at e;omega
theorem Inv.zbsb (I:Inv X pins σ H s)(h:SqL X.K H a xs)(h':SqL X.K H a ys):xs=ys:=by
 obtain⟨its,r,⟨o,n,e,_,_,d⟩,_⟩:=I.list h;obtain⟨its',r',⟨o',n',e',_,_,d'⟩,_⟩:=I.list h';rw[e] at e';cases e';rw[d] at d';injection d' with d1 _
 have:its=its':=by simpa using congrArg Array.toList d1
 subst this;exact r.inj r'
theorem Inv.zbab (I:Inv X pins σ H s)(h:SqT X.K H a xs)(h':SqT X.K H a ys):xs=ys:=by
 obtain⟨its,r,⟨o,e,_,n,d⟩,_⟩:=I.tuple h;obtain⟨its',r',⟨o',e',_,n',d'⟩,_⟩:=I.tuple h';rw[e] at e';cases e';rw[d] at d';injection d' with d1 _
 have:its=its':=by simpa using congrArg Array.toList d1
 subst this;exact r.inj r'
end
abbrev Cx.wish (X:Cx)(E:Value->Shared->Prop):Cx:={ X with xe:=E }
abbrev Cx.nox (X:Cx):Cx:=X.wish λ_ _=>False
theorem Cx.Ok.wish {X:Cx}(ok:X.Ok)(E:Value->Shared->Prop):(X.wish E).Ok :=
 ⟨ok.mod,ok.kind,ok.glob,ok.blt,ok.above,ok.inj,ok.has,ok.cab,ok.hd,ok.frames,ok.stk,ok.exf,ok.bs,ok.bsz,ok.noex,ok.exfs,ok.funs,ok.frf⟩
theorem Cx.Ok.zdq {X:Cx}{E:Value->Shared->Prop}(ok:(X.wish E).Ok):X.Ok :=
 ⟨ok.mod,ok.kind,ok.glob,ok.blt,ok.above,ok.inj,ok.has,ok.cab,ok.hd,ok.frames,ok.stk,ok.exf,ok.bs,ok.bsz,ok.noex,ok.exfs,ok.funs,ok.frf⟩
section
variable {X:Cx}{pins:List (Addr×Obj)}{σ:St}{H:Hp}{s:Shared}{E:Value->Shared->Prop}
theorem Inv.wish (I:Inv X pins σ H s)(E:Value->Shared->Prop):Inv (X.wish E) pins σ H s:=⟨I.ok.wish E,I.os,I.bare,I.base,I.loc,I.cell,I.free,I.freeC,I.pin,I.hok,I.len⟩
theorem Inv.zdq (I:Inv (X.wish E) pins σ H s):Inv X pins σ H s:=⟨I.ok.zdq,I.os,I.bare,I.base,I.loc,I.cell,I.free,I.freeC,I.pin,I.hok,I.len⟩
theorem SP.zdq {D:Ends}{f:Flow}{s':Shared}(h:SP (X.wish E) pins D f s'):SP X pins D f s':=by
 cases f with
 | next=>obtain⟨σ',H',I,q⟩:=h;exact⟨σ',H',I.zdq,q⟩
 | brk=>obtain⟨σ',H',I,q⟩:=h;exact⟨σ',H',I.zdq,q⟩
 | cont=>obtain⟨σ',H',I,q⟩:=h;exact⟨σ',H',I.zdq,q⟩
 | ret u=>obtain⟨v,σ',H',I,r,q⟩:=h;exact⟨v,σ',H',I.zdq,r,q⟩
theorem PSs.nox {st:List Stmt}{t:TS}(h:PSs X.nox st t):PSs X st t:=λpins s σ H D I hw =>
 ykd (h pins s σ H D (I.wish _) hw) (λ_ _ q=>q.zdq) λ_ _ z=>yhf z
end
section
variable {X:Cx}{st:Stmt}{rest:List Stmt}{t u:TS}{e:Expr}{te:TE}{pos:Pos}
def zebc:TS:=λD σ H=>D.nx σ H
def tSeq (t u:TS):TS:=λD σ H=>t { D with nx:=u D } σ H
theorem zua:PSs X [] zebc:=λ_ _ σ H _ I h=>yhk ⟨σ,H,I,h⟩
theorem zba (h1:PS X st t)(h2:PSs X rest u):PSs X (st::rest) (tSeq t u):=by
 intro pins s σ H D I h;refine wpAny_execs_cons (thn (h1 pins s σ H { D with nx:=u D } I h) λf s1 q=>?_);cases f with
 | next =>
  obtain⟨σ',H',I',q⟩:=q;exact h2 pins s1 σ' H' D I' q
 | ret v=>exact q
 | brk=>exact q
 | cont=>exact q
theorem zea (h1:PS X st t):PSs X [st] t:=by
 intro pins s σ H D I h;refine wpAny_execs_cons (thn (h1 pins s σ H D I h) λf s1 q=>?_);cases f with
 | next=>exact yhk q
 | ret v=>exact q
 | brk=>exact q
 | cont=>exact q
theorem Inv.quiet {pins:List (Addr×Obj)}{σ:St}{H:Hp}{s:Shared}(I:Inv X pins σ H s):interactive X.env=false:=by simp[interactive,I.ok.kind]
def zgbc (te:TE):TS:=λD σ H=>te σ H λ_ H1=>D.nx σ H1
theorem zkf (he:PE X e te)(hs:yup e none pos.line X.env=pure false:=by rfl):PS X (.Expr e pos) (zgbc te):=by
 intro pins s σ H D I h;exact wpAny_Expr_any (thn (he pins s σ H _ I h) λv s1 ⟨x,H1,I1,r1,q1⟩=>⟨σ,H1,I1,q1⟩) I.quiet hs
def tRet (te:TE):TS:=λD σ H=>te σ H D.rt
theorem zoa (he:PE X e te):PS X (.Return (some e) pos) (tRet te):=by
 intro pins s σ H D I h;exact wpAny_Return_some (thn (he pins s σ H _ I h) λv s1 ⟨x,H1,I1,r1,q1⟩=>⟨x,σ,H1,I1,r1,q1⟩)
def tIfS (c:TT)(t u:TS):TS:=λD σ H=>c σ H λb H1=>if b=true then t D σ H1 else u D σ H1
theorem zcc {c:Expr}{a b:List Stmt}{tc:TT}(hc:PT X c tc)(ha:PSs X a t)(hb:PSs X b u):PS X (.If c a b pos) (tIfS tc t u):=by
 intro pins s σ H D I h;refine wpAny_If (thn (hc pins s σ H _ I h) λd s1 ⟨H1,I1,q1⟩=>?_);cases d with
 | true=>exact ha pins s1 σ H1 D I1 q1
 | false=>exact hb pins s1 σ H1 D I1 q1
def zdyb:TS:=λ_ _ _=>False
theorem zag:PS X st zdyb:=λ_ _ _ _ _ _ h=>h.elim
end
abbrev TG:=V->St->Hp->(St->Hp->Prop)->Prop
abbrev TGs:=List V->St->Hp->(St->Hp->Prop)->Prop
def PG (X:Cx)(target:Expr)(t:TG):Prop :=
 ∀(pins:List (Addr×Obj)) (s:Shared) (σ:St) (H:Hp) (v:V) (u:Value) (Q:St->Hp->Prop),Inv X pins σ H s->RelV v u->t v σ H Q →
  wpAny (model X.prog X.w) X.A (assign target X.env u) (λ_ s'=>∃ σ' H',Inv X pins σ' H' s'∧Q σ' H') X.xe s
def PGs (X:Cx)(ts:List Expr)(t:TGs):Prop :=
 ∀(pins:List (Addr×Obj)) (s:Shared) (σ:St) (H:Hp) (vs:List V) (us:List Value) (Q:St->Hp->Prop),Inv X pins σ H s->Vals vs us->t vs σ H Q →
  wpAny (model X.prog X.w) X.A (assignInOrder ((ydj ts X.env).map (·.2)) us) (λ_ s'=>∃ σ' H',Inv X pins σ' H' s'∧Q σ' H') X.xe s
abbrev TSet:=V->V->V->Hp->(Hp->Prop)->Prop
def PSet (X:Cx)(t:TSet):Prop :=
 ∀(pins:List (Addr×Obj)) (s:Shared) (σ:St) (H:Hp) (o i v:V) (ov iv u:Value) (Q:Hp->Prop),Inv X pins σ H s->RelV o ov->RelV i iv->RelV v u->t o i v H Q →
  wpAny (model X.prog X.w) X.A (setItem ov iv u) (λ_ s'=>∃H',Inv X pins σ H' s'∧Q H') X.xe s
abbrev TIp:=V->V->Hp->VK->Prop
def PIp (X:Cx)(op:ybs)(t:TIp):Prop :=
 ∀(pins:List (Addr×Obj)) (s:Shared) (σ:St) (H:Hp) (x y:V) (v u:Value) (Q:VK),Inv X pins σ H s->RelV x v->RelV y u->t x y H Q →
  wpAny (model X.prog X.w) X.A (inplaceOp op v u) (EP X pins σ Q) X.xe s
section
variable {X:Cx}{pos:Pos}
def zdob (i:Nat):TG:=λv σ H Q=>Q (σ.set i (some v)) H
theorem zva {i:Nat}{x:Str}(hN:X.N.Nodup)(hi:X.N[i]?=some x)(hx:Loc X.env.scope x)(hf:X.fn x=true∨X.env.scope.names.lookup x=some .local:=by first|exact .inl rfl|exact .inr rfl|assumption):PG X (.Name x pos) (zdob i):=by
 intro pins s σ H v u Q I r h;exact wpAny_assign_Name (zbx I hN hi hx r (λs' I'=>⟨_,H,I',h⟩) hf)
def gNil:TGs:=λvs σ H Q=>vs=[]∧Q σ H
def zacc (t:TG)(u:TGs):TGs:=λvs σ H Q=>Ex2 λv r=>vs=v::r∧t v σ H fun σ' H'=>u r σ' H' Q
theorem zgk:PGs X [] gNil:=by
 intro pins s σ H vs us Q I r h;obtain⟨e,h⟩:=h;subst e;cases r;exact assignInOrder_nil ⟨σ,H,I,h⟩
theorem zqb {e:Expr}{es:List Expr}{t:TG}{u:TGs}(h1:PG X e t)(h2:PGs X es u)
  (hs:(ydj (e::es) X.env).map (·.2)=assign e X.env::(ydj es X.env).map (·.2):=by rfl):PGs X (e::es) (zacc t u):=by
 intro pins s σ H vs us Q I r h;obtain⟨v,vr,e1,h⟩:=h;subst e1;cases r with
 | cons r rr =>
  rw[hs];refine assignInOrder_cons (thn (h1 pins s σ H _ _ _ I r h) λ_ s1 ⟨σ1,H1,I1,q1⟩=>?_);exact h2 pins s1 σ1 H1 _ _ Q I1 rr q1
def gTup (K:yca)(n:Nat)(t:TGs):TG:=λv σ H Q=>Ex2 λa xs=>v = .ref a∧SqT K H a xs∧xs.length=n∧t xs σ H Q
theorem zwv {es:List Expr}{k:Nat}{t:TGs}{n:Nat}(hc:X.calm=true)(h:PGs X es t)
  (hn:(ydj es X.env).length=n:=by rfl) (hst:(ydj es X.env).findIdx? (·.1)=none:=by rfl):PG X (.Tuple es k pos) (gTup X.K n t):=by
 intro pins s σ H v u Q I r hw;obtain⟨a,xs,e1,hq,hl,hw⟩:=hw;subst e1;cases r;obtain⟨its,rv,ht,hz⟩:=I.tuple hq;refine assign_Tuple_tuple (I.ok.hd hc) ht (by simp[hn,← hl,rv.length]) hst λh' hx=>?_;have I1:Inv X pins σ H { s with heap:=h' }:=I.kept (t':=s.toks) λb o e=>hx b o (ydb (ysa e)) e;exact h pins _ σ H xs _ Q I1 (by simpa using rv) hw
def gSub (to ti:TE)(t:TSet):TG:=λv σ H Q=>to σ H λo H1=>ti σ H1 λi H2=>t o i v H2 λH3=>Q σ H3
theorem zdzb {o i:Expr}{to ti:TE}{t:TSet}(ho:PE X o to)(hi:PE X i ti)(hs:PSet X t)
  (ha:∀v,assign (.Subscript o i pos) X.env v=(do
   let ov ← ylm [v] (eval o X.env)
   let iv ← ylm [v,ov] (eval i X.env)
   yfs pos
   ylm [v,ov,iv] (setItem ov iv v)
   release [v,ov,iv] []):=by intro _;rfl):PG X (.Subscript o i pos) (gSub to ti t):=by
 intro pins s σ H v u Q I r h;rw[ha];refine yaa (ymc (thn (ho pins s σ H _ I h) λov s1 ⟨x,H1,I1,r1,q1⟩=>?_));refine yaa (ymc (thn (hi pins s1 σ H1 _ I1 q1) λiv s2 ⟨y,H2,I2,r2,q2⟩=>?_));refine yaa (yvp (yaa (ymc (thn (hs pins s2 σ H2 x y v ov iv u _ I2 r1 r2 r q2) λ_ s3 ⟨H3,I3,q3⟩=>?_))));exact wpAny_release ⟨σ,H3,I3,q3⟩
def tAsg (te:TE)(g:TG):TS:=λD σ H=>te σ H λx H1=>g x σ H1 D.nx
theorem zbmb {tg e:Expr}{te:TE}{g:TG}(he:PE X e te)(hg:PG X tg g)(hs:swapsWithSole [tg] e pos.line X.env=pure false:=by rfl)(hw:swappedStores [tg] e X.env=pure none:=by rfl)
  (h1:(ydj [tg] X.env).map (·.2)=[assign tg X.env]:=by rfl):PS X (.Assign [tg] e pos) (tAsg te g):=by
 intro pins s σ H D I h;refine wpAny_Assign_stores (thn (he pins s σ H _ I h) λv s1 ⟨x,H1,I1,r1,q1⟩=>?_) hs hw;rw[h1];exact thn (hg pins s1 σ H1 x v _ I1 r1 q1) λ_ s2 q=>q
theorem zla {i:Nat}{x:Str}{e:Expr}{te:TE}{pos':Pos}(hN:X.N.Nodup)(hi:X.N[i]?=some x)(hx:Loc X.env.scope x)(he:PE X e te)(hs:yup e (some (.Name x pos')) pos.line X.env=pure false:=by rfl)(hf:X.fn x=true∨X.env.scope.names.lookup x=some .local:=by first|exact .inl rfl|exact .inr rfl|assumption) :
  PS X (.Assign [.Name x pos'] e pos) (tAsg te (zdob i)):=by
 intro pins s σ H D I h;refine wpAny_Assign_Name (thn (he pins s σ H _ I h) λv s1 ⟨y,H1,I1,r1,q1⟩=>?_) hs;exact zbx I1 hN hi hx r1 (λs2 I2=>⟨_,H1,I2,q1⟩) hf
def tAug (i:Nat)(te:TE)(ti:TIp):TS:=λD σ H=>∃x,σ[i]?=some (some x)∧te σ H λy H1=>ti x y H1 λz H2=>D.nx (σ.set i (some z)) H2
theorem zazb {i:Nat}{x:Str}{e:Expr}{te:TE}{op:ybs}{ti:TIp}{pos':Pos}(hN:X.N.Nodup)(hi:X.N[i]?=some x)(hx:Loc X.env.scope x)(he:PE X e te)(ho:PIp X op ti)(hf:X.fn x=true∨X.env.scope.names.lookup x=some .local:=by first|exact .inl rfl|exact .inr rfl|assumption) :
  PS X (.AugAssign (.Name x pos') op e pos) (tAug i te ti):=by
 intro pins s σ H D I h;obtain⟨v,e1,h⟩:=h;obtain⟨m,hn,hl⟩:=I.loc;have vis:Vis X.env.scope x:=by rcases hx with k|k;exact .inl k;exact .inr (.inl k)
 obtain⟨u,r,l⟩:=hl i x v hi e1 vis;refine wpAny_AugAssign_Name ?_;have go:wpAny (model X.prog X.w) X.A (eval e X.env) (λw s₂=>wpAny (model X.prog X.w) X.A (inplaceOp op u w) (λr s₃=>wpAny (model X.prog X.w) X.A (storeName X.env x r) (λ_=>SP X pins D .next) X.xe s₃) X.xe s₂) X.xe s:=by
  refine thn (he pins s σ H _ I h) λw s1 ⟨y,H1,I1,r1,q1⟩=>?_;refine thn (ho pins s1 σ H1 v y u w _ I1 r r1 q1) λz s2 ⟨zv,H2,I2,r2,q2⟩=>?_;exact zbx I2 hN hi hx r2 (λs3 I3=>⟨_,H2,I3,q2⟩) hf
 rcases l with⟨hk,hm⟩|⟨hk,c,hc,hcell⟩
 ·exact wpAny_loadName_local I.ok.kind hk hn hm go
 ·rcases hk with hk|hk
  ·exact wpAny_loadName_cell I.ok.kind hk hc hcell go
  ·rcases hx with k|k
   ·have:X.env.scope.names.lookup x=some .free:=hk;rw[k] at this;cases this
   ·have:X.env.scope.names.lookup x=some .free:=hk;rw[k] at this;cases this
def ipI (f:Int->Int->Int):TIp:=λx y H Q=>Ex2 λi j=>x = .int i∧y = .int j∧Q (.int (f i j)) H
theorem zmac:PIp X .Add (ipI λi j=>i+j):=by
 intro pins s σ H x y v u Q I r1 r2 h;obtain⟨i,j,e1,e2,q⟩:=h;subst e1;subst e2;obtain⟨t,rfl⟩:=r1;obtain⟨t',rfl⟩:=r2;exact iadd_int ⟨.int _,H,I.tok _,⟨_,rfl⟩,q⟩
end
section
variable {X:Cx}{pos:Pos}
def zbyb (c:TT)(tb:TS):TS:=λD σ H=>∃W:Nat->St->Hp->Prop,(∃m,W m σ H)∧∀m σ H,W m σ H →
 c σ H λb H1=>if b=true then ∃N:St->Hp->Prop,(∀ σ' H',N σ' H'->∃m',m'<m∧W m' σ' H')∧tb { D with nx:=N,ct:=N,bk:=D.nx } σ H1 else D.nx σ H1
theorem zox {c:Expr}{body:List Stmt}{tc:TT}{tb:TS}(hp:PassesOwn (model X.prog X.w) X.A X.env X.xe)(hc:PT X c tc)(hb:PSs X body tb):PS X (.While c body [] pos) (zbyb tc tb):=by
 intro pins s σ H D I h;obtain⟨W,⟨m0,w0⟩,turn⟩:=h;refine wpAny_While (codeAny_whileLoop (λn s'=>∃ σ' H',Inv X pins σ' H' s'∧W n σ' H') ?_ m0 ⟨σ,H,I,w0⟩);rintro n s1 ⟨σ1,H1,I1,w1⟩;refine ywf hp (thn (hc pins s1 σ1 H1 _ I1 (turn n σ1 H1 w1)) λb s2 ⟨H2,I2,q2⟩=>?_);cases b with
 | true =>
  obtain⟨N,hN,q2⟩:=q2;rw[if_pos rfl];refine ywf hp (thn (hb pins s2 σ1 H2 _ I2 q2) λf s3 q3=>?_);cases f with
  | next =>
   obtain⟨σ3,H3,I3,n3⟩:=q3;obtain⟨m',hm,w3⟩:=hN σ3 H3 n3;exact⟨m',hm,σ3,H3,I3,w3⟩
  | cont =>
   obtain⟨σ3,H3,I3,n3⟩:=q3;obtain⟨m',hm,w3⟩:=hN σ3 H3 n3;exact⟨m',hm,σ3,H3,I3,w3⟩
  | brk=>exact q3
  | ret v=>exact q3
 | false =>
  rw[if_neg yab];exact yhk ⟨σ1,H2,I2,q2⟩
end
structure It where
 go:Nat->Hp->Prop
 yld:Nat->Hp->V->Hp->Prop
 stop:Nat->Hp->Prop
def FpOk (X:Cx)(pins:List (Addr×Obj))(H:Hp)(b:Addr):Prop :=
 H b=none∧b≠X.env.locals∧b∉X.fs∧(b∈X.ex∨X.s₀.heap.objs.size≤b)∧(∀x c,X.env.cells.lookup x=some c->c≠b)∧∀p∈X.pn++pins,p.1≠b
theorem Inv.fpOk {X:Cx}{pins:List (Addr×Obj)}{σ:St}{H H':Hp}{s:Shared}{b:Addr}(I:Inv X pins σ H s)(hb:s.heap.objs.size≤b)(hn:H' b=none):FpOk X pins H' b:=by
 refine⟨hn,yfg (yxa I.lt hb),I.nofs hb,.inr (yua I.sz hb),λx c e z=>?_,λp hp z=>?_⟩
 ·obtain⟨v,q⟩:=I.cell x c e;exact absurd (yxa q.lt (by rw[z];exact hb)) (yud _)
 ·exact absurd (yxa (ysa (I.pin p hp).1) (by rw[z];exact hb)) (yud _)
structure Turn (P:yqb)(w:World)(K:yca)(tg:Expr)(J:It)(fp:List Addr)(it:Addr)(tn:Nat->Heap->Prop):Prop where
 mem:it∈fp
 obj:∀i h,tn i h->∀b∈fp,∃o,h.get? b=some o∧∀v,o.data ≠ .cell v
 keep:∀i h h',tn i h->(∀b∈fp,∀o,h.get? b=some o->h'.get? b=some o)->tn i h'
 item:∀(X:Cx),X.prog=P->X.w=w->X.K=K->X.calm=true->∀(i:Nat) (pins:List (Addr×Obj)) (s:Shared) (σ:St) (H:Hp) (E:Value->Shared->Prop),Inv X pins σ H s->(∀b∈fp,FpOk X pins H b)->tn i s.heap->J.go i H →
  wpAny (model P w) X.A (pyNext (.ref it)) (λr s1=>∃u,r=some u ∧
   wpAny (model P w) X.A (yik tg (.ref it) u) (λ_ s2=>Ex2 λx H'=>Inv X pins σ H' s2∧RelV x u∧J.yld i H x H'∧tn (i+1) s2.heap∧∀b∈fp,H' b=none) E s1) E s
 done:∀(X:Cx),X.prog=P->X.w=w->X.K=K->X.calm=true->∀(i:Nat) (pins:List (Addr×Obj)) (s:Shared) (σ:St) (H:Hp) (E:Value->Shared->Prop),Inv X pins σ H s->(∀b∈fp,FpOk X pins H b)->tn i s.heap->J.stop i H →
  wpAny (model P w) X.A (pyNext (.ref it)) (λr s1=>r=none∧Inv X pins σ H s1) E s
 self:∀(A:Around) (i:Nat) (s:Shared) (Q:Value->Shared->Prop) (E:Value->Shared->Prop),tn i s.heap->Q (.ref it) s->wpAny (model P w) A (pyIter (.ref it)) Q E s
abbrev TI:=St->Hp->(It->Hp->Prop)->Prop
def PIE (X:Cx)(pins:List (Addr×Obj))(σ:St)(tg:Expr)(R:It->Hp->Prop)(itv:Value)(s2:Shared):Prop :=
 Ex5 λ(it:Addr) (fp:List Addr) (tn:Nat->Heap->Prop) (J:It) (H':Hp)=>itv = .ref it∧Inv X pins σ H' s2∧Turn X.prog X.w X.K tg J fp it tn∧tn 0 s2.heap∧(∀b∈fp,FpOk X pins H' b)∧R J H'
def PI (X:Cx)(tg iter:Expr)(wi:TI):Prop :=
 ∀(pins:List (Addr×Obj)) (s:Shared) (σ:St) (H:Hp) (R:It->Hp->Prop),Inv X pins σ H s->wi σ H R →
  wpAny (model X.prog X.w) X.A (eval iter X.env) (λv s1=>wpAny (model X.prog X.w) X.A (pyIter v) (PIE X pins σ tg R) X.xe s1) X.xe s
theorem zujb {M:Model}{A:Around}{E:Value->Shared->Prop}{s:Shared}{tg:Expr}{it:Addr}{u:Value}{o:Obj}{n:String}{vs:Array Value}{Q:Unit->Shared->Prop}(ho:s.heap.get? it=some o)(hc:o.cls = .type n)(hd:o.data = .fields vs)
  (hn:["enumerate","zip","dict_itemiterator","dict_reverseitemiterator","odict_iterator","itertools.zip_longest","itertools.pairwise"].contains n=false) (hQ:Q () s):wpAny M A (yik tg (.ref it) u) Q E s:=by
 unfold yik;cases tg<;>first
  | exact yda hQ
  | (cases u<;>first
    | exact yda hQ
    | (refine yaa (yoq ho ?_)
       rw[hc,hd];show wpAny M A (if (["enumerate","zip","dict_itemiterator","dict_reverseitemiterator","odict_iterator","itertools.zip_longest","itertools.pairwise"].contains n&&vs[0]?==some (rawInt _))=true then _ else _) Q E s
       rw[if_neg (by intro h;rw[hn,yse] at h;cases h)];exact yda hQ))
def Itl (K:yca)(a:Addr):It :=
 ⟨λi H=>Ex2 λxs x=>SqL K H a xs∧xs[i]?=some x,λi H x H'=>H'=H∧∀xs,SqL K H a xs->xs[i]?=some x,λi H=>∃xs,SqL K H a xs∧xs.length≤i⟩
def Itt (K:yca)(a:Addr):It :=
 ⟨λi H=>Ex2 λxs x=>SqT K H a xs∧xs[i]?=some x,λi H x H'=>H'=H∧∀xs,SqT K H a xs->xs[i]?=some x,λi H=>∃xs,SqT K H a xs∧xs.length≤i⟩
def Itr (lo:Int)(n:Nat):It:=⟨λi _=>i<n,λi H x H'=>H'=H∧x = .int (lo+i),λi _=>n≤i⟩
theorem zxkb {P:yqb}{w:World}{K:yca}{tg:Expr}(a it:Addr):Turn P w K tg (Itl K a) [it] it (λi h=>h.IsListIter it a i) where
 mem:=by simp
 obj:=λi h st b hb=>by
  have e:b=it:=by simpa using hb
  subst e;obtain⟨o,e,c,d⟩:=st;exact⟨o,e,λv z=>by rw[d] at z;cases z⟩
 keep:=λi h h' st k=>st.at λo e=>k it (by simp) o e
 item:=by
  intro X hP hw hK hc i pins s σ H E I hf st hg;subst hP hw hK;obtain⟨xs,x,hq,hx⟩:=hg;obtain⟨its,rv,p,hz⟩:=I.list hq;obtain⟨u,hu,ru⟩:=rv.get hx;obtain⟨f0,f1,f2,f3,f4,f5⟩:=hf it (by simp);refine wpAny_pyNext_list_item st p.isList (x:=u) (by simpa using hu) λh' st' sb=>?_;have I1:Inv X pins σ H { s with heap:=h' }:=I.turned (t':=s.toks) (λb o hb e=>(sb.2 b hb).trans e) f0 f1 f3 f4 f5;obtain⟨o,e,c,d⟩:=id st';exact⟨u,rfl,zujb (s:={ s with heap:=h' }) e c d (by decide) ⟨x,H,I1,ru,⟨rfl,λys hy=>by rw[I.zbsb hy hq];exact hx⟩,st',λb hb=>(hf b hb).1⟩⟩
 done:=by
  intro X hP hw hK hc i pins s σ H E I hf st hg;subst hP hw hK;obtain⟨xs,hq,hx⟩:=hg;obtain⟨its,rv,p,hz⟩:=I.list hq;obtain⟨f0,f1,f2,f3,f4,f5⟩:=hf it (by simp);have hl:=rv.length;exact wpAny_pyNext_list_end (I.ok.hd hc) st p.isList (by simp;omega) λh' eb=>⟨rfl,I.turned (t':=s.toks) (λb o hb e=>eb b o hb e) f0 f1 f3 f4 f5⟩
 self:=λ_ _ _ _ _ st h=>wpAny_pyIter_listiter st h
theorem zgib {P:yqb}{w:World}{K:yca}{tg:Expr}(a it:Addr):Turn P w K tg (Itt K a) [it] it (λi h=>h.IsTupleIter it a i) where
 mem:=by simp
 obj:=λi h st b hb=>by
  have e:b=it:=by simpa using hb
  subst e;obtain⟨o,e,c,d⟩:=st;exact⟨o,e,λv z=>by rw[d] at z;cases z⟩
 keep:=λi h h' st k=>st.at λo e=>k it (by simp) o e
 item:=by
  intro X hP hw hK hc i pins s σ H E I hf st hg;subst hP hw hK;obtain⟨xs,x,hq,hx⟩:=hg;obtain⟨its,rv,p,hz⟩:=I.tuple hq;obtain⟨u,hu,ru⟩:=rv.get hx;obtain⟨f0,f1,f2,f3,f4,f5⟩:=hf it (by simp);refine wpAny_pyNext_tuple_item st (show s.heap.IsTuple a its.toArray from p) (x:=u) (by simpa using hu) λh' st' sb=>?_;have I1:Inv X pins σ H { s with heap:=h' }:=I.turned (t':=s.toks) (λb o hb e=>(sb.2 b hb).trans e) f0 f1 f3 f4 f5;obtain⟨o,e,c,d⟩:=id st';exact⟨u,rfl,zujb (s:={ s with heap:=h' }) e c d (by decide) ⟨x,H,I1,ru,⟨rfl,λys hy=>by rw[I.zbab hy hq];exact hx⟩,st',λb hb=>(hf b hb).1⟩⟩
 done:=by
  intro X hP hw hK hc i pins s σ H E I hf st hg;subst hP hw hK;obtain⟨xs,hq,hx⟩:=hg;obtain⟨its,rv,p,hz⟩:=I.tuple hq;obtain⟨f0,f1,f2,f3,f4,f5⟩:=hf it (by simp);have hl:=rv.length;exact wpAny_pyNext_tuple_end (I.ok.hd hc) st (show s.heap.IsTuple a its.toArray from p) (by simp;omega) λh' eb=>⟨rfl,I.turned (t':=s.toks) (λb o hb e=>eb b o hb e) f0 f1 f3 f4 f5⟩
 self:=λ_ _ _ _ _ st h=>wpAny_pyIter_tupleiter st h
theorem ziib {P:yqb}{w:World}{K:yca}{tg:Expr}(it:Addr)(lo:Int)(n:Nat):Turn P w K tg (Itr lo n) [it] it (λi h=>IsRangeIter h it (lo+(i:Nat)*1) ((n:Int)-(i:Nat)) 1) where
 mem:=by simp
 obj:=λi h st b hb=>by
  have e:b=it:=by simpa using hb
  subst e;exact⟨_,st,λv z=>by
   have z':Data.fields _=Data.cell v:=z;cases z'⟩
 keep:=λi h h' st k=>k it (by simp) _ st
 item:=by
  intro X hP hw hK hc i pins s σ H E I hf st hg;subst hP hw hK;obtain⟨f0,f1,f2,f3,f4,f5⟩:=hf it (by simp);have W:=Walks.range (prog:=X.prog) (w:=X.w) (I.ok.hd hc) it lo 1 n;refine W.item i s _ _ hg st λv h' tk hv st' kk=>?_;obtain⟨t,rfl⟩:=hv;have I1:Inv X pins σ H { s with heap:=h',toks:=tk }:=I.turned (λb o hb e=>kk b o (by simpa using hb) e) f0 f1 f3 f4 f5;refine⟨_,rfl,zujb (s:={ s with heap:=h',toks:=tk }) (n:="range_iterator") st' rfl rfl (by decide) ⟨.int (lo+i),H,I1,⟨t,?_⟩,⟨rfl,rfl⟩,st',λb hb=>(hf b hb).1⟩⟩;rw[Int.mul_one]
 done:=by
  intro X hP hw hK hc i pins s σ H E I hf st hg;subst hP hw hK;obtain⟨f0,f1,f2,f3,f4,f5⟩:=hf it (by simp);exact wpAny_pyNext_range_end (I.ok.hd hc) st (by have:n≤i:=hg;omega) λh' eb=>⟨rfl,I.turned (t':=s.toks) (λb o hb e=>eb b o hb e) f0 f1 f3 f4 f5⟩
 self:=λ_ _ _ _ _ st h=>wpAny_pyIter_rangeiter st h
end L2
namespace L2
open PySem PySem.Spec PyProof.Rows
section
variable {X:Cx}{tg:Expr}
def zxbc (K:yca)(tl:TE):TI:=fun σ H R=>tl σ H λx H1=>∃a,x = .ref a∧(∃xs,SqL K H1 a xs)∧R (Itl K a) H1
def iTup (K:yca)(tl:TE):TI:=fun σ H R=>tl σ H λx H1=>∃a,x = .ref a∧(∃xs,SqT K H1 a xs)∧R (Itt K a) H1
theorem zgd {l:Expr}{tl:TE}(hl:PE X l tl):PI X tg l (zxbc X.K tl):=by
 intro pins s σ H R I h;refine thn (hl pins s σ H _ I h) λv s1 ⟨x,H1,I1,r1,q1⟩=>?_;obtain⟨a,e,⟨xs,hq⟩,q⟩:=q1;subst e;cases r1;obtain⟨its,rv,p,hz⟩:=I1.list hq;refine ymh p.isList ?_;refine⟨s1.heap.objs.size,[s1.heap.objs.size],_,_,H1,rfl,I1.kept (t':=s1.toks) λb o e=>yba _ e,zxkb a _,⟨_,yna _ rfl,rfl,rfl⟩,λb hb=>?_,q⟩;have e:b=s1.heap.objs.size:=by simpa using hb
 subst e;exact I1.fpOk (yha _) (I1.hok.fresh (yha _))
theorem zstb {l:Expr}{tl:TE}(hl:PE X l tl):PI X tg l (iTup X.K tl):=by
 intro pins s σ H R I h;refine thn (hl pins s σ H _ I h) λv s1 ⟨x,H1,I1,r1,q1⟩=>?_;obtain⟨a,e,⟨xs,hq⟩,q⟩:=q1;subst e;cases r1;obtain⟨its,rv,p,hz⟩:=I1.tuple hq;refine ywg (show s1.heap.IsTuple a its.toArray from p) ?_;refine⟨s1.heap.objs.size,[s1.heap.objs.size],_,_,H1,rfl,I1.kept (t':=s1.toks) λb o e=>yba _ e,zgib a _,⟨_,yna _ rfl,rfl,rfl⟩,λb hb=>?_,q⟩;have e:b=s1.heap.objs.size:=by simpa using hb
 subst e;exact I1.fpOk (yha _) (I1.hok.fresh (yha _))
theorem zgrb {pins:List (Addr×Obj)}{σ:St}{H:Hp}{s:Shared}{R:It->Hp->Prop}{E:Value->Shared->Prop}{lo hi:Int}{t u v:Tok}{tk:Nat}(I:Inv X pins σ H s)(h1:-(2 ^ 62)≤lo)(h2:lo<2 ^ 62)(h3:-(2 ^ 62)≤hi)(h4:hi<2 ^ 62)
  (q:R (Itr lo (hi-lo).toNat) H):wpAny (model X.prog X.w) X.A (pyIter (.ref s.heap.objs.size)) (PIE X pins σ tg R) E { s with heap:=s.heap.push { cls:=.type "range",data:=.fields #[.int lo t,.int hi u,.int 1 v] },toks:=tk }:=by
 refine wpAny_pyIter_range (IsRange.new ..) (small_one h1 h2 h3 h4) ?_;have I1:Inv X pins σ H { s with heap:=s.heap.push { cls:=.type "range",data:=.fields #[.int lo t,.int hi u,.int 1 v] },toks:=tk }:=I.kept λb o e=>yba _ e;refine⟨(s.heap.push { cls:=.type "range",data:=.fields #[.int lo t,.int hi u,.int 1 v] }).objs.size,[(s.heap.push { cls:=.type "range",data:=.fields #[.int lo t,.int hi u,.int 1 v] }).objs.size],_,_,H,rfl,
  I1.kept (t':=tk) λb o e=>yba _ e,ziib _ lo (hi-lo).toNat,?_,λb hb=>?_,q⟩
 ·have e1:lo+((0:Nat):Int)*1=lo:=by simp
  have e2:(((hi-lo).toNat:Nat):Int)-((0:Nat):Int)=yod.Range.rangeSize lo hi 1:=by rw[rangeSize_one];split<;>omega
  show IsRangeIter _ _ (lo+((0:Nat):Int)*1) ((((hi-lo).toNat:Nat):Int)-((0:Nat):Int)) 1
  rw[e1,e2];exact yna _ rfl
 ·have e:b=(s.heap.push { cls:=.type "range",data:=.fields #[.int lo t,.int hi u,.int 1 v] }).objs.size:=by simpa using hb
  subst e;exact I1.fpOk (yha _) (I1.hok.fresh (yha _))
def zwbc (ta:TA):TI:=fun σ H R=>ta σ H λvs H1=>∃j:Int,vs=[.int j] ∧ -(2 ^ 62)≤j∧j<2 ^ 62∧R (Itr 0 j.toNat) H1
theorem zbg {a:Expr}{ta:TA}{p pos:Pos}(hg:Gl X "range")(hm:X.mg "range" = none)(ha:PA X [a] ta)(hs:ywc [a] X.env=[(false,eval a X.env)]:=by rfl):PI X tg (.Call (.Name "range" p) [a] [] pos) (zwbc ta):=by
 intro pins s σ H R I h;refine Call_ (zcw I hg hm boot_range (ybf (thn (ha pos pins s σ H _ I h) λus s1 ⟨vs,H1,I1,r1,q1⟩=>?_) hs rfl));obtain⟨j,e,q1,q2,q⟩:=q1;subst e;cases r1 with
 | cons r rr =>
  cases rr;obtain⟨t,rfl⟩:=r;exact call_range_1 (zgrb I1 (by omega) (by omega) q1 q2 (by simpa using q))
def tFor (wi:TI)(g:TG)(tb:TS):TS:=λD σ H=>wi σ H λJ H1=>∃W:Nat->Nat->St->Hp->Prop,(∃m,W 0 m σ H1)∧∀i m σ H,W i m σ H →
 (J.stop i H∧D.nx σ H)∨(J.go i H∧∃N:St->Hp->Prop,(∀ σ' H',N σ' H'->∃m',m'<m∧W (i+1) m' σ' H')∧∀x H',J.yld i H x H'->g x σ H' fun σ2 H2=>tb { D with nx:=N,ct:=N,bk:=D.nx } σ2 H2)
def zvv (fp:List Addr)(h:Heap):List (Addr×Obj):=fp.filterMap λb=>(h.get? b).map λo=>(b,o)
theorem zlp {fp:List Addr}{h:Heap}{b:Addr}{o:Obj}(hb:b∈fp)(e:h.get? b=some o):(b,o)∈zvv fp h:=ywp.mpr ⟨b,hb,by rw[e];rfl⟩
theorem zsmb {fp:List Addr}{h:Heap}{p:Addr×Obj}(hp:p∈zvv fp h):p.1∈fp∧h.get? p.1=some p.2:=by
 obtain⟨b,hb,e⟩:=ywp.mp hp;cases q:h.get? b with
 | none=>rw[q] at e;cases e
 | some o =>
  rw[q] at e;have e':(b,o)=p:=yec e;subst e';exact⟨hb,q⟩
theorem Inv.pinned {pins:List (Addr×Obj)}{σ:St}{H:Hp}{s:Shared}{fp:List Addr}(I:Inv X pins σ H s)(hf:∀b∈fp,FpOk X pins H b)(ho:∀b∈fp,∃o,s.heap.get? b=some o∧∀v,o.data ≠ .cell v):Inv X (pins++zvv fp s.heap) σ H s :=
 I.zxs λp hp=>(yeb.mp hp).elim (λz=>I.pin p (yrb _ z)) λz=>by
  obtain⟨hb,e⟩:=zsmb z;obtain⟨f0,f1,f2,_⟩:=hf p.1 hb;obtain⟨o,e',d⟩:=ho p.1 hb;rw[e] at e';cases e';exact⟨e,f0,f1,f2,d⟩
theorem Inv.zyw {pins pl:List (Addr×Obj)}{σ:St}{H:Hp}{s:Shared}(I:Inv X (pins++pl) σ H s):Inv X pins σ H s:=I.zxs λp hp=>I.pin p (yrb _ (ync _ hp))
theorem zaj {iter:Expr}{body:List Stmt}{wi:TI}{g:TG}{tb:TS}{pos:Pos}(hp:PassesOwn (model X.prog X.w) X.A X.env X.xe)(hc:X.calm=true)(hi:PI X tg iter wi)(hg:PG X tg g)(hb:PSs X body tb)
  (hs:∀x,yrl iter X.env x=pure x:=by intro _;rfl):PS X (.For tg iter body [] pos) (tFor wi g tb):=by
 intro pins s σ H D I h;refine wpAny_For (thn (hi pins s σ H _ I h) λv s1 h1=>thn h1 λitv s2 h2=>?_) hs;obtain⟨it,fp,tn,J,H2,e,I2,T,st2,f2,W,⟨m0,w0⟩,turn⟩:=h2;subst e;have stat:∀{H':Hp},(∀b∈fp,H' b=none)->∀b∈fp,FpOk X pins H' b:=λhn b hb=>⟨hn b hb,(f2 b hb).2⟩;refine codeAny_forLoop_any (λn s'=>∃i σ' H',Inv X pins σ' H' s'∧tn i s'.heap∧(∀b∈fp,H' b=none)∧W i n σ' H') ?_ m0 ⟨0,σ,H2,I2,st2,λb hb=>(f2 b hb).1,w0⟩;rintro n s3 ⟨i,σ3,H3,I3,st3,fr3,w3⟩
 rcases turn i n σ3 H3 w3 with⟨stop,qn⟩|⟨go,N,hN,step⟩
 ·refine ywf hp (thn (T.done X rfl rfl rfl hc i pins s3 σ3 H3 X.xe I3 (stat fr3) st3 stop) λr s4 ⟨hr,I4⟩=>?_);subst hr;exact yhk ⟨σ3,H3,I4,qn⟩
 ·refine ywf hp (thn (T.item X rfl rfl rfl hc i pins s3 σ3 H3 X.xe I3 (stat fr3) st3 go) λr s4 ⟨u,hr,h4⟩=>?_);subst hr;refine ywf hp (thn h4 λ_ s5 ⟨x,H5,I5,r5,y5,st5,fr5⟩=>?_);have I5':=I5.pinned (stat fr5) (T.obj _ _ st5);refine ywf hp (thn (hg _ s5 σ3 H5 x u _ I5' r5 (step x H5 y5)) λ_ s6 ⟨σ6,H6,I6,q6⟩=>?_);refine ywf hp (thn (hb _ s6 σ6 H6 _ I6 q6) λf s7 q7=>?_);have again:∀{σ7:St} {H7:Hp},Inv X (pins++zvv fp s5.heap) σ7 H7 s7->N σ7 H7->∃m,m<n∧∃i σ' H',Inv X pins σ' H' s7∧tn i s7.heap∧(∀b∈fp,H' b=none)∧W i m σ' H':=λ{σ7 H7} I7 n7=>by
   obtain⟨m',hm,w7⟩:=hN σ7 H7 n7;refine⟨m',hm,i+1,σ7,H7,I7.zyw,T.keep _ _ _ st5 λb hb o e=>(I7.pin (b,o) (yrb _ (yrb _ (zlp hb e)))).1,λb hb=>?_,w7⟩;obtain⟨o,e,d⟩:=T.obj _ _ st5 b hb;exact (I7.pin (b,o) (yrb _ (yrb _ (zlp hb e)))).2.1
  cases f with
  | next=>obtain⟨σ7,H7,I7,n7⟩:=q7;exact again I7 n7
  | cont=>obtain⟨σ7,H7,I7,n7⟩:=q7;exact again I7 n7
  | brk=>obtain⟨σ7,H7,I7,q7⟩:=q7;exact⟨σ7,H7,I7.zyw,q7⟩
  | ret v=>obtain⟨x7,σ7,H7,I7,r7,q7⟩:=q7;exact⟨x7,σ7,H7,I7.zyw,r7,q7⟩
end
theorem zqo {K:yca}{a:Addr}{xs:List V}{g:TG}{tb:TS}{D:Ends}{σ:St}{H:Hp}(Pv:Nat->St->Hp->Prop)(h0:Pv 0 σ H)(hl:∀i σ H,i≤xs.length->Pv i σ H->SqL K H a xs)
  (hs:∀i x σ H,xs[i]?=some x->Pv i σ H->g x σ H fun σ2 H2=>tb { D with nx:=Pv (i+1),ct:=Pv (i+1),bk:=D.nx } σ2 H2) (hd:∀ σ H,Pv xs.length σ H->D.nx σ H) :
  ∃W:Nat->Nat->St->Hp->Prop,(∃m,W 0 m σ H)∧∀i m σ H,W i m σ H →
   ((Itl K a).stop i H∧D.nx σ H)∨((Itl K a).go i H∧∃N:St->Hp->Prop,(∀ σ' H',N σ' H'->∃m',m'<m∧W (i+1) m' σ' H')∧∀x H',(Itl K a).yld i H x H'->g x σ H' fun σ2 H2=>tb { D with nx:=N,ct:=N,bk:=D.nx } σ2 H2):=by
 refine⟨λi m σ H=>m=xs.length-i∧i≤xs.length∧Pv i σ H,⟨xs.length,by simp,ygb _,h0⟩,?_⟩;rintro i m σ H ⟨rfl,hi,p⟩;have q:=hl i σ H hi p
 by_cases hlt:i<xs.length
 ·refine .inr ⟨⟨xs,xs[i],q,by simp[hlt]⟩,Pv (i+1),fun σ' H' p'=>⟨xs.length-(i+1),by omega,rfl,hlt,p'⟩,λx H' y=>?_⟩;obtain⟨e,y⟩:=y;subst e;exact hs i x σ _ (y xs q) p
 ·have e:i=xs.length:=by omega
  subst e;exact .inl ⟨⟨xs,q,yha _⟩,hd σ H p⟩
theorem zbxb {K:yca}{a:Addr}{xs:List V}{g:TG}{tb:TS}{D:Ends}{σ:St}{H:Hp}(Pv:Nat->St->Hp->Prop)(h0:Pv 0 σ H)(hl:∀i σ H,i≤xs.length->Pv i σ H->SqT K H a xs)
  (hs:∀i x σ H,xs[i]?=some x->Pv i σ H->g x σ H fun σ2 H2=>tb { D with nx:=Pv (i+1),ct:=Pv (i+1),bk:=D.nx } σ2 H2) (hd:∀ σ H,Pv xs.length σ H->D.nx σ H) :
  ∃W:Nat->Nat->St->Hp->Prop,(∃m,W 0 m σ H)∧∀i m σ H,W i m σ H →
   ((Itt K a).stop i H∧D.nx σ H)∨((Itt K a).go i H∧∃N:St->Hp->Prop,(∀ σ' H',N σ' H'->∃m',m'<m∧W (i+1) m' σ' H')∧∀x H',(Itt K a).yld i H x H'->g x σ H' fun σ2 H2=>tb { D with nx:=N,ct:=N,bk:=D.nx } σ2 H2):=by
 refine⟨λi m σ H=>m=xs.length-i∧i≤xs.length∧Pv i σ H,⟨xs.length,by simp,ygb _,h0⟩,?_⟩;rintro i m σ H ⟨rfl,hi,p⟩;have q:=hl i σ H hi p
 by_cases hlt:i<xs.length
 ·refine .inr ⟨⟨xs,xs[i],q,by simp[hlt]⟩,Pv (i+1),fun σ' H' p'=>⟨xs.length-(i+1),by omega,rfl,hlt,p'⟩,λx H' y=>?_⟩;obtain⟨e,y⟩:=y;subst e;exact hs i x σ _ (y xs q) p
 ·have e:i=xs.length:=by omega
  subst e;exact .inl ⟨⟨xs,q,yha _⟩,hd σ H p⟩
theorem zyj {lo:Int}{n:Nat}{g:TG}{tb:TS}{D:Ends}{σ:St}{H:Hp}(Pv:Nat->St->Hp->Prop)(h0:Pv 0 σ H)
  (hs:∀i σ H,i<n->Pv i σ H->g (.int (lo+i)) σ H fun σ2 H2=>tb { D with nx:=Pv (i+1),ct:=Pv (i+1),bk:=D.nx } σ2 H2) (hd:∀ σ H,Pv n σ H->D.nx σ H) :
  ∃W:Nat->Nat->St->Hp->Prop,(∃m,W 0 m σ H)∧∀i m σ H,W i m σ H →
   ((Itr lo n).stop i H∧D.nx σ H)∨((Itr lo n).go i H∧∃N:St->Hp->Prop,(∀ σ' H',N σ' H'->∃m',m'<m∧W (i+1) m' σ' H')∧∀x H',(Itr lo n).yld i H x H'->g x σ H' fun σ2 H2=>tb { D with nx:=N,ct:=N,bk:=D.nx } σ2 H2):=by
 refine⟨λi m σ H=>m=n-i∧i≤n∧Pv i σ H,⟨n,by simp,ygb _,h0⟩,?_⟩;rintro i m σ H ⟨rfl,hi,p⟩
 by_cases hlt:i<n
 ·refine .inr ⟨hlt,Pv (i+1),fun σ' H' p'=>⟨n-(i+1),by omega,rfl,hlt,p'⟩,λx H' y=>?_⟩;obtain⟨e,y⟩:=y;subst e y;exact hs i σ _ hlt p
 ·have e:i=n:=by omega
  subst e;exact .inl ⟨yha _,hd σ H p⟩
end L2
namespace L2
open PySem PySem.Spec PyProof.Rows
abbrev R2:=V->V->Hp->VK->Prop
def OpR (X:Cx)(f:Value->Value->Sem Value)(r:R2):Prop :=
 ∀(pins:List (Addr×Obj)) (s:Shared) (σ:St) (H:Hp) (x y:V) (v u:Value) (Q:VK),Inv X pins σ H s->RelV x v->RelV y u->r x y H Q →
  wpAny (model X.prog X.w) X.A (f v u) (EP X pins σ Q) X.xe s
def UnR (X:Cx)(f:Value->Sem Value)(r:V->Hp->VK->Prop):Prop :=
 ∀(pins:List (Addr×Obj)) (s:Shared) (σ:St) (H:Hp) (x:V) (v:Value) (Q:VK),Inv X pins σ H s->RelV x v->r x H Q →
  wpAny (model X.prog X.w) X.A (f v) (EP X pins σ Q) X.xe s
def zui (X:Cx)(f:Value)(r:List V->Hp->VK->Prop):Prop :=
 ∀(pins:List (Addr×Obj)) (s:Shared) (σ:St) (H:Hp) (xs:List V) (us:List Value) (Q:VK),Inv X pins σ H s->Vals xs us->r xs H Q →
  wpAny (model X.prog X.w) X.A (call f us) (EP X pins σ Q) X.xe s
def TruR (X:Cx)(r:V->Hp->(Bool->Hp->Prop)->Prop):Prop :=
 ∀(pins:List (Addr×Obj)) (s:Shared) (σ:St) (H:Hp) (x:V) (v:Value) (Q:Bool->Hp->Prop),Inv X pins σ H s->RelV x v->r x H Q →
  wpAny (model X.prog X.w) X.A (truthy v) (TP X pins σ Q) X.xe s
def tOp (r:R2)(ta tb:TE):TE:=fun σ H Q=>ta σ H λx H1=>tb σ H1 λy H2=>r x y H2 Q
def tUn (r:V->Hp->VK->Prop)(ta:TE):TE:=fun σ H Q=>ta σ H λx H1=>r x H1 Q
def rI (C:Int->Int->Prop)(g:Int->Int->V):R2:=λx y H Q=>Ex2 λi j=>x = .int i∧y = .int j∧C i j∧Q (g i j) H
def rI0 (g:Int->Int->V):R2:=λx y H Q=>Ex2 λi j=>x = .int i∧y = .int j∧Q (g i j) H
def rU (g:Int->V):V->Hp->VK->Prop:=λx H Q=>∃i,x = .int i∧Q (g i) H
section
variable {X:Cx}{a b c:Expr}{ta tb tc:TE}{pos:Pos}
theorem binT (ha:PE X a ta)(hb:PE X b tb){pins:List (Addr×Obj)}{s:Shared}{σ:St}{H:Hp}{R:V->V->Hp->Prop}(I:Inv X pins σ H s)
  (h:ta σ H λx H1=>tb σ H1 λy H2=>R x y H2) {Q:Value->Shared->Prop} {f:Value->Value->Sem Value}
  (hf:∀v u s2 x y H2,Inv X pins σ H2 s2->RelV x v->RelV y u->R x y H2->wpAny (model X.prog X.w) X.A (f v u) Q X.xe s2) :
  wpAny (model X.prog X.w) X.A (eval a X.env) (λv s₁=>wpAny (model X.prog X.w) X.A (eval b X.env) (λu s₂=>wpAny (model X.prog X.w) X.A (f v u) Q X.xe s₂) X.xe s₁) X.xe s:=by
 refine thn (ha pins s σ H _ I h) λv s1 ⟨x,H1,I1,r1,q1⟩=>?_;refine thn (hb pins s1 σ H1 _ I1 q1) λu s2 ⟨y,H2,I2,r2,q2⟩=>?_;exact hf v u s2 x y H2 I2 r1 r2 q2
theorem zia {op:ybs}{r:R2}(ho:OpR X (ypi op) r)(ha:PE X a ta)(hb:PE X b tb):PE X (.BinOp a op b pos) (tOp r ta tb):=by
 intro pins s σ H Q I h;exact wpAny_BinOp (binT ha hb I h λv u s2 x y H2 I2 rx ry q=>ho pins s2 σ H2 x y v u Q I2 rx ry q)
theorem ziwb {op:UnaryOp}{r:V->Hp->VK->Prop}(ho:UnR X (unaryOp op) r)(ha:PE X a ta):PE X (.UnaryOp op a pos) (tUn r ta):=by
 intro pins s σ H Q I h;exact UnaryOp_ (thn (ha pins s σ H _ I h) λv s1 ⟨x,H1,I1,r1,q1⟩=>ho pins s1 σ H1 x v Q I1 r1 q1)
theorem opI {f:Value->Value->Sem Value}{C:Int->Int->Prop}{g:Int->Int->Int}
  (rule:∀(i j:Int) (t u:Tok) (s:Shared) (Q:Value->Shared->Prop) (E:Value->Shared->Prop),C i j->Q (.int (g i j) s.toks) { s with toks:=s.toks+1 }->wpAny (model X.prog X.w) X.A (f (.int i t) (.int j u)) Q E s) :
  OpR X f (rI C λi j=>.int (g i j)):=by
 intro pins s σ H x y v u Q I rx ry h;obtain⟨i,j,rfl,rfl,hc,q⟩:=h;obtain⟨t,rfl⟩:=rx;obtain⟨t',rfl⟩:=ry;exact rule i j t t' s _ _ hc ⟨.int (g i j),H,I.tok _,⟨_,rfl⟩,q⟩
theorem opI0 {f:Value->Value->Sem Value}{g:Int->Int->Int}
  (rule:∀(i j:Int) (t u:Tok) (s:Shared) (Q:Value->Shared->Prop) (E:Value->Shared->Prop),Q (.int (g i j) s.toks) { s with toks:=s.toks+1 }->wpAny (model X.prog X.w) X.A (f (.int i t) (.int j u)) Q E s) :
  OpR X f (rI0 λi j=>.int (g i j)):=by
 intro pins s σ H x y v u Q I rx ry h;obtain⟨i,j,rfl,rfl,q⟩:=h;obtain⟨t,rfl⟩:=rx;obtain⟨t',rfl⟩:=ry;exact rule i j t t' s _ _ ⟨.int (g i j),H,I.tok _,⟨_,rfl⟩,q⟩
theorem opB0 {f:Value->Value->Sem Value}{g:Int->Int->Bool}
  (rule:∀(i j:Int) (t u:Tok) (s:Shared) (Q:Value->Shared->Prop) (E:Value->Shared->Prop),Q (.bool (g i j)) s->wpAny (model X.prog X.w) X.A (f (.int i t) (.int j u)) Q E s) :
  OpR X f (rI0 λi j=>.bl (g i j)):=by
 intro pins s σ H x y v u Q I rx ry h;obtain⟨i,j,rfl,rfl,q⟩:=h;obtain⟨t,rfl⟩:=rx;obtain⟨t',rfl⟩:=ry;exact rule i j t t' s _ _ ⟨.bl (g i j),H,I,rfl,q⟩
def CDiv (i j:Int):Prop:=0<j∧j<1073741824
def CPow (i j:Int):Prop:=0≤j∧j≤1000000∧i.natAbs<2 ^ 64
def CMul (i j:Int):Prop:=(-(2 ^ 64)<i∧i<2 ^ 64)∨(-(2 ^ 64)<j∧j<2 ^ 64)
theorem CMul.ok {i j:Int}(h:CMul i j):IntMulOk i j:=by
 rcases h with⟨h1,h2⟩|⟨h1,h2⟩
 ·exact .of_left (intBits_le_64 h1 h2)
 ·exact .of_right (intBits_le_64 h1 h2)
theorem zsd:OpR X (ypi .Add) (rI0 λi j=>.int (i+j)):=opI0 λ_ _ _ _ _ _ _ q=>add_int q
theorem ztj:OpR X (ypi .Sub) (rI0 λi j=>.int (i-j)):=opI0 λ_ _ _ _ _ _ _ q=>sub_int q
theorem zuh:OpR X (ypi .Mult) (rI CMul λi j=>.int (i*j)):=opI λ_ _ _ _ _ _ _ hc q=>mul_int q hc.ok
theorem zec:OpR X (ypi .FloorDiv) (rI CDiv λi j=>.int (i / j)):=opI λi j _ _ _ _ _ hc q=>by
 have h1:(0:Int)<j:=hc.1;have h2:j<1073741824:=hc.2;exact floordiv_int (by omega) (by rw[Int.fdiv_eq_ediv_of_nonneg i (by omega)];exact q) (.inl (PyProof.noPylong_small (by omega)))
theorem zub:OpR X (ypi .Mod) (rI (λ_ j=>0<j) λi j=>.int (i % j)):=opI λi j _ _ _ _ _ hc q=>by
 have h1:(0:Int)<j:=hc;exact mod_int' (by omega) (by rw[Int.fmod_eq_emod_of_nonneg i (by omega)];exact q)
theorem znmb:OpR X (ypi .Pow) (rI CPow λi j=>.int (i ^ j.toNat)):=opI λ_ _ _ _ _ _ _ hc q=>pow_int_small hc.1 hc.2.1 hc.2.2 q
theorem unI {f:Value->Sem Value}{g:Int->Int}
  (rule:∀(i:Int) (t:Tok) (s:Shared) (Q:Value->Shared->Prop) (E:Value->Shared->Prop),Q (.int (g i) s.toks) { s with toks:=s.toks+1 }->wpAny (model X.prog X.w) X.A (f (.int i t)) Q E s) :
  UnR X f (rU λi=>.int (g i)):=by
 intro pins s σ H x v Q I rx h;obtain⟨i,rfl,q⟩:=h;obtain⟨t,rfl⟩:=rx;exact rule i t s _ _ ⟨.int (g i),H,I.tok _,⟨_,rfl⟩,q⟩
theorem ztkb:UnR X (unaryOp .USub) (rU λi=>.int (-i)):=unI λ_ _ _ _ _ q=>neg_int q
end
def scal:V->V->Bool
 | .non,.non=>true|.non,.int _=>true|.int _,.non=>true|.non,.bl _=>true|.bl _,.non=>true|.non,.str _=>true|.str _,.non=>true
 | .int _,.int _=>true|.bl _,.bl _=>true|.str _,.str _=>true|.byt _,.byt _=>true
 | .int _,.str _=>true|.str _,.int _=>true|.bl _,.str _=>true|.str _,.bl _=>true
 | _,_=>false
def rEq:R2:=λx y H Q=>scal x y=true∧Q (.bl (decide (x=y))) H
def rNe:R2:=λx y H Q=>scal x y=true∧Q (.bl (!decide (x=y))) H
theorem zrob {i j:Int}:decide (V.int i=V.int j)=(i==j):=by
 rw[yah];simp
theorem ziub {i j:Bool}:decide (V.bl i=V.bl j)=(i==j):=by
 rw[yah];simp
theorem zqob {i j:Str}:decide (V.str i=V.str j)=(i==j):=by
 rw[yah];simp
theorem zsob {i j:Array UInt8}:decide (V.byt i=V.byt j)=(i.toList==j.toList):=by
 rw[yah];cases i;cases j;simp
section
variable {X:Cx}{a b c:Expr}{ta tb tc:TE}{pos:Pos}
theorem zrc {pins:List (Addr×Obj)}{σ:St}{H:Hp}{s:Shared}{Q:VK}{k k':Bool}(I:Inv X pins σ H s)(q:Q (.bl k) H)(e:k=k'):EP X pins σ Q (.bool k') s:=by
 subst e;exact⟨.bl k,H,I,rfl,q⟩
theorem zed:OpR X (yhd .Eq) rEq:=by
 intro pins s σ H x y v u Q I rx ry h;obtain⟨hs,q⟩:=h;cases x with
 | non =>
  cases rx;cases y with
  | non=>cases ry;exact PySem.EqNone.eq_none_none (zrc I q (by simp))
  | bl j=>cases ry;exact PySem.EqNone.eq_none_bool (zrc I q (by simp))
  | int j=>obtain⟨t',rfl⟩:=ry;exact PySem.EqNone.eq_none_int (zrc I q (by simp))
  | str j=>obtain⟨t',rfl⟩:=ry;exact PySem.EqNone.eq_none_str (zrc I q (by simp))
  | _=>exact absurd (show false=true from hs) yab
 | bl i =>
  cases rx;cases y with
  | non=>cases ry;exact PySem.EqNone.eq_bool_none (zrc I q (by simp))
  | bl j=>cases ry;exact eq_bool (zrc I q ziub)
  | str j=>obtain⟨t',rfl⟩:=ry;exact PySem.EqMixed.eq_bool_str (zrc I q (by simp))
  | _=>exact absurd (show false=true from hs) yab
 | int i =>
  obtain⟨t,rfl⟩:=rx;cases y with
  | non=>cases ry;exact PySem.EqNone.eq_int_none (zrc I q (by simp))
  | int j=>obtain⟨t',rfl⟩:=ry;exact eq_int (zrc I q zrob)
  | str j=>obtain⟨t',rfl⟩:=ry;exact PySem.EqMixed.eq_int_str (zrc I q (by simp))
  | _=>exact absurd (show false=true from hs) yab
 | str i =>
  obtain⟨t,rfl⟩:=rx;cases y with
  | non=>cases ry;exact PySem.EqNone.eq_str_none (zrc I q (by simp))
  | bl j=>cases ry;exact PySem.EqMixed.eq_str_bool (zrc I q (by simp))
  | int j=>obtain⟨t',rfl⟩:=ry;exact PySem.EqMixed.eq_str_int (zrc I q (by simp))
  | str j=>obtain⟨t',rfl⟩:=ry;exact eq_str (zrc I q zqob)
  | _=>exact absurd (show false=true from hs) yab
 | byt i =>
  obtain⟨t,rfl⟩:=rx;cases y with
  | byt j=>obtain⟨t',rfl⟩:=ry;exact PySem.W.eq_bytes (zrc I q zsob)
  | _=>exact absurd (show false=true from hs) yab
 | _=>cases y<;>exact absurd (show false=true from hs) yab
theorem zlzb:OpR X (yhd .NotEq) rNe:=by
 intro pins s σ H x y v u Q I rx ry h;obtain⟨hs,q⟩:=h;cases x with
 | non =>
  cases rx;cases y with
  | non=>cases ry;exact PySem.EqNone.ne_none_none (zrc I q (by simp))
  | bl j=>cases ry;exact PySem.EqNone.ne_none_bool (zrc I q (by simp))
  | int j=>obtain⟨t',rfl⟩:=ry;exact PySem.EqNone.ne_none_int (zrc I q (by simp))
  | str j=>obtain⟨t',rfl⟩:=ry;exact PySem.EqNone.ne_none_str (zrc I q (by simp))
  | _=>exact absurd (show false=true from hs) yab
 | bl i =>
  cases rx;cases y with
  | non=>cases ry;exact PySem.EqNone.ne_bool_none (zrc I q (by simp))
  | bl j=>cases ry;exact ne_bool (zrc I q (congrArg not ziub))
  | str j=>obtain⟨t',rfl⟩:=ry;exact PySem.EqMixed.ne_bool_str (zrc I q (by simp))
  | _=>exact absurd (show false=true from hs) yab
 | int i =>
  obtain⟨t,rfl⟩:=rx;cases y with
  | non=>cases ry;exact PySem.EqNone.ne_int_none (zrc I q (by simp))
  | int j=>obtain⟨t',rfl⟩:=ry;exact ne_int (zrc I q (congrArg not zrob))
  | str j=>obtain⟨t',rfl⟩:=ry;exact PySem.EqMixed.ne_int_str (zrc I q (by simp))
  | _=>exact absurd (show false=true from hs) yab
 | str i =>
  obtain⟨t,rfl⟩:=rx;cases y with
  | non=>cases ry;exact PySem.EqNone.ne_str_none (zrc I q (by simp))
  | bl j=>cases ry;exact PySem.EqMixed.ne_str_bool (zrc I q (by simp))
  | int j=>obtain⟨t',rfl⟩:=ry;exact PySem.EqMixed.ne_str_int (zrc I q (by simp))
  | str j=>obtain⟨t',rfl⟩:=ry;exact ne_str (zrc I q (congrArg not zqob))
  | _=>exact absurd (show false=true from hs) yab
 | byt i =>
  obtain⟨t,rfl⟩:=rx;cases y with
  | byt j=>obtain⟨t',rfl⟩:=ry;exact PySem.W.ne_bytes (zrc I q (congrArg not zsob))
  | _=>exact absurd (show false=true from hs) yab
 | _=>cases y<;>exact absurd (show false=true from hs) yab
theorem zabb:OpR X (yhd .Lt) (rI0 λi j=>.bl (decide (i<j))):=opB0 λ_ _ _ _ _ _ _ q=>lt_int q
theorem zqrb:OpR X (yhd .LtE) (rI0 λi j=>.bl (decide (i≤j))):=opB0 λ_ _ _ _ _ _ _ q=>le_int q
theorem zajb:OpR X (yhd .Gt) (rI0 λi j=>.bl (decide (j<i))):=opB0 λ_ _ _ _ _ _ _ q=>gt_int q
theorem zrbc:OpR X (yhd .GtE) (rI0 λi j=>.bl (decide (j≤i))):=opB0 λ_ _ _ _ _ _ _ q=>ge_int q
theorem zbbb:OpR X (yhd .In) (λx y H Q=>Ex2 λi j=>x = .str i∧y = .str j∧Q (.bl (!(ybd j i 0 j.length 1).isEmpty)) H):=by
 intro pins s σ H x y v u Q I rx ry h;obtain⟨i,j,rfl,rfl,q⟩:=h;obtain⟨t,rfl⟩:=rx;obtain⟨t',rfl⟩:=ry;exact in_str (zrc I q rfl)
theorem zutb:OpR X (yhd .Is) (λx y H Q=>y = .non∧Q (.bl (decide (x = .non))) H):=by
 intro pins s σ H x y v u Q I rx ry h;obtain⟨rfl,q⟩:=h;cases ry;refine is_none_gen (zrc I q ?_);cases x<;>first
  | (cases rx;rfl)
  | (obtain⟨t,rfl⟩:=rx;rfl)
theorem zbb (b:Expr){op:CmpOp}(h:op ≠ .In:=by decide)(h2:op ≠ .NotIn:=by decide):yzj op b=false:=by
 have e1:(op==CmpOp.In)=false:=by cases op<;>first|rfl|exact absurd rfl h
 have e2:(op==CmpOp.NotIn)=false:=by cases op<;>first|rfl|exact absurd rfl h2
 cases b<;>simp[yzj,e1,e2]
theorem znh {op:CmpOp}{r:R2}(ho:OpR X (yhd op) r)(ha:PE X a ta)(hb:PE X b tb)(hm:yzj op b=false):PE X (.Compare a [op] [b] pos) (tOp r ta tb):=by
 intro pins s σ H Q I h;exact wpAny_Compare1 (binT ha hb I h λv u s2 x y H2 I2 rx ry q=>ho pins s2 σ H2 x y v u Q I2 rx ry q) hm
def zsub (t:TE):TT:=fun σ H Q=>t σ H λx H'=>∃k,x = .bl k∧Q k H'
theorem zra {op:CmpOp}{r:R2}(ho:OpR X (yhd op) r)(ha:PE X a ta)(hb:PE X b tb)(hm:yzj op b=false):PT X (.Compare a [op] [b] pos) (zsub (tOp r ta tb)):=by
 intro pins s σ H Q I h;refine yon (thn (ha pins s σ H _ I h) λv s1 ⟨x,H1,I1,r1,q1⟩=>thn (hb pins s1 σ H1 _ I1 q1) λu s2 ⟨y,H2,I2,r2,q2⟩ =>
  thn (ho pins s2 σ H2 x y v u _ I2 r1 r2 q2) λc s3 ⟨z,H3,I3,r3,k,e,q3⟩=>?_) hm
 subst e;cases r3;exact yuc ⟨H3,I3,q3⟩
def zotb (r r':R2)(ta tb tc:TE):TE:=fun σ H Q=>ta σ H λx H1=>tb σ H1 λy H2=>r x y H2 λz H3=>∃k,z = .bl k ∧
 (if k=true then tc σ H3 λw' H4=>r' y w' H4 Q else Q (.bl false) H3)
theorem zprb {op op':CmpOp}{r r':R2}(ho:OpR X (yhd op) r)(ho':OpR X (yhd op') r')(ha:PE X a ta)(hb:PE X b tb)(hc:PE X c tc)
  (hm:lastMarks [op,op'] [b,c]=false:=by with_unfolding_all rfl):PE X (.Compare a [op,op'] [b,c] pos) (zotb r r' ta tb tc):=by
 intro pins s σ H Q I h;refine Compare_chain (thn (ha pins s σ H _ I h) λv s1 ⟨x,H1,I1,r1,q1⟩=>chain_link (thn (hb pins s1 σ H1 _ I1 q1) λu s2 ⟨y,H2,I2,r2,q2⟩ =>
  thn (ho pins s2 σ H2 x y v u _ I2 r1 r2 q2) λd s3 ⟨z,H3,I3,r3,k,e,q3⟩=>?_)) hm
 subst e;cases r3;refine yuc ?_;cases k with
 | false=>exact ite_ff ⟨.bl false,H3,I3,rfl,q3⟩
 | true=>exact ite_tt (chain_last (thn (hc pins s3 σ H3 _ I3 q3) λw' s4 ⟨z',H4,I4,r4,q4⟩=>ho' pins s4 σ H4 y z' u w' Q I4 r2 r4 q4))
theorem zjrb {op op':CmpOp}{r r':R2}(ho:OpR X (yhd op) r)(ho':OpR X (yhd op') r')(ha:PE X a ta)(hb:PE X b tb)(hc:PE X c tc)
  (hm:lastMarks [op,op'] [b,c]=false:=by with_unfolding_all rfl):PT X (.Compare a [op,op'] [b,c] pos) (zsub (zotb r r' ta tb tc)):=by
 intro pins s σ H Q I h;refine isTrue_chain (thn (ha pins s σ H _ I h) λv s1 ⟨x,H1,I1,r1,q1⟩=>test_link (thn (hb pins s1 σ H1 _ I1 q1) λu s2 ⟨y,H2,I2,r2,q2⟩ =>
  thn (ho pins s2 σ H2 x y v u _ I2 r1 r2 q2) λd s3 ⟨z,H3,I3,r3,k,e,q3⟩=>?_)) hm
 subst e;cases r3;refine yuc ?_;cases k with
 | false =>
  obtain⟨k',e',q'⟩:=q3;cases e';exact ite_ff ⟨H3,I3,q'⟩
 | true =>
  refine ite_tt (test_last (thn (hc pins s3 σ H3 _ I3 q3) λw' s4 ⟨z',H4,I4,r4,q4⟩=>thn (ho' pins s4 σ H4 y z' u w' _ I4 r2 r4 q4) λd' s5 ⟨z2,H5,I5,r5,k2,e2,q5⟩=>?_));subst e2;cases r5;exact yuc ⟨H5,I5,q5⟩
def TruV (K:yca)(x:V)(H:Hp)(k:Bool):Prop :=
 match x with
 | .non=>k=false
 | .bl b=>k=b
 | .int i=>k=(i != 0)
 | .str y=>y.length≤yta∧k=((y.length:Int) != 0)
 | .byt y=>y.size≤yta∧k=((y.size:Int) != 0)
 | .ref p=>(∃xs,SqL K H p xs∧k = !xs.isEmpty)∨(∃xs,SqT K H p xs∧k = !xs.isEmpty)∨∃kvs,H p=some (.dK kvs)∧k = !kvs.isEmpty
 | _=>False
theorem zsjb {κ:Type}{kvs:List (κ×V)}{vs:List (κ×Value)}(r:KV kvs vs):(!vs.isEmpty) = !kvs.isEmpty:=by
 cases r<;>rfl
theorem zew {xs:List V}{its:List Value}(r:Vals xs its):(!its.toArray.isEmpty) = !xs.isEmpty:=by
 cases r<;>simp
theorem zit:(yta:Nat)<2 ^ 63:=by rw[sizeLine_eq];decide
theorem zayb:TruR X (λx H Q=>∃k,TruV X.K x H k∧Q k H):=by
 intro pins s σ H x v Q I rx h;obtain⟨k,e,q⟩:=h;have hl:=zit;have hs:yta=16777216:=sizeLine_eq;cases x with
 | non =>
  cases rx;have e':k=false:=e;subst e';exact truthy_none ⟨H,I,q⟩
 | bl b =>
  cases rx;have e':k=b:=e;subst e';exact yuc ⟨H,I,q⟩
 | int i =>
  obtain⟨t,rfl⟩:=rx;have e':k=(i != 0):=e;subst e';exact PySem.P.truthy_int ⟨H,I,q⟩
 | str y =>
  obtain⟨t,rfl⟩:=rx;obtain⟨hy,e'⟩:y.length≤yta∧k=((y.length:Int) != 0):=e;subst e';exact PySem.P.truthy_str (by omega) ⟨H,I.tok _,q⟩
 | byt y =>
  obtain⟨t,rfl⟩:=rx;obtain⟨hy,e'⟩:y.size≤yta∧k=((y.size:Int) != 0):=e;subst e';exact PySem.W.truthy_bytes (by omega) ⟨H,I.tok _,q⟩
 | ref p =>
  cases rx;have e':(∃xs,SqL X.K H p xs∧k = !xs.isEmpty)∨(∃xs,SqT X.K H p xs∧k = !xs.isEmpty)∨∃kvs,H p=some (.dK kvs)∧k = !kvs.isEmpty:=e
  rcases e' with⟨xs,hx,e'⟩|⟨xs,hx,e'⟩|⟨kvs,hx,e'⟩
  ·subst e';obtain⟨its,r,pl,hz⟩:=I.list hx;have hlen:=r.length;exact wpAny_truthy_list pl.isList (by simp only[yqa];omega) ⟨H,I.tok _,by rw[zew r];exact q⟩
  ·subst e';obtain⟨its,r,pl,hz⟩:=I.tuple hx;have hlen:=r.length;exact truthy_tuple pl (by simp only[yqa];omega) ⟨H,I.tok _,by rw[zew r];exact q⟩
  ·subst e';obtain⟨hz,hS,vs,r,m⟩:kvs.length≤yta∧(p==yqg)=false∧∃vs,KV kvs vs∧s.heap.DictOf (zse X.prog X.w) p vs:=I.hok p _ hx;have hlen:kvs.length=vs.length:=ykm r;exact wpAny_truthy_dict hS m (by omega) ⟨H,I.tok _,by rw[zsjb r];exact q⟩
 | _=>exact (show False from e).elim
theorem zgo (ha:PE X a ta)(he:∀whole,isTrue a X.env whole=(do let v ← whole;yfs a.pos;ylm [v] (truthy v))) :
  PT X a (fun σ H Q=>ta σ H λx H'=>∃k,TruV X.K x H' k∧Q k H'):=by
 intro pins s σ H Q I h;exact isTrue_plain (thn (ha pins s σ H _ I h) λv s1 ⟨x,H1,I1,r1,q1⟩=>zayb pins s1 σ H1 x v Q I1 r1 q1) (he _)
theorem zeb:OpR X (ypi .Add) (λx y H Q=>Ex2 λi j=>x = .str i∧y = .str j∧i.length+j.length≤yta∧Q (.str (i++j)) H):=by
 intro pins s σ H x y v u Q I rx ry h;obtain⟨i,j,rfl,rfl,hz,q⟩:=h;obtain⟨t,rfl⟩:=rx;obtain⟨t',rfl⟩:=ry;exact add_str (λt' tk=>⟨.str (i++j),H,I.tok _,⟨_,rfl⟩,q⟩) hz
theorem vals1 {x:V}{us:List Value}(r:Vals [x] us):∃u,us=[u]∧RelV x u:=by
 cases r with
 | cons r1 r2=>cases r2;exact⟨_,rfl,r1⟩
theorem vals2 {x y:V}{us:List Value}(r:Vals [x,y] us):Ex2 λu w'=>us=[u,w']∧RelV x u∧RelV y w':=by
 cases r with
 | cons r1 r2 =>
  cases r2 with
  | cons r3 r4=>cases r4;exact⟨_,_,rfl,r1,r3⟩
theorem zepb (hc:X.calm=true):zui X (.builtin "max") (λxs H Q=>Ex2 λi j=>xs=[.int i,.int j]∧Q (.int (if j>i then j else i)) H):=by
 intro pins s σ H xs us Q I r h;obtain⟨i,j,rfl,q⟩:=h;obtain⟨u,w',rfl,⟨t,rfl⟩,⟨t',rfl⟩⟩:=vals2 r;refine max_two_ints (I.ok.hd hc) λh' tk k=>⟨_,H,I.kept k,?_,q⟩
 by_cases hj:j>i
 ·rw[if_pos hj,if_pos hj];exact⟨_,rfl⟩
 ·rw[if_neg hj,if_neg hj];exact⟨_,rfl⟩
theorem zscb (hc:X.calm=true):zui X (.builtin "min") (λxs H Q=>Ex2 λi j=>xs=[.int i,.int j]∧Q (.int (if j<i then j else i)) H):=by
 intro pins s σ H xs us Q I r h;obtain⟨i,j,rfl,q⟩:=h;obtain⟨u,w',rfl,⟨t,rfl⟩,⟨t',rfl⟩⟩:=vals2 r;refine min_two_ints (I.ok.hd hc) λh' tk k=>⟨_,H,I.kept k,?_,q⟩
 by_cases hj:j<i
 ·rw[if_pos hj,if_pos hj];exact⟨_,rfl⟩
 ·rw[if_neg hj,if_neg hj];exact⟨_,rfl⟩
theorem zfpb:zui X (.type "int") (λxs H Q=>(∃i,xs=[.int i]∧Q (.int i) H)∨∃k,xs=[.bl k]∧Q (.int (if k then 1 else 0)) H):=by
 intro pins s σ H xs us Q I r h
 rcases h with⟨i,rfl,q⟩|⟨k,rfl,q⟩
 ·obtain⟨u,rfl,t,rfl⟩:=vals1 r;exact call_int_int ⟨.int i,H,I,⟨_,rfl⟩,q⟩
 ·obtain⟨u,rfl,r1⟩:=vals1 r;cases r1;exact call_int_bool ⟨.int (if k then 1 else 0),H,I.tok _,⟨_,rfl⟩,q⟩
theorem zpl:zui X (.type "str") (λxs H Q=>∃i,xs=[.int i]∧i.natAbs.log2<1920∧Q (.str (toString i)) H):=by
 intro pins s σ H xs us Q I r h;obtain⟨i,rfl,hz,q⟩:=h;obtain⟨u,rfl,t,rfl⟩:=vals1 r;exact PySem.P.str_of_int hz ⟨.str _,H,I.tok _,⟨_,rfl⟩,q⟩
end
end L2
namespace L2
open PySem PySem.Spec PyProof.Rows
structure ObjM (h:Heap)(x dx C:Addr)(mA:Str->Option Value):Prop where
 obj:h.get? x=some (yaf C dx)
 ns:h.Ns1 dx mA
 ne:dx≠x
theorem zenb {h:Heap}{dx:Addr}{mA:Str->Option Value}(n:h.Ns1 dx mA):∃od,h.get? dx=some od∧∀name,ygl name od=some (mA name):=by
 obtain⟨o,es,ep,ho,hd,hk,_,hm⟩:=n;refine⟨o,ho,λname=>?_⟩;have e:=hm name;unfold nsFind findBy at e;rw[← Array.find?_toList] at e;unfold ygl;rw[hd];dsimp only
 split
 ·rename_i y q;rw[q] at e;exact congrArg some e
 ·rename_i q;rw[q] at e;have a:es.toList.any (·.refKey)=false:=by
   rw[List.any_eq_false];intro y hy;obtain⟨z,t,hkey⟩:=hk y (Array.mem_toList_iff.mp hy);simp[ybh.refKey,hkey]
  have a':¬ es.toList.any (·.refKey)=true:=by rw[a];exact yab
  rw[if_neg a'];exact congrArg some e
theorem ObjM.look {h:Heap}{x dx C:Addr}{mA:Str->Option Value}(I:ObjM h x dx C mA):∃od,PySem.W.InstAt h x (yaf C dx) C (some od)∧∀name,ygl name od=some (mA name) :=
 let ⟨od,ho,hl⟩:=zenb I.ns
 ⟨od,⟨I.obj,rfl,rfl,ho⟩,hl⟩
section
variable {prog:yqb}{w:World}{A:Around}{E:Value->Shared->Prop}{s:Shared}{K:yca}{x dx C f:Addr}{mA:Str->Option Value}{name:Str}{v:Value}
theorem get_map {expr:Bool}{Q:Value->Shared->Prop}(X:K.In s.heap)(I:ObjM s.heap x dx C mA)(hg:yif K C name=true)(hh:yxf K C=true)
  (ha:ymb K (.ref C) name=some none) (hv:mA name=some v) (hv':ywr v=true) (h:Q v { s with toks:=s.toks+1 }) :
  wpAny (model prog w) A (getAttr (.ref x) name expr) Q E s:=by
 obtain⟨od,J,hl⟩:=I.look;exact PySem.W.get_value X J (yjk hg).1 (PySem.W.findObj_own hh ha rfl (by rw[hl,hv])) hv' h
theorem zrsb {pl:Sem Bool}{Q:Value×List Value->Shared->Prop}(X:K.In s.heap)(I:ObjM s.heap x dx C mA)(hg:yif K C name=true)
  (hf:ymb K (.ref C) name=some (some (.ref f))) (ht:yzk K (.ref f)=true) (hv:mA name=none) (h:Q (.ref f,[.ref x]) s) :
  wpAny (model prog w) A (ygs (.ref x) name pl) Q E s:=by
 obtain⟨od,J,hl⟩:=I.look;exact PySem.W.method_fn X J (yjk hg).1 (yjk hg).2 hf (beq_iff_eq.mp ht) (by show (ygl name od).map (·.isSome)=some false;rw[hl,hv];rfl) h
theorem zovb {ns:List Str}{Q:Unit->Shared->Prop}(X:K.In s.heap)(I:ObjM s.heap x dx C mA)
  (hs:ymb K (.ref C) "__setattr__" = some (some (.builtin "object.__setattr__"))) (hp:ynh K C=true) (ht:ypn K C name=some none) (hh:yxf K C=true)
  (hw:ynn mA ns) (hsz:ns.length≤yta)
  (h:∀h',ObjM h' x dx C (λy=>if y=name then some v else mA y)->yfd dx s.heap h'->Q () { s with heap:=h',toks:=s.toks+2 }) :
  wpAny (model prog w) A (setAttr (.ref x) name v) Q E s:=by
 obtain⟨od,J,hl⟩:=I.look;refine PySem.W.set_plain X J hs (PySem.W.osa_open (s:={ s with toks:=s.toks+1 }) (r:=none) X J hp ht λb=>?_);obtain⟨cd,hc,hd'⟩:=PySem.W.any_some hh;have hx:s.heap.get? x=some ⟨.ref C,some dx,.plain,#[]⟩:=I.obj;refine yaa (yda (yaa (yaa (wpAny_loadPart hx (yaa (PySem.W.Looks.here (s:={ s with toks:=s.toks+1 }) (PySem.W.looks_clsIn X hc) ?_))))));rw[hd'];refine yda (a:=some dx) (yaa (yda (yaa ?_)));refine wpAny_nsSet1 (s:={ s with toks:=s.toks+1 }) I.ns λh' hn2 hs2=>?_;obtain⟨oD,esD,epD,hoD,hdD,hcD⟩:=hn2.count (ynn.cons name v hw);refine yaa (wpAny_lookBehind hoD (by rw[hdD];exact pastItsLine_dict (yua hcD (by rw[yfa];omega))) ?_);exact yda (h _ ⟨(hs2.2 _ (yge I.ne)).trans I.obj,hn2,I.ne⟩ hs2)
theorem zzrb {R:Result->Shared->Prop}{vs:List Value}{kw:List (Str×Value)}(X:K.In s.heap)(hm:yqn K C=true)
  (hi:ymb K (.ref C) "__init__" = some (some (.ref f))) (hf:PySem.W.typeIn K (.ref f)=some (.type "function"))
  (h:yej (model prog w) (A.under (.builtin "type.__call__" ⟨.ref C::vs,kw⟩)) (.call (.ref f) ⟨.ref (s.heap.objs.size+1)::vs,kw⟩) (PySem.W.InitBack (s.heap.objs.size+1) R)
   { s with heap:=(s.heap.push yxd).push (yaf C s.heap.objs.size) }) :
  yej (model prog w) A (.call (.ref C) ⟨vs,kw⟩) R s:=by
 obtain⟨hh,g,d,t,os⟩:=s;exact PySem.W.make_core (PySem.W.makes_of X hm) (PySem.W.looks_findIn X hi) (λself=>PySem.W.bind_fn X self hf) (.inl rfl) h
end
def putF (f:Str)(v:V):List (Str×V)->List (Str×V)
 | []=>[(f,v)]
 | (g,x)::r=>if g=f then (g,v)::r else (g,x)::putF f v r
theorem zft (f g:Str)(v:V):∀fs:List (Str×V),(putF f v fs).lookup g=if g=f then some v else fs.lookup g
 | []=>by
  show yde g [(f,v)]=_
  by_cases h:g=f
  ·have hb:(g==f)=true:=beq_iff_eq.mpr h;simp only[yde,hb,if_pos h]
  ·have hb:(g==f)=false:=beq_eq_false_iff_ne.mpr h;simp only[yde,hb,if_neg h]
 | (k,x)::r=>by
  have ih:=zft f g v r;rw[show putF f v ((k,x)::r)=(if k=f then (k,v)::r else (k,x)::putF f v r) from rfl]
  by_cases hk:k=f
  ·rw[if_pos hk]
   by_cases h:g=k
   ·have hb:(g==k)=true:=beq_iff_eq.mpr h;simp only[yde,hb,if_pos (h.trans hk)]
   ·have hb:(g==k)=false:=beq_eq_false_iff_ne.mpr h;simp only[yde,hb,if_neg (λe:g=f=>h (e.trans hk.symm))]
  ·rw[if_neg hk]
   by_cases h:g=k
   ·have hb:(g==k)=true:=beq_iff_eq.mpr h;simp only[yde,hb,if_neg (λe:g=f=>hk (h.symm.trans e))]
   ·have hb:(g==k)=false:=beq_eq_false_iff_ne.mpr h;simp only[yde,hb];exact ih
theorem zlt (f:Str)(v:V):∀fs:List (Str×V),f∈(putF f v fs).map (·.1)∧∀g,g∈fs.map (·.1)->g∈(putF f v fs).map (·.1)
 | []=>⟨by simp[putF],λg h=>by simp at h⟩
 | (k,x)::r=>by
  obtain⟨i1,i2⟩:=zlt f v r;rw[show putF f v ((k,x)::r)=(if k=f then (k,v)::r else (k,x)::putF f v r) from rfl]
  by_cases hk:k=f
  ·rw[if_pos hk];subst hk;exact⟨by simp,λg h=>by simpa using h⟩
  ·rw[if_neg hk];refine⟨?_,λg h=>?_⟩
   ·rw[ybb];exact yma _ i1
   ·rw[ybb] at h ⊢
    rcases yla.mp h with e|e
    ·exact yla.mpr (.inl e)
    ·exact yma _ (i2 g e)
theorem zjt (f:Str)(v:V):∀fs:List (Str×V),(putF f v fs).length≤fs.length+1
 | []=>by simp[putF]
 | (k,x)::r=>by
  have ih:=zjt f v r;rw[show putF f v ((k,x)::r)=(if k=f then (k,v)::r else (k,x)::putF f v r) from rfl]
  by_cases hk:k=f
  ·rw[if_pos hk,yfa,yfa];omega
  ·rw[if_neg hk,yfa,yfa];omega
theorem RelO.some_of {v:V}{o:Option Value}(r:RelO (some v) o):∃u,o=some u∧RelV v u:=by
 cases o with
 | none=>exact (show False from r).elim
 | some u=>exact⟨u,rfl,r⟩
theorem RelO.none_of {o:Option Value}(r:RelO none o):o=none:=by
 cases o with
 | none=>rfl
 | some u=>exact (show False from r).elim
theorem zcob {v:V}{u:Value}(r:RelV v u):ywr u=true:=by
 cases v with
 | non=>cases (show u=Value.none from r);rfl
 | bl b=>cases (show u=Value.bool b from r);rfl
 | int i=>obtain⟨t,e⟩:=(show ∃t,u=Value.int i t from r);cases e;rfl
 | str x=>obtain⟨t,e⟩:=(show ∃t,u=Value.str x t from r);cases e;rfl
 | byt b=>obtain⟨t,e⟩:=(show ∃t,u=Value.bytes b t from r);cases e;rfl
 | flt b=>obtain⟨t,e⟩:=(show ∃t,u=Value.float b t from r);cases e;rfl
 | ref a=>cases (show u=Value.ref a from r);rfl
 | ty n=>cases (show u=Value.type n from r);rfl
section
variable {P:yqb}{w:World}{H H':Hp}{h h':Heap}{a C dx:Addr}{fs fs':List (Str×V)}
theorem zmy (hok:HOk P w H h)(e:H a=some (.ins C dx fs)):∃mA,ObjM h a dx C mA∧(∀f,RelO (fs.lookup f) (mA f))∧ynn mA (fs.map (·.1))∧fs.length≤1000∧H dx=some (.own a):=by
 obtain⟨d,z,ne,ob,mA,n,r,q⟩:=(show zgg P w H h a (.ins C dx fs) from hok a _ e);exact⟨mA,⟨ob,n,ne⟩,r,q,z,d⟩
end
structure Cls (K:yca)(C:Addr):Prop where
 pg:yif K C yhs=true
 hd:yxf K C=true
 po:ynh K C=true
 sa:ymb K (.ref C) "__setattr__" = some (some (.builtin "object.__setattr__"))
theorem Cls.get {K:yca}{C:Addr}(c:Cls K C)(f:Str):yif K C f=true:=c.pg
def zfh (K:yca)(C:Addr)(f:Str):Prop:=ymb K (.ref C) f=some none
theorem zfh.taker {K:yca}{C:Addr}{f:Str}(n:zfh K C f):ypn K C f=some none:=by
 unfold ypn;rw[show ymb K (.ref C) f=some none from n];rfl
structure Con (K:yca)(C:Addr)(f:Str)(v:V)(u:Value):Prop where
 at_:ymb K (.ref C) f=some (some u)
 rel:RelV v u
 get:yfj K u "__get__" = some none
 cp:PySem.W.copiedNames.contains f=false
structure Meth (K:yca)(C:Addr)(m:Str)(f:Addr):Prop where
 at_:ymb K (.ref C) m=some (some (.ref f))
 fn:yzk K (.ref f)=true
 kp:yte K (.ref f)=true
section
variable {X:Cx}{pins:List (Addr×Obj)}{σ:St}{H:Hp}{s:Shared}{a C dx:Addr}{fs:List (Str×V)}{f:Str}{v:V}{A:Around}{E:Value->Shared->Prop}
theorem zgw {b:Bool}{Q:Value->Shared->Prop}(I:Inv X pins σ H s)(e:H a=some (.ins C dx fs))(c:Cls X.K C)(n:zfh X.K C f)(l:fs.lookup f=some v)
  (h:∀u s',Inv X pins σ H s'->RelV v u->Q u s'):wpAny (model X.prog X.w) A (getAttr (.ref a) f b) Q E s:=by
 obtain⟨mA,O,r,_,_,_⟩:=zmy I.hok e;obtain⟨u,hu,ru⟩:=RelO.some_of (v:=v) (o:=mA f) (by rw[← l];exact r f);exact get_map I.kIn O (c.get f) c.hd n hu (zcob ru) (h u _ (I.tok _) ru)
theorem zfw {m:Str}{g:Addr}{pl:Sem Bool}{Q:Value×List Value->Shared->Prop}(I:Inv X pins σ H s)(e:H a=some (.ins C dx fs))(c:Cls X.K C)(k:Meth X.K C m g)(l:fs.lookup m=none)
  (h:Q (.ref g,[.ref a]) s):wpAny (model X.prog X.w) A (ygs (.ref a) m pl) Q E s:=by
 obtain⟨mA,O,r,_,_,_⟩:=zmy I.hok e;have hn:mA m=none:=RelO.none_of (by rw[← l];exact r m);exact zrsb I.kIn O (c.get m) k.at_ k.fn hn h
theorem zmv {y:V}{u:Value}{Q:Unit->Shared->Prop}(I:Inv X pins σ H s)(e:H a=some (.ins C dx fs))(c:Cls X.K C)(n:zfh X.K C f)(hl:fs.length<1000)(ry:RelV y u)
  (h:∀s',Inv X pins σ (upd H a (.ins C dx (putF f y fs))) s'->Q () s'):wpAny (model X.prog X.w) A (setAttr (.ref a) f u) Q E s:=by
 obtain⟨mA,O,r,wi,_,ho⟩:=zmy I.hok e;have hz:(fs.map (·.1)).length≤yta:=by rw[yea,sizeLine_eq];omega
 refine zovb I.kIn O c.sa c.po n.taker c.hd wi hz λh' O' sb=>h _ ?_;have hd:∃o,h'.get? dx=some o:=let ⟨o,_,_,e',_⟩:=O'.ns;⟨o,e'⟩;refine I.write (x:=a) (e:=dx) (by rw[e];exact True.intro) (.inr ho) (λb q hb z=>(sb.2 b hb).trans z) hd ?_;refine⟨by rw[zta O.ne];exact ho,?_,O.ne,O'.obj,_,O'.ns,λg=>?_,λg hg=>?_⟩
 ·have:=zjt f y fs;omega
 ·show RelO ((putF f y fs).lookup g) (if g=f then some u else mA g);rw[zft]
  by_cases q:g=f
  ·rw[if_pos q,if_pos q];exact ry
  ·rw[if_neg q,if_neg q];exact r g
 ·by_cases q:g=f
  ·rw[q];exact (zlt f y fs).1
  ·refine (zlt f y fs).2 g (wi g λz=>hg ?_);show (if g=f then some u else mA g)=none
   rw[if_neg q];exact z
theorem Inv.made (I:Inv X pins σ H s):Inv X pins σ (upd (upd H s.heap.objs.size (.own (s.heap.objs.size+1))) (s.heap.objs.size+1) (.ins C s.heap.objs.size []))
  { s with heap:=(s.heap.push yxd).push (yaf C s.heap.objs.size) }:=by
 have e1:(s.heap.push yxd).get? s.heap.objs.size=some yxd:=yna s.heap rfl;have e2:((s.heap.push yxd).push (yaf C s.heap.objs.size)).get? (s.heap.objs.size+1)=some (yaf C s.heap.objs.size):=by
  have:=yna (s.heap.push yxd) (o:=yaf C s.heap.objs.size) rfl
  rwa [yae] at this
 have e3:(s.heap.push yxd).Ns s.heap.objs.size (λ_=>none):=⟨yxd,#[],_,e1,rfl,(λe he=>absurd he (by simp)),λ_=>rfl⟩;have I1:=I.laid (a:=s.heap.objs.size) (o:=.own (s.heap.objs.size+1)) (h':=s.heap.push yxd) (t':=s.toks) (λb u q=>yba _ q) (yha _) ⟨_,e1⟩;refine I1.laid (a:=s.heap.objs.size+1) (o:=.ins C s.heap.objs.size []) (t':=s.toks) (λb u q=>yba _ q) (yrn (yae _ _)) ?_;have ne:s.heap.objs.size≠s.heap.objs.size+1:=ydb (yje _);refine⟨by rw[zta ne,zfa],ygb _,ne,e2,λ_=>none,(Heap.Ns1.of_empty e3).at λo q=>yba _ q,λ_=>True.intro,λy hy=>absurd rfl hy⟩
theorem zrxb {prog:yqb}{w:World}{env:Env}{e:Expr}{f:Str}{pos:Pos}{s:Shared}{Q:Value->Shared->Prop}(hb:yoh e f env (eval e env)=eval e env)
  (h:wpAny (model prog w) A (eval e env) (λo s₁=>wpAny (model prog w) A (getAttr o f true) Q E s₁) E s):wpAny (model prog w) A (eval (.Attribute e f pos) env) Q E s :=
 Attribute_any_ h (by rw[arm_eval_Attribute,hb])
end
def tFld (K:yca)(ta:TE)(f:Str):TE:=fun σ H Q=>ta σ H λx H1=>Ex5 λa C dx fs v=>x = .ref a∧H1 a=some (.ins C dx fs)∧Cls K C∧zfh K C f∧fs.lookup f=some v∧Q v H1
def sFld (K:yca)(ta tv:TE)(f:Str):TS:=λD σ H=>tv σ H λy H1=>ta σ H1 λx H2=>Ex4 λa C dx fs=>x = .ref a∧H2 a=some (.ins C dx fs)∧Cls K C∧zfh K C f∧fs.length<1000 ∧
 D.nx σ (upd H2 a (.ins C dx (putF f y fs)))
def InOp (X:Cx)(op:ybs)(rd:V->V->Hp->VK->Prop):Prop :=
 ∀(pins:List (Addr×Obj)) (s:Shared) (σ:St) (H:Hp) (x y:V) (u v:Value) (Q:VK),Inv X pins σ H s->RelV x u->RelV y v->rd x y H Q->wpAny (model X.prog X.w) X.A (inplaceOp op u v) (EP X pins σ Q) X.xe s
def zrvb (K:yca)(ta tv:TE)(rd:V->V->Hp->VK->Prop)(f:Str):TS:=λD σ H=>ta σ H λx H1=>Ex5 λa C dx fs v=>x = .ref a∧H1 a=some (.ins C dx fs)∧Cls K C∧zfh K C f∧fs.lookup f=some v ∧
 tv σ H1 λy H2=>rd v y H2 λz H3=>Ex2 λdx' fs'=>H3 a=some (.ins C dx' fs')∧fs'.length<1000∧D.nx σ (upd H3 a (.ins C dx' (putF f z fs')))
section
variable {X:Cx}{o e value:Expr}{f:Str}{pos pos' tpos:Pos}{ta tv:TE}
theorem zte (he:PE X e ta)(hb:yoh e f X.env (eval e X.env)=eval e X.env):PE X (.Attribute e f pos) (tFld X.K ta f):=by
 intro pins s σ H Q I h;refine zrxb hb (thn (he pins s σ H _ I h) λu s1 ⟨x,H1,I1,rx,a,C,dx,fs,v,ex,ea,c,n,l,q⟩=>?_);subst ex;obtain rfl:u=Value.ref a:=rx;exact zgw I1 ea c n l λu' s2 I2 ru=>⟨v,H1,I2,ru,q⟩
theorem zlm (ha:PE X o ta)(hv:PE X value tv)(hs:yup value (some (.Attribute o f pos')) pos.line X.env=pure false):PS X (.Assign [.Attribute o f pos'] value pos) (sFld X.K ta tv f):=by
 intro pins s σ H D I h;refine plainObj_wpAny_Assign_Attribute (thn (hv pins s σ H _ I h) λu s1 ⟨y,H1,I1,ry,q⟩=>thn (ha pins s1 σ H1 _ I1 q) λov s2 ⟨x,H2,I2,rx,a,C,dx,fs,ex,ea,c,n,l,q2⟩=>?_) hs;subst ex;obtain rfl:ov=Value.ref a:=rx;exact zmv I2 ea c n l ry λs3 I3=>⟨σ,_,I3,q2⟩
theorem zzlb {op:ybs}{rd:V->V->Hp->VK->Prop}(ha:PE X o ta)(hv:PE X value tv)(hop:InOp X op rd):PS X (.AugAssign (.Attribute o f tpos) op value pos) (zrvb X.K ta tv rd f):=by
 intro pins s σ H D I h;refine wpAny_AugAssign_AttributeAny (thn (ha pins s σ H _ I h) λov s1 ⟨x,H1,I1,rx,a,C,dx,fs,v,ex,ea,c,n,l,q⟩=>?_);subst ex;obtain rfl:ov=Value.ref a:=rx;refine zgw I1 ea c n l λu s2 I2 ru=>thn (hv pins s2 σ H1 _ I2 q) λw3 s3 ⟨y,H2,I3,ry,q3⟩=>thn (hop pins s3 σ H2 v y u w3 _ I3 ru ry q3) λw4 s4 ⟨z,H3,I4,rz,dx',fs',ea',l',q4⟩=>?_;exact zmv I4 ea' c n l' rz λs5 I5=>⟨σ,_,I5,q4⟩
def rAdd:V->V->Hp->VK->Prop:=λx y H Q=>Ex2 λi j=>x = .int i∧y = .int j∧Q (.int (i+j)) H
theorem zoac:InOp X .Add rAdd:=by
 rintro pins s σ H x y u v Q I rx ry ⟨i,j,rfl,rfl,q⟩;obtain⟨t,rfl⟩:=(show ∃t,u=Value.int i t from rx);obtain⟨t',rfl⟩:=(show ∃t',v=Value.int j t' from ry);exact PyProof.Rows.iadd_int ⟨.int (i+j),H,I.tok _,⟨_,rfl⟩,q⟩
end
section
variable {X:Cx}{pins:List (Addr×Obj)}{σ:St}{H:Hp}{s:Shared}{A:Around}{E:Value->Shared->Prop}{Q:Value->Shared->Prop}{c:Value}{b:Bool}
inductive TyOf (K:yca)(H:Hp):V->Value->Prop where
 | non:TyOf K H .non (.type "NoneType")
 | bl (x:Bool):TyOf K H (.bl x) (.type "bool")
 | int (i:Int):TyOf K H (.int i) (.type "int")
 | str (x:Str):TyOf K H (.str x) (.type "str")
 | flt (x:UInt64):TyOf K H (.flt x) (.type "float")
 | lst {a:Addr} {xs:List V} (e:H a=some (.lst xs)):TyOf K H (.ref a) (.type "list")
 | frz {a:Addr} {o:Obj} {xs:List V} (e:H a=some (.frz o (.lst xs))):TyOf K H (.ref a) (.type "list")
 | tup {a:Addr} {xs:List V} (e:H a=some (.tup xs)):TyOf K H (.ref a) (.type "tuple")
 | dK {a:Addr} {kvs:List (Key×V)} (e:H a=some (.dK kvs)):TyOf K H (.ref a) (.type "dict")
 | dT {a:Addr} {kvs:List (List Key×V)} (e:H a=some (.dT kvs)):TyOf K H (.ref a) (.type "dict")
 | ins {a C dx:Addr} {fs:List (Str×V)} (e:H a=some (.ins C dx fs)) (cl:Cls K C) (ha:ymb K (.ref C) "__class__" = some (some (.builtin "object.__class__")))
   (hn:yfj K (.builtin "object.__class__") "__get__" = some (some (.builtin "getset_descriptor.__get__"))) (htk:ysn K (.builtin "object.__class__")=some true)
   (hm:yxp K C (.type "object")=some true):TyOf K H (.ref a) (.ref C)
theorem zdcb {x:V}{u t:Value}(I:Inv X pins σ H s)(rx:RelV x u)(ty:TyOf X.K H x t)(e:yoc X.K t c=some b)(h:∀tk,Q (.bool b) { s with toks:=tk }) :
  wpAny (model X.prog X.w) A (call (.builtin "isinstance") [u,c]) Q E s:=by
 cases ty with
 | non=>cases (show u=Value.none from rx);exact ysd PySem.W.kitx_none I.kIn True.intro e (λz=>nomatch z) h
 | bl y=>cases (show u=Value.bool y from rx);exact ysd PySem.W.kitx_bool I.kIn True.intro e (λz=>nomatch z) h
 | int i=>obtain⟨t,q⟩:=(show ∃t,u=Value.int i t from rx);cases q;exact ysd PySem.W.kitx_int I.kIn True.intro e (λz=>nomatch z) h
 | str y=>obtain⟨t,q⟩:=(show ∃t,u=Value.str y t from rx);cases q;exact ysd PySem.W.kitx_str I.kIn True.intro e (λz=>nomatch z) h
 | flt y=>obtain⟨t,q⟩:=(show ∃t,u=Value.float y t from rx);cases q;exact ysd PySem.W.kitx_float I.kIn True.intro e (λz=>nomatch z) h
 | @lst a xs ea =>
  cases (show u=Value.ref a from rx);obtain⟨_,_,n,_,h1⟩:=(show zgg X.prog X.w H s.heap a (.lst xs) from I.hok a _ ea);exact ysd ypq I.kIn ⟨_,h1,rfl⟩ e (λz=>nomatch z) h
 | @frz a ob xs ea =>
  cases (show u=Value.ref a from rx);obtain⟨_,_,_,n,_,h1⟩:=(show zgg X.prog X.w H s.heap a (.frz ob (.lst xs)) from I.hok a _ ea);exact ysd ypq I.kIn ⟨_,h1,rfl⟩ e (λz=>nomatch z) h
 | @tup a xs ea =>
  cases (show u=Value.ref a from rx);obtain⟨_,_,_,p⟩:=(show zgg X.prog X.w H s.heap a (.tup xs) from I.hok a _ ea);obtain⟨o,h1,h2,_⟩:=p;exact ysd PySem.W.kitx_tuple I.kIn ⟨o,h1,h2⟩ e (λz=>nomatch z) h
 | @dK a kvs ea =>
  cases (show u=Value.ref a from rx);obtain⟨_,_,vs,_,p⟩:=(show zgg X.prog X.w H s.heap a (.dK kvs) from I.hok a _ ea);obtain⟨o,es,ep,h1,h2,_⟩:=p;exact ysd yqq I.kIn ⟨o,h1,h2.1⟩ e (λz=>nomatch z) h
 | @dT a kvs ea =>
  cases (show u=Value.ref a from rx);obtain⟨_,_,xs,_,o,es,ep,h1,h2,_⟩:=(show zgg X.prog X.w H s.heap a (.dT kvs) from I.hok a _ ea);exact ysd yqq I.kIn ⟨o,h1,h2.1⟩ e (λz=>nomatch z) h
 | @ins a C dx fs ea cl ha hn htk hm =>
  cases (show u=Value.ref a from rx);obtain⟨mA,O,_⟩:=zmy I.hok ea;obtain⟨od,J,_⟩:=O.look;exact ysd (PySem.W.kitx_own (cl.get _) cl.hd ha hn htk hm) I.kIn J e (λz=>nomatch z) h
end
end L2
namespace L2
open PySem PySem.Spec PyProof.Rows
structure Room (k:Nat)(A:Around):Prop where
 hd:A.handled=none
 dp:A.depth+3*k+5<recursionLimit
 un:A.units+16*k+200<cLine
theorem Room.mono {j k:Nat}{A:Around}(r:Room k A)(h:j≤k):Room j A:=⟨r.hd,by have:=r.dp;omega,by have:=r.un;omega⟩
theorem Room.deeper {k:Nat}{A:Around}(r:Room (k+1) A)(env:Env):Room k (A.deeper env) :=
 ⟨r.hd,by have:=r.dp;show A.depth+1+3*k+5<_;omega,by have:=r.un;show A.units+3+16*k+200<_;omega⟩
theorem zmjb {A:Around}{C:Addr}{us:List Value}{kw:List (Str×Value)}:(A.under (.builtin "type.__call__" ⟨.ref C::us,kw⟩)).depth=A.depth+1:=by
 first|rfl|simp[yor,Code.weight,Code.isCreation,Code.isGuard,Code.isCaller,Code.frames,ypr,guardIds]
theorem zljb {A:Around}{C:Addr}{us:List Value}{kw:List (Str×Value)}:(A.under (.builtin "type.__call__" ⟨.ref C::us,kw⟩)).units=A.units+1:=by
 first|rfl|simp[yor,Code.cUnits,Code.frames,ypr]
theorem Room.make {k:Nat}{A:Around}(r:Room (k+1) A)(C:Addr)(us:List Value)(kw:List (Str×Value)):Room k (A.under (.builtin "type.__call__" ⟨.ref C::us,kw⟩)) :=
 ⟨r.hd,by have:=r.dp;rw[zmjb];omega,by have:=r.un;rw[zljb];omega⟩
theorem Room.depth {k:Nat}{A:Around}(r:Room k A):A.depth<recursionLimit:=by have:=r.dp;omega
theorem Room.units {k:Nat}{A:Around}(r:Room k A):A.units+64<cLine:=by have:=r.un;omega
def tNil:TA:=λ_ H Q=>Q [] H
def ziqb (ta:TE)(tr:TA):TA:=fun σ H Q=>ta σ H λx H1=>tr σ H1 λxs H2=>Q (x::xs) H2
section
variable {X:Cx}{e:Expr}{es:List Expr}{te:TE}{t:TA}{pos:Pos}
theorem zca:PA X [] tNil:=λ_ _ _ _ H Q I h=>Calls.spliced_nil ⟨[],H,I,.nil,h⟩
theorem zaa (ha:PE X e te)(hr:PA X es t)(hs:ywc (e::es) X.env=(false,eval e X.env)::ywc es X.env:=by rfl):PA X (e::es) (ziqb te t):=by
 intro pos pins s σ H Q I h;rw[hs];show wpAny _ _ (spliced ((false,eval e X.env)::backTo pos (ywc es X.env))) _ _ s
 refine Calls.spliced_cons (thn (ha pins s σ H _ I h) λu s1 ⟨x,H1,I1,r1,q1⟩=>?_);exact thn (hr pos pins s1 σ H1 _ I1 q1) λus s2 ⟨xs,H2,I2,r2,q2⟩=>⟨x::xs,H2,I2,.cons r1 r2,q2⟩
def tTup (t:TA):TE:=fun σ H Q=>t σ H λxs H1=>xs.length≤yta∧∀p,H1 p=none->Q (.ref p) (upd H1 p (.tup xs))
def tLst (t:TA):TE:=fun σ H Q=>t σ H λxs H1=>xs.length≤yta∧∀p,H1 p=none->Q (.ref p) (upd H1 p (.lst xs))
theorem zgb {x1}(h:PA X es t):PE X (.Tuple es x1 pos) (tTup t):=by
 intro pins s σ H Q I hq;refine wpAny_Tuple_spliced (thn (h pos pins s σ H _ I hq) λus s1 ⟨xs,H1,I1,r,z,q⟩=>⟨by rw[← r.length];exact z,?_⟩);have hf:H1 s1.heap.objs.size=none:=I1.hok.fresh (yha _);refine⟨.ref s1.heap.objs.size,upd H1 s1.heap.objs.size (.tup xs),I1.laid (t':=s1.toks) (λb u e=>yba _ e) (yha _) ?_,rfl,q _ hf⟩;exact⟨z,us,r,⟨_,yna _ rfl,rfl,_,rfl⟩⟩
theorem zsj (h:PA X es t):PE X (.List es pos) (tLst t):=by
 intro pins s σ H Q I hq;refine wpAny_List_spliced (thn (h pos pins s σ H _ I hq) λus s1 ⟨xs,H1,I1,r,z,q⟩=>⟨by rw[← r.length];exact z,?_⟩);have hf:H1 s1.heap.objs.size=none:=I1.hok.fresh (yha _);refine⟨.ref s1.heap.objs.size,upd H1 s1.heap.objs.size (.lst xs),I1.laid (t':=s1.toks) (λb u e=>yba _ e) (yha _) ?_,rfl,q _ hf⟩;exact⟨z,us,0,r,yna _ rfl⟩
end
abbrev Sp:=List V->Hp->VK->XK->Prop
abbrev CXT:=List Env->Hp->Shared->XK->Value->Shared->Prop
structure Env0 (P:yqb)(w:World)(K:yca)(mg:Str->Option Value)(base:Heap)(A:Around)(outer:List Env)(s:Shared)(H:Hp):Prop where
 frames:A.frames=some outer
 mod:Mod K mg base
 bs:∀b o,base.get? b=some o->s.heap.get? b=some o∧H b=none
 bsz:base.objs.size≤s.heap.objs.size
 funs:s.heap.FunFrames base outer
 frf:∀b∈frs outer,H b=none
 hok:HOk P w H s.heap
 bare:ygp s.gens
def CE (outer:List Env)(P:yqb)(w:World)(H:Hp)(s:Shared)(Q:VK)(u:Value)(s':Shared):Prop :=
 Ex2 λv H'=>s'.os=s.os∧ygp s'.gens∧Un (frs outer) [] H H' s.heap s'.heap∧HOk P w H' s'.heap∧RelV v u∧Q v H'
def CR (CX:CXT)(outer:List Env)(P:yqb)(w:World)(H:Hp)(s:Shared)(Q:VK)(E:XK)(r:Result)(s':Shared):Prop :=
 match r with
 | .ok (.ret u)=>CE outer P w H s Q u s'
 | .ok _=>False
 | .error e=>CX outer H s E e s'
structure FnOk (P:yqb)(w:World)(K:yca)(mg:Str->Option Value)(base:Heap)(CX:CXT)(k:Nat)(f:Addr)(fd:yef)(ps:List Str)(sp:Sp):Prop where
 len:∀vs H Q E,sp vs H Q E->vs.length=ps.length
 run:∀(A:Around) (outer:List Env) (s:Shared) (H:Hp) (args:Args) (us:List Value) (vs:List V) (Q:VK) (E:XK),Room k A->Env0 P w K mg base A outer s H->yrq s fd args (ps.zip us)->Vals vs us->sp vs H Q E →
  yej (model P w) A (.call (.ref f) args) (CR CX outer P w H s Q E) s
theorem FnOk.mono {P:yqb}{w:World}{K:yca}{mg:Str->Option Value}{base:Heap}{CX:CXT}{j k:Nat}{f:Addr}{fd:yef}{ps:List Str}{sp:Sp}(F:FnOk P w K mg base CX j f fd ps sp)(h:j≤k) :
  FnOk P w K mg base CX k f fd ps sp:=⟨F.len,λA outer s H args us vs Q E hr=>F.run A outer s H args us vs Q E (hr.mono h)⟩
theorem Env0.make {P:yqb}{w:World}{K:yca}{mg:Str->Option Value}{base:Heap}{A:Around}{outer:List Env}{s:Shared}{H:Hp}(e:Env0 P w K mg base A outer s H)(C:Addr)(us:List Value)(kw:List (Str×Value)) :
  Env0 P w K mg base (A.under (.builtin "type.__call__" ⟨.ref C::us,kw⟩)) outer s H:=⟨by first|exact e.frames|(simpa [yor,Code.envs,ypr,pushEnvs] using e.frames),e.mod,e.bs,e.bsz,e.funs,e.frf,e.hok,e.bare⟩
section
variable {X:Cx}{pins:List (Addr×Obj)}{σ:St}{H:Hp}{s s':Shared}
theorem Inv.env0 (I:Inv X pins σ H s):Env0 X.prog X.w X.K X.mg X.base X.A X.stack s H :=
 ⟨I.ok.frames,I.ok.mod,I.bs,yua I.ok.bsz I.sz,I.stack,I.zzkb,I.hok,I.bare⟩
theorem Inv.after {Q:VK}{u:Value}(I:Inv X pins σ H s)(h:CE X.stack X.prog X.w H s Q u s'):EP X pins σ Q u s':=by
 obtain⟨v,H',os,bare,un,hok,r,q⟩:=h;obtain⟨hh,g,d,t,os'⟩:=s';obtain rfl:os'=s.os:=os;exact⟨v,H',I.call (h':=hh) (g':=g) (d':=d) (t':=t) (ch:=[]) un hok bare (λb z=>absurd z (by simp)),r,q⟩
end
def zjbc (sp:Sp)(dvs:List V)(E:XK)(t:TA):TE:=fun σ H Q=>t σ H λvs H1=>sp (vs++dvs) H1 Q E
def zeyb (C:Addr)(m:Str)(sp:Sp)(dvs:List V)(E:XK)(ta:TE)(t:TA):TE:=fun σ H Q=>ta σ H λx H1=>Ex3 λa dx fs=>x = .ref a∧H1 a=some (.ins C dx fs)∧fs.lookup m=none ∧
 t σ H1 λvs H2=>sp (x::(vs++dvs)) H2 Q E
def zfbc (C:Addr)(sp:Sp)(dvs:List V)(E:XK)(t:TA):TE:=fun σ H Q=>t σ H λvs H1=>∀x dx,H1 x=none->H1 dx=none->dx≠x →
 sp (.ref x::(vs++dvs)) (upd (upd H1 dx (.own x)) x (.ins C dx [])) (λv H2=>v = .non∧Q (.ref x) H2) E
def Binds (K:yca)(fd:yef)(ps:List Str)(ds:List Value):Prop :=
 ∀(s:Shared) (us:List Value),K.In s.heap->(us++ds).length=ps.length->yrq s fd ⟨us,[]⟩ (ps.zip (us++ds))
theorem Binds.all {K:yca}{fd:yef}{ps:List Str}(h:∀us:List Value,us.length=ps.length->bindArgs fd ⟨us,[]⟩=pure (ps.zip us)):Binds K fd ps []:=λs us _ hl=>by
 rw[ylb] at hl ⊢;exact .of_eq (h us hl)
def Passes (CX:CXT)(X:Cx)(E:XK):Prop:=∀(pins:List (Addr×Obj)) (σ:St) (H:Hp) (s:Shared) (e:Value) (s':Shared),Inv X pins σ H s->CX X.stack H s E e s'->X.xe e s'
section
variable {X:Cx}{CX:CXT}{k:Nat}{f C:Addr}{fd:yef}{ps:List Str}{sp:Sp}{dvs:List V}{ds:List Value}{E:XK}{x m:Str}{p pos apos:Pos}{e o:Expr}{es:List Expr}{ta:TE}{t:TA}
theorem zqlb {pins:List (Addr×Obj)}{σ:St}{H:Hp}{s:Shared}{Q:VK}{us:List Value}{vs:List V}(F:FnOk X.prog X.w X.K X.mg X.base CX k f fd ps sp)(hr:Room k X.A)(hb:Binds X.K fd ps ds)(hd:Vals dvs ds)(hx:Passes CX X E)
  (I:Inv X pins σ H s) (r:Vals vs us) (h:sp (vs++dvs) H Q E):wpAny (model X.prog X.w) X.A (call (.ref f) us) (EP X pins σ Q) X.xe s:=by
 have r2:Vals (vs++dvs) (us++ds):=r.append hd;have hl:(us++ds).length=ps.length:=by rw[← r2.length];exact F.len _ _ _ _ h
 refine ysq (ych (F.run X.A X.stack s H ⟨us,[]⟩ (us++ds) (vs++dvs) Q E hr I.env0 (hb s us I.kIn hl) r2 h) λr s' hq=>?_);cases r with
 | error e=>exact hx pins σ H s e s' I hq
 | ok fl =>
  cases fl with
  | ret u=>exact I.after hq
  | next=>exact yhf hq
  | brk=>exact yhf hq
  | cont=>exact yhf hq
theorem zja (F:FnOk X.prog X.w X.K X.mg X.base CX k f fd ps sp)(hr:Room k X.A)(hg:Gl X x)(hm:X.mg x=some (.ref f))(hk:yte X.K (.ref f)=true)(hb:Binds X.K fd ps ds)(hd:Vals dvs ds)(hx:Passes CX X E)
  (ha:PA X (e::es) t) (hdb:(x==("__debug__":Str))=false:=by decide) (he:ywc (e::es) X.env=(false,eval e X.env)::ywc es X.env:=by rfl) (hpl:(backTo pos (ywc es X.env)).any (·.1)=false:=by rfl) :
  PE X (.Call (.Name x p) (e::es) [] pos) (zjbc sp dvs E t):=by
 intro pins s σ H Q I h;refine yqi (zxeb I hg hm ?_ hdb);refine yal (h₀:=X.base) I.ok.mod.kin hk (thn (ha pos pins s σ H _ I h) λus s1 ⟨vs,H1,I1,r,q⟩=>⟨I1.kIn,?_⟩) he hpl;exact zqlb F hr hb hd hx I1 r q
theorem zqe {pl:Sem Bool}(he:PE X o ta)(c:Cls X.K C)(hm:Meth X.K C m f)(F:FnOk X.prog X.w X.K X.mg X.base CX k f fd ps sp)(hr:Room k X.A)(hb:Binds X.K fd ps ds)(hd:Vals dvs ds)(hx:Passes CX X E)(ha:PA X (e::es) t)
  (hst:ywc (e::es) X.env=(false,eval e X.env)::ywc es X.env:=by rfl) (hpl:(backTo pos (ywc es X.env)).any (·.1)=false:=by rfl)
  (ht:eval (.Call (.Attribute o m apos) (e::es) [] pos) X.env=(do
   let ov ← eval o X.env
   yfs apos.atName
   let (f,first) ← ylm [ov] (ygs ov m pl)
   callWith pos f first (backTo pos (ywc (e::es) X.env)) (ycs pos (ymm [] X.env))):=by rfl) :
  PE X (.Call (.Attribute o m apos) (e::es) [] pos) (zeyb C m sp dvs E ta t):=by
 intro pins s σ H Q I h;refine ytn (pl:=pl) (thn (he pins s σ H _ I h) λu s1 ⟨x,H1,I1,rx,a,dx,fs,ex,ea,l,q⟩=>?_) ht;subst ex;obtain rfl:u=Value.ref a:=rx;refine zfw I1 ea c hm l ?_;refine yal (first:=[.ref a]) (h₀:=X.base) I.ok.mod.kin hm.kp (thn (ha pos pins s1 σ H1 _ I1 q) λus s2 ⟨vs,H2,I2,r,q2⟩=>⟨I2.kIn,?_⟩) hst hpl;exact zqlb (us:=.ref a::us) (vs:=.ref a::vs) F hr hb hd hx I2 (.cons rfl r) q2
theorem zzc {pl:Sem Bool}(he:PE X o ta)(c:Cls X.K C)(hm:Meth X.K C m f)(F:FnOk X.prog X.w X.K X.mg X.base CX k f fd ps sp)(hr:Room k X.A)(hb:Binds X.K fd ps ds)(hd:Vals dvs ds)(hx:Passes CX X E)
  (ht:eval (.Call (.Attribute o m apos) [] [] pos) X.env=(do
   let ov ← eval o X.env
   yfs apos.atName
   let (f,first) ← ylm [ov] (ygs ov m pl)
   callWith pos f first (backTo pos (ywc [] X.env)) (ycs pos (ymm [] X.env))):=by rfl) :
  PE X (.Call (.Attribute o m apos) [] [] pos) (zeyb C m sp dvs E ta tNil):=by
 intro pins s σ H Q I h;refine ytn (pl:=pl) (thn (he pins s σ H _ I h) λu s1 ⟨x,H1,I1,rx,a,dx,fs,ex,ea,l,q⟩=>?_) ht;subst ex;obtain rfl:u=Value.ref a:=rx;refine zfw I1 ea c hm l ?_;exact PySem.W.callWith_K0 (first:=[.ref a]) I1.kIn hm.kp (zqlb (us:=[.ref a]) (vs:=[.ref a]) F hr hb hd hx I1 (.cons rfl .nil) q)
structure Mk (K:yca)(C f:Addr):Prop where
 makes:yqn K C=true
 init:ymb K (.ref C) "__init__" = some (some (.ref f))
 fn:yzk K (.ref f)=true
 kp:yte K (.ref C)=true
theorem zbrb {pins:List (Addr×Obj)}{σ:St}{H:Hp}{s:Shared}{Q:VK}{us:List Value}{vs:List V}(M:Mk X.K C f)(F:FnOk X.prog X.w X.K X.mg X.base CX k f fd ps sp)(hr:Room (k+1) X.A)(hb:Binds X.K fd ps ds)(hd:Vals dvs ds)
  (hx:Passes CX X E) (I:Inv X pins σ H s) (r:Vals vs us)
  (h:∀x dx,H x=none->H dx=none->dx≠x->sp (.ref x::(vs++dvs)) (upd (upd H dx (.own x)) x (.ins C dx [])) (λv H2=>v = .non∧Q (.ref x) H2) E) :
  wpAny (model X.prog X.w) X.A (call (.ref C) us) (EP X pins σ Q) X.xe s:=by
 have hq:=h (s.heap.objs.size+1) s.heap.objs.size (I.hok.fresh (yke _)) (I.hok.fresh (yha _)) (ydb (yje _));have I2:=Inv.made (C:=C) I;have r2:Vals (V.ref (s.heap.objs.size+1)::(vs++dvs)) (Value.ref (s.heap.objs.size+1)::(us++ds)):=.cons rfl (r.append hd);have hl:(Value.ref (s.heap.objs.size+1)::us++ds).length=ps.length:=by
  have e:=r2.length;rw[F.len _ _ _ _ hq] at e;exact e.symm
 refine ysq (zzrb (f:=f) I.kIn M.makes M.init (beq_iff_eq.mp M.fn) (ych (F.run _ X.stack _ _ ⟨Value.ref (s.heap.objs.size+1)::us,[]⟩ (Value.ref (s.heap.objs.size+1)::(us++ds)) _ _ E (hr.make C us [])
  (I2.env0.make C us []) (hb _ (Value.ref (s.heap.objs.size+1)::us) I2.kIn hl) r2 hq) λr s' hq'=>?_))
 cases r with
 | error e=>exact hx pins σ _ _ e s' I2 hq'
 | ok fl =>
  cases fl with
  | ret u =>
   obtain⟨v,H',I3,rv,ev,q3⟩:=I2.after hq';subst ev;exact⟨rv,⟨V.ref (s.heap.objs.size+1),H',I3,rfl,q3⟩⟩
  | next=>exact yhf hq'
  | brk=>exact yhf hq'
  | cont=>exact yhf hq'
theorem zsx (M:Mk X.K C f)(F:FnOk X.prog X.w X.K X.mg X.base CX k f fd ps sp)(hr:Room (k+1) X.A)(hg:Gl X x)(hm:X.mg x=some (.ref C))(hb:Binds X.K fd ps ds)(hd:Vals dvs ds)(hx:Passes CX X E)
  (ha:PA X (e::es) t) (hdb:(x==("__debug__":Str))=false:=by decide) (he:ywc (e::es) X.env=(false,eval e X.env)::ywc es X.env:=by rfl) (hpl:(backTo pos (ywc es X.env)).any (·.1)=false:=by rfl) :
  PE X (.Call (.Name x p) (e::es) [] pos) (zfbc C sp dvs E t):=by
 intro pins s σ H Q I h;refine yqi (zxeb I hg hm ?_ hdb);refine yal (h₀:=X.base) I.ok.mod.kin M.kp (thn (ha pos pins s σ H _ I h) λus s1 ⟨vs,H1,I1,r,q⟩=>⟨I1.kIn,?_⟩) he hpl;exact zbrb M F hr hb hd hx I1 r q
end
section
variable {X:Cx}{CX:CXT}{k:Nat}{f C:Addr}{fd:yef}{ps ks:List Str}{sp:Sp}{E:XK}{x m:Str}{p pos apos kpos:Pos}{e o:Expr}{es:List Expr}{kws:List ytq}{te ta:TE}{t tk:TA}{nm:Option Str}
structure zjcc (K:yca)(fd:yef)(ps ks:List Str)(g:List Value->List Value->List Value)(gV:List V->List V->List V):Prop where
 to:∀(s:Shared) (us ws:List Value),K.In s.heap->(g us ws).length=ps.length->yrq s fd ⟨us,ks.zip ws⟩ (ps.zip (g us ws))
 rel:∀{vs:List V} {us:List Value} {zs:List V} {ws:List Value},Vals vs us->Vals zs ws->Vals (gV vs zs) (g us ws)
variable {g:List Value->List Value->List Value}{gV:List V->List V->List V}
end
structure zqa (N P:List Str)(sc:Scope):Prop where
 kind:sc.kind = .function
 co:sc.isCoroutine=false
 gen:sc.isGenerator=false
 nd:N.Nodup
 pre:N.take P.length=P
 par:∀x∈P,sc.names.lookup x=some .local∨sc.names.lookup x=some .cell
 nofree:∀y∈sc.names,y.2 ≠ .free
theorem zvcb {kindOf:Str->Option yxc}{x:Str}:∀{binds:List (Str×Value)} {m:Str->Option Value},(∀v,(x,v)∉binds)->bindL kindOf binds m x=m x
 | [],_,_=>rfl
 | (n,v)::r,m,h=>by
  unfold bindL;rw[zvcb λw hw=>h w (yma _ hw)]
  split
  ·have:x≠n:=by rintro rfl;exact h v yka
   simp[this]
  ·rfl
theorem zxcb {kindOf:Str->Option yxc}{x:Str}:∀{binds:List (Str×Value)} {m:Str->Option Value},(∀v,(x,v)∉binds)->bindC kindOf binds m x=m x
 | [],_,_=>rfl
 | (n,v)::r,m,h=>by
  unfold bindC;rw[zxcb λw hw=>h w (yma _ hw)]
  split
  ·rfl
  ·have:x≠n:=by rintro rfl;exact h v yka
   simp[this]
theorem zwcb {kindOf:Str->Option yxc}{x:Str}{v:Value}:∀{P:List Str} {vs:List Value} {i:Nat} {m:Str->Option Value},P.Nodup->P[i]?=some x->vs[i]?=some v->kindOf x=some .local →
  bindL kindOf (P.zip vs) m x=some v
 | [],_,_,_,_,h,_,_=>by simp at h
 | _::_,[],_,_,_,_,h,_=>by simp at h
 | p::P,w::vs,0,m,nd,h1,h2,hk=>by
  simp at h1 h2;subst h1;subst h2;show bindL kindOf ((p,w)::P.zip vs) m p=_
  unfold bindL;rw[zvcb λv hv=>(ykk.mp nd).1 (yun hv).1,if_pos hk];simp
 | p::P,w::vs,i+1,m,nd,h1,h2,hk=>by
  show bindL kindOf ((p,w)::P.zip vs) m x=_
  unfold bindL;exact zwcb (i:=i) (ykk.mp nd).2 (by simpa using h1) (by simpa using h2) hk
theorem zycb {kindOf:Str->Option yxc}{x:Str}{v:Value}:∀{P:List Str} {vs:List Value} {i:Nat} {m:Str->Option Value},P.Nodup->P[i]?=some x->vs[i]?=some v->kindOf x≠some .local →
  bindC kindOf (P.zip vs) m x=some v
 | [],_,_,_,_,h,_,_=>by simp at h
 | _::_,[],_,_,_,_,h,_=>by simp at h
 | p::P,w::vs,0,m,nd,h1,h2,hk=>by
  simp at h1 h2;subst h1;subst h2;show bindC kindOf ((p,w)::P.zip vs) m p=_
  unfold bindC;rw[zxcb λv hv=>(ykk.mp nd).1 (yun hv).1,if_neg hk];simp
 | p::P,w::vs,i+1,m,nd,h1,h2,hk=>by
  show bindC kindOf ((p,w)::P.zip vs) m x=_
  unfold bindC;exact zycb (i:=i) (ykk.mp nd).2 (by simpa using h1) (by simpa using h2) hk
def start (N:List Str)(vs:List V):St:=vs.map some++List.replicate (N.length-vs.length) none
def cxOf (CX:CXT)(P:yqb)(w:World)(K:yca)(mg:Str->Option Value)(base:Heap)(N:List Str)(qual:Str)(scope:Scope)(f:Addr)(cd:Value)(A:Around)(outer:List Env)(s:Shared)(H:Hp)(E:XK):Cx where
 prog:=P
 w:=w
 K:=K
 mg:=mg
 base:=base
 A:=A.deeper (envOfC qual scope s.heap.objs.size f cd)
 N:=N
 s₀:=s
 H₀:=H
 env:=envOfC qual scope s.heap.objs.size f cd
 outer:=outer
 stack:=envOfC qual scope s.heap.objs.size f cd::outer
 ex:=[]
 calm:=true
 fn:=λ_=>true
 pn:=[]
 xe:=λe s'=>wpAny (model P w) (A.deeper (envOfC qual scope s.heap.objs.size f cd)) (leaving (envOfC qual scope s.heap.objs.size f cd) e) (λ_ s''=>CX outer H s E e s'') (λe' s''=>CX outer H s E e' s'') s'
theorem zwhb {sc:Scope}{n:Nat}{x:Str}(h:sc.names.lookup x=some .cell):∃c,(cellsFrom n sc.names []).lookup x=some c:=by
 have q:=ygn sc.names n [] (.inl h);exact ysl.mp q
theorem zwnb {CX:CXT}{P:yqb}{w:World}{K:yca}{mg:Str->Option Value}{base:Heap}{N ps:List Str}{qual:Str}{scope:Scope}{f:Addr}{cd:Value}{A:Around}{outer:List Env}{s s1:Shared}{H:Hp}{E:XK}{us:List Value}{vs:List V}
  (S:zqa N ps scope) (hd:A.handled=none) (e0:Env0 P w K mg base A outer s H) (hl:vs.length=ps.length) (r:Vals vs us)
  (x:InCallC s s.heap.objs.size (bindL (envOfC qual scope s.heap.objs.size f cd).kindOf (ps.zip us) λ_=>none) (cellsFrom (s.heap.objs.size+1) scope.names []) (bindC (envOfC qual scope s.heap.objs.size f cd).kindOf (ps.zip us) λ_=>none) s1) :
  Inv (cxOf CX P w K mg base N qual scope f cd A outer s H E) [] (start N vs) H s1:=by
 have hpl:ps.length≤N.length:=by have:=congrArg ylg S.pre;rw[yza] at this;omega
 obtain⟨h1,tk,rfl,hk⟩:=x.done;have noA:∀b:Addr,b∉(cxOf CX P w K mg base N qual scope f cd A outer s H E).ex:=λb z=>absurd (show b∈([]:List Addr) from z) (by simp);refine⟨⟨e0.mod,S.kind,rfl,rfl,yha _,λy z c h1 h2=>?_,λy hy=>?_,λy c _ h=>?_,λ_=>hd,Around.frames_deeper e0.frames,.inr ⟨rfl,rfl⟩,λb z=>absurd z (noA b),e0.bs,e0.bsz,λb _ _=>noA b,λb z=>absurd z (noA b),e0.funs,e0.frf⟩,
  rfl,e0.bare,Un.kept hk,⟨_,x.toInCall.ns,λi y v h1 h2 h3=>?_⟩,λy c h=>⟨_,x.cell y c h⟩,e0.hok.fresh (yha _),λy c h=>?_,λp hp=>absurd (show p∈([]:List (Addr×Obj)) from hp) (by simp),e0.hok.kept hk,?_⟩
 ·exact name_of_addr x.apart (ymg h1) (ymg h2)
 ·have hy:scope.names.lookup y=some .cell∨scope.names.lookup y=some .free:=hy
  rcases hy with hy|hy
  ·exact zwhb hy
  ·exact absurd rfl (S.nofree _ (ymg hy))
 ·exact ymf (x.above y c (ymg h))
 ·have hi:i<vs.length:=by
   unfold start at h2
   by_cases hi:i<vs.length
   ·exact hi
   ·rw[yxb (by simpa using hi)] at h2;rw[ynm] at h2
    split at h2<;>cases h2
  have ha:vs[i]?=some v:=by
   unfold start at h2;rw[ytd (by simpa using hi),yya] at h2;cases e:vs[i]? with
   | none=>rw[e] at h2;cases h2
   | some a=>rw[e] at h2;cases h2;rfl
  obtain⟨u,hu,rv⟩:=r.get ha;have hp:ps[i]?=some y:=by
   rw[← S.pre,ytl (by omega)];exact h1
  have ndP:ps.Nodup:=by rw[← S.pre];exact S.nd.sublist (yuq _ _)
  refine⟨u,rv,?_⟩
  rcases S.par y (yra hp) with k|k
  ·exact .inl ⟨k,zwcb ndP hp hu k⟩
  ·obtain⟨c,e⟩:=zwhb (n:=s.heap.objs.size+1) k;refine .inr ⟨.inl k,c,e,?_⟩;have q:=x.cell y c e;rw[zycb ndP hp hu (by show scope.names.lookup y≠_;rw[k];decide)] at q;exact q
 ·exact e0.hok.fresh (ymf (x.above y c (ymg h)))
 ·unfold start;show _=N.length
  rw[yja,yea,ydh];omega
theorem zbcc {CX:CXT}{P:yqb}{w:World}{K:yca}{mg:Str->Option Value}{base:Heap}{k:Nat}{f:Addr}{name qual:Str}{params:Arguments}{body:List Stmt}{scope:Scope}{dV kV doc pm cdv ct oc:Value}{an od:Option Addr}
  {osl:Array (Option Value)} {N ps:List Str} {sp:Sp} (lk:K.lookup f=some ⟨oc,od,.func (ygg name qual params body scope dV kV doc pm an cdv ct),osl⟩) (hcd:yuh K cdv qual=true) (S:zqa N ps scope)
  (len:∀vs H Q E,sp vs H Q E->vs.length=ps.length)
  (hbody:∀(A:Around) (outer:List Env) (s:Shared) (H:Hp) (vs:List V) (Q:VK) (E:XK),Room k (A.deeper (envOfC qual scope s.heap.objs.size f cdv))->sp vs H Q E →
   ∃t,PSs (cxOf CX P w K mg base N qual scope f cdv A outer s H E) body t∧t { nx:=λ_ H'=>Q .non H',rt:=Q } (start N vs) H) :
  FnOk P w K mg base CX (k+1) f (ygg name qual params body scope dV kV doc pm an cdv ct) ps sp:=by
 refine⟨len,λA outer s H args us vs Q E hr e0 hb r hsp=>?_⟩;have hl:=len _ _ _ _ hsp;have KX:K.In s.heap:=e0.mod.kin.keeps λb o e=>(e0.bs b o e).1;have lim:s.heap.NoLimit:=e0.mod.nolimit.keeps λb o e=>(e0.bs b o e).1;have hkind:∀y∈ps.zip us,scope.names.lookup y.1=some .local∨(scope.names.lookup y.1=some .cell∧((cellsFrom (s.heap.objs.size+1) scope.names []).lookup y.1).isSome=true):=λ⟨n,v⟩ hy=>by
  rcases S.par n (yun hy).1 with q|q
  ·exact .inl q
  ·exact .inr ⟨q,ygn _ _ _ (.inl q)⟩
 refine codeAny_call_function hr.depth (KX _ _ lk) rfl S.co S.gen rfl (PySem.W.codeRec_of KX hcd) (hb _ _ _ _ ?_);refine wpAny_newFunctionEnv_cells S.kind hkind λenv he s1 x=>?_;subst he;refine⟨lim.keeps x.toInCall.keep,codeAny_func ?_⟩;obtain⟨t,ht,hq⟩:=hbody A outer s H vs Q E (hr.deeper _) hsp;have I:Inv (cxOf CX P w K mg base N qual scope f cdv A outer s H E) [] (start N vs) H s1:=zwnb S hr.hd e0 hl r x;refine ykd (ht [] s1 (start N vs) H _ I hq) (λfl s' hs=>?_) λe s' hs=>hs;have fin:∀{σ':St} {H':Hp} {v:V} {u:Value},Inv (cxOf CX P w K mg base N qual scope f cdv A outer s H E) [] σ' H' s'->RelV v u->Q v H'->CE outer P w H s Q u s' :=
  λ{σ' H' v u} J rv q=>⟨v,H',J.os,J.bare,J.base,J.hok,rv,q⟩
 cases fl with
 | ret u =>
  obtain⟨v,σ',H',J,rv,q⟩:=hs;exact fin J rv q
 | next =>
  obtain⟨σ',H',J,q⟩:=hs;exact fin (v:=V.non) (u:=Value.none) J rfl q
 | brk =>
  obtain⟨_,_,_,q⟩:=hs;exact yhf q
 | cont =>
  obtain⟨_,_,_,q⟩:=hs;exact yhf q
end L2
namespace L2
open PySem PySem.Spec PyProof.Rows
section
variable {X:Cx}{x:Str}{p pos:Pos}{e:Expr}{es:List Expr}{t:TA}{id T:String}{r:List V->Hp->VK->Prop}
def tCB (r:List V->Hp->VK->Prop)(t:TA):TE:=fun σ H Q=>t σ H λvs H1=>r vs H1 Q
theorem zlb (hc:zui X (.builtin id) r)(hg:Gl X x)(hm:X.mg x=none)(hv:yzg x=some (.builtin id))(ha:PA X (e::es) t)(hn:x ≠ "__name__":=by decide)(hdb:(x==("__debug__":Str))=false:=by decide)
  (he:ywc (e::es) X.env=(false,eval e X.env)::ywc es X.env:=by rfl) (hpl:(backTo pos (ywc es X.env)).any (·.1)=false:=by rfl):PE X (.Call (.Name x p) (e::es) [] pos) (tCB r t):=by
 intro pins s σ H Q I h;refine yqi (zcw I hg hm hv ?_ hn hdb);exact PyProof.Rows.callWith_builtin1 (thn (ha pos pins s σ H _ I h) λus s1 ⟨vs,H1,I1,r1,q1⟩=>hc pins s1 σ H1 vs us Q I1 r1 q1) he hpl
theorem zlc (hc:zui X (.type T) r)(hg:Gl X x)(hm:X.mg x=none)(hv:yzg x=some (.type T))(ha:PA X (e::es) t)(hn:x ≠ "__name__":=by decide)(hdb:(x==("__debug__":Str))=false:=by decide)
  (he:ywc (e::es) X.env=(false,eval e X.env)::ywc es X.env:=by rfl) (hpl:(backTo pos (ywc es X.env)).any (·.1)=false:=by rfl):PE X (.Call (.Name x p) (e::es) [] pos) (tCB r t):=by
 intro pins s σ H Q I h;refine yqi (zcw I hg hm hv ?_ hn hdb);exact ybf (thn (ha pos pins s σ H _ I h) λus s1 ⟨vs,H1,I1,r1,q1⟩=>hc pins s1 σ H1 vs us Q I1 r1 q1) he hpl
end
end L2
namespace HT
open PySem PyProof.Rows
def lexLt:List Int->List Int->Bool
 | [],[]=>false
 | [],_::_=>true
 | _::_,[]=>false
 | x::xs,y::ys=>if x=y then lexLt xs ys else decide (x<y)
theorem zbw (x y:Int)(xs ys:List Int):lexLt (x::xs) (y::ys)=if x=y then lexLt xs ys else decide (x<y):=rfl
theorem zfy:lexLt [] []=false:=rfl
theorem zxu (y:Int)(ys:List Int):lexLt [] (y::ys)=true:=rfl
theorem zyu (x:Int)(xs:List Int):lexLt (x::xs) []=false:=rfl
theorem zusb (A:Around)(s:Shared)(a:Int)(t:Tok)(c:Int)(u:Tok):∃e,yee A s (.int a t) (.int c u) e∧(e=true↔a=c) :=
 ⟨(a==c),yyp a t c u,by simp⟩
theorem zfrb (A:Around)(s:Shared)(a:Int)(t:Tok)(c:Int)(u:Tok)(prog:yqb)(w:World)(E:Value->Shared->Prop)(Q:Value->Shared->Prop)(h:Q (.bool (decide (a<c))) s) :
  wpAny (model prog w) A (richCompare .Lt (.int a t) (.int c u)) Q E s :=
 (PyProof.Rows.lt_int h:wpAny (model prog w) A (yhd .Lt (.int a t) (.int c u)) Q E s)
section
open PySem.SeqAt
open PySem.AutoSeq1 (wpAny_loadPart')
open PySem.MeetsSeq PySem.MeetsSeq2 PySem.MeetsSeq3
theorem zzw (l b:Addr)(items items2:Array Value)(n n2:Nat)(dd dd2:Option Addr)(sl sl2:Array (Option Value))(ns ms:List Int)(hi:yei items.toList ns)(hj:yei items2.toList ms) :
  Meets (yod.«tuple.__lt__» ⟨[.ref l,.ref b],[]⟩)
   (λ_ R s=>s.heap.get? l=some { cls:=.type "tuple",dict:=dd,data:=.seq items n,slots:=sl }∧s.heap.get? b=some { cls:=.type "tuple",dict:=dd2,data:=.seq items2 n2,slots:=sl2 } ∧
    R (.ok (.ret (.bool (lexLt ns ms)))) s) :=
 .of_wp λprog w A R s h=>by
  obtain⟨hp,g,d,tk,os⟩:=s;obtain⟨hl,hb,h⟩:=h;have f2:=AutoSeq1.sub_tuple_tuple;have z1:items.size=ns.length:=by rw[← hi.length];simp
  have z2:items2.size=ms.length:=by rw[← hj.length];simp
  wp_walk using wpAny_loadPart' hl,wpAny_loadPart' hb,wpAny_forIn_list _ (λrest b s'=>b.1=none∧s'=⟨hp,g,d,tk,os⟩∧Ex4 λ(vs ws:List Value) (ns' ms':List Int)=>rest=vs.zip ws ∧
   yei vs ns'∧yei ws ms'∧ns'.length+items2.size=ms'.length+items.size∧R (.ok (.ret (.bool (lexLt ns' ms')))) ⟨hp,g,d,tk,os⟩) _
  case turn =>
   rintro⟨y,x⟩ rest b s' ⟨hb',rfl,vs,ws,ns',ms',hz,hvi,hwi,hlen,hR⟩;cases hvi with
   | nil=>rw[List.zip_nil_left] at hz;cases hz
   | cons a t hvi' =>
    cases hwi with
    | nil=>rw[List.zip_nil_right] at hz;cases hz
    | cons c u hwi' =>
     rw[yzp] at hz;injection hz with hyx hrest
     injection hyx with hy hx
     subst hy hx;rw[zbw] at hR;simp only[yfa] at hlen;obtain⟨e,he,hiff⟩:=zusb A.in1 ⟨hp,g,d,tk,os⟩ a t c u;refine yaa (he prog w _ _ ?_);cases e with
     | true =>
      rw[if_pos (hiff.mp rfl)] at hR
      wp_walk
      exact⟨rfl,rfl,_,_,_,_,hrest,hvi',hwi',by omega,hR⟩
     | false =>
      rw[if_neg (λq=>absurd (hiff.mpr q) yab)] at hR;have hri:=zfrb A.in1 ⟨hp,g,d,tk,os⟩ a t c u prog w
      wp_walk using hri
      exact⟨_,rfl,by simpa using hR⟩
  case fin =>
   rintro⟨b1,b2⟩ s' ⟨hb',rfl,vs,ws,ns',ms',hz,hvi,hwi,hlen,hR⟩;simp only at hb';subst hb';have hv:lexLt ns' ms'=decide (items.size<items2.size):=by
    cases hvi with
    | nil =>
     cases hwi with
     | nil =>
      simp only[yeh] at hlen;rw[zfy];exact (decide_eq_false (by omega)).symm
     | cons c u hw =>
      simp only[yeh,yfa] at hlen;rw[zxu];exact (decide_eq_true (by omega)).symm
    | cons a t hv =>
     cases hwi with
     | nil =>
      simp only[yeh,yfa] at hlen;rw[zyu];exact (decide_eq_false (by omega)).symm
     | cons c u hw =>
      rw[yzp] at hz;cases hz
   rw[hv] at hR
   wp_walk
   exact⟨_,rfl,by simpa [yod.Tuple.tupleCompareSizes] using hR⟩
  case h =>
   exact⟨rfl,rfl,items.toList,items2.toList,ns,ms,rfl,hi,hj,by omega,h⟩
end
section
variable {prog:yqb}{w:World}{A:Around}{E:Value->Shared->Prop}{s:Shared}
theorem znjb {l b:Addr}{items items2:Array Value}{ns ms:List Int}{Q:Value->Shared->Prop}(hl:IsTup s.heap l items)(hb:IsTup s.heap b items2)(hi:yei items.toList ns)(hj:yei items2.toList ms)
  (hu:A.units<cLine) (h:Q (.bool (lexLt ns ms)) s):wpAny (model prog w) A (yhd .Lt (.ref l) (.ref b)) Q E s:=by
 obtain⟨⟨cls,dd,data,sl⟩,ho,hc,n,hd⟩:=id hl;obtain⟨⟨cls2,dd2,data2,sl2⟩,ho2,hc2,n2,hd2⟩:=id hb;simp only at hc hd hc2 hd2;subst hc hd hc2 hd2;exact richCompare_meets_room (op:=.Lt) ⟨_,ho,rfl⟩ ⟨_,ho2,rfl⟩ PySem.F.slot_tuple_lt PySem.F.entry_tuple_lt (PySem.F.args_tuple_lt_2 _ _) (zzw l b items items2 n n2 dd dd2 sl sl2 ns ms hi hj)
  ⟨ho,ho2,show Value.bool (lexLt ns ms)≠Value.notImplemented∧Q (.bool (lexLt ns ms)) s from⟨(λx=>nomatch x),h⟩⟩ hu
theorem zlxb {t b:Addr}{vs ws:List Value}{Q:Value->Shared->Prop}(ht:IsTup s.heap t vs.toArray)(hb:IsTup s.heap b ws.toArray)(hv:vs≠[])
  (h1:ws=[]->Q (.ref t) s) (h2:ws≠[]->Q (.ref s.heap.objs.size) { s with heap:=s.heap.push { cls:=.type "tuple",data:=.seq (vs++ws).toArray } })
  (hsz:vs.length+ws.length≤yta):wpAny (model prog w) A (ypi .Add (.ref t) (.ref b)) Q E s:=by
 obtain⟨⟨cls,dd,data,sl⟩,ho,hc,n,hd⟩:=id ht;obtain⟨⟨cls2,dd2,data2,sl2⟩,ho2,hc2,n2,hd2⟩:=id hb;simp only at hc hd hc2 hd2;subst hc hd hc2 hd2;have e:vs.toArray++ws.toArray=(vs++ws).toArray:=by simp
 by_cases hw:ws=[]
 ·exact yqr ⟨_,ho,rfl⟩ ⟨_,ho2,rfl⟩ yan yaq yzi yri (yki _ _)
   (tuple_addW1 t b vs.toArray ws.toArray n n2 dd dd2 sl sl2 (by simpa using hv) (by simp[hw])) ⟨ho,ho2,h1 hw⟩
 ·refine yqr ⟨_,ho,rfl⟩ ⟨_,ho2,rfl⟩ yan yaq yzi yri (yki _ _)
   (tuple_addW2 t b vs.toArray ws.toArray n n2 dd dd2 sl sl2 (by simpa using hv) (by simpa using hw) (by rw[yqa,yqa];exact hsz)) ⟨ho,ho2,?_⟩
  rw[e];exact h2 hw
def sIx (n d:Nat):Option Int->Nat
 | none=>d
 | some v=>if v<0 then (v+(n:Int)).toNat else min v.toNat n
theorem zahb (n d:Nat):sIx n d none=d:=rfl
theorem zfeb (n d k:Nat):sIx n d (some (k:Int))=min k n:=by
 show (if (k:Int)<0 then ((k:Int)+(n:Int)).toNat else min (k:Int).toNat n)=min k n
 rw[if_neg (by omega),yjc]
theorem ztyb (n d:Nat)(hd:d≤n)(o:Option Int):sIx n d o≤n:=by
 cases o with
 | none=>exact hd
 | some v =>
  show (if v<0 then (v+(n:Int)).toNat else min v.toNat n)≤n
  by_cases hv:v<0
  ·rw[if_pos hv];omega
  ·rw[if_neg hv];exact Nat.min_le_right _ _
theorem zapb (v:Int)(n d:Nat):(if v<0 then max (v+(n:Int)) 0 else min v (n:Int))=((sIx n d (some v):Nat):Int):=by
 show (if v<0 then max (v+(n:Int)) 0 else min v (n:Int))=(((if v<0 then (v+(n:Int)).toNat else min v.toNat n):Nat):Int)
 by_cases hv:v<0
 ·simp only[if_pos hv];omega
 ·simp only[if_neg hv];omega
theorem zjkb (lo hi:Option Int)(n:Nat):yvh lo hi 1 (n:Int)=(((sIx n 0 lo:Nat):Int),((sIx n n hi:Nat):Int)):=by
 have h1:¬ ((1:Int)<0):=by omega
 unfold yvh;simp only[h1,if_false];refine Prod.ext ?_ ?_
 ·cases lo with
  | none=>rfl
  | some v=>exact zapb v n 0
 ·cases hi with
  | none=>rfl
  | some v=>exact zapb v n n
theorem zxib (i j:Nat):ypf (i:Int) (j:Int) 1=j-i:=by
 unfold ypf;have h1:(1:Int)>0:=by omega
 simp only[h1,if_true,Int.ediv_one]
 split<;>omega
theorem zlv {v:Value}{o:Option Int}{Q:Option Int->Shared->Prop}(p:IsPart v o)(h:Q o s):wpAny (model prog w) A (yod.Slice.slicePartIndex v) Q E s:=by
 cases p with
 | none=>exact slicePart_none h
 | int i t=>exact slicePart_int h
theorem zbr {sl:Addr}{vl vu:Value}{lo hi:Option Int}{n:Nat}{Q:Int×Int×Nat->Shared->Prop}(hs:s.heap.IsSliceOf sl vl vu .none)(pl:IsPart vl lo)(pu:IsPart vu hi)
  (h:Q (((sIx n 0 lo:Nat):Int),1,sIx n n hi-sIx n 0 lo) s):wpAny (model prog w) A (yvk (.ref sl) (pure (n:Int))) Q E s:=by
 obtain⟨os,hos,hcs,hds⟩:=id hs;unfold yvk yod.Slice.sliceFields;refine yaa (yaa (yle hos hds (x:=vl) rfl (yaa (yle hos hds (x:=vu) rfl (yaa (yle hos hds (x:=.none) rfl (yda ?_)))))));refine yaa (slicePart_none ?_);show wpAny _ _ (if ((1:Int)==0)=true then _ else _) _ _ s
 rw[if_neg (by decide)];refine yaa (zlv pl (yaa (zlv pu (yaa (yda ?_)))));show wpAny _ _ (match yvh lo hi 1 (n:Int) with|(lo,hi)=>pure (lo,(1:Int),ypf lo hi 1)) _ _ s
 rw[zjkb lo hi n];show wpAny _ _ (pure (((sIx n 0 lo:Nat):Int),(1:Int),ypf ((sIx n 0 lo:Nat):Int) ((sIx n n hi:Nat):Int) 1)) _ _ s
 rw[zxib];exact yda h
theorem zlrb (xs:Array Value)(i k:Nat):((ywe k).filterMap λ(m:Nat)=>xs[((i:Int)+(m:Int)*1).toNat]?).toArray=((xs.toList.drop i).take k).toArray:=by
 have e:(λ(m:Nat)=>xs[((i:Int)+(m:Int)*1).toNat]?)=λm=>xs[i+m]?:=by
  funext m
  have:((i:Int)+(m:Int)*1).toNat=i+m:=by omega
  rw[this]
 rw[e];have:=pick_run xs i k;rw[ybq] at this;have e2:((λx=>xs[x]?)∘λx=>i+x)=λm=>xs[i+m]?:=rfl;rw[e2] at this;rw[this]
theorem zqp {t sl:Addr}{items:Array Value}{vl vu:Value}{lo hi:Option Int}{Q:Value->Shared->Prop}(ht:IsTup s.heap t items)(hs:s.heap.IsSliceOf sl vl vu .none)(pl:IsPart vl lo)(pu:IsPart vu hi)
  (hw:¬ (sIx items.size 0 lo=0∧sIx items.size items.size hi=items.size))
  (h:Q (.ref s.heap.objs.size) { s with heap:=s.heap.push { cls:=.type "tuple",data:=.seq ((items.toList.drop (sIx items.size 0 lo)).take (sIx items.size items.size hi-sIx items.size 0 lo)).toArray } })
  (hsz:items.size≤yta):wpAny (model prog w) A (yom (.ref t) (.ref sl)) Q E s:=by
 have htake:sizeOk (.seq ((items.toList.drop (sIx items.size 0 lo)).take (sIx items.size items.size hi-sIx items.size 0 lo)).toArray):=by
  show ((items.toList.drop (sIx items.size 0 lo)).take (sIx items.size items.size hi-sIx items.size 0 lo)).toArray.size≤yta
  rw[yqa,yza,yme,yib];omega
 have hj:sIx items.size items.size hi≤items.size:=ztyb _ _ (yha _) hi;obtain⟨os,hos,hcs,hds⟩:=id hs;have hTs:s.TypeIs (.ref sl) "slice":=⟨os,hos,hcs⟩;unfold yom
 try with_reducible refine ymc ?_
 first|refine yaa (yda ?_)|skip
 refine yaa (yul ht.typeIs (by decide) ?_);refine yaa (yhc (name:=yue "__getitem__") ht.typeIs yyf
  (ylc yyf ht.typeIs entry_tuple_getitem ?_ (args_tuple_getitem _ _)))
 show wpAny _ _ (yod.Tuple.tupleItemsOf (.ref t) >>= _) _ _ s
 refine yaa (tupleItemsOf_ ht ?_);refine yaa (ybl hTs ?_);rw[if_pos (by decide)];refine yaa (zbr hs pl pu ?_);have hno:¬ ((((sIx items.size 0 lo:Nat):Int)==0&&(1:Int)==1&&(sIx items.size items.size hi-sIx items.size 0 lo)==items.size)=true):=by
  intro q;rw[ysc,ysc] at q;have q1:((sIx items.size 0 lo:Nat):Int)=0:=eq_of_beq q.1.1;have q2:sIx items.size items.size hi-sIx items.size 0 lo=items.size:=eq_of_beq q.2;exact hw ⟨by omega,by omega⟩
 show wpAny _ _ (if (((sIx items.size 0 lo:Nat):Int)==0&&(1:Int)==1&&(sIx items.size items.size hi-sIx items.size 0 lo)==items.size)=true then _ else _) _ _ s
 rw[if_neg hno,zlrb]
 first
  | exact yaa (m:=yzf _) (ybc (yda ⟨_,rfl,yda h⟩) htake)
  | exact yaa (m:=yzf _) (ybc (yaa (yda (yda ⟨_,rfl,yda h⟩))) htake)
  | exact yaa (yaa (m:=yzf _) (ybc (yda (yda ⟨_,rfl,yda h⟩)) htake))
  | exact yaa (yaa (m:=yzf _) (ybc (yda ⟨_,rfl,yda h⟩) htake))
end
end HT
namespace L2
open PySem PySem.Spec PyProof.Rows
abbrev TO:=St->Hp->(Option Int->Hp->Prop)->Prop
def PO (X:Cx)(e:Option Expr)(t:TO):Prop :=
 ∀(pins:List (Addr×Obj)) (s:Shared) (σ:St) (H:Hp) (Q:Option Int->Hp->Prop),Inv X pins σ H s->t σ H Q →
  wpAny (model X.prog X.w) X.A (evalPart e X.env) (λu s'=>Ex2 λo H'=>Inv X pins σ H' s'∧IsPart u o∧Q o H') X.xe s
def ztub:TO:=λ_ H Q=>Q none H
def zcbc (t:TE):TO:=fun σ H Q=>t σ H λx H1=>∃i,x = .int i∧Q (some i) H1
theorem intsAre_of {ns:List Int}:∀{us:List Value},Vals (ns.map V.int) us->yei us ns:=by
 induction ns with
 | nil=>intro us r;rw[yqj] at r;cases r;exact .nil
 | cons n ns ih =>
  intro us r;rw[ybb] at r;cases r with
  | cons r1 r2 =>
   obtain⟨t,e⟩:=r1;subst e;exact .cons n t (ih r2)
section
variable {X:Cx}{e:Expr}{te:TE}{lo hi:Option Expr}{tl th:TO}{pos p2:Pos}
theorem zpe:PO X none ztub:=by
 intro pins s σ H Q I h;rw[ycq];exact yda ⟨none,H,I,.none,h⟩
theorem zoe (h:PE X e te):PO X (some e) (zcbc te):=by
 intro pins s σ H Q I hw;rw[evalPart_some];refine thn (h pins s σ H _ I hw) λu s1 ⟨x,H1,I1,r1,q1⟩=>?_;obtain⟨i,rfl,q⟩:=q1;obtain⟨t,rfl⟩:=r1;exact⟨some i,H1,I1,.int i t,q⟩
def SlR (X:Cx)(r:V->Option Int->Option Int->Hp->VK->Prop):Prop :=
 ∀(pins:List (Addr×Obj)) (s:Shared) (σ:St) (H:Hp) (x:V) (v vl vu:Value) (lo hi:Option Int) (sl:Addr) (Q:VK),Inv X pins σ H s->RelV x v->s.heap.IsSliceOf sl vl vu .none->IsPart vl lo->IsPart vu hi->r x lo hi H Q →
  Ex2 λT id=>yvq (.type T) "__getitem__" = pure (some (.builtin id))∧s.TypeIs v T∧wpAny (model X.prog X.w) X.A (yom v (.ref sl)) (EP X pins σ Q) X.xe s
def tSl (r:V->Option Int->Option Int->Hp->VK->Prop)(te:TE)(tl th:TO):TE:=fun σ H Q=>te σ H λx H1=>tl σ H1 λl H2=>th σ H2 λu H3=>r x l u H3 Q
theorem zfd {r:V->Option Int->Option Int->Hp->VK->Prop}(hr:SlR X r)(he:PE X e te)(hl:PO X lo tl)(hu:PO X hi th):PE X (.Subscript e (.Slice lo hi none p2) pos) (tSl r te tl th):=by
 intro pins s σ H Q I h;refine ywq (thn (he pins s σ H _ I h) λv s1 ⟨x,H1,I1,r1,q1⟩=>?_);refine wpAny_Slice (thn (hl pins s1 σ H1 _ I1 q1) λvl s2 ⟨l,H2,I2,pl,q2⟩=>thn (hu pins s2 σ H2 _ I2 q2) λvu s3 ⟨u,H3,I3,pu,q3⟩=>?_);rw[ycq];refine yda ?_;have I4:Inv X pins σ H3 { s3 with heap:=s3.heap.push { cls:=.type "slice",data:=.fields #[vl,vu,.none] } }:=I3.kept (t':=s3.toks) λb ob q=>yba _ q;obtain⟨T,id,hT,ht,hg⟩:=hr pins { s3 with heap:=s3.heap.push { cls:=.type "slice",data:=.fields #[vl,vu,.none] } } σ H3 x v vl vu l u s3.heap.objs.size Q I4 r1 (ydq ..) pl pu q3;show wpAny (model X.prog X.w) X.A (ypm e (.Slice lo hi none p2) v (.ref s3.heap.objs.size)) (EP X pins σ Q) X.xe { s3 with heap:=s3.heap.push { cls:=.type "slice",data:=.fields #[vl,vu,.none] } }
 exact tail_any (ops:=[.ref s3.heap.objs.size,v]) ht hT hg (by with_unfolding_all rfl)
def cutV (xs:List V)(lo hi:Option Int):List V:=(xs.drop (HT.sIx xs.length 0 lo)).take (HT.sIx xs.length xs.length hi-HT.sIx xs.length 0 lo)
theorem zot (xs:List V)(lo hi:Option Int):(cutV xs lo hi).length≤xs.length:=by
 unfold cutV;rw[yza,yme];omega
def rSlT (K:yca):V->Option Int->Option Int->Hp->VK->Prop:=λx lo hi H Q=>Ex2 λa xs=>x = .ref a∧SqT K H a xs ∧
 ¬ (HT.sIx xs.length 0 lo=0∧HT.sIx xs.length xs.length hi=xs.length)∧∀p,H p=none->Q (.ref p) (upd H p (.tup (cutV xs lo hi)))
theorem ztk:SlR X (rSlT X.K):=by
 intro pins s σ H x v vl vu lo hi sl Q I rx hs pl pu h;obtain⟨a,xs,rfl,hx,hw,q⟩:=h;cases rx;obtain⟨its,r,ht,hz⟩:=I.tuple hx;have hlen:its.toArray.size=xs.length:=by rw[yqa];exact r.length.symm
 refine⟨"tuple",_,yyf.lookup,ht.typeIs,?_⟩;refine HT.zqp ht hs pl pu (by rw[hlen];exact hw) ?_ (by rw[hlen];exact hz);rw[hlen];refine⟨.ref s.heap.objs.size,_,I.laid (t':=s.toks) (o:=.tup (cutV xs lo hi)) (λb ob q=>yba _ q) (yha _) ?_,rfl,q _ (I.hok.fresh (yha _))⟩;exact⟨yua (zot xs lo hi) hz,_,(r.drop (HT.sIx xs.length 0 lo)).take (HT.sIx xs.length xs.length hi-HT.sIx xs.length 0 lo),yus _ _⟩
def zpbc (K:yca):R2:=λx y H Q=>Ex4 λa b xs ys=>x = .ref a∧y = .ref b∧SqT K H a xs∧SqT K H b ys∧xs≠[]∧xs.length+ys.length≤yta ∧
 (ys=[]->Q (.ref a) H)∧(ys≠[]->∀p,H p=none->Q (.ref p) (upd H p (.tup (xs++ys))))
theorem Vals.zoeb {xs:List V}{us:List Value}(r:Vals xs us):us=[]↔xs=[]:=by
 cases r with
 | nil=>simp
 | cons _ _=>simp
theorem zoh:OpR X (ypi .Add) (zpbc X.K):=by
 intro pins s σ H x y v u Q I rx ry h;obtain⟨a,b,xs,ys,rfl,rfl,ha,hb,hx,hz,q1,q2⟩:=h;cases rx;cases ry;obtain⟨its,r1,p1,_⟩:=I.tuple ha;obtain⟨its2,r2,p2,_⟩:=I.tuple hb;refine HT.zlxb p1 p2 (λz=>hx (r1.zoeb.mp z)) (λz=>⟨.ref a,H,I,rfl,q1 (r2.zoeb.mp z)⟩) (λz=>?_) (by rw[← r1.length,← r2.length];exact hz);refine⟨.ref s.heap.objs.size,_,I.laid (t':=s.toks) (o:=.tup (xs++ys)) (λb ob q=>yba _ q) (yha _) ?_,rfl,q2 (λw=>z (r2.zoeb.mpr w)) _ (I.hok.fresh (yha _))⟩;exact⟨by rw[yja];exact hz,_,r1.append r2,yus _ _⟩
end
end L2
namespace L2
open PySem PySem.Spec PyProof.Rows
def ixN (n:Nat)(i:Int):Option Nat:=if 0≤i then (if i<n then some i.toNat else none) else if -(n:Int)≤i then some (i+n).toNat else none
def atI {α:Type}(xs:List α)(i:Int):Option α:=(ixN xs.length i).bind λj=>xs[j]?
theorem zunb {n:Nat}{i:Int}{j:Nat}(h:ixN n i=some j):seqIndex? i n=some j∧j<n ∧ -(n:Int)≤i∧i<n:=by
 unfold ixN at h
 by_cases h0:0≤i
 ·rw[if_pos h0] at h
  by_cases h1:i<n
  ·rw[if_pos h1] at h;have e:i.toNat=j:=yec h;exact⟨by rw[seqIndex_of h0 h1,e],by omega,by omega,h1⟩
  ·rw[if_neg h1] at h;cases h
 ·rw[if_neg h0] at h
  by_cases h1:-(n:Int)≤i
  ·rw[if_pos h1] at h;have e:(i+n).toNat=j:=yec h;exact⟨by rw[seqIndex_neg (by omega) h1,e],by omega,h1,by omega⟩
  ·rw[if_neg h1] at h;cases h
theorem zvfb {α:Type}{xs:List α}{i:Int}{v:α}(h:atI xs i=some v):∃j,seqIndex? i xs.length=some j∧xs[j]?=some v∧j<xs.length ∧ -(xs.length:Int)≤i∧i<xs.length:=by
 unfold atI at h;cases e:ixN xs.length i with
 | none=>rw[e] at h;cases h
 | some j =>
  rw[e] at h;obtain⟨h1,h2,h3,h4⟩:=zunb e;exact⟨j,h1,h,h2,h3,h4⟩
theorem zna {α:Type}{xs:List α}{j:Nat}{v:α}(h:xs[j]?=some v):atI xs (j:Int)=some v:=by
 have hj:j<xs.length:=(yia.mp h).1;have e:ixN xs.length (j:Int)=some j:=by
  unfold ixN;rw[if_pos (by omega),if_pos (by omega)];simp
 unfold atI;rw[e];exact h
def zxxb (b:Expr):Prop:=∀o i,yhp b false o i=operate [o,i] (yom o i)
def IxR (X:Cx)(r:R2):Prop :=
 ∀(value slice:Expr) (pins:List (Addr×Obj)) (s:Shared) (σ:St) (H:Hp) (x y:V) (v u:Value) (Q:VK),Inv X pins σ H s->RelV x v->RelV y u->r x y H Q →
  yhp slice false v u=operate [v,u] (yom v u)->wpAny (model X.prog X.w) X.A (ypm value slice v u) (EP X pins σ Q) X.xe s
def MtR (X:Cx)(id:String)(r:V->List V->Hp->VK->Prop):Prop :=
 ∀(pins:List (Addr×Obj)) (s:Shared) (σ:St) (H:Hp) (x:V) (xs:List V) (v:Value) (us:List Value) (Q:VK),Inv X pins σ H s->RelV x v->Vals xs us->r x xs H Q →
  wpAny (model X.prog X.w) X.A (call (.builtin id) (v::us)) (EP X pins σ Q) X.xe s
section
variable {X:Cx}{a b:Expr}{ta tb:TE}{pos:Pos}
theorem zkb {r:R2}(hr:IxR X r)(ha:PE X a ta)(hb:PE X b tb)(hs:zxxb b):PE X (.Subscript a b pos) (tOp r ta tb):=by
 intro pins s σ H Q I h;exact ywq (binT ha hb I h λv u s2 x y H2 I2 rx ry q=>hr a b pins s2 σ H2 x y v u Q I2 rx ry q (hs _ _))
def rIxL (K:yca):R2:=λx y H Q=>Ex4 λp xs i v=>x = .ref p∧y = .int i∧SqL K H p xs∧atI xs i=some v∧Q v H
def rIxT (K:yca):R2:=λx y H Q=>Ex4 λp xs i v=>x = .ref p∧y = .int i∧SqT K H p xs∧atI xs i=some v∧Q v H
def rIxS:R2:=λx y H Q=>Ex3 λz i c=>x = .str z∧y = .int i∧z.length≤yta∧atI z.cps.toList i=some c∧Q (.str ⟨#[c]⟩) H
theorem zli:IxR X (rIxL X.K):=by
 intro value slice pins s σ H x y v u Q I rx ry h hs;obtain⟨p,xs,i,z,rfl,rfl,hq,he,q⟩:=h;cases rx;obtain⟨t,rfl⟩:=ry;obtain⟨its,r,pl,hz⟩:=I.list hq;obtain⟨j,h1,h2,h3,h4,h5⟩:=zvfb he;obtain⟨w,ew,rw'⟩:=r.get h2;have hl:=r.length;have hn:=zit;have fin:EP X pins σ Q w s:=⟨z,H,I,rw',q⟩
 by_cases h0:0≤i
 ·have hj:i.toNat=j:=by
   rw[seqIndex_of h0 h5] at h1;exact yec h1
  exact item_listR pl.isList h0 (by omega) (by rw[hj];simpa using ew) fin hs
 ·have hj:(i+(its.toArray.size:Int)).toNat=j:=by
   rw[seqIndex_neg (by omega) h4] at h1;rw[yqa,← hl];exact yec h1
  exact yaj (x:=w) pl.isList.typeIs yvl.lookup
   (wpAny_getItem_list_neg (Q:=λr s'=>r=w∧EP X pins σ Q r s') pl.isList (by omega) (by rw[yqa]<;>omega) (by omega) (by rw[hj];simpa using ew) ⟨rfl,fin⟩) hs
theorem zxb:IxR X (rIxT X.K):=by
 intro value slice pins s σ H x y v u Q I rx ry h hs;obtain⟨p,xs,i,z,rfl,rfl,hq,he,q⟩:=h;cases rx;obtain⟨t,rfl⟩:=ry;obtain⟨its,r,pl,hz⟩:=I.tuple hq;obtain⟨j,h1,h2,h3,h4,h5⟩:=zvfb he;obtain⟨w,ew,rw'⟩:=r.get h2;have hl:=r.length;have hn:=zit;have fin:EP X pins σ Q w s:=⟨z,H,I,rw',q⟩;exact yaj (x:=w) pl.typeIs slot_tuple_getitem.lookup
  (getItem_tuple (j:=j) (Q:=λr s'=>r=w∧EP X pins σ Q r s') pl (by omega) (by omega) (by rw[yqa,← hl];exact h1) (by simpa using ew) ⟨rfl,fin⟩) hs
theorem ztnb:IxR X rIxS:=by
 intro value slice pins s σ H x y v u Q I rx ry h hs;obtain⟨z,i,c,rfl,rfl,hz,he,q⟩:=h;obtain⟨t,rfl⟩:=rx;obtain⟨t',rfl⟩:=ry;obtain⟨j,h1,h2,h3,h4,h5⟩:=zvfb he;have hl:z.cps.toList.length=z.length:=by simp[yxq]
 rw[hl] at h1 h4 h5;have hn:=zit;exact tail_any (ywl s z t) slot_str_getitem.lookup (getItem_str (c:=c) (by
  have e1:decide (i < -(2 ^ 63:Int))=false:=decide_eq_false (by omega);have e2:decide (i≥2 ^ 63)=false:=decide_eq_false (by omega);rw[e1,e2,ynf]) (by rw[h1];simpa using h2) ⟨.str ⟨#[c]⟩,H,I.tok _,⟨_,rfl⟩,q⟩) hs
theorem zkjb (its:List Value)(n j:Nat)(u:Value):yhe (·.setIfInBounds j u) { cls:=.type "list",data:=.seq its.toArray n }={ cls:=.type "list",data:=.seq (its.set j u).toArray n }:=by
 simp[yhe]
theorem Inv.lst {pins:List (Addr×Obj)}{σ:St}{H:Hp}{s:Shared}{p:Addr}{xs:List V}(I:Inv X pins σ H s)(h:H p=some (.lst xs)) :
  Ex2 λ(its:List Value) (n:Nat)=>Vals xs its∧s.heap.get? p=some { cls:=.type "list",data:=.seq its.toArray n }∧xs.length≤yta:=by
 obtain⟨z,its,n,r,e⟩:=I.hok p _ h;exact⟨its,n,r,e,z⟩
theorem Inv.zbac {pins:List (Addr×Obj)}{σ:St}{H:Hp}{s:Shared}{p:Addr}{xs ys:List V}{its its':List Value}{n n':Nat}{f:Obj->Obj}(I:Inv X pins σ H s)(h:H p=some (.lst xs))
  (ho:s.heap.get? p=some { cls:=.type "list",data:=.seq its.toArray n }) (hf:f { cls:=.type "list",data:=.seq its.toArray n }={ cls:=.type "list",data:=.seq its'.toArray n' }) (r:Vals ys its') (hz:ys.length≤yta) (t:Nat) :
  Inv X pins σ (upd H p (.lst ys)) { s with heap:=s.heap.update p f,toks:=t }:=by
 have e:(s.heap.update p f).get? p=some { cls:=.type "list",data:=.seq its'.toArray n' }:=by
  rw[yzc f ho (by rw[hf]<;>rfl),hf]
 refine I.write (x:=p) (e:=p) (by rw[h];trivial) (.inl rfl) (λb u hb q=>(ycc _ _ (yge hb)).trans q) ⟨_,e⟩ ?_;exact⟨hz,its',n',r,e⟩
def zobc:V->V->V->Hp->(Hp->Prop)->Prop:=λo i v H Q=>Ex4 λp xs k j=>o = .ref p∧i = .int k∧H p=some (.lst xs)∧ixN xs.length k=some j∧Q (upd H p (.lst (xs.set j v)))
theorem set_list:PSet X zobc:=by
 intro pins s σ H o i v ov iv u Q I ro ri rv h;obtain⟨p,xs,k,j,rfl,rfl,hp,hj,q⟩:=h;cases ro;obtain⟨t,rfl⟩:=ri;obtain⟨its,n,r,ho,hz⟩:=I.lst hp;obtain⟨h1,h2,h3,h4⟩:=zunb hj;have hl:=r.length;have hn:=zit;have I':Inv X pins σ (upd H p (.lst (xs.set j v))) { s with heap:=s.heap.update p (yhe (·.setIfInBounds j u)) } :=
  I.zbac hp ho (zkjb its n j u) (r.set rv j) (by rw[yvn];exact hz) s.toks
 by_cases h0:0≤k
 ·have hk:k.toNat=j:=by
   rw[seqIndex_of h0 h4] at h1;exact yec h1
  exact PySem.W.ki_setAt ho h0 (by omega) (by rw[yqa,← hl];exact h4) (by rw[hk];exact⟨_,I',q⟩)
 ·have hk:(k+(its.toArray.size:Int)).toNat=j:=by
   rw[seqIndex_neg (by omega) h3] at h1;rw[yqa,← hl];exact yec h1
  exact PySem.W.ki_setBack ho (by omega) (by rw[yqa,← hl];exact h3) (by omega) (by rw[hk];exact⟨_,I',q⟩)
theorem ziab (lo hi:Option Int)(n:Nat):(yfh lo hi none n).1=((HT.sIx n 0 lo:Nat):Int)∧(yfh lo hi none n).2.1=((HT.sIx n n hi:Nat):Int)∧(yfh lo hi none n).2.2=1:=by
 refine⟨?_,?_,rfl⟩
 ·cases lo with
  | none=>simp[yfh,HT.sIx]
  | some i =>
   simp only[yfh,HT.sIx,yxr,show (1:Int)>0 by decide,if_true]
   by_cases h:i<0
   ·simp only[h,if_true]<;>omega
   ·simp only[h,if_false]<;>omega
 ·cases hi with
  | none=>simp[yfh,HT.sIx]
  | some i =>
   simp only[yfh,HT.sIx,yxr,show (1:Int)>0 by decide,if_true]
   by_cases h:i<0
   ·simp only[h,if_true]<;>omega
   ·simp only[h,if_false]<;>omega
theorem zdx (its:List Value)(lo hi:Option Int):yis its.toArray lo hi none=((its.drop (HT.sIx its.length 0 lo)).take (HT.sIx its.length its.length hi-HT.sIx its.length 0 lo)).toArray:=by
 obtain⟨h1,h2,h3⟩:=ziab lo hi its.toArray.size;unfold yis;rw[h1,h2,h3];simp only[sliceRange_one,pick_run,yqa]<;>rfl
def rSlL (K:yca):V->Option Int->Option Int->Hp->VK->Prop:=λx lo hi H Q=>Ex2 λa xs=>x = .ref a∧SqL K H a xs∧∀p,H p=none->Q (.ref p) (upd H p (.lst (cutV xs lo hi)))
theorem zdeb:SlR X (rSlL X.K):=by
 intro pins s σ H x v vl vu lo hi sl Q I rx hs pl pu h;obtain⟨a,xs,rfl,hx,q⟩:=h;cases rx;obtain⟨its,r,ht,hz⟩:=I.list hx;have hlen:=r.length;refine⟨"list",_,yvl.lookup,ht.isList.typeIs,?_⟩;refine yxl ht.isList hs pl pu .none (by simp) ?_ (by rw[yqa]<;>omega);rw[zdx,← hlen];refine⟨.ref s.heap.objs.size,_,I.laid (t':=s.toks) (o:=.lst (cutV xs lo hi)) (λb ob q=>yba _ q) (yha _) ?_,rfl,q _ (I.hok.fresh (yha _))⟩;exact⟨yua (zot xs lo hi) hz,_,0,(r.drop (HT.sIx xs.length 0 lo)).take (HT.sIx xs.length xs.length hi-HT.sIx xs.length 0 lo),yna _ rfl⟩
def zav:V->Bool
 | .non=>true
 | .bl _=>true
 | .int _=>true
 | .str _=>true
 | _=>false
def eqV:V->V->Bool
 | .non,.non=>true
 | .bl a,.bl b=>a==b
 | .bl a,.int b=>(if a then 1 else 0)==b
 | .int a,.bl b=>a==(if b then 1 else 0)
 | .int a,.int b=>a==b
 | .str a,.str b=>a==b
 | _,_=>false
theorem ztac {A:Around}{s:Shared}{y x:V}{u v:Value}(ry:RelV y u)(rx:RelV x v)(fy:zav y=true)(fx:zav x=true):yee A s u v (eqV y x):=by
 cases y with
 | non =>
  cases ry;cases x with
  | non=>cases rx;exact yee.same _
  | bl b=>cases rx;exact yee.none_bool b
  | int b=>obtain⟨t,rfl⟩:=rx;exact yee.none_int b t
  | str b=>obtain⟨t,rfl⟩:=rx;exact yee.none_str b t
  | _=>exact absurd (show false=true from fx) yab
 | bl a =>
  cases ry;cases x with
  | non=>cases rx;exact yee.bool_none a
  | bl b=>cases rx;exact yee.bool_bool a b
  | int b=>obtain⟨t,rfl⟩:=rx;exact yee.bool_int a b t
  | str b=>obtain⟨t,rfl⟩:=rx;exact yee.bool_str a b t
  | _=>exact absurd (show false=true from fx) yab
 | int a =>
  obtain⟨t',rfl⟩:=ry;cases x with
  | non=>cases rx;exact yee.int_none a t'
  | bl b=>cases rx;exact yee.int_bool a t' b
  | int b=>obtain⟨t,rfl⟩:=rx;exact yyp a t' b t
  | str b=>obtain⟨t,rfl⟩:=rx;exact yqp a t' b t
  | _=>exact absurd (show false=true from fx) yab
 | str a =>
  obtain⟨t',rfl⟩:=ry;cases x with
  | non=>cases rx;exact yee.str_none a t'
  | bl b=>cases rx;exact yee.str_bool a t' b
  | int b=>obtain⟨t,rfl⟩:=rx;exact yrp a t' b t
  | str b=>obtain⟨t,rfl⟩:=rx;exact yee.str_str a t' b t
  | _=>exact absurd (show false=true from fx) yab
 | _=>exact absurd (show false=true from fy) yab
def eqU (x:V)(u:Value):Bool:=match u with
 | .none=>eqV .non x
 | .bool b=>eqV (.bl b) x
 | .int i _=>eqV (.int i) x
 | .str z _=>eqV (.str z) x
 | _=>false
theorem zeub {x y:V}{u:Value}(r:RelV y u)(f:zav y=true):eqU x u=eqV y x:=by
 cases y with
 | non=>cases r;rfl
 | bl b=>cases r;rfl
 | int i=>obtain⟨t,rfl⟩:=r;rfl
 | str z=>obtain⟨t,rfl⟩:=r;rfl
 | _=>exact absurd (show false=true from f) yab
theorem zau {x:V}:∀{xs:List V} {us:List Value},Vals xs us->xs.all zav=true->us.any (eqU x)=xs.any λy=>eqV y x
 | _,_,.nil,_=>rfl
 | y::xs,u::us,.cons r t,f=>by
  rw[List.all_cons,ysc] at f;rw[yak,yak,zeub r f.1,zau t f.2]
theorem zjo {A:Around}{s:Shared}{x:V}{v:Value}(rx:RelV x v)(fx:zav x=true):∀{xs:List V} {us:List Value},Vals xs us->xs.all zav=true->∀u∈us,yee A s u v (eqU x u)
 | _,_,.nil,_=>λu hu=>by cases hu
 | y::xs,u::us,.cons r t,f=>λu' hu=>by
  rw[List.all_cons,ysc] at f
  rcases yla.mp hu with rfl|hu
  ·rw[zeub r f.1];exact ztac r rx f.1 fx
  ·exact zjo rx fx t f.2 u' hu
def inV (x:V)(xs:List V):Bool:=xs.any λy=>eqV y x
def rIn (K:yca)(neg:Bool):R2:=λx y H Q=>Ex2 λp xs=>y = .ref p∧(SqL K H p xs∨SqT K H p xs)∧zav x=true∧xs.all zav=true∧Q (.bl (if neg then !inV x xs else inV x xs)) H
theorem zjl:OpR X (yhd .In) (rIn X.K false):=by
 intro pins s σ H x y v u Q I rx ry h;obtain⟨p,xs,rfl,hq,fx,fs,q⟩:=h;cases ry
 rcases hq with hq|hq
 ·obtain⟨its,r,pl,hz⟩:=I.list hq;refine SeqAt.in_listAt (eqU x) pl.isList (λw hw=>zjo rx fx r fs w (by simpa using hw)) ⟨.bl _,H,I,rfl,?_⟩;rw[show its.toArray.any (eqU x)=its.any (eqU x) by simp,zau r fs];exact q
 ·obtain⟨its,r,pl,hz⟩:=I.tuple hq;refine SeqAt.in_tupleAt (eqU x) pl (λw hw=>zjo rx fx r fs w (by simpa using hw)) ⟨.bl _,H,I,rfl,?_⟩;rw[show its.toArray.any (eqU x)=its.any (eqU x) by simp,zau r fs];exact q
theorem zzab:OpR X (yhd .NotIn) (rIn X.K true):=by
 intro pins s σ H x y v u Q I rx ry h;obtain⟨p,xs,rfl,hq,fx,fs,q⟩:=h;cases ry
 rcases hq with hq|hq
 ·obtain⟨its,r,pl,hz⟩:=I.list hq;refine SeqAt.notIn_listAt (eqU x) pl.isList (λw hw=>zjo rx fx r fs w (by simpa using hw)) ⟨.bl _,H,I,rfl,?_⟩;rw[show its.toArray.any (eqU x)=its.any (eqU x) by simp,zau r fs];exact q
 ·obtain⟨its,r,pl,hz⟩:=I.tuple hq;refine SeqAt.notIn_tupleAt (eqU x) pl (λw hw=>zjo rx fx r fs w (by simpa using hw)) ⟨.bl _,H,I,rfl,?_⟩;rw[show its.toArray.any (eqU x)=its.any (eqU x) by simp,zau r fs];exact q
theorem zmc:zui X (.builtin "len") (λxs H Q=>Ex2 λp ys=>xs=[.ref p]∧(SqL X.K H p ys∨SqT X.K H p ys)∧Q (.int ys.length) H):=by
 intro pins s σ H xs us Q I r h;obtain⟨p,ys,rfl,hq,q⟩:=h;obtain⟨u,rfl,rx⟩:=vals1 r;cases rx;have hn:=zit
 rcases hq with hq|hq
 ·obtain⟨its,r',pl,hz⟩:=I.list hq;have hlen:=r'.length;exact Calls.call_len_list pl.isList (by simp only[yqa]<;>omega) ⟨.int ys.length,H,I.tok _,⟨s.toks+1,by rw[yqa,hlen]⟩,q⟩
 ·obtain⟨its,r',pl,hz⟩:=I.tuple hq;have hlen:=r'.length;exact len_tuple pl (by simp only[yqa]<;>omega) ⟨.int ys.length,H,I.tok _,⟨s.toks+1,by rw[yqa,hlen]⟩,q⟩
theorem zrl:zui X (.builtin "len") (λxs H Q=>∃z,xs=[.str z]∧z.length≤yta∧Q (.int z.length) H):=by
 intro pins s σ H xs us Q I r h;obtain⟨z,rfl,hz,q⟩:=h;obtain⟨u,rfl,t,rfl⟩:=vals1 r;have hn:=zit;exact len_str (by omega) ⟨.int z.length,H,I.tok _,⟨_,rfl⟩,q⟩
theorem ztcb:zui X (.type "list") (λxs H Q=>Ex2 λp ys=>xs=[.ref p]∧(SqL X.K H p ys∨SqT X.K H p ys)∧∀l,H l=none->Q (.ref l) (upd H l (.lst ys))):=by
 intro pins s σ H xs us Q I r h;obtain⟨p,ys,rfl,hq,q⟩:=h;obtain⟨u,rfl,rx⟩:=vals1 r;cases rx;have fin:∀(its:List Value),Vals ys its->ys.length≤yta->∀(h':Heap) (c':Nat),(∀b o',s.heap.get? b=some o'->h'.get? b=some o') →
   h'.get? s.heap.objs.size=some { cls:=.type "list",dict:=none,data:=.seq its.toArray c',slots:=#[] }->EP X pins σ Q (.ref s.heap.objs.size) { s with heap:=h' }:=λits r' hz h' c' kp e =>
  ⟨.ref s.heap.objs.size,_,I.laid (t':=s.toks) kp (yha _) (show zgg X.prog X.w _ h' _ (.lst ys) from⟨hz,its,c',r',e⟩),rfl,q _ (I.hok.fresh (yha _))⟩
 rcases hq with hq|hq
 ·obtain⟨its,r',pl,hz⟩:=I.list hq;have hlen:=r'.length;obtain⟨o,ho,hc,n,hd⟩:=pl.isList;exact call_list_seq p (.inl rfl) ho hc hd (λh' c' kp e=>fin its r' hz h' c' kp e) (by simp only[yqa]<;>omega)
 ·obtain⟨its,r',pl,hz⟩:=I.tuple hq;have hlen:=r'.length;obtain⟨o,ho,hc,n,hd⟩:=pl;exact call_list_seq p (.inr rfl) ho hc hd (λh' c' kp e=>fin its r' hz h' c' kp e) (by simp only[yqa]<;>omega)
theorem zpd:zui X (.type "tuple") (λxs H Q=>Ex2 λp ys=>xs=[.ref p]∧((SqL X.K H p ys∧∀l,H l=none->Q (.ref l) (upd H l (.tup ys)))∨(SqT X.K H p ys∧Q (.ref p) H))):=by
 intro pins s σ H xs us Q I r h;obtain⟨p,ys,rfl,h⟩:=h;obtain⟨u,rfl,rx⟩:=vals1 r;cases rx
 rcases h with⟨hq,q⟩|⟨hq,q⟩
 ·obtain⟨its,r',pl,hz⟩:=I.list hq;have hlen:=r'.length;refine call_tuple_list pl.isList (λh' kp=>?_) (by simp only[yqa]<;>omega);have I1:Inv X pins σ H { s with heap:=h' }:=I.kept (t':=s.toks) kp;have I2:Inv X pins σ (upd H h'.objs.size (.tup ys)) { s with heap:=h'.push { cls:=.type "tuple",data:=.seq its.toArray } } :=
   I1.laid (t':=s.toks) (λb o e=>yba _ e) (yha _) (show zgg X.prog X.w _ _ _ (.tup ys) from⟨hz,its,r',yus _ _⟩)
  exact⟨.ref h'.objs.size,_,I2,rfl,q _ (I1.hok.fresh (yha _))⟩
 ·obtain⟨its,r',pl,hz⟩:=I.tuple hq;exact call_tuple_same pl ⟨.ref p,H,I,rfl,q⟩
def tyV (K:yca)(T:String)(x:V)(H:Hp):Prop:=match x with
 | .str _=>T = "str"
 | .int _=>T = "int"
 | .ref p=>(T = "list" ∧ ∃xs,SqL K H p xs)∨(T = "tuple" ∧ ∃o,K.lookup p=some o∧o.cls = .type "tuple" ∧ o.dict=none) ∨
   (T = "dict" ∧ ((∃kvs,H p=some (.dK kvs))∨∃kvs,H p=some (.dT kvs)))∨(T = "set" ∧ Ex2 λS n=>H p=some (.set S n))
 | _=>False
theorem zntb {pins:List (Addr×Obj)}{σ:St}{H:Hp}{s:Shared}{T:String}{x:V}{v:Value}(I:Inv X pins σ H s)(r:RelV x v)(ty:tyV X.K T x H) :
  s.TypeIs v T∧∀a,v = .ref a->∃ob,s.heap.get? a=some ob∧ob.dict=none:=by
 cases x with
 | str z =>
  obtain⟨t,rfl⟩:=r;cases (show T = "str" from ty);exact⟨ywl s z t,λ_ e=>nomatch e⟩
 | int i =>
  obtain⟨t,rfl⟩:=r;cases (show T = "int" from ty);exact⟨typeIs_int s i t,λ_ e=>nomatch e⟩
 | ref p =>
  cases r
  rcases ty with⟨rfl,xs,hq⟩|⟨rfl,o,hk,hc,hd⟩|⟨rfl,hk⟩|⟨rfl,S,n,hk⟩
  ·obtain⟨its,_,pl,_⟩:=I.list hq;refine⟨pl.isList.typeIs,λa e=>?_⟩;cases e;obtain⟨o,n,e,c,hd,_⟩:=pl;exact⟨o,e,hd⟩
  ·refine⟨⟨o,I.kIn p o hk,hc⟩,λa e=>?_⟩;cases e;exact⟨o,I.kIn _ o hk,hd⟩
  ·have z:∃o,s.heap.get? p=some o∧o.ExactDict:=by
    rcases hk with⟨kvs,hk⟩|⟨kvs,hk⟩
    ·obtain⟨_,_,_,_,o,_,_,e,ex,_⟩:=I.hok p _ hk;exact⟨o,e,ex⟩
    ·obtain⟨_,_,_,_,o,_,_,e,ex,_⟩:=I.hok p _ hk;exact⟨o,e,ex⟩
   obtain⟨o,e,ex⟩:=z;refine⟨⟨o,e,ex.1⟩,λa e2=>?_⟩;cases e2;exact⟨o,e,ex.2.1⟩
  ·obtain⟨o,_,_,_,e,ex,_⟩:=I.hok p _ hk;refine⟨⟨o,e,ex.1⟩,λa e2=>?_⟩;cases e2;exact⟨o,e,ex.2.1⟩
 | _=>exact yhf ty
def tBM0 (K:yca)(T:String)(r:V->List V->Hp->VK->Prop)(to:TE):TE:=fun σ H Q=>to σ H λx H1=>tyV K T x H1∧r x [] H1 Q
def tBM (K:yca)(T:String)(r:V->List V->Hp->VK->Prop)(to:TE)(t:TA):TE:=fun σ H Q=>to σ H λx H1=>tyV K T x H1∧t σ H1 λxs H2=>r x xs H2 Q
variable {o e:Expr}{es:List Expr}{to:TE}{t:TA}{name:Str}{apos cpos:Pos}{T id:String}{r:V->List V->Hp->VK->Prop}
theorem zjzb (pa:PlainAttrs T)(slot:Slot T name id)(hty:typeOf (.builtin id)=pure (.type "method_descriptor"))(hm:MtR X id r)(ho:PE X o to)
  (hbase:yoh o name X.env (eval o X.env)=eval o X.env:=by rfl) (hline:(apos.endLine==cpos.line)=true:=by rfl):PE X (.Call (.Attribute o name apos) [] [] cpos) (tBM0 X.K T r to):=by
 intro pins s σ H Q I h;refine wpAny_Call_method0_late hbase hline (thn (ho pins s σ H _ I h) λv s1 ⟨x,H1,I1,r1,ty,q1⟩=>?_);obtain⟨h1,h2⟩:=zntb I1 r1 ty;exact⟨T,id,pa,slot,hty,h1,h2,yhn rfl (PySem.evalArgs_none (hm pins s1 σ H1 x [] v [] Q I1 r1 .nil q1))⟩
theorem ztm (pa:PlainAttrs T)(slot:Slot T name id)(hty:typeOf (.builtin id)=pure (.type "method_descriptor"))(hm:MtR X id r)(ho:PE X o to)(ha:PA X (e::es) t)
  (hbase:yoh o name X.env (eval o X.env)=eval o X.env:=by rfl)
  (hfew:((backTo cpos (ywc (e::es) X.env)).all (λx=>!x.1)&&(ycs cpos (ymm [] X.env)).all (λx=>x.1.isSome)
   && decide ((e::es).length+([]:List ytq).length+(if ([]:List ytq).isEmpty then 0 else 1)<30))=true:=by rfl)
  (hline:(apos.endLine==cpos.line)=true:=by rfl) (hs:ywc (e::es) X.env=(false,eval e X.env)::ywc es X.env:=by rfl) (hplain:(backTo cpos (ywc es X.env)).any (·.1)=false:=by rfl) :
  PE X (.Call (.Attribute o name apos) (e::es) [] cpos) (tBM X.K T r to t):=by
 intro pins s σ H Q I h;refine wpAny_Call_method_late hbase hfew hline rfl (thn (ho pins s σ H _ I h) λv s1 ⟨x,H1,I1,r1,ty,q1⟩=>?_);obtain⟨h1,h2⟩:=zntb I1 r1 ty;refine⟨T,id,pa,slot,hty,h1,h2,?_⟩;have hA:=ha cpos pins s1 σ H1 _ I1 q1;rw[hs] at hA ⊢;refine yhn (by show (false||(backTo cpos (ywc es X.env)).any (·.1))=false;rw[hplain]<;>rfl) (Calls.evalArgs_plain ?_);exact thn hA λus s2 ⟨vs,H2,I2,r2,q2⟩=>hm pins s2 σ H2 x vs v us Q I2 r1 r2 q2
end
end L2
namespace L2
open PySem PySem.Spec PyProof.Rows
def MtM (X:Cx)(id:String)(r:V->List V->Hp->VK->Prop):Prop :=
 ∀(pins:List (Addr×Obj)) (s:Shared) (σ:St) (H:Hp) (x:V) (xs:List V) (v:Value) (us:List Value) (Q:VK),Inv X pins σ H s->RelV x v->Vals xs us->r x xs H Q →
  wpAny (model X.prog X.w) X.A (call (.builtin id) (v::us)) (EP X pins σ Q) X.xe s
theorem Vals.one:∀{x:V} {us:List Value},Vals [x] us->∃u,us=[u]∧RelV x u
 | _,_,.cons r .nil=>⟨_,rfl,r⟩
theorem Vals.zero:∀{us:List Value},Vals [] us->us=[]
 | _,.nil=>rfl
theorem Vals.dropLast {xs:List V}{us:List Value}(h:Vals xs us):Vals xs.dropLast us.dropLast:=by
 induction h with
 | nil=>exact .nil
 | cons r t ih =>
  cases t with
  | nil=>exact .nil
  | cons q t'=>exact .cons r ih
theorem Vals.eraseIdx:∀{xs:List V} {us:List Value} (i:Nat),Vals xs us->Vals (xs.eraseIdx i) (us.eraseIdx i)
 | _,_,_,.nil=>.nil
 | _,_,0,.cons _ t=>t
 | _,_,i+1,.cons r t=>.cons r (Vals.eraseIdx i t)
theorem Vals.reverse {xs:List V}{us:List Value}(h:Vals xs us):Vals xs.reverse us.reverse:=by
 induction h with
 | nil=>exact .nil
 | cons r t ih=>rw[yyq,yyq];exact Vals.append ih (.cons r .nil)
theorem zzjb {α:Type}(l:List α):l.eraseIdx (l.length-1)=l.dropLast:=by
 induction l with
 | nil=>rfl
 | cons a r ih =>
  cases r with
  | nil=>rfl
  | cons b r =>
   have e:(a::b::r).length-1=((b::r).length-1)+1:=by
    have h1:(a::b::r).length=r.length+2:=rfl;have h2:(b::r).length=r.length+1:=rfl;omega
   rw[e,yqm,ih]
   all_goals rfl
theorem zubb {α:Type}:∀(l:List α) (i:Nat),(l.eraseIdx i).length≤l.length
 | [],_=>yha _
 | _::_,0=>yke _
 | _::r,i+1=>Nat.succ_le_succ (zubb r i)
section
variable {X:Cx}{pins:List (Addr×Obj)}{σ:St}{H:Hp}{s:Shared}{l b:Addr}{xs ys zs:List V}
theorem Inv.lset {its its':List Value}{n:Nat}{f:Array Value->Array Value}{t':Nat}(I:Inv X pins σ H s)(hH:H l=some (.lst xs))
  (e:s.heap.get? l=some { cls:=.type "list",data:=.seq its.toArray n }) (hf:f its.toArray=its'.toArray) (hv:Vals ys its') (hz:ys.length≤yta) :
  Inv X pins σ (upd H l (.lst ys)) { s with heap:=s.heap.update l (yhe f),toks:=t' }:=by
 have q:=PySem.IsL.update e f;rw[hf] at q;refine I.write (x:=l) (e:=l) (by rw[hH];exact trivial) (.inl rfl) (λb' u hb hu=>(ycc s.heap (yhe f) (yge hb)).trans hu) ⟨_,q⟩ ?_;exact⟨hz,its',_,hv,q⟩
theorem Inv.lnew {its:List Value}{t':Nat}(I:Inv X pins σ H s)(hv:Vals ys its)(hz:ys.length≤yta) :
  Inv X pins σ (upd H s.heap.objs.size (.lst ys)) { s with heap:=s.heap.push { cls:=.type "list",data:=.seq its.toArray },toks:=t' } :=
 I.laid (λ_ _ q=>yba _ q) (yha _) ⟨hz,its,0,hv,yna _ rfl⟩
theorem Inv.fresh (I:Inv X pins σ H s):H s.heap.objs.size=none:=I.hok.fresh (yha _)
theorem Inv.lstM (I:Inv X pins σ H s)(hH:H l=some (.lst xs)):xs.length≤yta∧Ex2 λ(its:List Value) (n:Nat)=>Vals xs its∧xs.length=its.length∧s.heap.get? l=some { cls:=.type "list",data:=.seq its.toArray n }:=by
 obtain⟨z,its,n,r,e⟩:=I.hok l _ hH;exact⟨z,its,n,r,r.length,e⟩
theorem zurb {n:Nat}(h:n≤yta):yli n=false:=by
 unfold yli;exact decide_eq_false (by omega)
end
section
variable {X:Cx}
def zyvb:V->List V->Hp->VK->Prop:=λx vs H Q=>Ex3 λl xs y=>x = .ref l∧vs=[y]∧H l=some (.lst xs)∧xs.length<yta∧Q .non (upd H l (.lst (xs++[y])))
theorem zuj:MtM X "list.append" zyvb:=by
 intro pins s σ H x vs v us Q I rx rv h;obtain⟨l,xs,y,rfl,rfl,hH,hz,q⟩:=h;cases rx;obtain⟨u,rfl,ru⟩:=rv.one;obtain⟨z,its,n,r,hl,e⟩:=I.lstM hH;refine ymi F.slot_list_append ⟨_,e,rfl⟩ F.entry_list_append (F.args_list_append_2 _ _) (PySem.list_append l its.toArray n u (by rw[yqa];omega)) ⟨e,?_⟩;refine⟨.non,_,I.lset (its':=its++[u]) hH e (by simp) (r.append (.cons ru .nil)) ?_,rfl,q⟩;rw[yja,yub];omega
def zxvb:V->List V->Hp->VK->Prop:=λx vs H Q=>Ex4 λl b xs zs=>x = .ref l∧vs=[.ref b]∧H l=some (.lst xs)∧H b=some (.lst zs)∧xs.length+zs.length≤yta∧Q .non (upd H l (.lst (xs++zs)))
theorem zanb:MtM X "list.extend" zxvb:=by
 intro pins s σ H x vs v us Q I rx rv h;obtain⟨l,b,xs,zs,rfl,rfl,hH,hB,hz,q⟩:=h;cases rx;obtain⟨u,rfl,ru⟩:=rv.one;cases ru;obtain⟨z,its,n,r,hl,e⟩:=I.lstM hH;obtain⟨z2,its2,n2,r2,hl2,e2⟩:=I.lstM hB;have hsz:its.toArray.size+its2.toArray.size≤yta:=by rw[yqa,yqa];omega
 have hlong:¬ (!its.toArray.isEmpty&&yli (its.toArray.size+its2.toArray.size))=true:=by
  rw[zurb hsz,yhl];exact yab
 refine ymi F.slot_list_extend ⟨_,e,rfl⟩ F.entry_list_extend (F.args_list_extend_2 _ _)
  (AutoSeq1.list_extend_list_list_0 l its.toArray n b its2.toArray n2 hlong (by rw[yqa];omega) (by omega)) ⟨e,e2,?_⟩
 refine⟨.non,_,I.lset (its':=its++its2) hH e (by simp) (r.append r2) ?_,rfl,q⟩;rw[yja];omega
def rPop:V->List V->Hp->VK->Prop:=λx vs H Q=>Ex3 λl xs y=>x = .ref l∧vs=[]∧H l=some (.lst xs)∧xs[xs.length-1]?=some y∧Q y (upd H l (.lst xs.dropLast))
theorem zzzb:MtM X "list.pop" rPop:=by
 intro pins s σ H x vs v us Q I rx rv h;obtain⟨l,xs,y,rfl,rfl,hH,hy,q⟩:=h;cases rx;have hus:=rv.zero;subst hus;obtain⟨z,its,n,r,hl,e⟩:=I.lstM hH;obtain⟨u,hu,ru⟩:=r.get hy;have hy':its.toArray[its.toArray.size-1]?=some u:=by
  show its.toArray[its.length-1]?=some u
  rw[← yvb,← hl];exact hu
 refine ymi F.slot_list_pop ⟨_,e,rfl⟩ F.entry_list_pop (F.args_list_pop_1 _) (MeetsSeq.list_pop_last l its.toArray n u hy' (by rw[yqa];omega)) ⟨e,?_⟩;refine⟨y,_,I.lset (its':=its.dropLast) hH e ?_ r.dropLast ?_,ru,q⟩
 ·show its.toArray.eraseIdxIfInBounds (its.toArray.size-1)=its.dropLast.toArray;rw[yqa,ygj,zzjb]
 ·rw[List.length_dropLast];omega
def rCat:R2:=λx y H Q=>Ex4 λl b xs zs=>x = .ref l∧y = .ref b∧H l=some (.lst xs)∧H b=some (.lst zs)∧xs.length+zs.length≤yta∧∀p,H p=none->Q (.ref p) (upd H p (.lst (xs++zs)))
theorem znzb:OpR X (ypi .Add) rCat:=by
 intro pins s σ H x y v u Q I rx ry h;obtain⟨l,b,xs,zs,rfl,rfl,hH,hB,hz,q⟩:=h;cases rx;cases ry;obtain⟨z,its,n,r,hl,e⟩:=I.lstM hH;obtain⟨z2,its2,n2,r2,hl2,e2⟩:=I.lstM hB;refine PySem.P.add_list e e2 ?_ (by rw[yqa,yqa];omega);have ea:its.toArray++its2.toArray=(its++its2).toArray:=by simp
 rw[ea];exact⟨.ref _,_,I.lnew (t':=s.toks) (r.append r2) (by rw[yja];omega),rfl,q _ I.fresh⟩
end
section
variable {prog:yqb}{w:World}{A:Around}{E:Value->Shared->Prop}{s:Shared}
end
section
variable {X:Cx}
end
end L2
namespace Att
open PySem PySem.W PySem.Calls PyProof.Rows
theorem zmt {P:Params}{h:Heap}:∀(ns:List Int) (vs:List Value),WellAll P h vs (ns.map WData.int)->yei vs ns:=by
 intro ns
 induction ns with
 | nil =>
  intro vs w;rw[yqj] at w;cases w;exact .nil
 | cons n ns ih =>
  intro vs w;rw[ybb] at w;cases w with
  | cons a b =>
   cases a;exact .cons _ _ (ih _ b)
theorem zmlb {l:OpenLaw}{n:Nat}(hn:l.most=some n){P:Params}{h:Heap}{args:List WData}{vals:List Value}
  (hpre:l.row.toRowW.claim.pre args=true) (hwl:WellAll P h vals args) :
  Ex3 λa vs ns=>vals=[Value.ref a]∧args=[WData.list (ns.map WData.int)]∧h.get? a=some { cls:=.type "list",data:=.seq vs.toArray }∧yei vs ns∧ns.length≤n:=by
 have hsh:WShape.hasAll [] args [.list .int]=true:=(pre_splitW hpre).1;have hc:l.pre.holds [] { args:=args }=true:=(pre_splitW hpre).2;obtain⟨d,r,rfl,h1,h2⟩:=hasAllW_cons hsh;obtain rfl:=hasAllW_nil h2;obtain⟨xs,rfl,h3⟩:=hasW_list h1;obtain⟨ns,rfl⟩:=items_int h3;have hlen:ns.length≤n:=by
  unfold OpenLaw.pre at hc;have h4:(WTm.not (.lt (.lit (.int (n:Int))) (.len (.arg 0)))).holds [] { args:=[.list (ns.map .int)] }=true:=by
   have h4:=(holds_andW hc).1;rw[hn] at h4;exact h4
  have h5:=condW_of h4 (w_not (w_lt w_lit (w_len_list (w_arg rfl))));rw[yea] at h5;refine Nat.le_of_not_lt λq=>?_;have q':(n:Int)<((ns.length:Nat):Int):=by omega
  first
   | (rw[decide_eq_true q'] at h5;exact absurd h5 (by decide))
   | (simp at h5;omega)
 cases hwl with
 | cons w1 w2 =>
  cases w2;cases w1 with
  | list ho hall=>exact⟨_,_,ns,rfl,rfl,ho,zmt ns _ hall,hlen⟩
theorem zcmb (l:OpenLaw)(args:List WData):l.row.toRowW.claim.post args (.bool true) args=true :=
 postW_of (r:=l.row.toRowW) (X:=(true==true))
  (show WShape.has [] (.bool true) .bool=true by first|rfl|decide|simp[WShape.has,WShape.arms,WShape.armsAll])
  (show (WTm.eq .res (.lit (.bool true))).value [] { args:=args,res:=some (.bool true),after:=args }=some (.bool (true==true)) from w_eq_bool (w_res rfl) w_lit) rfl
theorem zufb {l:OpenLaw}{n:Nat}{q:yqb}{loose:List Str}{XP:(Str->Option Value)->Heap->Prop}{YP:World->Heap->Prop}{d:DefRec}
  (hn:l.most=some n) (hdf:d.params.defaults=[])
  (call:∀(w:World) (s₀ s₁:Shared) (mg mb:Str->Option Value) (fa:Addr) (o:Obj) (pm cd doc:Value) (a:Addr) (vs:List Value) (ns:List Int),
   Ground q loose [] XP w s₀ mg mb s₁.heap->YP w s₁.heap →
   s₁.heap.get? fa=some o->o.data = .func (docDef d.name d.params d.body d.scope pm cd doc)->s₁.heap.CodeRec cd d.name->mg d.name=some (.ref fa) →
   s₁.heap.get? a=some { cls:=.type "list",data:=.seq vs.toArray }->yei vs ns->ns.length≤n->s₁.gens=#[] →
   yej (model l.prog w) yzq (.call (.ref fa) ⟨[.ref a],[]⟩) (λr s'=>r = .ok (.ret (.bool true))∧OldK s₁.heap s'.heap∧s'.os=s₁.os∧ygp s'.gens) s₁) :
  WalkO q loose XP YP l.row.toRowW d [] (λf vs=>yrs f vs):=by
 intro w s₀ s₁ mg mb G Y fa o pm cd doc dV kV ho hd hcd hD hmg hg args vals as hpre hlay hrd hwl hlo;obtain rfl:dV = .none:=Dflts.none hD hdf;obtain rfl:kV = .none:=Dflts.noKw hD;obtain⟨a,vs,ns,rfl,rfl,hobj,hints,hlen⟩:=zmlb hn hpre hwl;refine enter_call (ych (call w s₀ s₁ mg mb fa o pm cd doc a vs ns G Y ho (fd_plain hd) hcd hmg hobj hints hlen hg) λr s' hq=>?_);obtain⟨rfl,h2,h3,h4⟩:=hq;exact⟨.inl ⟨.bool true,.bool true,[],rfl,λ_=>rfl,.bool true,zcmb l _,λ_=>⟨List.Pairwise.nil,λ_ hm=>(nomatch hm)⟩⟩,h2,h3,h4⟩
section
variable {prog:yqb}{w:World}{A:Around}{E:Value->Shared->Prop}{s:Shared}{K:Frag}
end
end Att
namespace L2
open PySem PySem.Spec PyProof.Rows
theorem zwz:∀{vs:List Value} {ns:List Int},yei vs ns->Vals (ns.map V.int) vs
 | _,_,.nil=>.nil
 | _,_,.cons n t h=>.cons ⟨t,rfl⟩ (zwz h)
def Only (H:Hp):Prop:=∀b,H b=none∨Ex2 λo xs=>H b=some (.frz o (.lst xs))
theorem zesb {P:yqb}{w:World}{K:yca}{mg mb:Str->Option Value}{CX:CXT}{k:Nat}{fa a:Addr}{fd:yef}{x:Str}{sp:Sp}{s₁:Shared}{vs:List Value}{ns:List Int}
  (KX:K.In s₁.heap) (hns:s₁.heap.Ns yfb mg) (hb:s₁.heap.Ns builtinsNs mb) (hbb:∀x:Str,x ≠ "__name__"->mb x=yzg x) (hlim:s₁.heap.NoLimit) (hg:s₁.gens=#[])
  (ha:s₁.heap.get? a=some { cls:=.type "list",data:=.seq vs.toArray }) (hi:yei vs ns) (hl:ns.length≤yta) (hr:Room k yzq)
  (F:∀base:Heap,K.In base->base.Ns yfb mg->FnOk P w K mg base CX k fa fd [x] sp) (hbind:∀(s:Shared) (u:Value),yrq s fd ⟨[u],[]⟩ [(x,u)])
  (hsp:∀H:Hp,Only H->SqL K H a (ns.map V.int)->sp [.ref a] H (λv _=>v = .bl true) λ_ _ _=>False)
  (hCX:∀H e s',CX [] H s₁ (λ_ _ _=>False) e s'->False) :
  yej (model P w) yzq (.call (.ref fa) ⟨[.ref a],[]⟩) (λr s'=>r = .ok (.ret (.bool true))∧OldK s₁.heap s'.heap∧s'.os=s₁.os∧ygp s'.gens) s₁:=by
 have rv:=zwz hi;have lenV:=hi.length;have core:∀H:Hp,Only H->SqL K H a (ns.map V.int)->HOk P w H s₁.heap->(∀b,H b≠none->b=a)->(H a≠none->K.lookup a=none) →
   yej (model P w) yzq (.call (.ref fa) ⟨[.ref a],[]⟩) (λr s'=>r = .ok (.ret (.bool true))∧OldK s₁.heap s'.heap∧s'.os=s₁.os∧ygp s'.gens) s₁:=by
  intro H hO hS hok hA hK;have base_of:∀{b:Addr} {o:Obj},s₁.heap.get? b=some o->H b=none->(hidT s₁.heap H).get? b=some o:=λe n=>znsb e n;have noA:∀{b:Addr} {o:Obj} {es:Array ybh} {ep:Nat},s₁.heap.get? b=some o->o.data = .dict es ep->H b=none:=λ{b o es ep} e d=>by
   cases q:H b with
   | none=>rfl
   | some u =>
    have e':b=a:=hA b (by rw[q];simp);subst e';rw[ha] at e;cases e;have d':Data.seq vs.toArray _=Data.dict es ep:=d;cases d'
  have nsK:∀{b:Addr} {m:Str->Option Value},s₁.heap.Ns b m->(hidT s₁.heap H).Ns b m:=λ{b m} ⟨o,es,ep,e,d,r⟩=>⟨o,es,ep,base_of e (noA e d),d,r⟩;have hKb:K.In (hidT s₁.heap H):=λb o e=>base_of (KX b o e) (by
   cases q:H b with
   | none=>rfl
   | some u =>
    have e':b=a:=hA b (by rw[q];simp);subst e';rw[hK (by rw[q];simp)] at e;cases e)
  have hM:Mod K mg (hidT s₁.heap H):=⟨hKb,nsK hns,⟨mb,nsK hb,hbb⟩,let ⟨mc,h1,h2⟩:=hlim;⟨mc,nsK h1,h2⟩⟩;have e0:Env0 P w K mg (hidT s₁.heap H) yzq [] s₁ H:=⟨rfl,hM,λb o e=>znwb e,yrn (zynb _ _),trivial,λb hb=>absurd (show b∈([]:List Addr) from hb) (by simp),hok,.of_eq hg⟩;refine ych ((F _ hKb (nsK hns)).run yzq [] s₁ H ⟨[.ref a],[]⟩ [.ref a] [.ref a] _ _ hr e0 (hbind s₁ (.ref a)) (.cons rfl .nil) (hsp H hO hS)) λr s' h=>?_;cases r with
  | error e=>exact (hCX H e s' h).elim
  | ok fl =>
   cases fl with
   | next=>exact yhf h
   | brk=>exact yhf h
   | cont=>exact yhf h
   | ret u =>
    obtain⟨v,H',os,bare,un,hok',r',q⟩:=h;have q':v = .bl true:=q;subst q';obtain rfl:u=Value.bool true:=r';refine⟨rfl,OldK.of_keep λb o e=>?_,os,bare⟩;cases q:H b with
    | none=>exact un.keep b o e q (by intro z;exact absurd (show b∈([]:List Addr) from z) (by simp)) (by simp)
    | some u =>
     rcases hO b with z|⟨ob,xs,z⟩
     ·rw[q] at z;cases z
     ·have z2:=un.frzs b ob _ z;obtain⟨e1,_⟩:=hok b _ z;obtain⟨e2,_⟩:=hok' b _ z2;rw[e] at e1;cases e1;exact e2
 cases hk:K.lookup a with
 | some o =>
  have e:=KX a o hk;rw[ha] at e;cases e;refine core (λ_=>none) (λ_=>.inl rfl) (.inr ⟨_,vs.toArray,_,hk,rfl,rfl,rfl,by rw[yqa,lenV];exact hl,by simpa using rv⟩) (λb u z=>by have z':(none:Option HO)=some u:=z;cases z') (λb z=>absurd rfl z) λz=>absurd rfl z
 | none =>
  refine core (λb=>if b=a then some (.frz { cls:=.type "list",data:=.seq vs.toArray } (.lst (ns.map V.int))) else none) (λb=>?_) (.inl (.inr ⟨{ cls:=.type "list",data:=.seq vs.toArray },if_pos rfl⟩)) (λb u z=>?_) (λb z=>?_) λ_=>hk
  ·by_cases hb:b=a
   ·exact .inr ⟨_,_,if_pos hb⟩
   ·exact .inl (if_neg hb)
  ·by_cases hb:b=a
   ·have z':=(if_pos hb).symm.trans z;cases z';subst hb;exact⟨ha,by rw[yea];exact hl,vs,_,rv,ha⟩
   ·have z':=(if_neg hb).symm.trans z;cases z'
  ·by_cases hb:b=a
   ·exact hb
   ·exact absurd (if_neg hb) z
end L2
namespace L2
open PySem PySem.Spec PyProof.Rows
theorem zoub {l:ywn}{n k:Nat}{q:yqb}{loose:List Str}{XP:(Str->Option Value)->Heap->Prop}{YP:World->Heap->Prop}{d:DefRec}{K:Params->yca}{CX:World->CXT}{sp:World->Sp}{x:Str}
  (hn:l.most=some n) (hn2:n≤yta) (hdf:d.params.defaults=[]) (hr:Room k yzq)
  (hY:∀(w:World) (h:Heap),YP w h->(K w.params).In h)
  (F:∀(w:World) (mg:Str->Option Value) (fa:Addr) (h:Heap),(K w.params).In h->h.Ns yfb mg->mg d.name=some (.ref fa) →
   ∃fd:yef,(∀(s:Shared) (u:Value),yrq s fd ⟨[u],[]⟩ [(x,u)]) ∧
    ∀base:Heap,(K w.params).In base->base.Ns yfb mg->FnOk l.prog w (K w.params) mg base (CX w) k fa fd [x] (sp w))
  (hsp:∀(w:World) (H:Hp) (a:Addr) (ns:List Int),ns.length≤n->Only H->SqL (K w.params) H a (ns.map V.int)->sp w [.ref a] H (λv _=>v = .bl true) λ_ _ _=>False)
  (hCX:∀(w:World) (H:Hp) (s:Shared) (e:Value) (s':Shared),CX w [] H s (λ_ _ _=>False) e s'->False) :
  yts q loose XP YP l.row.toRowW d [] (λf vs=>yrs f vs):=by
 refine Att.zufb hn hdf λw s₀ s₁ mg mb fa o pm cd doc a vs ns G Y ho hd hcd hmg hobj hints hlen hg=>?_;have KX:=hY w _ Y;obtain⟨fd,hb,hF⟩:=F w mg fa _ KX G.T.g hmg;exact zesb KX G.T.g G.T.b G.T.builtins G.T.nolimit hg hobj hints (yua hlen hn2) hr hF hb (λH hO hS=>hsp w H a ns hlen hO hS) λH e s'=>hCX w H s₁ e s'
end L2
namespace L2
open PySem PySem.Spec PyProof.Rows
def inClass (s:Stmt)(j:Nat):Stmt:=match s with
 | .ClassDef _ _ _ body _ _ _ _ _ _ _=>body.getD j (.Pass ⟨0,0,0,0⟩)
 | _=>.Pass ⟨0,0,0,0⟩
def zwm (s:Stmt):Arguments:=match s with
 | .FunctionDef _ a _ _ _ _ _ _ _ _=>a
 | _=>{ posonlyargs:=[],args:=[],vararg:=none,kwonlyargs:=[],kw_defaults:=[],kwarg:=none,defaults:=[] }
def zni (s:Stmt):List Stmt:=match s with
 | .FunctionDef _ _ b _ _ _ _ _ _ _=>b
 | _=>[]
def zga (s:Stmt):Scope:=match s with
 | .FunctionDef _ _ _ _ _ _ sc _ _ _=>sc
 | _=>{ kind:=.function,names:=[],isGenerator:=false,isCoroutine:=false }
abbrev CX0:CXT:=λ_ _ _ _ _ _=>False
abbrev E0:XK:=λ_ _ _=>False
theorem zwa {X:Cx}:Passes CX0 X E0:=λ_ _ _ _ _ _ _ h=>h.elim
structure Fun (K:yca)(x qual:Str)(st:Stmt)(f:Addr)(fd:yef):Prop where
 ex:Ex9 λ(oc:Value) (od:Option Addr) (kV doc pm:Value) (an:Option Addr) (cdv ct:Value) (osl:Array (Option Value)) =>
  fd=ygg x qual (zwm st) (zni st) (zga st) .none kV doc pm an cdv ct∧K.lookup f=some ⟨oc,od,.func fd,osl⟩∧yuh K cdv qual=true
 kp:yte K (.ref f)=true
section
variable {P:yqb}{w:World}{K:yca}{mg:Str->Option Value}{base:Heap}
theorem Fun.ok {x qual:Str}{st:Stmt}{f:Addr}{fd:yef}{N ps:List Str}{k:Nat}{sp:Sp}(F:Fun K x qual st f fd)(S:zqa N ps (zga st))(len:∀vs H Q E,sp vs H Q E->vs.length=ps.length)
  (hbody:∀(cdv:Value) (A:Around) (outer:List Env) (s:Shared) (H:Hp) (vs:List V) (Q:VK) (E:XK),Room k (A.deeper (envOfC qual (zga st) s.heap.objs.size f cdv))->sp vs H Q E →
   ∃t,PSs (cxOf CX0 P w K mg base N qual (zga st) f cdv A outer s H E).nox (zni st) t∧t { nx:=λ_ H'=>Q .non H',rt:=Q } (start N vs) H):FnOk P w K mg base CX0 (k+1) f fd ps sp:=by
 obtain⟨oc,od,kV,doc,pm,an,cdv,ct,osl,rfl,lk,hcd⟩:=F.ex;refine zbcc lk hcd S len λA outer s H vs Q E hr hsp=>?_;obtain⟨t,h,q⟩:=hbody cdv A outer s H vs Q E hr hsp;exact⟨t,h.nox,q⟩
theorem Fun.binds {x qual:Str}{st:Stmt}{f:Addr}{fd:yef}{ps:List Str}(F:Fun K x qual st f fd)
  (h:∀(kV doc pm:Value) (an:Option Addr) (cdv ct:Value) (us:List Value),us.length=ps.length->bindArgs (ygg x qual (zwm st) (zni st) (zga st) .none kV doc pm an cdv ct) ⟨us,[]⟩=pure (ps.zip us)):Binds K fd ps []:=by
 obtain⟨oc,od,kV,doc,pm,an,cdv,ct,osl,rfl,lk,hcd⟩:=F.ex;exact .all (h kV doc pm an cdv ct)
theorem zeob {x qual:Str}{st:Stmt}{f:Addr}{oc:Value}{od an:Option Addr}{osl:Array (Option Value)}{kV doc pm cdv ct:Value}(l:K.lookup f=some ⟨oc,od,.func (ygg x qual (zwm st) (zni st) (zga st) .none kV doc pm an cdv ct),osl⟩)
  (c:yuh K cdv qual=true) (k:yte K (.ref f)=true):Fun K x qual st f (ygg x qual (zwm st) (zni st) (zga st) .none kV doc pm an cdv ct):=⟨⟨oc,od,kV,doc,pm,an,cdv,ct,osl,rfl,l,c⟩,k⟩
end
theorem zei {n:Nat}(h:n≤1000):n<yta:=ycl h (by decide)
section
variable {X:Cx}
theorem pv (i:Nat){x:Str}{pos:Pos}(hN:X.N[i]?=some x:=by rfl)(hv:Vis X.env.scope x:=by first|exact Or.inl rfl|exact Or.inr (Or.inl rfl)|exact Or.inr (Or.inr rfl))(hd:(x==("__debug__":Str))=false:=by decide)
  (hcd:(x==("__classdict__":Str))=false:=by decide):PE X (.Name x pos) (tVar i):=zezb hN hv hd hcd
end
theorem iteF {A B:Prop}(h:B):if false=true then A else B:=by
 rw[if_neg yab];exact h
theorem iteT {A B:Prop}(h:A):if true=true then A else B:=by
 rw[if_pos rfl];exact h
theorem ite2 {c A B:Prop}[Decidable c](h1:c->A)(h2:¬ c->B):if c then A else B:=by
 by_cases h:c
 ·rw[if_pos h];exact h1 h
 ·rw[if_neg h];exact h2 h
def Same (H H':Hp):Prop:=∀b o,H b=some o->H' b=some o
theorem Same.refl (H:Hp):Same H H:=λ_ _ h=>h
theorem Same.trans {H H1 H2:Hp}(a:Same H H1)(b:Same H1 H2):Same H H2:=λc o h=>b c o (a c o h)
end L2
namespace L2
open PySem PySem.Spec PyProof.Rows
def clGo (cells:List (Str×Addr)):List (Str×yxc)->List (Str×Addr)->List (Str×Addr)
 | [],cs=>cs
 | (n,k)::r,cs=>clGo cells r (if k == .free then (match cells.lookup n with|some c=>(n,c)::cs|none=>cs) else cs)
def clOf (sc:Scope)(cells:List (Str×Addr)):List (Str×Addr):=clGo cells sc.names []
theorem znw {sc:Scope}{env:Env}(h:∀y∈sc.names,y.2 = .free->∃c,env.cells.lookup y.1=some c):closureFor sc env=pure (clOf sc env.cells):=by
 have go:∀(l:List (Str×yxc)) (cs:List (Str×Addr)),(∀y∈l,y.2 = .free->∃c,env.cells.lookup y.1=some c) →
   (forIn l cs (λ(x:Str×yxc) (r:List (Str×Addr))=>(match x with|(name,kind)=>if kind==yxc.free then (do let c ← cellOf env name;pure (ForInStep.yield ((name,c)::r))) else pure (ForInStep.yield r):Sem (ForInStep (List (Str×Addr))))))=pure (clGo env.cells l cs):=by
  intro l
  induction l with
  | nil=>intro cs _;rfl
  | cons y r ih =>
   intro cs h;obtain⟨n,k⟩:=y;have hr:∀y∈r,y.2 = .free->∃c,env.cells.lookup y.1=some c:=λy hy=>h y (yma _ hy);rw[List.forIn_cons]
   by_cases hk:k = .free
   ·subst hk;obtain⟨c,e⟩:=h (n,.free) yka rfl;have e':env.cells.lookup n=some c:=e;simp only[beq_self_eq_true,if_true,cellOf,e',pure_bind,clGo];exact ih _ hr
   ·have hb:(k==yxc.free)=false:=by simpa using hk
    simp only[hb,yqd,if_false,pure_bind,clGo];exact ih _ hr
 unfold closureFor clOf;refine Eq.trans (bind_pure _) ?_;exact go sc.names [] h
theorem ztr {cells:List (Str×Addr)}:∀(l:List (Str×yxc)) (cs:List (Str×Addr)),(∀x c,cs.lookup x=some c->cells.lookup x=some c)->∀x c,(clGo cells l cs).lookup x=some c->cells.lookup x=some c
 | [],_,h,x,c,e=>h x c e
 | (n,k)::r,cs,h,x,c,e=>by
  refine ztr r _ (λy d z=>?_) x c e
  by_cases hk:(k==yxc.free)=true
  ·rw[if_pos hk] at z;cases q:cells.lookup n with
   | none=>rw[q] at z;exact h y d z
   | some a =>
    rw[q] at z;have z':yde y ((n,a)::cs)=some d:=z;rw[yne] at z';cases hy:y==n with
    | true =>
     rw[hy] at z';have ey:y=n:=(by simpa using hy);rw[ey,q];exact z'
    | false =>
     rw[hy] at z';exact h y d z'
  ·rw[if_neg hk] at z;exact h y d z
theorem zvhb {cells:List (Str×Addr)}:∀(l:List (Str×yxc)) (cs:List (Str×Addr)) (x:Str),((x,yxc.free)∈l∧(∃c,cells.lookup x=some c))∨(∃c,cs.lookup x=some c)->∃c,(clGo cells l cs).lookup x=some c
 | [],cs,x,h=>by
  rcases h with⟨h,_⟩|h
  ·cases h
  ·exact h
 | (n,k)::r,cs,x,h=>by
  refine zvhb r _ x ?_;have put:(∃c,cs.lookup x=some c)->∃c,(if (k==yxc.free)=true then (match cells.lookup n with|some c=>(n,c)::cs|none=>cs) else cs).lookup x=some c:=λ⟨c,e⟩=>by
   by_cases hk:(k==yxc.free)=true
   ·rw[if_pos hk];cases q:cells.lookup n with
    | none=>exact⟨c,e⟩
    | some a =>
     show ∃c,yde x ((n,a)::cs)=some c
     rw[yne];cases hy:x==n with
     | true=>exact⟨a,rfl⟩
     | false=>exact⟨c,e⟩
   ·rw[if_neg hk];exact⟨c,e⟩
  rcases h with⟨h,c,e⟩|h
  ·rcases yla.mp h with z|z
   ·injection z with z1 z2
    subst z1;subst z2;refine .inr ⟨c,?_⟩;show yde x (match cells.lookup x with|some c=>(x,c)::cs|none=>cs)=some c
    rw[e];show yde x ((x,c)::cs)=some c
    rw[yne,beq_self_eq_true]
   ·exact .inl ⟨z,c,e⟩
  ·exact .inr (put h)
theorem zsq {env:Env}:∀{l:List (Str×yxc)} {x:Str},(∀y∈l,y.2≠yxc.cell) →
  ((l.map λ(n,k)=>if (k==yxc.free&&env.scope.kind == .function&&env.kindOf n==some .cell) then (n,yxc.cell) else (n,k)).lookup x=some .cell ∨
   (l.map λ(n,k)=>if (k==yxc.free&&env.scope.kind == .function&&env.kindOf n==some .cell) then (n,yxc.cell) else (n,k)).lookup x=some .free)->(x,yxc.free)∈l
 | [],x,_,h=>by rcases h with h|h<;>simp at h
 | (n,k)::r,x,hc,h=>by
  rw[ybb] at h;have nk:k≠yxc.cell:=hc (n,k) yka
  by_cases hx:x=n
  ·subst hx;have kf:k = .free:=by
    by_cases q:(k==yxc.free&&env.scope.kind == .function&&env.kindOf x==some .cell)=true
    ·rw[ysc,ysc] at q
     simpa using q.1.1
    ·have e:(match (x,k) with|(n,k)=>if (k==yxc.free&&env.scope.kind == .function&&env.kindOf n==some .cell)=true then (n,yxc.cell) else (n,k))=(x,k):=if_neg q;rw[e,yne,beq_self_eq_true] at h
     rcases h with h|h
     ·exact absurd (yec h) nk
     ·exact yec h
   subst kf;exact yka
  ·refine yma _ (zsq (env:=env) (λy hy=>hc y (yma _ hy)) ?_);have hb:(x==n)=false:=by simpa using hx
   by_cases q:(k==yxc.free&&env.scope.kind == .function&&env.kindOf n==some .cell)=true
   ·have e:(match (n,k) with|(n,k)=>if (k==yxc.free&&env.scope.kind == .function&&env.kindOf n==some .cell)=true then (n,yxc.cell) else (n,k))=(n,yxc.cell):=if_pos q;rw[e,yne,hb] at h;exact h
   ·have e:(match (n,k) with|(n,k)=>if (k==yxc.free&&env.scope.kind == .function&&env.kindOf n==some .cell)=true then (n,yxc.cell) else (n,k))=(n,k):=if_neg q;rw[e,yne,hb] at h;exact h
def blk (X:Cx)(N':List Str)(sc:Scope)(fp:List Addr)(s:Shared)(H:Hp)(C:Addr):Cx where
 prog:=X.prog
 w:=X.w
 K:=X.K
 mg:=X.mg
 base:=X.base
 A:=X.A
 N:=N'
 s₀:=s
 H₀:=H
 env:=compEnvC sc (clOf sc X.env.cells) C X.env
 outer:=X.stack
 stack:=X.stack
 ex:=fp
 fn:=λ_=>false
 calm:=X.calm
 pn:=[]
 xe:=λ_ _=>False
inductive Caps (X:Cx)(sc:Scope):List Str->List Nat->Prop where
 | nil:Caps X sc [] []
 | cons {x:Str} {j:Nat} {cap:List Str} {js:List Nat} (hj:X.N[j]?=some x) (hk:X.env.kindOf x=some .cell∨X.env.kindOf x=some .free)
   (hr:(yar sc X.env).names.lookup x=some .cell∨(yar sc X.env).names.lookup x=some .free):Caps X sc cap js->Caps X sc (x::cap) (j::js)
structure zrb (X:Cx)(sc:Scope):Prop where
 kind:sc.kind = .function
 cell:∀y∈sc.names,y.2 ≠ .cell
 names:∀y∈sc.names,y.2 = .local->sc.names.lookup y.1=some .local
 free:∀y∈sc.names,y.2 = .free->X.env.kindOf y.1=some .cell∨X.env.kindOf y.1=some .free
def zyac (sc:Scope)(nm:List (Str×yxc)):Bool:=sc.names.all λy=>y.2 != .cell&&(y.2 != .local||sc.names.lookup y.1==some .local)&&(y.2 != .free||(nm.lookup y.1==some .cell||nm.lookup y.1==some .free))
theorem zrb.chk {X:Cx}{sc:Scope}(hk:sc.kind = .function)(h:zyac sc X.env.scope.names=true):zrb X sc:=by
 have a:=yjf.mp h;refine⟨hk,λy hy e=>?_,λy hy e=>?_,λy hy e=>?_⟩
 ·have q:=a y hy;rw[e] at q;simp at q
 ·have q:=a y hy;rw[e] at q
  simpa using q
 ·have q:=a y hy;rw[e] at q;have q':X.env.scope.names.lookup y.1=some .cell∨X.env.scope.names.lookup y.1=some .free:=by simpa using q
  exact q'
def zlf (n:Nat)(js:List Nat)(σ:St):St:=List.replicate n none++js.map λj=>(σ[j]?).join
theorem Caps.len {X:Cx}{sc:Scope}:∀{cap:List Str} {js:List Nat},Caps X sc cap js->cap.length=js.length
 | _,_,.nil=>rfl
 | _,_,.cons _ _ _ c=>by rw[yfa,yfa,c.len]
theorem Caps.get {X:Cx}{sc:Scope}:∀{cap:List Str} {js:List Nat},Caps X sc cap js->∀{i:Nat} {x:Str},cap[i]?=some x →
  ∃j,js[i]?=some j∧X.N[j]?=some x∧(X.env.kindOf x=some .cell∨X.env.kindOf x=some .free)∧((yar sc X.env).names.lookup x=some .cell∨(yar sc X.env).names.lookup x=some .free)
 | _,_,.nil,i,x,e=>by simp at e
 | _,_,.cons hj hk hr c,0,x,e=>by
  rw[yic] at e;cases e;exact⟨_,rfl,hj,hk,hr⟩
 | _,_,.cons hj hk hr c,i+1,x,e=>by
  rw[ycb] at e;obtain⟨j,h1,h2⟩:=c.get e;exact⟨j,by rw[ycb];exact h1,h2⟩
theorem zlpb {X:Cx}{sc:Scope}{own cap:List Str}{js:List Nat}{σ:St}(C:Caps X sc cap js):(zlf own.length js σ).length=(own++cap).length:=by
 unfold zlf;rw[yja,ydh,yea,yja,C.len]
theorem zucb {n:Nat}{js:List Nat}{σ:St}{i:Nat}{v:V}(e:(zlf n js σ)[i]?=some (some v)):n≤i∧∃j,js[i-n]?=some j∧σ[j]?=some (some v):=by
 unfold zlf at e
 by_cases h:i<n
 ·rw[ytd (by simpa using h),ynm,if_pos h] at e;cases e
 ·refine⟨by omega,?_⟩;rw[yxb (by rw[ydh];omega),ydh,yya] at e;cases q:js[i-n]? with
  | none=>rw[q] at e;cases e
  | some j =>
   rw[q] at e;have e':(σ[j]?).join=some v:=yec e;refine⟨j,rfl,?_⟩;cases z:σ[j]? with
   | none=>rw[z] at e';cases e'
   | some o =>
    rw[z] at e';have e2:o=some v:=e';rw[e2]
theorem zrw {n:Nat}{js:List Nat}{σ σ2:St}(hd:σ2.drop n=(zlf n js σ).drop n){i:Nat}{v:V}(e:(zlf n js σ)[i]?=some (some v)):σ2[i]?=some (some v):=by
 have h:=(zucb e).1;have q:(σ2.drop n)[i-n]?=((zlf n js σ).drop n)[i-n]?:=by rw[hd]
 rw[yxg,yxg,show n+(i-n)=i by omega] at q;rw[q];exact e
def PTs (X:Cx)(ifs:List Expr)(t:TT):Prop :=
 ∀(pins:List (Addr×Obj)) (s:Shared) (σ:St) (H:Hp) (Q:Bool->Hp->Prop),Inv X pins σ H s->t σ H Q →
  wpAny (model X.prog X.w) X.A (forIn ifs true λc r=>if r=true then do let ok ← isTrue c X.env (eval c X.env);pure (ForInStep.yield ok) else pure (ForInStep.yield r)) (TP X pins σ Q) X.xe s
def zcyb:TT:=λ_ H Q=>Q true H
theorem zmh {X:Cx}:PTs X [] zcyb:=λ_ _ _ H _ I h=>wpAny_tests_nil ⟨H,I,h⟩
theorem zmj {X:Cx}{c:Expr}{t:TT}(hc:PT X c t):PTs X [c] t:=λpins s σ H Q I h=>wpAny_tests_one (hc pins s σ H Q I h)
theorem zpcb {prog:yqb}{w:World}{A:Around}{R:Result->Shared->Prop}{s:Shared}{elt tg iter:Expr}{ifs:List Expr}{scope:Scope}{pos:Pos}{it acc:Value}{env:Env}(I:Nat->Shared->Prop)
  (turn:∀n s,I n s->wpAny (model prog w) A (pyNext it) (λr s₁=>match r with
   | none=>R (.ok .next) s₁
   | some v=>wpAny (model prog w) A (yik tg it v) (λ_ s₀=>wpAny (model prog w) A (assign tg env v) (λ_ s₂ =>
     wpAny (model prog w) A (forIn ifs true λc r=>if r=true then do let ok ← isTrue c env (eval c env);pure (ForInStep.yield ok) else pure (ForInStep.yield r)) (λok s₃ =>
      if ok=true then wpAny (model prog w) A (eval elt env) (λx s₄ =>
       wpAny (model prog w) A (call (.builtin "list.append") [acc,x]) (λ_ s₅=>∃m,m<n∧I m s₅) (yjs (model prog w) A env λe s'=>R (.error e) s') s₄) (yjs (model prog w) A env λe s'=>R (.error e) s') s₃
      else ∃m,m<n∧I m s₃) (yjs (model prog w) A env λe s'=>R (.error e) s') s₂) (yjs (model prog w) A env λe s'=>R (.error e) s') s₀) (yjs (model prog w) A env λe s'=>R (.error e) s') s₁)
    (yjs (model prog w) A env λe s'=>R (.error e) s') s)
  (n:Nat) (h:I n s) :
  yej (model prog w) A (.compLoop (.ListComp elt [⟨tg,iter,ifs,0⟩] scope pos) 0 it acc env) R s:=by
 refine codeAny_loop rfl I (λn s hI=>?_) n h;show wpAny _ A ((compTurn (.ListComp elt [⟨tg,iter,ifs,0⟩] scope pos) 0 it acc env).onRaise (λx=>do noteFrame x env;theTreesLotGoes x)) _ _ s
 refine wpAny_noted ?_;rw[compTurn_list];refine yaa (yvp (yaa (ykd (turn n s hI) (λr s₁ h₁=>?_) λ_ _ h'=>h')));cases r with
 | none=>exact yda h₁
 | some v =>
  refine yaa (ykd h₁ (λ_ s₀ h₀=>?_) λ_ _ h'=>h');refine yaa (ykd h₀ (λ_ s₂ h₂=>yaa (ykd h₂ (λok s₃ h₃=>?_) λ_ _ h'=>h')) λ_ _ h'=>h');cases ok with
  | false=>exact yda ⟨rfl,h₃⟩
  | true =>
   exact yaa (yaa (ykd h₃ (λx s₄ h₄=>yaa (ykd h₄ (λ_ s₅ h₅=>yda (yda ⟨rfl,h₅⟩)) λ_ _ h'=>h')) λ_ _ h'=>h'))
def zrz (J:It)(H1:Hp)(g:TG)(tt:TT)(te:TE)(n:Nat)(js:List Nat)(σ:St)(Q:VK):Prop:=∃W:Nat->Nat->List V->Hp->Prop,(∃m,W 0 m [] H1)∧∀i m ys H,W i m ys H →
 (J.stop i H∧ys.length≤yta∧∀p,H p=none->Q (.ref p) (upd H p (.lst ys))) ∨
 (J.go i H∧ys.length≤yta∧∃N:List V->Hp->Prop,(∀ys' H',N ys' H'->∃m',m'<m∧W (i+1) m' ys' H')∧∀x H',J.yld i H x H'->g x (zlf n js σ) H' fun σ2 H2=>σ2.drop n=(zlf n js σ).drop n∧tt σ2 H2 λb H3 =>
  if b=true then te σ2 H3 λy H4=>N (ys++[y]) H4 else N ys H3)
def zgyb (wi:TI)(g:TG)(tt:TT)(te:TE)(n:Nat)(js:List Nat):TE:=fun σ H Q=>wi σ H λJ H1=>zrz J H1 g tt te n js σ Q
section
variable {X:Cx}
theorem Vals.snoc {xs:List V}{us:List Value}{x:V}{u:Value}(r:Vals xs us)(q:RelV x u):Vals (xs++[x]) (us++[u]):=r.append (.cons q .nil)
theorem zipb {pins:List (Addr×Obj)}{σ:St}{H:Hp}{s s3:Shared}{sc:Scope}{own cap:List Str}{js:List Nat}{fp:List Addr}{C:Addr}{tn:Nat->Heap->Prop}{h₁:Heap}{tk:Nat}{m:Str->Option Value}(I:Inv X pins σ H s)(S:zrb X sc)(cp:Caps X sc cap js)
  (hob:∀b∈fp,∃o,s.heap.get? b=some o∧∀v,o.data ≠ .cell v) (hf:∀b∈fp,FpOk X pins H b) (hC:s.heap.objs.size≤C) (hn:h₁.Ns C m) (old:∀b o,s.heap.get? b=some o->h₁.get? b=some o) :
  Inv (blk X (own++cap) sc fp s H C) [] (zlf own.length js σ) H { s with heap:=h₁,toks:=tk }:=by
 have sub:∀x c,(clOf sc X.env.cells).lookup x=some c->X.env.cells.lookup x=some c:=ztr sc.names [] (λx c e=>by simp at e);have has:∀x,((yar sc X.env).names.lookup x=some .cell∨(yar sc X.env).names.lookup x=some .free)->∃c,(clOf sc X.env.cells).lookup x=some c:=λx hx=>by
  have hm:=zsq (env:=X.env) (l:=sc.names) (x:=x) S.cell hx;exact zvhb sc.names [] x (.inl ⟨hm,I.ok.has x (S.free _ hm rfl)⟩)
 refine⟨⟨I.ok.mod,S.kind,I.ok.glob,I.ok.blt,hC,λx y c e1 e2=>I.ok.inj x y c (sub x c e1) (sub y c e2),has,(λx c e=>by cases e),I.ok.hd,I.ok.frames,.inl rfl,λb hb=>?_,I.bs,yua I.ok.bsz I.sz,λb o e hb=>?_,λb hb z=>?_,I.stack,I.zzkb⟩,
  rfl,I.bare,Un.kept old,⟨m,hn,λi x v h1 h2 h3=>?_⟩,λx c e=>?_,I.hok.fresh hC,λx c e=>I.freeC x c (sub x c e),λp hp=>absurd (show p∈([]:List (Addr×Obj)) from hp) (by simp),I.hok.kept old,zlpb cp⟩
 ·obtain⟨o,e,_⟩:=hob b hb;refine⟨ydb (yxa (ysa e) hC),λx c e=>?_⟩;exact (hf b hb).2.2.2.2.1 x c (sub x c e)
 ·obtain⟨_,_,_,h4,_,_⟩:=hf b hb
  rcases h4 with z|z
  ·exact I.ok.noex b o e z
  ·exact absurd (yxa (ysa e) (yua I.ok.bsz z)) (yud _)
 ·obtain⟨_,h2,h3,_⟩:=hf b hb
  rcases yla.mp (I.zvgb b z) with q|q
  ·exact h2 q
  ·exact h3 q
 ·obtain⟨hni,j,hj,hv⟩:=zucb h2;have h1':(own++cap)[i]?=some x:=h1;rw[yxb hni] at h1';obtain⟨j',e1,e2,e3,e4⟩:=cp.get h1';rw[hj] at e1;cases e1;obtain⟨m0,hn0,hl0⟩:=I.loc;have vis:Vis X.env.scope x:=.inr e3;obtain⟨u,ru,lk⟩:=hl0 j x v e2 hv vis;refine⟨u,ru,?_⟩
  rcases lk with⟨k,_⟩|⟨k,c,ec,hc⟩
  ·exfalso
   rcases e3 with q|q
   ·rw[q] at k;cases k
   ·rw[q] at k;cases k
  ·obtain⟨c',ec'⟩:=has x e4;have q:=sub x c' ec';rw[ec] at q;cases q;exact .inr ⟨e4,c,ec',hc.keeps old⟩
 ·obtain⟨v,z⟩:=I.cell x c (sub x c e);exact⟨v,z.keeps old⟩
theorem zkpb {pins pn:List (Addr×Obj)}{σ σ':St}{H H':Hp}{s s':Shared}{sc:Scope}{N':List Str}{fp:List Addr}{C D:Addr}{h':Heap}{ys:List V}{its:List Value}{nn:Nat}(I:Inv X pins σ H s)(J:Inv (blk X N' sc fp s H C) pn σ' H' s')
  (hf:∀b∈fp,FpOk X pins H b) (hC:s.heap.objs.size≤C) (hD:s.heap.objs.size≤D) (hDC:D≠C) (hn:H' D=none) (ho:s'.heap.get? D=some { cls:=.type "list",data:=.seq its.toArray nn }) (hz:ys.length≤yta) (rv:Vals ys its)
  (hs:yfd C s'.heap h'):Inv X pins σ (upd H' D (.lst ys)) { s' with heap:=h' }:=by
 have u:Un (frs X.stack) fp H H' s.heap s'.heap:=J.base;have low:∀b o,s.heap.get? b=some o->b≠C∧b≠D:=λb o e=>⟨ydb (yxa (ysa e) hC),ydb (yxa (ysa e) hD)⟩;have kp:∀b o,b≠C->s'.heap.get? b=some o->h'.get? b=some o:=λb o hb e=>(hs.2 b hb).trans e;have u2:Un (frs X.stack) fp H (upd H' D (.lst ys)) s.heap h':=by
  refine⟨λb o e n hb hx=>kp b o (low b o e).1 (u.keep b o e n hb hx),λb o e n hb hx=>?_,λb o e n hx=>?_,λb o e hx=>?_,λb xs e=>?_,λb o xs e=>?_,λb ps e=>?_⟩
  ·obtain⟨sl,q⟩:=u.slot b o e n hb hx;exact⟨sl,kp b _ (low b o e).1 q⟩
  ·rw[zta (low b o e).2];exact u.free b o e n hx
  ·obtain⟨o',q⟩:=u.there b o e hx;exact⟨o',kp b _ (low b o e).1 q⟩
  ·have q:=u.tups b xs e;rw[zta (zka q hn)];exact q
  ·have q:=u.frzs b o xs e;rw[zta (zka q hn)];exact q
  ·obtain⟨more,q⟩:=u.tbls b ps e;exact⟨more,by rw[zta (zka q hn)];exact q⟩
 have nC:H' C=none:=J.free;have hok:HOk X.prog X.w (upd H' D (.lst ys)) h':=λb o e=>by
  by_cases hb:b=D
  ·subst hb;rw[zfa] at e;cases e;exact⟨hz,its,nn,rv,kp b _ hDC ho⟩
  ·rw[zta hb] at e;refine (J.hok b o e).stay (λc v hc q=>kp c v ?_ q) (λc q=>?_) λc xs q=>?_
   ·rintro rfl
    rcases hc with z|z
    ·rw[← z,nC] at e;cases e
    ·rw[nC] at z;cases z
   ·rw[zta (zka q hn)];exact q
   ·rw[zta (zka q hn)];exact q
 have os:=J.os;have bare:=J.bare;obtain⟨hh,g,d,t,os'⟩:=s';obtain rfl:os'=s.os:=os;have z:=I.call (h':=h') (g':=g) (d':=d) (t':=t) (ch:=fp) u2 hok bare λb hb=>⟨(hf b hb).2.2.2.1,(hf b hb).2.1,(hf b hb).2.2.2.2.1,(hf b hb).2.2.2.2.2⟩;exact z
theorem zjpb {elt iter tg:Expr}{ifs:List Expr}{sc:Scope}{pos:Pos}{own cap:List Str}{js:List Nat}{g:TG}{tt:TT}{te:TE}{Qf:List V->Hp->Prop}{RR:Value->Addr->Result->Shared->Prop}{E:Value->Shared->Prop}
  {pins:List (Addr×Obj)} {σ:St} {H2:Hp} {s2:Shared} {it:Addr} {fp:List Addr} {tn:Nat->Heap->Prop} {J:It} {W:Nat->Nat->List V->Hp->Prop} {m0:Nat}
  (hc:X.calm=true) (S:zrb X sc) (cp:Caps X sc cap js)
  (hg:∀fp s H C,PG (blk X (own++cap) sc fp s H C) tg g) (ht:∀fp s H C,PTs (blk X (own++cap) sc fp s H C) ifs tt) (he:∀fp s H C,PE (blk X (own++cap) sc fp s H C) elt te)
  (I2:Inv X pins σ H2 s2) (T:Turn X.prog X.w X.K tg J fp it tn) (st2:tn 0 s2.heap) (f2:∀b∈fp,FpOk X pins H2 b) (w0:W 0 m0 [] H2)
  (turn:∀i m ys H,W i m ys H->(J.stop i H∧ys.length≤yta∧Qf ys H) ∨
   (J.go i H∧ys.length≤yta∧∃N:List V->Hp->Prop,(∀ys' H',N ys' H'->∃m',m'<m∧W (i+1) m' ys' H')∧∀x H',J.yld i H x H'->g x (zlf own.length js σ) H' fun σ2 H2=>σ2.drop own.length=(zlf own.length js σ).drop own.length∧tt σ2 H2 λb H3 =>
    if b=true then te σ2 H3 λy H4=>N (ys++[y]) H4 else N ys H3))
  (hRR:∀D C H4 s4 pn ys its nn,s2.heap.objs.size≤D->s2.heap.objs.size≤C->D≠C->Inv (blk X (own++cap) sc fp s2 H2 C) pn (zlf own.length js σ) H4 s4->H4 D=none->s4.heap.get? D=some { cls:=.type "list",data:=.seq its.toArray nn } →
   ys.length≤yta->Vals ys its->Qf ys H4->RR (.ref D) C (.ok .next) s4) :
  wpAny (model X.prog X.w) X.A (newList []) (λacc s₃=>wpAny (model X.prog X.w) X.A (newFunctionEnv sc X.env.globals (clOf sc X.env.cells) [] X.env.qual none .none (some X.env)) (λcenv s₄ =>
   yej (model X.prog X.w) X.A (.compStart (.ListComp elt [⟨tg,iter,ifs,0⟩] sc pos) 0 (.ref it) acc { cenv with scope:=yar sc X.env }) (RR acc cenv.locals) s₄) E s₃) E s2:=by
 refine ybc (wpAny_newFunctionEnv S.cell (by intro y hy;simp at hy) (λh₁ hns₁ hsb₁=>?_) S.kind);dsimp only at hns₁ hsb₁ ⊢;generalize hH2:s2.heap.push { cls:=.type "list",dict:=none,data:=.seq ([]:List Value).toArray }=HH at hns₁ hsb₁ ⊢;generalize hDd:s2.heap.objs.size=D at hns₁ hsb₁ ⊢;generalize hCc:HH.objs.size=C at hns₁ hsb₁ ⊢;have hC:C=D+1:=by rw[← hCc,← hH2,yae,hDd]
 have hDC:D≠C:=by rw[hC];exact ydb (yje _)
 have hCle:s2.heap.objs.size≤C:=by rw[hDd,hC];exact yke _
 have hDle:s2.heap.objs.size≤D:=yrn hDd;have below:∀b,b<s2.heap.objs.size->b≠C∧b≠D:=λb hb=>⟨ydb (yxa hb hCle),ydb (yxa hb hDle)⟩;have old:∀b o,s2.heap.get? b=some o->h₁.get? b=some o:=λb o e=>hsb₁.extBut b o (below b (ysa e)).1 (yba _ (hH2▸yba _ e));have q0:HH.get? D=some { cls:=.type "list",data:=.seq ([]:List Value).toArray 0 }:=by
  rw[← hH2,← hDd];exact yna _ rfl
 have hacc:h₁.get? D=some { cls:=.type "list",data:=.seq ([]:List Value).toArray 0 }:=hsb₁.extBut _ _ hDC (yba _ q0);have fpo:=T.obj 0 _ st2;have fplt:∀b∈fp,b<s2.heap.objs.size:=λb hb=>by obtain⟨o,e,_⟩:=fpo b hb;exact ysa e
 have st3:tn 0 h₁:=T.keep 0 _ _ st2 λb hb o e=>old b o e;have I3:∀tk,Inv (blk X (own++cap) sc fp s2 H2 C) [] (zlf own.length js σ) H2 { s2 with heap:=h₁,toks:=tk }:=λtk=>zipb (s3:=s2) (tn:=tn) I2 S cp fpo f2 hCle hns₁ old;have stkD:∀b,s2.heap.objs.size≤b->b∉frs X.stack:=λb hb hm=>by
  obtain⟨_,o,e,_⟩:=I2.stack.mem hm;exact absurd (yxa (ysa e) hb) (yud _)
 have nD:H2 D=none:=I2.hok.fresh hDle;have stat:∀{pn:List (Addr×Obj)} {H':Hp},(∀p∈pn,p.1=D)->(∀b∈fp,H' b=none)->∀b∈fp,FpOk (blk X (own++cap) sc fp s2 H2 C) pn H' b:=λ{pn H'} hp hn b hb=>by
  refine⟨hn b hb,(below b (fplt b hb)).1,λz=>?_,.inl hb,λx c e=>?_,λp hp' z=>?_⟩
  ·obtain⟨_,h2,h3,_⟩:=f2 b hb
   rcases yla.mp (I2.zvgb b z) with q|q
   ·exact h2 q
   ·exact h3 q
  ·exact (f2 b hb).2.2.2.2.1 x c (ztr sc.names [] (λx c e=>by simp at e) x c e)
  ·have e:=hp p (by simpa [blk] using hp');rw[e] at z;exact (below b (fplt b hb)).2 z.symm
 have pinD:∀{H':Hp} {s':Shared} {o:Obj},Inv (blk X (own++cap) sc fp s2 H2 C) [] (zlf own.length js σ) H' s'->H' D=none->s'.heap.get? D=some o->(∀v,o.data ≠ .cell v)->Inv (blk X (own++cap) sc fp s2 H2 C) [(D,o)] (zlf own.length js σ) H' s':=λ{H' s' o} I' n e d =>
  I'.zxs λp hp=>by
   have q:p=(D,o):=(by simpa using hp);subst q;exact⟨e,n,hDC,stkD D hDle,d⟩
 have loop:∀s₃:Shared,s₃={ s2 with heap:=h₁,toks:=s2.toks+([]:List (Str×Value)).length } →
   yej (model X.prog X.w) X.A (.compLoop (.ListComp elt [⟨tg,iter,ifs,0⟩] sc pos) 0 (.ref it) (.ref D) (compEnvC sc (clOf sc X.env.cells) C X.env)) (RR (.ref D) C) s₃:=by
  rintro s₃ rfl;refine zpcb (λk s'=>Ex5 λi ys its nn H'=>Inv (blk X (own++cap) sc fp s2 H2 C) [] (zlf own.length js σ) H' s'∧tn i s'.heap∧(∀b∈fp,H' b=none)∧H' D=none ∧
   s'.heap.get? D=some { cls:=.type "list",data:=.seq its.toArray nn }∧Vals ys its∧W i k ys H') ?_ m0 ⟨0,[],[],0,H2,I3 _,st3,λb hb=>(f2 b hb).1,nD,hacc,.nil,w0⟩
  rintro k s3 ⟨i,ys,its,nn,H3,I3,st3,fr3,d3,o3,rv3,w3⟩;have I3':=pinD I3 d3 o3 (λv z=>by cases z);have only:∀p∈[(D,({ cls:=.type "list",data:=.seq its.toArray nn }:Obj))],p.1=D:=λp hp=>by
   rw[yga.mp hp]
  rcases turn i k ys H3 w3 with⟨stop,hz,qn⟩|⟨go,hz,N,hN,step⟩
  ·refine ykd (T.done (blk X (own++cap) sc fp s2 H2 C) rfl rfl rfl hc i _ s3 _ H3 (λ_ _=>False) I3' (stat only fr3) st3 stop) (λr s4 ⟨hr,I4⟩=>?_) λ_ _ z=>z.elim;subst hr;have o4:=(I4.pin (D,_) (yrb _ (yga.mpr rfl))).1;exact hRR D C H3 s4 _ ys its nn hDle hCle hDC I4 d3 o4 hz rv3 qn
  ·refine ykd (T.item (blk X (own++cap) sc fp s2 H2 C) rfl rfl rfl hc i _ s3 _ H3 (λ_ _=>False) I3' (stat only fr3) st3 go) (λr s4 ⟨u,hr,h4⟩=>?_) λ_ _ z=>z.elim;subst hr;refine ykd h4 (λ_ s5 ⟨x,H5,I5,r5,y5,st5,fr5⟩=>?_) λ_ _ z=>z.elim;have I5':=I5.pinned (stat only fr5) (T.obj _ _ st5);refine ykd (hg fp s2 H2 C _ s5 _ H5 x u _ I5' r5 (step x H5 y5)) (λ_ s6 ⟨σ6,H6,I6,d6,q6⟩=>?_) λ_ _ z=>z.elim;refine ykd (ht fp s2 H2 C _ s6 σ6 H6 _ I6 q6) (λok s7 ⟨H7,I7,q7⟩=>?_) λ_ _ z=>z.elim;have memD:∀{o:Obj},(D,o)∈(blk X (own++cap) sc fp s2 H2 C).pn++([(D,o)]++zvv fp s5.heap):=yrb _ (ync _ (yga.mpr rfl));have memF:∀{b:Addr} {o o':Obj},b∈fp->s5.heap.get? b=some o->(b,o)∈(blk X (own++cap) sc fp s2 H2 C).pn++([(D,o')]++zvv fp s5.heap):=λhb e=>yrb _ (yrb _ (zlp hb e));have σlen:(zlf own.length js σ).length=σ6.length:=by
    have a:=I6.len;have b:=I5.len;exact b.trans a.symm
   cases ok with
   | false =>
    have q7':N ys H7:=q7;obtain⟨m',hm,w7⟩:=hN _ _ q7';refine⟨m',hm,i+1,ys,its,nn,H7,(I7.zxs λp hp=>absurd hp (by simp)).weak σlen (λj v e=>zrw d6 e),T.keep _ _ _ st5 λb hb o e=>(I7.pin (b,o) (memF hb e)).1,λb hb=>?_,(I7.pin (D,_) memD).2.1,(I7.pin (D,_) memD).1,rv3,w7⟩;obtain⟨o,e,_⟩:=T.obj _ _ st5 b hb;exact (I7.pin (b,o) (memF hb e)).2.1
   | true =>
    have q7':te σ6 H7 λy H4=>N (ys++[y]) H4:=q7;refine ykd (he fp s2 H2 C _ s7 σ6 H7 _ I7 q7') (λyv s8 ⟨y,H8,I8,r8,n8'⟩=>?_) λ_ _ z=>z.elim;obtain⟨m',hm,w8⟩:=hN _ _ n8';have o8:=(I8.pin (D,_) memD).1;have n8:=(I8.pin (D,_) memD).2.1;refine append_at (hsz:=by rw[yqa,← rv3.length];exact hz) o8 λh9 hs9 hD9=>?_;have I8':=(I8.zxs (pins':=[]) λp hp=>absurd hp (by simp)).weak σlen (λj v e=>zrw d6 e);have I9:=I8'.turned (h':=h9) (t':=s8.toks) (it:=D) (λb o hb e=>(hs9.2 b hb).trans e) n8 hDC (.inr hDle) (λx c e z=>by
     obtain⟨v,q⟩:=I2.cell x c (ztr sc.names [] (λx c e=>by simp at e) x c e);exact absurd (yxa q.lt (by rw[z];exact hDle)) (yud _)) (λp hp=>absurd (show p∈([]:List (Addr×Obj)) from hp) (by simp))
    refine⟨m',hm,i+1,ys++[y],its++[yv],nn+1,H8,I9,T.keep _ _ _ st5 λb hb o e=>(hs9.2 b (below b (fplt b hb)).2).trans (I8.pin (b,o) (memF hb e)).1,λb hb=>?_,n8,?_,rv3.snoc r8,w8⟩
    ·obtain⟨o,e,_⟩:=T.obj _ _ st5 b hb;exact (I8.pin (b,o) (memF hb e)).2.1
    ·rw[hD9,List.push_toArray]
 exact codeAny_compStart_list (loop _ rfl) (T.self X.A 0 _ _ _ st3 (loop _ rfl))
theorem zge {elt iter tg:Expr}{ifs:List Expr}{sc:Scope}{pos:Pos}{own cap:List Str}{js:List Nat}{wi:TI}{g:TG}{tt:TT}{te:TE}(hc:X.calm=true)(S:zrb X sc)(cp:Caps X sc cap js)(hi:PI X tg iter wi)
  (hg:∀fp s H C,PG (blk X (own++cap) sc fp s H C) tg g) (ht:∀fp s H C,PTs (blk X (own++cap) sc fp s H C) ifs tt) (he:∀fp s H C,PE (blk X (own++cap) sc fp s H C) elt te)
  (hs:∀x,yrl iter X.env x=pure x:=by intro _;rfl):PE X (.ListComp elt [⟨tg,iter,ifs,0⟩] sc pos) (zgyb wi g tt te own.length js):=by
 intro pins s σ H Q I h;rw[eval_ListComp];refine yyl (use:=none) rfl hs (znw λy hy hf=>I.ok.has y.1 (S.free y hy hf)) S.kind S.names (thn (hi pins s σ H _ I h) λv s1 h1=>thn h1 λitv s2 h2=>?_);obtain⟨it,fp,tn,J,H2,e,I2,T,st2,f2,W,⟨m0,w0⟩,turn⟩:=h2;subst e;refine zjpb (RR:=λacc C=>compPost (model X.prog X.w) X.A X.xe none (EP X pins σ Q) acc C) (Qf:=λys H=>∀p,H p=none->Q (.ref p) (upd H p (.lst ys))) hc S cp hg ht he I2 T st2 f2 w0 turn ?_;intro D C H4 s4 pn ys its nn hD hC hDC I4 n4 o4 hz rv q;obtain⟨m,hn,_⟩:=I4.loc;exact⟨m,hn,λh' hs'=>⟨.ref D,upd H4 D (.lst ys),zkpb I2 I4 f2 hC hD hDC n4 o4 hz rv hs',rfl,q D n4⟩⟩
end
def Its (x:Str):It:=⟨λi _=>i<x.cps.size,λi H v H'=>H'=H∧∃c,x.cps[i]?=some c∧v = .str ⟨#[c]⟩,λi _=>i=x.cps.size⟩
section
variable {X:Cx}{tg:Expr}
def iStr (tl:TE):TI:=fun σ H R=>tl σ H λv H1=>∃x,v = .str x∧R (Its x) H1
theorem zxr {P:yqb}{w:World}{K:yca}{tg:Expr}{ty:String}(x:Str)(t:Tok)(it:Addr)(hty:["enumerate","zip","dict_itemiterator","dict_reverseitemiterator","odict_iterator","itertools.zip_longest","itertools.pairwise"].contains ty=false)
  (W:∀A:Around,A.handled=none->Walks P w A it [it] [it] x.cps.size (SignAt x) (λi h=>h.IsStrIter it ty x t i))
  (hself:∀(A:Around) (i:Nat) (s:Shared) (Q:Value->Shared->Prop) (E:Value->Shared->Prop),s.heap.IsStrIter it ty x t i->Q (.ref it) s->wpAny (model P w) A (pyIter (.ref it)) Q E s) :
  Turn P w K tg (Its x) [it] it (λi h=>h.IsStrIter it ty x t i) where
 mem:=by simp
 obj:=λi h st b hb=>by
  have e:b=it:=by simpa using hb
  subst e;obtain⟨o,e,c,d⟩:=st;exact⟨o,e,λv z=>by rw[d] at z;cases z⟩
 keep:=λi h h' st k=>by
  obtain⟨o,e,r⟩:=st;exact⟨o,k it (by simp) o e,r⟩
 item:=by
  intro X hP hw hK hc i pins s σ H E I hf st hg;subst hP hw hK;obtain⟨f0,f1,f2,f3,f4,f5⟩:=hf it (by simp);refine (W X.A (I.ok.hd hc)).item i s _ _ hg st λv h' tk hv st' kk=>?_;obtain⟨c,u,hcx,rfl⟩:=hv;have I1:Inv X pins σ H { s with heap:=h',toks:=tk }:=I.turned (λb o hb e=>kk b o (by simpa using hb) e) f0 f1 f3 f4 f5;obtain⟨o,e,c',d⟩:=id st';exact⟨_,rfl,zujb (s:={ s with heap:=h',toks:=tk }) e c' d hty ⟨.str ⟨#[c]⟩,H,I1,⟨u,rfl⟩,⟨rfl,c,hcx,rfl⟩,st',λb hb=>(hf b hb).1⟩⟩
 done:=by
  intro X hP hw hK hc i pins s σ H E I hf st hg;subst hP hw hK;obtain⟨f0,f1,f2,f3,f4,f5⟩:=hf it (by simp);have le:i=x.cps.size:=hg;subst le;exact (W X.A (I.ok.hd hc)).done s _ _ st λh' tk kk=>⟨rfl,I.turned (λb o hb e=>kk b o (by simpa using hb) e) f0 f1 f3 f4 f5⟩
 self:=hself
theorem zttb {l:Expr}{tl:TE}(hl:PE X l tl):PI X tg l (iStr tl):=by
 intro pins s σ H R I h;refine thn (hl pins s σ H _ I h) λv s1 ⟨y,H1,I1,r1,q1⟩=>?_;obtain⟨x,e,q⟩:=q1;subst e;obtain⟨t,rfl⟩:=r1;have fp:∀b∈[s1.heap.objs.size],FpOk X pins H1 b:=λb hb=>by
  have e:b=s1.heap.objs.size:=by simpa using hb
  subst e;exact I1.fpOk (yha _) (I1.hok.fresh (yha _))
 cases ha:x.cps.all (· < 128)
 ·refine wpAny_pyIter_wide ha ?_;exact⟨s1.heap.objs.size,[s1.heap.objs.size],_,Its x,H1,rfl,I1.kept (t':=s1.toks) λb o e=>yba _ e,zxr x t _ (by decide) (λA hA=>Walks.strWide hA _ x t) (λA i s Q E st h=>wpAny_pyIter_striter_wide st h),⟨_,yna _ rfl,rfl,rfl⟩,fp,q⟩
 ·refine wpAny_pyIter_ascii ha ?_;exact⟨s1.heap.objs.size,[s1.heap.objs.size],_,Its x,H1,rfl,I1.kept (t':=s1.toks) λb o e=>yba _ e,zxr x t _ (by decide) (λA hA=>Walks.strAscii hA _ x t) (λA i s Q E st h=>wpAny_pyIter_striter_ascii st h),⟨_,yna _ rfl,rfl,rfl⟩,fp,q⟩
end
theorem zqt {J:It}{len:Nat}{x:Nat->V}{H1:Hp}{g:TG}{tt:TT}{te:TE}{n:Nat}{js:List Nat}{σ:St}{Q:VK}(Pv:Nat->List V->Hp->Prop)(hgo:∀i ys H,Pv i ys H->i<len->J.go i H)(hst:∀ys H,Pv len ys H->J.stop len H)
  (hy:∀i ys H v H',Pv i ys H->i<len->J.yld i H v H'->H'=H∧v=x i) (h0:Pv 0 [] H1) (hz:∀i ys H,Pv i ys H->ys.length≤yta)
  (hs:∀i ys H,i<len->Pv i ys H->g (x i) (zlf n js σ) H fun σ2 H2=>σ2.drop n=(zlf n js σ).drop n∧tt σ2 H2 λb H3=>if b=true then te σ2 H3 λy H4=>Pv (i+1) (ys++[y]) H4 else Pv (i+1) ys H3)
  (hd:∀ys H,Pv len ys H->∀p,H p=none->Q (.ref p) (upd H p (.lst ys))):zrz J H1 g tt te n js σ Q:=by
 refine⟨λi m ys H=>m=len-i∧i≤len∧Pv i ys H,⟨len,by simp,ygb _,h0⟩,?_⟩;rintro i m ys H ⟨rfl,hi,p⟩
 by_cases hlt:i<len
 ·refine .inr ⟨hgo i ys H p hlt,hz i ys H p,Pv (i+1),λys' H' p'=>⟨len-(i+1),by omega,rfl,hlt,p'⟩,λv H' y=>?_⟩;obtain⟨e,ev⟩:=hy i ys H v H' p hlt y;subst e ev;exact hs i ys _ hlt p
 ·have e:i=len:=by omega
  subst e;exact .inl ⟨hst ys H p,hz _ ys H p,hd ys H p⟩
theorem zxsb {t:Str}{H1:Hp}{g:TG}{tt:TT}{te:TE}{n:Nat}{js:List Nat}{σ:St}{Q:VK}(Pv:Nat->List V->Hp->Prop)(h0:Pv 0 [] H1)(hz:∀i ys H,Pv i ys H->ys.length≤yta)
  (hs:∀i c ys H,t.cps[i]?=some c->Pv i ys H->g (.str ⟨#[c]⟩) (zlf n js σ) H fun σ2 H2=>σ2.drop n=(zlf n js σ).drop n∧tt σ2 H2 λb H3=>if b=true then te σ2 H3 λy H4=>Pv (i+1) (ys++[y]) H4 else Pv (i+1) ys H3)
  (hd:∀ys H,Pv t.cps.size ys H->∀p,H p=none->Q (.ref p) (upd H p (.lst ys))):zrz (Its t) H1 g tt te n js σ Q:=by
 refine zqt (len:=t.cps.size) (x:=λi=>.str ⟨#[t.cps.getD i 0]⟩) Pv (λi ys H _ h=>h) (λys H _=>rfl) (λi ys H v H' _ hlt y=>?_) h0 hz (λi ys H hlt p=>?_) hd
 ·obtain⟨e,c,hc,ev⟩:=y;refine⟨e,?_⟩;rw[ev,ygh,hc];rfl
 ·have hc:t.cps[i]?=some (t.cps.getD i 0):=by
   rw[ygh,ynb hlt];rfl
  exact hs i _ ys H hc p
theorem zyc {K:yca}{a:Addr}{xs:List V}{H1:Hp}{g:TG}{tt:TT}{te:TE}{n:Nat}{js:List Nat}{σ:St}{Q:VK}(Pv:Nat->List V->Hp->Prop)(hl:∀i ys H,Pv i ys H->SqL K H a xs)(h0:Pv 0 [] H1)(hz:∀i ys H,Pv i ys H->ys.length≤yta)
  (hs:∀i x ys H,xs[i]?=some x->Pv i ys H->g x (zlf n js σ) H fun σ2 H2=>σ2.drop n=(zlf n js σ).drop n∧tt σ2 H2 λb H3=>if b=true then te σ2 H3 λy H4=>Pv (i+1) (ys++[y]) H4 else Pv (i+1) ys H3)
  (hd:∀ys H,Pv xs.length ys H->∀p,H p=none->Q (.ref p) (upd H p (.lst ys))):zrz (Itl K a) H1 g tt te n js σ Q:=by
 refine zqt (len:=xs.length) (x:=λi=>xs.getD i .non) Pv (λi ys H p hlt=>⟨xs,xs[i],hl i ys H p,by simp[hlt]⟩) (λys H p=>⟨xs,hl _ ys H p,yha _⟩) (λi ys H v H' p hlt y=>?_) h0 hz (λi ys H hlt p=>?_) hd
 ·obtain⟨e,y⟩:=y;refine⟨e,?_⟩;rw[yhb,y xs (hl i ys H p)];rfl
 ·refine hs i _ ys H ?_ p;rw[yhb,yoa hlt];rfl
theorem zwsb {K:yca}{a:Addr}{xs:List V}{H1:Hp}{g:TG}{tt:TT}{te:TE}{n:Nat}{js:List Nat}{σ:St}{Q:VK}(Pv:Nat->List V->Hp->Prop)(hl:∀i ys H,Pv i ys H->SqT K H a xs)(h0:Pv 0 [] H1)(hz:∀i ys H,Pv i ys H->ys.length≤yta)
  (hs:∀i x ys H,xs[i]?=some x->Pv i ys H->g x (zlf n js σ) H fun σ2 H2=>σ2.drop n=(zlf n js σ).drop n∧tt σ2 H2 λb H3=>if b=true then te σ2 H3 λy H4=>Pv (i+1) (ys++[y]) H4 else Pv (i+1) ys H3)
  (hd:∀ys H,Pv xs.length ys H->∀p,H p=none->Q (.ref p) (upd H p (.lst ys))):zrz (Itt K a) H1 g tt te n js σ Q:=by
 refine zqt (len:=xs.length) (x:=λi=>xs.getD i .non) Pv (λi ys H p hlt=>⟨xs,xs[i],hl i ys H p,by simp[hlt]⟩) (λys H p=>⟨xs,hl _ ys H p,yha _⟩) (λi ys H v H' p hlt y=>?_) h0 hz (λi ys H hlt p=>?_) hd
 ·obtain⟨e,y⟩:=y;refine⟨e,?_⟩;rw[yhb,y xs (hl i ys H p)];rfl
 ·refine hs i _ ys H ?_ p;rw[yhb,yoa hlt];rfl
theorem zlw {lo:Int}{len:Nat}{H1:Hp}{g:TG}{tt:TT}{te:TE}{n:Nat}{js:List Nat}{σ:St}{Q:VK}(Pv:Nat->List V->Hp->Prop)(h0:Pv 0 [] H1)(hz:∀i ys H,Pv i ys H->ys.length≤yta)
  (hs:∀i ys H,i<len->Pv i ys H->g (.int (lo+i)) (zlf n js σ) H fun σ2 H2=>σ2.drop n=(zlf n js σ).drop n∧tt σ2 H2 λb H3=>if b=true then te σ2 H3 λy H4=>Pv (i+1) (ys++[y]) H4 else Pv (i+1) ys H3)
  (hd:∀ys H,Pv len ys H->∀p,H p=none->Q (.ref p) (upd H p (.lst ys))):zrz (Itr lo len) H1 g tt te n js σ Q :=
 zqt (len:=len) (x:=λi=>.int (lo+i)) Pv (λi ys H _ h=>h) (λys H _=>yha _) (λi ys H v H' _ hlt y=>y) h0 hz (λi ys H hlt p=>hs i ys H hlt p) hd
section
variable {X:Cx}
def rSlS:V->Option Int->Option Int->Hp->VK->Prop:=λx lo hi H Q=>∃t,x = .str t∧t.length≤yta∧∀t',t'=yeq t lo hi->t'.length≤t.length->Q (.str t') H
theorem zqyb:SlR X rSlS:=by
 intro pins s σ H x v vl vu lo hi sl Q I rx hs pl pu h;obtain⟨t,rfl,hz,q⟩:=h;obtain⟨tk,rfl⟩:=rx;have fin:∀{l u:Option (Int×Tok)},l.map (·.1)=lo->u.map (·.1)=hi->(∀k t',EP X pins σ Q (.str (yeq t (l.map (·.1)) (u.map (·.1))) t') { s with toks:=k }):=λ{l u} e1 e2 k t' =>
  ⟨.str _,H,I.tok k,⟨t',rfl⟩,by rw[e1,e2];exact q _ rfl (PyProof.Txt.length_slice_le t _ _)⟩
 refine⟨"str",_,F.slot_str_getitem.lookup,ywl _ _ _,?_⟩;cases pl with
 | none =>
  cases pu with
  | none=>exact yng (l:=none) (u:=none) (st:=none) hs rfl (ylk ⟨yua (yxn t _ _) hz,λt' k=>fin (l:=none) (u:=none) rfl rfl k t'⟩)
  | int j tj=>exact yng (l:=none) (u:=some (j,tj)) (st:=none) hs rfl (ylk ⟨yua (yxn t _ _) hz,λt' k=>fin (l:=none) (u:=some (j,tj)) rfl rfl k t'⟩)
 | int i ti =>
  cases pu with
  | none=>exact yng (l:=some (i,ti)) (u:=none) (st:=none) hs rfl (ylk ⟨yua (yxn t _ _) hz,λt' k=>fin (l:=some (i,ti)) (u:=none) rfl rfl k t'⟩)
  | int j tj=>exact yng (l:=some (i,ti)) (u:=some (j,tj)) (st:=none) hs rfl (ylk ⟨yua (yxn t _ _) hz,λt' k=>fin (l:=some (i,ti)) (u:=some (j,tj)) rfl rfl k t'⟩)
theorem zskb:∀{bs:List Bool} {us:List Value},Vals (bs.map V.bl) us->us=bs.map Value.bool
 | [],us,r=>by rw[yqj] at r;cases r;rfl
 | b::bs,us,r=>by
  rw[ybb] at r;cases r with
  | cons r1 r2=>rw[ybb,zskb r2,show _=Value.bool b from r1]
theorem zbz (hc:X.calm=true):zui X (.builtin "all") (λxs H Q=>Ex2 λ(a:Addr) (bs:List Bool)=>xs=[.ref a]∧SqL X.K H a (bs.map V.bl)∧Q (.bl (bs.all id)) H):=by
 intro pins s σ H xs us Q I r h;obtain⟨a,bs,rfl,hq,q⟩:=h;obtain⟨u,rfl,ru⟩:=vals1 r;cases ru;obtain⟨its,rv,p,hz⟩:=I.list hq;have e:=zskb rv;have hlt:a<s.heap.objs.size:=by obtain⟨o,n,e,_⟩:=p;exact ysa e
 refine call_all_walk (ymh p.isList ?_);refine⟨s.heap.objs.size,_,_,_,_,_,λi=>bs.getD i true,rfl,ybr (show X.A.in1.handled=none from I.ok.hd hc) s.heap.objs.size a (ydb hlt) its.toArray,⟨⟨_,yna _ rfl,rfl,rfl⟩,p.isList.push _⟩,?_,?_⟩
 ·intro i v s' Q' E' hP hQ;have hP':its[i]?=some v:=by simpa using hP
  rw[e,yya] at hP';cases z:bs[i]? with
  | none=>rw[z] at hP';cases hP'
  | some b =>
   rw[z] at hP';have ev:Value.bool b=v:=yec hP';subst ev;have hQ':Q' (bs.getD i true) s':=hQ;rw[yhb,z] at hQ';exact yuc hQ'
 ·intro h' tk kk;refine⟨.bl _,H,I.kept (t':=tk) λb o e=>kk b o (λz=>?_) (yba _ e),?_,q⟩
  ·have z':b=s.heap.objs.size:=by simpa using z
   exact absurd (ysa e) (by rw[z'];exact yud _)
  ·show Value.bool _=Value.bool _
   congr 1
   rw[yqa,e,yea];have go:∀l:List Bool,(ywe l.length).all (λi=>l.getD i true)=l.all id:=λl=>by
    have q:=range_getD l true;have e2:((ywe l.length).map λj=>l.getD j true).all id=(ywe l.length).all λi=>l.getD i true:=by
     rw[List.all_map];rfl
    rw[← e2,q]
   exact go bs
theorem zxm:zui X (.builtin "isinstance") (λxs H Q=>Ex4 λx c t b=>xs=[x,c]∧TyOf X.K H x t∧((∃n,c = .ty n∧yoc X.K t (.type n)=some b)∨(∃a,c = .ref a∧yoc X.K t (.ref a)=some b))∧Q (.bl b) H):=by
 intro pins s σ H xs us Q I r h;obtain⟨x,c,t,b,rfl,ty,hc,q⟩:=h;obtain⟨u,u',rfl,r1,r2⟩:=vals2 r
 rcases hc with⟨n,rfl,e⟩|⟨a,rfl,e⟩
 ·cases (show u'=Value.type n from r2);exact zdcb I r1 ty e λtk=>⟨.bl b,H,I.tok tk,rfl,q⟩
 ·cases (show u'=Value.ref a from r2);exact zdcb I r1 ty e λtk=>⟨.bl b,H,I.tok tk,rfl,q⟩
mutual
inductive DV (K:yca)(H:Hp):V->PyData->Prop where
 | non:DV K H .non .none
 | bl (b:Bool):DV K H (.bl b) (.bool b)
 | int (i:Int):DV K H (.int i) (.int i)
 | str (x:Str):DV K H (.str x) (.str x)
 | lst {a:Addr} {xs:List V} {ds:List PyData}:SqL K H a xs->DVs K H xs ds->DV K H (.ref a) (.list ds)
 | tup {a:Addr} {xs:List V} {ds:List PyData}:SqT K H a xs->DVs K H xs ds->DV K H (.ref a) (.tuple ds)
inductive DVs (K:yca)(H:Hp):List V->List PyData->Prop where
 | nil:DVs K H [] []
 | cons {x:V} {d:PyData} {xs:List V} {ds:List PyData}:DV K H x d->DVs K H xs ds->DVs K H (x::xs) (d::ds)
end
mutual
theorem DV.reads {pins:List (Addr×Obj)}{σ:St}{H:Hp}{s:Shared}(I:Inv X pins σ H s):∀{x:V} {d:PyData} {u:Value},DV X.K H x d->RelV x u->∃as,Reads s.heap u d as
 | _,_,_,.non,r=>by cases r;exact⟨_,.none⟩
 | _,_,_,.bl b,r=>by cases r;exact⟨_,.bool b⟩
 | _,_,_,.int i,r=>by obtain⟨t,rfl⟩:=r;exact⟨_,.int i t⟩
 | _,_,_,.str x,r=>by obtain⟨t,rfl⟩:=r;exact⟨_,.str x t⟩
 | _,_,_,.lst hq hs,r=>by
  cases r;obtain⟨its,rv,⟨o,n,e,c,_,d⟩,_⟩:=I.list hq;obtain⟨as,q⟩:=hs.reads I rv;exact⟨_,.list e c d (by simpa using q)⟩
 | _,_,_,.tup hq hs,r=>by
  cases r;obtain⟨its,rv,⟨o,e,c,n,d⟩,_⟩:=I.tuple hq;obtain⟨as,q⟩:=hs.reads I rv;exact⟨_,.tuple e c d (by simpa using q)⟩
theorem DVs.reads {pins:List (Addr×Obj)}{σ:St}{H:Hp}{s:Shared}(I:Inv X pins σ H s):∀{xs:List V} {ds:List PyData} {us:List Value},DVs X.K H xs ds->Vals xs us->∃as,ReadsAll s.heap us ds as
 | _,_,_,.nil,.nil=>⟨_,.nil⟩
 | _,_,_,.cons h hs,.cons r rs=>by
  obtain⟨as,q⟩:=h.reads I r;obtain⟨bs,p⟩:=hs.reads I rs;exact⟨_,.cons q p⟩
end
theorem zmzb (hu:X.A.units+64<cLine):OpR X (yhd .Eq) (λx y H Q=>Ex2 λd e=>DV X.K H x d∧DV X.K H y e∧yad d=true∧yad e=true∧Q (.bl (yrg d e)) H):=by
 intro pins s σ H x y v u Q I rx ry h;obtain⟨d,e,hd,he,s1,s2,q⟩:=h;obtain⟨as,r1⟩:=hd.reads I rx;obtain⟨bs,r2⟩:=he.reads I ry;exact eq_dataH r1 r2 s1 s2 hu ⟨.bl _,H,I,rfl,q⟩
theorem zpmb (hu:X.A.units+64<cLine):OpR X (yhd .NotEq) (λx y H Q=>Ex2 λd e=>DV X.K H x d∧DV X.K H y e∧yad d=true∧yad e=true∧Q (.bl (!PyData.eqv d e)) H):=by
 intro pins s σ H x y v u Q I rx ry h;obtain⟨d,e,hd,he,s1,s2,q⟩:=h;obtain⟨as,r1⟩:=hd.reads I rx;obtain⟨bs,r2⟩:=he.reads I ry;exact ne_dataH r1 r2 s1 s2 hu ⟨.bl _,H,I,rfl,q⟩
end
end L2
namespace L2
open PySem PyProof.Rows
set_option genInjectivity false in
structure Gf (K:yca)(mg:Str->Option Value)(x q:Str)(st:Stmt) where
 f:Addr
 d:yef
 F:Fun K x q st f d
 m:mg x=some (.ref f)
set_option genInjectivity false in
structure Mf (K:yca)(C:Addr)(x q:Str)(st:Stmt) where
 f:Addr
 d:yef
 F:Fun K x q st f d
 M:Meth K C x f
set_option genInjectivity false in
structure If (K:yca)(C:Addr)(x q:Str)(st:Stmt) where
 f:Addr
 d:yef
 F:Fun K x q st f d
 M:Mk K C f
section
variable {K:yca}{mg:Str->Option Value}{h:Heap}{C f:Addr}{x q:Str}{st:Stmt}{oc:Value}{od an:Option Addr}{sl:Array (Option Value)}{kV dc pm cd ct:Value}
def gf_of (X:K.In h)(G:h.Ns yfb mg)(a:yob K yfb x=some (some (.ref f)))
  (l:K.lookup f=some ⟨oc,od,.func (ygg x q (zwm st) (zni st) (zga st) .none kV dc pm an cd ct),sl⟩) (c:yuh K cd q=true) (k:yte K (.ref f)=true):Gf K mg x q st :=
 ⟨f,_,zeob l c k,yrc X G a⟩
def mf_of (a:ymb K (.ref C) x=some (some (.ref f)))(i:yzk K (.ref f)=true)
  (l:K.lookup f=some ⟨oc,od,.func (ygg x q (zwm st) (zni st) (zga st) .none kV dc pm an cd ct),sl⟩) (c:yuh K cd q=true) (k:yte K (.ref f)=true):Mf K C x q st :=
 ⟨f,_,zeob l c k,⟨a,i,k⟩⟩
def if_of (a:ymb K (.ref C) "__init__" = some (some (.ref f)))(i:yzk K (.ref f)=true)
  (l:K.lookup f=some ⟨oc,od,.func (ygg x q (zwm st) (zni st) (zga st) .none kV dc pm an cd ct),sl⟩) (c:yuh K cd q=true) (k:yte K (.ref f)=true)
  (mk:yqn K C=true) (kc:yte K (.ref C)=true):If K C x q st :=
 ⟨f,_,zeob l c k,⟨mk,a,i,kc⟩⟩
theorem zeac {fa:Addr}(g:Gf K mg x q st)(e:mg x=some (.ref fa)):g.f=fa:=by
 have z:=g.m.symm.trans e;injection z with z
 injection z
end
section
variable {P:yqb}{w:World}{K:yca}{mg:Str->Option Value}{base:Heap}{C:Addr}{x q:Str}{st:Stmt}{N ps:List Str}{k:Nat}{sp:Sp}
theorem Gf.ok (g:Gf K mg x q st)(S:zqa N ps (zga st))
  (hb:∀(f:Addr) (cdv:Value) (A:Around) (outer:List Env) (s:Shared) (H:Hp) (vs:List V) (Q:VK) (E:XK),Room k (A.deeper (envOfC q (zga st) s.heap.objs.size f cdv))->sp vs H Q E->let X:=(cxOf CX0 P w K mg base N q (zga st) f cdv A outer s H E).nox;∃t,PSs X (zni st) t∧t { nx:=λ_ H'=>Q .non H',rt:=Q } (start N vs) H)
  (len:∀vs H Q E,sp vs H Q E->vs.length=ps.length:=by intro _ _ _ _ h;cases h;rename_i h;rw[h.1];rfl):FnOk P w K mg base CX0 (k+1) g.f g.d ps sp:=g.F.ok S len (hb g.f)
theorem Mf.ok (g:Mf K C x q st)(S:zqa N ps (zga st))
  (hb:∀(f:Addr) (cdv:Value) (A:Around) (outer:List Env) (s:Shared) (H:Hp) (vs:List V) (Q:VK) (E:XK),Room k (A.deeper (envOfC q (zga st) s.heap.objs.size f cdv))->sp vs H Q E->let X:=(cxOf CX0 P w K mg base N q (zga st) f cdv A outer s H E).nox;∃t,PSs X (zni st) t∧t { nx:=λ_ H'=>Q .non H',rt:=Q } (start N vs) H)
  (len:∀vs H Q E,sp vs H Q E->vs.length=ps.length:=by intro _ _ _ _ h;cases h;rename_i h;rw[h.1];rfl):FnOk P w K mg base CX0 (k+1) g.f g.d ps sp:=g.F.ok S len (hb g.f)
theorem If.ok (g:If K C x q st)(S:zqa N ps (zga st))
  (hb:∀(f:Addr) (cdv:Value) (A:Around) (outer:List Env) (s:Shared) (H:Hp) (vs:List V) (Q:VK) (E:XK),Room k (A.deeper (envOfC q (zga st) s.heap.objs.size f cdv))->sp vs H Q E->let X:=(cxOf CX0 P w K mg base N q (zga st) f cdv A outer s H E).nox;∃t,PSs X (zni st) t∧t { nx:=λ_ H'=>Q .non H',rt:=Q } (start N vs) H)
  (len:∀vs H Q E,sp vs H Q E->vs.length=ps.length:=by intro _ _ _ _ h;cases h;rename_i h;rw[h.1];rfl):FnOk P w K mg base CX0 (k+1) g.f g.d ps sp:=g.F.ok S len (hb g.f)
theorem FnOk.up {f:Addr}{d:yef}{m:Nat}(h:FnOk P w K mg base CX0 k f d ps sp)(le:k≤m:=by first|decide|omega):FnOk P w K mg base CX0 m f d ps sp:=h.mono le
end
theorem sz0:0≤yta:=by decide
theorem sz1:1≤yta:=by decide
theorem sz2:2≤yta:=by decide
theorem sz3:3≤yta:=by decide
theorem sz4:4≤yta:=by decide
theorem sz5:5≤yta:=by decide
theorem sz8:8≤yta:=by decide
def scB (N P:List Str)(sc:Scope):Bool :=
 decide (sc.kind = .function)&&(!sc.isCoroutine&&(!sc.isGenerator&&(decide N.Nodup&&(decide (N.take P.length=P) &&
  (P.all (λx=>decide (sc.names.lookup x=some .local∨sc.names.lookup x=some .cell))&&sc.names.all λy=>decide (y.2 ≠ .free))))))
theorem scOf {N P:List Str}{sc:Scope}(h:scB N P sc=true):zqa N P sc:=by
 unfold scB at h;simp only[ysc,Bool.not_eq_true',decide_eq_true_eq,yjf] at h;obtain⟨a,b,c,d,e,f,g⟩:=h;exact⟨a,b,c,d,e,f,g⟩
end L2
namespace L2
open PySem PySem.Spec PyProof.Rows
section
variable {X:Cx}
theorem zcl:∀{ys:List Str} {us:List Value},Vals (ys.map V.str) us->yil us ys
 | [],us,r=>by rw[yqj] at r;cases r;exact .nil
 | y::ys,us,r=>by
  rw[ybb] at r;cases r with
  | cons r1 r2 =>
   obtain⟨t,e⟩:=r1;subst e;exact .cons y t (zcl r2)
theorem zdab:∀l:List (Str×Tok),Vals ((l.map (·.1)).map V.str) (strValues l)
 | []=>.nil
 | (x,t)::r=>.cons ⟨t,rfl⟩ (zdab r)
theorem zzmb:MtR X "str.join" (λx xs H Q=>Ex3 λsep a ys=>x = .str sep∧xs=[.ref a]∧SqL X.K H a (ys.map V.str)∧(ys.map (·.length)).sum+ys.length*sep.length≤16777216∧Q (.str (ywa sep ys)) H):=by
 intro pins s σ H x xs v us Q I rx rs h;obtain⟨sep,a,ys,rfl,rfl,hq,hz,q⟩:=h;obtain⟨t,rfl⟩:=rx;obtain⟨u,rfl,ru⟩:=vals1 rs;cases ru;obtain⟨its,rv,p,_⟩:=I.list hq;refine join_list (items:=its.toArray) (ys:=ys) p.isList (by simpa using zcl rv) hz λt' k=>⟨.str _,H,I.tok k,⟨t',rfl⟩,?_⟩;have e:Txt.join sep ys=ywa sep ys:=by first|rfl|exact StrLaws.glued_eq_join sep ys
 rw[e];exact q
theorem zey:MtR X "str.split" (λx xs H Q=>Ex2 λt y=>x = .str t∧xs=[.str y]∧(y.length==0)=false∧t.length+2≤yta∧∀l,H l=none->Q (.ref l) (upd H l (.lst ((ycf t y).map V.str)))):=by
 intro pins s σ H x xs v us Q I rx rs h;obtain⟨x,y,rfl,rfl,hy,hsz,q⟩:=h;obtain⟨t,rfl⟩:=rx;obtain⟨u,rfl,ru⟩:=vals1 rs;obtain⟨tu,rfl⟩:=ru;have hn:(yag x (ybd x y 0 x.length (x.length+1)) y.length).length≤yta:=by
  have e1:=StrLaws.occ_length_le x y 0 x.length (x.length+1);rw[length_partsBetween];omega
 have fin:∀(l:List (Str×Tok)) (k:Nat),l.map (·.1)=ycf x y->l.length≤yta->EP X pins σ Q (.ref s.heap.objs.size) { s with heap:=s.heap.push { cls:=.type "list",data:=.seq (strValues l).toArray },toks:=k }:=λl k e hl=>by
  refine⟨.ref s.heap.objs.size,upd H s.heap.objs.size (.lst ((ycf x y).map V.str)),I.laid (t':=k) (λb o e=>yba _ e) (yha _) ⟨?_,strValues l,_,?_,yna _ rfl⟩,rfl,q _ (I.hok.fresh (yha _))⟩
  ·rw[← e,yea,yea];exact hl
  ·rw[← e];exact zdab l
 cases h1:(decide (x.length<y.length)||decide (yfi x<yfi y))
 ·cases hf:(ybd x y 0 x.length (x.length+1)).isEmpty
  ·refine ymi ybn (ywl _ _ _) yzl (ydl _ _) (meets_str_split_sep x y t tu h1 hy hf (by omega) hn) ?_;show wants _ _ _ { s with toks:=_,heap:=s.heap.push { cls:=.type "list",data:=.seq (strsFrom s.toks (yag x (ybd x y 0 x.length (x.length+1)) y.length)).toArray } }
   rw[strsFrom_eq];refine fin (numbered s.toks _) _ ((numbered_texts _ _).trans ((if_neg (ne_true_of_eq_false h1)).trans (if_neg (ne_true_of_eq_false hf))).symm) ?_;have e:=congrArg ylg (numbered_texts s.toks (yag x (ybd x y 0 x.length (x.length+1)) y.length));rw[yea] at e;omega
  ·exact ymi ybn (ywl _ _ _) yzl (ydl _ _) (meets_str_split_not_found x y t tu h1 hy hf)
    (fin [(x,t)] s.toks ((if_neg (ne_true_of_eq_false h1)).trans (if_pos hf)).symm (by show 1≤yta;decide))
 ·exact ymi ybn (ywl _ _ _) yzl (ydl _ _) (meets_str_split_cannot_occur x y t tu h1)
   (fin [(x,t)] s.toks (if_pos h1).symm (by show 1≤yta;decide))
theorem zqcb:zui X (.type "str") (λxs H Q=>∃x,xs=[.str x]∧Q (.str x) H):=by
 intro pins s σ H xs us Q I r h;obtain⟨x,rfl,q⟩:=h;obtain⟨u,rfl,t,rfl⟩:=vals1 r;exact PySem.P.str_of_str ⟨.str x,H,I,⟨t,rfl⟩,q⟩
theorem zaz:zui X (.type "int") (λxs H Q=>Ex2 λx n=>xs=[.str x]∧PySem.intText? x=some n∧x.length≤640∧Q (.int n) H):=by
 intro pins s σ H xs us Q I r h;obtain⟨x,n,rfl,hn,hl,q⟩:=h;obtain⟨u,rfl,t,rfl⟩:=vals1 r;exact PySem.W.KIN.call_text hn hl ⟨.int n,H,I.tok _,⟨_,rfl⟩,q⟩
theorem zvs {i:Nat}{x:Str}{elt iter tg:Expr}{ifs:List Expr}{sc:Scope}{pos spos pos':Pos}{own cap:List Str}{js:List Nat}{wi:TI}{g:TG}{tt:TT}{te:TE}(hN:X.N.Nodup)(hix:X.N[i]?=some x)(hx:Loc X.env.scope x)
  (hc:X.calm=true) (S:zrb X sc) (cp:Caps X sc cap js) (hi:PI X tg iter wi)
  (hg:∀fp s H C,PG (blk X (own++cap) sc fp s H C) tg g) (ht:∀fp s H C,PTs (blk X (own++cap) sc fp s H C) ifs tt) (he:∀fp s H C,PE (blk X (own++cap) sc fp s H C) elt te)
  (hsw:yup (.ListComp elt [⟨tg,iter,ifs,0⟩] sc pos) (some (.Name x pos')) spos.line X.env=pure true:=by rfl) (hs:∀x,yrl iter X.env x=pure x:=by intro _;rfl)
  (hf:X.fn x=true∨X.env.scope.names.lookup x=some .local:=by first|exact .inl rfl|exact .inr rfl|assumption) :
  PS X (.Assign [.Name x pos'] (.ListComp elt [⟨tg,iter,ifs,0⟩] sc pos) spos) (tAsg (zgyb wi g tt te own.length js) (zdob i)):=by
 intro pins s σ H D I h;rw[exec_Assign_Name_used _ _ _ _ hsw];refine yaa (yvp (yaa ?_));show wpAny _ X.A (do let _ ← comprehension (.ListComp elt [⟨tg,iter,ifs,0⟩] sc pos) sc X.env _ (newList []) false (eval iter X.env) (some (assign (.Name x pos') X.env))) _ _ s
 refine yaa (ykd (yyl (use:=some (assign (.Name x pos') X.env)) (Q:=λ_ s'=>SP X pins D .next s') rfl hs (znw λy hy hf=>I.ok.has y.1 (S.free y hy hf)) S.kind S.names
  (thn (hi pins s σ H _ I h) λv s1 h1=>thn h1 λitv s2 h2=>?_)) (λ_ s' hq=>yda (yda hq)) λ_ _ e=>e)
 obtain⟨it,fp,tn,J,H2,e,I2,T,st2,f2,W,⟨m0,w0⟩,turn⟩:=h2;subst e;refine zjpb (RR:=λacc C=>compPost (model X.prog X.w) X.A X.xe (some (assign (.Name x pos') X.env)) (λ_ s'=>SP X pins D .next s') acc C) (Qf:=λys H=>∀p,H p=none->D.nx (σ.set i (some (.ref p))) (upd H p (.lst ys))) hc S cp hg ht he I2 T st2 f2 w0 turn ?_;intro DD C H4 s4 pn ys its nn hD hC hDC I4 n4 o4 hz rv q;have I5:Inv X pins σ (upd H4 DD (.lst ys)) s4:=zkpb (h':=s4.heap) I2 I4 f2 hC hD hDC n4 o4 hz rv (ycr ..);obtain⟨m,hn,_⟩:=I4.loc;have hn':s4.heap.Ns C m:=hn;show wpAny _ X.A (assign (.Name x pos') X.env (.ref DD)) _ _ s4
 refine wpAny_assign_Name (zeab I5 hN hix hx (v:=.ref DD) (u:=.ref DD) rfl (λs6 I6 ⟨a,hsb,ha⟩=>?_) hf);have lt2:X.env.locals<s2.heap.objs.size:=I2.lt;have cellC:∀y c,X.env.cells.lookup y=some c->c≠C:=λy c e=>by
  obtain⟨v,z⟩:=I2.cell y c e;exact ydb (yxa z.lt hC)
 have aC:C≠a:=by
  rcases ha with rfl|ha
  ·exact yfg (yxa lt2 hC)
  ·exact yge (cellC _ _ ha)
 refine⟨m,hn'.sameBut hsb aC,λh' hs'=>?_⟩;have nC:(upd H4 DD (.lst ys)) C=none:=by rw[zta (yge hDC)];exact I4.free
 have I7:=I6.turned (h':=h') (t':=s6.toks) (it:=C) (λb o hb e=>(hs'.2 b hb).trans e) nC (yfg (yxa lt2 hC)) (.inr (yua I2.sz hC)) cellC (λp hp=>by
  exact ydb (yxa (ysa (I2.pin p hp).1) hC))
 exact⟨_,_,I7,q DD n4⟩
def Itv (K:yca)(a:Addr)(xs:List V):It :=
 ⟨λi H=>SqL K H a xs∧i<xs.length,λi H x H'=>H'=H∧xs[xs.length-1-i]?=some x,λi H=>SqL K H a xs∧i=xs.length⟩
def iRev (K:yca)(ta:TA):TI:=fun σ H R=>ta σ H λvs H1=>Ex2 λa xs=>vs=[.ref a]∧SqL K H1 a xs∧R (Itv K a xs) H1
theorem zgqb {P:yqb}{w:World}{K:yca}{tg:Expr}(a it:Addr)(xs:List V):Turn P w K tg (Itv K a xs) [it] it (λi h=>i≤xs.length∧h.IsRevIter it a ((xs.length:Int)-1-(i:Int))) where
 mem:=by simp
 obj:=λi h st b hb=>by
  have e:b=it:=by simpa using hb
  subst e;obtain⟨_,o,e,c,d⟩:=st;exact⟨o,e,λv z=>by rw[d] at z;cases z⟩
 keep:=λi h h' st k=>⟨st.1,st.2.at λo e=>k it (by simp) o e⟩
 item:=by
  intro X hP hw hK hc i pins s σ H E I hf st hg;subst hP hw hK;obtain⟨hq,hlt⟩:=hg;obtain⟨f0,f1,f2,f3,f4,f5⟩:=hf it (by simp);obtain⟨its,rv,p,hz⟩:=I.list hq;have hl:=rv.length;have hx:xs[xs.length-1-i]?=some (xs[xs.length-1-i]'(by omega)):=yoa (by omega);obtain⟨u,hu,ru⟩:=rv.get hx;have hit:=st.2;rw[show (xs.length:Int)-1-(i:Int)=((xs.length-1-i:Nat):Int) by omega] at hit;refine wpAny_pyNext_rev_item hit p.isList (x:=u) (by simpa using hu) λh' hit' hs'=>?_;rw[show ((xs.length-1-i:Nat):Int)-1=(xs.length:Int)-1-((i+1:Nat):Int) by omega] at hit';have I1:Inv X pins σ H { s with heap:=h' }:=I.turned (t':=s.toks) (λb o hb e=>(hs'.2 b hb).trans e) f0 f1 f3 f4 f5;obtain⟨o,e,c',d⟩:=id hit';exact⟨u,rfl,zujb (s:={ s with heap:=h' }) e c' d (by decide) ⟨_,H,I1,ru,⟨rfl,hx⟩,⟨hlt,hit'⟩,λb hb=>(hf b hb).1⟩⟩
 done:=by
  intro X hP hw hK hc i pins s σ H E I hf st hg;subst hP hw hK;obtain⟨hq,e⟩:=hg;obtain⟨f0,f1,f2,f3,f4,f5⟩:=hf it (by simp);have hit:=st.2;rw[show (xs.length:Int)-1-(i:Int) = -1 by omega] at hit;exact wpAny_pyNext_rev_end (I.ok.hd hc) hit λh' he'=>⟨rfl,I.turned (t':=s.toks) (λb o hb e=>he' b o hb e) f0 f1 f3 f4 f5⟩
 self:=λ_ _ _ _ _ st h=>wpAny_pyIter_revIter st.2 h
theorem boot_reversed:yzg "reversed" = some (.type "reversed"):=by decide +kernel
theorem zieb {tg a:Expr}{ta:TA}{p pos:Pos}(hg:Gl X "reversed")(hm:X.mg "reversed" = none)(ha:PA X [a] ta)(hs:ywc [a] X.env=[(false,eval a X.env)]:=by rfl):PI X tg (.Call (.Name "reversed" p) [a] [] pos) (iRev X.K ta):=by
 intro pins s σ H R I h;refine Call_ (zcw I hg hm boot_reversed (ybf (thn (ha pos pins s σ H _ I h) λus s1 ⟨vs,H1,I1,r1,q1⟩=>?_) hs rfl));obtain⟨b,xs,e,hq,q⟩:=q1;subst e;obtain⟨u,rfl,ru⟩:=vals1 r1;cases ru;obtain⟨its,rv,pl,hz⟩:=I1.list hq;have hl:=rv.length;refine call_reversed_list pl.isList ?_;have hit:(s1.heap.push (revObj b ((its.toArray.size:Int)-1))).IsRevIter s1.heap.objs.size b ((xs.length:Int)-1-((0:Nat):Int)):=by
  refine⟨_,yna _ rfl,rfl,?_⟩;show Data.fields #[.ref b,rawInt _]=Data.fields #[.ref b,rawInt _]
  rw[yqa,← hl,show (xs.length:Int)-1-((0:Nat):Int)=(xs.length:Int)-1 by omega]
 refine wpAny_pyIter_revIter (s:={ s1 with heap:=s1.heap.push (revObj b ((its.toArray.size:Int)-1)) }) hit ?_;refine⟨s1.heap.objs.size,[s1.heap.objs.size],_,_,H1,rfl,I1.kept (t':=s1.toks) λb o e=>yba _ e,zgqb b _ xs,⟨ygb _,hit⟩,λc hc=>?_,q⟩;have e:c=s1.heap.objs.size:=by simpa using hc
 subst e;exact I1.fpOk (yha _) (I1.hok.fresh (yha _))
end
theorem zcxb {K:yca}{a:Addr}{xs:List V}{g:TG}{tb:TS}{D:Ends}{σ:St}{H:Hp}(Pv:Nat->St->Hp->Prop)(h0:Pv 0 σ H)(hl:∀i σ H,i≤xs.length->Pv i σ H->SqL K H a xs)
  (hs:∀i x σ H,i<xs.length->xs[xs.length-1-i]?=some x->Pv i σ H->g x σ H fun σ2 H2=>tb { D with nx:=Pv (i+1),ct:=Pv (i+1),bk:=D.nx } σ2 H2) (hd:∀ σ H,Pv xs.length σ H->D.nx σ H) :
  ∃W:Nat->Nat->St->Hp->Prop,(∃m,W 0 m σ H)∧∀i m σ H,W i m σ H →
   ((Itv K a xs).stop i H∧D.nx σ H)∨((Itv K a xs).go i H∧∃N:St->Hp->Prop,(∀ σ' H',N σ' H'->∃m',m'<m∧W (i+1) m' σ' H')∧∀x H',(Itv K a xs).yld i H x H'->g x σ H' fun σ2 H2=>tb { D with nx:=N,ct:=N,bk:=D.nx } σ2 H2):=by
 refine⟨λi m σ H=>m=xs.length-i∧i≤xs.length∧Pv i σ H,⟨xs.length,by simp,ygb _,h0⟩,?_⟩;rintro i m σ H ⟨rfl,hi,p⟩;have q:=hl i σ H hi p
 by_cases hlt:i<xs.length
 ·refine .inr ⟨⟨q,hlt⟩,Pv (i+1),fun σ' H' p'=>⟨xs.length-(i+1),by omega,rfl,hlt,p'⟩,λx H' y=>?_⟩;obtain⟨e,y⟩:=y;subst e;exact hs i x σ _ hlt y p
 ·have e:i=xs.length:=by omega
  subst e;exact .inl ⟨⟨q,rfl⟩,hd σ H p⟩
end L2
namespace L2
open PySem PySem.Spec PyProof.Rows
section
variable {X:Cx}{a:Addr}{D:List (Str×yks)}
theorem zyab (T:yip X.base a D):OpR X (yhd .NotIn) (λx y H Q=>∃k,x = .str k∧y = .ref a∧Q (.bl (!KTD.inKeys k D)) H):=by
 intro pins s σ H x y v u Q I rx ry h;obtain⟨k,rfl,rfl,q⟩:=h;obtain⟨t,rfl⟩:=rx;cases ry;exact KTD.notin_text ⟨T,I.bk⟩ ⟨.bl _,H,I.tok _,rfl,q⟩
theorem zsnb (T:yip X.base a D):IxR X (λx y H Q=>Ex2 λk i=>x = .ref a∧y = .str k∧ymk k D=some (.flat (.int i))∧Q (.int i) H):=by
 intro value slice pins s σ H x y v u Q I rx ry h hs;obtain⟨k,i,rfl,rfl,hd,q⟩:=h;cases rx;obtain⟨tk,rfl⟩:=ry;have T':KTD.Here X.base s.heap a D:=⟨T,I.bk⟩;refine subscriptTail_builtin_flat T'.typeIs ybg.lookup ?_ hs;unfold yom
 try with_reducible refine ymc ?_
 refine yaa (yul T'.typeIs (by decide) ?_);refine yaa (yhc (name:=yue "__getitem__") T'.typeIs ybg
  (ylc ybg T'.typeIs entry_dict_getitem ?_ (args_dict_getitem _ _)))
 show wpAny _ _ (dictGet a (.str k tk) >>= _) _ _ s
 refine yaa (KTD.dictGet_text T' (λd v ha hv=>?_) λhn=>?_)
 ·rw[hd] at ha;cases ha;have hv':Reads s.heap v (.int i) []:=hv s.heap;obtain⟨t,rfl⟩:∃t,v=Value.int i t:=by
   cases hv' with
   | int _ t=>exact⟨t,rfl⟩
  have fin:EP X pins σ Q (.int i t) { s with toks:=s.toks+1 }:=⟨.int i,H,I.tok _,⟨t,rfl⟩,q⟩;exact yda ⟨Value.int i t,rfl,yda ⟨λb z=>(nomatch z),fin⟩⟩
 ·rw[hd] at hn;cases hn
end
end L2
namespace L2
open PySem PySem.Spec PyProof.Rows
section
variable {X:Cx}
@[irreducible] def rStrAny:List V->Hp->VK->Prop:=λxs H Q=>(∃x,xs=[.str x]∧Q (.str x) H)∨∃i:Int,xs=[.int i]∧i.natAbs.log2<1920∧Q (.str (toString i)) H
theorem zzq:zui X (.type "str") rStrAny:=by
 intro pins s σ H xs us Q I r h;unfold rStrAny at h
 rcases h with h|h
 ·exact zqcb pins s σ H xs us Q I r h
 ·exact zpl pins s σ H xs us Q I r h
end
end L2
namespace L2
open PySem PySem.Spec PyProof.Rows
section
variable (K:yca){X:Cx}{a b o e:Expr}{es:List Expr}{ta tb to te:TE}{t:TA}{name f:Str}{apos cpos pos:Pos}{T id:String}{r:V->List V->Hp->VK->Prop}
theorem zkhb (hK:X.K=K:=by rfl):IxR X (rIxL K):=hK▸zli
theorem zxc (hK:X.K=K:=by rfl):IxR X (rIxT K):=hK▸zxb
theorem zbv (hK:X.K=K:=by rfl):zui X (.type "tuple") (λxs H Q=>Ex2 λp ys=>xs=[.ref p]∧((SqL K H p ys∧∀l,H l=none->Q (.ref l) (upd H l (.tup ys)))∨(SqT K H p ys∧Q (.ref p) H))):=hK▸zpd
theorem zkmb (he:PE X e ta)(hb:yoh e f X.env (eval e X.env)=eval e X.env)(hK:X.K=K:=by rfl):PE X (.Attribute e f pos) (tFld K ta f):=hK▸zte he hb
theorem zomb (hu:X.A.units+64<cLine)(hK:X.K=K:=by rfl):OpR X (yhd .NotEq) (λx y H Q=>Ex2 λd e=>DV K H x d∧DV K H y e∧yad d=true∧yad e=true∧Q (.bl (!PyData.eqv d e)) H):=hK▸zpmb hu
end
end L2
namespace SSet
open PySem PySem.Spec PyProof.Rows
theorem zcac (t:ytf)(n:Nat):(t.orStandIn n).led=t.led∧(t.plain=false->(t.orStandIn n).plain=false):=by
 unfold ytf.orStandIn
 split
 ·exact⟨rfl,id⟩
 ·exact⟨rfl,λ_=>rfl⟩
theorem zswb (t:ytf)(es:Array (Int×Value))(h:Int)(x:Value):(layNew t es h x).2.1.led=t.led:=by
 unfold layNew
 split
 ·exact (zcac _ _).1
 ·rfl
theorem zfnb (t:ytf)(es:Array (Int×Value))(k:Nat):(yto t es k).2.1.led=t.led∧(t.plain=false->(yto t es k).2.1.plain=false):=by
 unfold yto
 split
 ·rename_i u order e;have q:u.led=t.led∧u.plain=t.plain:=by
   unfold ytf.relaid ytf.laid at e;simp only[bind,Option.bind,pure] at e
   split at e
   ·cases e
   ·injection e with e
    injection e with e _
    rw[← e];exact⟨rfl,rfl⟩
  dsimp only
  split
  ·exact⟨q.1,λz=>q.2.trans z⟩
  ·exact⟨rfl,λ_=>rfl⟩
 ·exact⟨rfl,λ_=>rfl⟩
def SS (prog:yqb)(w:World)(h:Heap)(a:Addr)(D:List Str)(b:Bool):Prop :=
 ∃o es ep t,h.get? a=some o∧o.ExactSet∧o.data = .set es ep t∧ydr (ycd prog w) es.toList∧(es.toList.map λe=>strOf e.2).Perm D∧es.size<yrj∧t.fits es.size=true∧t.led=b∧(es.size=0∨t.plain=false)
section
variable {prog:yqb}{w:World}{A:Around}{E:Value->Shared->Prop}{s:Shared}
theorem SS.keep {h h':Heap}{a:Addr}{D:List Str}{b:Bool}(x:SS prog w h a D b)(k:∀o,h.get? a=some o->h'.get? a=some o):SS prog w h' a D b:=by
 obtain⟨o,es,ep,t,ho,r⟩:=x;exact⟨o,es,ep,t,k _ ho,r⟩
theorem zfub {es:List (Int×Value)}(h:ydr (ycd prog w) es){e:Int×Value}(he:e∈es):∃x t,e.2 = .str x t∧e.1=(ycd prog w).hash x:=by
 obtain⟨⟨k,hk,hh⟩,_⟩:=h e he;obtain⟨t,et⟩:=ygk (x:=k) (v:=e.2) hk;exact⟨k,t,et,hh⟩
theorem zreb {es:List (Int×Value)}{D:List Str}{x:Str}(hel:ydr (ycd prog w) es)(hp:(es.map λe=>strOf e.2).Perm D) :
  x∈D↔∃e∈es,(ycd prog w).is x e.2=true:=by
 rw[← hp.mem_iff,yjb]
 constructor
 ·rintro⟨e,he,rfl⟩;obtain⟨y,t,e1,_⟩:=zfub hel he;refine⟨e,he,?_⟩;rw[e1];show yjg y (.str y t)=true
  simp[yjg]
 ·rintro⟨e,he,hi⟩;obtain⟨t,e1⟩:=ygk (x:=x) (v:=e.2) hi;exact⟨e,he,by rw[e1];rfl⟩
theorem ztgb {g:Bool->Sem Unit}(hg:∀(b:Bool) (s₁:Shared) (Q':Unit->Shared->Prop),Q' () s₁->wpAny (model prog w) A (g b) Q' E s₁)
  {a:Addr} {o:Obj} {es:Array (Int×Value)} {ep:Nat} {t:ytf} (ho:s.heap.get? a=some o) (hex:o.ExactSet) (hd:o.data = .set es ep t)
  {fs:Array (Int×Value)} {u:ytf} {D:List Str} {b:Bool} (hel:ydr (ycd prog w) fs.toList) (hp:(fs.toList.map λe=>strOf e.2).Perm D) (hb:fs.size<yrj) (hf:u.fits fs.size=true) (hl:u.led=b) (hpl:u.plain=false)
  {dm:Bool} {R:Option Bool->Shared->Prop} (h:∀h',yfd a s.heap h'->SS prog w h' a D b->R (some true) { s with heap:=h' }) :
  wpAny (model prog w) A (do
    storeSet a fs u
    if (!dm&&u.tooFull)=true then do
        g (yto u fs (ysg fs.size)).2.2
        storeSet a (yto u fs (ysg fs.size)).1 (yto u fs (ysg fs.size)).2.1
        pure (some true)
     else pure (some true)) R E s:=by
 have lim:∀{n:Nat},n<yrj->n≤yta:=λz=>yam z;refine yaa (wpAny_storeSet_of ho hd ?_ (lim hb));have k1:(s.heap.update a (ybm fs u)).get? a=some { o with data:=.set fs (ep+1) u }:=by
  have z:=yzc (ybm fs u) ho (by rw[yls fs u hd];rfl);rw[yls fs u hd] at z;exact z
 have b1:=ywd s.heap a (ybm fs u)
 split
 ·have p2:=relayAll_perm u fs (ysg fs.size);have f2:=relayAll_fits u fs (ysg fs.size);obtain⟨l2,q2⟩:=zfnb u fs (ysg fs.size);generalize yto u fs (ysg fs.size)=R2 at p2 f2 l2 q2 ⊢;obtain⟨fs2,u2,gv⟩:=R2;dsimp only at p2 f2 l2 q2 ⊢;have z2:fs2.size=fs.size:=by rw[← yib,p2.length_eq,yib]
  refine yaa (hg _ _ _ ?_);refine yaa (wpAny_storeSet_of k1 rfl ?_ (lim (by rw[z2];exact hb)));have k2:((s.heap.update a (ybm fs u)).update a (ybm fs2 u2)).get? a=some { o with data:=.set fs2 (ep+1+1) u2 }:=by
   have z:=yzc (ybm fs2 u2) k1 (by rw[yls fs2 u2 rfl];rfl);rw[yls fs2 u2 rfl] at z;exact z
  exact yda (h _ (b1.trans (ywd _ a _)) ⟨_,fs2,_,u2,k2,hex,rfl,ydr.perm hel p2,(p2.map _).trans hp,by rw[z2];exact hb,f2,l2.trans hl,.inr (q2 hpl)⟩)
 ·exact yda (h _ b1 ⟨_,fs,_,u,k1,hex,rfl,hel,hp,hb,hf,hl,.inr hpl⟩)
theorem add_str {a:Addr}{D:List Str}{b:Bool}{x:Str}{tk:Tok}{Q:Bool->Shared->Prop}(hS:SS prog w s.heap a D b)(hroom:D.length+1<yrj)
  (h:∀h' r,yfd a s.heap h'->SS prog w h' a (if x∈D then D else D++[x]) b->Q r { s with heap:=h' }) :
  wpAny (model prog w) A (setAddHashed a (.str x tk) ((ycd prog w).hash x)) Q E s:=by
 obtain⟨o,es,ep,t,ho,hex,hd,hel,hp,hb,hf,hl,hpl⟩:=hS;have key:(ycd prog w).is x (.str x tk)=true:=by
  show yjg x (.str x tk)=true
  simp[yjg]
 have hz:es.size=D.length:=by rw[← hp.length_eq,yea,yib]
 unfold setAddHashed setAddHashedIn;refine ymc (yaa (yxe ho hd hf ?_));dsimp only;rw[byScan_of (x:=.str x tk) rfl hb hel];simp only[↓reduceIte];unfold setAddByScan;refine yaa (yaa (yhj (yaa (wpAny_setScan_of key ho hd hf hel ?_))));have mi:=zreb (x:=x) hel hp;cases hr:List.findIdx? (λe=>(ycd prog w).is x e.2) es.toList with
 | some j =>
  obtain⟨hj,hpj,_⟩:=List.findIdx?_eq_some_iff_getElem.mp hr;have hin:x∈D:=mi.mpr ⟨_,ycn hj,hpj⟩;dsimp only;refine yda (yda ?_);have z:=h s.heap false (ycr a s.heap);rw[if_pos hin] at z;exact z ⟨o,es,ep,t,ho,hex,hd,hel,hp,hb,hf,hl,hpl⟩
 | none =>
  have hno:¬ x∈D:=λhin=>by
   obtain⟨e,he,hi⟩:=mi.mp hin;have z:=List.findIdx?_eq_none_iff.mp hr e he;rw[hi] at z;cases z
  simp only[if_neg hno] at h;dsimp only;have p1:=layNew_perm t es ((ycd prog w).hash x) (.str x tk);have f1:=layNew_fits t es ((ycd prog w).hash x) (.str x tk);have l1:=zswb t es ((ycd prog w).hash x) (.str x tk);generalize layNew t es ((ycd prog w).hash x) (.str x tk)=L at p1 f1 l1 ⊢;obtain⟨fs,u,dm,gave⟩:=L;dsimp only at p1 f1 l1 ⊢;rw[yer] at p1;have el1:ydr (ycd prog w) fs.toList:=(hel.push key rfl).perm p1;have pp:(fs.toList.map λe=>strOf e.2).Perm (D++[x]):=by
   refine (p1.map _).trans ?_;rw[ykb];exact yyn.append hp (yjl _)
  have z1:fs.size=D.length+1:=by rw[← yib,p1.length_eq,yja,yib,hz];rfl
  have give:∀(c:Bool) (s₁:Shared) (Q':Unit->Shared->Prop),Q' () s₁->wpAny (model prog w) A (match c with|true=>rule "set.scan.the-table-gave-way"|false=>pure ()) Q' E s₁:=λc s₁ Q' q=>by
   cases c
   ·exact yda q
   ·exact yhj q
  refine yaa (give _ _ _ ?_)
  split
  ·refine yaa ?_;rw[hashByValue_scannable 8 (x:=.str x tk) rfl];refine yda ?_;refine ztgb (b:=b) (D:=D++[x]) give ho hex hd el1 pp (by omega) (ytf.fits_plain_off f1) (l1.trans hl) rfl ?_;intro h' sb S';exact yda (h h' _ sb S')
  ·rename_i np;refine yaa (yda ?_);simp only[↓reduceIte];refine ztgb (b:=b) (D:=D++[x]) give ho hex hd el1 pp (by omega) f1 (l1.trans hl) (by simpa using np) ?_;intro h' sb S';exact yda (h h' _ sb S')
def dd (xs:List Str):List Str:=xs.foldl (λD x=>if x∈D then D else D++[x]) []
theorem znt (xs:List Str)(x:Str):dd (xs++[x])=if x∈dd xs then dd xs else dd xs++[x]:=by
 unfold dd;rw[yfr];rfl
theorem zvac:∀n (xs:List Str),(dd (xs.take n)).length≤n
 | 0,xs=>yha 0
 | n+1,xs=>by
  have ih:=zvac n xs;rw[yva];cases e:xs[n]? with
  | none =>
   rw[yfq,ylb];omega
  | some x =>
   rw[ypb,znt]
   split
   ·omega
   ·rw[yja,yub];omega
theorem zsgb {R:Result->Shared->Prop}{I S:Addr}{fp wr:List Addr}{n:Nat}{P:Nat->Value->Prop}{St:Nat->Heap->Prop}{b:Bool}(W:Walks prog w A.in1 I fp wr n P St)(hSf:S∉fp)(xs:List Str)
  (hval:∀i v,P i v->∃x t,xs[i]?=some x∧v = .str x t) (hn:n+1<yrj) :
  ∀(k i:Nat) (s:Shared),n-i=k->i≤n->St i s.heap->SS prog w s.heap S (dd (xs.take i)) b →
   (∀h' tk,SS prog w h' S (dd (xs.take n)) b->(∀c o,c∉S::wr->s.heap.get? c=some o->h'.get? c=some o)->R (.ok (.ret .none)) { s with heap:=h',toks:=tk }) →
   yej (model prog w) A (.builtin "set.update.loop" ⟨[.ref S,.ref I],[]⟩) R s:=by
 have nw:S∉wr:=λz=>hSf (W.sub _ z);intro k
 induction k with
 | zero =>
  intro i s hk hi st hS hR;obtain rfl:i=n:=by omega
  refine yvc ywh ?_;rw[yfc yve _];show wpAny _ A.in1 (pyNext (.ref I) >>= _) _ _ s
  refine yaa (W.done s _ _ st λh' tk keep=>?_);show wpAny _ A.in1 (ret Value.none) _ _ _
  exact yda (hR h' tk (hS.keep λo e=>keep S o nw e) λc o hc e=>keep c o (λz=>hc (yma _ z)) e)
 | succ k ih =>
  intro i s hk hi st hS hR;have hlt:i<n:=by omega
  refine yvc ywh ?_;rw[yfc yve _];show wpAny _ A.in1 (pyNext (.ref I) >>= _) _ _ s
  refine yaa (W.item i s _ _ hlt st λv h1 tk hP st1 keep=>?_);obtain⟨x,t,hx,rfl⟩:=hval i v hP;have hS1:SS prog w h1 S (dd (xs.take i)) b:=hS.keep λo e=>keep S o nw e;show wpAny _ A.in1 (ylm [Value.str x t] (setAdd S (.str x t)) >>= _) _ _ _
  refine yaa (ymc ?_);unfold setAdd;refine ymc (yaa ((ycd prog w).pyHash (k:=x) (by show yjg x (.str x t)=true;simp[yjg]) ?_));have hle:=zvac i xs;refine add_str (b:=b) (D:=dd (xs.take i)) (s:={ s with heap:=h1,toks:=tk+1 }) hS1 (by omega) λh2 r sb S2=>?_;have e2:(if x∈dd (xs.take i) then dd (xs.take i) else dd (xs.take i)++[x])=dd (xs.take (i+1)):=by
   rw[yva,hx,ypb,znt]
  rw[e2] at S2;refine yda ⟨yvd yve _,ih (i+1) _ (by omega) hlt (W.frame _ h1 _ st1 λc hc o e=>?_) S2 λh3 tk3 S3 keep3=>?_⟩
  ·rw[sb.2 c (λz:c=S=>hSf (by rw[← z];exact hc))];exact e
  ·refine hR h3 tk3 S3 λc o hc e=>keep3 c o hc ?_;show h2.get? c=some o
   rw[sb.2 c (λz:c=S=>hc (by rw[z];exact yka))];exact keep c o (λz=>hc (yma _ z)) e
abbrev empt (w:World):Obj:={ cls:=.type "set",dict:=none,data:=.set #[] 0 (.fresh 0 0 (!w.params.followText "set-order")) }
theorem zwmb (v:Value){Q1:Value->Shared->Prop}(h:Q1 (.ref s.heap.objs.size) { s with heap:=s.heap.push (empt w) }) :
  yej (model prog w) A (.call (.builtin "set.__new__") ⟨[.type "set",v],[]⟩) (wants Q1 E) s:=by
 refine yzn ?_;have sb:=sub_set_self;show wpAny _ A.in1 (checkBuiltinCall "set.__new__" ⟨[.type "set",v],[]⟩ >>= λ_=>again (.builtin "set.__new__" ⟨[.type "set",v],[]⟩)) _ _ s
 refine yaa (yrm (PySem.F.newCall_set_1 v) (yda ⟨yvd yao _,yvc PySem.F.entry_set_new ?_⟩));rw[yfc yao _];obtain⟨hp,gn,dr,tk,os⟩:=s;unfold yod.«set.__new__»;unfold yod.Frozenset.newClass;dsimp only
 wp_walk
 refine ybi (yda ?_);dsimp only[newObj];refine yaa (wpAny_alloc (yda (yda ?_)));exact h
theorem zaeb:∀{us:List Value} {xs:List Str},yil us xs->∀(i:Nat) (v:Value),us[i]?=some v->∃x t,xs[i]?=some x∧v = .str x t
 | _,_,.nil,i,v,e=>by simp at e
 | _,_,.cons x t r,0,v,e=>by
  rw[yic] at e;cases e;exact⟨x,t,rfl,rfl⟩
 | _,_,.cons x t r,i+1,v,e=>by
  rw[ycb] at e;obtain⟨y,u,h1,h2⟩:=zaeb r i v e;exact⟨y,u,by rw[ycb];exact h1,h2⟩
theorem znob (h:Heap):SS prog w (h.push (empt w)) h.objs.size [] (!w.params.followText "set-order") :=
 ⟨_,#[],0,_,yna _ rfl,⟨rfl,rfl,rfl⟩,rfl,λe he=>by simp at he,.nil,by decide,by rfl,rfl,.inl rfl⟩
theorem set_list {l:Addr}{its:Array Value}{xs:List Str}{Q:Value->Shared->Prop}(hh:A.handled=none)(hl:s.heap.IsList l its)(hi:yil its.toList xs)(hb:its.size+1<yrj)
  (h:∀(h':Heap) (tk:Nat),SS prog w h' s.heap.objs.size (dd xs) (!w.params.followText "set-order")->(∀c o,s.heap.get? c=some o->h'.get? c=some o)->Q (.ref s.heap.objs.size) { s with heap:=h',toks:=tk }) :
  wpAny (model prog w) A (call (.type "set") [.ref l]) Q E s:=by
 obtain⟨cM,tM,mro⟩:=ytb.mro;have made:=ytb.made;have subs:=ytb.sub;have notT:=ytb.notType;have canC:=ytb.canCreate;have chk:=yin (.ref l);refine ysq (yzn ?_);show wpAny _ _ (callAny (.type "set") ⟨[.ref l],[]⟩) _ _ _
 refine yda ⟨ygq _ (by decide +kernel),yvc ysm ?_⟩;rw[yhq (ybo "set" [Value.ref l] []) rfl]
 repeat (any_goals (first|assumption|wp_step))
 refine ych (zwmb (.ref l) (E:=E) (Q1:=λob s1=>ob = .ref s.heap.objs.size∧s1={ s with heap:=s.heap.push (empt w) }) ⟨rfl,rfl⟩) λr s1 hr=>?_;cases r with
 | error e=>exact hr
 | ok fl =>
  cases fl with
  | ret ob =>
   obtain⟨rfl,rfl⟩:=hr;have g0:(s.heap.push (empt w)).get? s.heap.objs.size=some (empt w):=yna _ rfl;have ty0:ytm { s with heap:=s.heap.push (empt w) } (.ref s.heap.objs.size) "set":=⟨_,g0,rfl⟩;have lk:=ytb.init.lookup;have bd:=ytb.init.bind (.ref s.heap.objs.size)
   repeat (any_goals (first|assumption|wp_step))
   refine ych (codeAny_call_builtin (R:=wants (λr s2=>r = .none∧∃h' tk,s2={ s with heap:=h',toks:=tk }∧SS prog w h' s.heap.objs.size (dd xs) (!w.params.followText "set-order") ∧
     (∀c o,s.heap.get? c=some o->h'.get? c=some o)) E) ytb.init.plain yjn (check_set_init_1 ty0 ?_)) λr2 s2 hr2=>?_
   ·obtain⟨ol,e1,e2,nl,e3⟩:=hl;obtain⟨oc,od,oD,osl⟩:=ol;dsimp only at e2 e3;subst e2 e3;have e1':(s.heap.push (empt w)).get? l=some { cls:=.type "list",dict:=od,data:=.seq its nl,slots:=osl }:=yba _ e1;have q1:=PySem.F.sub_list_set;have q2:=PySem.F.sub_list_frozenset;have q3:(Value.type "list" == Value.type "dict")=false:=by decide
    have L1:(s.heap.push (empt w)).IsList l its:=⟨_,e1',rfl,nl,rfl⟩;have lt:l<s.heap.objs.size:=ysa e1;unfold yod.«set.__init__» noKeywords ybk;generalize hPI:pyIter=PI
    wp_walk
    subst hPI;refine ymh L1 (yaa (yyo ?_));have ne:l≠(s.heap.push (empt w)).objs.size:=by
     rw[yae];exact ydb (yye lt)
    have nf:s.heap.objs.size∉[(s.heap.push (empt w)).objs.size,l]:=by
     rw[yae];intro z
     rcases yla.mp z with z|z
     ·exact absurd z (ydb (yje _))
     ·exact absurd (yga.mp z) (yfg lt)
    have hv:∀(i:Nat) (v:Value),its[i]?=some v->∃x t,xs[i]?=some x∧v = .str x t:=λi v e=>zaeb hi i v (by rw[yvb];exact e);have hx:xs.take its.size=xs:=ypa (by rw[← yib,hi.length];exact yha _);refine zsgb (b:=!w.params.followText "set-order") (ybr (by simp[hh]) _ l ne its) nf xs hv hb (its.size-0) 0 _ (by omega) (ygb _) ⟨⟨_,yna _ rfl,rfl,rfl⟩,L1.push _⟩ ?S0 ?R0
    case S0=>exact (znob s.heap).keep λo e=>yba _ e
    case R0 =>
     intro h' tk S' keep;rw[hx] at S';show wpAny _ _ _ _ _ _
     refine yda ?_;show wpAny _ _ (ret Value.none) _ _ _
     refine yda ⟨rfl,h',tk,rfl,S',λc o e=>?_⟩;have clt:=ysa e;refine keep c o ?_ (yba _ (yba _ e));rw[yae];intro z
     rcases yla.mp z with z|z
     ·exact absurd z (ydb clt)
     ·exact absurd (yga.mp z) (ydb (yye clt))
   ·cases r2 with
    | error e=>exact hr2
    | ok fl2 =>
     cases fl2 with
     | ret r =>
      obtain⟨rfl,h',tk,rfl,S',keep⟩:=hr2
      repeat (any_goals (first|assumption|wp_step))
      exact h _ _ S' keep
     | next=>exact hr2.elim
     | brk=>exact hr2.elim
     | cont=>exact hr2.elim
  | next=>exact hr.elim
  | brk=>exact hr.elim
  | cont=>exact hr.elim
end
end SSet
namespace SSet
open PySem PySem.Spec PyProof.Rows
theorem zex:Slot "set_iterator" "__next__" "set_iterator.__next__":=.of (owner:="set_iterator") (n:="__next__") (by rw[yco,ysj];kernel_rfl) (by decide +kernel) (by decide +kernel) (by decide +kernel) (by first|exact .inl (by decide +kernel)|exact .inr (by decide +kernel)) (by rw[yzo];kernel_rfl)
theorem zfxb:entryFor table "set_iterator.__next__" = some yod.«set_iterator.__next__»:=entryFor_of_fast (by kernel_rfl)
theorem ztxb (v:Value):argsOk "set_iterator.__next__" ⟨[v],[]⟩:=by unfold argsOk;kernel_rfl
theorem zgxb:entryFor table "set.__iter__" = some yod.«frozenset.__iter__»:=entryFor_alias (id':="frozenset.__iter__") (by kernel_rfl) rfl (by decide +kernel) (by kernel_rfl)
theorem zjlb:Slot "set_iterator" "__iter__" "set_iterator.__iter__":=.of (owner:="set_iterator") (n:="__iter__") (by rw[yco,ysj];kernel_rfl) (by decide +kernel) (by decide +kernel) (by decide +kernel) (by first|exact .inl (by decide +kernel)|exact .inr (by decide +kernel)) (by rw[yzo];kernel_rfl)
theorem zexb:entryFor table "set_iterator.__iter__" = some yod.«dict_keyiterator.__iter__»:=entryFor_alias (id':="dict_keyiterator.__iter__") (by kernel_rfl) rfl (by decide +kernel) (by kernel_rfl)
theorem zsxb (v:Value):argsOk "set_iterator.__iter__" ⟨[v],[]⟩:=by unfold argsOk;kernel_rfl
def zkz (h:Heap)(it a:Addr)(first:Value)(i n ep:Nat):Prop:=h.get? it=some { cls:=.type "set_iterator",dict:=none,data:=.fields #[first,rawInt i,.ref a,rawInt n,rawInt ep],slots:=#[] }
def SObj (h:Heap)(a:Addr)(es:Array (Int×Value))(ep:Nat)(t:ytf):Prop:=∃o,h.get? a=some o∧o.cls = .type "set" ∧ o.data = .set es ep t∧t.fits es.size=true
theorem SObj.keep {h h':Heap}{a:Addr}{es:Array (Int×Value)}{ep:Nat}{t:ytf}(x:SObj h a es ep t)(k:∀o,h.get? a=some o->h'.get? a=some o):SObj h' a es ep t:=by
 obtain⟨o,ho,r⟩:=x;exact⟨o,k _ ho,r⟩
section
variable {prog:yqb}{w:World}{A:Around}{E:Value->Shared->Prop}{s:Shared}
theorem zkz.typeIs {it a:Addr}{f:Value}{i n ep:Nat}(h:zkz s.heap it a f i n ep):s.TypeIs (.ref it) "set_iterator":=⟨_,h,rfl⟩
theorem zfab {Q:Option Value->Shared->Prop}{F:Fin->Shared->Prop}(hh:A.handled=none)(hQ:∀h',(∀b o,s.heap.get? b=some o->h'.get? b=some o)->Q none { s with heap:=h' }) :
  wpAny (model prog w) A.in1 (newExc (.type "StopIteration") [] >>= λx=>yiq x) F (λe s'=>wpAny (model prog w) A (do
     let b ← ygr e (Value.type "StopIteration")
     if b=true then pure none else throw e) Q E s') s:=by
 refine yaa ?_;simp only[newExc,newTuple];refine yaa (ybc ?_ (by size_fits));refine yaa (m:=yxh _ _) (yrm (a:=Value.none) (by first|rfl|(simp only[yxh];rfl)) (ybc ?_ (by size_fits)));simp only[yiq];refine yaa (yjq ?_);rw[show A.in1.handled=none from hh];refine yaa (yda (wpAny_throw ?_));refine yaa (yxj (b:=true) (T:="StopIteration") ⟨_,yna _ rfl,rfl⟩ yap ?_);exact yda (hQ _ λb o e=>yba _ (yba _ e))
theorem zll {it a:Addr}{f:Value}{i n ep:Nat}{es:Array (Int×Value)}{t:ytf}{Q:Option Value->Shared->Prop}(hit:zkz s.heap it a f i n ep)(hs:SObj s.heap a es ep t)(hn:es.size=n)
  (h:wpAny (model prog w) A.in1 (match f with
      | Value.int slot tok=>do
       let r ← ydo a slot.toNat i ep
       match r with
        | some (x,nx)=>do
         yck (Value.ref it) 0 (rawInt nx)
         yck (Value.ref it) 1 (rawInt ((i:Int)+1))
         ret x
        | none=>do
         yck (Value.ref it) 2 Value.none
         let y ← newExc (Value.type "StopIteration") []
         yiq y
      | x=>do
       let r ← ycm f
       match r with
        | some places =>
         match places[i]? with
         | some (Value.int place tok)=>do
          let x ← setNextDrawn a place.toNat ep
          yck (Value.ref it) 1 (rawInt ((i:Int)+1))
          ret x
         | some val=>unsupported "internal:set_iterator"
         | none=>do
          yck (Value.ref it) 0 (rawInt 0)
          yck (Value.ref it) 2 Value.none
          let y ← newExc (Value.type "StopIteration") []
          yiq y
        | x=>unsupported "internal:set_iterator")
   (λfin s'=>∃v,fin=Fin.done (Flow.ret v)∧wpAny (model prog w) A (pure (some v)) Q E s')
   (λe s'=>wpAny (model prog w) A (do
     let b ← ygr e (Value.type "StopIteration")
     if b=true then pure none else throw e) Q E s') s):wpAny (model prog w) A (pyNext (.ref it)) Q E s:=by
 obtain⟨oS,hoS,hcS,hdS,hf⟩:=id hs;unfold pyNext;refine yaa (yph (yhc (name:=yue "__next__") hit.typeIs zex (ylc zex hit.typeIs zfxb ?_ (ztxb _))));unfold yod.«set_iterator.__next__»;refine yaa (yda ?_);refine yaa (ybp hit rfl ?_);show wpAny _ _ (setEntries a >>= _) _ _ _
 refine yaa (wpAny_setEntries_of hoS hdS hf ?_);rw[if_neg (by rw[hn];simp[rawInt])];exact h
theorem zijb {it a tp:Addr}{i n ep:Nat}{es:Array (Int×Value)}{t:ytf}{pl:Array Value}{j:Nat}{tk:Tok}{e:Int×Value}{Q:Option Value->Shared->Prop}
  (hit:zkz s.heap it a (.ref tp) i n ep) (hs:SObj s.heap a es ep t) (hn:es.size=n) (htp:IsTup s.heap tp pl) (hpl:pl[i]?=some (.int j tk)) (he:es[j]?=some e)
  (hQ:∀h',zkz h' it a (.ref tp) (i+1) n ep->yfd it s.heap h'->Q (some e.2) { s with heap:=h' }):wpAny (model prog w) A (pyNext (.ref it)) Q E s:=by
 obtain⟨oS,hoS,hcS,hdS,hf⟩:=id hs;refine zll hit hs hn ?_;dsimp only;obtain⟨oT,hoT,hcT,nT,hdT⟩:=htp;have sq:∀{Q':Option (Array Value)->Shared->Prop},Q' (some pl) s->wpAny (model prog w) A.in1 (ycm (.ref tp)) Q' (λe s'=>wpAny (model prog w) A (do
     let b ← ygr e (Value.type "StopIteration")
     if b=true then pure none else throw e) Q E s') s:=λq=>by
  unfold ycm;refine yaa (yoq hoT ?_);rw[hdT];exact yda q
 refine yaa (sq ?_);dsimp only;rw[hpl];dsimp only;rw[yjc];unfold setNextDrawn;refine yaa (yaa (yxe hoS hdS hf ?_));dsimp only;rw[if_neg (by simp),he];refine yda ?_;refine yaa (yyc hit (by simp) λh' g sb=>?_);refine yda ⟨_,rfl,yda (hQ h' ?_ sb)⟩;exact g
theorem zmob {it a tp:Addr}{i n ep:Nat}{es:Array (Int×Value)}{t:ytf}{pl:Array Value}{Q:Option Value->Shared->Prop}(hh:A.handled=none)
  (hit:zkz s.heap it a (.ref tp) i n ep) (hs:SObj s.heap a es ep t) (hn:es.size=n) (htp:IsTup s.heap tp pl) (hpl:pl[i]?=none)
  (hQ:∀h',(∀b o,b≠it->s.heap.get? b=some o->h'.get? b=some o)->Q none { s with heap:=h' }):wpAny (model prog w) A (pyNext (.ref it)) Q E s:=by
 refine zll hit hs hn ?_;dsimp only;obtain⟨oT,hoT,hcT,nT,hdT⟩:=htp;have sq:∀{Q':Option (Array Value)->Shared->Prop},Q' (some pl) s->wpAny (model prog w) A.in1 (ycm (.ref tp)) Q' (λe s'=>wpAny (model prog w) A (do
     let b ← ygr e (Value.type "StopIteration")
     if b=true then pure none else throw e) Q E s') s:=λq=>by
  unfold ycm;refine yaa (yoq hoT ?_);rw[hdT];exact yda q
 refine yaa (sq ?_);dsimp only;rw[hpl];dsimp only;refine yaa (yyc hit (by simp) λh1 g1 sb1=>?_);refine yaa (yyc g1 (by simp) λh2 g2 sb2=>?_);refine zfab hh λh' k=>hQ h' λb o nb e=>k b o ?_;show h2.get? b=some o
 rw[sb2.2 b nb,sb1.2 b nb];exact e
end
end SSet
namespace SSet
open PySem PySem.Spec PyProof.Rows
theorem pull {α:Type}:∀{l:List α} {i:Nat} (h:i<l.length),(l[i]::l.eraseIdx i).Perm l
 | [],i,h=>by simp at h
 | x::r,0,h=>yjl _
 | x::r,i+1,h=>by
  have ih:=pull (l:=r) (i:=i) (by simpa using h);exact (yyn.swap x _ _).trans (yyn.cons x ih)
theorem zfmb {α:Type}(nx:Nat->Nat):∀(k j:Nat) (left:List α) (out:Array α),left.length=k->(yvs nx k j left out).toList.Perm (out.toList++left)
 | 0,j,left,out,h=>by
  have e:left=[]:=ysi.mp h;subst e;rw[ylb];exact yjl _
 | k+1,j,left,out,h=>by
  have hlt:nx j % left.length<left.length:=Nat.mod_lt _ (by omega);unfold yvs;rw[yoa hlt];dsimp only;refine (zfmb nx k (j+1) _ _ (by rw[ywk hlt];omega)).trans ?_;rw[yer,ymd];exact yyn.append_left _ (pull hlt)
theorem zdmb {α:Type}(nx:Nat->Nat)(xs:Array α):(ynk nx xs).toList.Perm xs.toList:=by
 have q:=zfmb nx xs.size 0 xs.toList #[] (by simp);unfold ynk
 simpa using q
section
variable {prog:yqb}{w:World}{A:Around}{E:Value->Shared->Prop}{s:Shared}
theorem zckb {src:Source}{n:Nat}{Q:Nat->Shared->Prop}(hn:n≠0)(h:∀i d,i<n->Q i { s with drawn:=d }):wpAny (model prog w) A (choose src n) Q E s:=fun Γ p hΓ=>by
 unfold choose;show Sem.wp _ _ (.choose src n .pure) _ _ _ _
 rw[Sem.wp_choose];exact⟨hn,h _ _ (Nat.mod_lt _ (by omega))⟩
theorem zrhb {α:Type}:∀(n:Nat) (xs:List α) (s:Shared) (Q:List α->Shared->Prop),xs.length=n->(∀ys d,ys.Perm xs->Q ys { s with drawn:=d })->wpAny (model prog w) A (drawOrder n xs) Q E s
 | 0,xs,s,Q,hl,h=>by
  have e:xs=[]:=ysi.mp hl;subst e;exact yda (h [] s.drawn (yjl _))
 | n+1,[],s,Q,hl,h=>by cases hl
 | n+1,x::r,s,Q,hl,h=>by
  unfold drawOrder;refine yaa (zckb (by simp) λi d hi=>?_);rw[yoa hi];dsimp only;refine yaa (zrhb n _ _ _ (by rw[ywk hi];omega) λys d2 hp=>?_);exact yda (h _ d2 ((yyn.cons _ hp).trans (pull hi)))
theorem zacb {it a:Addr}{f:Value}{i n ep:Nat}{Q:Value->Shared->Prop}(hit:zkz s.heap it a f i n ep)(h:Q (.ref it) s):wpAny (model prog w) A (pyIter (.ref it)) Q E s:=by
 refine ydm hit.typeIs zjlb (ylc zjlb hit.typeIs zexb ?_ (zsxb _));show wpAny _ _ (ret (Value.ref it)) _ _ s
 exact yda ⟨_,rfl,"set_iterator",_,hit.typeIs,zex.lookup,h⟩
theorem zzdb (hh:A.handled=none){it a tp:Addr}(h1:a≠it)(h2:tp≠it)(es:Array (Int×Value))(ep:Nat)(t:ytf)(js:List Nat)(hl:js.length=es.size)(hj:∀j∈js,j<es.size) :
  Walks prog w A it [it,a,tp] [it] es.size (λi v=>∃j e,js[i]?=some j∧es[j]?=some e∧v=e.2) (λi h=>zkz h it a (.ref tp) i es.size ep∧SObj h a es ep t∧IsTup h tp (js.map λ(j:Nat)=>rawInt j).toArray) where
 sub:=λb hb=>by
  have e:b=it:=by simpa using hb
  rw[e];exact yka
 frame:=λi h h' st k=>⟨k it (by simp) _ st.1,st.2.1.keep λo e=>k a (by simp) o e,let ⟨o,e,r⟩:=st.2.2;⟨o,k tp (by simp) o e,r⟩⟩
 item:=λi s Q E hi st hQ=>by
  have hi':i<js.length:=by omega
  have ej:js[i]?=some js[i]:=yoa hi';have hlt:js[i]<es.size:=hj _ (ycn hi');have ee:es[js[i]]?=some es[js[i]]:=ynb hlt;refine zijb (j:=js[i]) (tk:=0) (e:=es[js[i]]) st.1 st.2.1 rfl st.2.2 ?_ ee λh' g sb=>?_
  ·rw[ytj,yya,ej];rfl
  ·exact hQ _ h' s.toks ⟨_,_,ej,ee,rfl⟩ ⟨g,st.2.1.keep λo e=>(sb.2 a h1).trans e,let ⟨o,e,r⟩:=st.2.2;⟨o,(sb.2 tp h2).trans e,r⟩⟩ λb o hb e=>(sb.2 b λz=>hb (by rw[z];exact yka)).trans e
 done:=λs Q E st hQ=>by
  refine zmob hh st.1 st.2.1 rfl st.2.2 ?_ λh' k=>hQ h' s.toks λb o hb e=>k b o (λz=>hb (by rw[z];exact yka)) e;rw[ytj,yya,yhh (by omega)];rfl
 self:=λi s Q E st h=>zacb st.1 h
theorem zvz (hh:A.handled=none){it a:Addr}(h1:a≠it)(es:Array (Int×Value))(ep:Nat)(t:ytf)(ord:List Value)(R:Nat->Nat->Prop)
  (hs:∀(A:Around) (E:Value->Shared->Prop) (i slot:Nat) (s:Shared) (Q:Option (Value×Nat)->Shared->Prop),i<es.size->R slot i->SObj s.heap a es ep t->(∀x nx,ord[i]?=some x->R nx (i+1)->Q (some (x,nx)) s)->wpAny (model prog w) A (ydo a slot i ep) Q E s)
  (he:∀(A:Around) (E:Value->Shared->Prop) (slot:Nat) (s:Shared) (Q:Option (Value×Nat)->Shared->Prop),R slot es.size->SObj s.heap a es ep t->Q none s->wpAny (model prog w) A (ydo a slot es.size ep) Q E s) :
  Walks prog w A it [it,a] [it] es.size (λi v=>ord[i]?=some v) (λi h=>(∃slot:Nat,zkz h it a (rawInt slot) i es.size ep∧R slot i)∧SObj h a es ep t) where
 sub:=λb hb=>by
  have e:b=it:=by simpa using hb
  rw[e];exact yka
 frame:=λi h h' ⟨⟨slot,g,r⟩,so⟩ k=>⟨⟨slot,k it (by simp) _ g,r⟩,so.keep λo e=>k a (by simp) o e⟩
 item:=λi s Q E hi st hQ=>by
  obtain⟨⟨slot,g,r⟩,so⟩:=st;refine zll g so rfl ?_;show wpAny _ _ (ydo a ((slot:Int).toNat) i ep >>= _) _ _ _
  rw[yjc];refine yaa (hs _ _ i slot s _ hi r so λx nx hx r'=>?_);dsimp only;refine yaa (yyc g (by simp) λh2 g2 sb2=>?_);refine yaa (yyc g2 (by simp) λh3 g3 sb3=>?_);have sb:∀b,b≠it->h3.get? b=s.heap.get? b:=λb nb=>(sb3.2 b nb).trans (sb2.2 b nb);refine yda ⟨_,rfl,yda (hQ _ h3 s.toks hx ⟨⟨nx,g3,r'⟩,so.keep λo e=>(sb a h1).trans e⟩ λb o hb e=>(sb b λz=>hb (by rw[z];exact yka)).trans e)⟩
 done:=λs Q E st hQ=>by
  obtain⟨⟨slot,g,r⟩,so⟩:=st;refine zll g so rfl ?_;show wpAny _ _ (ydo a ((slot:Int).toNat) es.size ep >>= _) _ _ _
  rw[yjc];refine yaa (he _ _ slot s _ r so ?_);dsimp only;refine yaa (yyc g (by simp) λh2 g2 sb2=>?_);refine zfab hh λh' k=>hQ h' s.toks λb o hb e=>k b o ?_;exact (sb2.2 b λz=>hb (by rw[z];exact yka)).trans e
 self:=λi s Q E ⟨⟨slot,g,_⟩,_⟩ h=>zacb g h
end
end SSet
namespace SSet
open PySem PySem.Spec PyProof.Rows
theorem zco {α:Type}{vs ord:List α}(hl:vs.length=ord.length)(h:∀(i:Nat) v,vs[i]?=some v->ord[i]?=some v):vs=ord:=by
 refine List.ext_getElem? λi=>?_
 by_cases hi:i<vs.length
 ·rw[yoa hi];exact (h i _ (yoa hi)).symm
 ·rw[yhh (by omega),yhh (by omega)]
section
variable {prog:yqb}{w:World}{A:Around}{E:Value->Shared->Prop}{s:Shared}
theorem zsy {es:List (Int×Value)}{D:List Str}{vs:List Value}(hel:ydr (ycd prog w) es)(hp:(es.map λe=>strOf e.2).Perm D)(hv:vs.Perm (es.map (·.2))):∃ys,yil vs ys∧ys.Perm D:=by
 refine⟨vs.map strOf,strsAre_map vs λv hm=>?_,?_⟩
 ·obtain⟨e,he,rfl⟩:=yjb.mp (hv.mem_iff.mp hm);obtain⟨x,t,e1,_⟩:=zfub hel he;exact⟨x,t,e1⟩
 ·refine (hv.map strOf).trans ?_;rw[yrd];exact hp
theorem zakb {es:Array (Int×Value)}{js:List Nat}(hj:js.Perm (ywe es.size)){vs:List Value}(hl:vs.length=es.size)(h:∀(i:Nat) v,vs[i]?=some v->∃j e,js[i]?=some j∧es[j]?=some e∧v=e.2):vs.Perm (es.toList.map (·.2)):=by
 have ev:vs=js.map λj=>(es.toList.getD j (0,.none)).2:=by
  refine zco (by rw[yea,hj.length_eq,yze,hl]) λi v hv=>?_;obtain⟨j,e,h1,h2,rfl⟩:=h i v hv;rw[yya,h1];show some (es.toList.getD j (0,.none)).2=some e.2
  rw[yhb,yvb,h2];rfl
 rw[ev];refine (hj.map _).trans (yyn.of_eq ?_);refine zco (by simp) λi v hv=>?_;rw[yya] at hv
 by_cases hi:i<es.size
 ·rw[List.getElem?_range hi] at hv;have hv':(es.toList.getD i (0,.none)).2=v:=yec hv;rw[yya,← hv',yhb,yoa (by simpa using hi)];rfl
 ·rw[yhh (by simp;omega)] at hv;cases hv
theorem zjsb {a:Addr}{D:List Str}{Q:Value->Shared->Prop}(hh:A.handled=none)(hS:SS prog w s.heap a D (!w.params.followText "set-order"))
  (h:∀(h':Heap) (d':Drawn) (I:Addr) (n:Nat) (fp:List Addr) (P:Nat->Value->Prop) (St:Nat->Heap->Prop),(∀b o,s.heap.get? b=some o->h'.get? b=some o)->s.heap.objs.size≤I->(∀b∈fp,b=a∨s.heap.objs.size≤b) →
   Walks prog w A I fp [I] n P St->St 0 h'->n=D.length->(∀vs:List Value,vs.length=n->(∀(i:Nat) v,vs[i]?=some v->P i v)->∃ys,yil vs ys∧ys.Perm D)->Q (.ref I) { s with heap:=h',drawn:=d' }) :
  wpAny (model prog w) A (pyIter (.ref a)) Q E s:=by
 obtain⟨o,es,ep,t,ho,hex,hd,hel,hp,hb,hf,hl,hpl⟩:=hS;have hT:s.TypeIs (.ref a) "set":=⟨o,ho,hex.1⟩;have so:SObj s.heap a es ep t:=⟨o,ho,hex.1,hd,hf⟩;have hz:es.size=D.length:=by rw[← hp.length_eq,yea,yib]
 have alt:a<s.heap.objs.size:=ysa ho;refine ydm hT yeo (ylc yeo hT zgxb ?_ (PySem.F.args_set_iter_1 _));unfold yod.«frozenset.__iter__»;refine yaa (m:=yod.Frozenset.slot0 "__iter__" _) (yda ?_);refine yaa (m:=yod.Frozenset.sizeOf a) (yaa (wpAny_setEntries_of ho hd hf (yda ?_)));refine yaa (m:=setDrawn a) (yaa (yxe ho hd hf (yaa (m:=yuo) (yaa (ybi (yda (yda ?_)))))));dsimp only;have jp:∀{first:Value} {h1:Heap} {d1:Drawn},SObj h1 a es ep t->Q (.ref h1.objs.size) { s with heap:=h1.push { cls:=.type "set_iterator",dict:=none,data:=.fields #[first,rawInt (0:Nat),.ref a,rawInt es.size,rawInt ep],slots:=#[] },drawn:=d1 } →
   wpAny (model prog w) A.in1 (do
    let e ← setEpoch a
    let v ← newFields "set_iterator" [first,rawInt 0,Value.ref a,rawInt es.size,rawInt e]
    ret v) (λfin s'=>∃v,fin=Fin.done (Flow.ret v)∧∃T' r,s'.TypeIs v T'∧yvq (Value.type T') (yue "__next__")=pure (some r)∧Q v s') E { s with heap:=h1,drawn:=d1 }:=by
  intro first h1 d1 ⟨o1,e1,e2,e3,e4⟩ q
  refine yaa (m:=setEpoch a) (yaa (yxe e1 e3 e4 (yda ?_)));refine yaa (m:=newFields _ _) (ybc (yda ⟨_,rfl,"set_iterator",_,⟨_,yna _ rfl,rfl⟩,zex.lookup,?_⟩));exact q
 split
 ·rename_i hc;have hc':(!w.params.followText "set-order" && (!t.plain&&decide (es.size>1)))=true:=hc;refine yaa (zrhb es.size (ywe es.size) s _ (by simp) λjs d1 pj=>?_);refine yaa (ycp ?_ (by rw[yea,pj.length_eq,yze];exact yam hb));have jl:js.length=es.size:=by rw[pj.length_eq,yze]
  have jm:∀j∈js,j<es.size:=λj hj=>ynj.mp (pj.mem_iff.mp hj);refine jp (so.keep λo e=>yba _ e) ?_;have sz:(s.heap.push { cls:=.type "tuple",data:=.seq (js.map λ(j:Nat)=>rawInt j).toArray }).objs.size=s.heap.objs.size+1:=yae _ _;refine h _ d1 _ es.size _ _ _ (λb o e=>yba _ (yba _ e)) (by rw[sz];exact yke _) ?_ (zzdb (a:=a) (tp:=s.heap.objs.size) hh ?_ ?_ es ep t js jl jm) ⟨?_,?_,?_⟩ hz λvs hv hP=>zsy hel hp (zakb pj hv hP)
  ·intro b hb';rw[sz] at hb'
   rcases yla.mp hb' with z|z
   ·exact .inr (by rw[z];exact yke _)
   ·rcases yla.mp z with z|z
    ·exact .inl z
    ·exact .inr (by rw[yga.mp z];exact yha _)
  ·rw[sz];exact ydb (yye alt)
  ·rw[sz];exact ydb (yje _)
  ·exact yna _ rfl
  ·exact so.keep λo e=>yba _ (yba _ e)
  ·exact⟨_,yba _ (yna _ rfl),rfl,_,rfl⟩
 ·rename_i hc;have hc':¬ (!w.params.followText "set-order" && (!t.plain&&decide (es.size>1)))=true:=hc;refine yaa (yda (jp (h1:=s.heap) (d1:=s.drawn) so ?_));have fpk:∀b∈[s.heap.objs.size,a],b=a∨s.heap.objs.size≤b:=λb hb'=>by
   rcases yla.mp hb' with z|z
   ·exact .inr (by rw[z];exact yha _)
   ·exact .inl (yga.mp z)
  have ne:a≠s.heap.objs.size:=ydb alt;cases ft:w.params.followText "set-order" with
  | true =>
   have bt:∀{A':Around} {E':Value->Shared->Prop} {s':Shared} {Q':Bool->Shared->Prop},Q' true s'->wpAny (model prog w) A' yuo Q' E' s':=λ{A' E' s' Q'} q=>by
    unfold yuo;refine yaa (ybi (yda ?_));show Q' (w.params.followText "set-order") s'
    rw[ft];exact q
   have stp:∀(A:Around) (E:Value->Shared->Prop) (i slot:Nat) (s:Shared) (Q:Option (Value×Nat)->Shared->Prop),SObj s.heap a es ep t->Q (((ynk (w.params.setOrder a ep) es)[i]?).map λe=>(e.2,slot)) s->wpAny (model prog w) A (ydo a slot i ep) Q E s:=by
    intro A E i slot s Q ⟨o1,e1,e2,e3,e4⟩ q;unfold ydo;refine yaa (yxe e1 e3 e4 ?_);dsimp only;refine yaa (bt ?_);rw[if_pos rfl,if_neg (by simp)];unfold setWalk;refine yaa (yaa (yxe e1 e3 e4 (yaa (bt ?_))));rw[if_pos rfl];exact yaa (ybi (yda (yda q)))
   have po:=zdmb (w.params.setOrder a ep) es;have pz:(ynk (w.params.setOrder a ep) es).size=es.size:=(by rw[← yib,po.length_eq,yib]);refine h _ s.drawn _ es.size _ _ _ (λb o e=>yba _ e) (yha _) fpk (zvz (a:=a) hh ne es ep t ((ynk (w.params.setOrder a ep) es).toList.map (·.2)) (λslot _=>slot=0) ?_ ?_) ⟨⟨0,yna _ rfl,rfl⟩,so.keep λo e=>yba _ e⟩ hz λvs hv hP=>?_
   ·intro A E i slot s Q hi r so' q;have e1:(ynk (w.params.setOrder a ep) es)[i]?=some (ynk (w.params.setOrder a ep) es)[i]:=ynb (by omega);refine stp A E i slot s Q so' ?_;rw[e1];exact q _ _ (by rw[yya,yvb,e1];rfl) r
   ·intro A E slot s Q r so' q;refine stp A E _ slot s Q so' ?_;rw[yug (by omega)];exact q
   ·refine zsy hel hp ?_;have e1:vs=(ynk (w.params.setOrder a ep) es).toList.map (·.2):=zco (by rw[hv,yea,yib,pz]) hP;rw[e1];exact po.map _
  | false =>
   rw[ft] at hc' hl;have sm:es.size≤1:=by
    rcases hpl with z|z
    ·omega
    ·rw[z] at hc';simp at hc';exact hc'
   have bt:∀{A':Around} {E':Value->Shared->Prop} {s':Shared} {Q':Bool->Shared->Prop},Q' false s'->wpAny (model prog w) A' yuo Q' E' s':=λ{A' E' s' Q'} q=>by
    unfold yuo;refine yaa (ybi (yda ?_));show Q' (w.params.followText "set-order") s'
    rw[ft];exact q
   have stp:∀(A:Around) (E:Value->Shared->Prop) (i slot:Nat) (s:Shared) (Q:Option (Value×Nat)->Shared->Prop),SObj s.heap a es ep t->Q (match es[ytg t.place slot]?,t.place[ytg t.place slot]? with|some (_,x),some j=>some (x,j+1)|_,_=>none) s->wpAny (model prog w) A (ydo a slot i ep) Q E s:=by
    intro A E i slot s Q ⟨o1,e1,e2,e3,e4⟩ q;unfold ydo;refine yaa (yxe e1 e3 e4 ?_);dsimp only;refine yaa (bt ?_);rw[if_neg (by simp)];have nd:¬ (!t.plain&&decide (es.size>1))=true:=by
     rw[decide_eq_false (by omega),yhl];exact yab
    refine yti (λz=>absurd z nd) (λ_=>?_);have nl:¬ (!t.led && !es.isEmpty)=true:=by
     rw[hl];simp
    refine yaa (yti (λz=>absurd z nl) (λ_=>yda ?_));exact yda q
   have ps:t.place.size=es.size:=by
    have z:=hf;unfold ytf.fits at z;simp at z;exact z.1
   refine h _ s.drawn _ es.size _ _ _ (λb o e=>yba _ e) (yha _) fpk (zvz (a:=a) hh ne es ep t (es.toList.map (·.2)) (λslot i=>(i=0∧slot=0)∨(i=1∧∃j,t.place=#[j]∧slot=j+1)) ?_ ?_) ⟨⟨0,yna _ rfl,.inl ⟨rfl,rfl⟩⟩,so.keep λo e=>yba _ e⟩ hz λvs hv hP=>?_
   ·intro A E i slot s Q hi r so' q;have i0:i=0:=(by omega);subst i0;have s0:slot=0:=by
     rcases r with⟨_,z⟩|⟨z,_⟩
     ·exact z
     ·cases z
    subst s0;obtain⟨j,ej⟩:∃j,t.place=#[j]:=by
     rcases Array.size_eq_one_iff.mp (show t.place.size=1 by omega) with⟨j,z⟩
     exact⟨j,z⟩
    have e1:es[0]?=some es[0]:=ynb hi;refine stp A E 0 0 s Q so' ?_;have bl:ytg t.place 0=0:=by
     rw[ej];simp[ytg,yhr]
    rw[bl,e1,ej];exact q _ _ (by rw[yya,yvb,e1];rfl) (.inr ⟨rfl,j,ej,rfl⟩)
   ·intro A E slot s Q r so' q;refine stp A E _ slot s Q so' ?_;have en:es[ytg t.place slot]?=none:=by
     rcases r with⟨z,y⟩|⟨z,j,ej,y⟩
     ·exact yug (by omega)
     ·have bl:ytg t.place slot=1:=by
       rw[ej,y];simp[ytg,yhr]
      rw[bl];exact yug (by omega)
    rw[en];exact q
   ·refine zsy hel hp ?_;have e1:vs=es.toList.map (·.2):=zco (by rw[hv,yea,yib]) hP;rw[e1]
end
end SSet
namespace SSet
open PySem PySem.Spec PyProof.Rows PySem.W
section
variable {prog:yqb}{w:World}{A:Around}{E:Value->Shared->Prop}{s:Shared}
theorem zmsb {r:Addr}{Q:Bool->Shared->Prop}(ty:s.TypeIs (.ref r) "set")(q:Q false s):wpAny (model prog w) A (yok (.ref r)) Q E s:=by
 unfold yok;refine yaa (wpAny_specialOf ty PySem.F.slot_set_len.lookup ?_);generalize hx:("set.__len__":String)=nm
 wp_delta
 rw[show splitId nm=some ("set","__len__") from by subst hx;decide +kernel];subst hx;refine yaa (yxj (b:=true) (T:="set") ty (by rw[yzo];kernel_rfl) ?_);refine yti (λz=>absurd z (by decide)) (λ_=>?_);refine yti (λ_=>?_) (λz=>absurd (by decide +kernel) z);exact yaa (ybl ty (yda q))
theorem zgfb {a:Addr}{D:List Str}{R:List Value->Shared->Prop}(hh:A.handled=none)(hS:SS prog w s.heap a D (!w.params.followText "set-order"))
  (h:∀(h':Heap) (d':Drawn) (tk:Nat) (vs:List Value) (ys:List Str),(∀b o,s.heap.get? b=some o->h'.get? b=some o)->s.heap.objs.size<h'.objs.size->yil vs ys->ys.Perm D->R vs { s with heap:=h',drawn:=d',toks:=tk }) :
  wpAny (model prog w) A (collect (.ref a)) R E s:=by
 obtain⟨oA,hoA⟩:∃o,s.heap.get? a=some o:=let ⟨o,_,_,_,e,_⟩:=hS;⟨o,e⟩;have alt:a<s.heap.objs.size:=ysa hoA;have dz:D.length≤yta:=by
  obtain⟨o,es,ep,t,_,_,_,_,hp,hb,_⟩:=hS;rw[← hp.length_eq,yea,yib];exact yam hb
 have nSa:s.heap.objs.size≠a:=yfg alt;unfold collect;refine yaa (yyo (yvc entry_proto_collect' ?_));rw[yfc PySem.F.plain_proto_collect _];show wpAny _ A.in1 (newList [] >>= λl=>again (.builtin "list.__iadd__" ⟨[l,.ref a],[]⟩)) _ _ s
 refine yaa (ybc (yda ⟨yvd yum _,yvc entry_list_iadd' ?_⟩));rw[yfc yum _];show wpAny _ A.in1 (ypk (.ref s.heap.objs.size) (.ref a) (.ref s.heap.objs.size)) _ _ _
 unfold ypk;have S1:SS prog w (s.heap.push { cls:=.type "list",data:=.seq ([]:List Value).toArray }) a D (!w.params.followText "set-order"):=hS.keep λo e=>yba _ e;have g1:(s.heap.push { cls:=.type "list",data:=.seq ([]:List Value).toArray }).get? s.heap.objs.size=some { cls:=.type "list",dict:=none,data:=.seq #[] 0,slots:=#[] }:=yna _ rfl;have k1:∀b o,s.heap.get? b=some o->(s.heap.push { cls:=.type "list",data:=.seq ([]:List Value).toArray }).get? b=some o:=λb o e=>yba _ e;generalize s.heap.push { cls:=.type "list",data:=.seq ([]:List Value).toArray }=h1 at S1 g1 k1 ⊢;have ty1:ytm { s with heap:=h1 } (.ref a) "set":=by
  obtain⟨o,es,ep,t,ho,hex,_⟩:=S1;exact⟨o,ho,hex.1⟩
 refine yaa (ybl (T:="set") ty1 ?_);have ns:yem (.ref s.heap.objs.size) (.ref a)=false:=by simp[yem,nSa]
 simp only[ns,show (Value.type "set" == Value.type "list")=false by decide,show (Value.type "set" == Value.type "tuple")=false by decide,ynf,yqd,if_false];refine yaa (zjsb (s:={ s with heap:=h1 }) (A:=A.in1) hh S1 λh2 d2 I n fp P St k2 hI hfp W st hn hv=>?_);have ty2:ytm { s with heap:=h2,drawn:=d2 } (.ref a) "set":=by
  obtain⟨o,e,c⟩:=ty1;exact⟨o,k2 _ _ e,c⟩
 have slt:s.heap.objs.size<h1.objs.size:=ysa g1;have nf:s.heap.objs.size∉fp:=λz=>by
  rcases hfp _ z with z|z
  ·exact nSa z
  ·exact absurd (yxa slt z) (yud _)
 have key:∀(R':Result->Shared->Prop) (h3:Heap) (c:Nat),St 0 h3->(∀b o,b≠s.heap.objs.size->h2.get? b=some o->h3.get? b=some o)->h3.get? s.heap.objs.size=some { cls:=.type "list",dict:=none,data:=.seq #[] c,slots:=#[] } →
   (∀(h4:Heap) (tk:Nat) (vs:List Value) (ys:List Str) (c':Nat),(∀b o,s.heap.get? b=some o->h4.get? b=some o)->yil vs ys->ys.Perm D->h4.get? s.heap.objs.size=some { cls:=.type "list",dict:=none,data:=.seq vs.toArray c',slots:=#[] }->R' (.ok (.ret (.ref s.heap.objs.size))) { s with heap:=h4,drawn:=d2,toks:=tk }) →
   yej (model prog w) A (.builtin "list.extend.loop" ⟨[.ref s.heap.objs.size,.ref I,.ref s.heap.objs.size],[]⟩) R' { s with heap:=h3,drawn:=d2 }:=by
  intro R' h3 c st3 k3 g3 hR;refine codeAny_extend_loopS W.toS (by omega) s.heap.objs.size nf _ n 0 _ #[] c rfl (ygb _) st3 g3 (ItemsOf.nil _) λs' acc c' mv g' ia=>?_;rw[Moved.eq_with mv];obtain⟨ys,sy,py⟩:=hv acc.toList (by rw[yib];exact ia.1) λi v e=>ia.2 i v (by rw[← yvb];exact e);refine hR s'.heap s'.toks acc.toList ys c' (λb o e=>?_) sy py (by rw[ype];exact g');have nb:b≠s.heap.objs.size:=ydb (ysa e);refine mv.heap b o (λz=>?_) (k3 b o nb (k2 b o (k1 b o e)))
  rcases yla.mp z with z|z
  ·exact nb z
  ·have bi:b=I:=yga.mp z;have:=ysa (k1 b o e);rw[bi] at this;exact absurd (yxa this hI) (yud _)
 have g2:=k2 _ _ g1;have fin:∀(h4:Heap) (tk:Nat) (vs:List Value) (ys:List Str) (c':Nat),(∀b o,s.heap.get? b=some o->h4.get? b=some o)->yil vs ys->ys.Perm D->h4.get? s.heap.objs.size=some { cls:=.type "list",dict:=none,data:=.seq vs.toArray c',slots:=#[] } →
   wpAny (model prog w) A (load s.heap.objs.size >>= λo=>match o.data with
    | .seq xs _=>pure xs.toList
    | _=>unsupported "internal:collect") R E { s with heap:=h4,drawn:=d2,toks:=tk }:=λh4 tk vs ys c' k4 sy py g4=>by
  refine yaa (yoq g4 ?_);show wpAny _ _ (pure vs.toArray.toList) _ _ _
  exact yda (h h4 d2 tk vs ys k4 (ysa g4) sy py)
 refine yaa (ymc (zmsb ty2 ?_));refine yti (λ_=>?_) (λ_=>yda ⟨yvd ykl _,key _ h2 0 st (λb o _ e=>e) g2 fin⟩);refine yaa (yhj (yaa ?_));show wpAny _ _ (updateSeq s.heap.objs.size (·.push .none) >>= λ_=>updateSeq s.heap.objs.size (·.pop)) _ _ _
 refine yaa (yih g2 rfl ?_);have g3:=yzc (yhe (·.push Value.none)) g2 rfl;refine yih (hz:=by seq_fits) g3 rfl ?_;have g4:=yzc (yhe (·.pop)) g3 rfl;refine yda ⟨yvd ykl _,key _ _ _ ?_ (λb o nb e=>?_) g4 fin⟩
 ·refine W.frame 0 _ _ st λb hb o e=>?_;have nb:s.heap.objs.size≠b:=λz=>nf (z▸hb);exact (ycc _ _ nb).trans ((ycc _ _ nb).trans e)
 ·exact (ycc _ _ (yge nb)).trans ((ycc _ _ (yge nb)).trans e)
theorem zqib {a:Addr}{D:List Str}{Q:Value->Shared->Prop}(hh:A.handled=none)(hS:SS prog w s.heap a D (!w.params.followText "set-order"))(h64:D.length<64)
  (h:∀(h':Heap) (d':Drawn) (tk:Nat) (p:Addr) (vs:List Value) (ys:List Str) (n:Nat),(∀b o,s.heap.get? b=some o->h'.get? b=some o)->s.heap.objs.size≤p->h'.get? p=some { cls:=.type "list",data:=.seq vs.toArray n }->yil vs ys->ys.Perm D->ycg ys=true →
   Q (.ref p) { s with heap:=h',drawn:=d',toks:=tk }):wpAny (model prog w) A (call (.builtin "sorted") [.ref a]) Q E s:=by
 refine yll kind_sorted plain_sorted entry_sorted (args_sorted1 _) ?_;unfold yod.«sorted»;refine yaa (m:=checkCount "sorted" 1 1 _) (yda (yaa (zgfb (A:=A.in1) hh hS λh1 d1 tk vs ys k1 lt1 sy py=>?_)));have vl:vs.length<64:=by rw[sy.length,py.length_eq];exact h64
 refine yaa (ykq ?_ (yua (ymf vl) (by decide)));have g1:(h1.push (seqObj "list" vs.toArray 0)).get? h1.objs.size=some (seqObj "list" vs.toArray 0):=yna _ rfl;refine yaa (ymc (ylc slot_list_sort ⟨_,g1,rfl⟩ entry_list_sort (list_sort_treeK strKind_oneLt g1 sy.keysOf (λv1 v2 rest e=>keyKind_strs (by rw[← e];exact sy)) vl λst' a1 a2=>⟨_,rfl,?_⟩) (args_list_sort _)));obtain⟨zs,z1,z2,z3⟩:=sorted_out_str sy a1 a2;obtain⟨e,he⟩:=sortedHeap_at (vs:=vs) (out:=(arrOf st').map (·.2)) g1;refine yda ⟨_,rfl,h _ d1 tk h1.objs.size ((arrOf st').map (·.2)).toList zs e (λb o q=>?_) (ymf lt1) ?_ z1 (z2.trans py) z3⟩
 ·have q1:=k1 b o q;have bl:=ysa q1;rw[sortedHeap_old (ydb bl) (by rw[size_push'];exact yye bl)];exact yba _ q1
 ·rw[ype];exact he
end
end SSet
namespace L2
open PySem PySem.Spec PyProof.Rows
theorem strs_vals':∀{vs:List Value} {ys:List Str},yil vs ys->Vals (ys.map V.str) vs
 | _,_,.nil=>.nil
 | _,_,.cons x t r=>.cons ⟨t,rfl⟩ (strs_vals' r)
def setO (X:Cx)(l:Addr)(D:List Str):HO:=.ext λh=>SSet.SS X.prog X.w h l D (!X.w.params.followText "set-order")
section
variable {X:Cx}
theorem Inv.zuvb {pins:List (Addr×Obj)}{σ:St}{H:Hp}{s:Shared}(I:Inv X pins σ H s)(d:Drawn):Inv X pins σ H { s with drawn:=d } :=
 I.call (h':=s.heap) (g':=s.gens) (d':=d) (t':=s.toks) (ch:=[]) (Un.kept λb o e=>e) I.hok I.bare (λb z=>absurd z (by simp))
theorem zyy (hc:X.calm=true):zui X (.type "set") (λxs H Q=>Ex2 λp ys=>xs=[.ref p]∧SqL X.K H p (ys.map V.str)∧ys.length≤1000∧∀l,H l=none->Q (.ref l) (upd H l (setO X l (SSet.dd ys)))):=by
 intro pins s σ H xs us Q I r h;obtain⟨p,ys,rfl,hq,hy,q⟩:=h;obtain⟨u,rfl,ru⟩:=vals1 r;cases ru;obtain⟨its,rv,pl,hz⟩:=I.list hq;have sy:=zcl rv;have il:its.length=ys.length:=sy.length;refine SSet.set_list (xs:=ys) (I.ok.hd hc) pl.isList (by simpa using sy) (by rw[yqa,il];have:yrj=4096:=rfl;omega) λh' tk S k=>?_;have I1:Inv X pins σ (upd H s.heap.objs.size (setO X s.heap.objs.size (SSet.dd ys))) { s with heap:=h',toks:=tk }:=I.laid (t':=tk) (λb o e=>k b o e) (yha _) ⟨S,let ⟨o,_,_,_,e,_⟩:=S;⟨o,e⟩,λh1 h2 x y=>x.keep y⟩;exact⟨.ref s.heap.objs.size,_,I1,rfl,q _ (I.hok.fresh (yha _))⟩
theorem zql (hc:X.calm=true):zui X (.builtin "sorted") (λxs H Q=>Ex2 λl D=>xs=[.ref l]∧H l=some (setO X l D)∧D.length<64∧∀p ys,H p=none->ys.Perm D->ycg ys=true->Q (.ref p) (upd H p (.lst (ys.map V.str)))):=by
 intro pins s σ H xs us Q I r h;obtain⟨l,D,rfl,hl,h64,q⟩:=h;obtain⟨u,rfl,ru⟩:=vals1 r;cases ru;obtain⟨S,_,_⟩:=I.hok l _ hl;refine SSet.zqib (I.ok.hd hc) S h64 λh' d' tk p vs ys n k hp g sy py so=>?_;have I0:=I.zuvb d';have vl:vs.length≤yta:=by
  rw[sy.length,py.length_eq];exact yua (ymf h64) (by decide)
 have I1:Inv X pins σ (upd H p (.lst (ys.map V.str))) { s with heap:=h',drawn:=d',toks:=tk }:=I0.laid (t':=tk) (λb o e=>k b o e) hp ⟨by rw[yea,← sy.length];exact vl,vs,n,strs_vals' sy,g⟩;exact⟨.ref p,_,I1,rfl,q p ys (I.hok.fresh hp) py so⟩
end
end L2
namespace L2
open PySem PySem.Spec PyProof.Rows
theorem ztsb {x:Str}:∀{v:Value},KTD.flatLooks (.str x) v=true->RelV (.str x) v
 | .str y t,h=>⟨t,by rw[show x=y from beq_iff_eq.mp h]⟩
theorem ziw:∀{ss:List Str} {vs:List Value},KTD.flatsLook (ss.map PyData.str) vs=true->Vals (ss.map V.str) vs
 | [],[],_=>.nil
 | x::ss,v::vs,h=>by
  rw[ybb] at h;have h':(KTD.flatLooks (.str x) v&&KTD.flatsLook (ss.map PyData.str) vs)=true:=h;rw[ysc] at h';exact .cons (ztsb h'.1) (ziw h'.2)
def TupK (K:yca)(a:Addr)(ss:List Str):Prop:=yhg (λb=>K.lookup b) (.tup (ss.map PyData.str)) (.ref a)=true
theorem TupK.sq {K:yca}{a:Addr}{ss:List Str}(h:TupK K a ss)(hz:ss.length≤1000)(H:Hp):SqT K H a (ss.map V.str):=by
 unfold TupK yhg at h;simp only at h
 split at h
 ·rename_i o ho;rw[ysc] at h;obtain⟨e1,e2⟩:=h
  split at e2
  ·rename_i vs n hd;have V:=ziw e2;have hl:=V.length;refine .inr ⟨o,vs,n,ho,beq_iff_eq.mp e1,hd,?_,V⟩;rw[yea] at hl;have:vs.size=ss.length:=by simpa using hl.symm
   rw[this];exact yua hz (by decide)
  ·cases e2
 ·cases h
theorem zasb {K:yca}{ss:List Str}:∀{v:Value},yhg (λb=>K.lookup b) (.tup (ss.map PyData.str)) v=true->∃b,v = .ref b∧TupK K b ss
 | .ref b,h=>⟨b,rfl,h⟩
section
variable {X:Cx}{a:Addr}{D:List (Str×yks)}
abbrev TabK (K:yca)(a:Addr)(D:List (Str×yks)):Prop:=yvm (yhg λb=>K.lookup b) (λb=>K.lookup b) a D=true
theorem zuwb {K:yca}(hK:X.K=K)(l:TabK K a D):IxR X (λx y H Q=>Ex2 λk ss=>x = .ref a∧y = .str k∧ymk k D=some (.tup (ss.map PyData.str))∧∀b,TupK K b ss->Q (.ref b) H):=by
 subst hK;intro value slice pins s σ H x y v u Q I rx ry h hs;obtain⟨k,ss,rfl,rfl,hat,q⟩:=h;cases rx;obtain⟨tk,rfl⟩:=ry;obtain⟨_,o,es,ep,ho,hc,hd,hr⟩:=KTD.tab_of_look (R:=λd v=>yhg (λb=>X.K.lookup b) d v=true) (λ_ _ z=>z) (h:=s.heap) (λb o z=>I.kIn b o z) l;obtain⟨z,hz,hl⟩:=hr.find_some hat
 obtain⟨b,rfl,hb⟩:=zasb hl;have ty:s.TypeIs (.ref a) "dict":=⟨o,ho,hc.1⟩;refine yaj (x:=.ref b) ty ybg.lookup ?_ hs;unfold yom
 try with_reducible refine ymc ?_
 refine yaa (yul ty (by decide) ?_);refine yaa (yhc (name:=yue "__getitem__") ty ybg
  (ylc ybg ty entry_dict_getitem ?_ (args_dict_getitem _ _)))
 have fin:∀k',EP X pins σ Q (.ref b) { s with toks:=k' }:=λk'=>⟨.ref b,H,I.tok _,rfl,q b hb⟩;have fnd:findBy (λk v=>v.isStr k) es k=some (.ref b):=by
  rw[← hz];obtain⟨l⟩:=es;simp[findBy]
 show wpAny _ _ (dictGet a (.str k tk) >>= _) _ _ s
 refine yaa ?_;unfold dictGet
 try with_reducible refine ymc ?_
 refine yaa (wpAny_pyHash_str (yaa (KTD.kt_dictFind_strs (s:={ s with toks:=s.toks+1 }) ho hd (by obtain⟨l⟩:=es;simpa using hr.exact) ?_)));rw[findBy_of_findIdx?] at fnd;cases hi:es.findIdx? λe=>e.key.isStr k with
 | none=>rw[hi] at fnd;cases fnd
 | some i =>
  rw[hi] at fnd;refine yaa (yij (s:={ s with toks:=s.toks+1 }) ho hd (yda ?_));rw[show es[i]?.map (·.val)=some (.ref b) from fnd];exact yda ⟨_,rfl,yda ⟨rfl,fin _⟩⟩
end
structure Isi (K:yca)(C:Addr):Prop where
 ha:ymb K (.ref C) "__class__" = some (some (.builtin "object.__class__"))
 hn:yfj K (.builtin "object.__class__") "__get__" = some (some (.builtin "getset_descriptor.__get__"))
 ht:ysn K (.builtin "object.__class__")=some true
 hm:yxp K C (.type "object")=some true
 oStr:yoc K (.ref C) (.type "str")=some false
 oInt:yoc K (.ref C) (.type "int")=some false
 oTup:yoc K (.ref C) (.type "tuple")=some false
 oLst:yoc K (.ref C) (.type "list")=some false
 sO:yoc K (.type "str") (.ref C)=some false
 iO:yoc K (.type "int") (.ref C)=some false
end L2
namespace L2
open PySem PySem.Spec PyProof.Rows
section
variable {X:Cx}
theorem zwk:zui X (.builtin "sorted") (λxs H Q=>Ex2 λl zs=>xs=[.ref l]∧SqL X.K H l (zs.map V.str)∧zs.length<64∧∀p ys,H p=none->ys.Perm zs->ycg ys=true->Q (.ref p) (upd H p (.lst (ys.map V.str)))):=by
 intro pins s σ H xs us Q I r h;obtain⟨l,zs,rfl,hl,h64,q⟩:=h;obtain⟨u,rfl,ru⟩:=vals1 r;cases ru;obtain⟨its,rv,pl,_⟩:=I.list hl;have sy:=zcl rv;refine sorted_strs (vs:=its) (ss:=zs) pl.isList sy (by rw[sy.length];exact h64) λout ys a1 a2 a3=>?_;obtain⟨e,he⟩:=sortedAll_at s.heap its out;have vl:out.toList.length≤yta:=by
  rw[a1.length,a2.length_eq];exact yua (ymf h64) (by decide)
 have I1:Inv X pins σ (upd H (s.heap.objs.size+1) (.lst (ys.map V.str))) { s with heap:=yms s.heap its out }:=I.laid (t':=s.toks) (λb o e=>sortedAll_old e) (yke _) ⟨by rw[yea,← a1.length];exact vl,out.toList,e,strs_vals' a1,by rw[ype];exact he⟩;exact⟨.ref (s.heap.objs.size+1),_,I1,rfl,q _ ys (I.hok.fresh (yke _)) a2 a3⟩
end
end L2
namespace TSort
open PySem PyProof.Rows
abbrev IL:=List Int
section keys
variable (k:Value->IL)
def ka (xs:Array Keyed)(i:Nat):IL:=((xs[i]?).map λp=>k p.1).getD []
def Up (xs:Array Keyed)(n:Nat):Prop:=∀i j,i<j->j<n->ka k xs i<ka k xs j
def Dn (xs:Array Keyed)(n:Nat):Prop:=∀i j,i<j->j<n->ka k xs j<ka k xs i
variable {k}
theorem zisb {xs ys:Array Keyed}{i j:Nat}(e:xs[i]?=ys[j]?):ka k xs i=ka k ys j:=by
 unfold ka;rw[e]
theorem Up.more {xs:Array Keyed}{n:Nat}(h:Up k xs n)(h1:1≤n)(e:ka k xs (n-1)<ka k xs n):Up k xs (n+1):=by
 intro i j a b
 rcases yof j n with c|c
 ·exact h i j a c
 ·obtain rfl:j=n:=by omega
  rcases yof i (j-1) with d|d
  ·exact yqh (h i (j-1) d (by omega)) e
  ·obtain rfl:i=j-1:=by omega
   exact e
theorem Dn.more {xs:Array Keyed}{n:Nat}(h:Dn k xs n)(h1:1≤n)(e:ka k xs n<ka k xs (n-1)):Dn k xs (n+1):=by
 intro i j a b
 rcases yof j n with c|c
 ·exact h i j a c
 ·obtain rfl:j=n:=by omega
  rcases yof i (j-1) with d|d
  ·exact yqh e (h i (j-1) d (by omega))
  ·obtain rfl:i=j-1:=by omega
   exact e
theorem Dn.turn {xs:Array Keyed}{n:Nat}(h:Dn k xs n)(hn:n≤xs.size):Up k (mirror xs 0 n ((n-0) / 2)) n:=by
 intro i j a b;have e:∀m,m<n->ka k (mirror xs 0 n ((n-0) / 2)) m=ka k xs (0+n-1-m):=λm hm=>by
  have z:=getElem?_mirror_all (i:=0) hn m;rw[if_pos ⟨ygb _,hm⟩] at z;exact zisb z
 rw[e i (by omega),e j b];exact h _ _ (by omega) (by omega)
end keys
structure Ok (a0:Array Keyed)(kd:yvo)(st:SortSt):Prop where
 perm:(arrOf st).Perm a0
 kind:kindOf st=kd
 none:failedOf st=none
 pend:yfo st=#[]
theorem Ok.size {a0:Array Keyed}{kd:yvo}{st:SortSt}(h:Ok a0 kd st):(arrOf st).size=a0.size:=h.perm.size_eq
theorem Ok.put {a0:Array Keyed}{kd:yvo}{st:SortSt}(h:Ok a0 kd st){xs:Array Keyed}(p:xs.Perm (arrOf st)):Ok a0 kd (setArr st xs):=⟨p.trans h.perm,h.kind,h.none,h.pend⟩
section
variable {pr:yqb}{wo:World}{Ar:Around}{Ex:Value->Shared->Prop}{sh:Shared}{k:Value->IL}{a0:Array Keyed}{kd:yvo}
structure Cmp (pr:yqb)(wo:World)(Ar:Around)(Ex:Value->Shared->Prop)(sh:Shared)(k:Value->IL)(a0:Array Keyed)(kd:yvo):Prop where
 lt:∀(x y:Keyed) (st:SortSt) (R:Option Bool->SortSt->Prop),kindOf st=kd->x∈a0.toList->y∈a0.toList->k x.1≠k y.1->R (some (decide (k x.1<k y.1))) st->wpS (model pr wo) Ar Ex sh (lt' x y) R st
 un:(a0.toList.map λp=>k p.1).Nodup
theorem Cmp.apart (C:Cmp pr wo Ar Ex sh k a0 kd){st:SortSt}(G:Ok a0 kd st){i j:Nat}(hi:i<a0.size)(hj:j<a0.size)(n:i≠j):ka k (arrOf st) i≠ka k (arrOf st) j:=by
 have p:=(yth.mp G.perm).map λq:Keyed=>k q.1;have u:((arrOf st).toList.map λq:Keyed=>k q.1).Nodup:=p.symm.nodup C.un;have zi:i<(arrOf st).size:=by rw[G.size];exact hi
 have zj:j<(arrOf st).size:=by rw[G.size];exact hj
 have g:=yqf.mp u;have ei:ka k (arrOf st) i=k (arrOf st)[i].1:=by unfold ka;rw[ynb zi];rfl
 have ej:ka k (arrOf st) j=k (arrOf st)[j].1:=by unfold ka;rw[ynb zj];rfl
 rw[ei,ej]
 rcases Nat.lt_or_gt_of_ne n with c|c
 ·have z:=g i j (by simpa using zi) (by simpa using zj) c;rw[ykf,ykf] at z;exact z
 ·have z:=g j i (by simpa using zj) (by simpa using zi) c;rw[ykf,ykf] at z;exact λe=>z e.symm
theorem Cmp.at (C:Cmp pr wo Ar Ex sh k a0 kd){st:SortSt}(G:Ok a0 kd st){i j:Nat}(hi:i<a0.size)(hj:j<a0.size)(n:i≠j){R:Option Bool->SortSt->Prop}
  (h:R (some (decide (ka k (arrOf st) i<ka k (arrOf st) j))) st):wpS (model pr wo) Ar Ex sh (ltAt' i j) R st:=by
 have ap:=C.apart G hi hj n;have zi:i<(arrOf st).size:=by rw[G.size];exact hi
 have zj:j<(arrOf st).size:=by rw[G.size];exact hj
 have ei:(arrOf st)[i]?=some (arrOf st)[i]:=ynb zi;have ej:(arrOf st)[j]?=some (arrOf st)[j]:=ynb zj;have m:∀q:Keyed,q∈(arrOf st).toList->q∈a0.toList:=λq hq=>(yth.mp G.perm).mem_iff.mp hq;rw[ltAt'_eq];refine yid (yns ?_);show wpS (model pr wo) Ar Ex sh (elem' (arrOf st) i >>= λx=>elem' (arrOf st) j >>= λy=>lt' x y) R st
 rw[elem'_eq,elem'_eq,ei,ej];refine yid (yqe (yid (yqe ?_)));have ki:ka k (arrOf st) i=k (arrOf st)[i].1:=by unfold ka;rw[ei];rfl
 have kj:ka k (arrOf st) j=k (arrOf st)[j].1:=by unfold ka;rw[ej];rfl
 rw[ki,kj] at h ap;exact C.lt _ _ st R G.kind (m _ (by simp)) (m _ (by simp)) ap h
theorem not_lt {a b:IL}(n:a≠b)(h:¬ a<b):b<a:=by
 rcases Decidable.em (b<a) with c|c
 ·exact c
 ·exact absurd (yyr (yjp.mp c) (yjp.mp h)) n
theorem Cmp.asc (C:Cmp pr wo Ar Ex sh k a0 kd){st:SortSt}(G:Ok a0 kd st){a m:Nat}(hm:m≤a0.size)(h1:1≤a)(h2:a≤m)(u:Up k (arrOf st) a){R:AscSt->SortSt->Prop}
  (q:∀n,a≤n->n≤m->Up k (arrOf st) n->(n=m∨ka k (arrOf st) n<ka k (arrOf st) (n-1))->R (none,n) st):wpS (model pr wo) Ar Ex sh (ascLoop a m) R st:=by
 unfold ascLoop;refine yuj (I:=λx c z=>z=st∧c=(none,x)∧Up k (arrOf st) x) (λx c z ax xm I=>?_) (λc z I=>?_) ⟨rfl,rfl,u⟩
 ·obtain⟨rfl,rfl,v⟩:=I;dsimp only;refine yid (C.at G (by omega) (by omega) (by omega) ?_);have ap:=C.apart G (i:=x) (j:=x-1) (by omega) (by omega) (by omega)
  by_cases c:ka k (arrOf z) x<ka k (arrOf z) (x-1)
  ·rw[decide_eq_true c];exact yqe (q x ax (by omega) v (.inr c))
  ·rw[decide_eq_false c];exact yqe ⟨rfl,rfl,v.more (by omega) (not_lt ap c)⟩
 ·obtain⟨rfl,rfl,v⟩:=I;rw[show max a m=m by omega] at v ⊢;exact q m h2 (yha _) v (.inl rfl)
theorem Cmp.last (C:Cmp pr wo Ar Ex sh k a0 kd){st:SortSt}(G:Ok a0 kd st){n m:Nat}(hm:m≤a0.size)(h1:1≤n)(h2:n≤m)(d:Dn k (arrOf st) n){R:Option Nat->SortSt->Prop}
  (q:∀l z,Ok a0 kd z->1≤l->l≤m->Up k (arrOf z) l->R (some l) z):wpS (model pr wo) Ar Ex sh (tail3 n m) R st:=by
 unfold tail3;refine yid (wpS_reverse ?_);have G':Ok a0 kd (setArr st (mirror (arrOf st) 0 n ((n-0) / 2))):=G.put (mirror_perm _ _ _ _);exact yid (C.asc G' hm h1 h2 (d.turn (by rw[G.size];omega)) λl a b c _=>yqe (q l _ G' (by omega) b c))
theorem Cmp.desc (C:Cmp pr wo Ar Ex sh k a0 kd){st:SortSt}(G:Ok a0 kd st){n m:Nat}(hm:m≤a0.size)(h1:1≤n)(h2:n≤m)(d:Dn k (arrOf st) n){R:DescSt->SortSt->Prop}
  (q:∀l,n≤l->l≤m->Dn k (arrOf st) l->R (none,l,0) st):wpS (model pr wo) Ar Ex sh (descLoop n m) R st:=by
 unfold descLoop;refine yuj (I:=λx c z=>z=st∧c=(none,x,0)∧Dn k (arrOf st) x) (λx c z ax xm I=>?_) (λc z I=>?_) ⟨rfl,rfl,d⟩
 ·obtain⟨rfl,rfl,v⟩:=I;dsimp only;refine yid (C.at G (by omega) (by omega) (by omega) ?_);have ap:=C.apart G (i:=x) (j:=x-1) (by omega) (by omega) (by omega)
  by_cases c:ka k (arrOf z) x<ka k (arrOf z) (x-1)
  ·rw[decide_eq_true c];exact yqe ⟨rfl,rfl,v.more (by omega) c⟩
  ·rw[decide_eq_false c];refine yid (C.at G (by omega) (by omega) (by omega) ?_);rw[decide_eq_true (not_lt ap c)];exact yqe (q x ax (by omega) v)
 ·obtain⟨rfl,rfl,v⟩:=I;rw[show max n m=m by omega] at v ⊢;exact q m h2 (yha _) v
theorem Cmp.part (C:Cmp pr wo Ar Ex sh k a0 kd){st:SortSt}(G:Ok a0 kd st){n m:Nat}(hm:m≤a0.size)(h2:n+1≤m)(d:Dn k (arrOf st) (n+1)){R:Option Nat->SortSt->Prop}
  (q:∀l z,Ok a0 kd z->1≤l->l≤m->Up k (arrOf z) l->R (some l) z):wpS (model pr wo) Ar Ex sh (descPart n m) R st:=by
 unfold descPart;refine yid (wpS_lift (yhj ⟨rfl,?_⟩));refine yid (C.desc G hm (by omega) h2 d λl a b c=>?_);exact C.last G hm (by omega) b c q
theorem Cmp.run (C:Cmp pr wo Ar Ex sh k a0 kd){st:SortSt}(G:Ok a0 kd st){m:Nat}(hm:m≤a0.size)(h1:1≤m){R:Option Nat->SortSt->Prop}
  (q:∀l z,Ok a0 kd z->1≤l->l≤m->Up k (arrOf z) l->R (some l) z):wpS (model pr wo) Ar Ex sh (countRun' 0 m) R st:=by
 rw[countRun0_eq];refine yid (C.asc G hm (yha 1) h1 (λi j a b=>by omega) λn a b c d=>?_);dsimp only
 by_cases e:n=m
 ·rw[if_pos (by simpa using e)];exact yqe (q n st G a b c)
 ·rw[if_neg (by simpa using e)];have lt:=d.resolve_left e
  by_cases g:n>1
  ·rw[if_pos g];refine yid (C.at G (by omega) (by omega) (by omega) ?_);rw[decide_eq_true (c 0 (n-1) (by omega) (by omega))];exact yqe (q n st G a b c)
  ·rw[if_neg g];obtain rfl:n=1:=by omega
   refine C.part G hm (by omega) (λi j x y=>?_) q;obtain rfl:i=0:=by omega
   obtain rfl:j=1:=by omega
   exact lt
end
end TSort
namespace TSort
open PySem PyProof.Rows
theorem zxbb {k:Value->IL}{xs:Array Keyed}{c l:Nat}(hc:c<xs.size)(hl:l≤c)(m:Nat) :
  ka k (bubble xs c (c-l)) m=if m=l then ka k xs c else if l<m∧m≤c then ka k xs (m-1) else ka k xs m:=by
 have z:=getElem?_bubble hc (c-l) (by omega) m;rw[show c-(c-l)=l by omega] at z
 by_cases a:m=l
 ·rw[if_pos a] at z ⊢;exact zisb z
 ·rw[if_neg a] at z ⊢
  by_cases b:l<m∧m≤c
  ·rw[if_pos b] at z ⊢;exact zisb z
  ·rw[if_neg b] at z ⊢;exact zisb z
theorem Up.put {k:Value->IL}{xs:Array Keyed}{c l:Nat}(h:Up k xs c)(hc:c<xs.size)(hl:l≤c)(lo:∀i,i<l->ka k xs i<ka k xs c)(hi:∀i,l≤i->i<c->ka k xs c<ka k xs i):Up k (bubble xs c (c-l)) (c+1):=by
 intro i j a b;rw[zxbb hc hl,zxbb hc hl]
 by_cases i1:i=l
 ·rw[if_pos i1,if_neg (by omega),if_pos (by omega)];exact hi _ (by omega) (by omega)
 ·rw[if_neg i1]
  by_cases j1:j=l
  ·rw[if_pos j1,if_neg (by omega)];exact lo i (by omega)
  ·rw[if_neg j1]
   by_cases i2:l<i∧i≤c
   ·rw[if_pos i2,if_pos (by omega)];exact h _ _ (by omega) (by omega)
   ·rw[if_neg i2]
    by_cases j2:l<j∧j≤c
    ·rw[if_pos j2];exact h _ _ (by omega) (by omega)
    ·rw[if_neg j2];exact h _ _ a (by omega)
section
variable {pr:yqb}{wo:World}{Ar:Around}{Ex:Value->Shared->Prop}{sh:Shared}{k:Value->IL}{a0:Array Keyed}{kd:yvo}
theorem Cmp.ins (C:Cmp pr wo Ar Ex sh k a0 kd){st:SortSt}(G:Ok a0 kd st){n m:Nat}(hn:n≤a0.size)(hm:m≤n)(u:Up k (arrOf st) m){R:Bool->SortSt->Prop}
  (q:∀z,Ok a0 kd z->Up k (arrOf z) n->R true z):wpS (model pr wo) Ar Ex sh (binarySort' 0 n m) R st:=by
 rw[binarySort'_eq];simp only[ygo];refine yid (wpS_mono (yuj (I:=λc o z=>o=(none,())∧Ok a0 kd z∧Up k (arrOf z) (min c n)) (Q:=λo z=>o=(none,())∧Ok a0 kd z∧Up k (arrOf z) n) (λc o z mc cn I=>?_) (λo z I=>?_) ⟨rfl,G,λi j a b=>?_⟩) λo z I=>?_)
 ·obtain⟨rfl,G',v⟩:=I;rw[show min c n=c by omega] at v;have sz:c<(arrOf z).size:=by rw[G'.size];omega
  refine yid (wpS_mono (yuj (I:=λx o y=>y=z∧Ex2 λl r=>o=(none,l,r)∧l≤r∧r≤c∧r-l≤c-x∧(∀i,i<l->ka k (arrOf z) i<ka k (arrOf z) c)∧∀i,r≤i->i<c->ka k (arrOf z) c<ka k (arrOf z) i)
   (Q:=λo y=>y=z∧Ex2 λl r=>o=(none,l,r)∧l≤c∧(∀i,i<l->ka k (arrOf z) i<ka k (arrOf z) c)∧∀i,l≤i->i<c->ka k (arrOf z) c<ka k (arrOf z) i) (λx o y _ xc J=>?_) (λo y J=>?_) ⟨rfl,0,c,rfl,by omega,by omega,by omega,λi h=>by omega,λi h1 h2=>by omega⟩) λo y J=>?_)
  ·obtain⟨rfl,l,r,rfl,lr,rc,w,lo,hi⟩:=J;dsimp only
   by_cases g:l≥r
   ·rw[if_pos g];obtain rfl:l=r:=by omega
    exact yqe ⟨rfl,l,l,rfl,rc,lo,hi⟩
   ·rw[if_neg g];refine yid (C.at G' (by omega) (by omega) (by omega) ?_);have ap:=C.apart G' (i:=c) (j:=(l+r) / 2) (by omega) (by omega) (by omega)
    by_cases d:ka k (arrOf y) c<ka k (arrOf y) ((l+r) / 2)
    ·rw[decide_eq_true d];refine yqe ⟨rfl,l,(l+r) / 2,rfl,by omega,by omega,by omega,lo,λi h1 h2=>?_⟩
     rcases yof ((l+r) / 2) i with e|e
     ·exact yqh d (v _ _ e h2)
     ·obtain rfl:i=(l+r) / 2:=by omega
      exact d
    ·rw[decide_eq_false d];have d':=not_lt ap d;refine yqe ⟨rfl,(l+r) / 2+1,r,rfl,by omega,by omega,by omega,λi h1=>?_,hi⟩
     rcases yof i ((l+r) / 2) with e|e
     ·exact yqh (v _ _ e (by omega)) d'
     ·obtain rfl:i=(l+r) / 2:=by omega
      exact d'
  ·obtain⟨rfl,l,r,rfl,lr,rc,w,lo,hi⟩:=J;obtain rfl:l=r:=by omega
   exact⟨rfl,l,l,rfl,rc,lo,hi⟩
  ·obtain⟨rfl,l,r,rfl,lc,lo,hi⟩:=J;refine yid (m:=moveDown' c l) ?_;rw[moveDown'_eq];refine wpS_modify (yqe ⟨rfl,G'.put (bubble_perm _ _ _),?_⟩);rw[show min (c+1) n=c+1 by omega];exact v.put sz lc lo hi
 ·obtain⟨rfl,G',v⟩:=I;rw[show min (max (max m 1) n) n=n by omega] at v;exact⟨rfl,G',v⟩
 ·exact u i j a (by omega)
 ·obtain⟨rfl,G',v⟩:=I;exact yqe (q z G' v)
structure Fin (k:Value->IL)(a0:Array Keyed)(st:SortSt):Prop where
 perm:(arrOf st).Perm a0
 none:failedOf st=none
 pend:yfo st=#[(0,a0.size,0)]
 up:Up k (arrOf st) a0.size
theorem Ok.fin {st:SortSt}(G:Ok a0 kd st)(u:Up k (arrOf st) a0.size):Fin k a0 (setPending st ((yfo st).push (0,a0.size,0))) :=
 ⟨G.perm,G.none,by show (yfo st).push (0,a0.size,0)=#[(0,a0.size,0)];rw[G.pend];rfl,u⟩
theorem Cmp.all (C:Cmp pr wo Ar Ex sh k a0 kd){st:SortSt}(G:Ok a0 kd st)(h2:2≤a0.size)(h64:a0.size<64){R:Unit->SortSt->Prop}
  (q:∀z,(arrOf z).Perm a0->failedOf z=none->Up k (arrOf z) a0.size->R () z):wpS (model pr wo) Ar Ex sh sortRuns' R st:=by
 rw[sortRuns'_eq];refine yid (yns ?_);dsimp only;have mr:minRun' a0.size a0.size 0=a0.size:=by
  obtain⟨f,hf⟩:∃f,a0.size=f+1:=⟨a0.size-1,by omega⟩;have z:minRun' (f+1) a0.size 0=a0.size:=by
   rw[minRun'_succ,if_pos h64,Nat.add_zero]
  rw[← hf] at z;exact z
 simp only[G.size,mr];refine yid (wpS_mono (yuj (I:=λx o z=>(x=0∧o=(none,0)∧Ok a0 kd z)∨(1≤x∧o=(none,a0.size)∧Fin k a0 z)) (Q:=λo z=>o=(none,a0.size)∧Fin k a0 z) (λx o z _ hx I=>?_) (λo z I=>?_) (.inl ⟨rfl,rfl,G⟩)) λo z I=>?_)
 ·rcases I with⟨rfl,rfl,G'⟩|⟨x1,rfl,D⟩
  ·dsimp only;rw[if_neg (by omega)];simp only[yho,Nat.min_self,ygo];refine yid (C.run G' (yha _) (by omega) λl y Gy l1 l2 uy=>?_);dsimp only
   by_cases lt:l<a0.size
   ·rw[if_pos lt];refine yid (wpS_lift (yhj ⟨rfl,?_⟩));refine yid (C.ins Gy (yha _) l2 uy λv Gv uv=>?_);simp only[Bool.not_true,yqd,if_false];refine yid (yns ?_);rw[show (yfo v).back?=none by rw[Gv.pend];rfl];exact yid (wpS_modify (yqe (.inr ⟨by omega,rfl,Gv.fin uv⟩)))
   ·rw[if_neg lt];obtain rfl:l=a0.size:=by omega
    refine yid (yns ?_);rw[show (yfo y).back?=none by rw[Gy.pend];rfl];exact yid (wpS_modify (yqe (.inr ⟨by omega,rfl,Gy.fin uy⟩)))
  ·dsimp only;rw[if_pos (yha _)];exact yqe ⟨rfl,D⟩
 ·rcases I with⟨hx,_,_⟩|⟨_,ho,D⟩
  ·omega
  ·exact⟨ho,D⟩
 ·obtain⟨rfl,D⟩:=I;dsimp only;refine yid (wpS_mono (yuj (I:=λ_ o y=>y=z∧o=(none,())) (Q:=λo y=>y=z∧o=(none,())) (λx o y _ _ J=>?_) (λ_ _ J=>J) ⟨rfl,rfl⟩) λo y J=>?_)
  ·obtain⟨rfl,rfl⟩:=J;refine yid (yns ?_);rw[if_pos (by rw[D.pend];exact yha 1)];exact yqe ⟨rfl,rfl⟩
  ·obtain⟨rfl,rfl⟩:=J;exact yqe (q _ D.perm D.none D.up)
end
end TSort
namespace TSort
open PySem PyProof.Rows
def TupI (h:Heap)(a:Addr)(ks:IL):Prop:=Ex5 λ(o:Obj) (its:Array Value) (n:Nat) (us rest:List Value)=>h.get? a=some o∧o.cls = .type "tuple" ∧ o.data = .seq its n∧its.toList=us++rest∧yei us ks
theorem TupI.keep {h h':Heap}{a:Addr}{ks:IL}(t:TupI h a ks)(e:∀o,h.get? a=some o->h'.get? a=some o):TupI h' a ks:=by
 obtain⟨o,its,n,us,rest,h1,h2⟩:=t;exact⟨o,its,n,us,rest,e _ h1,h2⟩
def kf (f:Addr->IL):Value->IL
 | .ref a=>f a
 | _=>[]
section
variable {pr:yqb}{wo:World}{Ar:Around}{Ex:Value->Shared->Prop}{sh:Shared}
theorem lex {b fin:Bool}{R:Bool->Shared->Prop}:∀{us vs:List Value} {xs ys:IL} {r1 r2:List Value} {i:Nat},yei us xs->yei vs ys->xs.length=ys.length->xs≠ys->R (decide (xs<ys)) sh->W.KatLex pr wo Ar b fin R ((us++r1).zip (vs++r2)) i sh
 | _,_,_,_,_,_,_,.nil,.nil,_,n,_=>absurd rfl n
 | _,_,_,_,_,_,_,.nil,.cons _ _ _,l,_,_=>by simp at l
 | _,_,_,_,_,_,_,.cons _ _ _,.nil,l,_,_=>by simp at l
 | _,_,_,_,r1,r2,i,.cons x t hx (vs:=us) (ns:=xs),.cons y u hy (vs:=vs) (ns:=ys),l,n,q=>by
  refine W.kat_cons (wpAny_eqBool_int ?_)
  by_cases e:x=y
  ·subst e;rw[show (x==x)=true by simp];refine W.kat_yes (lex hx hy (by simpa using l) (λz=>n (by rw[z])) ?_);have z:decide (x::xs<x::ys)=decide (xs<ys):=by
    apply decide_eq_decide.mpr;rw[yjd]
    constructor
    ·rintro (c|⟨_,c⟩)
     ·exact absurd c (ylq x)
     ·exact c
    ·exact λc=>.inr ⟨rfl,c⟩
   rw[z] at q;exact q
  ·rw[show (x==y)=false by simpa using e];have z:decide (x::xs<y::ys)=decide (x<y):=by
    apply decide_eq_decide.mpr;rw[yjd]
    constructor
    ·rintro (c|⟨c,_⟩)
     ·exact c
     ·exact absurd c e
    ·exact λc=>.inl c
   rw[z] at q;refine W.kat_no ?_;cases (b&&i==0) with
   | true=>exact oneLt_int q
   | false=>exact W.kat_one _ _ (lt_int q)
theorem zysb {f:Addr->IL}{vs:List Value}{m:Nat}{b:Bool}(hv:∀v∈vs,∃a,v = .ref a∧TupI sh.heap a (f a)∧(f a).length=m)(un:(vs.map (kf f)).Nodup):Cmp pr wo Ar Ex sh (kf f) (ykp vs) (tuples' b):=by
 refine⟨λx y st R hk mx my n q=>?_,?_⟩
 ·rw[ydp] at mx my;obtain⟨a,ea,⟨o1,i1,n1,u1,r1,g1,_,d1,l1,t1⟩,m1⟩:=hv _ (yrr mx).2;obtain⟨c,ec,⟨o2,i2,n2,u2,r2,g2,_,d2,l2,t2⟩,m2⟩:=hv _ (yrr my).2;rw[ea,ec] at n q;rw[lt'_eq];refine yid (yns ?_);rw[hk,ea,ec];refine yid (wpS_lift (yph (W.kat_lt g1 d1 g2 d2 ?_)));rw[l1,l2];exact lex t1 t2 (by rw[m1,m2]) n ⟨rfl,yqe q⟩
 ·rw[ydp];have e:(vs.zip vs).map (λp=>kf f p.1)=vs.map (kf f):=by
   rw[show (λp:Keyed=>kf f p.1)=kf f∘Prod.fst from rfl,← yrd,yzr (yha _)]
  rw[e];exact un
theorem znnb {f:Addr->IL}{vs:List Value}{m:Nat}{R:yvo->Shared->Prop}(hm:0<m)(h0:0<vs.length)(hv:∀v∈vs,∃a,v = .ref a∧TupI sh.heap a (f a)∧(f a).length=m)(q:R (tuples' true) sh):wpAny (model pr wo) Ar (keyKind' vs.toArray) R Ex sh:=by
 have all:∀vs:List Value,(∀v∈vs,∃a,v = .ref a∧TupI sh.heap a (f a)∧(f a).length=m)->∃fs,W.KatTups sh.heap vs fs∧fs.length=vs.length∧∀v∈fs,Ex2 λx t=>v = .int x t:=by
  intro vs
  induction vs with
  | nil=>exact λ_=>⟨[],.nil,rfl,by simp⟩
  | cons v r ih =>
   intro h;obtain⟨fs,a1,a2,a3⟩:=ih λz hz=>h z (yma _ hz);obtain⟨a,rfl,⟨o,its,n,us,rest,g,c,d,l,t⟩,hl⟩:=h v yka;generalize f a=ks at t hl;cases t with
   | nil=>simp at hl;omega
   | cons x tk h' =>
    refine⟨.int x tk::fs,.cons g c d (by rw[← yvb,l];rfl) a1,by rw[yfa,yfa,a2],?_⟩;intro z hz
    rcases yla.mp hz with e|e
    ·exact⟨x,tk,e⟩
    ·exact a3 z e
 obtain⟨fs,a1,a2,a3⟩:=all vs hv;refine W.kat_kind (T:=.type "int") a1 (by omega) (λv h=>?_) rfl q;obtain⟨x,t,rfl⟩:=a3 v h;exact .now
end
end TSort
namespace TSort
open PySem PyProof.Rows
section
variable {pr:yqb}{wo:World}{Ar:Around}{Ex:Value->Shared->Prop}{sh:Shared}
theorem le64:64≤yta:=by decide
theorem zmtb {f:Addr->IL}{vs:List Value}{xs:Array Keyed}(p:xs.Perm (ykp vs))(u:Up (kf f) xs (ykp vs).size):(xs.map (·.2)).toList.Perm vs∧((xs.map (·.2)).toList.map (kf f)).Pairwise (· < ·):=by
 have pl:xs.toList.Perm (vs.zip vs):=by
  rw[← ydp];exact yth.mp p
 have same:∀q∈xs.toList,q.1=q.2:=λq hq=>(yrr (pl.mem_iff.mp hq)).1;have e:(xs.map (·.2)).toList=xs.toList.map (·.1):=by
  rw[Array.toList_map];exact ygi λq hq=>(same q hq).symm
 refine⟨?_,?_⟩
 ·rw[e];have z:=pl.map Prod.fst;rw[yzr (yha _)] at z;exact z
 ·rw[e,yrd,yqf];intro i j hi hj ij;have hi':i<xs.size:=by simpa using hi
  have hj':j<xs.size:=by simpa using hj
  have z:=u i j ij (by rw[← p.size_eq];exact hj');unfold ka at z;rw[ynb hi',ynb hj'] at z;rw[ykf,ykf];exact z
theorem znvb {f:Addr->IL}{a:Addr}{vs:List Value}{m n:Nat}{R:PySem.Fin->Shared->Prop}(ho:sh.heap.get? a=some (seqObj "list" vs.toArray n))(hm:0<m)(hv:∀v∈vs,∃b,v = .ref b∧TupI sh.heap b (f b)∧(f b).length=m)(un:(vs.map (kf f)).Nodup)(h64:vs.length<64)
  (q:∀out:Array Value,out.toList.Perm vs->(out.toList.map (kf f)).Pairwise (· < ·)->R (.done (.ret .none)) { sh with heap:=sortedHeap sh.heap a vs out }) :
  wpAny (model pr wo) Ar (yod.«list.sort» ⟨[.ref a],[]⟩) R Ex sh:=by
 have lt:a<sh.heap.objs.size:=ysa ho;have len:vs.toArray.size=vs.length:=yqa ..;rw[list_sort_plain];refine yaa (listItems_at ho rfl (yaa (ymq ho rfl ?_)));obtain⟨ep,h1⟩:∃ep,(sh.heap.update a (yhe λ_=>#[])).get? a=some (seqObj "list" #[] ep):=⟨_,get?_update_seq ho λ_=>#[]⟩;refine yaa (seqEpoch_at h1 rfl (yaa (ycp (yaa (ykq (ymc ?_))))));show wpAny (model pr wo) Ar _ R Ex { sh with heap:=((sh.heap.update a (yhe λ_=>#[])).push (seqObj "tuple" vs.toArray 0)).push (seqObj "list" #[] 0) }
 generalize hH:((sh.heap.update a (yhe λ_=>#[])).push (seqObj "tuple" vs.toArray 0)).push (seqObj "list" #[] 0)=H;have h6:H.get? a=some (seqObj "list" #[] ep):=by
  rw[← hH];exact yba _ (yba _ h1)
 have hb:∀v∈vs,∃b,v = .ref b∧TupI H b (f b)∧(f b).length=m:=λv z=>by
  obtain⟨b,e,t,l⟩:=hv v z;refine⟨b,e,t.keep λo g=>?_,l⟩;have nb:b≠a:=by
   rintro rfl;obtain⟨o',_,_,_,_,g',c',_⟩:=t;rw[g'] at ho;cases ho;have z:Value.type "list" = Value.type "tuple":=c';injection z with z
   exact absurd z (by decide)
  rw[← hH];exact yba _ (yba _ ((ywd ..).extBut b o nb g))
 have done:∀out:Array Value,H.update a (yhe λ_=>out)=sortedHeap sh.heap a vs out:=λout=>by rw[← hH];rfl
 dsimp only
 by_cases two:vs.toArray.size<2
 ·rw[if_pos two,if_pos two];refine yaa (yda ?_);rw[StateT.run_pure];refine yaa (yda ?_);dsimp only;refine yaa (seqEpoch_at h6 rfl (yaa (ymq h6 rfl ?_ (hsz2:=?_))))
  ·simp only[bne_self_eq_false,yqd,if_false];obtain⟨a1,a2⟩:=zmtb (f:=f) (vs:=vs) (xs:=ykp vs) (yos _) (λi j ij hj=>by rw[yel] at hj;omega);refine yda ?_;have z:=q _ a1 a2;rw[← done] at z;exact z
  ·rw[Array.size_map];show (ykp vs).size≤yta+1
   rw[yel];have:64≤yta:=by decide
   omega
 ·rw[if_neg two,if_neg two];refine yaa (znnb hm (by omega) hb ?_);have two':2≤(ykp vs).size:=by
   rw[yel];omega
  refine yaa (ykd ((zysb (pr:=pr) (wo:=wo) (Ar:=Ar) (Ex:=Ex) (b:=true) hb un).all (st:=SortSt.mk' (tuples' true) (vs.toArray.zip vs.toArray) #[] 7 none) ⟨yos _,rfl,rfl,rfl⟩ two' (by rw[yel];exact h64) (R:=λ_ z=>(arrOf z).Perm (ykp vs)∧failedOf z=none∧Up (kf f) (arrOf z) (ykp vs).size) λz b1 b2 b3=>⟨b1,b2,b3⟩) ?_ λ_ _ e=>e);rintro⟨⟨⟩,z⟩ s' ⟨rfl,b1,b2,b3⟩;dsimp only;refine yaa (seqEpoch_at h6 rfl (yaa (ymq h6 rfl ?_ (hsz2:=?_))))
  ·rw[b2];simp only[bne_self_eq_false,yqd,if_false];obtain⟨a1,a2⟩:=zmtb b1 b3;refine yda ?_;have y:=q _ a1 a2;rw[← done] at y;exact y
  ·refine yua (yrn ((Array.size_map ..).trans (b1.size_eq.trans (yel _)))) ?_;have:64≤yta:=by decide
   omega
theorem zceb {f:Addr->IL}{l:Addr}{vs:List Value}{m:Nat}{R:Value->Shared->Prop}(hl:sh.heap.IsList l vs.toArray)(hm:0<m)(hv:∀v∈vs,∃b,v = .ref b∧TupI sh.heap b (f b)∧(f b).length=m)(un:(vs.map (kf f)).Nodup)(h64:vs.length<64)
  (q:∀out:Array Value,out.toList.Perm vs->(out.toList.map (kf f)).Pairwise (· < ·)->R (.ref (sh.heap.objs.size+1)) { sh with heap:=yms sh.heap vs out }) :
  wpAny (model pr wo) Ar (call (.builtin "sorted") [.ref l]) R Ex sh:=by
 refine yll kind_sorted plain_sorted entry_sorted (args_sorted1 _) ?_;unfold yod.«sorted»;refine yaa (m:=checkCount "sorted" 1 1 _) (yda (yaa (collect_list hl (yaa (ykq ?_)) (yua (ymf h64) le64))));show wpAny (model pr wo) _ _ _ Ex { sh with heap:=((sh.heap.push (seqObj "list" #[] 0)).update sh.heap.objs.size (yhe (· ++ vs.toArray))).push (seqObj "list" vs.toArray 0) }
 generalize hG:(sh.heap.push (seqObj "list" #[] 0)).update sh.heap.objs.size (yhe (· ++ vs.toArray))=G;have sz:G.objs.size=sh.heap.objs.size+1:=by
  rw[← hG,Heap.size_update,size_push']
 have kp:∀b o,sh.heap.get? b=some o->G.get? b=some o:=λb o g=>by
  rw[← hG];exact (ywd ..).extBut b o (ydb (ysa g)) (yba _ g)
 have at1:(G.push (seqObj "list" vs.toArray 0)).get? (sh.heap.objs.size+1)=some (seqObj "list" vs.toArray 0):=by
  rw[← sz];exact yna _ rfl
 rw[sz];refine yaa (ymc (ylc slot_list_sort ⟨_,at1,rfl⟩ entry_list_sort (znvb at1 hm (λv z=>?_) un h64 λout o1 o2=>⟨_,rfl,?_⟩) (args_list_sort _)))
 ·obtain⟨b,e,t,l'⟩:=hv v z;exact⟨b,e,t.keep λo g=>yba _ (kp b o g),l'⟩
 ·refine yda ⟨_,rfl,?_⟩;have y:=q out o1 o2;unfold yms at y;rw[hG] at y;exact y
end
end TSort
namespace L2
open PySem PyProof.Rows
def refV:Value->V
 | .ref a=>.ref a
 | _=>.non
theorem zwr:∀{us:List V} {its:List Value},Vals us its->(∀u∈us,∃a,u = .ref a)->its.map refV=us∧∀v∈its,∃a,v = .ref a∧V.ref a∈us
 | _,_,.nil,_=>⟨rfl,by simp⟩
 | _,_,.cons r t,h=>by
  obtain⟨a,rfl⟩:=h _ yka;cases r;obtain⟨e1,e2⟩:=zwr t λu hu=>h u (yma _ hu);refine⟨by rw[ybb,e1];rfl,?_⟩;intro v hv
  rcases yla.mp hv with z|z
  ·exact⟨a,z,yka⟩
  ·obtain⟨b,e,m⟩:=e2 v z;exact⟨b,e,yma _ m⟩
theorem zxz:∀{vs:List Value},(∀v∈vs,∃a,v = .ref a)->Vals (vs.map refV) vs
 | [],_=>.nil
 | v::r,h=>by
  obtain⟨a,rfl⟩:=h v yka;exact .cons rfl (zxz λu hu=>h u (yma _ hu))
section
variable {X:Cx}
theorem zph:zui X (.builtin "sorted") (λxs H Q=>Ex4 λ(l:Addr) (us:List V) (g:V->List Int) (m:Nat)=>xs=[.ref l]∧SqL X.K H l us∧us.length<64∧0<m∧(∀u∈us,Ex3 λa ys zs=>u = .ref a∧SqT X.K H a (ys.map V.int++zs)∧g u=ys∧ys.length=m)∧(us.map g).Nodup ∧
  ∀p out,H p=none->out.Perm us->(out.map g).Pairwise (· < ·)->Q (.ref p) (upd H p (.lst out))):=by
 intro pins s σ H xs vs Q I r h;obtain⟨l,us,g,m,rfl,hl,h64,hm,ht,un,q⟩:=h;obtain⟨u,rfl,ru⟩:=vals1 r;cases ru;obtain⟨its,rv,pl,_⟩:=I.list hl;obtain⟨e1,e2⟩:=zwr rv λu hu=>by
  obtain⟨a,_,_,e,_⟩:=ht u hu;exact⟨a,e⟩
 have len:its.length=us.length:=rv.length.symm;have kg:∀v∈its,TSort.kf (λa=>g (.ref a)) v=(g∘refV) v:=λv hv=>by
  obtain⟨a,rfl,_⟩:=e2 v hv;rfl
 have hv:∀v∈its,∃b,v = .ref b∧TSort.TupI s.heap b (g (.ref b))∧(g (.ref b)).length=m:=λv hv=>by
  obtain⟨a,rfl,ha⟩:=e2 v hv;obtain⟨a',ys,zs,e,sq,eg,lg⟩:=ht _ ha;cases e;obtain⟨jts,rj,⟨o,g1,g2,n,g3⟩,_⟩:=I.tuple sq;refine⟨a,rfl,?_,by rw[eg];exact lg⟩;have t1:=rj.take (ys.map V.int).length;rw[List.take_left' rfl] at t1;refine⟨o,jts.toArray,n,jts.take (ys.map V.int).length,jts.drop (ys.map V.int).length,g1,g2,g3,by rw[yjh],?_⟩;rw[eg];exact intsAre_of t1
 have un':(its.map (TSort.kf λa=>g (.ref a))).Nodup:=by
  rw[ygi kg,← yrd,e1];exact un
 refine TSort.zceb (vs:=its) (f:=λa=>g (.ref a)) (m:=m) pl.isList hm hv un' (by rw[len];exact h64) λout o1 o2=>?_;obtain⟨e,he⟩:=sortedAll_at s.heap its out;have mem:∀v∈out.toList,v∈its:=λv hv=>o1.mem_iff.mp hv;have rout:Vals (out.toList.map refV) out.toList:=zxz λv hv=>by
  obtain⟨a,e,_⟩:=e2 v (mem v hv);exact⟨a,e⟩
 have pm:(out.toList.map refV).Perm us:=by
  have z:=o1.map refV;rw[e1] at z;exact z
 have I1:Inv X pins σ (upd H (s.heap.objs.size+1) (.lst (out.toList.map refV))) { s with heap:=yms s.heap its out }:=I.laid (t':=s.toks) (λb o e=>sortedAll_old e) (yke _) ⟨by rw[pm.length_eq];exact yua (ymf h64) TSort.le64,out.toList,e,rout,by rw[ype];exact he⟩;refine⟨.ref (s.heap.objs.size+1),_,I1,rfl,q _ _ (I.hok.fresh (yke _)) pm ?_⟩;rw[ygi λv hv=>kg v (mem v hv),← yrd] at o2;exact o2
end
end L2
namespace L2
open PySem PyProof.Rows
section
variable {pr:yqb}{wo:World}{Ar:Around}{Ex:Value->Shared->Prop}
end
section
variable {X:Cx}
theorem zqx (K:yca){es:List Expr}{k:Nat}{t:TGs}{n:Nat}{pos:Pos}(hc:X.calm=true)(h:PGs X es t)
  (hn:(ydj es X.env).length=n:=by rfl) (hst:(ydj es X.env).findIdx? (·.1)=none:=by rfl) (hK:X.K=K:=by rfl):PG X (.Tuple es k pos) (gTup K n t):=hK▸zwv hc h hn hst
end
end L2
namespace L2
open PySem PyProof.Rows
section
variable {X:Cx}
inductive TyB (K:yca)(H:Hp):V->Value->Prop where
 | non:TyB K H .non (.type "NoneType")
 | bl (x:Bool):TyB K H (.bl x) (.type "bool")
 | int (i:Int):TyB K H (.int i) (.type "int")
 | str (x:Str):TyB K H (.str x) (.type "str")
 | lst {a:Addr} {xs:List V} (e:SqL K H a xs):TyB K H (.ref a) (.type "list")
 | tup {a:Addr} {xs:List V} (e:SqT K H a xs):TyB K H (.ref a) (.type "tuple")
def zwvb:V->List V->Hp->VK->Prop:=λx vs H Q=>Ex4 λl xs i y=>x = .ref l∧vs=[.int i,y]∧H l=some (.lst xs)∧0≤i∧i≤(xs.length:Int)∧xs.length<1000∧Q .non (upd H l (.lst (xs.take i.toNat++y::xs.drop i.toNat)))
theorem zsbb:MtM X "list.insert" zwvb:=by
 intro pins s σ H x vs v us Q I rx rv h;obtain⟨l,xs,i,y,rfl,rfl,hH,h0,h1,hz,q⟩:=h;cases rx;obtain⟨u,u',rfl,⟨t,rfl⟩,ru⟩:=vals2 rv;obtain⟨z,its,n,r,hl,e⟩:=I.lstM hH;have len:its.length=xs.length:=r.length.symm;refine ymi F.slot_list_insert ⟨_,e,rfl⟩ F.entry_list_insert (F.args_list_insert_3 _ _ _) (AutoListH.list_insert_list_int_val_1 l its.toArray n i t u' ?_ (by rw[yqa];omega)) ⟨e,?_⟩
 ·unfold yod.List.listFitsIndex;have a:decide (-(2 ^ 63:Int)≤i)=true:=decide_eq_true (by omega);have b:decide (i<2 ^ 63)=true:=decide_eq_true (by omega);rw[a,b];decide
 ·refine⟨.non,_,I.lset (its':=its.take i.toNat++u'::its.drop i.toNat) hH e ?_ ((r.take _).append (.cons ru (r.drop _))) ?_,rfl,q⟩
  ·have k:(if i<0 then (i+((its.toArray.size:Nat):Int)).toNat else min i.toNat its.toArray.size)=i.toNat:=by
    rw[if_neg (by omega),yqa];omega
   show ((its.toArray.extract 0 _).push u'++its.toArray.extract _)=_
   rw[k];apply yci.mp;simp;exact ypa (by rw[yme];exact yha _)
  ·rw[yja,yfa,yza,yme];have:1001≤yta:=by decide
   omega
end
end L2
namespace L2
open PySem PySem.Spec PyProof.Rows
section
variable {κ:Type}[DecidableEq κ]
def valV (kvs:List (κ×V))(k:κ):Option V:=(kvs.find? λkv=>decide (kv.1=k)).map (·.2)
def putK (kvs:List (κ×V))(k:κ)(v:V):List (κ×V) :=
 if (kvs.any λkv=>decide (kv.1=k))=true then kvs.map (λkv=>if kv.1=k then (kv.1,v) else kv) else kvs++[(k,v)]
theorem zfqb {k:κ}:valV ([]:List (κ×V)) k=none:=rfl
theorem zve {p:κ×V}{r:List (κ×V)}{k:κ}(e:p.1=k):valV (p::r) k=some p.2:=by simp[valV,ykh,e]
theorem zwe {p:κ×V}{r:List (κ×V)}{k:κ}(e:¬ p.1=k):valV (p::r) k=valV r k:=by simp[valV,ykh,e]
theorem ztn (k:κ):∀kvs:List (κ×V),(kvs.any λkv=>decide (kv.1=k))=(valV kvs k).isSome
 | []=>rfl
 | p::r=>by
  rw[yak]
  by_cases e:p.1=k
  ·simp only[zve e,decide_eq_true e,ysr,Option.isSome_some]
  ·rw[zwe e,decide_eq_false e,ynq];exact ztn k r
theorem zrgb (k j:κ)(y:V):∀kvs:List (κ×V),valV (kvs.map λkv=>if kv.1=k then (kv.1,y) else kv) j=(valV kvs j).map λx=>if j=k then y else x
 | []=>rfl
 | p::r=>by
  have ih:=zrgb k j y r;rw[ybb]
  by_cases h:p.1=k
  ·rw[if_pos h]
   by_cases e:p.1=j
   ·rw[zve (p:=(p.1,y)) e,zve e,ydg,if_pos (e.symm.trans h)]
   ·rw[zwe (p:=(p.1,y)) e,zwe e,ih]
  ·rw[if_neg h]
   by_cases e:p.1=j
   ·rw[zve (p:=p) e,zve e,ydg,if_neg (λz=>h (e.trans z))]
   ·rw[zwe (p:=p) e,zwe e,ih]
theorem zyz (k j:κ)(y:V):∀kvs:List (κ×V),valV kvs k=none->valV (kvs++[(k,y)]) j=if j=k then some y else valV kvs j
 | [],_=>by
  by_cases e:k=j
  ·rw[if_pos e.symm];exact zve (p:=(k,y)) e
  ·rw[if_neg (λz=>e z.symm)];exact zwe (p:=(k,y)) e
 | p::r,hn=>by
  rw[ydi];have hk:¬ p.1=k:=λz=>by rw[zve z] at hn;cases hn
  rw[zwe hk] at hn;have ih:=zyz k j y r hn
  by_cases e:p.1=j
  ·rw[zve e,zve e,if_neg (λz=>hk (e.trans z))]
  ·rw[zwe e,zwe e,ih]
theorem zxw (kvs:List (κ×V))(k j:κ)(y:V):valV (putK kvs k y) j=if j=k then some y else valV kvs j:=by
 unfold putK
 by_cases a:(kvs.any λkv=>decide (kv.1=k))=true
 ·rw[if_pos a,zrgb];rw[ztn] at a
  by_cases e:j=k
  ·obtain⟨x,hx⟩:=ysl.mp a;rw[if_pos e,e,hx,ydg,if_pos rfl]
  ·rw[if_neg e];cases valV kvs j with
   | none=>rfl
   | some x=>rw[ydg,if_neg e]
 ·rw[if_neg a];refine zyz k j y kvs ?_;rw[ztn] at a;cases q:valV kvs k with
  | none=>rfl
  | some x=>rw[q] at a;exact (a rfl).elim
theorem zlk (kvs:List (κ×V))(k:κ)(v:V):(putK kvs k v).length≤kvs.length+1:=by
 unfold putK
 split
 ·rw[yea];omega
 ·rw[yja,yfa,yeh];omega
theorem zirb {kvs:List (κ×V)}{k:κ}(v:V)(h:valV kvs k=none):putK kvs k v=kvs++[(k,v)]:=by
 unfold putK;rw[ztn,h];exact if_neg (by decide)
theorem RelO.zol {o:Option V}{u:Option Value}(r:RelO o u):o.isSome=u.isSome:=by
 cases o with
 | none=>cases u with
  | none=>rfl
  | some _=>exact (show False from r).elim
 | some _=>cases u with
  | none=>exact (show False from r).elim
  | some _=>rfl
theorem KV.val {kvs:List (κ×V)}{vs:List (κ×Value)}(r:KV kvs vs)(k:κ):RelO (valV kvs k) (yir vs k):=by
 unfold KV at r
 induction r with
 | nil=>exact True.intro
 | @cons p q ps qs h t ih =>
  obtain⟨h1,h2⟩:=h
  by_cases e:p.1=k
  ·have e':q.1=k:=h1.symm.trans e;have b:yir (q::qs) k=some q.2:=(by simp[yir,ykh,e']);rw[zve e,b];exact h2
  ·have e':¬ q.1=k:=λz=>e (h1.trans z);have b:yir (q::qs) k=yir qs k:=(by simp[yir,ykh,e']);rw[zwe e,b];exact ih
theorem KV.any {kvs:List (κ×V)}{vs:List (κ×Value)}(r:KV kvs vs)(k:κ):(kvs.any λkv=>decide (kv.1=k))=vs.any λkv=>decide (kv.1=k):=by
 unfold KV at r
 induction r with
 | nil=>rfl
 | cons h t ih=>rw[yak,yak,ih,h.1]
theorem KV.repl {kvs:List (κ×V)}{vs:List (κ×Value)}(r:KV kvs vs)(k:κ){y:V}{u:Value}(ry:RelV y u) :
  KV (kvs.map λkv=>if kv.1=k then (kv.1,y) else kv) (vs.map λkv=>if kv.1=k then (kv.1,u) else kv):=by
 unfold KV at r ⊢
 induction r with
 | nil=>exact .nil
 | @cons p q ps qs h t ih =>
  rw[ybb,ybb];refine .cons ?_ ih;obtain⟨h1,h2⟩:=h
  by_cases e:p.1=k
  ·rw[if_pos e,if_pos (h1.symm.trans e)];exact⟨h1,ry⟩
  ·rw[if_neg e,if_neg (λz=>e (h1.trans z))];exact⟨h1,h2⟩
theorem KV.put {kvs:List (κ×V)}{vs:List (κ×Value)}(r:KV kvs vs)(k:κ){y:V}{u:Value}(ry:RelV y u):KV (putK kvs k y) (stored vs k u):=by
 unfold putK stored;rw[r.any k]
 by_cases e:(vs.any λkv=>decide (kv.1=k))=true
 ·rw[if_pos e,if_pos e];exact r.repl k ry
 ·rw[if_neg e,if_neg e];exact Paired.snoc r ⟨rfl,ry⟩
theorem KV.length {kvs:List (κ×V)}{vs:List (κ×Value)}(r:KV kvs vs):kvs.length=vs.length:=ykm r
end
theorem zrjb {P:yqb}{w:World}{k:Key}{u:Value}(r:RelV (kV k) u):(zse P w).is k u=true:=by
 cases k with
 | inl i=>obtain⟨t,e⟩:=(show ∃t,u=Value.int i t from r);subst e;exact zqeb P w i t
 | inr x=>obtain⟨t,e⟩:=(show ∃t,u=Value.str x t from r);subst e;exact zpeb P w x t
theorem zccb {P:yqb}{w:World}:∀{ks:List Key} {us:List Value},Vals (ks.map kV) us->ItemsAre (zse P w) ks us
 | [],_,r=>by rw[yqj] at r;cases r;exact .nil
 | k::ks,_,r=>by
  rw[ybb] at r;cases r with
  | cons h t=>exact .cons (zrjb h) (zccb t)
abbrev KT (H:Hp):List (List Key×V)->List (List Key×Addr×Value)->Prop:=Paired λp q=>p.1=q.1∧H q.2.1=some (.tup (p.1.map kV))∧RelV p.2 q.2.2
theorem KT.val {H:Hp}{kvs:List (List Key×V)}{xs:List (List Key×Addr×Value)}(r:KT H kvs xs)(k:List Key):RelO (valV kvs k) ((atKey xs k).map (·.2)):=by
 induction r with
 | nil=>exact True.intro
 | @cons p q ps qs h t ih =>
  obtain⟨h1,_,h2⟩:=h
  by_cases e:p.1=k
  ·have e':q.1=k:=h1.symm.trans e;have b:atKey (q::qs) k=some q.2:=(by simp[atKey,ykh,e']);rw[zve e,b];exact h2
  ·have e':¬ q.1=k:=λz=>e (h1.trans z);have b:atKey (q::qs) k=atKey qs k:=(by simp[atKey,ykh,e']);rw[zwe e,b];exact ih
theorem KT.repl {H:Hp}{kvs:List (List Key×V)}{xs:List (List Key×Addr×Value)}(r:KT H kvs xs)(k:List Key){y:V}{u:Value}(ry:RelV y u) :
  KT H (kvs.map λkv=>if kv.1=k then (kv.1,y) else kv) (xs.map (putAt k u)):=by
 induction r with
 | nil=>exact .nil
 | @cons p q ps qs h t ih =>
  rw[ybb,ybb];refine .cons ?_ ih;obtain⟨h1,h2,h3⟩:=h;unfold putAt
  by_cases e:p.1=k
  ·rw[if_pos e,if_pos (h1.symm.trans e)];exact⟨h1,h2,ry⟩
  ·rw[if_neg e,if_neg (λz=>e (h1.trans z))];exact⟨h1,h2,h3⟩
theorem KT.put {H:Hp}{kvs:List (List Key×V)}{xs:List (List Key×Addr×Value)}(r:KT H kvs xs)(k:List Key){b:Addr}{y:V}{u:Value}(hb:H b=some (.tup (k.map kV)))(ry:RelV y u) :
  KT H (putK kvs k y) (storedH xs k b u):=by
 have e:(kvs.any λkv=>decide (kv.1=k))=(atKey xs k).isSome:=by
  rw[ztn,(r.val k).zol,yfm]
 unfold putK storedH;rw[e]
 by_cases q:(atKey xs k).isSome=true
 ·rw[if_pos q,if_pos q];exact r.repl k ry
 ·rw[if_neg q,if_neg q];exact Paired.snoc r ⟨rfl,hb,ry⟩
theorem KT.keeps {H H':Hp}{kvs:List (List Key×V)}{xs:List (List Key×Addr×Value)}(r:KT H kvs xs)(ht:∀b ys,H b=some (.tup ys)->H' b=some (.tup ys)):KT H' kvs xs :=
 Paired.mapP r λ_ _ z=>⟨z.1,ht _ _ z.2.1,z.2.2⟩
section
variable {P:yqb}{w:World}{H:Hp}{h:Heap}{a:Addr}
theorem zwyb {u:HO}(ok:HOk P w H h)(e:Rd H a u):zgg P w H h a u:=e.ok ok
theorem zpob {kvs:List (Key×V)}(ok:HOk P w H h)(e:Rd H a (.dK kvs)):kvs.length≤yta∧(a==yqg)=false∧∃vs,KV kvs vs∧h.DictOf (zse P w) a vs :=
 show zgg P w H h a (.dK kvs) from zwyb ok e
theorem zdcc {kvs:List (Key×V)}(ok:HOk P w H h)(e:H a=some (.dK kvs)):kvs.length≤yta∧(a==yqg)=false∧∃vs,KV kvs vs∧h.DictOf (zse P w) a vs:=zpob ok (.inl e)
theorem zwbb {ks:List Key}(ok:HOk P w H h)(e:H a=some (.tup (ks.map kV))):(ysp (zse P w)).is h ks a:=by
 obtain⟨_,its,r,o,h1,h2,n,h3⟩:=(show zgg P w H h a (.tup (ks.map kV)) from ok a _ e);exact⟨o,its.toArray,n,h1,h2,h3,by simpa using zccb r⟩
theorem zoob {kvs:List (List Key×V)}(ok:HOk P w H h)(e:Rd H a (.dT kvs)):kvs.length≤yta∧(a==yqg)=false ∧
  ∃xs,KT H kvs xs∧h.DictOfH (ysp (zse P w)) a xs:=by
 obtain⟨z,y,xs,r,o,es,ep,h1,h2,h3,h4,h5⟩:=(show zgg P w H h a (.dT kvs) from zwyb ok e);refine⟨z,y,xs,r,o,es,ep,h1,h2,h3,h4,λx hx=>?_,h5⟩;have all:∀{l:List (List Key×V)} {m:List (List Key×Addr×Value)},KT H l m->∀x∈m,(ysp (zse P w)).is h x.1 x.2.1:=by
  intro l m q
  induction q with
  | nil=>intro x hx;exact nomatch hx
  | @cons p q ps qs hq t ih =>
   intro x hx
   rcases yla.mp hx with e|hx
   ·subst e;exact zwbb ok (by rw[← hq.1];exact hq.2.1)
   ·exact ih x hx
 exact all r x hx
theorem zccc {kvs:List (List Key×V)}(ok:HOk P w H h)(e:H a=some (.dT kvs)):kvs.length≤yta∧(a==yqg)=false ∧
  ∃xs,KT H kvs xs∧h.DictOfH (ysp (zse P w)) a xs:=zoob ok (.inl e)
end
def DGet (H:Hp)(a:Addr)(y:V)(r:Option V):Prop :=
 (Ex2 λkvs k=>Rd H a (.dK kvs)∧y=kV k∧r=valV kvs k)∨Ex3 λkvs k b=>Rd H a (.dT kvs)∧y = .ref b∧H b=some (.tup (k.map kV))∧r=valV kvs k
def DPut (H:Hp)(a:Addr)(y v:V)(H':Hp):Prop :=
 (Ex2 λkvs k=>H a=some (.dK kvs)∧y=kV k∧kvs.length<yta∧H'=upd H a (.dK (putK kvs k v))) ∨
 Ex3 λkvs k b=>H a=some (.dT kvs)∧y = .ref b∧H b=some (.tup (k.map kV))∧kvs.length<yta∧H'=upd H a (.dT (putK kvs k v))
theorem DGet.k {H:Hp}{a:Addr}{kvs:List (Key×V)}{k:Key}(e:H a=some (.dK kvs)):DGet H a (kV k) (valV kvs k):=.inl ⟨kvs,k,.inl e,rfl,rfl⟩
theorem DGet.t {H:Hp}{a b:Addr}{kvs:List (List Key×V)}{k:List Key}(e:H a=some (.dT kvs))(eb:H b=some (.tup (k.map kV))):DGet H a (.ref b) (valV kvs k):=.inr ⟨kvs,k,b,.inl e,rfl,eb,rfl⟩
theorem DPut.t {H:Hp}{a b:Addr}{kvs:List (List Key×V)}{k:List Key}{v:V}(e:H a=some (.dT kvs))(eb:H b=some (.tup (k.map kV)))(hl:kvs.length<yta) :
  DPut H a (.ref b) v (upd H a (.dT (putK kvs k v))):=.inr ⟨kvs,k,b,e,rfl,eb,hl,rfl⟩
section
variable {X:Cx}{pins:List (Addr×Obj)}{σ:St}{H:Hp}{s:Shared}{a:Addr}{y v:V}{u r:Value}{o:Option V}{A:Around}{E:Value->Shared->Prop}
theorem Inv.big (I:Inv X pins σ H s):yqg<s.heap.objs.size:=by
 have h:yfb<s.heap.objs.size:=(I.mod.glob.keeps I.bk).lt;exact Nat.lt_trans (by decide) h
theorem zvob {Q:Value->Shared->Prop}(hu:A.units+1<cLine)(I:Inv X pins σ H s)(g:DGet H a y (some v))(ry:RelV y u)(h:∀w' s',Inv X pins σ H s'->RelV v w'->Q w' s') :
  wpAny (model X.prog X.w) A (yom (.ref a) u) Q E s:=by
 rcases g with⟨kvs,k,e,ey,l⟩|⟨kvs,k,b,e,ey,eb,l⟩
 ·subst ey;obtain⟨z,hd,vs,rel,dd⟩:=zpob I.hok e;obtain⟨w',hw,rw'⟩:=RelO.some_of (v:=v) (o:=yir vs k) (by rw[l];exact rel.val k);exact wpAny_getItem_of (zrjb ry) dd.mapOf hw (h w' _ (I.tok _) rw')
 ·subst ey;cases (show u=Value.ref b from ry);obtain⟨z,hd,xs,rel,dd⟩:=zoob I.hok e;obtain⟨w',hw,rw'⟩:=RelO.some_of (v:=v) (o:=(atKey xs k).map (·.2)) (by rw[l];exact rel.val k);obtain⟨p,hp,hp2⟩:=ykn.mp hw;refine wpAny_getItem_heap (yui hu) (zwbb I.hok eb) dd hp ?_;rw[hp2];exact h w' _ (I.tok _) rw'
theorem d_in {Q:Value->Shared->Prop}(hu:A.units+1<cLine)(I:Inv X pins σ H s)(g:DGet H a y o)(ry:RelV y u)(h:∀s',Inv X pins σ H s'->Q (.bool o.isSome) s') :
  wpAny (model X.prog X.w) A (yhd .In u (.ref a)) Q E s:=by
 rcases g with⟨kvs,k,e,ey,l⟩|⟨kvs,k,b,e,ey,eb,l⟩
 ·subst ey;obtain⟨z,hd,vs,rel,dd⟩:=zpob I.hok e;refine wpAny_in_of (zrjb ry) hd dd.mapOf ?_;rw[← (rel.val k).zol,← l];exact h _ (I.tok _)
 ·subst ey;cases (show u=Value.ref b from ry);obtain⟨z,hd,xs,rel,dd⟩:=zoob I.hok e;refine wpAny_in_heap (yui hu) (zwbb I.hok eb) hd dd ?_;have q:=(rel.val k).zol;rw[yfm] at q;rw[← q,← l];exact h _ (I.tok _)
theorem zjxb {Q:Value->Shared->Prop}(hu:A.units+1<cLine)(I:Inv X pins σ H s)(g:DGet H a y o)(ry:RelV y u)(h:∀s',Inv X pins σ H s'->Q (.bool (!o.isSome)) s') :
  wpAny (model X.prog X.w) A (yhd .NotIn u (.ref a)) Q E s:=by
 rcases g with⟨kvs,k,e,ey,l⟩|⟨kvs,k,b,e,ey,eb,l⟩
 ·subst ey;obtain⟨z,hd,vs,rel,dd⟩:=zpob I.hok e;refine wpAny_notIn_of (zrjb ry) hd dd.mapOf ?_;rw[← (rel.val k).zol,← l];exact h _ (I.tok _)
 ·subst ey;cases (show u=Value.ref b from ry);obtain⟨z,hd,xs,rel,dd⟩:=zoob I.hok e;refine wpAny_notIn_heap (yui hu) (zwbb I.hok eb) hd dd ?_;have q:=(rel.val k).zol;rw[yfm] at q;rw[← q,← l];exact h _ (I.tok _)
theorem ztob {h':Heap}{t':Nat}{ob:HO}(I:Inv X pins σ H s)(mu:Mut (H a))(hs:yfd a s.heap h')(he:∃q,h'.get? a=some q)(new:zgg X.prog X.w (upd H a ob) h' a ob) :
  Inv X pins σ (upd H a ob) { s with heap:=h',toks:=t' } :=
 I.write (x:=a) (e:=a) mu (.inl rfl) (λb q hb z=>(hs.2 b hb).trans z) he new
theorem zgub {P:yqb}{w:World}{H':Hp}{h':Heap}{kvs:List (Key×V)}{vs:List (Key×Value)}(z:kvs.length≤yta)(hd:(a==yqg)=false)(rel:KV kvs vs)(dd:h'.DictOf (zse P w) a vs) :
  zgg P w H' h' a (.dK kvs):=⟨z,hd,vs,rel,dd⟩
theorem zuob {H':Hp}{Q:Unit->Shared->Prop}(hu:A.units+1<cLine)(I:Inv X pins σ H s)(g:DPut H a y v H')(ry:RelV y u)(rv:RelV v r)(h:∀s',Inv X pins σ H' s'->Q () s') :
  wpAny (model X.prog X.w) A (setItem (.ref a) u r) Q E s:=by
 rcases g with⟨kvs,k,e,ey,l,eH⟩|⟨kvs,k,b,e,ey,eb,l,eH⟩
 ·subst ey eH;obtain⟨z,hd,vs,rel,dd⟩:=zdcc I.hok e;have hz:vs.length≤yta:=by rw[← rel.length];exact z
  have hl:(putK kvs k v).length≤yta:=by have:=zlk kvs k v;omega
  refine wpAny_setItem_pairs (hsz:=hz) (zrjb ry) dd λh' dd' hs=>h _ ?_;have he:∃q,h'.get? a=some q:=let ⟨q,_,_,hq,_⟩:=dd';⟨q,hq⟩;exact ztob I (by rw[e];exact True.intro) hs he (zgub hl hd (rel.put k rv) dd')
 ·subst ey eH;cases (show u=Value.ref b from ry);obtain⟨z,hd,xs,rel,dd⟩:=zccc I.hok e;have hz:xs.length≤yta:=by rw[← ykm rel];exact z
  have hl:(putK kvs k v).length≤yta:=by have:=zlk kvs k v;omega
  refine wpAny_setItem_heap (hsz:=hz) (yui hu) (zwbb I.hok eb) dd λh' dd' hs=>h _ ?_;obtain⟨q,es,ep,hq,h2,h3,h4,_,h5⟩:=dd';refine ztob I (by rw[e];exact True.intro) hs ⟨q,hq⟩ ⟨hl,hd,_,(rel.put k eb rv).keeps λc ys ec=>?_,q,es,ep,hq,h2,h3,h4,h5⟩;rw[zta (zng ec e (λz=>nomatch z))];exact ec
end
section
variable {X:Cx}{pins:List (Addr×Obj)}{σ:St}{H:Hp}{s:Shared}{a:Addr}{kvs:List (Key×V)}{k:Key}{u:Value}{A:Around}{E:Value->Shared->Prop}
end
def NoSl (i:Expr):Prop:=∀ov iv,yhp i false ov iv=operate [ov,iv] (yom ov iv)
theorem zvub {prog:yqb}{w:World}{A:Around}{E:Value->Shared->Prop}{s:Shared}{env:Env}{value slice:Expr}{pos:Pos}{T id:String}{Q:Value->Shared->Prop}
  (hl:yvq (.type T) "__getitem__" = pure (some (.builtin id))) (hs:NoSl slice)
  (h:wpAny (model prog w) A (eval value env) (λo s₁=>wpAny (model prog w) A (eval slice env) (λi s₂=>s₂.TypeIs o T∧wpAny (model prog w) A (yom o i) Q E s₂) E s₁) E s) :
  wpAny (model prog w) A (eval (.Subscript value slice pos) env) Q E s:=by
 refine ywq (ykd h (λo s₁ h₁=>ykd h₁ (λi s₂ h₂=>?_) λ_ _ x=>x) λ_ _ x=>x);obtain⟨hT,h₂⟩:=h₂;unfold ypm;refine yaa ?_;rw[getitemInPython_of_ne hT.not_modules];refine yaa (wpAny_specialOf hT hl ?_);have fin:wpAny (model prog w) A (yhp slice false o i) (λr s₃=>wpAny (model prog w) A (letTemporaryGo value o r >>= λ_=>pure r) Q E s₃) E s₂:=by
  rw[hs o i];exact wpAny_operating (ykd h₂ (λr s₃ h₃=>yaa (wpAny_letTemporaryGo (yda h₃))) λ_ _ x=>x)
 first
  | exact yda (yaa fin)
  | exact yaa (yda (yaa fin))
  | exact yaa fin
theorem zefb {X:Cx}{pins:List (Addr×Obj)}{σ:St}{H:Hp}{s:Shared}{a:Addr}{y:V}{o:Option V}(I:Inv X pins σ H s)(g:DGet H a y o):s.TypeIs (.ref a) "dict":=by
 rcases g with⟨kvs,k,e,_,_⟩|⟨kvs,k,b,e,_,_,_⟩
 ·obtain⟨_,_,vs,_,dd⟩:=zpob I.hok e;exact dd.typeIs
 ·obtain⟨_,_,xs,_,dd⟩:=zoob I.hok e;exact dd.typeIs
def zibc (td ty:TE):TE:=fun σ H Q=>td σ H λx H1=>ty σ H1 λy H2=>Ex2 λa v=>x = .ref a∧DGet H2 a y (some v)∧Q v H2
def tDIn (ty td:TE):TE:=fun σ H Q=>ty σ H λy H1=>td σ H1 λx H2=>Ex2 λa o=>x = .ref a∧DGet H2 a y o∧Q (.bl o.isSome) H2
def zuub (ty td:TE):TE:=fun σ H Q=>ty σ H λy H1=>td σ H1 λx H2=>Ex2 λa o=>x = .ref a∧DGet H2 a y o∧Q (.bl (!o.isSome)) H2
def znbc (td ty tv:TE):TS:=λD σ H=>tv σ H λv H1=>td σ H1 λx H2=>ty σ H2 λy H3=>Ex2 λa H4=>x = .ref a∧DPut H3 a y v H4∧D.nx σ H4
section
variable {X:Cx}{o i e value:Expr}{pos pos' tpos:Pos}{td ty tv:TE}
theorem zkeb (hu:X.A.units+1<cLine)(ho:PE X o td)(hi:PE X i ty)(hs:NoSl i):PE X (.Subscript o i pos) (zibc td ty):=by
 intro pins s σ H Q I h;refine zvub PySem.F.slot_dict_getitem.lookup hs (thn (ho pins s σ H _ I h) λu s1 ⟨x,H1,I1,rx,q1⟩=>thn (hi pins s1 σ H1 _ I1 q1) λiv s2 ⟨y,H2,I2,ry,a,v,ex,g,q2⟩=>?_);subst ex;obtain rfl:u=Value.ref a:=rx;exact⟨zefb I2 g,zvob hu I2 g ry λw' s3 I3 rw'=>⟨v,H2,I3,rw',q2⟩⟩
theorem zkzb (hu:X.A.units+1<cLine)(hi:PE X i ty)(ho:PE X o td):PC X .In i o (tDIn ty td):=by
 intro pins s σ H Q I h;refine thn (hi pins s σ H _ I h) λiv s1 ⟨y,H1,I1,ry,q1⟩=>thn (ho pins s1 σ H1 _ I1 q1) λu s2 ⟨x,H2,I2,rx,a,ov,ex,g,q2⟩=>?_;subst ex;obtain rfl:u=Value.ref a:=rx;exact d_in hu I2 g ry λs3 I3=>⟨.bl ov.isSome,H2,I3,rfl,q2⟩
theorem zxab (hu:X.A.units+1<cLine)(hi:PE X i ty)(ho:PE X o td):PC X .NotIn i o (zuub ty td):=by
 intro pins s σ H Q I h;refine thn (hi pins s σ H _ I h) λiv s1 ⟨y,H1,I1,ry,q1⟩=>thn (ho pins s1 σ H1 _ I1 q1) λu s2 ⟨x,H2,I2,rx,a,ov,ex,g,q2⟩=>?_;subst ex;obtain rfl:u=Value.ref a:=rx;exact zjxb hu I2 g ry λs3 I3=>⟨.bl (!ov.isSome),H2,I3,rfl,q2⟩
theorem zamb (hu:X.A.units+1<cLine)(ho:PE X o td)(hi:PE X i ty)(hv:PE X value tv)(hs:yup value (some (.Subscript o i pos')) pos.line X.env=pure false) :
  PS X (.Assign [.Subscript o i pos'] value pos) (znbc td ty tv):=by
 intro pins s σ H D I h;refine wpAny_Assign_Subscript (thn (hv pins s σ H _ I h) λr s1 ⟨v,H1,I1,rv,q1⟩=>thn (ho pins s1 σ H1 _ I1 q1) λu s2 ⟨x,H2,I2,rx,q2⟩=>thn (hi pins s2 σ H2 _ I2 q2) λiv s3 ⟨y,H3,I3,ry,a,H4,ex,g,q3⟩=>?_) hs;subst ex;obtain rfl:u=Value.ref a:=rx;exact zuob hu I3 g ry rv λs4 I4=>⟨σ,H4,I4,q3⟩
end
theorem zvsb {P:yqb}{w:World}{H:Hp}(h:Heap)(hb:yqg<h.objs.size):zgg P w H (h.push { cls:=.type "dict",data:=.dict #[] }) h.objs.size (.dT []) :=
 ⟨ygb _,beq_eq_false_iff_ne.mpr (yge (ydb hb)),[],.nil,_,#[],0,yna _ rfl,⟨rfl,rfl,rfl⟩,rfl,rfl,List.nodup_nil⟩
def zfyb:TE:=λ_ H Q=>∀p,H p=none->Q (.ref p) (upd H p (.dT []))
section
variable {X:Cx}{pos:Pos}
theorem zfhb:PE X (.Dict [] [] pos) zfyb:=λpins s σ H Q I h =>
 wpAny_Dict_empty ⟨.ref s.heap.objs.size,_,I.laid (a:=s.heap.objs.size) (o:=.dT []) (t':=s.toks) (λ_ _ q=>yba _ q) (yha _) (zvsb s.heap I.big),rfl,h _ (I.hok.fresh (yha _))⟩
end
def zmm (kvs more:List (Key×V)):List (Key×V):=more.foldl (λacc kv=>putK acc kv.1 kv.2) kvs
theorem KV.merge:∀{more:List (Key×V)} {rs:List (Key×Value)} {kvs:List (Key×V)} {vs:List (Key×Value)},KV more rs->KV kvs vs->KV (zmm kvs more) (merged vs rs):=by
 intro more rs kvs vs r;unfold KV at r
 induction r generalizing kvs vs with
 | nil=>intro q;exact q
 | @cons p q ps qs h t ih =>
  intro r0;have e:KV (putK kvs p.1 p.2) (stored vs q.1 q.2):=by
   have:=r0.put p.1 h.2;rw[← h.1];exact this
  exact ih e
theorem zko:∀(more kvs:List (Key×V)),(zmm kvs more).length≤kvs.length+more.length
 | [],kvs=>by show kvs.length≤kvs.length+0;omega
 | p::r,kvs=>by
  have h1:=zko r (putK kvs p.1 p.2);have h2:=zlk kvs p.1 p.2;show (zmm (putK kvs p.1 p.2) r).length≤_
  rw[yfa];omega
structure M1 (X:Cx)(o:Expr)(m:Str)(apos:Pos)(e:Expr)(cpos:Pos):Prop where
 base:yoh o m X.env (eval o X.env)=eval o X.env
 few:((backTo cpos (ywc [e] X.env)).all (λx=>!x.1)&&(ycs cpos (ymm [] X.env)).all (λx=>x.1.isSome)
  && decide (([e]:List Expr).length+([]:List ytq).length+(if ([]:List ytq).isEmpty then 0 else 1)<30))=true
 line:(apos.endLine==cpos.line)=true
 trees:backTo cpos (ywc [e] X.env)=[(false,eval e X.env)]
structure M2 (X:Cx)(o:Expr)(m:Str)(apos:Pos)(e f:Expr)(cpos:Pos):Prop where
 base:yoh o m X.env (eval o X.env)=eval o X.env
 few:((backTo cpos (ywc [e,f] X.env)).all (λx=>!x.1)&&(ycs cpos (ymm [] X.env)).all (λx=>x.1.isSome)
  && decide (([e,f]:List Expr).length+([]:List ytq).length+(if ([]:List ytq).isEmpty then 0 else 1)<30))=true
 line:(apos.endLine==cpos.line)=true
 trees:backTo cpos (ywc [e,f] X.env)=[(false,eval e X.env),(false,eval f X.env)]
section
variable {X:Cx}{pins:List (Addr×Obj)}{σ:St}{H:Hp}{s:Shared}{a:Addr}{y d:V}{u r:Value}{o:Option V}{A:Around}{E:Value->Shared->Prop}
end
section
variable {X:Cx}{o e f:Expr}{apos cpos:Pos}{td ty tx:TE}
end
section
variable {X:Cx}{pins:List (Addr×Obj)}{σ:St}{H:Hp}{s:Shared}{a:Addr}{kvs:List (Key×V)}{A:Around}{E:Value->Shared->Prop}
end
section
variable {X:Cx}{pins:List (Addr×Obj)}{σ:St}{H:Hp}{s:Shared}{a:Addr}{y:V}{u:Value}{A:Around}{E:Value->Shared->Prop}
end
end L2
namespace L2
open PySem PyProof.Rows
section
variable {pr:yqb}{wo:World}{Ar:Around}{Ex:Value->Shared->Prop}{sh:Shared}
theorem zdhb (a:Addr):¬ ((Value.ref a==Value.none)=true):=yab
theorem zrub {it t:Addr}{i:Nat}{ys:Array Value}{v:Value}{R:PySem.Fin->Shared->Prop}(h1:sh.heap.IsTupleIter it t i)(h2:sh.heap.IsTuple t ys)(h3:ys[i]?=some v)
  (q:∀g,g.IsTupleIter it t (i+1)->yfd it sh.heap g->R (.done (.ret v)) { sh with heap:=g }):wpAny (model pr wo) Ar (yod.«tuple_iterator.__next__» ⟨[.ref it],[]⟩) R Ex sh:=by
 obtain⟨ob,a1,a2,a3⟩:=id h1;obtain⟨ot,b1,_,nn,b3⟩:=h2;refine (show wpAny (model pr wo) Ar (field (.ref it) 0 >>= _) R Ex sh from yaa (yle a1 a3 (x:=.ref t) rfl ?_));rw[if_neg (zdhb t)];refine (show wpAny (model pr wo) Ar (field (.ref it) 1 >>= _) R Ex sh from yaa (yle a1 a3 (x:=.int i 0) rfl ?_));refine (show wpAny (model pr wo) Ar (ycm (.ref t) >>= _) R Ex sh from yaa (yyh b1 b3 ?_));simp only[yjc,h3];refine yaa (yml a1 a3 (by simp) (yda (q _ ⟨_,yzc _ a1 (yio (yvi a3 _)),(yjr ..).trans a2,?_⟩ (ywd ..))));rw[yvi a3];simp[rawInt]
theorem zwrb {it t:Addr}{i:Nat}{ys:Array Value}{v:Value}{R:Value->Shared->Prop}(h1:sh.heap.IsTupleIter it t i)(h2:sh.heap.IsTuple t ys)(h3:ys[i]?=some v)
  (q:∀g,g.IsTupleIter it t (i+1)->yfd it sh.heap g->R v { sh with heap:=g }):wpAny (model pr wo) Ar (yrf (.ref it)) R Ex sh:=by
 unfold yrf;exact yaa (yhc (name:=yue "__next__") h1.typeIs ygf (ylc ygf h1.typeIs yqk (zrub h1 h2 h3 λg a b=>⟨v,rfl,yda (q g a b)⟩) (ydk _)))
theorem zjqb {it t:Addr}{i:Nat}{ys:Array Value}{R:Value->Shared->Prop}(hd:Ar.handled=none)(h1:sh.heap.IsTupleIter it t i)(h2:sh.heap.IsTuple t ys)(h3:ys[i]?=none)
  (q:∀g e,yps it sh.heap g->(∃o,g.get? e=some o∧o.cls = .type "StopIteration")->Ex (.ref e) { sh with heap:=g }):wpAny (model pr wo) Ar (yrf (.ref it)) R Ex sh:=by
 obtain⟨ob,a1,a2,a3⟩:=id h1;obtain⟨ot,b1,_,nn,b3⟩:=h2;unfold yrf;refine yaa (yhc (name:=yue "__next__") h1.typeIs ygf (ylc ygf h1.typeIs yqk ?_ (ydk _)));refine (show wpAny (model pr wo) Ar.in1 (field (.ref it) 0 >>= _) _ Ex sh from yaa (yle a1 a3 (x:=.ref t) rfl ?_));rw[if_neg (zdhb t)];refine (show wpAny (model pr wo) Ar.in1 (field (.ref it) 1 >>= _) _ Ex sh from yaa (yle a1 a3 (x:=.int i 0) rfl ?_));refine (show wpAny (model pr wo) Ar.in1 (ycm (.ref t) >>= _) _ Ex sh from yaa (yyh b1 b3 ?_));simp only[yjc,h3];refine yaa (yhj (yaa (yml a1 a3 (by simp) ?_)));refine (show wpAny (model pr wo) Ar.in1 (newExc (.type "StopIteration") [] >>= _) _ Ex _ from yaa ?_);simp only[newExc,newTuple];refine yaa (ybc ?_ (by size_fits));refine yaa (m:=yxh _ _) (yrm (a:=Value.none) (by first|rfl|(simp only[yxh];rfl)) (ybc ?_ (by size_fits)));simp only[yiq];refine yaa (yjq ?_)
 first|rw[show Ar.in1.handled=none from hd]|rw[hd]
 exact yaa (yda (wpAny_throw (q _ _ (((ywd ..).extBut.push _).push _) ⟨_,yna _ rfl,rfl⟩)))
def En (h:Heap)(e it t:Addr)(i:Nat):Prop:=(∃old,IsEnum h e it (i:Int) old)∧h.IsTupleIter it t i∧e≠it
theorem zixb {e it t:Addr}{i:Nat}{ys:Array Value}{v:Value}{R:Option Value->Shared->Prop}(hE:En sh.heap e it t i)(h2:sh.heap.IsTuple t ys)(h3:ys[i]?=some v)
  (q:∀g,IsEnumOut g e it ((i:Int)+1) v sh.heap.objs.size->g.IsTupleIter it t (i+1)->g.get? sh.heap.objs.size=some { cls:=.type "tuple",data:=.seq #[.int i sh.toks,v] } →
   (∀b o,b≠e->b≠it->sh.heap.get? b=some o->g.get? b=some o)->R (some (.ref sh.heap.objs.size)) { sh with heap:=g,toks:=sh.toks+1 }):wpAny (model pr wo) Ar (pyNext (.ref e)) R Ex sh:=by
 obtain⟨⟨old,he⟩,h1,ne⟩:=hE;have ty:sh.TypeIs (.ref e) "enumerate":=⟨_,he,rfl⟩;obtain⟨hp,gn,dr,tk,os⟩:=sh;unfold pyNext;refine yaa (yph (yhc (name:=yue "__next__") ty ylh (ylc ylh ty yln ?_ (ywm _))));refine (show wpAny (model pr wo) Ar.in1 (field (.ref e) 2 >>= _) _ _ ⟨hp,gn,dr,tk,os⟩ from yaa (yle he rfl (x:=.ref it) rfl ?_));refine yaa (zwrb h1 h2 h3 λg1 i1 s1=>?_);have s1':yfd it hp g1:=s1;have e1:IsEnum g1 e it (i:Int) old:=(s1'.2 e ne).trans he;refine (show wpAny (model pr wo) Ar.in1 (field (.ref e) 3 >>= _) _ _ ⟨g1,gn,dr,tk,os⟩ from yaa (yle e1 rfl (x:=rawInt i) rfl ?_));refine (show wpAny (model pr wo) Ar.in1 (field (.ref e) 4 >>= _) _ _ ⟨g1,gn,dr,tk,os⟩ from yaa (yle e1 rfl (x:=.none) rfl ?_));refine (show wpAny (model pr wo) Ar.in1 (mkInt i >>= _) _ _ ⟨g1,gn,dr,tk,os⟩ from yaa (wpAny_mkInt ?_));refine (show wpAny (model pr wo) Ar.in1 (yck (.ref e) 3 (rawInt ((i:Int)+1)) >>= _) _ _ ⟨g1,gn,dr,tk+1,os⟩ from yaa (yyc e1 (by simp) λg2 e2 s2=>?_));have s2':yfd e g1 g2:=s2;have e2':IsEnum g2 e it ((i:Int)+1) old:=e2;refine (show wpAny (model pr wo) Ar.in1 (yck (.ref e) 4 .none >>= _) _ _ ⟨g2,gn,dr,tk+1,os⟩ from yaa (yyc e2' (by simp) λg3 e3 s3=>?_));have s3':yfd e g2 g3:=s3;have e3':IsEnum g3 e it ((i:Int)+1) old:=e3;refine (show wpAny (model pr wo) Ar.in1 (newTuple [.int i tk,v] >>= _) _ _ ⟨g3,gn,dr,tk+1,os⟩ from yaa (ycp ?_));have sz:g3.objs.size=hp.objs.size:=by rw[s3'.1,s2'.1,s1'.1]
 have lt:e<hp.objs.size:=ysa he;obtain⟨g4,hg4⟩:∃g4,g4=g3.push { cls:=.type "tuple",data:=.seq #[.int i tk,v] }:=⟨_,rfl⟩;have e4:IsEnum g4 e it ((i:Int)+1) old:=by rw[hg4];exact yba _ e3'
 have t4:g4.get? hp.objs.size=some { cls:=.type "tuple",data:=.seq #[.int i tk,v] }:=by rw[hg4,← sz];exact yna _ rfl
 have k4:∀b o,b≠e->b≠it->hp.get? b=some o->g4.get? b=some o:=λb o n1 n2 z=>by
  rw[hg4];exact yba _ (s3'.extBut b o n1 (s2'.extBut b o n1 (s1'.extBut b o n2 z)))
 have i4:g4.IsTupleIter it t (i+1):=by
  obtain⟨o,z,r⟩:=(i1.extBut s2'.extBut (yge ne)).extBut s3'.extBut (yge ne);exact⟨o,by rw[hg4];exact yba _ z,r⟩
 refine (show wpAny (model pr wo) Ar.in1 (yhi (.ref e) >>= _) _ _ ⟨g3.push { cls:=.type "tuple",data:=.seq #[.int i tk,v] },gn,dr,tk+1,os⟩ from ?_);rw[← hg4,sz];refine yaa ?_;unfold yhi;refine yaa (yle e4 rfl (x:=.none) rfl (yda ?_));simp only[if_true];refine yaa (yhj (yaa (yle e4 rfl (x:=old) rfl (yaa (yyc e4 (by simp) λg5 e5 s5=>?_)))));have s5':yfd e g4 g5:=s5;have e5':IsEnum g5 e it ((i:Int)+1) v:=e5;refine (show wpAny (model pr wo) Ar.in1 (yzh (.ref e) (.ref hp.objs.size) >>= _) _ _ ⟨g5,gn,dr,tk+1,os⟩ from yaa ?_);unfold yzh;refine yaa (yyc e5' (by simp) λg6 e6 s6=>?_);have s6':yfd e g5 g6:=s6;have e6':IsEnumOut g6 e it ((i:Int)+1) v hp.objs.size:=e6;refine yyc e6' (by simp) λg7 e7 s7=>?_;have s7':yfd e g6 g7:=s7;have up:∀b o,b≠e->g4.get? b=some o->g7.get? b=some o:=λb o n z=>s7'.extBut b o n (s6'.extBut b o n (s5'.extBut b o n z));refine yaa (yxm (yda ⟨_,rfl,yda (q g7 e7 ?_ (up _ _ (yfg lt) t4) λb o n1 n2 z=>up b o n1 (k4 b o n1 n2 z))⟩));obtain⟨o,z,r⟩:=i4;exact⟨o,up _ _ (yge ne) z,r⟩
theorem zuac {e it t:Addr}{i:Nat}{ys:Array Value}{R:Option Value->Shared->Prop}(hd:Ar.handled=none)(hE:En sh.heap e it t i)(h2:sh.heap.IsTuple t ys)(h3:ys[i]?=none)
  (q:∀g,yps it sh.heap g->R none { sh with heap:=g }):wpAny (model pr wo) Ar (pyNext (.ref e)) R Ex sh:=by
 obtain⟨⟨old,he⟩,h1,ne⟩:=hE;have ty:sh.TypeIs (.ref e) "enumerate":=⟨_,he,rfl⟩;unfold pyNext;refine yaa (yph (yhc (name:=yue "__next__") ty ylh (ylc ylh ty yln ?_ (ywm _))));refine (show wpAny (model pr wo) Ar.in1 (field (.ref e) 2 >>= _) _ _ sh from yaa (yle he rfl (x:=.ref it) rfl ?_));refine yaa (zjqb hd h1 h2 h3 λg x b z=>?_);obtain⟨o,z1,z2⟩:=z;exact yaa (yxj (T:="StopIteration") (b:=true) ⟨o,z1,z2⟩ yap (yda (q _ b)))
open AutoSeq1 (wpAny_loadPart') in
theorem zxmb (t:Addr)(ys:Array Value)(n:Nat)(dct:Option Addr)(sl:Array (Option Value)):Meets (yod.«enumerate.__new__» ⟨[.type "enumerate",.ref t],[]⟩) (λ_ R s=>s.heap.get? t=some { cls:=.type "tuple",dict:=dct,data:=.seq ys n,slots:=sl } ∧
   R (.ok (.ret (.ref (s.heap.push { cls:=.type "tuple_iterator",data:=.fields #[.ref t,.int 0 0] }).objs.size)))
    { s with heap:=(s.heap.push { cls:=.type "tuple_iterator",data:=.fields #[.ref t,.int 0 0] }).push { cls:=.type "enumerate",data:=.fields #[.none,.bool false,.ref s.heap.objs.size,rawInt 0,.none,.none] } }) :=
 .of_wp λprog w A R s h=>by
  obtain⟨hp,g,d,tk,os⟩:=s;obtain⟨ht,h⟩:=h;have hsub:=sub_enumerate;have hT:Heap.IsTuple (Shared.heap ⟨hp,g,d,tk,os⟩) t ys:=⟨_,ht,rfl,n,rfl⟩
  wp_walk using wpAny_loadPart' ht
  refine wpAny_stack_any λst=>yda ?_
  split
  ·rename_i c _ _ _ _ _;cases (c==Value.type "enumerate")
   ·wp_walk using wpAny_loadPart' ht,ywg hT
    exact⟨_,rfl,h⟩
   ·wp_walk using wpAny_loadPart' ht,ywg hT
    exact⟨_,rfl,h⟩
  ·wp_walk using wpAny_loadPart' ht,ywg hT
   exact⟨_,rfl,h⟩
theorem zekb {t:Addr}{ys:Array Value}{R:Value->Shared->Prop}(hT:sh.heap.IsTuple t ys)
  (q:∀g,En g (sh.heap.objs.size+1) sh.heap.objs.size t 0->(∀b o,sh.heap.get? b=some o->g.get? b=some o)->R (.ref (sh.heap.objs.size+1)) { sh with heap:=g }) :
  wpAny (model pr wo) Ar (call (.type "enumerate") [.ref t]) R Ex sh:=by
 obtain⟨⟨c,dct,dt,sl⟩,ht,hc,n,hd⟩:=hT;have hc':c = .type "tuple":=hc;have hd':dt = .seq ys n:=hd;subst hc' hd';refine callType_new F.called_enumerate (by decide) (F.typeCall_enumerate_1 _) (F.newCall_enumerate_1 _) (λobj=>F.args_object_init_2 obj _) F.entry_enumerate_new (zxmb t ys n dct sl) ⟨ht,?_⟩;obtain⟨g1,hg1⟩:∃g1,g1=sh.heap.push { cls:=.type "tuple_iterator",data:=.fields #[.ref t,.int 0 0] }:=⟨_,rfl⟩;have sz:g1.objs.size=sh.heap.objs.size+1:=by rw[hg1];exact yae ..
 show _∧_
 rw[← hg1,sz];have he:IsEnum (g1.push { cls:=.type "enumerate",data:=.fields #[.none,.bool false,.ref sh.heap.objs.size,rawInt 0,.none,.none] }) (sh.heap.objs.size+1) sh.heap.objs.size ((0:Nat):Int) .none:=by
  have z:=yna g1 (o:={ cls:=.type "enumerate",data:=.fields #[.none,.bool false,.ref sh.heap.objs.size,rawInt 0,.none,.none] }) rfl;rw[sz] at z;exact z
 refine⟨⟨_,he,rfl⟩,q _ ⟨⟨_,he⟩,⟨_,yba _ (by rw[hg1];exact yna _ rfl),rfl,rfl⟩,Nat.succ_ne_self _⟩ λb o x=>yba _ (by rw[hg1];exact yba _ x)⟩
theorem zbcb {e it t:Addr}{i:Nat}{R:Value->Shared->Prop}(h:En sh.heap e it t i)(q:R (.ref e) sh):wpAny (model pr wo) Ar (pyIter (.ref e)) R Ex sh:=by
 obtain⟨⟨old,he⟩,_,_⟩:=h;exact wpAny_pyIter_enum he q
end
section
variable {X:Cx}{pins:List (Addr×Obj)}{σ:St}{H:Hp}{s:Shared}{h':Heap}
theorem Inv.zqub {t':Nat}{p q:Addr}(I:Inv X pins σ H s)(k:∀b o,b≠p->b≠q->s.heap.get? b=some o->h'.get? b=some o)(fp:FpOk X pins H p)(fq:FpOk X pins H q):Inv X pins σ H { s with heap:=h',toks:=t' }:=by
 have o1:∀b u,H b=some u->b≠p:=λb u e z=>by
  rw[z,fp.1] at e;cases e
 have o2:∀b u,H b=some u->b≠q:=λb u e z=>by
  rw[z,fq.1] at e;cases e
 have kk:∀b o,b∉[p,q]->s.heap.get? b=some o->h'.get? b=some o:=λb o hb e=>k b o (λz=>hb (by simp[z])) (λz=>hb (by simp[z])) e;refine I.step (g':=s.gens) (d':=s.drawn) (ch:=[p,q]) (λb hb=>?_) (λb o _ _ hc e _=>kk b o hc e) (λb o _ _ hc e _=>⟨o.slots,kk b o hc e⟩) (λ_ _ _ _ n=>n)
  (λb o hc e=>⟨o,kk b o hc e⟩) (λ_ _ e=>e) (λ_ _ _ e=>e) (λb ps e=>⟨#[],by rw[e];simp⟩) (λm hm=>?_) (λb u e=>?_) I.bare
 ·have e:b=p∨b=q:=by simpa using hb
  rcases e with e|e
  ·rw[e];exact⟨fp.2.2.2.1,fp.2.1,fp.2.2.2.2.1,fp.2.2.2.2.2⟩
  ·rw[e];exact⟨fq.2.2.2.1,fq.2.1,fq.2.2.2.2.1,fq.2.2.2.2.2⟩
 ·obtain⟨o,es,ep,ho,r⟩:=hm;exact⟨o,es,ep,k _ o (yge fp.2.1) (yge fq.2.1) ho,r⟩
 ·refine (I.hok b u e).stay (λc v hc z=>?_) (λ_ z=>z) λ_ _ z=>z
  rcases hc with y|y
  ·rw[y];rw[y] at z;exact k b v (o1 b u e) (o2 b u e) z
  ·exact k c v (o1 c _ y) (o2 c _ y) z
end
def Ite (K:yca)(a:Addr):It :=
 ⟨λi H=>Ex2 λxs x=>SqT K H a xs∧xs[i]?=some x,λi H x H'=>Ex2 λp v=>H p=none∧x = .ref p∧H'=upd H p (.tup [.int (i:Int),v])∧∀xs,SqT K H a xs->xs[i]?=some v,λi H=>∃xs,SqT K H a xs∧xs.length≤i⟩
theorem zjib {P:yqb}{w:World}{K:yca}{es:List Expr}{k1:Nat}{pos:Pos}(a e it:Addr):Turn P w K (.Tuple es k1 pos) (Ite K a) [e,it] e (λi h=>En h e it a i) where
 mem:=by simp
 obj:=λi h st b hb=>by
  have z:b=e∨b=it:=by simpa using hb
  obtain⟨⟨old,he⟩,⟨o,g1,g2,g3⟩,_⟩:=st
  rcases z with rfl|rfl
  ·exact⟨_,he,λv y=>by cases y⟩
  ·exact⟨o,g1,λv y=>by rw[g3] at y;cases y⟩
 keep:=λi h h' st k=>by
  obtain⟨⟨old,he⟩,⟨o,g1,g2⟩,n⟩:=st;exact⟨⟨old,k e (by simp) _ he⟩,⟨o,k it (by simp) _ g1,g2⟩,n⟩
 item:=by
  intro X hP hw hK hc i pins s σ H E I hf st hg;subst hP hw hK;obtain⟨xs,x,hq,hx⟩:=hg;obtain⟨its,rv,p,hz⟩:=I.tuple hq;obtain⟨u,hu,ru⟩:=rv.get hx;have fe:=hf e (by simp);have fi:=hf it (by simp);have ne:=st.2.2;refine zixb st (show s.heap.IsTuple a its.toArray from p) (v:=u) (by simpa using hu) λg e1 i1 t1 k1=>?_;refine⟨_,rfl,wpAny_letOwnedTupleGo_enum e1 λg2 e2 s2=>?_⟩;have lt1:e<s.heap.objs.size:=by
   obtain⟨⟨old,he⟩,_⟩:=st;exact ysa he
  have lt2:it<s.heap.objs.size:=by
   obtain⟨_,⟨o,g1,_⟩,_⟩:=st;exact ysa g1
  have kk:∀b o,b≠e->b≠it->s.heap.get? b=some o->g2.get? b=some o:=λb o n1 n2 z=>s2.extBut b o n1 (k1 b o n1 n2 z);have tt:g2.get? s.heap.objs.size=some { cls:=.type "tuple",data:=.seq #[.int i s.toks,u] }:=s2.extBut _ _ (yfg lt1) t1;have na:∀b,b<s.heap.objs.size->b≠s.heap.objs.size:=λb h=>ydb h;have I1:Inv X pins σ (upd H s.heap.objs.size (.tup [.int (i:Int),x])) { s with heap:=s.heap.push { cls:=.type "tuple",data:=.seq #[.int i s.toks,u] },toks:=s.toks+1 } :=
   I.laid (t':=s.toks+1) (λb o z=>yba _ z) (yha _) ⟨by show 2≤yta;decide,[.int i s.toks,u],.cons ⟨_,rfl⟩ (.cons ru .nil),⟨_,yna _ rfl,rfl,_,rfl⟩⟩
  have fo:∀b,b<s.heap.objs.size->FpOk X pins H b->FpOk X pins (upd H s.heap.objs.size (.tup [.int (i:Int),x])) b:=λb h f=>⟨by rw[zta (na b h)];exact f.1,f.2⟩;have I2:=I1.zqub (h':=g2) (t':=s.toks+1) (p:=e) (q:=it) (λb o n1 n2 z=>by
   by_cases hb:b=s.heap.objs.size
   ·rw[hb] at z ⊢;rw[yna _ rfl] at z;cases z;exact tt
   ·rw[Heap.get?_push_ne _ _ _ hb] at z;exact kk b o n1 n2 z) (fo e lt1 fe) (fo it lt2 fi)
  refine⟨.ref s.heap.objs.size,_,I2,rfl,⟨s.heap.objs.size,x,I.hok.fresh (yha _),rfl,rfl,λys hy=>by rw[I.zbab hy hq];exact hx⟩,⟨⟨u,e2⟩,?_,ne⟩,λb hb=>?_⟩
  ·obtain⟨o,z,r⟩:=i1;exact⟨o,s2.extBut _ _ (yge ne) z,r⟩
  ·have z:b=e∨b=it:=by simpa using hb
   rcases z with rfl|rfl
   ·exact (fo _ lt1 fe).1
   ·exact (fo _ lt2 fi).1
 done:=by
  intro X hP hw hK hc i pins s σ H E I hf st hg;subst hP hw hK;obtain⟨xs,hq,hx⟩:=hg;obtain⟨its,rv,p,hz⟩:=I.tuple hq;obtain⟨f0,f1,f2,f3,f4,f5⟩:=hf it (by simp);have hl:=rv.length;exact zuac (I.ok.hd hc) st (show s.heap.IsTuple a its.toArray from p) (by simp;omega) λg eb=>⟨rfl,I.turned (t':=s.toks) (λb o hb z=>eb b o hb z) f0 f1 f3 f4 f5⟩
 self:=λ_ _ _ _ _ st h=>zbcb st h
section
variable {X:Cx}
theorem zgpb:yzg "enumerate" = some (.type "enumerate"):=by decide +kernel
def iEnT (K:yca)(ta:TA):TI:=fun σ H R=>ta σ H λvs H1=>Ex2 λa xs=>vs=[.ref a]∧SqT K H1 a xs∧R (Ite K a) H1
theorem zmrb {es:List Expr}{k1:Nat}{tp:Pos}{a:Expr}{ta:TA}{p pos:Pos}(hg:Gl X "enumerate")(hm:X.mg "enumerate" = none)(ha:PA X [a] ta)(hs:ywc [a] X.env=[(false,eval a X.env)]:=by rfl):PI X (.Tuple es k1 tp) (.Call (.Name "enumerate" p) [a] [] pos) (iEnT X.K ta):=by
 intro pins s σ H R I h;refine Call_ (zcw I hg hm zgpb (ybf (thn (ha pos pins s σ H _ I h) λus s1 ⟨vs,H1,I1,r1,q1⟩=>?_) hs rfl));obtain⟨b,xs,e,hq,q⟩:=q1;subst e;obtain⟨u,rfl,ru⟩:=vals1 r1;cases ru;obtain⟨its,rv,pl,hz⟩:=I1.tuple hq;refine zekb (show s1.heap.IsTuple b its.toArray from pl) λg en kp=>?_;refine zbcb (sh:={ s1 with heap:=g }) en ?_;refine⟨s1.heap.objs.size+1,[s1.heap.objs.size+1,s1.heap.objs.size],_,_,H1,rfl,I1.kept (t':=s1.toks) kp,zjib b _ _,en,λc hc=>?_,q⟩;have z:c=s1.heap.objs.size+1∨c=s1.heap.objs.size:=by simpa using hc
 rcases z with rfl|rfl
 ·exact I1.fpOk (yke _) (I1.hok.fresh (yke _))
 ·exact I1.fpOk (yha _) (I1.hok.fresh (yha _))
end
theorem zgob {K:yca}{a:Addr}{xs:List V}{g:TG}{tb:TS}{D:Ends}{σ:St}{H:Hp}(Pv:Nat->St->Hp->Prop)(h0:Pv 0 σ H)(hl:∀i σ H,i≤xs.length->Pv i σ H->SqT K H a xs)
  (hs:∀i x σ H p,xs[i]?=some x->Pv i σ H->H p=none->g (.ref p) σ (upd H p (.tup [.int (i:Int),x])) fun σ2 H2=>tb { D with nx:=Pv (i+1),ct:=Pv (i+1),bk:=D.nx } σ2 H2) (hd:∀ σ H,Pv xs.length σ H->D.nx σ H) :
  ∃W:Nat->Nat->St->Hp->Prop,(∃m,W 0 m σ H)∧∀i m σ H,W i m σ H →
   ((Ite K a).stop i H∧D.nx σ H)∨((Ite K a).go i H∧∃N:St->Hp->Prop,(∀ σ' H',N σ' H'->∃m',m'<m∧W (i+1) m' σ' H')∧∀x H',(Ite K a).yld i H x H'->g x σ H' fun σ2 H2=>tb { D with nx:=N,ct:=N,bk:=D.nx } σ2 H2):=by
 refine⟨λi m σ H=>m=xs.length-i∧i≤xs.length∧Pv i σ H,⟨xs.length,rfl,ygb _,h0⟩,?_⟩;rintro i m σ H ⟨rfl,hi,pv⟩;have sq:=hl i σ H hi pv
 by_cases lt:i<xs.length
 ·have ex:xs[i]?=some xs[i]:=yoa lt;refine .inr ⟨⟨xs,xs[i],sq,ex⟩,Pv (i+1),fun σ' H' z=>⟨xs.length-(i+1),by omega,rfl,lt,z⟩,λx H' y=>?_⟩;obtain⟨p,v,hp,rfl,rfl,hv⟩:=y;exact hs i v σ H p (hv xs sq) pv hp
 ·obtain rfl:i=xs.length:=by omega
  exact .inl ⟨⟨xs,sq,yha _⟩,hd σ H pv⟩
end L2
namespace L2
open PySem PyProof.Rows
theorem zbtb (n:Nat):sliceRange ((n:Int)-1) (-1) (-1)=(ywe n).map λk=>n-1-k:=by
 unfold sliceRange;simp only[show ¬ ((-1:Int)>0) by decide,if_false];have c:(if (n:Int)-1 > -1 then ((n:Int)-1 - -1 - -1-1) / (- -1) else 0).toNat=n:=by
  have d:((n:Int)-1 - -1 - -1-1) / (- -1)=(n:Int):=by
   rw[show (- -1:Int)=1 by decide,Int.ediv_one];omega
  rw[d]
  split<;>omega
 rw[c];apply ygi;intro k hk;have:=ynj.mp hk;omega
theorem zfkb (xs:Array Value):(ywe xs.size).filterMap (λk=>xs[xs.size-1-k]?)=xs.toList.reverse:=by
 have go:∀(l:List Nat),(∀k∈l,k<xs.size)->l.filterMap (λk=>xs[xs.size-1-k]?)=l.map λk=>xs.toList.getD (xs.size-1-k) .none:=by
  intro l
  induction l with
  | nil=>intro _;rfl
  | cons k r ih =>
   intro h;have lt:=h k yka;have h1:xs.size-1-k<xs.size:=(by omega);have e1:xs[xs.size-1-k]?=some xs[xs.size-1-k]:=ynb h1;rw[ykg,e1,ybb,ih λz hz=>h z (yma _ hz),yhb,yvb,e1];rfl
 rw[go _ λk hk=>ynj.mp hk];apply List.ext_getElem
 ·simp
 ·intro i h1 h2;have lt:i<xs.size:=by simpa using h1
  rw[ykf,List.getElem_range,List.getElem_reverse,yhb,yoa (by simp;omega)];simp
theorem zgmb (xs:Array Value):yis xs none none (some (-1))=xs.toList.reverse.toArray:=by
 unfold yis;have b:yfh none none (some (-1)) xs.size=((xs.size:Int)-1,-1,-1):=by
  unfold yfh;simp
 rw[b];dsimp only;rw[zbtb,ybq];rw[← zfkb];rfl
section
variable {X:Cx}{e st:Expr}{te ts:TE}{p2 pos:Pos}
def tRev (K:yca)(te ts:TE):TE:=fun σ H Q=>te σ H λx H1=>ts σ H1 λy H2=>y = .int (-1)∧Ex2 λa xs=>x = .ref a∧SqL K H2 a xs∧∀p,H2 p=none->Q (.ref p) (upd H2 p (.lst xs.reverse))
theorem zfzb (he:PE X e te)(hst:PE X st ts):PE X (.Subscript e (.Slice none none (some st) p2) pos) (tRev X.K te ts):=by
 intro pins s σ H Q I h;refine ywq (thn (he pins s σ H _ I h) λv s1 ⟨x,H1,I1,r1,q1⟩=>?_);refine wpAny_Slice ?_;rw[ycq];refine yda (yda ?_);rw[evalPart_some];refine thn (hst pins s1 σ H1 _ I1 q1) λvs s2 ⟨y,H2,I2,r2,e2,a,xs,ex,hq,q2⟩=>?_;subst e2 ex;obtain⟨tk,rfl⟩:=r2;obtain rfl:v=Value.ref a:=r1;have I3:Inv X pins σ H2 { s2 with heap:=s2.heap.push { cls:=.type "slice",data:=.fields #[.none,.none,.int (-1) tk] } }:=I2.kept (t':=s2.toks) λb ob q=>yba _ q;obtain⟨its,rv,ht,hz⟩:=I3.list hq;show wpAny (model X.prog X.w) X.A (ypm e (.Slice none none (some st) p2) (.ref a) (.ref s2.heap.objs.size)) (EP X pins σ Q) X.xe { s2 with heap:=s2.heap.push { cls:=.type "slice",data:=.fields #[.none,.none,.int (-1) tk] } }
 refine tail_any (ops:=[.ref a,.ref s2.heap.objs.size]) ht.isList.typeIs yvl.lookup ?_ (by with_unfolding_all rfl);refine yxl ht.isList (ydq ..) .none .none (.int _ _) (by decide) ?_ (by rw[yqa,← rv.length];exact hz);rw[zgmb];refine⟨.ref _,_,I3.laid (t':=s2.toks) (o:=.lst xs.reverse) (λb ob q=>yba _ q) (yha _) ?_,rfl,q2 _ (I3.hok.fresh (yha _))⟩;exact⟨by rw[List.length_reverse];exact hz,_,0,rv.reverse,yna _ rfl⟩
end
end L2
namespace DL
open PySem PySem.Spec PyProof.Rows
theorem zpwb:yvq (.type "list") "keys" = pure none:=by
 rw[yco,ysj]
 kernel_rfl
theorem zqhb:entryFor table "dict.update.loop" = some yod.«dict.update.loop»:=entryFor_of_tree (by kernel_rfl)
theorem zpx:plainId "dict.update.loop" = true:=by decide +kernel
section
variable {prog:yqb}{w:World}{A:Around}{E:Value->Shared->Prop}{s:Shared}
theorem zonb {a:Addr}{xs:Array Value}{k:Nat}{sl:Array (Option Value)}{Q:Option Value->Shared->Prop}(hA:A.handled=none)
  (hx:s.heap.get? a=some { cls:=.type "list",dict:=none,data:=.seq xs k,slots:=sl })
  (h:∀h' tk,(∀b q,s.heap.get? b=some q->h'.get? b=some q)->Q none { s with heap:=h',toks:=tk }) :
  wpAny (model prog w) A (getAttr? (.ref a) "keys") Q E s:=by
 obtain⟨hp,g,d,tk,os⟩:=s;have ty:∀t',(⟨hp,g,d,t',os⟩:Shared).TypeIs (.ref a) "list":=λ_=>⟨_,hx,rfl⟩;have f1:=sub_AttributeError;have f3:=yig.lookup;have f4:=yig.bind (.ref a);have f5:=am_list_getattr_none;have ms:∀u:Tok,_:=λu=>meets_getattribute_miss_list a xs k sl "keys" u zpwb (by decide +kernel);unfold getAttr? getAttrBy? getAttrBy
 repeat (any_goals (first|assumption|exact ty _|(with_reducible refine yph ?_)|(refine ymi yig (ty _) am_entry_list_getattribute (PySem.F.args_list_getattribute_2 _ _) (ms _) ⟨hx,hA,λh' tk' e hx'=>?_⟩)|wp_step))
 obtain⟨t1,u1,he⟩:=hx'.there;show wpAny _ _ (getattributeRaised _ _ _ _ _ _ _) _ _ _
 unfold getattributeRaised
 repeat (any_goals (first|assumption|wp_step))
 exact h _ _ hx'.keeps
section
variable {κ:Type}[DecidableEq κ]{knd:KeyKind prog w κ}
theorem zmib (kvs:List (κ×Value))(k:κ)(v:Value):(stored kvs k v).length≤kvs.length+1:=by
 unfold stored
 split
 ·rw[yea];omega
 ·rw[yja];exact yha _
theorem zaw:∀(more kvs:List (κ×Value)),(merged kvs more).length≤kvs.length+more.length
 | [],kvs=>yha _
 | kv::r,kvs=>by
  have z:=zaw r (stored kvs kv.1 kv.2);have y:=zmib kvs kv.1 kv.2;show (merged (stored kvs kv.1 kv.2) r).length≤_
  rw[yfa];omega
def zspb (knd:KeyKind prog w κ)(h:Heap)(v:Value)(kv:κ×Value):Prop:=Ex4 λ(t:Addr) (o:Obj) (key:Value) (n:Nat)=>v = .ref t∧h.get? t=some o∧o.cls = .type "tuple" ∧ o.data = .seq #[key,kv.2] n∧knd.is kv.1 key=true
theorem loop {R:Result->Shared->Prop}{I S:Addr}{fp wr:List Addr}{n:Nat}{P:Nat->Value->Prop}{St:Nat->Heap->Prop}(W:Walks prog w A.in1 I fp wr n P St)(hSf:S∉fp)(ps:List (κ×Value))(h0:Heap)
  (hval:∀i v,P i v->∃kv,ps[i]?=some kv∧zspb knd h0 v kv) (hfar:∀c o,h0.get? c=some o->c∉S::wr) (hn:n≤1000) :
  ∀(k i:Nat) (s:Shared),n-i=k->i≤n->St i s.heap->s.heap.DictOf knd S (merged [] (ps.take i))->(∀c o,h0.get? c=some o->s.heap.get? c=some o) →
   (∀h' tk,h'.DictOf knd S (merged [] (ps.take n))->(∀c o,h0.get? c=some o->h'.get? c=some o)->R (.ok (.ret .none)) { s with heap:=h',toks:=tk }) →
   yej (model prog w) A (.builtin "dict.update.loop" ⟨[.ref S,.ref I,rawInt i,.none],[]⟩) R s:=by
 have nw:S∉wr:=λz=>hSf (W.sub _ z);intro k
 induction k with
 | zero =>
  intro i s hk hi st hS h0s hR;obtain rfl:i=n:=by omega
  refine yvc zqhb ?_;rw[yfc zpx _];show wpAny _ A.in1 (pyNext (.ref I) >>= _) _ _ s
  refine yaa (W.done s _ _ st λh' tk keep=>?_);have z:=hR h' tk (let ⟨o,es,ep,ho,r⟩:=hS;⟨o,es,ep,keep S o nw ho,r⟩) λc o e=>keep c o (λz=>hfar c o e (yma _ z)) (h0s c o e);exact yaa (yda (yda z))
 | succ k ih =>
  intro i s hk hi st hS h0s hR;have hlt:i<n:=by omega
  refine yvc zqhb ?_;rw[yfc zpx _];show wpAny _ A.in1 (pyNext (.ref I) >>= _) _ _ s
  refine yaa (W.item i s _ _ hlt st λv h1 tk hP st1 keep=>?_);obtain⟨kv,hx,t,o,key,m,rfl,e1,e2,e3,e4⟩:=hval i v hP;have h01:∀c o,h0.get? c=some o->h1.get? c=some o:=λc o e=>keep c o (λz=>hfar c o e (yma _ z)) (h0s c o e);have hS1:h1.DictOf knd S (merged [] (ps.take i)):=let ⟨o,es,ep,ho,r⟩:=hS;⟨o,es,ep,keep S o nw ho,r⟩;have et:=h01 _ _ e1;refine yaa (ymc (yaa (yoj ?_)));unfold yod.Dict.pairItems;refine yaa (ybl (T:="tuple") ⟨o,et,e2⟩ ?_);rw[if_pos (by decide)];refine yaa (yyh et e3 (yda ?_));show wpAny _ _ (ylm [key,kv.2] (dictSet S key kv.2)) _ _ _
  have ml:(merged ([]:List (κ×Value)) (ps.take i)).length≤i:=by
   have z:=zaw (ps.take i) ([]:List (κ×Value));rw[yza] at z;have:([]:List (κ×Value)).length=0:=rfl;omega
  refine ymc (wpAny_dictSet_pairs e4 hS1 (λh2 D2 sb=>?_) (yua (yua ml hi) (yua hn (by decide))));rw[← merged_take_succ [] ps i kv hx] at D2;refine yda ⟨yvd zpx _,ih (i+1) _ (by omega) hlt (W.frame _ h1 _ st1 λc hc o e=>?_) D2 (λc o e=>?_) λh3 tk3 D3 k3=>hR h3 tk3 D3 k3⟩
  ·show h2.get? c=some o;rw[sb.2 c (λz:c=S=>hSf (by rw[← z];exact hc))];exact e
  ·show h2.get? c=some o;rw[sb.2 c (λz:c=S=>hfar c o e (by rw[z];exact yka))];exact h01 c o e
theorem dict_list {l:Addr}{its:Array Value}{nl:Nat}{sl:Array (Option Value)}{ps:List (κ×Value)}{Q:Value->Shared->Prop}(hA:A.handled=none)
  (hl:s.heap.get? l=some { cls:=.type "list",dict:=none,data:=.seq its nl,slots:=sl }) (hv:∀(i:Nat) (v:Value),its[i]?=some v->∃kv,ps[i]?=some kv∧zspb knd s.heap v kv) (hz:its.size=ps.length) (hb:its.size≤1000)
  (h:∀(h':Heap) (tk:Nat),h'.DictOf knd s.heap.objs.size (merged [] ps)->(∀c o,s.heap.get? c=some o->h'.get? c=some o)->Q (.ref s.heap.objs.size) { s with heap:=h',toks:=tk }) :
  wpAny (model prog w) A (call (.type "dict") [.ref l]) Q E s:=by
 refine callType_codes (Q₁:=λob s1=>ob = .ref s.heap.objs.size∧s1={ s with heap:=s.heap.push { cls:=.type "dict",data:=.dict #[] } }) PySem.F.kt_called_dict (PySem.F.kt_typeCall_dict_1 _) PySem.F.entry_dict_init (kt_code_dict_new _ ⟨rfl,rfl⟩) ?_;rintro ob s1 ⟨rfl,rfl⟩;have D0:(s.heap.push { cls:=.type "dict",data:=.dict #[] }).DictOf knd s.heap.objs.size []:=Heap.DictOf.new s.heap;have lt:l<s.heap.objs.size:=ysa hl;have el:=yba { cls:=.type "dict",data:=.dict #[] } hl;refine⟨D0.typeIs,PySem.F.args_dict_init_2 _ _,?_⟩;unfold yod.«dict.__init__»;refine yaa ?_;unfold yod.Dict.selfAndRest;refine yaa (yjo D0.typeIs ?_);show wpAny _ _ (pure (s.heap.objs.size,[Value.ref l])) _ _ _
 refine yda ?_;show wpAny _ _ (yym "dict.__init__" s.heap.objs.size (.ref l) [] .none) _ _ _
 unfold yym;refine yaa (ybl (T:="list") ⟨_,el,rfl⟩ ?_);rw[if_pos (by decide)];refine yaa (zonb hA el λh1 tk k1=>?_);rw[if_pos (show (none:Option Value).isNone=true from rfl)];refine yaa (yhj ?_);have L1:h1.IsList l its:=⟨_,k1 _ _ el,rfl,nl,rfl⟩;have D1:h1.DictOf knd s.heap.objs.size []:=let ⟨o,es,ep,ho,r⟩:=D0;⟨o,es,ep,k1 _ _ ho,r⟩;have k2:∀c o,s.heap.get? c=some o->h1.get? c=some o:=λc o e=>k1 _ _ (yba _ e);have ltS:s.heap.objs.size<h1.objs.size:=let ⟨o,_,_,ho,_⟩:=D1;ysa ho;have ltl:l<h1.objs.size:=ysa (k2 _ _ hl);refine yaa (ymh L1 (yda ⟨yvd zpx _,?_⟩));have hx:ps.take its.size=ps:=ypa (by rw[hz];exact yha _);refine loop (knd:=knd) (ybr (A:=A.in1.in1) hA h1.objs.size l (ydb ltl) its) ?far ps s.heap hv ?near hb (its.size-0) 0 _ (by omega) (ygb _) ⟨⟨_,yna _ rfl,rfl,rfl⟩,L1.push _⟩ (D1.push _) (λc o e=>yba _ (k2 c o e)) ?fin
 case far =>
  intro z
  rcases yla.mp z with z|z
  ·exact absurd z (ydb ltS)
  ·exact absurd (yga.mp z) (yfg lt)
 case near =>
  intro c o e z;have clt:=ysa e
  rcases yla.mp z with z|z
  ·exact absurd z (ydb clt)
  ·exact absurd (yga.mp z) (ydb (ysa (k2 c o e)))
 case fin =>
  intro h' tk' D' keep;rw[hx] at D';exact⟨rfl,h h' tk' D' keep⟩
end
end
end DL
namespace L2
open PySem PyProof.Rows
section
variable {X:Cx}
def KvT (K:yca)(H:Hp)(u:V)(kv:Key×V):Prop:=∃a,u = .ref a∧SqT K H a [kV kv.1,kv.2]
theorem zmmb {pins:List (Addr×Obj)}{σ:St}{H:Hp}{s:Shared}(I:Inv X pins σ H s){ys:List V}{kvs:List (Key×V)}{its:List Value}(h:Paired (KvT X.K H) ys kvs):Vals ys its →
  ∃rs:List (Key×Value),KV kvs rs∧rs.length=its.length∧∀(i:Nat) (v:Value),its[i]?=some v->∃kv,rs[i]?=some kv∧DL.zspb (zse X.prog X.w) s.heap v kv:=by
 induction h generalizing its with
 | nil =>
  intro r;cases r;exact⟨[],.nil,rfl,by simp⟩
 | @cons y kv ys kvs hk t ih =>
  intro r;cases r with
  | cons r rv =>
   obtain⟨a,rfl,ht⟩:=hk;obtain⟨ts,rt,⟨o,e1,e2,n,e3⟩,_⟩:=I.tuple ht;obtain⟨rs,k1,k2,k3⟩:=ih rv;cases r;obtain⟨u1,u2,rfl,r1,r2⟩:=vals2 rt;refine⟨(kv.1,u2)::rs,.cons ⟨rfl,r2⟩ k1,by rw[yfa,yfa,k2],?_⟩;intro i v e;cases i with
   | zero =>
    rw[yic] at e;cases e;exact⟨_,rfl,a,o,u1,n,rfl,e1,e2,e3,zrjb r1⟩
   | succ i =>
    rw[ycb] at e;obtain⟨kv2,h1,h2⟩:=k3 i v e;exact⟨kv2,by rw[ycb];exact h1,h2⟩
theorem zut (hc:X.calm=true):zui X (.type "dict") (λxs H Q=>Ex3 λ(p:Addr) (ys:List V) (kvs:List (Key×V))=>xs=[.ref p]∧SqL X.K H p ys∧Paired (KvT X.K H) ys kvs∧ys.length≤1000∧∀l,H l=none->Q (.ref l) (upd H l (.dK (zmm [] kvs)))):=by
 intro pins s σ H xs us Q I r h;obtain⟨p,ys,kvs,rfl,hq,hy,hl,q⟩:=h;obtain⟨u,rfl,ru⟩:=vals1 r;cases ru;obtain⟨its,rv,⟨⟨oc,od,oD,os⟩,n,e,h1,h2,h3⟩,hz⟩:=I.list hq;dsimp only at h1 h2 h3;subst h1 h2 h3;obtain⟨rs,k1,k2,k3⟩:=zmmb I hy rv;have il:=rv.length;have kl:=k1.length;have ml:=zko kvs [];have m0:([]:List (Key×V)).length=0:=rfl;refine DL.dict_list (knd:=zse X.prog X.w) (ps:=rs) (I.ok.hd hc) e (λi v z=>k3 i v (by rw[ytj] at z;exact z)) (by rw[yqa,k2]) (by rw[yqa];omega) λh' tk D k=>?_;have big:(zmm [] kvs).length≤yta:=yua (show (zmm [] kvs).length≤1000 by omega) (by decide);exact⟨.ref s.heap.objs.size,_,I.laid (a:=s.heap.objs.size) (o:=.dK (zmm [] kvs)) (t':=tk) (λb o e=>k b o e) (yha _) (zgub big (beq_eq_false_iff_ne.mpr (yge (ydb I.big))) (KV.merge k1 .nil) D),rfl,q _ (I.hok.fresh (yha _))⟩
theorem ziv {am:V}{k:Int}:∀(ns:List Int) (acc:List (Key×V)),valV (zmm acc (ns.map λn=>((Sum.inl n:Key),am))) (Sum.inl k)=if k∈ns then some am else valV acc (Sum.inl k)
 | [],acc=>by rw[if_neg (by simp)];rfl
 | n::r,acc=>by
  show valV (zmm (putK acc (Sum.inl n) am) (r.map λn=>((Sum.inl n:Key),am))) (Sum.inl k)=_
  rw[ziv r,zxw]
  by_cases c:k∈r
  ·rw[if_pos c,if_pos (yma _ c)]
  ·rw[if_neg c]
   by_cases e:k=n
   ·rw[if_pos (by rw[e]),if_pos (by rw[e];exact yka)]
   ·rw[if_neg (by intro z;injection z with z;exact e z),if_neg (by intro z;rcases yla.mp z with z|z<;>contradiction)]
end
end L2
namespace SSet
open PySem PySem.Spec PyProof.Rows
section
variable {prog:yqb}{w:World}{A:Around}{E:Value->Shared->Prop}{s:Shared}
theorem set_tuple {l:Addr}{its:Array Value}{xs:List Str}{Q:Value->Shared->Prop}(hh:A.handled=none)(hl:s.heap.IsTuple l its)(hi:yil its.toList xs)(hb:its.size+1<yrj)
  (h:∀(h':Heap) (tk:Nat),SS prog w h' s.heap.objs.size (dd xs) (!w.params.followText "set-order")->(∀c o,s.heap.get? c=some o->h'.get? c=some o)->Q (.ref s.heap.objs.size) { s with heap:=h',toks:=tk }) :
  wpAny (model prog w) A (call (.type "set") [.ref l]) Q E s:=by
 obtain⟨cM,tM,mro⟩:=ytb.mro;have made:=ytb.made;have subs:=ytb.sub;have notT:=ytb.notType;have canC:=ytb.canCreate;have chk:=yin (.ref l);refine ysq (yzn ?_);show wpAny _ _ (callAny (.type "set") ⟨[.ref l],[]⟩) _ _ _
 refine yda ⟨ygq _ (by decide +kernel),yvc ysm ?_⟩;rw[yhq (ybo "set" [Value.ref l] []) rfl]
 repeat (any_goals (first|assumption|wp_step))
 refine ych (zwmb (.ref l) (E:=E) (Q1:=λob s1=>ob = .ref s.heap.objs.size∧s1={ s with heap:=s.heap.push (empt w) }) ⟨rfl,rfl⟩) λr s1 hr=>?_;cases r with
 | error e=>exact hr
 | ok fl =>
  cases fl with
  | ret ob =>
   obtain⟨rfl,rfl⟩:=hr;have g0:(s.heap.push (empt w)).get? s.heap.objs.size=some (empt w):=yna _ rfl;have ty0:ytm { s with heap:=s.heap.push (empt w) } (.ref s.heap.objs.size) "set":=⟨_,g0,rfl⟩;have lk:=ytb.init.lookup;have bd:=ytb.init.bind (.ref s.heap.objs.size)
   repeat (any_goals (first|assumption|wp_step))
   refine ych (codeAny_call_builtin (R:=wants (λr s2=>r = .none∧∃h' tk,s2={ s with heap:=h',toks:=tk }∧SS prog w h' s.heap.objs.size (dd xs) (!w.params.followText "set-order") ∧
     (∀c o,s.heap.get? c=some o->h'.get? c=some o)) E) ytb.init.plain yjn (check_set_init_1 ty0 ?_)) λr2 s2 hr2=>?_
   ·obtain⟨ol,e1,e2,nl,e3⟩:=hl;obtain⟨oc,od,oD,osl⟩:=ol;dsimp only at e2 e3;subst e2 e3;have e1':(s.heap.push (empt w)).get? l=some { cls:=.type "tuple",dict:=od,data:=.seq its nl,slots:=osl }:=yba _ e1;have q1:=PySem.F.sub_tuple_set;have q2:=PySem.F.sub_tuple_frozenset;have q3:(Value.type "tuple" == Value.type "dict")=false:=by decide
    have L1:(s.heap.push (empt w)).IsTuple l its:=⟨_,e1',rfl,nl,rfl⟩;have lt:l<s.heap.objs.size:=ysa e1;unfold yod.«set.__init__» noKeywords ybk;generalize hPI:pyIter=PI
    wp_walk
    subst hPI;refine ywg L1 (yaa (yyo ?_));have ne:l≠(s.heap.push (empt w)).objs.size:=by
     rw[yae];exact ydb (yye lt)
    have nf:s.heap.objs.size∉[(s.heap.push (empt w)).objs.size,l]:=by
     rw[yae];intro z
     rcases yla.mp z with z|z
     ·exact absurd z (ydb (yje _))
     ·exact absurd (yga.mp z) (yfg lt)
    have hv:∀(i:Nat) (v:Value),its[i]?=some v->∃x t,xs[i]?=some x∧v = .str x t:=λi v e=>zaeb hi i v (by rw[yvb];exact e);have hx:xs.take its.size=xs:=ypa (by rw[← yib,hi.length];exact yha _);refine zsgb (b:=!w.params.followText "set-order") (Walks.tuple (by simp[hh]) _ l ne its) nf xs hv hb (its.size-0) 0 _ (by omega) (ygb _) ⟨⟨_,yna _ rfl,rfl,rfl⟩,L1.push _⟩ ?S0 ?R0
    case S0=>exact (znob s.heap).keep λo e=>yba _ e
    case R0 =>
     intro h' tk S' keep;rw[hx] at S';show wpAny _ _ _ _ _ _
     refine yda ?_;show wpAny _ _ (ret Value.none) _ _ _
     refine yda ⟨rfl,h',tk,rfl,S',λc o e=>?_⟩;have clt:=ysa e;refine keep c o ?_ (yba _ (yba _ e));rw[yae];intro z
     rcases yla.mp z with z|z
     ·exact absurd z (ydb clt)
     ·exact absurd (yga.mp z) (ydb (yye clt))
   ·cases r2 with
    | error e=>exact hr2
    | ok fl2 =>
     cases fl2 with
     | ret r =>
      obtain⟨rfl,h',tk,rfl,S',keep⟩:=hr2
      repeat (any_goals (first|assumption|wp_step))
      exact h _ _ S' keep
     | next=>exact hr2.elim
     | brk=>exact hr2.elim
     | cont=>exact hr2.elim
  | next=>exact hr.elim
  | brk=>exact hr.elim
  | cont=>exact hr.elim
end
end SSet
namespace L2
open PySem PyProof.Rows
section
variable {X:Cx}
theorem zrcb (hc:X.calm=true):zui X (.type "set") (λxs H Q=>∃p ys,xs=[.ref p]∧SqT X.K H p (ys.map V.str)∧ys.length≤1000∧∀l,H l=none->Q (.ref l) (upd H l (setO X l (SSet.dd ys)))):=by
 intro pins s σ H xs us Q I r h;obtain⟨p,ys,rfl,hq,hy,q⟩:=h;obtain⟨u,rfl,ru⟩:=vals1 r;cases ru;obtain⟨its,rv,pl,hz⟩:=I.tuple hq;have sy:=zcl rv;have il:its.length=ys.length:=sy.length;refine SSet.set_tuple (xs:=ys) (I.ok.hd hc) pl (by simpa using sy) (by rw[yqa,il];have:yrj=4096:=rfl;omega) λh' tk S k=>?_;have I1:Inv X pins σ (upd H s.heap.objs.size (setO X s.heap.objs.size (SSet.dd ys))) { s with heap:=h',toks:=tk }:=I.laid (t':=tk) (λb o e=>k b o e) (yha _) ⟨S,let ⟨o,_,_,_,e,_⟩:=S;⟨o,e⟩,λh1 h2 x y=>x.keep y⟩;exact⟨.ref s.heap.objs.size,_,I1,rfl,q _ (I.hok.fresh (yha _))⟩
end
end L2
namespace L2
open PySem PySem.Spec PyProof.Rows PySem.MeetsSeq
theorem zfcc (l b:Addr)(items items2:Array Value)(n n2:Nat)(dd dd2:Option Addr)(sl sl2:Array (Option Value))(hc0:items.isEmpty=true) :
  Meets (yod.«tuple.__add__» ⟨[.ref l,.ref b],[]⟩) (λ_ R s=>s.heap.get? l=some { cls:=.type "tuple",dict:=dd,data:=.seq items n,slots:=sl }∧s.heap.get? b=some { cls:=.type "tuple",dict:=dd2,data:=.seq items2 n2,slots:=sl2 }∧R (.ok (.ret (Value.ref b))) s):=by
 refine .of_wp λprog w A R s h=>?_;obtain⟨hp,g,d,tk,os⟩:=s;obtain⟨hl,hb,h⟩:=h;have f2:=PySem.F.sub_tuple_tuple;unfold yod.«tuple.__add__»
 wp_walk using wpAny_loadPart' hl,wpAny_loadPart' hb
 exact⟨_,rfl,h⟩
section
variable {X:Cx}
def zyyb (K:yca):R2:=λx y H Q=>Ex4 λa b xs ys=>x = .ref a∧y = .ref b∧SqT K H a xs∧SqT K H b ys∧ys≠[]∧xs.length+ys.length≤yta∧(xs=[]->Q (.ref b) H)∧(xs≠[]->∀p,H p=none->Q (.ref p) (upd H p (.tup (xs++ys))))
theorem zrrb:OpR X (ypi .Add) (zyyb X.K):=by
 intro pins s σ H x y v u Q I rx ry h;obtain⟨a,b,xs,ys,rfl,rfl,ha,hb,hy,hz,q1,q2⟩:=h
 by_cases c:xs=[]
 ·subst c;cases rx;cases ry;obtain⟨its,r1,p1,_⟩:=I.tuple ha;obtain⟨its2,r2,p2,_⟩:=I.tuple hb;cases r1;obtain⟨⟨cls,dd,data,sl⟩,ho,hc,n,hd⟩:=id p1;obtain⟨⟨cls2,dd2,data2,sl2⟩,ho2,hc2,n2,hd2⟩:=id p2;simp only at hc hd hc2 hd2;subst hc hd hc2 hd2;exact yqr ⟨_,ho,rfl⟩ ⟨_,ho2,rfl⟩ yan yaq yzi yri (yki _ _)
   (zfcc a b _ its2.toArray n n2 dd dd2 sl sl2 rfl) ⟨ho,ho2,⟨.ref b,H,I,rfl,q1 rfl⟩⟩
 ·exact zoh pins s σ H (.ref a) (.ref b) v u Q I rx ry ⟨a,b,xs,ys,rfl,rfl,ha,hb,c,hz,λz=>absurd z hy,λ_=>q2 c⟩
end
end L2
namespace L2
open PySem PyProof.Rows
section
variable {X:Cx}
end
end L2
namespace DK
open PySem PySem.Spec PyProof.Rows
def Raw (h:Heap)(d:Addr)(es:Array ybh)(ep:Nat):Prop:=∃o,h.get? d=some o∧o.ExactDict∧o.data = .dict es ep
section
variable {prog:yqb}{w:World}{A:Around}{E:Value->Shared->Prop}{s:Shared}
theorem Raw.type {d:Addr}{es:Array ybh}{ep:Nat}(h:Raw s.heap d es ep):s.TypeIs (.ref d) "dict":=let ⟨o,g,x,_⟩:=h;⟨o,g,x.1⟩
theorem ztmb (d:Addr):¬ ((Value.ref d==Value.none)=true):=yab
theorem zpjb {d:Addr}{es:Array ybh}{ep:Nat}{Q:Value->Shared->Prop}(lo:(d==yqg)=false)(h:Raw s.heap d es ep)
  (q:Q (.ref s.heap.objs.size) { s with heap:=s.heap.push { cls:=.type "dict_keyiterator",data:=.fields #[.ref d,.int 0 0,.int es.size 0,.int ep 0] } }):wpAny (model prog w) A (pyIter (.ref d)) Q E s:=by
 have ty:=h.type;obtain⟨o,g,x,dat⟩:=h;refine ydm ty ymn (ylc ymn ty PySem.F.entry_dict_iter ?_ (PySem.F.args_dict_iter_1 _));unfold yod.«dict.__iter__» yod.Dict.dictSlotNone;refine yaa (yaa (yjo ty ?_));show wpAny _ _ (pure (Value.ref d)) _ _ _
 refine yda ?_;show wpAny _ _ (yko d >>= _) _ _ _
 unfold yko;rw[if_neg (λz=>by rw[lo] at z;cases z)];refine yaa (yda (yaa (yij g dat (yaa (ylo g dat ?_)))));exact yaa (ybc (yda ⟨_,rfl,"dict_keyiterator",_,⟨_,yna _ rfl,rfl⟩,ydd.lookup,q⟩))
theorem zpnb {it d:Addr}{i ep:Nat}{es:Array ybh}{e:ybh}{Q:Option Value->Shared->Prop}(hit:s.heap.IsKeyIter it d i es.size ep)(h:Raw s.heap d es ep)(hx:es[i]?=some e)
  (q:∀h',h'.IsKeyIter it d (i+1) es.size ep->yfd it s.heap h'->Q (some e.key) { s with heap:=h' }):wpAny (model prog w) A (pyNext (.ref it)) Q E s:=by
 have ty:=hit.typeIs;obtain⟨io,ig,ic,idt⟩:=id hit;obtain⟨o,g,x,dat⟩:=h;obtain⟨lt,ee⟩:=yxk.mp hx;unfold pyNext;refine yaa (yph (yhc (name:=yue "__next__") ty ydd (ylc ydd ty yii ?_ (yai _))));refine yaa (yda (yaa (yaa ?_)))
 first
 | refine yaa (yoe ty (yda ?_))
 | refine yaa (yeg ty (yda ?_))
 refine yaa (ybp ig idt ?_);have own:yek "dict_keyiterator" = false:=by decide
 simp only[own,yqd,if_false];show wpAny _ _ (if (Value.ref d==Value.none)=true then _ else _) _ _ _
 rw[if_neg (ztmb d)];refine yaa (yda (yaa (yij g dat ?_)));rw[if_neg (by simp)];refine yaa (yda (yaa (ylo g dat ?_)));rw[if_neg (by simp)];refine yda ?_;simp only[show ¬ ((i:Int)<0) by omega,if_false,yjc,hx];refine yaa ?_
 first
 | refine yaa (yoe ty (yda ?_))
 | refine yaa (yeg ty (yda ?_))
 refine yaa (ymo ty ?_);show wpAny _ _ (yck (.ref it) 1 (rawInt ((i:Int)+1)) >>= _) _ _ _
 refine yaa (yml ig idt (by simp) ?_);have hit2:(s.heap.update it (Obj.mapFields (·.setIfInBounds 1 (rawInt ((i:Int)+1))))).IsKeyIter it d (i+1) es.size ep :=
  ⟨_,yzc _ ig (yio (yvi idt _)),(yjr ..).trans ic,by rw[yvi idt];simp[rawInt]⟩
 refine yaa (ymc (yaa (ymo (s:={ s with heap:=s.heap.update it (Obj.mapFields (·.setIfInBounds 1 (rawInt ((i:Int)+1)))) }) hit2.typeIs ?_)));show wpAny _ _ (pure e.key) _ _ _
 exact yda (yda ⟨_,rfl,yda (q _ hit2 (ywd ..))⟩)
theorem zgsb {it d:Addr}{i ep:Nat}{es:Array ybh}{Q:Option Value->Shared->Prop}(hh:A.handled=none)(hit:s.heap.IsKeyIter it d i es.size ep)(h:Raw s.heap d es ep)(hx:es.size≤i)
  (q:∀h',yps it s.heap h'->Q none { s with heap:=h' }):wpAny (model prog w) A (pyNext (.ref it)) Q E s:=by
 have ty:=hit.typeIs;obtain⟨io,ig,ic,idt⟩:=id hit;obtain⟨o,g,x,dat⟩:=h;unfold pyNext;refine yaa (yph (yhc (name:=yue "__next__") ty ydd (ylc ydd ty yii ?_ (yai _))));refine yaa (yda (yaa (yaa ?_)))
 first
 | refine yaa (yoe ty (yda ?_))
 | refine yaa (yeg ty (yda ?_))
 refine yaa (ybp ig idt ?_);have own:yek "dict_keyiterator" = false:=by decide
 simp only[own,yqd,if_false];show wpAny _ _ (if (Value.ref d==Value.none)=true then _ else _) _ _ _
 rw[if_neg (ztmb d)];refine yaa (yda (yaa (yij g dat ?_)));rw[if_neg (by simp)];refine yaa (yda (yaa (ylo g dat ?_)));rw[if_neg (by simp)];refine yda ?_;simp only[show ¬ ((i:Int)<0) by omega,if_false,yjc,yug hx];refine yaa ?_
 first
 | refine yaa (yoe ty (yda ?_))
 | refine yaa (yeg ty (yda ?_))
 show wpAny _ _ (yck (.ref it) 0 .none >>= _) _ _ _
 refine yaa (yml ig idt (by simp) ?_);show wpAny _ _ (newExc (.type "StopIteration") [] >>= _) _ _ _
 refine yaa ?_;simp only[newExc,newTuple];refine yaa (ybc ?_ (by size_fits));refine yaa (m:=yxh _ _) (yrm (a:=Value.none) (by first|rfl|(simp only[yxh];rfl)) ?_);refine ybc ?_ (by size_fits);simp only[yiq];refine yaa (yjq ?_);rw[show A.in1.handled=none from hh];refine yaa (yda (wpAny_throw ?_));refine yaa (yxj (T:="StopIteration") (b:=true) ⟨_,yna _ rfl,rfl⟩ yap ?_);exact yda (q _ (((ywd ..).extBut.push _).push _))
end
end DK
namespace L2
open PySem PyProof.Rows
section
variable {X:Cx}{pins:List (Addr×Obj)}{σ:St}{H:Hp}{s:Shared}
theorem Inv.freeze {a:Addr}{kvs:List (List Key×V)}{o:Obj}(I:Inv X pins σ H s)(e:H a=some (.dT kvs))(g:s.heap.get? a=some o):Inv X pins σ (upd H a (.frz o (.dT kvs))) s:=by
 have ne:∀b u,H b=some u->(∀kvs,u ≠ .dT kvs)->b≠a:=λb u h n=>zng h e (λz=>n _ z);have ho:∀b x,H b=some (.own x)->upd H a (.frz o (.dT kvs)) b=some (.own x):=λb x h=>by
  rw[zta (ne b _ h λ_ z=>by cases z)];exact h
 have ht:∀b xs,H b=some (.tup xs)->upd H a (.frz o (.dT kvs)) b=some (.tup xs):=λb xs h=>by
  rw[zta (ne b _ h λ_ z=>by cases z)];exact h
 refine I.un (h':=s.heap) (t':=s.toks) ⟨λb q h _ _ _=>h,λb q h _ _ _=>⟨q.slots,h⟩,λb q _ h _=>?_,λb q h _=>⟨q,h⟩,ht,λb q u h=>?_,λb ps h=>⟨#[],?_⟩⟩ λb u h=>?_
 ·rw[zta (λz=>by rw[z,e] at h;cases h)];exact h
 ·rw[zta (ne b _ h λ_ z=>by cases z)];exact h
 ·rw[zta (ne b _ h λ_ z=>by cases z)]
  simpa using h
 ·by_cases c:b=a
  ·subst c;rw[zfa] at h;cases h;exact⟨g,(I.hok b _ e).stay (λ_ _ _ z=>z) (λc z=>ho c _ z) ht⟩
  ·rw[zta c] at h;exact (I.hok b u h).stay (λ_ _ _ z=>z) (λc z=>ho c _ z) ht
end
theorem zzib {α β:Type}{F:α->β->Prop}{xs:List α}{ys:List β}(h:Paired F xs ys):∀{i:Nat} {x:α},xs[i]?=some x->∃y,ys[i]?=some y∧F x y:=by
 induction h with
 | nil =>
  intro i x e;simp at e
 | cons r t ih =>
  intro i x e;cases i with
  | zero =>
   rw[yic] at e;cases e;exact⟨_,rfl,r⟩
  | succ i =>
   rw[ycb] at e;obtain⟨y,h1,h2⟩:=ih e;exact⟨y,by rw[ycb];exact h1,h2⟩
def Itf (a:Addr)(o:Obj)(kvs:List (List Key×V))(keys:List Addr):It :=
 ⟨λi H=>H a=some (.frz o (.dT kvs))∧i<keys.length,λi H x H'=>H'=H∧∃b,keys[i]?=some b∧x = .ref b,λi H=>H a=some (.frz o (.dT kvs))∧keys.length≤i⟩
def KeysAre (o:Obj)(es:Array ybh)(ep:Nat)(keys:List Addr):Prop:=o.ExactDict∧o.data = .dict es ep∧es.toList.map (·.key)=keys.map Value.ref
theorem KeysAre.get {o:Obj}{es:Array ybh}{ep:Nat}{keys:List Addr}(h:KeysAre o es ep keys){i:Nat}{b:Addr}(hb:keys[i]?=some b):∃e,es[i]?=some e∧e.key = .ref b:=by
 have z:(es.toList.map (·.key))[i]?=some (.ref b):=by rw[h.2.2,yya,hb];rfl
 rw[yya] at z;cases q:es.toList[i]? with
 | none=>rw[q] at z;cases z
 | some e =>
  rw[q] at z;exact⟨e,by rw[← yvb];exact q,yec z⟩
theorem KeysAre.size {o:Obj}{es:Array ybh}{ep:Nat}{keys:List Addr}(h:KeysAre o es ep keys):es.size=keys.length:=by
 have z:=congrArg ylg h.2.2
 simpa using z
theorem zykb {P:yqb}{w:World}{K:yca}{tg:Expr}(a it:Addr){o:Obj}{kvs:List (List Key×V)}{keys:List Addr}{es:Array ybh}{ep:Nat}(ka:KeysAre o es ep keys) :
  Turn P w K tg (Itf a o kvs keys) [it] it (λi h=>h.IsKeyIter it a i es.size ep) where
 mem:=by simp
 obj:=λi h st b hb=>by
  have e:b=it:=by simpa using hb
  subst e;obtain⟨q,e,c,d⟩:=st;exact⟨q,e,λv z=>by rw[d] at z;cases z⟩
 keep:=λi h h' st k=>by
  obtain⟨q,e,r⟩:=st;exact⟨q,k it (by simp) q e,r⟩
 item:=by
  intro X hP hw hK hc i pins s σ H E I hf st hg;subst hP hw hK;obtain⟨fr,lt⟩:=hg;obtain⟨f0,f1,f2,f3,f4,f5⟩:=hf it (by simp);have gd:s.heap.get? a=some o:=(I.hok a _ fr).1;obtain⟨b,hb⟩:∃b,keys[i]?=some b:=⟨_,yoa lt⟩;obtain⟨e,he,ek⟩:=ka.get hb;refine DK.zpnb st ⟨o,gd,ka.1,ka.2.1⟩ he λh' st' sb=>?_;have I1:Inv X pins σ H { s with heap:=h' }:=I.turned (t':=s.toks) (λb o hb e=>(sb.2 b hb).trans e) f0 f1 f3 f4 f5;obtain⟨q,e1,c,d⟩:=id st';rw[ek];exact⟨_,rfl,zujb (s:={ s with heap:=h' }) e1 c d (by decide) ⟨.ref b,H,I1,rfl,⟨rfl,b,hb,rfl⟩,st',λb hb=>(hf b hb).1⟩⟩
 done:=by
  intro X hP hw hK hc i pins s σ H E I hf st hg;subst hP hw hK;obtain⟨fr,le⟩:=hg;obtain⟨f0,f1,f2,f3,f4,f5⟩:=hf it (by simp);have gd:s.heap.get? a=some o:=(I.hok a _ fr).1;exact DK.zgsb (I.ok.hd hc) st ⟨o,gd,ka.1,ka.2.1⟩ (by rw[ka.size];exact le) λh' eb=>⟨rfl,I.turned (t':=s.toks) (λb o hb e=>eb b o hb e) f0 f1 f3 f4 f5⟩
 self:=λ_ _ _ _ _ st h=>wpAny_pyIter_keyiter st h
section
variable {X:Cx}
def zybc (td:TE):TI:=fun σ H R=>td σ H λx H1=>Ex2 λa kvs=>x = .ref a∧H1 a=some (.dT kvs)∧∀(o:Obj) (keys:List Addr),keys.length=kvs.length->(∀(i:Nat) (b:Addr) (kv:List Key×V),keys[i]?=some b->kvs[i]?=some kv->H1 b=some (.tup (kv.1.map kV)))->R (Itf a o kvs keys) (upd H1 a (.frz o (.dT kvs)))
theorem zewb {tg l:Expr}{td:TE}(hl:PE X l td):PI X tg l (zybc td):=by
 intro pins s σ H R I h;refine thn (hl pins s σ H _ I h) λv s1 ⟨x,H1,I1,r1,q1⟩=>?_;obtain⟨a,kvs,rfl,ha,q⟩:=q1;cases r1;obtain⟨z,hd,xs,pr,o,es,ep,g,ex,dat,en,nd⟩:=(show zgg X.prog X.w H1 s1.heap a (.dT kvs) from I1.hok a _ ha);have ka:KeysAre o es ep (xs.map (·.2.1)):=by
  refine⟨ex,dat,?_⟩;rw[en,yrd,yrd];rfl
 have sz:=ka.size;refine DK.zpjb hd ⟨o,g,ex,dat⟩ ?_;have I2:=I1.freeze ha g;have q2:=q o (xs.map (·.2.1)) (by rw[yea];exact pr.length.symm) λi b kv hb hk=>?_
 ·refine⟨s1.heap.objs.size,[s1.heap.objs.size],_,_,_,rfl,I2.kept (t':=s1.toks) λb o e=>yba _ e,zykb a _ ka,⟨_,yna _ rfl,rfl,rfl⟩,λb hb=>?_,q2⟩;have e:b=s1.heap.objs.size:=by simpa using hb
  subst e;exact I2.fpOk (yha _) (I2.hok.fresh (yha _))
 ·rw[yya] at hb;obtain⟨x,hx,e1,e2,e3⟩:=zzib pr hk;rw[hx] at hb;cases hb;exact e2
end
theorem zzob {a:Addr}{o:Obj}{kvs:List (List Key×V)}{keys:List Addr}{H1:Hp}{g:TG}{tt:TT}{te:TE}{n:Nat}{js:List Nat}{σ:St}{Q:VK}(Pv:Nat->List V->Hp->Prop)(hf:∀i ys H,Pv i ys H->H a=some (.frz o (.dT kvs)))(h0:Pv 0 [] H1)(hz:∀i ys H,Pv i ys H->ys.length≤yta)
  (hs:∀i b ys H,keys[i]?=some b->Pv i ys H->g (.ref b) (zlf n js σ) H fun σ2 H2=>σ2.drop n=(zlf n js σ).drop n∧tt σ2 H2 λb H3=>if b=true then te σ2 H3 λy H4=>Pv (i+1) (ys++[y]) H4 else Pv (i+1) ys H3)
  (hd:∀ys H,Pv keys.length ys H->∀p,H p=none->Q (.ref p) (upd H p (.lst ys))):zrz (Itf a o kvs keys) H1 g tt te n js σ Q :=
 zqt (len:=keys.length) (x:=λi=>.ref (keys.getD i 0)) Pv (λi ys H h lt=>⟨hf i ys H h,lt⟩) (λys H h=>⟨hf _ ys H h,yha _⟩) (λi ys H v H' _ lt y=>by
  obtain⟨rfl,b,hb,rfl⟩:=y;exact⟨rfl,by rw[yhb,hb];rfl⟩) h0 hz (λi ys H lt p=>by
  have e:keys[i]?=some (keys.getD i 0):=by
   rw[yhb,yoa lt];rfl
  exact hs i _ ys H e p) hd
end L2
namespace L2
open PySem PyProof.Rows
section
variable {X:Cx}
end
end L2
namespace L2
open PySem PyProof.Rows
section
open PySem.SeqAt PySem.MeetsSeq
open AutoSeq1 (wpAny_loadPart')
theorem zuyb (q:Addr)(ys:Array Value)(c:Nat)(z:Value)(f:Value->Bool)(j:Nat)(lt:j<ys.size)(yes:f ys[j]=true)(le:ys.size≤yta)(k:Nat):∀i:Nat,j-i=k->i≤j->(∀m (hm:m<ys.size),i≤m->m<j->f ys[m]=false) →
  Meets (yod.«list.remove.loop» ⟨[.ref q,z,rawInt i],[]⟩) (λA R s=>s.heap.get? q=some { cls:=.type "list",data:=.seq ys c }∧(∀y,y∈ys->EqAt A.in1 s y z (f y))∧R (.ok (.ret .none)) { s with heap:=s.heap.update q (yhe λu=>u.eraseIdxIfInBounds j) }):=by
 induction k with
 | zero =>
  intro i ek il no pr wo A R sh h;obtain⟨hp,g,d,tk,os⟩:=sh;obtain⟨hq,hf,h⟩:=h;obtain rfl:i=j:=by omega
  wp_walk using wpAny_loadPart' hq
  rw[show ys[((i:Nat):Int).toNat]?=some ys[i] by simp[lt]];refine yaa (hf _ (ykr lt) pr wo _ _ ?_);rw[yes];have z':(ys.eraseIdxIfInBounds i).size≤yta+1:=yua (MeetsSeq.size_erased ys _) (yjj le)
  wp_walk using (yih hq rfl (hz:=le) (_hz':=z')),wpAny_loadPart' hq
  simpa using h
 | succ k ih =>
  intro i ek il no pr wo A R sh h;obtain⟨hp,g,d,tk,os⟩:=sh;obtain⟨hq,hf,h⟩:=h;have li:i<ys.size:=by omega
  wp_walk using wpAny_loadPart' hq
  rw[show ys[((i:Nat):Int).toNat]?=some ys[i] by simp[li]];refine yaa (hf _ (ykr li) pr wo _ _ ?_);rw[no i li (yha _) (by omega)]
  wp_walk
  rw[show ((i:Int)+1)=((i+1:Nat):Int) by omega];exact⟨yvd ykj _,yvc entry_remove_loop (by
   rw[yfc ykj _];exact ih (i+1) (by omega) (by omega) (λm hm a b=>no m hm (by omega) b) pr wo A R _ ⟨hq,hf,h⟩)⟩
theorem zvyb (q:Addr)(ys:Array Value)(c:Nat)(z:Value)(f:Value->Bool)(j:Nat)(lt:j<ys.size)(yes:f ys[j]=true)(no:∀m (hm:m<ys.size),m<j->f ys[m]=false)(le:ys.size≤yta) :
  Meets (yod.«list.remove» ⟨[.ref q,z],[]⟩) (λA R s=>s.heap.get? q=some { cls:=.type "list",data:=.seq ys c }∧(∀y,y∈ys->EqAt A.in1 s y z (f y))∧R (.ok (.ret .none)) { s with heap:=s.heap.update q (yhe λu=>u.eraseIdxIfInBounds j) }):=by
 intro pr wo A R sh h;obtain⟨hp,g,d,tk,os⟩:=sh;obtain⟨hq,hf,h⟩:=h
 wp_walk using wpAny_loadPart' hq
 exact⟨yvd ykj _,yvc entry_remove_loop (by
  rw[yfc ykj _];exact zuyb q ys c z f j lt yes le _ 0 rfl (ygb _) (λm hm _ b=>no m hm b) pr wo A R _ ⟨hq,hf,h⟩)⟩
end
section
variable {X:Cx}
def zvvb (X:Cx):V->List V->Hp->VK->Prop:=λx vs H Q=>Ex7 λ(l:Addr) (xs:List V) (u:V) (d:PyData) (ds:List PyData) (j:Nat) (dj:PyData)=>x = .ref l∧vs=[u]∧H l=some (.lst xs)∧DV X.K H (.ref l) (.list ds)∧DV X.K H u d∧yad d=true∧yad (.list ds)=true∧d.depth≤8∧ds[j]?=some dj∧yrg dj d=true∧(∀(m:Nat) (dm:PyData),m<j->ds[m]?=some dm->yrg dm d=false)∧Q .non (upd H l (.lst (xs.eraseIdx j)))
theorem zjjb (hu:X.A.units+64<cLine):MtM X "list.remove" (zvvb X):=by
 intro pins s σ H x vs v us Q I rx rv h;obtain⟨l,xs,u,d,ds,j,dj,rfl,rfl,hH,hD,hd,s1,s2,dp,ej,yes,no,q⟩:=h;obtain⟨as,r2⟩:=hD.reads I rx;cases rx;obtain⟨w,rfl,rw'⟩:=rv.one;obtain⟨bs,r1⟩:=hd.reads I rw';obtain⟨z,its,n,r,hl,e⟩:=I.lstM hH;have c2:=yvg s2;rw[ypc] at c2;have c1:=yvg s1;have al:∃as',ReadsAll s.heap its.toArray.toList ds as':=by
  cases r2 with
  | list h1 h2 h3 h4 =>
   rw[e] at h1;cases h1;injection h3 with h3 _
   subst h3;exact⟨_,h4⟩
 obtain⟨as',rs⟩:=al;have mp:=SeqAt.readsAll_map ds _ _ c2 rs;have at_:∀(m:Nat) (hm:m<its.toArray.size),ds[m]?=some (ytr s.heap its.toArray[m]):=λm hm=>by
  rw[← mp,yya,yvb,ynb hm];rfl
 have jl:j<its.toArray.size:=by
  have z:=(yia.mp ej).1;rw[← mp,yea,yib] at z;exact z
 have ey:=SeqAt.items_eqAt (A:=X.A) rs r1 c2 c1 (by have:=Nat.min_le_right (yyb ds) d.depth;omega);refine ymi F.slot_list_remove ⟨_,e,rfl⟩ F.entry_list_remove (F.args_list_remove_2 _ _)
  (zvyb l its.toArray n w (λy=>yrg (ytr s.heap y) d) j jl ?_ ?_ (by rw[yqa];omega)) ⟨e,ey,?_⟩
 ·have y:=at_ j jl;rw[ej] at y;injection y with y
  show yrg (ytr s.heap its.toArray[j]) d=true
  rw[← y];exact yes
 ·exact λm hm lt=>no m _ lt (at_ m hm)
 ·refine⟨.non,_,I.lset (its':=its.eraseIdx j) hH e ?_ (r.eraseIdx j) ?_,rfl,q⟩
  ·show its.toArray.eraseIdxIfInBounds j=(its.eraseIdx j).toArray;rw[ygj]
  ·have:=zubb xs j;omega
end
theorem lex_lt:∀xs ys:List Int,HT.lexLt xs ys=decide (xs<ys)
 | [],[]=>rfl
 | [],_::_=>rfl
 | _::_,[]=>rfl
 | x::xs,y::ys=>by
  rw[HT.zbw,lex_lt xs ys]
  by_cases e:x=y
  ·subst e;rw[if_pos rfl];refine decide_eq_decide.mpr ?_;rw[yjd];exact⟨λc=>.inr ⟨rfl,c⟩,λc=>c.elim (λc=>absurd c (ylq x)) λc=>c.2⟩
  ·rw[if_neg e];refine decide_eq_decide.mpr ?_;rw[yjd];exact⟨λc=>.inl c,λc=>c.elim id λc=>absurd c.1 e⟩
section
open TSort
theorem zjfb (bt:Nat->Nat->Bool):∀k,yji bt k≤k
 | 0=>yha _
 | k+1=>by
  unfold yji
  split
  ·exact yha _
  ·exact yjj (zjfb bt k)
theorem zxhb {n:Nat}{key:Nat->List Int}(ap:∀i j,i<n->j<n->i≠j->key i≠key j):∀k,k<n->∀i,i≤k->i≠yji (λi j=>decide (key i<key j)) k->key (yji (λi j=>decide (key i<key j)) k)<key i
 | 0,_,i,hi,ne=>absurd (Nat.le_zero.mp hi) ne
 | k+1,hk,i,hi,ne=>by
  have ih:=zxhb ap k (by omega);have bl:=zjfb (λi j=>decide (key i<key j)) k;have un:yji (λi j=>decide (key i<key j)) (k+1)=if decide (key (k+1)<key (yji (λi j=>decide (key i<key j)) k))=true then k+1 else yji (λi j=>decide (key i<key j)) k:=rfl;rw[un] at ne ⊢;generalize yji (λi j=>decide (key i<key j)) k=b at *
  by_cases c:key (k+1)<key b
  ·rw[if_pos (decide_eq_true c)] at ne ⊢
   by_cases e:i=b
   ·rw[e];exact c
   ·exact yqh c (ih i (by omega) e)
  ·rw[if_neg (by simpa using c)] at ne ⊢
   by_cases e:i=k+1
   ·rw[e];exact not_lt (ap _ _ hk (by omega) (by omega)) c
   ·exact ih i (by omega) ne
end
section
variable {pr:yqb}{wo:World}{A:Around}{R:Result->Shared->Prop}{I S:Addr}{fp wr:List Addr}{n:Nat}{P:Nat->Value->Prop}{St:Nat->Heap->Prop}{h0:Heap}
def Keeps (h0 h:Heap):Prop:=∀b o,h0.get? b=some o->h.get? b=some o
theorem znr:(toString "min" ++ toString ".loop":String) = "min.loop":=by decide
theorem zaac (W:Walks pr wo A.in1 I fp wr n P St)(bt:Nat->Nat->Bool)(old:∀b o,h0.get? b=some o->b∉wr∧b≠S)(cmp:∀i j vi vj (x:Shared) (Q:Value->Shared->Prop) (E:Value->Shared->Prop),i≠j->Keeps h0 x.heap->P i vi->P j vj->Q (.bool (bt i j)) x->wpAny (model pr wo) A.in1 (richCompare .Lt vi vj) Q E x)(nS:S∉fp) :
  ∀(k j:Nat) (x:Shared) (u:Value) (c:Nat),n-(j+1)=k->j+1≤n->St (j+1) x.heap->Keeps h0 x.heap->P (yji bt j) u->x.heap.get? S=some { cls:=.type "list",data:=.seq #[u,u] c } →
   (∀v h' tk,P (yji bt (n-1)) v->Keeps h0 h'->R (.ok (.ret v)) { x with heap:=h',toks:=tk })->yej (model pr wo) A (.builtin "min.loop" ⟨[.ref I,.none,.ref S],[]⟩) R x:=by
 have nw:S∉wr:=λh=>nS (W.sub _ h);intro k
 induction k with
 | zero =>
  intro j x u c ek lj st kp pu eS q;obtain rfl:n=j+1:=by omega
  refine yvc ydn ?_;rw[yfc ylf _];refine yaa (yyh eS rfl ?_);refine yaa (yoj (W.done x _ _ st λh' tk kk=>?_));refine yaa ?_;refine yih (kk S _ nw eS) rfl (yaa (yxm (yda ?_)));exact q u _ tk pu λb o e=>(ycc _ _ (yge (old b o e).2)).trans (kk b o (old b o e).1 (kp b o e))
 | succ k ih =>
  intro j x u c ek lj st kp pu eS q;have lt:j+1<n:=by omega
  have nj:j+1≠yji bt j:=by
   have:=zjfb bt j;omega
  refine yvc ydn ?_;rw[yfc ylf _];refine yaa (yyh eS rfl ?_);refine yaa (yoj (W.item (j+1) x _ _ lt st λv h' tk pv st' kk=>?_));have eS':=kk S _ nw eS;have kp':Keeps h0 h':=λb o e=>kk b o (old b o e).1 (kp b o e);refine yaa (yda ?_);refine yaa (yoj (ymc (yaa (cmp (j+1) (yji bt j) v u _ _ _ nj kp' pv pu ?_))));refine yaa (ymc (yuc ?_));refine yaa (yxm (yda ?_));cases hb:bt (j+1) (yji bt j) with
  | true =>
   simp only[if_true];refine yaa ?_;refine yih eS' rfl (yaa (yxm ?_));rw[znr];refine yda ⟨yvd ylf _,ih (j+1) _ v _ (by omega) lt (W.frame _ _ _ st' λb hbf o e=>?_) (λb o e=>?_) (by simp only[yji,hb,if_true];exact pv) (yzc _ eS' rfl) λv' h'' tk'' p' k'=>q v' h'' tk'' p' k'⟩
   ·exact (ycc _ _ (λh:S=b=>nS (by rw[h];exact hbf))).trans e
   ·exact (ycc _ _ (yge (old b o e).2)).trans (kp' b o e)
  | false =>
   simp only[yqd,if_false];refine yaa (yxm ?_);rw[znr];exact yda ⟨yvd ylf _,ih (j+1) _ u c (by omega) lt st' kp' (by simp only[yji,hb,yqd,if_false];exact pu) eS' λv' h'' tk'' p' k'=>q v' h'' tk'' p' k'⟩
end
section
variable {pr:yqb}{wo:World}{A:Around}{E:Value->Shared->Prop}{s:Shared}
theorem zxrb {l:Addr}{vs:List Value}{Q:Value->Shared->Prop}(bt:Nat->Nat->Bool)(hh:A.handled=none)(hl:s.heap.IsList l vs.toArray)(ne:0<vs.length)
  (cmp:∀i j vi vj (x:Shared) (Q:Value->Shared->Prop) (E:Value->Shared->Prop),i≠j->Keeps s.heap x.heap->vs[i]?=some vi->vs[j]?=some vj->Q (.bool (bt i j)) x->wpAny (model pr wo) A.in1 (richCompare .Lt vi vj) Q E x)
  (q:∀v h' tk,vs[yji bt (vs.length-1)]?=some v->Keeps s.heap h'->Q v { s with heap:=h',toks:=tk }):wpAny (model pr wo) A (call (.builtin "min") [.ref l]) Q E s:=by
 have ll:l<s.heap.objs.size:=by
  obtain⟨_,e,_⟩:=hl;exact ysa e
 have sz:vs.toArray.size=vs.length:=yqa ..;have W:=ybr (prog:=pr) (w:=wo) (A:=A.in1) hh s.heap.objs.size l (ydb ll) vs.toArray;refine call_function_tree F.kind_min F.plain_min F.entry_min (F.args_min1 _) ?_;refine yaa (yrm (show yod.Builtins.bindParams "min" ["key","default"] 0 ⟨[],[]⟩=pure [none,none] from rfl) ?_);refine yaa (yda ?_);refine yaa (ymh hl ?_);refine yaa (ybc ?_);rw[znr];generalize hG:s.heap.push { cls:=.type "list_iterator",data:=.fields #[.ref l,.int 0 0] }=G;have gs:G.objs.size=s.heap.objs.size+1:=by rw[← hG];exact size_push' ..
 have kG:Keeps s.heap G:=λb o e=>by rw[← hG];exact yba _ e
 have iG:G.get? s.heap.objs.size=some { cls:=.type "list_iterator",data:=.fields #[.ref l,.int 0 0] }:=by rw[← hG];exact yna _ rfl
 have nS:G.objs.size∉[s.heap.objs.size,l]:=λh=>by
  simp only[yla,ydc,or_false] at h
  rcases h with z|z
  ·exact absurd (gs.symm.trans z) (Nat.succ_ne_self _)
  ·exact absurd (Nat.lt_trans ll (yje _)) (by rw[← z,gs];exact yud _)
 have old:∀b o,s.heap.get? b=some o->b∉[s.heap.objs.size]∧b≠G.objs.size:=λb o e=>by
  have lt:=ysa e;exact⟨λh=>ydb lt (yga.mp h),by rw[gs];exact ydb (yye lt)⟩
 refine yda ⟨yvd ylf _,?_⟩;refine yvc ydn ?_;rw[yfc ylf _];have eS:(G.push { cls:=.type "list",data:=.seq #[] }).get? G.objs.size=some { cls:=.type "list",data:=.seq #[] }:=yna _ rfl;have st0:(G.push { cls:=.type "list",data:=.seq #[] }).IsListIter s.heap.objs.size l 0∧(G.push { cls:=.type "list",data:=.seq #[] }).IsList l vs.toArray:=by
  refine⟨⟨_,yba _ iG,rfl,rfl⟩,?_⟩;obtain⟨o,e,r⟩:=hl;exact⟨o,yba _ (kG _ _ e),r⟩
 refine yaa (yyh eS rfl ?_);refine yaa (yoj (W.item 0 _ _ _ (by rw[sz];exact ne) st0 λv h' tk pv st' kk=>?_));have nw:G.objs.size∉[s.heap.objs.size]:=λh=>nS (W.sub _ h);have eS':=kk _ _ nw eS;have kp':Keeps s.heap h':=λb o e=>kk b o (old b o e).1 (yba _ (kG b o e));refine yaa (yda ?_);refine yaa ?_;refine yih eS' rfl ?_;rw[znr];refine yda ⟨yvd ylf _,zaac W bt old (λi j vi vj x Q E a b c d e=>cmp i j vi vj x Q E a b (by simpa using c) (by simpa using d) e) nS _ 0 _ v _ rfl (by rw[sz];exact ne) (W.frame _ _ _ st' λb hb o e=>?_) (λb o e=>?_) pv (yzc _ eS' rfl) λv' h'' tk'' p' k'=>?_⟩
 ·exact (ycc _ _ (λh:G.objs.size=b=>nS (by rw[h];exact hb))).trans e
 ·exact (ycc _ _ (yge (old b o e).2)).trans (kp' b o e)
 ·exact q v' h'' tk'' (by rw[sz] at p';simpa using p') k'
end
section
variable {X:Cx}
theorem zzy (hu:X.A.units+64<cLine)(hc:X.calm=true):zui X (.builtin "min") (λxs H Q=>Ex3 λ(l:Addr) (us:List V) (g:V->List Int)=>xs=[.ref l]∧SqL X.K H l us∧us≠[]∧(∀u∈us,∃a,u = .ref a∧SqT X.K H a ((g u).map V.int))∧(us.map g).Nodup ∧
  ∀u∈us,(∀v∈us,v≠u->g u<g v)->Q u H):=by
 intro pins s σ H xs vs Q I r h;obtain⟨l,us,g,rfl,hl,ne,ht,un,q⟩:=h;obtain⟨u,rfl,ru⟩:=vals1 r;cases ru;obtain⟨its,rv,pl,_⟩:=I.list hl;obtain⟨e1,e2⟩:=zwr rv λu hu=>by
  obtain⟨a,e,_⟩:=ht u hu;exact⟨a,e⟩
 have len:its.length=us.length:=rv.length.symm;have hv:∀v∈its,Ex2 λb jts=>v = .ref b∧yei jts (g (.ref b))∧IsTup s.heap b jts.toArray:=λv hv=>by
  obtain⟨a,rfl,ha⟩:=e2 v hv;obtain⟨a',e,sq⟩:=ht _ ha;cases e;obtain⟨jts,rj,tp,_⟩:=I.tuple sq;exact⟨a,jts,rfl,intsAre_of rj,tp⟩
 have key:∀i u,us[i]?=some u->(us.map g).getD i []=g u:=λi u e=>by
  rw[yhb,yya,e];rfl
 have itu:∀i v,its[i]?=some v->us[i]?=some (refV v):=λi v e=>by
  rw[← e1,yya,e];rfl
 have ap:∀i j,i<us.length->j<us.length->i≠j->(us.map g).getD i []≠(us.map g).getD j []:=λi j hi hj nij z=>by
  have li:i<(us.map g).length:=by rw[yea];exact hi
  have lj:j<(us.map g).length:=by rw[yea];exact hj
  rw[yhb,yhb,yoa li,yoa lj] at z;exact nij ((yvr un).mp z)
 have l0:0<us.length:=ylp.mpr ne;refine zxrb (vs:=its) (λi j=>decide ((us.map g).getD i []<(us.map g).getD j [])) (I.ok.hd hc) pl.isList (by omega) (λi j vi vj x Q E nij kp ei ej hq=>?_) λv h' tk ev kp=>?_
 ·obtain⟨a,j1,rfl,ia,o1,ga,ra⟩:=hv vi (yra ei);obtain⟨b,j2,rfl,ib,o2,gb,rb⟩:=hv vj (yra ej);have k1:=key _ _ (itu _ _ ei);have k2:=key _ _ (itu _ _ ej);rw[k1,k2,← lex_lt] at hq;exact HT.znjb (A:=X.A.in1) ⟨o1,kp _ _ ga,ra⟩ ⟨o2,kp _ _ gb,rb⟩ ia ib (show X.A.units+1<cLine by omega) hq
 ·have uv:=itu _ _ ev;have mem:=yra uv;have rel:RelV (refV v) v:=by
   obtain⟨a,_,rfl,_⟩:=hv v (yra ev);rfl
  refine⟨refV v,H,I.kept kp,rel,q _ mem λw hw nw=>?_⟩;obtain⟨i,hi,ew⟩:=ymp hw;have ew':us[i]?=some w:=by rw[yoa hi,ew]
  rw[len] at uv;have low:=zxhb (n:=us.length) (key:=λi=>(us.map g).getD i []) ap (us.length-1) (by omega) i (by omega) (λz=>?_)
  ·have k1:=key _ _ uv;have k2:=key _ _ ew';rw[k2] at low;exact Eq.subst (motive:=λt=>t<g w) k1 low
  ·rw[← z,ew'] at uv;injection uv with uv
   exact nw uv
end
theorem zxlb {X:Cx}{a:Expr}{ta:TE}(K:yca)(ha:PE X a ta)(he:∀whole,isTrue a X.env whole=(do let v ← whole;yfs a.pos;ylm [v] (truthy v)))(hK:X.K=K:=by rfl):PT X a (fun σ H Q=>ta σ H λx H'=>∃k,TruV K x H' k∧Q k H'):=by
 subst hK;exact zgo ha he
end L2
namespace Wm
open PySem
theorem zwob {c:Nat}:∀{x y a b:List Nat},c∉x->c∉y->x++c::a=y++c::b->x=y∧a=b
 | [],[],a,b,_,_,h=>⟨rfl,by simpa using h⟩
 | [],y::ys,a,b,_,hy,h=>by
  exfalso;simp only[yrk,ydi,ysk] at h;exact hy (by rw[← h.1];exact yka)
 | x::xs,[],a,b,hx,_,h=>by
  exfalso;simp only[yrk,ydi,ysk] at h;exact hx (by rw[h.1];exact yka)
 | x::xs,y::ys,a,b,hx,hy,h=>by
  simp only[ydi,ysk] at h;obtain⟨h1,h2⟩:=h;obtain⟨e1,e2⟩:=zwob (λz=>hx (yma _ z)) (λz=>hy (yma _ z)) h2;exact⟨by rw[h1,e1],e2⟩
def jl (c:Nat):List (List Nat)->List Nat
 | []=>[]
 | [x]=>x
 | x::y::r=>x++c::jl c (y::r)
theorem zdub {c:Nat}:∀{xs ys:List (List Nat)},xs≠[]->ys≠[]->(∀x∈xs,c∉x)->(∀y∈ys,c∉y)->jl c xs=jl c ys->xs=ys
 | [],_,h,_,_,_,_=>absurd rfl h
 | _,[],_,h,_,_,_=>absurd rfl h
 | [x],[y],_,_,_,_,h=>by
  have h':x=y:=h;rw[h']
 | [x],y::z::r,_,_,hx,_,h=>by
  exfalso;have h':x=y++c::jl c (z::r):=h;exact hx x yka (by rw[h'];simp)
 | x::z::r,[y],_,_,_,hy,h=>by
  exfalso;have h':x++c::jl c (z::r)=y:=h;exact hy y yka (by rw[← h'];simp)
 | x::z::r,y::z'::r',_,_,hx,hy,h=>by
  have h':x++c::jl c (z::r)=y++c::jl c (z'::r'):=h;obtain⟨e1,e2⟩:=zwob (hx x yka) (hy y yka) h';rw[e1,zdub (by simp) (by simp) (λq hq=>hx q (yma _ hq)) (λq hq=>hy q (yma _ hq)) e2]
theorem zvm (c:Nat):∀ws:List Str,(ywa ⟨#[c]⟩ ws).cps.toList=jl c (ws.map λw=>w.cps.toList)
 | []=>rfl
 | [x]=>rfl
 | x::y::r=>by
  have ih:=zvm c (y::r);show (x++(⟨#[c]⟩:Str)++ywa ⟨#[c]⟩ (y::r)).cps.toList=x.cps.toList++c::jl c ((y::r).map λw=>w.cps.toList)
  rw[← ih];show ((x.cps++#[c])++(ywa ⟨#[c]⟩ (y::r)).cps).toList=_
  simp
theorem toList_inj {xs ys:List Str}(h:(xs.map λw=>w.cps.toList)=(ys.map λw=>w.cps.toList)):xs=ys:=by
 induction xs generalizing ys with
 | nil=>cases ys with
  | nil=>rfl
  | cons y r=>simp at h
 | cons x r ih=>cases ys with
  | nil=>simp at h
  | cons y s =>
   simp only[ybb,ysk] at h;have e:x=y:=by
    obtain⟨a⟩:=x;obtain⟨b⟩:=y;have h1:a.toList=b.toList:=h.1;rw[yci.mp h1]
   rw[e,ih h.2]
theorem zkqb (x y:Str):ycf x y≠[]:=by
 unfold ycf
 split
 ·simp
 ·split
  ·simp
  ·unfold yag;cases ybd x y 0 x.length (x.length+1)<;>simp
theorem zxo {c:Nat}{ws:List Str}(hne:ws≠[])(hf:∀w∈ws,c∉w.cps.toList):ycf (ywa ⟨#[c]⟩ ws) ⟨#[c]⟩=ws:=by
 refine toList_inj (zdub (c:=c) (by simpa using zkqb _ _) (by simpa using hne) (λx hx=>?_) (λx hx=>?_) ?_)
 ·obtain⟨w,hw,rfl⟩:=yjb.mp hx;exact StrLaws.split_free _ c w hw
 ·obtain⟨w,hw,rfl⟩:=yjb.mp hx;exact hf w hw
 ·rw[← zvm,← zvm,StrLaws.join_split]
theorem zmk (s:Str):∀ws:List Str,(ywa s ws).length≤(ws.map (·.length)).sum+ws.length*s.length
 | []=>ygb _
 | [x]=>by
  show x.length≤_
  simp only[ybb,yqj,ywi,List.sum_nil,yub];omega
 | x::y::r=>by
  have ih:=zmk s (y::r);show (x++s++ywa s (y::r)).length≤_
  rw[ylr,ylr];simp only[ybb,ywi,yfa,Nat.add_mul,Nat.one_mul] at ih ⊢;omega
theorem join_cons (s x:Str){r:List Str}(h:r≠[]):ywa s (x::r)=x++s++ywa s r:=by
 cases r with
 | nil=>exact absurd rfl h
 | cons y r=>rfl
theorem zgm (s:Str):∀{xs ys:List Str},xs≠[]->ys≠[]->ywa s (xs++ys)=ywa s xs++s++ywa s ys
 | [],_,h,_=>absurd rfl h
 | [x],ys,_,h=>by rw[List.singleton_append,join_cons s x h];rfl
 | x::y::r,ys,_,h=>by
  have ih:=zgm s (xs:=y::r) (by simp) h;rw[ydi,join_cons s x (by simp),ih,join_cons s x (by simp)];simp only[Str.append_assoc]
inductive Wh where
 | all|self|mine|mark (n:Str)|force (i:Nat)|not (a:Wh)|both (a b:Wh)|any (a b:Wh)
def Wh.word:Wh->Str
 | .all=>"all"
 | .self=>"self"
 | .mine=>"mine"
 | .mark _=>"mark"
 | .force _=>"force"
 | .not _=>"not"
 | .both _ _=>"both"
 | .any _ _=>"any"
inductive Wv where
 | non|name (n:Str)|num (i:Nat)
def Wh.val:Wh->Wv
 | .mark n=>.name n
 | .force i=>.num i
 | _=>.non
def Wh.parts:Wh->List Wh
 | .not a=>[a]
 | .both a b=>[a,b]
 | .any a b=>[a,b]
 | _=>[]
def Wv.words:Wv->List Str
 | .non=>[]
 | .name n=>[n]
 | .num i=>[toString (i:Int)]
def Wh.words:Wh->List Str
 | .all=>["all"]
 | .self=>["self"]
 | .mine=>["mine"]
 | .mark n=>["mark",n]
 | .force i=>["force",toString (i:Int)]
 | .not a=>"not" :: a.words
 | .both a b=>"both" :: (a.words++b.words)
 | .any a b=>"any" :: (a.words++b.words)
def Wh.size:Wh->Nat
 | .not a=>a.size+1
 | .both a b=>a.size+b.size+1
 | .any a b=>a.size+b.size+1
 | _=>1
theorem Wh.zqgb (w:Wh):w.words=w.word::(w.val.words++(w.parts.map Wh.words).flatten):=by
 cases w<;>simp[Wh.words,Wh.word,Wh.val,Wv.words,Wh.parts]
theorem Wh.zrd (w:Wh):w.words≠[]:=by
 rw[w.zqgb];simp
theorem Wh.size_eq (w:Wh):w.size=1+(w.parts.map Wh.size).sum:=by
 cases w<;>simp[Wh.size,Wh.parts]<;>omega
theorem Wh.size_pos (w:Wh):0<w.size:=by
 rw[w.size_eq];omega
def Wh.flat:Wh->List (Str×Wv)
 | .not a=>("not",.non)::a.flat
 | .both a b=>("both",.non)::(a.flat++b.flat)
 | .any a b=>("any",.non)::(a.flat++b.flat)
 | w=>[(w.word,w.val)]
theorem Wh.zdxb (w:Wh):w.flat=(w.word,w.val)::(w.parts.map Wh.flat).flatten:=by
 cases w<;>simp[Wh.flat,Wh.word,Wh.val,Wh.parts]
theorem Wh.zrr (w:Wh):w.flat.length=w.size:=by
 induction w<;>simp[Wh.flat,Wh.size, *]
def zgr (ws:List Wh):List (Str×Wv):=(ws.map Wh.flat).flatten
def zbl (ws:List Wh):List Str:=(ws.map Wh.words).flatten
def zwn (ws:List Wh):Nat:=(ws.map Wh.size).sum
theorem zjw (w:Wh)(ws:List Wh):zgr (w::ws)=(w.word,w.val)::zgr (w.parts++ws):=by
 unfold zgr;rw[ybb,ymr,w.zdxb,ykb,ynp];rfl
theorem zxdb (w:Wh)(ws:List Wh):zbl (w::ws)=w.word::(w.val.words++zbl (w.parts++ws)):=by
 unfold zbl;rw[ybb,ymr,w.zqgb,ykb,ynp];simp
theorem zrib (w:Wh)(ws:List Wh):zwn (w::ws)=1+zwn (w.parts++ws):=by
 unfold zwn;rw[ybb,ywi,w.size_eq,ykb,List.sum_append];omega
theorem zklb {ws:List Wh}(h:ws≠[]):0<zwn ws:=by
 cases ws with
 | nil=>exact absurd rfl h
 | cons w r=>rw[zrib];omega
def zdd (n:Str):Prop:=1≤n.length∧n.length≤8∧∀c∈n.cps.toList,97≤c∧c≤122
def Wh.ok:Wh->Prop
 | .mark n=>zdd n
 | .force i=>i<1000
 | .not a=>a.ok
 | .both a b=>a.ok∧b.ok
 | .any a b=>a.ok∧b.ok
 | _=>True
theorem Wh.zsrb {w:Wh}(h:w.ok):∀p∈w.parts,p.ok:=by
 cases w with
 | not a =>
  intro p hp;have e:p=a:=by simpa [Wh.parts] using hp
  rw[e];exact h
 | both a b =>
  intro p hp;have e:p=a∨p=b:=by simpa [Wh.parts] using hp
  rcases e with e|e<;>rw[e]
  ·exact h.1
  ·exact h.2
 | any a b =>
  intro p hp;have e:p=a∨p=b:=by simpa [Wh.parts] using hp
  rcases e with e|e<;>rw[e]
  ·exact h.1
  ·exact h.2
 | _=>intro p hp;simp[Wh.parts] at hp
theorem zpbb:∀i:Nat,i<1000->∀c∈(toString (i:Int):Str).cps.toList,48≤c∧c≤57:=by decide +kernel
theorem zgp:∀i:Nat,i<1000->1≤(toString (i:Int):Str).length∧(toString (i:Int):Str).length≤3:=by decide +kernel
def ztw (u:Str):Prop:=32∉u.cps.toList∧1≤u.length∧u.length≤8
theorem zrbb {n:Str}(h:zdd n):ztw n:=⟨λz=>absurd (h.2.2 32 z).1 (by decide),h.1,h.2.1⟩
theorem zem {i:Nat}(h:i<1000):ztw (toString (i:Int):Str):=by
 have q:=zgp i h;exact⟨λz=>absurd (zpbb i h 32 z).1 (by decide),q.1,by omega⟩
theorem Wh.zek (w:Wh):ztw w.word:=by
 have h:∀u∈(["all","self","mine","mark","force","not","both","any"]:List Str),32∉u.cps.toList∧1≤u.length∧u.length≤8:=by decide +kernel
 refine h _ ?_;cases w<;>simp[Wh.word]
theorem Wh.zdqb {w:Wh}(h:w.ok):∀u∈w.words,ztw u:=by
 induction w with
 | not a ih =>
  intro u hu
  rcases yla.mp hu with e|e
  ·rw[e];exact Wh.zek (.not a)
  ·exact ih h u e
 | both a b iha ihb =>
  intro u hu
  rcases yla.mp hu with e|e
  ·rw[e];exact Wh.zek (.both a b)
  ·rcases yeb.mp e with e|e
   ·exact iha h.1 u e
   ·exact ihb h.2 u e
 | any a b iha ihb =>
  intro u hu
  rcases yla.mp hu with e|e
  ·rw[e];exact Wh.zek (.any a b)
  ·rcases yeb.mp e with e|e
   ·exact iha h.1 u e
   ·exact ihb h.2 u e
 | mark n =>
  intro u hu;have e:u = "mark" ∨ u=n:=by simpa [Wh.words] using hu
  rcases e with e|e<;>rw[e]
  ·exact Wh.zek (.mark n)
  ·exact zrbb h
 | force i =>
  intro u hu;have e:u = "force" ∨ u=toString (i:Int):=by simpa [Wh.words] using hu
  rcases e with e|e<;>rw[e]
  ·exact Wh.zek (.force i)
  ·exact zem h
 | all=>intro u hu;have e:u = "all":=by simpa [Wh.words] using hu
        rw[e];exact Wh.zek .all
 | self=>intro u hu;have e:u = "self":=by simpa [Wh.words] using hu
         rw[e];exact Wh.zek .self
 | mine=>intro u hu;have e:u = "mine":=by simpa [Wh.words] using hu
         rw[e];exact Wh.zek .mine
theorem Wh.ztz (w:Wh):w.words.length≤2*w.size:=by
 induction w<;>simp[Wh.words,Wh.size]<;>omega
theorem zjv {l:List Nat}{k:Nat}(h:∀x∈l,x≤k):l.sum≤l.length*k:=by
 induction l with
 | nil=>simp
 | cons x r ih =>
  have a:=h x yka;have b:=ih λy hy=>h y (yma _ hy);rw[ywi,yfa,Nat.add_mul,Nat.one_mul];omega
def step:List Wh->List Wh
 | []=>[]
 | h::t=>h.parts++t
def pend (w:Wh):Nat->List Wh
 | 0=>[w]
 | j+1=>step (pend w j)
theorem zkob (w:Wh):zgr [w]=w.flat:=by simp[zgr]
theorem zgv (w:Wh):zbl [w]=w.words:=by simp[zbl]
theorem zzs (w:Wh):∀j,zgr (pend w j)=w.flat.drop j
 | 0=>by rw[yep];exact zkob w
 | j+1=>by
  have ih:=zzs w j;show zgr (step (pend w j))=_
  cases e:pend w j with
  | nil =>
   rw[e] at ih;have z:w.flat.drop j=[]:=ih.symm;rw[← ypj (i:=1),z];rfl
  | cons h t =>
   rw[e,zjw] at ih;show zgr (h.parts++t)=_
   have z:=congrArg (List.drop 1) ih;rw[ypj] at z
   simpa using z
theorem zys (w:Wh)(j:Nat):zwn (pend w j)=w.size-j:=by
 have a:∀ws:List Wh,(zgr ws).length=zwn ws:=by
  intro ws
  induction ws with
  | nil=>rfl
  | cons x r ih =>
   have e1:zgr (x::r)=x.flat++zgr r:=(by simp[zgr]);have e2:zwn (x::r)=x.size+zwn r:=(by simp[zwn]);rw[e1,e2,yja,x.zrr,ih]
 rw[← a,zzs,yme,w.zrr]
theorem zjeb {w:Wh}{j:Nat}(h:j<w.size):Ex2 λx t=>pend w j=x::t:=by
 cases e:pend w j with
 | nil =>
  have z:=zys w j;rw[e] at z;have z':0=w.size-j:=z;omega
 | cons x t=>exact⟨x,t,rfl⟩
theorem zrx (w:Wh):pend w w.size=[]:=by
 cases e:pend w w.size with
 | nil=>rfl
 | cons x t =>
  have z:=zys w w.size;rw[e] at z;have p:=zklb (ws:=x::t) (by simp);omega
theorem zjmb {w x:Wh}{t:List Wh}{j:Nat}(e:pend w j=x::t):w.flat[j]?=some (x.word,x.val):=by
 have z:=zzs w j;rw[e,zjw] at z;have q:(w.flat.drop j)[0]?=some (x.word,x.val):=by rw[← z];rfl
 rw[yxg] at q
 simpa using q
theorem zimb {w:Wh}(h:w.ok):∀j,∀x∈pend w j,x.ok
 | 0=>λx hx=>by
  have e:x=w:=by simpa [pend] using hx
  rw[e];exact h
 | j+1=>λx hx=>by
  have ih:=zimb h j;cases e:pend w j with
  | nil =>
   have hx':x∈step (pend w j):=hx;rw[e] at hx';simp[step] at hx'
  | cons y t =>
   have hx':x∈step (pend w j):=hx;rw[e] at hx' ih
   rcases yeb.mp hx' with q|q
   ·exact Wh.zsrb (ih y yka) x q
   ·exact ih x (yma _ q)
def Wh.depth:Wh->Nat
 | .not a=>a.depth+1
 | .both a b=>max a.depth b.depth+1
 | .any a b=>max a.depth b.depth+1
 | _=>1
theorem Wh.zshb (w:Wh):w.depth≤w.size:=by
 induction w<;>simp[Wh.depth,Wh.size]<;>omega
theorem Wh.zffb (w:Wh):∀p∈w.parts,p.depth+1≤w.depth:=by
 cases w<;>simp[Wh.parts,Wh.depth]<;>omega
end Wm
namespace Wm
open PySem
def plain (w:Wh):Prop:=w.ok∧w.size≤9
structure Deed where
 each:Str
 kind:Str
 amt:Wv
 whom:Wh
def zocb:List Str:=["each","one"]
def zdg:List Str:=["leave","hurt","gain","lack","lose","score","draw"]
def zrn:List Str:=["come","leave","hurt","gain","lack","lose","score","draw"]
def zsm:List Str:=["lose","score","draw"]
def changes:List Str:=["mute","steal","gain","lack","be","more","less","per"]
def sorts:List Str:=["hold","when","instead","may"]
inductive zcq:Str->Wv->Prop
 | leave:zcq "leave" .non
 | gain {n:Str}:zdd n->zcq "gain" (.name n)
 | lack {n:Str}:zdd n->zcq "lack" (.name n)
 | hurt {i:Nat}:i<1000->zcq "hurt" (.num i)
 | lose {i:Nat}:i<1000->zcq "lose" (.num i)
 | score {i:Nat}:i<1000->zcq "score" (.num i)
 | draw {i:Nat}:i<1000->zcq "draw" (.num i)
structure Deed.ok (d:Deed):Prop where
 each:d.each∈zocb
 amt:zcq d.kind d.amt
 whom:plain d.whom
def Deed.words (d:Deed):List Str:=d.each::d.kind::(d.amt.words++d.whom.words)
inductive Hv where
 | v (x:Wv)|w (y:Wh)
def Hv.words:Hv->List Str
 | .v x=>x.words
 | .w y=>y.words
inductive zqd:Str->Hv->Prop
 | mute:zqd "mute" (.v .non)
 | steal:zqd "steal" (.v .non)
 | gain {n:Str}:zdd n->zqd "gain" (.v (.name n))
 | lack {n:Str}:zdd n->zqd "lack" (.v (.name n))
 | be {i:Nat}:i<1000->zqd "be" (.v (.num i))
 | more {i:Nat}:i<1000->zqd "more" (.v (.num i))
 | less {i:Nat}:i<1000->zqd "less" (.v (.num i))
 | per {y:Wh}:plain y->zqd "per" (.w y)
inductive TurnOk:Str->Wv->Prop
 | none:TurnOk "none" .non
 | here:TurnOk "here" .non
 | less {i:Nat}:i<1000->TurnOk "less" (.num i)
 | more {i:Nat}:i<1000->TurnOk "more" (.num i)
 | as {n:Str}:n∈zsm->TurnOk "as" (.name n)
def turns:Str->List Str:=λk =>
 if k = "leave" then ["none","here"] else if k = "hurt" then ["none","here","less","more"] else if k = "gain" then ["none","here"] else if k = "lack" then ["none","here"]
 else ["none","less","more","as"]
inductive Rule where
 | hold (word:Str) (val:Hv) (whom:Wh)
 | wen (kind:Str) (whom:Wh) (deed:Deed)
 | instead (kind:Str) (whom:Wh) (word:Str) (val:Wv)
 | may (cost:Nat) (deed:Deed)
def Rule.ok:Rule->Prop
 | .hold w v y=>zqd w v∧plain y
 | .wen k y d=>k∈zrn∧plain y∧d.ok
 | .instead k y w v=>k∈zdg∧plain y∧w∈turns k∧TurnOk w v
 | .may c d=>c<1000∧d.ok
def Rule.words:Rule->List Str
 | .hold w v y=>"hold" :: w::(v.words++y.words)
 | .wen k y d=>"when" :: k::(y.words++("do":Str)::d.words)
 | .instead k y w v=>"instead" :: k::(y.words++("do":Str)::w::v.words)
 | .may c d=>"may" :: toString (c:Int) :: "do" :: d.words
theorem zcq.kind {k:Str}{v:Wv}(h:zcq k v):k∈zdg:=by cases h<;>decide
theorem zqd.word {k:Str}{v:Hv}(h:zqd k v):k∈changes:=by cases h<;>decide
theorem Rule.zrd (r:Rule):r.words≠[]:=by cases r<;>exact ytc _ _
def zbu (u:Str):Prop:=ztw u∧47∉u.cps.toList
theorem zet {n:Str}(h:zdd n):zbu n:=⟨zrbb h,λz=>absurd (h.2.2 47 z).1 (by decide)⟩
theorem zum {i:Nat}(h:i<1000):zbu (toString (i:Int):Str):=⟨zem h,λz=>absurd (zpbb i h 47 z).1 (by decide)⟩
def goodW (u:Str):Bool:=!u.cps.toList.contains 32 && !u.cps.toList.contains 47&&decide (1≤u.length)&&decide (u.length≤8)
theorem zfj {u:Str}(h:goodW u=true):zbu u:=by
 unfold goodW at h;rw[ysc,ysc,ysc] at h;obtain⟨⟨⟨a,b⟩,c⟩,d⟩:=h;refine⟨⟨λz=>?_,of_decide_eq_true c,of_decide_eq_true d⟩,λz=>?_⟩
 ·rw[yno.mpr z] at a;cases a
 ·rw[yno.mpr z] at b;cases b
theorem zzu {l:List Str}(h:l.all goodW=true){u:Str}(hu:u∈l):zbu u:=zfj (yjf.mp h u hu)
theorem Wh.zjh {w:Wh}(h:w.ok):∀u∈w.words,zbu u:=by
 induction w with
 | all=>intro u hu;exact zzu (l:=["all"]) (by decide +kernel) hu
 | self=>intro u hu;exact zzu (l:=["self"]) (by decide +kernel) hu
 | mine=>intro u hu;exact zzu (l:=["mine"]) (by decide +kernel) hu
 | mark n =>
  intro u hu
  rcases yla.mp hu with rfl|hu
  ·exact zfj (by decide +kernel)
  ·rw[yga.mp hu];exact zet h
 | force i =>
  intro u hu
  rcases yla.mp hu with rfl|hu
  ·exact zfj (by decide +kernel)
  ·rw[yga.mp hu];exact zum h
 | not a ih =>
  intro u hu
  rcases yla.mp hu with rfl|hu
  ·exact zfj (by decide +kernel)
  ·exact ih h u hu
 | both a b ia ib =>
  intro u hu
  rcases yla.mp hu with rfl|hu
  ·exact zfj (by decide +kernel)
  ·rcases yeb.mp hu with hu|hu
   ·exact ia h.1 u hu
   ·exact ib h.2 u hu
 | any a b ia ib =>
  intro u hu
  rcases yla.mp hu with rfl|hu
  ·exact zfj (by decide +kernel)
  ·rcases yeb.mp hu with hu|hu
   ·exact ia h.1 u hu
   ·exact ib h.2 u hu
theorem zcq.words {k:Str}{v:Wv}(h:zcq k v):∀u∈v.words,zbu u:=by
 intro u hu;cases h with
 | leave=>cases hu
 | gain h=>rw[yga.mp hu];exact zet h
 | lack h=>rw[yga.mp hu];exact zet h
 | hurt h=>rw[yga.mp hu];exact zum h
 | lose h=>rw[yga.mp hu];exact zum h
 | score h=>rw[yga.mp hu];exact zum h
 | draw h=>rw[yga.mp hu];exact zum h
theorem TurnOk.words {k:Str}{v:Wv}(h:TurnOk k v):∀u∈v.words,zbu u:=by
 intro u hu;cases h with
 | none=>cases hu
 | here=>cases hu
 | less h=>rw[yga.mp hu];exact zum h
 | more h=>rw[yga.mp hu];exact zum h
 | as h=>rw[yga.mp hu];exact zzu (l:=zsm) (by decide +kernel) h
theorem TurnOk.word {k:Str}{v:Wv}(h:TurnOk k v):zbu k:=by cases h<;>exact zfj (by decide +kernel)
theorem zqd.words {k:Str}{v:Hv}(h:zqd k v):∀u∈v.words,zbu u:=by
 intro u hu;cases h with
 | mute=>cases hu
 | steal=>cases hu
 | gain h=>rw[yga.mp hu];exact zet h
 | lack h=>rw[yga.mp hu];exact zet h
 | be h=>rw[yga.mp hu];exact zum h
 | more h=>rw[yga.mp hu];exact zum h
 | less h=>rw[yga.mp hu];exact zum h
 | per h=>exact Wh.zjh h.1 u hu
theorem Deed.zjh {d:Deed}(h:d.ok):∀u∈d.words,zbu u:=by
 intro u hu
 rcases yla.mp hu with rfl|hu
 ·exact zzu (l:=zocb) (by decide +kernel) h.each
 rcases yla.mp hu with rfl|hu
 ·exact zzu (l:=zdg) (by decide +kernel) h.amt.kind
 rcases yeb.mp hu with hu|hu
 ·exact h.amt.words u hu
 ·exact Wh.zjh h.whom.1 u hu
theorem Rule.zjh {r:Rule}(h:r.ok):∀u∈r.words,zbu u:=by
 intro u hu;cases r with
 | hold w v y =>
  rcases yla.mp hu with rfl|hu
  ·exact zfj (by decide +kernel)
  rcases yla.mp hu with rfl|hu
  ·exact zzu (l:=changes) (by decide +kernel) h.1.word
  rcases yeb.mp hu with hu|hu
  ·exact h.1.words u hu
  ·exact Wh.zjh h.2.1 u hu
 | wen k y d =>
  rcases yla.mp hu with rfl|hu
  ·exact zfj (by decide +kernel)
  rcases yla.mp hu with rfl|hu
  ·exact zzu (l:=zrn) (by decide +kernel) h.1
  rcases yeb.mp hu with hu|hu
  ·exact Wh.zjh h.2.1.1 u hu
  rcases yla.mp hu with rfl|hu
  ·exact zfj (by decide +kernel)
  ·exact Deed.zjh h.2.2 u hu
 | instead k y w v =>
  rcases yla.mp hu with rfl|hu
  ·exact zfj (by decide +kernel)
  rcases yla.mp hu with rfl|hu
  ·exact zzu (l:=zdg) (by decide +kernel) h.1
  rcases yeb.mp hu with hu|hu
  ·exact Wh.zjh h.2.1.1 u hu
  rcases yla.mp hu with rfl|hu
  ·exact zfj (by decide +kernel)
  rcases yla.mp hu with rfl|hu
  ·exact h.2.2.2.word
  ·exact h.2.2.2.words u hu
 | may c d =>
  rcases yla.mp hu with rfl|hu
  ·exact zfj (by decide +kernel)
  rcases yla.mp hu with rfl|hu
  ·exact zum h.1
  rcases yla.mp hu with rfl|hu
  ·exact zfj (by decide +kernel)
  ·exact Deed.zjh h.2 u hu
end Wm
namespace Wm
open PySem PySem.StrLaws PySem.Builtin.Str
def SL:Str:=⟨#[32,47,32]⟩
theorem zow {s sub:Str}{hi:Nat}:∀{cuts cuts':List Nat} {a f f':Nat},ChainG s sub hi a cuts f->(∀k,f≤k->¬ At s sub hi k)->ChainG s sub hi a cuts' f'->(∀k,f'≤k->¬ At s sub hi k)->cuts=cuts'
 | [],[],_,_,_,_,_,_,_=>rfl
 | [],c::r,a,f,f',h,n,h',n'=>by
  have e:f=a:=h;subst e;exact absurd h'.2.1 (n c h'.1)
 | c::r,[],a,f,f',h,n,h',n'=>by
  have e:f'=a:=h';subst e;exact absurd h.2.1 (n' c h.1)
 | c::r,c'::r',a,f,f',h,n,h',n'=>by
  rcases Nat.lt_trichotomy c c' with z|z|z
  ·exact absurd h.2.1 (h'.2.2.1 c h.1 z)
  ·subst z;rw[zow h.2.2.2 n h'.2.2.2 n']
  ·exact absurd h'.2.1 (h.2.2.1 c' h'.1 z)
theorem zuy (x:Str)(a b:Nat):(x.cps.extract a b).toList=(x.cps.toList.drop a).take (b-a):=by
 rw[Array.toList_extract,List.extract_eq_take_drop]
theorem zlub {x:Str}{hi k:Nat}(h:At x SL hi k):x.cps.toList[k+1]?=some 47:=by
 have e:x.cps.extract k (k+3)=#[32,47,32]:=by
  have:=h.2;unfold subAt at this;exact beq_iff_eq.mp this
 have q:=congrArg (λz=>z.toList[1]?) e;simp only[zuy] at q;rw[ytl (by omega),yxg] at q;exact q
theorem at_of {x:Str}{pre r:List Nat}(e:x.cps.toList=pre++32::47::32::r):At x SL x.length pre.length:=by
 have hl:=congrArg ylg e;rw[yja] at hl;simp only[yfa,yib] at hl;refine⟨?_,?_⟩
 ·show pre.length+3≤x.cps.size;omega
 ·unfold subAt;rw[beq_iff_eq];apply yci.mp;rw[zuy,e,ynl];show ((32::47::32::r:List Nat).take (pre.length+3-pre.length))=[32,47,32]
  rw[yxi];rfl
def jl3:List (List Nat)->List Nat
 | []=>[]
 | [p]=>p
 | p::q::r=>p++32::47::32::jl3 (q::r)
def cutsOf:Nat->List (List Nat)->List Nat
 | a,p::q::r=>(a+p.length)::cutsOf (a+p.length+3) (q::r)
 | _,_=>[]
def lastOf:Nat->List (List Nat)->Nat
 | a,p::q::r=>lastOf (a+p.length+3) (q::r)
 | a,_=>a
theorem zkac:∀ws:List Str,(ywa SL ws).cps.toList=jl3 (ws.map λw=>w.cps.toList)
 | []=>rfl
 | [x]=>rfl
 | x::y::r=>by
  have e:ywa SL (x::y::r)=x++SL++ywa SL (y::r):=rfl;rw[e];show ((x.cps++SL.cps)++(ywa SL (y::r)).cps).toList=_
  rw[ydf,ydf,zkac (y::r),ymd];rfl
theorem zptb {x:Str}{pre p r:List Nat}{b:Nat}(e:x.cps.toList=pre++(p++r))(hb:b=pre.length+p.length)(q:Str)(hq:q.cps.toList=p):strSub x pre.length b=q:=by
 obtain⟨c⟩:=q;have z:x.cps.extract pre.length b=c:=by
  apply yci.mp;rw[zuy,e,ynl,hb,yxi,List.take_left];exact hq.symm
 show (⟨x.cps.extract pre.length b⟩:Str)=⟨c⟩
 rw[z]
theorem zuhb {x:Str}:∀{ps:List Str} {pre:List Nat},ps≠[]->(∀p∈ps,47∉p.cps.toList)->x.cps.toList=pre++jl3 (ps.map λw=>w.cps.toList) →
  ChainG x SL x.length pre.length (cutsOf pre.length (ps.map λw=>w.cps.toList)) (lastOf pre.length (ps.map λw=>w.cps.toList))∧(∀k,lastOf pre.length (ps.map λw=>w.cps.toList)≤k->¬ At x SL x.length k)∧partsFrom x 3 pre.length (cutsOf pre.length (ps.map λw=>w.cps.toList))=ps
 | [],_,h,_,_=>absurd rfl h
 | [p],pre,_,hf,e=>by
  have e':x.cps.toList=pre++p.cps.toList:=e;refine⟨rfl,λk hk hA=>?_,?_⟩
  ·have hk':pre.length≤k:=hk;have m:=zlub hA;rw[e',yxb (by omega)] at m;exact hf p (yga.mpr rfl) (yra m)
  ·show [strSub x pre.length x.length]=[p];rw[zptb (r:=[]) (by rw[ylb];exact e') ?_ p rfl];have hl:=congrArg ylg e';rw[yja,yib] at hl;exact hl
 | p::q::r,pre,_,hf,e=>by
  have e':x.cps.toList=pre++(p.cps.toList++32::47::32::jl3 ((q::r).map λw=>w.cps.toList)):=e;have e1:x.cps.toList=(pre++p.cps.toList)++32::47::32::jl3 ((q::r).map λw=>w.cps.toList):=by rw[e',ymd]
  have e2:x.cps.toList=(pre++p.cps.toList++[32,47,32])++jl3 ((q::r).map λw=>w.cps.toList):=by rw[e1,ymd (pre++p.cps.toList)];rfl
  obtain⟨c1,c2,c3⟩:=zuhb (ps:=q::r) (pre:=pre++p.cps.toList++[32,47,32]) (ytc _ _) (λy hy=>hf y (yma _ hy)) e2;have el:(pre++p.cps.toList++[32,47,32]).length=pre.length+p.cps.toList.length+3:=by
   rw[yja,yja];rfl
  rw[el] at c1 c2 c3;have eA:=at_of e1;rw[yja] at eA;refine⟨⟨Nat.le_add_right _ _,eA,λk h1 h2 hA=>?_,c1⟩,c2,?_⟩
  ·have m:=zlub hA
   rcases yof (k+1) (pre.length+p.cps.toList.length) with z|z
   ·rw[e',yxb (by omega),ytd (by omega)] at m;exact hf p yka (yra m)
   ·have h2':k<pre.length+p.cps.toList.length:=h2;have ek:k+1=(pre++p.cps.toList).length:=(by rw[yja];omega);rw[e1,ek,yxb (yha _),yvj] at m;exact absurd m (by simp)
  ·show strSub x pre.length (pre.length+p.cps.toList.length)::partsFrom x 3 (pre.length+p.cps.toList.length+3) (cutsOf (pre.length+p.cps.toList.length+3) ((q::r).map λw=>w.cps.toList))=p::q::r;rw[c3,zptb e' rfl p rfl]
theorem ziyb {ps:List Str}(hne:ps≠[])(hf:∀p∈ps,47∉p.cps.toList):ycf (ywa SL ps) SL=ps:=by
 obtain⟨f,hG,hn⟩:=occ_tight (ywa SL ps) SL (by decide);obtain⟨c1,c2,c3⟩:=zuhb (x:=ywa SL ps) (ps:=ps) (pre:=[]) hne hf (zkac ps);have u:=zow hG hn c1 c2;unfold ycf;rw[u];have one:cutsOf ([]:List Nat).length (ps.map λw=>w.cps.toList)=[]->[ywa SL ps]=ps:=λz=>by
  cases ps with
  | nil=>exact absurd rfl hne
  | cons p r =>
   cases r with
   | nil=>rfl
   | cons q r=>cases z
 split
 ·rename_i hc;rw[Bool.or_eq_true,decide_eq_true_eq,decide_eq_true_eq] at hc;apply one
  rcases hc with h|h
  ·cases hcut:cutsOf ([]:List Nat).length (ps.map λw=>w.cps.toList) with
   | nil=>rfl
   | cons c r =>
    rw[hcut] at c1;have:=c1.2.1.1;omega
  ·exfalso;have ek:yfi SL=1:=(by decide +kernel);rw[ek] at h;unfold yfi at h
   split at h
   ·omega
   ·split at h
    ·omega
    ·omega
 ·split
  ·rename_i he;exact one (List.isEmpty_iff.mp he)
  ·rw[partsBetween_eq];exact c3
end Wm
namespace Wm
open PySem PySem.Spec PyProof.Rows
def leS (a b:Str):Prop:=a.cps.toList≤b.cps.toList
theorem zdac {a b:Str}(h:ltCps b.cps.toList a.cps.toList=false):leS a b:=by
 rw[ltCps_eq] at h;exact yjp.mp (of_decide_eq_false h)
theorem zdnb {a b:Str}(h:leS a b):ltCps b.cps.toList a.cps.toList=false:=by
 rw[ltCps_eq];exact decide_eq_false (yjp.mpr h)
theorem zknb {a b c:Str}(h:leS a b)(g:leS b c):leS a c:=List.le_trans h g
theorem zcsb {a b:Str}(h:leS a b)(g:leS b a):a=b:=by
 have e:=yyr h g;obtain⟨x⟩:=a;obtain⟨y⟩:=b;rw[show x=y from yci.mp e]
theorem ztab:∀(p:Str) (l:List Str),risingS p l=true->(p::l).Pairwise leS
 | p,[],_=>yre _ _
 | p,x::r,h=>by
  have h':(!ltCps x.cps.toList p.cps.toList&&risingS x r)=true:=h;rw[ysc] at h';have h1:leS p x:=zdac (by have:=h'.1;revert this;cases ltCps x.cps.toList p.cps.toList<;>simp);have h2:=ztab x r h'.2;rw[ybe];refine⟨λb hb=>?_,h2⟩
  rcases yla.mp hb with rfl|hb
  ·exact h1
  ·exact zknb h1 ((ybe.mp h2).1 b hb)
theorem zbs:∀{l:List Str},ycg l=true->l.Pairwise leS
 | [],_=>.nil
 | x::r,h=>ztab x r h
theorem zqm {xs ys:List Str}(hp:xs.Perm ys)(hx:ycg xs=true)(hy:ycg ys=true):xs=ys :=
 yni (le:=leS) (λ_ _ _ _ h g=>zcsb h g) (zbs hx) (zbs hy) hp
theorem zsr {xs:List Str}(h:xs.Nodup):SSet.dd xs=xs:=by
 have key:∀n,n≤xs.length->SSet.dd (xs.take n)=xs.take n:=by
  intro n
  induction n with
  | zero=>intro _;rfl
  | succ n ih =>
   intro hn;have hlt:n<xs.length:=hn;rw[yva,yoa hlt];show SSet.dd (xs.take n++[xs[n]])=xs.take n++[xs[n]]
   rw[SSet.znt,ih (by omega),if_neg];intro hm;obtain⟨i,hi,e⟩:=ymp hm;rw[yza] at hi;rw[List.getElem_take] at e;exact (yqf.mp h) i n (by omega) hlt (by omega) e
 have:=key xs.length (yha _)
 rwa [yen] at this
structure Marks (ms:List Str):Prop where
 ok:∀m∈ms,zdd m
 nd:ms.Nodup
 so:ycg ms=true
 le:ms.length≤20
theorem Marks.same {ms ys:List Str}(h:Marks ms)(hp:ys.Perm (SSet.dd ms))(hs:ycg ys=true):ys=ms:=by
 rw[zsr h.nd] at hp;exact zqm hp hs h.so
def CM:Str:=⟨#[44]⟩
def zki:List Str->Str
 | []=>"-"
 | m::r=>ywa CM (m::r)
theorem zop {c:Nat}:∀{ws:List Str} {d:Nat},d∈(ywa ⟨#[c]⟩ ws).cps.toList->d=c∨∃w∈ws,d∈w.cps.toList
 | [],d,h=>by cases h
 | [x],d,h=>.inr ⟨x,yga.mpr rfl,h⟩
 | x::y::r,d,h=>by
  have e:ywa ⟨#[c]⟩ (x::y::r)=x++⟨#[c]⟩++ywa ⟨#[c]⟩ (y::r):=rfl;rw[e] at h;have h':d∈((x.cps++#[c])++(ywa ⟨#[c]⟩ (y::r)).cps).toList:=h;rw[ydf,ydf] at h'
  rcases yeb.mp h' with h'|h'
  ·rcases yeb.mp h' with h'|h'
   ·exact .inr ⟨x,yka,h'⟩
   ·exact .inl (yga.mp h')
  ·rcases zop h' with z|⟨w,hw,z⟩
   ·exact .inl z
   ·exact .inr ⟨w,yma _ hw,z⟩
theorem znl {ms:List Str}(h:Marks ms)(hne:ms≠[]):∀d∈(zki ms).cps.toList,d=44∨(97≤d∧d≤122):=by
 cases ms with
 | nil=>exact absurd rfl hne
 | cons m r =>
  intro d hd
  rcases zop (c:=44) hd with z|⟨w,hw,z⟩
  ·exact .inl z
  ·exact .inr ((h.ok w hw).2.2 d z)
theorem zbnb {ms:List Str}(h:Marks ms)(hne:ms≠[]):zki ms ≠ "-":=by
 intro z;have:=znl h hne 45 (by rw[z];decide +kernel);omega
theorem zvj {ms:List Str}(h:Marks ms):1≤(zki ms).length∧(zki ms).length≤180:=by
 cases ms with
 | nil=>exact⟨by decide,by decide⟩
 | cons m r =>
  have a:=zmk CM (m::r);have c:=zjv (l:=(m::r).map (·.length)) (k:=8) (λx hx=>by
   obtain⟨u,hu,rfl⟩:=yjb.mp hx;exact (h.ok u hu).2.1)
  rw[yea] at c;have e:CM.length=1:=rfl;rw[e] at a;have l:=h.le;refine⟨?_,?_⟩
  ·have m1:=(h.ok m yka).1;cases r with
   | nil=>exact m1
   | cons y r =>
    have e2:ywa CM (m::y::r)=m++CM++ywa CM (y::r):=rfl;show 1≤(ywa CM (m::y::r)).length
    rw[e2];show 1≤((m.cps++CM.cps)++(ywa CM (y::r)).cps).size
    rw[ygm,ygm];have:m.length=m.cps.size:=rfl;omega
  ·show (ywa CM (m::r)).length≤180;omega
theorem zseb {ms:List Str}(h:Marks ms)(hne:ms≠[]):ycf (zki ms) CM=ms:=by
 cases ms with
 | nil=>exact absurd rfl hne
 | cons m r=>exact zxo (c:=44) (ytc _ _) (λw hw z=>absurd ((h.ok w hw).2.2 44 z).1 (by decide))
structure Crd where
 name:Str
 cost:Nat
 force:Nat
 marks:List Str
 rules:List Rule
structure Crd.ok (c:Crd):Prop where
 name:zdd c.name
 cost:c.cost<1000
 force:c.force<1000
 marks:Marks c.marks
 rules:∀r∈c.rules,r.ok
 few:c.rules.length≤3
def Crd.head (c:Crd):List Str:=[c.name,toString (c.cost:Int),toString (c.force:Int),zki c.marks]
def zmd (r:Rule):Str:=ywa " " r.words
def Crd.text (c:Crd):Str:=ywa SL (ywa " " c.head::c.rules.map zmd)
theorem zkcb {c d:Nat}{ws:List Str}(h:∀w∈ws,d∉w.cps.toList)(n:d≠c):d∉(ywa ⟨#[c]⟩ ws).cps.toList:=λz=>by
 rcases zop z with e|⟨w,hw,z⟩
 ·exact n e
 ·exact h w hw z
theorem zteb {ms:List Str}(h:Marks ms):32∉(zki ms).cps.toList∧47∉(zki ms).cps.toList:=by
 by_cases e:ms=[]
 ·subst e;exact⟨by decide,by decide⟩
 ·exact⟨λz=>by have:=znl h e 32 z;omega,λz=>by have:=znl h e 47 z;omega⟩
theorem Crd.zgcb {c:Crd}(h:c.ok):∀u∈c.head,32∉u.cps.toList∧47∉u.cps.toList:=by
 intro u hu;simp only[Crd.head,yla,ydc,or_false] at hu
 rcases hu with rfl|rfl|rfl|rfl
 ·exact⟨(zet h.name).1.1,(zet h.name).2⟩
 ·exact⟨(zum h.cost).1.1,(zum h.cost).2⟩
 ·exact⟨(zum h.force).1.1,(zum h.force).2⟩
 ·exact zteb h.marks
theorem Crd.ztjb {c:Crd}(h:c.ok):ycf (ywa " " c.head) " " = c.head:=zxo (c:=32) (ytc _ _) (λu hu=>(Crd.zgcb h u hu).1)
theorem Crd.zlhb {c:Crd}(h:c.ok):(ywa " " c.head).length≤300:=by
 have a:=zmk " " c.head;have c':=zjv (l:=c.head.map (·.length)) (k:=180) (λx hx=>by
  obtain⟨u,hu,rfl⟩:=yjb.mp hx;simp only[Crd.head,yla,ydc,or_false] at hu
  rcases hu with rfl|rfl|rfl|rfl
  ·have:=h.name.2.1;omega
  ·have:=(zgp _ h.cost).2;omega
  ·have:=(zgp _ h.force).2;omega
  ·exact (zvj h.marks).2)
 have e:(" ":Str).length=1:=rfl;rw[e] at a;have s:(c.head.map (·.length)).sum=c.name.length+((toString (c.cost:Int):Str).length+((toString (c.force:Int):Str).length+((zki c.marks).length+0))):=rfl;have hl:c.head.length=4:=rfl;rw[s,hl] at a;have b1:=h.name.2.1;have b2:=(zgp _ h.cost).2;have b3:=(zgp _ h.force).2;have b4:=(zvj h.marks).2;omega
theorem Crd.split {c:Crd}(h:c.ok):ycf c.text SL=ywa " " c.head::c.rules.map zmd:=by
 refine ziyb (ytc _ _) λp hp=>?_
 rcases yla.mp hp with rfl|hp
 ·exact zkcb (λu hu=>(Crd.zgcb h u hu).2) (by decide)
 ·obtain⟨r,hr,rfl⟩:=yjb.mp hp;exact zkcb (λu hu=>(Rule.zjh (h.rules r hr) u hu).2) (by decide)
end Wm
namespace Wm
open PySem PySem.Spec PyProof.Rows
theorem zrq:∀(p:Str) (l:List Str),(p::l).Pairwise leS->risingS p l=true
 | p,[],_=>rfl
 | p,x::r,h=>by
  have h1:=(ybe.mp h).1 x yka;show (!ltCps x.cps.toList p.cps.toList&&risingS x r)=true
  rw[zdnb h1,zrq x r (ybe.mp h).2];rfl
theorem zgab:∀{l:List Str},l.Pairwise leS->ycg l=true
 | [],_=>rfl
 | x::r,h=>zrq x r h
theorem zpib {xs ys:List Str}(h:xs.Sublist ys)(s:ycg ys=true):ycg xs=true:=zgab ((zbs s).sublist h)
end Wm
namespace K15
open PySem L2 PyProof.Rows Wm
variable {P:yqb}{w:World}{K:yca}{mg:Str->Option Value}{base:Heap}
def top (i:Nat):Stmt:=PySem.Challenge.pw_turnstack_k15_whole_any_order.main.body.getD i (.Pass ⟨0,0,0,0⟩)
abbrev zpab:Stmt:=top 8
abbrev zypb:List Str:=["word"]
abbrev zku:List Str:=["word"]
theorem ztib:zqa zypb zku (zga zpab):=scOf (by decide +kernel)
abbrev zns:Stmt:=top 9
abbrev zggb:List Str:=["word"]
abbrev zin:List Str:=["word"]
theorem zkab:zqa zggb zin (zga zns):=scOf (by decide +kernel)
abbrev zqv:Stmt:=top 10
abbrev zlkb:List Str:=["word","most"]
abbrev zwp:List Str:=["word","most"]
theorem zeeb:zqa zlkb zwp (zga zqv):=scOf (by decide +kernel)
abbrev zlh:Stmt:=inClass (top 11) 0
abbrev zkr:List Str:=["self","text"]
abbrev zrh:List Str:=["self","text"]
theorem zap:zqa zkr zrh (zga zlh):=scOf (by decide +kernel)
abbrev zil:Stmt:=inClass (top 11) 1
abbrev zvdb:List Str:=["self"]
abbrev zam:List Str:=["self"]
theorem zmx:zqa zvdb zam (zga zil):=scOf (by decide +kernel)
abbrev zif:Stmt:=inClass (top 11) 2
abbrev zon:List Str:=["self","known","word"]
abbrev znf:List Str:=["self","known"]
theorem zsh:zqa zon znf (zga zif):=scOf (by decide +kernel)
abbrev zlg:Stmt:=inClass (top 11) 3
abbrev zzp:List Str:=["self","word"]
abbrev zrg:List Str:=["self"]
theorem zyi:zqa zzp zrg (zga zlg):=scOf (by decide +kernel)
abbrev zjf:Stmt:=inClass (top 11) 4
abbrev zpn:List Str:=["self","word"]
abbrev zof:List Str:=["self"]
theorem zth:zqa zpn zof (zga zjf):=scOf (by decide +kernel)
abbrev zlj:Stmt:=inClass (top 11) 5
abbrev zfv:List Str:=["self"]
abbrev zpj:List Str:=["self"]
theorem zes:zqa zfv zpj (zga zlj):=scOf (by decide +kernel)
abbrev zii:Stmt:=inClass (top 12) 0
abbrev zqu:List Str:=["self","word","value","parts"]
abbrev zri:List Str:=["self","word","value","parts"]
theorem zdr:zqa zqu zri (zga zii):=scOf (by decide +kernel)
abbrev zgi:Stmt:=inClass (top 12) 3
abbrev zpu:List Str:=["self","row","number","keeper","thing"]
abbrev zid:List Str:=["self","row","number","keeper","thing"]
theorem zcr:zqa zpu zid (zga zgi):=scOf (by decide +kernel)
abbrev zmg:Stmt:=inClass (top 12) 4
abbrev zaq:List Str:=["self","row","number","keeper","thing","first"]
abbrev zne:List Str:=["self","row","number","keeper","thing"]
theorem zzi:zqa zaq zne (zga zmg):=scOf (by decide +kernel)
abbrev zwgb:Stmt:=top 13
abbrev zitb:List Str:=["sight","thing","row"]
abbrev zlz:List Str:=["sight","thing"]
theorem zjab:zqa zitb zlz (zga zwgb):=scOf (by decide +kernel)
abbrev zfs:Stmt:=top 14
abbrev zzfb:List Str:=["words","taken","missing","word"]
abbrev zan:List Str:=["words"]
theorem zwg:zqa zzfb zan (zga zfs):=scOf (by decide +kernel)
abbrev zjq:Stmt:=top 15
abbrev zndb:List Str:=["words","word"]
abbrev ztl:List Str:=["words","word"]
theorem zix:zqa zndb ztl (zga zjq):=scOf (by decide +kernel)
abbrev zplb:Stmt:=top 16
abbrev zzxb:List Str:=["taken","whoms","word","value","many"]
abbrev zyfb:List Str:=["taken"]
theorem zdm:zqa zzxb zyfb (zga zplb):=scOf (by decide +kernel)
abbrev zeo:Stmt:=top 20
abbrev zqz:List Str:=["lying"]
abbrev zsk:List Str:=["lying"]
theorem zuu:zqa zqz zsk (zga zeo):=scOf (by decide +kernel)
abbrev zqab:Stmt:=top 21
abbrev zzpb:List Str:=["lying","found","number","card","keeper","came","marks","place","rule"]
abbrev zlu:List Str:=["lying"]
theorem zie:zqa zzpb zlu (zga zqab):=scOf (by decide +kernel)
abbrev zolb:Stmt:=top 22
abbrev zyxb:List Str:=["lying","sight","change","asker","rule","fitting","amount"]
abbrev zxfb:List Str:=["lying","sight","change"]
theorem zzn:zqa zyxb zxfb (zga zolb):=scOf (by decide +kernel)
abbrev zmab:Stmt:=top 23
abbrev zvpb:List Str:=["lying","number","place","rules"]
abbrev zgu:List Str:=["lying","number","place"]
theorem znv:zqa zvpb zgu (zga zmab):=scOf (by decide +kernel)
abbrev zrj:Stmt:=top 24
abbrev zyp:List Str:=["sight","whom","asker"]
abbrev zpg:List Str:=["sight","whom","asker"]
theorem zao:zqa zyp zpg (zga zrj):=scOf (by decide +kernel)
abbrev zos:Stmt:=top 25
abbrev zigb:List Str:=["sight","rule","asker","word"]
abbrev zjn:List Str:=["sight","rule","asker"]
theorem zgq:zqa zigb zjn (zga zos):=scOf (by decide +kernel)
abbrev zzgb:Stmt:=top 26
abbrev zltb:List Str:=["lying","sight","change","word","amounts"]
abbrev zoz:List Str:=["lying","sight","change"]
theorem zds:zqa zltb zoz (zga zzgb):=scOf (by decide +kernel)
abbrev zrab:Stmt:=top 27
abbrev zaqb:List Str:=["row","word","amount"]
abbrev zmu:List Str:=["row","word","amount"]
theorem zuib:zqa zaqb zmu (zga zrab):=scOf (by decide +kernel)
abbrev zygb:Stmt:=top 28
abbrev zktb:List Str:=["values","one"]
abbrev znz:List Str:=["values","one"]
theorem znlb:zqa zktb znz (zga zygb):=scOf (by decide +kernel)
abbrev zlab:Stmt:=top 29
abbrev zupb:List Str:=["values","one"]
abbrev zfu:List Str:=["values","one"]
theorem zsib:zqa zupb zfu (zga zlab):=scOf (by decide +kernel)
abbrev zms:Stmt:=top 30
abbrev zfgb:List Str:=["lying","sight","some","sights","found","one","now","others"]
abbrev zgn:List Str:=["lying","sight","some"]
theorem zqf:zqa zfgb zgn (zga zms):=scOf (by decide +kernel)
abbrev ziq:Stmt:=top 31
abbrev zmdb:List Str:=["leaned","one"]
abbrev zsl:List Str:=["leaned","one"]
theorem zgx:zqa zmdb zsl (zga ziq):=scOf (by decide +kernel)
abbrev zxgb:Stmt:=top 32
abbrev zjtb:List Str:=["leaned","one","found","left","change"]
abbrev zmz:List Str:=["leaned","one"]
theorem zbo:zqa zjtb zmz (zga zxgb):=scOf (by decide +kernel)
abbrev zoab:Stmt:=top 33
abbrev zxpb:List Str:=["lying","sight","order","every","layer","left","change"]
abbrev zju:List Str:=["lying"]
theorem zrf:zqa zxpb zju (zga zoab):=scOf (by decide +kernel)
abbrev znab:Stmt:=top 34
abbrev zwpb:List Str:=["lying","sight","left","leaned"]
abbrev ziu:List Str:=["lying","sight","left"]
theorem zov:zqa zwpb ziu (zga znab):=scOf (by decide +kernel)
abbrev zji:Stmt:=inClass (top 43) 0
abbrev zru:List Str:=["self","name","cost","force","marks","rules"]
abbrev zsi:List Str:=["self","name","cost","force","marks","rules"]
theorem zer:zqa zru zsi (zga zji):=scOf (by decide +kernel)
abbrev zls:Stmt:=top 44
abbrev zegb:List Str:=["text","texts","words","name","cost","force","marks"]
abbrev zfn:List Str:=["text"]
theorem zee:zqa zegb zfn (zga zls):=scOf (by decide +kernel)
abbrev zkq:Stmt:=top 45
abbrev zodb:List Str:=["word","marks"]
abbrev zul:List Str:=["word"]
theorem zyn:zqa zodb zul (zga zkq):=scOf (by decide +kernel)
abbrev zks:Stmt:=top 46
abbrev zdgb:List Str:=["text","words","first","rule"]
abbrev zen:List Str:=["text"]
theorem zde:zqa zdgb zen (zga zks):=scOf (by decide +kernel)
abbrev zis:Stmt:=top 47
abbrev zbgb:List Str:=["words","word","value","whom"]
abbrev zcn:List Str:=["words"]
theorem zvi:zqa zbgb zcn (zga zis):=scOf (by decide +kernel)
abbrev zfi:Stmt:=top 48
abbrev znn:List Str:=["words","word"]
abbrev zmf:List Str:=["words","word"]
theorem zim:zqa znn zmf (zga zfi):=scOf (by decide +kernel)
abbrev zgs:Stmt:=top 49
abbrev zagb:List Str:=["words","kind","whom"]
abbrev zbn:List Str:=["words"]
theorem zfl:zqa zagb zbn (zga zgs):=scOf (by decide +kernel)
abbrev zkm:Stmt:=top 50
abbrev zdv:List Str:=["words","kind","whom","word"]
abbrev zoj:List Str:=["words"]
theorem zyf:zqa zdv zoj (zga zkm):=scOf (by decide +kernel)
abbrev zqj:Stmt:=top 51
abbrev zxp:List Str:=["words","word"]
abbrev zog:List Str:=["words","word"]
theorem zxn:zqa zxp zog (zga zqj):=scOf (by decide +kernel)
abbrev zpv:Stmt:=top 52
abbrev zkkb:List Str:=["words","cost"]
abbrev zvp:List Str:=["words"]
theorem zcs:zqa zkkb zvp (zga zpv):=scOf (by decide +kernel)
abbrev zjs:Stmt:=top 53
abbrev zcgb:List Str:=["words","each","kind","amount","whom"]
abbrev zdn:List Str:=["words"]
theorem zxg:zqa zcgb zdn (zga zjs):=scOf (by decide +kernel)
abbrev zdo:Stmt:=top 54
abbrev zpz:List Str:=["words","kind"]
abbrev zrk:List Str:=["words","kind"]
theorem ztu:zqa zpz zrk (zga zdo):=scOf (by decide +kernel)
abbrev zsab:Stmt:=top 61
abbrev zbqb:List Str:=["_law_script","_law_k","_law_mixed"]
abbrev znu:List Str:=["_law_script","_law_k"]
theorem zzo:zqa zbqb znu (zga zsab):=scOf (by decide +kernel)
abbrev znq:Stmt:=top 62
abbrev zrdb:List Str:=["_law_script","_law_letters","_law_cell","_law_size","_law_at_here","_law_names_here","_law_k","_law_signs"]
abbrev zwl:List Str:=["_law_script"]
theorem zoc:zqa zrdb zwl (zga znq):=scOf (by decide +kernel)
abbrev zps:Stmt:=top 63
abbrev zjgb:List Str:=["_law_cell","_law_names_here","_law_depth","_law_way","_law_rest","_law_other"]
abbrev zqg:List Str:=["_law_cell","_law_names_here","_law_depth"]
theorem zwi:zqa zjgb zqg (zga zps):=scOf (by decide +kernel)
abbrev zlq:Stmt:=top 64
abbrev zpdb:List Str:=["_law_whom_here","_law_words_here","_law_part"]
abbrev zvf:List Str:=["_law_whom_here"]
theorem zzf:zqa zpdb zvf (zga zlq):=scOf (by decide +kernel)
abbrev zrs:Stmt:=top 65
abbrev zlgb:List Str:=["_law_cell","_law_names_here","_law_kind","_law_way","_law_number","_law_whom_here"]
abbrev zln:List Str:=["_law_cell","_law_names_here","_law_kind"]
theorem zxi:zqa zlgb zln (zga zrs):=scOf (by decide +kernel)
abbrev zuk:Stmt:=top 66
abbrev zjr:List Str:=["_law_rule","_law_word","_law_value","_law_whom_here"]
abbrev zqh:List Str:=["_law_rule"]
theorem zje:zqa zjr zqh (zga zuk):=scOf (by decide +kernel)
abbrev zmq:Stmt:=top 67
abbrev zqdb:List Str:=["_law_cell","_law_names_here","_law_room","_law_kind","_law_rules_here","_law_k","_law_mixed"]
abbrev zvl:List Str:=["_law_cell","_law_names_here","_law_room","_law_kind"]
theorem zyh:zqa zqdb zvl (zga zmq):=scOf (by decide +kernel)
abbrev zqs:Stmt:=top 68
abbrev zkgb:List Str:=["_law_script","_law_names_here","_law_many","_law_most","_law_rows_here","_law_numbers","_law_k","_law_cell","_law_mixed","_law_spare","_law_room","_law_rules_here","_law_came","_law_marks","_law_force","_law_own","_law_head"]
abbrev zkn:List Str:=["_law_script","_law_names_here","_law_many","_law_most"]
theorem zpb:zqa zkgb zkn (zga zqs):=scOf (by decide +kernel)
abbrev zss:Stmt:=top 69
abbrev zmgb:List Str:=["_law_row","_law_text","_law_other","_law_rule"]
abbrev zmn:List Str:=["_law_row"]
theorem zfe:zqa zmgb zmn (zga zss):=scOf (by decide +kernel)
abbrev zpq:Stmt:=top 70
abbrev ztdb:List Str:=["_law_rows_here"]
abbrev zyl:List Str:=["_law_rows_here"]
theorem zkx:zqa ztdb zyl (zga zpq):=scOf (by decide +kernel)
abbrev zgl:Stmt:=top 71
abbrev zou:List Str:=["_law_script","_law_lying_here","_law_line","_law_k"]
abbrev zqi:List Str:=["_law_script","_law_lying_here"]
theorem zkh:zqa zou zqi (zga zgl):=scOf (by decide +kernel)
abbrev zqq:Stmt:=top 72
abbrev zudb:List Str:=["_law_lying_here","_law_by"]
abbrev zzl:List Str:=["_law_lying_here","_law_by"]
theorem zlx:zqa zudb zzl (zga zqq):=scOf (by decide +kernel)
abbrev zoq:Stmt:=top 73
abbrev zsdb:List Str:=["_law_order","_law_by"]
abbrev zxl:List Str:=["_law_order","_law_by"]
theorem zjx:zqa zsdb zxl (zga zoq):=scOf (by decide +kernel)
abbrev zsyb:Stmt:=top 74
abbrev zicc:List Str:=["_law_script","_law_names_here","_law_rows_here","_law_lying_here","_law_sight","_law_order","_law_some","_law_by"]
abbrev zbbc:List Str:=["_law_script"]
theorem zfq:zqa zicc zbbc (zga zsyb):=scOf (by decide +kernel)
abbrev zcu:Str:="abcdefghijklmnopqrstuvwxyz"
abbrev zdu:Str:="0123456789"
abbrev zsu:List (Str×yks):=[("all",.flat (.int 0)),("self",.flat (.int 0)),("mine",.flat (.int 0)),("mark",.flat (.int 0)),("force",.flat (.int 0)),("not",.flat (.int 1)),("both",.flat (.int 2)),("any",.flat (.int 2))]
abbrev zwo:List (Str×yks):=[("mute",.flat (.int 0)),("steal",.flat (.int 1)),("gain",.flat (.int 2)),("lack",.flat (.int 2)),("be",.flat (.int 3)),("more",.flat (.int 4)),("less",.flat (.int 4)),("per",.flat (.int 4))]
abbrev zngb:List (Str×yks):=[("leave",.tup ((["none","here"]:List Str).map PyData.str)),("hurt",.tup ((["none","here","less","more"]:List Str).map PyData.str)),("gain",.tup ((["none","here"]:List Str).map PyData.str)),("lack",.tup ((["none","here"]:List Str).map PyData.str)),("lose",.tup ((["none","less","more","as"]:List Str).map PyData.str)),("score",.tup ((["none","less","more","as"]:List Str).map PyData.str)),("draw",.tup ((["none","less","more","as"]:List Str).map PyData.str))]
theorem onlZ {m:List Value->Prop}(h:m [])(us:List Value)(hl:us.length=0):m us:=by rw[ysi.mp hl];exact h
theorem onlS {m:List Value->Prop}{k:Nat}(h:∀a,∀us,us.length=k->m (a::us))(us:List Value)(hl:us.length=k+1):m us:=by
 obtain⟨a,t,rfl⟩:=List.exists_cons_of_length_eq_add_one hl;exact h a t (Nat.succ.inj hl)
@[elab_as_elim] theorem onl1 {m:List Value->Prop} (h:∀a,m [a]) (us:List Value) (hl:us.length=1):m us:=(onlS (m:=λt=>m (t)) λa=>onlZ (h a)) us hl
@[elab_as_elim] theorem onl2 {m:List Value->Prop} (h:∀a b,m [a,b]) (us:List Value) (hl:us.length=2):m us:=(onlS (m:=λt=>m (t)) λa=>onlS (m:=λt=>m (a::t)) λb=>onlZ (h a b)) us hl
@[elab_as_elim] theorem onl3 {m:List Value->Prop} (h:∀a b c,m [a,b,c]) (us:List Value) (hl:us.length=3):m us:=(onlS (m:=λt=>m (t)) λa=>onlS (m:=λt=>m (a::t)) λb=>onlS (m:=λt=>m (a::b::t)) λc=>onlZ (h a b c)) us hl
@[elab_as_elim] theorem onl4 {m:List Value->Prop} (h:∀a b c d,m [a,b,c,d]) (us:List Value) (hl:us.length=4):m us:=(onlS (m:=λt=>m (t)) λa=>onlS (m:=λt=>m (a::t)) λb=>onlS (m:=λt=>m (a::b::t)) λc=>onlS (m:=λt=>m (a::b::c::t)) λd=>onlZ (h a b c d)) us hl
@[elab_as_elim] theorem onl5 {m:List Value->Prop} (h:∀a b c d e,m [a,b,c,d,e]) (us:List Value) (hl:us.length=5):m us:=(onlS (m:=λt=>m (t)) λa=>onlS (m:=λt=>m (a::t)) λb=>onlS (m:=λt=>m (a::b::t)) λc=>onlS (m:=λt=>m (a::b::c::t)) λd=>onlS (m:=λt=>m (a::b::c::d::t)) λe=>onlZ (h a b c d e)) us hl
@[elab_as_elim] theorem onl6 {m:List Value->Prop} (h:∀a b c d e f,m [a,b,c,d,e,f]) (us:List Value) (hl:us.length=6):m us:=(onlS (m:=λt=>m (t)) λa=>onlS (m:=λt=>m (a::t)) λb=>onlS (m:=λt=>m (a::b::t)) λc=>onlS (m:=λt=>m (a::b::c::t)) λd=>onlS (m:=λt=>m (a::b::c::d::t)) λe=>onlS (m:=λt=>m (a::b::c::d::e::t)) λf=>onlZ (h a b c d e f)) us hl
set_option genInjectivity false in
set_option genSizeOf false in
structure Tf (K:yca)(mg:Str->Option Value) where
 zxf:Gf K mg "is_name" "is_name" zpab
 zcf:Gf K mg "is_number" "is_number" zns
 zkg:Gf K mg "is_whole" "is_whole" zqv
 zck:Gf K mg "row_of" "row_of" zwgb
 zzb:Gf K mg "take_whom" "take_whom" zfs
 zvd:Gf K mg "take_value" "take_value" zjq
 zpm:Gf K mg "built" "built" zplb
 zld:Gf K mg "first_sight" "first_sight" zeo
 zci:Gf K mg "changes" "changes" zqab
 zjg:Gf K mg "reach" "reach" zolb
 zwf:Gf K mg "rule_of" "rule_of" zmab
 zvb:Gf K mg "numbers_fitting" "numbers_fitting" zrj
 zdf:Gf K mg "amount_of" "amount_of" zos
 zxh:Gf K mg "behind" "behind" zzgb
 zdi:Gf K mg "changed" "changed" zrab
 zdk:Gf K mg "joined" "joined" zygb
 zai:Gf K mg "without" "without" zlab
 zbf:Gf K mg "leaned_on" "leaned_on" zms
 zud:Gf K mg "waited_for" "waited_for" ziq
 zwh:Gf K mg "led_to" "led_to" zxgb
 zxd:Gf K mg "layered" "layered" zoab
 zbi:Gf K mg "next_of" "next_of" znab
 zaf:Gf K mg "read_card" "read_card" zls
 zwd:Gf K mg "read_marks" "read_marks" zkq
 zze:Gf K mg "read_rule" "read_rule" zks
 zye:Gf K mg "take_hold" "take_hold" zis
 zac:Gf K mg "take_change_value" "take_change_value" zfi
 zxe:Gf K mg "take_when" "take_when" zgs
 zcd:Gf K mg "take_instead" "take_instead" zkm
 zjc:Gf K mg "take_turn_value" "take_turn_value" zqj
 zig:Gf K mg "take_may" "take_may" zpv
 zjd:Gf K mg "take_deed" "take_deed" zjs
 zkd:Gf K mg "take_amount" "take_amount" zdo
 zsb:Gf K mg "_law_at" "_law_at" zsab
 zzd:Gf K mg "_law_names" "_law_names" znq
 zjb:Gf K mg "_law_whom" "_law_whom" zps
 zdb:Gf K mg "_law_words" "_law_words" zlq
 zff:Gf K mg "_law_hold" "_law_hold" zrs
 znc:Gf K mg "_law_rule_text" "_law_rule_text" zuk
 zyd:Gf K mg "_law_rules" "_law_rules" zmq
 zef:Gf K mg "_law_rows" "_law_rows" zqs
 zgf:Gf K mg "_law_card" "_law_card" zss
 zbe:Gf K mg "_law_lying" "_law_lying" zpq
 zsc:Gf K mg "_law_shuffled" "_law_shuffled" zgl
 zce:Gf K mg "_law_later" "_law_later" zqq
 zae:Gf K mg "_law_moved" "_law_moved" zoq
 zokb:Gf K mg "law" "law" zsyb
set_option genInjectivity false in
set_option genSizeOf false in
structure Tx (K:yca)(mg:Str->Option Value) extends Tf K mg where
 znb:Addr
 zcb:Cls K znb
 zueb:mg "Words" = some (.ref znb)
 zfc:If K znb "__init__" "Words.__init__" zlh
 zkc:Mf K znb "take" "Words.take" zil
 zma:Mf K znb "take_one_of" "Words.take_one_of" zif
 zob:Mf K znb "take_name" "Words.take_name" zlg
 zxa:Mf K znb "take_number" "Words.take_number" zjf
 zpc:Mf K znb "finish" "Words.finish" zlj
 znd:zfh K znb "words"
 zad:zfh K znb "place"
 zib:Addr
 zmb:Cls K zib
 zxtb:mg "Whom" = some (.ref zib)
 ztc:If K zib "__init__" "Whom.__init__" zii
 zza:Mf K zib "fits_row" "Whom.fits_row" zgi
 zwb:Mf K zib "fits_parts" "Whom.fits_parts" zmg
 zya:zfh K zib "word"
 ztf:zfh K zib "value"
 zqc:zfh K zib "parts"
 zqac:Isi K zib
 zbd:Addr
 znk:Cls K zbd
 zytb:mg "Card" = some (.ref zbd)
 zuc:If K zbd "__init__" "Card.__init__" zji
 zik:zfh K zbd "name"
 zjk:zfh K zbd "cost"
 zzg:zfh K zbd "force"
 zcj:zfh K zbd "marks"
 zuf:zfh K zbd "rules"
 zdib:mg "all" = none
 zpgb:mg "dict" = none
 zbk:mg "enumerate" = none
 znkb:mg "int" = none
 zpf:mg "isinstance" = none
 zzk:mg "len" = none
 zogb:mg "list" = none
 zcqb:mg "max" = none
 zcib:mg "min" = none
 zih:mg "range" = none
 zbm:mg "reversed" = none
 zmkb:mg "set" = none
 zsg:mg "sorted" = none
 zsz:mg "str" = none
 zgh:mg "tuple" = none
 zybb:Tok
 zno:mg "LETTERS" = some (.str zcu zybb)
 zzbb:Tok
 zoo:mg "FIGURES" = some (.str zdu zzbb)
 zwq:Tok
 zij:mg "MOST_WORDS" = some (.int 9 zwq)
 zzm:Addr
 zrp:mg "PARTS" = some (.ref zzm)
 zly:yvm (yhg λb=>K.lookup b) (λb=>K.lookup b) zzm zsu=true
 zuo:Addr
 zqr:mg "LAYERS" = some (.ref zuo)
 zpr:yvm (yhg λb=>K.lookup b) (λb=>K.lookup b) zuo zwo=true
 zmo:Tok
 zzh:mg "MANY_LAYERS" = some (.int 5 zmo)
 zxq:Tok
 zjj:mg "MOST_RULES" = some (.int 3 zxq)
 zjz:Addr
 zoy:mg "SORTS" = some (.ref zjz)
 zky:TupK K zjz ["hold","when","instead","may"]
 zvo:Addr
 zpo:mg "CHANGES" = some (.ref zvo)
 zlo:TupK K zvo ["mute","steal","gain","lack","be","more","less","per"]
 zkj:Addr
 zgj:mg "WHEN_KINDS" = some (.ref zkj)
 zej:TupK K zkj ["come","leave","hurt","gain","lack","lose","score","draw"]
 zeh:Addr
 zbh:mg "DEED_KINDS" = some (.ref zeh)
 zah:TupK K zeh ["leave","hurt","gain","lack","lose","score","draw"]
 zvg:Addr
 zug:mg "PLAYER_KINDS" = some (.ref zvg)
 ztg:TupK K zvg ["lose","score","draw"]
 ziz:Addr
 zny:mg "TURNS" = some (.ref ziz)
 zjy:TabK K ziz zngb
theorem zddb (T:Tx K mg):Binds K T.zxf.d zku []:=T.zxf.F.binds λ_ _ _ _ _ _ us hl=>onl1 (λ_=>rfl) us hl
theorem zpfb (T:Tx K mg):Binds K T.zcf.d zin []:=T.zcf.F.binds λ_ _ _ _ _ _ us hl=>onl1 (λ_=>rfl) us hl
theorem zikb (T:Tx K mg):Binds K T.zkg.d zwp []:=T.zkg.F.binds λ_ _ _ _ _ _ us hl=>onl2 (λ_ _=>rfl) us hl
theorem zxk (T:Tx K mg):Binds K T.zfc.d zrh []:=T.zfc.F.binds λ_ _ _ _ _ _ us hl=>onl2 (λ_ _=>rfl) us hl
theorem zdh (T:Tx K mg):Binds K T.zkc.d zam []:=T.zkc.F.binds λ_ _ _ _ _ _ us hl=>onl1 (λ_=>rfl) us hl
theorem zfb (T:Tx K mg):Binds K T.zma.d znf []:=T.zma.F.binds λ_ _ _ _ _ _ us hl=>onl2 (λ_ _=>rfl) us hl
theorem zme (T:Tx K mg):Binds K T.zob.d zrg []:=T.zob.F.binds λ_ _ _ _ _ _ us hl=>onl1 (λ_=>rfl) us hl
theorem zbc (T:Tx K mg):Binds K T.zxa.d zof []:=T.zxa.F.binds λ_ _ _ _ _ _ us hl=>onl1 (λ_=>rfl) us hl
theorem znm (T:Tx K mg):Binds K T.zpc.d zpj []:=T.zpc.F.binds λ_ _ _ _ _ _ us hl=>onl1 (λ_=>rfl) us hl
theorem zyt (T:Tx K mg):Binds K T.ztc.d zri []:=T.ztc.F.binds λ_ _ _ _ _ _ us hl=>onl4 (λ_ _ _ _=>rfl) us hl
theorem zfg (T:Tx K mg):Binds K T.zza.d zid []:=T.zza.F.binds λ_ _ _ _ _ _ us hl=>onl5 (λ_ _ _ _ _=>rfl) us hl
theorem zup (T:Tx K mg):Binds K T.zwb.d zne []:=T.zwb.F.binds λ_ _ _ _ _ _ us hl=>onl5 (λ_ _ _ _ _=>rfl) us hl
theorem zctb (T:Tx K mg):Binds K T.zck.d zlz []:=T.zck.F.binds λ_ _ _ _ _ _ us hl=>onl2 (λ_ _=>rfl) us hl
theorem zoi (T:Tx K mg):Binds K T.zzb.d zan []:=T.zzb.F.binds λ_ _ _ _ _ _ us hl=>onl1 (λ_=>rfl) us hl
theorem zadb (T:Tx K mg):Binds K T.zvd.d ztl []:=T.zvd.F.binds λ_ _ _ _ _ _ us hl=>onl2 (λ_ _=>rfl) us hl
theorem zqxb (T:Tx K mg):Binds K T.zpm.d zyfb []:=T.zpm.F.binds λ_ _ _ _ _ _ us hl=>onl1 (λ_=>rfl) us hl
theorem zez (T:Tx K mg):Binds K T.zld.d zsk []:=T.zld.F.binds λ_ _ _ _ _ _ us hl=>onl1 (λ_=>rfl) us hl
theorem zopb (T:Tx K mg):Binds K T.zci.d zlu []:=T.zci.F.binds λ_ _ _ _ _ _ us hl=>onl1 (λ_=>rfl) us hl
theorem zdz (T:Tx K mg):Binds K T.zjg.d zxfb []:=T.zjg.F.binds λ_ _ _ _ _ _ us hl=>onl3 (λ_ _ _=>rfl) us hl
theorem zbdb (T:Tx K mg):Binds K T.zwf.d zgu []:=T.zwf.F.binds λ_ _ _ _ _ _ us hl=>onl3 (λ_ _ _=>rfl) us hl
theorem zzj (T:Tx K mg):Binds K T.zvb.d zpg []:=T.zvb.F.binds λ_ _ _ _ _ _ us hl=>onl3 (λ_ _ _=>rfl) us hl
theorem zqfb (T:Tx K mg):Binds K T.zdf.d zjn []:=T.zdf.F.binds λ_ _ _ _ _ _ us hl=>onl3 (λ_ _ _=>rfl) us hl
theorem zbib (T:Tx K mg):Binds K T.zxh.d zoz []:=T.zxh.F.binds λ_ _ _ _ _ _ us hl=>onl3 (λ_ _ _=>rfl) us hl
theorem zppb (T:Tx K mg):Binds K T.zdi.d zmu []:=T.zdi.F.binds λ_ _ _ _ _ _ us hl=>onl3 (λ_ _ _=>rfl) us hl
theorem zdtb (T:Tx K mg):Binds K T.zdk.d znz []:=T.zdk.F.binds λ_ _ _ _ _ _ us hl=>onl2 (λ_ _=>rfl) us hl
theorem zmpb (T:Tx K mg):Binds K T.zai.d zfu []:=T.zai.F.binds λ_ _ _ _ _ _ us hl=>onl2 (λ_ _=>rfl) us hl
theorem zofb (T:Tx K mg):Binds K T.zbf.d zgn []:=T.zbf.F.binds λ_ _ _ _ _ _ us hl=>onl3 (λ_ _ _=>rfl) us hl
theorem zzcb (T:Tx K mg):Binds K T.zud.d zsl []:=T.zud.F.binds λ_ _ _ _ _ _ us hl=>onl2 (λ_ _=>rfl) us hl
theorem zaib (T:Tx K mg):Binds K T.zwh.d zmz []:=T.zwh.F.binds λ_ _ _ _ _ _ us hl=>onl2 (λ_ _=>rfl) us hl
theorem zwt (T:Tx K mg):Binds K T.zxd.d zju []:=T.zxd.F.binds λ_ _ _ _ _ _ us hl=>onl1 (λ_=>rfl) us hl
theorem znpb (T:Tx K mg):Binds K T.zbi.d ziu []:=T.zbi.F.binds λ_ _ _ _ _ _ us hl=>onl3 (λ_ _ _=>rfl) us hl
theorem zzt (T:Tx K mg):Binds K T.zuc.d zsi []:=T.zuc.F.binds λ_ _ _ _ _ _ us hl=>onl6 (λ_ _ _ _ _ _=>rfl) us hl
theorem znfb (T:Tx K mg):Binds K T.zaf.d zfn []:=T.zaf.F.binds λ_ _ _ _ _ _ us hl=>onl1 (λ_=>rfl) us hl
theorem zcdb (T:Tx K mg):Binds K T.zwd.d zul []:=T.zwd.F.binds λ_ _ _ _ _ _ us hl=>onl1 (λ_=>rfl) us hl
theorem zmfb (T:Tx K mg):Binds K T.zze.d zen []:=T.zze.F.binds λ_ _ _ _ _ _ us hl=>onl1 (λ_=>rfl) us hl
theorem zlfb (T:Tx K mg):Binds K T.zye.d zcn []:=T.zye.F.binds λ_ _ _ _ _ _ us hl=>onl1 (λ_=>rfl) us hl
theorem zym (T:Tx K mg):Binds K T.zac.d zmf []:=T.zac.F.binds λ_ _ _ _ _ _ us hl=>onl2 (λ_ _=>rfl) us hl
theorem zkfb (T:Tx K mg):Binds K T.zxe.d zbn []:=T.zxe.F.binds λ_ _ _ _ _ _ us hl=>onl1 (λ_=>rfl) us hl
theorem zcv (T:Tx K mg):Binds K T.zcd.d zoj []:=T.zcd.F.binds λ_ _ _ _ _ _ us hl=>onl1 (λ_=>rfl) us hl
theorem ztp (T:Tx K mg):Binds K T.zjc.d zog []:=T.zjc.F.binds λ_ _ _ _ _ _ us hl=>onl2 (λ_ _=>rfl) us hl
theorem zgkb (T:Tx K mg):Binds K T.zig.d zvp []:=T.zig.F.binds λ_ _ _ _ _ _ us hl=>onl1 (λ_=>rfl) us hl
theorem zvt (T:Tx K mg):Binds K T.zjd.d zdn []:=T.zjd.F.binds λ_ _ _ _ _ _ us hl=>onl1 (λ_=>rfl) us hl
theorem zcz (T:Tx K mg):Binds K T.zkd.d zrk []:=T.zkd.F.binds λ_ _ _ _ _ _ us hl=>onl2 (λ_ _=>rfl) us hl
theorem zeg (T:Tx K mg):Binds K T.zsb.d znu []:=T.zsb.F.binds λ_ _ _ _ _ _ us hl=>onl2 (λ_ _=>rfl) us hl
theorem zfdb (T:Tx K mg):Binds K T.zzd.d zwl []:=T.zzd.F.binds λ_ _ _ _ _ _ us hl=>onl1 (λ_=>rfl) us hl
theorem zpi (T:Tx K mg):Binds K T.zjb.d zqg []:=T.zjb.F.binds λ_ _ _ _ _ _ us hl=>onl3 (λ_ _ _=>rfl) us hl
theorem zch (T:Tx K mg):Binds K T.zdb.d zvf []:=T.zdb.F.binds λ_ _ _ _ _ _ us hl=>onl1 (λ_=>rfl) us hl
theorem zsfb (T:Tx K mg):Binds K T.zff.d zln []:=T.zff.F.binds λ_ _ _ _ _ _ us hl=>onl3 (λ_ _ _=>rfl) us hl
theorem zir (T:Tx K mg):Binds K T.znc.d zqh []:=T.znc.F.binds λ_ _ _ _ _ _ us hl=>onl1 (λ_=>rfl) us hl
theorem zedb (T:Tx K mg):Binds K T.zyd.d zvl []:=T.zyd.F.binds λ_ _ _ _ _ _ us hl=>onl4 (λ_ _ _ _=>rfl) us hl
theorem zrfb (T:Tx K mg):Binds K T.zef.d zkn []:=T.zef.F.binds λ_ _ _ _ _ _ us hl=>onl4 (λ_ _ _ _=>rfl) us hl
theorem ztfb (T:Tx K mg):Binds K T.zgf.d zmn []:=T.zgf.F.binds λ_ _ _ _ _ _ us hl=>onl1 (λ_=>rfl) us hl
theorem zidb (T:Tx K mg):Binds K T.zbe.d zyl []:=T.zbe.F.binds λ_ _ _ _ _ _ us hl=>onl1 (λ_=>rfl) us hl
theorem zxt (T:Tx K mg):Binds K T.zsc.d zqi []:=T.zsc.F.binds λ_ _ _ _ _ _ us hl=>onl2 (λ_ _=>rfl) us hl
theorem zjdb (T:Tx K mg):Binds K T.zce.d zzl []:=T.zce.F.binds λ_ _ _ _ _ _ us hl=>onl2 (λ_ _=>rfl) us hl
theorem zgdb (T:Tx K mg):Binds K T.zae.d zxl []:=T.zae.F.binds λ_ _ _ _ _ _ us hl=>onl2 (λ_ _=>rfl) us hl
theorem zyr (T:Tx K mg)(kb:K.In base):yip base T.zzm zsu:=KTD.text_of_look (λb o q=>kb b o q) T.zly
theorem zkib (T:Tx K mg)(kb:K.In base):yip base T.zuo zwo:=KTD.text_of_look (λb o q=>kb b o q) T.zpr
abbrev LL:Str:="abcdefghijklmnopqrstuvwxyz"
abbrev FF:Str:="0123456789"
def inS (c:Nat)(u:Str):Bool:=!(ybd u ⟨#[c]⟩ 0 u.length 1).isEmpty
def allIn (t u:Str):Bool:=(t.cps.toList.map λc=>inS c u).all id
def zzv (t:Str):Bool:=decide (V.str t=V.str "0")||(!decide (V.str ⟨#[t.cps.getD 0 0]⟩=V.str "0"))
def short (t:Str)(n:Int):Bool:=decide ((1:Int)≤((t.length:Nat):Int))&&decide (((t.length:Nat):Int)≤n)
def isName (t:Str):Bool:=short t 8&&allIn t LL
def isWhole (t:Str)(n:Int):Bool:=short t n&&(allIn t FF&&zzv t)
def isNumber (t:Str):Bool:=isWhole t 3
theorem small {n:Nat}(h:n≤1000):n≤yta:=ymf (zei h)
theorem zvjb {t:Str}(h:(1:Int)≤((t.length:Nat):Int)):atI t.cps.toList 0=some (t.cps.getD 0 0):=by
 have hl:0<t.cps.size:=by
  have e:t.length=t.cps.size:=rfl;omega
 have e:t.cps.toList[0]?=some (t.cps.getD 0 0):=by
  rw[yvb,ygh,ynb hl];rfl
 exact zna (j:=0) e
theorem zar {α:Type}{xs:List α}{i:Int}(h0:0≤i)(h:i<(xs.length:Int)):∃v,atI xs i=some v∧v∈xs:=by
 have hk:i.toNat<xs.length:=by omega
 have e:xs[i.toNat]?=some xs[i.toNat]:=yoa hk;have q:=zna e;rw[show ((i.toNat:Nat):Int)=i by omega] at q;exact⟨_,q,yra e⟩
theorem len_app (a b:Str):(a++b).length=a.length+b.length:=by
 show (a.cps++b.cps).size=a.cps.size+b.cps.size
 rw[ygm]
def But (p:Addr)(H H':Hp):Prop:=∀b o,b≠p->H b=some o->H' b=some o
theorem But.refl (p:Addr)(H:Hp):But p H H:=λ_ _ _ h=>h
theorem But.trans {p:Addr}{H H1 H2:Hp}(a:But p H H1)(b:But p H1 H2):But p H H2:=λc o n h=>b c o n (a c o n h)
theorem But.laid {p q:Addr}{H:Hp}{o:HO}(h:H q=none):But p H (upd H q o):=λb u n e=>by rw[zta (zka e h)];exact e
theorem But.put {p:Addr}{H:Hp}{o:HO}:But p H (upd H p o):=λb u n e=>by rw[zta n];exact e
theorem But.same {p:Addr}{H H':Hp}(h:Same H H'):But p H H':=λb o _ e=>h b o e
theorem zsa {H:Hp}{p:Addr}(h:H p=none)(o:HO):Same H (upd H p o):=λb u q=>by rw[zta (zka q h)];exact q
def SqF (K:yca)(H:Hp)(a:Addr)(xs:List V):Prop :=
 (∃o,H a=some (.frz o (.lst xs)))∨Ex3 λ(o:Obj) (its:Array Value) (n:Nat)=>K.lookup a=some o∧o.cls = .type "list" ∧ o.dict=none∧o.data = .seq its n∧its.size≤yta∧Vals xs its.toList
theorem SqF.sq {K:yca}{H:Hp}{a:Addr}{xs:List V}(h:SqF K H a xs):SqL K H a xs:=by
 rcases h with⟨o,h⟩|h
 ·exact .inl (.inr ⟨o,h⟩)
 ·exact .inr h
theorem SqF.of {K:yca}{H:Hp}{a:Addr}{xs:List V}(O:Only H)(h:SqL K H a xs):SqF K H a xs:=by
 rcases h with (h|⟨o,h⟩)|h
 ·rcases O a with z|⟨o,ys,z⟩
  ·rw[z] at h;cases h
  ·rw[z] at h;cases h
 ·exact .inl ⟨o,h⟩
 ·exact .inr h
theorem SqF.keep {K:yca}{H H':Hp}{a:Addr}{xs:List V}(h:SqF K H a xs)(k:∀o u,H a=some (.frz o u)->H' a=some (.frz o u)):SqF K H' a xs:=by
 rcases h with⟨o,h⟩|h
 ·exact .inl ⟨o,k _ _ h⟩
 ·exact .inr h
structure Tk (K:yca)(H:Hp)(p:Addr)(k:Int):Prop where
 ex:Ex2 λa (ns:List Int)=>H p=some (.lst [.ref a,.int k])∧SqF K H a (ns.map V.int)∧ns.length≤63
 lo:0≤k
def zoyb:Sp:=λvs H Q _=>∃t:Str,vs=[.str t]∧t.length≤1000∧∀H',Same H H'->Q (.bl (isName t)) H'
def zpqb:Sp:=λvs H Q _=>∃t:Str,vs=[.str t]∧t.length≤1000∧∀H',Same H H'->Q (.bl (isNumber t)) H'
def zyub:Sp:=λvs H Q _=>Ex2 λ(t:Str) (n:Int)=>vs=[.str t,.int n]∧t.length≤1000∧∀H',Same H H'->Q (.bl (isWhole t n)) H'
def ztqb (K:yca):Sp:=λvs H Q _=>Ex2 λa (ns:List Int)=>vs=[.ref a]∧SqF K H a (ns.map V.int)∧ns.length≤63∧∀H',Q (.bl true) H'
abbrev zxyb:R2:=λx y H Q=>Ex2 λi j=>x = .str i∧y = .str j∧Q (.bl (!(ybd j i 0 j.length 1).isEmpty)) H
theorem zkw {t L:Str}{σ:L2.St}{H:Hp}{Q:VK}(hz:t.length≤yta)(q:∀p,H p=none->Q (.ref p) (upd H p (.lst ((t.cps.toList.map λc=>inS c L).map V.bl)))) :
  zrz (Its t) H (zdob 0) zcyb (tOp zxyb (tVar 0) (tC (.str L))) 1 [] σ Q:=by
 refine zxsb (λi ys H'=>H'=H∧i≤t.cps.size∧ys=((t.cps.toList.take i).map λc=>inS c L).map V.bl) ⟨rfl,ygb _,rfl⟩ ?_ ?_ ?_
 ·rintro i ys H' ⟨_,hi,rfl⟩;rw[yea,yea,yza];have e:t.length=t.cps.toList.length:=by simp[yxq]
  omega
 ·rintro i c ys H' hc ⟨rfl,hi,rfl⟩;refine⟨rfl,_,rfl,_,_,rfl,rfl,rfl,?_,?_⟩
  ·have hlt:i<t.cps.size:=(yxk.mp hc).1;exact hlt
  ·have e:t.cps.toList[i]?=some c:=by simpa using hc
   rw[yva,e,ykb,ykb];rfl
 ·rintro ys H' ⟨rfl,_,rfl⟩ p hp;have q':=q p hp;rw[ypa (by simp)];exact q'
section
variable {P:yqb}{w:World}{K:yca}{mg:Str->Option Value}{base:Heap}{f:Addr}{fd:yef}
theorem zyv (T:Tx K mg):FnOk P w K mg base CX0 2 T.zxf.f T.zxf.d zku zoyb:=by
 refine T.zxf.ok ztib ?_;rintro f c A o s H vs Q E hr ⟨t,rfl,hz,q⟩ X;have hz':=small hz;refine⟨_,  (zea (zoa (zlmb (zprb zqrb zqrb zda (zlb zrl rfl T.zzk yed (zaa (pv 0) zca)) zda) (zwab (zlb (zbz rfl) rfl T.zdib boot_all (zaa (zge (own:=["sign"]) (cap:=[]) rfl (zrb.chk rfl rfl) .nil (zttb (pv 0)) (λ_ _ _ _=>(zva (i:=0) (show ywb (["sign"]:List Str) by decide +kernel) rfl (.inl rfl))) (λ_ _ _ _=>zmh) (λ_ _ _ _=>by exact (znh zbbb (pv 0) (zre (v:=.str zcu) rfl T.zno ⟨_,rfl⟩) rfl))) zca)))))),?_⟩;refine⟨_,rfl,t,rfl,hz',_,_,rfl,rfl,_,rfl,?_⟩;refine ite2 (λc1=>?_) (λc1=>?_)
 ·refine⟨_,_,rfl,rfl,_,rfl,?_⟩;refine ite2 (λc2=>?_) (λc2=>?_)
  ·refine⟨_,rfl,t,rfl,?_⟩;refine zkw hz' λp hp=>?_;refine⟨p,_,rfl,SqL.of zfa,?_⟩;have q':=q (upd H p (.lst ((t.cps.toList.map λc=>inS c LL).map V.bl))) (zsa hp _);have e:isName t=allIn t LL:=by
    unfold isName short;rw[c1,c2,yog,yog]
   rw[e] at q';exact q'
  ·have q':=q H (Same.refl H);have e:isName t=false:=by
    unfold isName short;rw[yfe.mpr c2,yhl,yse]
   rw[e] at q';exact q'
 ·refine⟨_,rfl,iteF ?_⟩;have q':=q H (Same.refl H);have e:isName t=false:=by
   unfold isName short;rw[yfe.mpr c1,yse,yse]
  rw[e] at q';exact q'
theorem zneb (T:Tx K mg):FnOk P w K mg base CX0 1 T.zkg.f T.zkg.d zwp zyub:=by
 refine T.zkg.ok zeeb ?_;rintro f c A o s H vs Q E hr ⟨t,n,rfl,hz,q⟩ X;have hz':=small hz;refine⟨_,  (zba (zcc (PW.pt (zqbc (zus (zjrb zqrb zqrb zda (zlb zrl rfl T.zzk yed (zaa (pv 0) zca)) (pv 1))) (zzyb (zus (zuq (zlb (zbz rfl) rfl T.zdib boot_all (zaa (zge (own:=["sign"]) (cap:=[]) rfl (zrb.chk rfl rfl) .nil (zttb (pv 0)) (λ_ _ _ _=>(zva (i:=0) (show ywb (["sign"]:List Str) by decide +kernel) rfl (.inl rfl))) (λ_ _ _ _=>zmh) (λ_ _ _ _=>by exact (znh zbbb (pv 0) (zre (v:=.str zdu) rfl T.zoo ⟨_,rfl⟩) rfl))) zca)))))))
   (zea (zoa zyib))
   zua)
  (zea (zoa (zgzb (znh zed (pv 0) zpa (zbb _)) (zwab (znh zlzb (zkb ztnb (pv 0) zda (λ_ _=>rfl)) zpa (zbb _))))))),?_⟩
 refine⟨_,rfl,t,rfl,hz',_,_,rfl,rfl,_,rfl,?_⟩;refine ite2 (λc1=>?_) (λc1=>?_)
 ·refine⟨_,rfl,_,_,rfl,rfl,_,rfl,?_⟩;refine ite2 (λc2=>?_) (λc2=>?_)
  ·refine iteT ?_;have q':=q H (Same.refl H);have c2':decide (((t.length:Nat):Int)≤n)=false:=(by simpa using c2);have e:isWhole t n=false:=by
    unfold isWhole short;rw[c2',yhl,yse]
   rw[e] at q';exact q'
  ·have c2':decide (((t.length:Nat):Int)≤n)=true:=by simpa using c2
   refine⟨_,rfl,t,rfl,?_⟩;refine zkw hz' λp hp=>?_;refine⟨p,_,rfl,SqL.of zfa,_,rfl,?_⟩;have S1:=zsa hp (.lst ((t.cps.toList.map λc=>inS c FF).map V.bl));have q':=q _ S1;have e0:isWhole t n=(allIn t FF&&zzv t):=by
    unfold isWhole short;rw[c1,c2',yog,yog]
   rw[e0] at q';refine ite2 (λc3=>?_) (λc3=>?_)
   ·have c3':allIn t FF=false:=by simpa [allIn] using c3
    rw[c3',yse] at q';exact q'
   ·have c3':allIn t FF=true:=by simpa [allIn] using c3
    rw[c3',yog] at q';refine⟨_,rfl,rfl,_,rfl,?_⟩;refine ite2 (λc4=>?_) (λc4=>?_)
    ·have e:zzv t=true:=by
      unfold zzv;rw[c4,ysr]
     rw[e] at q';exact q'
    ·refine⟨_,rfl,t,_,_,rfl,rfl,hz',zvjb (of_decide_eq_true c1),rfl,?_⟩;have e:zzv t=(!decide (V.str ⟨#[t.cps.getD 0 0]⟩=V.str "0")):=by
      unfold zzv;rw[yfe.mpr c4,ynq]
     rw[e] at q';exact q'
 ·refine⟨_,rfl,iteT (iteT ?_)⟩;have q':=q H (Same.refl H);have e:isWhole t n=false:=by
   unfold isWhole short;rw[yfe.mpr c1,yse,yse]
  rw[e] at q';exact q'
theorem zjbb (T:Tx K mg):FnOk P w K mg base CX0 2 T.zcf.f T.zcf.d zin zpqb:=by
 refine T.zcf.ok zkab ?_;rintro f c A o s H vs Q E hr ⟨t,rfl,hz,q⟩ X;refine⟨_,  (zea (zoa (zja (zneb T) hr rfl T.zkg.m T.zkg.F.kp (zikb T) .nil zwa (zaa (pv 0) (zaa zda zca))))),?_⟩;exact⟨_,rfl,t,3,rfl,hz,q⟩
end
section
seal PySem.wpAny
theorem zpac:∀c:Nat,c<123->97≤c->inS c LL=true:=by decide +kernel
theorem zct {n:Str}(h:zdd n):isName n=true:=by
 unfold isName short allIn;obtain⟨h1,h2,h3⟩:=h;rw[decide_eq_true (by omega),decide_eq_true (by omega),yog,yog,yjf];intro b hb;obtain⟨c,hc,rfl⟩:=yjb.mp hb;exact zpac c (by have:=h3 c hc;omega) (h3 c hc).1
theorem zqbb:∀i:Nat,i<1000->isNumber (toString (i:Int):Str)=true:=by decide +kernel
theorem zowb:∀i:Nat,i<1000->PySem.intText? (toString (i:Int):Str)=some (i:Int):=by decide +kernel
theorem zkk {f:Str}{v:V}{r:List (Str×V)}:yde f ((f,v)::r)=some v:=by rw[yne,beq_self_eq_true]
theorem zwc {f g:Str}{v:V}{r:List (Str×V)}(h:¬ f=g):yde f ((g,v)::r)=yde f r:=by
 have e:(f==g)=false:=by simpa using h
 rw[yne,e]
theorem zdp {f:Str}{v:V}:putF f v []=[(f,v)]:=rfl
theorem zzvb {f:Str}{v u:V}{r:List (Str×V)}:putF f v ((f,u)::r)=(f,v)::r:=by
 show (if f=f then (f,v)::r else (f,u)::putF f v r)=_
 rw[if_pos rfl]
theorem zfk {f g:Str}{v u:V}{r:List (Str×V)}(h:¬ g=f):putF f v ((g,u)::r)=(g,u)::putF f v r:=by
 show (if g=f then (g,v)::r else (g,u)::putF f v r)=_
 rw[if_neg h]
def wfs (l:Addr)(k:Int):List (Str×V):=[("words",.ref l),("place",.int k)]
theorem zuzb:¬ (("words":Str) = "place"):=by decide +kernel
theorem ztbc:¬ (("place":Str) = "words"):=by decide +kernel
theorem zvr (l:Addr)(k:Int):(wfs l k).lookup ("words":Str)=some (.ref l):=zkk
theorem zsn (l:Addr)(k:Int):(wfs l k).lookup ("place":Str)=some (.int k):=(zwc ztbc).trans zkk
theorem znub (l:Addr)(k j:Int):putF "place" (.int j) (wfs l k)=wfs l j:=(zfk zuzb).trans (congrArg _ zzvb)
theorem zeqb (l:Addr)(j:Int):putF "place" (.int j) (putF "words" (.ref l) [])=wfs l j:=(zfk zuzb).trans rfl
theorem zdc (l:Addr)(k:Int){m:Str}(h1:¬ m = "words")(h2:¬ m = "place"):(wfs l k).lookup m=none:=(zwc h1).trans ((zwc h2).trans rfl)
def WAt (C:Addr)(H:Hp)(p:Addr)(ws:List Str)(k:Nat):Prop:=Ex2 λdx l=>H p=some (.ins C dx (wfs l (k:Int)))∧H l=some (.lst (ws.map V.str))
theorem WAt.at {C:Addr}{H H':Hp}{p:Addr}{ws:List Str}{k:Nat}(h:WAt C H p ws k)(s:Same H H'):WAt C H' p ws k:=by
 obtain⟨dx,l,h1,h2⟩:=h;exact⟨dx,l,s _ _ h1,s _ _ h2⟩
theorem WAt.go {C:Addr}{H:Hp}{p dx l:Addr}{ws:List Str}{k j:Nat}(h1:H p=some (.ins C dx (wfs l (k:Int))))(h2:H l=some (.lst (ws.map V.str))):WAt C (upd H p (.ins C dx (wfs l (j:Int)))) p ws j:=by
 have n:l≠p:=zng h2 h1 (by intro z;cases z);exact⟨dx,l,zfa,by rw[zta n];exact h2⟩
theorem But.of_same {p:Addr}{H H1 H2:Hp}(a:But p H H1)(b:Same H1 H2):But p H H2:=a.trans (But.same b)
theorem But.new {p:Addr}{H H1:Hp}(b:But p H H1)(h:H p=none):Same H H1:=λc o e=>b c o (zka e h) e
theorem zkub {ws:List Str}{k:Nat}{u:Str}(h:ws[k]?=some u):atI (ws.map V.str) (k:Int)=some (.str u):=zna (by rw[yya,h];rfl)
def zxub (C:Addr):Sp:=λvs H Q _=>Ex3 λp dx (t:Str)=>vs=[.ref p,.str t]∧H p=some (.ins C dx [])∧t.length≤1000∧∀H',WAt C H' p (ycf t " ") 0->But p H H'->Q .non H'
def zzub (C:Addr):Sp:=λvs H Q _=>Ex4 λp (ws:List Str) (k:Nat) (u:Str)=>vs=[.ref p]∧WAt C H p ws k∧ws[k]?=some u∧∀H',WAt C H' p ws (k+1)->But p H H'->Q (.str u) H'
def zavb (C:Addr):Sp:=λvs H Q _=>Ex4 λp (ws:List Str) (k:Nat) (u:Str)=>vs=[.ref p]∧WAt C H p ws k∧ws[k]?=some u∧zdd u∧∀H',WAt C H' p ws (k+1)->But p H H'->Q (.str u) H'
def zblb (C:Addr):Sp:=λvs H Q _=>Ex4 λp (ws:List Str) (k i:Nat)=>vs=[.ref p]∧WAt C H p ws k∧ws[k]?=some (toString (i:Int):Str)∧i<1000∧∀H',WAt C H' p ws (k+1)->But p H H'->Q (.int i) H'
def zclb (C:Addr):Sp:=λvs H Q _=>Ex2 λp (ws:List Str)=>vs=[.ref p]∧WAt C H p ws ws.length∧Q .non H
theorem zihb (T:Tx K mg):FnOk P w K mg base CX0 2 T.zfc.f T.zfc.d zrh (zxub T.znb):=by
 refine T.zfc.ok zap ?_;rintro f c A o s H vs Q E hr ⟨p,dx,t,rfl,hp,ht,q⟩ X;refine⟨_,  (zba (zlm (pv 0) (ztm yff ybj ycj zey (pv 1) (zaa zpa zca)) rfl)
  (zea (zlm (pv 0) zda rfl))),?_⟩
 refine⟨_,rfl,rfl,t,_,rfl,rfl,(by decide +kernel),(yua (yuf ht 2) (by decide)),λl hl=>?_⟩;have npl:p≠l:=zka hp hl;refine⟨_,rfl,p,_,dx,_,rfl,(by rw[zta npl];exact hp),T.zcb,T.znd,(by show 0<1000;decide),?_⟩;refine⟨_,rfl,p,_,dx,_,rfl,zfa,T.zcb,T.zad,(by show 1<1000;decide),?_⟩;refine q _ ⟨dx,l,?_,?_⟩ ?_
 ·rw[zfa,zeqb];rfl
 ·rw[zta npl.symm,zta npl.symm,zfa]
 ·exact (But.laid hl).trans (But.put.trans But.put)
theorem zcg (T:Tx K mg):FnOk P w K mg base CX0 2 T.zkc.f T.zkc.d zam (zzub T.znb):=by
 refine T.zkc.ok zmx ?_;rintro f c A o s H vs Q E hr ⟨p,ws,k,u,rfl,⟨dx,l,h1,h2⟩,hu,q⟩ X;refine⟨_,  (zba (zcc (zra zed (zte (pv 0) rfl) (zlb zmc rfl T.zzk yed (zaa (zte (pv 0) rfl) zca)) (zbb _))
   (zea zag)
   zua)
  (zba (zzlb (pv 0) zda zoac)
  (zea (zoa (zkb zli (zte (pv 0) rfl) (zia ztj (zte (pv 0) rfl) zda) (λ_ _=>rfl)))))),?_⟩
 have hk:k<ws.length:=(yia.mp hu).1;have n:l≠p:=zng h2 h1 (by intro z;cases z);refine⟨_,rfl,p,_,dx,_,_,rfl,h1,T.zcb,T.zad,zsn _ _,_,rfl,p,_,dx,_,_,rfl,h1,T.zcb,T.znd,zvr _ _,l,_,rfl,.inl (SqL.of h2),rfl,_,rfl,?_⟩;refine ite2 (λc=>?_) (λc=>?_)
 ·exfalso;have c':=of_decide_eq_true c;injection c' with c'
  rw[yea] at c';omega
 ·refine⟨_,rfl,p,_,dx,_,_,rfl,h1,T.zcb,T.zad,zsn _ _,_,_,rfl,rfl,dx,_,h1,(by show 2<1000;decide),?_⟩;rw[znub];refine⟨_,rfl,p,_,dx,_,_,rfl,zfa,T.zcb,T.znd,zvr _ _,_,rfl,p,_,dx,_,_,rfl,zfa,T.zcb,T.zad,zsn _ _,_,_,rfl,rfl,l,_,_,_,rfl,rfl,SqL.of (by rw[zta n];exact h2),(by rw[Int.add_sub_cancel];exact zkub hu),?_⟩;exact q _ (WAt.go (j:=k+1) h1 h2) But.put
theorem zkl (T:Tx K mg):FnOk P w K mg base CX0 2 T.zpc.f T.zpc.d zpj (zclb T.znb):=by
 refine T.zpc.ok zes ?_;rintro f c A o s H vs Q E hr ⟨p,ws,rfl,⟨dx,l,h1,h2⟩,q⟩ X;refine⟨_,  (zea (zcc (zra zabb (zte (pv 0) rfl) (zlb zmc rfl T.zzk yed (zaa (zte (pv 0) rfl) zca)) (zbb _))
   (zea zag)
   zua)),?_⟩
 refine⟨_,rfl,p,_,dx,_,_,rfl,h1,T.zcb,T.zad,zsn _ _,_,rfl,p,_,dx,_,_,rfl,h1,T.zcb,T.znd,zvr _ _,l,_,rfl,.inl (SqL.of h2),_,_,rfl,rfl,_,rfl,?_⟩;refine ite2 (λc=>?_) (λc=>?_)
 ·exfalso;have c':=of_decide_eq_true c;rw[yea] at c';omega
 ·exact q
theorem ztd (T:Tx K mg):FnOk P w K mg base CX0 3 T.zob.f T.zob.d zrg (zavb T.znb):=by
 refine T.zob.ok zyi ?_;rintro f c A o s H vs Q E hr ⟨p,ws,k,u,rfl,W,hu,hn,q⟩ X;refine⟨_,  (zba (zla (i:=1) zyi.nd rfl (.inl rfl) (zzc (pv 0) T.zcb T.zkc.M (zcg T) hr (zdh T) .nil zwa))
  (zba (zcc (zus (zuq (zja (zyv T) hr rfl T.zxf.m T.zxf.F.kp (zddb T) .nil zwa (zaa (pv 1) zca))))
   (zea zag)
   zua)
  (zea (zoa (pv 1))))),?_⟩
 obtain⟨dx,l,h1,h2⟩:=id W;refine⟨_,rfl,p,dx,_,rfl,h1,zdc _ _ (by decide +kernel) (by decide +kernel),p,ws,k,u,rfl,W,hu,λH1 W1 B1=>?_⟩;refine⟨_,rfl,u,rfl,(yua hn.2.1 (by decide)),λH2 S2=>?_⟩;rw[zct hn];refine⟨_,rfl,iteF ?_⟩;exact⟨_,rfl,q H2 (W1.at S2) (B1.of_same S2)⟩
theorem zyb (T:Tx K mg):FnOk P w K mg base CX0 3 T.zxa.f T.zxa.d zof (zblb T.znb):=by
 refine T.zxa.ok zth ?_;rintro f c A o s H vs Q E hr ⟨p,ws,k,i,rfl,W,hu,hi,q⟩ X;refine⟨_,  (zba (zla (i:=1) zth.nd rfl (.inl rfl) (zzc (pv 0) T.zcb T.zkc.M (zcg T) hr (zdh T) .nil zwa))
  (zba (zcc (zus (zuq (zja (zjbb T) hr rfl T.zcf.m T.zcf.F.kp (zpfb T) .nil zwa (zaa (pv 1) zca))))
   (zea zag)
   zua)
  (zea (zoa (zlc zaz rfl T.znkb boot_int (zaa (pv 1) zca)))))),?_⟩
 obtain⟨dx,l,h1,h2⟩:=id W;refine⟨_,rfl,p,dx,_,rfl,h1,zdc _ _ (by decide +kernel) (by decide +kernel),p,ws,k,_,rfl,W,hu,λH1 W1 B1=>?_⟩;have hl:=zgp i hi;refine⟨_,rfl,_,rfl,(by omega),λH2 S2=>?_⟩;rw[zqbb i hi];refine⟨_,rfl,iteF ?_⟩;exact⟨_,rfl,_,_,rfl,zowb i hi,(by omega),q H2 (W1.at S2) (B1.of_same S2)⟩
def valV:Wv->V
 | .non=>.non
 | .name n=>.str n
 | .num i=>.int i
def hfs (w:Str)(v:V)(t:Addr):List (Str×V):=[("word",.str w),("value",v),("parts",.ref t)]
theorem zsbc:¬ (("value":Str) = "word"):=by decide +kernel
theorem zszb:¬ (("word":Str) = "value"):=by decide +kernel
theorem zwzb:¬ (("parts":Str) = "word"):=by decide +kernel
theorem ztzb:¬ (("word":Str) = "parts"):=by decide +kernel
theorem zxzb:¬ (("parts":Str) = "value"):=by decide +kernel
theorem zvzb:¬ (("value":Str) = "parts"):=by decide +kernel
theorem zgc (w:Str)(v:V)(t:Addr):(hfs w v t).lookup ("word":Str)=some (.str w):=zkk
theorem zfcb (w:Str)(v:V)(t:Addr):(hfs w v t).lookup ("value":Str)=some v:=(zwc zsbc).trans zkk
theorem zwj (w:Str)(v:V)(t:Addr):(hfs w v t).lookup ("parts":Str)=some (.ref t):=(zwc zwzb).trans ((zwc zxzb).trans zkk)
theorem zosb (w:Str)(v:V)(t:Addr):putF "parts" (.ref t) (putF "value" v (putF "word" (.str w) []))=hfs w v t:=by
 rw[zdp,zfk zszb,zdp,zfk ztzb,zfk zvzb,zdp];rfl
theorem zznb (w:Str)(v:V)(t:Addr){m:Str}(h1:¬ m = "word")(h2:¬ m = "value")(h3:¬ m = "parts"):(hfs w v t).lookup m=none:=(zwc h1).trans ((zwc h2).trans ((zwc h3).trans rfl))
theorem zvwb {C D dx dy t l:Addr}{w:Str}{v:V}{k:Int}:HO.ins D dx (hfs w v t)≠HO.ins C dy (wfs l k):=by
 intro z;injection z with _ _ z
 exact absurd (congrArg ylg z) (by show ¬ (3=2);decide)
mutual
inductive IsW (D:Addr)(H:Hp):V->Wh->Prop where
 | mk {a dx t:Addr} {vs:List V} {w:Wh} (h1:H a=some (.ins D dx (hfs w.word (valV w.val) t))) (h2:H t=some (.tup vs)) (h3:IsWs D H vs w.parts):IsW D H (.ref a) w
inductive IsWs (D:Addr)(H:Hp):List V->List Wh->Prop where
 | nil:IsWs D H [] []
 | cons {v:V} {w:Wh} {vs:List V} {ws:List Wh}:IsW D H v w->IsWs D H vs ws->IsWs D H (v::vs) (w::ws)
end
mutual
theorem IsW.same {D:Addr}{H H':Hp}(s:Same H H'):∀{v:V} {w:Wh},IsW D H v w->IsW D H' v w
 | _,_,.mk h1 h2 h3=>.mk (s _ _ h1) (s _ _ h2) (h3.same s)
theorem IsWs.same {D:Addr}{H H':Hp}(s:Same H H'):∀{vs:List V} {ws:List Wh},IsWs D H vs ws->IsWs D H' vs ws
 | _,_,.nil=>.nil
 | _,_,.cons h t=>.cons (h.same s) (t.same s)
end
mutual
theorem IsW.but {D C p dy l:Addr}{k:Int}{H H':Hp}(b:But p H H')(hp:H p=some (.ins C dy (wfs l k))):∀{v:V} {w:Wh},IsW D H v w->IsW D H' v w
 | _,_,.mk h1 h2 h3=>.mk (b _ _ (zng h1 hp zvwb) h1) (b _ _ (zng h2 hp (by intro z;cases z)) h2) (h3.but b hp)
theorem IsWs.but {D C p dy l:Addr}{k:Int}{H H':Hp}(b:But p H H')(hp:H p=some (.ins C dy (wfs l k))):∀{vs:List V} {ws:List Wh},IsWs D H vs ws->IsWs D H' vs ws
 | _,_,.nil=>.nil
 | _,_,.cons h t=>.cons (h.but b hp) (t.but b hp)
end
theorem IsWs.length {D:Addr}{H:Hp}:∀{vs:List V} {ws:List Wh},IsWs D H vs ws->vs.length=ws.length
 | _,_,.nil=>rfl
 | _,_,.cons _ t=>by rw[yfa,yfa,t.length]
theorem IsWs.split {D:Addr}{H:Hp}:∀{xs:List Wh} {vs:List V} {ys:List Wh},IsWs D H vs (xs++ys)->IsWs D H (vs.take xs.length) xs∧IsWs D H (vs.drop xs.length) ys
 | [],vs,ys,h=>⟨by rw[yeh,yol];exact .nil,by rw[yeh,yep];exact h⟩
 | x::xs,_,ys,.cons h t=>by
  obtain⟨a,b⟩:=IsWs.split (xs:=xs) t;exact⟨.cons h a,b⟩
theorem IsWs.get {D:Addr}{H:Hp}:∀{vs:List V} {ws:List Wh} {i:Nat} {v:V},IsWs D H vs ws->vs[i]?=some v->∃w,ws[i]?=some w∧IsW D H v w
 | _,_,_,_,.nil,e=>by simp at e
 | _,_,0,_,.cons h t,e=>by
  rw[yic] at e;cases e;exact⟨_,rfl,h⟩
 | _,_,i+1,_,.cons h t,e=>by
  rw[ycb] at e;obtain⟨w,h1,h2⟩:=t.get e;exact⟨w,by rw[ycb];exact h1,h2⟩
theorem zxob (xs:List V)(n:Nat):cutV xs none (some (n:Int))=xs.take n:=by
 unfold cutV;rw[HT.zahb,HT.zfeb,yep,yho]
 by_cases h:n≤xs.length
 ·rw[Nat.min_eq_left h]
 ·rw[Nat.min_eq_right (by omega),ypa (yha _),ypa (by omega)]
theorem zpt (xs:List V)(n:Nat):cutV xs (some (n:Int)) none=xs.drop n:=by
 unfold cutV;rw[HT.zahb,HT.zfeb]
 by_cases h:n≤xs.length
 ·rw[Nat.min_eq_left h,ypa (by rw[yme];exact yha _)]
 ·rw[Nat.min_eq_right (by omega),yvj,yol,List.drop_eq_nil_of_le (by omega)]
theorem zpub {w:Wh}(h:w.ok)(hs:w.size≤9):(ywa " " w.words).length≤200:=by
 have a:=zmk " " w.words;have b:=w.ztz;have c:=zjv (l:=w.words.map (·.length)) (k:=8) (λx hx=>by
  obtain⟨u,hu,rfl⟩:=yjb.mp hx;exact (Wh.zdqb h u hu).2.2)
 rw[yea] at c;have e:(" ":Str).length=1:=rfl;rw[e] at a;omega
theorem zgt:∀i:Nat,i<1000->i.log2<1920:=by decide +kernel
theorem zghb (w:Wh):ymk w.word zsu=some (.flat (.int (w.parts.length:Nat))):=by
 cases w<;>rfl
theorem zjwb (w:Wh):KTD.inKeys w.word zsu=true:=by
 cases w<;>rfl
def zjyb (D:Addr):Sp:=λvs H Q _=>Ex5 λx dx t (u:Str) v=>vs=[.ref x,.str u,v,.ref t]∧H x=some (.ins D dx [])∧Q .non (upd H x (.ins D dx (hfs u v t)))
theorem zlwb (T:Tx K mg):FnOk P w K mg base CX0 2 T.ztc.f T.ztc.d zri (zjyb T.zib):=by
 refine T.ztc.ok zdr ?_;rintro f c A o s H vs Q E hr ⟨x,dx,t,u,v,rfl,hx,q⟩ X;refine⟨_,  (zba (zlm (pv 0) (pv 1) rfl)
  (zba (zlm (pv 0) (pv 2) rfl)
  (zea (zlm (pv 0) (pv 3) rfl)))),?_⟩
 refine⟨_,rfl,_,rfl,x,_,dx,_,rfl,hx,T.zmb,T.zya,(by show 0<1000;decide),?_⟩;refine⟨_,rfl,_,rfl,x,_,dx,_,rfl,zfa,T.zmb,T.ztf,(by show 1<1000;decide),?_⟩;refine⟨_,rfl,_,rfl,x,_,dx,_,rfl,zfa,T.zmb,T.zqc,(by rw[zdp,zfk zszb,zdp];show 2<1000;decide),?_⟩;show Q .non _
 rw[zdl,zdl,zosb];exact q
def TkAt (H:Hp)(l:Addr)(fl:List (Str×Wv)):Prop:=∃as:List Addr,H l=some (.lst (as.map V.ref))∧as.length=fl.length∧∀(i:Nat) a (x:Str×Wv),as[i]?=some a->fl[i]?=some x->H a=some (.tup [.str x.1,valV x.2])
theorem TkAt.same {H H':Hp}{l:Addr}{fl:List (Str×Wv)}(h:TkAt H l fl)(s:Same H H'):TkAt H' l fl:=by
 obtain⟨as,h1,h2,h3⟩:=h;exact⟨as,s _ _ h1,h2,λi a x e1 e2=>s _ _ (h3 i a x e1 e2)⟩
theorem TkAt.but {H H':Hp}{l p C dy wl:Addr}{k:Int}{fl:List (Str×Wv)}(h:TkAt H l fl)(b:But p H H')(hp:H p=some (.ins C dy (wfs wl k))):TkAt H' l fl:=by
 obtain⟨as,h1,h2,h3⟩:=h;exact⟨as,b _ _ (zng h1 hp (by intro z;cases z)) h1,h2,λi a x e1 e2=>b _ _ (zng (h3 i a x e1 e2) hp (by intro z;cases z)) (h3 i a x e1 e2)⟩
theorem TkAt.snoc {H:Hp}{l a:Addr}{fl:List (Str×Wv)}{x:Str×Wv}(h:TkAt H l fl)(ha:H a=some (.tup [.str x.1,valV x.2])){as:List Addr}(hl:H l=some (.lst (as.map V.ref))):TkAt (upd H l (.lst (as.map V.ref++[.ref a]))) l (fl++[x]):=by
 obtain⟨as',h1,h2,h3⟩:=h;have e:as'=as:=by
  rw[h1] at hl;injection hl with hl
  injection hl with hl
  exact List.map_inj_right (λx y z=>by injection z) |>.mp hl
 subst e;refine⟨as'++[a],?_,?_,λi b y e1 e2=>?_⟩
 ·rw[zfa,ykb];rfl
 ·rw[yja,yja,h2];rfl
 ·by_cases hi:i<as'.length
  ·rw[ytd hi] at e1;rw[ytd (by omega)] at e2;have z:=h3 i b y e1 e2;rw[zta (zng z h1 (by intro z;cases z))];exact z
  ·have hi2:i<(as'++[a]).length:=(yia.mp e1).1;rw[yja,yub] at hi2;have ei:i=as'.length:=(by omega);rw[yxb (by omega),ei,yvj] at e1;rw[yxb (by omega),ei,h2,yvj] at e2;cases e1;cases e2;rw[zta (zng ha h1 (by intro z;cases z))];exact ha
def zmvb (D:Addr):Sp:=λvs H Q _=>Ex2 λl (y:Wh)=>vs=[.ref l]∧TkAt H l y.flat∧y.size≤9∧∀v H',Same H H'->IsW D H' v y->Q v H'
def spTV (C:Addr):Sp:=λvs H Q _=>Ex5 λp (ws rest:List Str) (k:Nat) (y:Wh)=>vs=[.ref p,.str y.word]∧WAt C H p ws k∧y.ok∧ws.drop k=y.val.words++rest∧∀H',WAt C H' p ws (k+y.val.words.length)->But p H H'->Q (valV y.val) H'
def spTW (C D:Addr):Sp:=λvs H Q _=>Ex5 λp (ws rest:List Str) (k:Nat) (y:Wh)=>vs=[.ref p]∧WAt C H p ws k∧y.ok∧y.size≤9∧ws.drop k=y.words++rest∧∀v H',WAt C H' p ws (k+y.words.length)->But p H H'->IsW D H' v y->Q v H'
theorem ztb {ws rest:List Str}{k:Nat}{u:Str}(h:ws.drop k=u::rest):ws[k]?=some u∧ws.drop (k+1)=rest:=by
 constructor
 ·have e:(ws.drop k)[0]?=some u:=by rw[h];rfl
  rw[yxg] at e
  simpa using e
 ·rw[← ypj,h];rfl
theorem zvx (T:Tx K mg):FnOk P w K mg base CX0 4 T.zvd.f T.zvd.d ztl (spTV T.znb):=by
 refine T.zvd.ok zix ?_;rintro f c A o s H vs Q E hr ⟨p,ws,rest,k,y,rfl,W,ok,hd,q⟩ X;refine⟨_,  (zba (zcc (zra zed (pv 1) zpa (zbb _))
   (zea (zoa (zzc (pv 0) T.zcb T.zob.M (ztd T) hr (zme T) .nil zwa)))
   zua)
  (zba (zcc (zra zed (pv 1) zpa (zbb _))
   (zea (zoa (zzc (pv 0) T.zcb T.zxa.M (zyb T) hr (zbc T) .nil zwa)))
   zua)
  (zea (zoa zat)))),?_⟩
 obtain⟨dx,l,h1,h2⟩:=id W;refine⟨_,rfl,rfl,_,rfl,?_⟩;cases y with
 | mark n =>
  refine iteT ?_;refine⟨_,rfl,p,dx,_,rfl,h1,zdc _ _ (by decide +kernel) (by decide +kernel),p,ws,k,n,rfl,W,(ztb hd).1,ok,λH1 W1 B1=>?_⟩;exact q H1 W1 B1
 | force i =>
  refine iteF ?_;refine⟨_,rfl,rfl,_,rfl,iteT ?_⟩;refine⟨_,rfl,p,dx,_,rfl,h1,zdc _ _ (by decide +kernel) (by decide +kernel),p,ws,k,i,rfl,W,(ztb hd).1,ok,λH1 W1 B1=>?_⟩;exact q H1 W1 B1
 | _=>exact iteF ⟨_,rfl,rfl,_,rfl,iteF (q H W (But.refl p H))⟩
theorem ztrb (T:Tx K mg)(kb:K.In base):FnOk P w K mg base CX0 4 T.zpm.f T.zpm.d zyfb (zmvb T.zib):=by
 refine T.zpm.ok zdm ?_;rintro f c A o s H vs Q E hr ⟨l,y,rfl,⟨as,h1,h2,h3⟩,hs,q⟩ X;refine⟨_,  (zba (zla (i:=1) zdm.nd rfl (.inl rfl) (zsj zca))
  (zba (zaj ygc rfl (zieb rfl T.zbm (zaa (pv 0) zca)) (zwv (n:=2) rfl (zqb (zva (i:=2) zdm.nd rfl (.inl rfl)) (zqb (zva (i:=3) zdm.nd rfl (.inl rfl)) zgk)))
   (zba (zla (i:=4) zdm.nd rfl (.inl rfl) (zkb (zsnb (zyr T kb)) (zre (v:=.ref T.zzm) rfl T.zrp rfl) (pv 2) (λ_ _=>rfl)))
   (zea (zla (i:=1) zdm.nd rfl (.inl rfl) (zia znzb (zsj (zaa (zsx T.ztc.M (zlwb T) hr rfl T.zxtb (zyt T) .nil zwa (zaa (pv 2) (zaa (pv 3) (zaa (zlc zpd rfl T.zgh yoi (zaa (zfd zdeb (pv 1) zpe (zoe (pv 4))) zca)) zca)))) zca)) (zfd zdeb (pv 1) (zoe (pv 4)) zpe))))))
  (zea (zoa (zkb zli (pv 1) zda (λ_ _=>rfl)))))),?_⟩
 refine⟨sz0,λw0 hw0=>?_⟩;have S0:Same H (upd H w0 (.lst [])):=zsa hw0 _;have fl:=y.zrr;have len:(as.map V.ref).length=y.size:=by rw[yea,h2,fl]
 refine⟨_,rfl,l,as.map V.ref,rfl,SqL.of (S0 _ _ h1),?_⟩;refine zcxb (xs:=as.map V.ref) (λi σ H'=>Ex5 λwl vs o2 o3 o4=>σ=[some (.ref l),some (.ref wl),o2,o3,o4]∧Same H H'∧H' wl=some (.lst vs)∧IsWs T.zib H' vs (pend y (y.size-i))) ⟨w0,[],_,_,_,rfl,S0,zfa,by rw[yho,zrx];exact .nil⟩ (λi σ H' _ ⟨_,_,_,_,_,_,S',_⟩=>SqL.of (S' _ _ h1)) ?_ ?_
 ·rintro i x σ H' hi hx ⟨wl,vs,o2,o3,o4,rfl,S1,e1,W1⟩;rw[len] at hi hx;have hj:y.size-1-i<y.size:=by omega
  obtain⟨z,t,ez⟩:=zjeb hj;have ef:=zjmb ez;rw[yya] at hx;cases ea:as[y.size-1-i]? with
  | none =>
   rw[ea] at hx;cases hx
  | some a =>
  rw[ea] at hx;cases hx;have ha:=S1 _ _ (h3 _ _ _ ea ef);have ep:pend y (y.size-i)=z.parts++t:=by
   rw[show y.size-i=(y.size-1-i)+1 by omega];show step (pend y (y.size-1-i))=_
   rw[ez];rfl
  rw[ep] at W1;obtain⟨Wp,Wt⟩:=W1.split;have vl:=W1.length;rw[yja] at vl;have szp:=zys y (y.size-i);have lez:(z.parts++t).length≤zwn (z.parts++t):=by
   have go:∀l:List Wh,l.length≤zwn l:=by
    intro l
    induction l with
    | nil=>exact ygb _
    | cons x r ih =>
     have e2:zwn (x::r)=x.size+zwn r:=(by simp[zwn]);have:=x.size_pos;rw[e2,yfa];omega
   exact go _
  rw[ep] at szp;rw[yja] at lez;refine⟨a,_,rfl,SqT.of ha,rfl,_,_,rfl,_,_,rfl,rfl,?_⟩;refine⟨_,rfl,_,_,rfl,rfl,zghb z,?_⟩;refine⟨_,rfl,_,rfl,_,rfl,_,rfl,_,rfl,wl,vs,rfl,SqL.of e1,λs1 hs1=>?_⟩;have S2:=zsa hs1 (.lst (cutV vs none (some ((z.parts.length:Nat):Int))));refine⟨s1,_,rfl,.inl ⟨SqL.of zfa,λtp htp=>?_⟩⟩;have S3:=zsa htp (.tup (cutV vs none (some ((z.parts.length:Nat):Int))));intro x dx nx ndx nex;refine⟨x,dx,tp,z.word,valV z.val,rfl,zfa,rfl,?_⟩;rw[zdl];have etp:=zka (b:=x) (zfa (H:=upd H' s1 (.lst (cutV vs none (some ((z.parts.length:Nat):Int))))) (a:=tp) (o:=.tup (cutV vs none (some ((z.parts.length:Nat):Int))))) nx;have etd:=zka (b:=dx) (zfa (H:=upd H' s1 (.lst (cutV vs none (some ((z.parts.length:Nat):Int))))) (a:=tp) (o:=.tup (cutV vs none (some ((z.parts.length:Nat):Int))))) ndx;generalize hH3:upd (upd H' s1 (.lst (cutV vs none (some ((z.parts.length:Nat):Int))))) tp (.tup (cutV vs none (some ((z.parts.length:Nat):Int))))=H3 at *;have e3:H3 tp=some (.tup (vs.take z.parts.length)):=by rw[← hH3,zfa,zxob]
  have S4:Same H3 (upd (upd H3 dx (.own x)) x (.ins T.zib dx (hfs z.word (valV z.val) tp))):=λb o e=>by
   rw[zta (zka e nx),zta (zka e ndx)];exact e
  have e4:upd (upd H3 dx (.own x)) x (.ins T.zib dx (hfs z.word (valV z.val) tp)) x=some (.ins T.zib dx (hfs z.word (valV z.val) tp)):=zfa;generalize upd (upd H3 dx (.own x)) x (.ins T.zib dx (hfs z.word (valV z.val) tp))=H4 at *;have S14:Same H' H4:=S2.trans (S3.trans S4);refine⟨sz1,λq1 hq1=>?_⟩;have S5:=zsa hq1 (.lst [.ref x]);refine⟨_,rfl,_,rfl,_,rfl,wl,vs,rfl,SqL.of (S5 _ _ (S14 _ _ e1)),λs2 hs2=>?_⟩;have e5:upd H4 q1 (.lst [.ref x]) q1=some (.lst [.ref x]):=zfa;generalize upd H4 q1 (.lst [.ref x])=H5 at *;have S6:=zsa hs2 (.lst (cutV vs (some ((z.parts.length:Nat):Int)) none));have e6:upd H5 s2 (.lst (cutV vs (some ((z.parts.length:Nat):Int)) none)) s2=some (.lst (vs.drop z.parts.length)):=by rw[zfa,zpt]
  generalize upd H5 s2 (.lst (cutV vs (some ((z.parts.length:Nat):Int)) none))=H6 at *;refine⟨q1,s2,_,_,rfl,rfl,S6 _ _ e5,e6,?_,λr hr'=>?_⟩
  ·rw[yme,yub];exact small (by omega)
  have S7:=zsa hr' (.lst ([.ref x]++vs.drop z.parts.length));have S37:Same H3 (upd H6 r (.lst ([.ref x]++vs.drop z.parts.length))):=S4.trans (S5.trans (S6.trans S7));have S17:Same H' (upd H6 r (.lst ([.ref x]++vs.drop z.parts.length))):=S14.trans (S5.trans (S6.trans S7));refine⟨r,_,_,_,_,rfl,S1.trans S17,zfa,?_⟩;rw[show y.size-(i+1)=y.size-1-i by omega,ez];exact .cons (.mk ((S5.trans (S6.trans S7)) _ _ e4) (S37 _ _ e3) (Wp.same S17)) (Wt.same S17)
 ·rintro σ H' ⟨wl,vs,o2,o3,o4,rfl,S1,e1,W1⟩;rw[len,yvj] at W1;have W1':IsWs T.zib H' vs [y]:=W1;cases W1' with
  | cons hv ht =>
  cases ht;exact⟨_,rfl,wl,_,_,_,rfl,rfl,SqL.of e1,rfl,q _ H' S1 hv⟩
theorem zwub {y z:Wh}{t:List Wh}{j:Nat}(e:pend y j=z::t):pend y (j+1)=z.parts++t:=by
 show step (pend y j)=_
 rw[e];rfl
theorem zjob {y:Wh}{j:Nat}{x:Str×Wv}(h:y.flat[j]?=some x):y.flat.take j++[x]=y.flat.take (j+1):=by
 rw[yva,h];rfl
theorem zyg (T:Tx K mg)(kb:K.In base):FnOk P w K mg base CX0 5 T.zzb.f T.zzb.d zan (spTW T.znb T.zib):=by
 refine T.zzb.ok zwg ?_;rintro f c A o s H vs Q E hr ⟨p,ws,rest,k,y,rfl,W,ok,hs,hd,q⟩ X;refine⟨_,  (zba (zla (i:=1) zwg.nd rfl (.inl rfl) (zsj zca))
  (zba (zla (i:=2) zwg.nd rfl (.inl rfl) zda)
  (zba (zox ygc (zra zajb (pv 2) zda (zbb _))
   (zba (zcc (zra zed (zlb zmc rfl T.zzk yed (zaa (pv 1) zca)) (zre (v:=.int 9) rfl T.zij ⟨_,rfl⟩) (zbb _))
    (zea zag)
    zua)
   (zba (zla (i:=3) zwg.nd rfl (.inl rfl) (zzc (pv 0) T.zcb T.zkc.M (zcg T).up hr (zdh T) .nil zwa))
   (zba (zcc (zra (zyab (zyr T kb)) (pv 3) (zre (v:=.ref T.zzm) rfl T.zrp rfl) rfl)
    (zea zag)
    zua)
   (zba (zkf (ztm yac yyd yzd zuj (pv 1) (zaa (zgb (zaa (pv 3) (zaa (zja (zvx T) hr rfl T.zvd.m T.zvd.F.kp (zadb T) .nil zwa (zaa (pv 0) (zaa (pv 3) zca))) zca))) zca)))
   (zea (zazb (i:=2) zwg.nd rfl (.inl rfl) (zia ztj (zkb (zsnb (zyr T kb)) (zre (v:=.ref T.zzm) rfl T.zrp rfl) (pv 3) (λ_ _=>rfl)) zda) zmac)))))))
  (zea (zoa (zja (ztrb T kb) hr rfl T.zpm.m T.zpm.F.kp (zqxb T) .nil zwa (zaa (pv 1) zca))))))),?_⟩
 refine⟨sz0,λl hl=>?_⟩;have fl:=y.zrr;refine⟨λm σ H'=>Ex3 λ(j k':Nat) o=>m=y.size-j∧σ=[some (.ref p),some (.ref l),some (.int ((pend y j).length:Nat)),o]∧j≤y.size∧But p H H'∧WAt T.znb H' p ws k'∧ws.drop k'=zbl (pend y j)++rest∧k'+(zbl (pend y j)).length=k+y.words.length∧TkAt H' l (y.flat.take j),⟨_,0,k,none,rfl,rfl,ygb _,But.laid hl,W.at (zsa hl _),?_,?_,[],zfa,rfl,?_⟩,?_⟩
 ·show _=zbl [y]++rest;rw[zgv];exact hd
 ·show _+(zbl [y]).length=_;rw[zgv]
 ·intro i a x e;simp at e
 rintro m σ H' ⟨j,k',o,rfl,rfl,hj,B,W',hd',hk',TA⟩;refine⟨_,rfl,_,_,rfl,rfl,_,rfl,?_⟩;obtain⟨as,t1,t2,t3⟩:=id TA;rw[yza] at t2;refine ite2 (λc=>?_) (λc=>?_)
 ·have c':(0:Int)<(((pend y j).length:Nat):Int):=of_decide_eq_true c;have hjl:j<y.size:=by
   rcases yof j y.size with z|z
   ·exact z
   ·have e:j=y.size:=by omega
    rw[e,zrx] at c';exact absurd c' (by simp)
  obtain⟨z,t,ez⟩:=zjeb hjl;have zok:z.ok:=zimb ok j z (by rw[ez];exact yka);have ef:=zjmb ez;rw[ez,zxdb] at hd' hk';have es:=zwub ez;obtain⟨u1,u2⟩:=ztb (rest:=(z.val.words++zbl (z.parts++t))++rest) hd';have u2':ws.drop (k'+1)=z.val.words++(zbl (z.parts++t)++rest):=by rw[u2,ymd]
  have kws:k'<ws.length:=(yia.mp u1).1;refine⟨_,fun σ' H' n=>n,?_⟩;refine⟨_,rfl,l,_,rfl,.inl (SqL.of t1),rfl,_,rfl,?_⟩;refine ite2 (λc1=>?_) (λc1=>?_)
  ·exfalso;have c1':=of_decide_eq_true c1;injection c1' with c1'
   rw[yea] at c1';omega
  obtain⟨dx,wl,w1,w2⟩:=id W';refine⟨_,rfl,p,dx,_,rfl,w1,zdc _ _ (by decide +kernel) (by decide +kernel),p,ws,k',z.word,rfl,W',u1,λH1 W1 B1=>?_⟩;refine⟨_,rfl,_,rfl,rfl,_,rfl,?_⟩;rw[zjwb];refine iteF ?_;have TA1:=TA.but B1 w1;obtain⟨dx1,wl1,w11,w12⟩:=id W1;have t11:=B1 _ _ (zng t1 w1 (by intro z;cases z)) t1;refine⟨_,rfl,.inl ⟨rfl,_,SqL.of t11⟩,_,rfl,_,rfl,_,rfl,p,ws,_,k'+1,z,rfl,W1,zok,u2',λH2 W2 B2=>?_⟩;have TA2:=TA1.but B2 w11;have t12:=B2 _ _ (zng t11 w11 (by intro z;cases z)) t11;refine⟨sz2,λa ha=>?_⟩;have S3:=zsa ha (.tup [.str z.word,valV z.val]);have TA3:=TA2.same S3;have t13:=S3 _ _ t12;have e3:upd H2 a (.tup [.str z.word,valV z.val]) a=some (.tup [.str z.word,valV z.val]):=zfa;generalize upd H2 a (.tup [.str z.word,valV z.val])=H3 at *;have W3:=W2.at S3;obtain⟨dx3,wl3,w31,w32⟩:=id W3;have npl:p≠l:=zng w31 t13 (by intro z;cases z);have nwl:wl3≠l:=by
   intro z;rw[z,t13] at w32;injection w32 with w32
   injection w32 with w32
   cases ws with
   | nil=>exact absurd kws (by simp)
   | cons u r =>
    cases as with
    | nil=>simp at w32
    | cons b r'=>simp at w32
  refine⟨l,_,_,rfl,rfl,t13,?_,?_⟩
  ·rw[yea];exact zei (by omega)
  have TA4:=TA3.snoc (x:=(z.word,z.val)) e3 t13;rw[zjob ef] at TA4;have W4:WAt T.znb (upd H3 l (.lst (as.map V.ref++[.ref a]))) p ws (k'+1+z.val.words.length):=⟨dx3,wl3,by rw[zta npl];exact w31,by rw[zta nwl];exact w32⟩;have B4:But p H (upd H3 l (.lst (as.map V.ref++[.ref a]))):=λb o n e=>by
   rw[zta (zka e hl)];exact S3 _ _ (B2 _ _ n (B1 _ _ n (B _ _ n e)))
  have em:(((pend y j).length:Nat):Int)+(((z.parts.length:Nat):Int)-1)=(((pend y (j+1)).length:Nat):Int):=by
   rw[ez,es,yfa,yja];omega
  refine⟨_,rfl,_,rfl,_,_,rfl,rfl,zghb z,_,_,rfl,rfl,_,_,rfl,rfl,?_⟩;refine⟨y.size-(j+1),by omega,j+1,k'+1+z.val.words.length,_,rfl,(by rw[← em];rfl),hjl,B4,W4,?_,?_,TA4⟩
  ·rw[es,← ypj,u2',ynl]
  ·rw[es];rw[yfa,yja] at hk';omega
 ·have c':¬ (0:Int)<(((pend y j).length:Nat):Int):=of_decide_eq_false (yfe.mpr c);have ej:j=y.size:=by
   rcases yof j y.size with z|z
   ·obtain⟨z,t,ez⟩:=zjeb z;rw[ez,yfa] at c';omega
   ·omega
  subst ej;rw[zrx] at hk';rw[ypa (by omega)] at TA;have hk2:k'=k+y.words.length:=hk';subst hk2;refine⟨_,rfl,l,y,rfl,TA,hs,λv H2 S2 IW=>?_⟩;exact q v H2 (W'.at S2) (B.of_same S2) IW
theorem zafb {u:Str}:∀{ss:List Str},u∈ss->inV (.str u) (ss.map V.str)=true
 | x::ss,h=>by
  show (eqV (.str x) (.str u)||inV (.str u) (ss.map V.str))=true
  rcases yla.mp h with rfl|h
  ·have e:eqV (.str u) (.str u)=true:=by show (u==u)=true;simp
   rw[e];rfl
  ·rw[zafb h,Bool.or_true]
theorem zlcb:∀ss:List Str,(ss.map V.str).all zav=true
 | []=>rfl
 | _::ss=>zlcb ss
def Kn (K:yca)(H:Hp)(t:Addr)(ss:List Str):Prop:=TupK K t ss∨H t=some (.tup (ss.map V.str))
theorem Kn.sq {K:yca}{H H':Hp}{t p C dx l:Addr}{k:Int}{ss:List Str}(h:Kn K H t ss)(hz:ss.length≤1000)(hp:H p=some (.ins C dx (wfs l k)))(b:But p H H'):SqT K H' t (ss.map V.str):=by
 rcases h with h|h
 ·exact h.sq hz H'
 ·exact SqT.of (b _ _ (zng h hp (by intro z;cases z)) h)
theorem zvy {ws xs:List Str}{k:Nat}(h:ws.drop k=xs)(hx:xs≠[]):k+xs.length=ws.length:=by
 have e:=congrArg ylg h;rw[yme] at e;have:xs.length≠0:=λz=>hx (List.eq_nil_of_length_eq_zero z);omega
theorem zso {ws xs ys:List Str}{k:Nat}(h:ws.drop k=xs++ys):ws.drop (k+xs.length)=ys:=by
 rw[← ypj,h,ynl]
def amtV:Wv->V
 | .non=>.int 0
 | .name n=>.str n
 | .num i=>.int i
def HvAt (D:Addr)(H:Hp)(x:V):Hv->Prop
 | .v y=>x=valV y
 | .w y=>IsW D H x y
def zuw (D:Addr)(H:Hp)(v:V)(d:Deed):Prop:=Ex2 λa x=>v = .ref a∧H a=some (.tup [.str d.each,.str d.kind,amtV d.amt,x])∧IsW D H x d.whom
def zom (D:Addr)(H:Hp)(v:V):Rule->Prop
 | .hold w y z=>Ex3 λa x u=>v = .ref a∧H a=some (.tup [.str "hold",.str w,x,u])∧HvAt D H x y∧IsW D H u z
 | .wen k y d=>Ex3 λa x u=>v = .ref a∧H a=some (.tup [.str "when",.str k,x,u])∧IsW D H x y∧zuw D H u d
 | .instead k y w z=>Ex2 λa x=>v = .ref a∧H a=some (.tup [.str "instead",.str k,x,.str w,valV z])∧IsW D H x y
 | .may c d=>Ex2 λa u=>v = .ref a∧H a=some (.tup [.str "may",.int c,u])∧zuw D H u d
theorem HvAt.same {D:Addr}{H H':Hp}(s:Same H H'){x:V}:∀{y:Hv},HvAt D H x y->HvAt D H' x y
 | .v _,h=>h
 | .w _,h=>IsW.same s h
theorem HvAt.but {D C p dy l:Addr}{k:Int}{H H':Hp}(b:But p H H')(hp:H p=some (.ins C dy (wfs l k))){x:V}:∀{y:Hv},HvAt D H x y->HvAt D H' x y
 | .v _,h=>h
 | .w _,h=>IsW.but b hp h
theorem zuw.same {D:Addr}{H H':Hp}(s:Same H H'){v:V}{d:Deed}(h:zuw D H v d):zuw D H' v d:=by
 obtain⟨a,x,e,h1,h2⟩:=h;exact⟨a,x,e,s _ _ h1,h2.same s⟩
theorem zom.same {D:Addr}{H H':Hp}(s:Same H H'){v:V}:∀{r:Rule},zom D H v r->zom D H' v r
 | .hold w y z,⟨a,x,u,e,h,p,q⟩=>⟨a,x,u,e,s _ _ h,p.same s,q.same s⟩
 | .wen k y d,⟨a,x,u,e,h,p,q⟩=>⟨a,x,u,e,s _ _ h,p.same s,q.same s⟩
 | .instead k y w z,⟨a,x,e,h,p⟩=>⟨a,x,e,s _ _ h,p.same s⟩
 | .may c d,⟨a,u,e,h,p⟩=>⟨a,u,e,s _ _ h,p.same s⟩
theorem zwkb {k:Str}(h:k∈zdg):ymk k zngb=some (.tup ((turns k).map PyData.str)):=by
 simp only[zdg,yla,ydc,or_false] at h
 rcases h with rfl|rfl|rfl|rfl|rfl|rfl|rfl<;>rfl
theorem zvkb (k:Str):(turns k).length≤1000:=by
 unfold turns
 repeat' split
 all_goals decide
def zlbc (K:yca)(C:Addr):Sp:=λvs H Q _=>Ex6 λp t (ws:List Str) (k:Nat) (u:Str) (ss:List Str)=>vs=[.ref p,.ref t]∧WAt C H p ws k∧ws[k]?=some u∧u∈ss∧ss.length≤1000∧Kn K H t ss∧∀H',WAt C H' p ws (k+1)->But p H H'->Q (.str u) H'
def zmbc (C:Addr):Sp:=λvs H Q _=>Ex6 λp (ws rest:List Str) (k:Nat) (u:Str) (v:Wv)=>vs=[.ref p,.str u]∧WAt C H p ws k∧zcq u v∧ws.drop k=v.words++rest∧∀H',WAt C H' p ws (k+v.words.length)->But p H H'->Q (amtV v) H'
def zkyb (C:Addr):Sp:=λvs H Q _=>Ex5 λp (ws:List Str) (k:Nat) (u:Str) (v:Wv)=>vs=[.ref p,.str u]∧WAt C H p ws k∧TurnOk u v∧ws.drop k=v.words∧∀H',WAt C H' p ws (k+v.words.length)->But p H H'->Q (valV v) H'
def zvqb (C D:Addr):Sp:=λvs H Q _=>Ex6 λp (ws rest:List Str) (k:Nat) (u:Str) (v:Hv)=>vs=[.ref p,.str u]∧WAt C H p ws k∧zqd u v∧ws.drop k=v.words++rest∧∀x H',WAt C H' p ws (k+v.words.length)->But p H H'->HvAt D H' x v->Q x H'
def zpyb (C D:Addr):Sp:=λvs H Q _=>Ex4 λp (ws:List Str) (k:Nat) (d:Deed)=>vs=[.ref p]∧WAt C H p ws k∧d.ok∧ws.drop k=d.words∧∀v H',WAt C H' p ws ws.length->But p H H'->zuw D H' v d->Q v H'
def zcx (C D:Addr)(f:Rule->Prop):Sp:=λvs H Q _=>Ex4 λp (ws:List Str) (k:Nat) (r:Rule)=>vs=[.ref p]∧f r∧WAt C H p ws k∧r.ok∧ws.drop k=r.words.drop 1∧∀v H',WAt C H' p ws ws.length->But p H H'->zom D H' v r->Q v H'
theorem zab (T:Tx K mg):FnOk P w K mg base CX0 3 T.zma.f T.zma.d znf (zlbc K T.znb):=by
 refine T.zma.ok zsh ?_;rintro f c A o s H vs Q E hr ⟨p,t,ws,k,u,ss,rfl,W,hu,hm,hz,hk,q⟩ X;refine⟨_,  (zba (zla (i:=2) zsh.nd rfl (.inl rfl) (zzc (pv 0) T.zcb T.zkc.M (zcg T) hr (zdh T) .nil zwa))
  (zba (zcc (zra zzab (pv 2) (pv 1) rfl)
   (zea zag)
   zua)
  (zea (zoa (pv 2))))),?_⟩
 obtain⟨dx,l,h1,h2⟩:=id W;refine⟨_,rfl,p,dx,_,rfl,h1,zdc _ _ (by decide +kernel) (by decide +kernel),p,ws,k,u,rfl,W,hu,λH1 W1 B1=>?_⟩;refine⟨_,rfl,_,rfl,t,_,rfl,.inr (hk.sq hz h1 B1),rfl,zlcb ss,_,rfl,?_⟩;have e:(if true=true then !inV (.str u) (ss.map V.str) else inV (.str u) (ss.map V.str))=false:=by rw[zafb hm];rfl
 refine ite2 (λc=>absurd (e.symm.trans c) yab) (λ_=>?_);exact⟨_,rfl,q H1 W1 B1⟩
theorem zvu (T:Tx K mg):FnOk P w K mg base CX0 4 T.zkd.f T.zkd.d zrk (zmbc T.znb):=by
 refine T.zkd.ok ztu ?_;rintro f c A o s H vs Q E hr ⟨p,ws,rest,k,u,v,rfl,W,ok,hd,q⟩ X;refine⟨_,  (zba (zcc (zra zed (pv 1) zpa (zbb _))
   (zea (zoa zda))
   zua)
  (zba (zcc (zra zjl (pv 1) (zgb (zaa zpa (zaa zpa zca))) rfl)
   (zea (zoa (zzc (pv 0) T.zcb T.zob.M (ztd T) hr (zme T) .nil zwa)))
   zua)
  (zea (zoa (zzc (pv 0) T.zcb T.zxa.M (zyb T) hr (zbc T) .nil zwa))))),?_⟩
 obtain⟨dx,l,h1,h2⟩:=id W;have nam:∀{n:Str},zdd n->ws.drop k=n::rest->∀{a:Addr} {o:HO},H a=none->(∀H',WAt T.znb H' p ws (k+1)->But p H H'->Q (.str n) H')->Ex4 λp' (ws':List Str) (k':Nat) (u':Str)=>[V.ref p]=[.ref p']∧WAt T.znb (upd H a o) p' ws' k'∧ws'[k']?=some u'∧zdd u'∧∀H',WAt T.znb H' p' ws' (k'+1)->But p' (upd H a o) H'->Q (.str u') H' :=
  λ{_} hn e {a o} ha q=>⟨p,ws,k,_,rfl,W.at (zsa ha o),(ztb e).1,hn,λH1 W1 B1=>q H1 W1 ((But.laid ha).trans B1)⟩
 have num:∀{i:Nat},i<1000->ws.drop k=(toString (i:Int):Str)::rest->∀{a:Addr} {o:HO},H a=none->(∀H',WAt T.znb H' p ws (k+1)->But p H H'->Q (.int i) H')->Ex4 λp' (ws':List Str) (k' i':Nat)=>[V.ref p]=[.ref p']∧WAt T.znb (upd H a o) p' ws' k'∧ws'[k']?=some (toString (i':Int):Str)∧i'<1000∧∀H',WAt T.znb H' p' ws' (k'+1)->But p' (upd H a o) H'->Q (.int i') H' :=
  λ{_} hn e {a o} ha q=>⟨p,ws,k,_,rfl,W.at (zsa ha o),(ztb e).1,hn,λH1 W1 B1=>q H1 W1 ((But.laid ha).trans B1)⟩
 have at1:∀{a:Addr} {o:HO},H a=none->upd H a o p=some (.ins T.znb dx (wfs l (k:Int))):=λ{a o} ha=>by rw[zta (zka h1 ha)];exact h1
 refine⟨_,rfl,rfl,_,rfl,?_⟩;cases ok with
 | leave=>exact iteT (q H W (But.refl p H))
 | gain hn =>
  refine iteF ⟨_,rfl,sz2,λa ha=>⟨a,_,rfl,.inr (SqT.of zfa),rfl,rfl,_,rfl,iteT ?_⟩⟩;exact⟨_,rfl,p,dx,_,rfl,at1 ha,zdc _ _ (by decide +kernel) (by decide +kernel),nam hn hd ha q⟩
 | lack hn =>
  refine iteF ⟨_,rfl,sz2,λa ha=>⟨a,_,rfl,.inr (SqT.of zfa),rfl,rfl,_,rfl,iteT ?_⟩⟩;exact⟨_,rfl,p,dx,_,rfl,at1 ha,zdc _ _ (by decide +kernel) (by decide +kernel),nam hn hd ha q⟩
 | hurt hn =>
  refine iteF ⟨_,rfl,sz2,λa ha=>⟨a,_,rfl,.inr (SqT.of zfa),rfl,rfl,_,rfl,iteF ?_⟩⟩;exact⟨_,rfl,p,dx,_,rfl,at1 ha,zdc _ _ (by decide +kernel) (by decide +kernel),num hn hd ha q⟩
 | lose hn =>
  refine iteF ⟨_,rfl,sz2,λa ha=>⟨a,_,rfl,.inr (SqT.of zfa),rfl,rfl,_,rfl,iteF ?_⟩⟩;exact⟨_,rfl,p,dx,_,rfl,at1 ha,zdc _ _ (by decide +kernel) (by decide +kernel),num hn hd ha q⟩
 | score hn =>
  refine iteF ⟨_,rfl,sz2,λa ha=>⟨a,_,rfl,.inr (SqT.of zfa),rfl,rfl,_,rfl,iteF ?_⟩⟩;exact⟨_,rfl,p,dx,_,rfl,at1 ha,zdc _ _ (by decide +kernel) (by decide +kernel),num hn hd ha q⟩
 | draw hn =>
  refine iteF ⟨_,rfl,sz2,λa ha=>⟨a,_,rfl,.inr (SqT.of zfa),rfl,rfl,_,rfl,iteF ?_⟩⟩;exact⟨_,rfl,p,dx,_,rfl,at1 ha,zdc _ _ (by decide +kernel) (by decide +kernel),num hn hd ha q⟩
theorem zio (T:Tx K mg):FnOk P w K mg base CX0 4 T.zjc.f T.zjc.d zog (zkyb T.znb):=by
 refine T.zjc.ok zxn ?_;rintro f c A o s H vs Q E hr ⟨p,ws,k,u,v,rfl,W,ok,hd,q⟩ X;refine⟨_,  (zba (zcc (zra zjl (pv 1) (zgb (zaa zpa (zaa zpa zca))) rfl)
   (zea (zoa (zzc (pv 0) T.zcb T.zxa.M (zyb T) hr (zbc T) .nil zwa)))
   zua)
  (zba (zcc (zra zed (pv 1) zpa (zbb _))
   (zea (zoa (zqe (pv 0) T.zcb T.zma.M (zab T) hr (zfb T) .nil zwa (zaa (zre (v:=.ref T.zvg) rfl T.zug rfl) zca))))
   zua)
  (zea (zoa zat)))),?_⟩
 obtain⟨dx,l,h1,h2⟩:=id W;refine⟨_,rfl,sz2,λa ha=>⟨a,_,rfl,.inr (SqT.of zfa),rfl,rfl,_,rfl,?_⟩⟩;have S:=zsa ha (.tup [.str "less",.str "more"]);have W1:=W.at S;have at1:upd H a (.tup [.str "less",.str "more"]) p=some (.ins T.znb dx (wfs l (k:Int))):=by rw[zta (zka h1 ha)];exact h1
 have B:But p H (upd H a (.tup [.str "less",.str "more"])):=But.laid ha;cases ok with
 | none=>exact iteF ⟨_,rfl,rfl,_,rfl,iteF (q _ W1 B)⟩
 | here=>exact iteF ⟨_,rfl,rfl,_,rfl,iteF (q _ W1 B)⟩
 | less hn =>
  refine iteT ?_;exact⟨_,rfl,p,dx,_,rfl,at1,zdc _ _ (by decide +kernel) (by decide +kernel),p,ws,k,_,rfl,W1,(ztb hd).1,hn,λH2 W2 B2=>q H2 W2 (B.trans B2)⟩
 | more hn =>
  refine iteT ?_;exact⟨_,rfl,p,dx,_,rfl,at1,zdc _ _ (by decide +kernel) (by decide +kernel),p,ws,k,_,rfl,W1,(ztb hd).1,hn,λH2 W2 B2=>q H2 W2 (B.trans B2)⟩
 | as hn =>
  refine iteF ⟨_,rfl,rfl,_,rfl,iteT ?_⟩;exact⟨_,rfl,p,dx,_,rfl,at1,zdc _ _ (by decide +kernel) (by decide +kernel),p,_,ws,k,_,zsm,rfl,W1,(ztb hd).1,hn,(by decide),.inl T.ztg,λH2 W2 B2=>q H2 W2 (B.trans B2)⟩
theorem zjm (T:Tx K mg)(kb:K.In base):FnOk P w K mg base CX0 6 T.zac.f T.zac.d zmf (zvqb T.znb T.zib):=by
 refine T.zac.ok zim ?_;rintro f c A o s H vs Q E hr ⟨p,ws,rest,k,u,v,rfl,W,ok,hd,q⟩ X;refine⟨_,  (zba (zcc (zra zjl (pv 1) (zgb (zaa zpa (zaa zpa zca))) rfl)
   (zea (zoa (zzc (pv 0) T.zcb T.zob.M (ztd T).up hr (zme T) .nil zwa)))
   zua)
  (zba (zcc (zra zjl (pv 1) (zgb (zaa zpa (zaa zpa (zaa zpa zca)))) rfl)
   (zea (zoa (zzc (pv 0) T.zcb T.zxa.M (zyb T).up hr (zbc T) .nil zwa)))
   zua)
  (zba (zcc (zra zed (pv 1) zpa (zbb _))
   (zea (zoa (zja (zyg T kb) hr rfl T.zzb.m T.zzb.F.kp (zoi T) .nil zwa (zaa (pv 0) zca))))
   zua)
  (zea (zoa zat))))),?_⟩
 obtain⟨dx,l,h1,h2⟩:=id W;refine⟨_,rfl,sz2,λa ha=>⟨a,_,rfl,.inr (SqT.of zfa),rfl,rfl,_,rfl,?_⟩⟩;have S:=zsa ha (.tup [.str "gain",.str "lack"]);have W1:=W.at S;have B:But p H (upd H a (.tup [.str "gain",.str "lack"])):=But.laid ha;generalize upd H a (.tup [.str "gain",.str "lack"])=H0 at *;obtain⟨dx1,l1,at1,_⟩:=id W1;have two:∀{b:Addr},H0 b=none->WAt T.znb (upd H0 b (.tup [.str "be",.str "more",.str "less"])) p ws k∧But p H (upd H0 b (.tup [.str "be",.str "more",.str "less"])):=λ{b} hb=>⟨W1.at (zsa hb _),B.trans (But.laid hb)⟩;cases ok with
 | gain hn =>
  exact iteT ⟨_,rfl,p,dx1,_,rfl,at1,zdc _ _ (by decide +kernel) (by decide +kernel),p,ws,k,_,rfl,W1,(ztb hd).1,hn,λH2 W2 B2=>q _ H2 W2 (B.trans B2) rfl⟩
 | lack hn =>
  exact iteT ⟨_,rfl,p,dx1,_,rfl,at1,zdc _ _ (by decide +kernel) (by decide +kernel),p,ws,k,_,rfl,W1,(ztb hd).1,hn,λH2 W2 B2=>q _ H2 W2 (B.trans B2) rfl⟩
 | be hn =>
  refine iteF ⟨_,rfl,sz3,λb hb=>⟨b,_,rfl,.inr (SqT.of zfa),rfl,rfl,_,rfl,iteT ?_⟩⟩;obtain⟨W3,B3⟩:=two hb;obtain⟨dx3,l3,at3,_⟩:=id W3;exact⟨_,rfl,p,dx3,_,rfl,at3,zdc _ _ (by decide +kernel) (by decide +kernel),p,ws,k,_,rfl,W3,(ztb hd).1,hn,λH2 W2 B2=>q _ H2 W2 (B3.trans B2) rfl⟩
 | more hn =>
  refine iteF ⟨_,rfl,sz3,λb hb=>⟨b,_,rfl,.inr (SqT.of zfa),rfl,rfl,_,rfl,iteT ?_⟩⟩;obtain⟨W3,B3⟩:=two hb;obtain⟨dx3,l3,at3,_⟩:=id W3;exact⟨_,rfl,p,dx3,_,rfl,at3,zdc _ _ (by decide +kernel) (by decide +kernel),p,ws,k,_,rfl,W3,(ztb hd).1,hn,λH2 W2 B2=>q _ H2 W2 (B3.trans B2) rfl⟩
 | less hn =>
  refine iteF ⟨_,rfl,sz3,λb hb=>⟨b,_,rfl,.inr (SqT.of zfa),rfl,rfl,_,rfl,iteT ?_⟩⟩;obtain⟨W3,B3⟩:=two hb;obtain⟨dx3,l3,at3,_⟩:=id W3;exact⟨_,rfl,p,dx3,_,rfl,at3,zdc _ _ (by decide +kernel) (by decide +kernel),p,ws,k,_,rfl,W3,(ztb hd).1,hn,λH2 W2 B2=>q _ H2 W2 (B3.trans B2) rfl⟩
 | per hn =>
  refine iteF ⟨_,rfl,sz3,λb hb=>⟨b,_,rfl,.inr (SqT.of zfa),rfl,rfl,_,rfl,iteF ?_⟩⟩;obtain⟨W3,B3⟩:=two hb;exact⟨_,rfl,rfl,_,rfl,iteT ⟨_,rfl,p,ws,rest,k,_,rfl,W3,hn.1,hn.2,hd,λx H2 W2 B2 IW=>q x H2 W2 (B3.trans B2) IW⟩⟩
 | mute =>
  refine iteF ⟨_,rfl,sz3,λb hb=>⟨b,_,rfl,.inr (SqT.of zfa),rfl,rfl,_,rfl,iteF ?_⟩⟩;obtain⟨W3,B3⟩:=two hb;exact⟨_,rfl,rfl,_,rfl,iteF (q _ _ W3 B3 rfl)⟩
 | steal =>
  refine iteF ⟨_,rfl,sz3,λb hb=>⟨b,_,rfl,.inr (SqT.of zfa),rfl,rfl,_,rfl,iteF ?_⟩⟩;obtain⟨W3,B3⟩:=two hb;exact⟨_,rfl,rfl,_,rfl,iteF (q _ _ W3 B3 rfl)⟩
theorem zvq (T:Tx K mg)(kb:K.In base):FnOk P w K mg base CX0 6 T.zjd.f T.zjd.d zdn (zpyb T.znb T.zib):=by
 refine T.zjd.ok zxg ?_;rintro f c A o s H vs Q E hr ⟨p,ws,k,d,rfl,W,ok,hd,q⟩ X;refine⟨_,  (zba (zla (i:=1) zxg.nd rfl (.inl rfl) (zqe (pv 0) T.zcb T.zma.M (zab T).up hr (zfb T) .nil zwa (zaa (zgb (zaa zpa (zaa zpa zca))) zca)))
  (zba (zla (i:=2) zxg.nd rfl (.inl rfl) (zqe (pv 0) T.zcb T.zma.M (zab T).up hr (zfb T) .nil zwa (zaa (zre (v:=.ref T.zeh) rfl T.zbh rfl) zca)))
  (zba (zla (i:=3) zxg.nd rfl (.inl rfl) (zja (zvu T).up hr rfl T.zkd.m T.zkd.F.kp (zcz T) .nil zwa (zaa (pv 0) (zaa (pv 2) zca))))
  (zba (zla (i:=4) zxg.nd rfl (.inl rfl) (zja (zyg T kb) hr rfl T.zzb.m T.zzb.F.kp (zoi T) .nil zwa (zaa (pv 0) zca)))
  (zea (zoa (zgb (zaa (pv 1) (zaa (pv 2) (zaa (pv 3) (zaa (pv 4) zca))))))))))),?_⟩
 obtain⟨dx,l,h1,h2⟩:=id W;obtain⟨u1,hd1⟩:=ztb (show ws.drop k=d.each::(d.kind::(d.amt.words++d.whom.words)) from hd);obtain⟨u2,hd2⟩:=ztb hd1;have hd3:=zso hd2;refine⟨_,rfl,p,dx,_,rfl,h1,zdc _ _ (by decide +kernel) (by decide +kernel),sz2,λa ha=>?_⟩;refine⟨p,a,ws,k,_,zocb,rfl,W.at (zsa ha _),u1,ok.each,(by decide),.inr zfa,λH1 W1 B1=>?_⟩;have B1':But p H H1:=(But.laid ha).trans B1;obtain⟨dx1,l1,at1,_⟩:=id W1;refine⟨_,rfl,p,dx1,_,rfl,at1,zdc _ _ (by decide +kernel) (by decide +kernel),p,_,ws,k+1,_,zdg,rfl,W1,u2,ok.amt.kind,(by decide),.inl T.zah,λH2 W2 B2=>?_⟩;refine⟨_,rfl,_,rfl,p,ws,_,k+1+1,_,d.amt,rfl,W2,ok.amt,hd2,λH3 W3 B3=>?_⟩;refine⟨_,rfl,p,ws,[],_,d.whom,rfl,W3,ok.whom.1,ok.whom.2,(by rw[ylb];exact hd3),λv H4 W4 B4 IW=>?_⟩;refine⟨_,rfl,_,rfl,_,rfl,_,rfl,sz4,λb hb=>?_⟩;have en:=zvy hd3 d.whom.zrd;rw[en] at W4;exact q _ _ (W4.at (zsa hb _)) ((B1'.trans (B2.trans (B3.trans B4))).trans (But.laid hb)) ⟨b,v,rfl,zfa,IW.same (zsa hb _)⟩
def zlac:Rule->Prop
 | .hold _ _ _=>True
 | _=>False
def zubc:Rule->Prop
 | .wen _ _ _=>True
 | _=>False
def zvnb:Rule->Prop
 | .instead _ _ _ _=>True
 | _=>False
def zvbc:Rule->Prop
 | .may _ _=>True
 | _=>False
theorem zdbb (T:Tx K mg)(kb:K.In base):FnOk P w K mg base CX0 7 T.zye.f T.zye.d zcn (zcx T.znb T.zib zlac):=by
 refine T.zye.ok zvi ?_;rintro f c A o s H vs Q E hr ⟨p,ws,k,r,rfl,is,W,ok,hd,q⟩ X;refine⟨_,  (zba (zla (i:=1) zvi.nd rfl (.inl rfl) (zqe (pv 0) T.zcb T.zma.M (zab T).up hr (zfb T) .nil zwa (zaa (zre (v:=.ref T.zvo) rfl T.zpo rfl) zca)))
  (zba (zla (i:=2) zvi.nd rfl (.inl rfl) (zja (zjm T kb) hr rfl T.zac.m T.zac.F.kp (zym T) .nil zwa (zaa (pv 0) (zaa (pv 1) zca))))
  (zba (zla (i:=3) zvi.nd rfl (.inl rfl) (zja (zyg T kb).up hr rfl T.zzb.m T.zzb.F.kp (zoi T) .nil zwa (zaa (pv 0) zca)))
  (zea (zoa (zgb (zaa zpa (zaa (pv 1) (zaa (pv 2) (zaa (pv 3) zca)))))))))),?_⟩
 cases r with
 | hold u v y =>
  obtain⟨dx,l,h1,h2⟩:=id W;obtain⟨ok1,ok2⟩:=ok;obtain⟨u1,hd1⟩:=ztb (show ws.drop k=u::(v.words++y.words) from hd);have hd2:=zso hd1;refine⟨_,rfl,p,dx,_,rfl,h1,zdc _ _ (by decide +kernel) (by decide +kernel),p,_,ws,k,_,changes,rfl,W,u1,ok1.word,(by decide),.inl T.zlo,λH1 W1 B1=>?_⟩;refine⟨_,rfl,_,rfl,p,ws,y.words,k+1,_,v,rfl,W1,ok1,hd1,λx H2 W2 B2 HV=>?_⟩;obtain⟨dx2,l2,at2,_⟩:=id W2;refine⟨_,rfl,p,ws,[],_,y,rfl,W2,ok2.1,ok2.2,(by rw[ylb];exact hd2),λz H3 W3 B3 IW=>?_⟩;refine⟨_,rfl,_,rfl,_,rfl,sz4,λb hb=>?_⟩;rw[zvy hd2 y.zrd] at W3;exact q _ _ (W3.at (zsa hb _)) ((B1.trans (B2.trans B3)).trans (But.laid hb)) ⟨b,x,z,rfl,zfa,(HV.but B3 at2).same (zsa hb _),IW.same (zsa hb _)⟩
 | wen=>exact is.elim
 | instead=>exact is.elim
 | may=>exact is.elim
theorem zcbb (T:Tx K mg)(kb:K.In base):FnOk P w K mg base CX0 7 T.zxe.f T.zxe.d zbn (zcx T.znb T.zib zubc):=by
 refine T.zxe.ok zfl ?_;rintro f c A o s H vs Q E hr ⟨p,ws,k,r,rfl,is,W,ok,hd,q⟩ X;refine⟨_,  (zba (zla (i:=1) zfl.nd rfl (.inl rfl) (zqe (pv 0) T.zcb T.zma.M (zab T).up hr (zfb T) .nil zwa (zaa (zre (v:=.ref T.zkj) rfl T.zgj rfl) zca)))
  (zba (zla (i:=2) zfl.nd rfl (.inl rfl) (zja (zyg T kb).up hr rfl T.zzb.m T.zzb.F.kp (zoi T) .nil zwa (zaa (pv 0) zca)))
  (zba (zkf (zqe (pv 0) T.zcb T.zma.M (zab T).up hr (zfb T) .nil zwa (zaa (zgb (zaa zpa zca)) zca)))
  (zea (zoa (zgb (zaa zpa (zaa (pv 1) (zaa (pv 2) (zaa (zja (zvq T kb) hr rfl T.zjd.m T.zjd.F.kp (zvt T) .nil zwa (zaa (pv 0) zca)) zca)))))))))),?_⟩
 cases r with
 | wen u y d =>
  obtain⟨dx,l,h1,h2⟩:=id W;obtain⟨ok1,ok2,ok3⟩:=ok;obtain⟨u1,hd1⟩:=ztb (show ws.drop k=u::(y.words++("do":Str)::d.words) from hd);have hd2:=zso hd1;obtain⟨u3,hd3⟩:=ztb hd2;refine⟨_,rfl,p,dx,_,rfl,h1,zdc _ _ (by decide +kernel) (by decide +kernel),p,_,ws,k,_,zrn,rfl,W,u1,ok1,(by decide),.inl T.zej,λH1 W1 B1=>?_⟩;refine⟨_,rfl,p,ws,_,k+1,y,rfl,W1,ok2.1,ok2.2,hd1,λx H2 W2 B2 IW=>?_⟩;obtain⟨dx2,l2,at2,_⟩:=id W2;refine⟨_,rfl,p,dx2,_,rfl,at2,zdc _ _ (by decide +kernel) (by decide +kernel),sz1,λa ha=>?_⟩;refine⟨p,a,ws,_,_,["do"],rfl,W2.at (zsa ha _),u3,yga.mpr rfl,(by decide),.inr zfa,λH3 W3 B3=>?_⟩;have B3':But p H2 H3:=(But.laid ha).trans B3;obtain⟨dx3,l3,at3,_⟩:=id W3;refine⟨_,rfl,_,rfl,_,rfl,p,ws,_,d,rfl,W3,ok3,hd3,λz H4 W4 B4 ID=>?_⟩;refine⟨sz4,λb hb=>?_⟩;exact q _ _ (W4.at (zsa hb _)) ((B1.trans (B2.trans (B3'.trans B4))).trans (But.laid hb)) ⟨b,x,z,rfl,zfa,((IW.but B3' at2).but B4 at3).same (zsa hb _),ID.same (zsa hb _)⟩
 | hold=>exact is.elim
 | instead=>exact is.elim
 | may=>exact is.elim
theorem zbt (T:Tx K mg)(kb:K.In base):FnOk P w K mg base CX0 6 T.zcd.f T.zcd.d zoj (zcx T.znb T.zib zvnb):=by
 refine T.zcd.ok zyf ?_;rintro f c A o s H vs Q E hr ⟨p,ws,k,r,rfl,is,W,ok,hd,q⟩ X;refine⟨_,  (zba (zla (i:=1) zyf.nd rfl (.inl rfl) (zqe (pv 0) T.zcb T.zma.M (zab T).up hr (zfb T) .nil zwa (zaa (zre (v:=.ref T.zeh) rfl T.zbh rfl) zca)))
  (zba (zla (i:=2) zyf.nd rfl (.inl rfl) (zja (zyg T kb) hr rfl T.zzb.m T.zzb.F.kp (zoi T) .nil zwa (zaa (pv 0) zca)))
  (zba (zkf (zqe (pv 0) T.zcb T.zma.M (zab T).up hr (zfb T) .nil zwa (zaa (zgb (zaa zpa zca)) zca)))
  (zba (zla (i:=3) zyf.nd rfl (.inl rfl) (zqe (pv 0) T.zcb T.zma.M (zab T).up hr (zfb T) .nil zwa (zaa (zkb (zuwb rfl T.zjy) (zre (v:=.ref T.ziz) rfl T.zny rfl) (pv 1) (λ_ _=>rfl)) zca)))
  (zea (zoa (zgb (zaa zpa (zaa (pv 1) (zaa (pv 2) (zaa (pv 3) (zaa (zja (zio T).up hr rfl T.zjc.m T.zjc.F.kp (ztp T) .nil zwa (zaa (pv 0) (zaa (pv 3) zca))) zca)))))))))))),?_⟩
 cases r with
 | instead u y t v =>
  obtain⟨dx,l,h1,h2⟩:=id W;obtain⟨ok1,ok2,ok3,ok4⟩:=ok;obtain⟨u1,hd1⟩:=ztb (show ws.drop k=u::(y.words++("do":Str)::t::v.words) from hd);have hd2:=zso hd1;obtain⟨u3,hd3⟩:=ztb hd2;obtain⟨u4,hd4⟩:=ztb hd3;refine⟨_,rfl,p,dx,_,rfl,h1,zdc _ _ (by decide +kernel) (by decide +kernel),p,_,ws,k,_,zdg,rfl,W,u1,ok1,(by decide),.inl T.zah,λH1 W1 B1=>?_⟩;refine⟨_,rfl,p,ws,_,k+1,y,rfl,W1,ok2.1,ok2.2,hd1,λx H2 W2 B2 IW=>?_⟩;obtain⟨dx2,l2,at2,_⟩:=id W2;refine⟨_,rfl,p,dx2,_,rfl,at2,zdc _ _ (by decide +kernel) (by decide +kernel),sz1,λa ha=>?_⟩;refine⟨p,a,ws,_,_,["do"],rfl,W2.at (zsa ha _),u3,yga.mpr rfl,(by decide),.inr zfa,λH3 W3 B3=>?_⟩;have B3':But p H2 H3:=(But.laid ha).trans B3;obtain⟨dx3,l3,at3,_⟩:=id W3;refine⟨_,rfl,p,dx3,_,rfl,at3,zdc _ _ (by decide +kernel) (by decide +kernel),_,rfl,_,_,rfl,rfl,zwkb ok1,λb hb=>?_⟩;refine⟨p,b,ws,_,_,turns u,rfl,W3,u4,ok3,zvkb u,.inl hb,λH4 W4 B4=>?_⟩;obtain⟨dx4,l4,at4,_⟩:=id W4;refine⟨_,rfl,_,rfl,_,rfl,_,rfl,_,rfl,p,ws,_,_,v,rfl,W4,ok4,hd4,λH5 W5 B5=>?_⟩;refine⟨sz5,λb hb=>?_⟩;have en:k+1+y.words.length+1+1+v.words.length=ws.length:=by
   have:=zvy hd3 (ytc _ _);rw[yfa] at this;omega
  rw[en] at W5;exact q _ _ (W5.at (zsa hb _)) ((B1.trans (B2.trans (B3'.trans (B4.trans B5)))).trans (But.laid hb)) ⟨b,x,rfl,zfa,(((IW.but B3' at2).but B4 at3).but B5 at4).same (zsa hb _)⟩
 | hold=>exact is.elim
 | wen=>exact is.elim
 | may=>exact is.elim
theorem zmeb (T:Tx K mg)(kb:K.In base):FnOk P w K mg base CX0 7 T.zig.f T.zig.d zvp (zcx T.znb T.zib zvbc):=by
 refine T.zig.ok zcs ?_;rintro f c A o s H vs Q E hr ⟨p,ws,k,r,rfl,is,W,ok,hd,q⟩ X;refine⟨_,  (zba (zla (i:=1) zcs.nd rfl (.inl rfl) (zzc (pv 0) T.zcb T.zxa.M (zyb T).up hr (zbc T) .nil zwa))
  (zba (zkf (zqe (pv 0) T.zcb T.zma.M (zab T).up hr (zfb T) .nil zwa (zaa (zgb (zaa zpa zca)) zca)))
  (zea (zoa (zgb (zaa zpa (zaa (pv 1) (zaa (zja (zvq T kb) hr rfl T.zjd.m T.zjd.F.kp (zvt T) .nil zwa (zaa (pv 0) zca)) zca)))))))),?_⟩
 cases r with
 | may c d =>
  obtain⟨dx,l,h1,h2⟩:=id W;obtain⟨ok1,ok2⟩:=ok;obtain⟨u1,hd1⟩:=ztb (show ws.drop k=(toString (c:Int):Str)::("do":Str)::d.words from hd);obtain⟨u3,hd3⟩:=ztb hd1;refine⟨_,rfl,p,dx,_,rfl,h1,zdc _ _ (by decide +kernel) (by decide +kernel),p,ws,k,c,rfl,W,u1,ok1,λH2 W2 B2=>?_⟩;obtain⟨dx2,l2,at2,_⟩:=id W2;refine⟨_,rfl,p,dx2,_,rfl,at2,zdc _ _ (by decide +kernel) (by decide +kernel),sz1,λa ha=>?_⟩;refine⟨p,a,ws,_,_,["do"],rfl,W2.at (zsa ha _),u3,yga.mpr rfl,(by decide),.inr zfa,λH3 W3 B3=>?_⟩;have B3':But p H2 H3:=(But.laid ha).trans B3;refine⟨_,rfl,_,rfl,p,ws,_,d,rfl,W3,ok2,hd3,λz H4 W4 B4 ID=>?_⟩;refine⟨sz3,λb hb=>?_⟩;exact q _ _ (W4.at (zsa hb _)) ((B2.trans (B3'.trans B4)).trans (But.laid hb)) ⟨b,z,rfl,zfa,ID.same (zsa hb _)⟩
 | hold=>exact is.elim
 | wen=>exact is.elim
 | instead=>exact is.elim
def zilb:Rule->Str
 | .hold _ _ _=>"hold"
 | .wen _ _ _=>"when"
 | .instead _ _ _ _=>"instead"
 | .may _ _=>"may"
theorem zslb (r:Rule):r.words=(zilb r)::r.words.drop 1:=by cases r<;>rfl
theorem zrlb (r:Rule):(zilb r)∈sorts:=by
 cases r with
 | hold=>exact (by decide:("hold":Str)∈sorts)
 | wen=>exact (by decide:("when":Str)∈sorts)
 | instead=>exact (by decide:("instead":Str)∈sorts)
 | may=>exact (by decide:("may":Str)∈sorts)
theorem zpkb (v:Wv):v.words.length≤1:=by cases v<;>simp[Wv.words]
theorem zuz {y:Wh}(h:plain y):y.words.length≤18:=by
 have a:=y.ztz;have b:=h.2;omega
theorem zrac {u:Str}{v:Hv}(h:zqd u v):v.words.length≤18:=by
 cases v with
 | v x=>exact yua (zpkb x) (by decide)
 | w y =>
  cases h with
  | per h=>exact zuz h
theorem zthb {d:Deed}(h:d.ok):d.words.length≤21:=by
 have a:=zuz h.whom;have b:=zpkb d.amt;have e:d.words.length=d.amt.words.length+d.whom.words.length+1+1:=by
  show (d.each::d.kind::(d.amt.words++d.whom.words)).length=_
  rw[yfa,yfa,yja]
 omega
theorem zcrb {r:Rule}(h:r.ok):r.words.length≤50:=by
 cases r with
 | hold u v y =>
  have a:=zuz h.2;have b:=zrac h.1;show (("hold":Str)::u::(v.words++y.words)).length≤50
  rw[yfa,yfa,yja];omega
 | wen u y d =>
  have a:=zuz h.2.1;have b:=zthb h.2.2;show (("when":Str)::u::(y.words++("do":Str)::d.words)).length≤50
  rw[yfa,yfa,yja,yfa];omega
 | instead u y t v =>
  have a:=zuz h.2.1;have b:=zpkb v;show (("instead":Str)::u::(y.words++("do":Str)::t::v.words)).length≤50
  rw[yfa,yfa,yja,yfa,yfa];omega
 | may c d =>
  have b:=zthb h.2;show (("may":Str)::(toString (c:Int):Str)::("do":Str)::d.words).length≤50
  rw[yfa,yfa,yfa];omega
theorem text_len {ws:List Str}(h:∀u∈ws,ztw u):(ywa " " ws).length≤9*ws.length:=by
 have a:=zmk " " ws;have c:=zjv (l:=ws.map (·.length)) (k:=8) (λx hx=>by
  obtain⟨u,hu,rfl⟩:=yjb.mp hx;exact (h u hu).2.2)
 rw[yea] at c;have e:(" ":Str).length=1:=rfl;rw[e] at a;omega
theorem zfo {r:Rule}(h:r.ok):(zmd r).length≤450:=by
 have a:=text_len (ws:=r.words) (λu hu=>(Rule.zjh h u hu).1);have b:=zcrb h;show (ywa " " r.words).length≤450
 omega
def zmyb (D:Addr):Sp:=λvs H Q _=>∃r:Rule,vs=[.str (zmd r)]∧r.ok∧∀v H',Same H H'->zom D H' v r->Q v H'
theorem zebb (T:Tx K mg)(kb:K.In base):FnOk P w K mg base CX0 8 T.zze.f T.zze.d zen (zmyb T.zib):=by
 refine T.zze.ok zde ?_;rintro f c A o s H vs Q E hr ⟨r,rfl,ok,q⟩ X;refine⟨_,  (zba (zla (i:=1) zde.nd rfl (.inl rfl) (zsx T.zfc.M (zihb T).up hr rfl T.zueb (zxk T) .nil zwa (zaa (pv 0) zca)))
  (zba (zla (i:=2) zde.nd rfl (.inl rfl) (zqe (pv 1) T.zcb T.zma.M (zab T).up hr (zfb T) .nil zwa (zaa (zre (v:=.ref T.zjz) rfl T.zoy rfl) zca)))
  (zba (zcc (zra zed (pv 2) zpa (zbb _))
   (zea (zla (i:=3) zde.nd rfl (.inl rfl) (zja (zdbb T kb) hr rfl T.zye.m T.zye.F.kp (zlfb T) .nil zwa (zaa (pv 1) zca))))
   (zea (zcc (zra zed (pv 2) zpa (zbb _))
    (zea (zla (i:=3) zde.nd rfl (.inl rfl) (zja (zcbb T kb) hr rfl T.zxe.m T.zxe.F.kp (zkfb T) .nil zwa (zaa (pv 1) zca))))
    (zea (zcc (zra zed (pv 2) zpa (zbb _))
     (zea (zla (i:=3) zde.nd rfl (.inl rfl) (zja (zbt T kb).up hr rfl T.zcd.m T.zcd.F.kp (zcv T) .nil zwa (zaa (pv 1) zca))))
     (zea (zla (i:=3) zde.nd rfl (.inl rfl) (zja (zmeb T kb) hr rfl T.zig.m T.zig.F.kp (zgkb T) .nil zwa (zaa (pv 1) zca)))))))))
  (zba (zkf (zzc (pv 1) T.zcb T.zpc.M (zkl T).up hr (znm T) .nil zwa))
  (zea (zoa (pv 3))))))),?_⟩
 have tl:=zfo ok;refine⟨_,rfl,?_⟩;intro x dx nx ndx nex;refine⟨x,dx,_,rfl,zfa,(by omega),λH1 W1 B1=>⟨rfl,?_⟩⟩;have es:ycf (zmd r) " " = r.words:=zxo (c:=32) r.zrd (λu hu=>(Rule.zjh ok u hu).1.1);rw[es] at W1;have S1:Same H H1:=λb o e=>B1 b o (zka e nx) (by rw[zta (zka e nx),zta (zka e ndx)];exact e);obtain⟨dx1,l1,at1,_⟩:=id W1;refine⟨_,rfl,x,dx1,_,rfl,at1,zdc _ _ (by decide +kernel) (by decide +kernel),x,_,r.words,0,(zilb r),sorts,rfl,W1,(by rw[zslb r];rfl),zrlb r,(by decide),.inl T.zky,λH2 W2 B2=>?_⟩;have fin:∀{v:V} {H3:Hp},WAt T.znb H3 x r.words r.words.length->But x H2 H3->zom T.zib H3 v r->Q v H3:=λ{v H3} W3 B3 IR =>
  q v H3 (λb o e=>B3 b o (zka e nx) (B2 b o (zka e nx) (S1 b o e))) IR
 refine⟨_,rfl,rfl,_,rfl,?_⟩;cases r with
 | hold u v y =>
  refine iteT ⟨_,rfl,x,_,1,.hold u v y,rfl,trivial,W2,ok,rfl,λz H3 W3 B3 IR=>?_⟩;obtain⟨dx3,l3,at3,_⟩:=id W3;exact⟨_,rfl,x,dx3,_,rfl,at3,zdc _ _ (by decide +kernel) (by decide +kernel),x,_,rfl,W3,⟨_,rfl,fin W3 B3 IR⟩⟩
 | wen u y d =>
  refine iteF ⟨_,rfl,rfl,_,rfl,iteT ⟨_,rfl,x,_,1,.wen u y d,rfl,trivial,W2,ok,rfl,λz H3 W3 B3 IR=>?_⟩⟩;obtain⟨dx3,l3,at3,_⟩:=id W3;exact⟨_,rfl,x,dx3,_,rfl,at3,zdc _ _ (by decide +kernel) (by decide +kernel),x,_,rfl,W3,⟨_,rfl,fin W3 B3 IR⟩⟩
 | instead u y t v =>
  refine iteF ⟨_,rfl,rfl,_,rfl,iteF ⟨_,rfl,rfl,_,rfl,iteT ⟨_,rfl,x,_,1,.instead u y t v,rfl,trivial,W2,ok,rfl,λz H3 W3 B3 IR=>?_⟩⟩⟩;obtain⟨dx3,l3,at3,_⟩:=id W3;exact⟨_,rfl,x,dx3,_,rfl,at3,zdc _ _ (by decide +kernel) (by decide +kernel),x,_,rfl,W3,⟨_,rfl,fin W3 B3 IR⟩⟩
 | may c d =>
  refine iteF ⟨_,rfl,rfl,_,rfl,iteF ⟨_,rfl,rfl,_,rfl,iteF ⟨_,rfl,x,_,1,.may c d,rfl,trivial,W2,ok,rfl,λz H3 W3 B3 IR=>?_⟩⟩⟩;obtain⟨dx3,l3,at3,_⟩:=id W3;exact⟨_,rfl,x,dx3,_,rfl,at3,zdc _ _ (by decide +kernel) (by decide +kernel),x,_,rfl,W3,⟨_,rfl,fin W3 B3 IR⟩⟩
def cfs (n:Str)(c f:Nat)(m t:Addr):List (Str×V):=[("name",.str n),("cost",.int c),("force",.int f),("marks",.ref m),("rules",.ref t)]
inductive IsRules (D:Addr)(H:Hp):List V->List Rule->Prop where
 | nil:IsRules D H [] []
 | cons {v:V} {r:Rule} {vs:List V} {rs:List Rule}:zom D H v r->IsRules D H vs rs->IsRules D H (v::vs) (r::rs)
theorem IsRules.same {D:Addr}{H H':Hp}(s:Same H H'):∀{vs:List V} {rs:List Rule},IsRules D H vs rs->IsRules D H' vs rs
 | _,_,.nil=>.nil
 | _,_,.cons h t=>.cons (h.same s) (t.same s)
theorem IsRules.snoc {D:Addr}{H:Hp}{v:V}{r:Rule}(h:zom D H v r):∀{vs:List V} {rs:List Rule},IsRules D H vs rs->IsRules D H (vs++[v]) (rs++[r])
 | _,_,.nil=>.cons h .nil
 | _,_,.cons h' t=>.cons h' (IsRules.snoc h t)
theorem IsRules.length {D:Addr}{H:Hp}:∀{vs:List V} {rs:List Rule},IsRules D H vs rs->vs.length=rs.length
 | _,_,.nil=>rfl
 | _,_,.cons _ t=>congrArg (· + 1) t.length
theorem IsRules.get {D:Addr}{H:Hp}:∀{vs:List V} {rs:List Rule} {i:Nat} {v:V},IsRules D H vs rs->vs[i]?=some v->∃r,rs[i]?=some r∧zom D H v r
 | _,_,0,_,.cons h _,e=>by cases e;exact⟨_,rfl,h⟩
 | _,_,i+1,_,.cons _ t,e=>t.get (i:=i) e
def zvw (B D:Addr)(H:Hp)(v:V)(c:Crd):Prop:=Ex5 λa dx m t vs=>v = .ref a∧H a=some (.ins B dx (cfs c.name c.cost c.force m t))∧H m=some (.tup (c.marks.map V.str))∧H t=some (.tup vs)∧IsRules D H vs c.rules
theorem zvw.same {B D:Addr}{H H':Hp}(s:Same H H'){v:V}{c:Crd}(h:zvw B D H v c):zvw B D H' v c:=by
 obtain⟨a,dx,m,t,vs,e,h1,h2,h3,h4⟩:=h;exact⟨a,dx,m,t,vs,e,s _ _ h1,s _ _ h2,s _ _ h3,h4.same s⟩
def zgvb:Sp:=λvs H Q _=>∃ms:List Str,vs=[.str (zki ms)]∧Marks ms∧∀m H',Same H H'->H' m=some (.tup (ms.map V.str))->Q (.ref m) H'
def zoib (B:Addr):Sp:=λvs H Q _=>Ex7 λx dx m t (n:Str) (c f:Nat)=>vs=[.ref x,.str n,.int c,.int f,.ref m,.ref t]∧H x=some (.ins B dx [])∧Q .non (upd H x (.ins B dx (cfs n c f m t)))
def znib (B D:Addr):Sp:=λvs H Q _=>∃c:Crd,vs=[.str c.text]∧c.ok∧∀v H',Same H H'->zvw B D H' v c->Q v H'
theorem zatb (n:Str)(c f:V)(m t:Addr):putF "rules" (.ref t) (putF "marks" (.ref m) (putF "force" f (putF "cost" c (putF "name" (.str n) []))))=([("name",.str n),("cost",c),("force",f),("marks",.ref m),("rules",.ref t)]:List (Str×V)):=by
 repeat (first|rw[zdp]|rw[zfk (by decide +kernel)])
theorem zbeb {K:yca}{H:Hp}:∀xs:List Str,DVs K H (xs.map V.str) (xs.map .str)
 | []=>.nil
 | x::r=>.cons (.str x) (zbeb r)
theorem zohb:∀xs:List Str,ypg (xs.map .str) (xs.map .str)=true
 | []=>by simp[ypg]
 | x::r=>by simp[ypg,yrg,zohb r]
theorem zmwb (T:Tx K mg):FnOk P w K mg base CX0 2 T.zuc.f T.zuc.d zsi (zoib T.zbd):=by
 refine T.zuc.ok zer ?_;rintro f c A o s H vs Q E hr ⟨x,dx,m,t,n,c,f,rfl,hx,q⟩ X;refine⟨_,  (zba (zlm (pv 0) (pv 1) rfl)
  (zba (zlm (pv 0) (pv 2) rfl)
  (zba (zlm (pv 0) (pv 3) rfl)
  (zba (zlm (pv 0) (pv 4) rfl)
  (zea (zlm (pv 0) (pv 5) rfl)))))),?_⟩
 refine⟨_,rfl,_,rfl,x,_,dx,_,rfl,hx,T.znk,T.zik,(by show 0<1000;decide),?_⟩;refine⟨_,rfl,_,rfl,x,_,dx,_,rfl,zfa,T.znk,T.zjk,(by show 1<1000;decide),?_⟩;refine⟨_,rfl,_,rfl,x,_,dx,_,rfl,zfa,T.znk,T.zzg,(by show 2<1000;decide),?_⟩;refine⟨_,rfl,_,rfl,x,_,dx,_,rfl,zfa,T.znk,T.zcj,(by show 3<1000;decide),?_⟩;refine⟨_,rfl,_,rfl,x,_,dx,_,rfl,zfa,T.znk,T.zuf,(by show 4<1000;decide),?_⟩;show Q .non _
 rw[zdl,zdl,zdl,zdl,zatb];exact q
theorem zdy {n:Str}(h:zdd n):ypc (.str n)=true:=by
 rw[ypc];unfold PyData.strOk;rw[← Array.all_toList,yjf];intro c hc;have:=(h.2.2 c hc).2;simp;omega
theorem ziy:∀xs:List Str,(∀x∈xs,ypc (.str x)=true)->ykc (xs.map .str)=true
 | [],_=>by simp[ykc]
 | x::r,h=>by
  have h1:=h x yka;have h2:=ziy r λy hy=>h y (yma _ hy);rw[ybb,ykc,h1,h2];rfl
theorem zwy:∀xs:List Str,yyb (xs.map .str)=0
 | []=>by simp[yyb]
 | x::r=>by simp[yyb,ygd,zwy r]
theorem zeq {ms:List Str}(h:∀m∈ms,zdd m):yad (.list (ms.map .str))=true:=by
 unfold yad;rw[ypc,ziy ms (λx hx=>zdy (h x hx)),ygd,zwy];rfl
theorem zwx (T:Tx K mg):FnOk P w K mg base CX0 3 T.zwd.f T.zwd.d zul zgvb:=by
 refine T.zwd.ok zyn ?_;rintro f c A o s H vs Q E hr ⟨ms,rfl,hm,q⟩ X;refine⟨_,  (zba (zcc (zra zed (pv 0) zpa (zbb _))
   (zea (zoa (zgb zca)))
   zua)
  (zba (zla (i:=1) zyn.nd rfl (.inl rfl) (ztm yff ybj ycj zey (pv 0) (zaa zpa zca)))
  (zba (zcc (zus (zuq (zlb (zbz rfl) rfl T.zdib boot_all (zaa (zge (own:=["mark"]) (cap:=[]) rfl (zrb.chk rfl rfl) .nil (zgd (pv 1)) (λ_ _ _ _=>(zva (i:=0) (show ywb (["mark"]:List Str) by decide +kernel) rfl (.inl rfl))) (λ_ _ _ _=>zmh) (λ_ _ _ _=>by exact (zja (zyv T) hr rfl T.zxf.m T.zxf.F.kp (zddb T) .nil zwa (zaa (pv 0) zca)))) zca))))
   (zea zag)
   zua)
  (zba (zcc (zra (zpmb hr.units) (pv 1) (zlb (zql rfl) rfl T.zsg ylj (zaa (zlc (zyy rfl) rfl T.zmkb boot_set (zaa (pv 1) zca)) zca)) (zbb _))
   (zea zag)
   zua)
  (zea (zoa (zlc zpd rfl T.zgh yoi (zaa (pv 1) zca)))))))),?_⟩
 refine⟨_,rfl,rfl,_,rfl,?_⟩
 by_cases hne:ms=[]
 ·subst hne;exact iteT ⟨sz0,λa ha=>q a _ (zsa ha _) zfa⟩
 refine ite2 (λc=>?_) (λ_=>?_)
 ·exfalso;have c':=of_decide_eq_true c;injection c' with c'
  exact zbnb hm hne c'
 have ml:=zvj hm;have es:ycf (zki ms) "," = ms:=zseb hm hne;refine⟨_,rfl,rfl,_,_,rfl,rfl,(by decide +kernel),(yua (yuf ml.2 2) (by decide)),λl hl=>?_⟩;rw[es];have S1:=zsa hl (.lst (ms.map V.str));have e1:upd H l (.lst (ms.map V.str)) l=some (.lst (ms.map V.str)):=zfa;generalize upd H l (.lst (ms.map V.str))=H1 at *;refine⟨_,rfl,l,rfl,⟨_,SqL.of e1⟩,?_⟩;refine zyc (xs:=ms.map V.str) (λi ys H'=>Same H1 H'∧i≤ms.length∧ys=((ms.take i).map isName).map V.bl) (λi ys H' z=>SqL.of (z.1 _ _ e1)) ⟨Same.refl _,ygb _,rfl⟩ ?_ ?_ ?_
 ·rintro i ys H' ⟨_,_,rfl⟩;rw[yea,yea,yza];have:=hm.le;exact small (by omega)
 ·rintro i x ys H' hx ⟨S3,hi,rfl⟩;obtain⟨m,hmm,rfl⟩:∃m,ms[i]?=some m∧V.str m=x:=by
   rw[yya] at hx;cases z:ms[i]? with
   | none=>rw[z] at hx;cases hx
   | some m=>rw[z] at hx;cases hx;exact⟨m,rfl,rfl⟩
  have hmem:=yra hmm;refine⟨rfl,_,rfl,m,rfl,(yua (hm.ok m hmem).2.1 (by decide)),λH4 S4=>⟨S3.trans S4,?_,?_⟩⟩
  ·exact (yia.mp hmm).1
  ·rw[yva,hmm,ykb,ykb];rfl
 ·rintro ys H2 ⟨S2,_,rfl⟩ b hb;rw[yea,yen];have S3:=zsa hb (.lst ((ms.map isName).map V.bl));refine⟨b,_,rfl,SqL.of zfa,_,rfl,?_⟩;have al:(ms.map isName).all id=true:=by
   rw[yjf];intro x hx;obtain⟨m,hmm,rfl⟩:=yjb.mp hx;exact zct (hm.ok m hmm)
  rw[al];refine iteF ?_;have e3:=S3 _ _ (S2 _ _ e1);generalize upd H2 b (.lst ((ms.map isName).map V.bl))=H3 at *;have ml2:=hm.le;refine⟨_,rfl,_,rfl,l,ms,rfl,SqL.of e3,(by omega),λp hp=>?_⟩;have S4:∀o,Same H3 (upd H3 p o):=λo=>zsa hp o;refine⟨p,_,rfl,zfa,(by rw[zsr hm.nd];omega),λp2 ys hp2 py so=>?_⟩;have ey:=hm.same py so;subst ey;have S5:=zsa hp2 (.lst (ys.map V.str));refine⟨.list (ys.map .str),.list (ys.map .str),.lst (SqL.of (S5 _ _ (S4 _ _ _ e3))) (zbeb _),.lst (SqL.of zfa) (zbeb _),zeq hm.ok,zeq hm.ok,_,rfl,?_⟩;have ev:(!PyData.eqv (.list (ys.map .str)) (.list (ys.map .str)))=false:=by
   rw[yrg,zohb];rfl
  rw[ev];refine iteF ?_;refine⟨_,rfl,l,_,rfl,.inl ⟨SqL.of (S5 _ _ (S4 _ _ _ e3)),λt ht=>?_⟩⟩;exact q t _ (λc o e=>zsa ht _ _ _ (S5 _ _ (S4 _ _ _ (S3 _ _ (S2 _ _ (S1 _ _ e)))))) zfa
theorem zax {c:Crd}(h:c.ok):c.text.length≤2000:=by
 have a:=zmk SL (ywa " " c.head::c.rules.map zmd);have b:=Crd.zlhb h;have s:=zjv (l:=(c.rules.map zmd).map (·.length)) (k:=450) (λx hx=>by
  obtain⟨t,ht,rfl⟩:=yjb.mp hx;obtain⟨r,hr,rfl⟩:=yjb.mp ht;exact zfo (h.rules r hr))
 have e:SL.length=3:=rfl;have f:=h.few;rw[ybb,ywi,yfa,e] at a;rw[yea,yea] at s;rw[yea] at a;show (ywa SL (ywa " " c.head::c.rules.map zmd)).length≤2000
 have:c.rules.length*450≤3*450:=Nat.mul_le_mul_right _ f;omega
theorem zfbb (T:Tx K mg)(kb:K.In base):FnOk P w K mg base CX0 9 T.zaf.f T.zaf.d zfn (znib T.zbd T.zib):=by
 refine T.zaf.ok zee ?_;rintro f c A o s H vs Q E hr ⟨c,rfl,ok,q⟩ X;refine⟨_,  (zba (zcc (zus (zuq (zlb zxm rfl T.zpf yoo (zaa (pv 0) (zaa (zleb (v:=.ty "str") rfl T.zsz yds rfl) zca)))))
   (zea zag)
   zua)
  (zba (zla (i:=1) zee.nd rfl (.inl rfl) (ztm yff ybj ycj zey (pv 0) (zaa zpa zca)))
  (zba (zcc (zra zajb (zlb zmc rfl T.zzk yed (zaa (pv 1) zca)) (zia zsd zda (zre (v:=.int 3) rfl T.zjj ⟨_,rfl⟩)) (zbb _))
   (zea zag)
   zua)
  (zba (zla (i:=2) zee.nd rfl (.inl rfl) (zsx T.zfc.M (zihb T).up hr rfl T.zueb (zxk T) .nil zwa (zaa (zkb zli (pv 1) zda (λ_ _=>rfl)) zca)))
  (zba (zla (i:=3) zee.nd rfl (.inl rfl) (zzc (pv 2) T.zcb T.zob.M (ztd T).up hr (zme T) .nil zwa))
  (zba (zla (i:=4) zee.nd rfl (.inl rfl) (zzc (pv 2) T.zcb T.zxa.M (zyb T).up hr (zbc T) .nil zwa))
  (zba (zla (i:=5) zee.nd rfl (.inl rfl) (zzc (pv 2) T.zcb T.zxa.M (zyb T).up hr (zbc T) .nil zwa))
  (zba (zla (i:=6) zee.nd rfl (.inl rfl) (zja (zwx T).up hr rfl T.zwd.m T.zwd.F.kp (zcdb T) .nil zwa (zaa (zzc (pv 2) T.zcb T.zkc.M (zcg T).up hr (zdh T) .nil zwa) zca)))
  (zba (zkf (zzc (pv 2) T.zcb T.zpc.M (zkl T).up hr (znm T) .nil zwa))
  (zea (zoa (zsx T.zuc.M (zmwb T).up hr rfl T.zytb (zzt T) .nil zwa (zaa (pv 3) (zaa (pv 4) (zaa (pv 5) (zaa (pv 6) (zaa (zlc zpd rfl T.zgh yoi (zaa (zge (own:=["rule"]) (cap:=[]) rfl (zrb.chk rfl rfl) .nil (zgd (zfd zdeb (pv 1) (zoe zda) zpe)) (λ_ _ _ _=>(zva (i:=0) (show ywb (["rule"]:List Str) by decide +kernel) rfl (.inl rfl))) (λ_ _ _ _=>zmh) (λ_ _ _ _=>by exact (zja (zebb T kb) hr rfl T.zze.m T.zze.F.kp (zmfb T) .nil zwa (zaa (pv 0) zca)))) zca)) zca))))))))))))))))),?_⟩
 have tl:=zax ok;refine⟨_,rfl,_,_,.type "str",true,rfl,TyOf.str _,.inl ⟨"str",rfl,rfl⟩,true,rfl,?_⟩;refine iteF ?_;have es:ycf c.text " / " = ywa " " c.head::c.rules.map zmd:=Crd.split ok;refine⟨_,rfl,rfl,_,_,rfl,rfl,(by decide +kernel),(yua (yuf tl 2) (by decide)),λl hl=>?_⟩;rw[es];have S1:=zsa hl (.lst ((ywa " " c.head::c.rules.map zmd).map V.str));have e1:upd H l (.lst ((ywa " " c.head::c.rules.map zmd).map V.str)) l=some (.lst ((ywa " " c.head::c.rules.map zmd).map V.str)):=zfa;generalize upd H l (.lst ((ywa " " c.head::c.rules.map zmd).map V.str))=H1 at *;refine⟨_,rfl,l,_,rfl,.inl (SqL.of e1),_,_,rfl,rfl,_,_,rfl,rfl,_,rfl,?_⟩;refine ite2 (λz=>?_) (λ_=>?_)
 ·exfalso;have z':=of_decide_eq_true z;rw[yea,yfa,yea] at z';have:=ok.few;omega
 refine⟨_,rfl,l,_,_,_,rfl,rfl,SqL.of e1,zna (j:=0) rfl,?_⟩;intro x dx nx ndx nex;have hl2:=Crd.zlhb ok;refine⟨x,dx,_,rfl,zfa,(by omega),λH2 W2 B2=>⟨rfl,?_⟩⟩;rw[show ycf (ywa " " c.head) " " = c.head from Crd.ztjb ok] at W2;have S2:Same H1 H2:=λb o e=>B2 b o (zka e nx) (by rw[zta (zka e nx),zta (zka e ndx)];exact e);obtain⟨dx2,l2,at2,_⟩:=id W2;refine⟨_,rfl,x,dx2,_,rfl,at2,zdc _ _ (by decide +kernel) (by decide +kernel),x,c.head,0,c.name,rfl,W2,rfl,ok.name,λH3 W3 B3=>?_⟩;obtain⟨dx3,l3,at3,_⟩:=id W3;refine⟨_,rfl,x,dx3,_,rfl,at3,zdc _ _ (by decide +kernel) (by decide +kernel),x,c.head,1,c.cost,rfl,W3,rfl,ok.cost,λH4 W4 B4=>?_⟩;obtain⟨dx4,l4,at4,_⟩:=id W4;refine⟨_,rfl,x,dx4,_,rfl,at4,zdc _ _ (by decide +kernel) (by decide +kernel),x,c.head,2,c.force,rfl,W4,rfl,ok.force,λH5 W5 B5=>?_⟩;obtain⟨dx5,l5,at5,_⟩:=id W5;refine⟨_,rfl,x,dx5,_,rfl,at5,zdc _ _ (by decide +kernel) (by decide +kernel),x,c.head,3,zki c.marks,rfl,W5,rfl,λH6 W6 B6=>?_⟩;refine⟨c.marks,rfl,ok.marks,λm H7 S7 em=>?_⟩;have W7:=W6.at S7;obtain⟨dx7,l7,at7,_⟩:=id W7;refine⟨_,rfl,x,dx7,_,rfl,at7,zdc _ _ (by decide +kernel) (by decide +kernel),x,c.head,rfl,W7,?_⟩;have S37:Same H H7:=λb o e=>by
  have n:=zka (S1 _ _ e) nx;exact S7 _ _ (B6 _ _ n (B5 _ _ n (B4 _ _ n (B3 _ _ n (S2 _ _ (S1 _ _ e))))))
 have nlx:=zka e1 nx;have e7:H7 l=some (.lst ((ywa " " c.head::c.rules.map zmd).map V.str)):=S7 _ _ (B6 _ _ nlx (B5 _ _ nlx (B4 _ _ nlx (B3 _ _ nlx (S2 _ _ e1)))));clear W2 W3 W4 W5 W6 at2 at3 at4 at5;refine⟨_,rfl,_,rfl,_,rfl,_,rfl,_,rfl,_,rfl,l,_,rfl,SqL.of e7,λs1 hs1=>?_⟩;have ct:cutV ((ywa " " c.head::c.rules.map zmd).map V.str) (some (1:Int)) none=(c.rules.map zmd).map V.str:=by
  have:=zpt ((ywa " " c.head::c.rules.map zmd).map V.str) 1;exact this
 rw[ct];have S8:=zsa hs1 (.lst ((c.rules.map zmd).map V.str));have e8:upd H7 s1 (.lst ((c.rules.map zmd).map V.str)) s1=some (.lst ((c.rules.map zmd).map V.str)):=zfa;generalize upd H7 s1 (.lst ((c.rules.map zmd).map V.str))=H8 at *;refine⟨s1,rfl,⟨_,SqL.of e8⟩,?_⟩;refine zyc (xs:=(c.rules.map zmd).map V.str) (λi ys H'=>Same H8 H'∧i≤c.rules.length∧IsRules T.zib H' ys (c.rules.take i)) (λi ys H' z=>SqL.of (z.1 _ _ e8)) ⟨Same.refl _,ygb _,.nil⟩ ?_ ?_ ?_
 ·rintro i ys H' ⟨_,_,R⟩;rw[R.length,yza];have:=ok.few;exact small (by omega)
 ·rintro i v ys H' hx ⟨S3,hi,R⟩;obtain⟨r,hrr,rfl⟩:∃r,c.rules[i]?=some r∧V.str (zmd r)=v:=by
   rw[yya,yya] at hx;cases z:c.rules[i]? with
   | none=>rw[z] at hx;cases hx
   | some m=>rw[z] at hx;cases hx;exact⟨m,rfl,rfl⟩
  refine⟨rfl,_,rfl,r,rfl,ok.rules r (yra hrr),λu H9 S9 IR=>⟨S3.trans S9,?_,?_⟩⟩
  ·exact (yia.mp hrr).1
  ·rw[yva,hrr];exact IsRules.snoc IR (R.same S9)
 ·rintro ys H9 ⟨S9,_,R⟩ b hb;rw[yea,yea,yen] at R;refine⟨b,_,rfl,.inl ⟨SqL.of zfa,λt ht=>?_⟩⟩;have S10:=zsa hb (.lst ys);generalize upd H9 b (.lst ys)=H10 at *;have S11:=zsa ht (.tup ys);have e11:upd H10 t (.tup ys) t=some (.tup ys):=zfa;have Sall:Same H (upd H10 t (.tup ys)):=λb o e=>S11 _ _ (S10 _ _ (S9 _ _ (S8 _ _ (S37 _ _ e))));have em11:=S11 _ _ (S10 _ _ (S9 _ _ (S8 _ _ em)));have R11:=R.same (S10.trans S11);generalize upd H10 t (.tup ys)=H11 at *;intro y dy ny ndy ney;have S12:∀o,Same H11 (upd (upd (upd H11 dy (.own y)) y (.ins T.zbd dy [])) y o):=λo b u e=>by
   rw[zdl,zta (zka e ny),zta (zka e ndy)];exact e
  refine⟨y,dy,m,t,c.name,c.cost,c.force,rfl,zfa,rfl,?_⟩;exact q _ _ (Sall.trans (S12 _)) ⟨y,dy,m,t,ys,rfl,zfa,S12 _ _ _ em11,S12 _ _ _ e11,R11.same (S12 _)⟩
structure Row where
 num:Int
 keeper:Int
 marks:List Str
 force:Int
 mute:Bool
def zak (H:Hp)(v:V)(r:Row):Prop:=Ex2 λa m=>v = .ref a∧H a=some (.tup [.int r.num,.int r.keeper,.ref m,.int r.force,.bl r.mute])∧H m=some (.tup (r.marks.map V.str))
theorem zak.same {H H':Hp}{v:V}{r:Row}(h:zak H v r)(s:Same H H'):zak H' v r:=by
 obtain⟨a,m,e,h1,h2⟩:=h;exact⟨a,m,e,s _ _ h1,s _ _ h2⟩
inductive zic (H:Hp):List V->List Row->Prop where
 | nil:zic H [] []
 | cons {v:V} {r:Row} {vs:List V} {rs:List Row}:zak H v r->zic H vs rs->zic H (v::vs) (r::rs)
theorem zic.map {H H':Hp}(f:∀v r,zak H v r->zak H' v r){vs:List V}{rs:List Row}(z:zic H vs rs):zic H' vs rs:=by
 induction z with
 | nil=>exact .nil
 | cons h t ih=>exact .cons (f _ _ h) ih
theorem zic.length {H:Hp}{vs:List V}{rs:List Row}(z:zic H vs rs):vs.length=rs.length:=by
 induction z with
 | nil=>rfl
 | cons _ _ ih=>rw[yfa,yfa,ih]
theorem zic.get {H:Hp}:∀{vs:List V} {rs:List Row} {i:Nat} {v:V},zic H vs rs->vs[i]?=some v->∃r,rs[i]?=some r∧zak H v r
 | _,_,_,_,.nil,e=>by simp at e
 | _,_,0,_,.cons h t,e=>by
  rw[yic] at e;cases e;exact⟨_,rfl,h⟩
 | _,_,i+1,_,.cons h t,e=>by
  rw[ycb] at e;obtain⟨w,h1,h2⟩:=t.get e;exact⟨w,by rw[ycb];exact h1,h2⟩
theorem zic.snoc {H:Hp}{vs:List V}{rs:List Row}{v:V}{r:Row}(z:zic H vs rs)(h:zak H v r):zic H (vs++[v]) (rs++[r]):=by
 induction z with
 | nil=>exact .cons h .nil
 | cons g _ ih=>exact .cons g ih
def ztpb (H:Hp)(v:V):Option Row->Prop
 | none=>v = .non
 | some r=>zak H v r
def rowOf (rs:List Row)(thing:Int):Option Row:=rs.find? λr=>decide (r.num=thing)
theorem zrv {rs:List Row}{i:Nat}{t:Int}(h:∀j r,j<i->rs[j]?=some r->¬ r.num=t):(rs.take i).find? (λr=>decide (r.num=t))=none:=by
 rw[yyg];intro r hr;obtain⟨j,hj⟩:=ypd hr;rw[List.getElem?_take] at hj
 split at hj
 ·rename_i hlt
  simpa using h j r hlt hj
 ·cases hj
theorem ztlb {rs:List Row}{i:Nat}{t:Int}{r:Row}(h:∀j r,j<i->rs[j]?=some r->¬ r.num=t)(hr:rs[i]?=some r)(e:r.num=t):rowOf rs t=some r:=by
 have q:rs=rs.take i++rs.drop i:=(yjh i rs).symm;have d:rs.drop i=r::rs.drop (i+1):=by
  obtain⟨hi,hv⟩:=yia.mp hr;rw[List.drop_eq_getElem_cons hi,hv]
 unfold rowOf;rw[q,List.find?_append,zrv h,d,List.find?_cons_of_pos (by simpa using e)];rfl
theorem zvib {rs:List Row}{t:Int}(h:∀j r,j<rs.length->rs[j]?=some r->¬ r.num=t):rowOf rs t=none:=by
 have q:=zrv (i:=rs.length) h;rw[ypa (yha _)] at q;exact q
def znj (row:Option Row)(number keeper thing:Int):Wh->Bool
 | .all=>true
 | .self=>decide (thing=number)
 | .mine=>match row with
  | none=>decide (thing = -1-keeper)
  | some r=>decide (r.keeper=keeper)
 | .mark n=>match row with
  | none=>false
  | some r=>inV (.str n) (r.marks.map V.str)
 | .force i=>match row with
  | none=>false
  | some r=>decide ((i:Int)≤r.force)
 | .not a=>!znj row number keeper thing a
 | .both a b=>znj row number keeper thing a&&znj row number keeper thing b
 | .any a b=>znj row number keeper thing a||znj row number keeper thing b
theorem ziob (xs:List Str):(xs.map V.str).all zav=true:=by
 rw[yjf];intro v hv;obtain⟨x,_,rfl⟩:=yjb.mp hv;rfl
def zcvb (K:yca):Sp:=λvs H Q _=>Ex4 λsl us rs (t:Int)=>vs=[.ref sl,.int t]∧H sl=some (.lst us)∧zic H us rs∧∀v,ztpb H v (rowOf rs t)->Q v H
def zel (D:Addr)(n:Nat):Sp:=λvs H Q _=>Ex7 λv rv (row:Option Row) (number keeper thing:Int) (y:Wh)=>vs=[v,rv,.int number,.int keeper,.int thing]∧IsW D H v y∧ztpb H rv row∧y.depth≤n∧Q (.bl (znj row number keeper thing y)) H
def zas (D:Addr)(n:Nat):Sp:=λvs H Q _=>Ex7 λv rv (row:Option Row) (number keeper thing:Int) (y:Wh)=>vs=[v,rv,.int number,.int keeper,.int thing]∧IsW D H v y∧ztpb H rv row∧y.depth≤n∧y.parts≠[]∧Q (.bl (znj row number keeper thing y)) H
theorem zqmb (T:Tx K mg):FnOk P w K mg base CX0 2 T.zck.f T.zck.d zlz (zcvb K):=by
 refine T.zck.ok zjab ?_;rintro f c A o s H vs Q E hr ⟨sl,us,rs,t,rfl,hsl,R,q⟩ X;refine⟨_,  (zba (zaj ygc rfl (zgd (pv 0)) (zva (i:=2) zjab.nd rfl (.inl rfl))
   (zea (zcc (zra zed (zkb zxb (pv 2) zda (λ_ _=>rfl)) (pv 1) (zbb _))
    (zea (zoa (pv 2)))
    zua)))
  (zea (zoa zat))),?_⟩
 have rl:=R.length;refine⟨_,rfl,sl,rfl,⟨_,SqL.of hsl⟩,zqo (xs:=us) (λi σ H'=>H'=H∧(∃o,σ=[some (.ref sl),some (.int t),o])∧∀j r,j<i->rs[j]?=some r->¬ r.num=t) ⟨rfl,⟨_,rfl⟩,λj r h=>absurd h (Nat.not_lt_zero _)⟩ (λi σ H' _ z=>by rw[z.1];exact SqL.of hsl) ?_ ?_⟩
 ·rintro i x σ H' hx ⟨rfl,⟨o,rfl⟩,hm⟩;obtain⟨r,hr,⟨a,m,rfl,h1,h2⟩⟩:=R.get hx;refine⟨_,rfl,a,_,_,_,rfl,rfl,SqT.of h1,rfl,_,rfl,rfl,_,rfl,?_⟩;refine ite2 (λc=>?_) (λc=>?_)
  ·have c':=of_decide_eq_true c;injection c' with c'
   have e:=ztlb hm hr c';exact⟨_,rfl,q _ (by rw[e];exact⟨a,m,rfl,h1,h2⟩)⟩
  ·refine⟨rfl,⟨_,rfl⟩,λj r' hj hr'=>?_⟩
   rcases yof j i with z|z
   ·exact hm j r' z hr'
   ·have ej:j=i:=by omega
    subst ej;rw[hr] at hr';cases hr';intro z;exact c (decide_eq_true (by rw[z]))
 ·rintro σ H' ⟨rfl,⟨o,rfl⟩,hm⟩;rw[rl] at hm;exact q .non (by rw[zvib hm];rfl)
theorem zqy (T:Tx K mg){n k:Nat}(zti:FnOk P w K mg base CX0 k T.zza.f T.zza.d zid (zel T.zib n)):FnOk P w K mg base CX0 (k+1) T.zwb.f T.zwb.d zne (zas T.zib (n+1)):=by
 refine T.zwb.ok zzi ?_;rintro f c A o s H vs Q E hr ⟨v,rv,row,number,keeper,thing,y,rfl,W,R,hd,hne,q⟩ X;refine⟨_,  (zba (zla (i:=5) zzi.nd rfl (.inl rfl) (zqe (zkb zxb (zte (pv 0) rfl) zda (λ_ _=>rfl)) T.zmb T.zza.M zti hr (zfg T) .nil zwa (zaa (pv 1) (zaa (pv 2) (zaa (pv 3) (zaa (pv 4) zca))))))
  (zba (zcc (zra zed (zte (pv 0) rfl) zpa (zbb _))
   (zea (zoa (zizb (pv 5))))
   zua)
  (zba (zcc (zra zed (zte (pv 0) rfl) zpa (zbb _))
   (zea (zoa (zlmb (pv 5) (zwab (zqe (zkb zxb (zte (pv 0) rfl) zda (λ_ _=>rfl)) T.zmb T.zza.M zti hr (zfg T) .nil zwa (zaa (pv 1) (zaa (pv 2) (zaa (pv 3) (zaa (pv 4) zca)))))))))
   zua)
  (zea (zoa (zgzb (pv 5) (zwab (zqe (zkb zxb (zte (pv 0) rfl) zda (λ_ _=>rfl)) T.zmb T.zza.M zti hr (zfg T) .nil zwa (zaa (pv 1) (zaa (pv 2) (zaa (pv 3) (zaa (pv 4) zca)))))))))))),?_⟩
 cases W with
 | @mk a dx t ps _ h1 h2 h3 =>
 have dp:=y.zffb;have rd:∀{x:V},IsW T.zib H x y->True:=λ_=>trivial;have part:∀(i:Nat) (p:Wh),y.parts[i]?=some p->Ex3 λai dxi fsi=>ps[i]?=some (.ref ai)∧H ai=some (.ins T.zib dxi fsi)∧fsi.lookup ("fits_row":Str)=none∧IsW T.zib H (.ref ai) p∧p.depth≤n:=by
  intro i p hp;have hi:i<ps.length:=by rw[h3.length];exact (yia.mp hp).1
  obtain⟨p',hp',hw⟩:=h3.get (yoa hi);rw[hp] at hp';cases hp';have hm:p∈y.parts:=yra hp;have:=dp p hm;have hw':=hw
  revert hw'
  cases hq:ps[i] with
  | ref ai =>
   intro hw';have hw2:=hw';cases hw2 with
   | @mk a' dx' t' ps' _ k1 k2 k3=>exact⟨ai,dx',_,by rw[yoa hi,hq],k1,zznb _ _ _ (by decide +kernel) (by decide +kernel) (by decide +kernel),hw',by omega⟩
  | _=>intro hw';cases hw'
 have go:∀(i:Nat) (p:Wh),y.parts[i]?=some p->atI ps (i:Int)=some (ps.getD i .non):=λi p hp=>by
  obtain⟨ai,_,_,e,_⟩:=part i p hp;rw[zna e,yhb,e];rfl
 cases y with
 | not p =>
  obtain⟨a0,d0,f0,e0,g0,l0,w0,dd0⟩:=part 0 p rfl;refine⟨_,rfl,a,_,dx,_,_,rfl,h1,T.zmb,T.zqc,zwj _ _ _,t,_,_,_,rfl,rfl,SqT.of h2,zna e0,a0,d0,_,rfl,g0,l0,_,rfl,_,rfl,_,rfl,_,rfl,_,rv,row,number,keeper,thing,p,rfl,w0,R,dd0,?_⟩;refine⟨_,rfl,a,_,dx,_,_,rfl,h1,T.zmb,T.zya,zgc _ _ _,rfl,_,rfl,iteT ?_⟩;exact⟨_,rfl,_,rfl,q⟩
 | both p p' =>
  obtain⟨a0,d0,f0,e0,g0,l0,w0,dd0⟩:=part 0 p rfl;obtain⟨a1,d1,f1,e1,g1,l1,w1,dd1⟩:=part 1 p' rfl;refine⟨_,rfl,a,_,dx,_,_,rfl,h1,T.zmb,T.zqc,zwj _ _ _,t,_,_,_,rfl,rfl,SqT.of h2,zna e0,a0,d0,_,rfl,g0,l0,_,rfl,_,rfl,_,rfl,_,rfl,_,rv,row,number,keeper,thing,p,rfl,w0,R,dd0,?_⟩;refine⟨_,rfl,a,_,dx,_,_,rfl,h1,T.zmb,T.zya,zgc _ _ _,rfl,_,rfl,iteF ?_⟩;refine⟨_,rfl,a,_,dx,_,_,rfl,h1,T.zmb,T.zya,zgc _ _ _,rfl,_,rfl,iteT ?_⟩;refine⟨_,rfl,_,rfl,?_⟩;have q':Q (.bl (znj row number keeper thing p&&znj row number keeper thing p')) H:=q;cases e:znj row number keeper thing p with
  | true =>
   rw[e,yog] at q';refine iteT ?_;exact⟨_,rfl,a,_,dx,_,_,rfl,h1,T.zmb,T.zqc,zwj _ _ _,t,_,_,_,rfl,rfl,SqT.of h2,zna e1,a1,d1,_,rfl,g1,l1,_,rfl,_,rfl,_,rfl,_,rfl,_,rv,row,number,keeper,thing,p',rfl,w1,R,dd1,q'⟩
  | false =>
   rw[e,yse] at q';exact iteF q'
 | any p p' =>
  obtain⟨a0,d0,f0,e0,g0,l0,w0,dd0⟩:=part 0 p rfl;obtain⟨a1,d1,f1,e1,g1,l1,w1,dd1⟩:=part 1 p' rfl;refine⟨_,rfl,a,_,dx,_,_,rfl,h1,T.zmb,T.zqc,zwj _ _ _,t,_,_,_,rfl,rfl,SqT.of h2,zna e0,a0,d0,_,rfl,g0,l0,_,rfl,_,rfl,_,rfl,_,rfl,_,rv,row,number,keeper,thing,p,rfl,w0,R,dd0,?_⟩;refine⟨_,rfl,a,_,dx,_,_,rfl,h1,T.zmb,T.zya,zgc _ _ _,rfl,_,rfl,iteF ?_⟩;refine⟨_,rfl,a,_,dx,_,_,rfl,h1,T.zmb,T.zya,zgc _ _ _,rfl,_,rfl,iteF ?_⟩;refine⟨_,rfl,_,rfl,?_⟩;have q':Q (.bl (znj row number keeper thing p||znj row number keeper thing p')) H:=q;cases e:znj row number keeper thing p with
  | true =>
   rw[e,ysr] at q';exact iteT q'
  | false =>
   rw[e,ynq] at q';refine iteF ?_;exact⟨_,rfl,a,_,dx,_,_,rfl,h1,T.zmb,T.zqc,zwj _ _ _,t,_,_,_,rfl,rfl,SqT.of h2,zna e1,a1,d1,_,rfl,g1,l1,_,rfl,_,rfl,_,rfl,_,rfl,_,rv,row,number,keeper,thing,p',rfl,w1,R,dd1,q'⟩
 | _=>exact absurd rfl hne
theorem zdfb (T:Tx K mg){n k:Nat}(zbq:FnOk P w K mg base CX0 k T.zwb.f T.zwb.d zne (zas T.zib n)):FnOk P w K mg base CX0 (k+1) T.zza.f T.zza.d zid (zel T.zib n):=by
 refine T.zza.ok zcr ?_;rintro f c A o s H vs Q E hr ⟨v,rv,row,number,keeper,thing,y,rfl,W,R,hd,q⟩ X;refine⟨_,  (zba (zcc (zgo (zte (pv 0) rfl) (λ_=>rfl))
   (zea (zoa (zqe (pv 0) T.zmb T.zwb.M zbq hr (zup T) .nil zwa (zaa (pv 1) (zaa (pv 2) (zaa (pv 3) (zaa (pv 4) zca)))))))
   zua)
  (zba (zcc (zra zed (zte (pv 0) rfl) zpa (zbb _))
   (zea (zoa zyib))
   zua)
  (zba (zcc (zra zed (zte (pv 0) rfl) zpa (zbb _))
   (zea (zoa (znh zed (pv 4) (pv 2) (zbb _))))
   zua)
  (zba (zcc (zra zutb (pv 1) zat (zbb _))
   (zea (zoa (zlmb (znh zed (zte (pv 0) rfl) zpa (zbb _)) (zwab (znh zed (pv 4) (zia ztj (ziwb ztkb zda) (pv 3)) (zbb _))))))
   zua)
  (zba (zcc (zra zed (zte (pv 0) rfl) zpa (zbb _))
   (zea (zoa (znh zed (zkb zxb (pv 1) zda (λ_ _=>rfl)) (pv 3) (zbb _))))
   zua)
  (zba (zcc (zra zed (zte (pv 0) rfl) zpa (zbb _))
   (zea (zoa (znh zjl (zte (pv 0) rfl) (zkb zxb (pv 1) zda (λ_ _=>rfl)) rfl)))
   zua)
  (zea (zoa (znh zrbc (zkb zxb (pv 1) zda (λ_ _=>rfl)) (zte (pv 0) rfl) (zbb _)))))))))),?_⟩
 have W0:=W;cases W with
 | @mk a dx t ps _ h1 h2 h3 =>
 have pe:(!ps.isEmpty) = !y.parts.isEmpty:=by
  have z:=h3.length;cases ps with
  | nil=>cases hp:y.parts with
   | nil=>rfl
   | cons p r=>rw[hp] at z;cases z
  | cons v r=>cases hp:y.parts with
   | nil=>rw[hp] at z;cases z
   | cons p r=>rfl
 refine⟨_,rfl,a,_,dx,_,_,rfl,h1,T.zmb,T.zqc,zwj _ _ _,_,.inr (.inl ⟨_,SqT.of h2,rfl⟩),?_⟩;rw[pe];have fld:hfs y.word (valV y.val) t=hfs y.word (valV y.val) t:=rfl;have no:(hfs y.word (valV y.val) t).lookup ("fits_parts":Str)=none:=zznb _ _ _ (by decide +kernel) (by decide +kernel) (by decide +kernel);have word:∀(A:Prop),A->True:=λ_ _=>trivial;cases y with
 | not p=>exact iteT ⟨_,rfl,a,dx,_,rfl,h1,no,_,rfl,_,rfl,_,rfl,_,rfl,_,rv,row,number,keeper,thing,.not p,rfl,W0,R,hd,by simp[Wh.parts],q⟩
 | both p p'=>exact iteT ⟨_,rfl,a,dx,_,rfl,h1,no,_,rfl,_,rfl,_,rfl,_,rfl,_,rv,row,number,keeper,thing,.both p p',rfl,W0,R,hd,by simp[Wh.parts],q⟩
 | any p p'=>exact iteT ⟨_,rfl,a,dx,_,rfl,h1,no,_,rfl,_,rfl,_,rfl,_,rfl,_,rv,row,number,keeper,thing,.any p p',rfl,W0,R,hd,by simp[Wh.parts],q⟩
 | all =>
  refine iteF ⟨_,rfl,a,_,dx,_,_,rfl,h1,T.zmb,T.zya,zgc _ _ _,rfl,_,rfl,iteT ?_⟩;exact q
 | self =>
  refine iteF ⟨_,rfl,a,_,dx,_,_,rfl,h1,T.zmb,T.zya,zgc _ _ _,rfl,_,rfl,iteF ?_⟩;refine⟨_,rfl,a,_,dx,_,_,rfl,h1,T.zmb,T.zya,zgc _ _ _,rfl,_,rfl,iteT ?_⟩;refine⟨_,rfl,_,rfl,rfl,?_⟩;have e:decide (V.int thing=V.int number)=decide (thing=number):=by simp
  show Q (.bl (decide (V.int thing=V.int number))) H
  rw[e];exact q
 | mine =>
  refine iteF ⟨_,rfl,a,_,dx,_,_,rfl,h1,T.zmb,T.zya,zgc _ _ _,rfl,_,rfl,iteF ?_⟩;refine⟨_,rfl,a,_,dx,_,_,rfl,h1,T.zmb,T.zya,zgc _ _ _,rfl,_,rfl,iteF ?_⟩;refine⟨_,rfl,rfl,_,rfl,?_⟩;cases row with
  | none =>
   cases (show rv = .non from R);refine iteT ?_;refine⟨_,rfl,a,_,dx,_,_,rfl,h1,T.zmb,T.zya,zgc _ _ _,rfl,_,rfl,iteT ?_⟩;refine⟨_,rfl,_,rfl,_,rfl,_,_,rfl,rfl,rfl,?_⟩;have e:decide (V.int thing=V.int (-1-keeper))=decide (thing = -1-keeper):=(by simp);show Q (.bl (decide (V.int thing=V.int (-1-keeper)))) H
   rw[e];exact q
  | some r =>
   obtain⟨b,m,rfl,r1,r2⟩:=(show zak H rv r from R);refine iteF ?_;refine⟨_,rfl,a,_,dx,_,_,rfl,h1,T.zmb,T.zya,zgc _ _ _,rfl,_,rfl,iteT ?_⟩;refine⟨_,rfl,b,_,_,_,rfl,rfl,SqT.of r1,rfl,_,rfl,rfl,?_⟩;have e:decide (V.int r.keeper=V.int keeper)=decide (r.keeper=keeper):=(by simp);show Q (.bl (decide (V.int r.keeper=V.int keeper))) H
   rw[e];exact q
 | mark n =>
  refine iteF ⟨_,rfl,a,_,dx,_,_,rfl,h1,T.zmb,T.zya,zgc _ _ _,rfl,_,rfl,iteF ?_⟩;refine⟨_,rfl,a,_,dx,_,_,rfl,h1,T.zmb,T.zya,zgc _ _ _,rfl,_,rfl,iteF ?_⟩;refine⟨_,rfl,rfl,_,rfl,?_⟩;cases row with
  | none =>
   cases (show rv = .non from R);refine iteT ?_;exact⟨_,rfl,a,_,dx,_,_,rfl,h1,T.zmb,T.zya,zgc _ _ _,rfl,_,rfl,iteF q⟩
  | some r =>
   obtain⟨b,m,rfl,r1,r2⟩:=(show zak H rv r from R);refine iteF ?_;refine⟨_,rfl,a,_,dx,_,_,rfl,h1,T.zmb,T.zya,zgc _ _ _,rfl,_,rfl,iteF ?_⟩;refine⟨_,rfl,a,_,dx,_,_,rfl,h1,T.zmb,T.zya,zgc _ _ _,rfl,_,rfl,iteT ?_⟩;exact⟨_,rfl,a,_,dx,_,_,rfl,h1,T.zmb,T.ztf,zfcb _ _ _,_,rfl,b,_,_,_,rfl,rfl,SqT.of r1,rfl,m,_,rfl,.inr (SqT.of r2),rfl,ziob _,q⟩
 | force i =>
  refine iteF ⟨_,rfl,a,_,dx,_,_,rfl,h1,T.zmb,T.zya,zgc _ _ _,rfl,_,rfl,iteF ?_⟩;refine⟨_,rfl,a,_,dx,_,_,rfl,h1,T.zmb,T.zya,zgc _ _ _,rfl,_,rfl,iteF ?_⟩;refine⟨_,rfl,rfl,_,rfl,?_⟩;cases row with
  | none =>
   cases (show rv = .non from R);refine iteT ?_;exact⟨_,rfl,a,_,dx,_,_,rfl,h1,T.zmb,T.zya,zgc _ _ _,rfl,_,rfl,iteF q⟩
  | some r =>
   obtain⟨b,m,rfl,r1,r2⟩:=(show zak H rv r from R);refine iteF ?_;refine⟨_,rfl,a,_,dx,_,_,rfl,h1,T.zmb,T.zya,zgc _ _ _,rfl,_,rfl,iteF ?_⟩;refine⟨_,rfl,a,_,dx,_,_,rfl,h1,T.zmb,T.zya,zgc _ _ _,rfl,_,rfl,iteF ?_⟩;exact⟨_,rfl,b,_,_,_,rfl,rfl,SqT.of r1,rfl,_,rfl,a,_,dx,_,_,rfl,h1,T.zmb,T.ztf,zfcb _ _ _,_,_,rfl,rfl,q⟩
theorem zpy (T:Tx K mg):FnOk P w K mg base CX0 2 T.zza.f T.zza.d zid (zel T.zib 0):=by
 have no:∀vs H Q E,¬ zel T.zib 0 vs H Q E:=λvs H Q E h=>by
  obtain⟨v,rv,row,number,keeper,thing,y,_,_,_,hd,_⟩:=h;have:1≤y.depth:=by cases y<;>simp[Wh.depth]
  omega
 exact⟨λvs H Q E h=>absurd h (no vs H Q E),λA outer s H args us vs Q E _ _ _ _ h=>absurd h (no vs H Q E)⟩
theorem zyq (T:Tx K mg):∀n:Nat,FnOk P w K mg base CX0 (2*n+2) T.zza.f T.zza.d zid (zel T.zib n)
 | 0=>zpy T
 | n+1=>zdfb T (zqy T (zyq T n))
theorem zke {H H':Hp}{p:Addr}(S:Same H H')(h:H p=none)(o:HO):Same H (upd H' p o):=λb u q=>by rw[zta (zka q h)];exact S b u q
theorem none_of {H H':Hp}{p:Addr}(S:Same H H')(h:H' p=none):H p=none:=by
 cases e:H p with
 | none=>rfl
 | some o =>
  have z:=S _ _ e;rw[z] at h;cases h
@[elab_as_elim] theorem laid {H:Hp} {l:Addr} {o:HO} {motive:Hp->Prop} (hl:H l=none) (h:∀H1,Same H H1->H1 l=some o->motive H1):motive (upd H l o):=h _ (zsa hl o) zfa
theorem SqF.same {K:yca}{H H':Hp}{a:Addr}{xs:List V}(h:SqF K H a xs)(k:Same H H'):SqF K H' a xs:=h.keep λ_ _ z=>k _ _ z
theorem zmub {ns:List Int}{i:Int}(h0:0≤i)(h:i<(ns.length:Int)):∃z,atI (ns.map V.int) i=some (.int z)∧z∈ns:=by
 obtain⟨v,hv,hm⟩:=zar (xs:=ns.map V.int) h0 (by rw[yea];exact h);obtain⟨z,hz,rfl⟩:=yjb.mp hm;exact⟨z,hv,hz⟩
theorem zqpb {ss:List Str}{r:Int}(h0:0≤r)(h1:r<(ss.length:Int)):∃u,atI (ss.map V.str) r=some (.str u)∧u∈ss:=by
 obtain⟨v,hv,hm⟩:=zar (xs:=ss.map V.str) h0 (by rw[yea];exact h1);obtain⟨u,hu,rfl⟩:=yjb.mp hm;exact⟨u,hv,hu⟩
theorem zvc (x:Int){m:Int}(h:0<m):0≤x % m∧x % m<m:=⟨Int.emod_nonneg x (by omega),Int.emod_lt_of_pos x h⟩
theorem zcfb (x:Int):0≤x % 9 / 8∧x % 9 / 8<2:=by
 have:=zvc x (m:=9) (by decide);omega
theorem zemb {x y r:Int}(h0:0≤r)(h1:r<2)(hx:0≤x∧x<1000)(hy:0≤y∧y<1000):∃i:Nat,atI [V.int x,V.int y] r=some (.int (i:Int))∧i<1000:=by
 obtain⟨v,hv,hm⟩:=zar (xs:=[V.int x,V.int y]) h0 h1;simp only[yla,ydc,or_false] at hm
 rcases hm with e|e<;>subst e
 ·exact⟨x.toNat,by rw[show ((x.toNat:Nat):Int)=x by omega];exact hv,by omega⟩
 ·exact⟨y.toNat,by rw[show ((y.toNat:Nat):Int)=y by omega];exact hv,by omega⟩
structure N3 (H:Hp)(nl:Addr)(ns:List Str):Prop where
 at_:H nl=some (.lst (ns.map V.str))
 len:ns.length=3
 ok:∀n∈ns,zdd n
 nd:ns.Nodup
theorem N3.same {H H':Hp}{nl:Addr}{ns:List Str}(h:N3 H nl ns)(b:Same H H'):N3 H' nl ns:=⟨b _ _ h.at_,h.len,h.ok,h.nd⟩
def spAt (K:yca):Sp:=λvs H Q _=>Ex3 λa (ns:List Int) (k:Nat)=>vs=[.ref a,.int (k:Int)]∧SqF K H a (ns.map V.int)∧ns.length≤63∧k≤1000∧∀z:Int,Q (.int z) H
def zqqb (K:yca):Sp:=λvs H Q _=>Ex2 λa (ns:List Int)=>vs=[.ref a]∧SqF K H a (ns.map V.int)∧ns.length≤63∧∀nl (ms:List Str) H',Same H H'->N3 H' nl ms->Q (.ref nl) H'
def ltr (r:Int):Nat:=(LL.cps.toList[r.toNat]?).getD 0
theorem zveb:∀n:Nat,n<26->LL.cps.toList[n]?=some (97+n):=by decide +kernel
theorem zcnb {r:Int}(h0:0≤r)(h1:r<26):(ltr r:Int)=97+r:=by
 unfold ltr;rw[zveb r.toNat (by omega)];show ((97+r.toNat:Nat):Int)=97+r
 omega
theorem zaub {r:Int}(h0:0≤r)(h1:r<26):atI LL.cps.toList r=some (ltr r):=by
 have q:=zna (zveb r.toNat (by omega));rw[show ((r.toNat:Nat):Int)=r by omega] at q;rw[q];unfold ltr;rw[zveb r.toNat (by omega)];rfl
theorem zztb (x:Int):97≤ltr (x % 26)∧ltr (x % 26)≤122:=by
 have m:=zvc x (m:=26) (by decide);have:=zcnb m.1 m.2;omega
def sgn (c:Nat):Str:=⟨#[c]⟩
theorem znp:∀cs:List Nat,(ywa "" (cs.map sgn)).cps.toList=cs
 | []=>rfl
 | [c]=>rfl
 | c::d::r=>by
  have ih:=znp (d::r);have e:ywa "" ((c::d::r).map sgn)=sgn c ++ "" ++ ywa "" ((d::r).map sgn):=rfl;rw[e];show ((#[c]++("":Str).cps)++(ywa "" ((d::r).map sgn)).cps).toList=_
  rw[ydf,ih];rfl
def sgs (cell:Int)(m:Nat):List Nat:=(ywe m).map λj:Nat=>ltr ((cell / (0+(j:Int)+1)+5*(0+(j:Int))) % 26)
theorem zyqb (cell:Int)(m:Nat):sgs cell (m+1)=sgs cell m++[ltr ((cell / (0+(m:Int)+1)+5*(0+(m:Int))) % 26)]:=by
 unfold sgs;rw[ypo,ykb];rfl
theorem zyo (cell:Int)(m:Nat):(sgs cell m).length=m:=by
 unfold sgs;rw[yea,yze]
theorem zryb (cell:Int)(m:Nat):∀c∈sgs cell m,97≤c∧c≤122:=by
 intro c hc;obtain⟨j,_,rfl⟩:=yjb.mp hc;exact zztb _
def nmAt (cs:List Nat)(a c:Nat):Str:=ywa "" ((cs.set a c).map sgn)
theorem zqwb {cs:List Nat}{a c:Nat}(h1:1≤cs.length)(h8:cs.length≤8)(hc:97≤c∧c≤122)(hs:∀x∈cs,97≤x∧x≤122):zdd (nmAt cs a c):=by
 have e:(nmAt cs a c).cps.toList=cs.set a c:=znp _;have el:(nmAt cs a c).length=cs.length:=by
  have q:=congrArg ylg e;rw[yib,yvn] at q;exact q
 refine⟨by omega,by omega,?_⟩;rw[e];intro x hx
 rcases List.mem_or_eq_of_mem_set hx with z|z
 ·exact hs x z
 ·rw[z];exact hc
theorem zvrb {cs:List Nat}{a c d:Nat}(ha:a<cs.length)(h:nmAt cs a c=nmAt cs a d):c=d:=by
 have e:=congrArg (λz:Str=>z.cps.toList) h;unfold nmAt at e;simp only[znp] at e;have f:=congrArg (λz:List Nat=>z[a]?) e;simp only[yyi ha] at f;exact yec f
theorem zcab:∀cs:List Nat,((cs.map sgn).map (·.length)).sum=cs.length
 | []=>rfl
 | c::r=>by
  rw[ybb,ybb,ywi,zcab r,yfa];show 1+r.length=r.length+1
  omega
theorem zle (T:Tx K mg):FnOk P w K mg base CX0 2 T.zsb.f T.zsb.d znu (spAt K):=by
 refine T.zsb.ok zzo ?_;rintro f c A o s H vs Q E hr ⟨a,ns,k,rfl,hS,h63,hk,q⟩ X;have hl:(ns.map V.int).length=ns.length:=yea _;refine⟨_,  (zba (zcc (zra zabb (pv 1) (zlb zmc rfl T.zzk yed (zaa (pv 0) zca)) (zbb _))
   (zea (zoa (zkb zli (pv 0) (pv 1) (λ_ _=>rfl))))
   zua)
  (zba (zla (i:=2) zzo.nd rfl (.inl rfl) (zia zsd zda (zia zuh (zia zuh zda (pv 1)) (pv 1))))
  (zba (zcc (zra zajb (zlb zmc rfl T.zzk yed (zaa (pv 0) zca)) zda (zbb _))
   (zea (zla (i:=2) zzo.nd rfl (.inl rfl) (zia zsd (pv 2) (zia zuh (zia zub (zkb zli (pv 0) (zia zub (pv 1) (zlb zmc rfl T.zzk yed (zaa (pv 0) zca))) (λ_ _=>rfl)) zda) (zia zsd (zia zec (pv 1) (zlb zmc rfl T.zzk yed (zaa (pv 0) zca))) zda)))))
   zua)
  (zea (zoa (zia zub (zia zuh (pv 2) zda) zda)))))),?_⟩
 refine⟨_,rfl,_,rfl,a,_,rfl,.inl hS.sq,_,_,rfl,rfl,_,rfl,ite2 (λc=>?_) (λc=>?_)⟩
 ·have c':(k:Int)<(((ns.map V.int).length:Nat):Int):=of_decide_eq_true c;obtain⟨z,hz,_⟩:=zmub (ns:=ns) (i:=(k:Int)) (by omega) (by omega);exact⟨_,rfl,_,rfl,a,_,_,_,rfl,rfl,hS.sq,hz,q z⟩
 ·refine⟨_,rfl,_,_,rfl,rfl,.inl ⟨by decide,by decide⟩,_,rfl,_,_,rfl,rfl,.inr ⟨by omega,by omega⟩,_,_,rfl,rfl,?_⟩;refine⟨_,rfl,a,_,rfl,.inl hS.sq,_,_,rfl,rfl,_,rfl,ite2 (λc=>?_) (λc=>?_)⟩
  ·have c':(0:Int)<(((ns.map V.int).length:Nat):Int):=of_decide_eq_true c;have m:=zvc (k:Int) c';obtain⟨z,hz,_⟩:=zmub (ns:=ns) m.1 (by omega);have mz:=zvc z (m:=1000081) (by decide);refine⟨_,rfl,_,rfl,_,rfl,_,rfl,a,_,rfl,.inl hS.sq,_,_,rfl,rfl,c',a,_,_,_,rfl,rfl,hS.sq,hz,_,_,rfl,rfl,(by show (0:Int)<1000081;decide),?_⟩;refine⟨_,rfl,_,rfl,a,_,rfl,.inl hS.sq,_,_,rfl,rfl,⟨c',by omega⟩,_,_,rfl,rfl,_,_,rfl,rfl,.inl ⟨by omega,by omega⟩,_,_,rfl,rfl,?_⟩;exact⟨_,rfl,_,_,rfl,rfl,.inr ⟨by decide,by decide⟩,_,_,rfl,rfl,(by show (0:Int)<2147483647;decide),q _⟩
  ·exact⟨_,rfl,_,_,rfl,rfl,.inr ⟨by decide,by decide⟩,_,_,rfl,rfl,(by show (0:Int)<2147483647;decide),q _⟩
theorem zyx (T:Tx K mg):FnOk P w K mg base CX0 3 T.zzd.f T.zzd.d zwl (zqqb K):=by
 refine T.zzd.ok zoc ?_;rintro f c A o s H vs Q E hr ⟨sa,ss,rfl,hS,h63,q⟩ X;refine⟨_,  (zba (zla (i:=1) zoc.nd rfl (.inr rfl) zpa)
  (zba (zla (i:=2) zoc.nd rfl (.inr rfl) (zia zub (zja (zle T) hr rfl T.zsb.m T.zsb.F.kp (zeg T) .nil zwa (zaa (pv 0) (zaa zda zca))) zda))
  (zba (zla (i:=3) zoc.nd rfl (.inl rfl) (zia zsd zda (zia zub (zia zec (pv 2) zda) zda)))
  (zba (zla (i:=4) zoc.nd rfl (.inl rfl) (zia zub (zia zec (pv 2) zda) (pv 3)))
  (zba (zla (i:=5) zoc.nd rfl (.inl rfl) (zsj zca))
  (zba (zaj ygc rfl (zbg rfl T.zih (zaa zda zca)) (zva (i:=6) zoc.nd rfl (.inl rfl))
   (zba (zvs (i:=7) zoc.nd rfl (.inl rfl) (own:=["_law_j"]) (cap:=["_law_letters","_law_cell"]) rfl (zrb.chk rfl rfl) (.cons (j:=1) rfl (.inl rfl) (.inl rfl) (.cons (j:=2) rfl (.inl rfl) (.inl rfl) .nil)) (zbg rfl T.zih (zaa (pv 3) zca)) (λ_ _ _ _=>(zva (i:=0) (show ywb (["_law_j","_law_letters","_law_cell"]:List Str) by decide +kernel) rfl (.inl rfl))) (λ_ _ _ _=>zmh) (λ_ _ _ _=>by exact (zkb ztnb (pv 1) (zia zub (zia zsd (zia zec (pv 2) (zia zsd (pv 0) zda)) (zia zuh zda (pv 0))) zda) (λ_ _=>rfl))))
   (zba (zbmb (zkb ztnb (pv 1) (zia zub (zia zsd (zia zec (pv 2) zda) (zia zuh zda (pv 6))) zda) (λ_ _=>rfl)) (zdzb (pv 7) (pv 4) set_list))
   (zea (zkf (ztm yac yyd yzd zuj (pv 5) (zaa (ztm yff yqo yro zzmb zpa (zaa (pv 7) zca)) zca)))))))
  (zba (zcc (zra zed (zia zub (pv 2) zda) zda (zbb _))
   (zea (zla (i:=5) zoc.nd rfl (.inl rfl) (zsj (zaa zpa (zaa zpa (zaa zpa zca))))))
   zua)
  (zea (zoa (pv 5)))))))))),?_⟩
 refine⟨_,rfl,sa,ss,1,rfl,hS,h63,by decide,λz=>⟨_,_,rfl,rfl,(by show (0:Int)<2147483629;decide),?_⟩⟩;have c0:=zvc z (m:=2147483629) (by decide);dsimp only;generalize z % 2147483629=cell at c0 ⊢;refine⟨_,rfl,_,_,rfl,rfl,⟨by decide,by decide⟩,_,_,rfl,rfl,(by show (0:Int)<8;decide),_,_,rfl,rfl,?_⟩;have s8:=zvc (cell / 3) (m:=8) (by decide);obtain⟨m,hm⟩:∃m:Nat,1+cell / 3 % 8=(m:Int):=⟨(1+cell / 3 % 8).toNat,by omega⟩;dsimp only;rw[hm];refine⟨_,rfl,_,_,rfl,rfl,⟨by decide,by decide⟩,_,rfl,_,_,rfl,rfl,(by show (0:Int)<(m:Int);omega),?_⟩;have a8:=zvc (cell / 24) (m:=(m:Int)) (by omega);obtain⟨a,ha⟩:∃a:Nat,cell / 24 % (m:Int)=(a:Int):=⟨(cell / 24 % (m:Int)).toNat,by omega⟩;dsimp only;rw[ha];refine⟨sz0,λnl hnl=>?_⟩;refine laid hnl λH1 S1 e1=>?_;refine⟨3,rfl,by decide,by decide,?_⟩;refine zyj (lo:=0) (n:=(3:Int).toNat) (λi σ H'=>Ex3 λ(ns:List Str) o6 o7=>σ=[some (.ref sa),some (.str LL),some (.int cell),some (.int (m:Int)),some (.int (a:Int)),some (.ref nl),o6,o7]∧H' nl=some (.lst (ns.map V.str))∧ns.length=i∧(∀n∈ns,zdd n)∧ns.Nodup∧(∀n∈ns,∃j:Nat,j<i∧n=nmAt (sgs cell m) a (ltr ((cell / 192+7*(0+(j:Int))) % 26)))∧Same H H') ⟨[],_,_,rfl,e1,rfl,by simp,.nil,by simp,S1⟩ ?_ ?_
 ·rintro i σ H' hi ⟨ns,o6,o7,rfl,f',hl,hok,hnd,hwh,S'⟩;have hi':i<3:=hi;refine⟨_,rfl,_,rfl,by omega,by omega,?_⟩;rw[yjc];refine zlw (λj ys Hx=>Hx=H'∧j≤m∧ys=((sgs cell j).map sgn).map V.str) ⟨rfl,ygb _,rfl⟩ ?_ ?_ ?_
  ·rintro j ys Hx ⟨_,hj,rfl⟩;rw[yea,yea,zyo];exact small (by omega)
  ·rintro j ys Hx hj ⟨rfl,_,rfl⟩;have r26:=zvc (cell / (0+(j:Int)+1)+5*(0+(j:Int))) (m:=26) (by decide);refine⟨rfl,_,rfl,_,rfl,_,rfl,_,_,rfl,rfl,_,_,rfl,rfl,⟨by omega,by omega⟩,_,rfl,_,_,rfl,rfl,.inl ⟨by decide,by decide⟩,_,_,rfl,rfl,_,_,rfl,rfl,(by show (0:Int)<26;decide),LL,_,_,rfl,rfl,(by decide +kernel),zaub r26.1 r26.2,rfl,hj,?_⟩;rw[zyqb,ykb,ykb];rfl
  ·rintro ys Hx ⟨rfl,_,rfl⟩ sl hsl;refine laid hsl λH2 S2 e2=>?_;have r26:=zvc (cell / 192+7*(0+(i:Int))) (m:=26) (by decide);refine⟨_,rfl,_,rfl,_,_,rfl,rfl,⟨by decide,by decide⟩,_,rfl,_,_,rfl,rfl,.inl ⟨by decide,by decide⟩,_,_,rfl,rfl,_,_,rfl,rfl,(by show (0:Int)<26;decide),LL,_,_,rfl,rfl,(by decide +kernel),zaub r26.1 r26.2,?_⟩;have al:a<(((sgs cell m).map sgn).map V.str).length:=by
    rw[yea,yea,zyo];omega
   have ej:ixN (((sgs cell m).map sgn).map V.str).length (a:Int)=some a:=by
    unfold ixN;rw[if_pos (by omega),if_pos (by omega),yjc]
   refine⟨_,rfl,_,rfl,sl,_,_,a,rfl,rfl,e2,ej,?_⟩;have e3:upd H2 sl (.lst ((((sgs cell m).map sgn).map V.str).set a (.str ⟨#[ltr ((cell / 192+7*(0+(i:Int))) % 26)]⟩))) sl=some (.lst ((((sgs cell m).set a (ltr ((cell / 192+7*(0+(i:Int))) % 26))).map sgn).map V.str)):=by
    rw[zfa,List.map_set,List.map_set];rfl
   have hsl0:=none_of S' hsl;have nn:nl≠sl:=zka f' hsl;have f3:upd H2 sl (.lst ((((sgs cell m).map sgn).map V.str).set a (.str ⟨#[ltr ((cell / 192+7*(0+(i:Int))) % 26)]⟩))) nl=some (.lst (ns.map V.str)):=by
    rw[zta nn];exact S2 _ _ f'
   have S3:Same H (upd H2 sl (.lst ((((sgs cell m).map sgn).map V.str).set a (.str ⟨#[ltr ((cell / 192+7*(0+(i:Int))) % 26)]⟩)))):=zke (S'.trans S2) hsl0 _;generalize upd H2 sl (.lst ((((sgs cell m).map sgn).map V.str).set a (.str ⟨#[ltr ((cell / 192+7*(0+(i:Int))) % 26)]⟩)))=H3 at *;refine⟨_,rfl,.inl ⟨rfl,_,SqL.of f3⟩,rfl,_,rfl,"",sl,((sgs cell m).set a (ltr ((cell / 192+7*(0+(i:Int))) % 26))).map sgn,rfl,rfl,SqL.of e3,?_,nl,_,_,rfl,rfl,f3,?_,?_⟩
   ·rw[zcab,yvn,zyo];have z0:("":Str).length=0:=rfl;rw[z0];omega
   ·rw[yea];exact zei (by omega)
   have nm:=zqwb (cs:=sgs cell m) (a:=a) (by rw[zyo];omega) (by rw[zyo];omega) (zztb (cell / 192+7*(0+(i:Int)))) (zryb cell m);refine⟨ns++[nmAt (sgs cell m) a (ltr ((cell / 192+7*(0+(i:Int))) % 26))],_,_,rfl,?_,?_,?_,?_,?_,zke S3 hnl _⟩
   ·rw[ykb];exact zfa
   ·rw[yja,hl];rfl
   ·intro x hx
    rcases yeb.mp hx with hx|hx
    ·exact hok x hx
    ·rw[yga.mp hx];exact nm
   ·rw[ymj];refine⟨hnd,yre _ _,λx hx y hy z=>?_⟩;rw[yga.mp hy] at z;obtain⟨j,hj,rfl⟩:=hwh x hx;have ed:=zvrb (by rw[zyo];omega) z;have k26:=zvc (cell / 192+7*(0+(j:Int))) (m:=26) (by decide);have u1:=zcnb r26.1 r26.2;have u2:=zcnb k26.1 k26.2;omega
   ·intro x hx
    rcases yeb.mp hx with hx|hx
    ·obtain⟨j,hj,e⟩:=hwh x hx;exact⟨j,by omega,e⟩
    ·exact⟨i,by omega,yga.mp hx⟩
 ·rintro σ H' ⟨ns,o6,o7,rfl,f',hl,hok,hnd,_,S'⟩;refine⟨_,rfl,_,_,rfl,rfl,(by show (0:Int)<3;decide),rfl,_,rfl,ite2 (λ_=>?_) (λ_=>?_)⟩
  ·refine⟨sz3,λl3 hl3=>?_⟩;refine laid hl3 λH3 S3 e3=>?_;refine⟨_,rfl,q l3 ["a","ab","b"] H3 (S'.trans S3) ⟨e3,rfl,?_,by decide +kernel⟩⟩;have z:∀u∈(["a","ab","b"]:List Str),1≤u.length∧u.length≤8∧∀c∈u.cps.toList,97≤c∧c≤122:=by decide +kernel
   exact z
  ·exact⟨_,rfl,q nl ns H' S' ⟨f',hl,hok,hnd⟩⟩
def whT (y:Wh):Str:=ywa " " y.words
inductive WT (H:Hp):V->Wh->Prop where
 | all {a:Addr}:H a=some (.tup [.str "all"])->WT H (.ref a) .all
 | self {a:Addr}:H a=some (.tup [.str "self"])->WT H (.ref a) .self
 | mine {a:Addr}:H a=some (.tup [.str "mine"])->WT H (.ref a) .mine
 | mark {a:Addr} {n:Str}:H a=some (.tup [.str "mark",.str n])->WT H (.ref a) (.mark n)
 | force {a:Addr} {i:Nat}:H a=some (.tup [.str "force",.int (i:Int)])->WT H (.ref a) (.force i)
 | not {a:Addr} {x:V} {y:Wh}:H a=some (.tup [.str "not",x])->WT H x y->WT H (.ref a) (.not y)
 | both {a:Addr} {x x':V} {y y':Wh}:H a=some (.tup [.str "both",x,x'])->WT H x y->WT H x' y'->WT H (.ref a) (.both y y')
 | any {a:Addr} {x x':V} {y y':Wh}:H a=some (.tup [.str "any",x,x'])->WT H x y->WT H x' y'->WT H (.ref a) (.any y y')
theorem WT.same {H H':Hp}(s:Same H H'):∀{v:V} {y:Wh},WT H v y->WT H' v y
 | _,_,.all h=>.all (s _ _ h)
 | _,_,.self h=>.self (s _ _ h)
 | _,_,.mine h=>.mine (s _ _ h)
 | _,_,.mark h=>.mark (s _ _ h)
 | _,_,.force h=>.force (s _ _ h)
 | _,_,.not h t=>.not (s _ _ h) (t.same s)
 | _,_,.both h t u=>.both (s _ _ h) (t.same s) (u.same s)
 | _,_,.any h t u=>.any (s _ _ h) (t.same s) (u.same s)
theorem WT.tup {H:Hp}{v:V}{y:Wh}(h:WT H v y):Ex2 λa xs=>v = .ref a∧H a=some (.tup xs):=by
 cases h<;>exact⟨_,_,rfl,by assumption⟩
def dep:Wh->Nat
 | .not a=>dep a+1
 | .both a b=>max (dep a) (dep b)+1
 | .any a b=>max (dep a) (dep b)+1
 | _=>0
theorem zcm:∀y:Wh,y.size<2 ^ (dep y+1)
 | .all=>by decide
 | .self=>by decide
 | .mine=>by decide
 | .mark _=>by show 1<2 ^ 1;decide
 | .force _=>by show 1<2 ^ 1;decide
 | .not a=>by
  have:=zcm a;show a.size+1<2 ^ (dep a+1+1)
  rw[yur];have:0<2 ^ (dep a+1):=Nat.two_pow_pos _;omega
 | .both a b=>by
  have h1:=zcm a;have h2:=zcm b;have k1:2 ^ (dep a+1)≤2 ^ (max (dep a) (dep b)+1):=yvf (by decide) (by omega);have k2:2 ^ (dep b+1)≤2 ^ (max (dep a) (dep b)+1):=yvf (by decide) (by omega);show a.size+b.size+1<2 ^ (max (dep a) (dep b)+1+1)
  rw[yur];omega
 | .any a b=>by
  have h1:=zcm a;have h2:=zcm b;have k1:2 ^ (dep a+1)≤2 ^ (max (dep a) (dep b)+1):=yvf (by decide) (by omega);have k2:2 ^ (dep b+1)≤2 ^ (max (dep a) (dep b)+1):=yvf (by decide) (by omega);show a.size+b.size+1<2 ^ (max (dep a) (dep b)+1+1)
  rw[yur];omega
theorem zws {y:Wh}(h:y.ok)(d:dep y≤2):plain y:=by
 refine⟨h,?_⟩;have:=zcm y;have k:2 ^ (dep y+1)≤2 ^ 3:=yvf (by decide) (by omega);have e:(2:Nat) ^ 3=8:=by decide
 omega
def zzr (n:Nat):Sp:=λvs H Q _=>Ex4 λnl (ns:List Str) (c:Int) (d:Nat)=>vs=[.int c,.ref nl,.int (d:Int)]∧d<n∧d≤2∧N3 H nl ns∧∀v (y:Wh) H',Same H H'->WT H' v y->y.ok->dep y≤d->Q v H'
theorem zehb {r:Int}{x y:Str}(h0:0≤r)(h1:r<2):∃u:Str,atI [V.str x,V.str y] r=some (.str u)∧(u=x∨u=y):=by
 obtain⟨v,hv,hm⟩:=zar (xs:=[V.str x,V.str y]) h0 h1;simp only[yla,ydc,or_false] at hm
 rcases hm with e|e<;>subst e
 ·exact⟨_,hv,.inl rfl⟩
 ·exact⟨_,hv,.inr rfl⟩
theorem zqkb (T:Tx K mg){n:Nat}(zqn:FnOk P w K mg base CX0 (n+2) T.zjb.f T.zjb.d zqg (zzr n)):FnOk P w K mg base CX0 (n+3) T.zjb.f T.zjb.d zqg (zzr (n+1)):=by
 refine T.zjb.ok zwi ?_;rintro f c A o s H vs Q E hr ⟨nl,ns,c,d,rfl,hdn,hd2,N0,q⟩ X;refine⟨_,  (zba (zla (i:=3) zwi.nd rfl (.inl rfl) (zia zub (pv 0) zda))
  (zba (zla (i:=4) zwi.nd rfl (.inl rfl) (zia zec (pv 0) zda))
  (zba (zcc (PW.pt (zwlb (zra zajb (pv 2) zda (zbb _)) (zgeb (zra zed (pv 3) zda (zbb _)))))
   (zea (zoa (zgb (zaa zpa (zaa (zja zqn hr rfl T.zjb.m T.zjb.F.kp (zpi T) .nil zwa (zaa (pv 4) (zaa (pv 1) (zaa (zia ztj (pv 2) zda) zca)))) zca)))))
   zua)
  (zba (zcc (PW.pt (zwlb (zra zajb (pv 2) zda (zbb _)) (zgeb (zra zabb (pv 3) zda (zbb _)))))
   (zba (zla (i:=5) zwi.nd rfl (.inl rfl) (zja zqn hr rfl T.zjb.m T.zjb.F.kp (zpi T) .nil zwa (zaa (zia zub (zia zuh (pv 4) zda) zda) (zaa (pv 1) (zaa (zia ztj (pv 2) zda) zca)))))
   (zea (zoa (zgb (zaa (zkb zxb (zgb (zaa zpa (zaa zpa zca))) (zia ztj (pv 3) zda) (λ_ _=>rfl)) (zaa (zja zqn hr rfl T.zjb.m T.zjb.F.kp (zpi T) .nil zwa (zaa (pv 4) (zaa (pv 1) (zaa (zia ztj (pv 2) zda) zca)))) (zaa (pv 5) zca)))))))
   zua)
  (zba (zcc (zra zabb (pv 3) zda (zbb _))
   (zea (zoa (zgb (zaa zpa (zaa (zkb zli (pv 1) (zia zub (pv 4) zda) (λ_ _=>rfl)) zca)))))
   zua)
  (zba (zcc (zra zabb (pv 3) zda (zbb _))
   (zea (zoa (zgb (zaa zpa (zaa (zkb zxb (zgb (zaa (zia zub (pv 4) zda) (zaa (zia zub (pv 4) zda) zca))) (zia zec (zia zub (zia zec (pv 4) zda) zda) zda) (λ_ _=>rfl)) zca)))))
   zua)
  (zea (zoa (zkb zxb (zgb (zaa (zgb (zaa zpa zca)) (zaa (zgb (zaa zpa zca)) (zaa (zgb (zaa zpa zca)) zca)))) (zia ztj (pv 3) zda) (λ_ _=>rfl)))))))))),?_⟩
 refine⟨_,rfl,_,_,rfl,rfl,(by show (0:Int)<11;decide),?_⟩;have w0:=zvc c (m:=11) (by decide);dsimp only;generalize c % 11=way at w0 ⊢;refine⟨_,rfl,_,_,rfl,rfl,⟨by decide,by decide⟩,?_⟩;dsimp only;generalize c / 11=rest;refine⟨_,rfl,_,_,rfl,rfl,_,rfl,ite2 (λc1=>⟨_,rfl,rfl,_,rfl,ite2 (λc2=>?A) (λc2=>?S1)⟩) (λc1=>iteF ?S2)⟩
 case' S1=>refine⟨_,rfl,_,_,rfl,rfl,_,rfl,ite2 (λc3=>⟨_,rfl,_,_,rfl,rfl,_,rfl,ite2 (λc4=>?B1) (λc4=>?L1)⟩) (λc3=>iteF ?L2)⟩
 case' S2=>refine⟨_,rfl,_,_,rfl,rfl,_,rfl,ite2 (λc3=>absurd c3 c1) (λc3=>iteF ?L3)⟩
 case A =>
  have d0:(0:Int)<(d:Int):=of_decide_eq_true c1;obtain⟨e,rfl⟩:∃e,d=e+1:=⟨d-1,by omega⟩;refine⟨_,rfl,_,rfl,_,rfl,_,_,rfl,rfl,nl,ns,rest,e,?_,by omega,by omega,N0,λv y H1 S1 w1 o1 d1=>?_⟩
  ·show [V.int rest,V.ref nl,V.int (((e+1:Nat):Int)-1)]=_;rw[show (((e+1:Nat):Int)-1)=(e:Int) by omega]
  ·refine⟨sz2,λt ht=>?_⟩;have S2:=zsa ht (.tup [.str "not",v]);exact q _ (.not y) _ (S1.trans S2) (.not zfa (w1.same S2)) o1 (by show dep y+1≤e+1;omega)
 case B1 =>
  have d0:(0:Int)<(d:Int):=of_decide_eq_true c1;have w3:way<3:=of_decide_eq_true c4;have w1:way≠0:=λz=>c2 (by rw[z];rfl);obtain⟨e,rfl⟩:∃e,d=e+1:=⟨d-1,by omega⟩;have ed:(((e+1:Nat):Int)-1)=(e:Int):=by omega
  refine⟨_,rfl,_,_,rfl,rfl,.inr ⟨by decide,by decide⟩,_,_,rfl,rfl,(by show (0:Int)<2147483587;decide),_,rfl,_,rfl,_,_,rfl,rfl,nl,ns,rest*16807 % 2147483587,e,?_,by omega,by omega,N0,λv y H1 S1 w1 o1 d1=>?_⟩
  ·show [V.int (rest*16807 % 2147483587),V.ref nl,V.int (((e+1:Nat):Int)-1)]=_;rw[ed]
  refine⟨sz2,λt2 ht2=>?_⟩;refine laid ht2 λH2 S2 e2=>?_;obtain⟨u,hu,hu2⟩:=zehb (r:=way-1) (x:="both") (y:="any") (by omega) (by omega);refine⟨_,rfl,_,_,rfl,rfl,t2,_,_,_,rfl,rfl,SqT.of e2,hu,?_⟩;refine⟨_,rfl,_,rfl,_,rfl,_,_,rfl,rfl,nl,ns,rest,e,?_,by omega,by omega,N0.same (S1.trans S2),λv' y' H3 S3 w3 o3 d3=>?_⟩
  ·show [V.int rest,V.ref nl,V.int (((e+1:Nat):Int)-1)]=_;rw[ed]
  refine⟨_,rfl,sz3,λt ht=>?_⟩;have S4:=zsa ht (.tup [.str u,v',v]);have Sa:=S1.trans (S2.trans (S3.trans S4));have wa:=w1.same (S2.trans (S3.trans S4));have wb:=w3.same S4
  rcases hu2 with rfl|rfl
  ·exact q _ (.both y' y) _ Sa (.both zfa wb wa) ⟨o3,o1⟩ (by show max (dep y') (dep y)+1≤e+1;omega)
  ·exact q _ (.any y' y) _ Sa (.any zfa wb wa) ⟨o3,o1⟩ (by show max (dep y') (dep y)+1≤e+1;omega)
 all_goals
  refine⟨_,rfl,_,_,rfl,rfl,_,rfl,ite2 (λc6=>?_) (λc6=>?_)⟩
  ·have r3:=zvc rest (m:=3) (by decide);obtain⟨u,hu,hm⟩:=zqpb (ss:=ns) r3.1 (by rw[N0.len];exact r3.2);refine⟨_,rfl,_,rfl,_,_,rfl,rfl,(by show (0:Int)<3;decide),nl,_,_,_,rfl,rfl,SqL.of N0.at_,hu,sz2,λt ht=>?_⟩;exact q _ (.mark u) _ (zsa ht _) (.mark zfa) (N0.ok u hm) (ygb _)
  have w6:¬ way<6:=λz=>c6 (decide_eq_true z);refine⟨_,rfl,_,_,rfl,rfl,_,rfl,ite2 (λc8=>?_) (λc8=>?_)⟩
  ·refine⟨_,rfl,_,_,rfl,rfl,(by show (0:Int)<5;decide),_,rfl,_,_,rfl,rfl,(by show (0:Int)<1000;decide),sz2,λt1 ht1=>?_⟩;refine laid ht1 λH1 S1 e1=>?_;have h9:=zcfb (rest / 5);have r5:=zvc rest (m:=5) (by decide);obtain⟨i,hi,hi2⟩:=zemb h9.1 h9.2 (x:=rest % 5) (y:=rest % 1000) ⟨r5.1,by omega⟩ (zvc rest (by decide));refine⟨_,rfl,_,_,rfl,rfl,⟨by decide,by decide⟩,_,_,rfl,rfl,(by show (0:Int)<9;decide),_,_,rfl,rfl,⟨by decide,by decide⟩,t1,_,_,_,rfl,rfl,SqT.of e1,hi,sz2,λt ht=>?_⟩;exact q _ (.force i) _ (S1.trans (zsa ht _)) (.force zfa) hi2 (ygb _)
  have w8:¬ way<8:=λz=>c8 (decide_eq_true z);refine⟨sz1,λt1 ht1=>?_⟩;refine laid ht1 λH1 S1 e1=>?_;refine⟨sz1,λt2 ht2=>?_⟩;refine laid ht2 λH2 S2 e2=>?_;refine⟨sz1,λt3 ht3=>?_⟩;refine laid ht3 λH3 S3 e3=>?_;refine⟨sz3,λt4 ht4=>?_⟩;refine laid ht4 λH4 S4 e4=>?_;have Sa:=S1.trans (S2.trans (S3.trans S4));obtain⟨v,hv,hm⟩:=zar (xs:=[V.ref t1,V.ref t2,V.ref t3]) (i:=way-8) (by omega) (by show way-8<3;omega);refine⟨_,rfl,_,_,rfl,rfl,t4,_,_,_,rfl,rfl,SqT.of e4,hv,?_⟩;simp only[yla,ydc,or_false] at hm
  rcases hm with rfl|rfl|rfl
  ·exact q _ .mine H4 Sa (.mine ((S2.trans (S3.trans S4)) _ _ e1)) trivial (ygb _)
  ·exact q _ .self H4 Sa (.self ((S3.trans S4) _ _ e2)) trivial (ygb _)
  ·exact q _ .all H4 Sa (.all (S4 _ _ e3)) trivial (ygb _)
theorem zrkb (T:Tx K mg):FnOk P w K mg base CX0 2 T.zjb.f T.zjb.d zqg (zzr 0):=by
 have no:∀vs H Q E,¬ zzr 0 vs H Q E:=λvs H Q E h=>by
  obtain⟨nl,ns,c,d,_,hd,_⟩:=h;omega
 exact⟨λvs H Q E h=>absurd h (no vs H Q E),λA outer s H args us vs Q E _ _ _ _ h=>absurd h (no vs H Q E)⟩
theorem zww (T:Tx K mg):∀n:Nat,FnOk P w K mg base CX0 (n+2) T.zjb.f T.zjb.d zqg (zzr n)
 | 0=>zrkb T
 | n+1=>zqkb T (zww T n)
theorem zbub (K:yca):yoc K (.type "str") (.type "tuple")=some false:=by kernel_rfl
theorem zcub (K:yca):yoc K (.type "int") (.type "tuple")=some false:=by kernel_rfl
theorem zfz {x:V}{u:Str}(hv:(x = .str u)∨∃i:Nat,i<1000∧x = .int i∧u=(toString (i:Int):Str))(H0:Hp)(Q':VK)(z:Q' (.str u) H0):rStrAny [x] H0 Q':=by
 unfold rStrAny
 rcases hv with e|⟨i,hi,e,rfl⟩
 ·exact .inl ⟨u,by rw[e],z⟩
 ·exact .inr ⟨i,by rw[e],(by rw[yfl];exact zgt i hi),z⟩
theorem zydb {y:Wh}(h:y.ok)(d:dep y≤2):(whT y).length≤200:=zpub h (zws h d).2
inductive PT (n:Nat)(H:Hp):V->Str->Prop where
 | w {x:V} {y:Wh}:WT H x y->y.ok->dep y<n->dep y≤2->PT n H x (whT y)
 | s {u:Str}:zdd u->PT n H (.str u) u
 | i {i:Nat}:i<1000->PT n H (.int (i:Int)) (toString (i:Int):Str)
theorem PT.len {n:Nat}{H:Hp}{x:V}{u:Str}(h:PT n H x u):u.length≤200:=by
 cases h with
 | w _ o _ d=>exact zydb o d
 | s o=>exact yua o.2.1 (by decide)
 | i hi=>exact yua (zem hi).2.2 (by decide)
inductive PTs (n:Nat)(H:Hp):List V->List Str->Prop where
 | nil:PTs n H [] []
 | cons {x:V} {u:Str} {xs:List V} {us:List Str}:PT n H x u->PTs n H xs us->PTs n H (x::xs) (u::us)
theorem PTs.get {n:Nat}{H:Hp}:∀{xs:List V} {us:List Str} {i:Nat} {x:V},PTs n H xs us->xs[i]?=some x->∃u,us[i]?=some u∧PT n H x u
 | _,_,_,_,.nil,e=>by simp at e
 | _,_,0,_,.cons h t,e=>by
  rw[yic] at e;cases e;exact⟨_,rfl,h⟩
 | _,_,i+1,_,.cons h t,e=>by
  rw[ycb] at e;obtain⟨u,h1,h2⟩:=t.get e;exact⟨u,by rw[ycb];exact h1,h2⟩
theorem PTs.len {n:Nat}{H:Hp}{xs:List V}{us:List Str}(z:PTs n H xs us):xs.length=us.length:=by
 induction z with
 | nil=>rfl
 | cons _ _ ih=>rw[yfa,yfa,ih]
def glue (w:Str)(us:List Str):Str:=us.foldl (λa u=>a ++ " " ++ u) w
theorem zicb (w:Str)(us:List Str)(u:Str):glue w (us++[u])=glue w us ++ " " ++ u:=by
 unfold glue;rw[yfr];rfl
theorem PT.same {n:Nat}{H H':Hp}(s:Same H H'){x:V}{u:Str}(h:PT n H x u):PT n H' x u:=by
 cases h with
 | w a b c d=>exact .w (a.same s) b c d
 | s a=>exact .s a
 | i a=>exact .i a
theorem zrd (y:Wh):y.words≠[]:=y.zrd
theorem WT.open {n:Nat}{H:Hp}{v:V}{y:Wh}(h:WT H v y)(ok:y.ok)(hn:dep y<n+1)(h2:dep y≤2):Ex3 λa xs us=>v = .ref a∧H a=some (.tup (.str y.word::xs))∧xs.length≤2∧PTs n H xs us∧glue y.word us=whT y:=by
 cases h with
 | all h=>exact⟨_,[],[],rfl,h,by simp,.nil,rfl⟩
 | self h=>exact⟨_,[],[],rfl,h,by simp,.nil,rfl⟩
 | mine h=>exact⟨_,[],[],rfl,h,by simp,.nil,rfl⟩
 | mark h=>exact⟨_,_,_,rfl,h,by simp,.cons (.s ok) .nil,rfl⟩
 | force h=>exact⟨_,_,_,rfl,h,by simp,.cons (.i ok) .nil,rfl⟩
 | @not a x y h t =>
  have m1:dep y+1<n+1:=hn;have m2:dep y+1≤2:=h2;refine⟨_,_,_,rfl,h,by simp,.cons (.w t ok (by omega) (by omega)) .nil,?_⟩;show ("not":Str) ++ " " ++ ywa " " y.words=ywa " " ("not" :: y.words)
  rw[join_cons " " "not" (zrd y)]
 | @both a x x' y y' h t t' =>
  have m1:max (dep y) (dep y')+1<n+1:=hn;have m2:max (dep y) (dep y')+1≤2:=h2;refine⟨_,_,_,rfl,h,by simp,.cons (.w t ok.1 (by omega) (by omega)) (.cons (.w t' ok.2 (by omega) (by omega)) .nil),?_⟩;show ("both":Str) ++ " " ++ ywa " " y.words ++ " " ++ ywa " " y'.words=ywa " " ("both" :: (y.words++y'.words))
  rw[← join_cons " " "both" (zrd y),← zgm " " (ytc _ _) (zrd y')];rfl
 | @any a x x' y y' h t t' =>
  have m1:max (dep y) (dep y')+1<n+1:=hn;have m2:max (dep y) (dep y')+1≤2:=h2;refine⟨_,_,_,rfl,h,by simp,.cons (.w t ok.1 (by omega) (by omega)) (.cons (.w t' ok.2 (by omega) (by omega)) .nil),?_⟩;show ("any":Str) ++ " " ++ ywa " " y.words ++ " " ++ ywa " " y'.words=ywa " " ("any" :: (y.words++y'.words))
  rw[← join_cons " " "any" (zrd y),← zgm " " (ytc _ _) (zrd y')];rfl
def zvn (n:Nat):Sp:=λvs H Q _=>Ex2 λv (y:Wh)=>vs=[v]∧WT H v y∧y.ok∧dep y<n∧dep y≤2∧∀H',Same H H'->Q (.str (whT y)) H'
theorem zqsb {n:Nat}{H:Hp}{w:Str}:∀{xs:List V} {us:List Str} (i:Nat),PTs n H xs us->w.length≤8->(glue w (us.take i)).length≤8+201*i:=by
 intro xs us i h hw
 induction i with
 | zero=>exact hw
 | succ i ih =>
  rw[yva];cases e:us[i]? with
  | none=>rw[yfq,ylb];omega
  | some u =>
   rw[ypb,zicb,len_app,len_app];obtain⟨x,ex⟩:∃x,xs[i]?=some x:=by
    have hl:i<us.length:=(yia.mp e).1;exact⟨xs[i]'(by rw[h.len];exact hl),yoa _⟩
   obtain⟨u',e',p⟩:=h.get ex;rw[e] at e';cases e';have:=p.len;have e1:(" ":Str).length=1:=rfl;omega
theorem zeib (T:Tx K mg){n:Nat}(zwdb:FnOk P w K mg base CX0 (n+2) T.zdb.f T.zdb.d zvf (zvn n)):FnOk P w K mg base CX0 (n+3) T.zdb.f T.zdb.d zvf (zvn (n+1)):=by
 refine T.zdb.ok zzf ?_;rintro f c A o s H vs Q E hr ⟨v,y,rfl,wt,ok,hn,h2,q⟩ X;obtain⟨a,xs,us,rfl,ea,hl,ps,eg⟩:=wt.open (n:=n) ok hn h2;refine⟨_,  (zba (zla (i:=1) zzf.nd rfl (.inl rfl) (zkb zxb (pv 0) zda (λ_ _=>rfl)))
  (zba (zaj ygc rfl (zstb (zfd ztk (pv 0) (zoe zda) zpe)) (zva (i:=2) zzf.nd rfl (.inl rfl))
   (zea (zcc (zuq (zlb zxm rfl T.zpf yoo (zaa (pv 2) (zaa (zleb (v:=.ty "tuple") rfl T.zgh yoi rfl) zca))))
    (zea (zla (i:=1) zzf.nd rfl (.inl rfl) (zia zeb (zia zeb (pv 1) zpa) (zja zwdb hr rfl T.zdb.m T.zdb.F.kp (zch T) .nil zwa (zaa (pv 2) zca)))))
    (zea (zla (i:=1) zzf.nd rfl (.inl rfl) (zia zeb (zia zeb (pv 1) zpa) (zlc zzq rfl T.zsz yds (zaa (pv 2) zca))))))))
  (zea (zoa (pv 1))))),?_⟩
 refine⟨_,rfl,a,_,_,_,rfl,rfl,SqT.of ea,zna (j:=0) rfl,?_⟩;refine⟨_,rfl,_,rfl,a,_,rfl,SqT.of ea,?_,λb hb=>?_⟩
 ·rintro⟨z,_⟩;rw[show (1:Int)=((1:Nat):Int) from rfl,HT.zfeb,yfa] at z;omega
 have ec:cutV (V.str y.word::xs) (some 1) none=xs:=by
  rw[show (1:Int)=((1:Nat):Int) from rfl,zpt];rfl
 rw[ec];refine laid hb λH1 S1 eb=>?_;refine⟨b,rfl,⟨_,SqT.of eb⟩,?_⟩;have wl:y.word.length≤8:=(y.zek).2.2;refine zbxb (xs:=xs) (λi σ H'=>∃o,σ=[some (.ref a),some (.str (glue y.word (us.take i))),o]∧Same H1 H') ⟨_,rfl,Same.refl _⟩ ?_ ?_ ?_
 ·rintro i σ H' _ ⟨o,rfl,S⟩;exact SqT.of (S _ _ eb)
 ·rintro i x σ H' hx ⟨o,rfl,S⟩;obtain⟨u,eu,pu⟩:=ps.get hx;have gl:=zqsb (w:=y.word) i ps wl;have ul:=pu.len;have i2:i<xs.length:=(yia.mp hx).1;have e1:(" ":Str).length=1:=rfl;have eg2:glue y.word (us.take (i+1))=glue y.word (us.take i) ++ " " ++ u:=by
   rw[yva,eu,ypb,zicb]
  have z1:(glue y.word (us.take i)).length+(" ":Str).length≤yta:=small (by omega);have z2:(glue y.word (us.take i) ++ " ").length+u.length≤yta:=by
   rw[len_app];exact small (by omega)
  cases pu.same (S1.trans S) with
  | @w x y' wt' ok' dn d2 =>
   obtain⟨a',xs',rfl,ea'⟩:=wt'.tup;refine⟨_,rfl,_,_,_,true,rfl,TyOf.tup ea',.inl ⟨"tuple",rfl,rfl⟩,_,rfl,iteT ?_⟩;refine⟨_,rfl,_,_,rfl,rfl,z1,_,rfl,_,y',rfl,wt',ok',dn,d2,λH2 S2=>⟨_,_,rfl,rfl,z2,?_⟩⟩;exact⟨_,by rw[eg2];rfl,S.trans S2⟩
  | s _ =>
   refine⟨_,rfl,_,_,_,false,rfl,TyOf.str _,.inl ⟨"tuple",rfl,zbub _⟩,_,rfl,iteF ?_⟩;refine⟨_,rfl,_,_,rfl,rfl,z1,_,rfl,zfz (.inl rfl) _ _ ⟨_,_,rfl,rfl,z2,?_⟩⟩;exact⟨_,by rw[eg2];rfl,S⟩
  | i hi =>
   refine⟨_,rfl,_,_,_,false,rfl,TyOf.int _,.inl ⟨"tuple",rfl,zcub _⟩,_,rfl,iteF ?_⟩;refine⟨_,rfl,_,_,rfl,rfl,z1,_,rfl,zfz (.inr ⟨_,hi,rfl,rfl⟩) _ _ ⟨_,_,rfl,rfl,z2,?_⟩⟩;exact⟨_,by rw[eg2];rfl,S⟩
 ·rintro σ H' ⟨o,rfl,S⟩;refine⟨_,rfl,?_⟩;rw[ypa (by rw[ps.len];exact yha _),eg];exact q H' (S1.trans S)
theorem zfib (T:Tx K mg):FnOk P w K mg base CX0 2 T.zdb.f T.zdb.d zvf (zvn 0):=by
 have no:∀vs H Q E,¬ zvn 0 vs H Q E:=λvs H Q E h=>by
  obtain⟨v,y,_,_,_,hd,_⟩:=h;omega
 exact⟨λvs H Q E h=>absurd h (no vs H Q E),λA outer s H args us vs Q E _ _ _ _ h=>absurd h (no vs H Q E)⟩
theorem zal (T:Tx K mg):∀n:Nat,FnOk P w K mg base CX0 (n+2) T.zdb.f T.zdb.d zvf (zvn n)
 | 0=>zfib T
 | n+1=>zeib T (zal T n)
theorem zun (a b c:Str):a++b++c=a++(b++c):=by
 show (⟨(a.cps++b.cps)++c.cps⟩:Str)=⟨a.cps++(b.cps++c.cps)⟩
 rw[ytp]
theorem WT.put {H H':Hp}(s:∀a xs,H a=some (.tup xs)->H' a=some (.tup xs)):∀{v:V} {y:Wh},WT H v y->WT H' v y
 | _,_,.all h=>.all (s _ _ h)
 | _,_,.self h=>.self (s _ _ h)
 | _,_,.mine h=>.mine (s _ _ h)
 | _,_,.mark h=>.mark (s _ _ h)
 | _,_,.force h=>.force (s _ _ h)
 | _,_,.not h t=>.not (s _ _ h) (t.put s)
 | _,_,.both h t u=>.both (s _ _ h) (t.put s) (u.put s)
 | _,_,.any h t u=>.any (s _ _ h) (t.put s) (u.put s)
def HvT (H:Hp)(v:V):Hv->Prop
 | .v .non=>v = .non
 | .v (.name n)=>v = .str n
 | .v (.num i)=>v = .int (i:Int)
 | .w y=>WT H v y∧dep y≤2
theorem HvT.same {H H':Hp}(s:Same H H'){v:V}:∀{h:Hv},HvT H v h->HvT H' v h
 | .v .non,h=>h
 | .v (.name _),h=>h
 | .v (.num _),h=>h
 | .w _,h=>⟨h.1.same s,h.2⟩
def RT (H:Hp)(v:V)(r:Rule):Prop:=Ex6 λa (w:Str) x u (h:Hv) (y:Wh)=>v = .ref a∧r = .hold w h y∧H a=some (.tup [.str w,x,u])∧HvT H x h∧zqd w h∧WT H u y∧y.ok∧dep y≤2
theorem RT.same {H H':Hp}(s:Same H H'){v:V}{r:Rule}(h:RT H v r):RT H' v r:=by
 obtain⟨a,w,x,u,hv,y,rfl,rfl,e,h1,h2,h3,h4,h5⟩:=h;exact⟨a,w,x,u,hv,y,rfl,rfl,s _ _ e,h1.same s,h2,h3.same s,h4,h5⟩
theorem RT.ok {H:Hp}{v:V}{r:Rule}(h:RT H v r):r.ok:=by
 obtain⟨a,w,x,u,hv,y,rfl,rfl,e,h1,h2,h3,h4,h5⟩:=h;exact⟨h2,zws h4 h5⟩
inductive RTs (H:Hp):List V->List Rule->Prop where
 | nil:RTs H [] []
 | cons {v:V} {r:Rule} {vs:List V} {rs:List Rule}:RT H v r->RTs H vs rs->RTs H (v::vs) (r::rs)
theorem RTs.same {H H':Hp}(s:Same H H'){vs:List V}{rs:List Rule}(z:RTs H vs rs):RTs H' vs rs:=by
 induction z with
 | nil=>exact .nil
 | cons h _ ih=>exact .cons (h.same s) ih
theorem RTs.snoc {H:Hp}{v:V}{r:Rule}(h:RT H v r):∀{vs:List V} {rs:List Rule},RTs H vs rs->RTs H (vs++[v]) (rs++[r])
 | _,_,.nil=>.cons h .nil
 | _,_,.cons g t=>.cons g (t.snoc h)
theorem RTs.get {H:Hp}:∀{vs:List V} {rs:List Rule} {i:Nat} {v:V},RTs H vs rs->vs[i]?=some v->∃r,rs[i]?=some r∧RT H v r
 | _,_,_,_,.nil,e=>by simp at e
 | _,_,0,_,.cons h t,e=>by
  rw[yic] at e;cases e;exact⟨_,rfl,h⟩
 | _,_,i+1,_,.cons h t,e=>by
  rw[ycb] at e;obtain⟨u,h1,h2⟩:=t.get e;exact⟨u,by rw[ycb];exact h1,h2⟩
theorem RTs.len {H:Hp}:∀{xs:List V} {us:List Rule},RTs H xs us->xs.length=us.length
 | _,_,.nil=>rfl
 | _,_,.cons _ t=>by rw[yfa,yfa,t.len]
theorem RTs.ok {H:Hp}{xs:List V}{us:List Rule}(z:RTs H xs us):∀r∈us,r.ok:=by
 induction z with
 | nil=>exact λr h=>nomatch h
 | cons a _ ih =>
  intro r h
  rcases yla.mp h with rfl|h
  ·exact a.ok
  ·exact ih r h
theorem RTs.map {H H':Hp}(f:∀{x:V} {y:Rule},RT H x y->RT H' x y):∀{vs:List V} {rs:List Rule},RTs H vs rs->RTs H' vs rs
 | _,_,.nil=>.nil
 | _,_,.cons h t=>.cons (f h) (t.map f)
def zkvb:Sp:=λvs H Q _=>Ex4 λnl (ns:List Str) (c:Int) (k:Nat)=>vs=[.int c,.ref nl,.int (k:Int)]∧k<5∧N3 H nl ns∧∀v (r:Rule) H',Same H H'->RT H' v r->Q v H'
def zevb:Sp:=λvs H Q _=>Ex2 λv (r:Rule)=>vs=[v]∧RT H v r∧∀H',Same H H'->Q (.str (zmd r)) H'
def znqb:Sp:=λvs H Q _=>Ex5 λnl (ns:List Str) (c m:Int) (k:Nat)=>vs=[.int c,.ref nl,.int m,.int (k:Int)]∧k<5∧m≤3 ∧ -100≤m∧N3 H nl ns∧∀l us (rs:List Rule) H',Same H H'->H l=none->H' l=some (.lst us)->RTs H' us rs->(rs.length:Int)≤max 0 m->Q (.ref l) H'
theorem zrtb {r:Int}{x y z:Str}(h0:0≤r)(h1:r<3):∃u:Str,atI [V.str x,V.str y,V.str z] r=some (.str u)∧(u=x∨u=y∨u=z):=by
 obtain⟨v,hv,hm⟩:=zar (xs:=[V.str x,V.str y,V.str z]) h0 h1;simp only[yla,ydc,or_false] at hm
 rcases hm with e|e|e<;>subst e
 ·exact⟨_,hv,.inl rfl⟩
 ·exact⟨_,hv,.inr (.inl rfl)⟩
 ·exact⟨_,hv,.inr (.inr rfl)⟩
theorem zecb (w:Str)(h:Hv)(y:Wh):("hold ":Str)++w ++ " " ++ ywa " " (h.words++y.words)=zmd (.hold w h y):=by
 show _=ywa " " ("hold" :: w::(h.words++y.words))
 have ne:h.words++y.words≠[]:=λz=>zrd y (List.append_eq_nil_iff.mp z).2;have e1:(("hold":Str)::w::(h.words++y.words))=(["hold",w]:List Str)++(h.words++y.words):=rfl;rw[e1,zgm " " (ytc _ _) ne];rfl
theorem znbb (T:Tx K mg):FnOk P w K mg base CX0 6 T.zff.f T.zff.d zln zkvb:=by
 refine T.zff.ok zxi ?_;rintro f c A o s H vs Q E hr ⟨nl,ns,c,k,rfl,hk,N0,q⟩ X;refine⟨_,  (zba (zla (i:=3) zxi.nd rfl (.inl rfl) (zkb zxb (zgb (zaa (zia zub (pv 0) zda) (zaa (zia zsd zda (zia zub (pv 0) zda)) (zaa (zia zsd zda (zia zub (pv 0) zda)) (zaa (zia zub (pv 0) zda) (zaa (zia zub (pv 0) zda) zca)))))) (pv 2) (λ_ _=>rfl)))
  (zba (zla (i:=4) zxi.nd rfl (.inl rfl) (zkb zxb (zgb (zaa (zia zub (zia zec (pv 0) zda) zda) (zaa (zia zub (zia zec (pv 0) zda) zda) zca))) (zia zec (zia zub (zia zec (pv 0) zda) zda) zda) (λ_ _=>rfl)))
  (zba (zla (i:=5) zxi.nd rfl (.inl rfl) (zja (zww T 3) hr rfl T.zjb.m T.zjb.F.kp (zpi T) .nil zwa (zaa (zia zub (zia zuh (zia zec (pv 0) zda) zda) zda) (zaa (pv 1) (zaa zda zca)))))
  (zba (zcc (zra zabb (pv 3) zda (zbb _))
   (zea (zoa (zgb (zaa (zkb zxb (zgb (zaa zpa (zaa zpa zca))) (pv 3) (λ_ _=>rfl)) (zaa zat (zaa (pv 5) zca))))))
   zua)
  (zba (zcc (zra zabb (pv 3) zda (zbb _))
   (zea (zoa (zgb (zaa (zkb zxb (zgb (zaa zpa (zaa zpa (zaa zpa zca)))) (zia ztj (pv 3) zda) (λ_ _=>rfl)) (zaa (zkb zli (pv 1) (zia zub (zia zec (pv 0) zda) zda) (λ_ _=>rfl)) (zaa (pv 5) zca))))))
   zua)
  (zba (zcc (zra zabb (pv 3) zda (zbb _))
   (zea (zoa (zgb (zaa (zkb zxb (zgb (zaa zpa (zaa zpa (zaa zpa zca)))) (zia ztj (pv 3) zda) (λ_ _=>rfl)) (zaa (pv 4) (zaa (pv 5) zca))))))
   zua)
  (zea (zoa (zgb (zaa zpa (zaa (zja (zww T 3) hr rfl T.zjb.m T.zjb.F.kp (zpi T) .nil zwa (zaa (zia zec (pv 0) zda) (zaa (pv 1) (zaa zda zca)))) (zaa (pv 5) zca)))))))))))),?_⟩
 have p9:=zvc c (m:=9) (by decide);have p3:=zvc c (m:=3) (by decide);have p2:=zvc c (m:=2) (by decide);refine⟨_,rfl,_,_,rfl,rfl,(by show (0:Int)<9;decide),_,rfl,_,_,rfl,rfl,(by show (0:Int)<3;decide),_,_,rfl,rfl,_,rfl,_,_,rfl,rfl,(by show (0:Int)<3;decide),_,_,rfl,rfl,_,rfl,_,_,rfl,rfl,(by show (0:Int)<2;decide),_,rfl,_,_,rfl,rfl,(by show (0:Int)<9;decide),sz5,λt1 ht1=>?_⟩;refine laid ht1 λH1 S1 e1=>?_;obtain⟨way,hway,w0,w9⟩:∃way:Int,atI [V.int (c % 9),V.int (2+c % 3),V.int (6+c % 3),V.int (c % 2),V.int (c % 9)] (k:Int)=some (.int way)∧0≤way∧way<9:=by
  obtain⟨v,hv,hm⟩:=zar (xs:=[V.int (c % 9),V.int (2+c % 3),V.int (6+c % 3),V.int (c % 2),V.int (c % 9)]) (i:=(k:Int)) (by omega) (by show (k:Int)<5;omega);simp only[yla,ydc,or_false] at hm
  rcases hm with e|e|e|e|e<;>subst e<;>exact⟨_,hv,by omega,by omega⟩
 refine⟨_,rfl,t1,_,_,_,rfl,rfl,SqT.of e1,hway,?_⟩;refine⟨_,rfl,_,_,rfl,rfl,⟨by decide,by decide⟩,_,_,rfl,rfl,(by show (0:Int)<6;decide),_,rfl,_,_,rfl,rfl,⟨by decide,by decide⟩,_,_,rfl,rfl,(by show (0:Int)<1000;decide),sz2,λt2 ht2=>?_⟩;refine laid ht2 λH2 S2 e2=>?_;have h9:=zcfb (c / 54);have p6:=zvc (c / 9) (m:=6) (by decide);obtain⟨i,hi,hi2⟩:=zemb h9.1 h9.2 (x:=c / 9 % 6) (y:=c / 9 % 1000) ⟨p6.1,by omega⟩ (zvc (c / 9) (by decide));refine⟨_,rfl,_,_,rfl,rfl,⟨by decide,by decide⟩,_,_,rfl,rfl,(by show (0:Int)<9;decide),_,_,rfl,rfl,⟨by decide,by decide⟩,t2,_,_,_,rfl,rfl,SqT.of e2,hi,?_⟩;have N2:=N0.same (S1.trans S2);refine⟨_,rfl,_,_,rfl,rfl,⟨by decide,by decide⟩,_,_,rfl,rfl,.inr ⟨by decide,by decide⟩,_,_,rfl,rfl,(by show (0:Int)<2147483629;decide),_,rfl,nl,ns,_,2,rfl,by decide,by decide,N2,λu y H3 S3 wu oy dy=>?_⟩;have S03:=S1.trans (S2.trans S3);have N3':=N2.same S3;clear e1 e2 S1 S2 ht1 ht2;refine⟨_,rfl,_,_,rfl,rfl,_,rfl,ite2 (λc2=>?_) (λc2=>?_)⟩
 ·have w2:way<2:=of_decide_eq_true c2;refine⟨sz2,λt4 ht4=>?_⟩;refine laid ht4 λH4 S4 e4=>?_;obtain⟨wd,hwd,hc⟩:=zehb (r:=way) (x:="mute") (y:="steal") w0 w2;refine⟨_,rfl,t4,_,_,_,rfl,rfl,SqT.of e4,hwd,_,rfl,sz3,λt ht=>?_⟩;have S5:=zsa ht (.tup [.str wd,.non,u]);refine q _ (.hold wd (.v .non) y) _ (S03.trans (S4.trans S5)) ⟨t,wd,.non,u,.v .non,y,rfl,rfl,zfa,rfl,?_,wu.same (S4.trans S5),oy,dy⟩
  rcases hc with rfl|rfl
  ·exact .mute
  ·exact .steal
 have w2:¬ way<2:=λz=>c2 (decide_eq_true z);refine⟨_,rfl,_,_,rfl,rfl,_,rfl,ite2 (λc5=>?_) (λc5=>?_)⟩
 ·have w5:way<5:=of_decide_eq_true c5;refine⟨sz3,λt4 ht4=>?_⟩;refine laid ht4 λH4 S4 e4=>?_;obtain⟨wd,hwd,hc⟩:=zrtb (r:=way-2) (x:="gain") (y:="lack") (z:="gain") (by omega) (by omega);refine⟨_,rfl,_,_,rfl,rfl,t4,_,_,_,rfl,rfl,SqT.of e4,hwd,?_⟩;have r3:=zvc (c / 9) (m:=3) (by decide);obtain⟨n,hn,hm⟩:=zqpb (ss:=ns) r3.1 (by rw[N0.len];exact r3.2);refine⟨_,rfl,_,rfl,_,_,rfl,rfl,⟨by decide,by decide⟩,_,_,rfl,rfl,(by show (0:Int)<3;decide),nl,_,_,_,rfl,rfl,SqL.of (N3'.same S4).at_,hn,_,rfl,sz3,λt ht=>?_⟩;have S5:=zsa ht (.tup [.str wd,.str n,u]);refine q _ (.hold wd (.v (.name n)) y) _ (S03.trans (S4.trans S5)) ⟨t,wd,.str n,u,.v (.name n),y,rfl,rfl,zfa,rfl,?_,wu.same (S4.trans S5),oy,dy⟩;have nok:=N0.ok n hm
  rcases hc with rfl|rfl|rfl
  ·exact .gain nok
  ·exact .lack nok
  ·exact .gain nok
 have w5:¬ way<5:=λz=>c5 (decide_eq_true z);refine⟨_,rfl,_,_,rfl,rfl,_,rfl,ite2 (λc8=>?_) (λc8=>?_)⟩
 ·have w8:way<8:=of_decide_eq_true c8;refine⟨sz3,λt4 ht4=>?_⟩;refine laid ht4 λH4 S4 e4=>?_;obtain⟨wd,hwd,hc⟩:=zrtb (r:=way-5) (x:="be") (y:="more") (z:="less") (by omega) (by omega);refine⟨_,rfl,_,_,rfl,rfl,t4,_,_,_,rfl,rfl,SqT.of e4,hwd,_,rfl,_,rfl,sz3,λt ht=>?_⟩;have S5:=zsa ht (.tup [.str wd,.int (i:Int),u]);refine q _ (.hold wd (.v (.num i)) y) _ (S03.trans (S4.trans S5)) ⟨t,wd,.int i,u,.v (.num i),y,rfl,rfl,zfa,rfl,?_,wu.same (S4.trans S5),oy,dy⟩
  rcases hc with rfl|rfl|rfl
  ·exact .be hi2
  ·exact .more hi2
  ·exact .less hi2
 ·refine⟨_,rfl,_,_,rfl,rfl,⟨by decide,by decide⟩,_,rfl,nl,ns,_,1,rfl,by decide,by decide,N3',λv z H4 S4 wv ov dv=>?_⟩;refine⟨_,rfl,sz3,λt ht=>?_⟩;have S5:=zsa ht (.tup [.str "per",v,u]);have pv:=zws ov (by omega);exact q _ (.hold "per" (.w z) y) _ (S03.trans (S4.trans S5)) ⟨t,"per",v,u,.w z,y,rfl,rfl,zfa,⟨wv.same S5,by omega⟩,.per pv,wu.same (S4.trans S5),oy,dy⟩
theorem zfp (T:Tx K mg):FnOk P w K mg base CX0 6 T.znc.f T.znc.d zqh zevb:=by
 refine T.znc.ok zje ?_;rintro f c A o s H vs Q E hr ⟨v,r,rfl,rt,q⟩ X;obtain⟨a,wd,x,u,h,y,rfl,rfl,e,hx,hh,wu,oy,dy⟩:=rt;refine⟨_,  (zba (zbmb (pv 0) (zwv (n:=3) rfl (zqb (zva (i:=1) zje.nd rfl (.inl rfl)) (zqb (zva (i:=2) zje.nd rfl (.inl rfl)) (zqb (zva (i:=3) zje.nd rfl (.inl rfl)) zgk)))))
  (zba (zcc (zra zutb (pv 2) zat (zbb _))
   (zea (zoa (zia zeb (zia zeb (zia zeb zpa (pv 1)) zpa) (zja (zal T 3) hr rfl T.zdb.m T.zdb.F.kp (zch T) .nil zwa (zaa (pv 3) zca)))))
   zua)
  (zba (zcc (zuq (zlb zxm rfl T.zpf yoo (zaa (pv 2) (zaa (zleb (v:=.ty "tuple") rfl T.zgh yoi rfl) zca))))
   (zea (zoa (zia zeb (zia zeb (zia zeb (zia zeb (zia zeb zpa (pv 1)) zpa) (zja (zal T 3) hr rfl T.zdb.m T.zdb.F.kp (zch T) .nil zwa (zaa (pv 2) zca))) zpa) (zja (zal T 3) hr rfl T.zdb.m T.zdb.F.kp (zch T) .nil zwa (zaa (pv 3) zca)))))
   zua)
  (zea (zoa (zia zeb (zia zeb (zia zeb (zia zeb (zia zeb zpa (pv 1)) zpa) (zlc zzq rfl T.zsz yds (zaa (pv 2) zca))) zpa) (zja (zal T 3) hr rfl T.zdb.m T.zdb.F.kp (zch T) .nil zwa (zaa (pv 3) zca)))))))),?_⟩
 refine⟨_,rfl,a,_,rfl,SqT.of e,rfl,_,_,rfl,_,_,rfl,_,_,rfl,rfl,?_⟩;have wl:wd.length≤8:=(zzu (l:=changes) (by decide +kernel) hh.word).1.2.2;have l5:("hold ":Str).length=5:=by decide
 have l1:(" ":Str).length=1:=rfl;have yl:=zydb oy dy;have z1:("hold ":Str).length+wd.length≤yta:=small (by omega);have z2:(("hold ":Str)++wd).length+(" ":Str).length≤yta:=by
  rw[len_app];exact small (by omega)
 have key:∀t:Str,t.length≤300->(("hold ":Str)++wd ++ " ").length+t.length≤yta:=λt ht=>by
  rw[len_app,len_app];exact small (by omega)
 have long:∀t:Str,t.length≤300->((("hold ":Str)++wd ++ " ")++t).length+(" ":Str).length≤yta∧(((("hold ":Str)++wd ++ " ")++t) ++ " ").length+(whT y).length≤yta:=λt ht=>by
  simp only[len_app];exact⟨small (by omega),small (by omega)⟩
 have two:∀(ws:List Str),ws≠[]->h.words=ws->(("hold ":Str)++wd ++ " ")++ywa " " ws ++ " " ++ whT y=zmd (.hold wd h y):=λws hne hw=>by
  rw[← zecb,hw,zgm " " hne (zrd y)];simp only[zun];rfl
 cases h with
 | v z =>
  cases z with
  | non =>
   have ex:x = .non:=hx;subst ex;refine⟨_,rfl,rfl,_,rfl,iteT ?_⟩;refine⟨_,rfl,_,_,rfl,rfl,z1,_,_,rfl,rfl,z2,_,rfl,u,y,rfl,wu,oy,by omega,dy,λH1 S1=>⟨_,_,rfl,rfl,key _ (by omega),?_⟩⟩;have z:=q H1 S1;rw[← zecb] at z;exact z
  | name n =>
   have ex:x = .str n:=hx;subst ex;have nl:n.length≤8:=by
    cases hh with
    | gain h=>exact h.2.1
    | lack h=>exact h.2.1
   refine⟨_,rfl,rfl,_,rfl,iteF ?_⟩;refine⟨_,rfl,_,_,_,false,rfl,TyOf.str _,.inl ⟨"tuple",rfl,zbub _⟩,_,rfl,iteF ?_⟩;obtain⟨k1,k2⟩:=long n (by omega);refine⟨_,rfl,_,_,rfl,rfl,z1,_,_,rfl,rfl,z2,_,rfl,zfz (.inl rfl) _ _ ⟨_,_,rfl,rfl,key n (by omega),_,_,rfl,rfl,k1,_,rfl,u,y,rfl,wu,oy,by omega,dy,λH1 S1=>⟨_,_,rfl,rfl,k2,?_⟩⟩⟩;have z:=q H1 S1;rw[← two [n] (ytc _ _) rfl] at z;exact z
  | num i =>
   have ex:x = .int (i:Int):=hx;subst ex;have hi:i<1000:=by
    cases hh with
    | be h=>exact h
    | more h=>exact h
    | less h=>exact h
   have nl:(toString (i:Int):Str).length≤8:=(zem hi).2.2;refine⟨_,rfl,rfl,_,rfl,iteF ?_⟩;refine⟨_,rfl,_,_,_,false,rfl,TyOf.int _,.inl ⟨"tuple",rfl,zcub _⟩,_,rfl,iteF ?_⟩;obtain⟨k1,k2⟩:=long (toString (i:Int):Str) (by omega);refine⟨_,rfl,_,_,rfl,rfl,z1,_,_,rfl,rfl,z2,_,rfl,zfz (.inr ⟨i,hi,rfl,rfl⟩) _ _ ⟨_,_,rfl,rfl,key _ (by omega),_,_,rfl,rfl,k1,_,rfl,u,y,rfl,wu,oy,by omega,dy,λH1 S1=>⟨_,_,rfl,rfl,k2,?_⟩⟩⟩;have z:=q H1 S1;rw[← two [(toString (i:Int):Str)] (ytc _ _) rfl] at z;exact z
 | w z =>
  obtain⟨wx,dx⟩:=(show WT H x z∧dep z≤2 from hx);have oz:z.ok:=by
   cases hh with
   | per h=>exact h.1
  obtain⟨b,xs,rfl,eb⟩:=wx.tup;have zl:=zydb oz dx;refine⟨_,rfl,rfl,_,rfl,iteF ?_⟩;refine⟨_,rfl,_,_,_,true,rfl,TyOf.tup eb,.inl ⟨"tuple",rfl,rfl⟩,_,rfl,iteT ?_⟩;obtain⟨k1,k2⟩:=long (whT z) (by omega);refine⟨_,rfl,_,_,rfl,rfl,z1,_,_,rfl,rfl,z2,_,rfl,_,z,rfl,wx,oz,by omega,dx,λH1 S1=>⟨_,_,rfl,rfl,key _ (by omega),_,_,rfl,rfl,k1,_,rfl,u,y,rfl,wu.same S1,oy,by omega,dy,λH2 S2=>⟨_,_,rfl,rfl,k2,?_⟩⟩⟩;have zz:=q H2 (S1.trans S2);rw[← two z.words (zrd z) rfl] at zz;exact zz
theorem zxx (T:Tx K mg):FnOk P w K mg base CX0 7 T.zyd.f T.zyd.d zvl znqb:=by
 refine T.zyd.ok zyh ?_;rintro f c A o s H vs Q E hr ⟨nl,ns,c,m,k,rfl,hk,hm,hm',N0,q⟩ X;refine⟨_,  (zba (zla (i:=4) zyh.nd rfl (.inl rfl) (zsj zca))
  (zba (zaj ygc rfl (zbg rfl T.zih (zaa (zlb (zscb rfl) rfl T.zcib boot_min (zaa (pv 2) (zaa (zia zub (pv 0) zda) zca))) zca)) (zva (i:=5) zyh.nd rfl (.inl rfl))
   (zba (zla (i:=6) zyh.nd rfl (.inl rfl) (zia zub (zia zuh (zia zsd (zia zec (pv 0) zda) zda) (zia zsd (zia zuh (pv 5) (pv 5)) zda)) zda))
   (zea (zkf (ztm yac yyd yzd zuj (pv 4) (zaa (zja (znbb T) hr rfl T.zff.m T.zff.F.kp (zsfb T) .nil zwa (zaa (pv 6) (zaa (pv 1) (zaa (pv 3) zca)))) zca))))))
  (zea (zoa (pv 4))))),?_⟩
 refine⟨sz0,λl hl=>?_⟩;refine laid hl λH1 S1 e1=>?_;have p4:=zvc c (m:=4) (by decide);refine⟨_,rfl,_,rfl,_,_,rfl,rfl,(by show (0:Int)<4;decide),_,_,rfl,_,rfl,?_,?_,?_⟩
 ·split<;>omega
 ·split<;>omega
 refine zyj (lo:=0) (n:=(if c % 4<m then c % 4 else m).toNat) (λi σ H'=>Ex4 λus (rs:List Rule) o5 o6=>σ=[some (.int c),some (.ref nl),some (.int m),some (.int (k:Int)),some (.ref l),o5,o6]∧H' l=some (.lst us)∧RTs H' us rs∧rs.length=i∧Same H H') ⟨[],[],_,_,rfl,e1,.nil,rfl,S1⟩ ?_ ?_
 ·rintro i σ H' hi ⟨us,rs,o5,o6,rfl,f',ht,hlen,S'⟩;have i3:i<3:=by
   revert hi
   split<;>intro hi<;>omega
  have ii:(0:Int)≤(0+(i:Int))*(0+(i:Int))∧(0+(i:Int))*(0+(i:Int))≤9:=by
   have:i=0∨i=1∨i=2:=by omega
   rcases this with rfl|rfl|rfl<;>decide
  refine⟨_,rfl,_,_,rfl,rfl,⟨by decide,by decide⟩,_,_,rfl,rfl,_,rfl,_,rfl,_,_,rfl,rfl,.inl ⟨by omega,by omega⟩,_,_,rfl,rfl,_,_,rfl,rfl,.inr ⟨by omega,by omega⟩,_,_,rfl,rfl,(by show (0:Int)<2147483563;decide),?_⟩;refine⟨_,rfl,.inl ⟨rfl,_,SqL.of f'⟩,_,rfl,_,rfl,_,rfl,nl,ns,_,k,rfl,hk,N0.same S',λv r H2 S2 rt=>?_⟩;refine⟨l,_,_,rfl,rfl,S2 _ _ f',?_,?_⟩
  ·rw[ht.len];exact zei (by omega)
  have up:∀{x:V} {y:Rule},RT H2 x y->RT (upd H2 l (.lst (us++[v]))) x y:=λ{x y} h=>by
   obtain⟨a,w,x,u,hv,y,rfl,rfl,e,h1,h2,h3,h4,h5⟩:=h;have tp:∀b xs,H2 b=some (.tup xs)->upd H2 l (.lst (us++[v])) b=some (.tup xs):=λb xs z=>by
    rw[zta (zng z (S2 _ _ f') (by intro y;cases y))];exact z
   refine⟨a,w,x,u,hv,y,rfl,rfl,tp _ _ e,?_,h2,h3.put tp,h4,h5⟩;cases hv with
   | v z=>cases z<;>exact h1
   | w z=>exact⟨h1.1.put tp,h1.2⟩
  refine⟨us++[v],rs++[r],_,_,rfl,zfa,?_,?_,zke (S'.trans S2) hl _⟩
  ·exact RTs.snoc (up rt) ((ht.same S2).map up)
  ·rw[yja,hlen];rfl
 ·rintro σ H' ⟨us,rs,o5,o6,rfl,f',ht,hlen,S'⟩;refine⟨_,rfl,q l us rs H' S' hl f' ht ?_⟩;rw[hlen]
  split<;>omega
theorem zlsb (n L:Nat)(h:n≤L):ytk none (some (n:Int)) 1 L=ywe n:=by
 unfold ytk;dsimp only;have e:(if (1:Int)>0 then max 0 (min (if (n:Int)<0 then (n:Int)+(L:Int) else (n:Int)) (L:Int)) else max (-1) (min (if (n:Int)<0 then (n:Int)+(L:Int) else (n:Int)) ((L:Int)-1)))=(n:Int):=by
  rw[if_pos (by decide),if_neg (by omega)];omega
 rw[e,if_pos (by decide)];have z:=sliceRange_one 0 n;rw[yho] at z;rw[show ((0:Int))=((0:Nat):Int) from rfl,z];simp
theorem zvab {x:Array Nat}:∀n:Nat,n≤x.size->(ywe n).filterMap (λj=>x[j]?)=x.toList.take n
 | 0,_=>rfl
 | n+1,h=>by
  rw[ypo,List.filterMap_append,zvab n (by omega),yva];have e:x.toList[n]?=x[n]?:=by rw[yvb]
  have hn:n<x.size:=by omega
  have e2:x[n]?=some x[n]:=ynb hn;rw[e,ykg,e2,List.filterMap_nil];rfl
theorem zkv (x:Str)(n:Nat)(h:n≤x.length):yeq x none (some (n:Int))=⟨(x.cps.toList.take n).toArray⟩:=by
 unfold yeq;rw[zlsb n x.length h,yze]
 by_cases e:n=x.length
 ·subst e;rw[if_pos (by simp)];have:x.cps.toList.take x.length=x.cps.toList:=ypa (by simp[yxq]);rw[this,ype]
 ·rw[if_neg (by simp[e])];rw[show (λj=>x.cps[j]?)=(λj=>x.cps[j]?) from rfl];have z:=zvab (x:=x.cps) n h;rw[← z]
structure R8 where
 num:Int
 keeper:Int
 came:Int
 force:Nat
 cost:Nat
 spare:Nat
 marks:List Str
 own:List Str
 rules:List Rule
structure R8.ok (r:R8):Prop where
 n0:0≤r.num
 n1:r.num<16
 k0:0≤r.keeper
 k1:r.keeper<4
 fo:r.force<1000
 co:r.cost<1000
 sp:r.spare<9
 mks:Marks r.marks
 ow:Marks r.own
 ru:r.rules.length+(if 0<r.spare % 3 then 1 else 0)≤3
def zbob (co fo:Nat)(own:List Str):Str:=ywa " " (Crd.mk "x" co fo own []).head
def RowT (x:Addr)(H:Hp)(v:V)(r:R8):Prop:=Ex4 λa tm tl us=>v = .ref a∧H a=some (.tup [.int r.num,.int (r.force:Int),.int r.keeper,.int r.came,.ref tm,.ref tl,.int (r.spare:Int),.str (zbob r.cost r.force r.own)])∧H tm=some (.tup (r.marks.map V.str))∧H tl=some (.lst us)∧tl≠x∧RTs H us r.rules
theorem RT.put {H H':Hp}(s:∀a xs,H a=some (.tup xs)->H' a=some (.tup xs)){v:V}{r:Rule}(h:RT H v r):RT H' v r:=by
 obtain⟨a,w,x,u,hv,y,rfl,rfl,e,h1,h2,h3,h4,h5⟩:=h;refine⟨a,w,x,u,hv,y,rfl,rfl,s _ _ e,?_,h2,h3.put s,h4,h5⟩;cases hv with
 | v z=>cases z<;>exact h1
 | w z=>exact⟨h1.1.put s,h1.2⟩
theorem RowT.put {x:Addr}{H:Hp}{us vs:List V}{v:V}{r:R8}(h:RowT x H v r)(e:H x=some (.lst us)):RowT x (upd H x (.lst vs)) v r:=by
 obtain⟨a,tm,tl,ws,rfl,h1,h2,h3,n,h4⟩:=h;have tp:∀b xs,H b=some (.tup xs)->upd H x (.lst vs) b=some (.tup xs):=λb xs z=>by
  rw[zta (zng z e (by intro y;cases y))];exact z
 exact⟨a,tm,tl,ws,rfl,tp _ _ h1,tp _ _ h2,by rw[zta n];exact h3,n,h4.map λ{_ _} z=>z.put tp⟩
theorem RowT.same {x:Addr}{H H':Hp}(s:Same H H'){v:V}{r:R8}(h:RowT x H v r):RowT x H' v r:=by
 obtain⟨a,tm,tl,ws,rfl,h1,h2,h3,n,h4⟩:=h;exact⟨a,tm,tl,ws,rfl,s _ _ h1,s _ _ h2,s _ _ h3,n,h4.same s⟩
inductive zqk (x:Addr)(H:Hp):List V->List R8->Prop where
 | nil:zqk x H [] []
 | cons {v:V} {r:R8} {vs:List V} {rs:List R8}:RowT x H v r->zqk x H vs rs->zqk x H (v::vs) (r::rs)
theorem zqk.map {x y:Addr}{H H':Hp}(f:∀{v:V} {r:R8},RowT x H v r->RowT y H' v r){vs:List V}{rs:List R8}(z:zqk x H vs rs):zqk y H' vs rs:=by
 induction z with
 | nil=>exact .nil
 | cons h _ ih=>exact .cons (f h) ih
theorem zqk.snoc {x:Addr}{H:Hp}{v:V}{r:R8}(h:RowT x H v r){vs:List V}{rs:List R8}(z:zqk x H vs rs):zqk x H (vs++[v]) (rs++[r]):=by
 induction z with
 | nil=>exact .cons h .nil
 | cons g _ ih=>exact .cons g ih
theorem zqk.len {x:Addr}{H:Hp}{xs:List V}{us:List R8}(z:zqk x H xs us):xs.length=us.length:=by
 induction z with
 | nil=>rfl
 | cons _ _ ih=>rw[yfa,yfa,ih]
theorem zqk.get {x:Addr}{H:Hp}:∀{vs:List V} {rs:List R8} {i:Nat} {v:V},zqk x H vs rs->vs[i]?=some v->∃r,rs[i]?=some r∧RowT x H v r
 | _,_,_,_,.nil,e=>by simp at e
 | _,_,0,_,.cons h t,e=>by
  rw[yic] at e;cases e;exact⟨_,rfl,h⟩
 | _,_,i+1,_,.cons h t,e=>by
  rw[ycb] at e;obtain⟨u,h1,h2⟩:=t.get e;exact⟨u,by rw[ycb];exact h1,h2⟩
theorem ztbb {ns ms zs:List Str}(hs:ms.Sublist ns)(hl:ns.length=3)(hok:∀n∈ns,zdd n)(hnd:ns.Nodup)(hp:zs.Perm ms)(so:ycg zs=true):Marks zs where
 ok:=λm hm=>hok m (hs.subset (hp.mem_iff.mp hm))
 nd:=hp.nodup_iff.mpr (hs.nodup hnd)
 so:=so
 le:=by
  have a:=hs.length_le;have b:=hp.length_eq;omega
theorem zkwb {zs:List Str}(h:Marks zs):yeq (ywa "," zs ++ "-") none (some (if ((ywa "," zs).length:Int)>1 then ((ywa "," zs).length:Int) else 1))=zki zs:=by
 cases zs with
 | nil =>
  have e:(if (((ywa "," ([]:List Str)).length:Nat):Int)>1 then (((ywa "," ([]:List Str)).length:Nat):Int) else 1)=((1:Nat):Int):=by decide
  rw[e,zkv _ _ (by decide)];decide
 | cons m r =>
  have l1:=(zvj h).1;have e:(if (((ywa "," (m::r)).length:Nat):Int)>1 then (((ywa "," (m::r)).length:Nat):Int) else 1)=(((ywa "," (m::r)).length:Nat):Int):=by
   have l2:1≤(ywa "," (m::r)).length:=l1
   split<;>omega
  rw[e,zkv _ _ (by rw[len_app];omega)];show (⟨(List.take (ywa "," (m::r)).length ((ywa "," (m::r)).cps++("-":Str).cps).toList).toArray⟩:Str)=ywa CM (m::r)
  rw[ydf,List.take_left' (by simp[yxq]),ype];rfl
theorem zaob (co fo:Nat)(own:List Str):("x ":Str)++(toString (co:Int):Str) ++ " " ++ (toString (fo:Int):Str) ++ " " ++ zki own=zbob co fo own:=by
 show _=("x":Str) ++ " " ++ ((toString (co:Int):Str) ++ " " ++ ((toString (fo:Int):Str) ++ " " ++ zki own))
 have e:("x ":Str) = "x" ++ " ":=by decide
 rw[e];simp only[zun]
theorem zksb {ks xs:List Int}{x:Int}(i:Nat)(h:ks.Perm xs):(ks.take i++x::ks.drop i).Perm (xs++[x]):=by
 have a:(ks.take i++x::ks.drop i).Perm (x::(ks.take i++ks.drop i)):=yas;rw[yjh] at a;exact a.trans ((h.cons x).trans (yyk x xs).symm)
theorem zmw {K:yca}{H:Hp}{nl:Addr}{ns:List Str}{cell d0 d1 d2:Int}{js:List Nat}{σ:L2.St}{Q:VK}(hb:zlf 1 js σ=[none,some (.ref nl),some (.int cell)])(N:N3 H nl ns)(h0:0<d0∧d0<1073741824)(h1:0<d1∧d1<1073741824)(h2:0<d2∧d2<1073741824)
  (q:∀b (ms:List Str) H',ms.Sublist ns->Same H H'->H' b=some (.lst (ms.map V.str))->Q (.ref b) H') :
  zrz (Itr 0 (3:Int).toNat) H (zdob 0) (zsub (tOp rEq (tOp (rI (λ_ j=>0<j) λi j=>V.int (i % j)) (tOp (rI CDiv λi j=>V.int (i / j)) (tVar 2) (tOp (rIxT K) (tTup (ziqb (tC (V.int d0)) (ziqb (tC (V.int d1)) (ziqb (tC (V.int d2)) tNil)))) (tVar 0))) (tC (V.int 2))) (tC (V.int 1)))) (tOp (rIxL K) (tVar 1) (tVar 0)) 1 js σ Q:=by
 refine zlw (λj ys Hx=>∃ms:List Str,ys=ms.map V.str∧ms.Sublist (ns.take j)∧Same H Hx∧j≤3) ⟨[],rfl,List.nil_sublist _,Same.refl _,by omega⟩ ?_ ?_ ?_
 ·rintro j ys Hx ⟨ms,rfl,hs,_,hj⟩;rw[yea];have:=hs.length_le;rw[yza] at this;exact small (by omega)
 ·rintro j ys Hx hj ⟨ms,rfl,hs,Sx,_⟩;have hj3:j<3:=hj;have ei:ns[j]?=some (ns[j]'(by rw[N.len];exact hj3)):=yoa _;obtain⟨d,hd,dd⟩:∃d:Int,atI [V.int d0,V.int d1,V.int d2] (0+(j:Int))=some (.int d)∧0<d∧d<1073741824:=by
   obtain⟨v,hv,hm⟩:=zar (xs:=[V.int d0,V.int d1,V.int d2]) (i:=0+(j:Int)) (by omega) (by show 0+(j:Int)<3;omega);simp only[yla,ydc,or_false] at hm
   rcases hm with e|e|e<;>subst e
   ·exact⟨_,hv,h0⟩
   ·exact⟨_,hv,h1⟩
   ·exact⟨_,hv,h2⟩
  rw[hb];refine⟨rfl,_,rfl,sz3,λtp htp=>?_⟩;refine laid htp λHy Sy ey=>?_;have Ny:=N.same (Sx.trans Sy);refine⟨_,rfl,tp,_,_,_,rfl,rfl,SqT.of ey,hd,_,_,rfl,rfl,dd,_,_,rfl,rfl,(by show (0:Int)<2;decide),rfl,_,rfl,ite2 (λ_=>?_) (λ_=>?_)⟩
  ·refine⟨_,rfl,_,rfl,nl,_,_,V.str (ns[j]'(by rw[N.len];exact hj3)),rfl,rfl,SqL.of Ny.at_,?_,ms++[ns[j]'(by rw[N.len];exact hj3)],?_,?_,Sx.trans Sy,by omega⟩
   ·rw[ywj];exact zkub ei
   ·rw[ykb];rfl
   ·rw[yva,ei];exact hs.append (List.Sublist.refl _)
  ·refine⟨ms,rfl,?_,Sx.trans Sy,by omega⟩;rw[yva,ei];exact hs.trans (List.sublist_append_left _ _)
 ·rintro ys H5 ⟨ms,rfl,hs,S5,_⟩ b hb;have h3:ns.take (3:Int).toNat=ns:=ypa (by rw[N.len];exact yha 3);rw[h3] at hs;refine laid hb λH6 S6 e6=>?_;exact q b ms H6 hs (S5.trans S6) e6
def zbvb (K:yca):Sp:=λvs H Q _=>Ex6 λsa nl (ss:List Int) (ns:List Str) (many most:Nat)=>vs=[.ref sa,.ref nl,.int (many:Int),.int (most:Int)]∧SqF K H sa (ss.map V.int)∧ss.length≤63∧N3 H nl ns∧many≤16∧most≤100∧∀l us rs H',Same H H'->H l=none->H' l=some (.lst us)->zqk l H' us rs->rs.length=many->(∀r∈rs,r.ok)->(rs.map (·.num)).Nodup->Q (.ref l) H'
theorem zmbb (T:Tx K mg):FnOk P w K mg base CX0 8 T.zef.f T.zef.d zkn (zbvb K):=by
 refine T.zef.ok zpb ?_;rintro f c A o s H vs Q E hr ⟨sa,nl,ss,ns,many,most,rfl,hS,h63,N0,hmany,hmost,q⟩ X;refine⟨_,  (zba (zla (i:=4) zpb.nd rfl (.inl rfl) (zsj zca))
  (zba (zla (i:=5) zpb.nd rfl (.inl rfl) (zsj zca))
  (zba (zaj ygc rfl (zbg rfl T.zih (zaa zda zca)) (zva (i:=6) zpb.nd rfl (.inl rfl))
   (zea (zkf (ztm yac yhm yim zsbb (pv 5) (zaa (zia zub (zia zec (zja (zle T).up hr rfl T.zsb.m T.zsb.F.kp (zeg T) .nil zwa (zaa (pv 0) (zaa zda zca))) (zia zsd (pv 6) zda)) (zia zsd (pv 6) zda)) (zaa (pv 6) zca))))))
  (zba (zaj ygc rfl (zbg rfl T.zih (zaa (pv 2) zca)) (zva (i:=6) zpb.nd rfl (.inl rfl))
   (zba (zla (i:=7) zpb.nd rfl (.inr rfl) (zia zub (zja (zle T).up hr rfl T.zsb.m T.zsb.F.kp (zeg T) .nil zwa (zaa (pv 0) (zaa (zia zsd zda (zia zuh zda (pv 6))) zca))) zda))
   (zba (zla (i:=8) zpb.nd rfl (.inl rfl) (zia zub (zja (zle T).up hr rfl T.zsb.m T.zsb.F.kp (zeg T) .nil zwa (zaa (pv 0) (zaa (zia zsd zda (zia zuh zda (pv 6))) zca))) zda))
   (zba (zla (i:=9) zpb.nd rfl (.inl rfl) (zia zub (zia zec (pv 7) zda) zda))
   (zba (zla (i:=10) zpb.nd rfl (.inl rfl) (zlb (zscb rfl) rfl T.zcib boot_min (zaa (pv 3) (zaa (zia ztj zda (zlc zfpb rfl T.znkb boot_int (zaa (znh zajb (zia zub (pv 9) zda) zda (zbb _)) zca))) zca))))
   (zba (zla (i:=11) zpb.nd rfl (.inl rfl) (zja (zxx T) hr rfl T.zyd.m T.zyd.F.kp (zedb T) .nil zwa (zaa (pv 8) (zaa (pv 1) (zaa (pv 10) (zaa (zia zub (zja (zle T).up hr rfl T.zsb.m T.zsb.F.kp (zeg T) .nil zwa (zaa (pv 0) (zaa zda zca))) zda) zca))))))
   (zba (zla (i:=3) zpb.nd rfl (.inl rfl) (zia ztj (pv 3) (zlb zmc rfl T.zzk yed (zaa (pv 11) zca))))
   (zba (zla (i:=12) zpb.nd rfl (.inl rfl) (zia ztj (zia zsd (zia zuh (zia zub (zja (zle T).up hr rfl T.zsb.m T.zsb.F.kp (zeg T) .nil zwa (zaa (pv 0) (zaa (zia zsd zda (zia zuh zda (pv 6))) zca))) (zia znmb zda zda)) zda) (pv 6)) (zia znmb zda zda)))
   (zba (zla (i:=13) zpb.nd rfl (.inl rfl) (zlc zpd rfl T.zgh yoi (zaa (zlb zwk rfl T.zsg ylj (zaa (zge (own:=["_law_j"]) (cap:=["_law_names_here","_law_cell"]) rfl (zrb.chk rfl rfl) (.cons (j:=1) rfl (.inl rfl) (.inl rfl) (.cons (j:=7) rfl (.inl rfl) (.inl rfl) .nil)) (zbg rfl T.zih (zaa zda zca)) (λ_ _ _ _=>(zva (i:=0) (show ywb (["_law_j","_law_names_here","_law_cell"]:List Str) by decide +kernel) rfl (.inl rfl))) (λ_ _ _ _=>zmj (zra zed (zia zub (zia zec (pv 2) (zkb (zxc K) (zgb (zaa zda (zaa zda (zaa zda zca)))) (pv 0) (λ_ _=>rfl))) zda) zda (zbb _))) (λ_ _ _ _=>by exact (zkb (zkhb K) (pv 1) (pv 0) (λ_ _=>rfl)))) zca)) zca)))
   (zba (zla (i:=14) zpb.nd rfl (.inl rfl) (zkb zxb (zgb (zaa (zia zub (zia zec (pv 7) zda) zda) (zaa (zia zub (zia zec (pv 7) zda) zda) zca))) (zia zec (zia zub (zia zec (pv 7) zda) zda) zda) (λ_ _=>rfl)))
   (zba (zla (i:=15) zpb.nd rfl (.inl rfl) (ztm yff yqo yro zzmb zpa (zaa (zlb zwk rfl T.zsg ylj (zaa (zge (own:=["_law_j"]) (cap:=["_law_names_here","_law_cell"]) rfl (zrb.chk rfl rfl) (.cons (j:=1) rfl (.inl rfl) (.inl rfl) (.cons (j:=7) rfl (.inl rfl) (.inl rfl) .nil)) (zbg rfl T.zih (zaa zda zca)) (λ_ _ _ _=>(zva (i:=0) (show ywb (["_law_j","_law_names_here","_law_cell"]:List Str) by decide +kernel) rfl (.inl rfl))) (λ_ _ _ _=>zmj (zra zed (zia zub (zia zec (pv 2) (zkb (zxc K) (zgb (zaa zda (zaa zda (zaa zda zca)))) (pv 0) (λ_ _=>rfl))) zda) zda (zbb _))) (λ_ _ _ _=>by exact (zkb (zkhb K) (pv 1) (pv 0) (λ_ _=>rfl)))) zca)) zca)))
   (zba (zla (i:=16) zpb.nd rfl (.inl rfl) (zia zeb (zia zeb (zia zeb (zia zeb (zia zeb zpa (zlc zpl rfl T.zsz yds (zaa (zia zub (pv 8) zda) zca))) zpa) (zlc zpl rfl T.zsz yds (zaa (pv 14) zca))) zpa) (zfd zqyb (zia zeb (pv 15) zpa) zpe (zoe (zlb (zepb rfl) rfl T.zcqb boot_max (zaa zda (zaa (zlb zrl rfl T.zzk yed (zaa (pv 15) zca)) zca)))))))
   (zea (zkf (ztm yac yyd yzd zuj (pv 4) (zaa (zgb (zaa (zkb zli (pv 5) (pv 6) (λ_ _=>rfl)) (zaa (pv 14) (zaa (zia zub (zia zec (pv 7) zda) zda) (zaa (pv 12) (zaa (pv 13) (zaa (pv 11) (zaa (pv 9) (zaa (pv 16) zca))))))))) zca))))))))))))))))
  (zea (zoa (pv 4))))))),?_⟩
 refine⟨sz0,λrl hrl=>?_⟩;refine laid hrl λH1 S1 e1=>?_;refine⟨sz0,λnu hnu=>?_⟩;have nrn:rl≠nu:=zka e1 hnu;refine laid hnu λH2 S2 e2=>?_;refine⟨16,rfl,by decide,by decide,?_⟩;refine zyj (lo:=0) (n:=(16:Int).toNat) (λi σ H'=>Ex12 λ(ks:List Int) o6 o7 o8 o9 o10 o11 o12 o13 o14 o15 o16=>σ=[some (.ref sa),some (.ref nl),some (.int (many:Int)),some (.int (most:Int)),some (.ref rl),some (.ref nu),o6,o7,o8,o9,o10,o11,o12,o13,o14,o15,o16]∧H' nu=some (.lst (ks.map V.int))∧ks.Perm ((ywe i).map λj:Nat=>(0:Int)+(j:Int))∧Same H1 H') ⟨[],_,_,_,_,_,_,_,_,_,_,_,rfl,e2,.nil,S2⟩ ?_ ?_
 ·rintro i σ H' hi ⟨ks,o6,o7,o8,o9,o10,o11,o12,o13,o14,o15,o16,rfl,f',pk,S'⟩;have i16:i<16:=hi;have kl:ks.length=i:=by rw[pk.length_eq,yea,yze]
  refine⟨_,rfl,.inl ⟨rfl,_,SqL.of f'⟩,_,rfl,sa,ss,2,rfl,hS.same (S1.trans S'),h63,by decide,λz=>?_⟩;have m:=zvc (z / (0+(i:Int)+1)) (m:=0+(i:Int)+1) (by omega);refine⟨_,rfl,_,_,rfl,rfl,_,_,rfl,rfl,⟨by omega,by omega⟩,_,rfl,_,_,rfl,rfl,_,_,rfl,rfl,(by show (0:Int)<0+(i:Int)+1;omega),_,rfl,nu,_,_,_,rfl,rfl,f',m.1,(by rw[yea];omega),(by rw[yea];omega),?_⟩;refine⟨ks.take (z / (0+(i:Int)+1) % (0+(i:Int)+1)).toNat++(0+(i:Int))::ks.drop (z / (0+(i:Int)+1) % (0+(i:Int)+1)).toNat,_,_,_,_,_,_,_,_,_,_,_,rfl,?_,?_,zke S' hnu _⟩
  ·rw[zfa,ykb,ybb,List.map_take,List.map_drop]
  ·rw[ypo,ykb];exact zksb _ pk
 rintro σ H3 ⟨ks,o6,o7,o8,o9,o10,o11,o12,o13,o14,o15,o16,rfl,f3,pk,S3⟩;have kl:ks.length=16:=by rw[pk.length_eq,yea,yze];rfl
 have knd:ks.Nodup:=by
  refine pk.nodup_iff.mpr ?_;decide +kernel
 have kin:∀x∈ks,0≤x∧x<16:=λx hx=>by
  obtain⟨j,hj,rfl⟩:=yjb.mp (pk.mem_iff.mp hx);have:=ynj.mp hj;have e16:(16:Int).toNat=16:=rfl;omega
 refine⟨_,rfl,_,rfl,by omega,by omega,?_⟩;rw[yjc];refine zyj (lo:=0) (n:=many) (λi σ H'=>Ex14 λus rs (mo:Nat) o6 o7 o8 o9 o10 o11 o12 o13 o14 o15 o16=>σ=[some (.ref sa),some (.ref nl),some (.int (many:Int)),some (.int (mo:Int)),some (.ref rl),some (.ref nu),o6,o7,o8,o9,o10,o11,o12,o13,o14,o15,o16]∧mo≤100∧H' nu=some (.lst (ks.map V.int))∧H' rl=some (.lst us)∧zqk rl H' us rs∧rs.map (·.num)=ks.take i∧(∀r∈rs,r.ok)∧Same H H') ⟨[],[],most,_,_,_,_,_,_,_,_,_,_,_,rfl,hmost,f3,S3 _ _ e1,.nil,rfl,by simp,S1.trans S3⟩ ?_ ?_
 ·rintro i σ H' hi ⟨us,rs,mo,o6,o7,o8,o9,o10,o11,o12,o13,o14,o15,o16,rfl,hmo,fn,fr,RW,em,hok,S'⟩;have i16:i<16:=by omega
  have rsl:rs.length=i:=by
   have:=congrArg ylg em;rw[yea,yza] at this;omega
  have hS':=hS.same S';have N':=N0.same S';refine⟨_,rfl,_,rfl,_,_,rfl,rfl,.inl ⟨by decide,by decide⟩,_,_,rfl,rfl,sa,ss,4+3*i,(by show [V.ref sa,V.int (4+3*(0+(i:Int)))]=_;rw[show 4+3*(0+(i:Int))=((4+3*i:Nat):Int) by omega]),hS',h63,by omega,λz1=>⟨_,_,rfl,rfl,(by show (0:Int)<2147483647;decide),?_⟩⟩;dsimp only;generalize z1 % 2147483647=cell;refine⟨_,rfl,_,rfl,_,_,rfl,rfl,.inl ⟨by decide,by decide⟩,_,_,rfl,rfl,sa,ss,5+3*i,(by show [V.ref sa,V.int (5+3*(0+(i:Int)))]=_;rw[show 5+3*(0+(i:Int))=((5+3*i:Nat):Int) by omega]),hS',h63,by omega,λz2=>⟨_,_,rfl,rfl,(by show (0:Int)<2147483647;decide),?_⟩⟩;dsimp only;generalize z2 % 2147483647=mixed;refine⟨_,rfl,_,_,rfl,rfl,⟨by decide,by decide⟩,_,_,rfl,rfl,(by show (0:Int)<9;decide),?_⟩;have s9:=zvc (cell / 480) (m:=9) (by decide);obtain⟨sp,hsp⟩:∃sp:Nat,cell / 480 % 9=(sp:Int):=⟨(cell / 480 % 9).toNat,by omega⟩;dsimp only;rw[hsp];have room:(if decide ((sp:Int) % 3>0)=true then (1:Int) else 0)=((if 0<sp % 3 then 1 else 0:Nat):Int):=by
   by_cases c:0<sp % 3
   ·rw[if_pos c,if_pos (decide_eq_true (by omega))];rfl
   ·rw[if_neg c,if_neg (by intro z;have:=of_decide_eq_true z;omega)];rfl
  refine⟨_,rfl,_,rfl,_,_,rfl,rfl,(by show (0:Int)<3;decide),_,_,rfl,rfl,.inr ⟨_,rfl,_,_,rfl,rfl,_,_,rfl,?_⟩⟩;dsimp only;rw[room];generalize hex:(if 0<sp % 3 then 1 else 0:Nat)=ex;have ex1:ex≤1:=by rw[← hex];split<;>omega
  refine⟨_,rfl,_,rfl,_,rfl,_,rfl,sa,ss,3,rfl,hS',h63,by decide,λz3=>⟨_,_,rfl,rfl,(by show (0:Int)<5;decide),?_⟩⟩;have k5:=zvc z3 (m:=5) (by decide);obtain⟨kd,hkd⟩:∃kd:Nat,z3 % 5=(kd:Int):=⟨(z3 % 5).toNat,by omega⟩;dsimp only;rw[hkd];refine⟨nl,ns,mixed,_,kd,rfl,by omega,(by split<;>omega),(by split<;>omega),N',λtl ws ru H4 S4 ntl etl RTr rlen=>?_⟩;have ntr:tl≠rl:=yge (zka fr ntl);have wl:ws.length=ru.length:=RTr.len;refine⟨_,rfl,_,rfl,tl,_,rfl,.inl (SqL.of etl),_,_,rfl,rfl,?_⟩;have rl2:ru.length≤mo∧ru.length+ex≤3:=by
   revert rlen
   split<;>intro rlen<;>omega
  obtain⟨mo2,hmo2⟩:∃mo2:Nat,(mo:Int)-(ws.length:Int)=(mo2:Int):=⟨mo-ws.length,by omega⟩;dsimp only;rw[hmo2];refine⟨_,rfl,_,rfl,_,_,rfl,rfl,.inl ⟨by decide,by decide⟩,_,_,rfl,rfl,sa,ss,6+3*i,(by show [V.ref sa,V.int (6+3*(0+(i:Int)))]=_;rw[show 6+3*(0+(i:Int))=((6+3*i:Nat):Int) by omega]),hS'.same S4,h63,by omega,λz4=>⟨_,_,rfl,rfl,⟨by decide,by decide,by decide⟩,_,_,rfl,rfl,(by show (0:Int)<10 ^ (9:Int).toNat;decide),_,_,rfl,rfl,.inr ⟨by decide,by decide⟩,_,rfl,_,_,rfl,rfl,_,_,rfl,rfl,⟨by decide,by decide,by decide⟩,_,_,rfl,rfl,?_⟩⟩;dsimp only;generalize z4 % 10 ^ (9:Int).toNat*16+(0+(i:Int))-10 ^ (9:Int).toNat=came;have N4:=N'.same S4;refine⟨3,rfl,by decide,by decide,?_⟩;refine zmw rfl N4 ⟨by decide,by decide⟩ ⟨by decide,by decide⟩ ⟨by decide,by decide⟩ λb ms H6 hs S6 e6=>?_;have ml:=hs.length_le;refine⟨b,ms,rfl,SqL.of e6,(by rw[N0.len] at ml;omega),λso zs hso pz sz=>?_⟩;have MK:=ztbb hs N0.len N0.ok N0.nd pz sz;refine laid hso λH7 S7 e7=>?_;refine⟨so,_,rfl,.inl ⟨SqL.of e7,λtm htm=>?_⟩⟩;refine laid htm λH8 S8 e8=>?_;have S48:=S6.trans (S7.trans S8);have N8:=N4.same S48;have etl8:=S48 _ _ etl;have RT8:=RTr.same S48;have S08:=S'.trans (S4.trans S48);have Srl:=S4.trans S48;clear S6 S7 S8 S48 e6 e7 hso htm hs pz sz;refine⟨_,rfl,_,_,rfl,rfl,⟨by decide,by decide⟩,_,_,rfl,rfl,(by show (0:Int)<5;decide),_,rfl,_,_,rfl,rfl,⟨by decide,by decide⟩,_,_,rfl,rfl,(by show (0:Int)<1000;decide),sz2,λt9 ht9=>?_⟩;refine laid ht9 λH9 S9 e9=>?_;have h9:=zcfb (cell / 7);have p5:=zvc (cell / 24) (m:=5) (by decide);obtain⟨fo,hfo,hfo2⟩:=zemb h9.1 h9.2 (x:=cell / 24 % 5) (y:=cell / 24 % 1000) ⟨p5.1,by omega⟩ (zvc (cell / 24) (by decide));refine⟨_,rfl,_,_,rfl,rfl,⟨by decide,by decide⟩,_,_,rfl,rfl,(by show (0:Int)<9;decide),_,_,rfl,rfl,⟨by decide,by decide⟩,t9,_,_,_,rfl,rfl,SqT.of e9,hfo,?_⟩;have N9:=N8.same S9;refine⟨rfl,?_⟩;refine⟨3,rfl,by decide,by decide,?_⟩;refine zmw rfl N9 ⟨by decide,by decide⟩ ⟨by decide,by decide⟩ ⟨by decide,by decide⟩ λb2 ms2 H11 hs2 S11 e11=>?_;have ml2:=hs2.length_le;refine⟨b2,ms2,rfl,SqL.of e11,(by rw[N0.len] at ml2;omega),λso2 ow hso2 pz2 sz2=>?_⟩;have OW:=ztbb hs2 N0.len N0.ok N0.nd pz2 sz2;refine laid hso2 λH12 S12 e12=>?_;have owl:ow.length≤3:=by
   rw[pz2.length_eq];rw[N0.len] at ml2;exact ml2
  have ols:(ow.map (·.length)).sum≤24:=by
   have z:=zjv (l:=ow.map (·.length)) (k:=8) λx hx=>by
    obtain⟨u,hu,rfl⟩:=yjb.mp hx;exact (OW.ok u hu).2.1
   rw[yea] at z;omega
  have c1:(",":Str).length=1:=rfl;refine⟨",",so2,ow,rfl,rfl,SqL.of e12,(by rw[c1];omega),?_⟩;have ol:(ywa "," ow).length≤100:=by
   have:=zmk "," ow;rw[c1] at this;omega
  have S912:=S9.trans (S11.trans S12);clear S9 S11 S12 e9 e11 e12 hso2 hs2 pz2 sz2 ht9 N9;have m1000:=zvc mixed (m:=1000) (by decide);obtain⟨co,hco⟩:∃co:Nat,mixed % 1000=(co:Int):=⟨(mixed % 1000).toNat,by omega⟩;have co2:co<1000:=by omega
  have cl:(toString (co:Int):Str).length≤8:=(zem co2).2.2;have fl:(toString (fo:Int):Str).length≤8:=(zem hfo2).2.2;have x2:("x ":Str).length=2:=by decide
  have b1:(" ":Str).length=1:=rfl;have d1:("-":Str).length=1:=rfl;have mlen:=(zvj OW).2;refine⟨_,rfl,_,_,rfl,rfl,(by show (0:Int)<1000;decide),(co:Int),(by show [V.int (mixed % 1000)]=_;rw[hco]),(by rw[yfl];exact zgt _ co2),_,_,rfl,rfl,small (by omega),_,_,rfl,rfl,(by rw[len_app];exact small (by omega)),?_⟩;refine⟨_,rfl,(fo:Int),rfl,(by rw[yfl];exact zgt _ hfo2),_,_,rfl,rfl,(by simp only[len_app];exact small (by omega)),_,_,rfl,rfl,(by simp only[len_app];exact small (by omega)),?_⟩;refine⟨_,rfl,_,_,rfl,rfl,small (by omega),_,rfl,_,rfl,small (by omega),_,_,rfl,_,rfl,_,rfl,(by rw[len_app];exact small (by omega)),λt' et _=>?_⟩;rw[zkwb OW] at et;subst et;refine⟨_,_,rfl,rfl,(by simp only[len_app];exact small (by omega)),?_⟩;have fn2:=S912 _ _ (Srl _ _ fn);have fr2:=S912 _ _ (Srl _ _ fr);have ki:ks[i]?=some (ks[i]'(by omega)):=yoa _;have kat:atI (ks.map V.int) (0+(i:Int))=some (.int (ks[i]'(by omega))):=by
   rw[ywj];refine zna ?_;rw[yya,ki];rfl
  refine⟨_,rfl,.inl ⟨rfl,_,SqL.of fr2⟩,_,rfl,_,rfl,nu,_,_,_,rfl,rfl,SqL.of fn2,kat,_,rfl,_,rfl,_,_,rfl,rfl,⟨by decide,by decide⟩,_,_,rfl,rfl,(by show (0:Int)<4;decide),_,rfl,_,rfl,_,rfl,_,rfl,_,rfl,sz8,λtr htr=>?_⟩;refine laid htr λH13 S13 e13=>?_;have S013:=S08.trans (S912.trans S13);have fr3:=S13 _ _ fr2;refine⟨rl,_,_,rfl,rfl,fr3,(by rw[RW.len];exact zei (by omega)),?_⟩;have kk:=kin _ (ycn (l:=ks) (n:=i) (by omega));have p4:=zvc (cell / 120) (m:=4) (by decide);have row:RowT rl H13 (.ref tr) ⟨ks[i]'(by omega),cell / 120 % 4,came,fo,co,sp,zs,ow,ru⟩:=by
   refine⟨tr,tm,tl,ws,rfl,?_,S13 _ _ (S912 _ _ e8),S13 _ _ (S912 _ _ etl8),ntr,RT8.same (S912.trans S13)⟩;rw[e13];show some (HO.tup [_,_,_,_,_,_,_,V.str _])=some (HO.tup [_,_,_,_,_,_,_,V.str _])
   rw[← zaob]
  refine⟨us++[.ref tr],rs++[⟨ks[i]'(by omega),cell / 120 % 4,came,fo,co,sp,zs,ow,ru⟩],mo2,_,_,_,_,_,_,_,_,_,_,_,rfl,by omega,?_,zfa,?_,?_,?_,zke S013 hrl _⟩
  ·rw[zta (yge nrn)];exact S13 _ _ fn2
  ·exact zqk.snoc (row.put fr3) (RW.map λ{_ _} z=>(z.same (Srl.trans (S912.trans S13))).put fr3)
  ·rw[ykb,em,yva,ki];rfl
  ·intro r hr
   rcases yeb.mp hr with z|z
   ·exact hok r z
   ·rw[yga.mp z];refine⟨kk.1,kk.2,p4.1,p4.2,hfo2,co2,by show sp<9;omega,MK,OW,?_⟩;show ru.length+(if 0<sp % 3 then 1 else 0)≤3
    rw[hex];exact rl2.2
 ·rintro σ H' ⟨us,rs,mo,o6,o7,o8,o9,o10,o11,o12,o13,o14,o15,o16,rfl,hmo,fn,fr,RW,em,hok,S'⟩;have rsl:rs.length=many:=by
   have:=congrArg ylg em;rw[yea,yza] at this;omega
  refine⟨_,rfl,q rl us rs H' S' hrl fr RW rsl hok ?_⟩;rw[em];exact (yuq _ _).nodup knd
def extra:Nat->Rule
 | 0=>.may 0 ⟨"each","score",.num 1,.all⟩
 | 1=>.wen "come" .all ⟨"one","hurt",.num 1,.self⟩
 | _=>.instead "hurt" .all "none" .non
theorem zty:∀k,(extra k).ok
 | 0=>⟨by decide,by show ("each":Str)∈zocb;decide,.score (by decide),⟨trivial,by decide⟩⟩
 | 1=>⟨by show ("come":Str)∈zrn;decide,⟨trivial,by decide⟩,by show ("one":Str)∈zocb;decide,.hurt (by decide),⟨trivial,by decide⟩⟩
 | _+2=>⟨by show ("hurt":Str)∈zdg;decide,⟨trivial,by decide⟩,by show ("none":Str)∈turns "hurt";decide,.none⟩
def preR (sp:Nat):List Rule:=if sp % 3=1 then [extra (sp / 3)] else []
def postR (sp:Nat):List Rule:=if sp % 3=2 then [extra (sp / 3)] else []
def crd (r:R8):Crd:=⟨"x",r.cost,r.force,r.own,preR r.spare++r.rules++postR r.spare⟩
theorem zbzb (sp:Nat):∀r∈preR sp,r.ok:=by
 unfold preR
 split
 ·intro r hr;rw[yga.mp hr];exact zty _
 ·simp
theorem zawb (sp:Nat):∀r∈postR sp,r.ok:=by
 unfold postR
 split
 ·intro r hr;rw[yga.mp hr];exact zty _
 ·simp
theorem zqtb (sp:Nat):(preR sp).length+(postR sp).length≤(if 0<sp % 3 then 1 else 0):=by
 unfold preR postR;have:sp % 3=0∨sp % 3=1∨sp % 3=2:=by omega
 rcases this with h|h|h<;>simp[h]
theorem x_ok:zdd ("x":Str):=by
 have q:∀u∈(["x"]:List Str),1≤u.length∧u.length≤8∧∀c∈u.cps.toList,97≤c∧c≤122:=by decide +kernel
 exact q _ (by simp)
theorem ztx {r:R8}(h:r.ok)(hr:∀q∈r.rules,q.ok){rs:List Rule}(h1:∀q∈rs,q∈preR r.spare∨q∈r.rules∨q∈postR r.spare)(h2:rs.length≤3):(Crd.mk "x" r.cost r.force r.own rs).ok :=
 ⟨x_ok,h.co,h.fo,h.ow,λq hq=>by
  rcases h1 q hq with z|z|z
  ·exact zbzb _ q z
  ·exact hr q z
  ·exact zawb _ q z,h2⟩
theorem zyob {r:R8}(h:r.ok)(hr:∀q∈r.rules,q.ok):(crd r).ok:=by
 refine ztx h hr (λq hq=>?_) ?_
 ·rcases yeb.mp hq with z|z
  ·rcases yeb.mp z with z|z
   ·exact .inl z
   ·exact .inr (.inl z)
  ·exact .inr (.inr z)
 ·have:=h.ru;have:=zqtb r.spare;rw[yja,yja];omega
def tx (r:R8)(rs:List Rule):Str:=(Crd.mk "x" r.cost r.force r.own rs).text
theorem zukb (r:R8)(rs:List Rule)(q:Rule):tx r rs ++ " / " ++ zmd q=tx r (rs++[q]):=by
 show ywa SL (_::rs.map zmd) ++ " / " ++ zmd q=ywa SL (_::(rs++[q]).map zmd)
 rw[ykb];exact (zgm SL (ytc _ _) (ytc (zmd q) [])).symm
theorem zyjb:∀k:Nat,k<3->atI [V.str " / may 0 do each score 1 all",V.str " / when come all do one hurt 1 self",V.str " / instead hurt all do none"] (k:Int)=some (.str (" / " ++ zmd (extra k))):=by
 intro k hk;have:k=0∨k=1∨k=2:=by omega
 rcases this with rfl|rfl|rfl
 ·exact (zna (j:=0) rfl).trans (by rw[show (" / may 0 do each score 1 all":Str) = " / " ++ zmd (extra 0) by decide +kernel])
 ·exact (zna (j:=1) rfl).trans (by rw[show (" / when come all do one hurt 1 self":Str) = " / " ++ zmd (extra 1) by decide +kernel])
 ·exact (zna (j:=2) rfl).trans (by rw[show (" / instead hurt all do none":Str) = " / " ++ zmd (extra 2) by decide +kernel])
def zlvb (B D:Addr):Sp:=λvs H Q _=>Ex3 λv x (r:R8)=>vs=[v]∧RowT x H v r∧r.ok∧∀v' H',Same H H'->zvw B D H' v' (crd r)->Q v' H'
theorem zobb (T:Tx K mg)(kb:K.In base):FnOk P w K mg base CX0 10 T.zgf.f T.zgf.d zmn (zlvb T.zbd T.zib):=by
 refine T.zgf.ok zfe ?_;rintro f c A o s H vs Q E hr ⟨v,x,r,rfl,rt,ok,q⟩ X;obtain⟨a,tm,tl,us,rfl,ea,em,el,_,RU⟩:=rt;have rok:=RU.ok;refine⟨_,  (zba (zla (i:=1) zfe.nd rfl (.inl rfl) (zkb zxb (pv 0) zda (λ_ _=>rfl)))
  (zba (zla (i:=2) zfe.nd rfl (.inl rfl) (zgb (zaa zpa (zaa zpa (zaa zpa zca)))))
  (zba (zcc (zra zed (zia zub (zkb zxb (pv 0) zda (λ_ _=>rfl)) zda) zda (zbb _))
   (zea (zla (i:=1) zfe.nd rfl (.inl rfl) (zia zeb (pv 1) (zkb zxb (pv 2) (zia zec (zkb zxb (pv 0) zda (λ_ _=>rfl)) zda) (λ_ _=>rfl)))))
   zua)
  (zba (zaj ygc rfl (zgd (zkb zxb (pv 0) zda (λ_ _=>rfl))) (zva (i:=3) zfe.nd rfl (.inl rfl))
   (zea (zla (i:=1) zfe.nd rfl (.inl rfl) (zia zeb (zia zeb (pv 1) zpa) (zja (zfp T).up hr rfl T.znc.m T.znc.F.kp (zir T) .nil zwa (zaa (pv 3) zca))))))
  (zba (zcc (zra zed (zia zub (zkb zxb (pv 0) zda (λ_ _=>rfl)) zda) zda (zbb _))
   (zea (zla (i:=1) zfe.nd rfl (.inl rfl) (zia zeb (pv 1) (zkb zxb (pv 2) (zia zec (zkb zxb (pv 0) zda (λ_ _=>rfl)) zda) (λ_ _=>rfl)))))
   zua)
  (zea (zoa (zja (zfbb T kb) hr rfl T.zaf.m T.zaf.F.kp (znfb T) .nil zwa (zaa (pv 1) zca))))))))),?_⟩
 refine⟨_,rfl,a,_,_,_,rfl,rfl,SqT.of ea,zna (j:=7) rfl,?_⟩;refine⟨sz3,λot hot=>?_⟩;refine laid hot λH1 S1 eo=>?_;have ea1:=S1 _ _ ea;have el1:=S1 _ _ el;have RU1:=RU.same S1;have sp9:=ok.sp;have k3:((r.spare:Int) / 3)=((r.spare / 3:Nat):Int):=by omega
 have xt:=zyjb (r.spare / 3) (by omega);have exl:(" / " ++ zmd (extra (r.spare / 3)):Str).length≤453:=by
  rw[len_app];have:=zfo (zty (r.spare / 3));have:(" / ":Str).length=3:=by decide
  omega
 have t0:tx r []=zbob r.cost r.force r.own:=rfl;have tl0:=zax (ztx ok rok (rs:=[]) (by simp) (by simp));have ruL:=ok.ru;have ppL:=zqtb r.spare;refine⟨_,rfl,a,_,_,_,rfl,rfl,SqT.of ea1,zna (j:=6) rfl,_,_,rfl,rfl,(by show (0:Int)<3;decide),rfl,_,rfl,ite2 (λc1=>?g1) (λc1=>?g2)⟩
 case' g1 =>
  have m1:r.spare % 3=1:=by
   have z:V.int ((r.spare:Int) % 3)=V.int 1:=of_decide_eq_true c1;injection z with z
   omega
  refine⟨_,rfl,_,rfl,_,rfl,a,_,_,_,rfl,rfl,SqT.of ea1,zna (j:=6) rfl,_,_,rfl,rfl,⟨by decide,by decide⟩,ot,_,_,_,rfl,rfl,SqT.of eo,(by show atI _ ((r.spare:Int) / 3)=_;rw[k3];exact xt),_,_,rfl,rfl,(by rw[← t0];show (tx r []).length+_≤_;exact yua (yfp tl0 exl) (by decide)),?_⟩;have et:zbob r.cost r.force r.own++(" / " ++ zmd (extra (r.spare / 3)))=tx r (preR r.spare):=by
   unfold preR;rw[if_pos m1,← t0,← zun];exact zukb r [] _
  rw[et]
 case' g2 =>
  have m1:¬ r.spare % 3=1:=λz=>c1 (decide_eq_true (by show V.int ((r.spare:Int) % 3)=V.int 1;rw[show ((r.spare:Int) % 3)=1 by omega]));have et:zbob r.cost r.force r.own=tx r (preR r.spare):=by
   unfold preR;rw[if_neg m1];rfl
  rw[et]
 all_goals
  clear c1 et;refine⟨_,rfl,a,_,_,_,rfl,rfl,SqT.of ea1,zna (j:=5) rfl,tl,rfl,⟨_,SqL.of el1⟩,?_⟩;refine zqo (xs:=us) (λi σ H'=>∃o3,σ=[some (.ref a),some (.str (tx r (preR r.spare++r.rules.take i))),some (.ref ot),o3]∧Same H1 H') ⟨_,by rw[yol,ylb];rfl,Same.refl _⟩ ?_ ?_ ?_
  ·rintro i σ H' _ ⟨o3,rfl,S⟩;exact SqL.of (S _ _ el1)
  ·rintro i u σ H' hu ⟨o3,rfl,S⟩;obtain⟨p,ep,rp⟩:=RU1.get hu;have tli:=zax (ztx ok rok (rs:=preR r.spare++r.rules.take i) (λq hq=>by
    rcases yeb.mp hq with z|z
    ·exact .inl z
    ·exact .inr (.inl (yxo z))) (by rw[yja,yza];omega))
   have pl:=zfo rp.ok;have s3:(" / ":Str).length=3:=by decide
   refine⟨_,rfl,_,_,rfl,rfl,(by rw[s3];show (tx r _).length+3≤_;exact yua (yuf tli 3) (by decide)),_,rfl,u,p,rfl,rp.same S,λH2 S2=>⟨_,_,rfl,rfl,?_,?_⟩⟩
   ·rw[len_app,s3];exact yua (yfp (yuf tli 3) pl) (by decide)
   ·have en:tx r (preR r.spare++r.rules.take i) ++ " / " ++ zmd p=tx r (preR r.spare++r.rules.take (i+1)):=by
     rw[zukb,yva,ep,ymd];rfl
    rw[en];exact⟨some u,rfl,S.trans S2⟩
  ·rintro σ H' ⟨o3,rfl,S⟩;rw[ypa (by rw[RU1.len];exact yha _)];have tli:=zax (ztx ok rok (rs:=preR r.spare++r.rules) (λq hq=>by
    rcases yeb.mp hq with z|z
    ·exact .inl z
    ·exact .inr (.inl z)) (by rw[yja];omega))
   refine⟨_,rfl,a,_,_,_,rfl,rfl,SqT.of (S _ _ ea1),zna (j:=6) rfl,_,_,rfl,rfl,(by show (0:Int)<3;decide),rfl,_,rfl,ite2 (λc2=>?_) (λc2=>?_)⟩
   ·have m2:r.spare % 3=2:=by
     have z:V.int ((r.spare:Int) % 3)=V.int 2:=of_decide_eq_true c2;injection z with z
     omega
    refine⟨_,rfl,_,rfl,_,rfl,a,_,_,_,rfl,rfl,SqT.of (S _ _ ea1),zna (j:=6) rfl,_,_,rfl,rfl,⟨by decide,by decide⟩,ot,_,_,_,rfl,rfl,SqT.of (S _ _ eo),(by show atI _ ((r.spare:Int) / 3)=_;rw[k3];exact xt),_,_,rfl,rfl,(by show (tx r _).length+_≤_;exact yua (yfp tli exl) (by decide)),?_⟩;have et:tx r (preR r.spare++r.rules)++(" / " ++ zmd (extra (r.spare / 3)))=(crd r).text:=by
     rw[← zun,zukb];unfold crd postR;rw[if_pos m2];rfl
    rw[et];exact⟨_,rfl,crd r,rfl,zyob ok rok,λv' H2 S2 ic=>q v' H2 (S1.trans (S.trans S2)) ic⟩
   ·have m2:¬ r.spare % 3=2:=λz=>c2 (decide_eq_true (by show V.int ((r.spare:Int) % 3)=V.int 2;rw[show ((r.spare:Int) % 3)=2 by omega]));have et:tx r (preR r.spare++r.rules)=(crd r).text:=by
     unfold crd postR;rw[if_neg m2,ylb];rfl
    rw[et];exact⟨_,rfl,crd r,rfl,zyob ok rok,λv' H2 S2 ic=>q v' H2 (S1.trans (S.trans S2)) ic⟩
def LyT (B D:Addr)(H:Hp)(u:V)(r:R8):Prop:=Ex3 λa tm c=>u = .ref a∧H a=some (.tup [.int r.num,c,.int r.keeper,.int r.came,.ref tm])∧H tm=some (.tup (r.marks.map V.str))∧zvw B D H c (crd r)
theorem LyT.same {B D:Addr}{H H':Hp}(s:Same H H'){v:V}{r:R8}(h:LyT B D H v r):LyT B D H' v r:=by
 obtain⟨a,tm,c,rfl,h1,h2,h3⟩:=h;exact⟨a,tm,c,rfl,s _ _ h1,s _ _ h2,h3.same s⟩
theorem zdkb (n:Str)(c f:Nat)(m t:Addr):(cfs n c f m t).lookup ("force":Str)=some (.int f):=(zwc (by decide +kernel)).trans ((zwc (by decide +kernel)).trans zkk)
inductive All2 {α β:Type}(R:α->β->Prop):List α->List β->Prop where
 | nil:All2 R [] []
 | cons {a:α} {b:β} {as:List α} {bs:List β}:R a b->All2 R as bs->All2 R (a::as) (b::bs)
theorem All2.imp {α β:Type}{R S:α->β->Prop}(f:∀{a b},R a b->S a b){as:List α}{bs:List β}(z:All2 R as bs):All2 S as bs:=by
 induction z with
 | nil=>exact .nil
 | cons h _ ih=>exact .cons (f h) ih
theorem All2.snoc {α β:Type}{R:α->β->Prop}{a:α}{b:β}(h:R a b){as:List α}{bs:List β}(z:All2 R as bs):All2 R (as++[a]) (bs++[b]):=by
 induction z with
 | nil=>exact .cons h .nil
 | cons g _ ih=>exact .cons g ih
theorem All2.len {α β:Type}{R:α->β->Prop}{as:List α}{bs:List β}(z:All2 R as bs):as.length=bs.length:=by
 induction z with
 | nil=>rfl
 | cons _ _ ih=>rw[yfa,yfa,ih]
theorem All2.get {α β:Type}{R:α->β->Prop}:∀{as:List α} {bs:List β} {i:Nat} {a:α},All2 R as bs->as[i]?=some a->∃b,bs[i]?=some b∧R a b
 | _,_,_,_,.nil,e=>by simp at e
 | _,_,0,_,.cons h t,e=>by
  rw[yic] at e;cases e;exact⟨_,rfl,h⟩
 | _,_,i+1,_,.cons h t,e=>by
  rw[ycb] at e;obtain⟨u,h1,h2⟩:=t.get e;exact⟨u,by rw[ycb];exact h1,h2⟩
theorem All2.mem {α β:Type}{R:α->β->Prop}{as:List α}{bs:List β}(h:All2 R as bs){a:α}(ha:a∈as):∃b∈bs,R a b:=by
 induction h with
 | nil=>cases ha
 | cons r t ih =>
  rcases yla.mp ha with rfl|z
  ·exact⟨_,yka,r⟩
  ·obtain⟨b,hb,rb⟩:=ih z;exact⟨b,yma _ hb,rb⟩
theorem All2.perm {α β:Type}{R:α->β->Prop}{as cs:List α}(p:cs.Perm as):∀{bs:List β},All2 R as bs->∃ds,All2 R cs ds∧ds.Perm bs:=by
 induction p with
 | nil=>intro bs h;exact⟨bs,h,.refl _⟩
 | cons x p ih =>
  intro bs h;cases h with
  | cons r t =>
   obtain⟨ds,h1,h2⟩:=ih t;exact⟨_::ds,.cons r h1,h2.cons _⟩
 | swap x y l =>
  intro bs h;cases h with
  | cons r t =>
   cases t with
   | cons r' t'=>exact⟨_,.cons r' (.cons r t'),.swap _ _ _⟩
 | trans p1 p2 ih1 ih2 =>
  intro bs h;obtain⟨ds,h1,h2⟩:=ih2 h;obtain⟨es,h3,h4⟩:=ih1 h1;exact⟨es,h3,h4.trans h2⟩
def zrqb (B D:Addr):Sp:=λvs H Q _=>Ex4 λl x us rs=>vs=[.ref l]∧H l=some (.lst us)∧zqk x H us rs∧(∀r∈rs,r.ok)∧rs.length≤16∧∀p ws H',Same H H'->H p=none->H' p=some (.lst ws)->All2 (LyT B D H') ws rs->Q (.ref p) H'
theorem zay (T:Tx K mg)(kb:K.In base):FnOk P w K mg base CX0 11 T.zbe.f T.zbe.d zyl (zrqb T.zbd T.zib):=by
 refine T.zbe.ok zkx ?_;rintro f c A o s H vs Q E hr ⟨l,x,us,rs,rfl,el,RW,hok,h16,q⟩ X;have ul:=RW.len;refine⟨_,  (zea (zoa (zge (own:=["_law_row"]) (cap:=[]) rfl (zrb.chk rfl rfl) .nil (zgd (pv 0)) (λ_ _ _ _=>(zva (i:=0) (show ywb (["_law_row"]:List Str) by decide +kernel) rfl (.inl rfl))) (λ_ _ _ _=>zmh) (λ_ _ _ _=>by exact (zgb (zaa (zkb (zxc K) (pv 0) zda (λ_ _=>rfl)) (zaa (zja (zobb T kb) hr rfl T.zgf.m T.zgf.F.kp (ztfb T) .nil zwa (zaa (pv 0) zca)) (zaa (zkb (zxc K) (pv 0) zda (λ_ _=>rfl)) (zaa (zkb (zxc K) (pv 0) zda (λ_ _=>rfl)) (zaa (zkb (zxc K) (pv 0) zda (λ_ _=>rfl)) zca)))))))))),?_⟩;refine⟨_,rfl,l,rfl,⟨_,SqL.of el⟩,?_⟩;refine zyc (xs:=us) (λi ys H'=>Same H H'∧i≤us.length∧All2 (LyT T.zbd T.zib H') ys (rs.take i)) (λi ys H' z=>SqL.of (z.1 _ _ el)) ⟨Same.refl _,ygb _,.nil⟩ ?_ ?_ ?_
 ·rintro i ys H' ⟨_,hi,hy⟩;have:=hy.len;rw[yza] at this;exact small (by omega)
 ·rintro i u ys H' hu ⟨S,_,hy⟩;have hi:i<us.length:=(yia.mp hu).1;obtain⟨r,er,rt⟩:=RW.get hu;have rt':=rt.same S;obtain⟨a,tm,tl,ws,rfl,ea,em,et,_,_⟩:=id rt';refine⟨rfl,_,rfl,a,_,_,_,rfl,rfl,SqT.of ea,zna (j:=0) rfl,?_⟩;refine⟨_,rfl,_,x,r,rfl,rt',hok r (yra er),λv H2 S2 ic=>?_⟩;have ea2:=S2 _ _ ea;refine⟨_,rfl,a,_,_,_,rfl,rfl,SqT.of ea2,zna (j:=2) rfl,_,rfl,a,_,_,_,rfl,rfl,SqT.of ea2,zna (j:=3) rfl,_,rfl,a,_,_,_,rfl,rfl,SqT.of ea2,zna (j:=4) rfl,sz5,λt ht=>?_⟩;refine laid ht λH3 S3 e3=>?_;refine⟨S.trans (S2.trans S3),hi,?_⟩;rw[yva,er];exact All2.snoc ⟨t,tm,v,rfl,e3,S3 _ _ (S2 _ _ em),ic.same S3⟩ (hy.imp λz=>z.same (S2.trans S3))
 ·rintro ys H' ⟨S,_,hy⟩ p hp;rw[ypa (by omega)] at hy;refine laid hp λH2 S2 e2=>?_;exact q p ys H2 (S.trans S2) (none_of S hp) e2 (hy.imp λz=>z.same S2)
mutual
inductive AL (H:Hp):Nat->V->V->Prop where
 | str {n:Nat} (u:Str):AL H n (.str u) (.str u)
 | bl {n:Nat} (b:Bool):AL H n (.bl b) (.bl b)
 | int {n:Nat} (i:Int):AL H n (.int i) (.int i)
 | lst {n:Nat} {a b:Addr} {xs ys:List V}:H a=some (.lst xs)->H b=some (.lst ys)->ys.length≤1000->ALs H n xs ys->AL H (n+1) (.ref a) (.ref b)
 | tup {n:Nat} {a b:Addr} {xs ys:List V}:H a=some (.tup xs)->H b=some (.tup ys)->ys.length≤1000->ALs H n xs ys->AL H (n+1) (.ref a) (.ref b)
inductive ALs (H:Hp):Nat->List V->List V->Prop where
 | nil {n:Nat}:ALs H n [] []
 | cons {n:Nat} {x y:V} {xs ys:List V}:AL H n x y->ALs H n xs ys->ALs H n (x::xs) (y::ys)
end
mutual
theorem AL.same {H H':Hp}(s:Same H H'):∀{n:Nat} {x y:V},AL H n x y->AL H' n x y
 | _,_,_,.str u=>.str u
 | _,_,_,.bl u=>.bl u
 | _,_,_,.int u=>.int u
 | _,_,_,.lst h g l t=>.lst (s _ _ h) (s _ _ g) l (t.same s)
 | _,_,_,.tup h g l t=>.tup (s _ _ h) (s _ _ g) l (t.same s)
theorem ALs.same {H H':Hp}(s:Same H H'):∀{n:Nat} {xs ys:List V},ALs H n xs ys->ALs H' n xs ys
 | _,_,_,.nil=>.nil
 | _,_,_,.cons h t=>.cons (h.same s) (t.same s)
end
theorem zaab {n:Nat}(h:n+64<cLine):n+1<cLine:=by omega
def layW (w:Str):Int:=if w = "mute" then 0 else if w = "steal" then 1 else if w = "gain" ∨ w = "lack" then 2 else if w = "be" then 3 else 4
def lay:Rule->Int
 | .hold w _ _=>layW w
 | _=>0
def zpp:Rule->Bool
 | .hold _ _ _=>true
 | _=>false
def chAt (r:R8):Nat->List Rule->List (List Int)
 | _,[]=>[]
 | k,q::rs=>(if zpp q then [[lay q,r.came,r.num,(k:Int)]] else [])++chAt r (k+1) rs
theorem zur (r:R8):∀(k:Nat) (xs ys:List Rule),chAt r k (xs++ys)=chAt r k xs++chAt r (k+xs.length) ys
 | k,[],ys=>by rw[yrk];rfl
 | k,x::xs,ys=>by
  show _++chAt r (k+1) (xs++ys)=(_++chAt r (k+1) xs)++chAt r (k+(xs.length+1)) ys
  rw[zur r (k+1) xs ys,ymd,show k+1+xs.length=k+(xs.length+1) by omega]
theorem ztt (r:R8):∀(k:Nat) (xs:List Rule),(∀x∈xs,zpp x=false)->chAt r k xs=[]
 | _,[],_=>rfl
 | k,x::xs,h=>by
  show (if zpp x then _ else [])++chAt r (k+1) xs=[]
  rw[h x yka,ztt r (k+1) xs λz hz=>h z (yma _ hz)];rfl
def chs (r:R8):List (List Int):=chAt r (preR r.spare).length r.rules
theorem znhb:∀k,zpp (extra k)=false
 | 0=>rfl
 | 1=>rfl
 | _+2=>rfl
theorem zczb (sp:Nat):∀x∈preR sp,zpp x=false:=by
 unfold preR
 split
 ·intro x hx;rw[yga.mp hx];exact znhb _
 ·simp
theorem zbwb (sp:Nat):∀x∈postR sp,zpp x=false:=by
 unfold postR
 split
 ·intro x hx;rw[yga.mp hx];exact znhb _
 ·simp
theorem zkxb (r:R8):chAt r 0 (crd r).rules=chs r:=by
 show chAt r 0 (preR r.spare++r.rules++postR r.spare)=_
 rw[zur,zur,ztt r 0 _ (zczb _),ztt r _ _ (zbwb _),yrk,ylb,ygo];rfl
theorem zdpb (r:R8)(k:Nat)(xs:List Rule){i:Nat}{q:Rule}(h:xs[i]?=some q):chAt r k (xs.take (i+1))=chAt r k (xs.take i)++(if zpp q then [[lay q,r.came,r.num,((k+i:Nat):Int)]] else []):=by
 rw[yva,h,ypb,zur];have hl:(xs.take i).length=i:=by
  rw[yza];have:=(yia.mp h).1;omega
 rw[hl];show _++((if zpp q then [[lay q,r.came,r.num,((k+i:Nat):Int)]] else [])++[])=_
 rw[ylb]
theorem zto (r:R8):∀(k:Nat) (xs:List Rule),∀c∈chAt r k xs,Ex2 λ(l:Int) (j:Nat)=>c=[l,r.came,r.num,(j:Int)]∧k≤j∧j<k+xs.length
 | _,[],c,h=>by cases h
 | k,x::xs,c,h=>by
  rcases yeb.mp h with z|z
  ·have e:zpp x=true:=by
    cases e:zpp x with
    | true=>rfl
    | false=>rw[e] at z;cases z
   rw[e] at z;exact⟨_,k,yga.mp z,yha _,by rw[yfa];omega⟩
  ·obtain⟨l,j,e,h1,h2⟩:=zto r (k+1) xs c z;exact⟨l,j,e,by omega,by rw[yfa];omega⟩
theorem zpw (r:R8):∀(k:Nat) (xs:List Rule),(chAt r k xs).Nodup
 | _,[]=>.nil
 | k,x::xs=>by
  show ((if zpp x then [[lay x,r.came,r.num,(k:Int)]] else [])++chAt r (k+1) xs).Nodup
  rw[ymj];refine⟨?_,zpw r (k+1) xs,λa ha b hb z=>?_⟩
  ·split
   ·exact yre _ _
   ·exact .nil
  ·obtain⟨l,j,e,h1,_⟩:=zto r (k+1) xs b hb;cases e2:zpp x with
   | false=>rw[e2] at ha;cases ha
   | true =>
    rw[e2] at ha;rw[yga.mp ha,e] at z;injection z with _ z
    injection z with _ z
    injection z with _ z
    injection z with z _
    omega
theorem zxy (r:R8):∀(k:Nat) (xs:List Rule),(chAt r k xs).length≤xs.length
 | _,[]=>yha _
 | k,x::xs=>by
  have:=zxy r (k+1) xs;show ((if zpp x then [[lay x,r.came,r.num,(k:Int)]] else [])++chAt r (k+1) xs).length≤xs.length+1
  rw[yja]
  split
  ·show 1+_≤_;omega
  ·show 0+_≤_;omega
theorem zrpb {rs:List R8}(h:(rs.map (·.num)).Nodup):(rs.flatMap chs).Nodup:=by
 refine List.pairwise_flatMap.mpr ⟨λr _=>zpw r _ _,?_⟩;refine yjm ?_ (yrh.mp h);intro a b n x hx y hy z;obtain⟨l,j,e,_,_⟩:=zto a _ _ x hx;obtain⟨l',j',e',_,_⟩:=zto b _ _ y hy;rw[e,e'] at z;injection z with _ z
 injection z with _ z
 injection z with z _
 exact n z
theorem zgz {rs:List R8}(h:∀r∈rs,r.rules.length≤3):(rs.flatMap chs).length≤3*rs.length:=by
 induction rs with
 | nil=>exact yha _
 | cons r t ih =>
  rw[List.flatMap_cons,yja,yfa];have a:=zxy r (preR r.spare).length r.rules;have b:=h r yka;have c:=ih λz hz=>h z (yma _ hz);have d:(chs r).length≤r.rules.length:=a;omega
def ChT (H:Hp)(u:V)(c:List Int):Prop:=∃a,u = .ref a∧H a=some (.tup (c.map V.int))∧c.length=4
theorem ChT.same {H H':Hp}(s:Same H H'){u:V}{c:List Int}(h:ChT H u c):ChT H' u c:=by
 obtain⟨a,rfl,e,l⟩:=h;exact⟨a,rfl,s _ _ e,l⟩
theorem ChT.put {H:Hp}{x:Addr}{us vs:List V}{u:V}{c:List Int}(e:H x=some (.lst us))(h:ChT H u c):ChT (upd H x (.lst vs)) u c:=by
 obtain⟨a,rfl,e1,l⟩:=h;exact⟨a,rfl,by rw[zta (zng e1 e (by intro y;cases y))];exact e1,l⟩
def intOf:V->Int
 | .int i=>i
 | _=>0
def chG (H:Hp):V->List Int
 | .ref a=>match H a with
  | some (.tup xs)=>xs.map intOf
  | _=>[]
 | _=>[]
theorem ChT.key {H:Hp}{u:V}{c:List Int}(h:ChT H u c):chG H u=c:=by
 obtain⟨a,rfl,e,_⟩:=h;show (match H a with
  | some (.tup xs)=>xs.map intOf
  | _=>[])=c
 rw[e];show (c.map V.int).map intOf=c
 rw[yrd,show (intOf∘V.int)=id from rfl,yqs]
theorem zst {H:Hp}{us:List V}{cs:List (List Int)}(z:All2 (ChT H) us cs):us.map (chG H)=cs:=by
 induction z with
 | nil=>rfl
 | cons h _ ih=>rw[ybb,h.key,ih]
theorem ztv {cs ds es:List (List Int)}(h1:cs.Pairwise (· < ·))(h2:ds.Pairwise (· < ·))(p1:cs.Perm es)(p2:ds.Perm es):cs=ds :=
 yni (le:=λa b:List Int=>a<b) (λa b _ _ x y=>absurd (yqh x y) (ysf _)) h1 h2 (p1.trans p2.symm)
def zflb (B D:Addr):Sp:=λvs H Q _=>Ex3 λl us rs=>vs=[.ref l]∧H l=some (.lst us)∧All2 (LyT B D H) us rs∧(∀r∈rs,r.ok)∧(∀r∈rs,∀q∈r.rules,q.ok)∧rs.length≤16∧(rs.map (·.num)).Nodup∧∀p out cs H',Same H H'->H p=none->H' p=some (.lst out)->All2 (ChT H') out cs->cs.Perm (rs.flatMap chs)->cs.Pairwise (· < ·)->Q (.ref p) H'
theorem zqw (n:Str)(c f:Nat)(m t:Addr):(cfs n c f m t).lookup ("rules":Str)=some (.ref t):=(zwc (by decide +kernel)).trans ((zwc (by decide +kernel)).trans ((zwc (by decide +kernel)).trans ((zwc (by decide +kernel)).trans zkk)))
theorem zbhb {x:Addr}{H:Hp}{us:List V}{rs:List R8}(z:zqk x H us rs):∀r∈rs,∀q∈r.rules,q.ok:=by
 induction z with
 | nil=>exact λr h=>nomatch h
 | cons a _ ih =>
  intro r h
  rcases yla.mp h with rfl|h
  ·obtain⟨_,_,_,_,_,_,_,_,_,RU⟩:=a;exact RU.ok
  ·exact ih r h
theorem zcy {α β:Type}{f:α->β}{xs:List α}(nd:(xs.map f).Nodup){i j:Nat}{a b:α}(hi:xs[i]?=some a)(hj:xs[j]?=some b)(e:f a=f b):i=j:=by
 have h1:(xs.map f)[i]?=some (f a):=by rw[yya,hi];rfl
 have h2:(xs.map f)[j]?=some (f a):=by rw[yya,hj,e];rfl
 have li:=(yia.mp h1).1;exact (List.getElem?_inj li nd).mp (h1.trans h2.symm)
def fitN (rs:List Row)(r0:Row)(y:Wh):List Row:=rs.filter λr=>znj (some r) r0.num r0.keeper r.num y
def zdlb (D:Addr):Sp:=λvs H Q _=>Ex7 λsl us rs v av (y:Wh) (r0:Row)=>vs=[.ref sl,v,av]∧H sl=some (.lst us)∧zic H us rs∧rs.length≤16∧IsW D H v y∧y.depth≤9∧zak H av r0∧∀p H',Same H H'->H p=none->H' p=some (.lst ((fitN rs r0 y).map λr=>V.int r.num))->Q (.ref p) H'
theorem zbj (T:Tx K mg):FnOk P w K mg base CX0 21 T.zvb.f T.zvb.d zpg (zdlb T.zib):=by
 refine T.zvb.ok zao ?_;rintro f c A o s H vs Q E hr ⟨sl,us,rs,v,av,y,r0,rfl,el,R,h16,W,hd,RA,q⟩ X;have ul:=R.length;refine⟨_,  (zea (zoa (zge (own:=["row"]) (cap:=["whom","asker"]) rfl (zrb.chk rfl rfl) (.cons (j:=1) rfl (.inl rfl) (.inl rfl) (.cons (j:=2) rfl (.inl rfl) (.inl rfl) .nil)) (zgd (pv 0)) (λ_ _ _ _=>(zva (i:=0) (show ywb (["row","whom","asker"]:List Str) by decide +kernel) rfl (.inl rfl))) (λ_ _ _ _=>zmj (zuq (zqe (pv 1) T.zmb T.zza.M (zyq T 9) hr (zfg T) .nil zwa (zaa (pv 0) (zaa (zkb (zxc K) (pv 2) zda (λ_ _=>rfl)) (zaa (zkb (zxc K) (pv 2) zda (λ_ _=>rfl)) (zaa (zkb (zxc K) (pv 0) zda (λ_ _=>rfl)) zca))))))) (λ_ _ _ _=>by exact (zkb (zxc K) (pv 0) zda (λ_ _=>rfl)))))),?_⟩;refine⟨_,rfl,sl,rfl,⟨_,SqL.of el⟩,?_⟩;refine zyc (xs:=us) (λi ys H'=>H'=H∧i≤us.length∧ys=(fitN (rs.take i) r0 y).map λr=>V.int r.num) (λi ys H' z=>by rw[z.1];exact SqL.of el) ⟨rfl,ygb _,rfl⟩ ?_ ?_ ?_
 ·rintro i ys H' ⟨_,hi,rfl⟩;have h1:(fitN (rs.take i) r0 y).length≤(rs.take i).length:=ysb _ _;rw[yza] at h1;rw[yea];exact small (by omega)
 ·rintro i u ys H' hu ⟨rfl,_,rfl⟩;have hi:i<us.length:=(yia.mp hu).1;obtain⟨r,er,a,m,rfl,ea,em⟩:=R.get hu;have W0:=W;obtain⟨b,mb,rfl,eb,emb⟩:=RA;cases W with
  | @mk wa dx t ps _ h1 h2 h3 =>
  refine⟨rfl,?_⟩;refine⟨_,rfl,wa,dx,_,rfl,h1,zznb _ _ _ (by decide +kernel) (by decide +kernel) (by decide +kernel),_,rfl,_,rfl,b,_,_,_,rfl,rfl,SqT.of eb,zna (j:=0) rfl,_,rfl,b,_,_,_,rfl,rfl,SqT.of eb,zna (j:=1) rfl,_,rfl,a,_,_,_,rfl,rfl,SqT.of ea,zna (j:=0) rfl,_,.ref a,some r,r0.num,r0.keeper,r.num,y,rfl,W0,⟨a,m,rfl,ea,em⟩,hd,_,rfl,?_⟩;have e1:fitN (rs.take (i+1)) r0 y=fitN (rs.take i) r0 y++(if znj (some r) r0.num r0.keeper r.num y=true then [r] else []):=by
   unfold fitN;rw[yva,er,ypb,yie]
   congr 1
   by_cases c:znj (some r) r0.num r0.keeper r.num y=true
   ·rw[if_pos c,ynd (p:=λr=>znj (some r) r0.num r0.keeper r.num y) c];rfl
   ·rw[if_neg c,yce (p:=λr=>znj (some r) r0.num r0.keeper r.num y) c];rfl
  rw[e1];refine ite2 (λc=>?_) (λc=>?_)
  ·rw[if_pos c];exact⟨_,rfl,a,_,_,_,rfl,rfl,SqT.of ea,zna (j:=0) rfl,rfl,hi,by rw[ykb];rfl⟩
  ·rw[if_neg c,ylb];exact⟨rfl,hi,rfl⟩
 ·rintro ys H' ⟨rfl,_,rfl⟩ p hp;rw[ypa (by omega)];refine laid hp λH2 S2 e2=>?_;exact q p H2 S2 hp e2
def zpk (rs:List Row)(r0:Row)(w:Str)(h:Hv):V :=
 if w = "mute" then .int 0 else if w = "steal" then .int r0.keeper else match h with
 | .w y=>.int (fitN rs r0 y).length
 | .v (.num i)=>.int (if w = "less" then -(i:Int) else i)
 | .v x=>valV x
def zxqb (D:Addr):Sp:=λvs H Q _=>Ex11 λsl a us rs x u av (wd:Str) (h:Hv) (y:Wh) (r0:Row)=>vs=[.ref sl,.ref a,av]∧H sl=some (.lst us)∧zic H us rs∧rs.length≤16∧H a=some (.tup [.str "hold",.str wd,x,u])∧HvAt D H x h∧zqd wd h∧(∀z,h = .w z->z.depth≤9)∧zak H av r0∧∀H',Same H H'->Q (zpk rs r0 wd h) H'
theorem zlbb (T:Tx K mg):FnOk P w K mg base CX0 22 T.zdf.f T.zdf.d zjn (zxqb T.zib):=by
 refine T.zdf.ok zgq ?_;rintro f c A o s H vs Q E hr ⟨sl,a,us,rs,x,u,av,wd,hv,y,r0,rfl,el,R,h16,ea,hx,hok,hz,RA,q⟩ X;refine⟨_,  (zba (zla (i:=3) zgq.nd rfl (.inl rfl) (zkb zxb (pv 1) zda (λ_ _=>rfl)))
  (zba (zcc (zra zed (pv 3) zpa (zbb _))
   (zea (zoa zda))
   zua)
  (zba (zcc (zra zed (pv 3) zpa (zbb _))
   (zea (zoa (zkb zxb (pv 2) zda (λ_ _=>rfl))))
   zua)
  (zba (zcc (zra zed (pv 3) zpa (zbb _))
   (zea (zoa (ziwb ztkb (zkb zxb (pv 1) zda (λ_ _=>rfl)))))
   zua)
  (zba (zcc (zra zed (pv 3) zpa (zbb _))
   (zea (zoa (zlb zmc rfl T.zzk yed (zaa (zja (zbj T) hr rfl T.zvb.m T.zvb.F.kp (zzj T) .nil zwa (zaa (pv 0) (zaa (zkb zxb (pv 1) zda (λ_ _=>rfl)) (zaa (pv 2) zca)))) zca))))
   zua)
  (zea (zoa (zkb zxb (pv 1) zda (λ_ _=>rfl))))))))),?_⟩
 refine⟨_,rfl,a,_,_,_,rfl,rfl,SqT.of ea,zna (j:=1) rfl,?_⟩;cases hok with
 | mute =>
  refine⟨_,rfl,rfl,_,rfl,iteT ?_⟩;exact q H (Same.refl H)
 | steal =>
  obtain⟨b,mb,rfl,eb,emb⟩:=RA;refine⟨_,rfl,rfl,_,rfl,iteF ?_⟩;refine⟨_,rfl,rfl,_,rfl,iteT ?_⟩;exact⟨_,rfl,b,_,_,_,rfl,rfl,SqT.of eb,zna (j:=1) rfl,q H (Same.refl H)⟩
 | per hy =>
  refine⟨_,rfl,rfl,_,rfl,iteF ?_⟩;refine⟨_,rfl,rfl,_,rfl,iteF ?_⟩;refine⟨_,rfl,rfl,_,rfl,iteF ?_⟩;refine⟨_,rfl,rfl,_,rfl,iteT ?_⟩;refine⟨_,rfl,_,rfl,a,_,_,_,rfl,rfl,SqT.of ea,zna (j:=2) rfl,_,rfl,sl,us,rs,x,av,_,r0,rfl,el,R,h16,hx,hz _ rfl,RA,λp H' S hp ep=>?_⟩;refine⟨p,_,rfl,.inl (SqL.of ep),?_⟩;rw[yea];exact q H' S
 | less hi =>
  cases hx;refine⟨_,rfl,rfl,_,rfl,iteF ?_⟩;refine⟨_,rfl,rfl,_,rfl,iteF ?_⟩;refine⟨_,rfl,rfl,_,rfl,iteT ?_⟩;exact⟨_,rfl,a,_,_,_,rfl,rfl,SqT.of ea,zna (j:=2) rfl,_,rfl,q H (Same.refl H)⟩
 | _ =>
  cases hx;refine⟨_,rfl,rfl,_,rfl,iteF ?_⟩;refine⟨_,rfl,rfl,_,rfl,iteF ?_⟩;refine⟨_,rfl,rfl,_,rfl,iteF ?_⟩;refine⟨_,rfl,rfl,_,rfl,iteF ?_⟩;exact⟨_,rfl,a,_,_,_,rfl,rfl,SqT.of ea,zna (j:=2) rfl,q H (Same.refl H)⟩
def zoqb (B D:Addr):Sp:=λvs H Q _=>Ex7 λl us rs (i k:Nat) (r:R8) (q:Rule)=>vs=[.ref l,.int r.num,.int (k:Int)]∧H l=some (.lst us)∧All2 (LyT B D H) us rs∧rs.length≤16∧(rs.map (·.num)).Nodup∧rs[i]?=some r∧(crd r).rules[k]?=some q∧∀v H',Same H H'->zom D H' v q->Q v H'
theorem zxv (T:Tx K mg):FnOk P w K mg base CX0 2 T.zwf.f T.zwf.d zgu (zoqb T.zbd T.zib):=by
 refine T.zwf.ok znv ?_;rintro f c A o s H vs Q E hr ⟨l,us,rs,i,k,r,qr,rfl,el,LY,h16,nd,er,eq,q⟩ X;have ul:=LY.len;have il:i<us.length:=by
  rw[ul];exact (yia.mp er).1
 have eu:=yoa il;obtain⟨r',er',a,tm,c,eua,ea,em,ca,dx,mm,tt,vs,rfl,hc,hm,ht,IR⟩:=LY.get eu;rw[er] at er';cases er';refine⟨_,  (zba (zvs (i:=3) znv.nd rfl (.inl rfl) (own:=["row"]) (cap:=["number"]) rfl (zrb.chk rfl rfl) (.cons (j:=1) rfl (.inl rfl) (.inl rfl) .nil) (zgd (pv 0)) (λ_ _ _ _=>(zva (i:=0) (show ywb (["row","number"]:List Str) by decide +kernel) rfl (.inl rfl))) (λ_ _ _ _=>zmj (zra zed (zkb (zxc K) (pv 0) zda (λ_ _=>rfl)) (pv 1) (zbb _))) (λ_ _ _ _=>by exact (zkmb K (zkb (zxc K) (pv 0) zda (λ_ _=>rfl)) rfl)))
  (zea (zoa (zkb zxb (zkb zli (pv 3) zda (λ_ _=>rfl)) (pv 2) (λ_ _=>rfl))))),?_⟩
 refine⟨_,rfl,l,rfl,⟨_,SqL.of el⟩,?_⟩;refine zyc (xs:=us) (λj ys H'=>H'=H∧ys=if i<j then [V.ref tt] else []) (λj ys H' z=>by rw[z.1];exact SqL.of el) ⟨rfl,rfl⟩ ?_ ?_ ?_
 ·rintro j ys H' ⟨_,rfl⟩
  split
  ·exact small (by show 1≤1000;decide)
  ·exact small (by show 0≤1000;decide)
 ·rintro j u ys H' hu ⟨rfl,rfl⟩
  by_cases ej:j=i
  ·subst ej;rw[eu] at hu;cases hu;rw[eua];refine⟨rfl,_,rfl,a,_,_,_,rfl,rfl,SqT.of ea,zna (j:=0) rfl,_,rfl,rfl,_,rfl,?_⟩;have t1:decide (V.int r.num=V.int r.num)=true:=decide_eq_true rfl;dsimp only;rw[if_pos t1];refine⟨_,rfl,a,_,_,_,rfl,rfl,SqT.of ea,zna (j:=1) rfl,ca,_,dx,_,_,rfl,hc,T.znk,T.zuf,zqw _ _ _ _ _,rfl,?_⟩;rw[if_neg (yud _),if_pos (yje _)];rfl
  ·obtain⟨r2,er2,a2,tm2,c2,rfl,ea2,_⟩:=LY.get hu;refine⟨rfl,_,rfl,a2,_,_,_,rfl,rfl,SqT.of ea2,zna (j:=0) rfl,_,rfl,rfl,_,rfl,?_⟩;dsimp only;rw[if_neg (λz=>ej (zcy nd er2 er (by have z':=of_decide_eq_true z;injection z')))];refine⟨rfl,?_⟩
   by_cases z:i<j
   ·rw[if_pos z,if_pos (by omega)]
   ·rw[if_neg z,if_neg (by omega)]
 ·rintro ys H' ⟨rfl,rfl⟩ p hp;rw[if_pos il];refine laid hp λH2 S2 e2=>?_;have kl:k<vs.length:=by
   rw[IR.length];exact (yia.mp eq).1
  have ek:=yoa kl;obtain⟨q2,eq2,ir⟩:=IR.get ek;rw[eq] at eq2;cases eq2;exact⟨_,rfl,p,_,_,_,rfl,rfl,SqL.of e2,zna (j:=0) rfl,_,rfl,tt,_,_,_,rfl,rfl,SqT.of (S2 _ _ ht),zna ek,q _ _ S2 (ir.same S2)⟩
def zeu (H:Hp)(u:V)(x:Int×V):Prop:=∃a:Addr,u = .ref a∧H a=some (.tup [.int x.1,x.2])
theorem zeu.same {H H':Hp}(s:Same H H'){u:V}{x:Int×V}(h:zeu H u x):zeu H' u x:=by
 obtain⟨a,e,h⟩:=h;exact⟨a,e,s _ _ h⟩
def zvk (ss:List Row)(r0:Row)(wd:Str)(h:Hv)(y:Wh):List (Int×V):=if r0.mute=true then [] else (fitN ss r0 y).map λr=>(r.num,zpk ss r0 wd h)
def zdvb (B D:Addr):Sp:=λvs H Q _=>Ex16 λll sl us ws rs ss u (i k:Nat) (r:R8) (r0:Row) (wd:Str) (h:Hv) (y:Wh) (a b:Int)=>vs=[.ref ll,.ref sl,u]∧H ll=some (.lst us)∧All2 (LyT B D H) us rs∧rs.length≤16∧(rs.map (·.num)).Nodup∧H sl=some (.lst ws)∧zic H ws ss∧ss.length≤16∧rs[i]?=some r∧(crd r).rules[k]?=some (.hold wd h y)∧zqd wd h∧y.depth≤9∧(∀z,h = .w z->z.depth≤9)∧rowOf ss r.num=some r0∧ChT H u [a,b,r.num,(k:Int)]∧∀p out H',Same H H'->H p=none->H' p=some (.lst out)->All2 (zeu H') out (zvk ss r0 wd h y)->Q (.ref p) H'
theorem zmhb (ss:List Row)(r0:Row)(y:Wh):(fitN ss r0 y).length≤ss.length:=ysb _ _
theorem zmr (T:Tx K mg):FnOk P w K mg base CX0 23 T.zjg.f T.zjg.d zxfb (zdvb T.zbd T.zib):=by
 refine T.zjg.ok zzn ?_;rintro f c A o s H vs Q E hr ⟨ll,sl,us,ws,rs,ss,u,i,k,r,r0,wd,hv,y,a,b,rfl,el,LY,h16,nd,es,R,s16,er,eq,hok,yd,zd,ro,⟨t,rfl,et,_⟩,q⟩ X;refine⟨_,  (zba (zla (i:=3) zzn.nd rfl (.inl rfl) (zja (zqmb T).up hr rfl T.zck.m T.zck.F.kp (zctb T) .nil zwa (zaa (pv 1) (zaa (zkb zxb (pv 2) zda (λ_ _=>rfl)) zca))))
  (zba (zcc (zgo (zkb zxb (pv 3) zda (λ_ _=>rfl)) (λ_=>rfl))
   (zea (zoa (zsj zca)))
   zua)
  (zba (zla (i:=4) zzn.nd rfl (.inl rfl) (zja (zxv T).up hr rfl T.zwf.m T.zwf.F.kp (zbdb T) .nil zwa (zaa (pv 0) (zaa (zkb zxb (pv 2) zda (λ_ _=>rfl)) (zaa (zkb zxb (pv 2) zda (λ_ _=>rfl)) zca)))))
  (zba (zla (i:=5) zzn.nd rfl (.inl rfl) (zja (zbj T).up hr rfl T.zvb.m T.zvb.F.kp (zzj T) .nil zwa (zaa (pv 1) (zaa (zkb zxb (pv 4) zda (λ_ _=>rfl)) (zaa (pv 3) zca)))))
  (zba (zla (i:=6) zzn.nd rfl (.inr rfl) (zja (zlbb T) hr rfl T.zdf.m T.zdf.F.kp (zqfb T) .nil zwa (zaa (pv 1) (zaa (pv 4) (zaa (pv 3) zca)))))
  (zea (zoa (zge (own:=["number"]) (cap:=["amount"]) rfl (zrb.chk rfl rfl) (.cons (j:=6) rfl (.inl rfl) (.inl rfl) .nil) (zgd (pv 5)) (λ_ _ _ _=>(zva (i:=0) (show ywb (["number","amount"]:List Str) by decide +kernel) rfl (.inl rfl))) (λ_ _ _ _=>zmh) (λ_ _ _ _=>by exact (zgb (zaa (pv 0) (zaa (pv 1) zca)))))))))))),?_⟩
 refine⟨_,rfl,_,rfl,t,_,_,_,rfl,rfl,SqT.of et,zna (j:=2) rfl,sl,ws,ss,r.num,rfl,es,R,λav hav=>?_⟩;rw[ro] at hav;have RA:zak H av r0:=hav;obtain⟨c,mc,rfl,ec,emc⟩:=id RA;refine⟨_,rfl,c,_,_,_,rfl,rfl,SqT.of ec,zna (j:=4) rfl,_,rfl,?_⟩;refine ite2 (λm=>?_) (λm=>?_)
 ·refine⟨sz0,λp hp=>?_⟩;refine laid hp λH1 S1 e1=>?_;exact q p [] H1 S1 hp e1 (by rw[zvk,if_pos m];exact .nil)
 ·refine⟨_,rfl,_,rfl,t,_,_,_,rfl,rfl,SqT.of et,zna (j:=2) rfl,_,rfl,t,_,_,_,rfl,rfl,SqT.of et,zna (j:=3) rfl,ll,us,rs,i,k,r,_,rfl,el,LY,h16,nd,er,eq,λv H1 S1 ir=>?_⟩;obtain⟨ra,x,u',rfl,era,hx,hu⟩:=ir;have R1:zic H1 ws ss:=R.map λ_ _ z=>z.same S1;have RA1:=RA.same S1;refine⟨_,rfl,_,rfl,ra,_,_,_,rfl,rfl,SqT.of era,zna (j:=3) rfl,_,rfl,sl,ws,ss,u',.ref c,y,r0,rfl,S1 _ _ es,R1,s16,hu,yd,RA1,λp H2 S2 hp ep=>?_⟩;have S12:=S1.trans S2;refine⟨_,rfl,_,rfl,_,rfl,sl,ra,ws,ss,x,u',.ref c,wd,hv,y,r0,rfl,S12 _ _ es,R1.map λ_ _ z=>z.same S2,s16,S2 _ _ era,hx.same S2,hok,zd,RA1.same S2,λH3 S3=>?_⟩;have ep3:=S3 _ _ ep;have fl:=zmhb ss r0 y;refine⟨_,rfl,p,rfl,⟨_,SqL.of ep3⟩,?_⟩;refine zyc (xs:=(fitN ss r0 y).map λr=>V.int r.num) (λj ys H'=>Same H3 H'∧All2 (zeu H') ys (((fitN ss r0 y).take j).map λr=>(r.num,zpk ss r0 wd hv))) (λj ys H' z=>SqL.of (z.1 _ _ ep3)) ⟨Same.refl _,.nil⟩ ?_ ?_ ?_
  ·rintro j ys H' ⟨_,hy⟩;have yl:=hy.len;rw[yea,yza] at yl;exact small (by omega)
  ·rintro j x' ys H' hx' ⟨S,hy⟩;rw[yya] at hx';cases e:(fitN ss r0 y)[j]? with
   | none=>rw[e] at hx';cases hx'
   | some r2 =>
    rw[e] at hx';cases hx';refine⟨rfl,_,rfl,_,rfl,sz2,λt2 ht2=>?_⟩;refine laid ht2 λH5 S5 e5=>?_;refine⟨S.trans S5,?_⟩;rw[yva,e,ypb,ykb];exact All2.snoc ⟨t2,rfl,e5⟩ (hy.imp λz=>z.same S5)
  ·rintro ys H' ⟨S,hy⟩ p2 hp2;rw[yea,ypa (yha _)] at hy;have S3':=S12.trans (S3.trans S);refine laid hp2 λH5 S5 e5=>?_;exact q p2 ys H5 (S3'.trans S5) (none_of S3' hp2) e5 (by rw[zvk,if_neg m];exact hy.imp λz=>z.same S5)
theorem zeu.put {H:Hp}{x:Addr}{us vs:List V}{u:V}{c:Int×V}(e:H x=some (.lst us))(h:zeu H u c):zeu (upd H x (.lst vs)) u c:=by
 obtain⟨a,rfl,e1⟩:=h;exact⟨a,rfl,by rw[zta (zng e1 e (by intro y;cases y))];exact e1⟩
theorem zak.put {H:Hp}{x:Addr}{us vs:List V}{u:V}{r:Row}(e:H x=some (.lst us))(h:zak H u r):zak (upd H x (.lst vs)) u r:=by
 obtain⟨a,m,rfl,e1,e2⟩:=h;exact⟨a,m,rfl,by rw[zta (zng e1 e (by intro y;cases y))];exact e1,by rw[zta (zng e2 e (by intro y;cases y))];exact e2⟩
theorem But.put2 {p:Addr}{H H1:Hp}{o:HO}(b:But p H H1):But p H (upd H1 p o):=b.trans But.put
def strV:V->Str
 | .str u=>u
 | _=>""
def zvh (wd n:Str)(ms zs:List Str):Prop:=if wd = "gain" then (if inV (.str n) (ms.map V.str)=true then zs=ms else zs.Perm (ms++[n])∧ycg zs=true) else if wd = "lack" then zs=ms.filter λm=>!decide (V.str m=V.str n) else zs=ms
structure ChdR (wd:Str)(am:V)(r r':Row):Prop where
 num:r'.num=r.num
 keeper:r'.keeper=if wd = "steal" then intOf am else r.keeper
 marks:zvh wd (strV am) r.marks r'.marks
 force:r'.force=if wd = "be" then intOf am else if wd = "more" ∨ wd = "less" ∨ wd = "per" then r.force+intOf am else r.force
 mute:r'.mute=(r.mute||decide (V.str wd=V.str "mute"))
def hitB (r0:Row)(y:Wh)(r:Row):Bool:=!r0.mute&&znj (some r) r0.num r0.keeper r.num y
def BehR (r0:Row)(wd:Str)(am:V)(y:Wh)(r r':Row):Prop:=if hitB r0 y r=true then ChdR wd am r r' else r'=r
theorem BehR.num {r0:Row}{wd:Str}{am:V}{y:Wh}{r r':Row}(h:BehR r0 wd am y r r'):r'.num=r.num:=by
 unfold BehR at h
 split at h
 ·exact h.num
 ·rw[h]
theorem zzhb {r0:Row}{wd:Str}{am:V}{y:Wh}{ss ts:List Row}(z:All2 (BehR r0 wd am y) ss ts):ts.map (·.num)=ss.map (·.num):=by
 induction z with
 | nil=>rfl
 | cons h _ ih=>rw[ybb,ybb,h.num,ih]
theorem zxnb {ss:List Row}{r0 r:Row}{y:Wh}{i:Nat}(sn:(ss.map (·.num)).Nodup)(er:ss[i]?=some r):r.num∈(fitN ss r0 y).map (·.num)↔znj (some r) r0.num r0.keeper r.num y=true:=by
 rw[yjb]
 constructor
 ·rintro⟨r2,h2,e⟩;obtain⟨h3,h4⟩:=yqc.mp h2;obtain⟨j,hj⟩:=ypd h3;have ij:=zcy sn hj er e;subst ij;rw[er] at hj;cases hj;exact h4
 ·intro h;exact⟨r,yqc.mpr ⟨yra er,h⟩,rfl⟩
theorem zwib (ss:List Row)(r0:Row)(wd:Str)(h:Hv)(y:Wh):(zvk ss r0 wd h y).map (λx=>((Sum.inl x.1:Key),x.2))=(if r0.mute=true then [] else (fitN ss r0 y).map (·.num)).map λn=>((Sum.inl n:Key),zpk ss r0 wd h):=by
 unfold zvk
 split
 ·rfl
 ·rw[yrd,yrd];rfl
theorem zfsb {K:yca}{H:Hp}{us:List V}{xs:List (Int×V)}(z:All2 (zeu H) us xs):Paired (KvT K H) us (xs.map λx=>((Sum.inl x.1:Key),x.2)):=by
 induction z with
 | nil=>exact .nil
 | cons h _ ih =>
  obtain⟨a,e,h⟩:=h;exact .cons ⟨a,e,SqT.of h⟩ ih
theorem zvlb {ss:List Row}{r0 r:Row}{wd:Str}{h:Hv}{y:Wh}{i:Nat}(sn:(ss.map (·.num)).Nodup)(er:ss[i]?=some r):L2.valV (zmm [] ((zvk ss r0 wd h y).map (λx=>((Sum.inl x.1:Key),x.2)))) (Sum.inl r.num)=if hitB r0 y r=true then some (zpk ss r0 wd h) else none:=by
 rw[zwib,ziv,zfqb];unfold hitB
 by_cases m:r0.mute=true
 ·rw[if_pos m,m,if_neg (by simp),if_neg (by simp)]
 ·have m':r0.mute=false:=by simpa using m
  rw[if_neg m,m']
  by_cases c:znj (some r) r0.num r0.keeper r.num y=true
  ·rw[if_pos ((zxnb (y:=y) (r0:=r0) sn er).mpr c),c,if_pos (show (!false&&true)=true from rfl)]
  ·rw[if_neg (λz=>c ((zxnb (y:=y) (r0:=r0) sn er).mp z)),yfe.mpr c,if_neg (by simp)]
theorem zuab (ss:List Row)(r0:Row)(wd:Str)(h:Hv)(y:Wh):(zvk ss r0 wd h y).length≤ss.length:=by
 unfold zvk
 split
 ·exact ygb _
 ·rw[yea];exact zmhb ss r0 y
theorem zkp {wd n:Str}{ms:List Str}(h1:¬ wd = "gain")(h2:¬ wd = "lack"):zvh wd n ms ms:=by
 unfold zvh;rw[if_neg h1,if_neg h2]
theorem zbfb {u:Str}{ss:List Str}:inV (.str u) (ss.map V.str)=true↔u∈ss:=by
 refine⟨λh=>?_,zafb⟩;unfold inV at h;obtain⟨v,hv,e⟩:=List.any_eq_true.mp h;obtain⟨x,hx,rfl⟩:=yjb.mp hv;have e':(x==u)=true:=e;have e2:x=u:=by simpa using e'
 rw[← e2];exact hx
theorem zzwb {ms ys:List Str}{n:Str}(nd:ms.Nodup)(so:ycg ms=true)(py:ys.Perm (SSet.dd (ms++[n])))(sy:ycg ys=true):zvh "gain" n ms ys:=by
 rw[SSet.znt,zsr nd] at py;unfold zvh;rw[if_pos rfl]
 by_cases c:n∈ms
 ·rw[if_pos c] at py;exact (if_pos (zbfb.mpr c)).mpr (zqm py sy so)
 ·rw[if_neg c] at py;exact (if_neg (λz=>c (zbfb.mp z))).mpr ⟨py,sy⟩
theorem zssb {ms:List Str}{n:Str}(nd:ms.Nodup):(SSet.dd (ms++[n])).length≤ms.length+1:=by
 rw[SSet.znt,zsr nd]
 split
 ·omega
 ·rw[yja];exact yha _
structure zyk (k:Nat)(r:Row):Prop where
 nd:r.marks.Nodup
 so:ycg r.marks=true
 le:r.marks.length≤k
def zuqb:Sp:=λvs H Q _=>Ex3 λm (ms:List Str) (n:Str)=>vs=[.ref m,.str n]∧H m=some (.tup (ms.map V.str))∧ms.Nodup∧ycg ms=true∧ms.length≤60∧∀p (zs:List Str) H',Same H H'->H' p=some (.tup (zs.map V.str))->zvh "gain" n ms zs->Q (.ref p) H'
def zalb:Sp:=λvs H Q _=>Ex3 λm (ms:List Str) (n:Str)=>vs=[.ref m,.str n]∧H m=some (.tup (ms.map V.str))∧ms.length≤60∧∀p H',Same H H'->H' p=some (.tup ((ms.filter λm=>!decide (V.str m=V.str n)).map V.str))->Q (.ref p) H'
def zglb:Sp:=λvs H Q _=>Ex6 λv (r r0:Row) ss (wd:Str) (h:Hv)=>vs=[v,.str wd,zpk ss r0 wd h]∧zak H v r∧zyk 60 r∧zqd wd h∧∀u (r':Row) H',Same H H'->zak H' u r'->ChdR wd (zpk ss r0 wd h) r r'->Q u H'
theorem zrmb (T:Tx K mg):FnOk P w K mg base CX0 2 T.zdk.f T.zdk.d znz zuqb:=by
 refine T.zdk.ok znlb ?_;rintro f c A o s H vs Q E hr ⟨m,ms,n,rfl,em,nd,so,le,q⟩ X;refine⟨_,  (zea (zoa (zlc zpd rfl T.zgh yoi (zaa (zlb (zql rfl) rfl T.zsg ylj (zaa (zlc (zrcb rfl) rfl T.zmkb boot_set (zaa (zia zrrb (pv 0) (zgb (zaa (pv 1) zca))) zca)) zca)) zca)))),?_⟩;refine⟨_,rfl,_,rfl,sz1,λt1 ht1=>?_⟩;refine laid ht1 λH1 S1 e1=>?_;refine⟨m,t1,_,_,rfl,rfl,SqT.of (S1 _ _ em),SqT.of e1,by simp,(by rw[yea];exact small (by show ms.length+1≤1000;omega)),λz=>?g1,λz t2 ht2=>?g2⟩
 case' g1 =>
  have z':ms=[]:=List.map_eq_nil_iff.mp z;have e2:H1 t1=some (.tup ((ms++[n]).map V.str)):=by rw[e1,z'];rfl
  have S2:=S1
 case' g2 =>
  refine laid ht2 λH2 S2' e2'=>?_;have e2:H2 t2=some (.tup ((ms++[n]).map V.str)):=by rw[e2',ykb];rfl
  have S2:=S1.trans S2'
 all_goals
  have gl:=zssb (n:=n) nd;refine⟨_,ms++[n],rfl,SqT.of e2,(by rw[yja];show ms.length+1≤1000;omega),λl hl=>?_⟩;refine laid hl λH3 S3 e3=>?_;refine⟨l,_,rfl,e3,(by omega),λp ys hp py sy=>?_⟩;refine laid hp λH4 S4 e4=>?_;refine⟨p,_,rfl,.inl ⟨SqL.of e4,λtm htm=>?_⟩⟩;refine laid htm λH5 S5 e5=>?_;exact q tm ys H5 (S2.trans (S3.trans (S4.trans S5))) e5 (zzwb nd so py sy)
theorem zbjb (T:Tx K mg):FnOk P w K mg base CX0 2 T.zai.f T.zai.d zfu zalb:=by
 refine T.zai.ok zsib ?_;rintro f c A o s H vs Q E hr ⟨m,ms,n,rfl,em,le,q⟩ X;refine⟨_,  (zea (zoa (zlc zpd rfl T.zgh yoi (zaa (zge (own:=["value"]) (cap:=["one"]) rfl (zrb.chk rfl rfl) (.cons (j:=1) rfl (.inl rfl) (.inl rfl) .nil) (zstb (pv 0)) (λ_ _ _ _=>(zva (i:=0) (show ywb (["value","one"]:List Str) by decide +kernel) rfl (.inl rfl))) (λ_ _ _ _=>zmj (zra zlzb (pv 0) (pv 1) (zbb _))) (λ_ _ _ _=>by exact (pv 0))) zca)))),?_⟩;refine⟨_,rfl,m,rfl,⟨_,SqT.of em⟩,?_⟩;refine zwsb (xs:=ms.map V.str) (λj ys H'=>H'=H∧ys=((ms.take j).filter λm=>!decide (V.str m=V.str n)).map V.str) (λj ys H' z=>by rw[z.1];exact SqT.of em) ⟨rfl,rfl⟩ ?_ ?_ ?_
 ·rintro j ys H' ⟨_,rfl⟩;rw[yea];have h1:=ysb (λm=>!decide (V.str m=V.str n)) (ms.take j);rw[yza] at h1;exact small (by omega)
 ·rintro j x2 ys H' hx2 ⟨rfl,rfl⟩;rw[yya] at hx2;cases em2:ms[j]? with
  | none=>rw[em2] at hx2;cases hx2
  | some m2 =>
   rw[em2] at hx2;cases hx2;refine⟨rfl,_,rfl,_,rfl,rfl,_,rfl,?_⟩;rw[yva,em2,ypb,yie,ykb];refine ite2 (λc=>?_) (λc=>?_)
   ·exact⟨_,rfl,rfl,by rw[ynd (p:=λm=>!decide (V.str m=V.str n)) c];rfl⟩
   ·exact⟨rfl,by rw[yce (p:=λm=>!decide (V.str m=V.str n)) c];simp⟩
 ·rintro ys H' ⟨rfl,rfl⟩ l1 hl1;rw[yea,ypa (yha _)];refine laid hl1 λHa Sa ea=>?_;refine⟨l1,_,rfl,.inl ⟨SqL.of ea,λtm htm=>?_⟩⟩;refine laid htm λHb Sb eb=>?_;exact q tm Hb (Sa.trans Sb) eb
theorem zejb (T:Tx K mg):FnOk P w K mg base CX0 3 T.zdi.f T.zdi.d zmu zglb:=by
 refine T.zdi.ok zuib ?_;rintro f c A o s H vs Q E hr ⟨v,r,r0,ss,wd,hv,rfl,⟨a,m,rfl,ea,em⟩,inv,hok,q⟩ X;refine⟨_,  (zba (zcc (zra zed (pv 1) zpa (zbb _))
   (zea (zoa (zia zoh (zfd ztk (pv 0) zpe (zoe zda)) (zgb (zaa zyib zca)))))
   zua)
  (zba (zcc (zra zed (pv 1) zpa (zbb _))
   (zea (zoa (zia zoh (zia zoh (zfd ztk (pv 0) zpe (zoe zda)) (zgb (zaa (pv 2) zca))) (zfd ztk (pv 0) (zoe zda) zpe))))
   zua)
  (zba (zcc (zra zed (pv 1) zpa (zbb _))
   (zea (zoa (zia zoh (zia zoh (zfd ztk (pv 0) zpe (zoe zda)) (zgb (zaa (zja (zrmb T) hr rfl T.zdk.m T.zdk.F.kp (zdtb T) .nil zwa (zaa (zkb zxb (pv 0) zda (λ_ _=>rfl)) (zaa (pv 2) zca))) zca))) (zfd ztk (pv 0) (zoe zda) zpe))))
   zua)
  (zba (zcc (zra zed (pv 1) zpa (zbb _))
   (zea (zoa (zia zoh (zia zoh (zfd ztk (pv 0) zpe (zoe zda)) (zgb (zaa (zja (zbjb T) hr rfl T.zai.m T.zai.F.kp (zmpb T) .nil zwa (zaa (zkb zxb (pv 0) zda (λ_ _=>rfl)) (zaa (pv 2) zca))) zca))) (zfd ztk (pv 0) (zoe zda) zpe))))
   zua)
  (zba (zcc (zra zed (pv 1) zpa (zbb _))
   (zea (zoa (zia zoh (zia zoh (zfd ztk (pv 0) zpe (zoe zda)) (zgb (zaa (pv 2) zca))) (zfd ztk (pv 0) (zoe zda) zpe))))
   zua)
  (zea (zoa (zia zoh (zia zoh (zfd ztk (pv 0) zpe (zoe zda)) (zgb (zaa (zia zsd (zkb zxb (pv 0) zda (λ_ _=>rfl)) (pv 2)) zca))) (zfd ztk (pv 0) (zoe zda) zpe))))))))),?_⟩
 have le:=inv.le;cases hok
 case mute =>
  refine⟨_,rfl,rfl,_,rfl,iteT ?_⟩;refine⟨_,rfl,_,rfl,a,_,rfl,SqT.of ea,(by show ¬ (HT.sIx 5 0 none=0∧HT.sIx 5 5 (some 4)=5);decide),λp1 hp1=>?_⟩;refine laid hp1 λH1 S1 e1=>?_;refine⟨sz1,λp2 hp2=>?_⟩;refine laid hp2 λH2 S2 e2=>?_;refine⟨p1,p2,_,_,rfl,rfl,SqT.of (S2 _ _ e1),SqT.of e2,(by intro z;cases z),sz5,λz=>(by cases z),λ_ p3 hp3=>?_⟩;refine laid hp3 λH3 S3 e3=>?_;have S13:=S1.trans (S2.trans S3);exact q _ ⟨r.num,r.keeper,r.marks,r.force,true⟩ H3 S13 ⟨p3,m,rfl,e3,S13 _ _ em⟩ ⟨rfl,rfl,zkp (by decide) (by decide),rfl,(by show true=(r.mute||true);rw[Bool.or_true])⟩
 case steal =>
  refine⟨_,rfl,rfl,_,rfl,iteF ?_⟩;refine⟨_,rfl,rfl,_,rfl,iteT ?_⟩;refine⟨_,rfl,_,rfl,a,_,rfl,SqT.of ea,(by show ¬ (HT.sIx 5 0 none=0∧HT.sIx 5 5 (some 1)=5);decide),λp1 hp1=>?_⟩;refine laid hp1 λH1 S1 e1=>?_;refine⟨_,rfl,sz1,λp2 hp2=>?_⟩;refine laid hp2 λH2 S2 e2=>?_;refine⟨p1,p2,_,_,rfl,rfl,SqT.of (S2 _ _ e1),SqT.of e2,(by intro z;cases z),sz2,λz=>(by cases z),λ_ p3 hp3=>?_⟩;refine laid hp3 λH3 S3 e3=>?_;have S03:=(S1).trans (S2.trans S3);refine⟨_,rfl,_,rfl,a,_,rfl,SqT.of (S03 _ _ ea),(by show ¬ (HT.sIx 5 0 (some 2)=0∧HT.sIx 5 5 none=5);decide),λp4 hp4=>?_⟩;refine laid hp4 λH4 S4 e4=>?_;refine⟨p3,p4,_,_,rfl,rfl,SqT.of (S4 _ _ e3),SqT.of e4,(by intro z;cases z),sz5,λz=>(by cases z),λ_ p5 hp5=>?_⟩;refine laid hp5 λH5 S5 e5=>?_;have S05:=S03.trans (S4.trans S5);exact q _ ⟨r.num,r0.keeper,r.marks,r.force,r.mute⟩ H5 S05 ⟨p5,_,rfl,e5,S05 _ _ em⟩ ⟨rfl,rfl,zkp (by decide) (by decide),rfl,(by show r.mute=(r.mute||false);rw[ynf])⟩
 case gain n hn =>
  refine⟨_,rfl,rfl,_,rfl,iteF ?_⟩;refine⟨_,rfl,rfl,_,rfl,iteF ?_⟩;refine⟨_,rfl,rfl,_,rfl,iteT ?_⟩;refine⟨_,rfl,_,rfl,a,_,rfl,SqT.of ea,(by show ¬ (HT.sIx 5 0 none=0∧HT.sIx 5 5 (some 2)=5);decide),λp1 hp1=>?_⟩;refine laid hp1 λH1 S1 e1=>?_;refine⟨_,rfl,a,_,_,_,rfl,rfl,SqT.of (S1 _ _ ea),zna (j:=2) rfl,_,rfl,m,r.marks,n,rfl,S1 _ _ em,inv.nd,inv.so,le,λpm zs Hm Sm em2 MR=>⟨sz1,λp2 hp2=>?_⟩⟩;refine laid hp2 λH2 S2 e2=>?_;refine⟨p1,p2,_,_,rfl,rfl,SqT.of (S2 _ _ (Sm _ _ e1)),SqT.of e2,(by intro z;cases z),sz3,λz=>(by cases z),λ_ p3 hp3=>?_⟩;refine laid hp3 λH3 S3 e3=>?_;have S03:=(S1.trans Sm).trans (S2.trans S3);refine⟨_,rfl,_,rfl,a,_,rfl,SqT.of (S03 _ _ ea),(by show ¬ (HT.sIx 5 0 (some 3)=0∧HT.sIx 5 5 none=5);decide),λp4 hp4=>?_⟩;refine laid hp4 λH4 S4 e4=>?_;refine⟨p3,p4,_,_,rfl,rfl,SqT.of (S4 _ _ e3),SqT.of e4,(by intro z;cases z),sz5,λz=>(by cases z),λ_ p5 hp5=>?_⟩;refine laid hp5 λH5 S5 e5=>?_;have S05:=S03.trans (S4.trans S5);exact q _ ⟨r.num,r.keeper,zs,r.force,r.mute⟩ H5 S05 ⟨p5,_,rfl,e5,(S2.trans (S3.trans (S4.trans S5))) _ _ em2⟩ ⟨rfl,rfl,MR,rfl,(by show r.mute=(r.mute||false);rw[ynf])⟩
 case lack n hn =>
  refine⟨_,rfl,rfl,_,rfl,iteF ?_⟩;refine⟨_,rfl,rfl,_,rfl,iteF ?_⟩;refine⟨_,rfl,rfl,_,rfl,iteF ?_⟩;refine⟨_,rfl,rfl,_,rfl,iteT ?_⟩;refine⟨_,rfl,_,rfl,a,_,rfl,SqT.of ea,(by show ¬ (HT.sIx 5 0 none=0∧HT.sIx 5 5 (some 2)=5);decide),λp1 hp1=>?_⟩;refine laid hp1 λH1 S1 e1=>?_;refine⟨_,rfl,a,_,_,_,rfl,rfl,SqT.of (S1 _ _ ea),zna (j:=2) rfl,_,rfl,m,r.marks,n,rfl,S1 _ _ em,le,λpm Hm Sm em2=>⟨sz1,λp2 hp2=>?_⟩⟩;refine laid hp2 λH2 S2 e2=>?_;refine⟨p1,p2,_,_,rfl,rfl,SqT.of (S2 _ _ (Sm _ _ e1)),SqT.of e2,(by intro z;cases z),sz3,λz=>(by cases z),λ_ p3 hp3=>?_⟩;refine laid hp3 λH3 S3 e3=>?_;have S03:=(S1.trans Sm).trans (S2.trans S3);refine⟨_,rfl,_,rfl,a,_,rfl,SqT.of (S03 _ _ ea),(by show ¬ (HT.sIx 5 0 (some 3)=0∧HT.sIx 5 5 none=5);decide),λp4 hp4=>?_⟩;refine laid hp4 λH4 S4 e4=>?_;refine⟨p3,p4,_,_,rfl,rfl,SqT.of (S4 _ _ e3),SqT.of e4,(by intro z;cases z),sz5,λz=>(by cases z),λ_ p5 hp5=>?_⟩;refine laid hp5 λH5 S5 e5=>?_;have S05:=S03.trans (S4.trans S5);exact q _ ⟨r.num,r.keeper,r.marks.filter λm=>!decide (V.str m=V.str n),r.force,r.mute⟩ H5 S05 ⟨p5,_,rfl,e5,(S2.trans (S3.trans (S4.trans S5))) _ _ em2⟩ ⟨rfl,rfl,(by unfold zvh;rw[if_neg (by decide),if_pos rfl];rfl),rfl,(by show r.mute=(r.mute||false);rw[ynf])⟩
 case be i hi =>
  refine⟨_,rfl,rfl,_,rfl,iteF ?_⟩;refine⟨_,rfl,rfl,_,rfl,iteF ?_⟩;refine⟨_,rfl,rfl,_,rfl,iteF ?_⟩;refine⟨_,rfl,rfl,_,rfl,iteF ?_⟩;refine⟨_,rfl,rfl,_,rfl,iteT ?_⟩;refine⟨_,rfl,_,rfl,a,_,rfl,SqT.of ea,(by show ¬ (HT.sIx 5 0 none=0∧HT.sIx 5 5 (some 3)=5);decide),λp1 hp1=>?_⟩;refine laid hp1 λH1 S1 e1=>?_;refine⟨_,rfl,sz1,λp2 hp2=>?_⟩;refine laid hp2 λH2 S2 e2=>?_;refine⟨p1,p2,_,_,rfl,rfl,SqT.of (S2 _ _ e1),SqT.of e2,(by intro z;cases z),sz4,λz=>(by cases z),λ_ p3 hp3=>?_⟩;refine laid hp3 λH3 S3 e3=>?_;have S03:=(S1).trans (S2.trans S3);refine⟨_,rfl,_,rfl,a,_,rfl,SqT.of (S03 _ _ ea),(by show ¬ (HT.sIx 5 0 (some 4)=0∧HT.sIx 5 5 none=5);decide),λp4 hp4=>?_⟩;refine laid hp4 λH4 S4 e4=>?_;refine⟨p3,p4,_,_,rfl,rfl,SqT.of (S4 _ _ e3),SqT.of e4,(by intro z;cases z),sz5,λz=>(by cases z),λ_ p5 hp5=>?_⟩;refine laid hp5 λH5 S5 e5=>?_;have S05:=S03.trans (S4.trans S5);exact q _ ⟨r.num,r.keeper,r.marks,intOf (zpk ss r0 "be" (.v (.num i))),r.mute⟩ H5 S05 ⟨p5,_,rfl,e5,S05 _ _ em⟩ ⟨rfl,rfl,zkp (by decide) (by decide),rfl,(by show r.mute=(r.mute||false);rw[ynf])⟩
 case more i hi =>
  refine⟨_,rfl,rfl,_,rfl,iteF ?_⟩;refine⟨_,rfl,rfl,_,rfl,iteF ?_⟩;refine⟨_,rfl,rfl,_,rfl,iteF ?_⟩;refine⟨_,rfl,rfl,_,rfl,iteF ?_⟩;refine⟨_,rfl,rfl,_,rfl,iteF ?_⟩;refine⟨_,rfl,_,rfl,a,_,rfl,SqT.of ea,(by show ¬ (HT.sIx 5 0 none=0∧HT.sIx 5 5 (some 3)=5);decide),λp1 hp1=>?_⟩;refine laid hp1 λH1 S1 e1=>?_;refine⟨_,rfl,a,_,_,_,rfl,rfl,SqT.of (S1 _ _ ea),zna (j:=3) rfl,_,rfl,_,_,rfl,rfl,sz1,λp2 hp2=>?_⟩;refine laid hp2 λH2 S2 e2=>?_;refine⟨p1,p2,_,_,rfl,rfl,SqT.of (S2 _ _ e1),SqT.of e2,(by intro z;cases z),sz4,λz=>(by cases z),λ_ p3 hp3=>?_⟩;refine laid hp3 λH3 S3 e3=>?_;have S03:=(S1).trans (S2.trans S3);refine⟨_,rfl,_,rfl,a,_,rfl,SqT.of (S03 _ _ ea),(by show ¬ (HT.sIx 5 0 (some 4)=0∧HT.sIx 5 5 none=5);decide),λp4 hp4=>?_⟩;refine laid hp4 λH4 S4 e4=>?_;refine⟨p3,p4,_,_,rfl,rfl,SqT.of (S4 _ _ e3),SqT.of e4,(by intro z;cases z),sz5,λz=>(by cases z),λ_ p5 hp5=>?_⟩;refine laid hp5 λH5 S5 e5=>?_;have S05:=S03.trans (S4.trans S5);exact q _ ⟨r.num,r.keeper,r.marks,r.force+intOf (zpk ss r0 "more" (.v (.num i))),r.mute⟩ H5 S05 ⟨p5,_,rfl,e5,S05 _ _ em⟩ ⟨rfl,rfl,zkp (by decide) (by decide),rfl,(by show r.mute=(r.mute||false);rw[ynf])⟩
 case less i hi =>
  refine⟨_,rfl,rfl,_,rfl,iteF ?_⟩;refine⟨_,rfl,rfl,_,rfl,iteF ?_⟩;refine⟨_,rfl,rfl,_,rfl,iteF ?_⟩;refine⟨_,rfl,rfl,_,rfl,iteF ?_⟩;refine⟨_,rfl,rfl,_,rfl,iteF ?_⟩;refine⟨_,rfl,_,rfl,a,_,rfl,SqT.of ea,(by show ¬ (HT.sIx 5 0 none=0∧HT.sIx 5 5 (some 3)=5);decide),λp1 hp1=>?_⟩;refine laid hp1 λH1 S1 e1=>?_;refine⟨_,rfl,a,_,_,_,rfl,rfl,SqT.of (S1 _ _ ea),zna (j:=3) rfl,_,rfl,_,_,rfl,rfl,sz1,λp2 hp2=>?_⟩;refine laid hp2 λH2 S2 e2=>?_;refine⟨p1,p2,_,_,rfl,rfl,SqT.of (S2 _ _ e1),SqT.of e2,(by intro z;cases z),sz4,λz=>(by cases z),λ_ p3 hp3=>?_⟩;refine laid hp3 λH3 S3 e3=>?_;have S03:=(S1).trans (S2.trans S3);refine⟨_,rfl,_,rfl,a,_,rfl,SqT.of (S03 _ _ ea),(by show ¬ (HT.sIx 5 0 (some 4)=0∧HT.sIx 5 5 none=5);decide),λp4 hp4=>?_⟩;refine laid hp4 λH4 S4 e4=>?_;refine⟨p3,p4,_,_,rfl,rfl,SqT.of (S4 _ _ e3),SqT.of e4,(by intro z;cases z),sz5,λz=>(by cases z),λ_ p5 hp5=>?_⟩;refine laid hp5 λH5 S5 e5=>?_;have S05:=S03.trans (S4.trans S5);exact q _ ⟨r.num,r.keeper,r.marks,r.force+intOf (zpk ss r0 "less" (.v (.num i))),r.mute⟩ H5 S05 ⟨p5,_,rfl,e5,S05 _ _ em⟩ ⟨rfl,rfl,zkp (by decide) (by decide),rfl,(by show r.mute=(r.mute||false);rw[ynf])⟩
 case per y2 hy2 =>
  refine⟨_,rfl,rfl,_,rfl,iteF ?_⟩;refine⟨_,rfl,rfl,_,rfl,iteF ?_⟩;refine⟨_,rfl,rfl,_,rfl,iteF ?_⟩;refine⟨_,rfl,rfl,_,rfl,iteF ?_⟩;refine⟨_,rfl,rfl,_,rfl,iteF ?_⟩;refine⟨_,rfl,_,rfl,a,_,rfl,SqT.of ea,(by show ¬ (HT.sIx 5 0 none=0∧HT.sIx 5 5 (some 3)=5);decide),λp1 hp1=>?_⟩;refine laid hp1 λH1 S1 e1=>?_;refine⟨_,rfl,a,_,_,_,rfl,rfl,SqT.of (S1 _ _ ea),zna (j:=3) rfl,_,rfl,_,_,rfl,rfl,sz1,λp2 hp2=>?_⟩;refine laid hp2 λH2 S2 e2=>?_;refine⟨p1,p2,_,_,rfl,rfl,SqT.of (S2 _ _ e1),SqT.of e2,(by intro z;cases z),sz4,λz=>(by cases z),λ_ p3 hp3=>?_⟩;refine laid hp3 λH3 S3 e3=>?_;have S03:=(S1).trans (S2.trans S3);refine⟨_,rfl,_,rfl,a,_,rfl,SqT.of (S03 _ _ ea),(by show ¬ (HT.sIx 5 0 (some 4)=0∧HT.sIx 5 5 none=5);decide),λp4 hp4=>?_⟩;refine laid hp4 λH4 S4 e4=>?_;refine⟨p3,p4,_,_,rfl,rfl,SqT.of (S4 _ _ e3),SqT.of e4,(by intro z;cases z),sz5,λz=>(by cases z),λ_ p5 hp5=>?_⟩;refine laid hp5 λH5 S5 e5=>?_;have S05:=S03.trans (S4.trans S5);exact q _ ⟨r.num,r.keeper,r.marks,r.force+intOf (zpk ss r0 "per" (.w y2)),r.mute⟩ H5 S05 ⟨p5,_,rfl,e5,S05 _ _ em⟩ ⟨rfl,rfl,zkp (by decide) (by decide),rfl,(by show r.mute=(r.mute||false);rw[ynf])⟩
def zwqb (B D:Addr):Sp:=λvs H Q _=>Ex16 λll sl us ws rs ss u (i k:Nat) (r:R8) (r0:Row) (wd:Str) (h:Hv) (y:Wh) (a b:Int)=>vs=[.ref ll,.ref sl,u]∧H ll=some (.lst us)∧All2 (LyT B D H) us rs∧rs.length≤16∧(rs.map (·.num)).Nodup∧H sl=some (.lst ws)∧zic H ws ss∧(ss.map (·.num)).Nodup∧(∀s∈ss,zyk 60 s)∧ss.length≤16∧rs[i]?=some r∧(crd r).rules[k]?=some (.hold wd h y)∧zqd wd h∧y.depth≤9∧(∀z,h = .w z->z.depth≤9)∧rowOf ss r.num=some r0∧ChT H u [a,b,r.num,(k:Int)]∧∀p out ts H',Same H H'->H p=none->H' p=some (.lst out)->zic H' out ts->All2 (BehR r0 wd (zpk ss r0 wd h) y) ss ts->Q (.ref p) H'
theorem zkbb (T:Tx K mg):FnOk P w K mg base CX0 24 T.zxh.f T.zxh.d zoz (zwqb T.zbd T.zib):=by
 refine T.zxh.ok zds ?_;rintro f c A o s H vs Q E hr ⟨ll,sl,us,ws,rs,ss,u,i,k,r,r0,wd,hv,y,a,b,rfl,el,LY,h16,nd,es,R,sn,inv,s16,er,eq,hok,yd,zd,ro,ct,q⟩ X;obtain⟨t,rfl,et,_⟩:=id ct;refine⟨_,  (zba (zla (i:=3) zds.nd rfl (.inr rfl) (zkb zxb (zja (zxv T).up hr rfl T.zwf.m T.zwf.F.kp (zbdb T) .nil zwa (zaa (pv 0) (zaa (zkb zxb (pv 2) zda (λ_ _=>rfl)) (zaa (zkb zxb (pv 2) zda (λ_ _=>rfl)) zca)))) zda (λ_ _=>rfl)))
  (zba (zla (i:=4) zds.nd rfl (.inr rfl) (zlc (zut rfl) rfl T.zpgb PyProof.Rows.boot_dict (zaa (zja (zmr T) hr rfl T.zjg.m T.zjg.F.kp (zdz T) .nil zwa (zaa (pv 0) (zaa (pv 1) (zaa (pv 2) zca)))) zca)))
  (zea (zoa (zge (own:=["row"]) (cap:=["amounts","word"]) rfl (zrb.chk rfl rfl) (.cons (j:=4) rfl (.inl rfl) (.inl rfl) (.cons (j:=3) rfl (.inl rfl) (.inl rfl) .nil)) (zgd (pv 1)) (λ_ _ _ _=>(zva (i:=0) (show ywb (["row","amounts","word"]:List Str) by decide +kernel) rfl (.inl rfl))) (λ_ _ _ _=>zmh) (λ_ _ _ _=>by exact (zorb (zylb (zkzb (zaab hr.units) (zkb (zxc K) (pv 0) zda (λ_ _=>rfl)) (pv 1))) (zja (zejb T).up hr rfl T.zdi.m T.zdi.F.kp (zppb T) .nil zwa (zaa (pv 0) (zaa (pv 2) (zaa (zkeb (zaab hr.units) (pv 1) (zkb (zxc K) (pv 0) zda (λ_ _=>rfl)) (λ_ _=>rfl)) zca)))) (pv 0)))))))),?_⟩
 refine⟨_,rfl,_,rfl,t,_,_,_,rfl,rfl,SqT.of et,zna (j:=2) rfl,_,rfl,t,_,_,_,rfl,rfl,SqT.of et,zna (j:=3) rfl,ll,us,rs,i,k,r,_,rfl,el,LY,h16,nd,er,eq,λv H1 S1 ir=>?_⟩;obtain⟨ra,x,u',rfl,era,hx,hu⟩:=ir;refine⟨ra,_,_,_,rfl,rfl,SqT.of era,zna (j:=1) rfl,?_⟩;have R1:zic H1 ws ss:=R.map λ_ _ z=>z.same S1;refine⟨_,rfl,_,rfl,_,rfl,ll,sl,us,ws,rs,ss,.ref t,i,k,r,r0,wd,hv,y,a,b,rfl,S1 _ _ el,LY.imp λz=>z.same S1,h16,nd,S1 _ _ es,R1,s16,er,eq,hok,yd,zd,ro,ct.same S1,λp out H2 S2 np ep al=>?_⟩;have ol:=al.len;have ol2:=zuab ss r0 wd hv y;refine⟨p,out,_,rfl,SqL.of ep,zfsb al,(by omega),λd hd=>?_⟩;refine laid hd λH3 S3 e3=>?_;have S03:=S1.trans (S2.trans S3);have R3:zic H3 ws ss:=R.map λ_ _ z=>z.same S03;have es3:=S03 _ _ es;have wl:=R.length;refine⟨_,rfl,sl,rfl,⟨_,SqL.of es3⟩,?_⟩;refine zyc (xs:=ws) (λj ys H'=>Same H3 H'∧j≤ws.length∧∃ts,zic H' ys ts∧All2 (BehR r0 wd (zpk ss r0 wd hv) y) (ss.take j) ts) (λj ys H' z=>SqL.of (z.1 _ _ es3)) ⟨Same.refl _,ygb _,[],.nil,.nil⟩ ?_ ?_ ?_
 ·rintro j ys H' ⟨_,hj,ts,RT,BH⟩;have h1:=RT.length;have h2:=BH.len;rw[yza] at h2;exact small (by omega)
 ·rintro j u2 ys H4 hu2 ⟨S4,_,ts,RT,BH⟩;have hj:j<ws.length:=(yia.mp hu2).1;obtain⟨r2,er2,ra2⟩:=R3.get hu2;have ra4:=ra2.same S4;obtain⟨c,mc,rfl,ec,emc⟩:=id ra4;have dg:=DGet.k (k:=Sum.inl r2.num) (S4 _ _ e3);rw[zvlb sn er2] at dg;have step:∀{r':Row},BehR r0 wd (zpk ss r0 wd hv) y r2 r'->All2 (BehR r0 wd (zpk ss r0 wd hv) y) (ss.take (j+1)) (ts++[r']):=λ{r'} h=>by
   rw[yva,er2,ypb];exact All2.snoc h BH
  by_cases hit:hitB r0 y r2=true
  ·rw[if_pos hit] at dg;refine⟨rfl,_,rfl,c,_,_,_,rfl,rfl,SqT.of ec,zna (j:=0) rfl,_,rfl,d,_,rfl,dg,_,rfl,iteT ?_⟩;refine⟨_,rfl,_,rfl,_,rfl,_,rfl,c,_,_,_,rfl,rfl,SqT.of ec,zna (j:=0) rfl,d,_,rfl,dg,.ref c,r2,r0,ss,wd,hv,rfl,ra4,inv r2 (yra er2),hok,λv' r' H5 S5 RA CH=>?_⟩;exact⟨S4.trans S5,hj,ts++[r'],zic.snoc (RT.map λ_ _ z=>z.same S5) RA,step (by unfold BehR;rw[if_pos hit];exact CH)⟩
  ·rw[if_neg hit] at dg;refine⟨rfl,_,rfl,c,_,_,_,rfl,rfl,SqT.of ec,zna (j:=0) rfl,_,rfl,d,_,rfl,dg,_,rfl,iteF ?_⟩;exact⟨_,rfl,S4,hj,ts++[r2],zic.snoc RT ra4,step (by unfold BehR;rw[if_neg hit])⟩
 ·rintro ys H4 ⟨S4,_,ts,RT,BH⟩ p2 hp2;rw[ypa (by omega)] at BH;have S04:=S03.trans S4;refine laid hp2 λH5 S5 e5=>?_;exact q p2 ys ts H5 (S04.trans S5) (none_of S04 hp2) e5 (RT.map λ_ _ z=>z.same S5) BH
def SgT (H:Hp)(u:V)(r:R8):Prop:=Ex2 λa tm=>u = .ref a∧H a=some (.tup [.int r.num,.int r.keeper,.ref tm,.int (r.force:Int),.bl false])∧H tm=some (.tup (r.marks.map V.str))
theorem SgT.same {H H':Hp}(s:Same H H'){v:V}{r:R8}(h:SgT H v r):SgT H' v r:=by
 obtain⟨a,tm,rfl,h1,h2⟩:=h;exact⟨a,tm,rfl,s _ _ h1,s _ _ h2⟩
def numG (H:Hp):V->List Int
 | .ref a=>match H a with
  | some (.tup (.int n::_))=>[n]
  | _=>[]
 | _=>[]
theorem SgT.num {H:Hp}{v:V}{r:R8}(h:SgT H v r):numG H v=[r.num]:=by
 obtain⟨a,tm,rfl,h1,h2⟩:=h;show (match H a with
  | some (.tup (.int n::_))=>[n]
  | _=>[])=[r.num]
 rw[h1]
theorem zllb {H:Hp}{vs:List V}{rs:List R8}(z:All2 (SgT H) vs rs):vs.map (numG H)=rs.map λr=>[r.num]:=by
 induction z with
 | nil=>rfl
 | cons h _ ih=>rw[ybb,ybb,h.num,ih]
theorem zozb {a b:Int}(h:([a]:List Int)<[b]):a<b:=by
 rcases yjd.mp h with z|⟨_,z⟩
 ·exact z
 ·exact absurd z (ysf _)
theorem zfjb {rs:List R8}(h:(rs.map (·.num)).Nodup):(rs.map λr=>[r.num]).Nodup:=by
 have e:(rs.map λr=>[r.num])=(rs.map (·.num)).map λn=>[n]:=by rw[yrd];rfl
 rw[e];refine yrh.mpr (yjm ?_ h);intro a b n z;injection z with z
 exact n z
def zldb (ss:List R8):Prop:=ss.Pairwise λa b=>a.num<b.num
theorem zulb {H:Hp}{out:List V}{ss:List R8}(h:All2 (SgT H) out ss)(p:(out.map (numG H)).Pairwise (· < ·)):zldb ss:=by
 rw[zllb h] at p;exact yjm (λz=>zozb z) (yrh.mp p)
theorem zsv {rs ss ts:List R8}(h1:zldb ss)(h2:zldb ts)(p1:ss.Perm rs)(p2:ts.Perm rs):ss=ts :=
 yni (le:=λa b:R8=>a.num<b.num) (λa b _ _ x y=>absurd (Int.lt_trans x y) (ylq _)) h1 h2 (p1.trans p2.symm)
def zmqb (B D:Addr):Sp:=λvs H Q _=>Ex3 λl us rs=>vs=[.ref l]∧H l=some (.lst us)∧All2 (LyT B D H) us rs∧rs.length≤16∧(rs.map (·.num)).Nodup∧∀p out ss H',Same H H'->H p=none->H' p=some (.lst out)->All2 (SgT H') out ss->ss.Perm rs->zldb ss->Q (.ref p) H'
theorem zyeb {K:yca}{H:Hp}:∀c:List Int,DVs K H (c.map V.int) (c.map PyData.int)
 | []=>.nil
 | i::r=>.cons (.int i) (zyeb r)
def chD (c:List Int):PyData:=.tuple (c.map .int)
theorem zxac {K:yca}{H:Hp}{us:List V}{cs:List (List Int)}(z:All2 (ChT H) us cs):DVs K H us (cs.map chD):=by
 induction z with
 | nil=>exact .nil
 | cons h _ ih =>
  obtain⟨a,e,h,_⟩:=h;exact .cons (by rw[e];exact .tup (SqT.of h) (zyeb _)) ih
theorem lay_ints:∀c:List Int,ykc (c.map .int)=true∧yyb (c.map .int)=0
 | []=>⟨rfl,rfl⟩
 | i::r=>by
  obtain⟨h1,h2⟩:=lay_ints r;exact⟨by simp[ykc,ypc,h1],by simp[yyb,ygd,h2]⟩
theorem zmnb:∀cs:List (List Int),ykc (cs.map chD)=true∧yyb (cs.map chD)≤1
 | []=>⟨rfl,ygb _⟩
 | c::r=>by
  obtain⟨h1,h2⟩:=zmnb r;obtain⟨g1,g2⟩:=lay_ints c;refine⟨by simp[ykc,ypc,chD,h1,g1],?_⟩;simp only[ybb,yyb,ygd,chD,g2];have h2':yyb (List.map chD r)≤1:=h2;unfold chD at h2';omega
theorem zbkb (cs:List (List Int)):yad (.list (cs.map chD))=true:=by
 obtain⟨h1,h2⟩:=zmnb cs;unfold yad;rw[ypc,h1,ygd];simp;omega
structure ChOf (rs:List R8)(c:List Int)(i k:Nat)(r:R8)(wd:Str)(h:Hv)(y:Wh)(a b:Int):Prop where
 at_:rs[i]?=some r
 rule:r.rules[k]?=some (.hold wd h y)
 full:(crd r).rules[(preR r.spare).length+k]?=some (.hold wd h y)
 is_:c=[a,b,r.num,(((preR r.spare).length+k:Nat):Int)]
 hok:zqd wd h
 yd:y.depth≤9
 zd:∀z,h = .w z->z.depth≤9
theorem zecc {x:Addr}{H:Hp}{us:List V}{rs:List R8}{c:List Int}(RW:zqk x H us rs)(hc:c∈rs.flatMap chs):Ex8 λ(i k:Nat) (r:R8) (wd:Str) (h:Hv) (y:Wh) (a b:Int)=>ChOf rs c i k r wd h y a b:=by
 obtain⟨r,hr,hc2⟩:=List.mem_flatMap.mp hc;obtain⟨l,j,e,j1,j2⟩:=zto r _ _ c hc2;obtain⟨i,hi⟩:=ypd hr;have hk:j-(preR r.spare).length<r.rules.length:=by omega
 have ek:r.rules[j-(preR r.spare).length]?=some r.rules[j-(preR r.spare).length]:=yoa hk;obtain⟨v,hv⟩:∃v,us[i]?=some v:=by
  have li:i<rs.length:=(yia.mp hi).1;rw[← RW.len] at li;exact⟨_,yoa li⟩
 obtain⟨r',hr',a,tm,tl,ws,rfl,h1,h2,h3,n,h4⟩:=RW.get hv;rw[hi] at hr';cases hr';obtain⟨wv,hwv⟩:∃v,ws[j-(preR r.spare).length]?=some v:=by
  have li:=hk;rw[← h4.len] at li;exact⟨_,yoa li⟩
 obtain⟨q,hq,rt⟩:=h4.get hwv;obtain⟨ra,w',x',u',h',y',_,rfl,_,hx,hok,_,_,_⟩:=rt;have qok:=zbhb RW r hr _ (yra hq);refine⟨i,j-(preR r.spare).length,r,w',h',y',l,r.came,hi,hq,?_,?_,hok,yua y'.zshb qok.2.2,λz hz=>?_⟩
 ·show (preR r.spare++r.rules++postR r.spare)[_]?=_;rw[ymd,yxb (by omega),yxi,ytd hk];exact hq
 ·rw[e,show (preR r.spare).length+(j-(preR r.spare).length)=j by omega]
 ·subst hz;cases hok with
  | per hp=>exact yua z.zshb hp.2
theorem zbp {ts:List Row}{n:Int}(h:n∈ts.map (·.num)):∃r0,rowOf ts n=some r0:=by
 obtain⟨r,hr,e⟩:=yjb.mp h;cases q:rowOf ts n with
 | some r0=>exact⟨r0,rfl⟩
 | none =>
  have z:=yyg.mp q r hr;simp[e] at z
theorem zxjb {ms:List Str}{n:Str}(nd:ms.Nodup)(so:ycg ms=true):(ms.filter λm=>!decide (V.str m=V.str n)).Nodup∧ycg (ms.filter λm=>!decide (V.str m=V.str n))=true:=⟨nd.sublist (yop),zpib (yop) so⟩
theorem zvh.inv {wd n:Str}{ms zs:List Str}(h:zvh wd n ms zs)(nd:ms.Nodup)(so:ycg ms=true):zs.Nodup∧ycg zs=true∧zs.length≤ms.length+1:=by
 unfold zvh at h
 split at h
 ·by_cases c:inV (.str n) (ms.map V.str)=true
  ·rw[if_pos c] at h;subst h;exact⟨nd,so,yke _⟩
  ·rw[if_neg c] at h;have hn:n∉ms:=λz=>c (zbfb.mpr z);refine⟨h.1.nodup_iff.mpr ?_,h.2,by rw[h.1.length_eq,yja];exact yha _⟩;rw[ymj];refine⟨nd,yre _ _,λa ha b hb z=>?_⟩;rw[yga.mp hb] at z;rw[z] at ha;exact hn ha
 ·split at h
  ·subst h;obtain⟨h1,h2⟩:=zxjb (n:=n) nd so;exact⟨h1,h2,yjj (ysb _ _)⟩
  ·subst h;exact⟨nd,so,yke _⟩
theorem zvh.one {wd n:Str}{ms zs ys:List Str}(h:zvh wd n ms zs)(g:zvh wd n ms ys):zs=ys:=by
 unfold zvh at h g
 split at h
 ·rename_i e;rw[if_pos e] at g
  by_cases c:inV (.str n) (ms.map V.str)=true
  ·rw[if_pos c] at h g;rw[h,g]
  ·rw[if_neg c] at h g;exact zqm (h.1.trans g.1.symm) h.2 g.2
 ·rename_i e;rw[if_neg e] at g
  split at h
  ·rename_i e2;rw[if_pos e2] at g;rw[h,g]
  ·rename_i e2;rw[if_neg e2] at g;rw[h,g]
theorem BehR.inv {k:Nat}{r0:Row}{wd:Str}{am:V}{y:Wh}{r r':Row}(h:BehR r0 wd am y r r')(v:zyk k r):zyk (k+1) r':=by
 unfold BehR at h
 split at h
 ·obtain⟨h1,h2,h3⟩:=h.marks.inv v.nd v.so;have:=v.le;exact⟨h1,h2,by omega⟩
 ·subst h;exact⟨v.nd,v.so,yjj v.le⟩
theorem BehR.one {r0:Row}{wd:Str}{am:V}{y:Wh}{r a b:Row}(h:BehR r0 wd am y r a)(g:BehR r0 wd am y r b):a=b:=by
 unfold BehR at h g
 split at h
 ·rename_i c;rw[if_pos c] at g;obtain⟨an,ak,am',af,au⟩:=a;obtain⟨bn,bk,bm,bf,bu⟩:=b;have e1:an=bn:=h.num.trans g.num.symm;have e2:ak=bk:=h.keeper.trans g.keeper.symm;have e3:am'=bm:=h.marks.one g.marks;have e4:af=bf:=h.force.trans g.force.symm;have e5:au=bu:=h.mute.trans g.mute.symm;subst e1 e2 e3 e4 e5;rfl
 ·rename_i c;rw[if_neg c] at g;rw[h,g]
theorem zmxb {r0:Row}{wd:Str}{am:V}{y:Wh}{ss ts us:List Row}(a:All2 (BehR r0 wd am y) ss ts)(b:All2 (BehR r0 wd am y) ss us):ts=us:=by
 induction a generalizing us with
 | nil =>
  cases b;rfl
 | cons h t ih =>
  cases b with
  | cons g u=>rw[h.one g,ih u]
theorem znxb {k:Nat}{r0:Row}{wd:Str}{am:V}{y:Wh}{ss ts:List Row}(z:All2 (BehR r0 wd am y) ss ts)(v:∀s∈ss,zyk k s):∀t∈ts,zyk (k+1) t:=by
 induction z with
 | nil=>exact λt h=>nomatch h
 | cons a r ih =>
  intro t h
  rcases yla.mp h with z|z
  ·rw[z];exact a.inv (v _ yka)
  ·exact ih (λs hs=>v s (yma _ hs)) t z
theorem zwu (T:Tx K mg):FnOk P w K mg base CX0 2 T.zld.f T.zld.d zsk (zmqb T.zbd T.zib):=by
 refine T.zld.ok zuu ?_;rintro f c A o s H vs Q E hr ⟨l,us,rs,rfl,el,LY,h16,hnd,q⟩ X;have ul:=LY.len;refine⟨_,  (zea (zoa (zlb zph rfl T.zsg ylj (zaa (zge (own:=["number","card","keeper","came","marks"]) (cap:=[]) rfl (zrb.chk rfl rfl) .nil (zgd (pv 0)) (λ_ _ _ _=>(zqx K (n:=5) rfl (zqb (zva (i:=0) (show ywb (["number","card","keeper","came","marks"]:List Str) by decide +kernel) rfl (.inl rfl)) (zqb (zva (i:=1) (show ywb (["number","card","keeper","came","marks"]:List Str) by decide +kernel) rfl (.inl rfl)) (zqb (zva (i:=2) (show ywb (["number","card","keeper","came","marks"]:List Str) by decide +kernel) rfl (.inl rfl)) (zqb (zva (i:=3) (show ywb (["number","card","keeper","came","marks"]:List Str) by decide +kernel) rfl (.inl rfl)) (zqb (zva (i:=4) (show ywb (["number","card","keeper","came","marks"]:List Str) by decide +kernel) rfl (.inl rfl)) zgk))))))) (λ_ _ _ _=>zmh) (λ_ _ _ _=>by exact (zgb (zaa (pv 0) (zaa (pv 2) (zaa (zlc (zbv K) rfl T.zgh yoi (zaa (pv 4) zca)) (zaa (zkmb K (pv 1) rfl) (zaa zyib zca)))))))) zca)))),?_⟩;refine⟨_,rfl,l,rfl,⟨_,SqL.of el⟩,?_⟩;refine zyc (xs:=us) (λi ys H'=>Same H H'∧i≤us.length∧All2 (SgT H') ys (rs.take i)) (λi ys H' z=>SqL.of (z.1 _ _ el)) ⟨Same.refl _,ygb _,.nil⟩ ?_ ?_ ?_
 ·rintro i ys H' ⟨_,hi,hy⟩;have:=hy.len;rw[yza] at this;exact small (by omega)
 ·rintro i u ys H' hu ⟨S,_,hy⟩;have hi:i<us.length:=(yia.mp hu).1;obtain⟨r,er,ly⟩:=LY.get hu;obtain⟨a,tm,c,rfl,ea,em,ic⟩:=ly.same S;obtain⟨ca,dx,mm,tt,vs,rfl,hc,_⟩:=ic;refine⟨a,_,rfl,SqT.of ea,rfl,_,_,rfl,_,_,rfl,_,_,rfl,_,_,rfl,_,_,rfl,rfl,rfl,?_⟩;refine⟨_,rfl,_,rfl,_,rfl,tm,_,rfl,.inr ⟨SqT.of em,?_⟩⟩;refine⟨_,rfl,ca,_,dx,_,_,rfl,hc,T.znk,T.zzg,zdkb _ _ _ _ _,sz5,λt ht=>?_⟩;refine laid ht λH3 S3 e3=>?_;refine⟨S.trans S3,hi,?_⟩;rw[yva,er];exact All2.snoc ⟨t,tm,rfl,e3,S3 _ _ em⟩ (hy.imp λz=>z.same S3)
 ·rintro ys H' ⟨S,_,hy⟩ p hp;rw[ypa (by omega)] at hy;refine laid hp λH2 S2 e2=>?_;have hy2:All2 (SgT H2) ys rs:=hy.imp λz=>z.same S2;have yl:=hy2.len;refine⟨p,ys,numG H2,1,rfl,SqL.of e2,by omega,by decide,λu hu=>?_,?_,λp' out hp' po so=>?_⟩
  ·obtain⟨r,_,sg⟩:=hy2.mem hu;have en:=sg.num;obtain⟨a,tm,rfl,h1,_⟩:=sg;exact⟨a,[r.num],_,rfl,SqT.of h1,en,rfl⟩
  ·rw[zllb hy2];exact zfjb hnd
  ·obtain⟨ss,h1,h2⟩:=hy2.perm po;refine laid hp' λH3 S3 e3=>?_;exact q p' out ss H3 (S.trans (S2.trans S3)) (none_of (S.trans S2) hp') e3 (h1.imp λz=>z.same S3) h2 (zulb h1 so)
theorem lay_of {w:Str}{h:Hv}{y:Wh}(ok:zqd w h):ymk w zwo=some (.flat (.int (lay (.hold w h y)))):=by
 have q:∀u∈changes,ymk u zwo=some (.flat (.int (layW u))):=by
  unfold changes;intro u hu;simp only[yla,ydc,or_false] at hu
  rcases hu with rfl|rfl|rfl|rfl|rfl|rfl|rfl|rfl<;>rfl
 exact q w ok.word
theorem zdjb (T:Tx K mg)(kb:K.In base):FnOk P w K mg base CX0 2 T.zci.f T.zci.d zlu (zflb T.zbd T.zib):=by
 refine T.zci.ok zie ?_;rintro f c A o s H vs Q E hr ⟨l,us,rs,rfl,el,LY,rok,qok,h16,rnd,q⟩ X;have rls:∀r∈rs,r.rules.length≤3:=λr hr=>by
  have:=(rok r hr).ru;omega
 have ul:=LY.len;refine⟨_,  (zba (zla (i:=1) zie.nd rfl (.inl rfl) (zsj zca))
  (zba (zaj ygc rfl (zgd (pv 0)) (zwv (n:=5) rfl (zqb (zva (i:=2) zie.nd rfl (.inl rfl)) (zqb (zva (i:=3) zie.nd rfl (.inl rfl)) (zqb (zva (i:=4) zie.nd rfl (.inl rfl)) (zqb (zva (i:=5) zie.nd rfl (.inl rfl)) (zqb (zva (i:=6) zie.nd rfl (.inl rfl)) zgk))))))
   (zea (zaj ygc rfl (zmrb rfl T.zbk (zaa (zte (pv 3) rfl) zca)) (zwv (n:=2) rfl (zqb (zva (i:=7) zie.nd rfl (.inl rfl)) (zqb (zva (i:=8) zie.nd rfl (.inl rfl)) zgk)))
    (zea (zcc (zra zed (zkb zxb (pv 8) zda (λ_ _=>rfl)) zpa (zbb _))
     (zea (zkf (ztm yac yyd yzd zuj (pv 1) (zaa (zgb (zaa (zkb (zsnb (zkib T kb)) (zre (v:=.ref T.zuo) rfl T.zqr rfl) (zkb zxb (pv 8) zda (λ_ _=>rfl)) (λ_ _=>rfl)) (zaa (pv 5) (zaa (pv 2) (zaa (pv 7) zca))))) zca))))
     zua)))))
  (zea (zoa (zlb zph rfl T.zsg ylj (zaa (pv 1) zca)))))),?_⟩
 refine⟨sz0,λfl hfl=>?_⟩;refine laid hfl λH2 S2 ef=>?_;refine⟨_,rfl,l,rfl,⟨_,SqL.of (S2 _ _ el)⟩,?_⟩;refine zqo (xs:=us) (λi σ H'=>Ex8 λws o2 o3 o4 o5 o6 o7 o8=>σ=[some (.ref l),some (.ref fl),o2,o3,o4,o5,o6,o7,o8]∧H' fl=some (.lst ws)∧All2 (ChT H') ws ((rs.take i).flatMap chs)∧Same H H') ⟨[],_,_,_,_,_,_,_,rfl,ef,.nil,S2⟩ ?_ ?_ ?_
 ·rintro i σ H' _ ⟨ws,o2,o3,o4,o5,o6,o7,o8,rfl,_,_,S⟩;exact SqL.of (S _ _ el)
 ·rintro i u σ H3 hu ⟨ws,o2,o3,o4,o5,o6,o7,o8,rfl,ef3,CH,S3⟩;obtain⟨r,er,ly⟩:=LY.get hu;have i16:i<us.length:=(yia.mp hu).1;have r3:=rls r (yra er);have tl:((rs.take i).flatMap chs).length≤3*(rs.take i).length:=zgz λz hz=>rls z (yxo hz);rw[yza] at tl;have cok:=zyob (rok r (yra er)) (qok r (yra er));obtain⟨a,tm,c,rfl,ea,em,ca,dx,mm,tt,vs,rfl,hc,hm,ht,IR⟩:=ly;refine⟨a,_,rfl,SqT.of (S3 _ _ ea),rfl,_,_,rfl,_,_,rfl,_,_,rfl,_,_,rfl,_,_,rfl,rfl,?_⟩;refine⟨_,rfl,ca,_,dx,_,_,rfl,S3 _ _ hc,T.znk,T.zuf,zqw _ _ _ _ _,tt,vs,rfl,SqT.of (S3 _ _ ht),?_⟩;refine zgob (xs:=vs) (λk σ H'=>Ex3 λws o7 o8=>σ=[some (.ref l),some (.ref fl),some (.int r.num),some (.ref ca),some (.int r.keeper),some (.int r.came),some (.ref tm),o7,o8]∧H' fl=some (.lst ws)∧All2 (ChT H') ws ((rs.take i).flatMap chs++chAt r 0 ((crd r).rules.take k))∧Same H H') ⟨ws,_,_,rfl,ef3,by rw[yol];show All2 _ _ (_++[]);rw[ylb];exact CH,S3⟩ ?_ ?_ ?_
  ·rintro k σ H' _ ⟨ws',o7',o8',rfl,_,_,S⟩;exact SqT.of (S _ _ ht)
  ·rintro k v σ H4 p hv ⟨ws4,o7',o8',rfl,ef4,CH4,S4⟩ hp;obtain⟨qr,eq,ir⟩:=IR.get hv;have k3:k<vs.length:=(yia.mp hv).1;have vl:=IR.length;have few:=cok.few;have qk:=cok.rules qr (yra eq);refine laid hp λH5 S5 ep=>?_;refine⟨p,_,rfl,SqT.of ep,rfl,_,_,rfl,_,_,rfl,rfl,?_⟩;have S45:=S4.trans S5;have ef5:=S5 _ _ ef4;have CH5:All2 (ChT H5) ws4 _:=CH4.imp λz=>z.same S5;have take:=zdpb r 0 (crd r).rules eq;cases qr with
   | hold wd hv' y =>
    obtain⟨b,x',u',rfl,eb,_⟩:=ir;have eb5:=S45 _ _ eb;refine⟨_,rfl,b,_,_,_,rfl,rfl,SqT.of eb5,zna (j:=0) rfl,rfl,_,rfl,iteT ?_⟩;refine⟨_,rfl,.inl ⟨rfl,_,SqL.of ef5⟩,_,rfl,b,_,_,_,rfl,rfl,SqT.of eb5,zna (j:=1) rfl,wd,_,rfl,rfl,lay_of (y:=y) qk.1,_,rfl,_,rfl,_,rfl,sz4,λt ht'=>?_⟩;refine laid ht' λH6 S6 et6=>?_;have ef6:=S6 _ _ ef5;have cl:=CH4.len;rw[yja] at cl;have cl2:=zxy r 0 ((crd r).rules.take k);rw[yza] at cl2;refine⟨fl,_,_,rfl,rfl,ef6,zei (by omega),?_⟩;refine⟨ws4++[.ref t],_,_,rfl,zfa,?_,zke (S45.trans S6) hfl _⟩;rw[take,← ymd];refine All2.snoc ⟨t,rfl,?_,rfl⟩ (CH5.imp λz=>(z.same S6).put ef6);rw[zta (zng et6 ef6 (by intro y;cases y)),et6,ygo];rfl
   | wen kd y d =>
    obtain⟨b,x',u',rfl,eb,_⟩:=ir;refine⟨_,rfl,b,_,_,_,rfl,rfl,SqT.of (S45 _ _ eb),zna (j:=0) rfl,rfl,_,rfl,iteF ?_⟩;refine⟨ws4,_,_,rfl,ef5,?_,S45⟩;rw[take];show All2 _ _ (_++(_++[]))
    rw[ylb];exact CH5
   | instead kd y wd z =>
    obtain⟨b,x',rfl,eb,_⟩:=ir;refine⟨_,rfl,b,_,_,_,rfl,rfl,SqT.of (S45 _ _ eb),zna (j:=0) rfl,rfl,_,rfl,iteF ?_⟩;refine⟨ws4,_,_,rfl,ef5,?_,S45⟩;rw[take];show All2 _ _ (_++(_++[]))
    rw[ylb];exact CH5
   | may c d =>
    obtain⟨b,u',rfl,eb,_⟩:=ir;refine⟨_,rfl,b,_,_,_,rfl,rfl,SqT.of (S45 _ _ eb),zna (j:=0) rfl,rfl,_,rfl,iteF ?_⟩;refine⟨ws4,_,_,rfl,ef5,?_,S45⟩;rw[take];show All2 _ _ (_++(_++[]))
    rw[ylb];exact CH5
  ·rintro σ H4 ⟨ws4,o7',o8',rfl,ef4,CH4,S4⟩;refine⟨ws4,_,_,_,_,_,_,_,rfl,ef4,?_,S4⟩;have et:(crd r).rules.take vs.length=(crd r).rules:=ypa (by rw[IR.length];exact yha _);rw[et,zkxb] at CH4;rw[yva,er,List.flatMap_append];show All2 _ _ (_++(chs r++[]))
   rw[ylb];exact CH4
 ·rintro σ H3 ⟨ws,o2,o3,o4,o5,o6,o7,o8,rfl,ef3,CH,S3⟩;rw[ypa (by omega)] at CH;have tl:=zgz rls;have cl:=CH.len;refine⟨_,rfl,fl,ws,chG H3,4,rfl,SqL.of ef3,by omega,by decide,λu hu=>?_,?_,λp out hp po so=>?_⟩
  ·obtain⟨c,_,ch⟩:=CH.mem hu;have ek:=ch.key;obtain⟨a,rfl,e,l4⟩:=ch;exact⟨a,c,[],rfl,by rw[ylb];exact SqT.of e,ek,l4⟩
  ·rw[zst CH];exact zrpb rnd
  ·obtain⟨cs,h1,h2⟩:=CH.perm po;rw[zst h1] at so;refine laid hp λH4 S4 e4=>?_;exact q p out cs H4 (S3.trans S4) (none_of S3 hp) e4 (h1.imp λz=>z.same S4) h2 so
def rowF (r:R8):Row:=⟨r.num,r.keeper,r.marks,r.force,false⟩
theorem zwjb {H:Hp}{us:List V}{ss:List R8}(z:All2 (SgT H) us ss):zic H us (ss.map rowF):=by
 induction z with
 | nil=>exact .nil
 | cons h _ ih=>exact .cons h ih
def zrm (rs:List R8)(c:List Int):Option (R8×Str×Hv×Wh):=match c with
 | [_,_,n,k]=>(rs.find? λr=>decide (r.num=n)).bind λr=>match (crd r).rules[k.toNat]? with
  | some (.hold wd h y)=>some (r,wd,h,y)
  | _=>none
 | _=>none
theorem zry {rs:List R8}{i:Nat}{r:R8}(nd:(rs.map (·.num)).Nodup)(h:rs[i]?=some r):(rs.find? λz=>decide (z.num=r.num))=some r:=by
 cases q:rs.find? λz=>decide (z.num=r.num) with
 | none =>
  have z:=yyg.mp q r (yra h);simp at z
 | some r2 =>
  have h1:=List.find?_some q;obtain⟨j,hj⟩:=ypd (ypl q);have e:=zcy nd hj h (of_decide_eq_true h1);subst e;rw[h] at hj;cases hj;rfl
theorem ChOf.zsvb {rs:List R8}{c:List Int}{i k:Nat}{r:R8}{wd:Str}{h:Hv}{y:Wh}{a b:Int}(C:ChOf rs c i k r wd h y a b)(nd:(rs.map (·.num)).Nodup):zrm rs c=some (r,wd,h,y):=by
 rw[C.is_];show ((rs.find? λz=>decide (z.num=r.num)).bind λr=>match (crd r).rules[(((preR _).length+k:Nat):Int).toNat]? with
  | some (.hold wd h y)=>some (r,wd,h,y)
  | _=>none)=_
 rw[zry nd C.at_,yfn,yjc];show (match (crd r).rules[(preR r.spare).length+k]? with
  | some (.hold wd h y)=>some (r,wd,h,y)
  | _=>none)=_
 rw[C.full]
noncomputable def behF (r0:Row)(wd:Str)(am:V)(y:Wh)(ss:List Row):List Row:=open Classical in if h:∃ts,All2 (BehR r0 wd am y) ss ts then h.choose else ss
theorem zoxb {r0:Row}{wd:Str}{am:V}{y:Wh}{ss ts:List Row}(h:All2 (BehR r0 wd am y) ss ts):behF r0 wd am y ss=ts:=by
 unfold behF;have e:∃ts,All2 (BehR r0 wd am y) ss ts:=⟨ts,h⟩;rw[dif_pos e];exact zmxb e.choose_spec h
def zsf (rs:List R8)(ss:List Row)(c:List Int):List (Int×V):=match zrm rs c with
 | some (r,wd,h,y)=>match rowOf ss r.num with
  | some r0=>zvk ss r0 wd h y
  | none=>[]
 | none=>[]
noncomputable def behC (rs:List R8)(ss:List Row)(c:List Int):List Row:=match zrm rs c with
 | some (r,wd,h,y)=>match rowOf ss r.num with
  | some r0=>behF r0 wd (zpk ss r0 wd h) y ss
  | none=>ss
 | none=>ss
theorem ChOf.zcp {rs:List R8}{ss:List Row}{c:List Int}{i k:Nat}{r:R8}{r0:Row}{wd:Str}{h:Hv}{y:Wh}{a b:Int}(C:ChOf rs c i k r wd h y a b)(nd:(rs.map (·.num)).Nodup)(e:rowOf ss r.num=some r0):zsf rs ss c=zvk ss r0 wd h y:=by
 unfold zsf;rw[C.zsvb nd];dsimp only;rw[e]
theorem ChOf.zpxb {rs:List R8}{ss ts:List Row}{c:List Int}{i k:Nat}{r:R8}{r0:Row}{wd:Str}{h:Hv}{y:Wh}{a b:Int}(C:ChOf rs c i k r wd h y a b)(nd:(rs.map (·.num)).Nodup)(e:rowOf ss r.num=some r0)(B:All2 (BehR r0 wd (zpk ss r0 wd h) y) ss ts):behC rs ss c=ts:=by
 unfold behC;rw[C.zsvb nd];dsimp only;rw[e];exact zoxb B
def encV:V->PyData
 | .int i=>.int i
 | .str u=>.str u
 | _=>.none
def encR (x:Int×V):PyData:=.tuple [.int x.1,encV x.2]
def encL (xs:List (Int×V)):PyData:=.list (xs.map encR)
def AmOk (v:V):Prop:=(∃i,v = .int i)∨∃n,v = .str n∧zdd n
theorem zabc {ss:List Row}{r0:Row}{wd:Str}{h:Hv}(hok:zqd wd h):AmOk (zpk ss r0 wd h):=by
 cases hok
 ·exact .inl ⟨_,rfl⟩
 ·exact .inl ⟨_,rfl⟩
 ·rename_i n hn;exact .inr ⟨_,rfl,hn⟩
 ·rename_i n hn;exact .inr ⟨_,rfl,hn⟩
 ·exact .inl ⟨_,rfl⟩
 ·exact .inl ⟨_,rfl⟩
 ·exact .inl ⟨_,rfl⟩
 ·exact .inl ⟨_,rfl⟩
theorem znx {ss:List Row}{r0:Row}{wd:Str}{h:Hv}{y:Wh}(hok:zqd wd h):∀p∈zvk ss r0 wd h y,AmOk p.2:=λp hp=>by
 unfold zvk at hp
 split at hp
 ·cases hp
 ·obtain⟨r,_,rfl⟩:=yjb.mp hp;exact zabc hok
theorem zts {K:yca}{H:Hp}{us:List V}{xs:List (Int×V)}(ok:∀p∈xs,AmOk p.2)(z:All2 (zeu H) us xs):DVs K H us (xs.map encR):=by
 induction z with
 | nil=>exact .nil
 | cons h _ ih =>
  obtain⟨a,rfl,h⟩:=h;refine .cons (.tup (SqT.of h) (.cons (.int _) (.cons ?_ .nil))) (ih λp hp=>ok p (yma _ hp))
  rcases ok _ yka with⟨i,e⟩|⟨n,e,_⟩
  ·rw[e];exact .int i
  ·rw[e];exact .str n
theorem zkt:∀{xs:List (Int×V)},(∀p∈xs,AmOk p.2)->ykc (xs.map encR)=true∧yyb (xs.map encR)≤1
 | [],_=>⟨rfl,ygb _⟩
 | x::r,ok=>by
  obtain⟨h1,h2⟩:=zkt (xs:=r) λp hp=>ok p (yma _ hp);have a1:ypc (encV x.2)=true∧ygd (encV x.2)=0:=by
   rcases ok x yka with⟨i,e⟩|⟨n,e,hn⟩
   ·rw[e];exact⟨by simp[encV,ypc],by simp[encV,ygd]⟩
   ·rw[e];exact⟨zdy hn,by simp[encV,ygd]⟩
  refine⟨by simp[ykc,ypc,encR,h1,a1.1],?_⟩;have h2':yyb (List.map encR r)≤1:=h2;simp only[ybb,yyb,ygd,encR,a1.2];unfold encR at h2';omega
theorem ztq {xs:List (Int×V)}(ok:∀p∈xs,AmOk p.2):yad (encL xs)=true:=by
 obtain⟨h1,h2⟩:=zkt ok;unfold yad encL;rw[ypc,h1,ygd];simp;omega
noncomputable def zweb (rs:List R8)(ss:List Row)(c d:List Int):Bool:=!PyData.eqv (encL (zsf rs (behC rs ss d) c)) (encL (zsf rs ss c))
theorem zrt (c:List Int):yad (chD c)=true:=by
 obtain⟨h1,h2⟩:=lay_ints c;unfold yad chD;rw[ypc,h1,ygd,h2];rfl
theorem zzsb {K:yca}{H:Hp}{u:V}{c:List Int}(h:ChT H u c):DV K H u (chD c):=by
 obtain⟨a,rfl,e,_⟩:=h;exact .tup (SqT.of e) (zyeb _)
theorem zphb:∀(c d:List Int),ypg (c.map .int) (d.map .int)=decide (c=d)
 | [],[]=>by simp[ypg]
 | [],_::_=>by simp[ypg]
 | _::_,[]=>by simp[ypg]
 | x::c,y::d=>by
  simp only[ybb,ypg,zphb c d]
  by_cases e:x=y
  ·by_cases e2:c=d<;>simp[yrg,e,e2]
  ·simp[yrg,e]
theorem zlob (c d:List Int):yrg (chD c) (chD d)=decide (c=d):=by
 unfold chD;rw[yrg];exact zphb c d
def layI (c:List Int):Int:=c.headD 0
def othB (c d:List Int):Bool:=!decide (d=c)&&decide (V.int (layI d)=V.int (layI c))
noncomputable def zvbb (rs:List R8)(ss:List Row)(c d:List Int):Bool:=zweb rs ss c d&&othB c d
def HasC (rs:List R8)(c:List Int):Prop:=Ex8 λ(i k:Nat) (r:R8) (wd:Str) (h:Hv) (y:Wh) (a b:Int)=>ChOf rs c i k r wd h y a b
def zwfb (rs:List R8)(ss:List Row)(H:Hp)(u:V)(c:List Int):Prop:=Ex4 λa sb v wb=>u = .ref a∧H a=some (.tup [v,.ref sb])∧ChT H v c∧H sb=some (.lst wb)∧zic H wb (behC rs ss c)∧(behC rs ss c).map (·.num)=ss.map (·.num)
theorem zwfb.same {rs:List R8}{ss:List Row}{H H':Hp}(s:Same H H'){u:V}{c:List Int}(h:zwfb rs ss H u c):zwfb rs ss H' u c:=by
 obtain⟨a,sb,v,wb,e,h1,h2,h3,h4,h5⟩:=h;exact⟨a,sb,v,wb,e,s _ _ h1,h2.same s,s _ _ h3,h4.map λ_ _ z=>z.same s,h5⟩
theorem ChT.putD {H:Hp}{x:Addr}{o o':HO}{u:V}{c:List Int}(e:H x=some o)(n:∀xs,o ≠ .tup xs)(h:ChT H u c):ChT (upd H x o') u c:=by
 obtain⟨a,rfl,e1,l⟩:=h;exact⟨a,rfl,by rw[zta (zng e1 e (λz=>n _ z.symm))];exact e1,l⟩
theorem zro {p:List Int->Bool}{d:List Int}(h:p d=true):[d].filter p=[d]:=by simp[h]
theorem zsp {p:List Int->Bool}{d:List Int}(h:¬ p d=true):[d].filter p=[]:=by simp[h]
def Ent (rs:List R8)(ss:List Row)(cs:List (List Int))(H:Hp)(kvs:List (List Key×V))(c:List Int):Prop:=Ex2 λa out=>L2.valV kvs (c.map Sum.inl)=some (.ref a)∧H a=some (.lst out)∧All2 (ChT H) out (cs.filter (zvbb rs ss c))
theorem zzeb:∀{c d:List Int},(c.map Sum.inl:List Key)=d.map Sum.inl->c=d
 | [],[],_=>rfl
 | [],_::_,h=>by cases h
 | _::_,[],h=>by cases h
 | x::c,y::d,h=>by
  rw[ybb,ybb] at h;injection h with h1 h2
  injection h1 with h1
  rw[h1,zzeb h2]
theorem zmp (c:List Int):(c.map V.int)=(c.map Sum.inl:List Key).map kV:=by
 rw[yrd];rfl
def zsqb (B D:Addr):Sp:=λvs H Q _=>Ex9 λll sl ml us ws ms rs ss cs=>vs=[.ref ll,.ref sl,.ref ml]∧H ll=some (.lst us)∧All2 (LyT B D H) us rs∧rs.length≤16∧(rs.map (·.num)).Nodup∧H sl=some (.lst ws)∧zic H ws ss∧(ss.map (·.num)).Perm (rs.map (·.num))∧(∀s∈ss,zyk 60 s)∧H ml=some (.lst ms)∧All2 (ChT H) ms cs∧cs.length≤40∧(∀c∈cs,HasC rs c)∧∀p (kvs:List (List Key×V)) H',Same H H'->H p=none->H' p=some (.dT kvs)->(∀c∈cs,Ent rs ss cs H' kvs c)->Q (.ref p) H'
theorem zibb (T:Tx K mg):FnOk P w K mg base CX0 25 T.zbf.f T.zbf.d zgn (zsqb T.zbd T.zib):=by
 refine T.zbf.ok zqf ?_;rintro f c A o s H vs Q E hr ⟨ll,sl,ml,us,ws,ms,rs,ss,cs,rfl,el,LY,h16,nd,es,R,pp,inv,em,CH,c40,has,q⟩ X;have tn:∀{ts:List Row},(ts.map (·.num)).Perm (rs.map (·.num))->ts.length≤16∧(ts.map (·.num)).Nodup:=λ{ts} p=>by
  have l:=p.length_eq;rw[yea,yea] at l;exact⟨by omega,p.nodup_iff.mpr nd⟩
 have rowt:∀{ts:List Row} {i:Nat} {r:R8},(ts.map (·.num)).Perm (rs.map (·.num))->rs[i]?=some r->∃r0,rowOf ts r.num=some r0:=λ{ts i r} p e=>zbp (p.mem_iff.mpr (yjb.mpr ⟨r,yra e,rfl⟩));have tns:=tn pp;have ml0:=CH.len;refine⟨_,  (zba (zvs (i:=3) zqf.nd rfl (.inl rfl) (own:=["other"]) (cap:=["lying","sight"]) rfl (zrb.chk rfl rfl) (.cons (j:=0) rfl (.inl rfl) (.inl rfl) (.cons (j:=1) rfl (.inl rfl) (.inl rfl) .nil)) (zgd (pv 2)) (λ_ _ _ _=>(zva (i:=0) (show ywb (["other","lying","sight"]:List Str) by decide +kernel) rfl (.inl rfl))) (λ_ _ _ _=>zmh) (λ_ _ _ _=>by exact (zgb (zaa (pv 0) (zaa (zja (zkbb T) hr rfl T.zxh.m T.zxh.F.kp (zbib T) .nil zwa (zaa (pv 1) (zaa (pv 2) (zaa (pv 0) zca)))) zca)))))
  (zba (zla (i:=4) zqf.nd rfl (.inl rfl) zfhb)
  (zba (zaj ygc rfl (zgd (pv 2)) (zva (i:=5) zqf.nd rfl (.inr rfl))
   (zba (zla (i:=6) zqf.nd rfl (.inr rfl) (zja (zmr T).up hr rfl T.zjg.m T.zjg.F.kp (zdz T) .nil zwa (zaa (pv 0) (zaa (pv 1) (zaa (pv 5) zca)))))
   (zba (zvs (i:=7) zqf.nd rfl (.inl rfl) (own:=["pair"]) (cap:=["one"]) rfl (zrb.chk rfl rfl) (.cons (j:=5) rfl (.inl rfl) (.inl rfl) .nil) (zgd (pv 3)) (λ_ _ _ _=>(zva (i:=0) (show ywb (["pair","one"]:List Str) by decide +kernel) rfl (.inl rfl))) (λ_ _ _ _=>zmj (PW.pt (zwlb (zra (zomb K hr.units) (zkb (zxc K) (pv 0) zda (λ_ _=>rfl)) (pv 1) (zbb _)) (zgeb (zra zed (zkb (zxc K) (zkb (zxc K) (pv 0) zda (λ_ _=>rfl)) zda (λ_ _=>rfl)) (zkb (zxc K) (pv 1) zda (λ_ _=>rfl)) (zbb _)))))) (λ_ _ _ _=>by exact (pv 0)))
   (zea (zamb (zaab hr.units) (pv 4) (pv 5) (zge (own:=["other","then"]) (cap:=["now","lying","one"]) rfl (zrb.chk rfl rfl) (.cons (j:=6) rfl (.inl rfl) (.inl rfl) (.cons (j:=0) rfl (.inl rfl) (.inl rfl) (.cons (j:=5) rfl (.inl rfl) (.inl rfl) .nil))) (zgd (pv 7)) (λ_ _ _ _=>(zqx K (n:=2) rfl (zqb (zva (i:=0) (show ywb (["other","then","now","lying","one"]:List Str) by decide +kernel) rfl (.inl rfl)) (zqb (zva (i:=1) (show ywb (["other","then","now","lying","one"]:List Str) by decide +kernel) rfl (.inl rfl)) zgk)))) (λ_ _ _ _=>zmj (zra (zomb K hr.units) (zja (zmr T).up hr rfl T.zjg.m T.zjg.F.kp (zdz T) .nil zwa (zaa (pv 3) (zaa (pv 1) (zaa (pv 4) zca)))) (pv 2) (zbb _))) (λ_ _ _ _=>by exact (pv 0))) rfl)))))
  (zea (zoa (pv 4)))))),?_⟩
 refine⟨_,rfl,ml,rfl,⟨_,SqL.of em⟩,?_⟩;refine zyc (xs:=ms) (λj ys H'=>Same H H'∧j≤ms.length∧All2 (zwfb rs ss H') ys (cs.take j)) (λj ys H' z=>SqL.of (z.1 _ _ em)) ⟨Same.refl _,ygb _,.nil⟩ ?_ ?_ ?_
 ·rintro j ys H' ⟨_,hj,hy⟩;have:=hy.len;rw[yza] at this;exact small (by omega)
 ·rintro j u ys H1 hu ⟨S1,_,hy⟩;have hj:j<ms.length:=(yia.mp hu).1;obtain⟨c,ec,cu⟩:=CH.get hu;obtain⟨i,k,r,wd,hv,y,a,b,C⟩:=has c (yra ec);obtain⟨r0,hr0⟩:=rowt pp C.at_;have cu1:=cu.same S1;have cu2:=cu1;rw[C.is_] at cu2;refine⟨rfl,_,rfl,_,rfl,_,rfl,_,rfl,ll,sl,us,ws,rs,ss,u,i,_,r,r0,wd,hv,y,a,b,rfl,S1 _ _ el,LY.imp λz=>z.same S1,h16,nd,S1 _ _ es,R.map λ_ _ z=>z.same S1,tns.2,inv,tns.1,C.at_,C.full,C.hok,C.yd,C.zd,hr0,cu2,λp out ts H2 S2 np ep RT B=>⟨sz2,λt ht=>?_⟩⟩;refine laid ht λH3 S3 e3=>?_;refine⟨S1.trans (S2.trans S3),hj,?_⟩;rw[yva,ec,ypb];refine All2.snoc ⟨t,p,u,out,rfl,e3,cu1.same (S2.trans S3),S3 _ _ ep,?_,?_⟩ (hy.imp λz=>z.same (S2.trans S3))
  ·rw[C.zpxb nd hr0 B];exact RT.map λ_ _ z=>z.same S3
  ·rw[C.zpxb nd hr0 B];exact zzhb B
 rintro sv H1 ⟨S1,_,hsv⟩ pl hpl;rw[ypa (by omega)] at hsv;refine laid hpl λH2 S2 e2=>?_;refine λfd hfd=>?_;refine laid hfd λH3 S3 e3=>?_;have S02:=S1.trans S2;have S03:=S02.trans S3;have nfd:H fd=none:=none_of S02 hfd;have sv2:All2 (zwfb rs ss H2) sv cs:=hsv.imp λz=>z.same S2;have svl:=sv2.len;refine⟨_,rfl,ml,rfl,⟨_,SqL.of (S03 _ _ em)⟩,?_⟩;refine zqo (xs:=ms) (λj σ H'=>Ex4 λ(kvs:List (List Key×V)) o5 o6 o7=>σ=[some (.ref ll),some (.ref sl),some (.ref ml),some (.ref pl),some (.ref fd),o5,o6,o7]∧H' fd=some (.dT kvs)∧kvs.length≤j∧(∀c∈cs.take j,Ent rs ss cs H' kvs c)∧Same H2 H') ⟨[],_,_,_,rfl,e3,yha _,by simp,S3⟩ (λj σ H' _ z=>by obtain⟨_,_,_,_,_,_,_,_,S⟩:=z;exact SqL.of ((S02.trans S) _ _ em)) ?_ ?_
 ·rintro j u σ H4 hu ⟨kvs,o5,o6,o7,rfl,ed,kl,ent,S4⟩;have S04:=S02.trans S4;have hj:j<ms.length:=(yia.mp hu).1;obtain⟨c,ec,cu⟩:=CH.get hu;obtain⟨i,k,r,wd,hv,y,a,b,C⟩:=has c (yra ec);obtain⟨r0,hr0⟩:=rowt pp C.at_;have cu4:=cu.same S04;have cu5:=cu4;rw[C.is_] at cu5;refine⟨_,rfl,_,rfl,_,rfl,ll,sl,us,ws,rs,ss,u,i,_,r,r0,wd,hv,y,a,b,rfl,S04 _ _ el,LY.imp λz=>z.same S04,h16,nd,S04 _ _ es,R.map λ_ _ z=>z.same S04,tns.1,C.at_,C.full,C.hok,C.yd,C.zd,hr0,cu5,λnp nout H5 S5 nnp enp P0=>?_⟩;rw[← C.zcp nd hr0] at P0;have okP:∀p∈zsf rs ss c,AmOk p.2:=by
   rw[C.zcp nd hr0];exact znx C.hok
  have sv5:All2 (zwfb rs ss H5) sv cs:=sv2.imp λz=>z.same (S4.trans S5);have cu6:=cu4.same S5;obtain⟨ct,rfl,ect,_⟩:=id cu6;have e25:=(S4.trans S5) _ _ e2;refine⟨_,rfl,pl,rfl,⟨_,SqL.of e25⟩,?_⟩;refine zyc (xs:=sv) (λj2 ys H'=>H'=H5∧j2≤sv.length∧All2 (zwfb rs ss H5) ys ((cs.take j2).filter (othB c))) (λj2 ys H' z=>by rw[z.1];exact SqL.of e25) ⟨rfl,ygb _,.nil⟩ ?_ ?_ ?_
  ·rintro j2 ys H' ⟨_,hj2,hy⟩;have l1:=hy.len;have l2:=ysb (othB c) (cs.take j2);rw[yza] at l2;exact small (by omega)
  ·rintro j2 u2 ys H' hu2 ⟨rfl,_,hy⟩;have hj2:j2<sv.length:=(yia.mp hu2).1;obtain⟨d,ed2,ps⟩:=sv5.get hu2;obtain⟨pa,sb,v2,wb,rfl,epa,cd,esb,RB,h5⟩:=id ps;obtain⟨vt,rfl,evt,_⟩:=id cd;obtain⟨_,_,_,_,_,_,a',b',D⟩:=has d (yra ed2);have evt2:=evt;rw[D.is_] at evt2;have ect2:=ect;rw[C.is_] at ect2;have ld:layI d=a':=(by rw[D.is_];rfl);have lc:layI c=a:=(by rw[C.is_];rfl);refine⟨rfl,_,rfl,pa,_,_,_,rfl,rfl,SqT.of epa,zna (j:=0) rfl,_,rfl,chD d,chD c,zzsb cd,zzsb cu6,zrt d,zrt c,_,rfl,?_⟩;rw[zlob,yva,ed2,ypb,yie]
   by_cases e1:d=c
   ·rw[decide_eq_true e1];refine iteF (iteF ?_);refine⟨rfl,hj2,?_⟩;rw[zsp (by unfold othB;rw[decide_eq_true e1];simp),ylb];exact hy
   ·rw[decide_eq_false e1];refine iteT ⟨_,rfl,pa,_,_,_,rfl,rfl,SqT.of epa,zna (j:=0) rfl,vt,_,_,_,rfl,rfl,SqT.of evt2,zna (j:=0) rfl,_,rfl,ct,_,_,_,rfl,rfl,SqT.of ect2,zna (j:=0) rfl,rfl,_,rfl,?_⟩;refine ite2 (λe3=>?_) (λe3=>?_)
    ·refine⟨_,rfl,rfl,hj2,?_⟩;rw[zro (by unfold othB;rw[decide_eq_false e1,ld,lc];simpa using e3)];exact All2.snoc ps hy
    ·refine⟨rfl,hj2,?_⟩;rw[zsp (by unfold othB;rw[decide_eq_false e1,ld,lc];simpa using e3),ylb];exact hy
  rintro ov H' ⟨rfl,_,hov⟩ ol2 hol2;rw[ypa (by omega)] at hov;refine laid hol2 λH6 S6 e6=>?_;have ovl:=hov.len;have fl0:=ysb (othB c) cs;refine⟨_,rfl,ol2,rfl,⟨_,SqL.of e6⟩,?_⟩;refine zyc (xs:=ov) (λj3 ys H'=>Same H6 H'∧j3≤ov.length∧All2 (ChT H') ys (((cs.filter (othB c)).take j3).filter (zweb rs ss c))) (λj3 ys H' z=>SqL.of (z.1 _ _ e6)) ⟨Same.refl _,ygb _,.nil⟩ ?_ ?_ ?_
  ·rintro j3 ys H' ⟨_,hj3,hy⟩;have l1:=hy.len;have l2:=ysb (zweb rs ss c) ((cs.filter (othB c)).take j3);rw[yza] at l2;exact small (by omega)
  ·rintro j3 u3 ys H7 hu3 ⟨S7,_,hy⟩;have hj3:j3<ov.length:=(yia.mp hu3).1;obtain⟨d,ed3,ps⟩:=hov.get hu3;obtain⟨pa,sb,v2,wb,rfl,epa,cd,esb,RB,h5⟩:=ps.same (S6.trans S7);have pb:((behC rs ss d).map (·.num)).Perm (rs.map (·.num)):=(by rw[h5];exact pp);obtain⟨r1,hr1⟩:=rowt pb C.at_;have S07:=S04.trans (S5.trans (S6.trans S7));have cu7:=cu5.same (S5.trans (S6.trans S7));refine⟨pa,_,rfl,SqT.of epa,rfl,_,_,rfl,_,_,rfl,rfl,rfl,?_⟩;refine⟨_,rfl,_,rfl,_,rfl,ll,sb,us,wb,rs,behC rs ss d,.ref ct,i,_,r,r1,wd,hv,y,a,b,rfl,S07 _ _ el,LY.imp λz=>z.same S07,h16,nd,esb,RB,(tn pb).1,C.at_,C.full,C.hok,C.yd,C.zd,hr1,cu7,λtp tout H8 S8 ntp etp P1=>?_⟩;rw[← C.zcp nd hr1] at P1;have okP1:∀p∈zsf rs (behC rs ss d) c,AmOk p.2:=by
    rw[C.zcp nd hr1];exact znx C.hok
   have S58:=S6.trans (S7.trans S8);refine⟨_,rfl,encL (zsf rs (behC rs ss d) c),encL (zsf rs ss c),.lst (SqL.of etp) (zts okP1 P1),.lst (SqL.of (S58 _ _ enp)) (zts okP (P0.imp λz=>z.same S58)),ztq okP1,ztq okP,_,rfl,?_⟩;rw[yva,ed3,ypb,yie];have hy8:=hy.imp (λz=>z.same S8:∀{u c},ChT H7 u c->ChT H8 u c);refine ite2 (λe=>?_) (λe=>?_)
   ·refine⟨_,rfl,S7.trans S8,hj3,?_⟩;rw[zro (p:=zweb rs ss c) e];exact All2.snoc (cd.same S8) hy8
   ·refine⟨S7.trans S8,hj3,?_⟩;rw[zsp (p:=zweb rs ss c) e,ylb];exact hy8
  rintro fv H7 ⟨S7,_,hfv⟩ lf hlf;rw[ovl,ypa (yha _),List.filter_filter] at hfv;refine laid hlf λH8 S8 e8=>?_;have S58:=S6.trans (S7.trans S8);have S48:=S5.trans S58;have ed8:=S48 _ _ ed;have ect8:H8 ct=some (.tup ((c.map Sum.inl:List Key).map kV)):=by
   rw[← zmp];exact S58 _ _ ect
  refine⟨_,rfl,_,rfl,fd,_,rfl,DPut.t ed8 ect8 (ycl (yua kl (show j≤40 by omega)) (by decide)),?_⟩;have nt:∀xs,(HO.dT kvs) ≠ .tup xs:=λxs z=>by cases z
  have pl1:=zlk kvs (c.map Sum.inl:List Key) (.ref lf);refine⟨_,_,_,_,rfl,zfa,(by omega),?_,zke (S4.trans S48) hfd _⟩;intro c' hc';rw[yva,ec,ypb] at hc'
  by_cases e:c'=c
  ·subst e;exact⟨lf,fv,by rw[zxw,if_pos rfl],by rw[zta (zng e8 ed8 (by intro z;cases z))];exact e8,(hfv.imp λz=>z.same S8).imp λz=>z.putD ed8 nt⟩
  ·have m:c'∈cs.take j:=by
    rcases yeb.mp hc' with z|z
    ·exact z
    ·exact absurd (yga.mp z) e
   obtain⟨a2,out2,v1,e22,al2⟩:=ent c' m;have e28:=S48 _ _ e22;exact⟨a2,out2,by rw[zxw,if_neg (λz=>e (zzeb z))];exact v1,by rw[zta (zng e28 ed8 (by intro z;cases z))];exact e28,(al2.imp λz=>z.same S48).imp λz=>z.putD ed8 nt⟩
 ·rintro σ H' ⟨kvs,o5,o6,o7,rfl,ed,kl,ent,S⟩;rw[ypa (by omega)] at ent;exact⟨_,rfl,q fd kvs H' (S02.trans S) nfd ed ent⟩
inductive Led (G:List Int->List (List Int))(c:List Int):List Int->Prop where
 | one {d:List Int}:d∈G c->Led G c d
 | more {d e:List Int}:Led G c d->e∈G d->Led G c e
theorem zinb {G:List Int->List (List Int)}{c:List Int}{S:List (List Int)}(h0:∀d∈G c,d∈S)(h1:∀f∈S,∀d∈G f,d∈S):∀{d:List Int},Led G c d->d∈S
 | _,.one h=>h0 _ h
 | _,.more h g=>h1 _ (zinb h0 h1 h) _ g
def TabG (G:List Int->List (List Int))(cs:List (List Int))(H:Hp)(a:Addr):Prop:=∃kvs:List (List Key×V),Rd H a (.dT kvs)∧∀c∈cs,Ex2 λb out=>L2.valV kvs (c.map Sum.inl)=some (.ref b)∧H b=some (.lst out)∧All2 (ChT H) out (G c)
theorem TabG.same {G:List Int->List (List Int)}{cs:List (List Int)}{H H':Hp}(s:Same H H'){a:Addr}(h:TabG G cs H a):TabG G cs H' a:=by
 obtain⟨kvs,h1,h2⟩:=h;refine⟨kvs,?_,λc hc=>?_⟩
 ·rcases h1 with z|⟨o,z⟩
  ·exact .inl (s _ _ z)
  ·exact .inr ⟨o,s _ _ z⟩
 ·obtain⟨b,out,e1,e2,e3⟩:=h2 c hc;exact⟨b,out,e1,s _ _ e2,e3.imp λz=>z.same s⟩
theorem TabG.get {G:List Int->List (List Int)}{cs:List (List Int)}{H:Hp}{a:Addr}(h:TabG G cs H a){u:V}{c:List Int}(hc:c∈cs)(cu:ChT H u c):Ex2 λb out=>DGet H a u (some (.ref b))∧H b=some (.lst out)∧All2 (ChT H) out (G c):=by
 obtain⟨kvs,h1,h2⟩:=h;obtain⟨b,out,e1,e2,e3⟩:=h2 c hc;obtain⟨t,rfl,et,_⟩:=cu;refine⟨b,out,?_,e2,e3⟩;rw[← e1];exact .inr ⟨kvs,c.map Sum.inl,t,h1,rfl,by rw[← zmp];exact et,rfl⟩
def seen (ks:List (List Int)):List (List Key×V):=ks.map λd=>(d.map Sum.inl,.bl true)
theorem zfx (ks:List (List Int))(d:List Int):L2.valV (seen ks) (d.map Sum.inl)=if d∈ks then some (.bl true) else none:=by
 induction ks with
 | nil=>rfl
 | cons k r ih =>
  by_cases e:d=k
  ·subst e;rw[if_pos yka];exact zve rfl
  ·have z:L2.valV (seen (k::r)) (d.map Sum.inl)=L2.valV (seen r) (d.map Sum.inl):=zwe (λz=>e (zzeb z).symm);rw[z,ih]
   by_cases m:d∈r
   ·rw[if_pos m,if_pos (yma _ m)]
   ·rw[if_neg m,if_neg (λy=>by rcases yla.mp y with y|y<;>contradiction)]
theorem zzqb {ks:List (List Int)}{d:List Int}(h:d∉ks):putK (seen ks) (d.map Sum.inl) (.bl true)=seen (ks++[d]):=by
 rw[zirb _ (by rw[zfx,if_neg h])];unfold seen;rw[ykb];rfl
def zivb:Sp:=λvs H Q _=>Ex5 λa u (c:List Int) (G:List Int->List (List Int)) cs=>vs=[.ref a,u]∧TabG G cs H a∧ChT H u c∧c∈cs∧cs.length≤40∧(∀d∈cs,(G d).length≤40∧∀e∈G d,e∈cs)∧∀p ks H',Same H H'->H p=none->H' p=some (.dT (seen ks))->ks.Nodup->(∀d∈ks,d∈cs)->(∀d,d∈ks↔Led G c d)->Q (.ref p) H'
theorem zftb {α β:Type}{R:α->β->Prop}{as:List α}{bs:List β}{cs:List α}{ds:List β}(z:All2 R as bs)(g:All2 R cs ds):All2 R (as++cs) (bs++ds):=by
 induction z with
 | nil=>exact g
 | cons h _ ih=>exact .cons h ih
theorem zkdb {α β:Type}{R:α->β->Prop}:∀{as:List α} {bs:List β} {a:α},All2 R (as++[a]) bs->Ex2 λcs b=>bs=cs++[b]∧All2 R as cs∧R a b
 | [],_,_,.cons h .nil=>⟨[],_,rfl,.nil,h⟩
 | _::_,_,_,.cons h t=>by
  obtain⟨cs,b,e,h1,h2⟩:=zkdb t;exact⟨_::cs,b,by rw[e];rfl,.cons h h1,h2⟩
theorem sub_len {ks cs:List (List Int)}(nd:ks.Nodup)(h:∀d∈ks,d∈cs):ks.length≤cs.length:=ywb.length_le_of_subset nd λd hd=>h d hd
theorem zgbb (T:Tx K mg):FnOk P w K mg base CX0 2 T.zwh.f T.zwh.d zmz zivb:=by
 refine T.zwh.ok zbo ?_;rintro f c A o s H vs Q E hr ⟨a,u,c,G,cs,rfl,TB,cu,hc,c40,gin,q⟩ X;refine⟨_,  (zba (zla (i:=2) zbo.nd rfl (.inl rfl) zfhb)
  (zba (zla (i:=3) zbo.nd rfl (.inl rfl) (zlc ztcb rfl T.zogb boot_list (zaa (zkeb (zaab hr.units) (pv 0) (pv 1) (λ_ _=>rfl)) zca)))
  (zba (zox ygc (zgo (pv 3) (λ_=>rfl))
   (zba (zla (i:=4) zbo.nd rfl (.inl rfl) (zjzb yac PySem.F.slot_list_pop PySem.F.type_list_pop zzzb (pv 3)))
   (zea (zcc (zylb (zxab (zaab hr.units) (pv 4) (pv 2)))
    (zba (zamb (zaab hr.units) (pv 2) (pv 4) zyib rfl)
    (zea (zkf (ztm yac PySem.F.slot_list_extend PySem.F.type_list_extend zanb (pv 3) (zaa (zkeb (zaab hr.units) (pv 0) (pv 4) (λ_ _=>rfl)) zca)))))
    zua))))
  (zea (zoa (pv 2)))))),?_⟩
 refine λfd hfd=>?_;refine laid hfd λH1 S1 e1=>?_;obtain⟨b0,o0,dg,eb,al⟩:=(TB.same S1).get hc (cu.same S1);refine⟨_,rfl,_,rfl,a,_,rfl,dg,b0,_,rfl,.inl (SqL.of eb),λll hll=>?_⟩;refine laid hll λH2 S2 e2=>?_;have nfl:fd≠ll:=zka e1 hll;have S02:=S1.trans S2;have nll:H ll=none:=none_of S1 hll;obtain⟨W,hW⟩:∃W:Nat->L2.St->Hp->Prop,W=λm σ H'=>Ex4 λks ls wv o4=>m=(40-ks.length)*41+ls.length∧σ=[some (.ref a),some u,some (.ref fd),some (.ref ll),o4]∧H' fd=some (.dT (seen ks))∧H' ll=some (.lst wv)∧All2 (ChT H') wv ls∧Same H H'∧ks.Nodup∧(∀d∈ks,d∈cs)∧(∀d∈ls,d∈cs)∧(∀d∈ks,Led G c d)∧(∀d∈ls,Led G c d)∧(∀d∈G c,d∈ks∨d∈ls)∧(∀f∈ks,∀d∈G f,d∈ks∨d∈ls)∧ls.length≤40*ks.length+40:=⟨_,rfl⟩;refine⟨W,⟨_,by rw[hW];exact⟨[],G c,o0,_,rfl,rfl,S2 _ _ e1,e2,al.imp λz=>z.same S2,S02,.nil,by simp,λd hd=>(gin c hc).2 d hd,by simp,λd hd=>.one hd,λd hd=>.inr hd,by simp,by have:=(gin c hc).1;omega⟩⟩,?_⟩;intro m σ H3 hw;rw[hW] at hw;obtain⟨ks,ls,wv,o4,rfl,rfl,ed,ew,AL,S3,nd,kin,lin,kled,lled,first,closed,lb⟩:=hw;have kl:=sub_len nd kin;have wl:=AL.len;refine⟨_,rfl,_,.inl ⟨_,SqL.of ew,rfl⟩,?_⟩;refine ite2 (λne=>?_) (λne=>?_)
 ·
  have wne:wv≠[]:=λz=>by rw[z] at ne;cases ne
  obtain⟨wi,x,rfl⟩:Ex2 λwi x=>wv=wi++[x]:=⟨wv.dropLast,wv.getLast wne,(List.dropLast_concat_getLast wne).symm⟩;obtain⟨li,d,rfl,AI,cd⟩:Ex2 λli d=>ls=li++[d]∧All2 (ChT H3) wi li∧ChT H3 x d:=zkdb AL;have dm:d∈li++[d]:=yrb _ yka;have dcs:=lin d dm;have nlf:ll≠fd:=yge nfl;rw[yja,yub] at lb;refine⟨fun σ' H'=>∃m',m'<(40-ks.length)*41+(li++[d]).length∧W m' σ' H',λ_ _ z=>z,?_⟩;rw[yja,yub];refine⟨_,rfl,.inl ⟨rfl,_,SqL.of ew⟩,ll,_,x,rfl,rfl,ew,(by rw[yja,yub,Nat.add_sub_cancel,yxb (yha _),yvj];rfl),?_⟩;rw[List.dropLast_concat];have S4:Same H (upd H3 ll (.lst wi)):=zke S3 nll _;have ed4:upd H3 ll (.lst wi) fd=some (.dT (seen ks)):=by rw[zta nfl];exact ed
  have ew4:upd H3 ll (.lst wi) ll=some (.lst wi):=zfa;have AI4:All2 (ChT (upd H3 ll (.lst wi))) wi li:=AI.imp λz=>z.put ew;have cd4:ChT (upd H3 ll (.lst wi)) x d:=cd.put ew;generalize upd H3 ll (.lst wi)=H4 at S4 ed4 ew4 AI4 cd4 ⊢;obtain⟨xt,rfl,ext,_⟩:=id cd4;have dg:=DGet.t ed4 (b:=xt) (k:=d.map Sum.inl) (by rw[← zmp];exact ext);rw[zfx] at dg
  by_cases hin:d∈ks
  ·rw[if_pos hin] at dg;refine⟨_,rfl,_,rfl,fd,_,rfl,dg,_,rfl,iteF ?_⟩;refine⟨(40-ks.length)*41+li.length,by omega,?_⟩;rw[hW];refine⟨ks,li,wi,_,rfl,rfl,ed4,ew4,AI4,S4,nd,kin,λe he=>lin e (ync _ he),kled,λe he=>lled e (ync _ he),λe he=>?_,λf hf e he=>?_,by omega⟩
   ·rcases first e he with z|z
    ·exact .inl z
    ·rcases yeb.mp z with y|y
     ·exact .inr y
     ·rw[yga.mp y];exact .inl hin
   ·rcases closed f hf e he with z|z
    ·exact .inl z
    ·rcases yeb.mp z with y|y
     ·exact .inr y
     ·rw[yga.mp y];exact .inl hin
  ·rw[if_neg hin] at dg;refine⟨_,rfl,_,rfl,fd,_,rfl,dg,_,rfl,iteT ?_⟩;have nd2:(ks++[d]).Nodup:=by
    rw[ymj];refine⟨nd,yre _ _,λa ha b hb z=>?_⟩;rw[yga.mp hb] at z;rw[z] at ha;exact hin ha
   have kin2:∀e∈ks++[d],e∈cs:=λe he=>by
    rcases yeb.mp he with z|z
    ·exact kin e z
    ·rw[yga.mp z];exact dcs
   have kl2:=sub_len nd2 kin2;rw[yja,yub] at kl2;have sl:(seen ks).length=ks.length:=yea _;refine⟨_,rfl,_,rfl,fd,_,rfl,DPut.t ed4 (b:=xt) (k:=d.map Sum.inl) (by rw[← zmp];exact ext) (by rw[sl];exact ycl (show ks.length≤40 by omega) (by decide)),?_⟩;rw[zzqb hin];have nt:∀xs,(HO.dT (seen ks)) ≠ .tup xs:=λxs z=>by cases z
   have S5:Same H (upd H4 fd (.dT (seen (ks++[d])))):=zke S4 hfd _;have ed5:upd H4 fd (.dT (seen (ks++[d]))) fd=some (.dT (seen (ks++[d]))):=zfa;have ew5:upd H4 fd (.dT (seen (ks++[d]))) ll=some (.lst wi):=(by rw[zta nlf];exact ew4);have AI5:All2 (ChT (upd H4 fd (.dT (seen (ks++[d]))))) wi li:=AI4.imp λz=>z.putD ed4 nt;have cd5:ChT (upd H4 fd (.dT (seen (ks++[d])))) (.ref xt) d:=cd4.putD ed4 nt;generalize upd H4 fd (.dT (seen (ks++[d])))=H5 at S5 ed5 ew5 AI5 cd5 ⊢;obtain⟨b,bo,bg,ebo,bal⟩:=(TB.same S5).get dcs cd5;have gl:=(gin d dcs).1;have bl:=bal.len;have il:=AI5.len;refine⟨_,rfl,.inl ⟨rfl,_,SqL.of ew5⟩,_,rfl,_,rfl,a,_,rfl,bg,ll,b,_,_,rfl,rfl,ew5,ebo,(by exact yua (show wi.length+bo.length≤4000 by omega) (by decide)),?_⟩;refine⟨(40-(ks.length+1))*41+(li++G d).length,by rw[yja];omega,?_⟩;rw[hW];refine⟨ks++[d],li++G d,wi++bo,_,by simp only[yja,yub],rfl,by rw[zta nfl];exact ed5,zfa,?_,zke S5 nll _,nd2,kin2,λe he=>?_,λe he=>?_,λe he=>?_,λe he=>?_,λf hf e he=>?_,by rw[yja,yja,yub];omega⟩
   ·exact (zftb AI5 bal).imp λz=>z.put ew5
   ·rcases yeb.mp he with z|z
    ·exact lin e (ync _ z)
    ·exact (gin d dcs).2 e z
   ·rcases yeb.mp he with z|z
    ·exact kled e z
    ·rw[yga.mp z];exact lled d dm
   ·rcases yeb.mp he with z|z
    ·exact lled e (ync _ z)
    ·exact .more (lled d dm) z
   ·rcases first e he with z|z
    ·exact .inl (ync _ z)
    ·rcases yeb.mp z with y|y
     ·exact .inr (ync _ y)
     ·exact .inl (yrb _ y)
   ·rcases yeb.mp hf with z|z
    ·rcases closed f z e he with y|y
     ·exact .inl (ync _ y)
     ·rcases yeb.mp y with x|x
      ·exact .inr (ync _ x)
      ·exact .inl (yrb _ x)
    ·rw[yga.mp z] at he;exact .inr (yrb _ he)
 ·have we:wv=[]:=by
   cases wv with
   | nil=>rfl
   | cons x r=>exact absurd rfl ne
  subst we;cases AL;refine⟨_,rfl,q fd ks H3 S3 hfd ed nd kin λd=>⟨kled d,λz=>?_⟩⟩;refine zinb (λd hd=>?_) (λf hf d hd=>?_) z
  ·exact (first d hd).resolve_right (by simp)
  ·exact (closed f hf d hd).resolve_right (by simp)
noncomputable def ledB (G:List Int->List (List Int))(c d:List Int):Bool:=open Classical in decide (Led G c d)
theorem zfm {G:List Int->List (List Int)}{c d:List Int}:ledB G c d=true↔Led G c d:=by
 unfold ledB;exact @decide_eq_true_iff (Led G c d) (yzm _)
def zlqb:Sp:=λvs H Q _=>Ex5 λa u (c:List Int) (G:List Int->List (List Int)) cs=>vs=[.ref a,u]∧TabG G cs H a∧ChT H u c∧c∈cs∧cs.length≤40∧(∀d∈cs,(G d).length≤40∧∀e∈G d,e∈cs)∧(∀d∈cs,d.length=4)∧∀p out ds H',Same H H'->H p=none->H' p=some (.lst out)->All2 (ChT H') out ds->ds.Pairwise (· < ·)->(∀d,d∈ds↔Led G c d∧¬ Led G d c)->Q (.ref p) H'
theorem zux (T:Tx K mg):FnOk P w K mg base CX0 3 T.zud.f T.zud.d zsl zlqb:=by
 refine T.zud.ok zgx ?_;rintro f c A o s H vs Q E hr ⟨a,u,c,G,cs,rfl,TB,cu,hc,c40,gin,l4,q⟩ X;refine⟨_,  (zea (zoa (zlb zph rfl T.zsg ylj (zaa (zge (own:=["other"]) (cap:=["one","leaned"]) rfl (zrb.chk rfl rfl) (.cons (j:=1) rfl (.inl rfl) (.inl rfl) (.cons (j:=0) rfl (.inl rfl) (.inl rfl) .nil)) (zewb (zja (zgbb T) hr rfl T.zwh.m T.zwh.F.kp (zaib T) .nil zwa (zaa (pv 0) (zaa (pv 1) zca)))) (λ_ _ _ _=>(zva (i:=0) (show ywb (["other","one","leaned"]:List Str) by decide +kernel) rfl (.inl rfl))) (λ_ _ _ _=>zmj (zylb (zxab (zaab hr.units) (pv 1) (zja (zgbb T) hr rfl T.zwh.m T.zwh.F.kp (zaib T) .nil zwa (zaa (pv 2) (zaa (pv 0) zca)))))) (λ_ _ _ _=>by exact (pv 0))) zca)))),?_⟩;refine⟨_,rfl,_,rfl,a,u,c,G,cs,rfl,TB,cu,hc,c40,gin,λp ks H1 S1 np ep nd kin kled=>⟨p,seen ks,rfl,ep,λo keys kl kt=>?_⟩⟩;have skl:(seen ks).length=ks.length:=yea _;have k40:=sub_len nd kin;have S2:Same H (upd H1 p (.frz o (.dT (seen ks)))):=zke S1 np _;have e2:upd H1 p (.frz o (.dT (seen ks))) p=some (.frz o (.dT (seen ks))):=zfa;have kt2:∀(i:Nat) b (d:List Int),keys[i]?=some b->ks[i]?=some d->upd H1 p (.frz o (.dT (seen ks))) b=some (.tup (d.map V.int)):=λi b d hb hd=>by
  have z:=kt i b (d.map Sum.inl,.bl true) hb (by unfold seen;rw[yya,hd];rfl);rw[zta (zng z ep (by intro y;cases y)),z,zmp]
 generalize upd H1 p (.frz o (.dT (seen ks)))=H2 at S2 e2 kt2 ⊢;refine zzob (λi ys H'=>Same H2 H'∧i≤keys.length∧All2 (ChT H') ys ((ks.take i).filter λd=>!ledB G d c)) (λi ys H' z=>z.1 _ _ e2) ⟨Same.refl _,ygb _,.nil⟩ ?_ ?_ ?_
 ·rintro i ys H' ⟨_,hi,hy⟩;have l1:=hy.len;have l2:=ysb (λd=>!ledB G d c) (ks.take i);rw[yza] at l2;exact small (by omega)
 ·rintro i b ys H3 hb ⟨S3,_,hy⟩;have hi:i<keys.length:=(yia.mp hb).1;obtain⟨d,hd⟩:∃d,ks[i]?=some d:=⟨_,yoa (by omega)⟩;have dk:=yra hd;have S03:=S2.trans S3;have cd:ChT H3 (.ref b) d:=⟨b,rfl,S3 _ _ (kt2 i b d hb hd),l4 d (kin d dk)⟩;refine⟨rfl,_,rfl,_,rfl,_,rfl,a,.ref b,d,G,cs,rfl,TB.same S03,cd,kin d dk,c40,gin,λp2 ks2 H4 S4 np2 ep2 nd2 kin2 kled2=>?_⟩;have S04:=S03.trans S4;obtain⟨ut,rfl,eut,_⟩:=cu.same S04;have dg:=DGet.t ep2 (b:=ut) (k:=c.map Sum.inl) (by rw[← zmp];exact eut);rw[zfx] at dg;refine⟨p2,_,rfl,dg,_,rfl,?_⟩;rw[yva,hd,ypb,yie];have hy4:=hy.imp (λz=>z.same S4:∀{u c},ChT H3 u c->ChT H4 u c)
  by_cases hin:c∈ks2
  ·rw[if_pos hin];refine iteF ?_;refine⟨S3.trans S4,hi,?_⟩;rw[zsp (p:=λd=>!ledB G d c) (by rw[zfm.mpr ((kled2 c).mp hin)];simp),ylb];exact hy4
  ·rw[if_neg hin];refine iteT ?_;refine⟨_,rfl,S3.trans S4,hi,?_⟩;have nl:ledB G d c=false:=by
    cases e:ledB G d c with
    | false=>rfl
    | true=>exact absurd ((kled2 c).mpr (zfm.mp e)) hin
   rw[zro (p:=λd=>!ledB G d c) (by rw[nl];rfl)];exact All2.snoc (cd.same S4) hy4
 ·rintro ys H3 ⟨S3,_,hy⟩ p3 hp3;rw[ypa (by omega)] at hy;refine laid hp3 λH4 S4 e4=>?_;have hy4:All2 (ChT H4) ys (ks.filter λd=>!ledB G d c):=hy.imp λz=>z.same S4;have yl:=hy4.len;have fl:=ysb (λd=>!ledB G d c) ks;refine⟨p3,ys,chG H4,4,rfl,SqL.of e4,by omega,by decide,λv hv=>?_,?_,λp5 out hp5 po so=>?_⟩
  ·obtain⟨d,_,cd⟩:=hy4.mem hv;have ek:=cd.key;obtain⟨t,rfl,et,l⟩:=cd;exact⟨t,d,[],rfl,SqT.of (by rw[ylb];exact et),ek,l⟩
  ·rw[zst hy4];exact nd.filter _
  ·obtain⟨ds,h1,h2⟩:=hy4.perm po;have S04:=S2.trans (S3.trans S4);refine laid hp5 λH5 S5 e5=>?_;refine q p5 out ds H5 (S04.trans S5) (none_of S04 hp5) e5 (h1.imp λz=>z.same S5) (by rw[zst h1] at so;exact so) λd=>?_;rw[h2.mem_iff,yqc,kled]
   constructor
   ·rintro⟨x,y⟩;refine⟨x,λz=>?_⟩;rw[zfm.mpr z] at y;cases y
   ·rintro⟨x,y⟩;refine⟨x,?_⟩;cases e:ledB G d c with
    | false=>rfl
    | true=>exact absurd (zfm.mp e) y
noncomputable def grG (rs:List R8)(ss:List Row)(cs:List (List Int))(c:List Int):List (List Int):=cs.filter (zvbb rs ss c)
theorem HasC.four {rs:List R8}{c:List Int}(h:HasC rs c):c.length=4:=by
 obtain⟨i,k,r,wd,hv,y,a,b,C⟩:=h;rw[C.is_];rfl
theorem zzbc (rs:List R8)(ss:List Row){cs:List (List Int)}(h:cs.length≤40)(P:List Int->List Int->Bool):∀d∈cs,(cs.filter (P d)).length≤40∧∀e∈cs.filter (P d),e∈cs:=λd _=>⟨yua (ysb _ _) h,λe he=>(yqc.mp he).1⟩
noncomputable def zojb (rs:List R8)(ss:List Row)(c d:List Int):Bool:=zweb rs ss c d && !decide (d=c)
theorem zjnb {rs:List R8}{ss:List Row}{cs:List (List Int)}(h:∀c∈cs,∀d∈cs,layI c=layI d):∀c∈cs,cs.filter (zvbb rs ss c)=cs.filter (zojb rs ss c):=λc hc=>by
 refine ysh λd hd=>?_;unfold zvbb othB zojb;rw[decide_eq_true (show V.int (layI d)=V.int (layI c) by rw[h c hc d hd]),Bool.and_true]
theorem ChT.but {H H':Hp}{x:Addr}{us:List V}{u:V}{c:List Int}(b:But x H H')(e:H x=some (.lst us))(h:ChT H u c):ChT H' u c:=by
 obtain⟨a,rfl,e1,l⟩:=h;exact⟨a,rfl,b _ _ (zng e1 e (by intro y;cases y)) e1,l⟩
theorem zbpb (d:List Int):(chD d).depth≤8:=by
 obtain⟨_,h2⟩:=lay_ints d;show (PyData.tuple (d.map .int)).depth≤8
 rw[ygd,h2];decide
theorem zor {G F:List Int->List (List Int)}{cs:List (List Int)}(e:∀c∈cs,G c=F c)(gin:∀c∈cs,∀d∈G c,d∈cs){c:List Int}(hc:c∈cs):∀{d:List Int},Led G c d->Led F c d∧d∈cs
 | _,.one h=>⟨.one (by rw[← e c hc];exact h),gin c hc _ h⟩
 | _,.more h g=>by
  obtain⟨h1,h2⟩:=zor e gin hc h;exact⟨.more h1 (by rw[← e _ h2];exact g),gin _ h2 _ g⟩
theorem zgy {G F:List Int->List (List Int)}{cs:List (List Int)}(e:∀c∈cs,G c=F c)(gin:∀c∈cs,∀d∈G c,d∈cs){c:List Int}(hc:c∈cs){d:List Int}:Led G c d↔Led F c d :=
 ⟨λh=>(zor e gin hc h).1,λh=>(zor (λx hx=>(e x hx).symm) (λx hx y hy=>gin x hx y (by rw[e x hx];exact hy)) hc h).1⟩
theorem zgnb {G:List Int->List (List Int)}{cs:List (List Int)}(gin:∀c∈cs,∀d∈G c,d∈cs){c:List Int}(hc:c∈cs){d:List Int}(h:Led G c d):d∈cs:=(zor (F:=G) (λ_ _=>rfl) gin hc h).2
theorem All2.mem2 {α β:Type}{R:α->β->Prop}{as:List α}{bs:List β}(z:All2 R as bs){b:β}(hb:b∈bs):∃a∈as,R a b:=by
 induction z with
 | nil=>cases hb
 | cons h _ ih =>
  rcases yla.mp hb with z|z
  ·rw[z];exact⟨_,yka,h⟩
  ·obtain⟨a,ha,r⟩:=ih z;exact⟨a,yma _ ha,r⟩
def Free (G:List Int->List (List Int))(c:List Int):Prop:=∀d,Led G c d->Led G d c
noncomputable def zxj (G:List Int->List (List Int))(c:List Int):Bool:=open Classical in decide (Free G c)
theorem zmi {G:List Int->List (List Int)}{c:List Int}:zxj G c=true↔Free G c:=by
 unfold zxj;exact @decide_eq_true_iff (Free G c) (yzm _)
theorem Led.trans {G:List Int->List (List Int)}{c d:List Int}(h:Led G c d):∀{e:List Int},Led G d e->Led G c e
 | _,.one g=>.more h g
 | _,.more g k=>.more (Led.trans h g) k
theorem zmcb {α:Type}{p q:α->Bool}:∀{l:List α},(∀x∈l,p x=true->q x=true)->(∃c∈l,q c=true∧p c=false)->(l.filter p).length<(l.filter q).length
 | [],_,h=>by
  obtain⟨c,hc,_⟩:=h;cases hc
 | x::r,h,⟨c,hc,h1,h2⟩=>by
  have le:(r.filter p).length≤(r.filter q).length:=by
   rw[← yfk,← yfk];exact List.countP_mono_left λy hy=>h y (yma _ hy)
  rcases yla.mp hc with z|z
  ·subst z;rw[yce (by rw[h2];simp),ynd h1,yfa];omega
  ·have ih:=zmcb (l:=r) (λy hy=>h y (yma _ hy)) ⟨c,z,h1,h2⟩;cases hp:p x with
   | true =>
    rw[ynd hp,ynd (h x yka hp),yfa,yfa];omega
   | false =>
    rw[yce (by rw[hp];simp)];have l2:(r.filter q).length≤((x::r).filter q).length:=by
     rw[yyj]
     split
     ·rw[yfa];omega
     ·exact yha _
    omega
theorem zjcb {G:List Int->List (List Int)}{cs:List (List Int)}(gin:∀c∈cs,∀d∈G c,d∈cs):∀(n:Nat) (c:List Int),c∈cs->(cs.filter λx=>decide (x=c)||ledB G c x).length≤n->∃d∈cs,Free G d
 | n,c,hc,hn=>by
  by_cases f:Free G c
  ·exact⟨c,hc,f⟩
  ·obtain⟨d,h1,h2⟩:∃d,Led G c d∧¬ Led G d c:=by
    unfold Free at f;obtain⟨d,hd⟩:=Classical.not_forall.mp f;exact⟨d,(ynr.mp hd).1,(ynr.mp hd).2⟩
   have hd:=zgnb gin hc h1;have lt:=zmcb (l:=cs) (p:=λx=>decide (x=d)||ledB G d x) (q:=λx=>decide (x=c)||ledB G c x) (λx _ hx=>by
    rw[Bool.or_eq_true,zfm] at hx ⊢
    rcases hx with z|z
    ·rw[of_decide_eq_true z];exact .inr h1
    ·exact .inr (h1.trans z)) ⟨c,hc,by rw[decide_eq_true rfl];rfl,by
    have n1:¬ c=d:=λz=>by
     subst z;exact h2 h1
    have n2:ledB G d c=false:=yfe.mpr λz=>h2 (zfm.mp z);rw[decide_eq_false n1,n2];rfl⟩
   match n,hn with
   | 0,hn=>omega
   | n+1,hn=>exact zjcb gin n d hd (by omega)
noncomputable def grL (rs:List R8)(ss:List Row)(cs:List (List Int))(c:List Int):List (List Int):=cs.filter (zojb rs ss c)
noncomputable def zjp (rs:List R8)(ss:List Row)(cs:List (List Int)):Option (List Int):=cs.find? (zxj (grL rs ss cs))
theorem zvmb {rs:List R8}{ss:List Row}{cs:List (List Int)}(ne:cs≠[]):∃c∈cs,zxj (grL rs ss cs) c=true:=by
 obtain⟨c,hc⟩:=List.exists_mem_of_ne_nil cs ne;obtain⟨d,hd,f⟩:=zjcb (G:=grL rs ss cs) (cs:=cs) (λc _ d hd=>(yqc.mp hd).1) _ c hc (yha _);exact⟨d,hd,zmi.mpr f⟩
theorem zll {rs:List R8}{ss:List Row}{cs:List (List Int)}{c:List Int}(h:zjp rs ss cs=some c):c∈cs:=ypl h
theorem zgjb {rs:List R8}{ss:List Row}{cs:List (List Int)}{c:List Int}(so:cs.Pairwise (· < ·))(hc:c∈cs.filter (zxj (grL rs ss cs)))(low:∀d∈cs.filter (zxj (grL rs ss cs)),d≠c->c<d):zjp rs ss cs=some c:=by
 unfold zjp;rw[← List.head?_filter];have so2:=so.filter (zxj (grL rs ss cs));generalize cs.filter (zxj (grL rs ss cs))=fs at *;cases fs with
 | nil=>cases hc
 | cons x r =>
  by_cases e:x=c
  ·rw[e];rfl
  ·rcases yla.mp hc with z|z
   ·exact absurd z.symm e
   ·have h1:=low x yka e;have h2:=(ybe.mp so2).1 c z;exact absurd (yqh h1 h2) (ysf _)
abbrev Od:=List Int×List (Int×V)
noncomputable def runC (rs:List R8):Nat->List Row->List (List Int)->List Row×List Od
 | 0,ss,_=>(ss,[])
 | n+1,ss,cs=>match zjp rs ss cs with
  | none=>(ss,[])
  | some c=>((runC rs n (behC rs ss c) (cs.filter λd=>!decide (d=c))).1,(c,zsf rs ss c)::(runC rs n (behC rs ss c) (cs.filter λd=>!decide (d=c))).2)
theorem zlr {rs:List R8}{n:Nat}{ss:List Row}{cs:List (List Int)}{c:List Int}(h:zjp rs ss cs=some c):runC rs (n+1) ss cs=((runC rs n (behC rs ss c) (cs.filter λd=>!decide (d=c))).1,(c,zsf rs ss c)::(runC rs n (behC rs ss c) (cs.filter λd=>!decide (d=c))).2):=by
 rw[runC,h]
def inL (i:Nat)(c:List Int):Bool:=decide (V.int (layI c)=V.int (0+(i:Int)))
noncomputable def layC (rs:List R8)(cs:List (List Int))(ss:List Row):Nat->List Row×List Od
 | 0=>(ss,[])
 | i+1=>((runC rs (cs.filter (inL i)).length (layC rs cs ss i).1 (cs.filter (inL i))).1,(layC rs cs ss i).2++(runC rs (cs.filter (inL i)).length (layC rs cs ss i).1 (cs.filter (inL i))).2)
def below (i:Nat)(c:List Int):Bool:=decide (layI c<(i:Int))
theorem zyhb (i:Nat):∀cs:List (List Int),(cs.filter (below (i+1))).length=(cs.filter (below i)).length+(cs.filter (inL i)).length
 | []=>rfl
 | c::r=>by
  have ih:=zyhb i r;have e1:below (i+1) c=decide (layI c<(i:Int)+1):=by unfold below;rw[Int.natCast_add];rfl
  have e2:inL i c=decide (layI c=(i:Int)):=by
   unfold inL;rw[ywj];exact decide_eq_decide.mpr ⟨λz=>by injection z,λz=>by rw[z]⟩
  rw[yyj,yyj,yyj,e1,e2];unfold below at ih ⊢
  by_cases a:layI c<(i:Int)
  ·rw[if_pos (decide_eq_true (by omega)),if_pos (decide_eq_true a),if_neg (by simp;omega),yfa,yfa];omega
  ·by_cases b:layI c=(i:Int)
   ·rw[if_pos (decide_eq_true (by omega)),if_neg (by simp;omega),if_pos (decide_eq_true b),yfa,yfa];omega
   ·rw[if_neg (by simp;omega),if_neg (by simp;omega),if_neg (by simp;omega)];exact ih
structure RunI (rs:List R8)(cs:List (List Int))(s0:List Row)(i:Nat)(ss:List Row)(left:List (List Int))(od:List Od):Prop where
 sight:(runC rs left.length ss left).1=(layC rs cs s0 (i+1)).1
 order:od++(runC rs left.length ss left).2=(layC rs cs s0 (i+1)).2
 nums:(ss.map (·.num)).Perm (rs.map (·.num))
 inv:∀s∈ss,zyk (20+od.length) s
 many:od.length+left.length≤(cs.filter (below (i+1))).length
 sub:∀c∈left,c∈cs∧layI c=(i:Int)
 rise:left.Pairwise (· < ·)
 am:∀x∈od,(∀p∈x.2,AmOk p.2)∧x.2.length≤16
theorem RunI.le {rs:List R8}{cs:List (List Int)}{s0:List Row}{i:Nat}{ss:List Row}{left:List (List Int)}{od:List Od}(h:RunI rs cs s0 i ss left od):od.length+left.length≤cs.length:=by
 exact yua h.many (ysb _ _)
theorem RunI.znac {rs:List R8}{cs:List (List Int)}{s0:List Row}{i:Nat}{ss:List Row}{left:List (List Int)}{od:List Od}(h:RunI rs cs s0 i ss left od)(c40:cs.length≤40):∀s∈ss,zyk 60 s:=λs hs=>by
 have:=h.le;exact⟨(h.inv s hs).nd,(h.inv s hs).so,yua (h.inv s hs).le (by omega)⟩
theorem zifb {c:List Int}:∀{cs:List (List Int)},c∈cs->cs.Pairwise (· < ·)->(cs.filter λd=>!decide (d=c)).length+1=cs.length
 | x::r,hc,so=>by
  obtain⟨h1,h2⟩:=ybe.mp so
  by_cases e:x=c
  ·subst e;rw[yce (by simp),ypp.mpr λd hd=>by
    have n:¬ d=x:=λz=>by
     have y:=h1 d hd;rw[z] at y;exact ysf _ y
    rw[decide_eq_false n];rfl,yfa]
  ·rw[ynd (by rw[decide_eq_false e];rfl),yfa,yfa,zifb ((yla.mp hc).resolve_left λz=>e z.symm) h2]
theorem RunI.step {rs:List R8}{cs:List (List Int)}{s0:List Row}{i:Nat}{ss:List Row}{left:List (List Int)}{od:List Od}{c:List Int}(h:RunI rs cs s0 i ss left od)(e:zjp rs ss left=some c)
  (nm:(behC rs ss c).map (·.num)=ss.map (·.num)) (iv:∀s∈behC rs ss c,zyk (20+od.length+1) s) (am:(∀p∈zsf rs ss c,AmOk p.2)∧(zsf rs ss c).length≤16) :
  RunI rs cs s0 i (behC rs ss c) (left.filter λd=>!decide (d=c)) (od++[(c,zsf rs ss c)]):=by
 have l:=zifb (zll e) h.rise;have st:=zlr (n:=(left.filter λd=>!decide (d=c)).length) e;rw[l] at st;have h1:=h.sight;have h2:=h.order;rw[st] at h1 h2;refine⟨h1,by rw[ymd];exact h2,by rw[nm];exact h.nums,λs hs=>?_,?_,λd hd=>h.sub d (yqc.mp hd).1,h.rise.filter _,λx hx=>?_⟩
 ·rw[yja,yub];exact iv s hs
 ·have:=h.many;rw[yja,yub];omega
 ·rcases yeb.mp hx with z|z
  ·exact h.am x z
  ·rw[yga.mp z];exact am
theorem RunI.done {rs:List R8}{cs:List (List Int)}{s0:List Row}{i:Nat}{ss:List Row}{od:List Od}(h:RunI rs cs s0 i ss [] od):ss=(layC rs cs s0 (i+1)).1∧od=(layC rs cs s0 (i+1)).2:=⟨h.sight,by rw[← h.order];exact (ylb _).symm⟩
structure LayI (rs:List R8)(cs:List (List Int))(s0:List Row)(i:Nat):Prop where
 nums:((layC rs cs s0 i).1.map (·.num)).Perm (rs.map (·.num))
 inv:∀s∈(layC rs cs s0 i).1,zyk (20+(layC rs cs s0 i).2.length) s
 many:(layC rs cs s0 i).2.length≤(cs.filter (below i)).length
 am:∀x∈(layC rs cs s0 i).2,(∀p∈x.2,AmOk p.2)∧x.2.length≤16
theorem LayI.go {rs:List R8}{cs:List (List Int)}{s0:List Row}{i:Nat}(h:LayI rs cs s0 i)(so:cs.Pairwise (· < ·)):RunI rs cs s0 i (layC rs cs s0 i).1 (cs.filter (inL i)) (layC rs cs s0 i).2 :=
 ⟨rfl,rfl,h.nums,h.inv,by have:=h.many;rw[zyhb];omega,λc hc=>⟨(yqc.mp hc).1,by
  have z:=of_decide_eq_true (yqc.mp hc).2;injection z with z
  rw[z,ywj]⟩,so.filter _,h.am⟩
theorem RunI.out {rs:List R8}{cs:List (List Int)}{s0:List Row}{i:Nat}{ss:List Row}{od:List Od}(h:RunI rs cs s0 i ss [] od):LayI rs cs s0 (i+1):=by
 obtain⟨e1,e2⟩:=h.done;refine⟨by rw[← e1];exact h.nums,by rw[← e1,← e2];exact h.inv,?_,by rw[← e2];exact h.am⟩;rw[← e2];have:=h.many;omega
theorem zfob {G F:List Int->List (List Int)}{cs:List (List Int)}(e:∀c∈cs,G c=F c)(gin:∀c∈cs,∀d∈G c,d∈cs){c:List Int}(hc:c∈cs):zxj G c=zxj F c:=by
 refine yah.mpr ?_;rw[zmi,zmi];have gin':∀c∈cs,∀d∈F c,d∈cs:=λc hc d hd=>gin c hc d (by rw[e c hc];exact hd)
 constructor
 ·intro h d hd;have h1:=(zgy e gin hc).mpr hd;exact (zgy e gin (zgnb gin hc h1)).mp (h d h1)
 ·intro h d hd;have h1:=(zgy e gin hc).mp hd;exact (zgy e gin (zgnb gin hc hd)).mpr (h d h1)
theorem zdsb {rs:List R8}{ss:List Row}{cs:List (List Int)}(lay:∀c∈cs,∀d∈cs,layI c=layI d):cs.filter (zxj (grG rs ss cs))=cs.filter (zxj (grL rs ss cs)) :=
 ysh λc hc=>zfob (zjnb lay) (λc _ d hd=>(yqc.mp hd).1) hc
theorem zumb {G:List Int->List (List Int)}{c:List Int}{ds:List (List Int)}(h:∀d,d∈ds↔Led G c d∧¬ Led G d c):zxj G c=decide (ds.length=0):=by
 cases ds with
 | nil =>
  refine zmi.mpr λd hd=>?_;refine Classical.byContradiction λn=>?_;cases (h d).mpr ⟨hd,n⟩
 | cons d r =>
  refine yfe.mpr λz=>?_;obtain⟨h1,h2⟩:=(h d).mp yka;exact h2 (zmi.mp z d h1)
def znyb (B D:Addr):Sp:=λvs H Q _=>Ex9 λll sl ml us ws ms rs ss cs=>vs=[.ref ll,.ref sl,.ref ml]∧H ll=some (.lst us)∧All2 (LyT B D H) us rs∧rs.length≤16∧(rs.map (·.num)).Nodup∧H sl=some (.lst ws)∧zic H ws ss∧(ss.map (·.num)).Perm (rs.map (·.num))∧(∀s∈ss,zyk 60 s)∧H ml=some (.lst ms)∧All2 (ChT H) ms cs∧cs.length≤40∧(∀c∈cs,HasC rs c)∧cs≠[]∧cs.Pairwise (· < ·)∧(∀c∈cs,∀d∈cs,layI c=layI d)∧∀u (c:List Int) H',Same H H'->ChT H' u c->zjp rs ss cs=some c->Q u H'
theorem zcjb (T:Tx K mg):FnOk P w K mg base CX0 26 T.zbi.f T.zbi.d ziu (znyb T.zbd T.zib):=by
 refine T.zbi.ok zov ?_;rintro f c A o s H vs Q E hr ⟨ll,sl,ml,us,ws,ms,rs,ss,cs,rfl,el,LY,h16,nd,es,R,pp,inv,em,CH,c40,has,ne,so,lay,q⟩ X;refine⟨_,  (zba (zla (i:=3) zov.nd rfl (.inr rfl) (zja (zibb T) hr rfl T.zbf.m T.zbf.F.kp (zofb T) .nil zwa (zaa (pv 0) (zaa (pv 1) (zaa (pv 2) zca)))))
  (zea (zoa (zlb (zzy hr.units rfl) rfl T.zcib boot_min (zaa (zge (own:=["change"]) (cap:=["leaned"]) rfl (zrb.chk rfl rfl) (.cons (j:=3) rfl (.inl rfl) (.inl rfl) .nil) (zgd (pv 2)) (λ_ _ _ _=>(zva (i:=0) (show ywb (["change","leaned"]:List Str) by decide +kernel) rfl (.inl rfl))) (λ_ _ _ _=>zmj (zus (zxlb K (zja (zux T).up hr rfl T.zud.m T.zud.F.kp (zzcb T) .nil zwa (zaa (pv 1) (zaa (pv 0) zca))) (λ_=>rfl)))) (λ_ _ _ _=>by exact (pv 0))) zca))))),?_⟩
 refine⟨_,rfl,_,rfl,_,rfl,ll,sl,ml,us,ws,ms,rs,ss,cs,rfl,el,LY,h16,nd,es,R,pp,inv,em,CH,c40,has,λp kvs H1 S1 np ep ent=>?_⟩;have TB:TabG (grG rs ss cs) cs H1 p:=⟨kvs,.inl ep,ent⟩;have em1:=S1 _ _ em;have CH1:All2 (ChT H1) ms cs:=CH.imp λz=>z.same S1;have ml0:=CH.len;refine⟨_,rfl,ml,rfl,⟨_,SqL.of em1⟩,?_⟩;refine zyc (xs:=ms) (λi ys H'=>Same H1 H'∧i≤ms.length∧All2 (ChT H') ys ((cs.take i).filter (zxj (grG rs ss cs)))) (λi ys H' z=>SqL.of (z.1 _ _ em1)) ⟨Same.refl _,ygb _,.nil⟩ ?_ ?_ ?_
 ·rintro i ys H' ⟨_,hi,hy⟩;have l1:=hy.len;have l2:=ysb (zxj (grG rs ss cs)) (cs.take i);rw[yza] at l2;exact small (by omega)
 ·rintro i u ys H2 hu ⟨S2,_,hy⟩;have hi:i<ms.length:=(yia.mp hu).1;obtain⟨c,ec,cu⟩:=CH1.get hu;have hc:=yra ec;refine⟨rfl,_,rfl,_,rfl,p,u,c,grG rs ss cs,cs,rfl,TB.same S2,cu.same S2,hc,c40,zzbc rs ss c40 (zvbb rs ss),λd hd=>(has d hd).four,λp2 out ds H3 S3 np2 ep2 al so2 iff=>?_⟩;have fr:=zumb iff;have ol:=al.len;have hy3:All2 (ChT H3) ys _:=hy.imp λz=>z.same S3;rw[yva,ec,ypb,yie];refine⟨_,.inl ⟨_,SqL.of ep2,rfl⟩,?_⟩;cases out with
  | nil =>
   refine iteT ⟨_,rfl,S2.trans S3,hi,?_⟩;rw[zro (p:=zxj (grG rs ss cs)) (by rw[fr,← ol];rfl)];exact All2.snoc (cu.same (S2.trans S3)) hy3
  | cons o r =>
   refine iteF ⟨S2.trans S3,hi,?_⟩;rw[zsp (p:=zxj (grG rs ss cs)) (by rw[fr,← ol];simp),ylb];exact hy3
 ·rintro ys H2 ⟨S2,_,hy⟩ p3 hp3;rw[ypa (by omega),zdsb lay] at hy;refine laid hp3 λH3 S3 e3=>?_;have hy3:All2 (ChT H3) ys _:=hy.imp λz=>z.same S3;have so3:=so.filter (zxj (grL rs ss cs));obtain⟨c0,m0,f0⟩:=zvmb (rs:=rs) (ss:=ss) ne;refine⟨p3,ys,chG H3,rfl,SqL.of e3,(λz=>?_),(λv hv=>?_),?_,λu hu low=>?_⟩
  ·rw[z] at hy3;have z1:=hy3.len;have z2:=List.length_pos_of_mem (yqc.mpr ⟨m0,f0⟩);rw[← z1] at z2;cases z2
  ·obtain⟨d,_,cd⟩:=hy3.mem hv;have ek:=cd.key;obtain⟨t,rfl,et,l⟩:=cd;exact⟨t,rfl,by rw[ek];exact SqT.of et⟩
  ·rw[zst hy3];exact so3.imp λ{a b} z e=>by
    rw[e] at z;exact ysf _ z
  ·obtain⟨c,hc,cu⟩:=hy3.mem hu;refine q u c H3 (S1.trans (S2.trans S3)) cu (zgjb so hc λd hd nd=>?_);obtain⟨v,hv,cv⟩:=hy3.mem2 hd;have z:=low v hv (λe=>nd (by rw[e] at cv;exact cv.key.symm.trans cu.key));rw[cu.key,cv.key] at z;exact z
def OdT (X:List Addr)(H:Hp)(u:V)(x:Od):Prop:=Ex4 λa p v out=>u = .ref a∧H a=some (.tup [v,.ref p])∧ChT H v x.1∧H p=some (.lst out)∧All2 (zeu H) out x.2∧p∉X
theorem OdT.same {X:List Addr}{H H':Hp}(s:Same H H'){u:V}{x:Od}(h:OdT X H u x):OdT X H' u x:=by
 obtain⟨a,p,v,out,e,h1,h2,h3,h4,h5⟩:=h;exact⟨a,p,v,out,e,s _ _ h1,h2.same s,s _ _ h3,h4.imp λz=>z.same s,h5⟩
theorem OdT.put {X:List Addr}{H:Hp}{y:Addr}{zs ws:List V}(e:H y=some (.lst zs))(my:y∈X){u:V}{x:Od}(h:OdT X H u x):OdT X (upd H y (.lst ws)) u x:=by
 obtain⟨a,p,v,out,eu,h1,h2,h3,h4,h5⟩:=h;refine⟨a,p,v,out,eu,?_,h2.put e,?_,h4.imp λz=>z.put e,h5⟩
 ·rw[zta (zng h1 e (by intro z;cases z))];exact h1
 ·rw[zta (λz=>h5 (by rw[z];exact my))];exact h3
theorem OdT.more {X Y:List Addr}{H:Hp}(f:∀y∈Y,y∈X∨H y=none){u:V}{x:Od}(h:OdT X H u x):OdT Y H u x:=by
 obtain⟨a,p,v,out,eu,h1,h2,h3,h4,h5⟩:=h;refine⟨a,p,v,out,eu,h1,h2,h3,h4,λz=>?_⟩
 rcases f p z with y|y
 ·exact h5 y
 ·rw[y] at h3;cases h3
theorem But.put3 {p y:Addr}{H H1:Hp}{o:HO}(b:But p H H1)(n:H y=none):But p H (upd H1 y o):=λa o' ne e=>by
 rw[zta (zka e n)];exact b a o' ne e
theorem zncb {c:List Int}:∀{cs:List (List Int)} {j:Nat},cs[j]?=some c->cs.Pairwise (· < ·)->cs.eraseIdx j=cs.filter λd=>!decide (d=c)
 | x::r,0,h,so=>by
  cases h;obtain⟨h1,_⟩:=ybe.mp so;rw[yce (by simp)];refine (ypp.mpr λd hd=>?_).symm;have n:¬ d=c:=λz=>by
   have y:=h1 d hd;rw[z] at y;exact ysf _ y
  rw[decide_eq_false n];rfl
 | x::r,j+1,h,so=>by
  obtain⟨h1,h2⟩:=ybe.mp so;have hr:r[j]?=some c:=h;have n:¬ x=c:=λz=>by
   have y:=h1 c (yra hr);rw[z] at y;exact ysf _ y
  rw[ynd (by rw[decide_eq_false n];rfl),yqm,zncb hr h2]
theorem zsw {α β:Type}{R:α->β->Prop}:∀{as:List α} {bs:List β} (j:Nat),All2 R as bs->All2 R (as.eraseIdx j) (bs.eraseIdx j)
 | _,_,_,.nil=>.nil
 | _,_,0,.cons _ t=>t
 | _,_,j+1,.cons h t=>.cons h (zsw j t)
theorem ztvb {cs:List (List Int)}(so:cs.Pairwise (· < ·)){m j:Nat}{c d:List Int}(lt:m<j)(hd:cs[m]?=some d)(hc:cs[j]?=some c):¬ d=c:=λz=>by
 obtain⟨h1,e1⟩:=yia.mp hd;obtain⟨h2,e2⟩:=yia.mp hc;have y:=yqf.mp so m j h1 h2 lt;rw[e1,e2,z] at y;exact ysf _ y
def zelb (B D:Addr):Sp:=λvs H Q _=>Ex3 λl us rs=>vs=[.ref l]∧H l=some (.lst us)∧All2 (LyT B D H) us rs∧(∀r∈rs,r.ok)∧(∀r∈rs,∀q∈r.rules,q.ok)∧rs.length≤12∧(rs.map (·.num)).Nodup∧(∀c∈rs.flatMap chs,HasC rs c)∧∀t s o ws os ss cs H',Same H H'->H s=none->H o=none->s≠o->H' t=some (.tup [.ref s,.ref o])->H' s=some (.lst ws)->H' o=some (.lst os)->ss.Perm rs->zldb ss->cs.Perm (rs.flatMap chs)->cs.Pairwise (· < ·)->zic H' ws (layC rs cs (ss.map rowF) 5).1->All2 (OdT [o,s] H') os (layC rs cs (ss.map rowF) 5).2->LayI rs cs (ss.map rowF) 5->Q (.ref t) H'
theorem zerb {rs:List R8}{ss:List Row}{c:List Int}(nd:(rs.map (·.num)).Nodup)(pp:(ss.map (·.num)).Perm (rs.map (·.num)))(h16:rs.length≤16)(h:HasC rs c):(∀p∈zsf rs ss c,AmOk p.2)∧(zsf rs ss c).length≤16:=by
 obtain⟨i,k,r,wd,hv,y,a,b,C⟩:=h;obtain⟨r0,hr0⟩:=zbp (pp.mem_iff.mpr (yjb.mpr ⟨r,yra C.at_,rfl⟩));rw[C.zcp nd hr0];refine⟨znx C.hok,?_⟩;have l1:=zuab ss r0 wd hv y;have l2:=pp.length_eq;rw[yea,yea] at l2;omega
theorem zep (T:Tx K mg)(kb:K.In base):FnOk P w K mg base CX0 27 T.zxd.f T.zxd.d zju (zelb T.zbd T.zib):=by
 refine T.zxd.ok zrf ?_;rintro f c A o s H vs Q E hr ⟨l,us,rs,rfl,el,LY,rok,qok,h12,nd,hasA,q⟩ X;have tn:∀{ts:List Row},(ts.map (·.num)).Perm (rs.map (·.num))->ts.length≤16∧(ts.map (·.num)).Nodup:=λ{ts} p=>by
  have l:=p.length_eq;rw[yea,yea] at l;exact⟨by omega,p.nodup_iff.mpr nd⟩
 refine⟨_,  (zba (zla (i:=1) zrf.nd rfl (.inl rfl) (zja (zwu T).up hr rfl T.zld.m T.zld.F.kp (zez T) .nil zwa (zaa (pv 0) zca)))
  (zba (zla (i:=2) zrf.nd rfl (.inl rfl) (zsj zca))
  (zba (zla (i:=3) zrf.nd rfl (.inl rfl) (zja (zdjb T kb).up hr rfl T.zci.m T.zci.F.kp (zopb T) .nil zwa (zaa (pv 0) zca)))
  (zba (zaj ygc rfl (zbg rfl T.zih (zaa (zre (v:=.int 5) rfl T.zzh ⟨_,rfl⟩) zca)) (zva (i:=4) zrf.nd rfl (.inr rfl))
   (zba (zvs (i:=5) zrf.nd rfl (.inl rfl) (own:=["change"]) (cap:=["layer"]) rfl (zrb.chk rfl rfl) (.cons (j:=4) rfl (.inl rfl) (.inl rfl) .nil) (zgd (pv 3)) (λ_ _ _ _=>(zva (i:=0) (show ywb (["change","layer"]:List Str) by decide +kernel) rfl (.inl rfl))) (λ_ _ _ _=>zmj (zra zed (zkb (zxc K) (pv 0) zda (λ_ _=>rfl)) (pv 1) (zbb _))) (λ_ _ _ _=>by exact (pv 0)))
   (zea (zox ygc (zgo (pv 5) (λ_=>rfl))
    (zba (zla (i:=6) zrf.nd rfl (.inl rfl) (zja (zcjb T) hr rfl T.zbi.m T.zbi.F.kp (znpb T) .nil zwa (zaa (pv 0) (zaa (pv 1) (zaa (pv 5) zca)))))
    (zba (zkf (ztm yac yyd yzd zuj (pv 2) (zaa (zgb (zaa (pv 6) (zaa (zja (zmr T).up hr rfl T.zjg.m T.zjg.F.kp (zdz T) .nil zwa (zaa (pv 0) (zaa (pv 1) (zaa (pv 6) zca)))) zca))) zca)))
    (zba (zla (i:=1) zrf.nd rfl (.inl rfl) (zja (zkbb T).up hr rfl T.zxh.m T.zxh.F.kp (zbib T) .nil zwa (zaa (pv 0) (zaa (pv 1) (zaa (pv 6) zca)))))
    (zea (zkf (ztm yac PySem.F.slot_list_remove PySem.F.type_list_remove (zjjb hr.units) (pv 5) (zaa (pv 6) zca)))))))))))
  (zea (zoa (zgb (zaa (pv 1) (zaa (pv 2) zca))))))))),?_⟩
 refine⟨_,rfl,l,us,rs,rfl,el,LY,by omega,nd,λs0 w0 s8 H1 S1 ns0 es0 SG p0 r0=>?_⟩;refine⟨sz0,λol hol=>?_⟩;refine laid hol λH2 S2 eo2=>?_;have S02:=S1.trans S2;have nol:H ol=none:=none_of S1 hol;refine⟨_,rfl,l,us,rs,rfl,S02 _ _ el,LY.imp λz=>z.same S02,rok,qok,by omega,nd,λev evs cs H3 S3 nev eev CH pc so=>?_⟩;have S03:=S02.trans S3;have has:∀c∈cs,HasC rs c:=λc hc=>hasA c (pc.mem_iff.mp hc);have c40:cs.length≤40:=by
  rw[pc.length_eq];have:=zgz (rs:=rs) λr hr=>by
   have:=(rok r hr).ru;omega
  omega
 have evl:=CH.len;have R0:zic H3 w0 (s8.map rowF):=(zwjb SG).map λ_ _ z=>z.same (S2.trans S3);have L0:LayI rs cs (s8.map rowF) 0:=by
  refine⟨?_,λt ht=>?_,?_,λx hx=>by cases hx⟩
  ·show ((s8.map rowF).map (·.num)).Perm _;rw[yrd];exact p0.map _
  ·obtain⟨r,hr,rfl⟩:=yjb.mp ht;have ok:=rok r (p0.mem_iff.mp hr);exact⟨ok.mks.nd,ok.mks.so,yua ok.mks.le (by show _≤20+0;decide)⟩
  ·exact ygb _
 refine⟨_,rfl,by decide,by decide,?_⟩;refine zyj (lo:=0) (n:=(5:Int).toNat) (λi σ H'=>Ex6 λsl ws os o4 o5 o6=>σ=[some (.ref l),some (.ref sl),some (.ref ol),some (.ref ev),o4,o5,o6]∧But ol H3 H'∧sl≠ol∧H sl=none∧H' sl=some (.lst ws)∧zic H' ws (layC rs cs (s8.map rowF) i).1∧H' ol=some (.lst os)∧All2 (OdT [ol,sl] H') os (layC rs cs (s8.map rowF) i).2∧LayI rs cs (s8.map rowF) i) ⟨s0,w0,[],_,_,_,rfl,But.refl _ _,zka es0 hol,ns0,(S2.trans S3) _ _ es0,R0,S3 _ _ eo2,.nil,L0⟩ ?_ ?_
 ·rintro i σ H4 hi ⟨sl,ws,os,o4,o5,o6,rfl,B4,nso,nsl,es4,R4,eo4,OD4,LI⟩;have S04:Same H H4:=((But.same S03).trans B4).new nol;have nve:ev≠ol:=yge (zka eo2 nev);have eev4:=B4 _ _ nve eev;have CH4:All2 (ChT H4) evs cs:=CH.imp λz=>z.but B4 (S3 _ _ eo2);refine⟨_,rfl,ev,rfl,⟨_,SqL.of eev4⟩,?_⟩;refine zyc (xs:=evs) (λj ys H'=>H'=H4∧All2 (ChT H4) ys ((cs.take j).filter (inL i))) (λj ys H' z=>by rw[z.1];exact SqL.of eev4) ⟨rfl,.nil⟩ ?_ ?_ ?_
  ·rintro j ys H' ⟨_,hy⟩;have l1:=hy.len;have l2:=ysb (inL i) (cs.take j);rw[yza] at l2;exact small (by omega)
  ·rintro j u ys H' hu ⟨rfl,hy⟩;obtain⟨c,ec,cu⟩:=CH4.get hu;obtain⟨i2,k2,r,wd,hv2,y,a,b,C⟩:=has c (yra ec);have lc:layI c=a:=(by rw[C.is_];rfl);obtain⟨ct,rfl,ect,l4⟩:=id cu;have ect2:=ect;rw[C.is_] at ect2;refine⟨rfl,_,rfl,ct,_,_,_,rfl,rfl,SqT.of ect2,zna (j:=0) rfl,_,rfl,rfl,_,rfl,?_⟩;rw[yva,ec,ypb,yie];refine ite2 (λn1=>?_) (λn1=>?_)
   ·refine⟨_,rfl,rfl,?_⟩;rw[zro (p:=inL i) (by unfold inL;rw[lc];exact n1)];exact All2.snoc cu hy
   ·refine⟨rfl,?_⟩;rw[zsp (p:=inL i) (by unfold inL;rw[lc];exact n1),ylb];exact hy
  ·rintro ys H' ⟨rfl,hy⟩ ml hml;rw[ypa (by omega)] at hy;refine laid hml λH5 S5 e5=>?_;have n3ml:H3 ml=none:=by
    cases z:H3 ml with
    | none=>rfl
    | some o =>
     by_cases zo:ml=ol
     ·rw[zo,eo4] at hml;cases hml
     ·rw[B4 _ _ zo z] at hml;cases hml
   have nml:H ml=none:=none_of S04 hml;have nmo:ol≠ml:=zka eo4 hml;obtain⟨W,hW⟩:∃W:Nat->L2.St->Hp->Prop,W=λm σ H'=>Ex8 λss left (od:List Od) sl ws os ms o6=>m=left.length∧σ=[some (.ref l),some (.ref sl),some (.ref ol),some (.ref ev),some (.int (0+(i:Int))),some (.ref ml),o6]∧But ol H3 H'∧sl≠ol∧sl≠ml∧H sl=none∧H' sl=some (.lst ws)∧zic H' ws ss∧H' ol=some (.lst os)∧All2 (OdT [ol,ml,sl] H') os od∧H' ml=some (.lst ms)∧All2 (ChT H') ms left∧RunI rs cs (s8.map rowF) i ss left od:=⟨_,rfl⟩;refine⟨W,⟨_,by rw[hW];exact⟨_,_,_,sl,ws,os,ys,_,rfl,rfl,B4.trans (But.same S5),nso,zka es4 hml,nsl,S5 _ _ es4,R4.map λ_ _ z=>z.same S5,S5 _ _ eo4,OD4.imp λz=>(z.more (Y:=[ol,ml,sl]) λy hy=>by
    simp only[yla,ydc,or_false] at hy ⊢
    rcases hy with rfl|rfl|rfl
    ·exact .inl (.inl rfl)
    ·exact .inr hml
    ·exact .inl (.inr rfl)).same S5,e5,hy.imp λz=>z.same S5,LI.go so⟩⟩,?_⟩
   intro m σ H6 hw;rw[hW] at hw;obtain⟨ss,left,od,sl,ws,os,ms,o6,rfl,rfl,B6,nso,nsm,nsl,es6,R6,eo6,OD6,em6,CM6,RI⟩:=hw;have S06:Same H H6:=((But.same S03).trans B6).new nol;have cml:=CM6.len;have ll40:=RI.le;refine⟨_,rfl,_,.inl ⟨_,SqL.of em6,rfl⟩,?_⟩;refine ite2 (λne=>?_) (λne=>?_)
   ·have lne:left≠[]:=λz=>by
     rw[z] at CM6;cases CM6;cases ne
    have hasL:∀c∈left,HasC rs c:=λc hc=>has c (RI.sub c hc).1;refine⟨fun σ' H'=>∃m',m'<left.length∧W m' σ' H',λ_ _ z=>z,?_⟩;refine⟨_,rfl,_,rfl,_,rfl,l,sl,ml,us,ws,ms,rs,ss,left,rfl,S06 _ _ el,LY.imp λz=>z.same S06,by omega,nd,es6,R6,RI.nums,RI.znac c40,em6,CM6,by omega,hasL,lne,RI.rise,(λc hc d hd=>by rw[(RI.sub c hc).2,(RI.sub d hd).2]),λu c H7 S7 cu enx=>?_⟩;have hcl:=zll enx;obtain⟨i1,k1,r1,wd,hv,y,a,b,C⟩:=hasL c hcl;obtain⟨rr,hrr⟩:=zbp (RI.nums.mem_iff.mpr (yjb.mpr ⟨r1,yra C.at_,rfl⟩));have am:=zerb nd RI.nums (by omega) (hasL c hcl);have cu':=cu;rw[C.is_] at cu';have S07:=S06.trans S7;have eo7:=S7 _ _ eo6;have es7:=S7 _ _ es6;have R7:zic H7 ws ss:=R6.map λ_ _ z=>z.same S7;refine⟨_,rfl,.inl ⟨rfl,_,SqL.of eo7⟩,_,rfl,_,rfl,_,rfl,_,rfl,l,sl,us,ws,rs,ss,u,i1,_,r1,rr,wd,hv,y,a,b,rfl,S07 _ _ el,LY.imp λz=>z.same S07,by omega,nd,es7,R7,(tn RI.nums).1,C.at_,C.full,C.hok,C.yd,C.zd,hrr,cu',λnp nout H8 S8 nnp enp P0=>⟨sz2,λt ht=>?_⟩⟩;rw[← C.zcp nd hrr] at P0;refine laid ht λH9 S9 et=>?_;have S79:=S8.trans S9;have eo9:=S79 _ _ eo7;have odl:=OD6.len;refine⟨ol,_,_,rfl,rfl,eo9,zei (by omega),?_⟩;have B10:But ol H3 (upd H9 ol (.lst (os++[.ref t]))):=(B6.trans (But.same (S7.trans S79))).put2;have npx:np∉[ol,ml,sl]:=by
     have em7:=S7 _ _ em6;simp only[yla,ydc,or_false];rintro (z|z|z)
     ·rw[z,eo7] at nnp;cases nnp
     ·rw[z,em7] at nnp;cases nnp
     ·rw[z,es7] at nnp;cases nnp
    have OD10:All2 (OdT [ol,ml,sl] (upd H9 ol (.lst (os++[.ref t])))) (os++[.ref t]) (od++[(c,zsf rs ss c)]):=by
     refine (All2.snoc ?_ (OD6.imp λz=>(z.same (S7.trans S79)))).imp λz=>z.put eo9 yka;exact⟨t,np,u,nout,rfl,et,cu.same S79,S9 _ _ enp,P0.imp λz=>z.same S9,npx⟩
    have em10:upd H9 ol (.lst (os++[.ref t])) ml=some (.lst ms):=by
     rw[zta (yge nmo)];exact (S7.trans S79) _ _ em6
    have es10:upd H9 ol (.lst (os++[.ref t])) sl=some (.lst ws):=by
     rw[zta nso];exact S79 _ _ es7
    have eo10:upd H9 ol (.lst (os++[.ref t])) ol=some (.lst (os++[.ref t])):=zfa;have R10:zic (upd H9 ol (.lst (os++[.ref t]))) ws ss:=R7.map λ_ _ z=>(z.same S79).put eo9;have CM10:All2 (ChT (upd H9 ol (.lst (os++[.ref t])))) ms left:=CM6.imp λz=>(z.same (S7.trans S79)).put eo9;have cu10:ChT (upd H9 ol (.lst (os++[.ref t]))) u c:=(cu.same S79).put eo9;have S010:Same H (upd H9 ol (.lst (os++[.ref t]))):=zke (S07.trans S79) nol _;generalize upd H9 ol (.lst (os++[.ref t]))=HA at B10 OD10 em10 es10 eo10 R10 CM10 cu10 S010 ⊢;have cu10':=cu10;rw[C.is_] at cu10';refine⟨_,rfl,_,rfl,_,rfl,l,sl,us,ws,rs,ss,u,i1,_,r1,rr,wd,hv,y,a,b,rfl,S010 _ _ el,LY.imp λz=>z.same S010,by omega,nd,es10,R10,(tn RI.nums).2,RI.znac c40,(tn RI.nums).1,C.at_,C.full,C.hok,C.yd,C.zd,hrr,cu10',λbl bout ts HB SB nbl ebl RB BB=>?_⟩;have eb:=C.zpxb nd hrr BB;subst eb;obtain⟨j,hj⟩:=ypd hcl;have cuB:=cu10.same SB;have CMB:All2 (ChT HB) ms left:=CM10.imp λz=>z.same SB;have emB:=SB _ _ em10;have hjl:=(yia.mp hj).1;refine⟨_,rfl,.inl ⟨rfl,_,SqL.of emB⟩,_,rfl,ml,ms,u,chD c,left.map chD,j,chD c,rfl,rfl,emB,.lst (SqL.of emB) (zxac CMB),zzsb cuB,zrt c,zbkb left,zbpb c,(by rw[yya,hj];rfl),(by rw[zlob];exact decide_eq_true rfl),(λm dm lt em=>?_),?_⟩
    ·rw[yya] at em;obtain⟨d,hd,rfl⟩:=ykn.mp em;rw[zlob];exact decide_eq_false (ztvb RI.rise lt hd hj)
    have nbx:bl≠ol∧bl≠ml:=⟨λz=>(by rw[z,eo10] at nbl;cases nbl),λz=>(by rw[z,em10] at nbl;cases nbl)⟩;refine⟨left.length-1,by have:=ylp.mpr lne;omega,?_⟩;rw[hW];have bt:=zifb hcl RI.rise;refine⟨behC rs ss c,_,od++[(c,zsf rs ss c)],bl,bout,_,ms.eraseIdx j,_,?_,rfl,(B10.trans (But.same SB)).put3 n3ml,nbx.1,nbx.2,none_of S010 nbl,(by rw[zta nbx.2];exact ebl),RB.map λ_ _ z=>z.put emB,(by rw[zta nmo];exact SB _ _ eo10),(OD10.imp λz=>((z.more (Y:=[ol,ml,bl]) λy hy=>by
     simp only[yla,ydc,or_false] at hy ⊢
     rcases hy with rfl|rfl|rfl
     ·exact .inl (.inl rfl)
     ·exact .inl (.inr (.inl rfl))
     ·exact .inr nbl).same SB).put emB (yma _ yka)),zfa,?_,RI.step enx (zzhb BB) (znxb BB RI.inv) am⟩
    ·omega
    ·rw[← zncb hj RI.rise];exact (zsw j CMB).imp λz=>z.put emB
   ·have le:ms=[]:=by
     cases ms with
     | nil=>rfl
     | cons x r=>exact absurd rfl ne
    subst le;cases CM6;obtain⟨e1,e2⟩:=RI.done;refine⟨sl,ws,os,_,_,_,rfl,B6,nso,nsl,es6,by rw[← e1];exact R6,eo6,?_,RI.out⟩;rw[← e2];exact OD6.imp λz=>z.more λy hy=>by
     simp only[yla,ydc,or_false] at hy ⊢
     rcases hy with rfl|rfl
     ·exact .inl (.inl rfl)
     ·exact .inl (.inr (.inr rfl))
 ·rintro σ H4 ⟨sl,ws,os,o4,o5,o6,rfl,B4,nso,nsl,es4,R4,eo4,OD4,LI⟩;have S04:Same H H4:=((But.same S03).trans B4).new nol;refine⟨_,rfl,_,rfl,sz2,λt ht=>?_⟩;refine laid ht λH5 S5 e5=>?_;exact q t sl ol ws os s8 cs H5 (S04.trans S5) nsl nol nso e5 (S5 _ _ es4) (S5 _ _ eo4) p0 r0 pc so (R4.map λ_ _ z=>z.same S5) (OD4.imp λz=>z.same S5) LI
def encO (x:Od):PyData:=.tuple [chD x.1,encL x.2]
theorem zqzb {K:yca}{H:Hp}{X:List Addr}{us:List V}{os:List Od}(ok:∀x∈os,(∀p∈x.2,AmOk p.2)∧x.2.length≤16)(z:All2 (OdT X H) us os):DVs K H us (os.map encO):=by
 induction z with
 | nil=>exact .nil
 | cons h _ ih =>
  obtain⟨a,p,v,out,rfl,h1,h2,h3,h4,_⟩:=h;exact .cons (.tup (SqT.of h1) (.cons (zzsb h2) (.cons (.lst (SqL.of h3) (zts (ok _ yka).1 h4)) .nil))) (ih λx hx=>ok x (yma _ hx))
theorem zlnb:∀{os:List Od},(∀x∈os,(∀p∈x.2,AmOk p.2)∧x.2.length≤16)->ykc (os.map encO)=true∧yyb (os.map encO)≤3
 | [],_=>⟨rfl,ygb _⟩
 | x::r,ok=>by
  obtain⟨h1,h2⟩:=zlnb (os:=r) λp hp=>ok p (yma _ hp);obtain⟨g1,g2⟩:=zkt (ok x yka).1;obtain⟨i1,i2⟩:=lay_ints x.1;refine⟨by simp[ykc,ypc,encO,encL,chD,h1,g1,i1],?_⟩;have d1:(chD x.1).depth=1:=by
   unfold chD;rw[ygd,i2]
  have d2:(encL x.2).depth≤2:=by
   unfold encL;rw[ygd];omega
  have d3:(encO x).depth≤3:=by
   unfold encO;simp only[ygd,yyb,d1];omega
  rw[ybb,yyb];omega
def keyR (q:R8×Str×Hv×Wh):Int×Str×Hv×Wh:=(q.1.num,q.2)
structure zue (rs rt:List R8)(f:List Int->List Int):Prop where
 rule:∀c,(zrm rt (f c)).map keyR=(zrm rs c).map keyR
 inj:∀c d,f c=f d->c=d
 lay:∀c,layI (f c)=layI c
theorem zue.both {rs rt:List R8}{f:List Int->List Int}(h:zue rs rt f)(c:List Int):(zrm rt (f c)=none∧zrm rs c=none)∨Ex3 λr r' q=>r'.num=r.num∧zrm rt (f c)=some (r',q)∧zrm rs c=some (r,q):=by
 have e:=h.rule c;cases a:zrm rt (f c) with
 | none =>
  cases b:zrm rs c with
  | none=>exact .inl ⟨rfl,rfl⟩
  | some q =>
   rw[a,b] at e;cases e
 | some p =>
  cases b:zrm rs c with
  | none =>
   rw[a,b] at e;cases e
  | some q =>
   rw[a,b,ydg,ydg] at e;injection e with e
   obtain⟨r',p⟩:=p;obtain⟨r,q⟩:=q;unfold keyR at e;injection e with e1 e2
   subst e2;exact .inr ⟨r,r',p,e1,rfl,rfl⟩
theorem zue.reach {rs rt:List R8}{f:List Int->List Int}(h:zue rs rt f)(ss:List Row)(c:List Int):zsf rt ss (f c)=zsf rs ss c:=by
 unfold zsf
 rcases h.both c with⟨a,b⟩|⟨r,r',⟨wd,hv,y⟩,e,a,b⟩
 ·rw[a,b]
 ·rw[a,b];dsimp only;rw[e]
theorem zue.beh {rs rt:List R8}{f:List Int->List Int}(h:zue rs rt f)(ss:List Row)(c:List Int):behC rt ss (f c)=behC rs ss c:=by
 unfold behC
 rcases h.both c with⟨a,b⟩|⟨r,r',⟨wd,hv,y⟩,e,a,b⟩
 ·rw[a,b]
 ·rw[a,b];dsimp only;rw[e]
theorem zue.same {rs rt:List R8}{f:List Int->List Int}(h:zue rs rt f)(c d:List Int):decide (f d=f c)=decide (d=c):=decide_eq_decide.mpr ⟨λz=>h.inj _ _ z,λz=>by rw[z]⟩
theorem zue.lean {rs rt:List R8}{f:List Int->List Int}(h:zue rs rt f)(ss:List Row)(c d:List Int):zojb rt ss (f c) (f d)=zojb rs ss c d:=by
 unfold zojb zweb;rw[h.beh,h.reach,h.reach,h.same]
theorem zue.gr {rs rt:List R8}{f:List Int->List Int}(h:zue rs rt f)(ss:List Row)(cs:List (List Int))(c:List Int):grL rt ss (cs.map f) (f c)=(grL rs ss cs c).map f:=by
 unfold grL;rw[yso]
 congr 1
 exact ysh λd _=>h.lean ss c d
theorem zue.led {rs rt:List R8}{f:List Int->List Int}(h:zue rs rt f){ss:List Row}{cs:List (List Int)}{c:List Int}:∀{d:List Int},Led (grL rs ss cs) c d->Led (grL rt ss (cs.map f)) (f c) (f d)
 | _,.one g=>.one (by rw[h.gr];exact yjb.mpr ⟨_,g,rfl⟩)
 | _,.more k g=>.more (h.led k) (by rw[h.gr];exact yjb.mpr ⟨_,g,rfl⟩)
theorem zue.led2 {rs rt:List R8}{f:List Int->List Int}(h:zue rs rt f){ss:List Row}{cs:List (List Int)}{c e:List Int}(z:Led (grL rt ss (cs.map f)) (f c) e):∃d,e=f d∧Led (grL rs ss cs) c d:=by
 induction z with
 | one g =>
  rw[h.gr] at g;obtain⟨d,hd,e⟩:=yjb.mp g;exact⟨d,e.symm,.one hd⟩
 | more _ g ih =>
  obtain⟨d,rfl,k⟩:=ih;rw[h.gr] at g;obtain⟨e,he,q⟩:=yjb.mp g;exact⟨e,q.symm,.more k he⟩
theorem zue.led3 {rs rt:List R8}{f:List Int->List Int}(h:zue rs rt f){ss:List Row}{cs:List (List Int)}{c d:List Int}:Led (grL rt ss (cs.map f)) (f c) (f d)↔Led (grL rs ss cs) c d:=by
 constructor
 ·intro z;obtain⟨e,q,k⟩:=h.led2 z;rw[h.inj _ _ q];exact k
 ·exact h.led
theorem zue.free {rs rt:List R8}{f:List Int->List Int}(h:zue rs rt f)(ss:List Row)(cs:List (List Int))(c:List Int):zxj (grL rt ss (cs.map f)) (f c)=zxj (grL rs ss cs) c:=by
 refine yah.mpr ?_;rw[zmi,zmi]
 constructor
 ·intro z d hd;exact h.led3.mp (z _ (h.led3.mpr hd))
 ·intro z e he;obtain⟨d,rfl,k⟩:=h.led2 he;exact h.led3.mpr (z d k)
theorem zue.next {rs rt:List R8}{f:List Int->List Int}(h:zue rs rt f)(ss:List Row)(cs:List (List Int)):zjp rt ss (cs.map f)=(zjp rs ss cs).map f:=by
 unfold zjp;rw[List.find?_map]
 congr 2
 funext c
 exact h.free ss cs c
def mvO (f:List Int->List Int)(x:Od):Od:=(f x.1,x.2)
theorem zue.run {rs rt:List R8}{f:List Int->List Int}(h:zue rs rt f):∀(n:Nat) ss cs,runC rt n ss (cs.map f)=((runC rs n ss cs).1,(runC rs n ss cs).2.map (mvO f))
 | 0,_,_=>rfl
 | n+1,ss,cs=>by
  cases e:zjp rs ss cs with
  | none =>
   have e2:=h.next ss cs;rw[e] at e2;rw[runC,e2,runC,e];rfl
  | some c =>
   have e2:=h.next ss cs;rw[e] at e2;have fl:(cs.map f).filter (λd=>!decide (d=f c))=(cs.filter λd=>!decide (d=c)).map f:=by
    rw[yso]
    congr 1
    refine ysh λd _=>?_;show (!decide (f d=f c))=_
    rw[h.same]
   rw[zlr (show zjp rt ss (cs.map f)=some (f c) from e2),zlr e,fl,h.beh,h.reach,h.run n];rfl
theorem zue.ztwb {rs rt:List R8}{f:List Int->List Int}(h:zue rs rt f)(cs:List (List Int))(s0:List Row):∀i:Nat,layC rt (cs.map f) s0 i=((layC rs cs s0 i).1,(layC rs cs s0 i).2.map (mvO f))
 | 0=>rfl
 | i+1=>by
  have fl:(cs.map f).filter (inL i)=(cs.filter (inL i)).map f:=by
   rw[yso]
   congr 1
   refine ysh λd _=>?_;show inL i (f d)=inL i d
   unfold inL;rw[h.lay]
  rw[layC,fl,yea,h.ztwb cs s0 i,h.run];dsimp only;rw[layC,ykb]
theorem find_perm {rs rt:List R8}(p:rt.Perm rs)(nd:(rs.map (·.num)).Nodup)(n:Int):(rt.find? λr=>decide (r.num=n))=rs.find? λr=>decide (r.num=n):=by
 have nt:(rt.map (·.num)).Nodup:=(p.map _).nodup_iff.mpr nd
 by_cases e:∃r∈rs,r.num=n
 ·obtain⟨r,hr,rfl⟩:=e;obtain⟨i,hi⟩:=ypd hr;obtain⟨j,hj⟩:=ypd (p.mem_iff.mpr hr);rw[zry nd hi,zry nt hj]
 ·rw[yyg.mpr λr hr z=>e ⟨r,hr,of_decide_eq_true z⟩,yyg.mpr λr hr z=>e ⟨r,p.mem_iff.mp hr,of_decide_eq_true z⟩]
theorem zue.perm {rs rt:List R8}(p:rt.Perm rs)(nd:(rs.map (·.num)).Nodup):zue rs rt id:=by
 refine⟨λc=>?_,λc d z=>z,λ_=>rfl⟩;show (zrm rt c).map keyR=_
 unfold zrm
 split
 ·rw[find_perm p nd]
 ·rfl
theorem HasC.perm {rs rt:List R8}(p:rt.Perm rs){c:List Int}(h:HasC rs c):HasC rt c:=by
 obtain⟨i,k,r,wd,hv,y,a,b,C⟩:=h;obtain⟨j,hj⟩:=ypd (p.mem_iff.mpr (yra C.at_));exact⟨j,k,r,wd,hv,y,a,b,hj,C.rule,C.full,C.is_,C.hok,C.yd,C.zd⟩
def gB (by_ b:Int):Int:=b*by_+by_ / 2
def upR (by_:Int)(r:R8):R8:={ r with came:=gB by_ r.came }
def mvC (by_:Int):List Int->List Int
 | [a,b,n,k]=>[a,gB by_ b,n,k]
 | c=>c
theorem zaxb {by_ a b:Int}(h:0<by_):gB by_ a<gB by_ b↔a<b:=by
 unfold gB;have e:a*by_<b*by_↔a<b:=⟨λz=>Int.lt_of_mul_lt_mul_right z (Int.le_of_lt h),λz=>Int.mul_lt_mul_of_pos_right z h⟩;rw[← e];omega
theorem zsac {by_ a b:Int}(h:0<by_)(e:gB by_ a=gB by_ b):a=b:=by
 rcases Int.lt_trichotomy a b with z|z|z
 ·have:=(zaxb h).mpr z;omega
 ·exact z
 ·have:=(zaxb h).mpr z;omega
theorem zdj {by_:Int}{c:List Int}(h:c.length=4):Ex4 λa b n k=>c=[a,b,n,k]∧mvC by_ c=[a,gB by_ b,n,k]:=by
 match c,h with
 | [a,b,n,k],_=>exact⟨a,b,n,k,rfl,rfl⟩
theorem zml {by_:Int}{c:List Int}(h:¬ c.length=4):mvC by_ c=c:=by
 unfold mvC
 split
 ·exact absurd rfl h
 ·rfl
theorem zymb {by_:Int}(c:List Int):(mvC by_ c).length=c.length:=by
 by_cases h:c.length=4
 ·obtain⟨a,b,n,k,e,e2⟩:=zdj (by_:=by_) h;rw[e2,e];rfl
 ·rw[zml h]
theorem zrwb {by_:Int}(hb:0<by_)(c d:List Int)(e:mvC by_ c=mvC by_ d):c=d:=by
 have l:c.length=d.length:=by rw[← zymb (by_:=by_) c,e,zymb]
 by_cases h:c.length=4
 ·obtain⟨a,b,n,k,rfl,e1⟩:=zdj (by_:=by_) h;obtain⟨a',b',n',k',rfl,e2⟩:=zdj (by_:=by_) (l.symm.trans h);rw[e1,e2] at e;injection e with z1 e
  injection e with z2 e
  rw[z1,zsac hb z2,e]
 ·rw[zml h,zml (λz=>h (l.trans z))] at e;exact e
theorem zyzb {by_:Int}(hb:0<by_){c d:List Int}(hc:c.length=4)(hd:d.length=4)(lt:c<d):mvC by_ c<mvC by_ d:=by
 obtain⟨a,b,n,k,rfl,e1⟩:=zdj (by_:=by_) hc;obtain⟨a',b',n',k',rfl,e2⟩:=zdj (by_:=by_) hd;rw[e1,e2,yjd];rw[yjd] at lt
 rcases lt with z|⟨z,lt⟩
 ·exact .inl z
 ·refine .inr ⟨z,?_⟩;rw[yjd] at lt ⊢
  rcases lt with z|⟨z,lt⟩
  ·exact .inl ((zaxb hb).mpr z)
  ·exact .inr ⟨by rw[z],lt⟩
theorem zwac (by_:Int)(r:R8):crd (upR by_ r)=crd r:=rfl
theorem zue.later {rs:List R8}{by_:Int}(hb:0<by_):zue rs (rs.map (upR by_)) (mvC by_):=by
 refine⟨λc=>?_,zrwb hb,λc=>?_⟩
 ·by_cases h:c.length=4
  ·obtain⟨a,b,n,k,rfl,e1⟩:=zdj (by_:=by_) h;rw[e1];show yss keyR (((rs.map (upR by_)).find? λr=>decide (r.num=n)).bind λr=>match (crd r).rules[k.toNat]? with
    | some (.hold wd h y)=>some (r,wd,h,y)
    | _=>none)=yss keyR ((rs.find? λr=>decide (r.num=n)).bind λr=>match (crd r).rules[k.toNat]? with
    | some (.hold wd h y)=>some (r,wd,h,y)
    | _=>none)
   rw[List.find?_map];show yss keyR (((rs.find? λr=>decide (r.num=n)).map (upR by_)).bind _)=_
   cases rs.find? λr=>decide (r.num=n) with
   | none=>rfl
   | some r =>
    rw[ydg,yfn,yfn,zwac];cases (crd r).rules[k.toNat]? with
    | none=>rfl
    | some q=>cases q<;>rfl
  ·rw[zml h];unfold zrm
   split
   ·exact absurd rfl h
   ·rfl
 ·by_cases h:c.length=4
  ·obtain⟨a,b,n,k,rfl,e1⟩:=zdj (by_:=by_) h;rw[e1];rfl
  ·rw[zml h]
def NmOk (ss:List Row):Prop:=∀s∈ss,∀m∈s.marks,zdd m
theorem zywb {ss:List Row}{r0:Row}{wd:Str}{h:Hv}(hok:zqd wd h)(e:wd = "gain"):zdd (strV (zpk ss r0 wd h)):=by
 cases hok
 all_goals first|exact absurd e (by decide)|(rename_i n hn;exact hn)
theorem zyrb {wd n:Str}{ms zs:List Str}(h:zvh wd n ms zs)(hn:wd = "gain"->zdd n)(hm:∀m∈ms,zdd m):∀m∈zs,zdd m:=by
 unfold zvh at h
 split at h
 ·rename_i e
  split at h
  ·rw[h];exact hm
  ·intro m z
   rcases yeb.mp (h.1.mem_iff.mp z) with y|y
   ·exact hm m y
   ·rw[yga.mp y];exact hn e
 ·split at h
  ·rw[h];exact λm z=>hm m (yqc.mp z).1
  ·rw[h];exact hm
theorem zzac {r0:Row}{wd:Str}{am:V}{y:Wh}{ss ts:List Row}(z:All2 (BehR r0 wd am y) ss ts)(hn:wd = "gain"->zdd (strV am))(h:NmOk ss):NmOk ts:=by
 intro t ht;obtain⟨s,hs,b⟩:=z.mem2 ht;unfold BehR at b
 split at b
 ·exact zyrb b.marks hn (h s hs)
 ·rw[b];exact h s hs
theorem zrzb {rs:List R8}{ss:List Row}{c:List Int}(nd:(rs.map (·.num)).Nodup)(hc:HasC rs c)(h:NmOk ss):NmOk (behC rs ss c):=by
 obtain⟨i,k,r,wd,hv,y,a,b,C⟩:=hc;unfold behC;rw[C.zsvb nd];dsimp only;cases rowOf ss r.num with
 | none=>exact h
 | some r0 =>
  dsimp only;unfold behF
  split
  ·rename_i e;exact zzac e.choose_spec (zywb C.hok) h
  ·exact h
theorem zvtb {rs:List R8}(nd:(rs.map (·.num)).Nodup):∀(n:Nat) ss cs,(∀c∈cs,HasC rs c)->NmOk ss->NmOk (runC rs n ss cs).1
 | 0,_,_,_,h=>h
 | n+1,ss,cs,hc,h=>by
  cases e:zjp rs ss cs with
  | none =>
   rw[runC,e];exact h
  | some c =>
   rw[zlr e];exact zvtb nd n _ _ (λd hd=>hc d (yqc.mp hd).1) (zrzb nd (hc c (zll e)) h)
theorem zwtb {rs:List R8}{cs:List (List Int)}{s0:List Row}(nd:(rs.map (·.num)).Nodup)(hc:∀c∈cs,HasC rs c)(h:NmOk s0):∀i,NmOk (layC rs cs s0 i).1
 | 0=>h
 | i+1=>zvtb nd _ _ _ (λc z=>hc c (yqc.mp z).1) (zwtb nd hc h i)
def encS (r:Row):PyData:=.tuple [.int r.num,.int r.keeper,.tuple (r.marks.map .str),.int r.force,.bool r.mute]
theorem zugb {K:yca}{H:Hp}:∀ms:List Str,DVs K H (ms.map V.str) (ms.map PyData.str)
 | []=>.nil
 | m::r=>.cons (.str m) (zugb r)
theorem zdrb {K:yca}{H:Hp}{ws:List V}{ss:List Row}(z:zic H ws ss):DVs K H ws (ss.map encS):=by
 induction z with
 | nil=>exact .nil
 | cons h _ ih =>
  obtain⟨a,m,rfl,h1,h2⟩:=h;exact .cons (.tup (SqT.of h1) (.cons (.int _) (.cons (.int _) (.cons (.tup (SqT.of h2) (zugb _)) (.cons (.int _) (.cons (.bl _) .nil)))))) ih
theorem zdw:∀{ss:List Row},NmOk ss->ykc (ss.map encS)=true∧yyb (ss.map encS)≤2
 | [],_=>⟨rfl,ygb _⟩
 | s::r,h=>by
  obtain⟨h1,h2⟩:=zdw (ss:=r) λt ht=>h t (yma _ ht);have m1:=ziy s.marks λm hm=>zdy (h s yka m hm);have m2:=zwy s.marks;refine⟨by simp[ykc,ypc,encS,h1,m1],?_⟩;have d3:(encS s).depth≤2:=by
   unfold encS;simp only[ygd,yyb,m2];omega
  rw[ybb,yyb];omega
def encT (ss:List Row)(od:List Od):PyData:=.tuple [.list (ss.map encS),.list (od.map encO)]
theorem zuv {ss:List Row}{od:List Od}(h:NmOk ss)(ok:∀x∈od,(∀p∈x.2,AmOk p.2)∧x.2.length≤16):yad (encT ss od)=true:=by
 obtain⟨h1,h2⟩:=zdw h;obtain⟨g1,g2⟩:=zlnb ok;unfold yad encT;have c:ypc (.tuple [.list (ss.map encS),.list (od.map encO)])=true:=by simp[ypc,ykc,h1,g1]
 rw[c];simp[ygd,yyb];omega
theorem zchb {K:yca}{H:Hp}{t s o:Addr}{ws os:List V}{ss:List Row}{od:List Od}{X:List Addr}(et:H t=some (.tup [.ref s,.ref o]))(es:H s=some (.lst ws))(eo:H o=some (.lst os))(R:zic H ws ss)(O:All2 (OdT X H) os od)(ok:∀x∈od,(∀p∈x.2,AmOk p.2)∧x.2.length≤16):DV K H (.ref t) (encT ss od) :=
 .tup (SqT.of et) (.cons (.lst (SqL.of es) (zdrb R)) (.cons (.lst (SqL.of eo) (zqzb ok O)) .nil))
theorem zetb {α β:Type}{R:α->β->Prop}{as:List α}{bs:List β}{a:α}{b:β}(h:R a b)(z:All2 R as bs):∀n:Nat,All2 R (as.take n++a::as.drop n) (bs.take n++b::bs.drop n):=by
 induction z with
 | nil =>
  intro n;rw[List.take_nil,List.take_nil,List.drop_nil,List.drop_nil];exact .cons h .nil
 | cons g t ih =>
  intro n;cases n with
  | zero=>exact .cons h (.cons g t)
  | succ n=>exact .cons g (ih n)
def zlyb (K:yca)(B D:Addr):Sp:=λvs H Q _=>Ex5 λsa ll (sc:List Int) us rs=>vs=[.ref sa,.ref ll]∧SqF K H sa (sc.map V.int)∧sc.length≤63∧H ll=some (.lst us)∧All2 (LyT B D H) us rs∧rs.length≤16∧∀p ws rt H',Same H H'->H p=none->H' p=some (.lst ws)->All2 (LyT B D H) ws rt->rt.Perm rs->Q (.ref p) H'
def zjvb (B D:Addr):Sp:=λvs H Q _=>Ex4 λll us rs (b:Int)=>vs=[.ref ll,.int b]∧H ll=some (.lst us)∧All2 (LyT B D H) us rs∧rs.length≤16∧0<b∧b<10000000000∧∀p ws H',Same H H'->H p=none->H' p=some (.lst ws)->All2 (LyT B D H') ws (rs.map (upR b))->Q (.ref p) H'
def zfvb:Sp:=λvs H Q _=>Ex5 λol os (od:List Od) (b:Int) (X:List Addr)=>vs=[.ref ol,.int b]∧H ol=some (.lst os)∧All2 (OdT X H) os od∧od.length≤40∧0<b∧b<10000000000∧∀p ws H',Same H H'->H p=none->H' p=some (.lst ws)->All2 (OdT X H') ws (od.map (mvO (mvC b)))->Q (.ref p) H'
theorem zfr (T:Tx K mg):FnOk P w K mg base CX0 3 T.zsc.f T.zsc.d zqi (zlyb K T.zbd T.zib):=by
 refine T.zsc.ok zkh ?_;rintro f c A o s H vs Q E hr ⟨sa,ll,sc,us,rs,rfl,hS,h63,el,LY,h16,q⟩ X;have ul:=LY.len;refine⟨_,  (zba (zla (i:=2) zkh.nd rfl (.inl rfl) (zsj zca))
  (zba (zaj ygc rfl (zbg rfl T.zih (zaa (zlb zmc rfl T.zzk yed (zaa (pv 1) zca)) zca)) (zva (i:=3) zkh.nd rfl (.inl rfl))
   (zea (zkf (ztm yac yhm yim zsbb (pv 2) (zaa (zia zub (zja (zle T) hr rfl T.zsb.m T.zsb.F.kp (zeg T) .nil zwa (zaa (pv 0) (zaa (zia zsd zda (pv 3)) zca))) (zia zsd (pv 3) zda)) (zaa (zkb zli (pv 1) (pv 3) (λ_ _=>rfl)) zca))))))
  (zea (zoa (pv 2))))),?_⟩
 refine⟨sz0,λpl hpl=>?_⟩;refine laid hpl λH1 S1 e1=>?_;refine⟨_,rfl,ll,_,rfl,.inl (SqL.of (S1 _ _ el)),_,rfl,by omega,by omega,?_⟩;refine zyj (lo:=0) (n:=((us.length:Nat):Int).toNat) (λi σ H'=>Ex3 λws rt o3=>σ=[some (.ref sa),some (.ref ll),some (.ref pl),o3]∧H' pl=some (.lst ws)∧All2 (LyT T.zbd T.zib H) ws rt∧rt.Perm (rs.take i)∧Same H H') ⟨[],[],_,rfl,e1,.nil,.refl _,S1⟩ ?_ ?_
 ·rintro i σ H2 hi ⟨ws,rt,o3,rfl,ep,AL,pm,S2⟩;rw[yjc] at hi;have wl:=AL.len;have rl:=pm.length_eq;rw[yza] at rl;obtain⟨u,hu⟩:∃u,us[i]?=some u:=⟨_,yoa hi⟩;obtain⟨r,er,ly⟩:=LY.get hu;refine⟨_,rfl,.inl ⟨rfl,_,SqL.of ep⟩,_,rfl,_,rfl,_,_,rfl,rfl,sa,sc,40+i,(by show [V.ref sa,V.int (40+(0+(i:Int)))]=_;rw[ywj];simp),hS.same S2,h63,by omega,λz=>?_⟩;refine⟨_,rfl,_,_,rfl,rfl,_,_,rfl,rfl,(by show (0:Int)<0+(i:Int)+1;omega),?_⟩;have mz:=zvc z (m:=0+(i:Int)+1) (by omega);refine⟨_,rfl,_,rfl,ll,_,_,_,rfl,rfl,SqL.of (S2 _ _ el),(by rw[ywj];exact zna hu),?_⟩;refine⟨pl,ws,_,u,rfl,rfl,ep,by omega,by omega,by omega,?_⟩;refine⟨_,_,_,rfl,zfa,zetb ly AL _,?_,zke S2 hpl _⟩;rw[yva,er,ypb];refine (yas).trans ?_;rw[yjh];exact (pm.cons r).trans (yyk r _).symm
 ·rintro σ H2 ⟨ws,rt,o3,rfl,ep,AL,pm,S2⟩;rw[yjc,ypa (by omega)] at pm;exact⟨_,rfl,q pl ws rt H2 S2 hpl ep AL pm⟩
theorem zby (T:Tx K mg):FnOk P w K mg base CX0 2 T.zce.f T.zce.d zzl (zjvb T.zbd T.zib):=by
 refine T.zce.ok zlx ?_;rintro f c A o s H vs Q E hr ⟨ll,us,rs,b,rfl,el,LY,h16,b0,b9,q⟩ X;have ul:=LY.len;refine⟨_,  (zea (zoa (zge (own:=["_law_number","_law_card_here","_law_keeper","_law_came","_law_marks"]) (cap:=["_law_by"]) rfl (zrb.chk rfl rfl) (.cons (j:=1) rfl (.inl rfl) (.inl rfl) .nil) (zgd (pv 0)) (λ_ _ _ _=>(zqx K (n:=5) rfl (zqb (zva (i:=0) (show ywb (["_law_number","_law_card_here","_law_keeper","_law_came","_law_marks","_law_by"]:List Str) by decide +kernel) rfl (.inl rfl)) (zqb (zva (i:=1) (show ywb (["_law_number","_law_card_here","_law_keeper","_law_came","_law_marks","_law_by"]:List Str) by decide +kernel) rfl (.inl rfl)) (zqb (zva (i:=2) (show ywb (["_law_number","_law_card_here","_law_keeper","_law_came","_law_marks","_law_by"]:List Str) by decide +kernel) rfl (.inl rfl)) (zqb (zva (i:=3) (show ywb (["_law_number","_law_card_here","_law_keeper","_law_came","_law_marks","_law_by"]:List Str) by decide +kernel) rfl (.inl rfl)) (zqb (zva (i:=4) (show ywb (["_law_number","_law_card_here","_law_keeper","_law_came","_law_marks","_law_by"]:List Str) by decide +kernel) rfl (.inl rfl)) zgk))))))) (λ_ _ _ _=>zmh) (λ_ _ _ _=>by exact (zgb (zaa (pv 0) (zaa (pv 1) (zaa (pv 2) (zaa (zia zsd (zia zuh (pv 3) (pv 5)) (zia zec (pv 5) zda)) (zaa (pv 4) zca)))))))))),?_⟩;refine⟨_,rfl,ll,rfl,⟨_,SqL.of el⟩,?_⟩;refine zyc (xs:=us) (λi ys H'=>Same H H'∧i≤us.length∧All2 (LyT T.zbd T.zib H') ys ((rs.take i).map (upR b))) (λi ys H' z=>SqL.of (z.1 _ _ el)) ⟨Same.refl _,ygb _,.nil⟩ ?_ ?_ ?_
 ·rintro i ys H' ⟨_,hi,hy⟩;have:=hy.len;rw[yea,yza] at this;exact small (by omega)
 ·rintro i u ys H' hu ⟨S,_,hy⟩;have hi:i<us.length:=(yia.mp hu).1;obtain⟨r,er,ly⟩:=LY.get hu;obtain⟨a,tm,c,rfl,ea,em,ic⟩:=ly.same S;refine⟨a,_,rfl,SqT.of ea,rfl,_,_,rfl,_,_,rfl,_,_,rfl,_,_,rfl,_,_,rfl,rfl,rfl,?_⟩;refine⟨_,rfl,_,rfl,_,rfl,_,rfl,_,rfl,_,_,rfl,rfl,.inr ⟨by omega,by omega⟩,_,rfl,_,_,rfl,rfl,(by show (0:Int)<2∧(2:Int)<1073741824;decide),_,_,rfl,rfl,_,rfl,sz5,λt ht=>?_⟩;refine laid ht λH3 S3 e3=>?_;refine⟨S.trans S3,hi,?_⟩;rw[yva,er,ypb,ykb];exact All2.snoc ⟨t,tm,c,rfl,e3,S3 _ _ em,ic.same S3⟩ (hy.imp λz=>z.same S3)
 ·rintro ys H' ⟨S,_,hy⟩ p hp;rw[ypa (by omega)] at hy;refine laid hp λH2 S2 e2=>?_;exact q p ys H2 (S.trans S2) (none_of S hp) e2 (hy.imp λz=>z.same S2)
theorem zzx (T:Tx K mg):FnOk P w K mg base CX0 2 T.zae.f T.zae.d zxl zfvb:=by
 refine T.zae.ok zjx ?_;rintro f c A o s H vs Q E hr ⟨ol,os,od,b,Xs,rfl,eo,OD,o40,b0,b9,q⟩ X;have ul:=OD.len;refine⟨_,  (zea (zoa (zge (own:=["_law_change","_law_some"]) (cap:=["_law_by"]) rfl (zrb.chk rfl rfl) (.cons (j:=1) rfl (.inl rfl) (.inl rfl) .nil) (zgd (pv 0)) (λ_ _ _ _=>(zqx K (n:=2) rfl (zqb (zva (i:=0) (show ywb (["_law_change","_law_some","_law_by"]:List Str) by decide +kernel) rfl (.inl rfl)) (zqb (zva (i:=1) (show ywb (["_law_change","_law_some","_law_by"]:List Str) by decide +kernel) rfl (.inl rfl)) zgk)))) (λ_ _ _ _=>zmh) (λ_ _ _ _=>by exact (zgb (zaa (zgb (zaa (zkb (zxc K) (pv 0) zda (λ_ _=>rfl)) (zaa (zia zsd (zia zuh (zkb (zxc K) (pv 0) zda (λ_ _=>rfl)) (pv 2)) (zia zec (pv 2) zda)) (zaa (zkb (zxc K) (pv 0) zda (λ_ _=>rfl)) (zaa (zkb (zxc K) (pv 0) zda (λ_ _=>rfl)) zca))))) (zaa (pv 1) zca))))))),?_⟩;refine⟨_,rfl,ol,rfl,⟨_,SqL.of eo⟩,?_⟩;refine zyc (xs:=os) (λi ys H'=>Same H H'∧i≤os.length∧All2 (OdT Xs H') ys ((od.take i).map (mvO (mvC b)))) (λi ys H' z=>SqL.of (z.1 _ _ eo)) ⟨Same.refl _,ygb _,.nil⟩ ?_ ?_ ?_
 ·rintro i ys H' ⟨_,hi,hy⟩;have:=hy.len;rw[yea,yza] at this;exact small (by omega)
 ·rintro i u ys H' hu ⟨S,_,hy⟩;have hi:i<os.length:=(yia.mp hu).1;obtain⟨x,er,ox⟩:=OD.get hu;obtain⟨a,p,v,out,rfl,ea,cv,ep,PP,nx⟩:=ox.same S;obtain⟨ct,rfl,ect,l4⟩:=id cv;obtain⟨c0,c1,c2,c3,ec,em⟩:=zdj (by_:=b) l4;rw[ec] at ect;refine⟨a,_,rfl,SqT.of ea,rfl,_,_,rfl,_,_,rfl,rfl,rfl,?_⟩;refine⟨_,rfl,ct,_,_,_,rfl,rfl,SqT.of ect,zna (j:=0) rfl,_,rfl,ct,_,_,_,rfl,rfl,SqT.of ect,zna (j:=1) rfl,_,rfl,_,_,rfl,rfl,.inr ⟨by omega,by omega⟩,_,rfl,_,_,rfl,rfl,(by show (0:Int)<2∧(2:Int)<1073741824;decide),_,_,rfl,rfl,_,rfl,ct,_,_,_,rfl,rfl,SqT.of ect,zna (j:=2) rfl,_,rfl,ct,_,_,_,rfl,rfl,SqT.of ect,zna (j:=3) rfl,sz4,λt ht=>?_⟩;refine laid ht λH3 S3 e3=>?_;refine⟨_,rfl,sz2,λt2 ht2=>?_⟩;refine laid ht2 λH4 S4 e4=>?_;have S34:=S3.trans S4;refine⟨S.trans S34,hi,?_⟩;rw[yva,er,ypb,ykb];exact All2.snoc ⟨t2,p,.ref t,out,rfl,e4,⟨t,rfl,by rw[show (mvO (mvC b) x).1=_ from em];exact S4 _ _ e3,by rw[show (mvO (mvC b) x).1=_ from em];rfl⟩,S34 _ _ ep,PP.imp λz=>z.same S34,nx⟩ (hy.imp λz=>z.same S34)
 ·rintro ys H' ⟨S,_,hy⟩ p hp;rw[ypa (by omega)] at hy;refine laid hp λH2 S2 e2=>?_;exact q p ys H2 (S.trans S2) (none_of S hp) e2 (hy.imp λz=>z.same S2)
theorem R8.ok.up {r:R8}{b:Int}(h:r.ok):(upR b r).ok:=⟨h.n0,h.n1,h.k0,h.k1,h.fo,h.co,h.sp,h.mks,h.ow,h.ru⟩
theorem zcpb (b:Int)(r:R8):∀(k:Nat) (qs:List Rule),chAt (upR b r) k qs=(chAt r k qs).map (mvC b)
 | _,[]=>rfl
 | k,q::qs=>by
  rw[chAt,chAt,zcpb b r (k+1) qs,ykb]
  split<;>rfl
theorem zjub (b:Int)(rs:List R8):(rs.map (upR b)).flatMap chs=(rs.flatMap chs).map (mvC b):=by
 rw[List.flatMap_map,List.map_flatMap]
 congr 1
 funext r
 exact zcpb b r _ _
theorem HasC.up {rs:List R8}{b:Int}{c:List Int}(h:HasC rs c):HasC (rs.map (upR b)) (mvC b c):=by
 obtain⟨i,k,r,wd,hv,y,a,b',C⟩:=h;exact⟨i,k,upR b r,wd,hv,y,a,gB b b',by rw[yya,C.at_];rfl,C.rule,C.full,by rw[C.is_];rfl,C.hok,C.yd,C.zd⟩
def zgcc (B D:Addr)(H:Hp)(rs:List R8)(u:V):Prop:=Ex3 λp ws rt=>u = .ref p∧H p=some (.lst ws)∧All2 (LyT B D H) ws rt∧rt.Perm rs
theorem zpzb (T:Tx K mg)(kb:K.In base):FnOk P w K mg base CX0 28 T.zokb.f T.zokb.d zbbc (ztqb K):=by
 refine T.zokb.ok zfq ?_;rintro f c A o s H vs Q E hr ⟨sa,sc,rfl,hS,h63,q⟩ X;refine⟨_,  (zba (zla (i:=1) zfq.nd rfl (.inl rfl) (zja (zyx T).up hr rfl T.zzd.m T.zzd.F.kp (zfdb T) .nil zwa (zaa (pv 0) zca)))
  (zba (zla (i:=2) zfq.nd rfl (.inl rfl) (zja (zmbb T).up hr rfl T.zef.m T.zef.F.kp (zrfb T) .nil zwa (zaa (pv 0) (zaa (pv 1) (zaa (zia zub (zja (zle T).up hr rfl T.zsb.m T.zsb.F.kp (zeg T) .nil zwa (zaa (pv 0) (zaa zda zca))) zda) (zaa zda zca))))))
  (zba (zla (i:=3) zfq.nd rfl (.inl rfl) (zja (zay T kb).up hr rfl T.zbe.m T.zbe.F.kp (zidb T) .nil zwa (zaa (pv 2) zca)))
  (zba (zbmb (zja (zep T kb) hr rfl T.zxd.m T.zxd.F.kp (zwt T) .nil zwa (zaa (pv 3) zca)) (zwv (n:=2) rfl (zqb (zva (i:=4) zfq.nd rfl (.inl rfl)) (zqb (zva (i:=5) zfq.nd rfl (.inl rfl)) zgk))))
  (zba (zaj ygc rfl (zgd (zsj (zaa (zja (zfr T).up hr rfl T.zsc.m T.zsc.F.kp (zxt T) .nil zwa (zaa (pv 0) (zaa (pv 3) zca))) (zaa (zfzb (pv 3) (ziwb ztkb zda)) zca)))) (zva (i:=6) zfq.nd rfl (.inl rfl))
   (zea (zcc (zra (zpmb hr.units) (zja (zep T kb) hr rfl T.zxd.m T.zxd.F.kp (zwt T) .nil zwa (zaa (pv 6) zca)) (zgb (zaa (pv 4) (zaa (pv 5) zca))) (zbb _))
    (zea (zoa zyib))
    zua)))
  (zba (zla (i:=7) zfq.nd rfl (.inl rfl) (zia zsd zda (zia zub (zja (zle T).up hr rfl T.zsb.m T.zsb.F.kp (zeg T) .nil zwa (zaa (pv 0) (zaa zda zca))) (zia znmb zda zda))))
  (zea (zoa (znh (zmzb hr.units) (zja (zep T kb) hr rfl T.zxd.m T.zxd.F.kp (zwt T) .nil zwa (zaa (zja (zby T).up hr rfl T.zce.m T.zce.F.kp (zjdb T) .nil zwa (zaa (pv 3) (zaa (pv 7) zca))) zca)) (zgb (zaa (pv 4) (zaa (zja (zzx T).up hr rfl T.zae.m T.zae.F.kp (zgdb T) .nil zwa (zaa (pv 5) (zaa (pv 7) zca))) zca))) (zbb _)))))))))),?_⟩
 refine⟨_,rfl,sa,sc,rfl,hS,h63,λnl ns H1 S1 N1=>?_⟩;refine⟨_,rfl,_,rfl,_,rfl,sa,sc,0,rfl,hS.same S1,h63,by decide,λz=>⟨_,_,rfl,rfl,(by show (0:Int)<7;decide),?_⟩⟩;have z7:=zvc z (m:=7) (by decide);obtain⟨many,hmany⟩:∃many:Nat,z % 7=(many:Int):=⟨(z % 7).toNat,by omega⟩;refine⟨sa,nl,sc,ns,many,6,(by show [V.ref sa,V.ref nl,V.int (z % 7),V.int 6]=_;rw[hmany];rfl),hS.same S1,h63,N1,by omega,by decide,λrl us rs H2 S2 _ er RW rlen rok rnd=>?_⟩;refine⟨_,rfl,rl,rl,us,rs,rfl,er,RW,rok,by omega,λll ws H4 S4 nll ell LY=>?_⟩;have hasA:∀c∈rs.flatMap chs,HasC rs c:=λc hc=>zecc RW hc;have qok:=zbhb RW;have hS4:=hS.same (S1.trans (S2.trans S4));refine⟨_,rfl,ll,ws,rs,rfl,ell,LY,rok,qok,by omega,rnd,hasA,λt sl ol wv ov s8 cs H5 S5 nsl nol nso et esl eol p8 r8 pc so R5 OD5 LI=>?_⟩;have has:∀c∈cs,HasC rs c:=λc hc=>hasA c (pc.mem_iff.mp hc);have nm:NmOk (layC rs cs (s8.map rowF) 5).1:=zwtb rnd has (λs hs=>by
  obtain⟨r,hr,rfl⟩:=yjb.mp hs;exact (rok r (p8.mem_iff.mp hr)).mks.ok) 5
 have shp:=zuv nm LI.am;have c40:cs.length≤40:=by
  rw[pc.length_eq];have:=zgz (rs:=rs) λr hr=>by
   have:=(rok r hr).ru;omega
  omega
 have o40:(layC rs cs (s8.map rowF) 5).2.length≤40:=yua LI.many (yua (ysb _ _) c40);refine⟨t,_,rfl,SqT.of et,rfl,_,_,rfl,_,_,rfl,rfl,?_⟩;have ell5:=S5 _ _ ell;have LY5:All2 (LyT T.zbd T.zib H5) ws rs:=LY.imp λz=>z.same S5;refine⟨_,rfl,_,rfl,sa,ll,sc,ws,rs,rfl,hS4.same S5,h63,ell5,LY5,by omega,λpl pw rt H6 S6 npl epl AL pm=>?_⟩;refine⟨_,rfl,_,rfl,rfl,ll,ws,rfl,SqL.of (S6 _ _ ell5),λvl hvl=>?_⟩;refine laid hvl λH7 S7 e7=>?_;refine⟨sz2,λdl hdl=>?_⟩;refine laid hdl λH8 S8 e8=>?_;have S78:=S7.trans S8;have S58:=S6.trans S78;have som:∀u∈[V.ref pl,V.ref vl],zgcc T.zbd T.zib H8 rs u:=by
  intro u hu;simp only[yla,ydc,or_false] at hu
  rcases hu with rfl|rfl
  ·exact⟨pl,pw,rt,rfl,S78 _ _ epl,AL.imp λz=>z.same S58,pm⟩
  ·obtain⟨ts,h1,h2⟩:=LY5.perm (List.reverse_perm ws);exact⟨vl,_,ts,rfl,S8 _ _ e7,h1.imp λz=>z.same S58,h2⟩
 refine⟨dl,rfl,⟨_,SqL.of e8⟩,?_⟩;refine zqo (xs:=[V.ref pl,V.ref vl]) (λj σ H'=>Ex2 λ(o6 o7:Option V)=>σ=[some (.ref sa),some (.ref nl),some (.ref rl),some (.ref ll),some (.ref sl),some (.ref ol),o6,o7]∧Same H8 H') ⟨_,_,rfl,Same.refl _⟩ (λj σ H' _ z=>by obtain⟨_,_,_,S⟩:=z;exact SqL.of (S _ _ e8)) ?_ ?_
 ·rintro j u σ H9 hu ⟨o6,o7,rfl,S9⟩;obtain⟨p,pws,rt,rfl,ep,LP,pm⟩:=som u (yra hu);have S59:=S58.trans S9;have ndt:(rt.map (·.num)).Nodup:=(pm.map _).nodup_iff.mpr rnd;have lt:=pm.length_eq;refine⟨_,rfl,p,pws,rt,rfl,S9 _ _ ep,LP.imp λz=>z.same S9,(λr hr=>rok r (pm.mem_iff.mp hr)),(λr hr=>qok r (pm.mem_iff.mp hr)),by omega,ndt,(λc hc=>(hasA c ((pm.flatMap_right chs).mem_iff.mp hc)).perm pm),λt2 sl2 ol2 wv2 ov2 z8 c2 HA SA _ _ _ et2 esl2 eol2 p82 r82 pc2 so2 R2 OD2 LI2=>?_⟩;obtain rfl:z8=s8:=zsv r82 r8 (p82.trans pm) p8;obtain rfl:c2=cs:=ztv so2 so (pc2.trans (pm.flatMap_right chs)) pc;have eq:=(zue.perm pm rnd).ztwb c2 (z8.map rowF) 5;rw[yqs] at eq;have e1:(layC rt c2 (z8.map rowF) 5).1=(layC rs c2 (z8.map rowF) 5).1:=by rw[eq]
  have e2:(layC rt c2 (z8.map rowF) 5).2=(layC rs c2 (z8.map rowF) 5).2:=by
   rw[eq];exact yqs _
  rw[e1] at R2;rw[e2] at OD2;refine⟨_,rfl,_,rfl,sz2,λt3 ht3=>?_⟩;refine laid ht3 λHB SB e3=>?_;have S5B:=S59.trans (SA.trans SB);refine⟨_,_,zchb (SB _ _ et2) (SB _ _ esl2) (SB _ _ eol2) (R2.map λ_ _ z=>z.same SB) (OD2.imp λz=>z.same SB) LI.am,zchb e3 (S5B _ _ esl) (S5B _ _ eol) (R5.map λ_ _ z=>z.same S5B) (OD5.imp λz=>z.same S5B) LI.am,shp,shp,_,rfl,?_⟩;rw[SeqAt.eqv_refl _ (yvg shp)];exact iteF ⟨_,_,rfl,S9.trans (SA.trans SB)⟩
 ·rintro σ H9 ⟨o6,o7,rfl,S9⟩;have S59:=S58.trans S9;refine⟨_,rfl,sa,sc,48,rfl,hS4.same (S5.trans S59),h63,by decide,λz2=>?_⟩;refine⟨_,_,rfl,rfl,(by show (0:Int)≤9∧(9:Int)≤1000000∧(10:Int).natAbs<2 ^ 64;decide),_,_,rfl,rfl,(by show (0:Int)<10 ^ (9:Int).toNat;decide),_,_,rfl,rfl,?_⟩;have m9:=zvc z2 (m:=10 ^ (9:Int).toNat) (by decide);have t9:(10:Int) ^ (9:Int).toNat=1000000000:=by decide
  have b0:0<1+z2 % 10 ^ (9:Int).toNat:=by omega
  have b9:1+z2 % 10 ^ (9:Int).toNat<10000000000:=by omega
  dsimp only;generalize 1+z2 % 10 ^ (9:Int).toNat=b at b0 b9 ⊢;refine⟨_,rfl,_,rfl,ll,ws,rs,b,rfl,S59 _ _ ell5,LY5.imp λz=>z.same S59,by omega,b0,b9,λlp lw HA SA nlp elp LL=>?_⟩;have ndt:((rs.map (upR b)).map (·.num)).Nodup:=by
   rw[yrd];exact rnd
  refine⟨lp,lw,rs.map (upR b),rfl,elp,LL,(λr hr=>?_),(λr hr=>?_),(by rw[yea];omega),ndt,(λc hc=>?_),λt2 sl2 ol2 wv2 ov2 z8 c2 HB SB _ _ _ et2 esl2 eol2 p82 r82 pc2 so2 R2 OD2 LI2=>?_⟩
  ·obtain⟨r0,h0,rfl⟩:=yjb.mp hr;exact (rok r0 h0).up
  ·obtain⟨r0,h0,rfl⟩:=yjb.mp hr;exact qok r0 h0
  ·rw[zjub] at hc;obtain⟨c0,h0,rfl⟩:=yjb.mp hc;exact (hasA c0 h0).up
  ·have ez:z8=s8.map (upR b):=zsv r82 (yrh.mpr r8) p82 (p8.map _);have ec:c2=cs.map (mvC b):=ztv so2 (yrh.mpr (so.imp_of_mem λ{c d} hc hd lt=>zyzb b0 (has c hc).four (has d hd).four lt)) pc2 (by rw[zjub];exact pc.map _);have er:z8.map rowF=s8.map rowF:=by
    rw[ez,yrd];rfl
   have eq:=(zue.later (rs:=rs) b0).ztwb cs (s8.map rowF) 5;rw[er,ec,eq] at R2 OD2;have am2:∀x∈(layC rs cs (s8.map rowF) 5).2.map (mvO (mvC b)),(∀p∈x.2,AmOk p.2)∧x.2.length≤16:=λx hx=>by
    obtain⟨y,hy,rfl⟩:=yjb.mp hx;exact LI.am y hy
   have S5B:=S59.trans (SA.trans SB);refine⟨_,rfl,_,rfl,_,rfl,ol,ov,_,b,_,rfl,S5B _ _ eol,OD5.imp λz=>z.same S5B,o40,b0,b9,λmp mw HC SC nmp emp OM=>⟨sz2,λt5 ht5=>?_⟩⟩;refine laid ht5 λHD SD e5=>?_;have SBD:=SC.trans SD;have S5D:=S5B.trans SBD;have shp2:=zuv nm am2;refine⟨_,_,zchb (SBD _ _ et2) (SBD _ _ esl2) (SBD _ _ eol2) (R2.map λ_ _ z=>z.same SBD) (OD2.imp λz=>z.same SBD) am2,zchb e5 (S5D _ _ esl) (SD _ _ emp) (R5.map λ_ _ z=>z.same S5D) (OM.imp λz=>z.same SD) am2,shp2,shp2,?_⟩;rw[SeqAt.eqv_refl _ (yvg shp2)];exact q _
end
def mkT {K:yca}{h:Heap}{mg:Str->Option Value}(X:K.In h)(G:h.Ns yfb mg){C_Words:Addr}{C_Whom:Addr}{C_Card:Addr}{t_LETTERS:Tok}{t_FIGURES:Tok}{t_MOST_WORDS:Tok}{A_PARTS:Addr}{A_LAYERS:Addr}{t_MANY_LAYERS:Tok}{t_MOST_RULES:Tok}{A_SORTS:Addr}{A_CHANGES:Addr}{A_WHEN_KINDS:Addr}{A_DEED_KINDS:Addr}{A_PLAYER_KINDS:Addr}{A_TURNS:Addr}(tf:Tf K mg)
  (zgtb:yob K yfb "Words" = some (some (.ref C_Words)))
  (znrb:yif K C_Words yhs=true)
  (zpsb:yxf K C_Words=true)
  (zkrb:ynh K C_Words=true)
  (zarb:ymb K (.ref C_Words) "__setattr__" = some (some (.builtin "object.__setattr__")))
  (y_Words___init__:If K C_Words "__init__" "Words.__init__" zlh)
  (y_Words_take:Mf K C_Words "take" "Words.take" zil)
  (y_Words_take_one_of:Mf K C_Words "take_one_of" "Words.take_one_of" zif)
  (y_Words_take_name:Mf K C_Words "take_name" "Words.take_name" zlg)
  (y_Words_take_number:Mf K C_Words "take_number" "Words.take_number" zjf)
  (y_Words_finish:Mf K C_Words "finish" "Words.finish" zlj)
  (znd:ymb K (.ref C_Words) "words" = some none)
  (zad:ymb K (.ref C_Words) "place" = some none)
  (zvxb:yob K yfb "Whom" = some (some (.ref C_Whom)))
  (zfwb:yif K C_Whom yhs=true)
  (zwwb:yxf K C_Whom=true)
  (zcwb:ynh K C_Whom=true)
  (zpvb:ymb K (.ref C_Whom) "__setattr__" = some (some (.builtin "object.__setattr__")))
  (y_Whom___init__:If K C_Whom "__init__" "Whom.__init__" zii)
  (y_Whom_fits_row:Mf K C_Whom "fits_row" "Whom.fits_row" zgi)
  (y_Whom_fits_parts:Mf K C_Whom "fits_parts" "Whom.fits_parts" zmg)
  (zya:ymb K (.ref C_Whom) "word" = some none)
  (ztf:ymb K (.ref C_Whom) "value" = some none)
  (zqc:ymb K (.ref C_Whom) "parts" = some none)
  (q1_Whom:ymb K (.ref C_Whom) "__class__" = some (some (.builtin "object.__class__")))
  (q2_Whom:yfj K (.builtin "object.__class__") "__get__" = some (some (.builtin "getset_descriptor.__get__")))
  (q3_Whom:ysn K (.builtin "object.__class__")=some true)
  (q4_Whom:yxp K C_Whom (.type "object")=some true)
  (q5_Whom:yoc K (.ref C_Whom) (.type "str")=some false)
  (q6_Whom:yoc K (.ref C_Whom) (.type "int")=some false)
  (q7_Whom:yoc K (.ref C_Whom) (.type "tuple")=some false)
  (q8_Whom:yoc K (.ref C_Whom) (.type "list")=some false)
  (q9_Whom:yoc K (.type "str") (.ref C_Whom)=some false)
  (q10_Whom:yoc K (.type "int") (.ref C_Whom)=some false)
  (zwxb:yob K yfb "Card" = some (some (.ref C_Card)))
  (zgwb:yif K C_Card yhs=true)
  (zxwb:yxf K C_Card=true)
  (zdwb:ynh K C_Card=true)
  (zqvb:ymb K (.ref C_Card) "__setattr__" = some (some (.builtin "object.__setattr__")))
  (y_Card___init__:If K C_Card "__init__" "Card.__init__" zji)
  (zik:ymb K (.ref C_Card) "name" = some none)
  (zjk:ymb K (.ref C_Card) "cost" = some none)
  (zzg:ymb K (.ref C_Card) "force" = some none)
  (zcj:ymb K (.ref C_Card) "marks" = some none)
  (zuf:ymb K (.ref C_Card) "rules" = some none)
  (zdib:yob K yfb "all" = some none)
  (zpgb:yob K yfb "dict" = some none)
  (zbk:yob K yfb "enumerate" = some none)
  (znkb:yob K yfb "int" = some none)
  (zpf:yob K yfb "isinstance" = some none)
  (zzk:yob K yfb "len" = some none)
  (zogb:yob K yfb "list" = some none)
  (zcqb:yob K yfb "max" = some none)
  (zcib:yob K yfb "min" = some none)
  (zih:yob K yfb "range" = some none)
  (zbm:yob K yfb "reversed" = some none)
  (zmkb:yob K yfb "set" = some none)
  (zsg:yob K yfb "sorted" = some none)
  (zsz:yob K yfb "str" = some none)
  (zgh:yob K yfb "tuple" = some none)
  (zno:yob K yfb "LETTERS" = some (some (.str zcu t_LETTERS)))
  (zoo:yob K yfb "FIGURES" = some (some (.str zdu t_FIGURES)))
  (zij:yob K yfb "MOST_WORDS" = some (some (.int 9 t_MOST_WORDS)))
  (zrp:yob K yfb "PARTS" = some (some (.ref A_PARTS)))
  (zly:yvm (yhg λb=>K.lookup b) (λb=>K.lookup b) A_PARTS zsu=true)
  (zqr:yob K yfb "LAYERS" = some (some (.ref A_LAYERS)))
  (zpr:yvm (yhg λb=>K.lookup b) (λb=>K.lookup b) A_LAYERS zwo=true)
  (zzh:yob K yfb "MANY_LAYERS" = some (some (.int 5 t_MANY_LAYERS)))
  (zjj:yob K yfb "MOST_RULES" = some (some (.int 3 t_MOST_RULES)))
  (zoy:yob K yfb "SORTS" = some (some (.ref A_SORTS)))
  (zky:TupK K A_SORTS ["hold","when","instead","may"])
  (zpo:yob K yfb "CHANGES" = some (some (.ref A_CHANGES)))
  (zlo:TupK K A_CHANGES ["mute","steal","gain","lack","be","more","less","per"])
  (zgj:yob K yfb "WHEN_KINDS" = some (some (.ref A_WHEN_KINDS)))
  (zej:TupK K A_WHEN_KINDS ["come","leave","hurt","gain","lack","lose","score","draw"])
  (zbh:yob K yfb "DEED_KINDS" = some (some (.ref A_DEED_KINDS)))
  (zah:TupK K A_DEED_KINDS ["leave","hurt","gain","lack","lose","score","draw"])
  (zug:yob K yfb "PLAYER_KINDS" = some (some (.ref A_PLAYER_KINDS)))
  (ztg:TupK K A_PLAYER_KINDS ["lose","score","draw"])
  (zny:yob K yfb "TURNS" = some (some (.ref A_TURNS)))
  (zjy:TabK K A_TURNS zngb):Tx K mg :=
 { tf with znb:=C_Words,zueb:=yrc X G zgtb,zcb:=⟨znrb,zpsb,zkrb,zarb⟩,zfc:=y_Words___init__,zkc:=y_Words_take,zma:=y_Words_take_one_of,zob:=y_Words_take_name,zxa:=y_Words_take_number,zpc:=y_Words_finish,znd:=znd,zad:=zad,zib:=C_Whom,zxtb:=yrc X G zvxb,zmb:=⟨zfwb,zwwb,zcwb,zpvb⟩,ztc:=y_Whom___init__,zza:=y_Whom_fits_row,zwb:=y_Whom_fits_parts,zya:=zya,ztf:=ztf,zqc:=zqc,zqac:=⟨q1_Whom,q2_Whom,q3_Whom,q4_Whom,q5_Whom,q6_Whom,q7_Whom,q8_Whom,q9_Whom,q10_Whom⟩,zbd:=C_Card,zytb:=yrc X G zwxb,znk:=⟨zgwb,zxwb,zdwb,zqvb⟩,zuc:=y_Card___init__,zik:=zik,zjk:=zjk,zzg:=zzg,zcj:=zcj,zuf:=zuf,zdib:=yzb X G zdib,zpgb:=yzb X G zpgb,zbk:=yzb X G zbk,znkb:=yzb X G znkb,zpf:=yzb X G zpf,zzk:=yzb X G zzk,zogb:=yzb X G zogb,zcqb:=yzb X G zcqb,zcib:=yzb X G zcib,zih:=yzb X G zih,zbm:=yzb X G zbm,zmkb:=yzb X G zmkb,zsg:=yzb X G zsg,zsz:=yzb X G zsz,zgh:=yzb X G zgh,zybb:=t_LETTERS,zno:=yrc X G zno,zzbb:=t_FIGURES,zoo:=yrc X G zoo,zwq:=t_MOST_WORDS,zij:=yrc X G zij,zzm:=A_PARTS,zrp:=yrc X G zrp,zly:=zly,zuo:=A_LAYERS,zqr:=yrc X G zqr,zpr:=zpr,zmo:=t_MANY_LAYERS,zzh:=yrc X G zzh,zxq:=t_MOST_RULES,zjj:=yrc X G zjj,zjz:=A_SORTS,zoy:=yrc X G zoy,zky:=zky,zvo:=A_CHANGES,zpo:=yrc X G zpo,zlo:=zlo,zkj:=A_WHEN_KINDS,zgj:=yrc X G zgj,zej:=zej,zeh:=A_DEED_KINDS,zbh:=yrc X G zbh,zah:=zah,zvg:=A_PLAYER_KINDS,zug:=yrc X G zug,ztg:=ztg,ziz:=A_TURNS,zny:=yrc X G zny,zjy:=zjy }
theorem all_mk {l:ywn}{w:World}{K:yca}{mg:Str->Option Value}{fa:Addr}(hfa:mg "law" = some (.ref fa))(T:Tx K mg) :
  ∃fd:yef,(∀(s:Shared) (v:Value),yrq s fd ⟨[v],[]⟩ [("_law_script",v)])∧∀base:Heap,K.In base->base.Ns yfb mg->FnOk l.prog w K mg base CX0 28 fa fd ["_law_script"] (ztqb K):=by
 cases zeac T.zokb hfa;refine⟨_,(λs v=>?_),λbase kb _=>zpzb T kb⟩;obtain⟨oc,od,kV,doc,pm,an,cdv,ct,osl,e,lk,hcd⟩:=T.zokb.F.ex;rw[e];exact .of_eq rfl
theorem walk {l:ywn}{q:yqb}{loose:List Str}{XP:(Str->Option Value)->Heap->Prop}{YP:World->Heap->Prop}{d:DefRec}{K:Params->yca}(hn:l.most=some 63)(hdf:d.params.defaults=[])
  (hY:∀(w:World) (h:Heap),YP w h->(K w.params).In h)
  (F:∀(w:World) (mg:Str->Option Value) fa (h:Heap),(K w.params).In h->h.Ns yfb mg->mg d.name=some (.ref fa) →
   ∃fd:yef,(∀(s:Shared) (u:Value),yrq s fd ⟨[u],[]⟩ [("_law_script",u)])∧∀base:Heap,(K w.params).In base->base.Ns yfb mg->FnOk l.prog w (K w.params) mg base CX0 28 fa fd ["_law_script"] (ztqb (K w.params))) :
  yts q loose XP YP l.row.toRowW d [] (λf vs=>yrs f vs) :=
 L2.zoub (n:=63) (k:=28) (x:="_law_script") (CX:=λ_=>CX0) (sp:=λw=>ztqb (K w.params)) hn (by decide) hdf ⟨rfl,by decide,by decide⟩ hY F (λ_ _ a ns hl hO hS=>⟨a,ns,rfl,SqF.of hO hS,hl,λ_=>rfl⟩) λ_ _ _ _ _ z=>z
end K15
namespace PySem.W.Fast
def tw12300742887133017467:=()
def tw5750937671963816063:=()
def tw1516612172430656367:=()
def tw7914318066886237658:=()
def tw6786324656402629593:=()
def tw6359552319959771918:=()
def tw11270573733338034835:=()
def tw13719124052179133539:=()
def tw17386214205897306667:=()
def tw5984146249910508716:=()
def tw14352403456364873471:=()
def tw1647163765019131748:=()
def tw9117966733145500356:=()
def tw12982373504438059282:=()
def tw17664046021550273788:=()
def tw218981738125373670:=()
def tw474601961065158663:=()
def tw12351566148735592155:=()
def tw1514897227001678353:=()
def tw7152834821934451390:=()
def tw6279146170198590962:=()
def tw2875527361231204452:=()
def tw7726770076838905011:=()
def tw559470636109533930:=()
def tw1437394432416405029:=()
def tw12540232539747590093:=()
def tw16983177588720802245:=()
def tw13735102151659053790:=()
def tw7479552406637504642:=()
def tw1768644220077551652:=()
def tw5986920714601236325:=()
def tw17762833287735031676:=()
def tw6745427581118327661:=()
def tw13515257868911793119:=()
def tw13248989743246871027:=()
def tw11597082230338939449:=()
def tw12900400650393635269:=()
def tw4475531429681461737:=()
def tw13298311722205475629:=()
def tw2078023095877724158:=()
def tw11217159908954836551:=()
def tw372069964762812104:=()
def tw14471672379586608118:=()
def tw2068281542944174740:=()
def tw18120086494514088411:=()
def tw1402498507795350451:=()
def tw6594428844216935026:=()
def tw14360375125745850590:=()
def tw1489054255562111297:=()
def tw2293784569854640348:=()
def tw8720687691708415978:=()
def tw13589707623512321639:=()
def tw4257101859528468674:=()
def tw3749911506633039013:=()
def tw10245874502890994974:=()
def tw6194871417979707589:=()
def tw12982743573390251252:=()
def tw11730024740052260713:=()
def tw14733688216805991436:=()
def tw6593181555925307300:=()
def tw15312715748204880512:=()
def tw16818342556015231882:=()
def tw10539106421833825117:=()
def tw2588623062406624:=()
def tw15726698320611837716:=()
def tw8487745795749840145:=()
def tw2151315485019617602:=()
def tw16467904116944348275:=()
def tw17962295138079540148:=()
def tw7302166528880731314:=()
def tw9882409273753571001:=()
def tw8139949701166009167:=()
def tw10211858264374123869:=()
def tw4107683560437904083:=()
def tw17447298055884833775:=()
def tw10497134580960677101:=()
def tw3786948166834656196:=()
def tw16489568223869496040:=()
def tw5773449658972645524:=()
def tw11491283299667949928:=()
def tw7467531809037208636:=()
def tw15320384074994849639:=()
def tw14865653584763171681:=()
def tw8846500195478351083:=()
def tw978309518596581656:=()
def tw7953756879486595236:=()
def tw15110046419009709535:=()
def tw6424922860943142030:=()
def tw104285145742251864:=()
def tw12984088644719361742:=()
def tw12138816221631116958:=()
def tw2798765352637596277:=()
def tw10980871179517397917:=()
def tw15717889875928222968:=()
def tw18183640013904080624:=()
def tw12904466310522522398:=()
def tw1041712224079400672:=()
def tw358787030655792234:=()
def tw783719060290597474:=()
def tw1304473322007835234:=()
def tw4021127196739043519:=()
def tw7358080765746741043:=()
def tw14000492674096009343:=()
def tw3723647090121073939:=()
def tw12049141809248615466:=()
def tw8925766804353514596:=()
def tw6751078126618728553:=()
def tw15308255227386411443:=()
def tw6314813040856188726:=()
def tw8572297242495961991:=()
def tw12193552866526536938:=()
def tw16551492198861434153:=()
def tw6819568344262681237:=()
def tw8196644503910585775:=()
def tw7257014651388764527:=()
def tw7742865257190603902:=()
def tw6781303024650702263:=()
def tw18380675299064476778:=()
def tw4729634403631517373:=()
def tw3653898972115266487:=()
def tw203261103953044818:=()
def tw11231393401120810174:=()
def tw3819636951696802816:=()
def tw13381016584498828345:=()
def tw11134512027320677340:=()
def tw801821021403330363:=()
def tw5112814544310260845:=()
def tw1721060164639014346:=()
def tw5045097579176661162:=()
def tw805881117442124404:=()
def tw5854562271803728651:=()
def tw9444740434341182503:=()
def tw5908915557579380970:=()
def tw16902075970148523101:=()
def tw9160237047766336105:=()
def tw9555123230723577369:=()
def tw3829594653513671130:=()
def tw16577230202222997404:=()
def tw3406149517430743946:=()
def tw2945916597227130008:=()
def tw9783977744533026324:=()
def tw6195785548128828037:=()
def tw12314343866913842898:=()
def tw1250462111559112355:=()
def tw1407008133830891613:=()
def tw7536202590999851485:=()
def tw6797049587236349049:=()
def tw5179283552094497263:=()
def tw9529026165864791299:=()
def tw10068158504424373511:=()
def tw1650612720139554712:=()
def tw6617527646576588352:=()
def tw4523783704281925141:=()
def tw869872537704289822:=()
def tw16107388193528451290:=()
def tw910375236425280484:=()
def tw13736696850208559299:=()
def tw11867502195283936101:=()
def tw15530610572828264016:=()
def tw1933557620398278008:=()
def tw6936904893446183566:=()
def tw10519540221066412411:=()
def tw7060364341888399543:=()
def tw13650815659656993105:=()
def tw9829771979461501833:=()
def tw12014151949481117797:=()
def tw14340832757701263195:=()
def tw16067817147816832937:=()
def tw9085496430096962054:=()
def tw15834216431680384372:=()
def tw3727631329162977386:=()
def tw3457731413396971556:=()
def tw16937898673697471521:=()
def tw14287398775589693048:=()
def tw15212248879689002362:=()
def tw13368212174194903392:=()
def tw18141813530181867919:=()
def tw17985689632855448758:=()
def tw11404319465536487822:=()
def tw15564342973069304574:=()
def tw3577347919757861869:=()
def tw4117486141560528852:=()
def tw12904295742495420243:=()
def tw9083515532266749110:=()
def tw5897511278136498868:=()
def tw2967840615953802084:=()
def tw7478870529014846817:=()
def tw1346929997313143821:=()
def tw15528325472391047052:=()
def tw10745571689358291090:=()
def tw5113385057965201106:=()
def tw4200332655765206608:=()
def tw2571142756738468474:=()
def tw10167996270188724759:=()
def tw1188719115662835492:=()
def tw1192391280039596090:=()
def tw1752531957452551731:=()
def tw9807371626271127182:=()
def tw13406731813555943528:=()
def tw1951733363635004980:=()
def tw208032733681958248:=()
def tw12935690599375850835:=()
def tw10537147055521899848:=()
def tw1103019988612280119:=()
def tw2738759643728631444:=()
def tw3448664608459150808:=()
def tw5826676239817154992:=()
def tw11699016377366864317:=()
def tw16321068267948422987:=()
def tw1463429813096698861:=()
def tw17171071973589924666:=()
def tw6288889807521534463:=()
def tw1419905617206902717:=()
def tw7528052983809541820:=()
def tw2367923245739812226:=()
def tw14878401028955317614:=()
def tw2452702095325449159:=()
def tw6879347441012841067:=()
def tw2146054643852251525:=()
def tw17970513623099015385:=()
def tw2090703177307741226:=()
def tw13969832089635046677:=()
def tw11302596108071695042:=()
def tw12139373377324508601:=()
def tw12572220917874807820:=()
def tw12626699670286955965:=()
def tw17304459829714656471:=()
def tw1847944573338473034:=()
def tw17030000279757505531:=()
def tw4273013805871737969:=()
def tw6934242061128279123:=()
def tw15714069298041918881:=()
def tw11063700322546620960:=()
def tw5224126724272160135:=()
def tw17952695140116034985:=()
def tw7602997271801730622:=()
def tw8899896771744897008:=()
def tw7181662057589669359:=()
def tw13039274059904934251:=()
def tw13628519949348734508:=()
def tw15995748737535977666:=()
def tw5645505421528968010:=()
def tw5177548440020613706:=()
def tw17033989711741278081:=()
def tw14191848649148219881:=()
def tw9094648919159860201:=()
def tw1298471038481620234:=()
def tw15286318326883088043:=()
def tw17382413869310858482:=()
def tw17806830042703207194:=()
def tw2536400173688500450:=()
def tw18414000793436170282:=()
def tw717537273164501540:=()
def tw938954830138497797:=()
def tw18232062260524311002:=()
def tw3599563603635758051:=()
def tw4256238979024385411:=()
def tw14904624942965837903:=()
def tw11153456891116561051:=()
def tw17131373716055682516:=()
def tw4576573294575980760:=()
def tw7185045370918695983:=()
def tw8307888122980600091:=()
def tw5590092302025509272:=()
def tw7843116941719399579:=()
def tw17209758312581705589:=()
def tw15771567199742821007:=()
def tw392048799610019292:=()
def tw4079063862787343864:=()
def tw2074528080108551645:=()
def tw15391457635398997362:=()
def tw13308385175601838346:=()
def tw17080793880650396178:=()
def tw16338185946873134364:=()
def tw10913936719252604773:=()
def tw2836212566837364265:=()
def tw6435709382320313169:=()
def tw14420858132445336620:=()
def tw3948880160070186504:=()
def tw5312011728582427177:=()
def tw17612820724392053628:=()
def tw10801898146048524419:=()
def tw4576933643954860761:=()
def tw13858907829248949889:=()
def tw6779245842916416514:=()
def tw1610471400378706375:=()
def tw5723524311641433030:=()
def tw14816506205002073055:=()
def tw7721848396812908964:=()
def tw18154530418109763309:=()
def tw3526182645754020387:=()
def tw11094597839491787141:=()
def tw10975670566250513905:=()
def tw8902690766329868778:=()
def tw10659444806203056707:=()
def tw2268540668526380748:=()
def tw8276806660375793214:=()
def tw7075271346328011224:=()
def tw2850121726130578324:=()
def tw10467314426813655368:=()
def tw915033185101677126:=()
def tw5345523665263135207:=()
def tw11926152604461451826:=()
def tw6145548530123267125:=()
end PySem.W.Fast
open PySem PySem.W PyProof.Rows
set_option maxRecDepth 100000 in
set_option maxHeartbeats 0 in
theorem PySem.Challenge.cw_turnstack_k15_whole_any_order_holds : PySem.Challenge.rw_turnstack_k15_whole_any_order.Holds := by
  w_on; o_law; k_head; (case hw => w_witness2)
  k_fill
  refine K15.walk (l := PySem.Challenge.rw_turnstack_k15_whole_any_order) rfl rfl (fun w h Y => PySem.W.kIn_of Y) ?F
  case F =>
    intro w mg fa h KX G hmg
    refine' K15.all_mk hmg (K15.mkT KX G ⟨L2.gf_of KX G ?qda ?qea ?qfa ?qga, L2.gf_of KX G ?qha ?qia ?qja ?qka, L2.gf_of KX G ?qla ?qma ?qna ?qoa, L2.gf_of KX G ?qic ?qjc ?qkc ?qlc, L2.gf_of KX G ?qmc ?qnc ?qoc ?qpc, L2.gf_of KX G ?qqc ?qrc ?qsc ?qtc, L2.gf_of KX G ?quc ?qvc ?qwc ?qxc, L2.gf_of KX G ?qyc ?qzc ?qad ?qbd, L2.gf_of KX G ?qcd ?qdd ?qed ?qfd, L2.gf_of KX G ?qgd ?qhd ?qid ?qjd, L2.gf_of KX G ?qkd ?qld ?qmd ?qnd, L2.gf_of KX G ?qod ?qpd ?qqd ?qrd, L2.gf_of KX G ?qsd ?qtd ?qud ?qvd, L2.gf_of KX G ?qwd ?qxd ?qyd ?qzd, L2.gf_of KX G ?qae ?qbe ?qce ?qde, L2.gf_of KX G ?qee ?qfe ?qge ?qhe, L2.gf_of KX G ?qie ?qje ?qke ?qle, L2.gf_of KX G ?qme ?qne ?qoe ?qpe, L2.gf_of KX G ?qqe ?qre ?qse ?qte, L2.gf_of KX G ?que ?qve ?qwe ?qxe, L2.gf_of KX G ?qye ?qze ?qaf ?qbf, L2.gf_of KX G ?qcf ?qdf ?qef ?qff, L2.gf_of KX G ?qlf ?qmf ?qnf ?qof, L2.gf_of KX G ?qpf ?qqf ?qrf ?qsf, L2.gf_of KX G ?qtf ?quf ?qvf ?qwf, L2.gf_of KX G ?qxf ?qyf ?qzf ?qag, L2.gf_of KX G ?qbg ?qcg ?qdg ?qeg, L2.gf_of KX G ?qfg ?qgg ?qhg ?qig, L2.gf_of KX G ?qjg ?qkg ?qlg ?qmg, L2.gf_of KX G ?qng ?qog ?qpg ?qqg, L2.gf_of KX G ?qrg ?qsg ?qtg ?qug, L2.gf_of KX G ?qvg ?qwg ?qxg ?qyg, L2.gf_of KX G ?qzg ?qah ?qbh ?qch, L2.gf_of KX G ?qdh ?qeh ?qfh ?qgh, L2.gf_of KX G ?qhh ?qih ?qjh ?qkh, L2.gf_of KX G ?qlh ?qmh ?qnh ?qoh, L2.gf_of KX G ?qph ?qqh ?qrh ?qsh, L2.gf_of KX G ?qth ?quh ?qvh ?qwh, L2.gf_of KX G ?qxh ?qyh ?qzh ?qai, L2.gf_of KX G ?qbi ?qci ?qdi ?qei, L2.gf_of KX G ?qfi ?qgi ?qhi ?qii, L2.gf_of KX G ?qji ?qki ?qli ?qmi, L2.gf_of KX G ?qni ?qoi ?qpi ?qqi, L2.gf_of KX G ?qri ?qsi ?qti ?qui, L2.gf_of KX G ?qvi ?qwi ?qxi ?qyi, L2.gf_of KX G ?qzi ?qaj ?qbj ?qcj, L2.gf_of KX G ?qdj ?qej ?qfj ?qgj⟩ ?qaa ?qhj ?qij ?qjj ?qkj (L2.if_of ?qpa ?qqa ?qra ?qsa ?qta ?qlj ?qmj) (L2.mf_of ?qua ?qva ?qwa ?qxa ?qya) (L2.mf_of ?qza ?qab ?qbb ?qcb ?qdb) (L2.mf_of ?qeb ?qfb ?qgb ?qhb ?qib) (L2.mf_of ?qjb ?qkb ?qlb ?qmb ?qnb) (L2.mf_of ?qob ?qpb ?qqb ?qrb ?qsb) ?qnj ?qoj ?qba ?qpj ?qqj ?qrj ?qsj (L2.if_of ?qtb ?qub ?qvb ?qwb ?qxb ?qtj ?quj) (L2.mf_of ?qyb ?qzb ?qac ?qbc ?qcc) (L2.mf_of ?qdc ?qec ?qfc ?qgc ?qhc) ?qvj ?qwj ?qxj ?qyj ?qzj ?qak ?qbk ?qck ?qdk ?qek ?qfk ?qgk ?qhk ?qca ?qik ?qjk ?qkk ?qlk (L2.if_of ?qgf ?qhf ?qif ?qjf ?qkf ?qmk ?qnk) ?qok ?qpk ?qqk ?qrk ?qsk ?qtk ?quk ?qvk ?qwk ?qxk ?qyk ?qzk ?qal ?qbl ?qcl ?qdl ?qel ?qfl ?qgl ?qhl ?qil ?qjl ?qkl ?qll ?qml ?qnl ?qol ?qpl ?qql ?qrl ?qsl ?qtl ?qul ?qvl ?qwl ?qxl ?qyl ?qzl ?qam ?qbm ?qcm)
    case qaa | qba | qca | qda | qea | qfa | qga | qha | qia | qja | qka | qla | qma | qna | qoa | qpa | qqa | qra | qsa | qta | qua | qva | qwa | qxa | qya | qza | qab | qbb | qcb | qdb | qeb | qfb | qgb | qhb | qib | qjb | qkb | qlb | qmb | qnb | qob | qpb | qqb | qrb | qsb | qtb | qub | qvb | qwb | qxb | qyb | qzb | qac | qbc | qcc | qdc | qec | qfc | qgc | qhc | qic | qjc | qkc | qlc | qmc | qnc | qoc | qpc | qqc | qrc | qsc | qtc | quc | qvc | qwc | qxc | qyc | qzc | qad | qbd | qcd | qdd | qed | qfd | qgd | qhd | qid | qjd | qkd | qld | qmd | qnd | qod | qpd | qqd | qrd | qsd | qtd | qud | qvd | qwd | qxd | qyd | qzd | qae | qbe | qce | qde | qee | qfe | qge | qhe | qie | qje | qke | qle | qme | qne | qoe | qpe | qqe | qre | qse | qte | que | qve | qwe | qxe | qye | qze | qaf | qbf | qcf | qdf | qef | qff | qgf | qhf | qif | qjf | qkf | qlf | qmf | qnf | qof | qpf | qqf | qrf | qsf | qtf | quf | qvf | qwf | qxf | qyf | qzf | qag | qbg | qcg | qdg | qeg | qfg | qgg | qhg | qig | qjg | qkg | qlg | qmg | qng | qog | qpg | qqg | qrg | qsg | qtg | qug | qvg | qwg | qxg | qyg | qzg | qah | qbh | qch | qdh | qeh | qfh | qgh | qhh | qih | qjh | qkh | qlh | qmh | qnh | qoh | qph | qqh | qrh | qsh | qth | quh | qvh | qwh | qxh | qyh | qzh | qai | qbi | qci | qdi | qei | qfi | qgi | qhi | qii | qji | qki | qli | qmi | qni | qoi | qpi | qqi | qri | qsi | qti | qui | qvi | qwi | qxi | qyi | qzi | qaj | qbj | qcj | qdj | qej | qfj | qgj | qhj | qij | qjj | qkj | qlj | qmj | qnj | qoj | qpj | qqj | qrj | qsj | qtj | quj | qvj | qwj | qxj => k_is
    case qyj | qzj | qak | qbk | qck | qdk | qek | qfk | qgk | qhk => first | k_is | kit_is | kernel_rfl
    case qik | qjk | qkk | qlk | qmk | qnk | qok | qpk | qqk | qrk | qsk | qtk | quk | qvk | qwk | qxk | qyk | qzk | qal | qbl | qcl | qdl | qel | qfl | qgl | qhl | qil | qjl | qkl | qll => k_is
    case qml => first | kernel_rfl | (unfold L2.TupK; kernel_rfl)
    case qnl => k_is
    case qol => first | kernel_rfl | (unfold L2.TupK; kernel_rfl)
    case qpl | qql | qrl => k_is
    case qsl => first | kernel_rfl | (unfold L2.TupK; kernel_rfl)
    case qtl => k_is
    case qul => first | kernel_rfl | (unfold L2.TupK; kernel_rfl)
    case qvl => k_is
    case qwl => first | kernel_rfl | (unfold L2.TupK; kernel_rfl)
    case qxl => k_is
    case qyl => first | kernel_rfl | (unfold L2.TupK; kernel_rfl)
    case qzl => k_is
    case qam => first | kernel_rfl | (unfold L2.TupK; kernel_rfl)
    case qbm => k_is
    case qcm => first | kernel_rfl | (unfold L2.TupK; kernel_rfl)
