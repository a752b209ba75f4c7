import PyProof.Rows.All
import Wide.All
import OpenK.AllK
import Wide.FinOn
import Lean
import PyProof.EqAt
import PyProof.EqKinds
import PyProof.TupleCall
import PyProof.StrLawsTight
import PyProof.StrLawsChain
import KE.KSortTup
import PyProof.EnumIter
import PyProof.EnumMake
import PyProof.EnumFor
import KE.KDictOf
import PyProof.AttrMissHeap
import PyProof.Walks
import PyProof.WalksMore
import PyProof.P3In
import PyProof.DictIter
import PyProof.SumWalkG
import PyProof.Rows.SumAny
import PyProof.FactsAll.subtypes_4
import PyProof.ListOps
import PyProof.ListRange
import PyProof.FactsAll.tuple
import PyProof.ListMulRoad
import PyProof.FactsAll.set_2
import PyProof.StrLawsIn
import PyProof.ZipIter
import PySem.Challenge.RW_turnstack_k37_whole_plain_fights
set_option Elab.async false
set_option linter.all false
set_option maxRecDepth 100000
set_option compiler.extract_closed false
inductive Ex2 {A1 A2 : Type} (p : A1 → A2 → Prop) : Prop
  | mk (a1 : A1) (a2 : A2) (h : p a1 a2) : Ex2 p
inductive Ex3 {A1 A2 A3 : Type} (p : A1 → A2 → A3 → Prop) : Prop
  | mk (a1 : A1) (a2 : A2) (a3 : A3) (h : p a1 a2 a3) : Ex3 p
inductive Ex4 {A1 A2 A3 A4 : Type} (p : A1 → A2 → A3 → A4 → Prop) : Prop
  | mk (a1 : A1) (a2 : A2) (a3 : A3) (a4 : A4) (h : p a1 a2 a3 a4) : Ex4 p
inductive Ex5 {A1 A2 A3 A4 A5 : Type} (p : A1 → A2 → A3 → A4 → A5 → Prop) : Prop
  | mk (a1 : A1) (a2 : A2) (a3 : A3) (a4 : A4) (a5 : A5) (h : p a1 a2 a3 a4 a5) : Ex5 p
inductive Ex6 {A1 A2 A3 A4 A5 A6 : Type} (p : A1 → A2 → A3 → A4 → A5 → A6 → Prop) : Prop
  | mk (a1 : A1) (a2 : A2) (a3 : A3) (a4 : A4) (a5 : A5) (a6 : A6) (h : p a1 a2 a3 a4 a5 a6) : Ex6 p
inductive Ex7 {A1 A2 A3 A4 A5 A6 A7 : Type} (p : A1 → A2 → A3 → A4 → A5 → A6 → A7 → Prop) : Prop
  | mk (a1 : A1) (a2 : A2) (a3 : A3) (a4 : A4) (a5 : A5) (a6 : A6) (a7 : A7) (h : p a1 a2 a3 a4 a5 a6 a7) : Ex7 p
inductive Ex8 {A1 A2 A3 A4 A5 A6 A7 A8 : Type} (p : A1 → A2 → A3 → A4 → A5 → A6 → A7 → A8 → Prop) : Prop
  | mk (a1 : A1) (a2 : A2) (a3 : A3) (a4 : A4) (a5 : A5) (a6 : A6) (a7 : A7) (a8 : A8) (h : p a1 a2 a3 a4 a5 a6 a7 a8) : Ex8 p
inductive Ex9 {A1 A2 A3 A4 A5 A6 A7 A8 A9 : Type} (p : A1 → A2 → A3 → A4 → A5 → A6 → A7 → A8 → A9 → Prop) : Prop
  | mk (a1 : A1) (a2 : A2) (a3 : A3) (a4 : A4) (a5 : A5) (a6 : A6) (a7 : A7) (a8 : A8) (a9 : A9) (h : p a1 a2 a3 a4 a5 a6 a7 a8 a9) : Ex9 p
inductive Ex10 {A1 A2 A3 A4 A5 A6 A7 A8 A9 A10 : Type} (p : A1 → A2 → A3 → A4 → A5 → A6 → A7 → A8 → A9 → A10 → Prop) : Prop
  | mk (a1 : A1) (a2 : A2) (a3 : A3) (a4 : A4) (a5 : A5) (a6 : A6) (a7 : A7) (a8 : A8) (a9 : A9) (a10 : A10) (h : p a1 a2 a3 a4 a5 a6 a7 a8 a9 a10) : Ex10 p
inductive Ex11 {A1 A2 A3 A4 A5 A6 A7 A8 A9 A10 A11 : Type} (p : A1 → A2 → A3 → A4 → A5 → A6 → A7 → A8 → A9 → A10 → A11 → Prop) : Prop
  | mk (a1 : A1) (a2 : A2) (a3 : A3) (a4 : A4) (a5 : A5) (a6 : A6) (a7 : A7) (a8 : A8) (a9 : A9) (a10 : A10) (a11 : A11) (h : p a1 a2 a3 a4 a5 a6 a7 a8 a9 a10 a11) : Ex11 p
inductive Ex12 {A1 A2 A3 A4 A5 A6 A7 A8 A9 A10 A11 A12 : Type} (p : A1 → A2 → A3 → A4 → A5 → A6 → A7 → A8 → A9 → A10 → A11 → A12 → Prop) : Prop
  | mk (a1 : A1) (a2 : A2) (a3 : A3) (a4 : A4) (a5 : A5) (a6 : A6) (a7 : A7) (a8 : A8) (a9 : A9) (a10 : A10) (a11 : A11) (a12 : A12) (h : p a1 a2 a3 a4 a5 a6 a7 a8 a9 a10 a11 a12) : Ex12 p
inductive Ex13 {A1 A2 A3 A4 A5 A6 A7 A8 A9 A10 A11 A12 A13 : Type} (p : A1 → A2 → A3 → A4 → A5 → A6 → A7 → A8 → A9 → A10 → A11 → A12 → A13 → Prop) : Prop
  | mk (a1 : A1) (a2 : A2) (a3 : A3) (a4 : A4) (a5 : A5) (a6 : A6) (a7 : A7) (a8 : A8) (a9 : A9) (a10 : A10) (a11 : A11) (a12 : A12) (a13 : A13) (h : p a1 a2 a3 a4 a5 a6 a7 a8 a9 a10 a11 a12 a13) : Ex13 p
inductive Ex14 {A1 A2 A3 A4 A5 A6 A7 A8 A9 A10 A11 A12 A13 A14 : Type} (p : A1 → A2 → A3 → A4 → A5 → A6 → A7 → A8 → A9 → A10 → A11 → A12 → A13 → A14 → Prop) : Prop
  | mk (a1 : A1) (a2 : A2) (a3 : A3) (a4 : A4) (a5 : A5) (a6 : A6) (a7 : A7) (a8 : A8) (a9 : A9) (a10 : A10) (a11 : A11) (a12 : A12) (a13 : A13) (a14 : A14) (h : p a1 a2 a3 a4 a5 a6 a7 a8 a9 a10 a11 a12 a13 a14) : Ex14 p
inductive Ex16 {A1 A2 A3 A4 A5 A6 A7 A8 A9 A10 A11 A12 A13 A14 A15 A16 : Type} (p : A1 → A2 → A3 → A4 → A5 → A6 → A7 → A8 → A9 → A10 → A11 → A12 → A13 → A14 → A15 → A16 → Prop) : Prop
  | mk (a1 : A1) (a2 : A2) (a3 : A3) (a4 : A4) (a5 : A5) (a6 : A6) (a7 : A7) (a8 : A8) (a9 : A9) (a10 : A10) (a11 : A11) (a12 : A12) (a13 : A13) (a14 : A14) (a15 : A15) (a16 : A16) (h : p a1 a2 a3 a4 a5 a6 a7 a8 a9 a10 a11 a12 a13 a14 a15 a16) : Ex16 p
set_option maxHeartbeats 0
noncomputable section
open PySem renaming wpAny_bind→yaa,wpAny_pure→yea,mainGlobals→yta,sizeLine→yva,boot_len→ysb,Program→yzb,wpAny_setField_rec→ycc,wpAny_call_entry→ync,wpAny_callSpecial?_slot→yuc,starEach→yxc,codeAny_builtin→yyc,wpAny_holding→yad,wpAny_newObj_type→ydd,wpAny_setState_of→yed,intKind→yid,wpAny_field→ynd,NameKind→yrd,strKind→yvd,wpAny_truthy_bool→yke,Builtin→yle,SetTable→yqe,compareOp→yaf,wpAny_mono→ykf,wpAny_askSetting→ynf,FuncData→yrf,plainId_quiet→ysf,wpAny_ite_split→ywf,wpAny_pyIter_tuple→yyf,scanBound→ymg,call_meets→ywg,wpAny_rule→yyg,codeAny_mono→yzg,wpAny_seqItems→yjh,wpAny_passesOwn→ymh,fits_of_scanBound→ysh,pickOrder→yuh,mem_of_lookup→yzh,wpAny_Call_Name_kw→yii,bootBuiltins→yki,setsByText→yvi,wpAny_runValue→ybj,wpAny_binaryOp_repeat_ref→ycj,binaryOp→ydj,relayAll→yfj,wpAny_typeOf→ykj,attributeBase→ymj,wpAny_attempt→yrj,wpAny_updateSeq→yuj,wpAny_newList→yvj,assignEach→yck,wpAny_pyIter_list→ydk,codeAny→yek,sliceBounds→ygk,wpAny_storeSet_of→yik,wpAny_newTuple→ypk,weight_type_call_type→yrk,noFill_tuple_add→yvk,wpAny_isInstance→ywk,setNext→yxk,codeAny_call_builtin→ybl,wpAny_updateSeq_pair→yel,typeIs_int→ykl,wpAny_execs_nil→ynl,letOwnedTupleGo→yol,ElemsOf→yrl,putSet_of→ysl,codeAny_of_tree→ytl,seqItems?→yul,wpAny_setEntries_of→yvl,wpAny_letOwnedTupleGo_enum→ykm,firstArgMember→ywm,wpAny_load→ydn,foldedSetIterable→yen,wpAny_sequenceKey→ygn,wpAny_comprehension_free→yhn,slot_dict_getitem→ykn,wpAny_pyIter_slot→ymn,wpAny_pyIter_enum→yon,behindInMarks→yxn,keywordEach→yyn,seq_tuple_add→yao,setField→ybo,unsupported→yco,wpAny_onRaise→ylo,check_set_init_1→yro,Within→yfp,holding→ygp,concat_meets→ynp,setAddHashed→yqp,hashByValue_scannable→yrp,builtinLookup_eq_fast→ytp,wpAny_ite_false→ycq,wpAny_call→ykq,typeIs_str→ylq,ZipApart→ynq,isSubtype_type→ypq,isSubtype_stop→yqq,BindsTo→yuq,getItem→yvq,wpAny_letGo→yyq,wpAny_standAt→yer,Keyword→ytr,callerA→yvr,relabel→ywr,isInstance→yyr,checkCount→yas,seqSlot_of→yxs,backToKw→yct,raiseNew→ydt,swapsWith→yet,getMethod→yft,notedBy→yht,newFields→ykt,collect→ylt,updateSeq→ymt,call→yst,Fin→yyt
open PySem.Heap renaming get?_push_of_some→yba,get?_push_size→yfa,lt_size→yoa,size_push→ylc,get?_update_other→ybd,get?_update_self→yhd,SameBut→yae,get?_push_ne→ypn,size_update→yws,ExtBut→yqt
open List renaming length_map→yca,getElem?_eq_some_iff→yha,getElem?_map→yia,mem_cons→yja,mem_singleton→yka,mem_cons_of_mem→yla,mem_cons_self→yma,replicate→yna,length_append→ypa,size_toArray→yqa,take_of_length_le→yra,getD_eq_getElem?_getD→yua,length_take→yza,getElem?_eq_getElem→ybb,mem_of_getElem?→ycb,take_add_one→ydb,map_append→ygb,Nodup→yhb,length_replicate→yib,map_cons→ytb,append_assoc→ywb,range→yxb,length_range→ybc,mem_map→yfc,getElem?_cons_succ→yjc,length_cons→ykc,append_nil→ypc,length_filter_le→yqc,getElem?_replicate→ytc,nodup_append→yfd,mem_append_right→ygd,mem_filter→yjd,mem_append→ykd,getElem?_append_right→ytd,filter_cons_of_pos→ywd,filter_cons_of_neg→yxd,take_length→yyd,map_replicate→yce,map_map→yee,map_set→yge,not_mem_nil→yie,flatten_cons→yme,sublist_append_right→yve,replicate_succ→ywe,length_singleton→ycf,length_set→yhf,getElem?_cons_zero→yif,filter_append→yjf,lookup→yof,map_congr_left→yqf,getElem?_zipWith→yxf,sublist_append_left→yzf,lookup_cons→ybg,cons_ne_nil→ycg,eq_nil_of_length_eq_zero→ydg,replicate_succ'→yeg,getElem?_range→yng,range_succ→yog,filter_eq_nil_iff→ysg,all_eq_true→yxg,perm_append_comm→ybh,mem_range→ych,getElem?_append_left→ydh,pairwise_iff_getElem→yih,mem_or_eq_of_mem_set→ykh,getElem?_take_of_lt→yoh,map_nil→yxh,map_eq_nil_iff→yei,getElem_map→yfi,nodup_cons→yli,getElem?_eq_none→ymi,take_append_drop→ypi,sublist_flatten_of_mem→ysi,mem_append_left→yyi,getElem?_of_mem→yzi,length_drop→yej,length_zipWith→yij,flatten_append→yjj,getElem?_drop→ynj,findIdx?_eq_some_iff_getElem→yoj,Perm→ysj,length_eq_zero_iff→ytj,sum_cons→ywj,getElem?_set_self→yyj,eraseIdxIfInBounds_toArray→yhk,foldl_append→ykk,filter_congr→ynk,cons_lt_cons_iff→ytk,getElem?_set_ne→yal,Pairwise→ygl,perm_nil→yil,filterMap_cons→yml,nil_append→ybm,filter_eq_self→yem,filter_sublist→yfm,length_eraseIdx_of_lt→yjm,pairwise_cons→yqm,findIdx?_eq_none_iff→yvm,take_sublist→yfn,length→yzn,lt_trans→yfo,range'→yko,map_take→ymo,map_drop→yno,getElem_mem→yqo,cons_append→ywo,perm_middle→yxo,pairwise_lt_range→ycp,zipWith_replicate→yep,of_mem_zip→ymp,forIn_cons→ypp,getElem?_toArray→yup,contains_iff_mem→yeq,filter_map→ygq,set_getElem_self→yjq,set→yoq,take_zero→ysq,flatMap_append→ybr,mem_filterMap→yfr,any_cons→yjr,foldl→yur,ext_getElem?→yzr,pairwise_map→yhs,getElem?_inj→yis,le_antisymm→yus,map_fst_zip→yvs,zipIdx_cons→yys,flatten_nil→yzs,mem_flatten→yat,not_lt→yot
open PySem.W renaming Frag→yda,nsIn→yxa,findIn→yjb,mg_of→ylb,mg_none_of→ydc,kitOne→yqd,kia_one→yse,emptyDict→ybf,keepIn→ygf,fnOf→ytf,plainGet→yag,hasDictIn→yhg,instObj→yjg,codeIn→yeh,plainOver→ynh,specialIn→yfk,isFn→yqk,plainGet_of→yql,callWith_K→ylm,lookIn→ysm,methodObj→ycn,cellsFrom_some→yzo,takerIn→yhp,makesIn→yip,takesIn→ykp,methodCall_KW→ylp,OpenLaw→yop,mroIn→yhr,kitx_list→yqr,kitx_dict→yrr,handedIn→yrs,WalkO→ytt
open Nat renaming le_refl→yga,zero_le→ywa,lt_of_lt_of_le→yab,ne_of_lt→yfb,le_trans→yob,lt_irrefl→yje,lt_succ_of_lt→yne,le_succ→ype,le_of_lt→yye,ne_of_gt→yze,lt_succ_self→ymf,add_le_add_right→ylh,lt_or_ge→yyh,add_sub_cancel_left→yxj,le_add_right→yyk,min_self→yom,mod_lt→yln,min_le_right→yoo,le_of_eq→yjp,eq_zero_or_pos→ynr,lt_trichotomy→yds,zero_add→yls,sub_zero→yms
open Array renaming length_toList→ysa,getElem?_eq_getElem→ykb,getElem?_toList→yac,toArray_toList→ylf,getD_eq_getD_getElem?→ylg,getElem?_eq_none→ypg,toList_append→yci,perm_iff_toList_perm→yxi,toList_push→yjk,toList_inj→yzk,toList_extract→ydl,size_append→yrn,getElem_mem→ycs
open PySem.F renaming plainAttrs_list→yya,called_set→ynb,slot_list_append→ypb,type_list_append→yqb,plainAttrs_str→yre,slot_list_extend→yef,type_list_extend→yff,slot_str_split→yqg,type_str_split→yrg,slot_tuple_iterator_next→ytg,plain_extend_loop→ygh,args_tuple_add_2→yph,entry_tuple_add→yai,plain_list_iadd→ybi,slot_tuple_add→ygi,slot_set_iter→yni,slot_enumerate_next→yqi,slot_int_rmul→yri,entry_type_call→yqj,typeCall_set_1→yzj,entry_set_init→yak,args_tuple_iterator_next_1→yhl,plain_proto_collect→yxl,entry_tuple_iterator_next→yzl,sub_tuple_frozenset→yam,slot_zip_next→ycm,args_str_split_2→ymm,args_tuple_mul_2→yrm,entry_str_split→yin,args_int_rmul_2→ysn,entry_tuple_mul→ytn,args_set_iter_1→ydo,args_enumerate_next_1→yho,slot_tuple_rmul→yio,slot_str_split→ypo,slot_int_index→yto,entry_int_rmul→yuo,slot_tuple_mul→yvo,entry_enumerate_next→ybp,slot_tuple_mul→ydp,plain_set_new→ysp,sub_tuple_set→yaq,fills_int_mul→ydq,slot_str_join→yhq,type_str_join→yiq
open Int renaming toNat_natCast→yeb,natCast_emod→yyo,toNat_of_nonneg→yar,natAbs_natCast→ypr
open Bool renaming false_ne_true→ymb,and_eq_true→yhe,false_and→ygg,false_eq_true→yah,true_and→ydi,eq_false_iff→ywi,or_false→yfl,and_true→yjl,eq_iff_iff→ypl,and_false→ytm,false_or→yjo,true_or→yfq,or_eq_true_iff→yzq
open PySem.PyData renaming canLayAll0→yrb,depthAll→yvb,canLay0→yec,eqv→ypd,depth→ybe,eqvAll→yoe
open Option renaming toList_some→yub,map_eq_some_iff→ygc,toList_none→ylr,getD_none→yss,getD_some→ybt
open PySem.PassesOwn renaming never→yyb
open PySem.SeqAt renaming shaped→yhc,EqAt→ypf,canLay_of_shaped→yhi,eqv_refl→yan,readOf→yps
open PySem.SetTable renaming below→yic,grown→ysd,insertAt→yqn,orStandIn→ykr,has→yqs,relaid→yjt,laid→yut,fits→yvt,slot→ywt
open PyProof.Rows renaming boot_tuple→ymc,callWith_type1→ymd,slot_tuple_getitem→yod,wpS_bind→yde,wpS_pure→yfg,IntsAre→ykg,boot_list→ywh,boot_sorted→yhj,wpS_forRange→ysk,entry_proto_collect'→ycl,entry_list_sort→yyl,pairsOf_size→ypm,StrsAre→yum,sortedS→yxm,slot_list_sort→yym,args_list_sort→yzm,listUpdate_at→ygo,entry_list_iadd'→yso,subscriptTail_builtinR→yap,plain_sorted→yvp,entry_sorted→ywp,args_sorted1→yxp,pendingOf→yyp,sortedAll→yzp,SortKind→ymq,pairsOf_toList→yrq,AllBare→ytq,kind_sorted→ywq,pairsOf→yxq,boot_int→yor,size_push'→ybs,mem_zip_self→yns,listItems_at→yos,wpS_get→ynt
open Option.some renaming inj→yoc
open PySem.Str renaming join→yrc,ofString→yuf,empty→ygr,length_append→ygs
open Ne renaming symm→ysc
open PyProof.Rows.F renaming plain_set_update_loop→yvc,entry_set_update_loop→yte
open PySem.Builtin.SmallTypes renaming nextOf→ywc,ownedTupleIsFree→yzc,ownedTupleHandOut→yue
open PySem.Around renaming under_plainId→ycd,under_plain→ynm,under→yjs
open PySem.Builtin.Str renaming occurrences→yud,partsBetween→yrh,strKind→ygj
open PySem.Obj renaming mapSeq→yzd,putSet→yth,data_mapFields→ymr
open PySem.Builtin.List renaming listExtendWith→yfe,listSameRef→yvh,listTooLong→ylj,listLengthHint→ywl
open PySem.Heap.SameBut renaming update→yxe,refl→yjn
open List.Perm renaming append_left→ydf,refl→yok,eq_of_pairwise→yun,append→yts
open PySem.Txt renaming split→yvf
open PySem.SetTable.below renaming go→yig
open PySem.Builtin.Tuple renaming tupleTooMany→yug,tupleExact→yqh,tupleItemsOf→yim
open False renaming elim→yvg
open PySem.Builtin.Slice renaming slicePlaces→yfh,sliceAdjust→yaj,sliceApplied→yhm
open PySem.Calls renaming call_function_entry→yhh,Name_function_global→ygm,spliced_cons→yir,spliced_nil→ysr
open PySem.Builtin.Frozenset renaming updateFrom→yji,sizeOf→ynn,slot0→yeo
open PyProof.Rows.KTD renaming datLooks→yoi,tabLook→ylk,Dat→yxr,TextTab→yit
open PySem.Value renaming isStrOf→yti,isInt→ybk,isStrOf_shape→yll,isInt_shape→ybn
open PySem.Shared renaming TypeIs→yui,heap→yrt
open PySem.Code renaming quiet_builtin→ypj,isFrame→yks
open PySem.MeetsSeq renaming plain_remove_loop→ymk
open List.Nodup renaming length_le_of_subset→yuk
open List.cons renaming injEq→ydm
open List.Pairwise renaming imp→yvn,sublist→ybq
open PySem.Builtin.Range renaming rangeSize→ywn
open PySem.SeqAt.EqAt renaming int_str→ycr,str_int→ydr
open PySem.SetTable.probe renaming go→yfs
open PyProof.Rows.IsTup renaming new→ygt
open Array.Perm renaming refl→ypt
open PySem.pickOrder renaming go→yxt
namespace L2
open PySem PySem.Spec PyProof.Rows
abbrev Key:=Sum Int Str
def zcfc:Key->Value->Bool
 | .inl k,v=>ybk k v
 | .inr x,v=>yti x v
def keyH (w:World):Key->Int
 | .inl k=>hashInt k
 | .inr x=>hashStr w x
theorem zre:∀{k:Key} {v:Value},zcfc k v=true->(Ex2 λi t=>k=Sum.inl i∧v=Value.int i t)∨(Ex2 λx t=>k=Sum.inr x∧v=Value.str x t)
 | .inl i,v,h=>by
  obtain⟨t,e⟩:=ybn (k:=i) (v:=v) h;exact .inl ⟨i,t,rfl,e⟩
 | .inr x,v,h=>by
  obtain⟨t,e⟩:=yll (x:=x) (v:=v) h;exact .inr ⟨x,t,rfl,e⟩
theorem zbfc (a b:Int):decide ((Sum.inl a:Key)=Sum.inl b)=(a==b):=by
 by_cases e:a=b
 ·subst e;simp
 ·have h:¬ (Sum.inl a:Key)=Sum.inl b:=λq=>e (Sum.inl.inj q);rw[decide_eq_false h];exact (beq_eq_false_iff_ne.mpr e).symm
theorem zyec (a b:Str):decide ((Sum.inr a:Key)=Sum.inr b)=decide (a=b):=by
 by_cases e:a=b
 ·subst e;simp
 ·have h:¬ (Sum.inr a:Key)=Sum.inr b:=λq=>e (Sum.inr.inj q);rw[decide_eq_false h,decide_eq_false e]
theorem zafc (a:Int)(b:Str):decide ((Sum.inl a:Key)=Sum.inr b)=false:=decide_eq_false (λq=>nomatch q)
theorem zzec (a:Str)(b:Int):decide ((Sum.inr a:Key)=Sum.inl b)=false:=decide_eq_false (λq=>nomatch q)
def zyhb (prog:yzb)(w:World):PySem.KeyKind prog w Key where
 is:=zcfc
 hash:=keyH w
 inj:=λv a b ha hb=>by
  rcases zre ha with⟨i,t,rfl,rfl⟩|⟨x,t,rfl,rfl⟩
  ·rcases zre hb with⟨j,u,rfl,e⟩|⟨y,u,rfl,e⟩
   ·injection e with e1 _;rw[e1]
   ·exact nomatch e
  ·rcases zre hb with⟨j,u,rfl,e⟩|⟨y,u,rfl,e⟩
   ·exact nomatch e
   ·injection e with e1 _;rw[e1]
 byValue:=λk v h=>by
  rcases zre h with⟨i,t,rfl,rfl⟩|⟨x,t,rfl,rfl⟩<;>rfl
 pyHash:=λhv h=>by
  rcases zre hv with⟨i,t,rfl,rfl⟩|⟨x,t,rfl,rfl⟩
  ·exact wpAny_pyHash_int h
  ·exact wpAny_pyHash_str h
 eqBool:=λhu hv h=>by
  rcases zre hu with⟨i,t,rfl,rfl⟩|⟨x,t,rfl,rfl⟩
  ·rcases zre hv with⟨j,u,rfl,rfl⟩|⟨y,u,rfl,rfl⟩
   ·rw[zbfc] at h;exact wpAny_eqBool_int h
   ·rw[zafc] at h;exact ycr i t y u _ _ _ _ h
  ·rcases zre hv with⟨j,u,rfl,rfl⟩|⟨y,u,rfl,rfl⟩
   ·rw[zzec] at h;exact ydr x t j u _ _ _ _ h
   ·rw[zyec] at h;exact wpAny_eqBool_str h
 «strs»:=λk x t v h=>by
  rcases zre h with⟨i,u,rfl,e⟩|⟨y,u,rfl,e⟩
  ·exact nomatch e
  ·injection e with e1 _
   subst e1;cases v<;>rfl
end L2
namespace L2
open PySem PySem.Spec PyProof.Rows
inductive V where
 | non|bl (b:Bool)|int (i:Int)|str (x:Str)|byt (b:Array UInt8)|flt (b:UInt64)|ref (a:Addr)|ty (n:String)
 deriving DecidableEq
def RelV:V->Value->Prop
 | .non,u=>u=Value.none
 | .bl b,u=>u=Value.bool b
 | .int i,u=>∃t,u=Value.int i t
 | .str x,u=>∃t,u=Value.str x t
 | .byt b,u=>∃t,u=Value.bytes b t
 | .flt b,u=>∃t,u=Value.float b t
 | .ref a,u=>u=Value.ref a
 | .ty n,u=>u=Value.type n
abbrev Vals:List V->List Value->Prop:=Paired RelV
theorem Vals.length {xs:List V}{us:List Value}(r:Vals xs us):xs.length=us.length:=Paired.length r
theorem Vals.get:∀{xs:List V} {us:List Value} {i:Nat} {x:V},Vals xs us->xs[i]?=some x->∃u,us[i]?=some u∧RelV x u
 | _,_,_,_,.nil,e=>by simp at e
 | _,_,0,_,.cons r _,e=>by simp at e;subst e;exact⟨_,rfl,r⟩
 | _,_,i+1,x,.cons _ t,e=>by
  obtain⟨u,h1,h2⟩:=Vals.get (i:=i) (x:=x) t (by simpa using e);exact⟨u,by simpa using h1,h2⟩
theorem Vals.set {x:V}{u:Value}(r:RelV x u):∀{xs:List V} {us:List Value} (i:Nat),Vals xs us->Vals (xs.set i x) (us.set i u)
 | _,_,_,.nil=>.nil
 | _,_,0,.cons _ t=>.cons r t
 | _,_,i+1,.cons q t=>.cons q (Vals.set r i t)
theorem Vals.append:∀{xs ys:List V} {us ws:List Value},Vals xs us->Vals ys ws->Vals (xs++ys) (us++ws)
 | _,_,_,_,.nil,s=>s
 | _,_,_,_,.cons r t,s=>.cons r (Vals.append t s)
theorem Vals.take:∀{xs:List V} {us:List Value} (n:Nat),Vals xs us->Vals (xs.take n) (us.take n)
 | _,_,0,_=>.nil
 | _,_,_+1,.nil=>.nil
 | _,_,n+1,.cons r t=>.cons r (Vals.take n t)
theorem Vals.drop:∀{xs:List V} {us:List Value} (n:Nat),Vals xs us->Vals (xs.drop n) (us.drop n)
 | _,_,0,r=>r
 | _,_,_+1,.nil=>.nil
 | _,_,n+1,.cons _ t=>Vals.drop n t
def RelO:Option V->Option Value->Prop
 | some v,some u=>RelV v u
 | none,none=>True
 | _,_=>False
def KV {κ:Type}:List (κ×V)->List (κ×Value)->Prop:=Paired λ(p:κ×V) (q:κ×Value)=>p.1=q.1∧RelV p.2 q.2
def kV:Key->V
 | .inl i=>.int i
 | .inr x=>.str x
inductive HO where
 | lst (xs:List V)
 | tup (xs:List V)
 | dK (kvs:List (Key×V))|dT (kvs:List (List Key×V))
 | set (S:Int->Bool) (n:Nat)
 | ins (C dx:Addr) (fs:List (Str×V))
 | own (x:Addr)
 | xd (fs:List (Str×V))
 | met (f x:Addr)
 | rng (lo hi:Int)
 | frz (o:Obj) (u:HO)
 | tbl (ps:Array Value)
 | ext (φ:Heap->Prop)
abbrev Hp:=Addr->Option HO
def upd (H:Hp)(a:Addr)(o:HO):Hp:=λb=>if b=a then some o else H b
theorem zta {H:Hp}{a:Addr}{o:HO}:upd H a o a=some o:=by unfold upd;rw[if_pos rfl]
theorem zbb {H:Hp}{a b:Addr}{o:HO}(h:b≠a):upd H a o b=H b:=by unfold upd;rw[if_neg h]
theorem zbp {H:Hp}{a:Addr}{o u:HO}:upd (upd H a o) a u=upd H a u:=by
 funext b;unfold upd;split<;>rfl
theorem zlec {H:Hp}{a b:Addr}{o u:HO}(h:H a=some o)(h':H b=some u)(d:o≠u):a≠b:=by
 intro e;subst e;rw[h] at h';exact d (yoc h')
theorem zka {H:Hp}{a b:Addr}{o:HO}(h:H a=some o)(h':H b=none):a≠b:=by
 intro e;subst e;rw[h] at h';cases h'
section
variable (P:yzb)(w:World)
def zfl (H:Hp)(h:Heap)(a:Addr):HO->Prop
 | .lst xs=>xs.length≤yva∧Ex2 λ(its:List Value) (n:Nat)=>Vals xs its∧h.get? a=some { cls:=.type "list",data:=.seq its.toArray n }
 | .tup xs=>xs.length≤yva∧∃its:List Value,Vals xs its∧IsTup h a its.toArray
 | .dK kvs=>kvs.length≤yva∧(a==sysModules)=false∧∃vs,KV kvs vs∧h.DictOf (zyhb P w) a vs
 | .dT kvs=>kvs.length≤yva∧(a==sysModules)=false∧∃xs:List (List Key×Addr×Value),
   Paired (λ(p:List Key×V) (q:List Key×Addr×Value)=>p.1=q.1∧H q.2.1=some (.tup (p.1.map kV))∧RelV p.2 q.2.2) kvs xs ∧
   Ex3 λo es ep=>h.get? a=some o∧o.ExactDict∧o.data = .dict es ep∧es.toList=xs.map (entryOfKey (tupleKind (zyhb P w)))∧(xs.map (·.1)).Nodup
 | .set S n=>h.SetOf (intKind P w) a S n
 | .ins C dx fs=>H dx=some (.own a)∧fs.length≤1000∧dx≠a∧h.get? a=some (yjg C dx) ∧
   ∃mA,h.Ns1 dx mA∧(∀f,RelO (fs.lookup f) (mA f))∧yfp mA (fs.map (·.1))
 | .own _=>∃o,h.get? a=some o
 | .xd fs=>∃mA,h.Ns1 a mA∧∀f,RelO (fs.lookup f) (mA f)
 | .rng lo hi=>Ex3 λt u v=>h.get? a=some { cls:=.type "range",data:=.fields #[.int lo t,.int hi u,.int 1 v] }
 | .frz o u=>h.get? a=some o∧zfl H h a u
 | .tbl ps=>h.get? a=some { cls:=.none,data:=.fields ps }
 | .met f x=>h.get? a=some (ycn (.ref f) (.ref x))
 | .ext φ=>φ h∧(∃o,h.get? a=some o)∧∀h1 h2:Heap,φ h1->(∀o,h1.get? a=some o->h2.get? a=some o)->φ h2
def HOk (H:Hp)(h:Heap):Prop:=∀a o,H a=some o->zfl P w H h a o
end
section
variable {P:yzb}{w:World}{H H':Hp}{h h':Heap}{a:Addr}{o:HO}
theorem zfl.lt (x:zfl P w H h a o):a<h.objs.size:=by
 cases o with
 | lst xs=>obtain⟨_,_,_,_,e⟩:=x;exact yoa e
 | tup xs=>obtain⟨_,_,_,p⟩:=x;exact p.lt
 | dK kvs=>obtain⟨_,_,_,_,o,_,_,e,_⟩:=x;exact yoa e
 | dT kvs=>obtain⟨_,_,_,_,o,_,_,e,_⟩:=x;exact yoa e
 | set S n=>obtain⟨o,_,_,_,e,_⟩:=x;exact yoa e
 | ins C dx fs=>obtain⟨_,_,_,e,_⟩:=x;exact yoa e
 | own y=>obtain⟨_,e⟩:=x;exact yoa e
 | xd fs=>obtain⟨_,⟨_,_,_,e,_⟩,_⟩:=x;exact yoa e
 | rng lo hi=>obtain⟨_,_,_,e⟩:=x;exact yoa e
 | frz ob u=>obtain⟨e,_⟩:=x;exact yoa e
 | tbl ps=>exact yoa (show h.get? a=some _ from x)
 | met f y=>exact yoa (show h.get? a=some _ from x)
 | ext φ=>obtain⟨_,⟨_,e⟩,_⟩:=x;exact yoa e
theorem Paired.mapP {α β:Type}{F G:α->β->Prop}:∀{l₁:List α} {l₂:List β},Paired F l₁ l₂->(∀a b,F a b->G a b)->Paired G l₁ l₂
 | _,_,.nil,_=>.nil
 | _,_,.cons r t,f=>.cons (f _ _ r) (Paired.mapP t f)
theorem zfl.stay (x:zfl P w H h a o)(k:∀b u,(b=a∨H b=some (.own a))->h.get? b=some u->h'.get? b=some u)
  (ho:∀b,H b=some (.own a)->H' b=some (.own a)) (ht:∀b xs,H b=some (.tup xs)->H' b=some (.tup xs)):zfl P w H' h' a o:=by
 induction o with
 | lst xs=>obtain⟨z,its,n,r,e⟩:=x;exact⟨z,its,n,r,k _ _ (.inl rfl) e⟩
 | tup xs=>obtain⟨z,its,r,ob,e,c⟩:=x;exact⟨z,its,r,ob,k _ _ (.inl rfl) e,c⟩
 | dK kvs=>obtain⟨z,y,vs,r,ob,es,ep,e,c⟩:=x;exact⟨z,y,vs,r,ob,es,ep,k _ _ (.inl rfl) e,c⟩
 | dT kvs =>
  obtain⟨z,y,xs,r,ob,es,ep,e,c⟩:=x;exact⟨z,y,xs,Paired.mapP r λp q z=>⟨z.1,ht _ _ z.2.1,z.2.2⟩,ob,es,ep,k _ _ (.inl rfl) e,c⟩
 | set S n=>obtain⟨ob,es,ep,t,e,c⟩:=x;exact⟨ob,es,ep,t,k _ _ (.inl rfl) e,c⟩
 | ins C dx fs =>
  obtain⟨d,z,ne,e,mA,⟨od,es,ep,e2,c⟩,r⟩:=x;exact⟨ho _ d,z,ne,k _ _ (.inl rfl) e,mA,⟨od,es,ep,k _ _ (.inr d) e2,c⟩,r⟩
 | own y=>obtain⟨ob,e⟩:=x;exact⟨ob,k _ _ (.inl rfl) e⟩
 | xd fs=>obtain⟨mA,⟨od,es,ep,e,c⟩,r⟩:=x;exact⟨mA,⟨od,es,ep,k _ _ (.inl rfl) e,c⟩,r⟩
 | rng lo hi=>obtain⟨t,u,v,e⟩:=x;exact⟨t,u,v,k _ _ (.inl rfl) e⟩
 | frz ob u ih=>obtain⟨e,q⟩:=x;exact⟨k _ _ (.inl rfl) e,ih q⟩
 | tbl ps =>
  have e:h.get? a=some { cls:=.none,data:=.fields ps }:=x;show h'.get? a=some { cls:=.none,data:=.fields ps }
  exact k a _ (.inl rfl) e
 | met f y =>
  have e:h.get? a=some (ycn (.ref f) (.ref y)):=x;show h'.get? a=some (ycn (.ref f) (.ref y))
  exact k a _ (.inl rfl) e
 | ext φ=>obtain⟨p,⟨o,e⟩,st⟩:=x;exact⟨st _ _ p λo q=>k _ _ (.inl rfl) q,⟨o,k _ _ (.inl rfl) e⟩,st⟩
theorem HOk.lt (x:HOk P w H h)(e:H a=some o):a<h.objs.size:=(x a o e).lt
theorem HOk.fresh (x:HOk P w H h)(e:h.objs.size≤a):H a=none:=by
 cases q:H a with
 | none=>rfl
 | some u=>exact absurd (yab (x.lt q) e) (yje _)
theorem HOk.kept (x:HOk P w H h)(k:∀b u,h.get? b=some u->h'.get? b=some u):HOk P w H h':=λa o e =>
 (x a o e).stay (λb u _ q=>k b u q) (λ_ q=>q) λ_ _ q=>q
theorem HOk.laid (x:HOk P w H h)(k:∀b u,h.get? b=some u->h'.get? b=some u)(hp:h.objs.size≤a)(new:zfl P w (upd H a o) h' a o):HOk P w (upd H a o) h':=λb u e=>by
 have hn:=x.fresh hp
 by_cases hb:b=a
 ·subst hb;rw[zta] at e;cases e;exact new
 ·rw[zbb hb] at e;exact (x b u e).stay (λc v _ q=>k c v q) (λc q=>by rw[zbb (zka q hn)];exact q) λc xs q=>by rw[zbb (zka q hn)];exact q
end
def Rd (H:Hp)(a:Addr)(u:HO):Prop:=H a=some u∨∃o,H a=some (.frz o u)
theorem Rd.ok {P:yzb}{w:World}{H:Hp}{h:Heap}{a:Addr}{u:HO}(r:Rd H a u)(x:HOk P w H h):zfl P w H h a u:=by
 rcases r with r|⟨o,r⟩
 ·exact x a u r
 ·obtain⟨_,q⟩:=x a _ r;exact q
def Mut:Option HO->Prop
 | some (.lst _)=>True
 | some (.dK _)=>True
 | some (.dT _)=>True
 | some (.set _ _)=>True
 | some (.ins _ _ _)=>True
 | some (.ext _)=>True
 | _=>False
section
variable {P:yzb}{w:World}{H:Hp}{h h':Heap}{x e:Addr}{o':HO}
theorem HOk.write (ok:HOk P w H h)(mu:Mut (H x))(he:e=x∨H e=some (.own x))(k:∀b u,b≠e->h.get? b=some u->h'.get? b=some u)(heo:∃u,h'.get? e=some u)
  (new:zfl P w (upd H x o') h' x o'):HOk P w (upd H x o') h':=λb u q=>by
 have nown:∀c y,H c=some (.own y)->c≠x:=λc y r z=>by subst z;rw[r] at mu;exact mu
 have ntup:∀c xs,H c=some (.tup xs)->c≠x:=λc xs r z=>by subst z;rw[r] at mu;exact mu
 by_cases hb:b=x
 ·subst hb;rw[zta] at q;cases q;exact new
 ·rw[zbb hb] at q
  by_cases hbe:b=e
  ·have q':H b=some (.own x):=by
    rcases he with z|z
    ·exact absurd (hbe.trans z) hb
    ·rw[hbe];exact z
   rw[q] at q';cases q';obtain⟨v,hv⟩:=heo;exact⟨v,by rw[hbe];exact hv⟩
  ·refine (ok b u q).stay (λc v hc r=>k c v ?_ r) (λc r=>by rw[zbb (nown c b r)];exact r) λc xs r=>by rw[zbb (ntup c xs r)];exact r
   rcases hc with rfl|hc
   ·exact hbe
   ·rintro rfl
    rcases he with z|z
    ·exact nown c b hc z
    ·rw[hc] at z;cases z;exact hb rfl
end
structure Un (fs ex:List Addr)(H H':Hp)(h h':Heap):Prop where
 keep:∀b o,h.get? b=some o->H b=none->b∉fs->b∉ex->h'.get? b=some o
 slot:∀b o,h.get? b=some o->H b=none->b∈fs->b∉ex->∃sl,h'.get? b=some { o with slots:=sl }
 free:∀b o,h.get? b=some o->H b=none->b∉ex->H' b=none
 there:∀b o,h.get? b=some o->b∉ex->∃o',h'.get? b=some o'
 tups:∀b xs,H b=some (.tup xs)->H' b=some (.tup xs)
 frzs:∀b o u,H b=some (.frz o u)->H' b=some (.frz o u)
 tbls:∀b ps,H b=some (.tbl ps)->∃more,H' b=some (.tbl (ps++more))
section
variable {fs fs' ex ex':List Addr}{H H1 H2:Hp}{h h1 h2 h':Heap}{a x e:Addr}{o:HO}
theorem Un.any (u:Un fs ex H H1 h h1){b:Addr}{ob:Obj}(q:h.get? b=some ob)(n:H b=none)(hx:b∉ex):∃sl,h1.get? b=some { ob with slots:=sl }:=by
 by_cases hb:b∈fs
 ·exact u.slot b ob q n hb hx
 ·exact⟨ob.slots,u.keep b ob q n hb hx⟩
theorem Un.kept (k:∀b u,h.get? b=some u->h'.get? b=some u):Un fs ex H H h h' :=
 ⟨λb ob q _ _ _=>k b ob q,λb ob q _ _ _=>⟨ob.slots,k b ob q⟩,λ_ _ _ n _=>n,λb ob q _=>⟨ob,k b ob q⟩,λ_ _ q=>q,λ_ _ _ q=>q,λ_ ps q=>⟨#[],by rw[q];simp⟩⟩
theorem Un.refl:Un fs ex H H h h:=Un.kept λ_ _ q=>q
theorem Un.laid (k:∀b u,h.get? b=some u->h'.get? b=some u)(hp:h.objs.size≤a)(hn:H a=none):Un fs ex H (upd H a o) h h' where
 keep:=λb u q _ _ _=>k b u q
 slot:=λb u q _ _ _=>⟨u.slots,k b u q⟩
 free:=λb u q n _=>by rw[zbb (yfb (yab (yoa q) hp))];exact n
 there:=λb u q _=>⟨u,k b u q⟩
 tups:=λb xs q=>by rw[zbb (zka q hn)];exact q
 frzs:=λb u xs q=>by rw[zbb (zka q hn)];exact q
 tbls:=λb ps q=>⟨#[],by rw[zbb (zka q hn),q];simp⟩
theorem Un.write (mu:Mut (H x))(he:e=x∨H e=some (.own x))(k:∀b u,b≠e->h.get? b=some u->h'.get? b=some u)(heo:∃u,h'.get? e=some u):Un fs ex H (upd H x o) h h':=by
 have hx:∀b,H b=none->b≠x:=λb n z=>by subst z;rw[n] at mu;exact mu
 have hb:∀b,H b=none->b≠e:=λb n z=>by
  subst z
  rcases he with r|r
  ·exact hx b n r
  ·rw[n] at r;cases r
 have hm:∀b u,H b=some u->¬ Mut (some u)->b≠x:=λb u q nm z=>by subst z;rw[q] at mu;exact nm mu
 refine⟨λb u q n _ _=>k b u (hb b n) q,λb u q n _ _=>⟨u.slots,k b u (hb b n) q⟩,λb u q n _=>by rw[zbb (hx b n)];exact n,λb u q _=>?_,
  λb xs q=>by rw[zbb (hm b _ q λz=>z)];exact q,λb u xs q=>by rw[zbb (hm b _ q λz=>z)];exact q,λb ps q=>⟨#[],by rw[zbb (hm b _ q λz=>z),q];simp⟩⟩
 by_cases hbe:b=e
 ·subst hbe;exact heo
 ·exact⟨u,k b u hbe q⟩
end
def trk (h:Heap)(H:Hp):List Addr:=(yxb h.objs.size).filter λa=>(H a).isSome
def hidT (h:Heap)(H:Hp):Heap:=PySem.W.hideAll h (trk h H)
theorem zyrb (h:Heap)(H:Hp):(hidT h H).objs.size=h.objs.size:=PySem.W.hideAll_size _ _
theorem zjwb {h:Heap}{H:Hp}{b:Addr}{o:Obj}(e:h.get? b=some o)(n:H b=none):(hidT h H).get? b=some o :=
 PySem.W.hideAll_get _ e λhm=>by
  have q:(H b).isSome=true:=(yjd.mp hm).2;rw[n] at q;simp at q
theorem zkbc {h:Heap}{H:Hp}{b:Addr}{o:Obj}(e:(hidT h H).get? b=some o):h.get? b=some o∧H b=none:=by
 have e':h.get? b=some o:=PySem.W.of_hideAll (trk h H) e;refine⟨e',?_⟩;cases q:H b with
 | none=>rfl
 | some x =>
  have hm:b∈trk h H:=yjd.mpr ⟨ych.mpr (yoa e'),by simp[q]⟩;have z:(hidT h H).get? b=none:=PySem.W.hideAll_none (trk h H) hm;rw[z] at e;cases e
def zncc (g h:Heap)(L:Addr):List (Addr×Obj):=(yxb h.objs.size).filterMap λa=>if a=L∨(g.get? a).isSome=true then none else (h.get? a).map λo=>(a,o)
def rest (g h:Heap)(L d:Addr):List (Addr×Obj):=(zncc g h L).filter λp=>decide (p.1≠d)
end L2
namespace L2
open PySem PySem.Spec PyProof.Rows
structure Mod (K:yda)(mg:Str->Option Value)(base:Heap):Prop where
 kin:K.In base
 glob:base.Ns yta mg
 blt:∃mb,base.Ns builtinsNs mb∧∀x:Str,x ≠ "__name__"->mb x=yki x
 nolimit:base.NoLimit
structure Cx where
 prog:yzb
 w:World
 K:yda
 mg:Str->Option Value
 base:Heap
 A:Around
 N:List Str
 s₀:Shared
 H₀:Hp
 env:Env
 outer:List Env
 stack:List Env
 ex:List Addr
 fn:Str->Bool
 calm:Bool
 pn:List (Addr×Obj)
 xe:Value->Shared->Prop
def frs (l:List Env):List Addr:=l.filterMap (·.frame)
abbrev Cx.fs (X:Cx):List Addr:=frs X.outer
def Vis (sc:Scope)(x:Str):Prop:=sc.names.lookup x=some .local∨sc.names.lookup x=some .cell∨sc.names.lookup x=some .free
def Loc (sc:Scope)(x:Str):Prop:=sc.names.lookup x=some .local∨sc.names.lookup x=some .cell
def Look (env:Env)(h:Heap)(m:Str->Option Value)(x:Str)(u:Value):Prop :=
 (env.kindOf x=some .local∧m x=some u)∨((env.kindOf x=some .cell∨env.kindOf x=some .free)∧∃c,env.cells.lookup x=some c∧h.IsCell c (some u))
structure Cx.Ok (X:Cx):Prop where
 mod:Mod X.K X.mg X.base
 kind:X.env.scope.kind = .function
 glob:X.env.globals=yta
 blt:X.env.builtins=builtinsNs
 above:X.s₀.heap.objs.size≤X.env.locals
 inj:∀x y c,X.env.cells.lookup x=some c->X.env.cells.lookup y=some c->x=y
 has:∀x,(X.env.kindOf x=some .cell∨X.env.kindOf x=some .free)->∃c,X.env.cells.lookup x=some c
 cab:∀x c,X.fn x=true->X.env.cells.lookup x=some c->X.s₀.heap.objs.size≤c
 hd:X.calm=true->X.A.handled=none
 frames:X.A.frames=some X.stack
 stk:X.stack=X.outer∨(X.stack=X.env::X.outer∧X.env.frame=some X.env.locals)
 exf:∀b∈X.ex,b≠X.env.locals∧∀x c,X.env.cells.lookup x=some c->c≠b
 bs:∀b o,X.base.get? b=some o->X.s₀.heap.get? b=some o∧X.H₀ b=none
 bsz:X.base.objs.size≤X.s₀.heap.objs.size
 noex:∀b o,X.base.get? b=some o->b∉X.ex
 exfs:∀b∈X.ex,b∉X.fs
 funs:X.s₀.heap.FunFrames X.base X.outer
 frf:∀b∈X.fs,X.H₀ b=none
structure Inv (X:Cx)(pins:List (Addr×Obj))(σ:List (Option V))(H:Hp)(s:Shared):Prop where
 ok:X.Ok
 os:s.os=X.s₀.os
 bare:ytq s.gens
 base:Un X.fs X.ex X.H₀ H X.s₀.heap s.heap
 loc:∃m,s.heap.Ns X.env.locals m∧∀(i:Nat) (x:Str) (v:V),X.N[i]?=some x->σ[i]?=some (some v)->Vis X.env.scope x->∃u,RelV v u∧Look X.env s.heap m x u
 cell:∀x c,X.env.cells.lookup x=some c->∃v,s.heap.IsCell c v
 free:H X.env.locals=none
 freeC:∀x c,X.env.cells.lookup x=some c->H c=none
 pin:∀p∈X.pn++pins,s.heap.get? p.1=some p.2∧H p.1=none∧p.1≠X.env.locals∧p.1∉X.fs∧∀v,p.2.data ≠ .cell v
 hok:HOk X.prog X.w H s.heap
 len:σ.length=X.N.length
section
variable {X:Cx}{pins:List (Addr×Obj)}{σ:List (Option V)}{H H':Hp}{s:Shared}{h':Heap}
theorem Cx.Ok.nofr (ok:X.Ok){b:Addr}{o:Obj}(e:X.base.get? b=some o):b∉X.fs:=λhb=>by
 have:=(ok.funs.mem hb).1;rw[e] at this;cases this
theorem Inv.bs (I:Inv X pins σ H s):∀b o,X.base.get? b=some o->s.heap.get? b=some o∧H b=none:=λb o e =>
 ⟨I.base.keep b o (I.ok.bs b o e).1 (I.ok.bs b o e).2 (I.ok.nofr e) (I.ok.noex b o e),I.base.free b o (I.ok.bs b o e).1 (I.ok.bs b o e).2 (I.ok.noex b o e)⟩
theorem Inv.bk (I:Inv X pins σ H s):∀b o,X.base.get? b=some o->s.heap.get? b=some o:=λb o e=>(I.bs b o e).1
theorem Inv.mod (I:Inv X pins σ H s):Mod X.K X.mg X.base:=I.ok.mod
theorem Inv.kIn (I:Inv X pins σ H s):X.K.In s.heap:=I.ok.mod.kin.keeps I.bk
theorem Inv.fr (I:Inv X pins σ H s):∃m,Fr X.base X.env.locals s.heap m :=
 let ⟨m,hn,_⟩:=I.loc
 ⟨m,hn,I.bk,yob I.ok.bsz I.ok.above⟩
theorem Inv.lt (I:Inv X pins σ H s):X.env.locals<s.heap.objs.size:=let ⟨_,hn,_⟩:=I.loc;hn.lt
theorem Inv.sz (I:Inv X pins σ H s):X.s₀.heap.objs.size≤s.heap.objs.size:=yob I.ok.above (yye I.lt)
theorem Inv.nofs (I:Inv X pins σ H s){a:Addr}(h:s.heap.objs.size≤a):a∉X.fs:=λhb=>by
 obtain⟨_,o,ho,_⟩:=I.ok.funs.mem hb;exact absurd (yab (yoa ho) (yob I.sz h)) (yje _)
theorem Inv.cne (I:Inv X pins σ H s):∀x c,X.env.cells.lookup x=some c->c≠X.env.locals:=λx c e z=>by
 obtain⟨v,o,ho,hd⟩:=I.cell x c e;obtain⟨m,⟨o',es,ep,ho',hd',_⟩,_⟩:=I.loc;rw[z,ho'] at ho;cases ho;rw[hd'] at hd;cases hd
theorem Inv.funs (I:Inv X pins σ H s):s.heap.FunFrames X.base X.outer:=by
 have all:∀(l:List Env),(∀b∈frs l,b∈X.fs)->X.s₀.heap.FunFrames X.base l->s.heap.FunFrames X.base l:=by
  intro l
  induction l with
  | nil=>intro _ _;trivial
  | cons env r ih =>
   intro hs hl;obtain⟨hk,⟨L,o,hf,hn,ho,hd⟩,hr⟩:=hl;have hL:L∈X.fs:=hs L (by unfold frs;rw[yml,hf];exact yma);obtain⟨sl,e⟩:=I.base.slot L o ho (I.ok.frf L hL) hL λz=>I.ok.exfs L z hL;exact⟨hk,⟨L,_,hf,hn,e,hd⟩,ih (λb hb=>hs b (by unfold frs;rw[yml,hf];exact yla _ hb)) hr⟩
 exact all X.outer (λ_ hb=>hb) I.ok.funs
theorem Inv.stack (I:Inv X pins σ H s):s.heap.FunFrames X.base X.stack:=by
 rcases I.ok.stk with e|⟨e,hf⟩
 ·rw[e];exact I.funs
 ·rw[e];obtain⟨m,hn,_⟩:=I.loc;refine .cons (by rw[I.ok.kind];decide) hf hn ?_ I.funs;exact Heap.get?_none_of_le (yob I.ok.bsz I.ok.above)
theorem Inv.zfkb (I:Inv X pins σ H s):∀b∈frs X.stack,b∈X.env.locals::X.fs:=λb hb=>by
 rcases I.ok.stk with e|⟨e,hf⟩
 ·rw[e] at hb;exact yla _ hb
 ·rw[e] at hb;unfold frs at hb;rw[yml,hf] at hb;exact hb
theorem Inv.zbpb (I:Inv X pins σ H s):∀b∈frs X.stack,H b=none:=λb hb=>by
 rcases yja.mp (I.zfkb b hb) with e|hb
 ·rw[e];exact I.free
 ·obtain⟨_,o,ho,_⟩:=I.ok.funs.mem hb;exact I.base.free b o ho (I.ok.frf b hb) λz=>I.ok.exfs b z hb
theorem Inv.step {g':Array GenState}{t':Nat}{d':Drawn}{ch:List Addr}(I:Inv X pins σ H s)
  (hch:∀b∈ch,(b∈X.ex∨X.s₀.heap.objs.size≤b)∧b≠X.env.locals∧(∀x c,X.env.cells.lookup x=some c->c≠b)∧∀p∈X.pn++pins,p.1≠b)
  (keep:∀b o,b≠X.env.locals->b∉X.fs->b∉ch->s.heap.get? b=some o->H b=none->h'.get? b=some o)
  (slot:∀b o,b≠X.env.locals->b∈X.fs->b∉ch->s.heap.get? b=some o->H b=none->∃sl,h'.get? b=some { o with slots:=sl }) (free:∀b o,b∉ch->s.heap.get? b=some o->H b=none->H' b=none)
  (there:∀b o,b∉ch->s.heap.get? b=some o->∃o',h'.get? b=some o')
  (tups:∀b xs,H b=some (.tup xs)->H' b=some (.tup xs)) (frzs:∀b o u,H b=some (.frz o u)->H' b=some (.frz o u)) (tbls:∀b ps,H b=some (.tbl ps)->∃more,H' b=some (.tbl (ps++more)))
  (ns:∀m,s.heap.Ns X.env.locals m->h'.Ns X.env.locals m) (hok:HOk X.prog X.w H' h') (hg:ytq g') :
  Inv X pins σ H' { s with heap:=h',gens:=g',drawn:=d',toks:=t' }:=by
 have neL:∀b o,X.s₀.heap.get? b=some o->b≠X.env.locals:=λb o e=>yfb (yab (yoa e) I.ok.above);have neC:∀b o,X.s₀.heap.get? b=some o->b∉X.ex->b∉ch:=λb o e hx hb=>by
  rcases (hch b hb).1 with z|z
  ·exact hx z
  ·exact absurd (yab (yoa e) z) (yje _)
 have cellK:∀x c,X.env.cells.lookup x=some c->∀v,s.heap.IsCell c v->h'.IsCell c v:=λx c e v ⟨o,ho,hd⟩=>by
  have nch:c∉ch:=λz=>(hch c z).2.2.1 x c e rfl
  by_cases hc:c∈X.fs
  ·obtain⟨sl,q⟩:=slot c o (I.cne x c e) hc nch ho (I.freeC x c e);exact⟨_,q,hd⟩
  ·exact⟨o,keep c o (I.cne x c e) hc nch ho (I.freeC x c e),hd⟩
 refine⟨I.ok,I.os,hg,⟨λb o e n hb hx=>?_,λb o e n hb hx=>?_,λb o e n hx=>?_,λb o e hx=>?_,λb xs e=>tups b xs (I.base.tups b xs e),λb o xs e=>frzs b o xs (I.base.frzs b o xs e),λb ps e=>?_⟩,?_,λx c e=>?_,?_,λx c e=>?_,λp hp=>?_,hok,I.len⟩
 ·exact keep b o (neL b o e) hb (neC b o e hx) (I.base.keep b o e n hb hx) (I.base.free b o e n hx)
 ·obtain⟨sl,e1⟩:=I.base.slot b o e n hb hx;obtain⟨sl',e2⟩:=slot b _ (neL b o e) hb (neC b o e hx) e1 (I.base.free b o e n hx);exact⟨sl',e2⟩
 ·obtain⟨o',e1⟩:=I.base.there b o e hx;exact free b o' (neC b o e hx) e1 (I.base.free b o e n hx)
 ·obtain⟨o',e1⟩:=I.base.there b o e hx;exact there b o' (neC b o e hx) e1
 ·obtain⟨m1,e1⟩:=I.base.tbls b ps e;obtain⟨m2,e2⟩:=tbls b _ e1;exact⟨m1++m2,by rw[e2,Array.append_assoc]⟩
 ·obtain⟨m,hn,hl⟩:=I.loc;refine⟨m,ns m hn,λi x v e1 e2 e3=>?_⟩;obtain⟨u,r,l⟩:=hl i x v e1 e2 e3;refine⟨u,r,?_⟩
  rcases l with l|⟨k,c,e,z⟩
  ·exact .inl l
  ·exact .inr ⟨k,c,e,cellK x c e _ z⟩
 ·obtain⟨v,z⟩:=I.cell x c e;exact⟨v,cellK x c e v z⟩
 ·obtain⟨m,⟨o,_,_,ho,_⟩,_⟩:=I.loc;exact free _ o (λz=>(hch _ z).2.1 rfl) ho I.free
 ·obtain⟨v,o,ho,hd⟩:=I.cell x c e;exact free c o (λz=>(hch c z).2.2.1 x c e rfl) ho (I.freeC x c e)
 ·obtain⟨e,n,ne,nf,d⟩:=I.pin p hp;have nch:p.1∉ch:=λz=>(hch p.1 z).2.2.2 p hp rfl;exact⟨keep p.1 p.2 ne nf nch e n,free p.1 p.2 nch e n,ne,nf,d⟩
theorem Inv.un {t':Nat}(I:Inv X pins σ H s)(u:Un X.fs [] H H' s.heap h')(hok:HOk X.prog X.w H' h'):Inv X pins σ H' { s with heap:=h',toks:=t' }:=by
 obtain⟨m,⟨o,es,ep,ho,r⟩,_⟩:=id I.loc;obtain⟨sl,hL⟩:=u.any ho I.free (by simp);exact I.step (g':=s.gens) (d':=s.drawn) (ch:=[]) (λ_ z=>nomatch z) (λb o _ hb _ e n=>u.keep b o e n hb (by simp)) (λb o _ hb _ e n=>u.slot b o e n hb (by simp)) (λb o _ e n=>u.free b o e n (by simp)) (λb o _ e=>u.there b o e (by simp)) u.tups u.frzs u.tbls (λm' hm=>by
  obtain⟨o',es',ep',ho',r'⟩:=hm;rw[ho] at ho';cases ho';exact⟨_,es',ep',hL,r'⟩) hok I.bare
theorem Inv.call {g':Array GenState}{t':Nat}{d':Drawn}{ch:List Addr}(I:Inv X pins σ H s)(u:Un (frs X.stack) ch H H' s.heap h')(hok:HOk X.prog X.w H' h')(hg:ytq g')
  (hch:∀b∈ch,(b∈X.ex∨X.s₀.heap.objs.size≤b)∧b≠X.env.locals∧(∀x c,X.env.cells.lookup x=some c->c≠b)∧∀p∈X.pn++pins,p.1≠b) :
  Inv X pins σ H' { s with heap:=h',gens:=g',drawn:=d',toks:=t' }:=by
 obtain⟨m,⟨o,es,ep,ho,r⟩,_⟩:=id I.loc;obtain⟨sl,hL⟩:=u.any ho I.free λz=>(hch _ z).2.1 rfl;exact I.step (ch:=ch) hch (λb o hL hb hc e n=>u.keep b o e n (λz=>(yja.mp (I.zfkb b z)).elim hL hb) hc) (λb o _ _ hc e n=>u.any e n hc) (λb o hc e n=>u.free b o e n hc) (λb o hc e=>u.there b o e hc) u.tups u.frzs u.tbls (λm' hm=>by
  obtain⟨o',es',ep',ho',r'⟩:=hm;rw[ho] at ho';cases ho';exact⟨_,es',ep',hL,r'⟩) hok hg
theorem Inv.turned {t':Nat}{it:Addr}(I:Inv X pins σ H s)(k:∀b o,b≠it->s.heap.get? b=some o->h'.get? b=some o)(hn:H it=none)(hL:it≠X.env.locals)
  (h1:it∈X.ex∨X.s₀.heap.objs.size≤it) (h2:∀x c,X.env.cells.lookup x=some c->c≠it) (h3:∀p∈X.pn++pins,p.1≠it):Inv X pins σ H { s with heap:=h',toks:=t' }:=by
 have nit:∀b u,H b=some u->b≠it:=λb u e z=>by rw[z,hn] at e;cases e
 refine I.step (g':=s.gens) (d':=s.drawn) (ch:=[it]) (λb hb=>?_) (λb o _ _ hc e _=>k b o (λz=>hc (by simp[z])) e) (λb o _ _ hc e _=>⟨o.slots,k b o (λz=>hc (by simp[z])) e⟩) (λ_ _ _ _ n=>n)
  (λb o hc e=>⟨o,k b o (λz=>hc (by simp[z])) e⟩) (λ_ _ e=>e) (λ_ _ _ e=>e) (λb ps e=>⟨#[],by rw[e];simp⟩) (λm hm=>?_) (λb u e=>?_) I.bare
 ·have e:b=it:=by simpa using hb
  subst e;exact⟨h1,hL,h2,h3⟩
 ·obtain⟨o,es,ep,ho,r⟩:=hm;exact⟨o,es,ep,k _ o (ysc hL) ho,r⟩
 ·refine (I.hok b u e).stay (λc v hc q=>k c v ?_ q) (λ_ q=>q) λ_ _ q=>q
  rcases hc with z|z
  ·rw[z];exact nit b u e
  ·exact nit c _ z
theorem Inv.tok (I:Inv X pins σ H s)(t:Nat):Inv X pins σ H { s with toks:=t }:=I.un (h':=s.heap) (t':=t) Un.refl I.hok
theorem Inv.kept {t':Nat}(I:Inv X pins σ H s)(k:∀b u,s.heap.get? b=some u->h'.get? b=some u):Inv X pins σ H { s with heap:=h',toks:=t' }:=I.un (Un.kept k) (I.hok.kept k)
theorem Inv.laid {a:Addr}{o:HO}{t':Nat}(I:Inv X pins σ H s)(k:∀b u,s.heap.get? b=some u->h'.get? b=some u)(hp:s.heap.objs.size≤a)(new:zfl X.prog X.w (upd H a o) h' a o) :
  Inv X pins σ (upd H a o) { s with heap:=h',toks:=t' }:=I.un (Un.laid k hp (I.hok.fresh hp)) (I.hok.laid k hp new)
theorem Inv.write {x e:Addr}{o:HO}{t':Nat}(I:Inv X pins σ H s)(mu:Mut (H x))(he:e=x∨H e=some (.own x))(k:∀b u,b≠e->s.heap.get? b=some u->h'.get? b=some u)(heo:∃u,h'.get? e=some u)
  (new:zfl X.prog X.w (upd H x o) h' x o):Inv X pins σ (upd H x o) { s with heap:=h',toks:=t' }:=I.un (Un.write mu he k heo) (I.hok.write mu he k heo new)
theorem Inv.weak {σ':List (Option V)}(I:Inv X pins σ H s)(hl:σ'.length=σ.length)(w:∀(i:Nat) v,σ'[i]?=some (some v)->σ[i]?=some (some v)):Inv X pins σ' H s :=
 ⟨I.ok,I.os,I.bare,I.base,let ⟨m,hn,hl'⟩:=I.loc;⟨m,hn,λi x v e1 e2 e3=>hl' i x v e1 (w i v e2) e3⟩,I.cell,I.free,I.freeC,I.pin,I.hok,hl.trans I.len⟩
theorem Inv.zcw {pins':List (Addr×Obj)}(I:Inv X pins σ H s)(h:∀p∈pins',s.heap.get? p.1=some p.2∧H p.1=none∧p.1≠X.env.locals∧p.1∉X.fs∧∀v,p.2.data ≠ .cell v):Inv X pins' σ H s :=
 ⟨I.ok,I.os,I.bare,I.base,I.loc,I.cell,I.free,I.freeC,λp hp=>(ykd.mp hp).elim (λz=>I.pin p (yyi _ z)) (h p),I.hok,I.len⟩
theorem zilb {N:List Str}(hN:N.Nodup){i j:Nat}{x:Str}(a:N[i]?=some x)(b:N[j]?=some x):i=j:=by
 obtain⟨h1,e1⟩:=yha.mp a;obtain⟨h2,e2⟩:=yha.mp b;exact (List.getElem_inj hN).mp (e1.trans e2.symm)
theorem zvcb {M:Model}{A:Around}{E:Value->Shared->Prop}{i:Nat}{x:Str}{v:V}{u:Value}{Q:Unit->Shared->Prop}(I:Inv X pins σ H s)(hN:X.N.Nodup)(hi:X.N[i]?=some x)(hx:Loc X.env.scope x)(r:RelV v u)
  (h:∀s',Inv X pins (σ.set i (some v)) H s'->(∃a,yae a s.heap s'.heap∧(a=X.env.locals∨X.env.cells.lookup x=some a))->Q () s') (hf:X.fn x=true∨X.env.scope.names.lookup x=some .local:=by first|exact .inl rfl|exact .inr rfl|assumption):wpAny M A (storeName X.env x u) Q E s:=by
 obtain⟨m,hn,hl⟩:=id I.loc;have hcls:(X.env.scope.kind == .class||(X.env.scope.kind == .module&&X.env.locals != X.env.globals))=false:=by rw[I.ok.kind];rfl
 have hiσ:i<σ.length:=by rw[I.len];exact (yha.mp hi).1
 have cne:=I.cne;have tracked:∀{a:Addr} {h':Heap},(∃o,s.heap.get? a=some o∧H a=none)->yae a s.heap h'->HOk X.prog X.w H h':=λ{a h'} ha hs b ob e=>by
  obtain⟨_,_,hfree⟩:=ha;refine (I.hok b ob e).stay (λc w' hc q=>(hs.2 c ?_).trans q) (λ_ q=>q) λ_ _ q=>q;rintro rfl
  rcases hc with rfl|hc
  ·rw[hfree] at e;cases e
  ·rw[hfree] at hc;cases hc
 rcases hx with hk|hk
 ·refine wpAny_storeName_local hk hn (λh' hn' hs=>?_) hcls;obtain⟨oL,_,_,hoL,_⟩:=id hn;refine h _ ⟨I.ok,I.os,I.bare,⟨λb o e n hb hx=>?_,λb o e n hb hx=>?_,I.base.free,λb o e hx=>?_,I.base.tups,I.base.frzs,I.base.tbls⟩,⟨_,hn',λj y v' e1 e2 e3=>?_⟩,λy c e=>?_,I.free,I.freeC,λp hp=>?_,tracked ⟨oL,hoL,I.free⟩ hs,by simpa using I.len⟩ ⟨_,hs,.inl rfl⟩
  ·exact (hs.2 b (yfb (yab (yoa e) I.ok.above))).trans (I.base.keep b o e n hb hx)
  ·obtain⟨sl,e1⟩:=I.base.slot b o e n hb hx;exact⟨sl,(hs.2 b (yfb (yab (yoa e) I.ok.above))).trans e1⟩
  ·obtain⟨o',e1⟩:=I.base.there b o e hx;exact⟨o',(hs.2 b (yfb (yab (yoa e) I.ok.above))).trans e1⟩
  ·by_cases hj:j=i
   ·subst hj;rw[hi] at e1;cases e1;rw[yyj hiσ] at e2;cases e2;exact⟨u,r,.inl ⟨hk,by simp⟩⟩
   ·rw[yal (ysc hj)] at e2;obtain⟨u',r',q⟩:=hl j y v' e1 e2 e3;refine⟨u',r',?_⟩
    rcases q with⟨k,e⟩|⟨k,c,e,z⟩
    ·refine .inl ⟨k,?_⟩;have:y≠x:=λe=>hj (zilb hN e1 (e▸hi));simp[this,e]
    ·exact .inr ⟨k,c,e,z.sameBut hs (cne y c e)⟩
  ·obtain⟨w',z⟩:=I.cell y c e;exact⟨w',z.sameBut hs (cne y c e)⟩
  ·obtain⟨e,n,ne,nf,d⟩:=I.pin p hp;exact⟨(hs.2 p.1 ne).trans e,n,ne,nf,d⟩
 ·have hfn:X.fn x=true:=by
   rcases hf with z|z
   ·exact z
   ·rw[z] at hk;cases hk
  obtain⟨c,hc⟩:=I.ok.has x (.inl hk);obtain⟨w',z⟩:=I.cell x c hc;refine wpAny_storeName_cell I.ok.kind hk hc z (λh' hc' hs=>?_);obtain⟨oc,hoc,hocd⟩:=id z;refine h { s with heap:=h' } ⟨I.ok,I.os,I.bare,⟨λb o e n hb hx=>?_,λb o e n hb hx=>?_,I.base.free,λb o e hx=>?_,I.base.tups,I.base.frzs,I.base.tbls⟩,⟨m,hn.sameBut hs (ysc (cne x c hc)),λj y v' e1 e2 e3=>?_⟩,λy c' e=>?_,I.free,I.freeC,λp hp=>?_,tracked ⟨oc,hoc,I.freeC x c hc⟩ hs,by simpa using I.len⟩ ⟨c,hs,.inr hc⟩
  ·exact (hs.2 b (yfb (yab (yoa e) (I.ok.cab x c hfn hc)))).trans (I.base.keep b o e n hb hx)
  ·obtain⟨sl,e1⟩:=I.base.slot b o e n hb hx;exact⟨sl,(hs.2 b (yfb (yab (yoa e) (I.ok.cab x c hfn hc)))).trans e1⟩
  ·obtain⟨o',e1⟩:=I.base.there b o e hx;exact⟨o',(hs.2 b (yfb (yab (yoa e) (I.ok.cab x c hfn hc)))).trans e1⟩
  ·by_cases hj:j=i
   ·subst hj;rw[hi] at e1;cases e1;rw[yyj hiσ] at e2;cases e2;exact⟨u,r,.inr ⟨.inl hk,c,hc,hc'⟩⟩
   ·rw[yal (ysc hj)] at e2;obtain⟨u',r',q⟩:=hl j y v' e1 e2 e3;refine⟨u',r',?_⟩
    rcases q with q|⟨k,c',e,z'⟩
    ·exact .inl q
    ·refine .inr ⟨k,c',e,z'.sameBut hs ?_⟩;rintro rfl;exact hj (zilb hN e1 (I.ok.inj _ _ _ e hc▸hi))
  ·by_cases hcc:c'=c
   ·subst hcc;exact⟨_,hc'⟩
   ·obtain⟨w2,z2⟩:=I.cell y c' e;exact⟨w2,z2.sameBut hs hcc⟩
  ·obtain⟨e,n,ne,nf,d⟩:=I.pin p hp;refine⟨(hs.2 p.1 ?_).trans e,n,ne,nf,d⟩;intro q;rw[q,hoc] at e;have q':oc=p.2:=yoc e;exact d w' (by rw[← q'];exact hocd)
theorem zdkb {M:Model}{A:Around}{E:Value->Shared->Prop}{i:Nat}{x:Str}{v:V}{u:Value}{Q:Unit->Shared->Prop}(I:Inv X pins σ H s)(hN:X.N.Nodup)(hi:X.N[i]?=some x)(hx:Loc X.env.scope x)(r:RelV v u)
  (h:∀s',Inv X pins (σ.set i (some v)) H s'->Q () s') (hf:X.fn x=true∨X.env.scope.names.lookup x=some .local:=by first|exact .inl rfl|exact .inr rfl|assumption):wpAny M A (storeName X.env x u) Q E s :=
 zvcb I hN hi hx r (λs' I' _=>h s' I') hf
end
abbrev XK:=Value->Option Addr->Hp->Prop
abbrev St:=List (Option V)
abbrev VK:=V->Hp->Prop
abbrev TE:=St->Hp->VK->Prop
abbrev TT:=St->Hp->(Bool->Hp->Prop)->Prop
abbrev TA:=St->Hp->(List V->Hp->Prop)->Prop
structure Ends where
 nx:St->Hp->Prop
 rt:VK
 bk:St->Hp->Prop:=λ_ _=>False
 ct:St->Hp->Prop:=λ_ _=>False
abbrev TS:=Ends->St->Hp->Prop
def EP (X:Cx)(pins:List (Addr×Obj))(σ:St)(Q:VK)(u:Value)(s':Shared):Prop:=Ex2 λv H'=>Inv X pins σ H' s'∧RelV v u∧Q v H'
def TP (X:Cx)(pins:List (Addr×Obj))(σ:St)(Q:Bool->Hp->Prop)(b:Bool)(s':Shared):Prop:=∃H',Inv X pins σ H' s'∧Q b H'
def AP (X:Cx)(pins:List (Addr×Obj))(σ:St)(Q:List V->Hp->Prop)(us:List Value)(s':Shared):Prop:=Ex2 λvs H'=>Inv X pins σ H' s'∧Vals vs us∧Q vs H'
def SP (X:Cx)(pins:List (Addr×Obj))(D:Ends)(f:Flow)(s':Shared):Prop :=
 match f with
 | .next=>∃ σ' H',Inv X pins σ' H' s'∧D.nx σ' H'
 | .brk=>∃ σ' H',Inv X pins σ' H' s'∧D.bk σ' H'
 | .cont=>∃ σ' H',Inv X pins σ' H' s'∧D.ct σ' H'
 | .ret u=>∃v σ' H',Inv X pins σ' H' s'∧RelV v u∧D.rt v H'
def PE (X:Cx)(e:Expr)(t:TE):Prop :=
 ∀(pins:List (Addr×Obj)) (s:Shared) (σ:St) (H:Hp) (Q:VK),Inv X pins σ H s->t σ H Q->wpAny (model X.prog X.w) X.A (eval e X.env) (EP X pins σ Q) X.xe s
def PT (X:Cx)(e:Expr)(t:TT):Prop :=
 ∀(pins:List (Addr×Obj)) (s:Shared) (σ:St) (H:Hp) (Q:Bool->Hp->Prop),Inv X pins σ H s->t σ H Q->wpAny (model X.prog X.w) X.A (isTrue e X.env (eval e X.env)) (TP X pins σ Q) X.xe s
def PW (X:Cx)(e:Expr)(t:TT):Prop :=
 ∀(whole:Sem Value) (pins:List (Addr×Obj)) (s:Shared) (σ:St) (H:Hp) (Q:Bool->Hp->Prop),Inv X pins σ H s->t σ H Q->wpAny (model X.prog X.w) X.A (isTrue e X.env whole) (TP X pins σ Q) X.xe s
theorem PW.pt {X:Cx}{e:Expr}{t:TT}(h:PW X e t):PT X e t:=h _
def PA (X:Cx)(es:List Expr)(t:TA):Prop :=
 ∀(pos:Pos) (pins:List (Addr×Obj)) (s:Shared) (σ:St) (H:Hp) (Q:List V->Hp->Prop),Inv X pins σ H s->t σ H Q->wpAny (model X.prog X.w) X.A (spliced (backTo pos (yxc es X.env))) (AP X pins σ Q) X.xe s
def PS (X:Cx)(st:Stmt)(t:TS):Prop :=
 ∀(pins:List (Addr×Obj)) (s:Shared) (σ:St) (H:Hp) (D:Ends),Inv X pins σ H s->t D σ H->wpAny (model X.prog X.w) X.A (exec st X.env) (SP X pins D) X.xe s
def PSs (X:Cx)(st:List Stmt)(t:TS):Prop :=
 ∀(pins:List (Addr×Obj)) (s:Shared) (σ:St) (H:Hp) (D:Ends),Inv X pins σ H s->t D σ H->wpAny (model X.prog X.w) X.A (execs st X.env) (SP X pins D) X.xe s
theorem thn {α:Type}{t:Sem α}{Q Q':α->Shared->Prop}{M:Model}{A:Around}{E:Value->Shared->Prop}{s:Shared}(h:wpAny M A t Q E s)(hQ:∀a s,Q a s->Q' a s):wpAny M A t Q' E s:=ykf h hQ λ_ _ x=>x
end L2
namespace L2
open PySem PySem.Spec PyProof.Rows
section
variable {X:Cx}
def tVar (i:Nat):TE:=fun σ H Q=>∃v,σ[i]?=some (some v)∧Q v H
def tC (v:V):TE:=λ_ H Q=>Q v H
theorem zfec {i:Nat}{x:Str}{pos:Pos}(hN:X.N[i]?=some x)(hv:Vis X.env.scope x)(hd:(x==("__debug__":Str))=false:=by decide)(hcd:(x==("__classdict__":Str))=false:=by decide):PE X (.Name x pos) (tVar i):=by
 intro pins s σ H Q I h;obtain⟨v,e,h⟩:=h;obtain⟨m,hn,hl⟩:=I.loc;obtain⟨u,r,l⟩:=hl i x v hN e hv;have fin:EP X pins σ Q u s:=⟨v,H,I,r,h⟩
 rcases l with⟨hk,hm⟩|⟨hk,c,hc,hcell⟩
 ·exact wpAny_Name (wpAny_loadName_local I.ok.kind hk hn hm fin) hd
 ·rcases hk with hk|hk
  ·exact wpAny_Name (wpAny_loadName_cell I.ok.kind hk hc hcell fin) hd
  ·exact wpAny_Name (wpAny_loadName_free I.ok.kind hk hc hcell fin hcd) hd
theorem zia {i j pos}:PE X (.Constant (.int i) j pos) (tC (.int i)):=λ_ _ _ H _ I h=>wpAny_Constant_int ⟨.int i,H,I.tok _,⟨_,rfl⟩,h⟩
theorem zbnb {b j pos}:PE X (.Constant (.bool b) j pos) (tC (.bl b)):=λ_ _ _ H _ I h=>Constant_bool ⟨.bl b,H,I,rfl,h⟩
theorem zqh {j pos}:PE X (.Constant .none j pos) (tC .non):=λ_ _ _ H _ I h=>Constant_none ⟨.non,H,I,rfl,h⟩
theorem zkb {x j pos}:PE X (.Constant (.str x) j pos) (tC (.str x)):=λ_ _ _ H _ I h=>Calls.Constant_str ⟨.str x,H,I.tok _,⟨_,rfl⟩,h⟩
def Gl (X:Cx)(x:Str):Prop:=X.env.kindOf x=some .globalImplicit
theorem zbib {E:Value->Shared->Prop}{pins:List (Addr×Obj)}{s:Shared}{σ:St}{H:Hp}{x:Str}{u:Value}{pos:Pos}{Q:Value->Shared->Prop}(I:Inv X pins σ H s)(hg:Gl X x)(hm:X.mg x=some u)(h:Q u s)
  (hd:(x==("__debug__":Str))=false:=by decide):wpAny (model X.prog X.w) X.A (eval (.Name x pos) X.env) Q E s :=
 ygm I.ok.kind hg (Calls.loadGlobal_global (by rw[I.ok.glob];exact I.mod.glob.keeps I.bk) hm h) hd
theorem zgr {E:Value->Shared->Prop}{pins:List (Addr×Obj)}{s:Shared}{σ:St}{H:Hp}{x:Str}{u:Value}{pos:Pos}{Q:Value->Shared->Prop}(I:Inv X pins σ H s)(hg:Gl X x)(hm:X.mg x=none)(hv:yki x=some u)(h:Q u s)
  (hn:x ≠ "__name__":=by decide) (hd:(x==("__debug__":Str))=false:=by decide):wpAny (model X.prog X.w) X.A (eval (.Name x pos) X.env) Q E s:=by
 obtain⟨mb,h1,h2⟩:=I.mod.blt;exact ygm I.ok.kind hg (Calls.loadGlobal_builtin (by rw[I.ok.glob];exact I.mod.glob.keeps I.bk) hm (by rw[I.ok.blt];exact h1.keeps I.bk) ((h2 x hn).trans hv) h) hd
theorem zua {x:Str}{v:V}{u:Value}{pos:Pos}(hg:Gl X x)(hm:X.mg x=some u)(r:RelV v u)(hd:(x==("__debug__":Str))=false:=by decide):PE X (.Name x pos) (tC v) :=
 λ_ _ _ H _ I h=>zbib I hg hm ⟨v,H,I,r,h⟩ hd
theorem zfbc {x:Str}{v:V}{u:Value}{pos:Pos}(hg:Gl X x)(hm:X.mg x=none)(hv:yki x=some u)(r:RelV v u)(hn:x ≠ "__name__":=by decide)(hd:(x==("__debug__":Str))=false:=by decide):PE X (.Name x pos) (tC v) :=
 λ_ _ _ H _ I h=>zgr I hg hm hv ⟨v,H,I,r,h⟩ hn hd
variable {a b:Expr}{ta tb:TE}{pos:Pos}
def tB (t:TE):TT:=fun σ H Q=>t σ H λx H1=>∃c,x = .bl c∧Q c H1
theorem zph {e:Expr}{t:TE}(h:PE X e t)(he:∀whole,isTrue e X.env whole=(do let v ← whole;standAt e.pos;ygp [v] (truthy v)):=by intro _;rfl):PT X e (tB t):=by
 intro pins s σ H Q I hw;refine isTrue_plain (thn (h pins s σ H _ I hw) λv s1 ⟨x,H1,I1,r1,q1⟩=>?_) (he _);obtain⟨d,rfl,q⟩:=q1;cases r1;exact yke ⟨H1,I1,q⟩
variable {tA tB':TT}{rest:List Expr}
def tAnd (t u:TT):TT:=fun σ H Q=>t σ H λc H1=>if c=true then u σ H1 Q else Q false H1
def tOr (t u:TT):TT:=fun σ H Q=>t σ H λc H1=>if c=true then Q true H1 else u σ H1 Q
def tNot (t:TT):TT:=fun σ H Q=>t σ H λc H1=>Q (!c) H1
theorem zgqb (ha:PT X a tA):PW X (.BoolOp .And [a] pos) tA:=by
 intro wh pins s σ H Q I h;refine isTrue_and (thn (ha pins s σ H Q I h) λc s1 e=>?_);cases c with
 | true=>exact isTrue_and_nil e
 | false=>exact e
theorem zzkb (ha:PT X a tA):PW X (.BoolOp .Or [a] pos) tA:=by
 intro wh pins s σ H Q I h;refine isTrue_or (thn (ha pins s σ H Q I h) λc s1 e=>?_);cases c with
 | false=>exact isTrue_or_nil e
 | true=>exact e
theorem ziqb (ha:PT X a tA)(hb:PW X (.BoolOp .And (b::rest) pos) tB'):PW X (.BoolOp .And (a::b::rest) pos) (tAnd tA tB'):=by
 intro wh pins s σ H Q I h;refine isTrue_and (thn (ha pins s σ H _ I h) λc s1 ⟨H1,I1,q1⟩=>?_);cases c with
 | true=>exact hb wh pins s1 σ H1 Q I1 q1
 | false=>exact⟨H1,I1,q1⟩
theorem zfqb (ha:PT X a tA)(hb:PW X (.BoolOp .Or (b::rest) pos) tB'):PW X (.BoolOp .Or (a::b::rest) pos) (tOr tA tB'):=by
 intro wh pins s σ H Q I h;refine isTrue_or (thn (ha pins s σ H _ I h) λc s1 ⟨H1,I1,q1⟩=>?_);cases c with
 | true=>exact⟨H1,I1,q1⟩
 | false=>exact hb wh pins s1 σ H1 Q I1 q1
theorem zek (ha:PT X a tA):PT X (.UnaryOp .Not a pos) (tNot tA):=by
 intro pins s σ H Q I h;exact isTrue_not (ha pins s σ H (λc H1=>Q (!c) H1) I h)
def zogc (ta tb:TE):TE:=fun σ H Q=>ta σ H λx H1=>∃c,x = .bl c∧if c=true then tb σ H1 Q else Q (.bl false) H1
def tOrV (ta tb:TE):TE:=fun σ H Q=>ta σ H λx H1=>∃c,x = .bl c∧if c=true then Q (.bl true) H1 else tb σ H1 Q
def zigc (ta:TE):TE:=fun σ H Q=>ta σ H λx H1=>∃c,x = .bl c∧Q (.bl (!c)) H1
theorem zzdb {op}{t:TE}(h:PE X a t):PE X (.BoolOp op [a] pos) t:=λpins s σ H Q I hw=>BoolOp_one (h pins s σ H Q I hw)
theorem zeyb (ha:PE X a ta)(hb:PE X (.BoolOp .And (b::rest) pos) tb):PE X (.BoolOp .And (a::b::rest) pos) (zogc ta tb):=by
 intro pins s σ H Q I h;refine BoolOp_and (thn (ha pins s σ H _ I h) λv s1 ⟨x,H1,I1,r1,q1⟩=>?_);obtain⟨c,rfl,q1⟩:=q1;cases r1;refine yke ?_;cases c with
 | true=>exact hb pins s1 σ H1 Q I1 q1
 | false=>exact⟨.bl false,H1,I1,rfl,q1⟩
theorem zebc (ha:PE X a ta)(hb:PE X (.BoolOp .Or (b::rest) pos) tb):PE X (.BoolOp .Or (a::b::rest) pos) (tOrV ta tb):=by
 intro pins s σ H Q I h;refine BoolOp_or (thn (ha pins s σ H _ I h) λv s1 ⟨x,H1,I1,r1,q1⟩=>?_);obtain⟨c,rfl,q1⟩:=q1;cases r1;refine yke ?_;cases c with
 | false=>exact hb pins s1 σ H1 Q I1 q1
 | true=>exact⟨.bl true,H1,I1,rfl,q1⟩
theorem zdyb (ha:PE X a ta):PE X (.UnaryOp .Not a pos) (zigc ta):=by
 intro pins s σ H Q I h;refine UnaryOp_ (thn (ha pins s σ H _ I h) λv s1 ⟨x,H1,I1,r1,q1⟩=>?_);obtain⟨c,rfl,q1⟩:=q1;cases r1;exact not_of (yke ⟨.bl (!c),H1,I1,rfl,q1⟩)
def tIf (t:TT)(ta tb:TE):TE:=fun σ H Q=>t σ H λc H1=>if c=true then ta σ H1 Q else tb σ H1 Q
theorem zuq {c:Expr}(hc:PT X c tA)(ha:PE X a ta)(hb:PE X b tb):PE X (.IfExp c a b pos) (tIf tA ta tb):=by
 intro pins s σ H Q I h;refine wpAny_IfExp (thn (hc pins s σ H _ I h) λd s1 ⟨H1,I1,q1⟩=>?_);cases d with
 | true=>exact ha pins s1 σ H1 Q I1 q1
 | false=>exact hb pins s1 σ H1 Q I1 q1
end
end L2
namespace L2
open PySem PySem.Spec PyProof.Rows
def SqL (K:yda)(H:Hp)(a:Addr)(xs:List V):Prop :=
 Rd H a (.lst xs) ∨
  Ex3 λ(o:Obj) (its:Array Value) (n:Nat)=>K.lookup a=some o∧o.cls = .type "list" ∧ o.dict=none∧o.data = .seq its n∧its.size≤yva∧Vals xs its.toList
def SqT (K:yda)(H:Hp)(a:Addr)(xs:List V):Prop :=
 Rd H a (.tup xs) ∨
  Ex3 λ(o:Obj) (its:Array Value) (n:Nat)=>K.lookup a=some o∧o.cls = .type "tuple" ∧ o.data = .seq its n∧its.size≤yva∧Vals xs its.toList
def absV:Value->Option V
 | .none=>some .non
 | .bool b=>some (.bl b)
 | .int i _=>some (.int i)
 | .str x _=>some (.str x)
 | .bytes b _=>some (.byt b)
 | .float b _=>some (.flt b)
 | .ref a=>some (.ref a)
 | .type n=>some (.ty n)
 | _=>none
theorem RelV.abs {x:V}{u:Value}(r:RelV x u):absV u=some x:=by
 cases x with
 | non=>cases r;rfl
 | bl _=>cases r;rfl
 | int _=>obtain⟨t,rfl⟩:=r;rfl
 | str _=>obtain⟨t,rfl⟩:=r;rfl
 | byt _=>obtain⟨t,rfl⟩:=r;rfl
 | flt _=>obtain⟨t,rfl⟩:=r;rfl
 | ref _=>cases r;rfl
 | ty _=>cases r;rfl
theorem RelV.inj {x y:V}{u:Value}(r:RelV x u)(q:RelV y u):x=y:=yoc (r.abs.symm.trans q.abs)
theorem Vals.inj:∀{xs ys:List V} {us:List Value},Vals xs us->Vals ys us->xs=ys
 | _,_,_,.nil,.nil=>rfl
 | _,_,_,.cons r t,.cons r' t'=>by rw[r.inj r',Vals.inj t t']
section
variable {X:Cx}{pins:List (Addr×Obj)}{σ:St}{H:Hp}{s:Shared}{a:Addr}{xs ys:List V}
theorem SqL.of {K:yda}(h:H a=some (.lst xs)):SqL K H a xs:=.inl (.inl h)
theorem SqT.of {K:yda}(h:H a=some (.tup xs)):SqT K H a xs:=.inl (.inl h)
theorem Inv.list (I:Inv X pins σ H s)(h:SqL X.K H a xs):∃its:List Value,Vals xs its∧PlainL s.heap a its.toArray∧xs.length≤yva:=by
 rcases h with h|⟨o,its,n,hk,hc,hd,hs,hz,r⟩
 ·obtain⟨z,its,n,r,e⟩:=h.ok I.hok;exact⟨its,r,⟨_,n,e,rfl,rfl,rfl⟩,z⟩
 ·refine⟨its.toList,r,⟨o,n,I.kIn a o hk,hc,hd,by simpa using hs⟩,?_⟩;have e:=r.length;simp only[ysa] at e;omega
theorem Inv.tuple (I:Inv X pins σ H s)(h:SqT X.K H a xs):∃its:List Value,Vals xs its∧IsTup s.heap a its.toArray∧xs.length≤yva:=by
 rcases h with h|⟨o,its,n,hk,hc,hs,hz,r⟩
 ·obtain⟨z,its,r,p⟩:=h.ok I.hok;exact⟨its,r,p,z⟩
 ·refine⟨its.toList,r,⟨o,I.kIn a o hk,hc,n,by simpa using hs⟩,?_⟩;have e:=r.length;simp only[ysa] at e;omega
theorem Inv.zyab (I:Inv X pins σ H s)(h:SqL X.K H a xs)(h':SqL X.K H a ys):xs=ys:=by
 obtain⟨its,r,⟨o,n,e,_,_,d⟩,_⟩:=I.list h;obtain⟨its',r',⟨o',n',e',_,_,d'⟩,_⟩:=I.list h';rw[e] at e';cases e';rw[d] at d';injection d' with d1 _
 have:its=its':=by simpa using congrArg Array.toList d1
 subst this;exact r.inj r'
theorem Inv.ziv (I:Inv X pins σ H s)(h:SqT X.K H a xs)(h':SqT X.K H a ys):xs=ys:=by
 obtain⟨its,r,⟨o,e,_,n,d⟩,_⟩:=I.tuple h;obtain⟨its',r',⟨o',e',_,n',d'⟩,_⟩:=I.tuple h';rw[e] at e';cases e';rw[d] at d';injection d' with d1 _
 have:its=its':=by simpa using congrArg Array.toList d1
 subst this;exact r.inj r'
end
abbrev Cx.wish (X:Cx)(E:Value->Shared->Prop):Cx:={ X with xe:=E }
abbrev Cx.nox (X:Cx):Cx:=X.wish λ_ _=>False
theorem Cx.Ok.wish {X:Cx}(ok:X.Ok)(E:Value->Shared->Prop):(X.wish E).Ok :=
 ⟨ok.mod,ok.kind,ok.glob,ok.blt,ok.above,ok.inj,ok.has,ok.cab,ok.hd,ok.frames,ok.stk,ok.exf,ok.bs,ok.bsz,ok.noex,ok.exfs,ok.funs,ok.frf⟩
theorem Cx.Ok.zbt {X:Cx}{E:Value->Shared->Prop}(ok:(X.wish E).Ok):X.Ok :=
 ⟨ok.mod,ok.kind,ok.glob,ok.blt,ok.above,ok.inj,ok.has,ok.cab,ok.hd,ok.frames,ok.stk,ok.exf,ok.bs,ok.bsz,ok.noex,ok.exfs,ok.funs,ok.frf⟩
section
variable {X:Cx}{pins:List (Addr×Obj)}{σ:St}{H:Hp}{s:Shared}{E:Value->Shared->Prop}
theorem Inv.wish (I:Inv X pins σ H s)(E:Value->Shared->Prop):Inv (X.wish E) pins σ H s:=⟨I.ok.wish E,I.os,I.bare,I.base,I.loc,I.cell,I.free,I.freeC,I.pin,I.hok,I.len⟩
theorem Inv.zbt (I:Inv (X.wish E) pins σ H s):Inv X pins σ H s:=⟨I.ok.zbt,I.os,I.bare,I.base,I.loc,I.cell,I.free,I.freeC,I.pin,I.hok,I.len⟩
theorem SP.zbt {D:Ends}{f:Flow}{s':Shared}(h:SP (X.wish E) pins D f s'):SP X pins D f s':=by
 cases f with
 | next=>obtain⟨σ',H',I,q⟩:=h;exact⟨σ',H',I.zbt,q⟩
 | brk=>obtain⟨σ',H',I,q⟩:=h;exact⟨σ',H',I.zbt,q⟩
 | cont=>obtain⟨σ',H',I,q⟩:=h;exact⟨σ',H',I.zbt,q⟩
 | ret u=>obtain⟨v,σ',H',I,r,q⟩:=h;exact⟨v,σ',H',I.zbt,r,q⟩
theorem PSs.nox {st:List Stmt}{t:TS}(h:PSs X.nox st t):PSs X st t:=λpins s σ H D I hw =>
 ykf (h pins s σ H D (I.wish _) hw) (λ_ _ q=>q.zbt) λ_ _ z=>yvg z
end
section
variable {X:Cx}{st:Stmt}{rest:List Stmt}{t u:TS}{e:Expr}{te:TE}{pos:Pos}
def zjgc:TS:=λD σ H=>D.nx σ H
def tSeq (t u:TS):TS:=λD σ H=>t { D with nx:=u D } σ H
theorem zeb:PSs X [] zjgc:=λ_ _ σ H _ I h=>ynl ⟨σ,H,I,h⟩
theorem zca (h1:PS X st t)(h2:PSs X rest u):PSs X (st::rest) (tSeq t u):=by
 intro pins s σ H D I h;refine wpAny_execs_cons (thn (h1 pins s σ H { D with nx:=u D } I h) λf s1 q=>?_);cases f with
 | next =>
  obtain⟨σ',H',I',q⟩:=q;exact h2 pins s1 σ' H' D I' q
 | ret v=>exact q
 | brk=>exact q
 | cont=>exact q
theorem zfa (h1:PS X st t):PSs X [st] t:=by
 intro pins s σ H D I h;refine wpAny_execs_cons (thn (h1 pins s σ H D I h) λf s1 q=>?_);cases f with
 | next=>exact ynl q
 | ret v=>exact q
 | brk=>exact q
 | cont=>exact q
theorem Inv.quiet {pins:List (Addr×Obj)}{σ:St}{H:Hp}{s:Shared}(I:Inv X pins σ H s):interactive X.env=false:=by simp[interactive,I.ok.kind]
def zlgc (te:TE):TS:=λD σ H=>te σ H λ_ H1=>D.nx σ H1
theorem zjc (he:PE X e te)(hs:yet e none pos.line X.env=pure false:=by rfl):PS X (.Expr e pos) (zlgc te):=by
 intro pins s σ H D I h;exact wpAny_Expr_any (thn (he pins s σ H _ I h) λv s1 ⟨x,H1,I1,r1,q1⟩=>⟨σ,H1,I1,q1⟩) I.quiet hs
def tRet (te:TE):TS:=λD σ H=>te σ H D.rt
theorem zsa (he:PE X e te):PS X (.Return (some e) pos) (tRet te):=by
 intro pins s σ H D I h;exact wpAny_Return_some (thn (he pins s σ H _ I h) λv s1 ⟨x,H1,I1,r1,q1⟩=>⟨x,σ,H1,I1,r1,q1⟩)
def tIfS (c:TT)(t u:TS):TS:=λD σ H=>c σ H λb H1=>if b=true then t D σ H1 else u D σ H1
theorem zrc {c:Expr}{a b:List Stmt}{tc:TT}(hc:PT X c tc)(ha:PSs X a t)(hb:PSs X b u):PS X (.If c a b pos) (tIfS tc t u):=by
 intro pins s σ H D I h;refine wpAny_If (thn (hc pins s σ H _ I h) λd s1 ⟨H1,I1,q1⟩=>?_);cases d with
 | true=>exact ha pins s1 σ H1 D I1 q1
 | false=>exact hb pins s1 σ H1 D I1 q1
def zbdc:TS:=λ_ _ _=>False
theorem zqf:PS X st zbdc:=λ_ _ _ _ _ _ h=>h.elim
end
abbrev TG:=V->St->Hp->(St->Hp->Prop)->Prop
abbrev TGs:=List V->St->Hp->(St->Hp->Prop)->Prop
def PG (X:Cx)(target:Expr)(t:TG):Prop :=
 ∀(pins:List (Addr×Obj)) (s:Shared) (σ:St) (H:Hp) (v:V) (u:Value) (Q:St->Hp->Prop),Inv X pins σ H s->RelV v u->t v σ H Q →
  wpAny (model X.prog X.w) X.A (assign target X.env u) (λ_ s'=>∃ σ' H',Inv X pins σ' H' s'∧Q σ' H') X.xe s
def PGs (X:Cx)(ts:List Expr)(t:TGs):Prop :=
 ∀(pins:List (Addr×Obj)) (s:Shared) (σ:St) (H:Hp) (vs:List V) (us:List Value) (Q:St->Hp->Prop),Inv X pins σ H s->Vals vs us->t vs σ H Q →
  wpAny (model X.prog X.w) X.A (assignInOrder ((yck ts X.env).map (·.2)) us) (λ_ s'=>∃ σ' H',Inv X pins σ' H' s'∧Q σ' H') X.xe s
abbrev TSet:=V->V->V->Hp->(Hp->Prop)->Prop
def PSet (X:Cx)(t:TSet):Prop :=
 ∀(pins:List (Addr×Obj)) (s:Shared) (σ:St) (H:Hp) (o i v:V) (ov iv u:Value) (Q:Hp->Prop),Inv X pins σ H s->RelV o ov->RelV i iv->RelV v u->t o i v H Q →
  wpAny (model X.prog X.w) X.A (setItem ov iv u) (λ_ s'=>∃H',Inv X pins σ H' s'∧Q H') X.xe s
section
variable {X:Cx}{pos:Pos}
def zasb (i:Nat):TG:=λv σ H Q=>Q (σ.set i (some v)) H
theorem zda {i:Nat}{x:Str}(hN:X.N.Nodup)(hi:X.N[i]?=some x)(hx:Loc X.env.scope x)(hf:X.fn x=true∨X.env.scope.names.lookup x=some .local:=by first|exact .inl rfl|exact .inr rfl|assumption):PG X (.Name x pos) (zasb i):=by
 intro pins s σ H v u Q I r h;exact wpAny_assign_Name (zdkb I hN hi hx r (λs' I'=>⟨_,H,I',h⟩) hf)
def gNil:TGs:=λvs σ H Q=>vs=[]∧Q σ H
def zmhc (t:TG)(u:TGs):TGs:=λvs σ H Q=>Ex2 λv r=>vs=v::r∧t v σ H fun σ' H'=>u r σ' H' Q
theorem zjb:PGs X [] gNil:=by
 intro pins s σ H vs us Q I r h;obtain⟨e,h⟩:=h;subst e;cases r;exact assignInOrder_nil ⟨σ,H,I,h⟩
theorem zea {e:Expr}{es:List Expr}{t:TG}{u:TGs}(h1:PG X e t)(h2:PGs X es u)
  (hs:(yck (e::es) X.env).map (·.2)=assign e X.env::(yck es X.env).map (·.2):=by rfl):PGs X (e::es) (zmhc t u):=by
 intro pins s σ H vs us Q I r h;obtain⟨v,vr,e1,h⟩:=h;subst e1;cases r with
 | cons r rr =>
  rw[hs];refine assignInOrder_cons (thn (h1 pins s σ H _ _ _ I r h) λ_ s1 ⟨σ1,H1,I1,q1⟩=>?_);exact h2 pins s1 σ1 H1 _ _ Q I1 rr q1
def gTup (K:yda)(n:Nat)(t:TGs):TG:=λv σ H Q=>Ex2 λa xs=>v = .ref a∧SqT K H a xs∧xs.length=n∧t xs σ H Q
theorem zmc {es:List Expr}{k:Nat}{t:TGs}{n:Nat}(hc:X.calm=true)(h:PGs X es t)
  (hn:(yck es X.env).length=n:=by rfl) (hst:(yck es X.env).findIdx? (·.1)=none:=by rfl):PG X (.Tuple es k pos) (gTup X.K n t):=by
 intro pins s σ H v u Q I r hw;obtain⟨a,xs,e1,hq,hl,hw⟩:=hw;subst e1;cases r;obtain⟨its,rv,ht,hz⟩:=I.tuple hq;refine assign_Tuple_tuple (I.ok.hd hc) ht (by simp[hn,← hl,rv.length]) hst λh' hx=>?_;have I1:Inv X pins σ H { s with heap:=h' }:=I.kept (t':=s.toks) λb o e=>hx b o (yfb (yoa e)) e;exact h pins _ σ H xs _ Q I1 (by simpa using rv) hw
def gSub (to ti:TE)(t:TSet):TG:=λv σ H Q=>to σ H λo H1=>ti σ H1 λi H2=>t o i v H2 λH3=>Q σ H3
theorem zydb {o i:Expr}{to ti:TE}{t:TSet}(ho:PE X o to)(hi:PE X i ti)(hs:PSet X t)
  (ha:∀v,assign (.Subscript o i pos) X.env v=(do
   let ov ← ygp [v] (eval o X.env)
   let iv ← ygp [v,ov] (eval i X.env)
   standAt pos
   ygp [v,ov,iv] (setItem ov iv v)
   release [v,ov,iv] []):=by intro _;rfl):PG X (.Subscript o i pos) (gSub to ti t):=by
 intro pins s σ H v u Q I r h;rw[ha];refine yaa (yad (thn (ho pins s σ H _ I h) λov s1 ⟨x,H1,I1,r1,q1⟩=>?_));refine yaa (yad (thn (hi pins s1 σ H1 _ I1 q1) λiv s2 ⟨y,H2,I2,r2,q2⟩=>?_));refine yaa (yer (yaa (yad (thn (hs pins s2 σ H2 x y v ov iv u _ I2 r1 r2 r q2) λ_ s3 ⟨H3,I3,q3⟩=>?_))));exact wpAny_release ⟨σ,H3,I3,q3⟩
def tAsg (te:TE)(g:TG):TS:=λD σ H=>te σ H λx H1=>g x σ H1 D.nx
theorem zsc {tg e:Expr}{te:TE}{g:TG}(he:PE X e te)(hg:PG X tg g)(hs:swapsWithSole [tg] e pos.line X.env=pure false:=by rfl)(hw:swappedStores [tg] e X.env=pure none:=by rfl)
  (h1:(yck [tg] X.env).map (·.2)=[assign tg X.env]:=by rfl):PS X (.Assign [tg] e pos) (tAsg te g):=by
 intro pins s σ H D I h;refine wpAny_Assign_stores (thn (he pins s σ H _ I h) λv s1 ⟨x,H1,I1,r1,q1⟩=>?_) hs hw;rw[h1];exact thn (hg pins s1 σ H1 x v _ I1 r1 q1) λ_ s2 q=>q
theorem zla {i:Nat}{x:Str}{e:Expr}{te:TE}{pos':Pos}(hN:X.N.Nodup)(hi:X.N[i]?=some x)(hx:Loc X.env.scope x)(he:PE X e te)(hs:yet e (some (.Name x pos')) pos.line X.env=pure false:=by rfl)(hf:X.fn x=true∨X.env.scope.names.lookup x=some .local:=by first|exact .inl rfl|exact .inr rfl|assumption) :
  PS X (.Assign [.Name x pos'] e pos) (tAsg te (zasb i)):=by
 intro pins s σ H D I h;refine wpAny_Assign_Name (thn (he pins s σ H _ I h) λv s1 ⟨y,H1,I1,r1,q1⟩=>?_) hs;exact zdkb I1 hN hi hx r1 (λs2 I2=>⟨_,H1,I2,q1⟩) hf
end
section
variable {X:Cx}{pos:Pos}
def zycc (c:TT)(tb:TS):TS:=λD σ H=>∃W:Nat->St->Hp->Prop,(∃m,W m σ H)∧∀m σ H,W m σ H →
 c σ H λb H1=>if b=true then ∃N:St->Hp->Prop,(∀ σ' H',N σ' H'->∃m',m'<m∧W m' σ' H')∧tb { D with nx:=N,ct:=N,bk:=D.nx } σ H1 else D.nx σ H1
theorem zmu {c:Expr}{body:List Stmt}{tc:TT}{tb:TS}(hp:PassesOwn (model X.prog X.w) X.A X.env X.xe)(hc:PT X c tc)(hb:PSs X body tb):PS X (.While c body [] pos) (zycc tc tb):=by
 intro pins s σ H D I h;obtain⟨W,⟨m0,w0⟩,turn⟩:=h;refine wpAny_While (codeAny_whileLoop (λn s'=>∃ σ' H',Inv X pins σ' H' s'∧W n σ' H') ?_ m0 ⟨σ,H,I,w0⟩);rintro n s1 ⟨σ1,H1,I1,w1⟩;refine ymh hp (thn (hc pins s1 σ1 H1 _ I1 (turn n σ1 H1 w1)) λb s2 ⟨H2,I2,q2⟩=>?_);cases b with
 | true =>
  obtain⟨N,hN,q2⟩:=q2;rw[if_pos rfl];refine ymh hp (thn (hb pins s2 σ1 H2 _ I2 q2) λf s3 q3=>?_);cases f with
  | next =>
   obtain⟨σ3,H3,I3,n3⟩:=q3;obtain⟨m',hm,w3⟩:=hN σ3 H3 n3;exact⟨m',hm,σ3,H3,I3,w3⟩
  | cont =>
   obtain⟨σ3,H3,I3,n3⟩:=q3;obtain⟨m',hm,w3⟩:=hN σ3 H3 n3;exact⟨m',hm,σ3,H3,I3,w3⟩
  | brk=>exact q3
  | ret v=>exact q3
 | false =>
  rw[if_neg ymb];exact ynl ⟨σ1,H2,I2,q2⟩
end
structure It where
 go:Nat->Hp->Prop
 yld:Nat->Hp->V->Hp->Prop
 stop:Nat->Hp->Prop
def FpOk (X:Cx)(pins:List (Addr×Obj))(H:Hp)(b:Addr):Prop :=
 H b=none∧b≠X.env.locals∧b∉X.fs∧(b∈X.ex∨X.s₀.heap.objs.size≤b)∧(∀x c,X.env.cells.lookup x=some c->c≠b)∧∀p∈X.pn++pins,p.1≠b
theorem Inv.fpOk {X:Cx}{pins:List (Addr×Obj)}{σ:St}{H H':Hp}{s:Shared}{b:Addr}(I:Inv X pins σ H s)(hb:s.heap.objs.size≤b)(hn:H' b=none):FpOk X pins H' b:=by
 refine⟨hn,yze (yab I.lt hb),I.nofs hb,.inr (yob I.sz hb),λx c e z=>?_,λp hp z=>?_⟩
 ·obtain⟨v,q⟩:=I.cell x c e;exact absurd (yab q.lt (by rw[z];exact hb)) (yje _)
 ·exact absurd (yab (yoa (I.pin p hp).1) (by rw[z];exact hb)) (yje _)
structure Turn (P:yzb)(w:World)(K:yda)(tg:Expr)(J:It)(fp:List Addr)(it:Addr)(tn:Nat->Heap->Prop):Prop where
 mem:it∈fp
 obj:∀i h,tn i h->∀b∈fp,∃o,h.get? b=some o∧∀v,o.data ≠ .cell v
 keep:∀i h h',tn i h->(∀b∈fp,∀o,h.get? b=some o->h'.get? b=some o)->tn i h'
 item:∀(X:Cx),X.prog=P->X.w=w->X.K=K->X.calm=true->∀(i:Nat) (pins:List (Addr×Obj)) (s:Shared) (σ:St) (H:Hp) (E:Value->Shared->Prop),Inv X pins σ H s->(∀b∈fp,FpOk X pins H b)->tn i s.heap->J.go i H →
  wpAny (model P w) X.A (pyNext (.ref it)) (λr s1=>∃u,r=some u ∧
   wpAny (model P w) X.A (yol tg (.ref it) u) (λ_ s2=>Ex2 λx H'=>Inv X pins σ H' s2∧RelV x u∧J.yld i H x H'∧tn (i+1) s2.heap∧∀b∈fp,H' b=none) E s1) E s
 done:∀(X:Cx),X.prog=P->X.w=w->X.K=K->X.calm=true->∀(i:Nat) (pins:List (Addr×Obj)) (s:Shared) (σ:St) (H:Hp) (E:Value->Shared->Prop),Inv X pins σ H s->(∀b∈fp,FpOk X pins H b)->tn i s.heap->J.stop i H →
  wpAny (model P w) X.A (pyNext (.ref it)) (λr s1=>r=none∧Inv X pins σ H s1) E s
 self:∀(A:Around) (i:Nat) (s:Shared) (Q:Value->Shared->Prop) (E:Value->Shared->Prop),tn i s.heap->Q (.ref it) s->wpAny (model P w) A (pyIter (.ref it)) Q E s
abbrev TI:=St->Hp->(It->Hp->Prop)->Prop
def PIE (X:Cx)(pins:List (Addr×Obj))(σ:St)(tg:Expr)(R:It->Hp->Prop)(itv:Value)(s2:Shared):Prop :=
 Ex5 λ(it:Addr) (fp:List Addr) (tn:Nat->Heap->Prop) (J:It) (H':Hp)=>itv = .ref it∧Inv X pins σ H' s2∧Turn X.prog X.w X.K tg J fp it tn∧tn 0 s2.heap∧(∀b∈fp,FpOk X pins H' b)∧R J H'
def PI (X:Cx)(tg iter:Expr)(wi:TI):Prop :=
 ∀(pins:List (Addr×Obj)) (s:Shared) (σ:St) (H:Hp) (R:It->Hp->Prop),Inv X pins σ H s->wi σ H R →
  wpAny (model X.prog X.w) X.A (eval iter X.env) (λv s1=>wpAny (model X.prog X.w) X.A (pyIter v) (PIE X pins σ tg R) X.xe s1) X.xe s
theorem znwb {M:Model}{A:Around}{E:Value->Shared->Prop}{s:Shared}{tg:Expr}{it:Addr}{u:Value}{o:Obj}{n:String}{vs:Array Value}{Q:Unit->Shared->Prop}(ho:s.heap.get? it=some o)(hc:o.cls = .type n)(hd:o.data = .fields vs)
  (hn:["enumerate","zip","dict_itemiterator","dict_reverseitemiterator","odict_iterator","itertools.zip_longest","itertools.pairwise"].contains n=false) (hQ:Q () s):wpAny M A (yol tg (.ref it) u) Q E s:=by
 unfold yol;cases tg<;>first
  | exact yea hQ
  | (cases u<;>first
    | exact yea hQ
    | (refine yaa (ydn ho ?_)
       rw[hc,hd];show wpAny M A (if (["enumerate","zip","dict_itemiterator","dict_reverseitemiterator","odict_iterator","itertools.zip_longest","itertools.pairwise"].contains n&&vs[0]?==some (rawInt _))=true then _ else _) Q E s
       rw[if_neg (by intro h;rw[hn,ygg] at h;cases h)];exact yea hQ))
def Itl (K:yda)(a:Addr):It :=
 ⟨λi H=>Ex2 λxs x=>SqL K H a xs∧xs[i]?=some x,λi H x H'=>H'=H∧∀xs,SqL K H a xs->xs[i]?=some x,λi H=>∃xs,SqL K H a xs∧xs.length≤i⟩
def Itt (K:yda)(a:Addr):It :=
 ⟨λi H=>Ex2 λxs x=>SqT K H a xs∧xs[i]?=some x,λi H x H'=>H'=H∧∀xs,SqT K H a xs->xs[i]?=some x,λi H=>∃xs,SqT K H a xs∧xs.length≤i⟩
def Itr (lo:Int)(n:Nat):It:=⟨λi _=>i<n,λi H x H'=>H'=H∧x = .int (lo+i),λi _=>n≤i⟩
theorem zxob {P:yzb}{w:World}{K:yda}{tg:Expr}(a it:Addr):Turn P w K tg (Itl K a) [it] it (λi h=>h.IsListIter it a i) where
 mem:=by simp
 obj:=λi h st b hb=>by
  have e:b=it:=by simpa using hb
  subst e;obtain⟨o,e,c,d⟩:=st;exact⟨o,e,λv z=>by rw[d] at z;cases z⟩
 keep:=λi h h' st k=>st.at λo e=>k it (by simp) o e
 item:=by
  intro X hP hw hK hc i pins s σ H E I hf st hg;subst hP hw hK;obtain⟨xs,x,hq,hx⟩:=hg;obtain⟨its,rv,p,hz⟩:=I.list hq;obtain⟨u,hu,ru⟩:=rv.get hx;obtain⟨f0,f1,f2,f3,f4,f5⟩:=hf it (by simp);refine wpAny_pyNext_list_item st p.isList (x:=u) (by simpa using hu) λh' st' sb=>?_;have I1:Inv X pins σ H { s with heap:=h' }:=I.turned (t':=s.toks) (λb o hb e=>(sb.2 b hb).trans e) f0 f1 f3 f4 f5;obtain⟨o,e,c,d⟩:=id st';exact⟨u,rfl,znwb (s:={ s with heap:=h' }) e c d (by decide) ⟨x,H,I1,ru,⟨rfl,λys hy=>by rw[I.zyab hy hq];exact hx⟩,st',λb hb=>(hf b hb).1⟩⟩
 done:=by
  intro X hP hw hK hc i pins s σ H E I hf st hg;subst hP hw hK;obtain⟨xs,hq,hx⟩:=hg;obtain⟨its,rv,p,hz⟩:=I.list hq;obtain⟨f0,f1,f2,f3,f4,f5⟩:=hf it (by simp);have hl:=rv.length;exact wpAny_pyNext_list_end (I.ok.hd hc) st p.isList (by simp;omega) λh' eb=>⟨rfl,I.turned (t':=s.toks) (λb o hb e=>eb b o hb e) f0 f1 f3 f4 f5⟩
 self:=λ_ _ _ _ _ st h=>wpAny_pyIter_listiter st h
theorem zkmb {P:yzb}{w:World}{K:yda}{tg:Expr}(a it:Addr):Turn P w K tg (Itt K a) [it] it (λi h=>h.IsTupleIter it a i) where
 mem:=by simp
 obj:=λi h st b hb=>by
  have e:b=it:=by simpa using hb
  subst e;obtain⟨o,e,c,d⟩:=st;exact⟨o,e,λv z=>by rw[d] at z;cases z⟩
 keep:=λi h h' st k=>st.at λo e=>k it (by simp) o e
 item:=by
  intro X hP hw hK hc i pins s σ H E I hf st hg;subst hP hw hK;obtain⟨xs,x,hq,hx⟩:=hg;obtain⟨its,rv,p,hz⟩:=I.tuple hq;obtain⟨u,hu,ru⟩:=rv.get hx;obtain⟨f0,f1,f2,f3,f4,f5⟩:=hf it (by simp);refine wpAny_pyNext_tuple_item st (show s.heap.IsTuple a its.toArray from p) (x:=u) (by simpa using hu) λh' st' sb=>?_;have I1:Inv X pins σ H { s with heap:=h' }:=I.turned (t':=s.toks) (λb o hb e=>(sb.2 b hb).trans e) f0 f1 f3 f4 f5;obtain⟨o,e,c,d⟩:=id st';exact⟨u,rfl,znwb (s:={ s with heap:=h' }) e c d (by decide) ⟨x,H,I1,ru,⟨rfl,λys hy=>by rw[I.ziv hy hq];exact hx⟩,st',λb hb=>(hf b hb).1⟩⟩
 done:=by
  intro X hP hw hK hc i pins s σ H E I hf st hg;subst hP hw hK;obtain⟨xs,hq,hx⟩:=hg;obtain⟨its,rv,p,hz⟩:=I.tuple hq;obtain⟨f0,f1,f2,f3,f4,f5⟩:=hf it (by simp);have hl:=rv.length;exact wpAny_pyNext_tuple_end (I.ok.hd hc) st (show s.heap.IsTuple a its.toArray from p) (by simp;omega) λh' eb=>⟨rfl,I.turned (t':=s.toks) (λb o hb e=>eb b o hb e) f0 f1 f3 f4 f5⟩
 self:=λ_ _ _ _ _ st h=>wpAny_pyIter_tupleiter st h
theorem zlmb {P:yzb}{w:World}{K:yda}{tg:Expr}(it:Addr)(lo:Int)(n:Nat):Turn P w K tg (Itr lo n) [it] it (λi h=>IsRangeIter h it (lo+(i:Nat)*1) ((n:Int)-(i:Nat)) 1) where
 mem:=by simp
 obj:=λi h st b hb=>by
  have e:b=it:=by simpa using hb
  subst e;exact⟨_,st,λv z=>by
   have z':Data.fields _=Data.cell v:=z;cases z'⟩
 keep:=λi h h' st k=>k it (by simp) _ st
 item:=by
  intro X hP hw hK hc i pins s σ H E I hf st hg;subst hP hw hK;obtain⟨f0,f1,f2,f3,f4,f5⟩:=hf it (by simp);have W:=Walks.range (prog:=X.prog) (w:=X.w) (I.ok.hd hc) it lo 1 n;refine W.item i s _ _ hg st λv h' tk hv st' kk=>?_;obtain⟨t,rfl⟩:=hv;have I1:Inv X pins σ H { s with heap:=h',toks:=tk }:=I.turned (λb o hb e=>kk b o (by simpa using hb) e) f0 f1 f3 f4 f5;refine⟨_,rfl,znwb (s:={ s with heap:=h',toks:=tk }) (n:="range_iterator") st' rfl rfl (by decide) ⟨.int (lo+i),H,I1,⟨t,?_⟩,⟨rfl,rfl⟩,st',λb hb=>(hf b hb).1⟩⟩;rw[Int.mul_one]
 done:=by
  intro X hP hw hK hc i pins s σ H E I hf st hg;subst hP hw hK;obtain⟨f0,f1,f2,f3,f4,f5⟩:=hf it (by simp);exact wpAny_pyNext_range_end (I.ok.hd hc) st (by have:n≤i:=hg;omega) λh' eb=>⟨rfl,I.turned (t':=s.toks) (λb o hb e=>eb b o hb e) f0 f1 f3 f4 f5⟩
 self:=λ_ _ _ _ _ st h=>wpAny_pyIter_rangeiter st h
end L2
namespace L2
open PySem PySem.Spec PyProof.Rows
section
variable {X:Cx}{tg:Expr}
def zlhc (K:yda)(tl:TE):TI:=fun σ H R=>tl σ H λx H1=>∃a,x = .ref a∧(∃xs,SqL K H1 a xs)∧R (Itl K a) H1
def iTup (K:yda)(tl:TE):TI:=fun σ H R=>tl σ H λx H1=>∃a,x = .ref a∧(∃xs,SqT K H1 a xs)∧R (Itt K a) H1
theorem zcc {l:Expr}{tl:TE}(hl:PE X l tl):PI X tg l (zlhc X.K tl):=by
 intro pins s σ H R I h;refine thn (hl pins s σ H _ I h) λv s1 ⟨x,H1,I1,r1,q1⟩=>?_;obtain⟨a,e,⟨xs,hq⟩,q⟩:=q1;subst e;cases r1;obtain⟨its,rv,p,hz⟩:=I1.list hq;refine ydk p.isList ?_;refine⟨s1.heap.objs.size,[s1.heap.objs.size],_,_,H1,rfl,I1.kept (t':=s1.toks) λb o e=>yba _ e,zxob a _,⟨_,yfa _ rfl,rfl,rfl⟩,λb hb=>?_,q⟩;have e:b=s1.heap.objs.size:=by simpa using hb
 subst e;exact I1.fpOk (yga _) (I1.hok.fresh (yga _))
theorem zdw {l:Expr}{tl:TE}(hl:PE X l tl):PI X tg l (iTup X.K tl):=by
 intro pins s σ H R I h;refine thn (hl pins s σ H _ I h) λv s1 ⟨x,H1,I1,r1,q1⟩=>?_;obtain⟨a,e,⟨xs,hq⟩,q⟩:=q1;subst e;cases r1;obtain⟨its,rv,p,hz⟩:=I1.tuple hq;refine yyf (show s1.heap.IsTuple a its.toArray from p) ?_;refine⟨s1.heap.objs.size,[s1.heap.objs.size],_,_,H1,rfl,I1.kept (t':=s1.toks) λb o e=>yba _ e,zkmb a _,⟨_,yfa _ rfl,rfl,rfl⟩,λb hb=>?_,q⟩;have e:b=s1.heap.objs.size:=by simpa using hb
 subst e;exact I1.fpOk (yga _) (I1.hok.fresh (yga _))
theorem zfvb {pins:List (Addr×Obj)}{σ:St}{H:Hp}{s:Shared}{R:It->Hp->Prop}{E:Value->Shared->Prop}{lo hi:Int}{t u v:Tok}{tk:Nat}(I:Inv X pins σ H s)(h1:-(2 ^ 62)≤lo)(h2:lo<2 ^ 62)(h3:-(2 ^ 62)≤hi)(h4:hi<2 ^ 62)
  (q:R (Itr lo (hi-lo).toNat) H):wpAny (model X.prog X.w) X.A (pyIter (.ref s.heap.objs.size)) (PIE X pins σ tg R) E { s with heap:=s.heap.push { cls:=.type "range",data:=.fields #[.int lo t,.int hi u,.int 1 v] },toks:=tk }:=by
 refine wpAny_pyIter_range (IsRange.new ..) (small_one h1 h2 h3 h4) ?_;have I1:Inv X pins σ H { s with heap:=s.heap.push { cls:=.type "range",data:=.fields #[.int lo t,.int hi u,.int 1 v] },toks:=tk }:=I.kept λb o e=>yba _ e;refine⟨(s.heap.push { cls:=.type "range",data:=.fields #[.int lo t,.int hi u,.int 1 v] }).objs.size,[(s.heap.push { cls:=.type "range",data:=.fields #[.int lo t,.int hi u,.int 1 v] }).objs.size],_,_,H,rfl,
  I1.kept (t':=tk) λb o e=>yba _ e,zlmb _ lo (hi-lo).toNat,?_,λb hb=>?_,q⟩
 ·have e1:lo+((0:Nat):Int)*1=lo:=by simp
  have e2:(((hi-lo).toNat:Nat):Int)-((0:Nat):Int)=ywn lo hi 1:=by rw[rangeSize_one];split<;>omega
  show IsRangeIter _ _ (lo+((0:Nat):Int)*1) ((((hi-lo).toNat:Nat):Int)-((0:Nat):Int)) 1
  rw[e1,e2];exact yfa _ rfl
 ·have e:b=(s.heap.push { cls:=.type "range",data:=.fields #[.int lo t,.int hi u,.int 1 v] }).objs.size:=by simpa using hb
  subst e;exact I1.fpOk (yga _) (I1.hok.fresh (yga _))
def zkhc (ta:TA):TI:=fun σ H R=>ta σ H λvs H1=>∃j:Int,vs=[.int j] ∧ -(2 ^ 62)≤j∧j<2 ^ 62∧R (Itr 0 j.toNat) H1
theorem zch {a:Expr}{ta:TA}{p pos:Pos}(hg:Gl X "range")(hm:X.mg "range" = none)(ha:PA X [a] ta)(hs:yxc [a] X.env=[(false,eval a X.env)]:=by rfl):PI X tg (.Call (.Name "range" p) [a] [] pos) (zkhc ta):=by
 intro pins s σ H R I h;refine Call_ (zgr I hg hm boot_range (ymd (thn (ha pos pins s σ H _ I h) λus s1 ⟨vs,H1,I1,r1,q1⟩=>?_) hs rfl));obtain⟨j,e,q1,q2,q⟩:=q1;subst e;cases r1 with
 | cons r rr =>
  cases rr;obtain⟨t,rfl⟩:=r;exact call_range_1 (zfvb I1 (by omega) (by omega) q1 q2 (by simpa using q))
def tFor (wi:TI)(g:TG)(tb:TS):TS:=λD σ H=>wi σ H λJ H1=>∃W:Nat->Nat->St->Hp->Prop,(∃m,W 0 m σ H1)∧∀i m σ H,W i m σ H →
 (J.stop i H∧D.nx σ H)∨(J.go i H∧∃N:St->Hp->Prop,(∀ σ' H',N σ' H'->∃m',m'<m∧W (i+1) m' σ' H')∧∀x H',J.yld i H x H'->g x σ H' fun σ2 H2=>tb { D with nx:=N,ct:=N,bk:=D.nx } σ2 H2)
def zcz (fp:List Addr)(h:Heap):List (Addr×Obj):=fp.filterMap λb=>(h.get? b).map λo=>(b,o)
theorem zjs {fp:List Addr}{h:Heap}{b:Addr}{o:Obj}(hb:b∈fp)(e:h.get? b=some o):(b,o)∈zcz fp h:=yfr.mpr ⟨b,hb,by rw[e];rfl⟩
theorem zxqb {fp:List Addr}{h:Heap}{p:Addr×Obj}(hp:p∈zcz fp h):p.1∈fp∧h.get? p.1=some p.2:=by
 obtain⟨b,hb,e⟩:=yfr.mp hp;cases q:h.get? b with
 | none=>rw[q] at e;cases e
 | some o =>
  rw[q] at e;have e':(b,o)=p:=yoc e;subst e';exact⟨hb,q⟩
theorem Inv.pinned {pins:List (Addr×Obj)}{σ:St}{H:Hp}{s:Shared}{fp:List Addr}(I:Inv X pins σ H s)(hf:∀b∈fp,FpOk X pins H b)(ho:∀b∈fp,∃o,s.heap.get? b=some o∧∀v,o.data ≠ .cell v):Inv X (pins++zcz fp s.heap) σ H s :=
 I.zcw λp hp=>(ykd.mp hp).elim (λz=>I.pin p (ygd _ z)) λz=>by
  obtain⟨hb,e⟩:=zxqb z;obtain⟨f0,f1,f2,_⟩:=hf p.1 hb;obtain⟨o,e',d⟩:=ho p.1 hb;rw[e] at e';cases e';exact⟨e,f0,f1,f2,d⟩
theorem Inv.zuz {pins pl:List (Addr×Obj)}{σ:St}{H:Hp}{s:Shared}(I:Inv X (pins++pl) σ H s):Inv X pins σ H s:=I.zcw λp hp=>I.pin p (ygd _ (yyi _ hp))
theorem zbh {iter:Expr}{body:List Stmt}{wi:TI}{g:TG}{tb:TS}{pos:Pos}(hp:PassesOwn (model X.prog X.w) X.A X.env X.xe)(hc:X.calm=true)(hi:PI X tg iter wi)(hg:PG X tg g)(hb:PSs X body tb)
  (hs:∀x,yen iter X.env x=pure x:=by intro _;rfl):PS X (.For tg iter body [] pos) (tFor wi g tb):=by
 intro pins s σ H D I h;refine wpAny_For (thn (hi pins s σ H _ I h) λv s1 h1=>thn h1 λitv s2 h2=>?_) hs;obtain⟨it,fp,tn,J,H2,e,I2,T,st2,f2,W,⟨m0,w0⟩,turn⟩:=h2;subst e;have stat:∀{H':Hp},(∀b∈fp,H' b=none)->∀b∈fp,FpOk X pins H' b:=λhn b hb=>⟨hn b hb,(f2 b hb).2⟩;refine codeAny_forLoop_any (λn s'=>∃i σ' H',Inv X pins σ' H' s'∧tn i s'.heap∧(∀b∈fp,H' b=none)∧W i n σ' H') ?_ m0 ⟨0,σ,H2,I2,st2,λb hb=>(f2 b hb).1,w0⟩;rintro n s3 ⟨i,σ3,H3,I3,st3,fr3,w3⟩
 rcases turn i n σ3 H3 w3 with⟨stop,qn⟩|⟨go,N,hN,step⟩
 ·refine ymh hp (thn (T.done X rfl rfl rfl hc i pins s3 σ3 H3 X.xe I3 (stat fr3) st3 stop) λr s4 ⟨hr,I4⟩=>?_);subst hr;exact ynl ⟨σ3,H3,I4,qn⟩
 ·refine ymh hp (thn (T.item X rfl rfl rfl hc i pins s3 σ3 H3 X.xe I3 (stat fr3) st3 go) λr s4 ⟨u,hr,h4⟩=>?_);subst hr;refine ymh hp (thn h4 λ_ s5 ⟨x,H5,I5,r5,y5,st5,fr5⟩=>?_);have I5':=I5.pinned (stat fr5) (T.obj _ _ st5);refine ymh hp (thn (hg _ s5 σ3 H5 x u _ I5' r5 (step x H5 y5)) λ_ s6 ⟨σ6,H6,I6,q6⟩=>?_);refine ymh hp (thn (hb _ s6 σ6 H6 _ I6 q6) λf s7 q7=>?_);have again:∀{σ7:St} {H7:Hp},Inv X (pins++zcz fp s5.heap) σ7 H7 s7->N σ7 H7->∃m,m<n∧∃i σ' H',Inv X pins σ' H' s7∧tn i s7.heap∧(∀b∈fp,H' b=none)∧W i m σ' H':=λ{σ7 H7} I7 n7=>by
   obtain⟨m',hm,w7⟩:=hN σ7 H7 n7;refine⟨m',hm,i+1,σ7,H7,I7.zuz,T.keep _ _ _ st5 λb hb o e=>(I7.pin (b,o) (ygd _ (ygd _ (zjs hb e)))).1,λb hb=>?_,w7⟩;obtain⟨o,e,d⟩:=T.obj _ _ st5 b hb;exact (I7.pin (b,o) (ygd _ (ygd _ (zjs hb e)))).2.1
  cases f with
  | next=>obtain⟨σ7,H7,I7,n7⟩:=q7;exact again I7 n7
  | cont=>obtain⟨σ7,H7,I7,n7⟩:=q7;exact again I7 n7
  | brk=>obtain⟨σ7,H7,I7,q7⟩:=q7;exact⟨σ7,H7,I7.zuz,q7⟩
  | ret v=>obtain⟨x7,σ7,H7,I7,r7,q7⟩:=q7;exact⟨x7,σ7,H7,I7.zuz,r7,q7⟩
end
theorem zgh {K:yda}{a:Addr}{xs:List V}{g:TG}{tb:TS}{D:Ends}{σ:St}{H:Hp}(Pv:Nat->St->Hp->Prop)(h0:Pv 0 σ H)(hl:∀i σ H,i≤xs.length->Pv i σ H->SqL K H a xs)
  (hs:∀i x σ H,xs[i]?=some x->Pv i σ H->g x σ H fun σ2 H2=>tb { D with nx:=Pv (i+1),ct:=Pv (i+1),bk:=D.nx } σ2 H2) (hd:∀ σ H,Pv xs.length σ H->D.nx σ H) :
  ∃W:Nat->Nat->St->Hp->Prop,(∃m,W 0 m σ H)∧∀i m σ H,W i m σ H →
   ((Itl K a).stop i H∧D.nx σ H)∨((Itl K a).go i H∧∃N:St->Hp->Prop,(∀ σ' H',N σ' H'->∃m',m'<m∧W (i+1) m' σ' H')∧∀x H',(Itl K a).yld i H x H'->g x σ H' fun σ2 H2=>tb { D with nx:=N,ct:=N,bk:=D.nx } σ2 H2):=by
 refine⟨λi m σ H=>m=xs.length-i∧i≤xs.length∧Pv i σ H,⟨xs.length,by simp,ywa _,h0⟩,?_⟩;rintro i m σ H ⟨rfl,hi,p⟩;have q:=hl i σ H hi p
 by_cases hlt:i<xs.length
 ·refine .inr ⟨⟨xs,xs[i],q,by simp[hlt]⟩,Pv (i+1),fun σ' H' p'=>⟨xs.length-(i+1),by omega,rfl,hlt,p'⟩,λx H' y=>?_⟩;obtain⟨e,y⟩:=y;subst e;exact hs i x σ _ (y xs q) p
 ·have e:i=xs.length:=by omega
  subst e;exact .inl ⟨⟨xs,q,yga _⟩,hd σ H p⟩
theorem zqn {lo:Int}{n:Nat}{g:TG}{tb:TS}{D:Ends}{σ:St}{H:Hp}(Pv:Nat->St->Hp->Prop)(h0:Pv 0 σ H)
  (hs:∀i σ H,i<n->Pv i σ H->g (.int (lo+i)) σ H fun σ2 H2=>tb { D with nx:=Pv (i+1),ct:=Pv (i+1),bk:=D.nx } σ2 H2) (hd:∀ σ H,Pv n σ H->D.nx σ H) :
  ∃W:Nat->Nat->St->Hp->Prop,(∃m,W 0 m σ H)∧∀i m σ H,W i m σ H →
   ((Itr lo n).stop i H∧D.nx σ H)∨((Itr lo n).go i H∧∃N:St->Hp->Prop,(∀ σ' H',N σ' H'->∃m',m'<m∧W (i+1) m' σ' H')∧∀x H',(Itr lo n).yld i H x H'->g x σ H' fun σ2 H2=>tb { D with nx:=N,ct:=N,bk:=D.nx } σ2 H2):=by
 refine⟨λi m σ H=>m=n-i∧i≤n∧Pv i σ H,⟨n,by simp,ywa _,h0⟩,?_⟩;rintro i m σ H ⟨rfl,hi,p⟩
 by_cases hlt:i<n
 ·refine .inr ⟨hlt,Pv (i+1),fun σ' H' p'=>⟨n-(i+1),by omega,rfl,hlt,p'⟩,λx H' y=>?_⟩;obtain⟨e,y⟩:=y;subst e y;exact hs i σ _ hlt p
 ·have e:i=n:=by omega
  subst e;exact .inl ⟨yga _,hd σ H p⟩
end L2
namespace L2
open PySem PySem.Spec PyProof.Rows
abbrev R2:=V->V->Hp->VK->Prop
def OpR (X:Cx)(f:Value->Value->Sem Value)(r:R2):Prop :=
 ∀(pins:List (Addr×Obj)) (s:Shared) (σ:St) (H:Hp) (x y:V) (v u:Value) (Q:VK),Inv X pins σ H s->RelV x v->RelV y u->r x y H Q →
  wpAny (model X.prog X.w) X.A (f v u) (EP X pins σ Q) X.xe s
def UnR (X:Cx)(f:Value->Sem Value)(r:V->Hp->VK->Prop):Prop :=
 ∀(pins:List (Addr×Obj)) (s:Shared) (σ:St) (H:Hp) (x:V) (v:Value) (Q:VK),Inv X pins σ H s->RelV x v->r x H Q →
  wpAny (model X.prog X.w) X.A (f v) (EP X pins σ Q) X.xe s
def zfi (X:Cx)(f:Value)(r:List V->Hp->VK->Prop):Prop :=
 ∀(pins:List (Addr×Obj)) (s:Shared) (σ:St) (H:Hp) (xs:List V) (us:List Value) (Q:VK),Inv X pins σ H s->Vals xs us->r xs H Q →
  wpAny (model X.prog X.w) X.A (call f us) (EP X pins σ Q) X.xe s
def TruR (X:Cx)(r:V->Hp->(Bool->Hp->Prop)->Prop):Prop :=
 ∀(pins:List (Addr×Obj)) (s:Shared) (σ:St) (H:Hp) (x:V) (v:Value) (Q:Bool->Hp->Prop),Inv X pins σ H s->RelV x v->r x H Q →
  wpAny (model X.prog X.w) X.A (truthy v) (TP X pins σ Q) X.xe s
def tOp (r:R2)(ta tb:TE):TE:=fun σ H Q=>ta σ H λx H1=>tb σ H1 λy H2=>r x y H2 Q
def tUn (r:V->Hp->VK->Prop)(ta:TE):TE:=fun σ H Q=>ta σ H λx H1=>r x H1 Q
def rI (C:Int->Int->Prop)(g:Int->Int->V):R2:=λx y H Q=>Ex2 λi j=>x = .int i∧y = .int j∧C i j∧Q (g i j) H
def rI0 (g:Int->Int->V):R2:=λx y H Q=>Ex2 λi j=>x = .int i∧y = .int j∧Q (g i j) H
def rU (g:Int->V):V->Hp->VK->Prop:=λx H Q=>∃i,x = .int i∧Q (g i) H
section
variable {X:Cx}{a b c:Expr}{ta tb tc:TE}{pos:Pos}
theorem binT (ha:PE X a ta)(hb:PE X b tb){pins:List (Addr×Obj)}{s:Shared}{σ:St}{H:Hp}{R:V->V->Hp->Prop}(I:Inv X pins σ H s)
  (h:ta σ H λx H1=>tb σ H1 λy H2=>R x y H2) {Q:Value->Shared->Prop} {f:Value->Value->Sem Value}
  (hf:∀v u s2 x y H2,Inv X pins σ H2 s2->RelV x v->RelV y u->R x y H2->wpAny (model X.prog X.w) X.A (f v u) Q X.xe s2) :
  wpAny (model X.prog X.w) X.A (eval a X.env) (λv s₁=>wpAny (model X.prog X.w) X.A (eval b X.env) (λu s₂=>wpAny (model X.prog X.w) X.A (f v u) Q X.xe s₂) X.xe s₁) X.xe s:=by
 refine thn (ha pins s σ H _ I h) λv s1 ⟨x,H1,I1,r1,q1⟩=>?_;refine thn (hb pins s1 σ H1 _ I1 q1) λu s2 ⟨y,H2,I2,r2,q2⟩=>?_;exact hf v u s2 x y H2 I2 r1 r2 q2
theorem zgb {op:Operator}{r:R2}(ho:OpR X (ydj op) r)(ha:PE X a ta)(hb:PE X b tb):PE X (.BinOp a op b pos) (tOp r ta tb):=by
 intro pins s σ H Q I h;exact wpAny_BinOp (binT ha hb I h λv u s2 x y H2 I2 rx ry q=>ho pins s2 σ H2 x y v u Q I2 rx ry q)
theorem zkab {op:UnaryOp}{r:V->Hp->VK->Prop}(ho:UnR X (unaryOp op) r)(ha:PE X a ta):PE X (.UnaryOp op a pos) (tUn r ta):=by
 intro pins s σ H Q I h;exact UnaryOp_ (thn (ha pins s σ H _ I h) λv s1 ⟨x,H1,I1,r1,q1⟩=>ho pins s1 σ H1 x v Q I1 r1 q1)
theorem opI {f:Value->Value->Sem Value}{C:Int->Int->Prop}{g:Int->Int->Int}
  (rule:∀(i j:Int) (t u:Tok) (s:Shared) (Q:Value->Shared->Prop) (E:Value->Shared->Prop),C i j->Q (.int (g i j) s.toks) { s with toks:=s.toks+1 }->wpAny (model X.prog X.w) X.A (f (.int i t) (.int j u)) Q E s) :
  OpR X f (rI C λi j=>.int (g i j)):=by
 intro pins s σ H x y v u Q I rx ry h;obtain⟨i,j,rfl,rfl,hc,q⟩:=h;obtain⟨t,rfl⟩:=rx;obtain⟨t',rfl⟩:=ry;exact rule i j t t' s _ _ hc ⟨.int (g i j),H,I.tok _,⟨_,rfl⟩,q⟩
theorem opI0 {f:Value->Value->Sem Value}{g:Int->Int->Int}
  (rule:∀(i j:Int) (t u:Tok) (s:Shared) (Q:Value->Shared->Prop) (E:Value->Shared->Prop),Q (.int (g i j) s.toks) { s with toks:=s.toks+1 }->wpAny (model X.prog X.w) X.A (f (.int i t) (.int j u)) Q E s) :
  OpR X f (rI0 λi j=>.int (g i j)):=by
 intro pins s σ H x y v u Q I rx ry h;obtain⟨i,j,rfl,rfl,q⟩:=h;obtain⟨t,rfl⟩:=rx;obtain⟨t',rfl⟩:=ry;exact rule i j t t' s _ _ ⟨.int (g i j),H,I.tok _,⟨_,rfl⟩,q⟩
theorem opB0 {f:Value->Value->Sem Value}{g:Int->Int->Bool}
  (rule:∀(i j:Int) (t u:Tok) (s:Shared) (Q:Value->Shared->Prop) (E:Value->Shared->Prop),Q (.bool (g i j)) s->wpAny (model X.prog X.w) X.A (f (.int i t) (.int j u)) Q E s) :
  OpR X f (rI0 λi j=>.bl (g i j)):=by
 intro pins s σ H x y v u Q I rx ry h;obtain⟨i,j,rfl,rfl,q⟩:=h;obtain⟨t,rfl⟩:=rx;obtain⟨t',rfl⟩:=ry;exact rule i j t t' s _ _ ⟨.bl (g i j),H,I,rfl,q⟩
def CDiv (i j:Int):Prop:=0<j∧j<1073741824
def CMul (i j:Int):Prop:=(-(2 ^ 64)<i∧i<2 ^ 64)∨(-(2 ^ 64)<j∧j<2 ^ 64)
theorem CMul.ok {i j:Int}(h:CMul i j):IntMulOk i j:=by
 rcases h with⟨h1,h2⟩|⟨h1,h2⟩
 ·exact .of_left (intBits_le_64 h1 h2)
 ·exact .of_right (intBits_le_64 h1 h2)
theorem zue:OpR X (ydj .Add) (rI0 λi j=>.int (i+j)):=opI0 λ_ _ _ _ _ _ _ q=>add_int q
theorem znm:OpR X (ydj .Sub) (rI0 λi j=>.int (i-j)):=opI0 λ_ _ _ _ _ _ _ q=>sub_int q
theorem zso:OpR X (ydj .Mult) (rI CMul λi j=>.int (i*j)):=opI λ_ _ _ _ _ _ _ hc q=>mul_int q hc.ok
theorem zdn:OpR X (ydj .FloorDiv) (rI CDiv λi j=>.int (i / j)):=opI λi j _ _ _ _ _ hc q=>by
 have h1:(0:Int)<j:=hc.1;have h2:j<1073741824:=hc.2;exact floordiv_int (by omega) (by rw[Int.fdiv_eq_ediv_of_nonneg i (by omega)];exact q) (.inl (PyProof.noPylong_small (by omega)))
theorem zdh:OpR X (ydj .Mod) (rI (λ_ j=>0<j) λi j=>.int (i % j)):=opI λi j _ _ _ _ _ hc q=>by
 have h1:(0:Int)<j:=hc;exact mod_int' (by omega) (by rw[Int.fmod_eq_emod_of_nonneg i (by omega)];exact q)
theorem unI {f:Value->Sem Value}{g:Int->Int}
  (rule:∀(i:Int) (t:Tok) (s:Shared) (Q:Value->Shared->Prop) (E:Value->Shared->Prop),Q (.int (g i) s.toks) { s with toks:=s.toks+1 }->wpAny (model X.prog X.w) X.A (f (.int i t)) Q E s) :
  UnR X f (rU λi=>.int (g i)):=by
 intro pins s σ H x v Q I rx h;obtain⟨i,rfl,q⟩:=h;obtain⟨t,rfl⟩:=rx;exact rule i t s _ _ ⟨.int (g i),H,I.tok _,⟨_,rfl⟩,q⟩
theorem ziq:UnR X (unaryOp .USub) (rU λi=>.int (-i)):=unI λ_ _ _ _ _ q=>neg_int q
end
def scal:V->V->Bool
 | .non,.non=>true|.non,.int _=>true|.int _,.non=>true|.non,.bl _=>true|.bl _,.non=>true|.non,.str _=>true|.str _,.non=>true
 | .int _,.int _=>true|.bl _,.bl _=>true|.str _,.str _=>true|.byt _,.byt _=>true
 | .int _,.str _=>true|.str _,.int _=>true|.bl _,.str _=>true|.str _,.bl _=>true
 | _,_=>false
def rEq:R2:=λx y H Q=>scal x y=true∧Q (.bl (decide (x=y))) H
def rNe:R2:=λx y H Q=>scal x y=true∧Q (.bl (!decide (x=y))) H
theorem zjsb {i j:Int}:decide (V.int i=V.int j)=(i==j):=by
 rw[ypl];simp
theorem zvyb {i j:Bool}:decide (V.bl i=V.bl j)=(i==j):=by
 rw[ypl];simp
theorem zisb {i j:Str}:decide (V.str i=V.str j)=(i==j):=by
 rw[ypl];simp
theorem zksb {i j:Array UInt8}:decide (V.byt i=V.byt j)=(i.toList==j.toList):=by
 rw[ypl];cases i;cases j;simp
section
variable {X:Cx}{a b c:Expr}{ta tb tc:TE}{pos:Pos}
theorem zfd {pins:List (Addr×Obj)}{σ:St}{H:Hp}{s:Shared}{Q:VK}{k k':Bool}(I:Inv X pins σ H s)(q:Q (.bl k) H)(e:k=k'):EP X pins σ Q (.bool k') s:=by
 subst e;exact⟨.bl k,H,I,rfl,q⟩
theorem zoh:OpR X (yaf .Eq) rEq:=by
 intro pins s σ H x y v u Q I rx ry h;obtain⟨hs,q⟩:=h;cases x with
 | non =>
  cases rx;cases y with
  | non=>cases ry;exact PySem.EqNone.eq_none_none (zfd I q (by simp))
  | bl j=>cases ry;exact PySem.EqNone.eq_none_bool (zfd I q (by simp))
  | int j=>obtain⟨t',rfl⟩:=ry;exact PySem.EqNone.eq_none_int (zfd I q (by simp))
  | str j=>obtain⟨t',rfl⟩:=ry;exact PySem.EqNone.eq_none_str (zfd I q (by simp))
  | _=>exact absurd (show false=true from hs) ymb
 | bl i =>
  cases rx;cases y with
  | non=>cases ry;exact PySem.EqNone.eq_bool_none (zfd I q (by simp))
  | bl j=>cases ry;exact eq_bool (zfd I q zvyb)
  | str j=>obtain⟨t',rfl⟩:=ry;exact PySem.EqMixed.eq_bool_str (zfd I q (by simp))
  | _=>exact absurd (show false=true from hs) ymb
 | int i =>
  obtain⟨t,rfl⟩:=rx;cases y with
  | non=>cases ry;exact PySem.EqNone.eq_int_none (zfd I q (by simp))
  | int j=>obtain⟨t',rfl⟩:=ry;exact eq_int (zfd I q zjsb)
  | str j=>obtain⟨t',rfl⟩:=ry;exact PySem.EqMixed.eq_int_str (zfd I q (by simp))
  | _=>exact absurd (show false=true from hs) ymb
 | str i =>
  obtain⟨t,rfl⟩:=rx;cases y with
  | non=>cases ry;exact PySem.EqNone.eq_str_none (zfd I q (by simp))
  | bl j=>cases ry;exact PySem.EqMixed.eq_str_bool (zfd I q (by simp))
  | int j=>obtain⟨t',rfl⟩:=ry;exact PySem.EqMixed.eq_str_int (zfd I q (by simp))
  | str j=>obtain⟨t',rfl⟩:=ry;exact eq_str (zfd I q zisb)
  | _=>exact absurd (show false=true from hs) ymb
 | byt i =>
  obtain⟨t,rfl⟩:=rx;cases y with
  | byt j=>obtain⟨t',rfl⟩:=ry;exact PySem.W.eq_bytes (zfd I q zksb)
  | _=>exact absurd (show false=true from hs) ymb
 | _=>cases y<;>exact absurd (show false=true from hs) ymb
theorem zphb:OpR X (yaf .NotEq) rNe:=by
 intro pins s σ H x y v u Q I rx ry h;obtain⟨hs,q⟩:=h;cases x with
 | non =>
  cases rx;cases y with
  | non=>cases ry;exact PySem.EqNone.ne_none_none (zfd I q (by simp))
  | bl j=>cases ry;exact PySem.EqNone.ne_none_bool (zfd I q (by simp))
  | int j=>obtain⟨t',rfl⟩:=ry;exact PySem.EqNone.ne_none_int (zfd I q (by simp))
  | str j=>obtain⟨t',rfl⟩:=ry;exact PySem.EqNone.ne_none_str (zfd I q (by simp))
  | _=>exact absurd (show false=true from hs) ymb
 | bl i =>
  cases rx;cases y with
  | non=>cases ry;exact PySem.EqNone.ne_bool_none (zfd I q (by simp))
  | bl j=>cases ry;exact ne_bool (zfd I q (congrArg not zvyb))
  | str j=>obtain⟨t',rfl⟩:=ry;exact PySem.EqMixed.ne_bool_str (zfd I q (by simp))
  | _=>exact absurd (show false=true from hs) ymb
 | int i =>
  obtain⟨t,rfl⟩:=rx;cases y with
  | non=>cases ry;exact PySem.EqNone.ne_int_none (zfd I q (by simp))
  | int j=>obtain⟨t',rfl⟩:=ry;exact ne_int (zfd I q (congrArg not zjsb))
  | str j=>obtain⟨t',rfl⟩:=ry;exact PySem.EqMixed.ne_int_str (zfd I q (by simp))
  | _=>exact absurd (show false=true from hs) ymb
 | str i =>
  obtain⟨t,rfl⟩:=rx;cases y with
  | non=>cases ry;exact PySem.EqNone.ne_str_none (zfd I q (by simp))
  | bl j=>cases ry;exact PySem.EqMixed.ne_str_bool (zfd I q (by simp))
  | int j=>obtain⟨t',rfl⟩:=ry;exact PySem.EqMixed.ne_str_int (zfd I q (by simp))
  | str j=>obtain⟨t',rfl⟩:=ry;exact ne_str (zfd I q (congrArg not zisb))
  | _=>exact absurd (show false=true from hs) ymb
 | byt i =>
  obtain⟨t,rfl⟩:=rx;cases y with
  | byt j=>obtain⟨t',rfl⟩:=ry;exact PySem.W.ne_bytes (zfd I q (congrArg not zksb))
  | _=>exact absurd (show false=true from hs) ymb
 | _=>cases y<;>exact absurd (show false=true from hs) ymb
theorem zpqb:OpR X (yaf .Lt) (rI0 λi j=>.bl (decide (i<j))):=opB0 λ_ _ _ _ _ _ _ q=>lt_int q
theorem zoab:OpR X (yaf .LtE) (rI0 λi j=>.bl (decide (i≤j))):=opB0 λ_ _ _ _ _ _ _ q=>le_int q
theorem zdnb:OpR X (yaf .Gt) (rI0 λi j=>.bl (decide (j<i))):=opB0 λ_ _ _ _ _ _ _ q=>gt_int q
theorem zchc:OpR X (yaf .GtE) (rI0 λi j=>.bl (decide (j≤i))):=opB0 λ_ _ _ _ _ _ _ q=>ge_int q
theorem zbeb:OpR X (yaf .In) (λx y H Q=>Ex2 λi j=>x = .str i∧y = .str j∧Q (.bl (!(yud j i 0 j.length 1).isEmpty)) H):=by
 intro pins s σ H x y v u Q I rx ry h;obtain⟨i,j,rfl,rfl,q⟩:=h;obtain⟨t,rfl⟩:=rx;obtain⟨t',rfl⟩:=ry;exact in_str (zfd I q rfl)
theorem zfyb:OpR X (yaf .Is) (λx y H Q=>y = .non∧Q (.bl (decide (x = .non))) H):=by
 intro pins s σ H x y v u Q I rx ry h;obtain⟨rfl,q⟩:=h;cases ry;refine is_none_gen (zfd I q ?_);cases x<;>first
  | (cases rx;rfl)
  | (obtain⟨t,rfl⟩:=rx;rfl)
theorem zds:OpR X (yaf .IsNot) (λx y H Q=>y = .non∧Q (.bl (!decide (x = .non))) H):=by
 intro pins s σ H x y v u Q I rx ry h;obtain⟨rfl,q⟩:=h;cases ry;refine isnot_none_gen (zfd I q ?_);cases x<;>first
  | (cases rx;rfl)
  | (obtain⟨t,rfl⟩:=rx;rfl)
theorem zfb (b:Expr){op:CmpOp}(h:op ≠ .In:=by decide)(h2:op ≠ .NotIn:=by decide):yxn op b=false:=by
 have e1:(op==CmpOp.In)=false:=by cases op<;>first|rfl|exact absurd rfl h
 have e2:(op==CmpOp.NotIn)=false:=by cases op<;>first|rfl|exact absurd rfl h2
 cases b<;>simp[yxn,e1,e2]
theorem zyh {op:CmpOp}{r:R2}(ho:OpR X (yaf op) r)(ha:PE X a ta)(hb:PE X b tb)(hm:yxn op b=false):PE X (.Compare a [op] [b] pos) (tOp r ta tb):=by
 intro pins s σ H Q I h;exact wpAny_Compare1 (binT ha hb I h λv u s2 x y H2 I2 rx ry q=>ho pins s2 σ H2 x y v u Q I2 rx ry q) hm
def zadc (t:TE):TT:=fun σ H Q=>t σ H λx H'=>∃k,x = .bl k∧Q k H'
theorem zxa {op:CmpOp}{r:R2}(ho:OpR X (yaf op) r)(ha:PE X a ta)(hb:PE X b tb)(hm:yxn op b=false):PT X (.Compare a [op] [b] pos) (zadc (tOp r ta tb)):=by
 intro pins s σ H Q I h;refine wpAny_isTrue_Compare1 (thn (ha pins s σ H _ I h) λv s1 ⟨x,H1,I1,r1,q1⟩=>thn (hb pins s1 σ H1 _ I1 q1) λu s2 ⟨y,H2,I2,r2,q2⟩ =>
  thn (ho pins s2 σ H2 x y v u _ I2 r1 r2 q2) λc s3 ⟨z,H3,I3,r3,k,e,q3⟩=>?_) hm
 subst e;cases r3;exact yke ⟨H3,I3,q3⟩
def zrxb (r r':R2)(ta tb tc:TE):TE:=fun σ H Q=>ta σ H λx H1=>tb σ H1 λy H2=>r x y H2 λz H3=>∃k,z = .bl k ∧
 (if k=true then tc σ H3 λw' H4=>r' y w' H4 Q else Q (.bl false) H3)
theorem zovb {op op':CmpOp}{r r':R2}(ho:OpR X (yaf op) r)(ho':OpR X (yaf op') r')(ha:PE X a ta)(hb:PE X b tb)(hc:PE X c tc)
  (hm:lastMarks [op,op'] [b,c]=false:=by with_unfolding_all rfl):PE X (.Compare a [op,op'] [b,c] pos) (zrxb r r' ta tb tc):=by
 intro pins s σ H Q I h;refine Compare_chain (thn (ha pins s σ H _ I h) λv s1 ⟨x,H1,I1,r1,q1⟩=>chain_link (thn (hb pins s1 σ H1 _ I1 q1) λu s2 ⟨y,H2,I2,r2,q2⟩ =>
  thn (ho pins s2 σ H2 x y v u _ I2 r1 r2 q2) λd s3 ⟨z,H3,I3,r3,k,e,q3⟩=>?_)) hm
 subst e;cases r3;refine yke ?_;cases k with
 | false=>exact ite_ff ⟨.bl false,H3,I3,rfl,q3⟩
 | true=>exact ite_tt (chain_last (thn (hc pins s3 σ H3 _ I3 q3) λw' s4 ⟨z',H4,I4,r4,q4⟩=>ho' pins s4 σ H4 y z' u w' Q I4 r2 r4 q4))
theorem zalb {op op':CmpOp}{r r':R2}(ho:OpR X (yaf op) r)(ho':OpR X (yaf op') r')(ha:PE X a ta)(hb:PE X b tb)(hc:PE X c tc)
  (hm:lastMarks [op,op'] [b,c]=false:=by with_unfolding_all rfl):PT X (.Compare a [op,op'] [b,c] pos) (zadc (zrxb r r' ta tb tc)):=by
 intro pins s σ H Q I h;refine isTrue_chain (thn (ha pins s σ H _ I h) λv s1 ⟨x,H1,I1,r1,q1⟩=>test_link (thn (hb pins s1 σ H1 _ I1 q1) λu s2 ⟨y,H2,I2,r2,q2⟩ =>
  thn (ho pins s2 σ H2 x y v u _ I2 r1 r2 q2) λd s3 ⟨z,H3,I3,r3,k,e,q3⟩=>?_)) hm
 subst e;cases r3;refine yke ?_;cases k with
 | false =>
  obtain⟨k',e',q'⟩:=q3;cases e';exact ite_ff ⟨H3,I3,q'⟩
 | true =>
  refine ite_tt (test_last (thn (hc pins s3 σ H3 _ I3 q3) λw' s4 ⟨z',H4,I4,r4,q4⟩=>thn (ho' pins s4 σ H4 y z' u w' _ I4 r2 r4 q4) λd' s5 ⟨z2,H5,I5,r5,k2,e2,q5⟩=>?_));subst e2;cases r5;exact yke ⟨H5,I5,q5⟩
def TruV (K:yda)(x:V)(H:Hp)(k:Bool):Prop :=
 match x with
 | .non=>k=false
 | .bl b=>k=b
 | .int i=>k=(i != 0)
 | .str y=>y.length≤yva∧k=((y.length:Int) != 0)
 | .byt y=>y.size≤yva∧k=((y.size:Int) != 0)
 | .ref p=>(∃xs,SqL K H p xs∧k = !xs.isEmpty)∨(∃xs,SqT K H p xs∧k = !xs.isEmpty)∨∃kvs,H p=some (.dK kvs)∧k = !kvs.isEmpty
 | _=>False
theorem zsnb {κ:Type}{kvs:List (κ×V)}{vs:List (κ×Value)}(r:KV kvs vs):(!vs.isEmpty) = !kvs.isEmpty:=by
 cases r<;>rfl
theorem ziz {xs:List V}{its:List Value}(r:Vals xs its):(!its.toArray.isEmpty) = !xs.isEmpty:=by
 cases r<;>simp
theorem zmw:(yva:Nat)<2 ^ 63:=by rw[sizeLine_eq];decide
theorem zxcc:TruR X (λx H Q=>∃k,TruV X.K x H k∧Q k H):=by
 intro pins s σ H x v Q I rx h;obtain⟨k,e,q⟩:=h;have hl:=zmw;have hs:yva=16777216:=sizeLine_eq;cases x with
 | non =>
  cases rx;have e':k=false:=e;subst e';exact truthy_none ⟨H,I,q⟩
 | bl b =>
  cases rx;have e':k=b:=e;subst e';exact yke ⟨H,I,q⟩
 | int i =>
  obtain⟨t,rfl⟩:=rx;have e':k=(i != 0):=e;subst e';exact PySem.P.truthy_int ⟨H,I,q⟩
 | str y =>
  obtain⟨t,rfl⟩:=rx;obtain⟨hy,e'⟩:y.length≤yva∧k=((y.length:Int) != 0):=e;subst e';exact PySem.P.truthy_str (by omega) ⟨H,I.tok _,q⟩
 | byt y =>
  obtain⟨t,rfl⟩:=rx;obtain⟨hy,e'⟩:y.size≤yva∧k=((y.size:Int) != 0):=e;subst e';exact PySem.W.truthy_bytes (by omega) ⟨H,I.tok _,q⟩
 | ref p =>
  cases rx;have e':(∃xs,SqL X.K H p xs∧k = !xs.isEmpty)∨(∃xs,SqT X.K H p xs∧k = !xs.isEmpty)∨∃kvs,H p=some (.dK kvs)∧k = !kvs.isEmpty:=e
  rcases e' with⟨xs,hx,e'⟩|⟨xs,hx,e'⟩|⟨kvs,hx,e'⟩
  ·subst e';obtain⟨its,r,pl,hz⟩:=I.list hx;have hlen:=r.length;exact wpAny_truthy_list pl.isList (by simp only[yqa];omega) ⟨H,I.tok _,by rw[ziz r];exact q⟩
  ·subst e';obtain⟨its,r,pl,hz⟩:=I.tuple hx;have hlen:=r.length;exact truthy_tuple pl (by simp only[yqa];omega) ⟨H,I.tok _,by rw[ziz r];exact q⟩
  ·subst e';obtain⟨hz,hS,vs,r,m⟩:kvs.length≤yva∧(p==sysModules)=false∧∃vs,KV kvs vs∧s.heap.DictOf (zyhb X.prog X.w) p vs:=I.hok p _ hx;have hlen:kvs.length=vs.length:=Paired.length r;exact wpAny_truthy_dict hS m (by omega) ⟨H,I.tok _,by rw[zsnb r];exact q⟩
 | _=>exact (show False from e).elim
theorem zrl (ha:PE X a ta)(he:∀whole,isTrue a X.env whole=(do let v ← whole;standAt a.pos;ygp [v] (truthy v))) :
  PT X a (fun σ H Q=>ta σ H λx H'=>∃k,TruV X.K x H' k∧Q k H'):=by
 intro pins s σ H Q I h;exact isTrue_plain (thn (ha pins s σ H _ I h) λv s1 ⟨x,H1,I1,r1,q1⟩=>zxcc pins s1 σ H1 x v Q I1 r1 q1) (he _)
theorem vals1 {x:V}{us:List Value}(r:Vals [x] us):∃u,us=[u]∧RelV x u:=by
 cases r with
 | cons r1 r2=>cases r2;exact⟨_,rfl,r1⟩
theorem vals2 {x y:V}{us:List Value}(r:Vals [x,y] us):Ex2 λu w'=>us=[u,w']∧RelV x u∧RelV y w':=by
 cases r with
 | cons r1 r2 =>
  cases r2 with
  | cons r3 r4=>cases r4;exact⟨_,_,rfl,r1,r3⟩
theorem zusb (hc:X.calm=true):zfi X (.builtin "max") (λxs H Q=>Ex2 λi j=>xs=[.int i,.int j]∧Q (.int (if j>i then j else i)) H):=by
 intro pins s σ H xs us Q I r h;obtain⟨i,j,rfl,q⟩:=h;obtain⟨u,w',rfl,⟨t,rfl⟩,⟨t',rfl⟩⟩:=vals2 r;refine max_two_ints (I.ok.hd hc) λh' tk k=>⟨_,H,I.kept k,?_,q⟩
 by_cases hj:j>i
 ·rw[if_pos hj,if_pos hj];exact⟨_,rfl⟩
 ·rw[if_neg hj,if_neg hj];exact⟨_,rfl⟩
theorem zax:zfi X (.type "int") (λxs H Q=>(∃i,xs=[.int i]∧Q (.int i) H)∨∃k,xs=[.bl k]∧Q (.int (if k then 1 else 0)) H):=by
 intro pins s σ H xs us Q I r h
 rcases h with⟨i,rfl,q⟩|⟨k,rfl,q⟩
 ·obtain⟨u,rfl,t,rfl⟩:=vals1 r;exact call_int_int ⟨.int i,H,I,⟨_,rfl⟩,q⟩
 ·obtain⟨u,rfl,r1⟩:=vals1 r;cases r1;exact call_int_bool ⟨.int (if k then 1 else 0),H,I.tok _,⟨_,rfl⟩,q⟩
theorem zvt:zfi X (.type "str") (λxs H Q=>∃i,xs=[.int i]∧i.natAbs.log2<1920∧Q (.str (toString i)) H):=by
 intro pins s σ H xs us Q I r h;obtain⟨i,rfl,hz,q⟩:=h;obtain⟨u,rfl,t,rfl⟩:=vals1 r;exact PySem.P.str_of_int hz ⟨.str _,H,I.tok _,⟨_,rfl⟩,q⟩
end
end L2
namespace L2
open PySem PySem.Spec PyProof.Rows
structure ObjM (h:Heap)(x dx C:Addr)(mA:Str->Option Value):Prop where
 obj:h.get? x=some (yjg C dx)
 ns:h.Ns1 dx mA
 ne:dx≠x
theorem zfrb {h:Heap}{dx:Addr}{mA:Str->Option Value}(n:h.Ns1 dx mA):∃od,h.get? dx=some od∧∀name,ysm name od=some (mA name):=by
 obtain⟨o,es,ep,ho,hd,hk,_,hm⟩:=n;refine⟨o,ho,λname=>?_⟩;have e:=hm name;unfold nsFind findBy at e;rw[← Array.find?_toList] at e;unfold ysm;rw[hd];dsimp only
 split
 ·rename_i y q;rw[q] at e;exact congrArg some e
 ·rename_i q;rw[q] at e;have a:es.toList.any (·.refKey)=false:=by
   rw[List.any_eq_false];intro y hy;obtain⟨z,t,hkey⟩:=hk y (Array.mem_toList_iff.mp hy);simp[DictEntry.refKey,hkey]
  have a':¬ es.toList.any (·.refKey)=true:=by rw[a];exact ymb
  rw[if_neg a'];exact congrArg some e
theorem ObjM.look {h:Heap}{x dx C:Addr}{mA:Str->Option Value}(I:ObjM h x dx C mA):∃od,PySem.W.InstAt h x (yjg C dx) C (some od)∧∀name,ysm name od=some (mA name) :=
 let ⟨od,ho,hl⟩:=zfrb I.ns
 ⟨od,⟨I.obj,rfl,rfl,ho⟩,hl⟩
section
variable {prog:yzb}{w:World}{A:Around}{E:Value->Shared->Prop}{s:Shared}{K:yda}{x dx C f:Addr}{mA:Str->Option Value}{name:Str}{v:Value}
theorem get_map {expr:Bool}{Q:Value->Shared->Prop}(X:K.In s.heap)(I:ObjM s.heap x dx C mA)(hg:yag K C name=true)(hh:yhg K C=true)
  (ha:yjb K (.ref C) name=some none) (hv:mA name=some v) (hv':yrs v=true) (h:Q v { s with toks:=s.toks+1 }) :
  wpAny (model prog w) A (getAttr (.ref x) name expr) Q E s:=by
 obtain⟨od,J,hl⟩:=I.look;exact PySem.W.get_value X J (yql hg).1 (PySem.W.findObj_own hh ha rfl (by rw[hl,hv])) hv' h
theorem zowb {pl:Sem Bool}{Q:Value×List Value->Shared->Prop}(X:K.In s.heap)(I:ObjM s.heap x dx C mA)(hg:yag K C name=true)
  (hf:yjb K (.ref C) name=some (some (.ref f))) (ht:yqk K (.ref f)=true) (hv:mA name=none) (h:Q (.ref f,[.ref x]) s) :
  wpAny (model prog w) A (yft (.ref x) name pl) Q E s:=by
 obtain⟨od,J,hl⟩:=I.look;exact PySem.W.method_fn X J (yql hg).1 (yql hg).2 hf (beq_iff_eq.mp ht) (by show (ysm name od).map (·.isSome)=some false;rw[hl,hv];rfl) h
theorem zpac {ns:List Str}{Q:Unit->Shared->Prop}(X:K.In s.heap)(I:ObjM s.heap x dx C mA)
  (hs:yjb K (.ref C) "__setattr__" = some (some (.builtin "object.__setattr__"))) (hp:ynh K C=true) (ht:yhp K C name=some none) (hh:yhg K C=true)
  (hw:yfp mA ns) (hsz:ns.length≤yva)
  (h:∀h',ObjM h' x dx C (λy=>if y=name then some v else mA y)->yae dx s.heap h'->Q () { s with heap:=h',toks:=s.toks+2 }) :
  wpAny (model prog w) A (setAttr (.ref x) name v) Q E s:=by
 obtain⟨od,J,hl⟩:=I.look;refine PySem.W.set_plain X J hs (PySem.W.osa_open (s:={ s with toks:=s.toks+1 }) (r:=none) X J hp ht λb=>?_);obtain⟨cd,hc,hd'⟩:=PySem.W.any_some hh;have hx:s.heap.get? x=some ⟨.ref C,some dx,.plain,#[]⟩:=I.obj;refine yaa (yea (yaa (yaa (wpAny_loadPart hx (yaa (PySem.W.Looks.here (s:={ s with toks:=s.toks+1 }) (PySem.W.looks_clsIn X hc) ?_))))));rw[hd'];refine yea (a:=some dx) (yaa (yea (yaa ?_)));refine wpAny_nsSet1 (s:={ s with toks:=s.toks+1 }) I.ns λh' hn2 hs2=>?_;obtain⟨oD,esD,epD,hoD,hdD,hcD⟩:=hn2.count (yfp.cons name v hw);refine yaa (wpAny_lookBehind hoD (by rw[hdD];exact pastItsLine_dict (yob hcD (by rw[ykc];omega))) ?_);exact yea (h _ ⟨(hs2.2 _ (ysc I.ne)).trans I.obj,hn2,I.ne⟩ hs2)
theorem zyvb {R:Result->Shared->Prop}{vs:List Value}{kw:List (Str×Value)}(X:K.In s.heap)(hm:yip K C=true)
  (hi:yjb K (.ref C) "__init__" = some (some (.ref f))) (hf:PySem.W.typeIn K (.ref f)=some (.type "function"))
  (h:yek (model prog w) (A.under (.builtin "type.__call__" ⟨.ref C::vs,kw⟩)) (.call (.ref f) ⟨.ref (s.heap.objs.size+1)::vs,kw⟩) (PySem.W.InitBack (s.heap.objs.size+1) R)
   { s with heap:=(s.heap.push ybf).push (yjg C s.heap.objs.size) }) :
  yek (model prog w) A (.call (.ref C) ⟨vs,kw⟩) R s:=by
 obtain⟨hh,g,d,t,os⟩:=s;exact PySem.W.make_core (PySem.W.makes_of X hm) (PySem.W.looks_findIn X hi) (λself=>PySem.W.bind_fn X self hf) (.inl rfl) h
end
def putF (f:Str)(v:V):List (Str×V)->List (Str×V)
 | []=>[(f,v)]
 | (g,x)::r=>if g=f then (g,v)::r else (g,x)::putF f v r
theorem zlw (f g:Str)(v:V):∀fs:List (Str×V),(putF f v fs).lookup g=if g=f then some v else fs.lookup g
 | []=>by
  show yof g [(f,v)]=_
  by_cases h:g=f
  ·have hb:(g==f)=true:=beq_iff_eq.mpr h;simp only[yof,hb,if_pos h]
  ·have hb:(g==f)=false:=beq_eq_false_iff_ne.mpr h;simp only[yof,hb,if_neg h]
 | (k,x)::r=>by
  have ih:=zlw f g v r;rw[show putF f v ((k,x)::r)=(if k=f then (k,v)::r else (k,x)::putF f v r) from rfl]
  by_cases hk:k=f
  ·rw[if_pos hk]
   by_cases h:g=k
   ·have hb:(g==k)=true:=beq_iff_eq.mpr h;simp only[yof,hb,if_pos (h.trans hk)]
   ·have hb:(g==k)=false:=beq_eq_false_iff_ne.mpr h;simp only[yof,hb,if_neg (λe:g=f=>h (e.trans hk.symm))]
  ·rw[if_neg hk]
   by_cases h:g=k
   ·have hb:(g==k)=true:=beq_iff_eq.mpr h;simp only[yof,hb,if_neg (λe:g=f=>hk (h.symm.trans e))]
   ·have hb:(g==k)=false:=beq_eq_false_iff_ne.mpr h;simp only[yof,hb];exact ih
theorem zqw (f:Str)(v:V):∀fs:List (Str×V),f∈(putF f v fs).map (·.1)∧∀g,g∈fs.map (·.1)->g∈(putF f v fs).map (·.1)
 | []=>⟨by simp[putF],λg h=>by simp at h⟩
 | (k,x)::r=>by
  obtain⟨i1,i2⟩:=zqw f v r;rw[show putF f v ((k,x)::r)=(if k=f then (k,v)::r else (k,x)::putF f v r) from rfl]
  by_cases hk:k=f
  ·rw[if_pos hk];subst hk;exact⟨by simp,λg h=>by simpa using h⟩
  ·rw[if_neg hk];refine⟨?_,λg h=>?_⟩
   ·rw[ytb];exact yla _ i1
   ·rw[ytb] at h ⊢
    rcases yja.mp h with e|e
    ·exact yja.mpr (.inl e)
    ·exact yla _ (i2 g e)
theorem znw (f:Str)(v:V):∀fs:List (Str×V),(putF f v fs).length≤fs.length+1
 | []=>by simp[putF]
 | (k,x)::r=>by
  have ih:=znw f v r;rw[show putF f v ((k,x)::r)=(if k=f then (k,v)::r else (k,x)::putF f v r) from rfl]
  by_cases hk:k=f
  ·rw[if_pos hk,ykc,ykc];omega
  ·rw[if_neg hk,ykc,ykc];omega
theorem RelO.some_of {v:V}{o:Option Value}(r:RelO (some v) o):∃u,o=some u∧RelV v u:=by
 cases o with
 | none=>exact (show False from r).elim
 | some u=>exact⟨u,rfl,r⟩
theorem RelO.none_of {o:Option Value}(r:RelO none o):o=none:=by
 cases o with
 | none=>rfl
 | some u=>exact (show False from r).elim
theorem zzrb {v:V}{u:Value}(r:RelV v u):yrs u=true:=by
 cases v with
 | non=>cases (show u=Value.none from r);rfl
 | bl b=>cases (show u=Value.bool b from r);rfl
 | int i=>obtain⟨t,e⟩:=(show ∃t,u=Value.int i t from r);cases e;rfl
 | str x=>obtain⟨t,e⟩:=(show ∃t,u=Value.str x t from r);cases e;rfl
 | byt b=>obtain⟨t,e⟩:=(show ∃t,u=Value.bytes b t from r);cases e;rfl
 | flt b=>obtain⟨t,e⟩:=(show ∃t,u=Value.float b t from r);cases e;rfl
 | ref a=>cases (show u=Value.ref a from r);rfl
 | ty n=>cases (show u=Value.type n from r);rfl
section
variable {P:yzb}{w:World}{H H':Hp}{h h':Heap}{a C dx:Addr}{fs fs':List (Str×V)}
theorem zbbb (hok:HOk P w H h)(e:H a=some (.ins C dx fs)):∃mA,ObjM h a dx C mA∧(∀f,RelO (fs.lookup f) (mA f))∧yfp mA (fs.map (·.1))∧fs.length≤1000∧H dx=some (.own a):=by
 obtain⟨d,z,ne,ob,mA,n,r,q⟩:=(show zfl P w H h a (.ins C dx fs) from hok a _ e);exact⟨mA,⟨ob,n,ne⟩,r,q,z,d⟩
end
structure Cls (K:yda)(C:Addr):Prop where
 pg:yag K C ygr=true
 hd:yhg K C=true
 po:ynh K C=true
 sa:yjb K (.ref C) "__setattr__" = some (some (.builtin "object.__setattr__"))
theorem Cls.get {K:yda}{C:Addr}(c:Cls K C)(f:Str):yag K C f=true:=c.pg
def zsf (K:yda)(C:Addr)(f:Str):Prop:=yjb K (.ref C) f=some none
theorem zsf.taker {K:yda}{C:Addr}{f:Str}(n:zsf K C f):yhp K C f=some none:=by
 unfold yhp;rw[show yjb K (.ref C) f=some none from n];rfl
structure Con (K:yda)(C:Addr)(f:Str)(v:V)(u:Value):Prop where
 at_:yjb K (.ref C) f=some (some u)
 rel:RelV v u
 get:yfk K u "__get__" = some none
 cp:PySem.W.copiedNames.contains f=false
structure Meth (K:yda)(C:Addr)(m:Str)(f:Addr):Prop where
 at_:yjb K (.ref C) m=some (some (.ref f))
 fn:yqk K (.ref f)=true
 kp:ygf K (.ref f)=true
section
variable {X:Cx}{pins:List (Addr×Obj)}{σ:St}{H:Hp}{s:Shared}{a C dx:Addr}{fs:List (Str×V)}{f:Str}{v:V}{A:Around}{E:Value->Shared->Prop}
theorem zlz {b:Bool}{Q:Value->Shared->Prop}(I:Inv X pins σ H s)(e:H a=some (.ins C dx fs))(c:Cls X.K C)(n:zsf X.K C f)(l:fs.lookup f=some v)
  (h:∀u s',Inv X pins σ H s'->RelV v u->Q u s'):wpAny (model X.prog X.w) A (getAttr (.ref a) f b) Q E s:=by
 obtain⟨mA,O,r,_,_,_⟩:=zbbb I.hok e;obtain⟨u,hu,ru⟩:=RelO.some_of (v:=v) (o:=mA f) (by rw[← l];exact r f);exact get_map I.kIn O (c.get f) c.hd n hu (zzrb ru) (h u _ (I.tok _) ru)
theorem zkz {m:Str}{g:Addr}{pl:Sem Bool}{Q:Value×List Value->Shared->Prop}(I:Inv X pins σ H s)(e:H a=some (.ins C dx fs))(c:Cls X.K C)(k:Meth X.K C m g)(l:fs.lookup m=none)
  (h:Q (.ref g,[.ref a]) s):wpAny (model X.prog X.w) A (yft (.ref a) m pl) Q E s:=by
 obtain⟨mA,O,r,_,_,_⟩:=zbbb I.hok e;have hn:mA m=none:=RelO.none_of (by rw[← l];exact r m);exact zowb I.kIn O (c.get m) k.at_ k.fn hn h
theorem zty {y:V}{u:Value}{Q:Unit->Shared->Prop}(I:Inv X pins σ H s)(e:H a=some (.ins C dx fs))(c:Cls X.K C)(n:zsf X.K C f)(hl:fs.length<1000)(ry:RelV y u)
  (h:∀s',Inv X pins σ (upd H a (.ins C dx (putF f y fs))) s'->Q () s'):wpAny (model X.prog X.w) A (setAttr (.ref a) f u) Q E s:=by
 obtain⟨mA,O,r,wi,_,ho⟩:=zbbb I.hok e;have hz:(fs.map (·.1)).length≤yva:=by rw[yca,sizeLine_eq];omega
 refine zpac I.kIn O c.sa c.po n.taker c.hd wi hz λh' O' sb=>h _ ?_;have hd:∃o,h'.get? dx=some o:=let ⟨o,_,_,e',_⟩:=O'.ns;⟨o,e'⟩;refine I.write (x:=a) (e:=dx) (by rw[e];exact True.intro) (.inr ho) (λb q hb z=>(sb.2 b hb).trans z) hd ?_;refine⟨by rw[zbb O.ne];exact ho,?_,O.ne,O'.obj,_,O'.ns,λg=>?_,λg hg=>?_⟩
 ·have:=znw f y fs;omega
 ·show RelO ((putF f y fs).lookup g) (if g=f then some u else mA g);rw[zlw]
  by_cases q:g=f
  ·rw[if_pos q,if_pos q];exact ry
  ·rw[if_neg q,if_neg q];exact r g
 ·by_cases q:g=f
  ·rw[q];exact (zqw f y fs).1
  ·refine (zqw f y fs).2 g (wi g λz=>hg ?_);show (if g=f then some u else mA g)=none
   rw[if_neg q];exact z
theorem Inv.made (I:Inv X pins σ H s):Inv X pins σ (upd (upd H s.heap.objs.size (.own (s.heap.objs.size+1))) (s.heap.objs.size+1) (.ins C s.heap.objs.size []))
  { s with heap:=(s.heap.push ybf).push (yjg C s.heap.objs.size) }:=by
 have e1:(s.heap.push ybf).get? s.heap.objs.size=some ybf:=yfa s.heap rfl;have e2:((s.heap.push ybf).push (yjg C s.heap.objs.size)).get? (s.heap.objs.size+1)=some (yjg C s.heap.objs.size):=by
  have:=yfa (s.heap.push ybf) (o:=yjg C s.heap.objs.size) rfl
  rwa [ylc] at this
 have e3:(s.heap.push ybf).Ns s.heap.objs.size (λ_=>none):=⟨ybf,#[],_,e1,rfl,(λe he=>absurd he (by simp)),λ_=>rfl⟩;have I1:=I.laid (a:=s.heap.objs.size) (o:=.own (s.heap.objs.size+1)) (h':=s.heap.push ybf) (t':=s.toks) (λb u q=>yba _ q) (yga _) ⟨_,e1⟩;refine I1.laid (a:=s.heap.objs.size+1) (o:=.ins C s.heap.objs.size []) (t':=s.toks) (λb u q=>yba _ q) (yjp (ylc _ _)) ?_;have ne:s.heap.objs.size≠s.heap.objs.size+1:=yfb (ymf _);refine⟨by rw[zbb ne,zta],ywa _,ne,e2,λ_=>none,(Heap.Ns1.of_empty e3).at λo q=>yba _ q,λ_=>True.intro,λy hy=>absurd rfl hy⟩
theorem zjcc {prog:yzb}{w:World}{env:Env}{e:Expr}{f:Str}{pos:Pos}{s:Shared}{Q:Value->Shared->Prop}(hb:ymj e f env (eval e env)=eval e env)
  (h:wpAny (model prog w) A (eval e env) (λo s₁=>wpAny (model prog w) A (getAttr o f true) Q E s₁) E s):wpAny (model prog w) A (eval (.Attribute e f pos) env) Q E s :=
 Attribute_any_ h (by rw[arm_eval_Attribute,hb])
end
def tFld (K:yda)(ta:TE)(f:Str):TE:=fun σ H Q=>ta σ H λx H1=>Ex5 λa C dx fs v=>x = .ref a∧H1 a=some (.ins C dx fs)∧Cls K C∧zsf K C f∧fs.lookup f=some v∧Q v H1
def sFld (K:yda)(ta tv:TE)(f:Str):TS:=λD σ H=>tv σ H λy H1=>ta σ H1 λx H2=>Ex4 λa C dx fs=>x = .ref a∧H2 a=some (.ins C dx fs)∧Cls K C∧zsf K C f∧fs.length<1000 ∧
 D.nx σ (upd H2 a (.ins C dx (putF f y fs)))
def InOp (X:Cx)(op:Operator)(rd:V->V->Hp->VK->Prop):Prop :=
 ∀(pins:List (Addr×Obj)) (s:Shared) (σ:St) (H:Hp) (x y:V) (u v:Value) (Q:VK),Inv X pins σ H s->RelV x u->RelV y v->rd x y H Q->wpAny (model X.prog X.w) X.A (inplaceOp op u v) (EP X pins σ Q) X.xe s
def zvac (K:yda)(ta tv:TE)(rd:V->V->Hp->VK->Prop)(f:Str):TS:=λD σ H=>ta σ H λx H1=>Ex5 λa C dx fs v=>x = .ref a∧H1 a=some (.ins C dx fs)∧Cls K C∧zsf K C f∧fs.lookup f=some v ∧
 tv σ H1 λy H2=>rd v y H2 λz H3=>Ex2 λdx' fs'=>H3 a=some (.ins C dx' fs')∧fs'.length<1000∧D.nx σ (upd H3 a (.ins C dx' (putF f z fs')))
section
variable {X:Cx}{o e value:Expr}{f:Str}{pos pos' tpos:Pos}{ta tv:TE}
theorem zee (he:PE X e ta)(hb:ymj e f X.env (eval e X.env)=eval e X.env):PE X (.Attribute e f pos) (tFld X.K ta f):=by
 intro pins s σ H Q I h;refine zjcc hb (thn (he pins s σ H _ I h) λu s1 ⟨x,H1,I1,rx,a,C,dx,fs,v,ex,ea,c,n,l,q⟩=>?_);subst ex;obtain rfl:u=Value.ref a:=rx;exact zlz I1 ea c n l λu' s2 I2 ru=>⟨v,H1,I2,ru,q⟩
theorem zfk (ha:PE X o ta)(hv:PE X value tv)(hs:yet value (some (.Attribute o f pos')) pos.line X.env=pure false):PS X (.Assign [.Attribute o f pos'] value pos) (sFld X.K ta tv f):=by
 intro pins s σ H D I h;refine plainObj_wpAny_Assign_Attribute (thn (hv pins s σ H _ I h) λu s1 ⟨y,H1,I1,ry,q⟩=>thn (ha pins s1 σ H1 _ I1 q) λov s2 ⟨x,H2,I2,rx,a,C,dx,fs,ex,ea,c,n,l,q2⟩=>?_) hs;subst ex;obtain rfl:ov=Value.ref a:=rx;exact zty I2 ea c n l ry λs3 I3=>⟨σ,_,I3,q2⟩
theorem zjqb {op:Operator}{rd:V->V->Hp->VK->Prop}(ha:PE X o ta)(hv:PE X value tv)(hop:InOp X op rd):PS X (.AugAssign (.Attribute o f tpos) op value pos) (zvac X.K ta tv rd f):=by
 intro pins s σ H D I h;refine wpAny_AugAssign_AttributeAny (thn (ha pins s σ H _ I h) λov s1 ⟨x,H1,I1,rx,a,C,dx,fs,v,ex,ea,c,n,l,q⟩=>?_);subst ex;obtain rfl:ov=Value.ref a:=rx;refine zlz I1 ea c n l λu s2 I2 ru=>thn (hv pins s2 σ H1 _ I2 q) λw3 s3 ⟨y,H2,I3,ry,q3⟩=>thn (hop pins s3 σ H2 v y u w3 _ I3 ru ry q3) λw4 s4 ⟨z,H3,I4,rz,dx',fs',ea',l',q4⟩=>?_;exact zty I4 ea' c n l' rz λs5 I5=>⟨σ,_,I5,q4⟩
def rAdd:V->V->Hp->VK->Prop:=λx y H Q=>Ex2 λi j=>x = .int i∧y = .int j∧Q (.int (i+j)) H
theorem zffc:InOp X .Add rAdd:=by
 rintro pins s σ H x y u v Q I rx ry ⟨i,j,rfl,rfl,q⟩;obtain⟨t,rfl⟩:=(show ∃t,u=Value.int i t from rx);obtain⟨t',rfl⟩:=(show ∃t',v=Value.int j t' from ry);exact PyProof.Rows.iadd_int ⟨.int (i+j),H,I.tok _,⟨_,rfl⟩,q⟩
end
section
variable {X:Cx}{pins:List (Addr×Obj)}{σ:St}{H:Hp}{s:Shared}{A:Around}{E:Value->Shared->Prop}{Q:Value->Shared->Prop}{c:Value}{b:Bool}
inductive TyOf (K:yda)(H:Hp):V->Value->Prop where
 | non:TyOf K H .non (.type "NoneType")
 | bl (x:Bool):TyOf K H (.bl x) (.type "bool")
 | int (i:Int):TyOf K H (.int i) (.type "int")
 | str (x:Str):TyOf K H (.str x) (.type "str")
 | flt (x:UInt64):TyOf K H (.flt x) (.type "float")
 | lst {a:Addr} {xs:List V} (e:H a=some (.lst xs)):TyOf K H (.ref a) (.type "list")
 | frz {a:Addr} {o:Obj} {xs:List V} (e:H a=some (.frz o (.lst xs))):TyOf K H (.ref a) (.type "list")
 | tup {a:Addr} {xs:List V} (e:H a=some (.tup xs)):TyOf K H (.ref a) (.type "tuple")
 | dK {a:Addr} {kvs:List (Key×V)} (e:H a=some (.dK kvs)):TyOf K H (.ref a) (.type "dict")
 | dT {a:Addr} {kvs:List (List Key×V)} (e:H a=some (.dT kvs)):TyOf K H (.ref a) (.type "dict")
 | ins {a C dx:Addr} {fs:List (Str×V)} (e:H a=some (.ins C dx fs)) (cl:Cls K C) (ha:yjb K (.ref C) "__class__" = some (some (.builtin "object.__class__")))
   (hn:yfk K (.builtin "object.__class__") "__get__" = some (some (.builtin "getset_descriptor.__get__"))) (htk:ykp K (.builtin "object.__class__")=some true)
   (hm:yhr K C (.type "object")=some true):TyOf K H (.ref a) (.ref C)
theorem zbfb {x:V}{u t:Value}(I:Inv X pins σ H s)(rx:RelV x u)(ty:TyOf X.K H x t)(e:yqd X.K t c=some b)(h:∀tk,Q (.bool b) { s with toks:=tk }) :
  wpAny (model X.prog X.w) A (call (.builtin "isinstance") [u,c]) Q E s:=by
 cases ty with
 | non=>cases (show u=Value.none from rx);exact yse PySem.W.kitx_none I.kIn True.intro e (λz=>nomatch z) h
 | bl y=>cases (show u=Value.bool y from rx);exact yse PySem.W.kitx_bool I.kIn True.intro e (λz=>nomatch z) h
 | int i=>obtain⟨t,q⟩:=(show ∃t,u=Value.int i t from rx);cases q;exact yse PySem.W.kitx_int I.kIn True.intro e (λz=>nomatch z) h
 | str y=>obtain⟨t,q⟩:=(show ∃t,u=Value.str y t from rx);cases q;exact yse PySem.W.kitx_str I.kIn True.intro e (λz=>nomatch z) h
 | flt y=>obtain⟨t,q⟩:=(show ∃t,u=Value.float y t from rx);cases q;exact yse PySem.W.kitx_float I.kIn True.intro e (λz=>nomatch z) h
 | @lst a xs ea =>
  cases (show u=Value.ref a from rx);obtain⟨_,_,n,_,h1⟩:=(show zfl X.prog X.w H s.heap a (.lst xs) from I.hok a _ ea);exact yse yqr I.kIn ⟨_,h1,rfl⟩ e (λz=>nomatch z) h
 | @frz a ob xs ea =>
  cases (show u=Value.ref a from rx);obtain⟨_,_,_,n,_,h1⟩:=(show zfl X.prog X.w H s.heap a (.frz ob (.lst xs)) from I.hok a _ ea);exact yse yqr I.kIn ⟨_,h1,rfl⟩ e (λz=>nomatch z) h
 | @tup a xs ea =>
  cases (show u=Value.ref a from rx);obtain⟨_,_,_,p⟩:=(show zfl X.prog X.w H s.heap a (.tup xs) from I.hok a _ ea);obtain⟨o,h1,h2,_⟩:=p;exact yse PySem.W.kitx_tuple I.kIn ⟨o,h1,h2⟩ e (λz=>nomatch z) h
 | @dK a kvs ea =>
  cases (show u=Value.ref a from rx);obtain⟨_,_,vs,_,p⟩:=(show zfl X.prog X.w H s.heap a (.dK kvs) from I.hok a _ ea);obtain⟨o,es,ep,h1,h2,_⟩:=p;exact yse yrr I.kIn ⟨o,h1,h2.1⟩ e (λz=>nomatch z) h
 | @dT a kvs ea =>
  cases (show u=Value.ref a from rx);obtain⟨_,_,xs,_,o,es,ep,h1,h2,_⟩:=(show zfl X.prog X.w H s.heap a (.dT kvs) from I.hok a _ ea);exact yse yrr I.kIn ⟨o,h1,h2.1⟩ e (λz=>nomatch z) h
 | @ins a C dx fs ea cl ha hn htk hm =>
  cases (show u=Value.ref a from rx);obtain⟨mA,O,_⟩:=zbbb I.hok ea;obtain⟨od,J,_⟩:=O.look;exact yse (PySem.W.kitx_own (cl.get _) cl.hd ha hn htk hm) I.kIn J e (λz=>nomatch z) h
end
end L2
namespace L2
open PySem PySem.Spec PyProof.Rows
structure Room (k:Nat)(A:Around):Prop where
 hd:A.handled=none
 dp:A.depth+3*k+5<recursionLimit
 un:A.units+16*k+200<cLine
theorem Room.mono {j k:Nat}{A:Around}(r:Room k A)(h:j≤k):Room j A:=⟨r.hd,by have:=r.dp;omega,by have:=r.un;omega⟩
theorem Room.deeper {k:Nat}{A:Around}(r:Room (k+1) A)(env:Env):Room k (A.deeper env) :=
 ⟨r.hd,by have:=r.dp;show A.depth+1+3*k+5<_;omega,by have:=r.un;show A.units+3+16*k+200<_;omega⟩
theorem zrnb {A:Around}{C:Addr}{us:List Value}{kw:List (Str×Value)}:(A.under (.builtin "type.__call__" ⟨.ref C::us,kw⟩)).depth=A.depth+1:=by
 first|rfl|simp[yjs,Code.weight,Code.isCreation,Code.isGuard,Code.isCaller,Code.frames,yks,guardIds]
theorem zqnb {A:Around}{C:Addr}{us:List Value}{kw:List (Str×Value)}:(A.under (.builtin "type.__call__" ⟨.ref C::us,kw⟩)).units=A.units+1:=by
 first|rfl|simp[yjs,Code.cUnits,Code.frames,yks]
theorem Room.make {k:Nat}{A:Around}(r:Room (k+1) A)(C:Addr)(us:List Value)(kw:List (Str×Value)):Room k (A.under (.builtin "type.__call__" ⟨.ref C::us,kw⟩)) :=
 ⟨r.hd,by have:=r.dp;rw[zrnb];omega,by have:=r.un;rw[zqnb];omega⟩
theorem Room.depth {k:Nat}{A:Around}(r:Room k A):A.depth<recursionLimit:=by have:=r.dp;omega
theorem Room.units {k:Nat}{A:Around}(r:Room k A):A.units+64<cLine:=by have:=r.un;omega
def tNil:TA:=λ_ H Q=>Q [] H
def zmgc (ta:TE)(tr:TA):TA:=fun σ H Q=>ta σ H λx H1=>tr σ H1 λxs H2=>Q (x::xs) H2
section
variable {X:Cx}{e:Expr}{es:List Expr}{te:TE}{t:TA}{pos:Pos}
theorem zba:PA X [] tNil:=λ_ _ _ _ H Q I h=>ysr ⟨[],H,I,.nil,h⟩
theorem zaa (ha:PE X e te)(hr:PA X es t)(hs:yxc (e::es) X.env=(false,eval e X.env)::yxc es X.env:=by rfl):PA X (e::es) (zmgc te t):=by
 intro pos pins s σ H Q I h;rw[hs];show wpAny _ _ (spliced ((false,eval e X.env)::backTo pos (yxc es X.env))) _ _ s
 refine yir (thn (ha pins s σ H _ I h) λu s1 ⟨x,H1,I1,r1,q1⟩=>?_);exact thn (hr pos pins s1 σ H1 _ I1 q1) λus s2 ⟨xs,H2,I2,r2,q2⟩=>⟨x::xs,H2,I2,.cons r1 r2,q2⟩
def tTup (t:TA):TE:=fun σ H Q=>t σ H λxs H1=>xs.length≤yva∧∀p,H1 p=none->Q (.ref p) (upd H1 p (.tup xs))
def tLst (t:TA):TE:=fun σ H Q=>t σ H λxs H1=>xs.length≤yva∧∀p,H1 p=none->Q (.ref p) (upd H1 p (.lst xs))
theorem zra {x1}(h:PA X es t):PE X (.Tuple es x1 pos) (tTup t):=by
 intro pins s σ H Q I hq;refine wpAny_Tuple_spliced (thn (h pos pins s σ H _ I hq) λus s1 ⟨xs,H1,I1,r,z,q⟩=>⟨by rw[← r.length];exact z,?_⟩);have hf:H1 s1.heap.objs.size=none:=I1.hok.fresh (yga _);refine⟨.ref s1.heap.objs.size,upd H1 s1.heap.objs.size (.tup xs),I1.laid (t':=s1.toks) (λb u e=>yba _ e) (yga _) ?_,rfl,q _ hf⟩;exact⟨z,us,r,⟨_,yfa _ rfl,rfl,_,rfl⟩⟩
theorem zdc (h:PA X es t):PE X (.List es pos) (tLst t):=by
 intro pins s σ H Q I hq;refine wpAny_List_spliced (thn (h pos pins s σ H _ I hq) λus s1 ⟨xs,H1,I1,r,z,q⟩=>⟨by rw[← r.length];exact z,?_⟩);have hf:H1 s1.heap.objs.size=none:=I1.hok.fresh (yga _);refine⟨.ref s1.heap.objs.size,upd H1 s1.heap.objs.size (.lst xs),I1.laid (t':=s1.toks) (λb u e=>yba _ e) (yga _) ?_,rfl,q _ hf⟩;exact⟨z,us,0,r,yfa _ rfl⟩
end
abbrev Sp:=List V->Hp->VK->XK->Prop
abbrev CXT:=List Env->Hp->Shared->XK->Value->Shared->Prop
structure Env0 (P:yzb)(w:World)(K:yda)(mg:Str->Option Value)(base:Heap)(A:Around)(outer:List Env)(s:Shared)(H:Hp):Prop where
 frames:A.frames=some outer
 mod:Mod K mg base
 bs:∀b o,base.get? b=some o->s.heap.get? b=some o∧H b=none
 bsz:base.objs.size≤s.heap.objs.size
 funs:s.heap.FunFrames base outer
 frf:∀b∈frs outer,H b=none
 hok:HOk P w H s.heap
 bare:ytq s.gens
def CE (outer:List Env)(P:yzb)(w:World)(H:Hp)(s:Shared)(Q:VK)(u:Value)(s':Shared):Prop :=
 Ex2 λv H'=>s'.os=s.os∧ytq s'.gens∧Un (frs outer) [] H H' s.heap s'.heap∧HOk P w H' s'.heap∧RelV v u∧Q v H'
def CR (CX:CXT)(outer:List Env)(P:yzb)(w:World)(H:Hp)(s:Shared)(Q:VK)(E:XK)(r:Result)(s':Shared):Prop :=
 match r with
 | .ok (.ret u)=>CE outer P w H s Q u s'
 | .ok _=>False
 | .error e=>CX outer H s E e s'
structure FnOk (P:yzb)(w:World)(K:yda)(mg:Str->Option Value)(base:Heap)(CX:CXT)(k:Nat)(f:Addr)(fd:yrf)(ps:List Str)(sp:Sp):Prop where
 len:∀vs H Q E,sp vs H Q E->vs.length=ps.length
 run:∀(A:Around) (outer:List Env) (s:Shared) (H:Hp) (args:Args) (us:List Value) (vs:List V) (Q:VK) (E:XK),Room k A->Env0 P w K mg base A outer s H->yuq s fd args (ps.zip us)->Vals vs us->sp vs H Q E →
  yek (model P w) A (.call (.ref f) args) (CR CX outer P w H s Q E) s
theorem FnOk.mono {P:yzb}{w:World}{K:yda}{mg:Str->Option Value}{base:Heap}{CX:CXT}{j k:Nat}{f:Addr}{fd:yrf}{ps:List Str}{sp:Sp}(F:FnOk P w K mg base CX j f fd ps sp)(h:j≤k) :
  FnOk P w K mg base CX k f fd ps sp:=⟨F.len,λA outer s H args us vs Q E hr=>F.run A outer s H args us vs Q E (hr.mono h)⟩
theorem Env0.make {P:yzb}{w:World}{K:yda}{mg:Str->Option Value}{base:Heap}{A:Around}{outer:List Env}{s:Shared}{H:Hp}(e:Env0 P w K mg base A outer s H)(C:Addr)(us:List Value)(kw:List (Str×Value)) :
  Env0 P w K mg base (A.under (.builtin "type.__call__" ⟨.ref C::us,kw⟩)) outer s H:=⟨by first|exact e.frames|(simpa [yjs,Code.envs,yks,pushEnvs] using e.frames),e.mod,e.bs,e.bsz,e.funs,e.frf,e.hok,e.bare⟩
section
variable {X:Cx}{pins:List (Addr×Obj)}{σ:St}{H:Hp}{s s':Shared}
theorem Inv.env0 (I:Inv X pins σ H s):Env0 X.prog X.w X.K X.mg X.base X.A X.stack s H :=
 ⟨I.ok.frames,I.ok.mod,I.bs,yob I.ok.bsz I.sz,I.stack,I.zbpb,I.hok,I.bare⟩
theorem Inv.after {Q:VK}{u:Value}(I:Inv X pins σ H s)(h:CE X.stack X.prog X.w H s Q u s'):EP X pins σ Q u s':=by
 obtain⟨v,H',os,bare,un,hok,r,q⟩:=h;obtain⟨hh,g,d,t,os'⟩:=s';obtain rfl:os'=s.os:=os;exact⟨v,H',I.call (h':=hh) (g':=g) (d':=d) (t':=t) (ch:=[]) un hok bare (λb z=>absurd z (by simp)),r,q⟩
end
def zngc (sp:Sp)(dvs:List V)(E:XK)(t:TA):TE:=fun σ H Q=>t σ H λvs H1=>sp (vs++dvs) H1 Q E
def zcdc (C:Addr)(m:Str)(sp:Sp)(dvs:List V)(E:XK)(ta:TE)(t:TA):TE:=fun σ H Q=>ta σ H λx H1=>Ex3 λa dx fs=>x = .ref a∧H1 a=some (.ins C dx fs)∧fs.lookup m=none ∧
 t σ H1 λvs H2=>sp (x::(vs++dvs)) H2 Q E
def zkgc (C:Addr)(sp:Sp)(dvs:List V)(E:XK)(t:TA):TE:=fun σ H Q=>t σ H λvs H1=>∀x dx,H1 x=none->H1 dx=none->dx≠x →
 sp (.ref x::(vs++dvs)) (upd (upd H1 dx (.own x)) x (.ins C dx [])) (λv H2=>v = .non∧Q (.ref x) H2) E
def Binds (K:yda)(fd:yrf)(ps:List Str)(ds:List Value):Prop :=
 ∀(s:Shared) (us:List Value),K.In s.heap->(us++ds).length=ps.length->yuq s fd ⟨us,[]⟩ (ps.zip (us++ds))
theorem Binds.all {K:yda}{fd:yrf}{ps:List Str}(h:∀us:List Value,us.length=ps.length->bindArgs fd ⟨us,[]⟩=pure (ps.zip us)):Binds K fd ps []:=λs us _ hl=>by
 rw[ypc] at hl ⊢;exact .of_eq (h us hl)
def Passes (CX:CXT)(X:Cx)(E:XK):Prop:=∀(pins:List (Addr×Obj)) (σ:St) (H:Hp) (s:Shared) (e:Value) (s':Shared),Inv X pins σ H s->CX X.stack H s E e s'->X.xe e s'
section
variable {X:Cx}{CX:CXT}{k:Nat}{f C:Addr}{fd:yrf}{ps:List Str}{sp:Sp}{dvs:List V}{ds:List Value}{E:XK}{x m:Str}{p pos apos:Pos}{e o:Expr}{es:List Expr}{ta:TE}{t:TA}
theorem zdqb {pins:List (Addr×Obj)}{σ:St}{H:Hp}{s:Shared}{Q:VK}{us:List Value}{vs:List V}(F:FnOk X.prog X.w X.K X.mg X.base CX k f fd ps sp)(hr:Room k X.A)(hb:Binds X.K fd ps ds)(hd:Vals dvs ds)(hx:Passes CX X E)
  (I:Inv X pins σ H s) (r:Vals vs us) (h:sp (vs++dvs) H Q E):wpAny (model X.prog X.w) X.A (call (.ref f) us) (EP X pins σ Q) X.xe s:=by
 have r2:Vals (vs++dvs) (us++ds):=r.append hd;have hl:(us++ds).length=ps.length:=by rw[← r2.length];exact F.len _ _ _ _ h
 refine ykq (yzg (F.run X.A X.stack s H ⟨us,[]⟩ (us++ds) (vs++dvs) Q E hr I.env0 (hb s us I.kIn hl) r2 h) λr s' hq=>?_);cases r with
 | error e=>exact hx pins σ H s e s' I hq
 | ok fl =>
  cases fl with
  | ret u=>exact I.after hq
  | next=>exact yvg hq
  | brk=>exact yvg hq
  | cont=>exact yvg hq
theorem zja (F:FnOk X.prog X.w X.K X.mg X.base CX k f fd ps sp)(hr:Room k X.A)(hg:Gl X x)(hm:X.mg x=some (.ref f))(hk:ygf X.K (.ref f)=true)(hb:Binds X.K fd ps ds)(hd:Vals dvs ds)(hx:Passes CX X E)
  (ha:PA X (e::es) t) (hdb:(x==("__debug__":Str))=false:=by decide) (he:yxc (e::es) X.env=(false,eval e X.env)::yxc es X.env:=by rfl) (hpl:(backTo pos (yxc es X.env)).any (·.1)=false:=by rfl) :
  PE X (.Call (.Name x p) (e::es) [] pos) (zngc sp dvs E t):=by
 intro pins s σ H Q I h;refine yii (zbib I hg hm ?_ hdb);refine ylm (h₀:=X.base) I.ok.mod.kin hk (thn (ha pos pins s σ H _ I h) λus s1 ⟨vs,H1,I1,r,q⟩=>⟨I1.kIn,?_⟩) he hpl;exact zdqb F hr hb hd hx I1 r q
theorem zbn {pl:Sem Bool}(he:PE X o ta)(c:Cls X.K C)(hm:Meth X.K C m f)(F:FnOk X.prog X.w X.K X.mg X.base CX k f fd ps sp)(hr:Room k X.A)(hb:Binds X.K fd ps ds)(hd:Vals dvs ds)(hx:Passes CX X E)(ha:PA X (e::es) t)
  (hst:yxc (e::es) X.env=(false,eval e X.env)::yxc es X.env:=by rfl) (hpl:(backTo pos (yxc es X.env)).any (·.1)=false:=by rfl)
  (ht:eval (.Call (.Attribute o m apos) (e::es) [] pos) X.env=(do
   let ov ← eval o X.env
   standAt apos.atName
   let (f,first) ← ygp [ov] (yft ov m pl)
   callWith pos f first (backTo pos (yxc (e::es) X.env)) (yct pos (yyn [] X.env))):=by rfl) :
  PE X (.Call (.Attribute o m apos) (e::es) [] pos) (zcdc C m sp dvs E ta t):=by
 intro pins s σ H Q I h;refine ylp (pl:=pl) (thn (he pins s σ H _ I h) λu s1 ⟨x,H1,I1,rx,a,dx,fs,ex,ea,l,q⟩=>?_) ht;subst ex;obtain rfl:u=Value.ref a:=rx;refine zkz I1 ea c hm l ?_;refine ylm (first:=[.ref a]) (h₀:=X.base) I.ok.mod.kin hm.kp (thn (ha pos pins s1 σ H1 _ I1 q) λus s2 ⟨vs,H2,I2,r,q2⟩=>⟨I2.kIn,?_⟩) hst hpl;exact zdqb (us:=.ref a::us) (vs:=.ref a::vs) F hr hb hd hx I2 (.cons rfl r) q2
theorem zzf {pl:Sem Bool}(he:PE X o ta)(c:Cls X.K C)(hm:Meth X.K C m f)(F:FnOk X.prog X.w X.K X.mg X.base CX k f fd ps sp)(hr:Room k X.A)(hb:Binds X.K fd ps ds)(hd:Vals dvs ds)(hx:Passes CX X E)
  (ht:eval (.Call (.Attribute o m apos) [] [] pos) X.env=(do
   let ov ← eval o X.env
   standAt apos.atName
   let (f,first) ← ygp [ov] (yft ov m pl)
   callWith pos f first (backTo pos (yxc [] X.env)) (yct pos (yyn [] X.env))):=by rfl) :
  PE X (.Call (.Attribute o m apos) [] [] pos) (zcdc C m sp dvs E ta tNil):=by
 intro pins s σ H Q I h;refine ylp (pl:=pl) (thn (he pins s σ H _ I h) λu s1 ⟨x,H1,I1,rx,a,dx,fs,ex,ea,l,q⟩=>?_) ht;subst ex;obtain rfl:u=Value.ref a:=rx;refine zkz I1 ea c hm l ?_;exact PySem.W.callWith_K0 (first:=[.ref a]) I1.kIn hm.kp (zdqb (us:=[.ref a]) (vs:=[.ref a]) F hr hb hd hx I1 (.cons rfl .nil) q)
structure Mk (K:yda)(C f:Addr):Prop where
 makes:yip K C=true
 init:yjb K (.ref C) "__init__" = some (some (.ref f))
 fn:yqk K (.ref f)=true
 kp:ygf K (.ref C)=true
theorem zdvb {pins:List (Addr×Obj)}{σ:St}{H:Hp}{s:Shared}{Q:VK}{us:List Value}{vs:List V}(M:Mk X.K C f)(F:FnOk X.prog X.w X.K X.mg X.base CX k f fd ps sp)(hr:Room (k+1) X.A)(hb:Binds X.K fd ps ds)(hd:Vals dvs ds)
  (hx:Passes CX X E) (I:Inv X pins σ H s) (r:Vals vs us)
  (h:∀x dx,H x=none->H dx=none->dx≠x->sp (.ref x::(vs++dvs)) (upd (upd H dx (.own x)) x (.ins C dx [])) (λv H2=>v = .non∧Q (.ref x) H2) E) :
  wpAny (model X.prog X.w) X.A (call (.ref C) us) (EP X pins σ Q) X.xe s:=by
 have hq:=h (s.heap.objs.size+1) s.heap.objs.size (I.hok.fresh (ype _)) (I.hok.fresh (yga _)) (yfb (ymf _));have I2:=Inv.made (C:=C) I;have r2:Vals (V.ref (s.heap.objs.size+1)::(vs++dvs)) (Value.ref (s.heap.objs.size+1)::(us++ds)):=.cons rfl (r.append hd);have hl:(Value.ref (s.heap.objs.size+1)::us++ds).length=ps.length:=by
  have e:=r2.length;rw[F.len _ _ _ _ hq] at e;exact e.symm
 refine ykq (zyvb (f:=f) I.kIn M.makes M.init (beq_iff_eq.mp M.fn) (yzg (F.run _ X.stack _ _ ⟨Value.ref (s.heap.objs.size+1)::us,[]⟩ (Value.ref (s.heap.objs.size+1)::(us++ds)) _ _ E (hr.make C us [])
  (I2.env0.make C us []) (hb _ (Value.ref (s.heap.objs.size+1)::us) I2.kIn hl) r2 hq) λr s' hq'=>?_))
 cases r with
 | error e=>exact hx pins σ _ _ e s' I2 hq'
 | ok fl =>
  cases fl with
  | ret u =>
   obtain⟨v,H',I3,rv,ev,q3⟩:=I2.after hq';subst ev;exact⟨rv,⟨V.ref (s.heap.objs.size+1),H',I3,rfl,q3⟩⟩
  | next=>exact yvg hq'
  | brk=>exact yvg hq'
  | cont=>exact yvg hq'
theorem zlab (M:Mk X.K C f)(F:FnOk X.prog X.w X.K X.mg X.base CX k f fd ps sp)(hr:Room (k+1) X.A)(hg:Gl X x)(hm:X.mg x=some (.ref C))(hb:Binds X.K fd ps ds)(hd:Vals dvs ds)(hx:Passes CX X E)
  (ha:PA X (e::es) t) (hdb:(x==("__debug__":Str))=false:=by decide) (he:yxc (e::es) X.env=(false,eval e X.env)::yxc es X.env:=by rfl) (hpl:(backTo pos (yxc es X.env)).any (·.1)=false:=by rfl) :
  PE X (.Call (.Name x p) (e::es) [] pos) (zkgc C sp dvs E t):=by
 intro pins s σ H Q I h;refine yii (zbib I hg hm ?_ hdb);refine ylm (h₀:=X.base) I.ok.mod.kin M.kp (thn (ha pos pins s σ H _ I h) λus s1 ⟨vs,H1,I1,r,q⟩=>⟨I1.kIn,?_⟩) he hpl;exact zdvb M F hr hb hd hx I1 r q
end
section
variable {X:Cx}{CX:CXT}{k:Nat}{f C:Addr}{fd:yrf}{ps ks:List Str}{sp:Sp}{E:XK}{x m:Str}{p pos apos kpos:Pos}{e o:Expr}{es:List Expr}{kws:List ytr}{te ta:TE}{t tk:TA}{nm:Option Str}
structure zohc (K:yda)(fd:yrf)(ps ks:List Str)(g:List Value->List Value->List Value)(gV:List V->List V->List V):Prop where
 to:∀(s:Shared) (us ws:List Value),K.In s.heap->(g us ws).length=ps.length->yuq s fd ⟨us,ks.zip ws⟩ (ps.zip (g us ws))
 rel:∀{vs:List V} {us:List Value} {zs:List V} {ws:List Value},Vals vs us->Vals zs ws->Vals (gV vs zs) (g us ws)
variable {g:List Value->List Value->List Value}{gV:List V->List V->List V}
end
structure zma (N P:List Str)(sc:Scope):Prop where
 kind:sc.kind = .function
 co:sc.isCoroutine=false
 gen:sc.isGenerator=false
 nd:N.Nodup
 pre:N.take P.length=P
 par:∀x∈P,sc.names.lookup x=some .local∨sc.names.lookup x=some .cell
 nofree:∀y∈sc.names,y.2 ≠ .free
theorem zrfb {kindOf:Str->Option yrd}{x:Str}:∀{binds:List (Str×Value)} {m:Str->Option Value},(∀v,(x,v)∉binds)->bindL kindOf binds m x=m x
 | [],_,_=>rfl
 | (n,v)::r,m,h=>by
  unfold bindL;rw[zrfb λw hw=>h w (yla _ hw)]
  split
  ·have:x≠n:=by rintro rfl;exact h v yma
   simp[this]
  ·rfl
theorem ztfb {kindOf:Str->Option yrd}{x:Str}:∀{binds:List (Str×Value)} {m:Str->Option Value},(∀v,(x,v)∉binds)->bindC kindOf binds m x=m x
 | [],_,_=>rfl
 | (n,v)::r,m,h=>by
  unfold bindC;rw[ztfb λw hw=>h w (yla _ hw)]
  split
  ·rfl
  ·have:x≠n:=by rintro rfl;exact h v yma
   simp[this]
theorem zsfb {kindOf:Str->Option yrd}{x:Str}{v:Value}:∀{P:List Str} {vs:List Value} {i:Nat} {m:Str->Option Value},P.Nodup->P[i]?=some x->vs[i]?=some v->kindOf x=some .local →
  bindL kindOf (P.zip vs) m x=some v
 | [],_,_,_,_,h,_,_=>by simp at h
 | _::_,[],_,_,_,_,h,_=>by simp at h
 | p::P,w::vs,0,m,nd,h1,h2,hk=>by
  simp at h1 h2;subst h1;subst h2;show bindL kindOf ((p,w)::P.zip vs) m p=_
  unfold bindL;rw[zrfb λv hv=>(yli.mp nd).1 (ymp hv).1,if_pos hk];simp
 | p::P,w::vs,i+1,m,nd,h1,h2,hk=>by
  show bindL kindOf ((p,w)::P.zip vs) m x=_
  unfold bindL;exact zsfb (i:=i) (yli.mp nd).2 (by simpa using h1) (by simpa using h2) hk
theorem zufb {kindOf:Str->Option yrd}{x:Str}{v:Value}:∀{P:List Str} {vs:List Value} {i:Nat} {m:Str->Option Value},P.Nodup->P[i]?=some x->vs[i]?=some v->kindOf x≠some .local →
  bindC kindOf (P.zip vs) m x=some v
 | [],_,_,_,_,h,_,_=>by simp at h
 | _::_,[],_,_,_,_,h,_=>by simp at h
 | p::P,w::vs,0,m,nd,h1,h2,hk=>by
  simp at h1 h2;subst h1;subst h2;show bindC kindOf ((p,w)::P.zip vs) m p=_
  unfold bindC;rw[ztfb λv hv=>(yli.mp nd).1 (ymp hv).1,if_neg hk];simp
 | p::P,w::vs,i+1,m,nd,h1,h2,hk=>by
  show bindC kindOf ((p,w)::P.zip vs) m x=_
  unfold bindC;exact zufb (i:=i) (yli.mp nd).2 (by simpa using h1) (by simpa using h2) hk
def start (N:List Str)(vs:List V):St:=vs.map some++yna (N.length-vs.length) none
def cxOf (CX:CXT)(P:yzb)(w:World)(K:yda)(mg:Str->Option Value)(base:Heap)(N:List Str)(qual:Str)(scope:Scope)(f:Addr)(cd:Value)(A:Around)(outer:List Env)(s:Shared)(H:Hp)(E:XK):Cx where
 prog:=P
 w:=w
 K:=K
 mg:=mg
 base:=base
 A:=A.deeper (envOfC qual scope s.heap.objs.size f cd)
 N:=N
 s₀:=s
 H₀:=H
 env:=envOfC qual scope s.heap.objs.size f cd
 outer:=outer
 stack:=envOfC qual scope s.heap.objs.size f cd::outer
 ex:=[]
 calm:=true
 fn:=λ_=>true
 pn:=[]
 xe:=λe s'=>wpAny (model P w) (A.deeper (envOfC qual scope s.heap.objs.size f cd)) (leaving (envOfC qual scope s.heap.objs.size f cd) e) (λ_ s''=>CX outer H s E e s'') (λe' s''=>CX outer H s E e' s'') s'
theorem zzlb {sc:Scope}{n:Nat}{x:Str}(h:sc.names.lookup x=some .cell):∃c,(cellsFrom n sc.names []).lookup x=some c:=by
 have q:=yzo sc.names n [] (.inl h);exact Option.isSome_iff_exists.mp q
theorem ztrb {CX:CXT}{P:yzb}{w:World}{K:yda}{mg:Str->Option Value}{base:Heap}{N ps:List Str}{qual:Str}{scope:Scope}{f:Addr}{cd:Value}{A:Around}{outer:List Env}{s s1:Shared}{H:Hp}{E:XK}{us:List Value}{vs:List V}
  (S:zma N ps scope) (hd:A.handled=none) (e0:Env0 P w K mg base A outer s H) (hl:vs.length=ps.length) (r:Vals vs us)
  (x:InCallC s s.heap.objs.size (bindL (envOfC qual scope s.heap.objs.size f cd).kindOf (ps.zip us) λ_=>none) (cellsFrom (s.heap.objs.size+1) scope.names []) (bindC (envOfC qual scope s.heap.objs.size f cd).kindOf (ps.zip us) λ_=>none) s1) :
  Inv (cxOf CX P w K mg base N qual scope f cd A outer s H E) [] (start N vs) H s1:=by
 have hpl:ps.length≤N.length:=by have:=congrArg yzn S.pre;rw[yza] at this;omega
 obtain⟨h1,tk,rfl,hk⟩:=x.done;have noA:∀b:Addr,b∉(cxOf CX P w K mg base N qual scope f cd A outer s H E).ex:=λb z=>absurd (show b∈([]:List Addr) from z) (by simp);refine⟨⟨e0.mod,S.kind,rfl,rfl,yga _,λy z c h1 h2=>?_,λy hy=>?_,λy c _ h=>?_,λ_=>hd,Around.frames_deeper e0.frames,.inr ⟨rfl,rfl⟩,λb z=>absurd z (noA b),e0.bs,e0.bsz,λb _ _=>noA b,λb z=>absurd z (noA b),e0.funs,e0.frf⟩,
  rfl,e0.bare,Un.kept hk,⟨_,x.toInCall.ns,λi y v h1 h2 h3=>?_⟩,λy c h=>⟨_,x.cell y c h⟩,e0.hok.fresh (yga _),λy c h=>?_,λp hp=>absurd (show p∈([]:List (Addr×Obj)) from hp) (by simp),e0.hok.kept hk,?_⟩
 ·exact name_of_addr x.apart (yzh h1) (yzh h2)
 ·have hy:scope.names.lookup y=some .cell∨scope.names.lookup y=some .free:=hy
  rcases hy with hy|hy
  ·exact zzlb hy
  ·exact absurd rfl (S.nofree _ (yzh hy))
 ·exact yye (x.above y c (yzh h))
 ·have hi:i<vs.length:=by
   unfold start at h2
   by_cases hi:i<vs.length
   ·exact hi
   ·rw[ytd (by simpa using hi)] at h2;rw[ytc] at h2
    split at h2<;>cases h2
  have ha:vs[i]?=some v:=by
   unfold start at h2;rw[ydh (by simpa using hi),yia] at h2;cases e:vs[i]? with
   | none=>rw[e] at h2;cases h2
   | some a=>rw[e] at h2;cases h2;rfl
  obtain⟨u,hu,rv⟩:=r.get ha;have hp:ps[i]?=some y:=by
   rw[← S.pre,yoh (by omega)];exact h1
  have ndP:ps.Nodup:=by rw[← S.pre];exact S.nd.sublist (yfn _ _)
  refine⟨u,rv,?_⟩
  rcases S.par y (ycb hp) with k|k
  ·exact .inl ⟨k,zsfb ndP hp hu k⟩
  ·obtain⟨c,e⟩:=zzlb (n:=s.heap.objs.size+1) k;refine .inr ⟨.inl k,c,e,?_⟩;have q:=x.cell y c e;rw[zufb ndP hp hu (by show scope.names.lookup y≠_;rw[k];decide)] at q;exact q
 ·exact e0.hok.fresh (yye (x.above y c (yzh h)))
 ·unfold start;show _=N.length
  rw[ypa,yca,yib];omega
theorem zkfc {CX:CXT}{P:yzb}{w:World}{K:yda}{mg:Str->Option Value}{base:Heap}{k:Nat}{f:Addr}{name qual:Str}{params:Arguments}{body:List Stmt}{scope:Scope}{dV kV doc pm cdv ct oc:Value}{an od:Option Addr}
  {osl:Array (Option Value)} {N ps:List Str} {sp:Sp} (lk:K.lookup f=some ⟨oc,od,.func (ytf name qual params body scope dV kV doc pm an cdv ct),osl⟩) (hcd:yeh K cdv qual=true) (S:zma N ps scope)
  (len:∀vs H Q E,sp vs H Q E->vs.length=ps.length)
  (hbody:∀(A:Around) (outer:List Env) (s:Shared) (H:Hp) (vs:List V) (Q:VK) (E:XK),Room k (A.deeper (envOfC qual scope s.heap.objs.size f cdv))->sp vs H Q E →
   ∃t,PSs (cxOf CX P w K mg base N qual scope f cdv A outer s H E) body t∧t { nx:=λ_ H'=>Q .non H',rt:=Q } (start N vs) H) :
  FnOk P w K mg base CX (k+1) f (ytf name qual params body scope dV kV doc pm an cdv ct) ps sp:=by
 refine⟨len,λA outer s H args us vs Q E hr e0 hb r hsp=>?_⟩;have hl:=len _ _ _ _ hsp;have KX:K.In s.heap:=e0.mod.kin.keeps λb o e=>(e0.bs b o e).1;have lim:s.heap.NoLimit:=e0.mod.nolimit.keeps λb o e=>(e0.bs b o e).1;have hkind:∀y∈ps.zip us,scope.names.lookup y.1=some .local∨(scope.names.lookup y.1=some .cell∧((cellsFrom (s.heap.objs.size+1) scope.names []).lookup y.1).isSome=true):=λ⟨n,v⟩ hy=>by
  rcases S.par n (ymp hy).1 with q|q
  ·exact .inl q
  ·exact .inr ⟨q,yzo _ _ _ (.inl q)⟩
 refine codeAny_call_function hr.depth (KX _ _ lk) rfl S.co S.gen rfl (PySem.W.codeRec_of KX hcd) (hb _ _ _ _ ?_);refine wpAny_newFunctionEnv_cells S.kind hkind λenv he s1 x=>?_;subst he;refine⟨lim.keeps x.toInCall.keep,codeAny_func ?_⟩;obtain⟨t,ht,hq⟩:=hbody A outer s H vs Q E (hr.deeper _) hsp;have I:Inv (cxOf CX P w K mg base N qual scope f cdv A outer s H E) [] (start N vs) H s1:=ztrb S hr.hd e0 hl r x;refine ykf (ht [] s1 (start N vs) H _ I hq) (λfl s' hs=>?_) λe s' hs=>hs;have fin:∀{σ':St} {H':Hp} {v:V} {u:Value},Inv (cxOf CX P w K mg base N qual scope f cdv A outer s H E) [] σ' H' s'->RelV v u->Q v H'->CE outer P w H s Q u s' :=
  λ{σ' H' v u} J rv q=>⟨v,H',J.os,J.bare,J.base,J.hok,rv,q⟩
 cases fl with
 | ret u =>
  obtain⟨v,σ',H',J,rv,q⟩:=hs;exact fin J rv q
 | next =>
  obtain⟨σ',H',J,q⟩:=hs;exact fin (v:=V.non) (u:=Value.none) J rfl q
 | brk =>
  obtain⟨_,_,_,q⟩:=hs;exact yvg q
 | cont =>
  obtain⟨_,_,_,q⟩:=hs;exact yvg q
end L2
namespace L2
open PySem PySem.Spec PyProof.Rows
section
variable {X:Cx}{x:Str}{p pos:Pos}{e:Expr}{es:List Expr}{t:TA}{id T:String}{r:List V->Hp->VK->Prop}
def tCB (r:List V->Hp->VK->Prop)(t:TA):TE:=fun σ H Q=>t σ H λvs H1=>r vs H1 Q
theorem zab (hc:zfi X (.builtin id) r)(hg:Gl X x)(hm:X.mg x=none)(hv:yki x=some (.builtin id))(ha:PA X (e::es) t)(hn:x ≠ "__name__":=by decide)(hdb:(x==("__debug__":Str))=false:=by decide)
  (he:yxc (e::es) X.env=(false,eval e X.env)::yxc es X.env:=by rfl) (hpl:(backTo pos (yxc es X.env)).any (·.1)=false:=by rfl):PE X (.Call (.Name x p) (e::es) [] pos) (tCB r t):=by
 intro pins s σ H Q I h;refine yii (zgr I hg hm hv ?_ hn hdb);exact PyProof.Rows.callWith_builtin1 (thn (ha pos pins s σ H _ I h) λus s1 ⟨vs,H1,I1,r1,q1⟩=>hc pins s1 σ H1 vs us Q I1 r1 q1) he hpl
theorem zna (hc:zfi X (.type T) r)(hg:Gl X x)(hm:X.mg x=none)(hv:yki x=some (.type T))(ha:PA X (e::es) t)(hn:x ≠ "__name__":=by decide)(hdb:(x==("__debug__":Str))=false:=by decide)
  (he:yxc (e::es) X.env=(false,eval e X.env)::yxc es X.env:=by rfl) (hpl:(backTo pos (yxc es X.env)).any (·.1)=false:=by rfl):PE X (.Call (.Name x p) (e::es) [] pos) (tCB r t):=by
 intro pins s σ H Q I h;refine yii (zgr I hg hm hv ?_ hn hdb);exact ymd (thn (ha pos pins s σ H _ I h) λus s1 ⟨vs,H1,I1,r1,q1⟩=>hc pins s1 σ H1 vs us Q I1 r1 q1) he hpl
end
end L2
namespace HT
open PySem PyProof.Rows
section
open PySem.SeqAt
open PySem.AutoSeq1 (wpAny_loadPart')
open PySem.MeetsSeq PySem.MeetsSeq2 PySem.MeetsSeq3
end
section
variable {prog:yzb}{w:World}{A:Around}{E:Value->Shared->Prop}{s:Shared}
theorem zdcc {t b:Addr}{vs ws:List Value}{Q:Value->Shared->Prop}(ht:IsTup s.heap t vs.toArray)(hb:IsTup s.heap b ws.toArray)(hv:vs≠[])
  (h1:ws=[]->Q (.ref t) s) (h2:ws≠[]->Q (.ref s.heap.objs.size) { s with heap:=s.heap.push { cls:=.type "tuple",data:=.seq (vs++ws).toArray } })
  (hsz:vs.length+ws.length≤yva):wpAny (model prog w) A (ydj .Add (.ref t) (.ref b)) Q E s:=by
 obtain⟨⟨cls,dd,data,sl⟩,ho,hc,n,hd⟩:=id ht;obtain⟨⟨cls2,dd2,data2,sl2⟩,ho2,hc2,n2,hd2⟩:=id hb;simp only at hc hd hc2 hd2;subst hc hd hc2 hd2;have e:vs.toArray++ws.toArray=(vs++ws).toArray:=by simp
 by_cases hw:ws=[]
 ·exact ynp ⟨_,ho,rfl⟩ ⟨_,ho2,rfl⟩ yvk yao ygi yai (yph _ _)
   (tuple_addW1 t b vs.toArray ws.toArray n n2 dd dd2 sl sl2 (by simpa using hv) (by simp[hw])) ⟨ho,ho2,h1 hw⟩
 ·refine ynp ⟨_,ho,rfl⟩ ⟨_,ho2,rfl⟩ yvk yao ygi yai (yph _ _)
   (tuple_addW2 t b vs.toArray ws.toArray n n2 dd dd2 sl sl2 (by simpa using hv) (by simpa using hw) (by rw[yqa,yqa];exact hsz)) ⟨ho,ho2,?_⟩
  rw[e];exact h2 hw
def sIx (n d:Nat):Option Int->Nat
 | none=>d
 | some v=>if v<0 then (v+(n:Int)).toNat else min v.toNat n
theorem zwkb (n d:Nat):sIx n d none=d:=rfl
theorem ziab (n d k:Nat):sIx n d (some (k:Int))=min k n:=by
 show (if (k:Int)<0 then ((k:Int)+(n:Int)).toNat else min (k:Int).toNat n)=min k n
 rw[if_neg (by omega),yeb]
theorem zwdc (n d:Nat)(hd:d≤n)(o:Option Int):sIx n d o≤n:=by
 cases o with
 | none=>exact hd
 | some v =>
  show (if v<0 then (v+(n:Int)).toNat else min v.toNat n)≤n
  by_cases hv:v<0
  ·rw[if_pos hv];omega
  ·rw[if_neg hv];exact yoo _ _
theorem zqsb (v:Int)(n d:Nat):(if v<0 then max (v+(n:Int)) 0 else min v (n:Int))=((sIx n d (some v):Nat):Int):=by
 show (if v<0 then max (v+(n:Int)) 0 else min v (n:Int))=(((if v<0 then (v+(n:Int)).toNat else min v.toNat n):Nat):Int)
 by_cases hv:v<0
 ·simp only[if_pos hv];omega
 ·simp only[if_neg hv];omega
theorem ziob (lo hi:Option Int)(n:Nat):yaj lo hi 1 (n:Int)=(((sIx n 0 lo:Nat):Int),((sIx n n hi:Nat):Int)):=by
 have h1:¬ ((1:Int)<0):=by omega
 unfold yaj;simp only[h1,if_false];refine Prod.ext ?_ ?_
 ·cases lo with
  | none=>rfl
  | some v=>exact zqsb v n 0
 ·cases hi with
  | none=>rfl
  | some v=>exact zqsb v n n
theorem zanb (i j:Nat):yfh (i:Int) (j:Int) 1=j-i:=by
 unfold yfh;have h1:(1:Int)>0:=by omega
 simp only[h1,if_true,Int.ediv_one]
 split<;>omega
theorem zsy {v:Value}{o:Option Int}{Q:Option Int->Shared->Prop}(p:IsPart v o)(h:Q o s):wpAny (model prog w) A (yle.Slice.slicePartIndex v) Q E s:=by
 cases p with
 | none=>exact slicePart_none h
 | int i t=>exact slicePart_int h
theorem zlm {sl:Addr}{vl vu:Value}{lo hi:Option Int}{n:Nat}{Q:Int×Int×Nat->Shared->Prop}(hs:s.heap.IsSliceOf sl vl vu .none)(pl:IsPart vl lo)(pu:IsPart vu hi)
  (h:Q (((sIx n 0 lo:Nat):Int),1,sIx n n hi-sIx n 0 lo) s):wpAny (model prog w) A (yhm (.ref sl) (pure (n:Int))) Q E s:=by
 obtain⟨os,hos,hcs,hds⟩:=id hs;unfold yhm yle.Slice.sliceFields;refine yaa (yaa (ynd hos hds (x:=vl) rfl (yaa (ynd hos hds (x:=vu) rfl (yaa (ynd hos hds (x:=.none) rfl (yea ?_)))))));refine yaa (slicePart_none ?_);show wpAny _ _ (if ((1:Int)==0)=true then _ else _) _ _ s
 rw[if_neg (by decide)];refine yaa (zsy pl (yaa (zsy pu (yaa (yea ?_)))));show wpAny _ _ (match yaj lo hi 1 (n:Int) with|(lo,hi)=>pure (lo,(1:Int),yfh lo hi 1)) _ _ s
 rw[ziob lo hi n];show wpAny _ _ (pure (((sIx n 0 lo:Nat):Int),(1:Int),yfh ((sIx n 0 lo:Nat):Int) ((sIx n n hi:Nat):Int) 1)) _ _ s
 rw[zanb];exact yea h
theorem zkvb (xs:Array Value)(i k:Nat):((yxb k).filterMap λ(m:Nat)=>xs[((i:Int)+(m:Int)*1).toNat]?).toArray=((xs.toList.drop i).take k).toArray:=by
 have e:(λ(m:Nat)=>xs[((i:Int)+(m:Int)*1).toNat]?)=λm=>xs[i+m]?:=by
  funext m
  have:((i:Int)+(m:Int)*1).toNat=i+m:=by omega
  rw[this]
 rw[e];have:=pick_run xs i k;rw[List.filterMap_map] at this;have e2:((λx=>xs[x]?)∘λx=>i+x)=λm=>xs[i+m]?:=rfl;rw[e2] at this;rw[this]
theorem zls {t sl:Addr}{items:Array Value}{vl vu:Value}{lo hi:Option Int}{Q:Value->Shared->Prop}(ht:IsTup s.heap t items)(hs:s.heap.IsSliceOf sl vl vu .none)(pl:IsPart vl lo)(pu:IsPart vu hi)
  (hw:¬ (sIx items.size 0 lo=0∧sIx items.size items.size hi=items.size))
  (h:Q (.ref s.heap.objs.size) { s with heap:=s.heap.push { cls:=.type "tuple",data:=.seq ((items.toList.drop (sIx items.size 0 lo)).take (sIx items.size items.size hi-sIx items.size 0 lo)).toArray } })
  (hsz:items.size≤yva):wpAny (model prog w) A (yvq (.ref t) (.ref sl)) Q E s:=by
 have htake:sizeOk (.seq ((items.toList.drop (sIx items.size 0 lo)).take (sIx items.size items.size hi-sIx items.size 0 lo)).toArray):=by
  show ((items.toList.drop (sIx items.size 0 lo)).take (sIx items.size items.size hi-sIx items.size 0 lo)).toArray.size≤yva
  rw[yqa,yza,yej,ysa];omega
 have hj:sIx items.size items.size hi≤items.size:=zwdc _ _ (yga _) hi;obtain⟨os,hos,hcs,hds⟩:=id hs;have hTs:s.TypeIs (.ref sl) "slice":=⟨os,hos,hcs⟩;unfold yvq
 try with_reducible refine yad ?_
 first|refine yaa (yea ?_)|skip
 refine yaa (ygn ht.typeIs (by decide) ?_);refine yaa (yuc (name:=yuf "__getitem__") ht.typeIs yod
  (ync yod ht.typeIs entry_tuple_getitem ?_ (args_tuple_getitem _ _)))
 show wpAny _ _ (yim (.ref t) >>= _) _ _ s
 refine yaa (tupleItemsOf_ ht ?_);refine yaa (ykj hTs ?_);rw[if_pos (by decide)];refine yaa (zlm hs pl pu ?_);have hno:¬ ((((sIx items.size 0 lo:Nat):Int)==0&&(1:Int)==1&&(sIx items.size items.size hi-sIx items.size 0 lo)==items.size)=true):=by
  intro q;rw[yhe,yhe] at q;have q1:((sIx items.size 0 lo:Nat):Int)=0:=eq_of_beq q.1.1;have q2:sIx items.size items.size hi-sIx items.size 0 lo=items.size:=eq_of_beq q.2;exact hw ⟨by omega,by omega⟩
 show wpAny _ _ (if (((sIx items.size 0 lo:Nat):Int)==0&&(1:Int)==1&&(sIx items.size items.size hi-sIx items.size 0 lo)==items.size)=true then _ else _) _ _ s
 rw[if_neg hno,zkvb]
 first
  | exact yaa (m:=yqh _) (ydd (yea ⟨_,rfl,yea h⟩) htake)
  | exact yaa (m:=yqh _) (ydd (yaa (yea (yea ⟨_,rfl,yea h⟩))) htake)
  | exact yaa (yaa (m:=yqh _) (ydd (yea (yea ⟨_,rfl,yea h⟩)) htake))
  | exact yaa (yaa (m:=yqh _) (ydd (yea ⟨_,rfl,yea h⟩) htake))
end
end HT
namespace L2
open PySem PySem.Spec PyProof.Rows
abbrev TO:=St->Hp->(Option Int->Hp->Prop)->Prop
def PO (X:Cx)(e:Option Expr)(t:TO):Prop :=
 ∀(pins:List (Addr×Obj)) (s:Shared) (σ:St) (H:Hp) (Q:Option Int->Hp->Prop),Inv X pins σ H s->t σ H Q →
  wpAny (model X.prog X.w) X.A (evalPart e X.env) (λu s'=>Ex2 λo H'=>Inv X pins σ H' s'∧IsPart u o∧Q o H') X.xe s
def zzob:TO:=λ_ H Q=>Q none H
def zggc (t:TE):TO:=fun σ H Q=>t σ H λx H1=>∃i,x = .int i∧Q (some i) H1
theorem intsAre_of {ns:List Int}:∀{us:List Value},Vals (ns.map V.int) us->ykg us ns:=by
 induction ns with
 | nil=>intro us r;rw[yxh] at r;cases r;exact .nil
 | cons n ns ih =>
  intro us r;rw[ytb] at r;cases r with
  | cons r1 r2 =>
   obtain⟨t,e⟩:=r1;subst e;exact .cons n t (ih r2)
section
variable {X:Cx}{e:Expr}{te:TE}{lo hi:Option Expr}{tl th:TO}{pos p2:Pos}
theorem zod:PO X none zzob:=by
 intro pins s σ H Q I h;rw[evalPart_none];exact yea ⟨none,H,I,.none,h⟩
theorem znd (h:PE X e te):PO X (some e) (zggc te):=by
 intro pins s σ H Q I hw;rw[evalPart_some];refine thn (h pins s σ H _ I hw) λu s1 ⟨x,H1,I1,r1,q1⟩=>?_;obtain⟨i,rfl,q⟩:=q1;obtain⟨t,rfl⟩:=r1;exact⟨some i,H1,I1,.int i t,q⟩
def SlR (X:Cx)(r:V->Option Int->Option Int->Hp->VK->Prop):Prop :=
 ∀(pins:List (Addr×Obj)) (s:Shared) (σ:St) (H:Hp) (x:V) (v vl vu:Value) (lo hi:Option Int) (sl:Addr) (Q:VK),Inv X pins σ H s->RelV x v->s.heap.IsSliceOf sl vl vu .none->IsPart vl lo->IsPart vu hi->r x lo hi H Q →
  Ex2 λT id=>typeLookup (.type T) "__getitem__" = pure (some (.builtin id))∧s.TypeIs v T∧wpAny (model X.prog X.w) X.A (yvq v (.ref sl)) (EP X pins σ Q) X.xe s
def tSl (r:V->Option Int->Option Int->Hp->VK->Prop)(te:TE)(tl th:TO):TE:=fun σ H Q=>te σ H λx H1=>tl σ H1 λl H2=>th σ H2 λu H3=>r x l u H3 Q
theorem znc {r:V->Option Int->Option Int->Hp->VK->Prop}(hr:SlR X r)(he:PE X e te)(hl:PO X lo tl)(hu:PO X hi th):PE X (.Subscript e (.Slice lo hi none p2) pos) (tSl r te tl th):=by
 intro pins s σ H Q I h;refine Subscript_ (thn (he pins s σ H _ I h) λv s1 ⟨x,H1,I1,r1,q1⟩=>?_);refine wpAny_Slice (thn (hl pins s1 σ H1 _ I1 q1) λvl s2 ⟨l,H2,I2,pl,q2⟩=>thn (hu pins s2 σ H2 _ I2 q2) λvu s3 ⟨u,H3,I3,pu,q3⟩=>?_);rw[evalPart_none];refine yea ?_;have I4:Inv X pins σ H3 { s3 with heap:=s3.heap.push { cls:=.type "slice",data:=.fields #[vl,vu,.none] } }:=I3.kept (t':=s3.toks) λb ob q=>yba _ q;obtain⟨T,id,hT,ht,hg⟩:=hr pins { s3 with heap:=s3.heap.push { cls:=.type "slice",data:=.fields #[vl,vu,.none] } } σ H3 x v vl vu l u s3.heap.objs.size Q I4 r1 (Heap.IsSliceOf.new ..) pl pu q3;show wpAny (model X.prog X.w) X.A (subscriptTail e (.Slice lo hi none p2) v (.ref s3.heap.objs.size)) (EP X pins σ Q) X.xe { s3 with heap:=s3.heap.push { cls:=.type "slice",data:=.fields #[vl,vu,.none] } }
 exact tail_any (ops:=[.ref s3.heap.objs.size,v]) ht hT hg (by with_unfolding_all rfl)
def cutV (xs:List V)(lo hi:Option Int):List V:=(xs.drop (HT.sIx xs.length 0 lo)).take (HT.sIx xs.length xs.length hi-HT.sIx xs.length 0 lo)
theorem zww (xs:List V)(lo hi:Option Int):(cutV xs lo hi).length≤xs.length:=by
 unfold cutV;rw[yza,yej];omega
def rSlT (K:yda):V->Option Int->Option Int->Hp->VK->Prop:=λx lo hi H Q=>Ex2 λa xs=>x = .ref a∧SqT K H a xs ∧
 ¬ (HT.sIx xs.length 0 lo=0∧HT.sIx xs.length xs.length hi=xs.length)∧∀p,H p=none->Q (.ref p) (upd H p (.tup (cutV xs lo hi)))
theorem zwk:SlR X (rSlT X.K):=by
 intro pins s σ H x v vl vu lo hi sl Q I rx hs pl pu h;obtain⟨a,xs,rfl,hx,hw,q⟩:=h;cases rx;obtain⟨its,r,ht,hz⟩:=I.tuple hx;have hlen:its.toArray.size=xs.length:=by rw[yqa];exact r.length.symm
 refine⟨"tuple",_,yod.lookup,ht.typeIs,?_⟩;refine HT.zls ht hs pl pu (by rw[hlen];exact hw) ?_ (by rw[hlen];exact hz);rw[hlen];refine⟨.ref s.heap.objs.size,_,I.laid (t':=s.toks) (o:=.tup (cutV xs lo hi)) (λb ob q=>yba _ q) (yga _) ?_,rfl,q _ (I.hok.fresh (yga _))⟩;exact⟨yob (zww xs lo hi) hz,_,(r.drop (HT.sIx xs.length 0 lo)).take (HT.sIx xs.length xs.length hi-HT.sIx xs.length 0 lo),ygt _ _⟩
def zcec (K:yda):R2:=λx y H Q=>Ex4 λa b xs ys=>x = .ref a∧y = .ref b∧SqT K H a xs∧SqT K H b ys∧xs≠[]∧xs.length+ys.length≤yva ∧
 (ys=[]->Q (.ref a) H)∧(ys≠[]->∀p,H p=none->Q (.ref p) (upd H p (.tup (xs++ys))))
theorem Vals.zgw {xs:List V}{us:List Value}(r:Vals xs us):us=[]↔xs=[]:=by
 cases r with
 | nil=>simp
 | cons _ _=>simp
theorem zzh:OpR X (ydj .Add) (zcec X.K):=by
 intro pins s σ H x y v u Q I rx ry h;obtain⟨a,b,xs,ys,rfl,rfl,ha,hb,hx,hz,q1,q2⟩:=h;cases rx;cases ry;obtain⟨its,r1,p1,_⟩:=I.tuple ha;obtain⟨its2,r2,p2,_⟩:=I.tuple hb;refine HT.zdcc p1 p2 (λz=>hx (r1.zgw.mp z)) (λz=>⟨.ref a,H,I,rfl,q1 (r2.zgw.mp z)⟩) (λz=>?_) (by rw[← r1.length,← r2.length];exact hz);refine⟨.ref s.heap.objs.size,_,I.laid (t':=s.toks) (o:=.tup (xs++ys)) (λb ob q=>yba _ q) (yga _) ?_,rfl,q2 (λw=>z (r2.zgw.mpr w)) _ (I.hok.fresh (yga _))⟩;exact⟨by rw[ypa];exact hz,_,r1.append r2,ygt _ _⟩
end
end L2
namespace L2
open PySem PySem.Spec PyProof.Rows
def ixN (n:Nat)(i:Int):Option Nat:=if 0≤i then (if i<n then some i.toNat else none) else if -(n:Int)≤i then some (i+n).toNat else none
def atI {α:Type}(xs:List α)(i:Int):Option α:=(ixN xs.length i).bind λj=>xs[j]?
theorem zsrb {n:Nat}{i:Int}{j:Nat}(h:ixN n i=some j):seqIndex? i n=some j∧j<n ∧ -(n:Int)≤i∧i<n:=by
 unfold ixN at h
 by_cases h0:0≤i
 ·rw[if_pos h0] at h
  by_cases h1:i<n
  ·rw[if_pos h1] at h;have e:i.toNat=j:=yoc h;exact⟨by rw[seqIndex_of h0 h1,e],by omega,by omega,h1⟩
  ·rw[if_neg h1] at h;cases h
 ·rw[if_neg h0] at h
  by_cases h1:-(n:Int)≤i
  ·rw[if_pos h1] at h;have e:(i+n).toNat=j:=yoc h;exact⟨by rw[seqIndex_neg (by omega) h1,e],by omega,h1,by omega⟩
  ·rw[if_neg h1] at h;cases h
theorem zgjb {α:Type}{xs:List α}{i:Int}{v:α}(h:atI xs i=some v):∃j,seqIndex? i xs.length=some j∧xs[j]?=some v∧j<xs.length ∧ -(xs.length:Int)≤i∧i<xs.length:=by
 unfold atI at h;cases e:ixN xs.length i with
 | none=>rw[e] at h;cases h
 | some j =>
  rw[e] at h;obtain⟨h1,h2,h3,h4⟩:=zsrb e;exact⟨j,h1,h,h2,h3,h4⟩
theorem zpa {α:Type}{xs:List α}{j:Nat}{v:α}(h:xs[j]?=some v):atI xs (j:Int)=some v:=by
 have hj:j<xs.length:=(yha.mp h).1;have e:ixN xs.length (j:Int)=some j:=by
  unfold ixN;rw[if_pos (by omega),if_pos (by omega)];simp
 unfold atI;rw[e];exact h
def zqcc (b:Expr):Prop:=∀o i,subscripted b false o i=operate [o,i] (yvq o i)
def IxR (X:Cx)(r:R2):Prop :=
 ∀(value slice:Expr) (pins:List (Addr×Obj)) (s:Shared) (σ:St) (H:Hp) (x y:V) (v u:Value) (Q:VK),Inv X pins σ H s->RelV x v->RelV y u->r x y H Q →
  subscripted slice false v u=operate [v,u] (yvq v u)->wpAny (model X.prog X.w) X.A (subscriptTail value slice v u) (EP X pins σ Q) X.xe s
def MtR (X:Cx)(id:String)(r:V->List V->Hp->VK->Prop):Prop :=
 ∀(pins:List (Addr×Obj)) (s:Shared) (σ:St) (H:Hp) (x:V) (xs:List V) (v:Value) (us:List Value) (Q:VK),Inv X pins σ H s->RelV x v->Vals xs us->r x xs H Q →
  wpAny (model X.prog X.w) X.A (call (.builtin id) (v::us)) (EP X pins σ Q) X.xe s
section
variable {X:Cx}{a b:Expr}{ta tb:TE}{pos:Pos}
theorem IxR.or {r r':R2}(h:IxR X r)(h':IxR X r'):IxR X (λx y H Q=>r x y H Q∨r' x y H Q):=by
 intro value slice pins s σ H x y v u Q I rx ry q hs
 rcases q with q|q
 ·exact h value slice pins s σ H x y v u Q I rx ry q hs
 ·exact h' value slice pins s σ H x y v u Q I rx ry q hs
theorem zva {r:R2}(hr:IxR X r)(ha:PE X a ta)(hb:PE X b tb)(hs:zqcc b):PE X (.Subscript a b pos) (tOp r ta tb):=by
 intro pins s σ H Q I h;exact Subscript_ (binT ha hb I h λv u s2 x y H2 I2 rx ry q=>hr a b pins s2 σ H2 x y v u Q I2 rx ry q (hs _ _))
def rIxL (K:yda):R2:=λx y H Q=>Ex4 λp xs i v=>x = .ref p∧y = .int i∧SqL K H p xs∧atI xs i=some v∧Q v H
def rIxT (K:yda):R2:=λx y H Q=>Ex4 λp xs i v=>x = .ref p∧y = .int i∧SqT K H p xs∧atI xs i=some v∧Q v H
def rIxS:R2:=λx y H Q=>Ex3 λz i c=>x = .str z∧y = .int i∧z.length≤yva∧atI z.cps.toList i=some c∧Q (.str ⟨#[c]⟩) H
theorem zad:IxR X (rIxL X.K):=by
 intro value slice pins s σ H x y v u Q I rx ry h hs;obtain⟨p,xs,i,z,rfl,rfl,hq,he,q⟩:=h;cases rx;obtain⟨t,rfl⟩:=ry;obtain⟨its,r,pl,hz⟩:=I.list hq;obtain⟨j,h1,h2,h3,h4,h5⟩:=zgjb he;obtain⟨w,ew,rw'⟩:=r.get h2;have hl:=r.length;have hn:=zmw;have fin:EP X pins σ Q w s:=⟨z,H,I,rw',q⟩
 by_cases h0:0≤i
 ·have hj:i.toNat=j:=by
   rw[seqIndex_of h0 h5] at h1;exact yoc h1
  exact item_listR pl.isList h0 (by omega) (by rw[hj];simpa using ew) fin hs
 ·have hj:(i+(its.toArray.size:Int)).toNat=j:=by
   rw[seqIndex_neg (by omega) h4] at h1;rw[yqa,← hl];exact yoc h1
  exact yap (x:=w) pl.isList.typeIs slot_list_getitem.lookup
   (wpAny_getItem_list_neg (Q:=λr s'=>r=w∧EP X pins σ Q r s') pl.isList (by omega) (by rw[yqa]<;>omega) (by omega) (by rw[hj];simpa using ew) ⟨rfl,fin⟩) hs
theorem zcb:IxR X (rIxT X.K):=by
 intro value slice pins s σ H x y v u Q I rx ry h hs;obtain⟨p,xs,i,z,rfl,rfl,hq,he,q⟩:=h;cases rx;obtain⟨t,rfl⟩:=ry;obtain⟨its,r,pl,hz⟩:=I.tuple hq;obtain⟨j,h1,h2,h3,h4,h5⟩:=zgjb he;obtain⟨w,ew,rw'⟩:=r.get h2;have hl:=r.length;have hn:=zmw;have fin:EP X pins σ Q w s:=⟨z,H,I,rw',q⟩;exact yap (x:=w) pl.typeIs slot_tuple_getitem.lookup
  (getItem_tuple (j:=j) (Q:=λr s'=>r=w∧EP X pins σ Q r s') pl (by omega) (by omega) (by rw[yqa,← hl];exact h1) (by simpa using ew) ⟨rfl,fin⟩) hs
theorem zqyb:IxR X rIxS:=by
 intro value slice pins s σ H x y v u Q I rx ry h hs;obtain⟨z,i,c,rfl,rfl,hz,he,q⟩:=h;obtain⟨t,rfl⟩:=rx;obtain⟨t',rfl⟩:=ry;obtain⟨j,h1,h2,h3,h4,h5⟩:=zgjb he;have hl:z.cps.toList.length=z.length:=by simp[Str.length]
 rw[hl] at h1 h4 h5;have hn:=zmw;exact tail_any (ylq s z t) slot_str_getitem.lookup (getItem_str (c:=c) (by
  have e1:decide (i < -(2 ^ 63:Int))=false:=decide_eq_false (by omega);have e2:decide (i≥2 ^ 63)=false:=decide_eq_false (by omega);rw[e1,e2,yfl]) (by rw[h1];simpa using h2) ⟨.str ⟨#[c]⟩,H,I.tok _,⟨_,rfl⟩,q⟩) hs
def rIx (K:yda):R2:=λx y H Q=>rIxL K x y H Q∨rIxT K x y H Q∨rIxS x y H Q
theorem zefc:IxR X (rIx X.K):=zad.or (zcb.or zqyb)
theorem zpnb (its:List Value)(n j:Nat)(u:Value):yzd (·.setIfInBounds j u) { cls:=.type "list",data:=.seq its.toArray n }={ cls:=.type "list",data:=.seq (its.set j u).toArray n }:=by
 simp[yzd]
theorem Inv.lst {pins:List (Addr×Obj)}{σ:St}{H:Hp}{s:Shared}{p:Addr}{xs:List V}(I:Inv X pins σ H s)(h:H p=some (.lst xs)) :
  Ex2 λ(its:List Value) (n:Nat)=>Vals xs its∧s.heap.get? p=some { cls:=.type "list",data:=.seq its.toArray n }∧xs.length≤yva:=by
 obtain⟨z,its,n,r,e⟩:=I.hok p _ h;exact⟨its,n,r,e,z⟩
theorem Inv.zrec {pins:List (Addr×Obj)}{σ:St}{H:Hp}{s:Shared}{p:Addr}{xs ys:List V}{its its':List Value}{n n':Nat}{f:Obj->Obj}(I:Inv X pins σ H s)(h:H p=some (.lst xs))
  (ho:s.heap.get? p=some { cls:=.type "list",data:=.seq its.toArray n }) (hf:f { cls:=.type "list",data:=.seq its.toArray n }={ cls:=.type "list",data:=.seq its'.toArray n' }) (r:Vals ys its') (hz:ys.length≤yva) (t:Nat) :
  Inv X pins σ (upd H p (.lst ys)) { s with heap:=s.heap.update p f,toks:=t }:=by
 have e:(s.heap.update p f).get? p=some { cls:=.type "list",data:=.seq its'.toArray n' }:=by
  rw[yhd f ho (by rw[hf]<;>rfl),hf]
 refine I.write (x:=p) (e:=p) (by rw[h];trivial) (.inl rfl) (λb u hb q=>(ybd _ _ (ysc hb)).trans q) ⟨_,e⟩ ?_;exact⟨hz,its',n',r,e⟩
def zzdc:V->V->V->Hp->(Hp->Prop)->Prop:=λo i v H Q=>Ex4 λp xs k j=>o = .ref p∧i = .int k∧H p=some (.lst xs)∧ixN xs.length k=some j∧Q (upd H p (.lst (xs.set j v)))
theorem set_list:PSet X zzdc:=by
 intro pins s σ H o i v ov iv u Q I ro ri rv h;obtain⟨p,xs,k,j,rfl,rfl,hp,hj,q⟩:=h;cases ro;obtain⟨t,rfl⟩:=ri;obtain⟨its,n,r,ho,hz⟩:=I.lst hp;obtain⟨h1,h2,h3,h4⟩:=zsrb hj;have hl:=r.length;have hn:=zmw;have I':Inv X pins σ (upd H p (.lst (xs.set j v))) { s with heap:=s.heap.update p (yzd (·.setIfInBounds j u)) } :=
  I.zrec hp ho (zpnb its n j u) (r.set rv j) (by rw[yhf];exact hz) s.toks
 by_cases h0:0≤k
 ·have hk:k.toNat=j:=by
   rw[seqIndex_of h0 h4] at h1;exact yoc h1
  exact PySem.W.ki_setAt ho h0 (by omega) (by rw[yqa,← hl];exact h4) (by rw[hk];exact⟨_,I',q⟩)
 ·have hk:(k+(its.toArray.size:Int)).toNat=j:=by
   rw[seqIndex_neg (by omega) h3] at h1;rw[yqa,← hl];exact yoc h1
  exact PySem.W.ki_setBack ho (by omega) (by rw[yqa,← hl];exact h3) (by omega) (by rw[hk];exact⟨_,I',q⟩)
theorem zycb (lo hi:Option Int)(n:Nat):(ygk lo hi none n).1=((HT.sIx n 0 lo:Nat):Int)∧(ygk lo hi none n).2.1=((HT.sIx n n hi:Nat):Int)∧(ygk lo hi none n).2.2=1:=by
 refine⟨?_,?_,rfl⟩
 ·cases lo with
  | none=>simp[ygk,HT.sIx]
  | some i =>
   simp only[ygk,HT.sIx,yss,show (1:Int)>0 by decide,if_true]
   by_cases h:i<0
   ·simp only[h,if_true]<;>omega
   ·simp only[h,if_false]<;>omega
 ·cases hi with
  | none=>simp[ygk,HT.sIx]
  | some i =>
   simp only[ygk,HT.sIx,yss,show (1:Int)>0 by decide,if_true]
   by_cases h:i<0
   ·simp only[h,if_true]<;>omega
   ·simp only[h,if_false]<;>omega
theorem zxz (its:List Value)(lo hi:Option Int):slicePick its.toArray lo hi none=((its.drop (HT.sIx its.length 0 lo)).take (HT.sIx its.length its.length hi-HT.sIx its.length 0 lo)).toArray:=by
 obtain⟨h1,h2,h3⟩:=zycb lo hi its.toArray.size;unfold slicePick;rw[h1,h2,h3];simp only[sliceRange_one,pick_run,yqa]<;>rfl
def rSlL (K:yda):V->Option Int->Option Int->Hp->VK->Prop:=λx lo hi H Q=>Ex2 λa xs=>x = .ref a∧SqL K H a xs∧∀p,H p=none->Q (.ref p) (upd H p (.lst (cutV xs lo hi)))
theorem zpv:SlR X (rSlL X.K):=by
 intro pins s σ H x v vl vu lo hi sl Q I rx hs pl pu h;obtain⟨a,xs,rfl,hx,q⟩:=h;cases rx;obtain⟨its,r,ht,hz⟩:=I.list hx;have hlen:=r.length;refine⟨"list",_,slot_list_getitem.lookup,ht.isList.typeIs,?_⟩;refine wpAny_getItem_list_slice ht.isList hs pl pu .none (by simp) ?_ (by rw[yqa]<;>omega);rw[zxz,← hlen];refine⟨.ref s.heap.objs.size,_,I.laid (t':=s.toks) (o:=.lst (cutV xs lo hi)) (λb ob q=>yba _ q) (yga _) ?_,rfl,q _ (I.hok.fresh (yga _))⟩;exact⟨yob (zww xs lo hi) hz,_,0,(r.drop (HT.sIx xs.length 0 lo)).take (HT.sIx xs.length xs.length hi-HT.sIx xs.length 0 lo),yfa _ rfl⟩
def zfbb:V->Bool
 | .non=>true
 | .bl _=>true
 | .int _=>true
 | .str _=>true
 | _=>false
def eqV:V->V->Bool
 | .non,.non=>true
 | .bl a,.bl b=>a==b
 | .bl a,.int b=>(if a then 1 else 0)==b
 | .int a,.bl b=>a==(if b then 1 else 0)
 | .int a,.int b=>a==b
 | .str a,.str b=>a==b
 | _,_=>false
theorem zofc {A:Around}{s:Shared}{y x:V}{u v:Value}(ry:RelV y u)(rx:RelV x v)(fy:zfbb y=true)(fx:zfbb x=true):ypf A s u v (eqV y x):=by
 cases y with
 | non =>
  cases ry;cases x with
  | non=>cases rx;exact ypf.same _
  | bl b=>cases rx;exact ypf.none_bool b
  | int b=>obtain⟨t,rfl⟩:=rx;exact ypf.none_int b t
  | str b=>obtain⟨t,rfl⟩:=rx;exact ypf.none_str b t
  | _=>exact absurd (show false=true from fx) ymb
 | bl a =>
  cases ry;cases x with
  | non=>cases rx;exact ypf.bool_none a
  | bl b=>cases rx;exact ypf.bool_bool a b
  | int b=>obtain⟨t,rfl⟩:=rx;exact ypf.bool_int a b t
  | str b=>obtain⟨t,rfl⟩:=rx;exact ypf.bool_str a b t
  | _=>exact absurd (show false=true from fx) ymb
 | int a =>
  obtain⟨t',rfl⟩:=ry;cases x with
  | non=>cases rx;exact ypf.int_none a t'
  | bl b=>cases rx;exact ypf.int_bool a t' b
  | int b=>obtain⟨t,rfl⟩:=rx;exact ypf.int_int a t' b t
  | str b=>obtain⟨t,rfl⟩:=rx;exact ycr a t' b t
  | _=>exact absurd (show false=true from fx) ymb
 | str a =>
  obtain⟨t',rfl⟩:=ry;cases x with
  | non=>cases rx;exact ypf.str_none a t'
  | bl b=>cases rx;exact ypf.str_bool a t' b
  | int b=>obtain⟨t,rfl⟩:=rx;exact ydr a t' b t
  | str b=>obtain⟨t,rfl⟩:=rx;exact ypf.str_str a t' b t
  | _=>exact absurd (show false=true from fx) ymb
 | _=>exact absurd (show false=true from fy) ymb
def eqU (x:V)(u:Value):Bool:=match u with
 | .none=>eqV .non x
 | .bool b=>eqV (.bl b) x
 | .int i _=>eqV (.int i) x
 | .str z _=>eqV (.str z) x
 | _=>false
theorem zryb {x y:V}{u:Value}(r:RelV y u)(f:zfbb y=true):eqU x u=eqV y x:=by
 cases y with
 | non=>cases r;rfl
 | bl b=>cases r;rfl
 | int i=>obtain⟨t,rfl⟩:=r;rfl
 | str z=>obtain⟨t,rfl⟩:=r;rfl
 | _=>exact absurd (show false=true from f) ymb
theorem zix {x:V}:∀{xs:List V} {us:List Value},Vals xs us->xs.all zfbb=true->us.any (eqU x)=xs.any λy=>eqV y x
 | _,_,.nil,_=>rfl
 | y::xs,u::us,.cons r t,f=>by
  rw[List.all_cons,yhe] at f;rw[yjr,yjr,zryb r f.1,zix t f.2]
theorem zer {A:Around}{s:Shared}{x:V}{v:Value}(rx:RelV x v)(fx:zfbb x=true):∀{xs:List V} {us:List Value},Vals xs us->xs.all zfbb=true->∀u∈us,ypf A s u v (eqU x u)
 | _,_,.nil,_=>λu hu=>by cases hu
 | y::xs,u::us,.cons r t,f=>λu' hu=>by
  rw[List.all_cons,yhe] at f
  rcases yja.mp hu with rfl|hu
  ·rw[zryb r f.1];exact zofc r rx f.1 fx
  ·exact zer rx fx t f.2 u' hu
def inV (x:V)(xs:List V):Bool:=xs.any λy=>eqV y x
def rIn (K:yda)(neg:Bool):R2:=λx y H Q=>Ex2 λp xs=>y = .ref p∧(SqL K H p xs∨SqT K H p xs)∧zfbb x=true∧xs.all zfbb=true∧Q (.bl (if neg then !inV x xs else inV x xs)) H
theorem zqqb:OpR X (yaf .In) (rIn X.K false):=by
 intro pins s σ H x y v u Q I rx ry h;obtain⟨p,xs,rfl,hq,fx,fs,q⟩:=h;cases ry
 rcases hq with hq|hq
 ·obtain⟨its,r,pl,hz⟩:=I.list hq;refine SeqAt.in_listAt (eqU x) pl.isList (λw hw=>zer rx fx r fs w (by simpa using hw)) ⟨.bl _,H,I,rfl,?_⟩;rw[show its.toArray.any (eqU x)=its.any (eqU x) by simp,zix r fs];exact q
 ·obtain⟨its,r,pl,hz⟩:=I.tuple hq;refine SeqAt.in_tupleAt (eqU x) pl (λw hw=>zer rx fx r fs w (by simpa using hw)) ⟨.bl _,H,I,rfl,?_⟩;rw[show its.toArray.any (eqU x)=its.any (eqU x) by simp,zix r fs];exact q
theorem zaeb:OpR X (yaf .NotIn) (rIn X.K true):=by
 intro pins s σ H x y v u Q I rx ry h;obtain⟨p,xs,rfl,hq,fx,fs,q⟩:=h;cases ry
 rcases hq with hq|hq
 ·obtain⟨its,r,pl,hz⟩:=I.list hq;refine SeqAt.notIn_listAt (eqU x) pl.isList (λw hw=>zer rx fx r fs w (by simpa using hw)) ⟨.bl _,H,I,rfl,?_⟩;rw[show its.toArray.any (eqU x)=its.any (eqU x) by simp,zix r fs];exact q
 ·obtain⟨its,r,pl,hz⟩:=I.tuple hq;refine SeqAt.notIn_tupleAt (eqU x) pl (λw hw=>zer rx fx r fs w (by simpa using hw)) ⟨.bl _,H,I,rfl,?_⟩;rw[show its.toArray.any (eqU x)=its.any (eqU x) by simp,zix r fs];exact q
theorem zwa:zfi X (.builtin "len") (λxs H Q=>Ex2 λp ys=>xs=[.ref p]∧(SqL X.K H p ys∨SqT X.K H p ys)∧Q (.int ys.length) H):=by
 intro pins s σ H xs us Q I r h;obtain⟨p,ys,rfl,hq,q⟩:=h;obtain⟨u,rfl,rx⟩:=vals1 r;cases rx;have hn:=zmw
 rcases hq with hq|hq
 ·obtain⟨its,r',pl,hz⟩:=I.list hq;have hlen:=r'.length;exact Calls.call_len_list pl.isList (by simp only[yqa]<;>omega) ⟨.int ys.length,H,I.tok _,⟨s.toks+1,by rw[yqa,hlen]⟩,q⟩
 ·obtain⟨its,r',pl,hz⟩:=I.tuple hq;have hlen:=r'.length;exact len_tuple pl (by simp only[yqa]<;>omega) ⟨.int ys.length,H,I.tok _,⟨s.toks+1,by rw[yqa,hlen]⟩,q⟩
theorem zwt:zfi X (.builtin "len") (λxs H Q=>∃z,xs=[.str z]∧z.length≤yva∧Q (.int z.length) H):=by
 intro pins s σ H xs us Q I r h;obtain⟨z,rfl,hz,q⟩:=h;obtain⟨u,rfl,t,rfl⟩:=vals1 r;have hn:=zmw;exact len_str (by omega) ⟨.int z.length,H,I.tok _,⟨_,rfl⟩,q⟩
theorem zqc:zfi X (.type "list") (λxs H Q=>Ex2 λp ys=>xs=[.ref p]∧(SqL X.K H p ys∨SqT X.K H p ys)∧∀l,H l=none->Q (.ref l) (upd H l (.lst ys))):=by
 intro pins s σ H xs us Q I r h;obtain⟨p,ys,rfl,hq,q⟩:=h;obtain⟨u,rfl,rx⟩:=vals1 r;cases rx;have fin:∀(its:List Value),Vals ys its->ys.length≤yva->∀(h':Heap) (c':Nat),(∀b o',s.heap.get? b=some o'->h'.get? b=some o') →
   h'.get? s.heap.objs.size=some { cls:=.type "list",dict:=none,data:=.seq its.toArray c',slots:=#[] }->EP X pins σ Q (.ref s.heap.objs.size) { s with heap:=h' }:=λits r' hz h' c' kp e =>
  ⟨.ref s.heap.objs.size,_,I.laid (t':=s.toks) kp (yga _) (show zfl X.prog X.w _ h' _ (.lst ys) from⟨hz,its,c',r',e⟩),rfl,q _ (I.hok.fresh (yga _))⟩
 rcases hq with hq|hq
 ·obtain⟨its,r',pl,hz⟩:=I.list hq;have hlen:=r'.length;obtain⟨o,ho,hc,n,hd⟩:=pl.isList;exact call_list_seq p (.inl rfl) ho hc hd (λh' c' kp e=>fin its r' hz h' c' kp e) (by simp only[yqa]<;>omega)
 ·obtain⟨its,r',pl,hz⟩:=I.tuple hq;have hlen:=r'.length;obtain⟨o,ho,hc,n,hd⟩:=pl;exact call_list_seq p (.inr rfl) ho hc hd (λh' c' kp e=>fin its r' hz h' c' kp e) (by simp only[yqa]<;>omega)
theorem zoa:zfi X (.type "tuple") (λxs H Q=>Ex2 λp ys=>xs=[.ref p]∧((SqL X.K H p ys∧∀l,H l=none->Q (.ref l) (upd H l (.tup ys)))∨(SqT X.K H p ys∧Q (.ref p) H))):=by
 intro pins s σ H xs us Q I r h;obtain⟨p,ys,rfl,h⟩:=h;obtain⟨u,rfl,rx⟩:=vals1 r;cases rx
 rcases h with⟨hq,q⟩|⟨hq,q⟩
 ·obtain⟨its,r',pl,hz⟩:=I.list hq;have hlen:=r'.length;refine call_tuple_list pl.isList (λh' kp=>?_) (by simp only[yqa]<;>omega);have I1:Inv X pins σ H { s with heap:=h' }:=I.kept (t':=s.toks) kp;have I2:Inv X pins σ (upd H h'.objs.size (.tup ys)) { s with heap:=h'.push { cls:=.type "tuple",data:=.seq its.toArray } } :=
   I1.laid (t':=s.toks) (λb o e=>yba _ e) (yga _) (show zfl X.prog X.w _ _ _ (.tup ys) from⟨hz,its,r',ygt _ _⟩)
  exact⟨.ref h'.objs.size,_,I2,rfl,q _ (I1.hok.fresh (yga _))⟩
 ·obtain⟨its,r',pl,hz⟩:=I.tuple hq;exact call_tuple_same pl ⟨.ref p,H,I,rfl,q⟩
def tyV (K:yda)(T:String)(x:V)(H:Hp):Prop:=match x with
 | .str _=>T = "str"
 | .int _=>T = "int"
 | .ref p=>(T = "list" ∧ ∃xs,SqL K H p xs)∨(T = "tuple" ∧ ∃o,K.lookup p=some o∧o.cls = .type "tuple" ∧ o.dict=none) ∨
   (T = "dict" ∧ ((∃kvs,H p=some (.dK kvs))∨∃kvs,H p=some (.dT kvs)))∨(T = "set" ∧ Ex2 λS n=>H p=some (.set S n))
 | _=>False
theorem zwcc {pins:List (Addr×Obj)}{σ:St}{H:Hp}{s:Shared}{T:String}{x:V}{v:Value}(I:Inv X pins σ H s)(r:RelV x v)(ty:tyV X.K T x H) :
  s.TypeIs v T∧∀a,v = .ref a->∃ob,s.heap.get? a=some ob∧ob.dict=none:=by
 cases x with
 | str z =>
  obtain⟨t,rfl⟩:=r;cases (show T = "str" from ty);exact⟨ylq s z t,λ_ e=>nomatch e⟩
 | int i =>
  obtain⟨t,rfl⟩:=r;cases (show T = "int" from ty);exact⟨ykl s i t,λ_ e=>nomatch e⟩
 | ref p =>
  cases r
  rcases ty with⟨rfl,xs,hq⟩|⟨rfl,o,hk,hc,hd⟩|⟨rfl,hk⟩|⟨rfl,S,n,hk⟩
  ·obtain⟨its,_,pl,_⟩:=I.list hq;refine⟨pl.isList.typeIs,λa e=>?_⟩;cases e;obtain⟨o,n,e,c,hd,_⟩:=pl;exact⟨o,e,hd⟩
  ·refine⟨⟨o,I.kIn p o hk,hc⟩,λa e=>?_⟩;cases e;exact⟨o,I.kIn _ o hk,hd⟩
  ·have z:∃o,s.heap.get? p=some o∧o.ExactDict:=by
    rcases hk with⟨kvs,hk⟩|⟨kvs,hk⟩
    ·obtain⟨_,_,_,_,o,_,_,e,ex,_⟩:=I.hok p _ hk;exact⟨o,e,ex⟩
    ·obtain⟨_,_,_,_,o,_,_,e,ex,_⟩:=I.hok p _ hk;exact⟨o,e,ex⟩
   obtain⟨o,e,ex⟩:=z;refine⟨⟨o,e,ex.1⟩,λa e2=>?_⟩;cases e2;exact⟨o,e,ex.2.1⟩
  ·obtain⟨o,_,_,_,e,ex,_⟩:=I.hok p _ hk;refine⟨⟨o,e,ex.1⟩,λa e2=>?_⟩;cases e2;exact⟨o,e,ex.2.1⟩
 | _=>exact yvg ty
def tBM (K:yda)(T:String)(r:V->List V->Hp->VK->Prop)(to:TE)(t:TA):TE:=fun σ H Q=>to σ H λx H1=>tyV K T x H1∧t σ H1 λxs H2=>r x xs H2 Q
variable {o e:Expr}{es:List Expr}{to:TE}{t:TA}{name:Str}{apos cpos:Pos}{T id:String}{r:V->List V->Hp->VK->Prop}
theorem zog (pa:PlainAttrs T)(slot:Slot T name id)(hty:typeOf (.builtin id)=pure (.type "method_descriptor"))(hm:MtR X id r)(ho:PE X o to)(ha:PA X (e::es) t)
  (hbase:ymj o name X.env (eval o X.env)=eval o X.env:=by rfl)
  (hfew:((backTo cpos (yxc (e::es) X.env)).all (λx=>!x.1)&&(yct cpos (yyn [] X.env)).all (λx=>x.1.isSome)
   && decide ((e::es).length+([]:List ytr).length+(if ([]:List ytr).isEmpty then 0 else 1)<30))=true:=by rfl)
  (hline:(apos.endLine==cpos.line)=true:=by rfl) (hs:yxc (e::es) X.env=(false,eval e X.env)::yxc es X.env:=by rfl) (hplain:(backTo cpos (yxc es X.env)).any (·.1)=false:=by rfl) :
  PE X (.Call (.Attribute o name apos) (e::es) [] cpos) (tBM X.K T r to t):=by
 intro pins s σ H Q I h;refine wpAny_Call_method_late hbase hfew hline rfl (thn (ho pins s σ H _ I h) λv s1 ⟨x,H1,I1,r1,ty,q1⟩=>?_);obtain⟨h1,h2⟩:=zwcc I1 r1 ty;refine⟨T,id,pa,slot,hty,h1,h2,?_⟩;have hA:=ha cpos pins s1 σ H1 _ I1 q1;rw[hs] at hA ⊢;refine Calls.callWith_builtin (by show (false||(backTo cpos (yxc es X.env)).any (·.1))=false;rw[hplain]<;>rfl) (Calls.evalArgs_plain ?_);exact thn hA λus s2 ⟨vs,H2,I2,r2,q2⟩=>hm pins s2 σ H2 x vs v us Q I2 r1 r2 q2
end
end L2
namespace L2
open PySem PySem.Spec PyProof.Rows
def MtM (X:Cx)(id:String)(r:V->List V->Hp->VK->Prop):Prop :=
 ∀(pins:List (Addr×Obj)) (s:Shared) (σ:St) (H:Hp) (x:V) (xs:List V) (v:Value) (us:List Value) (Q:VK),Inv X pins σ H s->RelV x v->Vals xs us->r x xs H Q →
  wpAny (model X.prog X.w) X.A (call (.builtin id) (v::us)) (EP X pins σ Q) X.xe s
theorem Vals.one:∀{x:V} {us:List Value},Vals [x] us->∃u,us=[u]∧RelV x u
 | _,_,.cons r .nil=>⟨_,rfl,r⟩
theorem Vals.eraseIdx:∀{xs:List V} {us:List Value} (i:Nat),Vals xs us->Vals (xs.eraseIdx i) (us.eraseIdx i)
 | _,_,_,.nil=>.nil
 | _,_,0,.cons _ t=>t
 | _,_,i+1,.cons r t=>.cons r (Vals.eraseIdx i t)
theorem Vals.rep {xs:List V}{us:List Value}(h:Vals xs us):∀k:Nat,Vals (yna k xs).flatten (yna k us).flatten
 | 0=>.nil
 | k+1=>by
  rw[ywe,ywe,yme,yme];exact Vals.append h (Vals.rep h k)
theorem zow {α:Type}:∀(l:List α) (i:Nat),(l.eraseIdx i).length≤l.length
 | [],_=>yga _
 | _::_,0=>ype _
 | _::r,i+1=>Nat.succ_le_succ (zow r i)
theorem foldl_rep (its:List Value):∀(k:Nat) (acc:List Value),
  yur (λx1 x2=>x1++x2) acc.toArray (yna k its.toArray)=(acc++(yna k its).flatten).toArray
 | 0,acc=>by simp
 | k+1,acc=>by
  have e:acc.toArray++its.toArray=(acc++its).toArray:=by simp
  have e2:(acc++its)++(yna k its).flatten=acc++(yna (k+1) its).flatten:=by
   rw[ywe,yme,ywb]
  rw[← e2,← foldl_rep its k (acc++its),← e,ywe,List.foldl_cons]
section
variable {X:Cx}{pins:List (Addr×Obj)}{σ:St}{H:Hp}{s:Shared}{l b:Addr}{xs ys zs:List V}
theorem Inv.lset {its its':List Value}{n:Nat}{f:Array Value->Array Value}{t':Nat}(I:Inv X pins σ H s)(hH:H l=some (.lst xs))
  (e:s.heap.get? l=some { cls:=.type "list",data:=.seq its.toArray n }) (hf:f its.toArray=its'.toArray) (hv:Vals ys its') (hz:ys.length≤yva) :
  Inv X pins σ (upd H l (.lst ys)) { s with heap:=s.heap.update l (yzd f),toks:=t' }:=by
 have q:=PySem.IsL.update e f;rw[hf] at q;refine I.write (x:=l) (e:=l) (by rw[hH];exact trivial) (.inl rfl) (λb' u hb hu=>(ybd s.heap (yzd f) (ysc hb)).trans hu) ⟨_,q⟩ ?_;exact⟨hz,its',_,hv,q⟩
theorem Inv.lnew {its:List Value}{t':Nat}(I:Inv X pins σ H s)(hv:Vals ys its)(hz:ys.length≤yva) :
  Inv X pins σ (upd H s.heap.objs.size (.lst ys)) { s with heap:=s.heap.push { cls:=.type "list",data:=.seq its.toArray },toks:=t' } :=
 I.laid (λ_ _ q=>yba _ q) (yga _) ⟨hz,its,0,hv,yfa _ rfl⟩
theorem Inv.fresh (I:Inv X pins σ H s):H s.heap.objs.size=none:=I.hok.fresh (yga _)
theorem Inv.lstM (I:Inv X pins σ H s)(hH:H l=some (.lst xs)):xs.length≤yva∧Ex2 λ(its:List Value) (n:Nat)=>Vals xs its∧xs.length=its.length∧s.heap.get? l=some { cls:=.type "list",data:=.seq its.toArray n }:=by
 obtain⟨z,its,n,r,e⟩:=I.hok l _ hH;exact⟨z,its,n,r,r.length,e⟩
theorem zvvb {n:Nat}(h:n≤yva):ylj n=false:=by
 unfold ylj;exact decide_eq_false (by omega)
end
section
variable {X:Cx}
def zyac:V->List V->Hp->VK->Prop:=λx vs H Q=>Ex3 λl xs y=>x = .ref l∧vs=[y]∧H l=some (.lst xs)∧xs.length<yva∧Q .non (upd H l (.lst (xs++[y])))
theorem zed:MtM X "list.append" zyac:=by
 intro pins s σ H x vs v us Q I rx rv h;obtain⟨l,xs,y,rfl,rfl,hH,hz,q⟩:=h;cases rx;obtain⟨u,rfl,ru⟩:=rv.one;obtain⟨z,its,n,r,hl,e⟩:=I.lstM hH;refine ywg F.slot_list_append ⟨_,e,rfl⟩ F.entry_list_append (F.args_list_append_2 _ _) (PySem.list_append l its.toArray n u (by rw[yqa];omega)) ⟨e,?_⟩;refine⟨.non,_,I.lset (its':=its++[u]) hH e (by simp) (r.append (.cons ru .nil)) ?_,rfl,q⟩;rw[ypa,ycf];omega
def zxac:V->List V->Hp->VK->Prop:=λx vs H Q=>Ex4 λl b xs zs=>x = .ref l∧vs=[.ref b]∧H l=some (.lst xs)∧H b=some (.lst zs)∧xs.length+zs.length≤yva∧Q .non (upd H l (.lst (xs++zs)))
theorem zbl:MtM X "list.extend" zxac:=by
 intro pins s σ H x vs v us Q I rx rv h;obtain⟨l,b,xs,zs,rfl,rfl,hH,hB,hz,q⟩:=h;cases rx;obtain⟨u,rfl,ru⟩:=rv.one;cases ru;obtain⟨z,its,n,r,hl,e⟩:=I.lstM hH;obtain⟨z2,its2,n2,r2,hl2,e2⟩:=I.lstM hB;have hsz:its.toArray.size+its2.toArray.size≤yva:=by rw[yqa,yqa];omega
 have hlong:¬ (!its.toArray.isEmpty&&ylj (its.toArray.size+its2.toArray.size))=true:=by
  rw[zvvb hsz,ytm];exact ymb
 refine ywg F.slot_list_extend ⟨_,e,rfl⟩ F.entry_list_extend (F.args_list_extend_2 _ _)
  (AutoSeq1.list_extend_list_list_0 l its.toArray n b its2.toArray n2 hlong (by rw[yqa];omega) (by omega)) ⟨e,e2,?_⟩
 refine⟨.non,_,I.lset (its':=its++its2) hH e (by simp) (r.append r2) ?_,rfl,q⟩;rw[ypa];omega
def zaec:V->List V->Hp->VK->Prop:=λx vs H Q=>Ex5 λl xs i k y=>x = .ref l∧vs=[.int i]∧H l=some (.lst xs) ∧ -(2 ^ 63)≤i∧i<2 ^ 63∧seqIndex? i xs.length=some k∧xs[k]?=some y∧Q y (upd H l (.lst (xs.eraseIdx k)))
theorem zxvb:MtM X "list.pop" zaec:=by
 intro pins s σ H x vs v us Q I rx rv h;obtain⟨l,xs,i,k,y,rfl,rfl,hH,h1,h2,hk,hy,q⟩:=h;cases rx;obtain⟨u,rfl,ru⟩:=rv.one;obtain⟨t,rfl⟩:=ru;obtain⟨z,its,n,r,hl,e⟩:=I.lstM hH;obtain⟨w,hw,rw'⟩:=r.get hy;refine ywg F.slot_list_pop ⟨_,e,rfl⟩ F.entry_list_pop (F.args_list_pop_2 _ _)
  (MeetsSeq.list_pop_at l its.toArray n i t k w (fitsIndex_both h1 h2) (by rw[yqa,← hl];exact hk) (by rw[← yac];exact hw) (by rw[yqa];omega)) ⟨e,?_⟩
 refine⟨y,_,I.lset (its':=its.eraseIdx k) hH e ?_ (r.eraseIdx k) ?_,rw',q⟩
 ·show its.toArray.eraseIdxIfInBounds k=(its.eraseIdx k).toArray;rw[yhk]
 ·have:=zow xs k;omega
def rCat:R2:=λx y H Q=>Ex4 λl b xs zs=>x = .ref l∧y = .ref b∧H l=some (.lst xs)∧H b=some (.lst zs)∧xs.length+zs.length≤yva∧∀p,H p=none->Q (.ref p) (upd H p (.lst (xs++zs)))
theorem zrqb:OpR X (ydj .Add) rCat:=by
 intro pins s σ H x y v u Q I rx ry h;obtain⟨l,b,xs,zs,rfl,rfl,hH,hB,hz,q⟩:=h;cases rx;cases ry;obtain⟨z,its,n,r,hl,e⟩:=I.lstM hH;obtain⟨z2,its2,n2,r2,hl2,e2⟩:=I.lstM hB;refine PySem.P.add_list e e2 ?_ (by rw[yqa,yqa];omega);have ea:its.toArray++its2.toArray=(its++its2).toArray:=by simp
 rw[ea];exact⟨.ref _,_,I.lnew (t':=s.toks) (r.append r2) (by rw[ypa];omega),rfl,q _ I.fresh⟩
theorem len_rep {α:Type}(xs:List α)(k:Nat):(yna k xs).flatten.length=k*xs.length:=by
 induction k with
 | zero=>simp
 | succ k ih=>rw[ywe,yme,ypa,ih,Nat.succ_mul,Nat.add_comm]
end
section
variable {prog:yzb}{w:World}{A:Around}{E:Value->Shared->Prop}{s:Shared}
end
section
variable {X:Cx}
end
end L2
namespace Att
open PySem PySem.W PySem.Calls PyProof.Rows
theorem zrw {P:Params}{h:Heap}:∀(ns:List Int) (vs:List Value),WellAll P h vs (ns.map WData.int)->ykg vs ns:=by
 intro ns
 induction ns with
 | nil =>
  intro vs w;rw[yxh] at w;cases w;exact .nil
 | cons n ns ih =>
  intro vs w;rw[ytb] at w;cases w with
  | cons a b =>
   cases a;exact .cons _ _ (ih _ b)
theorem zspb {l:OpenLaw}{n:Nat}(hn:l.most=some n){P:Params}{h:Heap}{args:List WData}{vals:List Value}
  (hpre:l.row.toRowW.claim.pre args=true) (hwl:WellAll P h vals args) :
  Ex3 λa vs ns=>vals=[Value.ref a]∧args=[WData.list (ns.map WData.int)]∧h.get? a=some { cls:=.type "list",data:=.seq vs.toArray }∧ykg vs ns∧ns.length≤n:=by
 have hsh:WShape.hasAll [] args [.list .int]=true:=(pre_splitW hpre).1;have hc:l.pre.holds [] { args:=args }=true:=(pre_splitW hpre).2;obtain⟨d,r,rfl,h1,h2⟩:=hasAllW_cons hsh;obtain rfl:=hasAllW_nil h2;obtain⟨xs,rfl,h3⟩:=hasW_list h1;obtain⟨ns,rfl⟩:=items_int h3;have hlen:ns.length≤n:=by
  unfold OpenLaw.pre at hc;have h4:(WTm.not (.lt (.lit (.int (n:Int))) (.len (.arg 0)))).holds [] { args:=[.list (ns.map .int)] }=true:=by
   have h4:=(holds_andW hc).1;rw[hn] at h4;exact h4
  have h5:=condW_of h4 (w_not (w_lt w_lit (w_len_list (w_arg rfl))));rw[yca] at h5;refine Nat.le_of_not_lt λq=>?_;have q':(n:Int)<((ns.length:Nat):Int):=by omega
  first
   | (rw[decide_eq_true q'] at h5;exact absurd h5 (by decide))
   | (simp at h5;omega)
 cases hwl with
 | cons w1 w2 =>
  cases w2;cases w1 with
  | list ho hall=>exact⟨_,_,ns,rfl,rfl,ho,zrw ns _ hall,hlen⟩
theorem zkqb (l:OpenLaw)(args:List WData):l.row.toRowW.claim.post args (.bool true) args=true :=
 postW_of (r:=l.row.toRowW) (X:=(true==true))
  (show WShape.has [] (.bool true) .bool=true by first|rfl|decide|simp[WShape.has,WShape.arms,WShape.armsAll])
  (show (WTm.eq .res (.lit (.bool true))).value [] { args:=args,res:=some (.bool true),after:=args }=some (.bool (true==true)) from w_eq_bool (w_res rfl) w_lit) rfl
theorem zfjb {l:OpenLaw}{n:Nat}{q:yzb}{loose:List Str}{XP:(Str->Option Value)->Heap->Prop}{YP:World->Heap->Prop}{d:DefRec}
  (hn:l.most=some n) (hdf:d.params.defaults=[])
  (call:∀(w:World) (s₀ s₁:Shared) (mg mb:Str->Option Value) (fa:Addr) (o:Obj) (pm cd doc:Value) (a:Addr) (vs:List Value) (ns:List Int),
   Ground q loose [] XP w s₀ mg mb s₁.heap->YP w s₁.heap →
   s₁.heap.get? fa=some o->o.data = .func (docDef d.name d.params d.body d.scope pm cd doc)->s₁.heap.CodeRec cd d.name->mg d.name=some (.ref fa) →
   s₁.heap.get? a=some { cls:=.type "list",data:=.seq vs.toArray }->ykg vs ns->ns.length≤n->s₁.gens=#[] →
   yek (model l.prog w) yvr (.call (.ref fa) ⟨[.ref a],[]⟩) (λr s'=>r = .ok (.ret (.bool true))∧OldK s₁.heap s'.heap∧s'.os=s₁.os∧ytq s'.gens) s₁) :
  WalkO q loose XP YP l.row.toRowW d [] (λf vs=>yst f vs):=by
 intro w s₀ s₁ mg mb G Y fa o pm cd doc dV kV ho hd hcd hD hmg hg args vals as hpre hlay hrd hwl hlo;obtain rfl:dV = .none:=Dflts.none hD hdf;obtain rfl:kV = .none:=Dflts.noKw hD;obtain⟨a,vs,ns,rfl,rfl,hobj,hints,hlen⟩:=zspb hn hpre hwl;refine enter_call (yzg (call w s₀ s₁ mg mb fa o pm cd doc a vs ns G Y ho (fd_plain hd) hcd hmg hobj hints hlen hg) λr s' hq=>?_);obtain⟨rfl,h2,h3,h4⟩:=hq;exact⟨.inl ⟨.bool true,.bool true,[],rfl,λ_=>rfl,.bool true,zkqb l _,λ_=>⟨ygl.nil,λ_ hm=>(nomatch hm)⟩⟩,h2,h3,h4⟩
section
variable {prog:yzb}{w:World}{A:Around}{E:Value->Shared->Prop}{s:Shared}{K:Frag}
end
end Att
namespace L2
open PySem PySem.Spec PyProof.Rows
theorem zgq:∀{vs:List Value} {ns:List Int},ykg vs ns->Vals (ns.map V.int) vs
 | _,_,.nil=>.nil
 | _,_,.cons n t h=>.cons ⟨t,rfl⟩ (zgq h)
def Only (H:Hp):Prop:=∀b,H b=none∨Ex2 λo xs=>H b=some (.frz o (.lst xs))
theorem zcwb {P:yzb}{w:World}{K:yda}{mg mb:Str->Option Value}{CX:CXT}{k:Nat}{fa a:Addr}{fd:yrf}{x:Str}{sp:Sp}{s₁:Shared}{vs:List Value}{ns:List Int}
  (KX:K.In s₁.heap) (hns:s₁.heap.Ns yta mg) (hb:s₁.heap.Ns builtinsNs mb) (hbb:∀x:Str,x ≠ "__name__"->mb x=yki x) (hlim:s₁.heap.NoLimit) (hg:s₁.gens=#[])
  (ha:s₁.heap.get? a=some { cls:=.type "list",data:=.seq vs.toArray }) (hi:ykg vs ns) (hl:ns.length≤yva) (hr:Room k yvr)
  (F:∀base:Heap,K.In base->base.Ns yta mg->FnOk P w K mg base CX k fa fd [x] sp) (hbind:∀(s:Shared) (u:Value),yuq s fd ⟨[u],[]⟩ [(x,u)])
  (hsp:∀H:Hp,Only H->SqL K H a (ns.map V.int)->sp [.ref a] H (λv _=>v = .bl true) λ_ _ _=>False)
  (hCX:∀H e s',CX [] H s₁ (λ_ _ _=>False) e s'->False) :
  yek (model P w) yvr (.call (.ref fa) ⟨[.ref a],[]⟩) (λr s'=>r = .ok (.ret (.bool true))∧OldK s₁.heap s'.heap∧s'.os=s₁.os∧ytq s'.gens) s₁:=by
 have rv:=zgq hi;have lenV:=hi.length;have core:∀H:Hp,Only H->SqL K H a (ns.map V.int)->HOk P w H s₁.heap->(∀b,H b≠none->b=a)->(H a≠none->K.lookup a=none) →
   yek (model P w) yvr (.call (.ref fa) ⟨[.ref a],[]⟩) (λr s'=>r = .ok (.ret (.bool true))∧OldK s₁.heap s'.heap∧s'.os=s₁.os∧ytq s'.gens) s₁:=by
  intro H hO hS hok hA hK;have base_of:∀{b:Addr} {o:Obj},s₁.heap.get? b=some o->H b=none->(hidT s₁.heap H).get? b=some o:=λe n=>zjwb e n;have noA:∀{b:Addr} {o:Obj} {es:Array DictEntry} {ep:Nat},s₁.heap.get? b=some o->o.data = .dict es ep->H b=none:=λ{b o es ep} e d=>by
   cases q:H b with
   | none=>rfl
   | some u =>
    have e':b=a:=hA b (by rw[q];simp);subst e';rw[ha] at e;cases e;have d':Data.seq vs.toArray _=Data.dict es ep:=d;cases d'
  have nsK:∀{b:Addr} {m:Str->Option Value},s₁.heap.Ns b m->(hidT s₁.heap H).Ns b m:=λ{b m} ⟨o,es,ep,e,d,r⟩=>⟨o,es,ep,base_of e (noA e d),d,r⟩;have hKb:K.In (hidT s₁.heap H):=λb o e=>base_of (KX b o e) (by
   cases q:H b with
   | none=>rfl
   | some u =>
    have e':b=a:=hA b (by rw[q];simp);subst e';rw[hK (by rw[q];simp)] at e;cases e)
  have hM:Mod K mg (hidT s₁.heap H):=⟨hKb,nsK hns,⟨mb,nsK hb,hbb⟩,let ⟨mc,h1,h2⟩:=hlim;⟨mc,nsK h1,h2⟩⟩;have e0:Env0 P w K mg (hidT s₁.heap H) yvr [] s₁ H:=⟨rfl,hM,λb o e=>zkbc e,yjp (zyrb _ _),trivial,λb hb=>absurd (show b∈([]:List Addr) from hb) (by simp),hok,.of_eq hg⟩;refine yzg ((F _ hKb (nsK hns)).run yvr [] s₁ H ⟨[.ref a],[]⟩ [.ref a] [.ref a] _ _ hr e0 (hbind s₁ (.ref a)) (.cons rfl .nil) (hsp H hO hS)) λr s' h=>?_;cases r with
  | error e=>exact (hCX H e s' h).elim
  | ok fl =>
   cases fl with
   | next=>exact yvg h
   | brk=>exact yvg h
   | cont=>exact yvg h
   | ret u =>
    obtain⟨v,H',os,bare,un,hok',r',q⟩:=h;have q':v = .bl true:=q;subst q';obtain rfl:u=Value.bool true:=r';refine⟨rfl,OldK.of_keep λb o e=>?_,os,bare⟩;cases q:H b with
    | none=>exact un.keep b o e q (by intro z;exact absurd (show b∈([]:List Addr) from z) (by simp)) (by simp)
    | some u =>
     rcases hO b with z|⟨ob,xs,z⟩
     ·rw[q] at z;cases z
     ·have z2:=un.frzs b ob _ z;obtain⟨e1,_⟩:=hok b _ z;obtain⟨e2,_⟩:=hok' b _ z2;rw[e] at e1;cases e1;exact e2
 cases hk:K.lookup a with
 | some o =>
  have e:=KX a o hk;rw[ha] at e;cases e;refine core (λ_=>none) (λ_=>.inl rfl) (.inr ⟨_,vs.toArray,_,hk,rfl,rfl,rfl,by rw[yqa,lenV];exact hl,by simpa using rv⟩) (λb u z=>by have z':(none:Option HO)=some u:=z;cases z') (λb z=>absurd rfl z) λz=>absurd rfl z
 | none =>
  refine core (λb=>if b=a then some (.frz { cls:=.type "list",data:=.seq vs.toArray } (.lst (ns.map V.int))) else none) (λb=>?_) (.inl (.inr ⟨{ cls:=.type "list",data:=.seq vs.toArray },if_pos rfl⟩)) (λb u z=>?_) (λb z=>?_) λ_=>hk
  ·by_cases hb:b=a
   ·exact .inr ⟨_,_,if_pos hb⟩
   ·exact .inl (if_neg hb)
  ·by_cases hb:b=a
   ·have z':=(if_pos hb).symm.trans z;cases z';subst hb;exact⟨ha,by rw[yca];exact hl,vs,_,rv,ha⟩
   ·have z':=(if_neg hb).symm.trans z;cases z'
  ·by_cases hb:b=a
   ·exact hb
   ·exact absurd (if_neg hb) z
end L2
namespace L2
open PySem PySem.Spec PyProof.Rows
theorem zlzb {l:yop}{n k:Nat}{q:yzb}{loose:List Str}{XP:(Str->Option Value)->Heap->Prop}{YP:World->Heap->Prop}{d:DefRec}{K:Params->yda}{CX:World->CXT}{sp:World->Sp}{x:Str}
  (hn:l.most=some n) (hn2:n≤yva) (hdf:d.params.defaults=[]) (hr:Room k yvr)
  (hY:∀(w:World) (h:Heap),YP w h->(K w.params).In h)
  (F:∀(w:World) (mg:Str->Option Value) (fa:Addr) (h:Heap),(K w.params).In h->h.Ns yta mg->mg d.name=some (.ref fa) →
   ∃fd:yrf,(∀(s:Shared) (u:Value),yuq s fd ⟨[u],[]⟩ [(x,u)]) ∧
    ∀base:Heap,(K w.params).In base->base.Ns yta mg->FnOk l.prog w (K w.params) mg base (CX w) k fa fd [x] (sp w))
  (hsp:∀(w:World) (H:Hp) (a:Addr) (ns:List Int),ns.length≤n->Only H->SqL (K w.params) H a (ns.map V.int)->sp w [.ref a] H (λv _=>v = .bl true) λ_ _ _=>False)
  (hCX:∀(w:World) (H:Hp) (s:Shared) (e:Value) (s':Shared),CX w [] H s (λ_ _ _=>False) e s'->False) :
  ytt q loose XP YP l.row.toRowW d [] (λf vs=>yst f vs):=by
 refine Att.zfjb hn hdf λw s₀ s₁ mg mb fa o pm cd doc a vs ns G Y ho hd hcd hmg hobj hints hlen hg=>?_;have KX:=hY w _ Y;obtain⟨fd,hb,hF⟩:=F w mg fa _ KX G.T.g hmg;exact zcwb KX G.T.g G.T.b G.T.builtins G.T.nolimit hg hobj hints (yob hlen hn2) hr hF hb (λH hO hS=>hsp w H a ns hlen hO hS) λH e s'=>hCX w H s₁ e s'
end L2
namespace L2
open PySem PySem.Spec PyProof.Rows
def inClass (s:Stmt)(j:Nat):Stmt:=match s with
 | .ClassDef _ _ _ body _ _ _ _ _ _ _=>body.getD j (.Pass ⟨0,0,0,0⟩)
 | _=>.Pass ⟨0,0,0,0⟩
def zrk (s:Stmt):Arguments:=match s with
 | .FunctionDef _ a _ _ _ _ _ _ _ _=>a
 | _=>{ posonlyargs:=[],args:=[],vararg:=none,kwonlyargs:=[],kw_defaults:=[],kwarg:=none,defaults:=[] }
def zpg (s:Stmt):List Stmt:=match s with
 | .FunctionDef _ _ b _ _ _ _ _ _ _=>b
 | _=>[]
def zga (s:Stmt):Scope:=match s with
 | .FunctionDef _ _ _ _ _ _ sc _ _ _=>sc
 | _=>{ kind:=.function,names:=[],isGenerator:=false,isCoroutine:=false }
abbrev CX0:CXT:=λ_ _ _ _ _ _=>False
abbrev E0:XK:=λ_ _ _=>False
theorem zqa {X:Cx}:Passes CX0 X E0:=λ_ _ _ _ _ _ _ h=>h.elim
structure Fun (K:yda)(x qual:Str)(st:Stmt)(f:Addr)(fd:yrf):Prop where
 ex:Ex9 λ(oc:Value) (od:Option Addr) (kV doc pm:Value) (an:Option Addr) (cdv ct:Value) (osl:Array (Option Value)) =>
  fd=ytf x qual (zrk st) (zpg st) (zga st) .none kV doc pm an cdv ct∧K.lookup f=some ⟨oc,od,.func fd,osl⟩∧yeh K cdv qual=true
 kp:ygf K (.ref f)=true
section
variable {P:yzb}{w:World}{K:yda}{mg:Str->Option Value}{base:Heap}
theorem Fun.ok {x qual:Str}{st:Stmt}{f:Addr}{fd:yrf}{N ps:List Str}{k:Nat}{sp:Sp}(F:Fun K x qual st f fd)(S:zma N ps (zga st))(len:∀vs H Q E,sp vs H Q E->vs.length=ps.length)
  (hbody:∀(cdv:Value) (A:Around) (outer:List Env) (s:Shared) (H:Hp) (vs:List V) (Q:VK) (E:XK),Room k (A.deeper (envOfC qual (zga st) s.heap.objs.size f cdv))->sp vs H Q E →
   ∃t,PSs (cxOf CX0 P w K mg base N qual (zga st) f cdv A outer s H E).nox (zpg st) t∧t { nx:=λ_ H'=>Q .non H',rt:=Q } (start N vs) H):FnOk P w K mg base CX0 (k+1) f fd ps sp:=by
 obtain⟨oc,od,kV,doc,pm,an,cdv,ct,osl,rfl,lk,hcd⟩:=F.ex;refine zkfc lk hcd S len λA outer s H vs Q E hr hsp=>?_;obtain⟨t,h,q⟩:=hbody cdv A outer s H vs Q E hr hsp;exact⟨t,h.nox,q⟩
theorem Fun.binds {x qual:Str}{st:Stmt}{f:Addr}{fd:yrf}{ps:List Str}(F:Fun K x qual st f fd)
  (h:∀(kV doc pm:Value) (an:Option Addr) (cdv ct:Value) (us:List Value),us.length=ps.length->bindArgs (ytf x qual (zrk st) (zpg st) (zga st) .none kV doc pm an cdv ct) ⟨us,[]⟩=pure (ps.zip us)):Binds K fd ps []:=by
 obtain⟨oc,od,kV,doc,pm,an,cdv,ct,osl,rfl,lk,hcd⟩:=F.ex;exact .all (h kV doc pm an cdv ct)
theorem zbsb {x qual:Str}{st:Stmt}{f:Addr}{oc:Value}{od an:Option Addr}{osl:Array (Option Value)}{kV doc pm cdv ct:Value}(l:K.lookup f=some ⟨oc,od,.func (ytf x qual (zrk st) (zpg st) (zga st) .none kV doc pm an cdv ct),osl⟩)
  (c:yeh K cdv qual=true) (k:ygf K (.ref f)=true):Fun K x qual st f (ytf x qual (zrk st) (zpg st) (zga st) .none kV doc pm an cdv ct):=⟨⟨oc,od,kV,doc,pm,an,cdv,ct,osl,rfl,l,c⟩,k⟩
end
theorem zvf {n:Nat}(h:n≤1000):n<yva:=Nat.lt_of_le_of_lt h (by decide)
section
variable {X:Cx}
theorem pv (i:Nat){x:Str}{pos:Pos}(hN:X.N[i]?=some x:=by rfl)(hv:Vis X.env.scope x:=by first|exact Or.inl rfl|exact Or.inr (Or.inl rfl)|exact Or.inr (Or.inr rfl))(hd:(x==("__debug__":Str))=false:=by decide)
  (hcd:(x==("__classdict__":Str))=false:=by decide):PE X (.Name x pos) (tVar i):=zfec hN hv hd hcd
end
theorem iteF {A B:Prop}(h:B):if false=true then A else B:=by
 rw[if_neg ymb];exact h
theorem iteT {A B:Prop}(h:A):if true=true then A else B:=by
 rw[if_pos rfl];exact h
theorem ite2 {c A B:Prop}[Decidable c](h1:c->A)(h2:¬ c->B):if c then A else B:=by
 by_cases h:c
 ·rw[if_pos h];exact h1 h
 ·rw[if_neg h];exact h2 h
def Same (H H':Hp):Prop:=∀b o,H b=some o->H' b=some o
theorem Same.refl (H:Hp):Same H H:=λ_ _ h=>h
theorem Same.trans {H H1 H2:Hp}(a:Same H H1)(b:Same H1 H2):Same H H2:=λc o h=>b c o (a c o h)
end L2
namespace L2
open PySem PySem.Spec PyProof.Rows
def clGo (cells:List (Str×Addr)):List (Str×yrd)->List (Str×Addr)->List (Str×Addr)
 | [],cs=>cs
 | (n,k)::r,cs=>clGo cells r (if k == .free then (match cells.lookup n with|some c=>(n,c)::cs|none=>cs) else cs)
def clOf (sc:Scope)(cells:List (Str×Addr)):List (Str×Addr):=clGo cells sc.names []
theorem zqz {sc:Scope}{env:Env}(h:∀y∈sc.names,y.2 = .free->∃c,env.cells.lookup y.1=some c):closureFor sc env=pure (clOf sc env.cells):=by
 have go:∀(l:List (Str×yrd)) (cs:List (Str×Addr)),(∀y∈l,y.2 = .free->∃c,env.cells.lookup y.1=some c) →
   (forIn l cs (λ(x:Str×yrd) (r:List (Str×Addr))=>(match x with|(name,kind)=>if kind==yrd.free then (do let c ← cellOf env name;pure (ForInStep.yield ((name,c)::r))) else pure (ForInStep.yield r):Sem (ForInStep (List (Str×Addr))))))=pure (clGo env.cells l cs):=by
  intro l
  induction l with
  | nil=>intro cs _;rfl
  | cons y r ih =>
   intro cs h;obtain⟨n,k⟩:=y;have hr:∀y∈r,y.2 = .free->∃c,env.cells.lookup y.1=some c:=λy hy=>h y (yla _ hy);rw[ypp]
   by_cases hk:k = .free
   ·subst hk;obtain⟨c,e⟩:=h (n,.free) yma rfl;have e':env.cells.lookup n=some c:=e;simp only[beq_self_eq_true,if_true,cellOf,e',pure_bind,clGo];exact ih _ hr
   ·have hb:(k==yrd.free)=false:=by simpa using hk
    simp only[hb,yah,if_false,pure_bind,clGo];exact ih _ hr
 unfold closureFor clOf;refine Eq.trans (bind_pure _) ?_;exact go sc.names [] h
theorem zvu {cells:List (Str×Addr)}:∀(l:List (Str×yrd)) (cs:List (Str×Addr)),(∀x c,cs.lookup x=some c->cells.lookup x=some c)->∀x c,(clGo cells l cs).lookup x=some c->cells.lookup x=some c
 | [],_,h,x,c,e=>h x c e
 | (n,k)::r,cs,h,x,c,e=>by
  refine zvu r _ (λy d z=>?_) x c e
  by_cases hk:(k==yrd.free)=true
  ·rw[if_pos hk] at z;cases q:cells.lookup n with
   | none=>rw[q] at z;exact h y d z
   | some a =>
    rw[q] at z;have z':yof y ((n,a)::cs)=some d:=z;rw[ybg] at z';cases hy:y==n with
    | true =>
     rw[hy] at z';have ey:y=n:=(by simpa using hy);rw[ey,q];exact z'
    | false =>
     rw[hy] at z';exact h y d z'
  ·rw[if_neg hk] at z;exact h y d z
theorem zylb {cells:List (Str×Addr)}:∀(l:List (Str×yrd)) (cs:List (Str×Addr)) (x:Str),((x,yrd.free)∈l∧(∃c,cells.lookup x=some c))∨(∃c,cs.lookup x=some c)->∃c,(clGo cells l cs).lookup x=some c
 | [],cs,x,h=>by
  rcases h with⟨h,_⟩|h
  ·cases h
  ·exact h
 | (n,k)::r,cs,x,h=>by
  refine zylb r _ x ?_;have put:(∃c,cs.lookup x=some c)->∃c,(if (k==yrd.free)=true then (match cells.lookup n with|some c=>(n,c)::cs|none=>cs) else cs).lookup x=some c:=λ⟨c,e⟩=>by
   by_cases hk:(k==yrd.free)=true
   ·rw[if_pos hk];cases q:cells.lookup n with
    | none=>exact⟨c,e⟩
    | some a =>
     show ∃c,yof x ((n,a)::cs)=some c
     rw[ybg];cases hy:x==n with
     | true=>exact⟨a,rfl⟩
     | false=>exact⟨c,e⟩
   ·rw[if_neg hk];exact⟨c,e⟩
  rcases h with⟨h,c,e⟩|h
  ·rcases yja.mp h with z|z
   ·injection z with z1 z2
    subst z1;subst z2;refine .inr ⟨c,?_⟩;show yof x (match cells.lookup x with|some c=>(x,c)::cs|none=>cs)=some c
    rw[e];show yof x ((x,c)::cs)=some c
    rw[ybg,beq_self_eq_true]
   ·exact .inl ⟨z,c,e⟩
  ·exact .inr (put h)
theorem znt {env:Env}:∀{l:List (Str×yrd)} {x:Str},(∀y∈l,y.2≠yrd.cell) →
  ((l.map λ(n,k)=>if (k==yrd.free&&env.scope.kind == .function&&env.kindOf n==some .cell) then (n,yrd.cell) else (n,k)).lookup x=some .cell ∨
   (l.map λ(n,k)=>if (k==yrd.free&&env.scope.kind == .function&&env.kindOf n==some .cell) then (n,yrd.cell) else (n,k)).lookup x=some .free)->(x,yrd.free)∈l
 | [],x,_,h=>by rcases h with h|h<;>simp at h
 | (n,k)::r,x,hc,h=>by
  rw[ytb] at h;have nk:k≠yrd.cell:=hc (n,k) yma
  by_cases hx:x=n
  ·subst hx;have kf:k = .free:=by
    by_cases q:(k==yrd.free&&env.scope.kind == .function&&env.kindOf x==some .cell)=true
    ·rw[yhe,yhe] at q
     simpa using q.1.1
    ·have e:(match (x,k) with|(n,k)=>if (k==yrd.free&&env.scope.kind == .function&&env.kindOf n==some .cell)=true then (n,yrd.cell) else (n,k))=(x,k):=if_neg q;rw[e,ybg,beq_self_eq_true] at h
     rcases h with h|h
     ·exact absurd (yoc h) nk
     ·exact yoc h
   subst kf;exact yma
  ·refine yla _ (znt (env:=env) (λy hy=>hc y (yla _ hy)) ?_);have hb:(x==n)=false:=by simpa using hx
   by_cases q:(k==yrd.free&&env.scope.kind == .function&&env.kindOf n==some .cell)=true
   ·have e:(match (n,k) with|(n,k)=>if (k==yrd.free&&env.scope.kind == .function&&env.kindOf n==some .cell)=true then (n,yrd.cell) else (n,k))=(n,yrd.cell):=if_pos q;rw[e,ybg,hb] at h;exact h
   ·have e:(match (n,k) with|(n,k)=>if (k==yrd.free&&env.scope.kind == .function&&env.kindOf n==some .cell)=true then (n,yrd.cell) else (n,k))=(n,k):=if_neg q;rw[e,ybg,hb] at h;exact h
def blk (X:Cx)(N':List Str)(sc:Scope)(fp:List Addr)(s:Shared)(H:Hp)(C:Addr):Cx where
 prog:=X.prog
 w:=X.w
 K:=X.K
 mg:=X.mg
 base:=X.base
 A:=X.A
 N:=N'
 s₀:=s
 H₀:=H
 env:=compEnvC sc (clOf sc X.env.cells) C X.env
 outer:=X.stack
 stack:=X.stack
 ex:=fp
 fn:=λ_=>false
 calm:=X.calm
 pn:=[]
 xe:=λ_ _=>False
inductive Caps (X:Cx)(sc:Scope):List Str->List Nat->Prop where
 | nil:Caps X sc [] []
 | cons {x:Str} {j:Nat} {cap:List Str} {js:List Nat} (hj:X.N[j]?=some x) (hk:X.env.kindOf x=some .cell∨X.env.kindOf x=some .free)
   (hr:(ywr sc X.env).names.lookup x=some .cell∨(ywr sc X.env).names.lookup x=some .free):Caps X sc cap js->Caps X sc (x::cap) (j::js)
structure zya (X:Cx)(sc:Scope):Prop where
 kind:sc.kind = .function
 cell:∀y∈sc.names,y.2 ≠ .cell
 names:∀y∈sc.names,y.2 = .local->sc.names.lookup y.1=some .local
 free:∀y∈sc.names,y.2 = .free->X.env.kindOf y.1=some .cell∨X.env.kindOf y.1=some .free
def zsfc (sc:Scope)(nm:List (Str×yrd)):Bool:=sc.names.all λy=>y.2 != .cell&&(y.2 != .local||sc.names.lookup y.1==some .local)&&(y.2 != .free||(nm.lookup y.1==some .cell||nm.lookup y.1==some .free))
theorem zya.chk {X:Cx}{sc:Scope}(hk:sc.kind = .function)(h:zsfc sc X.env.scope.names=true):zya X sc:=by
 have a:=yxg.mp h;refine⟨hk,λy hy e=>?_,λy hy e=>?_,λy hy e=>?_⟩
 ·have q:=a y hy;rw[e] at q;simp at q
 ·have q:=a y hy;rw[e] at q
  simpa using q
 ·have q:=a y hy;rw[e] at q;have q':X.env.scope.names.lookup y.1=some .cell∨X.env.scope.names.lookup y.1=some .free:=by simpa using q
  exact q'
def zrf (n:Nat)(js:List Nat)(σ:St):St:=yna n none++js.map λj=>(σ[j]?).join
theorem Caps.len {X:Cx}{sc:Scope}:∀{cap:List Str} {js:List Nat},Caps X sc cap js->cap.length=js.length
 | _,_,.nil=>rfl
 | _,_,.cons _ _ _ c=>by rw[ykc,ykc,c.len]
theorem Caps.get {X:Cx}{sc:Scope}:∀{cap:List Str} {js:List Nat},Caps X sc cap js->∀{i:Nat} {x:Str},cap[i]?=some x →
  ∃j,js[i]?=some j∧X.N[j]?=some x∧(X.env.kindOf x=some .cell∨X.env.kindOf x=some .free)∧((ywr sc X.env).names.lookup x=some .cell∨(ywr sc X.env).names.lookup x=some .free)
 | _,_,.nil,i,x,e=>by simp at e
 | _,_,.cons hj hk hr c,0,x,e=>by
  rw[yif] at e;cases e;exact⟨_,rfl,hj,hk,hr⟩
 | _,_,.cons hj hk hr c,i+1,x,e=>by
  rw[yjc] at e;obtain⟨j,h1,h2⟩:=c.get e;exact⟨j,by rw[yjc];exact h1,h2⟩
theorem zysb {X:Cx}{sc:Scope}{own cap:List Str}{js:List Nat}{σ:St}(C:Caps X sc cap js):(zrf own.length js σ).length=(own++cap).length:=by
 unfold zrf;rw[ypa,yib,yca,ypa,C.len]
theorem zqfb {n:Nat}{js:List Nat}{σ:St}{i:Nat}{v:V}(e:(zrf n js σ)[i]?=some (some v)):n≤i∧∃j,js[i-n]?=some j∧σ[j]?=some (some v):=by
 unfold zrf at e
 by_cases h:i<n
 ·rw[ydh (by simpa using h),ytc,if_pos h] at e;cases e
 ·refine⟨by omega,?_⟩;rw[ytd (by rw[yib];omega),yib,yia] at e;cases q:js[i-n]? with
  | none=>rw[q] at e;cases e
  | some j =>
   rw[q] at e;have e':(σ[j]?).join=some v:=yoc e;refine⟨j,rfl,?_⟩;cases z:σ[j]? with
   | none=>rw[z] at e';cases e'
   | some o =>
    rw[z] at e';have e2:o=some v:=e';rw[e2]
theorem zsz {n:Nat}{js:List Nat}{σ σ2:St}(hd:σ2.drop n=(zrf n js σ).drop n){i:Nat}{v:V}(e:(zrf n js σ)[i]?=some (some v)):σ2[i]?=some (some v):=by
 have h:=(zqfb e).1;have q:(σ2.drop n)[i-n]?=((zrf n js σ).drop n)[i-n]?:=by rw[hd]
 rw[ynj,ynj,show n+(i-n)=i by omega] at q;rw[q];exact e
def PTs (X:Cx)(ifs:List Expr)(t:TT):Prop :=
 ∀(pins:List (Addr×Obj)) (s:Shared) (σ:St) (H:Hp) (Q:Bool->Hp->Prop),Inv X pins σ H s->t σ H Q →
  wpAny (model X.prog X.w) X.A (forIn ifs true λc r=>if r=true then do let ok ← isTrue c X.env (eval c X.env);pure (ForInStep.yield ok) else pure (ForInStep.yield r)) (TP X pins σ Q) X.xe s
def zzcc:TT:=λ_ H Q=>Q true H
theorem zyc {X:Cx}:PTs X [] zzcc:=λ_ _ _ H _ I h=>wpAny_tests_nil ⟨H,I,h⟩
theorem zah {X:Cx}{c:Expr}{t:TT}(hc:PT X c t):PTs X [c] t:=λpins s σ H Q I h=>wpAny_tests_one (hc pins s σ H Q I h)
theorem zlfb {prog:yzb}{w:World}{A:Around}{R:Result->Shared->Prop}{s:Shared}{elt tg iter:Expr}{ifs:List Expr}{scope:Scope}{pos:Pos}{it acc:Value}{env:Env}(I:Nat->Shared->Prop)
  (turn:∀n s,I n s->wpAny (model prog w) A (pyNext it) (λr s₁=>match r with
   | none=>R (.ok .next) s₁
   | some v=>wpAny (model prog w) A (yol tg it v) (λ_ s₀=>wpAny (model prog w) A (assign tg env v) (λ_ s₂ =>
     wpAny (model prog w) A (forIn ifs true λc r=>if r=true then do let ok ← isTrue c env (eval c env);pure (ForInStep.yield ok) else pure (ForInStep.yield r)) (λok s₃ =>
      if ok=true then wpAny (model prog w) A (eval elt env) (λx s₄ =>
       wpAny (model prog w) A (call (.builtin "list.append") [acc,x]) (λ_ s₅=>∃m,m<n∧I m s₅) (yht (model prog w) A env λe s'=>R (.error e) s') s₄) (yht (model prog w) A env λe s'=>R (.error e) s') s₃
      else ∃m,m<n∧I m s₃) (yht (model prog w) A env λe s'=>R (.error e) s') s₂) (yht (model prog w) A env λe s'=>R (.error e) s') s₀) (yht (model prog w) A env λe s'=>R (.error e) s') s₁)
    (yht (model prog w) A env λe s'=>R (.error e) s') s)
  (n:Nat) (h:I n s) :
  yek (model prog w) A (.compLoop (.ListComp elt [⟨tg,iter,ifs,0⟩] scope pos) 0 it acc env) R s:=by
 refine codeAny_loop rfl I (λn s hI=>?_) n h;show wpAny _ A ((compTurn (.ListComp elt [⟨tg,iter,ifs,0⟩] scope pos) 0 it acc env).onRaise (λx=>do noteFrame x env;theTreesLotGoes x)) _ _ s
 refine wpAny_noted ?_;rw[compTurn_list];refine yaa (yer (yaa (ykf (turn n s hI) (λr s₁ h₁=>?_) λ_ _ h'=>h')));cases r with
 | none=>exact yea h₁
 | some v =>
  refine yaa (ykf h₁ (λ_ s₀ h₀=>?_) λ_ _ h'=>h');refine yaa (ykf h₀ (λ_ s₂ h₂=>yaa (ykf h₂ (λok s₃ h₃=>?_) λ_ _ h'=>h')) λ_ _ h'=>h');cases ok with
  | false=>exact yea ⟨rfl,h₃⟩
  | true =>
   exact yaa (yaa (ykf h₃ (λx s₄ h₄=>yaa (ykf h₄ (λ_ s₅ h₅=>yea (yea ⟨rfl,h₅⟩)) λ_ _ h'=>h')) λ_ _ h'=>h'))
def zoy (J:It)(H1:Hp)(g:TG)(tt:TT)(te:TE)(n:Nat)(js:List Nat)(σ:St)(Q:VK):Prop:=∃W:Nat->Nat->List V->Hp->Prop,(∃m,W 0 m [] H1)∧∀i m ys H,W i m ys H →
 (J.stop i H∧ys.length≤yva∧∀p,H p=none->Q (.ref p) (upd H p (.lst ys))) ∨
 (J.go i H∧ys.length≤yva∧∃N:List V->Hp->Prop,(∀ys' H',N ys' H'->∃m',m'<m∧W (i+1) m' ys' H')∧∀x H',J.yld i H x H'->g x (zrf n js σ) H' fun σ2 H2=>σ2.drop n=(zrf n js σ).drop n∧tt σ2 H2 λb H3 =>
  if b=true then te σ2 H3 λy H4=>N (ys++[y]) H4 else N ys H3)
def zddc (wi:TI)(g:TG)(tt:TT)(te:TE)(n:Nat)(js:List Nat):TE:=fun σ H Q=>wi σ H λJ H1=>zoy J H1 g tt te n js σ Q
section
variable {X:Cx}
theorem Vals.snoc {xs:List V}{us:List Value}{x:V}{u:Value}(r:Vals xs us)(q:RelV x u):Vals (xs++[x]) (us++[u]):=r.append (.cons q .nil)
theorem zvsb {pins:List (Addr×Obj)}{σ:St}{H:Hp}{s s3:Shared}{sc:Scope}{own cap:List Str}{js:List Nat}{fp:List Addr}{C:Addr}{tn:Nat->Heap->Prop}{h₁:Heap}{tk:Nat}{m:Str->Option Value}(I:Inv X pins σ H s)(S:zya X sc)(cp:Caps X sc cap js)
  (hob:∀b∈fp,∃o,s.heap.get? b=some o∧∀v,o.data ≠ .cell v) (hf:∀b∈fp,FpOk X pins H b) (hC:s.heap.objs.size≤C) (hn:h₁.Ns C m) (old:∀b o,s.heap.get? b=some o->h₁.get? b=some o) :
  Inv (blk X (own++cap) sc fp s H C) [] (zrf own.length js σ) H { s with heap:=h₁,toks:=tk }:=by
 have sub:∀x c,(clOf sc X.env.cells).lookup x=some c->X.env.cells.lookup x=some c:=zvu sc.names [] (λx c e=>by simp at e);have has:∀x,((ywr sc X.env).names.lookup x=some .cell∨(ywr sc X.env).names.lookup x=some .free)->∃c,(clOf sc X.env.cells).lookup x=some c:=λx hx=>by
  have hm:=znt (env:=X.env) (l:=sc.names) (x:=x) S.cell hx;exact zylb sc.names [] x (.inl ⟨hm,I.ok.has x (S.free _ hm rfl)⟩)
 refine⟨⟨I.ok.mod,S.kind,I.ok.glob,I.ok.blt,hC,λx y c e1 e2=>I.ok.inj x y c (sub x c e1) (sub y c e2),has,(λx c e=>by cases e),I.ok.hd,I.ok.frames,.inl rfl,λb hb=>?_,I.bs,yob I.ok.bsz I.sz,λb o e hb=>?_,λb hb z=>?_,I.stack,I.zbpb⟩,
  rfl,I.bare,Un.kept old,⟨m,hn,λi x v h1 h2 h3=>?_⟩,λx c e=>?_,I.hok.fresh hC,λx c e=>I.freeC x c (sub x c e),λp hp=>absurd (show p∈([]:List (Addr×Obj)) from hp) (by simp),I.hok.kept old,zysb cp⟩
 ·obtain⟨o,e,_⟩:=hob b hb;refine⟨yfb (yab (yoa e) hC),λx c e=>?_⟩;exact (hf b hb).2.2.2.2.1 x c (sub x c e)
 ·obtain⟨_,_,_,h4,_,_⟩:=hf b hb
  rcases h4 with z|z
  ·exact I.ok.noex b o e z
  ·exact absurd (yab (yoa e) (yob I.ok.bsz z)) (yje _)
 ·obtain⟨_,h2,h3,_⟩:=hf b hb
  rcases yja.mp (I.zfkb b z) with q|q
  ·exact h2 q
  ·exact h3 q
 ·obtain⟨hni,j,hj,hv⟩:=zqfb h2;have h1':(own++cap)[i]?=some x:=h1;rw[ytd hni] at h1';obtain⟨j',e1,e2,e3,e4⟩:=cp.get h1';rw[hj] at e1;cases e1;obtain⟨m0,hn0,hl0⟩:=I.loc;have vis:Vis X.env.scope x:=.inr e3;obtain⟨u,ru,lk⟩:=hl0 j x v e2 hv vis;refine⟨u,ru,?_⟩
  rcases lk with⟨k,_⟩|⟨k,c,ec,hc⟩
  ·exfalso
   rcases e3 with q|q
   ·rw[q] at k;cases k
   ·rw[q] at k;cases k
  ·obtain⟨c',ec'⟩:=has x e4;have q:=sub x c' ec';rw[ec] at q;cases q;exact .inr ⟨e4,c,ec',hc.keeps old⟩
 ·obtain⟨v,z⟩:=I.cell x c (sub x c e);exact⟨v,z.keeps old⟩
theorem zxsb {pins pn:List (Addr×Obj)}{σ σ':St}{H H':Hp}{s s':Shared}{sc:Scope}{N':List Str}{fp:List Addr}{C D:Addr}{h':Heap}{ys:List V}{its:List Value}{nn:Nat}(I:Inv X pins σ H s)(J:Inv (blk X N' sc fp s H C) pn σ' H' s')
  (hf:∀b∈fp,FpOk X pins H b) (hC:s.heap.objs.size≤C) (hD:s.heap.objs.size≤D) (hDC:D≠C) (hn:H' D=none) (ho:s'.heap.get? D=some { cls:=.type "list",data:=.seq its.toArray nn }) (hz:ys.length≤yva) (rv:Vals ys its)
  (hs:yae C s'.heap h'):Inv X pins σ (upd H' D (.lst ys)) { s' with heap:=h' }:=by
 have u:Un (frs X.stack) fp H H' s.heap s'.heap:=J.base;have low:∀b o,s.heap.get? b=some o->b≠C∧b≠D:=λb o e=>⟨yfb (yab (yoa e) hC),yfb (yab (yoa e) hD)⟩;have kp:∀b o,b≠C->s'.heap.get? b=some o->h'.get? b=some o:=λb o hb e=>(hs.2 b hb).trans e;have u2:Un (frs X.stack) fp H (upd H' D (.lst ys)) s.heap h':=by
  refine⟨λb o e n hb hx=>kp b o (low b o e).1 (u.keep b o e n hb hx),λb o e n hb hx=>?_,λb o e n hx=>?_,λb o e hx=>?_,λb xs e=>?_,λb o xs e=>?_,λb ps e=>?_⟩
  ·obtain⟨sl,q⟩:=u.slot b o e n hb hx;exact⟨sl,kp b _ (low b o e).1 q⟩
  ·rw[zbb (low b o e).2];exact u.free b o e n hx
  ·obtain⟨o',q⟩:=u.there b o e hx;exact⟨o',kp b _ (low b o e).1 q⟩
  ·have q:=u.tups b xs e;rw[zbb (zka q hn)];exact q
  ·have q:=u.frzs b o xs e;rw[zbb (zka q hn)];exact q
  ·obtain⟨more,q⟩:=u.tbls b ps e;exact⟨more,by rw[zbb (zka q hn)];exact q⟩
 have nC:H' C=none:=J.free;have hok:HOk X.prog X.w (upd H' D (.lst ys)) h':=λb o e=>by
  by_cases hb:b=D
  ·subst hb;rw[zta] at e;cases e;exact⟨hz,its,nn,rv,kp b _ hDC ho⟩
  ·rw[zbb hb] at e;refine (J.hok b o e).stay (λc v hc q=>kp c v ?_ q) (λc q=>?_) λc xs q=>?_
   ·rintro rfl
    rcases hc with z|z
    ·rw[← z,nC] at e;cases e
    ·rw[nC] at z;cases z
   ·rw[zbb (zka q hn)];exact q
   ·rw[zbb (zka q hn)];exact q
 have os:=J.os;have bare:=J.bare;obtain⟨hh,g,d,t,os'⟩:=s';obtain rfl:os'=s.os:=os;have z:=I.call (h':=h') (g':=g) (d':=d) (t':=t) (ch:=fp) u2 hok bare λb hb=>⟨(hf b hb).2.2.2.1,(hf b hb).2.1,(hf b hb).2.2.2.2.1,(hf b hb).2.2.2.2.2⟩;exact z
theorem zwsb {elt iter tg:Expr}{ifs:List Expr}{sc:Scope}{pos:Pos}{own cap:List Str}{js:List Nat}{g:TG}{tt:TT}{te:TE}{Qf:List V->Hp->Prop}{RR:Value->Addr->Result->Shared->Prop}{E:Value->Shared->Prop}
  {pins:List (Addr×Obj)} {σ:St} {H2:Hp} {s2:Shared} {it:Addr} {fp:List Addr} {tn:Nat->Heap->Prop} {J:It} {W:Nat->Nat->List V->Hp->Prop} {m0:Nat}
  (hc:X.calm=true) (S:zya X sc) (cp:Caps X sc cap js)
  (hg:∀fp s H C,PG (blk X (own++cap) sc fp s H C) tg g) (ht:∀fp s H C,PTs (blk X (own++cap) sc fp s H C) ifs tt) (he:∀fp s H C,PE (blk X (own++cap) sc fp s H C) elt te)
  (I2:Inv X pins σ H2 s2) (T:Turn X.prog X.w X.K tg J fp it tn) (st2:tn 0 s2.heap) (f2:∀b∈fp,FpOk X pins H2 b) (w0:W 0 m0 [] H2)
  (turn:∀i m ys H,W i m ys H->(J.stop i H∧ys.length≤yva∧Qf ys H) ∨
   (J.go i H∧ys.length≤yva∧∃N:List V->Hp->Prop,(∀ys' H',N ys' H'->∃m',m'<m∧W (i+1) m' ys' H')∧∀x H',J.yld i H x H'->g x (zrf own.length js σ) H' fun σ2 H2=>σ2.drop own.length=(zrf own.length js σ).drop own.length∧tt σ2 H2 λb H3 =>
    if b=true then te σ2 H3 λy H4=>N (ys++[y]) H4 else N ys H3))
  (hRR:∀D C H4 s4 pn ys its nn,s2.heap.objs.size≤D->s2.heap.objs.size≤C->D≠C->Inv (blk X (own++cap) sc fp s2 H2 C) pn (zrf own.length js σ) H4 s4->H4 D=none->s4.heap.get? D=some { cls:=.type "list",data:=.seq its.toArray nn } →
   ys.length≤yva->Vals ys its->Qf ys H4->RR (.ref D) C (.ok .next) s4) :
  wpAny (model X.prog X.w) X.A (newList []) (λacc s₃=>wpAny (model X.prog X.w) X.A (newFunctionEnv sc X.env.globals (clOf sc X.env.cells) [] X.env.qual none .none (some X.env)) (λcenv s₄ =>
   yek (model X.prog X.w) X.A (.compStart (.ListComp elt [⟨tg,iter,ifs,0⟩] sc pos) 0 (.ref it) acc { cenv with scope:=ywr sc X.env }) (RR acc cenv.locals) s₄) E s₃) E s2:=by
 refine ydd (wpAny_newFunctionEnv S.cell (by intro y hy;simp at hy) (λh₁ hns₁ hsb₁=>?_) S.kind);dsimp only at hns₁ hsb₁ ⊢;generalize hH2:s2.heap.push { cls:=.type "list",dict:=none,data:=.seq ([]:List Value).toArray }=HH at hns₁ hsb₁ ⊢;generalize hDd:s2.heap.objs.size=D at hns₁ hsb₁ ⊢;generalize hCc:HH.objs.size=C at hns₁ hsb₁ ⊢;have hC:C=D+1:=by rw[← hCc,← hH2,ylc,hDd]
 have hDC:D≠C:=by rw[hC];exact yfb (ymf _)
 have hCle:s2.heap.objs.size≤C:=by rw[hDd,hC];exact ype _
 have hDle:s2.heap.objs.size≤D:=yjp hDd;have below:∀b,b<s2.heap.objs.size->b≠C∧b≠D:=λb hb=>⟨yfb (yab hb hCle),yfb (yab hb hDle)⟩;have old:∀b o,s2.heap.get? b=some o->h₁.get? b=some o:=λb o e=>hsb₁.extBut b o (below b (yoa e)).1 (yba _ (hH2▸yba _ e));have q0:HH.get? D=some { cls:=.type "list",data:=.seq ([]:List Value).toArray 0 }:=by
  rw[← hH2,← hDd];exact yfa _ rfl
 have hacc:h₁.get? D=some { cls:=.type "list",data:=.seq ([]:List Value).toArray 0 }:=hsb₁.extBut _ _ hDC (yba _ q0);have fpo:=T.obj 0 _ st2;have fplt:∀b∈fp,b<s2.heap.objs.size:=λb hb=>by obtain⟨o,e,_⟩:=fpo b hb;exact yoa e
 have st3:tn 0 h₁:=T.keep 0 _ _ st2 λb hb o e=>old b o e;have I3:∀tk,Inv (blk X (own++cap) sc fp s2 H2 C) [] (zrf own.length js σ) H2 { s2 with heap:=h₁,toks:=tk }:=λtk=>zvsb (s3:=s2) (tn:=tn) I2 S cp fpo f2 hCle hns₁ old;have stkD:∀b,s2.heap.objs.size≤b->b∉frs X.stack:=λb hb hm=>by
  obtain⟨_,o,e,_⟩:=I2.stack.mem hm;exact absurd (yab (yoa e) hb) (yje _)
 have nD:H2 D=none:=I2.hok.fresh hDle;have stat:∀{pn:List (Addr×Obj)} {H':Hp},(∀p∈pn,p.1=D)->(∀b∈fp,H' b=none)->∀b∈fp,FpOk (blk X (own++cap) sc fp s2 H2 C) pn H' b:=λ{pn H'} hp hn b hb=>by
  refine⟨hn b hb,(below b (fplt b hb)).1,λz=>?_,.inl hb,λx c e=>?_,λp hp' z=>?_⟩
  ·obtain⟨_,h2,h3,_⟩:=f2 b hb
   rcases yja.mp (I2.zfkb b z) with q|q
   ·exact h2 q
   ·exact h3 q
  ·exact (f2 b hb).2.2.2.2.1 x c (zvu sc.names [] (λx c e=>by simp at e) x c e)
  ·have e:=hp p (by simpa [blk] using hp');rw[e] at z;exact (below b (fplt b hb)).2 z.symm
 have pinD:∀{H':Hp} {s':Shared} {o:Obj},Inv (blk X (own++cap) sc fp s2 H2 C) [] (zrf own.length js σ) H' s'->H' D=none->s'.heap.get? D=some o->(∀v,o.data ≠ .cell v)->Inv (blk X (own++cap) sc fp s2 H2 C) [(D,o)] (zrf own.length js σ) H' s':=λ{H' s' o} I' n e d =>
  I'.zcw λp hp=>by
   have q:p=(D,o):=(by simpa using hp);subst q;exact⟨e,n,hDC,stkD D hDle,d⟩
 have loop:∀s₃:Shared,s₃={ s2 with heap:=h₁,toks:=s2.toks+([]:List (Str×Value)).length } →
   yek (model X.prog X.w) X.A (.compLoop (.ListComp elt [⟨tg,iter,ifs,0⟩] sc pos) 0 (.ref it) (.ref D) (compEnvC sc (clOf sc X.env.cells) C X.env)) (RR (.ref D) C) s₃:=by
  rintro s₃ rfl;refine zlfb (λk s'=>Ex5 λi ys its nn H'=>Inv (blk X (own++cap) sc fp s2 H2 C) [] (zrf own.length js σ) H' s'∧tn i s'.heap∧(∀b∈fp,H' b=none)∧H' D=none ∧
   s'.heap.get? D=some { cls:=.type "list",data:=.seq its.toArray nn }∧Vals ys its∧W i k ys H') ?_ m0 ⟨0,[],[],0,H2,I3 _,st3,λb hb=>(f2 b hb).1,nD,hacc,.nil,w0⟩
  rintro k s3 ⟨i,ys,its,nn,H3,I3,st3,fr3,d3,o3,rv3,w3⟩;have I3':=pinD I3 d3 o3 (λv z=>by cases z);have only:∀p∈[(D,({ cls:=.type "list",data:=.seq its.toArray nn }:Obj))],p.1=D:=λp hp=>by
   rw[yka.mp hp]
  rcases turn i k ys H3 w3 with⟨stop,hz,qn⟩|⟨go,hz,N,hN,step⟩
  ·refine ykf (T.done (blk X (own++cap) sc fp s2 H2 C) rfl rfl rfl hc i _ s3 _ H3 (λ_ _=>False) I3' (stat only fr3) st3 stop) (λr s4 ⟨hr,I4⟩=>?_) λ_ _ z=>z.elim;subst hr;have o4:=(I4.pin (D,_) (ygd _ (yka.mpr rfl))).1;exact hRR D C H3 s4 _ ys its nn hDle hCle hDC I4 d3 o4 hz rv3 qn
  ·refine ykf (T.item (blk X (own++cap) sc fp s2 H2 C) rfl rfl rfl hc i _ s3 _ H3 (λ_ _=>False) I3' (stat only fr3) st3 go) (λr s4 ⟨u,hr,h4⟩=>?_) λ_ _ z=>z.elim;subst hr;refine ykf h4 (λ_ s5 ⟨x,H5,I5,r5,y5,st5,fr5⟩=>?_) λ_ _ z=>z.elim;have I5':=I5.pinned (stat only fr5) (T.obj _ _ st5);refine ykf (hg fp s2 H2 C _ s5 _ H5 x u _ I5' r5 (step x H5 y5)) (λ_ s6 ⟨σ6,H6,I6,d6,q6⟩=>?_) λ_ _ z=>z.elim;refine ykf (ht fp s2 H2 C _ s6 σ6 H6 _ I6 q6) (λok s7 ⟨H7,I7,q7⟩=>?_) λ_ _ z=>z.elim;have memD:∀{o:Obj},(D,o)∈(blk X (own++cap) sc fp s2 H2 C).pn++([(D,o)]++zcz fp s5.heap):=ygd _ (yyi _ (yka.mpr rfl));have memF:∀{b:Addr} {o o':Obj},b∈fp->s5.heap.get? b=some o->(b,o)∈(blk X (own++cap) sc fp s2 H2 C).pn++([(D,o')]++zcz fp s5.heap):=λhb e=>ygd _ (ygd _ (zjs hb e));have σlen:(zrf own.length js σ).length=σ6.length:=by
    have a:=I6.len;have b:=I5.len;exact b.trans a.symm
   cases ok with
   | false =>
    have q7':N ys H7:=q7;obtain⟨m',hm,w7⟩:=hN _ _ q7';refine⟨m',hm,i+1,ys,its,nn,H7,(I7.zcw λp hp=>absurd hp (by simp)).weak σlen (λj v e=>zsz d6 e),T.keep _ _ _ st5 λb hb o e=>(I7.pin (b,o) (memF hb e)).1,λb hb=>?_,(I7.pin (D,_) memD).2.1,(I7.pin (D,_) memD).1,rv3,w7⟩;obtain⟨o,e,_⟩:=T.obj _ _ st5 b hb;exact (I7.pin (b,o) (memF hb e)).2.1
   | true =>
    have q7':te σ6 H7 λy H4=>N (ys++[y]) H4:=q7;refine ykf (he fp s2 H2 C _ s7 σ6 H7 _ I7 q7') (λyv s8 ⟨y,H8,I8,r8,n8'⟩=>?_) λ_ _ z=>z.elim;obtain⟨m',hm,w8⟩:=hN _ _ n8';have o8:=(I8.pin (D,_) memD).1;have n8:=(I8.pin (D,_) memD).2.1;refine append_at (hsz:=by rw[yqa,← rv3.length];exact hz) o8 λh9 hs9 hD9=>?_;have I8':=(I8.zcw (pins':=[]) λp hp=>absurd hp (by simp)).weak σlen (λj v e=>zsz d6 e);have I9:=I8'.turned (h':=h9) (t':=s8.toks) (it:=D) (λb o hb e=>(hs9.2 b hb).trans e) n8 hDC (.inr hDle) (λx c e z=>by
     obtain⟨v,q⟩:=I2.cell x c (zvu sc.names [] (λx c e=>by simp at e) x c e);exact absurd (yab q.lt (by rw[z];exact hDle)) (yje _)) (λp hp=>absurd (show p∈([]:List (Addr×Obj)) from hp) (by simp))
    refine⟨m',hm,i+1,ys++[y],its++[yv],nn+1,H8,I9,T.keep _ _ _ st5 λb hb o e=>(hs9.2 b (below b (fplt b hb)).2).trans (I8.pin (b,o) (memF hb e)).1,λb hb=>?_,n8,?_,rv3.snoc r8,w8⟩
    ·obtain⟨o,e,_⟩:=T.obj _ _ st5 b hb;exact (I8.pin (b,o) (memF hb e)).2.1
    ·rw[hD9,List.push_toArray]
 exact codeAny_compStart_list (loop _ rfl) (T.self X.A 0 _ _ _ st3 (loop _ rfl))
theorem zec {elt iter tg:Expr}{ifs:List Expr}{sc:Scope}{pos:Pos}{own cap:List Str}{js:List Nat}{wi:TI}{g:TG}{tt:TT}{te:TE}(hc:X.calm=true)(S:zya X sc)(cp:Caps X sc cap js)(hi:PI X tg iter wi)
  (hg:∀fp s H C,PG (blk X (own++cap) sc fp s H C) tg g) (ht:∀fp s H C,PTs (blk X (own++cap) sc fp s H C) ifs tt) (he:∀fp s H C,PE (blk X (own++cap) sc fp s H C) elt te)
  (hs:∀x,yen iter X.env x=pure x:=by intro _;rfl):PE X (.ListComp elt [⟨tg,iter,ifs,0⟩] sc pos) (zddc wi g tt te own.length js):=by
 intro pins s σ H Q I h;rw[eval_ListComp];refine yhn (use:=none) rfl hs (zqz λy hy hf=>I.ok.has y.1 (S.free y hy hf)) S.kind S.names (thn (hi pins s σ H _ I h) λv s1 h1=>thn h1 λitv s2 h2=>?_);obtain⟨it,fp,tn,J,H2,e,I2,T,st2,f2,W,⟨m0,w0⟩,turn⟩:=h2;subst e;refine zwsb (RR:=λacc C=>compPost (model X.prog X.w) X.A X.xe none (EP X pins σ Q) acc C) (Qf:=λys H=>∀p,H p=none->Q (.ref p) (upd H p (.lst ys))) hc S cp hg ht he I2 T st2 f2 w0 turn ?_;intro D C H4 s4 pn ys its nn hD hC hDC I4 n4 o4 hz rv q;obtain⟨m,hn,_⟩:=I4.loc;exact⟨m,hn,λh' hs'=>⟨.ref D,upd H4 D (.lst ys),zxsb I2 I4 f2 hC hD hDC n4 o4 hz rv hs',rfl,q D n4⟩⟩
end
def Its (x:Str):It:=⟨λi _=>i<x.cps.size,λi H v H'=>H'=H∧∃c,x.cps[i]?=some c∧v = .str ⟨#[c]⟩,λi _=>i=x.cps.size⟩
section
variable {X:Cx}{tg:Expr}
def iStr (tl:TE):TI:=fun σ H R=>tl σ H λv H1=>∃x,v = .str x∧R (Its x) H1
theorem zgv {P:yzb}{w:World}{K:yda}{tg:Expr}{ty:String}(x:Str)(t:Tok)(it:Addr)(hty:["enumerate","zip","dict_itemiterator","dict_reverseitemiterator","odict_iterator","itertools.zip_longest","itertools.pairwise"].contains ty=false)
  (W:∀A:Around,A.handled=none->Walks P w A it [it] [it] x.cps.size (SignAt x) (λi h=>h.IsStrIter it ty x t i))
  (hself:∀(A:Around) (i:Nat) (s:Shared) (Q:Value->Shared->Prop) (E:Value->Shared->Prop),s.heap.IsStrIter it ty x t i->Q (.ref it) s->wpAny (model P w) A (pyIter (.ref it)) Q E s) :
  Turn P w K tg (Its x) [it] it (λi h=>h.IsStrIter it ty x t i) where
 mem:=by simp
 obj:=λi h st b hb=>by
  have e:b=it:=by simpa using hb
  subst e;obtain⟨o,e,c,d⟩:=st;exact⟨o,e,λv z=>by rw[d] at z;cases z⟩
 keep:=λi h h' st k=>by
  obtain⟨o,e,r⟩:=st;exact⟨o,k it (by simp) o e,r⟩
 item:=by
  intro X hP hw hK hc i pins s σ H E I hf st hg;subst hP hw hK;obtain⟨f0,f1,f2,f3,f4,f5⟩:=hf it (by simp);refine (W X.A (I.ok.hd hc)).item i s _ _ hg st λv h' tk hv st' kk=>?_;obtain⟨c,u,hcx,rfl⟩:=hv;have I1:Inv X pins σ H { s with heap:=h',toks:=tk }:=I.turned (λb o hb e=>kk b o (by simpa using hb) e) f0 f1 f3 f4 f5;obtain⟨o,e,c',d⟩:=id st';exact⟨_,rfl,znwb (s:={ s with heap:=h',toks:=tk }) e c' d hty ⟨.str ⟨#[c]⟩,H,I1,⟨u,rfl⟩,⟨rfl,c,hcx,rfl⟩,st',λb hb=>(hf b hb).1⟩⟩
 done:=by
  intro X hP hw hK hc i pins s σ H E I hf st hg;subst hP hw hK;obtain⟨f0,f1,f2,f3,f4,f5⟩:=hf it (by simp);have le:i=x.cps.size:=hg;subst le;exact (W X.A (I.ok.hd hc)).done s _ _ st λh' tk kk=>⟨rfl,I.turned (λb o hb e=>kk b o (by simpa using hb) e) f0 f1 f3 f4 f5⟩
 self:=hself
theorem zcyb {l:Expr}{tl:TE}(hl:PE X l tl):PI X tg l (iStr tl):=by
 intro pins s σ H R I h;refine thn (hl pins s σ H _ I h) λv s1 ⟨y,H1,I1,r1,q1⟩=>?_;obtain⟨x,e,q⟩:=q1;subst e;obtain⟨t,rfl⟩:=r1;have fp:∀b∈[s1.heap.objs.size],FpOk X pins H1 b:=λb hb=>by
  have e:b=s1.heap.objs.size:=by simpa using hb
  subst e;exact I1.fpOk (yga _) (I1.hok.fresh (yga _))
 cases ha:x.cps.all (· < 128)
 ·refine wpAny_pyIter_wide ha ?_;exact⟨s1.heap.objs.size,[s1.heap.objs.size],_,Its x,H1,rfl,I1.kept (t':=s1.toks) λb o e=>yba _ e,zgv x t _ (by decide) (λA hA=>Walks.strWide hA _ x t) (λA i s Q E st h=>wpAny_pyIter_striter_wide st h),⟨_,yfa _ rfl,rfl,rfl⟩,fp,q⟩
 ·refine wpAny_pyIter_ascii ha ?_;exact⟨s1.heap.objs.size,[s1.heap.objs.size],_,Its x,H1,rfl,I1.kept (t':=s1.toks) λb o e=>yba _ e,zgv x t _ (by decide) (λA hA=>Walks.strAscii hA _ x t) (λA i s Q E st h=>wpAny_pyIter_striter_ascii st h),⟨_,yfa _ rfl,rfl,rfl⟩,fp,q⟩
end
theorem zlbb {J:It}{len:Nat}{x:Nat->V}{H1:Hp}{g:TG}{tt:TT}{te:TE}{n:Nat}{js:List Nat}{σ:St}{Q:VK}(Pv:Nat->List V->Hp->Prop)(hgo:∀i ys H,Pv i ys H->i<len->J.go i H)(hst:∀ys H,Pv len ys H->J.stop len H)
  (hy:∀i ys H v H',Pv i ys H->i<len->J.yld i H v H'->H'=H∧v=x i) (h0:Pv 0 [] H1) (hz:∀i ys H,Pv i ys H->ys.length≤yva)
  (hs:∀i ys H,i<len->Pv i ys H->g (x i) (zrf n js σ) H fun σ2 H2=>σ2.drop n=(zrf n js σ).drop n∧tt σ2 H2 λb H3=>if b=true then te σ2 H3 λy H4=>Pv (i+1) (ys++[y]) H4 else Pv (i+1) ys H3)
  (hd:∀ys H,Pv len ys H->∀p,H p=none->Q (.ref p) (upd H p (.lst ys))):zoy J H1 g tt te n js σ Q:=by
 refine⟨λi m ys H=>m=len-i∧i≤len∧Pv i ys H,⟨len,by simp,ywa _,h0⟩,?_⟩;rintro i m ys H ⟨rfl,hi,p⟩
 by_cases hlt:i<len
 ·refine .inr ⟨hgo i ys H p hlt,hz i ys H p,Pv (i+1),λys' H' p'=>⟨len-(i+1),by omega,rfl,hlt,p'⟩,λv H' y=>?_⟩;obtain⟨e,ev⟩:=hy i ys H v H' p hlt y;subst e ev;exact hs i ys _ hlt p
 ·have e:i=len:=by omega
  subst e;exact .inl ⟨hst ys H p,hz _ ys H p,hd ys H p⟩
theorem zpwb {t:Str}{H1:Hp}{g:TG}{tt:TT}{te:TE}{n:Nat}{js:List Nat}{σ:St}{Q:VK}(Pv:Nat->List V->Hp->Prop)(h0:Pv 0 [] H1)(hz:∀i ys H,Pv i ys H->ys.length≤yva)
  (hs:∀i c ys H,t.cps[i]?=some c->Pv i ys H->g (.str ⟨#[c]⟩) (zrf n js σ) H fun σ2 H2=>σ2.drop n=(zrf n js σ).drop n∧tt σ2 H2 λb H3=>if b=true then te σ2 H3 λy H4=>Pv (i+1) (ys++[y]) H4 else Pv (i+1) ys H3)
  (hd:∀ys H,Pv t.cps.size ys H->∀p,H p=none->Q (.ref p) (upd H p (.lst ys))):zoy (Its t) H1 g tt te n js σ Q:=by
 refine zlbb (len:=t.cps.size) (x:=λi=>.str ⟨#[t.cps.getD i 0]⟩) Pv (λi ys H _ h=>h) (λys H _=>rfl) (λi ys H v H' _ hlt y=>?_) h0 hz (λi ys H hlt p=>?_) hd
 ·obtain⟨e,c,hc,ev⟩:=y;refine⟨e,?_⟩;rw[ev,ylg,hc];rfl
 ·have hc:t.cps[i]?=some (t.cps.getD i 0):=by
   rw[ylg,ykb hlt];rfl
  exact hs i _ ys H hc p
theorem zyb {K:yda}{a:Addr}{xs:List V}{H1:Hp}{g:TG}{tt:TT}{te:TE}{n:Nat}{js:List Nat}{σ:St}{Q:VK}(Pv:Nat->List V->Hp->Prop)(hl:∀i ys H,Pv i ys H->SqL K H a xs)(h0:Pv 0 [] H1)(hz:∀i ys H,Pv i ys H->ys.length≤yva)
  (hs:∀i x ys H,xs[i]?=some x->Pv i ys H->g x (zrf n js σ) H fun σ2 H2=>σ2.drop n=(zrf n js σ).drop n∧tt σ2 H2 λb H3=>if b=true then te σ2 H3 λy H4=>Pv (i+1) (ys++[y]) H4 else Pv (i+1) ys H3)
  (hd:∀ys H,Pv xs.length ys H->∀p,H p=none->Q (.ref p) (upd H p (.lst ys))):zoy (Itl K a) H1 g tt te n js σ Q:=by
 refine zlbb (len:=xs.length) (x:=λi=>xs.getD i .non) Pv (λi ys H p hlt=>⟨xs,xs[i],hl i ys H p,by simp[hlt]⟩) (λys H p=>⟨xs,hl _ ys H p,yga _⟩) (λi ys H v H' p hlt y=>?_) h0 hz (λi ys H hlt p=>?_) hd
 ·obtain⟨e,y⟩:=y;refine⟨e,?_⟩;rw[yua,y xs (hl i ys H p)];rfl
 ·refine hs i _ ys H ?_ p;rw[yua,ybb hlt];rfl
theorem zyl {K:yda}{a:Addr}{xs:List V}{H1:Hp}{g:TG}{tt:TT}{te:TE}{n:Nat}{js:List Nat}{σ:St}{Q:VK}(Pv:Nat->List V->Hp->Prop)(hl:∀i ys H,Pv i ys H->SqT K H a xs)(h0:Pv 0 [] H1)(hz:∀i ys H,Pv i ys H->ys.length≤yva)
  (hs:∀i x ys H,xs[i]?=some x->Pv i ys H->g x (zrf n js σ) H fun σ2 H2=>σ2.drop n=(zrf n js σ).drop n∧tt σ2 H2 λb H3=>if b=true then te σ2 H3 λy H4=>Pv (i+1) (ys++[y]) H4 else Pv (i+1) ys H3)
  (hd:∀ys H,Pv xs.length ys H->∀p,H p=none->Q (.ref p) (upd H p (.lst ys))):zoy (Itt K a) H1 g tt te n js σ Q:=by
 refine zlbb (len:=xs.length) (x:=λi=>xs.getD i .non) Pv (λi ys H p hlt=>⟨xs,xs[i],hl i ys H p,by simp[hlt]⟩) (λys H p=>⟨xs,hl _ ys H p,yga _⟩) (λi ys H v H' p hlt y=>?_) h0 hz (λi ys H hlt p=>?_) hd
 ·obtain⟨e,y⟩:=y;refine⟨e,?_⟩;rw[yua,y xs (hl i ys H p)];rfl
 ·refine hs i _ ys H ?_ p;rw[yua,ybb hlt];rfl
theorem zmo {lo:Int}{len:Nat}{H1:Hp}{g:TG}{tt:TT}{te:TE}{n:Nat}{js:List Nat}{σ:St}{Q:VK}(Pv:Nat->List V->Hp->Prop)(h0:Pv 0 [] H1)(hz:∀i ys H,Pv i ys H->ys.length≤yva)
  (hs:∀i ys H,i<len->Pv i ys H->g (.int (lo+i)) (zrf n js σ) H fun σ2 H2=>σ2.drop n=(zrf n js σ).drop n∧tt σ2 H2 λb H3=>if b=true then te σ2 H3 λy H4=>Pv (i+1) (ys++[y]) H4 else Pv (i+1) ys H3)
  (hd:∀ys H,Pv len ys H->∀p,H p=none->Q (.ref p) (upd H p (.lst ys))):zoy (Itr lo len) H1 g tt te n js σ Q :=
 zlbb (len:=len) (x:=λi=>.int (lo+i)) Pv (λi ys H _ h=>h) (λys H _=>yga _) (λi ys H v H' _ hlt y=>y) h0 hz (λi ys H hlt p=>hs i ys H hlt p) hd
section
variable {X:Cx}
theorem zuob:∀{bs:List Bool} {us:List Value},Vals (bs.map V.bl) us->us=bs.map Value.bool
 | [],us,r=>by rw[yxh] at r;cases r;rfl
 | b::bs,us,r=>by
  rw[ytb] at r;cases r with
  | cons r1 r2=>rw[ytb,zuob r2,show _=Value.bool b from r1]
theorem zrbb (hc:X.calm=true):zfi X (.builtin "all") (λxs H Q=>Ex2 λ(a:Addr) (bs:List Bool)=>xs=[.ref a]∧SqL X.K H a (bs.map V.bl)∧Q (.bl (bs.all id)) H):=by
 intro pins s σ H xs us Q I r h;obtain⟨a,bs,rfl,hq,q⟩:=h;obtain⟨u,rfl,ru⟩:=vals1 r;cases ru;obtain⟨its,rv,p,hz⟩:=I.list hq;have e:=zuob rv;have hlt:a<s.heap.objs.size:=by obtain⟨o,n,e,_⟩:=p;exact yoa e
 refine call_all_walk (ydk p.isList ?_);refine⟨s.heap.objs.size,_,_,_,_,_,λi=>bs.getD i true,rfl,Walks.list (show X.A.in1.handled=none from I.ok.hd hc) s.heap.objs.size a (yfb hlt) its.toArray,⟨⟨_,yfa _ rfl,rfl,rfl⟩,p.isList.push _⟩,?_,?_⟩
 ·intro i v s' Q' E' hP hQ;have hP':its[i]?=some v:=by simpa using hP
  rw[e,yia] at hP';cases z:bs[i]? with
  | none=>rw[z] at hP';cases hP'
  | some b =>
   rw[z] at hP';have ev:Value.bool b=v:=yoc hP';subst ev;have hQ':Q' (bs.getD i true) s':=hQ;rw[yua,z] at hQ';exact yke hQ'
 ·intro h' tk kk;refine⟨.bl _,H,I.kept (t':=tk) λb o e=>kk b o (λz=>?_) (yba _ e),?_,q⟩
  ·have z':b=s.heap.objs.size:=by simpa using z
   exact absurd (yoa e) (by rw[z'];exact yje _)
  ·show Value.bool _=Value.bool _
   congr 1
   rw[yqa,e,yca];have go:∀l:List Bool,(yxb l.length).all (λi=>l.getD i true)=l.all id:=λl=>by
    have q:=range_getD l true;have e2:((yxb l.length).map λj=>l.getD j true).all id=(yxb l.length).all λi=>l.getD i true:=by
     rw[List.all_map];rfl
    rw[← e2,q]
   exact go bs
theorem ztib:zfi X (.builtin "isinstance") (λxs H Q=>Ex4 λx c t b=>xs=[x,c]∧TyOf X.K H x t∧((∃n,c = .ty n∧yqd X.K t (.type n)=some b)∨(∃a,c = .ref a∧yqd X.K t (.ref a)=some b))∧Q (.bl b) H):=by
 intro pins s σ H xs us Q I r h;obtain⟨x,c,t,b,rfl,ty,hc,q⟩:=h;obtain⟨u,u',rfl,r1,r2⟩:=vals2 r
 rcases hc with⟨n,rfl,e⟩|⟨a,rfl,e⟩
 ·cases (show u'=Value.type n from r2);exact zbfb I r1 ty e λtk=>⟨.bl b,H,I.tok tk,rfl,q⟩
 ·cases (show u'=Value.ref a from r2);exact zbfb I r1 ty e λtk=>⟨.bl b,H,I.tok tk,rfl,q⟩
mutual
inductive DV (K:yda)(H:Hp):V->PyData->Prop where
 | non:DV K H .non .none
 | bl (b:Bool):DV K H (.bl b) (.bool b)
 | int (i:Int):DV K H (.int i) (.int i)
 | str (x:Str):DV K H (.str x) (.str x)
 | lst {a:Addr} {xs:List V} {ds:List PyData}:SqL K H a xs->DVs K H xs ds->DV K H (.ref a) (.list ds)
 | tup {a:Addr} {xs:List V} {ds:List PyData}:SqT K H a xs->DVs K H xs ds->DV K H (.ref a) (.tuple ds)
inductive DVs (K:yda)(H:Hp):List V->List PyData->Prop where
 | nil:DVs K H [] []
 | cons {x:V} {d:PyData} {xs:List V} {ds:List PyData}:DV K H x d->DVs K H xs ds->DVs K H (x::xs) (d::ds)
end
mutual
theorem DV.reads {pins:List (Addr×Obj)}{σ:St}{H:Hp}{s:Shared}(I:Inv X pins σ H s):∀{x:V} {d:PyData} {u:Value},DV X.K H x d->RelV x u->∃as,Reads s.heap u d as
 | _,_,_,.non,r=>by cases r;exact⟨_,.none⟩
 | _,_,_,.bl b,r=>by cases r;exact⟨_,.bool b⟩
 | _,_,_,.int i,r=>by obtain⟨t,rfl⟩:=r;exact⟨_,.int i t⟩
 | _,_,_,.str x,r=>by obtain⟨t,rfl⟩:=r;exact⟨_,.str x t⟩
 | _,_,_,.lst hq hs,r=>by
  cases r;obtain⟨its,rv,⟨o,n,e,c,_,d⟩,_⟩:=I.list hq;obtain⟨as,q⟩:=hs.reads I rv;exact⟨_,.list e c d (by simpa using q)⟩
 | _,_,_,.tup hq hs,r=>by
  cases r;obtain⟨its,rv,⟨o,e,c,n,d⟩,_⟩:=I.tuple hq;obtain⟨as,q⟩:=hs.reads I rv;exact⟨_,.tuple e c d (by simpa using q)⟩
theorem DVs.reads {pins:List (Addr×Obj)}{σ:St}{H:Hp}{s:Shared}(I:Inv X pins σ H s):∀{xs:List V} {ds:List PyData} {us:List Value},DVs X.K H xs ds->Vals xs us->∃as,ReadsAll s.heap us ds as
 | _,_,_,.nil,.nil=>⟨_,.nil⟩
 | _,_,_,.cons h hs,.cons r rs=>by
  obtain⟨as,q⟩:=h.reads I r;obtain⟨bs,p⟩:=hs.reads I rs;exact⟨_,.cons q p⟩
end
theorem zgyb (hu:X.A.units+64<cLine):OpR X (yaf .Eq) (λx y H Q=>Ex2 λd e=>DV X.K H x d∧DV X.K H y e∧yhc d=true∧yhc e=true∧Q (.bl (ypd d e)) H):=by
 intro pins s σ H x y v u Q I rx ry h;obtain⟨d,e,hd,he,s1,s2,q⟩:=h;obtain⟨as,r1⟩:=hd.reads I rx;obtain⟨bs,r2⟩:=he.reads I ry;exact eq_dataH r1 r2 s1 s2 hu ⟨.bl _,H,I,rfl,q⟩
theorem zvq (hu:X.A.units+64<cLine):OpR X (yaf .NotEq) (λx y H Q=>Ex2 λd e=>DV X.K H x d∧DV X.K H y e∧yhc d=true∧yhc e=true∧Q (.bl (!PyData.eqv d e)) H):=by
 intro pins s σ H x y v u Q I rx ry h;obtain⟨d,e,hd,he,s1,s2,q⟩:=h;obtain⟨as,r1⟩:=hd.reads I rx;obtain⟨bs,r2⟩:=he.reads I ry;exact ne_dataH r1 r2 s1 s2 hu ⟨.bl _,H,I,rfl,q⟩
end
end L2
namespace L2
open PySem PyProof.Rows
set_option genInjectivity false in
structure Gf (K:yda)(mg:Str->Option Value)(x q:Str)(st:Stmt) where
 f:Addr
 d:yrf
 F:Fun K x q st f d
 m:mg x=some (.ref f)
set_option genInjectivity false in
structure Mf (K:yda)(C:Addr)(x q:Str)(st:Stmt) where
 f:Addr
 d:yrf
 F:Fun K x q st f d
 M:Meth K C x f
set_option genInjectivity false in
structure If (K:yda)(C:Addr)(x q:Str)(st:Stmt) where
 f:Addr
 d:yrf
 F:Fun K x q st f d
 M:Mk K C f
section
variable {K:yda}{mg:Str->Option Value}{h:Heap}{C f:Addr}{x q:Str}{st:Stmt}{oc:Value}{od an:Option Addr}{sl:Array (Option Value)}{kV dc pm cd ct:Value}
def gf_of (X:K.In h)(G:h.Ns yta mg)(a:yxa K yta x=some (some (.ref f)))
  (l:K.lookup f=some ⟨oc,od,.func (ytf x q (zrk st) (zpg st) (zga st) .none kV dc pm an cd ct),sl⟩) (c:yeh K cd q=true) (k:ygf K (.ref f)=true):Gf K mg x q st :=
 ⟨f,_,zbsb l c k,ylb X G a⟩
def mf_of (a:yjb K (.ref C) x=some (some (.ref f)))(i:yqk K (.ref f)=true)
  (l:K.lookup f=some ⟨oc,od,.func (ytf x q (zrk st) (zpg st) (zga st) .none kV dc pm an cd ct),sl⟩) (c:yeh K cd q=true) (k:ygf K (.ref f)=true):Mf K C x q st :=
 ⟨f,_,zbsb l c k,⟨a,i,k⟩⟩
def if_of (a:yjb K (.ref C) "__init__" = some (some (.ref f)))(i:yqk K (.ref f)=true)
  (l:K.lookup f=some ⟨oc,od,.func (ytf x q (zrk st) (zpg st) (zga st) .none kV dc pm an cd ct),sl⟩) (c:yeh K cd q=true) (k:ygf K (.ref f)=true)
  (mk:yip K C=true) (kc:ygf K (.ref C)=true):If K C x q st :=
 ⟨f,_,zbsb l c k,⟨mk,a,i,kc⟩⟩
theorem zxec {fa:Addr}(g:Gf K mg x q st)(e:mg x=some (.ref fa)):g.f=fa:=by
 have z:=g.m.symm.trans e;injection z with z
 injection z
end
section
variable {P:yzb}{w:World}{K:yda}{mg:Str->Option Value}{base:Heap}{C:Addr}{x q:Str}{st:Stmt}{N ps:List Str}{k:Nat}{sp:Sp}
theorem Gf.ok (g:Gf K mg x q st)(S:zma N ps (zga st))
  (hb:∀(f:Addr) (cdv:Value) (A:Around) (outer:List Env) (s:Shared) (H:Hp) (vs:List V) (Q:VK) (E:XK),Room k (A.deeper (envOfC q (zga st) s.heap.objs.size f cdv))->sp vs H Q E->let X:=(cxOf CX0 P w K mg base N q (zga st) f cdv A outer s H E).nox;∃t,PSs X (zpg st) t∧t { nx:=λ_ H'=>Q .non H',rt:=Q } (start N vs) H)
  (len:∀vs H Q E,sp vs H Q E->vs.length=ps.length:=by intro _ _ _ _ h;cases h;rename_i h;rw[h.1];rfl):FnOk P w K mg base CX0 (k+1) g.f g.d ps sp:=g.F.ok S len (hb g.f)
theorem Mf.ok (g:Mf K C x q st)(S:zma N ps (zga st))
  (hb:∀(f:Addr) (cdv:Value) (A:Around) (outer:List Env) (s:Shared) (H:Hp) (vs:List V) (Q:VK) (E:XK),Room k (A.deeper (envOfC q (zga st) s.heap.objs.size f cdv))->sp vs H Q E->let X:=(cxOf CX0 P w K mg base N q (zga st) f cdv A outer s H E).nox;∃t,PSs X (zpg st) t∧t { nx:=λ_ H'=>Q .non H',rt:=Q } (start N vs) H)
  (len:∀vs H Q E,sp vs H Q E->vs.length=ps.length:=by intro _ _ _ _ h;cases h;rename_i h;rw[h.1];rfl):FnOk P w K mg base CX0 (k+1) g.f g.d ps sp:=g.F.ok S len (hb g.f)
theorem If.ok (g:If K C x q st)(S:zma N ps (zga st))
  (hb:∀(f:Addr) (cdv:Value) (A:Around) (outer:List Env) (s:Shared) (H:Hp) (vs:List V) (Q:VK) (E:XK),Room k (A.deeper (envOfC q (zga st) s.heap.objs.size f cdv))->sp vs H Q E->let X:=(cxOf CX0 P w K mg base N q (zga st) f cdv A outer s H E).nox;∃t,PSs X (zpg st) t∧t { nx:=λ_ H'=>Q .non H',rt:=Q } (start N vs) H)
  (len:∀vs H Q E,sp vs H Q E->vs.length=ps.length:=by intro _ _ _ _ h;cases h;rename_i h;rw[h.1];rfl):FnOk P w K mg base CX0 (k+1) g.f g.d ps sp:=g.F.ok S len (hb g.f)
theorem FnOk.up {CX:CXT}{f:Addr}{d:yrf}{m:Nat}(h:FnOk P w K mg base CX k f d ps sp)(le:k≤m:=by first|decide|omega):FnOk P w K mg base CX m f d ps sp:=h.mono le
end
theorem sz0:0≤yva:=by decide
theorem sz1:1≤yva:=by decide
theorem sz2:2≤yva:=by decide
theorem sz3:3≤yva:=by decide
theorem sz4:4≤yva:=by decide
theorem sz5:5≤yva:=by decide
theorem sz6:6≤yva:=by decide
theorem sz7:7≤yva:=by decide
def scB (N P:List Str)(sc:Scope):Bool :=
 decide (sc.kind = .function)&&(!sc.isCoroutine&&(!sc.isGenerator&&(decide N.Nodup&&(decide (N.take P.length=P) &&
  (P.all (λx=>decide (sc.names.lookup x=some .local∨sc.names.lookup x=some .cell))&&sc.names.all λy=>decide (y.2 ≠ .free))))))
theorem scOf {N P:List Str}{sc:Scope}(h:scB N P sc=true):zma N P sc:=by
 unfold scB at h;simp only[yhe,Bool.not_eq_true',decide_eq_true_eq,yxg] at h;obtain⟨a,b,c,d,e,f,g⟩:=h;exact⟨a,b,c,d,e,f,g⟩
end L2
namespace L2
open PySem PySem.Spec PyProof.Rows
section
variable {X:Cx}
theorem zfq:∀{ys:List Str} {us:List Value},Vals (ys.map V.str) us->yum us ys
 | [],us,r=>by rw[yxh] at r;cases r;exact .nil
 | y::ys,us,r=>by
  rw[ytb] at r;cases r with
  | cons r1 r2 =>
   obtain⟨t,e⟩:=r1;subst e;exact .cons y t (zfq r2)
theorem zucb:∀l:List (Str×Tok),Vals ((l.map (·.1)).map V.str) (strValues l)
 | []=>.nil
 | (x,t)::r=>.cons ⟨t,rfl⟩ (zucb r)
theorem zdrb:MtR X "str.join" (λx xs H Q=>Ex3 λsep a ys=>x = .str sep∧xs=[.ref a]∧SqL X.K H a (ys.map V.str)∧(ys.map (·.length)).sum+ys.length*sep.length≤16777216∧Q (.str (yrc sep ys)) H):=by
 intro pins s σ H x xs v us Q I rx rs h;obtain⟨sep,a,ys,rfl,rfl,hq,hz,q⟩:=h;obtain⟨t,rfl⟩:=rx;obtain⟨u,rfl,ru⟩:=vals1 rs;cases ru;obtain⟨its,rv,p,_⟩:=I.list hq;refine join_list (items:=its.toArray) (ys:=ys) p.isList (by simpa using zfq rv) hz λt' k=>⟨.str _,H,I.tok k,⟨t',rfl⟩,?_⟩;have e:Txt.join sep ys=yrc sep ys:=by first|rfl|exact StrLaws.glued_eq_join sep ys
 rw[e];exact q
theorem zdr:MtR X "str.split" (λx xs H Q=>Ex2 λt y=>x = .str t∧xs=[.str y]∧(y.length==0)=false∧t.length+2≤yva∧∀l,H l=none->Q (.ref l) (upd H l (.lst ((yvf t y).map V.str)))):=by
 intro pins s σ H x xs v us Q I rx rs h;obtain⟨x,y,rfl,rfl,hy,hsz,q⟩:=h;obtain⟨t,rfl⟩:=rx;obtain⟨u,rfl,ru⟩:=vals1 rs;obtain⟨tu,rfl⟩:=ru;have hn:(yrh x (yud x y 0 x.length (x.length+1)) y.length).length≤yva:=by
  have e1:=StrLaws.occ_length_le x y 0 x.length (x.length+1);rw[length_partsBetween];omega
 have fin:∀(l:List (Str×Tok)) (k:Nat),l.map (·.1)=yvf x y->l.length≤yva->EP X pins σ Q (.ref s.heap.objs.size) { s with heap:=s.heap.push { cls:=.type "list",data:=.seq (strValues l).toArray },toks:=k }:=λl k e hl=>by
  refine⟨.ref s.heap.objs.size,upd H s.heap.objs.size (.lst ((yvf x y).map V.str)),I.laid (t':=k) (λb o e=>yba _ e) (yga _) ⟨?_,strValues l,_,?_,yfa _ rfl⟩,rfl,q _ (I.hok.fresh (yga _))⟩
  ·rw[← e,yca,yca];exact hl
  ·rw[← e];exact zucb l
 cases h1:(decide (x.length<y.length)||decide (ygj x<ygj y))
 ·cases hf:(yud x y 0 x.length (x.length+1)).isEmpty
  ·refine ywg ypo (ylq _ _ _) yin (ymm _ _) (meets_str_split_sep x y t tu h1 hy hf (by omega) hn) ?_;show wants _ _ _ { s with toks:=_,heap:=s.heap.push { cls:=.type "list",data:=.seq (strsFrom s.toks (yrh x (yud x y 0 x.length (x.length+1)) y.length)).toArray } }
   rw[strsFrom_eq];refine fin (numbered s.toks _) _ ((numbered_texts _ _).trans ((if_neg (ne_true_of_eq_false h1)).trans (if_neg (ne_true_of_eq_false hf))).symm) ?_;have e:=congrArg yzn (numbered_texts s.toks (yrh x (yud x y 0 x.length (x.length+1)) y.length));rw[yca] at e;omega
  ·exact ywg ypo (ylq _ _ _) yin (ymm _ _) (meets_str_split_not_found x y t tu h1 hy hf)
    (fin [(x,t)] s.toks ((if_neg (ne_true_of_eq_false h1)).trans (if_pos hf)).symm (by show 1≤yva;decide))
 ·exact ywg ypo (ylq _ _ _) yin (ymm _ _) (meets_str_split_cannot_occur x y t tu h1)
   (fin [(x,t)] s.toks (if_pos h1).symm (by show 1≤yva;decide))
theorem zam:zfi X (.type "int") (λxs H Q=>Ex2 λx n=>xs=[.str x]∧PySem.intText? x=some n∧x.length≤640∧Q (.int n) H):=by
 intro pins s σ H xs us Q I r h;obtain⟨x,n,rfl,hn,hl,q⟩:=h;obtain⟨u,rfl,t,rfl⟩:=vals1 r;exact PySem.W.KIN.call_text hn hl ⟨.int n,H,I.tok _,⟨_,rfl⟩,q⟩
theorem zan {i:Nat}{x:Str}{elt iter tg:Expr}{ifs:List Expr}{sc:Scope}{pos spos pos':Pos}{own cap:List Str}{js:List Nat}{wi:TI}{g:TG}{tt:TT}{te:TE}(hN:X.N.Nodup)(hix:X.N[i]?=some x)(hx:Loc X.env.scope x)
  (hc:X.calm=true) (S:zya X sc) (cp:Caps X sc cap js) (hi:PI X tg iter wi)
  (hg:∀fp s H C,PG (blk X (own++cap) sc fp s H C) tg g) (ht:∀fp s H C,PTs (blk X (own++cap) sc fp s H C) ifs tt) (he:∀fp s H C,PE (blk X (own++cap) sc fp s H C) elt te)
  (hsw:yet (.ListComp elt [⟨tg,iter,ifs,0⟩] sc pos) (some (.Name x pos')) spos.line X.env=pure true:=by rfl) (hs:∀x,yen iter X.env x=pure x:=by intro _;rfl)
  (hf:X.fn x=true∨X.env.scope.names.lookup x=some .local:=by first|exact .inl rfl|exact .inr rfl|assumption) :
  PS X (.Assign [.Name x pos'] (.ListComp elt [⟨tg,iter,ifs,0⟩] sc pos) spos) (tAsg (zddc wi g tt te own.length js) (zasb i)):=by
 intro pins s σ H D I h;rw[exec_Assign_Name_used _ _ _ _ hsw];refine yaa (yer (yaa ?_));show wpAny _ X.A (do let _ ← comprehension (.ListComp elt [⟨tg,iter,ifs,0⟩] sc pos) sc X.env _ (newList []) false (eval iter X.env) (some (assign (.Name x pos') X.env))) _ _ s
 refine yaa (ykf (yhn (use:=some (assign (.Name x pos') X.env)) (Q:=λ_ s'=>SP X pins D .next s') rfl hs (zqz λy hy hf=>I.ok.has y.1 (S.free y hy hf)) S.kind S.names
  (thn (hi pins s σ H _ I h) λv s1 h1=>thn h1 λitv s2 h2=>?_)) (λ_ s' hq=>yea (yea hq)) λ_ _ e=>e)
 obtain⟨it,fp,tn,J,H2,e,I2,T,st2,f2,W,⟨m0,w0⟩,turn⟩:=h2;subst e;refine zwsb (RR:=λacc C=>compPost (model X.prog X.w) X.A X.xe (some (assign (.Name x pos') X.env)) (λ_ s'=>SP X pins D .next s') acc C) (Qf:=λys H=>∀p,H p=none->D.nx (σ.set i (some (.ref p))) (upd H p (.lst ys))) hc S cp hg ht he I2 T st2 f2 w0 turn ?_;intro DD C H4 s4 pn ys its nn hD hC hDC I4 n4 o4 hz rv q;have I5:Inv X pins σ (upd H4 DD (.lst ys)) s4:=zxsb (h':=s4.heap) I2 I4 f2 hC hD hDC n4 o4 hz rv (yjn ..);obtain⟨m,hn,_⟩:=I4.loc;have hn':s4.heap.Ns C m:=hn;show wpAny _ X.A (assign (.Name x pos') X.env (.ref DD)) _ _ s4
 refine wpAny_assign_Name (zvcb I5 hN hix hx (v:=.ref DD) (u:=.ref DD) rfl (λs6 I6 ⟨a,hsb,ha⟩=>?_) hf);have lt2:X.env.locals<s2.heap.objs.size:=I2.lt;have cellC:∀y c,X.env.cells.lookup y=some c->c≠C:=λy c e=>by
  obtain⟨v,z⟩:=I2.cell y c e;exact yfb (yab z.lt hC)
 have aC:C≠a:=by
  rcases ha with rfl|ha
  ·exact yze (yab lt2 hC)
  ·exact ysc (cellC _ _ ha)
 refine⟨m,hn'.sameBut hsb aC,λh' hs'=>?_⟩;have nC:(upd H4 DD (.lst ys)) C=none:=by rw[zbb (ysc hDC)];exact I4.free
 have I7:=I6.turned (h':=h') (t':=s6.toks) (it:=C) (λb o hb e=>(hs'.2 b hb).trans e) nC (yze (yab lt2 hC)) (.inr (yob I2.sz hC)) cellC (λp hp=>by
  exact yfb (yab (yoa (I2.pin p hp).1) hC))
 exact⟨_,_,I7,q DD n4⟩
end
end L2
namespace L2
open PySem PySem.Spec PyProof.Rows
section
variable {X:Cx}{a:Addr}{D:List (Str×yxr)}
theorem zpyb (T:yit X.base a D):IxR X (λx y H Q=>Ex2 λk i=>x = .ref a∧y = .str k∧KTD.datumAt k D=some (.flat (.int i))∧Q (.int i) H):=by
 intro value slice pins s σ H x y v u Q I rx ry h hs;obtain⟨k,i,rfl,rfl,hd,q⟩:=h;cases rx;obtain⟨tk,rfl⟩:=ry;have T':KTD.Here X.base s.heap a D:=⟨T,I.bk⟩;refine subscriptTail_builtin_flat T'.typeIs ykn.lookup ?_ hs;unfold yvq
 try with_reducible refine yad ?_
 refine yaa (ygn T'.typeIs (by decide) ?_);refine yaa (yuc (name:=yuf "__getitem__") T'.typeIs ykn
  (ync ykn T'.typeIs entry_dict_getitem ?_ (args_dict_getitem _ _)))
 show wpAny _ _ (dictGet a (.str k tk) >>= _) _ _ s
 refine yaa (KTD.dictGet_text T' (λd v ha hv=>?_) λhn=>?_)
 ·rw[hd] at ha;cases ha;have hv':Reads s.heap v (.int i) []:=hv s.heap;obtain⟨t,rfl⟩:∃t,v=Value.int i t:=by
   cases hv' with
   | int _ t=>exact⟨t,rfl⟩
  have fin:EP X pins σ Q (.int i t) { s with toks:=s.toks+1 }:=⟨.int i,H,I.tok _,⟨t,rfl⟩,q⟩;exact yea ⟨Value.int i t,rfl,yea ⟨λb z=>(nomatch z),fin⟩⟩
 ·rw[hd] at hn;cases hn
end
end L2
namespace L2
open PySem PySem.Spec PyProof.Rows
section
variable {X:Cx}
@[irreducible] def rStrAny:List V->Hp->VK->Prop:=λxs H Q=>(∃x,xs=[.str x]∧Q (.str x) H)∨∃i:Int,xs=[.int i]∧i.natAbs.log2<1920∧Q (.str (toString i)) H
end
end L2
namespace L2
open PySem PySem.Spec PyProof.Rows
section
variable (K:yda){X:Cx}{a b o e:Expr}{es:List Expr}{ta tb to te:TE}{t:TA}{name f:Str}{apos cpos pos:Pos}{T id:String}{r:V->List V->Hp->VK->Prop}
theorem zjr (hK:X.K=K:=by rfl):IxR X (rIxL K):=hK▸zad
theorem zid (hK:X.K=K:=by rfl):IxR X (rIxT K):=hK▸zcb
theorem zor (hK:X.K=K:=by rfl):zfi X (.type "list") (λxs H Q=>Ex2 λp ys=>xs=[.ref p]∧(SqL K H p ys∨SqT K H p ys)∧∀l,H l=none->Q (.ref l) (upd H l (.lst ys))):=hK▸zqc
theorem zjy (hK:X.K=K:=by rfl):zfi X (.type "tuple") (λxs H Q=>Ex2 λp ys=>xs=[.ref p]∧((SqL K H p ys∧∀l,H l=none->Q (.ref l) (upd H l (.tup ys)))∨(SqT K H p ys∧Q (.ref p) H))):=hK▸zoa
theorem zmqb (he:PE X e ta)(hb:ymj e f X.env (eval e X.env)=eval e X.env)(hK:X.K=K:=by rfl):PE X (.Attribute e f pos) (tFld K ta f):=hK▸zee he hb
end
end L2
namespace SSet
open PySem PySem.Spec PyProof.Rows
theorem zuec (t:yqe)(n:Nat):(t.orStandIn n).led=t.led∧(t.plain=false->(t.orStandIn n).plain=false):=by
 unfold ykr
 split
 ·exact⟨rfl,id⟩
 ·exact⟨rfl,λ_=>rfl⟩
theorem zjrb (t:yqe)(es:Array (Int×Value))(h:Int)(x:Value):(layNew t es h x).2.1.led=t.led:=by
 unfold layNew
 split
 ·exact (zuec _ _).1
 ·rfl
theorem zveb (t:yqe)(es:Array (Int×Value))(k:Nat):(yfj t es k).2.1.led=t.led∧(t.plain=false->(yfj t es k).2.1.plain=false):=by
 unfold yfj
 split
 ·rename_i u order e;have q:u.led=t.led∧u.plain=t.plain:=by
   unfold yjt yut at e;simp only[bind,Option.bind,pure] at e
   split at e
   ·cases e
   ·injection e with e
    injection e with e _
    rw[← e];exact⟨rfl,rfl⟩
  dsimp only
  split
  ·exact⟨q.1,λz=>q.2.trans z⟩
  ·exact⟨rfl,λ_=>rfl⟩
 ·exact⟨rfl,λ_=>rfl⟩
def SS (prog:yzb)(w:World)(h:Heap)(a:Addr)(D:List Str)(b:Bool):Prop :=
 ∃o es ep t,h.get? a=some o∧o.ExactSet∧o.data = .set es ep t∧yrl (yvd prog w) es.toList∧(es.toList.map λe=>strOf e.2).Perm D∧es.size<ymg∧t.fits es.size=true∧t.led=b∧(es.size=0∨t.plain=false)
section
variable {prog:yzb}{w:World}{A:Around}{E:Value->Shared->Prop}{s:Shared}
theorem SS.keep {h h':Heap}{a:Addr}{D:List Str}{b:Bool}(x:SS prog w h a D b)(k:∀o,h.get? a=some o->h'.get? a=some o):SS prog w h' a D b:=by
 obtain⟨o,es,ep,t,ho,r⟩:=x;exact⟨o,es,ep,t,k _ ho,r⟩
theorem zsyb {es:List (Int×Value)}(h:yrl (yvd prog w) es){e:Int×Value}(he:e∈es):∃x t,e.2 = .str x t∧e.1=(yvd prog w).hash x:=by
 obtain⟨⟨k,hk,hh⟩,_⟩:=h e he;obtain⟨t,et⟩:=yll (x:=k) (v:=e.2) hk;exact⟨k,t,et,hh⟩
theorem znp {es:List (Int×Value)}{D:List Str}{x:Str}(hel:yrl (yvd prog w) es)(hp:(es.map λe=>strOf e.2).Perm D) :
  x∈D↔∃e∈es,(yvd prog w).is x e.2=true:=by
 rw[← hp.mem_iff,yfc]
 constructor
 ·rintro⟨e,he,rfl⟩;obtain⟨y,t,e1,_⟩:=zsyb hel he;refine⟨e,he,?_⟩;rw[e1];show yti y (.str y t)=true
  simp[yti]
 ·rintro⟨e,he,hi⟩;obtain⟨t,e1⟩:=yll (x:=x) (v:=e.2) hi;exact⟨e,he,by rw[e1];rfl⟩
theorem zbkb {g:Bool->Sem Unit}(hg:∀(b:Bool) (s₁:Shared) (Q':Unit->Shared->Prop),Q' () s₁->wpAny (model prog w) A (g b) Q' E s₁)
  {a:Addr} {o:Obj} {es:Array (Int×Value)} {ep:Nat} {t:yqe} (ho:s.heap.get? a=some o) (hex:o.ExactSet) (hd:o.data = .set es ep t)
  {fs:Array (Int×Value)} {u:yqe} {D:List Str} {b:Bool} (hel:yrl (yvd prog w) fs.toList) (hp:(fs.toList.map λe=>strOf e.2).Perm D) (hb:fs.size<ymg) (hf:u.fits fs.size=true) (hl:u.led=b) (hpl:u.plain=false)
  {dm:Bool} {R:Option Bool->Shared->Prop} (h:∀h',yae a s.heap h'->SS prog w h' a D b->R (some true) { s with heap:=h' }) :
  wpAny (model prog w) A (do
    storeSet a fs u
    if (!dm&&u.tooFull)=true then do
        g (yfj u fs (ysd fs.size)).2.2
        storeSet a (yfj u fs (ysd fs.size)).1 (yfj u fs (ysd fs.size)).2.1
        pure (some true)
     else pure (some true)) R E s:=by
 have lim:∀{n:Nat},n<ymg->n≤yva:=λz=>ysh z;refine yaa (yik ho hd ?_ (lim hb));have k1:(s.heap.update a (yth fs u)).get? a=some { o with data:=.set fs (ep+1) u }:=by
  have z:=yhd (yth fs u) ho (by rw[ysl fs u hd];rfl);rw[ysl fs u hd] at z;exact z
 have b1:=yxe s.heap a (yth fs u)
 split
 ·have p2:=relayAll_perm u fs (ysd fs.size);have f2:=relayAll_fits u fs (ysd fs.size);obtain⟨l2,q2⟩:=zveb u fs (ysd fs.size);generalize yfj u fs (ysd fs.size)=R2 at p2 f2 l2 q2 ⊢;obtain⟨fs2,u2,gv⟩:=R2;dsimp only at p2 f2 l2 q2 ⊢;have z2:fs2.size=fs.size:=by rw[← ysa,p2.length_eq,ysa]
  refine yaa (hg _ _ _ ?_);refine yaa (yik k1 rfl ?_ (lim (by rw[z2];exact hb)));have k2:((s.heap.update a (yth fs u)).update a (yth fs2 u2)).get? a=some { o with data:=.set fs2 (ep+1+1) u2 }:=by
   have z:=yhd (yth fs2 u2) k1 (by rw[ysl fs2 u2 rfl];rfl);rw[ysl fs2 u2 rfl] at z;exact z
  exact yea (h _ (b1.trans (yxe _ a _)) ⟨_,fs2,_,u2,k2,hex,rfl,ElemsOf.perm hel p2,(p2.map _).trans hp,by rw[z2];exact hb,f2,l2.trans hl,.inr (q2 hpl)⟩)
 ·exact yea (h _ b1 ⟨_,fs,_,u,k1,hex,rfl,hel,hp,hb,hf,hl,.inr hpl⟩)
theorem add_str {a:Addr}{D:List Str}{b:Bool}{x:Str}{tk:Tok}{Q:Bool->Shared->Prop}(hS:SS prog w s.heap a D b)(hroom:D.length+1<ymg)
  (h:∀h' r,yae a s.heap h'->SS prog w h' a (if x∈D then D else D++[x]) b->Q r { s with heap:=h' }) :
  wpAny (model prog w) A (yqp a (.str x tk) ((yvd prog w).hash x)) Q E s:=by
 obtain⟨o,es,ep,t,ho,hex,hd,hel,hp,hb,hf,hl,hpl⟩:=hS;have key:(yvd prog w).is x (.str x tk)=true:=by
  show yti x (.str x tk)=true
  simp[yti]
 have hz:es.size=D.length:=by rw[← hp.length_eq,yca,ysa]
 unfold yqp setAddHashedIn;refine yad (yaa (yed ho hd hf ?_));dsimp only;rw[byScan_of (x:=.str x tk) rfl hb hel];simp only[↓reduceIte];unfold setAddByScan;refine yaa (yaa (yyg (yaa (wpAny_setScan_of key ho hd hf hel ?_))));have mi:=znp (x:=x) hel hp;cases hr:List.findIdx? (λe=>(yvd prog w).is x e.2) es.toList with
 | some j =>
  obtain⟨hj,hpj,_⟩:=yoj.mp hr;have hin:x∈D:=mi.mpr ⟨_,yqo hj,hpj⟩;dsimp only;refine yea (yea ?_);have z:=h s.heap false (yjn a s.heap);rw[if_pos hin] at z;exact z ⟨o,es,ep,t,ho,hex,hd,hel,hp,hb,hf,hl,hpl⟩
 | none =>
  have hno:¬ x∈D:=λhin=>by
   obtain⟨e,he,hi⟩:=mi.mp hin;have z:=yvm.mp hr e he;rw[hi] at z;cases z
  simp only[if_neg hno] at h;dsimp only;have p1:=layNew_perm t es ((yvd prog w).hash x) (.str x tk);have f1:=layNew_fits t es ((yvd prog w).hash x) (.str x tk);have l1:=zjrb t es ((yvd prog w).hash x) (.str x tk);generalize layNew t es ((yvd prog w).hash x) (.str x tk)=L at p1 f1 l1 ⊢;obtain⟨fs,u,dm,gave⟩:=L;dsimp only at p1 f1 l1 ⊢;rw[yjk] at p1;have el1:yrl (yvd prog w) fs.toList:=(hel.push key rfl).perm p1;have pp:(fs.toList.map λe=>strOf e.2).Perm (D++[x]):=by
   refine (p1.map _).trans ?_;rw[ygb];exact yts hp (yok _)
  have z1:fs.size=D.length+1:=by rw[← ysa,p1.length_eq,ypa,ysa,hz];rfl
  have give:∀(c:Bool) (s₁:Shared) (Q':Unit->Shared->Prop),Q' () s₁->wpAny (model prog w) A (match c with|true=>rule "set.scan.the-table-gave-way"|false=>pure ()) Q' E s₁:=λc s₁ Q' q=>by
   cases c
   ·exact yea q
   ·exact yyg q
  refine yaa (give _ _ _ ?_)
  split
  ·refine yaa ?_;rw[yrp 8 (x:=.str x tk) rfl];refine yea ?_;refine zbkb (b:=b) (D:=D++[x]) give ho hex hd el1 pp (by omega) (yqe.fits_plain_off f1) (l1.trans hl) rfl ?_;intro h' sb S';exact yea (h h' _ sb S')
  ·rename_i np;refine yaa (yea ?_);simp only[↓reduceIte];refine zbkb (b:=b) (D:=D++[x]) give ho hex hd el1 pp (by omega) f1 (l1.trans hl) (by simpa using np) ?_;intro h' sb S';exact yea (h h' _ sb S')
def dd (xs:List Str):List Str:=xs.foldl (λD x=>if x∈D then D else D++[x]) []
theorem zqp (xs:List Str)(x:Str):dd (xs++[x])=if x∈dd xs then dd xs else dd xs++[x]:=by
 unfold dd;rw[ykk];rfl
theorem zoib:∀n (xs:List Str),(dd (xs.take n)).length≤n
 | 0,xs=>yga 0
 | n+1,xs=>by
  have ih:=zoib n xs;rw[ydb];cases e:xs[n]? with
  | none =>
   rw[ylr,ypc];omega
  | some x =>
   rw[yub,zqp]
   split
   ·omega
   ·rw[ypa,ycf];omega
theorem zlu {R:Result->Shared->Prop}{I S:Addr}{fp wr:List Addr}{n:Nat}{P:Nat->Value->Prop}{St:Nat->Heap->Prop}{b:Bool}(W:Walks prog w A.in1 I fp wr n P St)(hSf:S∉fp)(xs:List Str)
  (hval:∀i v,P i v->∃x t,xs[i]?=some x∧v = .str x t) (hn:n+1<ymg) :
  ∀(k i:Nat) (s:Shared),n-i=k->i≤n->St i s.heap->SS prog w s.heap S (dd (xs.take i)) b →
   (∀h' tk,SS prog w h' S (dd (xs.take n)) b->(∀c o,c∉S::wr->s.heap.get? c=some o->h'.get? c=some o)->R (.ok (.ret .none)) { s with heap:=h',toks:=tk }) →
   yek (model prog w) A (.builtin "set.update.loop" ⟨[.ref S,.ref I],[]⟩) R s:=by
 have nw:S∉wr:=λz=>hSf (W.sub _ z);intro k
 induction k with
 | zero =>
  intro i s hk hi st hS hR;obtain rfl:i=n:=by omega
  refine yyc yte ?_;rw[ycd yvc _];show wpAny _ A.in1 (pyNext (.ref I) >>= _) _ _ s
  refine yaa (W.done s _ _ st λh' tk keep=>?_);show wpAny _ A.in1 (ret Value.none) _ _ _
  exact yea (hR h' tk (hS.keep λo e=>keep S o nw e) λc o hc e=>keep c o (λz=>hc (yla _ z)) e)
 | succ k ih =>
  intro i s hk hi st hS hR;have hlt:i<n:=by omega
  refine yyc yte ?_;rw[ycd yvc _];show wpAny _ A.in1 (pyNext (.ref I) >>= _) _ _ s
  refine yaa (W.item i s _ _ hlt st λv h1 tk hP st1 keep=>?_);obtain⟨x,t,hx,rfl⟩:=hval i v hP;have hS1:SS prog w h1 S (dd (xs.take i)) b:=hS.keep λo e=>keep S o nw e;show wpAny _ A.in1 (ygp [Value.str x t] (setAdd S (.str x t)) >>= _) _ _ _
  refine yaa (yad ?_);unfold setAdd;refine yad (yaa ((yvd prog w).pyHash (k:=x) (by show yti x (.str x t)=true;simp[yti]) ?_));have hle:=zoib i xs;refine add_str (b:=b) (D:=dd (xs.take i)) (s:={ s with heap:=h1,toks:=tk+1 }) hS1 (by omega) λh2 r sb S2=>?_;have e2:(if x∈dd (xs.take i) then dd (xs.take i) else dd (xs.take i)++[x])=dd (xs.take (i+1)):=by
   rw[ydb,hx,yub,zqp]
  rw[e2] at S2;refine yea ⟨ysf yvc _,ih (i+1) _ (by omega) hlt (W.frame _ h1 _ st1 λc hc o e=>?_) S2 λh3 tk3 S3 keep3=>?_⟩
  ·rw[sb.2 c (λz:c=S=>hSf (by rw[← z];exact hc))];exact e
  ·refine hR h3 tk3 S3 λc o hc e=>keep3 c o hc ?_;show h2.get? c=some o
   rw[sb.2 c (λz:c=S=>hc (by rw[z];exact yma))];exact keep c o (λz=>hc (yla _ z)) e
abbrev empt (w:World):Obj:={ cls:=.type "set",dict:=none,data:=.set #[] 0 (.fresh 0 0 (!w.params.followText "set-order")) }
theorem zxhb (v:Value){Q1:Value->Shared->Prop}(h:Q1 (.ref s.heap.objs.size) { s with heap:=s.heap.push (empt w) }) :
  yek (model prog w) A (.call (.builtin "set.__new__") ⟨[.type "set",v],[]⟩) (wants Q1 E) s:=by
 refine ytl ?_;have sb:=sub_set_self;show wpAny _ A.in1 (checkBuiltinCall "set.__new__" ⟨[.type "set",v],[]⟩ >>= λ_=>again (.builtin "set.__new__" ⟨[.type "set",v],[]⟩)) _ _ s
 refine yaa (wpAny_of_eq (PySem.F.newCall_set_1 v) (yea ⟨ysf ysp _,yyc PySem.F.entry_set_new ?_⟩));rw[ycd ysp _];obtain⟨hp,gn,dr,tk,os⟩:=s;unfold yle.«set.__new__»;unfold yle.Frozenset.newClass;dsimp only
 wp_walk
 refine ynf (yea ?_);dsimp only[newObj];refine yaa (wpAny_alloc (yea (yea ?_)));exact h
theorem zugb:∀{us:List Value} {xs:List Str},yum us xs->∀(i:Nat) (v:Value),us[i]?=some v->∃x t,xs[i]?=some x∧v = .str x t
 | _,_,.nil,i,v,e=>by simp at e
 | _,_,.cons x t r,0,v,e=>by
  rw[yif] at e;cases e;exact⟨x,t,rfl,rfl⟩
 | _,_,.cons x t r,i+1,v,e=>by
  rw[yjc] at e;obtain⟨y,u,h1,h2⟩:=zugb r i v e;exact⟨y,u,by rw[yjc];exact h1,h2⟩
theorem zgsb (h:Heap):SS prog w (h.push (empt w)) h.objs.size [] (!w.params.followText "set-order") :=
 ⟨_,#[],0,_,yfa _ rfl,⟨rfl,rfl,rfl⟩,rfl,λe he=>by simp at he,.nil,by decide,by rfl,rfl,.inl rfl⟩
theorem set_list {l:Addr}{its:Array Value}{xs:List Str}{Q:Value->Shared->Prop}(hh:A.handled=none)(hl:s.heap.IsList l its)(hi:yum its.toList xs)(hb:its.size+1<ymg)
  (h:∀(h':Heap) (tk:Nat),SS prog w h' s.heap.objs.size (dd xs) (!w.params.followText "set-order")->(∀c o,s.heap.get? c=some o->h'.get? c=some o)->Q (.ref s.heap.objs.size) { s with heap:=h',toks:=tk }) :
  wpAny (model prog w) A (call (.type "set") [.ref l]) Q E s:=by
 obtain⟨cM,tM,mro⟩:=ynb.mro;have made:=ynb.made;have subs:=ynb.sub;have notT:=ynb.notType;have canC:=ynb.canCreate;have chk:=yzj (.ref l);refine ykq (ytl ?_);show wpAny _ _ (callAny (.type "set") ⟨[.ref l],[]⟩) _ _ _
 refine yea ⟨ypj _ (by decide +kernel),yyc yqj ?_⟩;rw[ynm (yrk "set" [Value.ref l] []) rfl]
 repeat (any_goals (first|assumption|wp_step))
 refine yzg (zxhb (.ref l) (E:=E) (Q1:=λob s1=>ob = .ref s.heap.objs.size∧s1={ s with heap:=s.heap.push (empt w) }) ⟨rfl,rfl⟩) λr s1 hr=>?_;cases r with
 | error e=>exact hr
 | ok fl =>
  cases fl with
  | ret ob =>
   obtain⟨rfl,rfl⟩:=hr;have g0:(s.heap.push (empt w)).get? s.heap.objs.size=some (empt w):=yfa _ rfl;have ty0:yui { s with heap:=s.heap.push (empt w) } (.ref s.heap.objs.size) "set":=⟨_,g0,rfl⟩;have lk:=ynb.init.lookup;have bd:=ynb.init.bind (.ref s.heap.objs.size)
   repeat (any_goals (first|assumption|wp_step))
   refine yzg (ybl (R:=wants (λr s2=>r = .none∧∃h' tk,s2={ s with heap:=h',toks:=tk }∧SS prog w h' s.heap.objs.size (dd xs) (!w.params.followText "set-order") ∧
     (∀c o,s.heap.get? c=some o->h'.get? c=some o)) E) ynb.init.plain yak (yro ty0 ?_)) λr2 s2 hr2=>?_
   ·obtain⟨ol,e1,e2,nl,e3⟩:=hl;obtain⟨oc,od,oD,osl⟩:=ol;dsimp only at e2 e3;subst e2 e3;have e1':(s.heap.push (empt w)).get? l=some { cls:=.type "list",dict:=od,data:=.seq its nl,slots:=osl }:=yba _ e1;have q1:=PySem.F.sub_list_set;have q2:=PySem.F.sub_list_frozenset;have q3:(Value.type "list" == Value.type "dict")=false:=by decide
    have L1:(s.heap.push (empt w)).IsList l its:=⟨_,e1',rfl,nl,rfl⟩;have lt:l<s.heap.objs.size:=yoa e1;unfold yle.«set.__init__» noKeywords yji;generalize hPI:pyIter=PI
    wp_walk
    subst hPI;refine ydk L1 (yaa (ybj ?_));have ne:l≠(s.heap.push (empt w)).objs.size:=by
     rw[ylc];exact yfb (yne lt)
    have nf:s.heap.objs.size∉[(s.heap.push (empt w)).objs.size,l]:=by
     rw[ylc];intro z
     rcases yja.mp z with z|z
     ·exact absurd z (yfb (ymf _))
     ·exact absurd (yka.mp z) (yze lt)
    have hv:∀(i:Nat) (v:Value),its[i]?=some v->∃x t,xs[i]?=some x∧v = .str x t:=λi v e=>zugb hi i v (by rw[yac];exact e);have hx:xs.take its.size=xs:=yra (by rw[← ysa,hi.length];exact yga _);refine zlu (b:=!w.params.followText "set-order") (Walks.list (by simp[hh]) _ l ne its) nf xs hv hb (its.size-0) 0 _ (by omega) (ywa _) ⟨⟨_,yfa _ rfl,rfl,rfl⟩,L1.push _⟩ ?S0 ?R0
    case S0=>exact (zgsb s.heap).keep λo e=>yba _ e
    case R0 =>
     intro h' tk S' keep;rw[hx] at S';show wpAny _ _ _ _ _ _
     refine yea ?_;show wpAny _ _ (ret Value.none) _ _ _
     refine yea ⟨rfl,h',tk,rfl,S',λc o e=>?_⟩;have clt:=yoa e;refine keep c o ?_ (yba _ (yba _ e));rw[ylc];intro z
     rcases yja.mp z with z|z
     ·exact absurd z (yfb clt)
     ·exact absurd (yka.mp z) (yfb (yne clt))
   ·cases r2 with
    | error e=>exact hr2
    | ok fl2 =>
     cases fl2 with
     | ret r =>
      obtain⟨rfl,h',tk,rfl,S',keep⟩:=hr2
      repeat (any_goals (first|assumption|wp_step))
      exact h _ _ S' keep
     | next=>exact hr2.elim
     | brk=>exact hr2.elim
     | cont=>exact hr2.elim
  | next=>exact hr.elim
  | brk=>exact hr.elim
  | cont=>exact hr.elim
end
end SSet
namespace SSet
open PySem PySem.Spec PyProof.Rows
theorem zov:Slot "set_iterator" "__next__" "set_iterator.__next__":=.of (owner:="set_iterator") (n:="__next__") (by rw[typeLookup_type,ytp];kernel_rfl) (by decide +kernel) (by decide +kernel) (by decide +kernel) (by first|exact .inl (by decide +kernel)|exact .inr (by decide +kernel)) (by rw[ypq];kernel_rfl)
theorem zxbc:entryFor table "set_iterator.__next__" = some yle.«set_iterator.__next__»:=entryFor_of_fast (by kernel_rfl)
theorem zmcc (v:Value):argsOk "set_iterator.__next__" ⟨[v],[]⟩:=by unfold argsOk;kernel_rfl
theorem zfsb:entryFor table "set.__iter__" = some yle.«frozenset.__iter__»:=entryFor_alias (id':="frozenset.__iter__") (by kernel_rfl) rfl (by decide +kernel) (by kernel_rfl)
theorem zppb:Slot "set_iterator" "__iter__" "set_iterator.__iter__":=.of (owner:="set_iterator") (n:="__iter__") (by rw[typeLookup_type,ytp];kernel_rfl) (by decide +kernel) (by decide +kernel) (by decide +kernel) (by first|exact .inl (by decide +kernel)|exact .inr (by decide +kernel)) (by rw[ypq];kernel_rfl)
theorem zwbc:entryFor table "set_iterator.__iter__" = some yle.«dict_keyiterator.__iter__»:=entryFor_alias (id':="dict_keyiterator.__iter__") (by kernel_rfl) rfl (by decide +kernel) (by kernel_rfl)
theorem zlcc (v:Value):argsOk "set_iterator.__iter__" ⟨[v],[]⟩:=by unfold argsOk;kernel_rfl
def zwbb (h:Heap)(it a:Addr)(first:Value)(i n ep:Nat):Prop:=h.get? it=some { cls:=.type "set_iterator",dict:=none,data:=.fields #[first,rawInt i,.ref a,rawInt n,rawInt ep],slots:=#[] }
def SObj (h:Heap)(a:Addr)(es:Array (Int×Value))(ep:Nat)(t:yqe):Prop:=∃o,h.get? a=some o∧o.cls = .type "set" ∧ o.data = .set es ep t∧t.fits es.size=true
theorem SObj.keep {h h':Heap}{a:Addr}{es:Array (Int×Value)}{ep:Nat}{t:yqe}(x:SObj h a es ep t)(k:∀o,h.get? a=some o->h'.get? a=some o):SObj h' a es ep t:=by
 obtain⟨o,ho,r⟩:=x;exact⟨o,k _ ho,r⟩
section
variable {prog:yzb}{w:World}{A:Around}{E:Value->Shared->Prop}{s:Shared}
theorem zwbb.typeIs {it a:Addr}{f:Value}{i n ep:Nat}(h:zwbb s.heap it a f i n ep):s.TypeIs (.ref it) "set_iterator":=⟨_,h,rfl⟩
theorem zwcb {Q:Option Value->Shared->Prop}{F:Fin->Shared->Prop}(hh:A.handled=none)(hQ:∀h',(∀b o,s.heap.get? b=some o->h'.get? b=some o)->Q none { s with heap:=h' }) :
  wpAny (model prog w) A.in1 (newExc (.type "StopIteration") [] >>= λx=>ydt x) F (λe s'=>wpAny (model prog w) A (do
     let b ← yyr e (Value.type "StopIteration")
     if b=true then pure none else throw e) Q E s') s:=by
 refine yaa ?_;simp only[newExc,newTuple];refine yaa (ydd ?_ (by size_fits));refine yaa (m:=ywm _ _) (wpAny_of_eq (a:=Value.none) (by first|rfl|(simp only[ywm];rfl)) (ydd ?_ (by size_fits)));simp only[ydt];refine yaa (wpAny_handled ?_);rw[show A.in1.handled=none from hh];refine yaa (yea (wpAny_throw ?_));refine yaa (ywk (b:=true) (T:="StopIteration") ⟨_,yfa _ rfl,rfl⟩ yqq ?_);exact yea (hQ _ λb o e=>yba _ (yba _ e))
theorem zwab {it a:Addr}{f:Value}{i n ep:Nat}{es:Array (Int×Value)}{t:yqe}{Q:Option Value->Shared->Prop}(hit:zwbb s.heap it a f i n ep)(hs:SObj s.heap a es ep t)(hn:es.size=n)
  (h:wpAny (model prog w) A.in1 (match f with
      | Value.int slot tok=>do
       let r ← yxk a slot.toNat i ep
       match r with
        | some (x,nx)=>do
         ybo (Value.ref it) 0 (rawInt nx)
         ybo (Value.ref it) 1 (rawInt ((i:Int)+1))
         ret x
        | none=>do
         ybo (Value.ref it) 2 Value.none
         let y ← newExc (Value.type "StopIteration") []
         ydt y
      | x=>do
       let r ← yul f
       match r with
        | some places =>
         match places[i]? with
         | some (Value.int place tok)=>do
          let x ← setNextDrawn a place.toNat ep
          ybo (Value.ref it) 1 (rawInt ((i:Int)+1))
          ret x
         | some val=>yco "internal:set_iterator"
         | none=>do
          ybo (Value.ref it) 0 (rawInt 0)
          ybo (Value.ref it) 2 Value.none
          let y ← newExc (Value.type "StopIteration") []
          ydt y
        | x=>yco "internal:set_iterator")
   (λfin s'=>∃v,fin=Fin.done (Flow.ret v)∧wpAny (model prog w) A (pure (some v)) Q E s')
   (λe s'=>wpAny (model prog w) A (do
     let b ← yyr e (Value.type "StopIteration")
     if b=true then pure none else throw e) Q E s') s):wpAny (model prog w) A (pyNext (.ref it)) Q E s:=by
 obtain⟨oS,hoS,hcS,hdS,hf⟩:=id hs;unfold pyNext;refine yaa (yrj (yuc (name:=yuf "__next__") hit.typeIs zov (ync zov hit.typeIs zxbc ?_ (zmcc _))));unfold yle.«set_iterator.__next__»;refine yaa (yea ?_);refine yaa (wpAny_fieldsOf hit rfl ?_);show wpAny _ _ (setEntries a >>= _) _ _ _
 refine yaa (yvl hoS hdS hf ?_);rw[if_neg (by rw[hn];simp[rawInt])];exact h
theorem znnb {it a tp:Addr}{i n ep:Nat}{es:Array (Int×Value)}{t:yqe}{pl:Array Value}{j:Nat}{tk:Tok}{e:Int×Value}{Q:Option Value->Shared->Prop}
  (hit:zwbb s.heap it a (.ref tp) i n ep) (hs:SObj s.heap a es ep t) (hn:es.size=n) (htp:IsTup s.heap tp pl) (hpl:pl[i]?=some (.int j tk)) (he:es[j]?=some e)
  (hQ:∀h',zwbb h' it a (.ref tp) (i+1) n ep->yae it s.heap h'->Q (some e.2) { s with heap:=h' }):wpAny (model prog w) A (pyNext (.ref it)) Q E s:=by
 obtain⟨oS,hoS,hcS,hdS,hf⟩:=id hs;refine zwab hit hs hn ?_;dsimp only;obtain⟨oT,hoT,hcT,nT,hdT⟩:=htp;have sq:∀{Q':Option (Array Value)->Shared->Prop},Q' (some pl) s->wpAny (model prog w) A.in1 (yul (.ref tp)) Q' (λe s'=>wpAny (model prog w) A (do
     let b ← yyr e (Value.type "StopIteration")
     if b=true then pure none else throw e) Q E s') s:=λq=>by
  unfold yul;refine yaa (ydn hoT ?_);rw[hdT];exact yea q
 refine yaa (sq ?_);dsimp only;rw[hpl];dsimp only;rw[yeb];unfold setNextDrawn;refine yaa (yaa (yed hoS hdS hf ?_));dsimp only;rw[if_neg (by simp),he];refine yea ?_;refine yaa (ycc hit (by simp) λh' g sb=>?_);refine yea ⟨_,rfl,yea (hQ h' ?_ sb)⟩;exact g
theorem zesb {it a tp:Addr}{i n ep:Nat}{es:Array (Int×Value)}{t:yqe}{pl:Array Value}{Q:Option Value->Shared->Prop}(hh:A.handled=none)
  (hit:zwbb s.heap it a (.ref tp) i n ep) (hs:SObj s.heap a es ep t) (hn:es.size=n) (htp:IsTup s.heap tp pl) (hpl:pl[i]?=none)
  (hQ:∀h',(∀b o,b≠it->s.heap.get? b=some o->h'.get? b=some o)->Q none { s with heap:=h' }):wpAny (model prog w) A (pyNext (.ref it)) Q E s:=by
 refine zwab hit hs hn ?_;dsimp only;obtain⟨oT,hoT,hcT,nT,hdT⟩:=htp;have sq:∀{Q':Option (Array Value)->Shared->Prop},Q' (some pl) s->wpAny (model prog w) A.in1 (yul (.ref tp)) Q' (λe s'=>wpAny (model prog w) A (do
     let b ← yyr e (Value.type "StopIteration")
     if b=true then pure none else throw e) Q E s') s:=λq=>by
  unfold yul;refine yaa (ydn hoT ?_);rw[hdT];exact yea q
 refine yaa (sq ?_);dsimp only;rw[hpl];dsimp only;refine yaa (ycc hit (by simp) λh1 g1 sb1=>?_);refine yaa (ycc g1 (by simp) λh2 g2 sb2=>?_);refine zwcb hh λh' k=>hQ h' λb o nb e=>k b o ?_;show h2.get? b=some o
 rw[sb2.2 b nb,sb1.2 b nb];exact e
end
end SSet
namespace SSet
open PySem PySem.Spec PyProof.Rows
theorem pull {α:Type}:∀{l:List α} {i:Nat} (h:i<l.length),(l[i]::l.eraseIdx i).Perm l
 | [],i,h=>by simp at h
 | x::r,0,h=>yok _
 | x::r,i+1,h=>by
  have ih:=pull (l:=r) (i:=i) (by simpa using h);exact (ysj.swap x _ _).trans (ysj.cons x ih)
theorem zlqb {α:Type}(nx:Nat->Nat):∀(k j:Nat) (left:List α) (out:Array α),left.length=k->(yxt nx k j left out).toList.Perm (out.toList++left)
 | 0,j,left,out,h=>by
  have e:left=[]:=ytj.mp h;subst e;rw[ypc];exact yok _
 | k+1,j,left,out,h=>by
  have hlt:nx j % left.length<left.length:=yln _ (by omega);unfold yxt;rw[ybb hlt];dsimp only;refine (zlqb nx k (j+1) _ _ (by rw[yjm hlt];omega)).trans ?_;rw[yjk,ywb];exact ydf _ (pull hlt)
theorem zxdb {α:Type}(nx:Nat->Nat)(xs:Array α):(yuh nx xs).toList.Perm xs.toList:=by
 have q:=zlqb nx xs.size 0 xs.toList #[] (by simp);unfold yuh
 simpa using q
section
variable {prog:yzb}{w:World}{A:Around}{E:Value->Shared->Prop}{s:Shared}
theorem zynb {src:Source}{n:Nat}{Q:Nat->Shared->Prop}(hn:n≠0)(h:∀i d,i<n->Q i { s with drawn:=d }):wpAny (model prog w) A (choose src n) Q E s:=fun Γ p hΓ=>by
 unfold choose;show Sem.wp _ _ (.choose src n .pure) _ _ _ _
 rw[Sem.wp_choose];exact⟨hn,h _ _ (yln _ (by omega))⟩
theorem zjbb {α:Type}:∀(n:Nat) (xs:List α) (s:Shared) (Q:List α->Shared->Prop),xs.length=n->(∀ys d,ys.Perm xs->Q ys { s with drawn:=d })->wpAny (model prog w) A (drawOrder n xs) Q E s
 | 0,xs,s,Q,hl,h=>by
  have e:xs=[]:=ytj.mp hl;subst e;exact yea (h [] s.drawn (yok _))
 | n+1,[],s,Q,hl,h=>by cases hl
 | n+1,x::r,s,Q,hl,h=>by
  unfold drawOrder;refine yaa (zynb (by simp) λi d hi=>?_);rw[ybb hi];dsimp only;refine yaa (zjbb n _ _ _ (by rw[yjm hi];omega) λys d2 hp=>?_);exact yea (h _ d2 ((ysj.cons _ hp).trans (pull hi)))
theorem zzeb {it a:Addr}{f:Value}{i n ep:Nat}{Q:Value->Shared->Prop}(hit:zwbb s.heap it a f i n ep)(h:Q (.ref it) s):wpAny (model prog w) A (pyIter (.ref it)) Q E s:=by
 refine ymn hit.typeIs zppb (ync zppb hit.typeIs zwbc ?_ (zlcc _));show wpAny _ _ (ret (Value.ref it)) _ _ s
 exact yea ⟨_,rfl,"set_iterator",_,hit.typeIs,zov.lookup,h⟩
theorem zfv (hh:A.handled=none){it a tp:Addr}(h1:a≠it)(h2:tp≠it)(es:Array (Int×Value))(ep:Nat)(t:yqe)(js:List Nat)(hl:js.length=es.size)(hj:∀j∈js,j<es.size) :
  Walks prog w A it [it,a,tp] [it] es.size (λi v=>∃j e,js[i]?=some j∧es[j]?=some e∧v=e.2) (λi h=>zwbb h it a (.ref tp) i es.size ep∧SObj h a es ep t∧IsTup h tp (js.map λ(j:Nat)=>rawInt j).toArray) where
 sub:=λb hb=>by
  have e:b=it:=by simpa using hb
  rw[e];exact yma
 frame:=λi h h' st k=>⟨k it (by simp) _ st.1,st.2.1.keep λo e=>k a (by simp) o e,let ⟨o,e,r⟩:=st.2.2;⟨o,k tp (by simp) o e,r⟩⟩
 item:=λi s Q E hi st hQ=>by
  have hi':i<js.length:=by omega
  have ej:js[i]?=some js[i]:=ybb hi';have hlt:js[i]<es.size:=hj _ (yqo hi');have ee:es[js[i]]?=some es[js[i]]:=ykb hlt;refine znnb (j:=js[i]) (tk:=0) (e:=es[js[i]]) st.1 st.2.1 rfl st.2.2 ?_ ee λh' g sb=>?_
  ·rw[yup,yia,ej];rfl
  ·exact hQ _ h' s.toks ⟨_,_,ej,ee,rfl⟩ ⟨g,st.2.1.keep λo e=>(sb.2 a h1).trans e,let ⟨o,e,r⟩:=st.2.2;⟨o,(sb.2 tp h2).trans e,r⟩⟩ λb o hb e=>(sb.2 b λz=>hb (by rw[z];exact yma)).trans e
 done:=λs Q E st hQ=>by
  refine zesb hh st.1 st.2.1 rfl st.2.2 ?_ λh' k=>hQ h' s.toks λb o hb e=>k b o (λz=>hb (by rw[z];exact yma)) e;rw[yup,yia,ymi (by omega)];rfl
 self:=λi s Q E st h=>zzeb st.1 h
theorem zeq (hh:A.handled=none){it a:Addr}(h1:a≠it)(es:Array (Int×Value))(ep:Nat)(t:yqe)(ord:List Value)(R:Nat->Nat->Prop)
  (hs:∀(A:Around) (E:Value->Shared->Prop) (i slot:Nat) (s:Shared) (Q:Option (Value×Nat)->Shared->Prop),i<es.size->R slot i->SObj s.heap a es ep t->(∀x nx,ord[i]?=some x->R nx (i+1)->Q (some (x,nx)) s)->wpAny (model prog w) A (yxk a slot i ep) Q E s)
  (he:∀(A:Around) (E:Value->Shared->Prop) (slot:Nat) (s:Shared) (Q:Option (Value×Nat)->Shared->Prop),R slot es.size->SObj s.heap a es ep t->Q none s->wpAny (model prog w) A (yxk a slot es.size ep) Q E s) :
  Walks prog w A it [it,a] [it] es.size (λi v=>ord[i]?=some v) (λi h=>(∃slot:Nat,zwbb h it a (rawInt slot) i es.size ep∧R slot i)∧SObj h a es ep t) where
 sub:=λb hb=>by
  have e:b=it:=by simpa using hb
  rw[e];exact yma
 frame:=λi h h' ⟨⟨slot,g,r⟩,so⟩ k=>⟨⟨slot,k it (by simp) _ g,r⟩,so.keep λo e=>k a (by simp) o e⟩
 item:=λi s Q E hi st hQ=>by
  obtain⟨⟨slot,g,r⟩,so⟩:=st;refine zwab g so rfl ?_;show wpAny _ _ (yxk a ((slot:Int).toNat) i ep >>= _) _ _ _
  rw[yeb];refine yaa (hs _ _ i slot s _ hi r so λx nx hx r'=>?_);dsimp only;refine yaa (ycc g (by simp) λh2 g2 sb2=>?_);refine yaa (ycc g2 (by simp) λh3 g3 sb3=>?_);have sb:∀b,b≠it->h3.get? b=s.heap.get? b:=λb nb=>(sb3.2 b nb).trans (sb2.2 b nb);refine yea ⟨_,rfl,yea (hQ _ h3 s.toks hx ⟨⟨nx,g3,r'⟩,so.keep λo e=>(sb a h1).trans e⟩ λb o hb e=>(sb b λz=>hb (by rw[z];exact yma)).trans e)⟩
 done:=λs Q E st hQ=>by
  obtain⟨⟨slot,g,r⟩,so⟩:=st;refine zwab g so rfl ?_;show wpAny _ _ (yxk a ((slot:Int).toNat) es.size ep >>= _) _ _ _
  rw[yeb];refine yaa (he _ _ slot s _ r so ?_);dsimp only;refine yaa (ycc g (by simp) λh2 g2 sb2=>?_);refine zwcb hh λh' k=>hQ h' s.toks λb o hb e=>k b o ?_;exact (sb2.2 b λz=>hb (by rw[z];exact yma)).trans e
 self:=λi s Q E ⟨⟨slot,g,_⟩,_⟩ h=>zzeb g h
end
end SSet
namespace SSet
open PySem PySem.Spec PyProof.Rows
theorem zxk {α:Type}{vs ord:List α}(hl:vs.length=ord.length)(h:∀(i:Nat) v,vs[i]?=some v->ord[i]?=some v):vs=ord:=by
 refine yzr λi=>?_
 by_cases hi:i<vs.length
 ·rw[ybb hi];exact (h i _ (ybb hi)).symm
 ·rw[ymi (by omega),ymi (by omega)]
section
variable {prog:yzb}{w:World}{A:Around}{E:Value->Shared->Prop}{s:Shared}
theorem zxl {es:List (Int×Value)}{D:List Str}{vs:List Value}(hel:yrl (yvd prog w) es)(hp:(es.map λe=>strOf e.2).Perm D)(hv:vs.Perm (es.map (·.2))):∃ys,yum vs ys∧ys.Perm D:=by
 refine⟨vs.map strOf,strsAre_map vs λv hm=>?_,?_⟩
 ·obtain⟨e,he,rfl⟩:=yfc.mp (hv.mem_iff.mp hm);obtain⟨x,t,e1,_⟩:=zsyb hel he;exact⟨x,t,e1⟩
 ·refine (hv.map strOf).trans ?_;rw[yee];exact hp
theorem znz {es:Array (Int×Value)}{js:List Nat}(hj:js.Perm (yxb es.size)){vs:List Value}(hl:vs.length=es.size)(h:∀(i:Nat) v,vs[i]?=some v->∃j e,js[i]?=some j∧es[j]?=some e∧v=e.2):vs.Perm (es.toList.map (·.2)):=by
 have ev:vs=js.map λj=>(es.toList.getD j (0,.none)).2:=by
  refine zxk (by rw[yca,hj.length_eq,ybc,hl]) λi v hv=>?_;obtain⟨j,e,h1,h2,rfl⟩:=h i v hv;rw[yia,h1];show some (es.toList.getD j (0,.none)).2=some e.2
  rw[yua,yac,h2];rfl
 rw[ev];refine (hj.map _).trans (ysj.of_eq ?_);refine zxk (by simp) λi v hv=>?_;rw[yia] at hv
 by_cases hi:i<es.size
 ·rw[yng hi] at hv;have hv':(es.toList.getD i (0,.none)).2=v:=yoc hv;rw[yia,← hv',yua,ybb (by simpa using hi)];rfl
 ·rw[ymi (by simp;omega)] at hv;cases hv
theorem zewb {a:Addr}{D:List Str}{Q:Value->Shared->Prop}(hh:A.handled=none)(hS:SS prog w s.heap a D (!w.params.followText "set-order"))
  (h:∀(h':Heap) (d':Drawn) (I:Addr) (n:Nat) (fp:List Addr) (P:Nat->Value->Prop) (St:Nat->Heap->Prop),(∀b o,s.heap.get? b=some o->h'.get? b=some o)->s.heap.objs.size≤I->(∀b∈fp,b=a∨s.heap.objs.size≤b) →
   Walks prog w A I fp [I] n P St->St 0 h'->n=D.length->(∀vs:List Value,vs.length=n->(∀(i:Nat) v,vs[i]?=some v->P i v)->∃ys,yum vs ys∧ys.Perm D)->Q (.ref I) { s with heap:=h',drawn:=d' }) :
  wpAny (model prog w) A (pyIter (.ref a)) Q E s:=by
 obtain⟨o,es,ep,t,ho,hex,hd,hel,hp,hb,hf,hl,hpl⟩:=hS;have hT:s.TypeIs (.ref a) "set":=⟨o,ho,hex.1⟩;have so:SObj s.heap a es ep t:=⟨o,ho,hex.1,hd,hf⟩;have hz:es.size=D.length:=by rw[← hp.length_eq,yca,ysa]
 have alt:a<s.heap.objs.size:=yoa ho;refine ymn hT yni (ync yni hT zfsb ?_ (ydo _));unfold yle.«frozenset.__iter__»;refine yaa (m:=yeo "__iter__" _) (yea ?_);refine yaa (m:=ynn a) (yaa (yvl ho hd hf (yea ?_)));refine yaa (m:=setDrawn a) (yaa (yed ho hd hf (yaa (m:=yvi) (yaa (ynf (yea (yea ?_)))))));dsimp only;have jp:∀{first:Value} {h1:Heap} {d1:Drawn},SObj h1 a es ep t->Q (.ref h1.objs.size) { s with heap:=h1.push { cls:=.type "set_iterator",dict:=none,data:=.fields #[first,rawInt (0:Nat),.ref a,rawInt es.size,rawInt ep],slots:=#[] },drawn:=d1 } →
   wpAny (model prog w) A.in1 (do
    let e ← setEpoch a
    let v ← ykt "set_iterator" [first,rawInt 0,Value.ref a,rawInt es.size,rawInt e]
    ret v) (λfin s'=>∃v,fin=Fin.done (Flow.ret v)∧∃T' r,s'.TypeIs v T'∧typeLookup (Value.type T') (yuf "__next__")=pure (some r)∧Q v s') E { s with heap:=h1,drawn:=d1 }:=by
  intro first h1 d1 ⟨o1,e1,e2,e3,e4⟩ q
  refine yaa (m:=setEpoch a) (yaa (yed e1 e3 e4 (yea ?_)));refine yaa (m:=ykt _ _) (ydd (yea ⟨_,rfl,"set_iterator",_,⟨_,yfa _ rfl,rfl⟩,zov.lookup,?_⟩));exact q
 split
 ·rename_i hc;have hc':(!w.params.followText "set-order" && (!t.plain&&decide (es.size>1)))=true:=hc;refine yaa (zjbb es.size (yxb es.size) s _ (by simp) λjs d1 pj=>?_);refine yaa (ypk ?_ (by rw[yca,pj.length_eq,ybc];exact ysh hb));have jl:js.length=es.size:=by rw[pj.length_eq,ybc]
  have jm:∀j∈js,j<es.size:=λj hj=>ych.mp (pj.mem_iff.mp hj);refine jp (so.keep λo e=>yba _ e) ?_;have sz:(s.heap.push { cls:=.type "tuple",data:=.seq (js.map λ(j:Nat)=>rawInt j).toArray }).objs.size=s.heap.objs.size+1:=ylc _ _;refine h _ d1 _ es.size _ _ _ (λb o e=>yba _ (yba _ e)) (by rw[sz];exact ype _) ?_ (zfv (a:=a) (tp:=s.heap.objs.size) hh ?_ ?_ es ep t js jl jm) ⟨?_,?_,?_⟩ hz λvs hv hP=>zxl hel hp (znz pj hv hP)
  ·intro b hb';rw[sz] at hb'
   rcases yja.mp hb' with z|z
   ·exact .inr (by rw[z];exact ype _)
   ·rcases yja.mp z with z|z
    ·exact .inl z
    ·exact .inr (by rw[yka.mp z];exact yga _)
  ·rw[sz];exact yfb (yne alt)
  ·rw[sz];exact yfb (ymf _)
  ·exact yfa _ rfl
  ·exact so.keep λo e=>yba _ (yba _ e)
  ·exact⟨_,yba _ (yfa _ rfl),rfl,_,rfl⟩
 ·rename_i hc;have hc':¬ (!w.params.followText "set-order" && (!t.plain&&decide (es.size>1)))=true:=hc;refine yaa (yea (jp (h1:=s.heap) (d1:=s.drawn) so ?_));have fpk:∀b∈[s.heap.objs.size,a],b=a∨s.heap.objs.size≤b:=λb hb'=>by
   rcases yja.mp hb' with z|z
   ·exact .inr (by rw[z];exact yga _)
   ·exact .inl (yka.mp z)
  have ne:a≠s.heap.objs.size:=yfb alt;cases ft:w.params.followText "set-order" with
  | true =>
   have bt:∀{A':Around} {E':Value->Shared->Prop} {s':Shared} {Q':Bool->Shared->Prop},Q' true s'->wpAny (model prog w) A' yvi Q' E' s':=λ{A' E' s' Q'} q=>by
    unfold yvi;refine yaa (ynf (yea ?_));show Q' (w.params.followText "set-order") s'
    rw[ft];exact q
   have stp:∀(A:Around) (E:Value->Shared->Prop) (i slot:Nat) (s:Shared) (Q:Option (Value×Nat)->Shared->Prop),SObj s.heap a es ep t->Q (((yuh (w.params.setOrder a ep) es)[i]?).map λe=>(e.2,slot)) s->wpAny (model prog w) A (yxk a slot i ep) Q E s:=by
    intro A E i slot s Q ⟨o1,e1,e2,e3,e4⟩ q;unfold yxk;refine yaa (yed e1 e3 e4 ?_);dsimp only;refine yaa (bt ?_);rw[if_pos rfl,if_neg (by simp)];unfold setWalk;refine yaa (yaa (yed e1 e3 e4 (yaa (bt ?_))));rw[if_pos rfl];exact yaa (ynf (yea (yea q)))
   have po:=zxdb (w.params.setOrder a ep) es;have pz:(yuh (w.params.setOrder a ep) es).size=es.size:=(by rw[← ysa,po.length_eq,ysa]);refine h _ s.drawn _ es.size _ _ _ (λb o e=>yba _ e) (yga _) fpk (zeq (a:=a) hh ne es ep t ((yuh (w.params.setOrder a ep) es).toList.map (·.2)) (λslot _=>slot=0) ?_ ?_) ⟨⟨0,yfa _ rfl,rfl⟩,so.keep λo e=>yba _ e⟩ hz λvs hv hP=>?_
   ·intro A E i slot s Q hi r so' q;have e1:(yuh (w.params.setOrder a ep) es)[i]?=some (yuh (w.params.setOrder a ep) es)[i]:=ykb (by omega);refine stp A E i slot s Q so' ?_;rw[e1];exact q _ _ (by rw[yia,yac,e1];rfl) r
   ·intro A E slot s Q r so' q;refine stp A E _ slot s Q so' ?_;rw[ypg (by omega)];exact q
   ·refine zxl hel hp ?_;have e1:vs=(yuh (w.params.setOrder a ep) es).toList.map (·.2):=zxk (by rw[hv,yca,ysa,pz]) hP;rw[e1];exact po.map _
  | false =>
   rw[ft] at hc' hl;have sm:es.size≤1:=by
    rcases hpl with z|z
    ·omega
    ·rw[z] at hc';simp at hc';exact hc'
   have bt:∀{A':Around} {E':Value->Shared->Prop} {s':Shared} {Q':Bool->Shared->Prop},Q' false s'->wpAny (model prog w) A' yvi Q' E' s':=λ{A' E' s' Q'} q=>by
    unfold yvi;refine yaa (ynf (yea ?_));show Q' (w.params.followText "set-order") s'
    rw[ft];exact q
   have stp:∀(A:Around) (E:Value->Shared->Prop) (i slot:Nat) (s:Shared) (Q:Option (Value×Nat)->Shared->Prop),SObj s.heap a es ep t->Q (match es[yic t.place slot]?,t.place[yic t.place slot]? with|some (_,x),some j=>some (x,j+1)|_,_=>none) s->wpAny (model prog w) A (yxk a slot i ep) Q E s:=by
    intro A E i slot s Q ⟨o1,e1,e2,e3,e4⟩ q;unfold yxk;refine yaa (yed e1 e3 e4 ?_);dsimp only;refine yaa (bt ?_);rw[if_neg (by simp)];have nd:¬ (!t.plain&&decide (es.size>1))=true:=by
     rw[decide_eq_false (by omega),ytm];exact ymb
    refine ywf (λz=>absurd z nd) (λ_=>?_);have nl:¬ (!t.led && !es.isEmpty)=true:=by
     rw[hl];simp
    refine yaa (ywf (λz=>absurd z nl) (λ_=>yea ?_));exact yea q
   have ps:t.place.size=es.size:=by
    have z:=hf;unfold yvt at z;simp at z;exact z.1
   refine h _ s.drawn _ es.size _ _ _ (λb o e=>yba _ e) (yga _) fpk (zeq (a:=a) hh ne es ep t (es.toList.map (·.2)) (λslot i=>(i=0∧slot=0)∨(i=1∧∃j,t.place=#[j]∧slot=j+1)) ?_ ?_) ⟨⟨0,yfa _ rfl,.inl ⟨rfl,rfl⟩⟩,so.keep λo e=>yba _ e⟩ hz λvs hv hP=>?_
   ·intro A E i slot s Q hi r so' q;have i0:i=0:=(by omega);subst i0;have s0:slot=0:=by
     rcases r with⟨_,z⟩|⟨z,_⟩
     ·exact z
     ·cases z
    subst s0;obtain⟨j,ej⟩:∃j,t.place=#[j]:=by
     rcases Array.size_eq_one_iff.mp (show t.place.size=1 by omega) with⟨j,z⟩
     exact⟨j,z⟩
    have e1:es[0]?=some es[0]:=ykb hi;refine stp A E 0 0 s Q so' ?_;have bl:yic t.place 0=0:=by
     rw[ej];simp[yic,yig]
    rw[bl,e1,ej];exact q _ _ (by rw[yia,yac,e1];rfl) (.inr ⟨rfl,j,ej,rfl⟩)
   ·intro A E slot s Q r so' q;refine stp A E _ slot s Q so' ?_;have en:es[yic t.place slot]?=none:=by
     rcases r with⟨z,y⟩|⟨z,j,ej,y⟩
     ·exact ypg (by omega)
     ·have bl:yic t.place slot=1:=by
       rw[ej,y];simp[yic,yig]
      rw[bl];exact ypg (by omega)
    rw[en];exact q
   ·refine zxl hel hp ?_;have e1:vs=es.toList.map (·.2):=zxk (by rw[hv,yca,ysa]) hP;rw[e1]
end
end SSet
namespace SSet
open PySem PySem.Spec PyProof.Rows PySem.W
section
variable {prog:yzb}{w:World}{A:Around}{E:Value->Shared->Prop}{s:Shared}
theorem zrlb {r:Addr}{Q:Bool->Shared->Prop}(ty:s.TypeIs (.ref r) "set")(q:Q false s):wpAny (model prog w) A (ywl (.ref r)) Q E s:=by
 unfold ywl;refine yaa (wpAny_specialOf ty PySem.F.slot_set_len.lookup ?_);generalize hx:("set.__len__":String)=nm
 wp_delta
 rw[show splitId nm=some ("set","__len__") from by subst hx;decide +kernel];subst hx;refine yaa (ywk (b:=true) (T:="set") ty (by rw[ypq];kernel_rfl) ?_);refine ywf (λz=>absurd z (by decide)) (λ_=>?_);refine ywf (λ_=>?_) (λz=>absurd (by decide +kernel) z);exact yaa (ykj ty (yea q))
theorem zrib {a:Addr}{D:List Str}{R:List Value->Shared->Prop}(hh:A.handled=none)(hS:SS prog w s.heap a D (!w.params.followText "set-order"))
  (h:∀(h':Heap) (d':Drawn) (tk:Nat) (vs:List Value) (ys:List Str),(∀b o,s.heap.get? b=some o->h'.get? b=some o)->s.heap.objs.size<h'.objs.size->yum vs ys->ys.Perm D->R vs { s with heap:=h',drawn:=d',toks:=tk }) :
  wpAny (model prog w) A (ylt (.ref a)) R E s:=by
 obtain⟨oA,hoA⟩:∃o,s.heap.get? a=some o:=let ⟨o,_,_,_,e,_⟩:=hS;⟨o,e⟩;have alt:a<s.heap.objs.size:=yoa hoA;have dz:D.length≤yva:=by
  obtain⟨o,es,ep,t,_,_,_,_,hp,hb,_⟩:=hS;rw[← hp.length_eq,yca,ysa];exact ysh hb
 have nSa:s.heap.objs.size≠a:=yze alt;unfold ylt;refine yaa (ybj (yyc ycl ?_));rw[ycd yxl _];show wpAny _ A.in1 (newList [] >>= λl=>again (.builtin "list.__iadd__" ⟨[l,.ref a],[]⟩)) _ _ s
 refine yaa (ydd (yea ⟨ysf ybi _,yyc yso ?_⟩));rw[ycd ybi _];show wpAny _ A.in1 (yfe (.ref s.heap.objs.size) (.ref a) (.ref s.heap.objs.size)) _ _ _
 unfold yfe;have S1:SS prog w (s.heap.push { cls:=.type "list",data:=.seq ([]:List Value).toArray }) a D (!w.params.followText "set-order"):=hS.keep λo e=>yba _ e;have g1:(s.heap.push { cls:=.type "list",data:=.seq ([]:List Value).toArray }).get? s.heap.objs.size=some { cls:=.type "list",dict:=none,data:=.seq #[] 0,slots:=#[] }:=yfa _ rfl;have k1:∀b o,s.heap.get? b=some o->(s.heap.push { cls:=.type "list",data:=.seq ([]:List Value).toArray }).get? b=some o:=λb o e=>yba _ e;generalize s.heap.push { cls:=.type "list",data:=.seq ([]:List Value).toArray }=h1 at S1 g1 k1 ⊢;have ty1:yui { s with heap:=h1 } (.ref a) "set":=by
  obtain⟨o,es,ep,t,ho,hex,_⟩:=S1;exact⟨o,ho,hex.1⟩
 refine yaa (ykj (T:="set") ty1 ?_);have ns:yvh (.ref s.heap.objs.size) (.ref a)=false:=by simp[yvh,nSa]
 simp only[ns,show (Value.type "set" == Value.type "list")=false by decide,show (Value.type "set" == Value.type "tuple")=false by decide,yfl,yah,if_false];refine yaa (zewb (s:={ s with heap:=h1 }) (A:=A.in1) hh S1 λh2 d2 I n fp P St k2 hI hfp W st hn hv=>?_);have ty2:yui { s with heap:=h2,drawn:=d2 } (.ref a) "set":=by
  obtain⟨o,e,c⟩:=ty1;exact⟨o,k2 _ _ e,c⟩
 have slt:s.heap.objs.size<h1.objs.size:=yoa g1;have nf:s.heap.objs.size∉fp:=λz=>by
  rcases hfp _ z with z|z
  ·exact nSa z
  ·exact absurd (yab slt z) (yje _)
 have key:∀(R':Result->Shared->Prop) (h3:Heap) (c:Nat),St 0 h3->(∀b o,b≠s.heap.objs.size->h2.get? b=some o->h3.get? b=some o)->h3.get? s.heap.objs.size=some { cls:=.type "list",dict:=none,data:=.seq #[] c,slots:=#[] } →
   (∀(h4:Heap) (tk:Nat) (vs:List Value) (ys:List Str) (c':Nat),(∀b o,s.heap.get? b=some o->h4.get? b=some o)->yum vs ys->ys.Perm D->h4.get? s.heap.objs.size=some { cls:=.type "list",dict:=none,data:=.seq vs.toArray c',slots:=#[] }->R' (.ok (.ret (.ref s.heap.objs.size))) { s with heap:=h4,drawn:=d2,toks:=tk }) →
   yek (model prog w) A (.builtin "list.extend.loop" ⟨[.ref s.heap.objs.size,.ref I,.ref s.heap.objs.size],[]⟩) R' { s with heap:=h3,drawn:=d2 }:=by
  intro R' h3 c st3 k3 g3 hR;refine codeAny_extend_loopS W.toS (by omega) s.heap.objs.size nf _ n 0 _ #[] c rfl (ywa _) st3 g3 (ItemsOf.nil _) λs' acc c' mv g' ia=>?_;rw[Moved.eq_with mv];obtain⟨ys,sy,py⟩:=hv acc.toList (by rw[ysa];exact ia.1) λi v e=>ia.2 i v (by rw[← yac];exact e);refine hR s'.heap s'.toks acc.toList ys c' (λb o e=>?_) sy py (by rw[ylf];exact g');have nb:b≠s.heap.objs.size:=yfb (yoa e);refine mv.heap b o (λz=>?_) (k3 b o nb (k2 b o (k1 b o e)))
  rcases yja.mp z with z|z
  ·exact nb z
  ·have bi:b=I:=yka.mp z;have:=yoa (k1 b o e);rw[bi] at this;exact absurd (yab this hI) (yje _)
 have g2:=k2 _ _ g1;have fin:∀(h4:Heap) (tk:Nat) (vs:List Value) (ys:List Str) (c':Nat),(∀b o,s.heap.get? b=some o->h4.get? b=some o)->yum vs ys->ys.Perm D->h4.get? s.heap.objs.size=some { cls:=.type "list",dict:=none,data:=.seq vs.toArray c',slots:=#[] } →
   wpAny (model prog w) A (load s.heap.objs.size >>= λo=>match o.data with
    | .seq xs _=>pure xs.toList
    | _=>yco "internal:collect") R E { s with heap:=h4,drawn:=d2,toks:=tk }:=λh4 tk vs ys c' k4 sy py g4=>by
  refine yaa (ydn g4 ?_);show wpAny _ _ (pure vs.toArray.toList) _ _ _
  exact yea (h h4 d2 tk vs ys k4 (yoa g4) sy py)
 refine yaa (yad (zrlb ty2 ?_));refine ywf (λ_=>?_) (λ_=>yea ⟨ysf ygh _,key _ h2 0 st (λb o _ e=>e) g2 fin⟩);refine yaa (yyg (yaa ?_));show wpAny _ _ (ymt s.heap.objs.size (·.push .none) >>= λ_=>ymt s.heap.objs.size (·.pop)) _ _ _
 refine yaa (yuj g2 rfl ?_);have g3:=yhd (yzd (·.push Value.none)) g2 rfl;refine yuj (hz:=by seq_fits) g3 rfl ?_;have g4:=yhd (yzd (·.pop)) g3 rfl;refine yea ⟨ysf ygh _,key _ _ _ ?_ (λb o nb e=>?_) g4 fin⟩
 ·refine W.frame 0 _ _ st λb hb o e=>?_;have nb:s.heap.objs.size≠b:=λz=>nf (z▸hb);exact (ybd _ _ nb).trans ((ybd _ _ nb).trans e)
 ·exact (ybd _ _ (ysc nb)).trans ((ybd _ _ (ysc nb)).trans e)
theorem zrmb {a:Addr}{D:List Str}{Q:Value->Shared->Prop}(hh:A.handled=none)(hS:SS prog w s.heap a D (!w.params.followText "set-order"))(h64:D.length<64)
  (h:∀(h':Heap) (d':Drawn) (tk:Nat) (p:Addr) (vs:List Value) (ys:List Str) (n:Nat),(∀b o,s.heap.get? b=some o->h'.get? b=some o)->s.heap.objs.size≤p->h'.get? p=some { cls:=.type "list",data:=.seq vs.toArray n }->yum vs ys->ys.Perm D->yxm ys=true →
   Q (.ref p) { s with heap:=h',drawn:=d',toks:=tk }):wpAny (model prog w) A (call (.builtin "sorted") [.ref a]) Q E s:=by
 refine yhh ywq yvp ywp (yxp _) ?_;unfold yle.«sorted»;refine yaa (m:=yas "sorted" 1 1 _) (yea (yaa (zrib (A:=A.in1) hh hS λh1 d1 tk vs ys k1 lt1 sy py=>?_)));have vl:vs.length<64:=by rw[sy.length,py.length_eq];exact h64
 refine yaa (yvj ?_ (yob (yye vl) (by decide)));have g1:(h1.push (seqObj "list" vs.toArray 0)).get? h1.objs.size=some (seqObj "list" vs.toArray 0):=yfa _ rfl;refine yaa (yad (ync yym ⟨_,g1,rfl⟩ yyl (list_sort_treeK strKind_oneLt g1 sy.keysOf (λv1 v2 rest e=>keyKind_strs (by rw[← e];exact sy)) vl λst' a1 a2=>⟨_,rfl,?_⟩) (yzm _)));obtain⟨zs,z1,z2,z3⟩:=sorted_out_str sy a1 a2;obtain⟨e,he⟩:=sortedHeap_at (vs:=vs) (out:=(arrOf st').map (·.2)) g1;refine yea ⟨_,rfl,h _ d1 tk h1.objs.size ((arrOf st').map (·.2)).toList zs e (λb o q=>?_) (yye lt1) ?_ z1 (z2.trans py) z3⟩
 ·have q1:=k1 b o q;have bl:=yoa q1;rw[sortedHeap_old (yfb bl) (by rw[ybs];exact yne bl)];exact yba _ q1
 ·rw[ylf];exact he
end
end SSet
namespace L2
open PySem PySem.Spec PyProof.Rows
theorem strs_vals':∀{vs:List Value} {ys:List Str},yum vs ys->Vals (ys.map V.str) vs
 | _,_,.nil=>.nil
 | _,_,.cons x t r=>.cons ⟨t,rfl⟩ (strs_vals' r)
def setO (X:Cx)(l:Addr)(D:List Str):HO:=.ext λh=>SSet.SS X.prog X.w h l D (!X.w.params.followText "set-order")
section
variable {X:Cx}
theorem Inv.zeqb {pins:List (Addr×Obj)}{σ:St}{H:Hp}{s:Shared}(I:Inv X pins σ H s)(d:Drawn):Inv X pins σ H { s with drawn:=d } :=
 I.call (h':=s.heap) (g':=s.gens) (d':=d) (t':=s.toks) (ch:=[]) (Un.kept λb o e=>e) I.hok I.bare (λb z=>absurd z (by simp))
theorem zpbb (hc:X.calm=true):zfi X (.type "set") (λxs H Q=>Ex2 λp ys=>xs=[.ref p]∧SqL X.K H p (ys.map V.str)∧ys.length≤1000∧∀l,H l=none->Q (.ref l) (upd H l (setO X l (SSet.dd ys)))):=by
 intro pins s σ H xs us Q I r h;obtain⟨p,ys,rfl,hq,hy,q⟩:=h;obtain⟨u,rfl,ru⟩:=vals1 r;cases ru;obtain⟨its,rv,pl,hz⟩:=I.list hq;have sy:=zfq rv;have il:its.length=ys.length:=sy.length;refine SSet.set_list (xs:=ys) (I.ok.hd hc) pl.isList (by simpa using sy) (by rw[yqa,il];have:ymg=4096:=rfl;omega) λh' tk S k=>?_;have I1:Inv X pins σ (upd H s.heap.objs.size (setO X s.heap.objs.size (SSet.dd ys))) { s with heap:=h',toks:=tk }:=I.laid (t':=tk) (λb o e=>k b o e) (yga _) ⟨S,let ⟨o,_,_,_,e,_⟩:=S;⟨o,e⟩,λh1 h2 x y=>x.keep y⟩;exact⟨.ref s.heap.objs.size,_,I1,rfl,q _ (I.hok.fresh (yga _))⟩
theorem zsn (hc:X.calm=true):zfi X (.builtin "sorted") (λxs H Q=>Ex2 λl D=>xs=[.ref l]∧H l=some (setO X l D)∧D.length<64∧∀p ys,H p=none->ys.Perm D->yxm ys=true->Q (.ref p) (upd H p (.lst (ys.map V.str)))):=by
 intro pins s σ H xs us Q I r h;obtain⟨l,D,rfl,hl,h64,q⟩:=h;obtain⟨u,rfl,ru⟩:=vals1 r;cases ru;obtain⟨S,_,_⟩:=I.hok l _ hl;refine SSet.zrmb (I.ok.hd hc) S h64 λh' d' tk p vs ys n k hp g sy py so=>?_;have I0:=I.zeqb d';have vl:vs.length≤yva:=by
  rw[sy.length,py.length_eq];exact yob (yye h64) (by decide)
 have I1:Inv X pins σ (upd H p (.lst (ys.map V.str))) { s with heap:=h',drawn:=d',toks:=tk }:=I0.laid (t':=tk) (λb o e=>k b o e) hp ⟨by rw[yca,← sy.length];exact vl,vs,n,strs_vals' sy,g⟩;exact⟨.ref p,_,I1,rfl,q p ys (I.hok.fresh hp) py so⟩
end
end L2
namespace L2
open PySem PySem.Spec PyProof.Rows
def TupK (K:yda)(a:Addr)(ss:List Str):Prop:=yoi (λb=>K.lookup b) (.tup (ss.map PyData.str)) (.ref a)=true
section
variable {X:Cx}{a:Addr}{D:List (Str×yxr)}
abbrev TabK (K:yda)(a:Addr)(D:List (Str×yxr)):Prop:=ylk (yoi λb=>K.lookup b) (λb=>K.lookup b) a D=true
end
structure Isi (K:yda)(C:Addr):Prop where
 ha:yjb K (.ref C) "__class__" = some (some (.builtin "object.__class__"))
 hn:yfk K (.builtin "object.__class__") "__get__" = some (some (.builtin "getset_descriptor.__get__"))
 ht:ykp K (.builtin "object.__class__")=some true
 hm:yhr K C (.type "object")=some true
 oStr:yqd K (.ref C) (.type "str")=some false
 oInt:yqd K (.ref C) (.type "int")=some false
 oTup:yqd K (.ref C) (.type "tuple")=some false
 oLst:yqd K (.ref C) (.type "list")=some false
 sO:yqd K (.type "str") (.ref C)=some false
 iO:yqd K (.type "int") (.ref C)=some false
end L2
namespace L2
open PySem PySem.Spec PyProof.Rows
section
variable {X:Cx}
end
end L2
namespace TSort
open PySem PyProof.Rows
abbrev IL:=List Int
section keys
variable (k:Value->IL)
def ka (xs:Array Keyed)(i:Nat):IL:=((xs[i]?).map λp=>k p.1).getD []
def Up (xs:Array Keyed)(n:Nat):Prop:=∀i j,i<j->j<n->ka k xs i<ka k xs j
def Dn (xs:Array Keyed)(n:Nat):Prop:=∀i j,i<j->j<n->ka k xs j<ka k xs i
variable {k}
theorem zdwb {xs ys:Array Keyed}{i j:Nat}(e:xs[i]?=ys[j]?):ka k xs i=ka k ys j:=by
 unfold ka;rw[e]
theorem Up.more {xs:Array Keyed}{n:Nat}(h:Up k xs n)(h1:1≤n)(e:ka k xs (n-1)<ka k xs n):Up k xs (n+1):=by
 intro i j a b
 rcases yyh j n with c|c
 ·exact h i j a c
 ·obtain rfl:j=n:=by omega
  rcases yyh i (j-1) with d|d
  ·exact yfo (h i (j-1) d (by omega)) e
  ·obtain rfl:i=j-1:=by omega
   exact e
theorem Dn.more {xs:Array Keyed}{n:Nat}(h:Dn k xs n)(h1:1≤n)(e:ka k xs n<ka k xs (n-1)):Dn k xs (n+1):=by
 intro i j a b
 rcases yyh j n with c|c
 ·exact h i j a c
 ·obtain rfl:j=n:=by omega
  rcases yyh i (j-1) with d|d
  ·exact yfo e (h i (j-1) d (by omega))
  ·obtain rfl:i=j-1:=by omega
   exact e
theorem Dn.turn {xs:Array Keyed}{n:Nat}(h:Dn k xs n)(hn:n≤xs.size):Up k (mirror xs 0 n ((n-0) / 2)) n:=by
 intro i j a b;have e:∀m,m<n->ka k (mirror xs 0 n ((n-0) / 2)) m=ka k xs (0+n-1-m):=λm hm=>by
  have z:=getElem?_mirror_all (i:=0) hn m;rw[if_pos ⟨ywa _,hm⟩] at z;exact zdwb z
 rw[e i (by omega),e j b];exact h _ _ (by omega) (by omega)
end keys
structure Ok (a0:Array Keyed)(kd:ymq)(st:SortSt):Prop where
 perm:(arrOf st).Perm a0
 kind:kindOf st=kd
 none:failedOf st=none
 pend:yyp st=#[]
theorem Ok.size {a0:Array Keyed}{kd:ymq}{st:SortSt}(h:Ok a0 kd st):(arrOf st).size=a0.size:=h.perm.size_eq
theorem Ok.put {a0:Array Keyed}{kd:ymq}{st:SortSt}(h:Ok a0 kd st){xs:Array Keyed}(p:xs.Perm (arrOf st)):Ok a0 kd (setArr st xs):=⟨p.trans h.perm,h.kind,h.none,h.pend⟩
section
variable {pr:yzb}{wo:World}{Ar:Around}{Ex:Value->Shared->Prop}{sh:Shared}{k:Value->IL}{a0:Array Keyed}{kd:ymq}
structure Cmp (pr:yzb)(wo:World)(Ar:Around)(Ex:Value->Shared->Prop)(sh:Shared)(k:Value->IL)(a0:Array Keyed)(kd:ymq):Prop where
 lt:∀(x y:Keyed) (st:SortSt) (R:Option Bool->SortSt->Prop),kindOf st=kd->x∈a0.toList->y∈a0.toList->k x.1≠k y.1->R (some (decide (k x.1<k y.1))) st->wpS (model pr wo) Ar Ex sh (lt' x y) R st
 un:(a0.toList.map λp=>k p.1).Nodup
theorem Cmp.apart (C:Cmp pr wo Ar Ex sh k a0 kd){st:SortSt}(G:Ok a0 kd st){i j:Nat}(hi:i<a0.size)(hj:j<a0.size)(n:i≠j):ka k (arrOf st) i≠ka k (arrOf st) j:=by
 have p:=(yxi.mp G.perm).map λq:Keyed=>k q.1;have u:((arrOf st).toList.map λq:Keyed=>k q.1).Nodup:=p.symm.nodup C.un;have zi:i<(arrOf st).size:=by rw[G.size];exact hi
 have zj:j<(arrOf st).size:=by rw[G.size];exact hj
 have g:=yih.mp u;have ei:ka k (arrOf st) i=k (arrOf st)[i].1:=by unfold ka;rw[ykb zi];rfl
 have ej:ka k (arrOf st) j=k (arrOf st)[j].1:=by unfold ka;rw[ykb zj];rfl
 rw[ei,ej]
 rcases Nat.lt_or_gt_of_ne n with c|c
 ·have z:=g i j (by simpa using zi) (by simpa using zj) c;rw[yfi,yfi] at z;exact z
 ·have z:=g j i (by simpa using zj) (by simpa using zi) c;rw[yfi,yfi] at z;exact λe=>z e.symm
theorem Cmp.at (C:Cmp pr wo Ar Ex sh k a0 kd){st:SortSt}(G:Ok a0 kd st){i j:Nat}(hi:i<a0.size)(hj:j<a0.size)(n:i≠j){R:Option Bool->SortSt->Prop}
  (h:R (some (decide (ka k (arrOf st) i<ka k (arrOf st) j))) st):wpS (model pr wo) Ar Ex sh (ltAt' i j) R st:=by
 have ap:=C.apart G hi hj n;have zi:i<(arrOf st).size:=by rw[G.size];exact hi
 have zj:j<(arrOf st).size:=by rw[G.size];exact hj
 have ei:(arrOf st)[i]?=some (arrOf st)[i]:=ykb zi;have ej:(arrOf st)[j]?=some (arrOf st)[j]:=ykb zj;have m:∀q:Keyed,q∈(arrOf st).toList->q∈a0.toList:=λq hq=>(yxi.mp G.perm).mem_iff.mp hq;rw[ltAt'_eq];refine yde (ynt ?_);show wpS (model pr wo) Ar Ex sh (elem' (arrOf st) i >>= λx=>elem' (arrOf st) j >>= λy=>lt' x y) R st
 rw[elem'_eq,elem'_eq,ei,ej];refine yde (yfg (yde (yfg ?_)));have ki:ka k (arrOf st) i=k (arrOf st)[i].1:=by unfold ka;rw[ei];rfl
 have kj:ka k (arrOf st) j=k (arrOf st)[j].1:=by unfold ka;rw[ej];rfl
 rw[ki,kj] at h ap;exact C.lt _ _ st R G.kind (m _ (by simp)) (m _ (by simp)) ap h
theorem not_lt {a b:IL}(n:a≠b)(h:¬ a<b):b<a:=by
 rcases Decidable.em (b<a) with c|c
 ·exact c
 ·exact absurd (yus (yot.mp c) (yot.mp h)) n
theorem Cmp.asc (C:Cmp pr wo Ar Ex sh k a0 kd){st:SortSt}(G:Ok a0 kd st){a m:Nat}(hm:m≤a0.size)(h1:1≤a)(h2:a≤m)(u:Up k (arrOf st) a){R:AscSt->SortSt->Prop}
  (q:∀n,a≤n->n≤m->Up k (arrOf st) n->(n=m∨ka k (arrOf st) n<ka k (arrOf st) (n-1))->R (none,n) st):wpS (model pr wo) Ar Ex sh (ascLoop a m) R st:=by
 unfold ascLoop;refine ysk (I:=λx c z=>z=st∧c=(none,x)∧Up k (arrOf st) x) (λx c z ax xm I=>?_) (λc z I=>?_) ⟨rfl,rfl,u⟩
 ·obtain⟨rfl,rfl,v⟩:=I;dsimp only;refine yde (C.at G (by omega) (by omega) (by omega) ?_);have ap:=C.apart G (i:=x) (j:=x-1) (by omega) (by omega) (by omega)
  by_cases c:ka k (arrOf z) x<ka k (arrOf z) (x-1)
  ·rw[decide_eq_true c];exact yfg (q x ax (by omega) v (.inr c))
  ·rw[decide_eq_false c];exact yfg ⟨rfl,rfl,v.more (by omega) (not_lt ap c)⟩
 ·obtain⟨rfl,rfl,v⟩:=I;rw[show max a m=m by omega] at v ⊢;exact q m h2 (yga _) v (.inl rfl)
theorem Cmp.last (C:Cmp pr wo Ar Ex sh k a0 kd){st:SortSt}(G:Ok a0 kd st){n m:Nat}(hm:m≤a0.size)(h1:1≤n)(h2:n≤m)(d:Dn k (arrOf st) n){R:Option Nat->SortSt->Prop}
  (q:∀l z,Ok a0 kd z->1≤l->l≤m->Up k (arrOf z) l->R (some l) z):wpS (model pr wo) Ar Ex sh (tail3 n m) R st:=by
 unfold tail3;refine yde (wpS_reverse ?_);have G':Ok a0 kd (setArr st (mirror (arrOf st) 0 n ((n-0) / 2))):=G.put (mirror_perm _ _ _ _);exact yde (C.asc G' hm h1 h2 (d.turn (by rw[G.size];omega)) λl a b c _=>yfg (q l _ G' (by omega) b c))
theorem Cmp.desc (C:Cmp pr wo Ar Ex sh k a0 kd){st:SortSt}(G:Ok a0 kd st){n m:Nat}(hm:m≤a0.size)(h1:1≤n)(h2:n≤m)(d:Dn k (arrOf st) n){R:DescSt->SortSt->Prop}
  (q:∀l,n≤l->l≤m->Dn k (arrOf st) l->R (none,l,0) st):wpS (model pr wo) Ar Ex sh (descLoop n m) R st:=by
 unfold descLoop;refine ysk (I:=λx c z=>z=st∧c=(none,x,0)∧Dn k (arrOf st) x) (λx c z ax xm I=>?_) (λc z I=>?_) ⟨rfl,rfl,d⟩
 ·obtain⟨rfl,rfl,v⟩:=I;dsimp only;refine yde (C.at G (by omega) (by omega) (by omega) ?_);have ap:=C.apart G (i:=x) (j:=x-1) (by omega) (by omega) (by omega)
  by_cases c:ka k (arrOf z) x<ka k (arrOf z) (x-1)
  ·rw[decide_eq_true c];exact yfg ⟨rfl,rfl,v.more (by omega) c⟩
  ·rw[decide_eq_false c];refine yde (C.at G (by omega) (by omega) (by omega) ?_);rw[decide_eq_true (not_lt ap c)];exact yfg (q x ax (by omega) v)
 ·obtain⟨rfl,rfl,v⟩:=I;rw[show max n m=m by omega] at v ⊢;exact q m h2 (yga _) v
theorem Cmp.part (C:Cmp pr wo Ar Ex sh k a0 kd){st:SortSt}(G:Ok a0 kd st){n m:Nat}(hm:m≤a0.size)(h2:n+1≤m)(d:Dn k (arrOf st) (n+1)){R:Option Nat->SortSt->Prop}
  (q:∀l z,Ok a0 kd z->1≤l->l≤m->Up k (arrOf z) l->R (some l) z):wpS (model pr wo) Ar Ex sh (descPart n m) R st:=by
 unfold descPart;refine yde (wpS_lift (yyg ⟨rfl,?_⟩));refine yde (C.desc G hm (by omega) h2 d λl a b c=>?_);exact C.last G hm (by omega) b c q
theorem Cmp.run (C:Cmp pr wo Ar Ex sh k a0 kd){st:SortSt}(G:Ok a0 kd st){m:Nat}(hm:m≤a0.size)(h1:1≤m){R:Option Nat->SortSt->Prop}
  (q:∀l z,Ok a0 kd z->1≤l->l≤m->Up k (arrOf z) l->R (some l) z):wpS (model pr wo) Ar Ex sh (countRun' 0 m) R st:=by
 rw[countRun0_eq];refine yde (C.asc G hm (yga 1) h1 (λi j a b=>by omega) λn a b c d=>?_);dsimp only
 by_cases e:n=m
 ·rw[if_pos (by simpa using e)];exact yfg (q n st G a b c)
 ·rw[if_neg (by simpa using e)];have lt:=d.resolve_left e
  by_cases g:n>1
  ·rw[if_pos g];refine yde (C.at G (by omega) (by omega) (by omega) ?_);rw[decide_eq_true (c 0 (n-1) (by omega) (by omega))];exact yfg (q n st G a b c)
  ·rw[if_neg g];obtain rfl:n=1:=by omega
   refine C.part G hm (by omega) (λi j x y=>?_) q;obtain rfl:i=0:=by omega
   obtain rfl:j=1:=by omega
   exact lt
end
end TSort
namespace TSort
open PySem PyProof.Rows
theorem zweb {k:Value->IL}{xs:Array Keyed}{c l:Nat}(hc:c<xs.size)(hl:l≤c)(m:Nat) :
  ka k (bubble xs c (c-l)) m=if m=l then ka k xs c else if l<m∧m≤c then ka k xs (m-1) else ka k xs m:=by
 have z:=getElem?_bubble hc (c-l) (by omega) m;rw[show c-(c-l)=l by omega] at z
 by_cases a:m=l
 ·rw[if_pos a] at z ⊢;exact zdwb z
 ·rw[if_neg a] at z ⊢
  by_cases b:l<m∧m≤c
  ·rw[if_pos b] at z ⊢;exact zdwb z
  ·rw[if_neg b] at z ⊢;exact zdwb z
theorem Up.put {k:Value->IL}{xs:Array Keyed}{c l:Nat}(h:Up k xs c)(hc:c<xs.size)(hl:l≤c)(lo:∀i,i<l->ka k xs i<ka k xs c)(hi:∀i,l≤i->i<c->ka k xs c<ka k xs i):Up k (bubble xs c (c-l)) (c+1):=by
 intro i j a b;rw[zweb hc hl,zweb hc hl]
 by_cases i1:i=l
 ·rw[if_pos i1,if_neg (by omega),if_pos (by omega)];exact hi _ (by omega) (by omega)
 ·rw[if_neg i1]
  by_cases j1:j=l
  ·rw[if_pos j1,if_neg (by omega)];exact lo i (by omega)
  ·rw[if_neg j1]
   by_cases i2:l<i∧i≤c
   ·rw[if_pos i2,if_pos (by omega)];exact h _ _ (by omega) (by omega)
   ·rw[if_neg i2]
    by_cases j2:l<j∧j≤c
    ·rw[if_pos j2];exact h _ _ (by omega) (by omega)
    ·rw[if_neg j2];exact h _ _ a (by omega)
section
variable {pr:yzb}{wo:World}{Ar:Around}{Ex:Value->Shared->Prop}{sh:Shared}{k:Value->IL}{a0:Array Keyed}{kd:ymq}
theorem Cmp.ins (C:Cmp pr wo Ar Ex sh k a0 kd){st:SortSt}(G:Ok a0 kd st){n m:Nat}(hn:n≤a0.size)(hm:m≤n)(u:Up k (arrOf st) m){R:Bool->SortSt->Prop}
  (q:∀z,Ok a0 kd z->Up k (arrOf z) n->R true z):wpS (model pr wo) Ar Ex sh (binarySort' 0 n m) R st:=by
 rw[binarySort'_eq];simp only[yls];refine yde (wpS_mono (ysk (I:=λc o z=>o=(none,())∧Ok a0 kd z∧Up k (arrOf z) (min c n)) (Q:=λo z=>o=(none,())∧Ok a0 kd z∧Up k (arrOf z) n) (λc o z mc cn I=>?_) (λo z I=>?_) ⟨rfl,G,λi j a b=>?_⟩) λo z I=>?_)
 ·obtain⟨rfl,G',v⟩:=I;rw[show min c n=c by omega] at v;have sz:c<(arrOf z).size:=by rw[G'.size];omega
  refine yde (wpS_mono (ysk (I:=λx o y=>y=z∧Ex2 λl r=>o=(none,l,r)∧l≤r∧r≤c∧r-l≤c-x∧(∀i,i<l->ka k (arrOf z) i<ka k (arrOf z) c)∧∀i,r≤i->i<c->ka k (arrOf z) c<ka k (arrOf z) i)
   (Q:=λo y=>y=z∧Ex2 λl r=>o=(none,l,r)∧l≤c∧(∀i,i<l->ka k (arrOf z) i<ka k (arrOf z) c)∧∀i,l≤i->i<c->ka k (arrOf z) c<ka k (arrOf z) i) (λx o y _ xc J=>?_) (λo y J=>?_) ⟨rfl,0,c,rfl,by omega,by omega,by omega,λi h=>by omega,λi h1 h2=>by omega⟩) λo y J=>?_)
  ·obtain⟨rfl,l,r,rfl,lr,rc,w,lo,hi⟩:=J;dsimp only
   by_cases g:l≥r
   ·rw[if_pos g];obtain rfl:l=r:=by omega
    exact yfg ⟨rfl,l,l,rfl,rc,lo,hi⟩
   ·rw[if_neg g];refine yde (C.at G' (by omega) (by omega) (by omega) ?_);have ap:=C.apart G' (i:=c) (j:=(l+r) / 2) (by omega) (by omega) (by omega)
    by_cases d:ka k (arrOf y) c<ka k (arrOf y) ((l+r) / 2)
    ·rw[decide_eq_true d];refine yfg ⟨rfl,l,(l+r) / 2,rfl,by omega,by omega,by omega,lo,λi h1 h2=>?_⟩
     rcases yyh ((l+r) / 2) i with e|e
     ·exact yfo d (v _ _ e h2)
     ·obtain rfl:i=(l+r) / 2:=by omega
      exact d
    ·rw[decide_eq_false d];have d':=not_lt ap d;refine yfg ⟨rfl,(l+r) / 2+1,r,rfl,by omega,by omega,by omega,λi h1=>?_,hi⟩
     rcases yyh i ((l+r) / 2) with e|e
     ·exact yfo (v _ _ e (by omega)) d'
     ·obtain rfl:i=(l+r) / 2:=by omega
      exact d'
  ·obtain⟨rfl,l,r,rfl,lr,rc,w,lo,hi⟩:=J;obtain rfl:l=r:=by omega
   exact⟨rfl,l,l,rfl,rc,lo,hi⟩
  ·obtain⟨rfl,l,r,rfl,lc,lo,hi⟩:=J;refine yde (m:=moveDown' c l) ?_;rw[moveDown'_eq];refine wpS_modify (yfg ⟨rfl,G'.put (bubble_perm _ _ _),?_⟩);rw[show min (c+1) n=c+1 by omega];exact v.put sz lc lo hi
 ·obtain⟨rfl,G',v⟩:=I;rw[show min (max (max m 1) n) n=n by omega] at v;exact⟨rfl,G',v⟩
 ·exact u i j a (by omega)
 ·obtain⟨rfl,G',v⟩:=I;exact yfg (q z G' v)
structure Fin (k:Value->IL)(a0:Array Keyed)(st:SortSt):Prop where
 perm:(arrOf st).Perm a0
 none:failedOf st=none
 pend:yyp st=#[(0,a0.size,0)]
 up:Up k (arrOf st) a0.size
theorem Ok.fin {st:SortSt}(G:Ok a0 kd st)(u:Up k (arrOf st) a0.size):Fin k a0 (setPending st ((yyp st).push (0,a0.size,0))) :=
 ⟨G.perm,G.none,by show (yyp st).push (0,a0.size,0)=#[(0,a0.size,0)];rw[G.pend];rfl,u⟩
theorem Cmp.all (C:Cmp pr wo Ar Ex sh k a0 kd){st:SortSt}(G:Ok a0 kd st)(h2:2≤a0.size)(h64:a0.size<64){R:Unit->SortSt->Prop}
  (q:∀z,(arrOf z).Perm a0->failedOf z=none->Up k (arrOf z) a0.size->R () z):wpS (model pr wo) Ar Ex sh sortRuns' R st:=by
 rw[sortRuns'_eq];refine yde (ynt ?_);dsimp only;have mr:minRun' a0.size a0.size 0=a0.size:=by
  obtain⟨f,hf⟩:∃f,a0.size=f+1:=⟨a0.size-1,by omega⟩;have z:minRun' (f+1) a0.size 0=a0.size:=by
   rw[minRun'_succ,if_pos h64,Nat.add_zero]
  rw[← hf] at z;exact z
 simp only[G.size,mr];refine yde (wpS_mono (ysk (I:=λx o z=>(x=0∧o=(none,0)∧Ok a0 kd z)∨(1≤x∧o=(none,a0.size)∧Fin k a0 z)) (Q:=λo z=>o=(none,a0.size)∧Fin k a0 z) (λx o z _ hx I=>?_) (λo z I=>?_) (.inl ⟨rfl,rfl,G⟩)) λo z I=>?_)
 ·rcases I with⟨rfl,rfl,G'⟩|⟨x1,rfl,D⟩
  ·dsimp only;rw[if_neg (by omega)];simp only[yms,yom,yls];refine yde (C.run G' (yga _) (by omega) λl y Gy l1 l2 uy=>?_);dsimp only
   by_cases lt:l<a0.size
   ·rw[if_pos lt];refine yde (wpS_lift (yyg ⟨rfl,?_⟩));refine yde (C.ins Gy (yga _) l2 uy λv Gv uv=>?_);simp only[Bool.not_true,yah,if_false];refine yde (ynt ?_);rw[show (yyp v).back?=none by rw[Gv.pend];rfl];exact yde (wpS_modify (yfg (.inr ⟨by omega,rfl,Gv.fin uv⟩)))
   ·rw[if_neg lt];obtain rfl:l=a0.size:=by omega
    refine yde (ynt ?_);rw[show (yyp y).back?=none by rw[Gy.pend];rfl];exact yde (wpS_modify (yfg (.inr ⟨by omega,rfl,Gy.fin uy⟩)))
  ·dsimp only;rw[if_pos (yga _)];exact yfg ⟨rfl,D⟩
 ·rcases I with⟨hx,_,_⟩|⟨_,ho,D⟩
  ·omega
  ·exact⟨ho,D⟩
 ·obtain⟨rfl,D⟩:=I;dsimp only;refine yde (wpS_mono (ysk (I:=λ_ o y=>y=z∧o=(none,())) (Q:=λo y=>y=z∧o=(none,())) (λx o y _ _ J=>?_) (λ_ _ J=>J) ⟨rfl,rfl⟩) λo y J=>?_)
  ·obtain⟨rfl,rfl⟩:=J;refine yde (ynt ?_);rw[if_pos (by rw[D.pend];exact yga 1)];exact yfg ⟨rfl,rfl⟩
  ·obtain⟨rfl,rfl⟩:=J;exact yfg (q _ D.perm D.none D.up)
end
end TSort
namespace TSort
open PySem PyProof.Rows
def TupI (h:Heap)(a:Addr)(ks:IL):Prop:=Ex5 λ(o:Obj) (its:Array Value) (n:Nat) (us rest:List Value)=>h.get? a=some o∧o.cls = .type "tuple" ∧ o.data = .seq its n∧its.toList=us++rest∧ykg us ks
theorem TupI.keep {h h':Heap}{a:Addr}{ks:IL}(t:TupI h a ks)(e:∀o,h.get? a=some o->h'.get? a=some o):TupI h' a ks:=by
 obtain⟨o,its,n,us,rest,h1,h2⟩:=t;exact⟨o,its,n,us,rest,e _ h1,h2⟩
def kf (f:Addr->IL):Value->IL
 | .ref a=>f a
 | _=>[]
section
variable {pr:yzb}{wo:World}{Ar:Around}{Ex:Value->Shared->Prop}{sh:Shared}
theorem lex {b fin:Bool}{R:Bool->Shared->Prop}:∀{us vs:List Value} {xs ys:IL} {r1 r2:List Value} {i:Nat},ykg us xs->ykg vs ys->xs.length=ys.length->xs≠ys->R (decide (xs<ys)) sh->W.KatLex pr wo Ar b fin R ((us++r1).zip (vs++r2)) i sh
 | _,_,_,_,_,_,_,.nil,.nil,_,n,_=>absurd rfl n
 | _,_,_,_,_,_,_,.nil,.cons _ _ _,l,_,_=>by simp at l
 | _,_,_,_,_,_,_,.cons _ _ _,.nil,l,_,_=>by simp at l
 | _,_,_,_,r1,r2,i,.cons x t hx (vs:=us) (ns:=xs),.cons y u hy (vs:=vs) (ns:=ys),l,n,q=>by
  refine W.kat_cons (wpAny_eqBool_int ?_)
  by_cases e:x=y
  ·subst e;rw[show (x==x)=true by simp];refine W.kat_yes (lex hx hy (by simpa using l) (λz=>n (by rw[z])) ?_);have z:decide (x::xs<x::ys)=decide (xs<ys):=by
    apply decide_eq_decide.mpr;rw[ytk]
    constructor
    ·rintro (c|⟨_,c⟩)
     ·exact absurd c (Int.lt_irrefl x)
     ·exact c
    ·exact λc=>.inr ⟨rfl,c⟩
   rw[z] at q;exact q
  ·rw[show (x==y)=false by simpa using e];have z:decide (x::xs<y::ys)=decide (x<y):=by
    apply decide_eq_decide.mpr;rw[ytk]
    constructor
    ·rintro (c|⟨c,_⟩)
     ·exact c
     ·exact absurd c e
    ·exact λc=>.inl c
   rw[z] at q;refine W.kat_no ?_;cases (b&&i==0) with
   | true=>exact oneLt_int q
   | false=>exact W.kat_one _ _ (lt_int q)
theorem zrwb {f:Addr->IL}{vs:List Value}{m:Nat}{b:Bool}(hv:∀v∈vs,∃a,v = .ref a∧TupI sh.heap a (f a)∧(f a).length=m)(un:(vs.map (kf f)).Nodup):Cmp pr wo Ar Ex sh (kf f) (yxq vs) (tuples' b):=by
 refine⟨λx y st R hk mx my n q=>?_,?_⟩
 ·rw[yrq] at mx my;obtain⟨a,ea,⟨o1,i1,n1,u1,r1,g1,_,d1,l1,t1⟩,m1⟩:=hv _ (yns mx).2;obtain⟨c,ec,⟨o2,i2,n2,u2,r2,g2,_,d2,l2,t2⟩,m2⟩:=hv _ (yns my).2;rw[ea,ec] at n q;rw[lt'_eq];refine yde (ynt ?_);rw[hk,ea,ec];refine yde (wpS_lift (yrj (W.kat_lt g1 d1 g2 d2 ?_)));rw[l1,l2];exact lex t1 t2 (by rw[m1,m2]) n ⟨rfl,yfg q⟩
 ·rw[yrq];have e:(vs.zip vs).map (λp=>kf f p.1)=vs.map (kf f):=by
   rw[show (λp:Keyed=>kf f p.1)=kf f∘Prod.fst from rfl,← yee,yvs (yga _)]
  rw[e];exact un
theorem znrb {f:Addr->IL}{vs:List Value}{m:Nat}{R:ymq->Shared->Prop}(hm:0<m)(h0:0<vs.length)(hv:∀v∈vs,∃a,v = .ref a∧TupI sh.heap a (f a)∧(f a).length=m)(q:R (tuples' true) sh):wpAny (model pr wo) Ar (keyKind' vs.toArray) R Ex sh:=by
 have all:∀vs:List Value,(∀v∈vs,∃a,v = .ref a∧TupI sh.heap a (f a)∧(f a).length=m)->∃fs,W.KatTups sh.heap vs fs∧fs.length=vs.length∧∀v∈fs,Ex2 λx t=>v = .int x t:=by
  intro vs
  induction vs with
  | nil=>exact λ_=>⟨[],.nil,rfl,by simp⟩
  | cons v r ih =>
   intro h;obtain⟨fs,a1,a2,a3⟩:=ih λz hz=>h z (yla _ hz);obtain⟨a,rfl,⟨o,its,n,us,rest,g,c,d,l,t⟩,hl⟩:=h v yma;generalize f a=ks at t hl;cases t with
   | nil=>simp at hl;omega
   | cons x tk h' =>
    refine⟨.int x tk::fs,.cons g c d (by rw[← yac,l];rfl) a1,by rw[ykc,ykc,a2],?_⟩;intro z hz
    rcases yja.mp hz with e|e
    ·exact⟨x,tk,e⟩
    ·exact a3 z e
 obtain⟨fs,a1,a2,a3⟩:=all vs hv;refine W.kat_kind (T:=.type "int") a1 (by omega) (λv h=>?_) rfl q;obtain⟨x,t,rfl⟩:=a3 v h;exact .now
end
end TSort
namespace TSort
open PySem PyProof.Rows
section
variable {pr:yzb}{wo:World}{Ar:Around}{Ex:Value->Shared->Prop}{sh:Shared}
theorem le64:64≤yva:=by decide
theorem zqxb {f:Addr->IL}{vs:List Value}{xs:Array Keyed}(p:xs.Perm (yxq vs))(u:Up (kf f) xs (yxq vs).size):(xs.map (·.2)).toList.Perm vs∧((xs.map (·.2)).toList.map (kf f)).Pairwise (· < ·):=by
 have pl:xs.toList.Perm (vs.zip vs):=by
  rw[← yrq];exact yxi.mp p
 have same:∀q∈xs.toList,q.1=q.2:=λq hq=>(yns (pl.mem_iff.mp hq)).1;have e:(xs.map (·.2)).toList=xs.toList.map (·.1):=by
  rw[Array.toList_map];exact yqf λq hq=>(same q hq).symm
 refine⟨?_,?_⟩
 ·rw[e];have z:=pl.map Prod.fst;rw[yvs (yga _)] at z;exact z
 ·rw[e,yee,yih];intro i j hi hj ij;have hi':i<xs.size:=by simpa using hi
  have hj':j<xs.size:=by simpa using hj
  have z:=u i j ij (by rw[← p.size_eq];exact hj');unfold ka at z;rw[ykb hi',ykb hj'] at z;rw[yfi,yfi];exact z
theorem zmac {f:Addr->IL}{a:Addr}{vs:List Value}{m n:Nat}{R:yyt->Shared->Prop}(ho:sh.heap.get? a=some (seqObj "list" vs.toArray n))(hm:0<m)(hv:∀v∈vs,∃b,v = .ref b∧TupI sh.heap b (f b)∧(f b).length=m)(un:(vs.map (kf f)).Nodup)(h64:vs.length<64)
  (q:∀out:Array Value,out.toList.Perm vs->(out.toList.map (kf f)).Pairwise (· < ·)->R (.done (.ret .none)) { sh with heap:=sortedHeap sh.heap a vs out }) :
  wpAny (model pr wo) Ar (yle.«list.sort» ⟨[.ref a],[]⟩) R Ex sh:=by
 have lt:a<sh.heap.objs.size:=yoa ho;have len:vs.toArray.size=vs.length:=yqa ..;rw[list_sort_plain];refine yaa (yos ho rfl (yaa (ygo ho rfl ?_)));obtain⟨ep,h1⟩:∃ep,(sh.heap.update a (yzd λ_=>#[])).get? a=some (seqObj "list" #[] ep):=⟨_,get?_update_seq ho λ_=>#[]⟩;refine yaa (seqEpoch_at h1 rfl (yaa (ypk (yaa (yvj (yad ?_))))));show wpAny (model pr wo) Ar _ R Ex { sh with heap:=((sh.heap.update a (yzd λ_=>#[])).push (seqObj "tuple" vs.toArray 0)).push (seqObj "list" #[] 0) }
 generalize hH:((sh.heap.update a (yzd λ_=>#[])).push (seqObj "tuple" vs.toArray 0)).push (seqObj "list" #[] 0)=H;have h6:H.get? a=some (seqObj "list" #[] ep):=by
  rw[← hH];exact yba _ (yba _ h1)
 have hb:∀v∈vs,∃b,v = .ref b∧TupI H b (f b)∧(f b).length=m:=λv z=>by
  obtain⟨b,e,t,l⟩:=hv v z;refine⟨b,e,t.keep λo g=>?_,l⟩;have nb:b≠a:=by
   rintro rfl;obtain⟨o',_,_,_,_,g',c',_⟩:=t;rw[g'] at ho;cases ho;have z:Value.type "list" = Value.type "tuple":=c';injection z with z
   exact absurd z (by decide)
  rw[← hH];exact yba _ (yba _ ((yxe ..).extBut b o nb g))
 have done:∀out:Array Value,H.update a (yzd λ_=>out)=sortedHeap sh.heap a vs out:=λout=>by rw[← hH];rfl
 dsimp only
 by_cases two:vs.toArray.size<2
 ·rw[if_pos two,if_pos two];refine yaa (yea ?_);rw[StateT.run_pure];refine yaa (yea ?_);dsimp only;refine yaa (seqEpoch_at h6 rfl (yaa (ygo h6 rfl ?_ (hsz2:=?_))))
  ·simp only[bne_self_eq_false,yah,if_false];obtain⟨a1,a2⟩:=zqxb (f:=f) (vs:=vs) (xs:=yxq vs) (ypt _) (λi j ij hj=>by rw[ypm] at hj;omega);refine yea ?_;have z:=q _ a1 a2;rw[← done] at z;exact z
  ·rw[Array.size_map];show (yxq vs).size≤yva+1
   rw[ypm];have:64≤yva:=by decide
   omega
 ·rw[if_neg two,if_neg two];refine yaa (znrb hm (by omega) hb ?_);have two':2≤(yxq vs).size:=by
   rw[ypm];omega
  refine yaa (ykf ((zrwb (pr:=pr) (wo:=wo) (Ar:=Ar) (Ex:=Ex) (b:=true) hb un).all (st:=SortSt.mk' (tuples' true) (vs.toArray.zip vs.toArray) #[] 7 none) ⟨ypt _,rfl,rfl,rfl⟩ two' (by rw[ypm];exact h64) (R:=λ_ z=>(arrOf z).Perm (yxq vs)∧failedOf z=none∧Up (kf f) (arrOf z) (yxq vs).size) λz b1 b2 b3=>⟨b1,b2,b3⟩) ?_ λ_ _ e=>e);rintro⟨⟨⟩,z⟩ s' ⟨rfl,b1,b2,b3⟩;dsimp only;refine yaa (seqEpoch_at h6 rfl (yaa (ygo h6 rfl ?_ (hsz2:=?_))))
  ·rw[b2];simp only[bne_self_eq_false,yah,if_false];obtain⟨a1,a2⟩:=zqxb b1 b3;refine yea ?_;have y:=q _ a1 a2;rw[← done] at y;exact y
  ·refine yob (yjp ((Array.size_map ..).trans (b1.size_eq.trans (ypm _)))) ?_;have:64≤yva:=by decide
   omega
theorem zwgb {f:Addr->IL}{l:Addr}{vs:List Value}{m:Nat}{R:Value->Shared->Prop}(hl:sh.heap.IsList l vs.toArray)(hm:0<m)(hv:∀v∈vs,∃b,v = .ref b∧TupI sh.heap b (f b)∧(f b).length=m)(un:(vs.map (kf f)).Nodup)(h64:vs.length<64)
  (q:∀out:Array Value,out.toList.Perm vs->(out.toList.map (kf f)).Pairwise (· < ·)->R (.ref (sh.heap.objs.size+1)) { sh with heap:=yzp sh.heap vs out }) :
  wpAny (model pr wo) Ar (call (.builtin "sorted") [.ref l]) R Ex sh:=by
 refine yhh ywq yvp ywp (yxp _) ?_;unfold yle.«sorted»;refine yaa (m:=yas "sorted" 1 1 _) (yea (yaa (collect_list hl (yaa (yvj ?_)) (yob (yye h64) le64))));show wpAny (model pr wo) _ _ _ Ex { sh with heap:=((sh.heap.push (seqObj "list" #[] 0)).update sh.heap.objs.size (yzd (· ++ vs.toArray))).push (seqObj "list" vs.toArray 0) }
 generalize hG:(sh.heap.push (seqObj "list" #[] 0)).update sh.heap.objs.size (yzd (· ++ vs.toArray))=G;have sz:G.objs.size=sh.heap.objs.size+1:=by
  rw[← hG,yws,ybs]
 have kp:∀b o,sh.heap.get? b=some o->G.get? b=some o:=λb o g=>by
  rw[← hG];exact (yxe ..).extBut b o (yfb (yoa g)) (yba _ g)
 have at1:(G.push (seqObj "list" vs.toArray 0)).get? (sh.heap.objs.size+1)=some (seqObj "list" vs.toArray 0):=by
  rw[← sz];exact yfa _ rfl
 rw[sz];refine yaa (yad (ync yym ⟨_,at1,rfl⟩ yyl (zmac at1 hm (λv z=>?_) un h64 λout o1 o2=>⟨_,rfl,?_⟩) (yzm _)))
 ·obtain⟨b,e,t,l'⟩:=hv v z;exact⟨b,e,t.keep λo g=>yba _ (kp b o g),l'⟩
 ·refine yea ⟨_,rfl,?_⟩;have y:=q out o1 o2;unfold yzp at y;rw[hG] at y;exact y
end
end TSort
namespace L2
open PySem PyProof.Rows
def refV:Value->V
 | .ref a=>.ref a
 | _=>.non
theorem zscb:∀{us:List V} {its:List Value},Vals us its->(∀u∈us,∃a,u = .ref a)->its.map refV=us∧∀v∈its,∃a,v = .ref a∧V.ref a∈us
 | _,_,.nil,_=>⟨rfl,by simp⟩
 | _,_,.cons r t,h=>by
  obtain⟨a,rfl⟩:=h _ yma;cases r;obtain⟨e1,e2⟩:=zscb t λu hu=>h u (yla _ hu);refine⟨by rw[ytb,e1];rfl,?_⟩;intro v hv
  rcases yja.mp hv with z|z
  ·exact⟨a,z,yma⟩
  ·obtain⟨b,e,m⟩:=e2 v z;exact⟨b,e,yla _ m⟩
theorem ztcb:∀{vs:List Value},(∀v∈vs,∃a,v = .ref a)->Vals (vs.map refV) vs
 | [],_=>.nil
 | v::r,h=>by
  obtain⟨a,rfl⟩:=h v yma;exact .cons rfl (ztcb λu hu=>h u (yla _ hu))
section
variable {X:Cx}
theorem zti:zfi X (.builtin "sorted") (λxs H Q=>Ex4 λ(l:Addr) (us:List V) (g:V->List Int) (m:Nat)=>xs=[.ref l]∧SqL X.K H l us∧us.length<64∧0<m∧(∀u∈us,Ex3 λa ys zs=>u = .ref a∧SqT X.K H a (ys.map V.int++zs)∧g u=ys∧ys.length=m)∧(us.map g).Nodup ∧
  ∀p out,H p=none->out.Perm us->(out.map g).Pairwise (· < ·)->Q (.ref p) (upd H p (.lst out))):=by
 intro pins s σ H xs vs Q I r h;obtain⟨l,us,g,m,rfl,hl,h64,hm,ht,un,q⟩:=h;obtain⟨u,rfl,ru⟩:=vals1 r;cases ru;obtain⟨its,rv,pl,_⟩:=I.list hl;obtain⟨e1,e2⟩:=zscb rv λu hu=>by
  obtain⟨a,_,_,e,_⟩:=ht u hu;exact⟨a,e⟩
 have len:its.length=us.length:=rv.length.symm;have kg:∀v∈its,TSort.kf (λa=>g (.ref a)) v=(g∘refV) v:=λv hv=>by
  obtain⟨a,rfl,_⟩:=e2 v hv;rfl
 have hv:∀v∈its,∃b,v = .ref b∧TSort.TupI s.heap b (g (.ref b))∧(g (.ref b)).length=m:=λv hv=>by
  obtain⟨a,rfl,ha⟩:=e2 v hv;obtain⟨a',ys,zs,e,sq,eg,lg⟩:=ht _ ha;cases e;obtain⟨jts,rj,⟨o,g1,g2,n,g3⟩,_⟩:=I.tuple sq;refine⟨a,rfl,?_,by rw[eg];exact lg⟩;have t1:=rj.take (ys.map V.int).length;rw[List.take_left' rfl] at t1;refine⟨o,jts.toArray,n,jts.take (ys.map V.int).length,jts.drop (ys.map V.int).length,g1,g2,g3,by rw[ypi],?_⟩;rw[eg];exact intsAre_of t1
 have un':(its.map (TSort.kf λa=>g (.ref a))).Nodup:=by
  rw[yqf kg,← yee,e1];exact un
 refine TSort.zwgb (vs:=its) (f:=λa=>g (.ref a)) (m:=m) pl.isList hm hv un' (by rw[len];exact h64) λout o1 o2=>?_;obtain⟨e,he⟩:=sortedAll_at s.heap its out;have mem:∀v∈out.toList,v∈its:=λv hv=>o1.mem_iff.mp hv;have rout:Vals (out.toList.map refV) out.toList:=ztcb λv hv=>by
  obtain⟨a,e,_⟩:=e2 v (mem v hv);exact⟨a,e⟩
 have pm:(out.toList.map refV).Perm us:=by
  have z:=o1.map refV;rw[e1] at z;exact z
 have I1:Inv X pins σ (upd H (s.heap.objs.size+1) (.lst (out.toList.map refV))) { s with heap:=yzp s.heap its out }:=I.laid (t':=s.toks) (λb o e=>sortedAll_old e) (ype _) ⟨by rw[pm.length_eq];exact yob (yye h64) TSort.le64,out.toList,e,rout,by rw[ylf];exact he⟩;refine⟨.ref (s.heap.objs.size+1),_,I1,rfl,q _ _ (I.hok.fresh (ype _)) pm ?_⟩;rw[yqf λv hv=>kg v (mem v hv),← yee] at o2;exact o2
end
end L2
namespace L2
open PySem PyProof.Rows
section
variable {pr:yzb}{wo:World}{Ar:Around}{Ex:Value->Shared->Prop}
end
section
variable {X:Cx}
theorem zsl (K:yda){es:List Expr}{k:Nat}{t:TGs}{n:Nat}{pos:Pos}(hc:X.calm=true)(h:PGs X es t)
  (hn:(yck es X.env).length=n:=by rfl) (hst:(yck es X.env).findIdx? (·.1)=none:=by rfl) (hK:X.K=K:=by rfl):PG X (.Tuple es k pos) (gTup K n t):=hK▸zmc hc h hn hst
end
end L2
namespace L2
open PySem PyProof.Rows
section
variable {X:Cx}
inductive TyB (K:yda)(H:Hp):V->Value->Prop where
 | non:TyB K H .non (.type "NoneType")
 | bl (x:Bool):TyB K H (.bl x) (.type "bool")
 | int (i:Int):TyB K H (.int i) (.type "int")
 | str (x:Str):TyB K H (.str x) (.type "str")
 | lst {a:Addr} {xs:List V} (e:SqL K H a xs):TyB K H (.ref a) (.type "list")
 | tup {a:Addr} {xs:List V} (e:SqT K H a xs):TyB K H (.ref a) (.type "tuple")
end
end L2
namespace L2
open PySem PySem.Spec PyProof.Rows
section
variable {κ:Type}[DecidableEq κ]
end
section
variable {P:yzb}{w:World}{H:Hp}{h:Heap}{a:Addr}
end
section
variable {X:Cx}{pins:List (Addr×Obj)}{σ:St}{H:Hp}{s:Shared}{a:Addr}{y v:V}{u r:Value}{o:Option V}{A:Around}{E:Value->Shared->Prop}
end
section
variable {X:Cx}{pins:List (Addr×Obj)}{σ:St}{H:Hp}{s:Shared}{a:Addr}{kvs:List (Key×V)}{k:Key}{u:Value}{A:Around}{E:Value->Shared->Prop}
end
section
variable {X:Cx}{o i e value:Expr}{pos pos' tpos:Pos}{td ty tv:TE}
end
section
variable {X:Cx}{pos:Pos}
end
structure M1 (X:Cx)(o:Expr)(m:Str)(apos:Pos)(e:Expr)(cpos:Pos):Prop where
 base:ymj o m X.env (eval o X.env)=eval o X.env
 few:((backTo cpos (yxc [e] X.env)).all (λx=>!x.1)&&(yct cpos (yyn [] X.env)).all (λx=>x.1.isSome)
  && decide (([e]:List Expr).length+([]:List ytr).length+(if ([]:List ytr).isEmpty then 0 else 1)<30))=true
 line:(apos.endLine==cpos.line)=true
 trees:backTo cpos (yxc [e] X.env)=[(false,eval e X.env)]
structure M2 (X:Cx)(o:Expr)(m:Str)(apos:Pos)(e f:Expr)(cpos:Pos):Prop where
 base:ymj o m X.env (eval o X.env)=eval o X.env
 few:((backTo cpos (yxc [e,f] X.env)).all (λx=>!x.1)&&(yct cpos (yyn [] X.env)).all (λx=>x.1.isSome)
  && decide (([e,f]:List Expr).length+([]:List ytr).length+(if ([]:List ytr).isEmpty then 0 else 1)<30))=true
 line:(apos.endLine==cpos.line)=true
 trees:backTo cpos (yxc [e,f] X.env)=[(false,eval e X.env),(false,eval f X.env)]
section
variable {X:Cx}{pins:List (Addr×Obj)}{σ:St}{H:Hp}{s:Shared}{a:Addr}{y d:V}{u r:Value}{o:Option V}{A:Around}{E:Value->Shared->Prop}
end
section
variable {X:Cx}{o e f:Expr}{apos cpos:Pos}{td ty tx:TE}
end
section
variable {X:Cx}{pins:List (Addr×Obj)}{σ:St}{H:Hp}{s:Shared}{a:Addr}{kvs:List (Key×V)}{A:Around}{E:Value->Shared->Prop}
end
section
variable {X:Cx}{pins:List (Addr×Obj)}{σ:St}{H:Hp}{s:Shared}{a:Addr}{y:V}{u:Value}{A:Around}{E:Value->Shared->Prop}
end
end L2
namespace L2
open PySem PyProof.Rows
section
variable {pr:yzb}{wo:World}{Ar:Around}{Ex:Value->Shared->Prop}{sh:Shared}
theorem zykb (a:Addr):¬ ((Value.ref a==Value.none)=true):=ymb
theorem zmzb {it t:Addr}{i:Nat}{ys:Array Value}{v:Value}{R:yyt->Shared->Prop}(h1:sh.heap.IsTupleIter it t i)(h2:sh.heap.IsTuple t ys)(h3:ys[i]?=some v)
  (q:∀g,g.IsTupleIter it t (i+1)->yae it sh.heap g->R (.done (.ret v)) { sh with heap:=g }):wpAny (model pr wo) Ar (yle.«tuple_iterator.__next__» ⟨[.ref it],[]⟩) R Ex sh:=by
 obtain⟨ob,a1,a2,a3⟩:=id h1;obtain⟨ot,b1,_,nn,b3⟩:=h2;refine (show wpAny (model pr wo) Ar (field (.ref it) 0 >>= _) R Ex sh from yaa (ynd a1 a3 (x:=.ref t) rfl ?_));rw[if_neg (zykb t)];refine (show wpAny (model pr wo) Ar (field (.ref it) 1 >>= _) R Ex sh from yaa (ynd a1 a3 (x:=.int i 0) rfl ?_));refine (show wpAny (model pr wo) Ar (yul (.ref t) >>= _) R Ex sh from yaa (yjh b1 b3 ?_));simp only[yeb,h3];refine yaa (wpAny_setField a1 a3 (by simp) (yea (q _ ⟨_,yhd _ a1 (Obj.isFreed_of_fields (ymr a3 _)),(Obj.cls_mapFields ..).trans a2,?_⟩ (yxe ..))));rw[ymr a3];simp[rawInt]
theorem zvab {it t:Addr}{i:Nat}{ys:Array Value}{v:Value}{R:Value->Shared->Prop}(h1:sh.heap.IsTupleIter it t i)(h2:sh.heap.IsTuple t ys)(h3:ys[i]?=some v)
  (q:∀g,g.IsTupleIter it t (i+1)->yae it sh.heap g->R v { sh with heap:=g }):wpAny (model pr wo) Ar (ywc (.ref it)) R Ex sh:=by
 unfold ywc;exact yaa (yuc (name:=yuf "__next__") h1.typeIs ytg (ync ytg h1.typeIs yzl (zmzb h1 h2 h3 λg a b=>⟨v,rfl,yea (q g a b)⟩) (yhl _)))
theorem zekb {it t:Addr}{i:Nat}{ys:Array Value}{R:Value->Shared->Prop}(hd:Ar.handled=none)(h1:sh.heap.IsTupleIter it t i)(h2:sh.heap.IsTuple t ys)(h3:ys[i]?=none)
  (q:∀g e,yqt it sh.heap g->(∃o,g.get? e=some o∧o.cls = .type "StopIteration")->Ex (.ref e) { sh with heap:=g }):wpAny (model pr wo) Ar (ywc (.ref it)) R Ex sh:=by
 obtain⟨ob,a1,a2,a3⟩:=id h1;obtain⟨ot,b1,_,nn,b3⟩:=h2;unfold ywc;refine yaa (yuc (name:=yuf "__next__") h1.typeIs ytg (ync ytg h1.typeIs yzl ?_ (yhl _)));refine (show wpAny (model pr wo) Ar.in1 (field (.ref it) 0 >>= _) _ Ex sh from yaa (ynd a1 a3 (x:=.ref t) rfl ?_));rw[if_neg (zykb t)];refine (show wpAny (model pr wo) Ar.in1 (field (.ref it) 1 >>= _) _ Ex sh from yaa (ynd a1 a3 (x:=.int i 0) rfl ?_));refine (show wpAny (model pr wo) Ar.in1 (yul (.ref t) >>= _) _ Ex sh from yaa (yjh b1 b3 ?_));simp only[yeb,h3];refine yaa (yyg (yaa (wpAny_setField a1 a3 (by simp) ?_)));refine (show wpAny (model pr wo) Ar.in1 (newExc (.type "StopIteration") [] >>= _) _ Ex _ from yaa ?_);simp only[newExc,newTuple];refine yaa (ydd ?_ (by size_fits));refine yaa (m:=ywm _ _) (wpAny_of_eq (a:=Value.none) (by first|rfl|(simp only[ywm];rfl)) (ydd ?_ (by size_fits)));simp only[ydt];refine yaa (wpAny_handled ?_)
 first|rw[show Ar.in1.handled=none from hd]|rw[hd]
 exact yaa (yea (wpAny_throw (q _ _ (((yxe ..).extBut.push _).push _) ⟨_,yfa _ rfl,rfl⟩)))
def En (h:Heap)(e it t:Addr)(i:Nat):Prop:=(∃old,IsEnum h e it (i:Int) old)∧h.IsTupleIter it t i∧e≠it
theorem zybc {e it t:Addr}{i:Nat}{ys:Array Value}{v:Value}{R:Option Value->Shared->Prop}(hE:En sh.heap e it t i)(h2:sh.heap.IsTuple t ys)(h3:ys[i]?=some v)
  (q:∀g,IsEnumOut g e it ((i:Int)+1) v sh.heap.objs.size->g.IsTupleIter it t (i+1)->g.get? sh.heap.objs.size=some { cls:=.type "tuple",data:=.seq #[.int i sh.toks,v] } →
   (∀b o,b≠e->b≠it->sh.heap.get? b=some o->g.get? b=some o)->R (some (.ref sh.heap.objs.size)) { sh with heap:=g,toks:=sh.toks+1 }):wpAny (model pr wo) Ar (pyNext (.ref e)) R Ex sh:=by
 obtain⟨⟨old,he⟩,h1,ne⟩:=hE;have ty:sh.TypeIs (.ref e) "enumerate":=⟨_,he,rfl⟩;obtain⟨hp,gn,dr,tk,os⟩:=sh;unfold pyNext;refine yaa (yrj (yuc (name:=yuf "__next__") ty yqi (ync yqi ty ybp ?_ (yho _))));refine (show wpAny (model pr wo) Ar.in1 (field (.ref e) 2 >>= _) _ _ ⟨hp,gn,dr,tk,os⟩ from yaa (ynd he rfl (x:=.ref it) rfl ?_));refine yaa (zvab h1 h2 h3 λg1 i1 s1=>?_);have s1':yae it hp g1:=s1;have e1:IsEnum g1 e it (i:Int) old:=(s1'.2 e ne).trans he;refine (show wpAny (model pr wo) Ar.in1 (field (.ref e) 3 >>= _) _ _ ⟨g1,gn,dr,tk,os⟩ from yaa (ynd e1 rfl (x:=rawInt i) rfl ?_));refine (show wpAny (model pr wo) Ar.in1 (field (.ref e) 4 >>= _) _ _ ⟨g1,gn,dr,tk,os⟩ from yaa (ynd e1 rfl (x:=.none) rfl ?_));refine (show wpAny (model pr wo) Ar.in1 (mkInt i >>= _) _ _ ⟨g1,gn,dr,tk,os⟩ from yaa (wpAny_mkInt ?_));refine (show wpAny (model pr wo) Ar.in1 (ybo (.ref e) 3 (rawInt ((i:Int)+1)) >>= _) _ _ ⟨g1,gn,dr,tk+1,os⟩ from yaa (ycc e1 (by simp) λg2 e2 s2=>?_));have s2':yae e g1 g2:=s2;have e2':IsEnum g2 e it ((i:Int)+1) old:=e2;refine (show wpAny (model pr wo) Ar.in1 (ybo (.ref e) 4 .none >>= _) _ _ ⟨g2,gn,dr,tk+1,os⟩ from yaa (ycc e2' (by simp) λg3 e3 s3=>?_));have s3':yae e g2 g3:=s3;have e3':IsEnum g3 e it ((i:Int)+1) old:=e3;refine (show wpAny (model pr wo) Ar.in1 (newTuple [.int i tk,v] >>= _) _ _ ⟨g3,gn,dr,tk+1,os⟩ from yaa (ypk ?_));have sz:g3.objs.size=hp.objs.size:=by rw[s3'.1,s2'.1,s1'.1]
 have lt:e<hp.objs.size:=yoa he;obtain⟨g4,hg4⟩:∃g4,g4=g3.push { cls:=.type "tuple",data:=.seq #[.int i tk,v] }:=⟨_,rfl⟩;have e4:IsEnum g4 e it ((i:Int)+1) old:=by rw[hg4];exact yba _ e3'
 have t4:g4.get? hp.objs.size=some { cls:=.type "tuple",data:=.seq #[.int i tk,v] }:=by rw[hg4,← sz];exact yfa _ rfl
 have k4:∀b o,b≠e->b≠it->hp.get? b=some o->g4.get? b=some o:=λb o n1 n2 z=>by
  rw[hg4];exact yba _ (s3'.extBut b o n1 (s2'.extBut b o n1 (s1'.extBut b o n2 z)))
 have i4:g4.IsTupleIter it t (i+1):=by
  obtain⟨o,z,r⟩:=(i1.extBut s2'.extBut (ysc ne)).extBut s3'.extBut (ysc ne);exact⟨o,by rw[hg4];exact yba _ z,r⟩
 refine (show wpAny (model pr wo) Ar.in1 (yzc (.ref e) >>= _) _ _ ⟨g3.push { cls:=.type "tuple",data:=.seq #[.int i tk,v] },gn,dr,tk+1,os⟩ from ?_);rw[← hg4,sz];refine yaa ?_;unfold yzc;refine yaa (ynd e4 rfl (x:=.none) rfl (yea ?_));simp only[if_true];refine yaa (yyg (yaa (ynd e4 rfl (x:=old) rfl (yaa (ycc e4 (by simp) λg5 e5 s5=>?_)))));have s5':yae e g4 g5:=s5;have e5':IsEnum g5 e it ((i:Int)+1) v:=e5;refine (show wpAny (model pr wo) Ar.in1 (yue (.ref e) (.ref hp.objs.size) >>= _) _ _ ⟨g5,gn,dr,tk+1,os⟩ from yaa ?_);unfold yue;refine yaa (ycc e5' (by simp) λg6 e6 s6=>?_);have s6':yae e g5 g6:=s6;have e6':IsEnumOut g6 e it ((i:Int)+1) v hp.objs.size:=e6;refine ycc e6' (by simp) λg7 e7 s7=>?_;have s7':yae e g6 g7:=s7;have up:∀b o,b≠e->g4.get? b=some o->g7.get? b=some o:=λb o n z=>s7'.extBut b o n (s6'.extBut b o n (s5'.extBut b o n z));refine yaa (yyq (yea ⟨_,rfl,yea (q g7 e7 ?_ (up _ _ (yze lt) t4) λb o n1 n2 z=>up b o n1 (k4 b o n1 n2 z))⟩));obtain⟨o,z,r⟩:=i4;exact⟨o,up _ _ (ysc ne) z,r⟩
theorem zpfc {e it t:Addr}{i:Nat}{ys:Array Value}{R:Option Value->Shared->Prop}(hd:Ar.handled=none)(hE:En sh.heap e it t i)(h2:sh.heap.IsTuple t ys)(h3:ys[i]?=none)
  (q:∀g,yqt it sh.heap g->R none { sh with heap:=g }):wpAny (model pr wo) Ar (pyNext (.ref e)) R Ex sh:=by
 obtain⟨⟨old,he⟩,h1,ne⟩:=hE;have ty:sh.TypeIs (.ref e) "enumerate":=⟨_,he,rfl⟩;unfold pyNext;refine yaa (yrj (yuc (name:=yuf "__next__") ty yqi (ync yqi ty ybp ?_ (yho _))));refine (show wpAny (model pr wo) Ar.in1 (field (.ref e) 2 >>= _) _ _ sh from yaa (ynd he rfl (x:=.ref it) rfl ?_));refine yaa (zekb hd h1 h2 h3 λg x b z=>?_);obtain⟨o,z1,z2⟩:=z;exact yaa (ywk (T:="StopIteration") (b:=true) ⟨o,z1,z2⟩ yqq (yea (q _ b)))
open AutoSeq1 (wpAny_loadPart') in
theorem zbrb (t:Addr)(ys:Array Value)(n:Nat)(dct:Option Addr)(sl:Array (Option Value)):Meets (yle.«enumerate.__new__» ⟨[.type "enumerate",.ref t],[]⟩) (λ_ R s=>s.heap.get? t=some { cls:=.type "tuple",dict:=dct,data:=.seq ys n,slots:=sl } ∧
   R (.ok (.ret (.ref (s.heap.push { cls:=.type "tuple_iterator",data:=.fields #[.ref t,.int 0 0] }).objs.size)))
    { s with heap:=(s.heap.push { cls:=.type "tuple_iterator",data:=.fields #[.ref t,.int 0 0] }).push { cls:=.type "enumerate",data:=.fields #[.none,.bool false,.ref s.heap.objs.size,rawInt 0,.none,.none] } }) :=
 .of_wp λprog w A R s h=>by
  obtain⟨hp,g,d,tk,os⟩:=s;obtain⟨ht,h⟩:=h;have hsub:=sub_enumerate;have hT:Heap.IsTuple (yrt ⟨hp,g,d,tk,os⟩) t ys:=⟨_,ht,rfl,n,rfl⟩
  wp_walk using wpAny_loadPart' ht
  refine wpAny_stack_any λst=>yea ?_
  split
  ·rename_i c _ _ _ _ _;cases (c==Value.type "enumerate")
   ·wp_walk using wpAny_loadPart' ht,yyf hT
    exact⟨_,rfl,h⟩
   ·wp_walk using wpAny_loadPart' ht,yyf hT
    exact⟨_,rfl,h⟩
  ·wp_walk using wpAny_loadPart' ht,yyf hT
   exact⟨_,rfl,h⟩
theorem zaob {t:Addr}{ys:Array Value}{R:Value->Shared->Prop}(hT:sh.heap.IsTuple t ys)
  (q:∀g,En g (sh.heap.objs.size+1) sh.heap.objs.size t 0->(∀b o,sh.heap.get? b=some o->g.get? b=some o)->R (.ref (sh.heap.objs.size+1)) { sh with heap:=g }) :
  wpAny (model pr wo) Ar (call (.type "enumerate") [.ref t]) R Ex sh:=by
 obtain⟨⟨c,dct,dt,sl⟩,ht,hc,n,hd⟩:=hT;have hc':c = .type "tuple":=hc;have hd':dt = .seq ys n:=hd;subst hc' hd';refine callType_new F.called_enumerate (by decide) (F.typeCall_enumerate_1 _) (F.newCall_enumerate_1 _) (λobj=>F.args_object_init_2 obj _) F.entry_enumerate_new (zbrb t ys n dct sl) ⟨ht,?_⟩;obtain⟨g1,hg1⟩:∃g1,g1=sh.heap.push { cls:=.type "tuple_iterator",data:=.fields #[.ref t,.int 0 0] }:=⟨_,rfl⟩;have sz:g1.objs.size=sh.heap.objs.size+1:=by rw[hg1];exact ylc ..
 show _∧_
 rw[← hg1,sz];have he:IsEnum (g1.push { cls:=.type "enumerate",data:=.fields #[.none,.bool false,.ref sh.heap.objs.size,rawInt 0,.none,.none] }) (sh.heap.objs.size+1) sh.heap.objs.size ((0:Nat):Int) .none:=by
  have z:=yfa g1 (o:={ cls:=.type "enumerate",data:=.fields #[.none,.bool false,.ref sh.heap.objs.size,rawInt 0,.none,.none] }) rfl;rw[sz] at z;exact z
 refine⟨⟨_,he,rfl⟩,q _ ⟨⟨_,he⟩,⟨_,yba _ (by rw[hg1];exact yfa _ rfl),rfl,rfl⟩,Nat.succ_ne_self _⟩ λb o x=>yba _ (by rw[hg1];exact yba _ x)⟩
theorem zafb {e it t:Addr}{i:Nat}{R:Value->Shared->Prop}(h:En sh.heap e it t i)(q:R (.ref e) sh):wpAny (model pr wo) Ar (pyIter (.ref e)) R Ex sh:=by
 obtain⟨⟨old,he⟩,_,_⟩:=h;exact yon he q
end
section
variable {X:Cx}{pins:List (Addr×Obj)}{σ:St}{H:Hp}{s:Shared}{h':Heap}
theorem Inv.zwob {t':Nat}{p q:Addr}(I:Inv X pins σ H s)(k:∀b o,b≠p->b≠q->s.heap.get? b=some o->h'.get? b=some o)(fp:FpOk X pins H p)(fq:FpOk X pins H q):Inv X pins σ H { s with heap:=h',toks:=t' }:=by
 have o1:∀b u,H b=some u->b≠p:=λb u e z=>by
  rw[z,fp.1] at e;cases e
 have o2:∀b u,H b=some u->b≠q:=λb u e z=>by
  rw[z,fq.1] at e;cases e
 have kk:∀b o,b∉[p,q]->s.heap.get? b=some o->h'.get? b=some o:=λb o hb e=>k b o (λz=>hb (by simp[z])) (λz=>hb (by simp[z])) e;refine I.step (g':=s.gens) (d':=s.drawn) (ch:=[p,q]) (λb hb=>?_) (λb o _ _ hc e _=>kk b o hc e) (λb o _ _ hc e _=>⟨o.slots,kk b o hc e⟩) (λ_ _ _ _ n=>n)
  (λb o hc e=>⟨o,kk b o hc e⟩) (λ_ _ e=>e) (λ_ _ _ e=>e) (λb ps e=>⟨#[],by rw[e];simp⟩) (λm hm=>?_) (λb u e=>?_) I.bare
 ·have e:b=p∨b=q:=by simpa using hb
  rcases e with e|e
  ·rw[e];exact⟨fp.2.2.2.1,fp.2.1,fp.2.2.2.2.1,fp.2.2.2.2.2⟩
  ·rw[e];exact⟨fq.2.2.2.1,fq.2.1,fq.2.2.2.2.1,fq.2.2.2.2.2⟩
 ·obtain⟨o,es,ep,ho,r⟩:=hm;exact⟨o,es,ep,k _ o (ysc fp.2.1) (ysc fq.2.1) ho,r⟩
 ·refine (I.hok b u e).stay (λc v hc z=>?_) (λ_ z=>z) λ_ _ z=>z
  rcases hc with y|y
  ·rw[y];rw[y] at z;exact k b v (o1 b u e) (o2 b u e) z
  ·exact k c v (o1 c _ y) (o2 c _ y) z
end
def Ite (K:yda)(a:Addr):It :=
 ⟨λi H=>Ex2 λxs x=>SqT K H a xs∧xs[i]?=some x,λi H x H'=>Ex2 λp v=>H p=none∧x = .ref p∧H'=upd H p (.tup [.int (i:Int),v])∧∀xs,SqT K H a xs->xs[i]?=some v,λi H=>∃xs,SqT K H a xs∧xs.length≤i⟩
theorem zmmb {P:yzb}{w:World}{K:yda}{es:List Expr}{k1:Nat}{pos:Pos}(a e it:Addr):Turn P w K (.Tuple es k1 pos) (Ite K a) [e,it] e (λi h=>En h e it a i) where
 mem:=by simp
 obj:=λi h st b hb=>by
  have z:b=e∨b=it:=by simpa using hb
  obtain⟨⟨old,he⟩,⟨o,g1,g2,g3⟩,_⟩:=st
  rcases z with rfl|rfl
  ·exact⟨_,he,λv y=>by cases y⟩
  ·exact⟨o,g1,λv y=>by rw[g3] at y;cases y⟩
 keep:=λi h h' st k=>by
  obtain⟨⟨old,he⟩,⟨o,g1,g2⟩,n⟩:=st;exact⟨⟨old,k e (by simp) _ he⟩,⟨o,k it (by simp) _ g1,g2⟩,n⟩
 item:=by
  intro X hP hw hK hc i pins s σ H E I hf st hg;subst hP hw hK;obtain⟨xs,x,hq,hx⟩:=hg;obtain⟨its,rv,p,hz⟩:=I.tuple hq;obtain⟨u,hu,ru⟩:=rv.get hx;have fe:=hf e (by simp);have fi:=hf it (by simp);have ne:=st.2.2;refine zybc st (show s.heap.IsTuple a its.toArray from p) (v:=u) (by simpa using hu) λg e1 i1 t1 k1=>?_;refine⟨_,rfl,ykm e1 λg2 e2 s2=>?_⟩;have lt1:e<s.heap.objs.size:=by
   obtain⟨⟨old,he⟩,_⟩:=st;exact yoa he
  have lt2:it<s.heap.objs.size:=by
   obtain⟨_,⟨o,g1,_⟩,_⟩:=st;exact yoa g1
  have kk:∀b o,b≠e->b≠it->s.heap.get? b=some o->g2.get? b=some o:=λb o n1 n2 z=>s2.extBut b o n1 (k1 b o n1 n2 z);have tt:g2.get? s.heap.objs.size=some { cls:=.type "tuple",data:=.seq #[.int i s.toks,u] }:=s2.extBut _ _ (yze lt1) t1;have na:∀b,b<s.heap.objs.size->b≠s.heap.objs.size:=λb h=>yfb h;have I1:Inv X pins σ (upd H s.heap.objs.size (.tup [.int (i:Int),x])) { s with heap:=s.heap.push { cls:=.type "tuple",data:=.seq #[.int i s.toks,u] },toks:=s.toks+1 } :=
   I.laid (t':=s.toks+1) (λb o z=>yba _ z) (yga _) ⟨by show 2≤yva;decide,[.int i s.toks,u],.cons ⟨_,rfl⟩ (.cons ru .nil),⟨_,yfa _ rfl,rfl,_,rfl⟩⟩
  have fo:∀b,b<s.heap.objs.size->FpOk X pins H b->FpOk X pins (upd H s.heap.objs.size (.tup [.int (i:Int),x])) b:=λb h f=>⟨by rw[zbb (na b h)];exact f.1,f.2⟩;have I2:=I1.zwob (h':=g2) (t':=s.toks+1) (p:=e) (q:=it) (λb o n1 n2 z=>by
   by_cases hb:b=s.heap.objs.size
   ·rw[hb] at z ⊢;rw[yfa _ rfl] at z;cases z;exact tt
   ·rw[ypn _ _ _ hb] at z;exact kk b o n1 n2 z) (fo e lt1 fe) (fo it lt2 fi)
  refine⟨.ref s.heap.objs.size,_,I2,rfl,⟨s.heap.objs.size,x,I.hok.fresh (yga _),rfl,rfl,λys hy=>by rw[I.ziv hy hq];exact hx⟩,⟨⟨u,e2⟩,?_,ne⟩,λb hb=>?_⟩
  ·obtain⟨o,z,r⟩:=i1;exact⟨o,s2.extBut _ _ (ysc ne) z,r⟩
  ·have z:b=e∨b=it:=by simpa using hb
   rcases z with rfl|rfl
   ·exact (fo _ lt1 fe).1
   ·exact (fo _ lt2 fi).1
 done:=by
  intro X hP hw hK hc i pins s σ H E I hf st hg;subst hP hw hK;obtain⟨xs,hq,hx⟩:=hg;obtain⟨its,rv,p,hz⟩:=I.tuple hq;obtain⟨f0,f1,f2,f3,f4,f5⟩:=hf it (by simp);have hl:=rv.length;exact zpfc (I.ok.hd hc) st (show s.heap.IsTuple a its.toArray from p) (by simp;omega) λg eb=>⟨rfl,I.turned (t':=s.toks) (λb o hb z=>eb b o hb z) f0 f1 f3 f4 f5⟩
 self:=λ_ _ _ _ _ st h=>zafb st h
section
variable {X:Cx}
theorem zpfb:yki "enumerate" = some (.type "enumerate"):=by decide +kernel
def iEnT (K:yda)(ta:TA):TI:=fun σ H R=>ta σ H λvs H1=>Ex2 λa xs=>vs=[.ref a]∧SqT K H1 a xs∧R (Ite K a) H1
theorem znu {es:List Expr}{k1:Nat}{tp:Pos}{a:Expr}{ta:TA}{p pos:Pos}(hg:Gl X "enumerate")(hm:X.mg "enumerate" = none)(ha:PA X [a] ta)(hs:yxc [a] X.env=[(false,eval a X.env)]:=by rfl):PI X (.Tuple es k1 tp) (.Call (.Name "enumerate" p) [a] [] pos) (iEnT X.K ta):=by
 intro pins s σ H R I h;refine Call_ (zgr I hg hm zpfb (ymd (thn (ha pos pins s σ H _ I h) λus s1 ⟨vs,H1,I1,r1,q1⟩=>?_) hs rfl));obtain⟨b,xs,e,hq,q⟩:=q1;subst e;obtain⟨u,rfl,ru⟩:=vals1 r1;cases ru;obtain⟨its,rv,pl,hz⟩:=I1.tuple hq;refine zaob (show s1.heap.IsTuple b its.toArray from pl) λg en kp=>?_;refine zafb (sh:={ s1 with heap:=g }) en ?_;refine⟨s1.heap.objs.size+1,[s1.heap.objs.size+1,s1.heap.objs.size],_,_,H1,rfl,I1.kept (t':=s1.toks) kp,zmmb b _ _,en,λc hc=>?_,q⟩;have z:c=s1.heap.objs.size+1∨c=s1.heap.objs.size:=by simpa using hc
 rcases z with rfl|rfl
 ·exact I1.fpOk (ype _) (I1.hok.fresh (ype _))
 ·exact I1.fpOk (yga _) (I1.hok.fresh (yga _))
end
theorem zjfb {K:yda}{a:Addr}{xs:List V}{g:TG}{tb:TS}{D:Ends}{σ:St}{H:Hp}(Pv:Nat->St->Hp->Prop)(h0:Pv 0 σ H)(hl:∀i σ H,i≤xs.length->Pv i σ H->SqT K H a xs)
  (hs:∀i x σ H p,xs[i]?=some x->Pv i σ H->H p=none->g (.ref p) σ (upd H p (.tup [.int (i:Int),x])) fun σ2 H2=>tb { D with nx:=Pv (i+1),ct:=Pv (i+1),bk:=D.nx } σ2 H2) (hd:∀ σ H,Pv xs.length σ H->D.nx σ H) :
  ∃W:Nat->Nat->St->Hp->Prop,(∃m,W 0 m σ H)∧∀i m σ H,W i m σ H →
   ((Ite K a).stop i H∧D.nx σ H)∨((Ite K a).go i H∧∃N:St->Hp->Prop,(∀ σ' H',N σ' H'->∃m',m'<m∧W (i+1) m' σ' H')∧∀x H',(Ite K a).yld i H x H'->g x σ H' fun σ2 H2=>tb { D with nx:=N,ct:=N,bk:=D.nx } σ2 H2):=by
 refine⟨λi m σ H=>m=xs.length-i∧i≤xs.length∧Pv i σ H,⟨xs.length,rfl,ywa _,h0⟩,?_⟩;rintro i m σ H ⟨rfl,hi,pv⟩;have sq:=hl i σ H hi pv
 by_cases lt:i<xs.length
 ·have ex:xs[i]?=some xs[i]:=ybb lt;refine .inr ⟨⟨xs,xs[i],sq,ex⟩,Pv (i+1),fun σ' H' z=>⟨xs.length-(i+1),by omega,rfl,lt,z⟩,λx H' y=>?_⟩;obtain⟨p,v,hp,rfl,rfl,hv⟩:=y;exact hs i v σ H p (hv xs sq) pv hp
 ·obtain rfl:i=xs.length:=by omega
  exact .inl ⟨⟨xs,sq,yga _⟩,hd σ H pv⟩
end L2
namespace L2
open PySem PyProof.Rows
section
variable {X:Cx}{e st:Expr}{te ts:TE}{p2 pos:Pos}
end
end L2
namespace DL
open PySem PySem.Spec PyProof.Rows
section
variable {prog:yzb}{w:World}{A:Around}{E:Value->Shared->Prop}{s:Shared}
section
variable {κ:Type}[DecidableEq κ]{knd:KeyKind prog w κ}
end
end
end DL
namespace L2
open PySem PyProof.Rows
section
variable {X:Cx}
end
end L2
namespace SSet
open PySem PySem.Spec PyProof.Rows
section
variable {prog:yzb}{w:World}{A:Around}{E:Value->Shared->Prop}{s:Shared}
theorem set_tuple {l:Addr}{its:Array Value}{xs:List Str}{Q:Value->Shared->Prop}(hh:A.handled=none)(hl:s.heap.IsTuple l its)(hi:yum its.toList xs)(hb:its.size+1<ymg)
  (h:∀(h':Heap) (tk:Nat),SS prog w h' s.heap.objs.size (dd xs) (!w.params.followText "set-order")->(∀c o,s.heap.get? c=some o->h'.get? c=some o)->Q (.ref s.heap.objs.size) { s with heap:=h',toks:=tk }) :
  wpAny (model prog w) A (call (.type "set") [.ref l]) Q E s:=by
 obtain⟨cM,tM,mro⟩:=ynb.mro;have made:=ynb.made;have subs:=ynb.sub;have notT:=ynb.notType;have canC:=ynb.canCreate;have chk:=yzj (.ref l);refine ykq (ytl ?_);show wpAny _ _ (callAny (.type "set") ⟨[.ref l],[]⟩) _ _ _
 refine yea ⟨ypj _ (by decide +kernel),yyc yqj ?_⟩;rw[ynm (yrk "set" [Value.ref l] []) rfl]
 repeat (any_goals (first|assumption|wp_step))
 refine yzg (zxhb (.ref l) (E:=E) (Q1:=λob s1=>ob = .ref s.heap.objs.size∧s1={ s with heap:=s.heap.push (empt w) }) ⟨rfl,rfl⟩) λr s1 hr=>?_;cases r with
 | error e=>exact hr
 | ok fl =>
  cases fl with
  | ret ob =>
   obtain⟨rfl,rfl⟩:=hr;have g0:(s.heap.push (empt w)).get? s.heap.objs.size=some (empt w):=yfa _ rfl;have ty0:yui { s with heap:=s.heap.push (empt w) } (.ref s.heap.objs.size) "set":=⟨_,g0,rfl⟩;have lk:=ynb.init.lookup;have bd:=ynb.init.bind (.ref s.heap.objs.size)
   repeat (any_goals (first|assumption|wp_step))
   refine yzg (ybl (R:=wants (λr s2=>r = .none∧∃h' tk,s2={ s with heap:=h',toks:=tk }∧SS prog w h' s.heap.objs.size (dd xs) (!w.params.followText "set-order") ∧
     (∀c o,s.heap.get? c=some o->h'.get? c=some o)) E) ynb.init.plain yak (yro ty0 ?_)) λr2 s2 hr2=>?_
   ·obtain⟨ol,e1,e2,nl,e3⟩:=hl;obtain⟨oc,od,oD,osl⟩:=ol;dsimp only at e2 e3;subst e2 e3;have e1':(s.heap.push (empt w)).get? l=some { cls:=.type "tuple",dict:=od,data:=.seq its nl,slots:=osl }:=yba _ e1;have q1:=yaq;have q2:=yam;have q3:(Value.type "tuple" == Value.type "dict")=false:=by decide
    have L1:(s.heap.push (empt w)).IsTuple l its:=⟨_,e1',rfl,nl,rfl⟩;have lt:l<s.heap.objs.size:=yoa e1;unfold yle.«set.__init__» noKeywords yji;generalize hPI:pyIter=PI
    wp_walk
    subst hPI;refine yyf L1 (yaa (ybj ?_));have ne:l≠(s.heap.push (empt w)).objs.size:=by
     rw[ylc];exact yfb (yne lt)
    have nf:s.heap.objs.size∉[(s.heap.push (empt w)).objs.size,l]:=by
     rw[ylc];intro z
     rcases yja.mp z with z|z
     ·exact absurd z (yfb (ymf _))
     ·exact absurd (yka.mp z) (yze lt)
    have hv:∀(i:Nat) (v:Value),its[i]?=some v->∃x t,xs[i]?=some x∧v = .str x t:=λi v e=>zugb hi i v (by rw[yac];exact e);have hx:xs.take its.size=xs:=yra (by rw[← ysa,hi.length];exact yga _);refine zlu (b:=!w.params.followText "set-order") (Walks.tuple (by simp[hh]) _ l ne its) nf xs hv hb (its.size-0) 0 _ (by omega) (ywa _) ⟨⟨_,yfa _ rfl,rfl,rfl⟩,L1.push _⟩ ?S0 ?R0
    case S0=>exact (zgsb s.heap).keep λo e=>yba _ e
    case R0 =>
     intro h' tk S' keep;rw[hx] at S';show wpAny _ _ _ _ _ _
     refine yea ?_;show wpAny _ _ (ret Value.none) _ _ _
     refine yea ⟨rfl,h',tk,rfl,S',λc o e=>?_⟩;have clt:=yoa e;refine keep c o ?_ (yba _ (yba _ e));rw[ylc];intro z
     rcases yja.mp z with z|z
     ·exact absurd z (yfb clt)
     ·exact absurd (yka.mp z) (yfb (yne clt))
   ·cases r2 with
    | error e=>exact hr2
    | ok fl2 =>
     cases fl2 with
     | ret r =>
      obtain⟨rfl,h',tk,rfl,S',keep⟩:=hr2
      repeat (any_goals (first|assumption|wp_step))
      exact h _ _ S' keep
     | next=>exact hr2.elim
     | brk=>exact hr2.elim
     | cont=>exact hr2.elim
  | next=>exact hr.elim
  | brk=>exact hr.elim
  | cont=>exact hr.elim
end
end SSet
namespace L2
open PySem PyProof.Rows
section
variable {X:Cx}
theorem znfb (hc:X.calm=true):zfi X (.type "set") (λxs H Q=>∃p ys,xs=[.ref p]∧SqT X.K H p (ys.map V.str)∧ys.length≤1000∧∀l,H l=none->Q (.ref l) (upd H l (setO X l (SSet.dd ys)))):=by
 intro pins s σ H xs us Q I r h;obtain⟨p,ys,rfl,hq,hy,q⟩:=h;obtain⟨u,rfl,ru⟩:=vals1 r;cases ru;obtain⟨its,rv,pl,hz⟩:=I.tuple hq;have sy:=zfq rv;have il:its.length=ys.length:=sy.length;refine SSet.set_tuple (xs:=ys) (I.ok.hd hc) pl (by simpa using sy) (by rw[yqa,il];have:ymg=4096:=rfl;omega) λh' tk S k=>?_;have I1:Inv X pins σ (upd H s.heap.objs.size (setO X s.heap.objs.size (SSet.dd ys))) { s with heap:=h',toks:=tk }:=I.laid (t':=tk) (λb o e=>k b o e) (yga _) ⟨S,let ⟨o,_,_,_,e,_⟩:=S;⟨o,e⟩,λh1 h2 x y=>x.keep y⟩;exact⟨.ref s.heap.objs.size,_,I1,rfl,q _ (I.hok.fresh (yga _))⟩
end
end L2
namespace L2
open PySem PySem.Spec PyProof.Rows PySem.MeetsSeq
theorem zzfc (l b:Addr)(items items2:Array Value)(n n2:Nat)(dd dd2:Option Addr)(sl sl2:Array (Option Value))(hc0:items.isEmpty=true) :
  Meets (yle.«tuple.__add__» ⟨[.ref l,.ref b],[]⟩) (λ_ R s=>s.heap.get? l=some { cls:=.type "tuple",dict:=dd,data:=.seq items n,slots:=sl }∧s.heap.get? b=some { cls:=.type "tuple",dict:=dd2,data:=.seq items2 n2,slots:=sl2 }∧R (.ok (.ret (Value.ref b))) s):=by
 refine .of_wp λprog w A R s h=>?_;obtain⟨hp,g,d,tk,os⟩:=s;obtain⟨hl,hb,h⟩:=h;have f2:=PySem.F.sub_tuple_tuple;unfold yle.«tuple.__add__»
 wp_walk using wpAny_loadPart' hl,wpAny_loadPart' hb
 exact⟨_,rfl,h⟩
section
variable {X:Cx}
def zbyb (K:yda):R2:=λx y H Q=>Ex4 λa b xs ys=>x = .ref a∧y = .ref b∧SqT K H a xs∧SqT K H b ys∧ys≠[]∧xs.length+ys.length≤yva∧(xs=[]->Q (.ref b) H)∧(xs≠[]->∀p,H p=none->Q (.ref p) (upd H p (.tup (xs++ys))))
theorem zko:OpR X (ydj .Add) (zbyb X.K):=by
 intro pins s σ H x y v u Q I rx ry h;obtain⟨a,b,xs,ys,rfl,rfl,ha,hb,hy,hz,q1,q2⟩:=h
 by_cases c:xs=[]
 ·subst c;cases rx;cases ry;obtain⟨its,r1,p1,_⟩:=I.tuple ha;obtain⟨its2,r2,p2,_⟩:=I.tuple hb;cases r1;obtain⟨⟨cls,dd,data,sl⟩,ho,hc,n,hd⟩:=id p1;obtain⟨⟨cls2,dd2,data2,sl2⟩,ho2,hc2,n2,hd2⟩:=id p2;simp only at hc hd hc2 hd2;subst hc hd hc2 hd2;exact ynp ⟨_,ho,rfl⟩ ⟨_,ho2,rfl⟩ yvk yao ygi yai (yph _ _)
   (zzfc a b _ its2.toArray n n2 dd dd2 sl sl2 rfl) ⟨ho,ho2,⟨.ref b,H,I,rfl,q1 rfl⟩⟩
 ·exact zzh pins s σ H (.ref a) (.ref b) v u Q I rx ry ⟨a,b,xs,ys,rfl,rfl,ha,hb,c,hz,λz=>absurd z hy,λ_=>q2 c⟩
end
end L2
namespace L2
open PySem PyProof.Rows
section
variable {X:Cx}
end
end L2
namespace DK
open PySem PySem.Spec PyProof.Rows
section
variable {prog:yzb}{w:World}{A:Around}{E:Value->Shared->Prop}{s:Shared}
end
end DK
namespace L2
open PySem PyProof.Rows
section
variable {X:Cx}{pins:List (Addr×Obj)}{σ:St}{H:Hp}{s:Shared}
end
section
variable {X:Cx}
end
end L2
namespace L2
open PySem PyProof.Rows
section
variable {X:Cx}
theorem zoqb (hu:X.A.units+64<cLine):OpR X (yaf .NotIn) (λx y H Q=>Ex2 λd ds=>DV X.K H x d∧DV X.K H y (.list ds)∧yhc d=true∧yhc (.list ds)=true∧d.depth≤8∧Q (.bl (!ds.any λe=>ypd e d)) H):=by
 intro pins s σ H x y v u Q I rx ry h;obtain⟨d,ds,hd,he,s1,s2,dp,q⟩:=h;obtain⟨as,r1⟩:=hd.reads I rx;obtain⟨bs,r2⟩:=he.reads I ry;have c2:=yhi s2;rw[yec] at c2;exact SeqAt.notIn_list_reads r2 r1 c2 (yhi s1) (by have:=yoo (yvb ds) d.depth;omega) ⟨.bl _,H,I,rfl,q⟩
theorem zcnb (K:yda)(hu:X.A.units+64<cLine)(hK:X.K=K:=by rfl):OpR X (yaf .NotIn) (λx y H Q=>Ex2 λd ds=>DV K H x d∧DV K H y (.list ds)∧yhc d=true∧yhc (.list ds)=true∧d.depth≤8∧Q (.bl (!ds.any λe=>ypd e d)) H):=hK▸zoqb hu
end
end L2
namespace L2
open PySem PyProof.Rows
section
open PySem.SeqAt PySem.MeetsSeq
open AutoSeq1 (wpAny_loadPart')
theorem zxdc (q:Addr)(ys:Array Value)(c:Nat)(z:Value)(f:Value->Bool)(j:Nat)(lt:j<ys.size)(yes:f ys[j]=true)(le:ys.size≤yva)(k:Nat):∀i:Nat,j-i=k->i≤j->(∀m (hm:m<ys.size),i≤m->m<j->f ys[m]=false) →
  Meets (yle.«list.remove.loop» ⟨[.ref q,z,rawInt i],[]⟩) (λA R s=>s.heap.get? q=some { cls:=.type "list",data:=.seq ys c }∧(∀y,y∈ys->EqAt A.in1 s y z (f y))∧R (.ok (.ret .none)) { s with heap:=s.heap.update q (yzd λu=>u.eraseIdxIfInBounds j) }):=by
 induction k with
 | zero =>
  intro i ek il no pr wo A R sh h;obtain⟨hp,g,d,tk,os⟩:=sh;obtain⟨hq,hf,h⟩:=h;obtain rfl:i=j:=by omega
  wp_walk using wpAny_loadPart' hq
  rw[show ys[((i:Nat):Int).toNat]?=some ys[i] by simp[lt]];refine yaa (hf _ (ycs lt) pr wo _ _ ?_);rw[yes];have z':(ys.eraseIdxIfInBounds i).size≤yva+1:=yob (MeetsSeq.size_erased ys _) (Nat.le_succ_of_le le)
  wp_walk using (yuj hq rfl (hz:=le) (_hz':=z')),wpAny_loadPart' hq
  simpa using h
 | succ k ih =>
  intro i ek il no pr wo A R sh h;obtain⟨hp,g,d,tk,os⟩:=sh;obtain⟨hq,hf,h⟩:=h;have li:i<ys.size:=by omega
  wp_walk using wpAny_loadPart' hq
  rw[show ys[((i:Nat):Int).toNat]?=some ys[i] by simp[li]];refine yaa (hf _ (ycs li) pr wo _ _ ?_);rw[no i li (yga _) (by omega)]
  wp_walk
  rw[show ((i:Int)+1)=((i+1:Nat):Int) by omega];exact⟨ysf ymk _,yyc entry_remove_loop (by
   rw[ycd ymk _];exact ih (i+1) (by omega) (by omega) (λm hm a b=>no m hm (by omega) b) pr wo A R _ ⟨hq,hf,h⟩)⟩
theorem zydc (q:Addr)(ys:Array Value)(c:Nat)(z:Value)(f:Value->Bool)(j:Nat)(lt:j<ys.size)(yes:f ys[j]=true)(no:∀m (hm:m<ys.size),m<j->f ys[m]=false)(le:ys.size≤yva) :
  Meets (yle.«list.remove» ⟨[.ref q,z],[]⟩) (λA R s=>s.heap.get? q=some { cls:=.type "list",data:=.seq ys c }∧(∀y,y∈ys->EqAt A.in1 s y z (f y))∧R (.ok (.ret .none)) { s with heap:=s.heap.update q (yzd λu=>u.eraseIdxIfInBounds j) }):=by
 intro pr wo A R sh h;obtain⟨hp,g,d,tk,os⟩:=sh;obtain⟨hq,hf,h⟩:=h
 wp_walk using wpAny_loadPart' hq
 exact⟨ysf ymk _,yyc entry_remove_loop (by
  rw[ycd ymk _];exact zxdc q ys c z f j lt yes le _ 0 rfl (ywa _) (λm hm _ b=>no m hm b) pr wo A R _ ⟨hq,hf,h⟩)⟩
end
section
variable {X:Cx}
def zwac (X:Cx):V->List V->Hp->VK->Prop:=λx vs H Q=>Ex7 λ(l:Addr) (xs:List V) (u:V) (d:PyData) (ds:List PyData) (j:Nat) (dj:PyData)=>x = .ref l∧vs=[u]∧H l=some (.lst xs)∧DV X.K H (.ref l) (.list ds)∧DV X.K H u d∧yhc d=true∧yhc (.list ds)=true∧d.depth≤8∧ds[j]?=some dj∧ypd dj d=true∧(∀(m:Nat) (dm:PyData),m<j->ds[m]?=some dm->ypd dm d=false)∧Q .non (upd H l (.lst (xs.eraseIdx j)))
theorem zonb (hu:X.A.units+64<cLine):MtM X "list.remove" (zwac X):=by
 intro pins s σ H x vs v us Q I rx rv h;obtain⟨l,xs,u,d,ds,j,dj,rfl,rfl,hH,hD,hd,s1,s2,dp,ej,yes,no,q⟩:=h;obtain⟨as,r2⟩:=hD.reads I rx;cases rx;obtain⟨w,rfl,rw'⟩:=rv.one;obtain⟨bs,r1⟩:=hd.reads I rw';obtain⟨z,its,n,r,hl,e⟩:=I.lstM hH;have c2:=yhi s2;rw[yec] at c2;have c1:=yhi s1;have al:∃as',ReadsAll s.heap its.toArray.toList ds as':=by
  cases r2 with
  | list h1 h2 h3 h4 =>
   rw[e] at h1;cases h1;injection h3 with h3 _
   subst h3;exact⟨_,h4⟩
 obtain⟨as',rs⟩:=al;have mp:=SeqAt.readsAll_map ds _ _ c2 rs;have at_:∀(m:Nat) (hm:m<its.toArray.size),ds[m]?=some (yps s.heap its.toArray[m]):=λm hm=>by
  rw[← mp,yia,yac,ykb hm];rfl
 have jl:j<its.toArray.size:=by
  have z:=(yha.mp ej).1;rw[← mp,yca,ysa] at z;exact z
 have ey:=SeqAt.items_eqAt (A:=X.A) rs r1 c2 c1 (by have:=yoo (yvb ds) d.depth;omega);refine ywg F.slot_list_remove ⟨_,e,rfl⟩ F.entry_list_remove (F.args_list_remove_2 _ _)
  (zydc l its.toArray n w (λy=>ypd (yps s.heap y) d) j jl ?_ ?_ (by rw[yqa];omega)) ⟨e,ey,?_⟩
 ·have y:=at_ j jl;rw[ej] at y;injection y with y
  show ypd (yps s.heap its.toArray[j]) d=true
  rw[← y];exact yes
 ·exact λm hm lt=>no m _ lt (at_ m hm)
 ·refine⟨.non,_,I.lset (its':=its.eraseIdx j) hH e ?_ (r.eraseIdx j) ?_,rfl,q⟩
  ·show its.toArray.eraseIdxIfInBounds j=(its.eraseIdx j).toArray;rw[yhk]
  ·have:=zow xs j;omega
end
section
open TSort
end
section
variable {pr:yzb}{wo:World}{A:Around}{R:Result->Shared->Prop}{I S:Addr}{fp wr:List Addr}{n:Nat}{P:Nat->Value->Prop}{St:Nat->Heap->Prop}{h0:Heap}
end
section
variable {pr:yzb}{wo:World}{A:Around}{E:Value->Shared->Prop}{s:Shared}
end
section
variable {X:Cx}
end
end L2
namespace ISet
open PySem PySem.Spec PyProof.Rows
def Rise (xs:Array Nat):Prop:=xs.toList.Pairwise (· < ·)
theorem Rise.at {xs:Array Nat}(h:Rise xs){i j:Nat}(hij:i<j)(hj:j<xs.size):xs[i]<xs[j]:=by
 have z:=yih.mp h i j (by simp;omega) (by simp;omega) hij
 simpa using z
theorem ztbc {xs:Array Nat}(h:Rise xs)(j:Nat):∀(fuel lo hi:Nat),hi≤xs.size->lo≤hi->hi-lo≤fuel->(∀i (hi':i<xs.size),i<lo->xs[i]<j)->(∀i (hi':i<xs.size),hi≤i->j≤xs[i]) →
  yig xs j fuel lo hi≤xs.size∧(∀i (hi':i<xs.size),i<yig xs j fuel lo hi->xs[i]<j)∧(∀i (hi':i<xs.size),yig xs j fuel lo hi≤i->j≤xs[i]):=by
 intro fuel
 induction fuel with
 | zero =>
  intro lo hi h1 h2 h3 h4 h5;have e:lo=hi:=by omega
  subst e;unfold yig;exact⟨h1,h4,h5⟩
 | succ n ih =>
  intro lo hi h1 h2 h3 h4 h5;unfold yig
  by_cases c:lo<hi
  ·rw[if_pos c];have hm:(lo+hi) / 2<xs.size:=(by omega);have eg:xs.getD ((lo+hi) / 2) j=xs[(lo+hi) / 2]:=by
    rw[ylg,ykb hm];rfl
   dsimp only;rw[eg]
   by_cases c2:xs[(lo+hi) / 2]<j
   ·rw[if_pos c2];refine ih _ _ h1 (by omega) (by omega) (λi hi' hl=>?_) h5
    rcases yyh i ((lo+hi) / 2) with z|z
    ·exact Nat.lt_trans (h.at z hm) c2
    ·have e:i=(lo+hi) / 2:=by omega
     subst e;exact c2
   ·rw[if_neg c2];refine ih _ _ (by omega) (by omega) (by omega) h4 (λi hi' hl=>?_)
    rcases yyh ((lo+hi) / 2) i with z|z
    ·have:=h.at z hi';omega
    ·have e:i=(lo+hi) / 2:=by omega
     subst e;omega
  ·rw[if_neg c];have e:lo=hi:=(by omega);subst e;exact⟨h1,h4,h5⟩
theorem zns {xs:Array Nat}(h:Rise xs)(j:Nat):yic xs j≤xs.size∧(∀i (hi:i<xs.size),i<yic xs j->xs[i]<j)∧(∀i (hi:i<xs.size),yic xs j≤i->j≤xs[i]) :=
 ztbc h j xs.size 0 xs.size (yga _) (ywa _) (by omega) (λi _ h=>absurd h (Nat.not_lt_zero _)) (λi h1 h2=>by omega)
theorem zcob {xs:Array Nat}(h:Rise xs){i:Nat}(hi:i<xs.size):yic xs (xs[i]+1)=i+1:=by
 obtain⟨b1,b2,b3⟩:=zns h (xs[i]+1);generalize hp:yic xs (xs[i]+1)=p at b1 b2 b3
 rcases yds p (i+1) with z|z|z
 ·have:=b3 i hi (by omega);omega
 ·exact z
 ·have q:=b2 (i+1) (by omega) z;have r:=h.at (show i<i+1 by omega) (show i+1<xs.size by omega);omega
theorem zbob {xs:Array Nat}(h:Rise xs):yic xs 0=0:=by
 obtain⟨b1,b2,b3⟩:=zns h 0;generalize hp:yic xs 0=p at b1 b2 b3
 rcases ynr p with z|z
 ·exact z
 ·have:=b2 0 (by omega) z;omega
theorem zgib {α:Type}(xs:Array α)(p:Nat)(x:α):(yqn xs p x).toList=xs.toList.take p++x::xs.toList.drop p:=by
 unfold yqn;rw[yci,yjk,ydl,ydl];simp[yra]
theorem zgvb {xs:Array Nat}(h:Rise xs){j:Nat}(hj:¬ xs[yic xs j]?=some j):Rise (yqn xs (yic xs j) j):=by
 obtain⟨b1,b2,b3⟩:=zns h j;generalize hp:yic xs j=p at hj b1 b2 b3;unfold Rise;rw[zgib,List.pairwise_append,yqm];have lt:∀a∈xs.toList.take p,a<j:=λa ha=>by
  obtain⟨i,hi⟩:=yzi ha;rw[List.getElem?_take] at hi
  split at hi
  ·rename_i c;obtain⟨hi',e⟩:=yha.mp hi;rw[← e];exact b2 i (by simpa using hi') c
  ·cases hi
 have gt:∀a∈xs.toList.drop p,j<a:=λa ha=>by
  obtain⟨i,hi⟩:=yzi ha;rw[ynj] at hi;obtain⟨hi',e⟩:=yha.mp hi;have hs:p+i<xs.size:=by simpa using hi'
  have q:=b3 (p+i) hs (by omega);have e':xs[p+i]=a:=by simpa using e
  rw[e'] at q
  rcases Nat.lt_or_eq_of_le q with z|z
  ·exact z
  ·exfalso
   rcases ynr i with y|y
   ·subst y;apply hj;have hs':p<xs.size:=hs;rw[ykb hs',z]
    congr 1
   ·have r:=h.at (show p<p+i by omega) hs;have s:=b3 p (by omega) (yga _);omega
 refine⟨ybq (yfn _ _) h,⟨gt,ybq (List.drop_sublist _ _) h⟩,λa ha b hb=>?_⟩
 rcases yja.mp hb with z|z
 ·rw[z];exact lt a ha
 ·exact Nat.lt_trans (lt a ha) (gt b z)
structure RT (t:yqe):Prop where
 rise:Rise t.place
 none:t.dummies=#[]
theorem RT.stand (t:yqe)(n:Nat):RT (t.standIn n):=⟨by
 show (Array.range n).toList.Pairwise (· < ·)
 rw[Array.toList_range];exact ycp,rfl⟩
theorem RT.or {t:yqe}(h:RT t)(n:Nat):RT (t.orStandIn n):=by
 unfold ykr
 split
 ·exact h
 ·exact RT.stand t n
theorem zjlb {t:yqe}(h:t.dummies=#[])(j:Nat):yqs t.dummies j=false:=by
 rw[h];simp[yqs]
theorem zzmb {t:yqe}(h:RT t)(f:Nat->Int)(x:Int):∀(n:Nat) (p:yqe.Probe),p.dummy=none->∀j d,yfs t f x n p=some (.empty j d)->d=none∧t.slot j = .empty:=by
 intro n
 induction n with
 | zero=>intro p hp j d e;cases e
 | succ n ih =>
  intro p hp j d e;unfold yfs at e;cases hs:t.slot p.j with
  | empty =>
   rw[hs] at e;injection e with e
   injection e with e1 e2
   rw[← e1,← e2];exact⟨hp,hs⟩
  | dummy =>
   exfalso;unfold ywt at hs;dsimp only at hs;rw[zjlb h.none] at hs
   split at hs
   ·cases hs
   ·simp at hs
  | live i =>
   rw[hs] at e;dsimp only at e;have adv:(t.advance p).dummy=none:=by
    unfold yqe.advance
    split
    ·exact hp
    ·exact hp
   split at e
   ·injection e with e
    cases e
   ·exact ih _ adv j d e
theorem zubc {t:yqe}(h:RT t){x:Int}{j:Nat}{b:Bool}(e:t.freeSlot x=some (j,b)):¬ t.place[yic t.place j]?=some j:=by
 unfold yqe.freeSlot at e
 split at e
 ·rename_i j' d hq;obtain⟨hd,hs⟩:=zzmb h _ _ _ _ rfl _ _ hq;subst hd;injection e with e
  injection e with e _
  have e':j'=j:=e;subst e';intro z;unfold ywt at hs;dsimp only at hs;rw[if_pos (by rw[z];simp)] at hs;cases hs
 ·cases e
theorem RT.put {t:yqe}(h:RT t){j:Nat}(hj:¬ t.place[yic t.place j]?=some j):RT (t.put j).1:=by
 refine⟨zgvb h.rise hj,?_⟩;show (if yqs t.dummies j then _ else t.dummies)=#[]
 rw[zjlb h.none];exact h.none
theorem RT.new {t:yqe}(h:RT t)(es:Array (Int×Value))(x:Int)(v:Value):RT (layNew t es x v).2.1:=by
 unfold layNew
 split
 ·rename_i slot wd hf;exact (h.put (zubc h hf)).or _
 ·exact RT.stand _ _
theorem zgrb (f:Nat->Option Nat)(n:Nat):(((yxb n).filterMap λj=>(f j).map (j,·)).map (·.1)).Pairwise (· < ·):=by
 rw[List.map_filterMap];refine ygl.filterMap _ (R:=λa b:Nat=>a<b) ?_ ycp;intro a a' haa b hb b' hb';cases ha:f a with
 | none=>rw[ha] at hb;cases hb
 | some x =>
  cases ha':f a' with
  | none=>rw[ha'] at hb';cases hb'
  | some y =>
   rw[ha] at hb;rw[ha'] at hb';have e1:a=b:=(by simpa using hb);have e2:a'=b':=(by simpa using hb');rw[← e1,← e2];exact haa
theorem RT.zahc {t:yqe}(h:RT t)(es:Array (Int×Value))(k:Nat):RT (yfj t es k).2.1:=by
 unfold yfj
 split
 ·rename_i u order e;have q:RT u:=by
   unfold yjt yut at e;simp only[bind,Option.bind,pure] at e
   split at e
   ·cases e
   ·injection e with e
    injection e with e _
    rw[← e];exact⟨by
     show (List.toArray _).toList.Pairwise _
     rw[List.toList_toArray];exact zgrb _ _,rfl⟩
  dsimp only
  split
  ·exact q
  ·exact RT.stand _ _
 ·exact RT.stand _ _
end ISet
namespace ISet
open PySem PySem.Spec PyProof.Rows
def intV:Value->Int
 | .int k _=>k
 | _=>0
def IS (prog:yzb)(w:World)(h:Heap)(a:Addr)(D:List Int)(b:Bool):Prop :=
 ∃o es ep t,h.get? a=some o∧o.ExactSet∧o.data = .set es ep t∧yrl (yid prog w) es.toList∧(es.toList.map λe=>intV e.2).Perm D∧es.size<ymg∧t.fits es.size=true∧t.led=b∧RT t
section
variable {prog:yzb}{w:World}{A:Around}{E:Value->Shared->Prop}{s:Shared}
theorem IS.keep {h h':Heap}{a:Addr}{D:List Int}{b:Bool}(x:IS prog w h a D b)(k:∀o,h.get? a=some o->h'.get? a=some o):IS prog w h' a D b:=by
 obtain⟨o,es,ep,t,ho,r⟩:=x;exact⟨o,es,ep,t,k _ ho,r⟩
theorem ztyb {es:List (Int×Value)}(h:yrl (yid prog w) es){e:Int×Value}(he:e∈es):∃x t,e.2 = .int x t∧e.1=(yid prog w).hash x:=by
 obtain⟨⟨k,hk,hh⟩,_⟩:=h e he;obtain⟨t,et⟩:=ybn (k:=k) (v:=e.2) hk;exact⟨k,t,et,hh⟩
theorem znp {es:List (Int×Value)}{D:List Int}{x:Int}(hel:yrl (yid prog w) es)(hp:(es.map λe=>intV e.2).Perm D) :
  x∈D↔∃e∈es,(yid prog w).is x e.2=true:=by
 rw[← hp.mem_iff,yfc]
 constructor
 ·rintro⟨e,he,rfl⟩;obtain⟨y,t,e1,_⟩:=ztyb hel he;refine⟨e,he,?_⟩;rw[e1];show ybk y (.int y t)=true
  simp[ybk]
 ·rintro⟨e,he,hi⟩;obtain⟨t,e1⟩:=ybn (k:=x) (v:=e.2) hi;exact⟨e,he,by rw[e1];rfl⟩
theorem zckb {g:Bool->Sem Unit}(hg:∀(b:Bool) (s₁:Shared) (Q':Unit->Shared->Prop),Q' () s₁->wpAny (model prog w) A (g b) Q' E s₁)
  {a:Addr} {o:Obj} {es:Array (Int×Value)} {ep:Nat} {t:yqe} (ho:s.heap.get? a=some o) (hex:o.ExactSet) (hd:o.data = .set es ep t)
  {fs:Array (Int×Value)} {u:yqe} {D:List Int} {b:Bool} (hel:yrl (yid prog w) fs.toList) (hp:(fs.toList.map λe=>intV e.2).Perm D) (hb:fs.size<ymg) (hf:u.fits fs.size=true) (hl:u.led=b) (hpl:RT u)
  {dm:Bool} {R:Option Bool->Shared->Prop} (h:∀h',yae a s.heap h'->IS prog w h' a D b->R (some true) { s with heap:=h' }) :
  wpAny (model prog w) A (do
    storeSet a fs u
    if (!dm&&u.tooFull)=true then do
        g (yfj u fs (ysd fs.size)).2.2
        storeSet a (yfj u fs (ysd fs.size)).1 (yfj u fs (ysd fs.size)).2.1
        pure (some true)
     else pure (some true)) R E s:=by
 have lim:∀{n:Nat},n<ymg->n≤yva:=λz=>ysh z;refine yaa (yik ho hd ?_ (lim hb));have k1:(s.heap.update a (yth fs u)).get? a=some { o with data:=.set fs (ep+1) u }:=by
  have z:=yhd (yth fs u) ho (by rw[ysl fs u hd];rfl);rw[ysl fs u hd] at z;exact z
 have b1:=yxe s.heap a (yth fs u)
 split
 ·have p2:=relayAll_perm u fs (ysd fs.size);have f2:=relayAll_fits u fs (ysd fs.size);have l2:=(SSet.zveb u fs (ysd fs.size)).1;have q2:=hpl.zahc fs (ysd fs.size);generalize yfj u fs (ysd fs.size)=R2 at p2 f2 l2 q2 ⊢;obtain⟨fs2,u2,gv⟩:=R2;dsimp only at p2 f2 l2 q2 ⊢;have z2:fs2.size=fs.size:=by rw[← ysa,p2.length_eq,ysa]
  refine yaa (hg _ _ _ ?_);refine yaa (yik k1 rfl ?_ (lim (by rw[z2];exact hb)));have k2:((s.heap.update a (yth fs u)).update a (yth fs2 u2)).get? a=some { o with data:=.set fs2 (ep+1+1) u2 }:=by
   have z:=yhd (yth fs2 u2) k1 (by rw[ysl fs2 u2 rfl];rfl);rw[ysl fs2 u2 rfl] at z;exact z
  exact yea (h _ (b1.trans (yxe _ a _)) ⟨_,fs2,_,u2,k2,hex,rfl,ElemsOf.perm hel p2,(p2.map _).trans hp,by rw[z2];exact hb,f2,l2.trans hl,q2⟩)
 ·exact yea (h _ b1 ⟨_,fs,_,u,k1,hex,rfl,hel,hp,hb,hf,hl,hpl⟩)
theorem add_int {a:Addr}{D:List Int}{b:Bool}{x:Int}{tk:Tok}{Q:Bool->Shared->Prop}(hS:IS prog w s.heap a D b)(hroom:D.length+1<ymg)
  (h:∀h' r,yae a s.heap h'->IS prog w h' a (if x∈D then D else D++[x]) b->Q r { s with heap:=h' }) :
  wpAny (model prog w) A (yqp a (.int x tk) ((yid prog w).hash x)) Q E s:=by
 obtain⟨o,es,ep,t,ho,hex,hd,hel,hp,hb,hf,hl,hpl⟩:=hS;have key:(yid prog w).is x (.int x tk)=true:=by
  show ybk x (.int x tk)=true
  simp[ybk]
 have hz:es.size=D.length:=by rw[← hp.length_eq,yca,ysa]
 unfold yqp setAddHashedIn;refine yad (yaa (yed ho hd hf ?_));dsimp only;rw[byScan_of (x:=.int x tk) rfl hb hel];simp only[↓reduceIte];unfold setAddByScan;refine yaa (yaa (yyg (yaa (wpAny_setScan_of key ho hd hf hel ?_))));have mi:=znp (x:=x) hel hp;cases hr:List.findIdx? (λe=>(yid prog w).is x e.2) es.toList with
 | some j =>
  obtain⟨hj,hpj,_⟩:=yoj.mp hr;have hin:x∈D:=mi.mpr ⟨_,yqo hj,hpj⟩;dsimp only;refine yea (yea ?_);have z:=h s.heap false (yjn a s.heap);rw[if_pos hin] at z;exact z ⟨o,es,ep,t,ho,hex,hd,hel,hp,hb,hf,hl,hpl⟩
 | none =>
  have hno:¬ x∈D:=λhin=>by
   obtain⟨e,he,hi⟩:=mi.mp hin;have z:=yvm.mp hr e he;rw[hi] at z;cases z
  simp only[if_neg hno] at h;dsimp only;have p1:=layNew_perm t es ((yid prog w).hash x) (.int x tk);have f1:=layNew_fits t es ((yid prog w).hash x) (.int x tk);have l1:=SSet.zjrb t es ((yid prog w).hash x) (.int x tk);have r1:=hpl.new es ((yid prog w).hash x) (.int x tk);generalize layNew t es ((yid prog w).hash x) (.int x tk)=L at p1 f1 l1 r1 ⊢;obtain⟨fs,u,dm,gave⟩:=L;dsimp only at p1 f1 l1 r1 ⊢;rw[yjk] at p1;have el1:yrl (yid prog w) fs.toList:=(hel.push key rfl).perm p1;have pp:(fs.toList.map λe=>intV e.2).Perm (D++[x]):=by
   refine (p1.map _).trans ?_;rw[ygb];exact yts hp (yok _)
  have z1:fs.size=D.length+1:=by rw[← ysa,p1.length_eq,ypa,ysa,hz];rfl
  have give:∀(c:Bool) (s₁:Shared) (Q':Unit->Shared->Prop),Q' () s₁->wpAny (model prog w) A (match c with|true=>rule "set.scan.the-table-gave-way"|false=>pure ()) Q' E s₁:=λc s₁ Q' q=>by
   cases c
   ·exact yea q
   ·exact yyg q
  refine yaa (give _ _ _ ?_)
  split
  ·refine yaa ?_;rw[yrp 8 (x:=.int x tk) rfl];refine yea ?_;refine zckb (b:=b) (D:=D++[x]) give ho hex hd el1 pp (by omega) f1 (l1.trans hl) r1 ?_;intro h' sb S';exact yea (h h' _ sb S')
  ·rename_i np;refine yaa (yea ?_);simp only[↓reduceIte];refine zckb (b:=b) (D:=D++[x]) give ho hex hd el1 pp (by omega) f1 (l1.trans hl) r1 ?_;intro h' sb S';exact yea (h h' _ sb S')
def dd (xs:List Int):List Int:=xs.foldl (λD x=>if x∈D then D else D++[x]) []
theorem zqp (xs:List Int)(x:Int):dd (xs++[x])=if x∈dd xs then dd xs else dd xs++[x]:=by
 unfold dd;rw[ykk];rfl
theorem zoib:∀n (xs:List Int),(dd (xs.take n)).length≤n
 | 0,xs=>yga 0
 | n+1,xs=>by
  have ih:=zoib n xs;rw[ydb];cases e:xs[n]? with
  | none =>
   rw[ylr,ypc];omega
  | some x =>
   rw[yub,zqp]
   split
   ·omega
   ·rw[ypa,ycf];omega
theorem zlu {R:Result->Shared->Prop}{I S:Addr}{fp wr:List Addr}{n:Nat}{P:Nat->Value->Prop}{St:Nat->Heap->Prop}{b:Bool}(W:Walks prog w A.in1 I fp wr n P St)(hSf:S∉fp)(xs:List Int)
  (hval:∀i v,P i v->∃x t,xs[i]?=some x∧v = .int x t) (hn:n+1<ymg) :
  ∀(k i:Nat) (s:Shared),n-i=k->i≤n->St i s.heap->IS prog w s.heap S (dd (xs.take i)) b →
   (∀h' tk,IS prog w h' S (dd (xs.take n)) b->(∀c o,c∉S::wr->s.heap.get? c=some o->h'.get? c=some o)->R (.ok (.ret .none)) { s with heap:=h',toks:=tk }) →
   yek (model prog w) A (.builtin "set.update.loop" ⟨[.ref S,.ref I],[]⟩) R s:=by
 have nw:S∉wr:=λz=>hSf (W.sub _ z);intro k
 induction k with
 | zero =>
  intro i s hk hi st hS hR;obtain rfl:i=n:=by omega
  refine yyc yte ?_;rw[ycd yvc _];show wpAny _ A.in1 (pyNext (.ref I) >>= _) _ _ s
  refine yaa (W.done s _ _ st λh' tk keep=>?_);show wpAny _ A.in1 (ret Value.none) _ _ _
  exact yea (hR h' tk (hS.keep λo e=>keep S o nw e) λc o hc e=>keep c o (λz=>hc (yla _ z)) e)
 | succ k ih =>
  intro i s hk hi st hS hR;have hlt:i<n:=by omega
  refine yyc yte ?_;rw[ycd yvc _];show wpAny _ A.in1 (pyNext (.ref I) >>= _) _ _ s
  refine yaa (W.item i s _ _ hlt st λv h1 tk hP st1 keep=>?_);obtain⟨x,t,hx,rfl⟩:=hval i v hP;have hS1:IS prog w h1 S (dd (xs.take i)) b:=hS.keep λo e=>keep S o nw e;show wpAny _ A.in1 (ygp [Value.int x t] (setAdd S (.int x t)) >>= _) _ _ _
  refine yaa (yad ?_);unfold setAdd;refine yad (yaa ((yid prog w).pyHash (k:=x) (by show ybk x (.int x t)=true;simp[ybk]) ?_));have hle:=zoib i xs;refine add_int (b:=b) (D:=dd (xs.take i)) (s:={ s with heap:=h1,toks:=tk+1 }) hS1 (by omega) λh2 r sb S2=>?_;have e2:(if x∈dd (xs.take i) then dd (xs.take i) else dd (xs.take i)++[x])=dd (xs.take (i+1)):=by
   rw[ydb,hx,yub,zqp]
  rw[e2] at S2;refine yea ⟨ysf yvc _,ih (i+1) _ (by omega) hlt (W.frame _ h1 _ st1 λc hc o e=>?_) S2 λh3 tk3 S3 keep3=>?_⟩
  ·rw[sb.2 c (λz:c=S=>hSf (by rw[← z];exact hc))];exact e
  ·refine hR h3 tk3 S3 λc o hc e=>keep3 c o hc ?_;show h2.get? c=some o
   rw[sb.2 c (λz:c=S=>hc (by rw[z];exact yma))];exact keep c o (λz=>hc (yla _ z)) e
theorem zurb:∀{us:List Value} {xs:List Int},ykg us xs->∀(i:Nat) (v:Value),us[i]?=some v->∃x t,xs[i]?=some x∧v = .int x t
 | _,_,.nil,i,v,e=>by simp at e
 | _,_,.cons x t r,0,v,e=>by
  rw[yif] at e;cases e;exact⟨x,t,rfl,rfl⟩
 | _,_,.cons x t r,i+1,v,e=>by
  rw[yjc] at e;obtain⟨y,u,h1,h2⟩:=zurb r i v e;exact⟨y,u,by rw[yjc];exact h1,h2⟩
theorem zgi:∀{us:List Value} {xs:List Int},ykg us xs->us.length=xs.length
 | _,_,.nil=>rfl
 | _,_,.cons _ _ r=>congrArg (· + 1) (zgi r)
theorem zzbc (h:Heap):IS prog w (h.push (SSet.empt w)) h.objs.size [] (!w.params.followText "set-order") :=
 ⟨_,#[],0,_,yfa _ rfl,⟨rfl,rfl,rfl⟩,rfl,λe he=>by simp at he,.nil,by decide,by rfl,rfl,⟨.nil,rfl⟩⟩
theorem set_tuple {l:Addr}{its:Array Value}{xs:List Int}{Q:Value->Shared->Prop}(hh:A.handled=none)(hl:s.heap.IsTuple l its)(hi:ykg its.toList xs)(hb:its.size+1<ymg)
  (h:∀(h':Heap) (tk:Nat),IS prog w h' s.heap.objs.size (dd xs) (!w.params.followText "set-order")->(∀c o,s.heap.get? c=some o->h'.get? c=some o)->Q (.ref s.heap.objs.size) { s with heap:=h',toks:=tk }) :
  wpAny (model prog w) A (call (.type "set") [.ref l]) Q E s:=by
 obtain⟨cM,tM,mro⟩:=ynb.mro;have made:=ynb.made;have subs:=ynb.sub;have notT:=ynb.notType;have canC:=ynb.canCreate;have chk:=yzj (.ref l);refine ykq (ytl ?_);show wpAny _ _ (callAny (.type "set") ⟨[.ref l],[]⟩) _ _ _
 refine yea ⟨ypj _ (by decide +kernel),yyc yqj ?_⟩;rw[ynm (yrk "set" [Value.ref l] []) rfl]
 repeat (any_goals (first|assumption|wp_step))
 refine yzg (SSet.zxhb (.ref l) (E:=E) (Q1:=λob s1=>ob = .ref s.heap.objs.size∧s1={ s with heap:=s.heap.push (SSet.empt w) }) ⟨rfl,rfl⟩) λr s1 hr=>?_;cases r with
 | error e=>exact hr
 | ok fl =>
  cases fl with
  | ret ob =>
   obtain⟨rfl,rfl⟩:=hr;have g0:(s.heap.push (SSet.empt w)).get? s.heap.objs.size=some (SSet.empt w):=yfa _ rfl;have ty0:yui { s with heap:=s.heap.push (SSet.empt w) } (.ref s.heap.objs.size) "set":=⟨_,g0,rfl⟩;have lk:=ynb.init.lookup;have bd:=ynb.init.bind (.ref s.heap.objs.size)
   repeat (any_goals (first|assumption|wp_step))
   refine yzg (ybl (R:=wants (λr s2=>r = .none∧∃h' tk,s2={ s with heap:=h',toks:=tk }∧IS prog w h' s.heap.objs.size (dd xs) (!w.params.followText "set-order") ∧
     (∀c o,s.heap.get? c=some o->h'.get? c=some o)) E) ynb.init.plain yak (yro ty0 ?_)) λr2 s2 hr2=>?_
   ·obtain⟨ol,e1,e2,nl,e3⟩:=hl;obtain⟨oc,od,oD,osl⟩:=ol;dsimp only at e2 e3;subst e2 e3;have e1':(s.heap.push (SSet.empt w)).get? l=some { cls:=.type "tuple",dict:=od,data:=.seq its nl,slots:=osl }:=yba _ e1;have q1:=yaq;have q2:=yam;have q3:(Value.type "tuple" == Value.type "dict")=false:=by decide
    have L1:(s.heap.push (SSet.empt w)).IsTuple l its:=⟨_,e1',rfl,nl,rfl⟩;have lt:l<s.heap.objs.size:=yoa e1;unfold yle.«set.__init__» noKeywords yji;generalize hPI:pyIter=PI
    wp_walk
    subst hPI;refine yyf L1 (yaa (ybj ?_));have ne:l≠(s.heap.push (SSet.empt w)).objs.size:=by
     rw[ylc];exact yfb (yne lt)
    have nf:s.heap.objs.size∉[(s.heap.push (SSet.empt w)).objs.size,l]:=by
     rw[ylc];intro z
     rcases yja.mp z with z|z
     ·exact absurd z (yfb (ymf _))
     ·exact absurd (yka.mp z) (yze lt)
    have hv:∀(i:Nat) (v:Value),its[i]?=some v->∃x t,xs[i]?=some x∧v = .int x t:=λi v e=>zurb hi i v (by rw[yac];exact e);have hx:xs.take its.size=xs:=yra (by rw[← ysa,zgi hi];exact yga _);refine zlu (b:=!w.params.followText "set-order") (Walks.tuple (by simp[hh]) _ l ne its) nf xs hv hb (its.size-0) 0 _ (by omega) (ywa _) ⟨⟨_,yfa _ rfl,rfl,rfl⟩,L1.push _⟩ ?S0 ?R0
    case S0=>exact (zzbc s.heap).keep λo e=>yba _ e
    case R0 =>
     intro h' tk S' keep;rw[hx] at S';show wpAny _ _ _ _ _ _
     refine yea ?_;show wpAny _ _ (ret Value.none) _ _ _
     refine yea ⟨rfl,h',tk,rfl,S',λc o e=>?_⟩;have clt:=yoa e;refine keep c o ?_ (yba _ (yba _ e));rw[ylc];intro z
     rcases yja.mp z with z|z
     ·exact absurd z (yfb clt)
     ·exact absurd (yka.mp z) (yfb (yne clt))
   ·cases r2 with
    | error e=>exact hr2
    | ok fl2 =>
     cases fl2 with
     | ret r =>
      obtain⟨rfl,h',tk,rfl,S',keep⟩:=hr2
      repeat (any_goals (first|assumption|wp_step))
      exact h _ _ S' keep
     | next=>exact hr2.elim
     | brk=>exact hr2.elim
     | cont=>exact hr2.elim
  | next=>exact hr.elim
  | brk=>exact hr.elim
  | cont=>exact hr.elim
end
end ISet
namespace ISet
open PySem PySem.Spec PyProof.Rows PySem.W
section
variable {prog:yzb}{w:World}{A:Around}{E:Value->Shared->Prop}{s:Shared}
theorem intsAre_map:∀(vs:List Value),(∀v,v∈vs->∃x t,v = .int x t)->ykg vs (vs.map intV)
 | [],_=>.nil
 | v::vs,h=>by
  obtain⟨x,t,rfl⟩:=h v (yma ..);exact .cons x t (intsAre_map vs λu hu=>h u (yla _ hu))
theorem zxl {es:List (Int×Value)}{D:List Int}{vs:List Value}(hel:yrl (yid prog w) es)(hp:(es.map λe=>intV e.2).Perm D)(hv:vs.Perm (es.map (·.2))):∃ys,ykg vs ys∧ys.Perm D:=by
 refine⟨vs.map intV,intsAre_map vs λv hm=>?_,?_⟩
 ·obtain⟨e,he,rfl⟩:=yfc.mp (hv.mem_iff.mp hm);obtain⟨x,t,e1,_⟩:=ztyb hel he;exact⟨x,t,e1⟩
 ·refine (hv.map intV).trans ?_;rw[yee];exact hp
theorem zfwb {a:Addr}{D:List Int}{Q:Value->Shared->Prop}(hh:A.handled=none)(hS:IS prog w s.heap a D (!w.params.followText "set-order"))
  (h:∀(h':Heap) (d':Drawn) (I:Addr) (n:Nat) (fp:List Addr) (P:Nat->Value->Prop) (St:Nat->Heap->Prop),(∀b o,s.heap.get? b=some o->h'.get? b=some o)->s.heap.objs.size≤I->(∀b∈fp,b=a∨s.heap.objs.size≤b) →
   Walks prog w A I fp [I] n P St->St 0 h'->n=D.length->(∀vs:List Value,vs.length=n->(∀(i:Nat) v,vs[i]?=some v->P i v)->∃ys,ykg vs ys∧ys.Perm D)->Q (.ref I) { s with heap:=h',drawn:=d' }) :
  wpAny (model prog w) A (pyIter (.ref a)) Q E s:=by
 obtain⟨o,es,ep,t,ho,hex,hd,hel,hp,hb,hf,hl,hpl⟩:=hS;have hT:s.TypeIs (.ref a) "set":=⟨o,ho,hex.1⟩;have so:SSet.SObj s.heap a es ep t:=⟨o,ho,hex.1,hd,hf⟩;have hz:es.size=D.length:=by rw[← hp.length_eq,yca,ysa]
 have alt:a<s.heap.objs.size:=yoa ho;refine ymn hT yni (ync yni hT SSet.zfsb ?_ (ydo _));unfold yle.«frozenset.__iter__»;refine yaa (m:=yeo "__iter__" _) (yea ?_);refine yaa (m:=ynn a) (yaa (yvl ho hd hf (yea ?_)));refine yaa (m:=setDrawn a) (yaa (yed ho hd hf (yaa (m:=yvi) (yaa (ynf (yea (yea ?_)))))));dsimp only;have jp:∀{first:Value} {h1:Heap} {d1:Drawn},SSet.SObj h1 a es ep t->Q (.ref h1.objs.size) { s with heap:=h1.push { cls:=.type "set_iterator",dict:=none,data:=.fields #[first,rawInt (0:Nat),.ref a,rawInt es.size,rawInt ep],slots:=#[] },drawn:=d1 } →
   wpAny (model prog w) A.in1 (do
    let e ← setEpoch a
    let v ← ykt "set_iterator" [first,rawInt 0,Value.ref a,rawInt es.size,rawInt e]
    ret v) (λfin s'=>∃v,fin=Fin.done (Flow.ret v)∧∃T' r,s'.TypeIs v T'∧typeLookup (Value.type T') (yuf "__next__")=pure (some r)∧Q v s') E { s with heap:=h1,drawn:=d1 }:=by
  intro first h1 d1 ⟨o1,e1,e2,e3,e4⟩ q
  refine yaa (m:=setEpoch a) (yaa (yed e1 e3 e4 (yea ?_)));refine yaa (m:=ykt _ _) (ydd (yea ⟨_,rfl,"set_iterator",_,⟨_,yfa _ rfl,rfl⟩,SSet.zov.lookup,?_⟩));exact q
 split
 ·rename_i hc;have hc':(!w.params.followText "set-order" && (!t.plain&&decide (es.size>1)))=true:=hc;refine yaa (SSet.zjbb es.size (yxb es.size) s _ (by simp) λjs d1 pj=>?_);refine yaa (ypk ?_ (by rw[yca,pj.length_eq,ybc];exact ysh hb));have jl:js.length=es.size:=by rw[pj.length_eq,ybc]
  have jm:∀j∈js,j<es.size:=λj hj=>ych.mp (pj.mem_iff.mp hj);refine jp (so.keep λo e=>yba _ e) ?_;have sz:(s.heap.push { cls:=.type "tuple",data:=.seq (js.map λ(j:Nat)=>rawInt j).toArray }).objs.size=s.heap.objs.size+1:=ylc _ _;refine h _ d1 _ es.size _ _ _ (λb o e=>yba _ (yba _ e)) (by rw[sz];exact ype _) ?_ (SSet.zfv (a:=a) (tp:=s.heap.objs.size) hh ?_ ?_ es ep t js jl jm) ⟨?_,?_,?_⟩ hz λvs hv hP=>zxl hel hp (SSet.znz pj hv hP)
  ·intro b hb';rw[sz] at hb'
   rcases yja.mp hb' with z|z
   ·exact .inr (by rw[z];exact ype _)
   ·rcases yja.mp z with z|z
    ·exact .inl z
    ·exact .inr (by rw[yka.mp z];exact yga _)
  ·rw[sz];exact yfb (yne alt)
  ·rw[sz];exact yfb (ymf _)
  ·exact yfa _ rfl
  ·exact so.keep λo e=>yba _ (yba _ e)
  ·exact⟨_,yba _ (yfa _ rfl),rfl,_,rfl⟩
 ·rename_i hc;have hc':¬ (!w.params.followText "set-order" && (!t.plain&&decide (es.size>1)))=true:=hc;refine yaa (yea (jp (h1:=s.heap) (d1:=s.drawn) so ?_));have fpk:∀b∈[s.heap.objs.size,a],b=a∨s.heap.objs.size≤b:=λb hb'=>by
   rcases yja.mp hb' with z|z
   ·exact .inr (by rw[z];exact yga _)
   ·exact .inl (yka.mp z)
  have ne:a≠s.heap.objs.size:=yfb alt;cases ft:w.params.followText "set-order" with
  | true =>
   have bt:∀{A':Around} {E':Value->Shared->Prop} {s':Shared} {Q':Bool->Shared->Prop},Q' true s'->wpAny (model prog w) A' yvi Q' E' s':=λ{A' E' s' Q'} q=>by
    unfold yvi;refine yaa (ynf (yea ?_));show Q' (w.params.followText "set-order") s'
    rw[ft];exact q
   have stp:∀(A:Around) (E:Value->Shared->Prop) (i slot:Nat) (s:Shared) (Q:Option (Value×Nat)->Shared->Prop),SSet.SObj s.heap a es ep t->Q (((yuh (w.params.setOrder a ep) es)[i]?).map λe=>(e.2,slot)) s->wpAny (model prog w) A (yxk a slot i ep) Q E s:=by
    intro A E i slot s Q ⟨o1,e1,e2,e3,e4⟩ q;unfold yxk;refine yaa (yed e1 e3 e4 ?_);dsimp only;refine yaa (bt ?_);rw[if_pos rfl,if_neg (by simp)];unfold setWalk;refine yaa (yaa (yed e1 e3 e4 (yaa (bt ?_))));rw[if_pos rfl];exact yaa (ynf (yea (yea q)))
   have po:=SSet.zxdb (w.params.setOrder a ep) es;have pz:(yuh (w.params.setOrder a ep) es).size=es.size:=(by rw[← ysa,po.length_eq,ysa]);refine h _ s.drawn _ es.size _ _ _ (λb o e=>yba _ e) (yga _) fpk (SSet.zeq (a:=a) hh ne es ep t ((yuh (w.params.setOrder a ep) es).toList.map (·.2)) (λslot _=>slot=0) ?_ ?_) ⟨⟨0,yfa _ rfl,rfl⟩,so.keep λo e=>yba _ e⟩ hz λvs hv hP=>?_
   ·intro A E i slot s Q hi r so' q;have e1:(yuh (w.params.setOrder a ep) es)[i]?=some (yuh (w.params.setOrder a ep) es)[i]:=ykb (by omega);refine stp A E i slot s Q so' ?_;rw[e1];exact q _ _ (by rw[yia,yac,e1];rfl) r
   ·intro A E slot s Q r so' q;refine stp A E _ slot s Q so' ?_;rw[ypg (by omega)];exact q
   ·refine zxl hel hp ?_;have e1:vs=(yuh (w.params.setOrder a ep) es).toList.map (·.2):=SSet.zxk (by rw[hv,yca,ysa,pz]) hP;rw[e1];exact po.map _
  | false =>
   rw[ft] at hc' hl;have bt:∀{A':Around} {E':Value->Shared->Prop} {s':Shared} {Q':Bool->Shared->Prop},Q' false s'->wpAny (model prog w) A' yvi Q' E' s':=λ{A' E' s' Q'} q=>by
    unfold yvi;refine yaa (ynf (yea ?_));show Q' (w.params.followText "set-order") s'
    rw[ft];exact q
   have nd:¬ (!t.plain&&decide (es.size>1))=true:=λz=>hc' (by rw[z];rfl);have stp:∀(A:Around) (E:Value->Shared->Prop) (i slot:Nat) (s:Shared) (Q:Option (Value×Nat)->Shared->Prop),SSet.SObj s.heap a es ep t->Q (match es[yic t.place slot]?,t.place[yic t.place slot]? with|some (_,x),some j=>some (x,j+1)|_,_=>none) s->wpAny (model prog w) A (yxk a slot i ep) Q E s:=by
    intro A E i slot s Q ⟨o1,e1,e2,e3,e4⟩ q;unfold yxk;refine yaa (yed e1 e3 e4 ?_);dsimp only;refine yaa (bt ?_);rw[if_neg (by simp)];refine ywf (λz=>absurd z nd) (λ_=>?_);have nl:¬ (!t.led && !es.isEmpty)=true:=by
     rw[hl];simp
    refine yaa (ywf (λz=>absurd z nl) (λ_=>yea ?_));exact yea q
   have ps:t.place.size=es.size:=by
    have z:=hf;unfold yvt at z;simp at z;exact z.1
   refine h _ s.drawn _ es.size _ _ _ (λb o e=>yba _ e) (yga _) fpk (SSet.zeq (a:=a) hh ne es ep t (es.toList.map (·.2)) (λslot i=>yic t.place slot=i) ?_ ?_) ⟨⟨0,yfa _ rfl,zbob hpl.rise⟩,so.keep λo e=>yba _ e⟩ hz λvs hv hP=>?_
   ·intro A E i slot s Q hi r so' q;have e1:es[i]?=some es[i]:=ykb hi;have hi2:i<t.place.size:=(by omega);have e2:t.place[i]?=some t.place[i]:=ykb hi2;refine stp A E i slot s Q so' ?_;rw[r,e1,e2];exact q _ _ (by rw[yia,yac,e1];rfl) (zcob hpl.rise hi2)
   ·intro A E slot s Q r so' q;refine stp A E _ slot s Q so' ?_;rw[r,ypg (yga _)];exact q
   ·refine zxl hel hp ?_;have e1:vs=es.toList.map (·.2):=SSet.zxk (by rw[hv,yca,ysa]) hP;rw[e1]
theorem zsib {a:Addr}{D:List Int}{R:List Value->Shared->Prop}(hh:A.handled=none)(hS:IS prog w s.heap a D (!w.params.followText "set-order"))
  (h:∀(h':Heap) (d':Drawn) (tk:Nat) (vs:List Value) (ys:List Int),(∀b o,s.heap.get? b=some o->h'.get? b=some o)->s.heap.objs.size<h'.objs.size->ykg vs ys->ys.Perm D->R vs { s with heap:=h',drawn:=d',toks:=tk }) :
  wpAny (model prog w) A (ylt (.ref a)) R E s:=by
 obtain⟨oA,hoA⟩:∃o,s.heap.get? a=some o:=let ⟨o,_,_,_,e,_⟩:=hS;⟨o,e⟩;have alt:a<s.heap.objs.size:=yoa hoA;have dz:D.length≤yva:=by
  obtain⟨o,es,ep,t,_,_,_,_,hp,hb,_⟩:=hS;rw[← hp.length_eq,yca,ysa];exact ysh hb
 have nSa:s.heap.objs.size≠a:=yze alt;unfold ylt;refine yaa (ybj (yyc ycl ?_));rw[ycd yxl _];show wpAny _ A.in1 (newList [] >>= λl=>again (.builtin "list.__iadd__" ⟨[l,.ref a],[]⟩)) _ _ s
 refine yaa (ydd (yea ⟨ysf ybi _,yyc yso ?_⟩));rw[ycd ybi _];show wpAny _ A.in1 (yfe (.ref s.heap.objs.size) (.ref a) (.ref s.heap.objs.size)) _ _ _
 unfold yfe;have S1:IS prog w (s.heap.push { cls:=.type "list",data:=.seq ([]:List Value).toArray }) a D (!w.params.followText "set-order"):=hS.keep λo e=>yba _ e;have g1:(s.heap.push { cls:=.type "list",data:=.seq ([]:List Value).toArray }).get? s.heap.objs.size=some { cls:=.type "list",dict:=none,data:=.seq #[] 0,slots:=#[] }:=yfa _ rfl;have k1:∀b o,s.heap.get? b=some o->(s.heap.push { cls:=.type "list",data:=.seq ([]:List Value).toArray }).get? b=some o:=λb o e=>yba _ e;generalize s.heap.push { cls:=.type "list",data:=.seq ([]:List Value).toArray }=h1 at S1 g1 k1 ⊢;have ty1:yui { s with heap:=h1 } (.ref a) "set":=by
  obtain⟨o,es,ep,t,ho,hex,_⟩:=S1;exact⟨o,ho,hex.1⟩
 refine yaa (ykj (T:="set") ty1 ?_);have ns:yvh (.ref s.heap.objs.size) (.ref a)=false:=by simp[yvh,nSa]
 simp only[ns,show (Value.type "set" == Value.type "list")=false by decide,show (Value.type "set" == Value.type "tuple")=false by decide,yfl,yah,if_false];refine yaa (zfwb (s:={ s with heap:=h1 }) (A:=A.in1) hh S1 λh2 d2 I n fp P St k2 hI hfp W st hn hv=>?_);have ty2:yui { s with heap:=h2,drawn:=d2 } (.ref a) "set":=by
  obtain⟨o,e,c⟩:=ty1;exact⟨o,k2 _ _ e,c⟩
 have slt:s.heap.objs.size<h1.objs.size:=yoa g1;have nf:s.heap.objs.size∉fp:=λz=>by
  rcases hfp _ z with z|z
  ·exact nSa z
  ·exact absurd (yab slt z) (yje _)
 have key:∀(R':Result->Shared->Prop) (h3:Heap) (c:Nat),St 0 h3->(∀b o,b≠s.heap.objs.size->h2.get? b=some o->h3.get? b=some o)->h3.get? s.heap.objs.size=some { cls:=.type "list",dict:=none,data:=.seq #[] c,slots:=#[] } →
   (∀(h4:Heap) (tk:Nat) (vs:List Value) (ys:List Int) (c':Nat),(∀b o,s.heap.get? b=some o->h4.get? b=some o)->ykg vs ys->ys.Perm D->h4.get? s.heap.objs.size=some { cls:=.type "list",dict:=none,data:=.seq vs.toArray c',slots:=#[] }->R' (.ok (.ret (.ref s.heap.objs.size))) { s with heap:=h4,drawn:=d2,toks:=tk }) →
   yek (model prog w) A (.builtin "list.extend.loop" ⟨[.ref s.heap.objs.size,.ref I,.ref s.heap.objs.size],[]⟩) R' { s with heap:=h3,drawn:=d2 }:=by
  intro R' h3 c st3 k3 g3 hR;refine codeAny_extend_loopS W.toS (by omega) s.heap.objs.size nf _ n 0 _ #[] c rfl (ywa _) st3 g3 (ItemsOf.nil _) λs' acc c' mv g' ia=>?_;rw[Moved.eq_with mv];obtain⟨ys,sy,py⟩:=hv acc.toList (by rw[ysa];exact ia.1) λi v e=>ia.2 i v (by rw[← yac];exact e);refine hR s'.heap s'.toks acc.toList ys c' (λb o e=>?_) sy py (by rw[ylf];exact g');have nb:b≠s.heap.objs.size:=yfb (yoa e);refine mv.heap b o (λz=>?_) (k3 b o nb (k2 b o (k1 b o e)))
  rcases yja.mp z with z|z
  ·exact nb z
  ·have bi:b=I:=yka.mp z;have:=yoa (k1 b o e);rw[bi] at this;exact absurd (yab this hI) (yje _)
 have g2:=k2 _ _ g1;have fin:∀(h4:Heap) (tk:Nat) (vs:List Value) (ys:List Int) (c':Nat),(∀b o,s.heap.get? b=some o->h4.get? b=some o)->ykg vs ys->ys.Perm D->h4.get? s.heap.objs.size=some { cls:=.type "list",dict:=none,data:=.seq vs.toArray c',slots:=#[] } →
   wpAny (model prog w) A (load s.heap.objs.size >>= λo=>match o.data with
    | .seq xs _=>pure xs.toList
    | _=>yco "internal:collect") R E { s with heap:=h4,drawn:=d2,toks:=tk }:=λh4 tk vs ys c' k4 sy py g4=>by
  refine yaa (ydn g4 ?_);show wpAny _ _ (pure vs.toArray.toList) _ _ _
  exact yea (h h4 d2 tk vs ys k4 (yoa g4) sy py)
 refine yaa (yad (SSet.zrlb ty2 ?_));refine ywf (λ_=>?_) (λ_=>yea ⟨ysf ygh _,key _ h2 0 st (λb o _ e=>e) g2 fin⟩);refine yaa (yyg (yaa ?_));show wpAny _ _ (ymt s.heap.objs.size (·.push .none) >>= λ_=>ymt s.heap.objs.size (·.pop)) _ _ _
 refine yaa (yuj g2 rfl ?_);have g3:=yhd (yzd (·.push Value.none)) g2 rfl;refine yuj (hz:=by seq_fits) g3 rfl ?_;have g4:=yhd (yzd (·.pop)) g3 rfl;refine yea ⟨ysf ygh _,key _ _ _ ?_ (λb o nb e=>?_) g4 fin⟩
 ·refine W.frame 0 _ _ st λb hb o e=>?_;have nb:s.heap.objs.size≠b:=λz=>nf (z▸hb);exact (ybd _ _ nb).trans ((ybd _ _ nb).trans e)
 ·exact (ybd _ _ (ysc nb)).trans ((ybd _ _ (ysc nb)).trans e)
theorem zsmb {a:Addr}{D:List Int}{Q:Value->Shared->Prop}(hh:A.handled=none)(hS:IS prog w s.heap a D (!w.params.followText "set-order"))(h64:D.length<64)
  (h:∀(h':Heap) (d':Drawn) (tk:Nat) (p:Addr) (vs:List Value) (ys:List Int) (n:Nat),(∀b o,s.heap.get? b=some o->h'.get? b=some o)->s.heap.objs.size≤p->h'.get? p=some { cls:=.type "list",data:=.seq vs.toArray n }->ykg vs ys->ys.Perm D->ys.Pairwise (· ≤ ·) →
   Q (.ref p) { s with heap:=h',drawn:=d',toks:=tk }):wpAny (model prog w) A (call (.builtin "sorted") [.ref a]) Q E s:=by
 refine yhh ywq yvp ywp (yxp _) ?_;unfold yle.«sorted»;refine yaa (m:=yas "sorted" 1 1 _) (yea (yaa (zsib (A:=A.in1) hh hS λh1 d1 tk vs ys k1 lt1 sy py=>?_)));have vl:vs.length<64:=by rw[zgi sy,py.length_eq];exact h64
 refine yaa (yvj ?_ (yob (yye vl) (by decide)));have g1:(h1.push (seqObj "list" vs.toArray 0)).get? h1.objs.size=some (seqObj "list" vs.toArray 0):=yfa _ rfl;refine yaa (yad (ync yym ⟨_,g1,rfl⟩ yyl (list_sort_tree g1 sy vl λout zs z1 z2 z3=>⟨_,rfl,?_⟩) (yzm _)));obtain⟨e,he⟩:=sortedHeap_at (vs:=vs) (out:=out) g1;refine yea ⟨_,rfl,h _ d1 tk h1.objs.size out.toList zs e (λb o q=>?_) (yye lt1) ?_ z1 (z2.trans py) z3⟩
 ·have q1:=k1 b o q;have bl:=yoa q1;rw[sortedHeap_old (yfb bl) (by rw[ybs];exact yne bl)];exact yba _ q1
 ·rw[ylf];exact he
end
end ISet
namespace ISet
open PySem PySem.Spec PyProof.Rows PySem.W
section
variable {prog:yzb}{w:World}{A:Around}{E:Value->Shared->Prop}{s:Shared}
theorem zmbb {l:Addr}{vs:List Value}{Q:List Value->Shared->Prop}(hl:s.heap.IsTuple l vs.toArray)
  (h:Q vs { s with heap:=(s.heap.push (seqObj "list" #[] 0)).update s.heap.objs.size (yzd (· ++ vs.toArray)) }) (hsz:vs.length≤yva) :
  wpAny (model prog w) A (ylt (.ref l)) Q E s:=by
 obtain⟨o,ho,hc,n,hd⟩:=id hl;unfold ylt;refine yaa (ybj (yyc ycl ?_));show wpAny _ _ (do again (.builtin "list.__iadd__" ⟨[← newList [],.ref l],[]⟩)) _ _ s
 refine yaa (yvj (yea ⟨ypj _ (by decide +kernel),yyc yso ?_⟩));show wpAny _ _ (yfe (.ref s.heap.objs.size) (.ref l) (.ref s.heap.objs.size)) _ _ { s with heap:=s.heap.push (seqObj "list" #[] 0) }
 unfold yfe;have ho':(s.heap.push (seqObj "list" #[] 0)).get? l=some o:=yba _ ho;refine yaa (ykj (T:="tuple") ⟨o,ho',hc⟩ ?_);have ht:(Value.type "tuple" == Value.type "tuple")=true:=by rfl
 rw[if_pos (by rw[ht];simp)];refine yaa (yos ho' hd ?_);refine yaa (yos (xs:=#[]) (n:=0) (yfa _ rfl) rfl ?_);rw[if_neg (by simp)];refine yaa (ygo (xs:=#[]) (n:=0) (yfa _ rfl) rfl ?_ (ywa _) (by show (#[]++vs.toArray).size≤yva+1;simp only[yrn,yqa,List.length_nil];omega));refine yea ?_;show wpAny (model prog w) A (do
   let o ← load s.heap.objs.size
   match o.data with
   | .seq xs _=>pure xs.toList
   | _=>yco "internal:collect") Q E { s with heap:=(s.heap.push (seqObj "list" #[] 0)).update s.heap.objs.size (yzd (· ++ vs.toArray)) }
 refine yaa (ydn (get?_update_seq (yfa _ rfl) _) ?_);show wpAny _ _ (pure ((#[]:Array Value)++vs.toArray).toList) Q E _
 rw[show ((#[]:Array Value)++vs.toArray).toList=vs by simp];exact yea h
theorem zxgb {l:Addr}{vs:List Value}{ns:List Int}{Q:Value->Shared->Prop}(hl:s.heap.IsTuple l vs.toArray)(hI:ykg vs ns)(h64:vs.length<64)
  (h:∀(out:Array Value) (ns':List Int),ykg out.toList ns'->ns'.Perm ns->ns'.Pairwise (· ≤ ·)->Q (.ref (s.heap.objs.size+1)) { s with heap:=yzp s.heap vs out }) :
  wpAny (model prog w) A (call (.builtin "sorted") [.ref l]) Q E s:=by
 refine yhh ywq yvp ywp (yxp _) ?_;unfold yle.«sorted»;have big:vs.length≤yva:=yob (yye h64) (by decide);refine yaa (m:=yas "sorted" 1 1 _) (yea ?_);refine yaa (zmbb hl ?_ big);refine yaa (yvj ?_ big);have hsz:((s.heap.push (seqObj "list" #[] 0)).update s.heap.objs.size (yzd (· ++ vs.toArray))).objs.size=s.heap.objs.size+1:=by
  rw[yws,ybs]
 have hoL:(((s.heap.push (seqObj "list" #[] 0)).update s.heap.objs.size (yzd (· ++ vs.toArray))).push (seqObj "list" vs.toArray 0)).get? (s.heap.objs.size+1)=some (seqObj "list" vs.toArray 0):=by
  rw[← hsz];exact yfa _ rfl
 show wpAny _ _ _ _ _ { s with heap:=((s.heap.push (seqObj "list" #[] 0)).update s.heap.objs.size (yzd (· ++ vs.toArray))).push (seqObj "list" vs.toArray 0) }
 rw[hsz];refine yaa (yad (ync yym ⟨_,hoL,rfl⟩ yyl (list_sort_tree hoL hI h64 λout ns' a1 a2 a3=>⟨_,rfl,?_⟩) (yzm _)));exact yea ⟨_,rfl,h out ns' a1 a2 a3⟩
end
end ISet
namespace SumL
open PySem PySem.Spec PyProof.Rows
section
variable {prog:yzb}{w:World}{A:Around}{R:Result->Shared->Prop}
end
section
variable {prog:yzb}{w:World}{A:Around}{E:Value->Shared->Prop}{s:Shared}
end
end SumL
namespace L2
open PySem PyProof.Rows
section
variable {X:Cx}
end
end L2
namespace L2
open PySem PySem.Spec PyProof.Rows
theorem ints_of:∀{vs:List Value} {ys:List Int},Vals (ys.map V.int) vs->ykg vs ys
 | _,[],.nil=>.nil
 | _,y::r,.cons h t=>by
  obtain⟨tk,rfl⟩:=h;exact .cons y tk (ints_of t)
def setI (X:Cx)(l:Addr)(D:List Int):HO:=.ext λh=>ISet.IS X.prog X.w h l D (!X.w.params.followText "set-order")
section
variable {X:Cx}
theorem zqbb (hc:X.calm=true):zfi X (.type "set") (λxs H Q=>Ex2 λp ys=>xs=[.ref p]∧SqT X.K H p (ys.map V.int)∧ys.length≤1000∧∀l,H l=none->Q (.ref l) (upd H l (setI X l (ISet.dd ys)))):=by
 intro pins s σ H xs us Q I r h;obtain⟨p,ys,rfl,hq,hy,q⟩:=h;obtain⟨u,rfl,ru⟩:=vals1 r;cases ru;obtain⟨its,rv,pl,hz⟩:=I.tuple hq;have sy:=ints_of rv;have il:its.length=ys.length:=ISet.zgi sy;refine ISet.set_tuple (xs:=ys) (I.ok.hd hc) pl (by simpa using sy) (by rw[yqa,il];have:ymg=4096:=rfl;omega) λh' tk S k=>?_;have I1:Inv X pins σ (upd H s.heap.objs.size (setI X s.heap.objs.size (ISet.dd ys))) { s with heap:=h',toks:=tk }:=I.laid (t':=tk) (λb o e=>k b o e) (yga _) ⟨S,let ⟨o,_,_,_,e,_⟩:=S;⟨o,e⟩,λh1 h2 x y=>x.keep y⟩;exact⟨.ref s.heap.objs.size,_,I1,rfl,q _ (I.hok.fresh (yga _))⟩
theorem zdu (hc:X.calm=true):zfi X (.builtin "sorted") (λxs H Q=>Ex2 λl D=>xs=[.ref l]∧H l=some (setI X l D)∧D.length<64∧∀(p:Addr) (ys:List Int),H p=none->ys.Perm D->ys.Pairwise (· ≤ ·)->Q (.ref p) (upd H p (.lst (ys.map V.int)))):=by
 intro pins s σ H xs us Q I r h;obtain⟨l,D,rfl,hl,h64,q⟩:=h;obtain⟨u,rfl,ru⟩:=vals1 r;cases ru;obtain⟨S,_,_⟩:=I.hok l _ hl;refine ISet.zsmb (I.ok.hd hc) S h64 λh' d' tk p vs ys n k hp g sy py so=>?_;have I0:=I.zeqb d';have vl:vs.length≤yva:=by
  rw[ISet.zgi sy,py.length_eq];exact yob (yye h64) (by decide)
 have I1:Inv X pins σ (upd H p (.lst (ys.map V.int))) { s with heap:=h',drawn:=d',toks:=tk }:=I0.laid (t':=tk) (λb o e=>k b o e) hp ⟨by rw[yca,← ISet.zgi sy];exact vl,vs,n,zgq sy,g⟩;exact⟨.ref p,_,I1,rfl,q p ys (I.hok.fresh hp) py so⟩
end
end L2
namespace L2
open PySem PySem.Spec PyProof.Rows PySem.MeetsSeq
section
variable {X:Cx}
theorem ztsb {v:Value}{r1 r2:List V->Hp->VK->Prop}(a:zfi X v r1)(b:zfi X v r2):zfi X v (λxs H Q=>r1 xs H Q∨r2 xs H Q):=by
 intro pins s σ H xs us Q I r h
 rcases h with h|h
 ·exact a pins s σ H xs us Q I r h
 ·exact b pins s σ H xs us Q I r h
theorem zofb (hc:X.calm=true):zfi X (.type "set") (λxs H Q=>(∃p,∃ys,xs=[.ref p]∧SqT X.K H p (ys.map V.str)∧ys.length≤1000∧∀l,H l=none->Q (.ref l) (upd H l (setO X l (SSet.dd ys))))∨Ex2 λp ys=>xs=[.ref p]∧SqT X.K H p (ys.map V.int)∧ys.length≤1000∧∀l,H l=none->Q (.ref l) (upd H l (setI X l (ISet.dd ys)))):=ztsb (znfb hc) (zqbb hc)
theorem zzw (hc:X.calm=true):zfi X (.builtin "sorted") (λxs H Q=>(Ex2 λl D=>xs=[.ref l]∧H l=some (setO X l D)∧D.length<64∧∀p ys,H p=none->ys.Perm D->yxm ys=true->Q (.ref p) (upd H p (.lst (ys.map V.str))))∨Ex2 λl D=>xs=[.ref l]∧H l=some (setI X l D)∧D.length<64∧∀(p:Addr) (ys:List Int),H p=none->ys.Perm D->ys.Pairwise (· ≤ ·)->Q (.ref p) (upd H p (.lst (ys.map V.int)))):=ztsb (zsn hc) (zdu hc)
def zeec (K:yda):R2:=λx y H Q=>Ex4 λa b xs ys=>x = .ref a∧y = .ref b∧SqT K H a xs∧SqT K H b ys∧xs.length+ys.length≤yva∧(xs=[]->Q (.ref b) H)∧(xs≠[]->ys=[]->Q (.ref a) H)∧(xs≠[]->ys≠[]->∀p,H p=none->Q (.ref p) (upd H p (.tup (xs++ys))))
theorem zqhb:OpR X (ydj .Add) (zeec X.K):=by
 intro pins s σ H x y v u Q I rx ry h;obtain⟨a,b,xs,ys,rfl,rfl,ha,hb,hz,q1,q2,q3⟩:=h
 by_cases c:xs=[]
 ·subst c;cases rx;cases ry;obtain⟨its,r1,p1,_⟩:=I.tuple ha;obtain⟨its2,r2,p2,_⟩:=I.tuple hb;cases r1;obtain⟨⟨cls,dd,data,sl⟩,ho,hc,n,hd⟩:=id p1;obtain⟨⟨cls2,dd2,data2,sl2⟩,ho2,hc2,n2,hd2⟩:=id p2;simp only at hc hd hc2 hd2;subst hc hd hc2 hd2;exact ynp ⟨_,ho,rfl⟩ ⟨_,ho2,rfl⟩ yvk yao ygi yai (yph _ _)
   (zzfc a b _ its2.toArray n n2 dd dd2 sl sl2 rfl) ⟨ho,ho2,⟨.ref b,H,I,rfl,q1 rfl⟩⟩
 ·exact zzh pins s σ H (.ref a) (.ref b) v u Q I rx ry ⟨a,b,xs,ys,rfl,rfl,ha,hb,c,hz,q2 c,q3 c⟩
theorem zui:zfi X (.builtin "sorted") (λxs H Q=>Ex2 λl ns=>xs=[.ref l]∧(SqL X.K H l (ns.map V.int)∨SqT X.K H l (ns.map V.int))∧ns.length<64∧∀(p:Addr) (ys:List Int),H p=none->ys.Perm ns->ys.Pairwise (· ≤ ·)->Q (.ref p) (upd H p (.lst (ys.map V.int)))):=by
 intro pins s σ H xs us Q I r h;obtain⟨l,ns,rfl,hl,h64,q⟩:=h;obtain⟨u,rfl,ru⟩:=vals1 r;cases ru;have fin:∀(its:List Value),ykg its ns->∀(out:Array Value) (ys:List Int),ykg out.toList ys->ys.Perm ns->ys.Pairwise (· ≤ ·)->Ex2 λv H'=>Inv X pins σ H' { s with heap:=yzp s.heap its out }∧RelV v (.ref (s.heap.objs.size+1))∧Q v H':=λits sy out ys a1 a2 a3=>by
  obtain⟨e,he⟩:=sortedAll_at s.heap its out;have vl:out.toList.length≤yva:=by
   rw[ISet.zgi a1,a2.length_eq];exact yob (yye h64) (by decide)
  have I1:Inv X pins σ (upd H (s.heap.objs.size+1) (.lst (ys.map V.int))) { s with heap:=yzp s.heap its out }:=I.laid (t':=s.toks) (λb o e=>sortedAll_old e) (ype _) ⟨by rw[yca,← ISet.zgi a1];exact vl,out.toList,e,zgq a1,by rw[ylf];exact he⟩;exact⟨.ref (s.heap.objs.size+1),_,I1,rfl,q _ ys (I.hok.fresh (ype _)) a2 a3⟩
 rcases hl with hl|hl
 ·obtain⟨its,rv,pl,_⟩:=I.list hl;have sy:=ints_of rv;exact sorted_ints (vs:=its) (ns:=ns) pl.isList sy (by rw[ISet.zgi sy];exact h64) λout ys a1 a2 a3=>fin its sy out ys a1 a2 a3
 ·obtain⟨its,rv,pl,_⟩:=I.tuple hl;have sy:=ints_of rv;exact ISet.zxgb (vs:=its) (ns:=ns) pl sy (by rw[ISet.zgi sy];exact h64) λout ys a1 a2 a3=>fin its sy out ys a1 a2 a3
end
end L2
namespace HT
open PySem PySem.Spec PyProof.Rows L2
section
variable {prog:yzb}{w:World}{A:Around}{E:Value->Shared->Prop}{s:Shared}
theorem zpp {t sl:Addr}{items:Array Value}{vl vu:Value}{lo hi:Option Int}{Q:Value->Shared->Prop}(ht:IsTup s.heap t items)(hs:s.heap.IsSliceOf sl vl vu .none)(pl:IsPart vl lo)(pu:IsPart vu hi)
  (hw:sIx items.size 0 lo=0∧sIx items.size items.size hi=items.size) (h:Q (.ref t) s):wpAny (model prog w) A (yvq (.ref t) (.ref sl)) Q E s:=by
 obtain⟨os,hos,hcs,hds⟩:=id hs;have hTs:s.TypeIs (.ref sl) "slice":=⟨os,hos,hcs⟩;unfold yvq
 try with_reducible refine yad ?_
 first|refine yaa (yea ?_)|skip
 refine yaa (ygn ht.typeIs (by decide) ?_);refine yaa (yuc (name:=yuf "__getitem__") ht.typeIs yod
  (ync yod ht.typeIs entry_tuple_getitem ?_ (args_tuple_getitem _ _)))
 show wpAny _ _ (yim (.ref t) >>= _) _ _ s
 refine yaa (tupleItemsOf_ ht ?_);refine yaa (ykj hTs ?_);rw[if_pos (by decide)];refine yaa (zlm hs pl pu ?_);have hyes:((((sIx items.size 0 lo:Nat):Int)==0&&(1:Int)==1&&(sIx items.size items.size hi-sIx items.size 0 lo)==items.size)=true):=by
  rw[hw.1,hw.2];simp
 show wpAny _ _ (if (((sIx items.size 0 lo:Nat):Int)==0&&(1:Int)==1&&(sIx items.size items.size hi-sIx items.size 0 lo)==items.size)=true then _ else _) _ _ s
 rw[if_pos hyes];refine yaa (m:=yle.Tuple.tupleIsExact _) (yaa (ykj ht.typeIs (yea ?_)));refine ywf (λ_=>?_) (λz=>absurd (by decide) z);exact yaa (yyg (yea ⟨_,rfl,yea h⟩))
end
end HT
namespace L2
open PySem PySem.Spec PyProof.Rows
def rSlA (K:yda):V->Option Int->Option Int->Hp->VK->Prop:=λx lo hi H Q=>Ex2 λa xs=>x = .ref a∧SqT K H a xs ∧
 ((HT.sIx xs.length 0 lo=0∧HT.sIx xs.length xs.length hi=xs.length)->Q (.ref a) H)∧(¬ (HT.sIx xs.length 0 lo=0∧HT.sIx xs.length xs.length hi=xs.length)->∀p,H p=none->Q (.ref p) (upd H p (.tup (cutV xs lo hi))))
section
variable {X:Cx}
theorem znv:SlR X (rSlA X.K):=by
 intro pins s σ H x v vl vu lo hi sl Q I rx hs pl pu h;obtain⟨a,xs,rfl,hx,q1,q2⟩:=h
 by_cases c:HT.sIx xs.length 0 lo=0∧HT.sIx xs.length xs.length hi=xs.length
 ·cases rx;obtain⟨its,r,ht,hz⟩:=I.tuple hx;have hlen:its.toArray.size=xs.length:=by rw[yqa];exact r.length.symm
  refine⟨"tuple",_,yod.lookup,ht.typeIs,?_⟩;exact HT.zpp ht hs pl pu (by rw[hlen];exact c) ⟨.ref a,H,I,rfl,q1 c⟩
 ·exact zwk pins s σ H (.ref a) v vl vu lo hi sl Q I rx hs pl pu ⟨a,xs,rfl,hx,c,q2 c⟩
end
end L2
namespace L2
open PySem PySem.Spec PyProof.Rows PySem.MeetsSeq
theorem zsi:fillsNumberSlot (.type "tuple") "mul" = pure false :=
 PySem.fillsNumberSlot_seq (id:="tuple.__mul__") (r:=some (.builtin "tuple.__rmul__")) ydp.lookup (by decide +kernel) yio.lookup (by decide +kernel)
theorem zzm:seqRepeat? (.type "tuple")=pure (some (.builtin "tuple.__mul__")):=by
 unfold seqRepeat?;rw[yxs (T:="tuple") (name:="__mul__") (id:="tuple.__mul__") ydp.lookup (by decide +kernel),yxs (T:="tuple") (name:="__rmul__") (id:="tuple.__rmul__") yio.lookup (by decide +kernel)];rfl
theorem zbs (a:Int)(t:Tok)(l:Addr)(items:Array Value)(n:Nat)(dd:Option Addr)(sl:Array (Option Value)) :
  Meets (yle.«int.__rmul__» ⟨[.int a t,.ref l],[]⟩) (λ_ R s=>s.heap.get? l=some { cls:=.type "tuple",dict:=dd,data:=.seq items n,slots:=sl }∧R (.ok (.ret Value.notImplemented)) s) :=
 .of_wp λprog w A R s h=>by obtain⟨hp,g,d,tk,os⟩:=s;obtain⟨hl,h⟩:=h;wp_walk;exact⟨_,rfl,h⟩
theorem mulT (l:Addr)(items:Array Value)(n:Nat)(k:Int)(u:Tok)(dd:Option Addr)(sl:Array (Option Value))(h0:¬ items.isEmpty=true)(h2:2≤k)(h3:k<2 ^ 63)(hz:¬ yug (items.size*k)=true) :
  Meets (yle.«tuple.__mul__» ⟨[.ref l,.int k u],[]⟩) (λ_ R s=>s.heap.get? l=some { cls:=.type "tuple",dict:=dd,data:=.seq items n,slots:=sl }∧R (.ok (.ret (Value.ref s.heap.objs.size))) { s with heap:=s.heap.push { cls:=Value.type "tuple",data:=Data.seq (yur (λx1 x2=>x1++x2) #[] (yna k.toNat items)) },toks:=s.toks }):=by
 refine .of_wp λprog w A R s h=>?_;obtain⟨hp,g,d,tk,os⟩:=s;obtain⟨hl,h⟩:=h;unfold yle.«tuple.__mul__»
 wp_walk using wpAny_loadPart' hl
 refine ycq (decide_eq_false (by rw[yzq,decide_eq_true_iff,decide_eq_true_iff];omega)) ?_
 wp_walk using wpAny_loadPart' hl
 have e0:items.isEmpty=false:=by simpa using h0
 have sz:(items.size:Int)*k≤(yva:Int):=by
  unfold yug at hz
  simpa using hz
 refine ycq (decide_eq_false (by rw[e0,yjo,beq_iff_eq];omega)) ?_
 wp_walk using wpAny_loadPart' hl
 refine ycq (decide_eq_false (by rw[e0,yfl,decide_eq_true_iff];omega)) ?_;dsimp only;have sl8:(yva:Int)≤(2 ^ 63-1) / 8:=by decide
 rw[if_neg (by omega),if_neg hz];have hsz:(yur (λx1 x2=>x1++x2) #[] (yna k.toNat items)).size≤yva:=by
  rw[AutoListH.size_joined,Array.size_empty,yls];have:((k.toNat*items.size:Nat):Int)≤(yva:Int):=by
   rw[Int.natCast_mul,yar (by omega),Int.mul_comm];exact sz
  omega
 wp_walk
 exact⟨_,rfl,h⟩
section
variable {X:Cx}
def zbhc (K:yda):R2:=λx y H Q=>Ex3 λa xs k=>x = .ref a∧y = .int k∧SqT K H a xs∧xs≠[]∧2≤k∧k<2 ^ 63∧xs.length*k.toNat≤yva∧∀p,H p=none->Q (.ref p) (upd H p (.tup (yna k.toNat xs).flatten))
theorem znab:OpR X (ydj .Mult) (zbhc X.K):=by
 intro pins s σ H x y v u Q I rx ry h;obtain⟨a,xs,k,rfl,rfl,ha,hx,h2,h3,hz,q⟩:=h;cases rx;obtain⟨t,rfl⟩:=ry;obtain⟨its,r,p1,_⟩:=I.tuple ha;obtain⟨⟨cls,dd,data,sl⟩,ho,hc,n,hd⟩:=id p1;simp only at hc hd;subst hc hd;have hl:=r.length;have hne:¬ its.toArray.isEmpty=true:=by
  intro z;refine hx (r.zgw.mp ?_)
  simpa using z
 have hlong:¬ yug ((its.toArray.size:Int)*k)=true:=by
  unfold yug;rw[yqa,← hl];have:((xs.length*k.toNat:Nat):Int)≤(yva:Int):=by omega
  rw[Int.natCast_mul,yar (by omega)] at this
  simpa using this
 have hnew:yur (λx1 x2=>x1++x2) #[] (yna k.toNat its.toArray)=(yna k.toNat its).flatten.toArray:=by
  have:=foldl_rep its k.toNat [];rw[ybm] at this;exact this
 refine ycj (T:="tuple") (U:="int") (by decide) ⟨_,ho,rfl⟩ (λs'=>ykl s' k t) zsi ydq yri zzm yto.lookup
  (ywg yri (ykl s k t) yuo (ysn _ _) (zbs k t a its.toArray n dd sl)
   ⟨ho,rfl,⟨_,ho,rfl⟩,ywg yvo ⟨_,ho,rfl⟩ ytn (yrm _ _) (mulT a its.toArray n k t dd sl hne h2 h3 hlong) ⟨ho,?_⟩⟩)
 rw[hnew];refine⟨.ref s.heap.objs.size,_,I.laid (t':=s.toks) (o:=.tup (yna k.toNat xs).flatten) (λb ob q=>yba _ q) (yga _) ?_,rfl,q _ (I.hok.fresh (yga _))⟩;exact⟨by rw[len_rep,Nat.mul_comm];exact hz,_,r.rep k.toNat,ygt _ _⟩
end
end L2
namespace L2
open PySem PySem.Spec PyProof.Rows PySem.MeetsSeq
section
variable {X:Cx}
theorem zobb (hc:X.calm=true):zfi X (.builtin "sum") (λxs H Q=>Ex2 λ(l:Addr) (ns:List Int)=>xs=[.ref l]∧SqL X.K H l (ns.map V.int)∧Q (.int ns.sum) H):=by
 intro pins s σ H xs us Q I r h;obtain⟨l,ns,rfl,hl,q⟩:=h;obtain⟨u,rfl,ru⟩:=vals1 r;cases ru;obtain⟨its,rv,pl,_⟩:=I.list hl;have sy:=ints_of rv;obtain⟨ys,ey⟩:=AllInts.items sy.allInts;have pl2:=pl.isList;rw[ey] at pl2;have en:(ys.toList.map (·.1))=ns:=by
  rw[← nums_intItems,← ey];exact sy.numsOf
 refine sum_intListG (show X.A.handled=none from I.ok.hd hc) pl2 λh' tk t' hk=>?_;rw[preSum_eq,yra (by simp),en];exact⟨.int _,H,I.kept (t':=tk) hk,⟨t',rfl⟩,q⟩
end
end L2
namespace L2
open PySem PySem.Spec PyProof.Rows PySem.MeetsSeq
theorem zpy:∀(vs:List Value) (k:Nat),(∀(j:Nat) v,vs[j]?=some v->∃t,v = .int ((k+j:Nat):Int) t)->Vals ((yko k vs.length).map λi:Nat=>V.int (i:Int)) vs
 | [],_,_=>.nil
 | v::r,k,h=>by
  rw[ykc,List.range'_succ,ytb];refine .cons ?_ (zpy r (k+1) λj u e=>?_)
  ·obtain⟨t,e⟩:=h 0 v rfl;exact⟨t,e⟩
  ·obtain⟨t,e2⟩:=h (j+1) u (by rw[yjc];exact e);exact⟨t,by rw[e2];congr 2;omega⟩
section
variable {X:Cx}
end
end L2
namespace L2
open PySem PyProof.Rows
def EnL (h:Heap)(e it t:Addr)(i:Nat):Prop:=(∃old,IsEnum h e it (i:Int) old)∧h.IsListIter it t i∧e≠it
def Iel (K:yda)(a:Addr):It :=
 ⟨λi H=>Ex2 λxs x=>SqL K H a xs∧xs[i]?=some x,λi H x H'=>Ex2 λp v=>H p=none∧x = .ref p∧H'=upd H p (.tup [.int (i:Int),v])∧∀xs,SqL K H a xs->xs[i]?=some v,λi H=>∃xs,SqL K H a xs∧xs.length≤i⟩
theorem znmb {P:yzb}{w:World}{K:yda}{es:List Expr}{k1:Nat}{pos:Pos}(a e it:Addr):Turn P w K (.Tuple es k1 pos) (Iel K a) [e,it] e (λi h=>EnL h e it a i) where
 mem:=by simp
 obj:=λi h st b hb=>by
  have z:b=e∨b=it:=by simpa using hb
  obtain⟨⟨old,he⟩,⟨o,g1,g2,g3⟩,_⟩:=st
  rcases z with rfl|rfl
  ·exact⟨_,he,λv y=>by cases y⟩
  ·exact⟨o,g1,λv y=>by rw[g3] at y;cases y⟩
 keep:=λi h h' st k=>by
  obtain⟨⟨old,he⟩,⟨o,g1,g2⟩,n⟩:=st;exact⟨⟨old,k e (by simp) _ he⟩,⟨o,k it (by simp) _ g1,g2⟩,n⟩
 item:=by
  intro X hP hw hK hc i pins s σ H E I hf st hg;subst hP hw hK;obtain⟨xs,x,hq,hx⟩:=hg;obtain⟨its,rv,p,hz⟩:=I.list hq;obtain⟨u,hu,ru⟩:=rv.get hx;have fe:=hf e (by simp);have fi:=hf it (by simp);have ne:=st.2.2;obtain⟨⟨old,he⟩,hit,_⟩:=id st;refine wpAny_pyNext_enum_item he hit p.isList (x:=u) (by simpa using hu) ne λg e1 i1 t1 _ k1=>?_;refine⟨_,rfl,ykm e1 λg2 e2 s2=>?_⟩;have lt1:e<s.heap.objs.size:=yoa he;have lt2:it<s.heap.objs.size:=by
   obtain⟨o,g1,_⟩:=hit;exact yoa g1
  have kk:∀b o,b≠e->b≠it->s.heap.get? b=some o->g2.get? b=some o:=λb o n1 n2 z=>s2.extBut b o n1 (k1 b o n1 n2 z);have tt:g2.get? s.heap.objs.size=some { cls:=.type "tuple",data:=.seq #[.int i s.toks,u] }:=s2.extBut _ _ (yze lt1) t1;have na:∀b,b<s.heap.objs.size->b≠s.heap.objs.size:=λb h=>yfb h;have I1:Inv X pins σ (upd H s.heap.objs.size (.tup [.int (i:Int),x])) { s with heap:=s.heap.push { cls:=.type "tuple",data:=.seq #[.int i s.toks,u] },toks:=s.toks+1 } :=
   I.laid (t':=s.toks+1) (λb o z=>yba _ z) (yga _) ⟨by show 2≤yva;decide,[.int i s.toks,u],.cons ⟨_,rfl⟩ (.cons ru .nil),⟨_,yfa _ rfl,rfl,_,rfl⟩⟩
  have fo:∀b,b<s.heap.objs.size->FpOk X pins H b->FpOk X pins (upd H s.heap.objs.size (.tup [.int (i:Int),x])) b:=λb h f=>⟨by rw[zbb (na b h)];exact f.1,f.2⟩;have I2:=I1.zwob (h':=g2) (t':=s.toks+1) (p:=e) (q:=it) (λb o n1 n2 z=>by
   by_cases hb:b=s.heap.objs.size
   ·rw[hb] at z ⊢;rw[yfa _ rfl] at z;cases z;exact tt
   ·rw[ypn _ _ _ hb] at z;exact kk b o n1 n2 z) (fo e lt1 fe) (fo it lt2 fi)
  refine⟨.ref s.heap.objs.size,_,I2,rfl,⟨s.heap.objs.size,x,I.hok.fresh (yga _),rfl,rfl,λys hy=>by rw[I.zyab hy hq];exact hx⟩,⟨⟨u,e2⟩,?_,ne⟩,λb hb=>?_⟩
  ·obtain⟨o,z,r⟩:=i1;exact⟨o,s2.extBut _ _ (ysc ne) z,r⟩
  ·have z:b=e∨b=it:=by simpa using hb
   rcases z with rfl|rfl
   ·exact (fo _ lt1 fe).1
   ·exact (fo _ lt2 fi).1
 done:=by
  intro X hP hw hK hc i pins s σ H E I hf st hg;subst hP hw hK;obtain⟨xs,hq,hx⟩:=hg;obtain⟨its,rv,p,hz⟩:=I.list hq;obtain⟨f0,f1,f2,f3,f4,f5⟩:=hf it (by simp);obtain⟨⟨old,he⟩,hit,_⟩:=id st;have hl:=rv.length;exact wpAny_pyNext_enum_end (I.ok.hd hc) he hit p.isList (by simp;omega) λg eb=>⟨rfl,I.turned (t':=s.toks) (λb o hb z=>eb b o hb z) f0 f1 f3 f4 f5⟩
 self:=λ_ _ _ _ _ st h=>by
  obtain⟨⟨old,he⟩,_,_⟩:=st;exact yon he h
section
variable {X:Cx}
def iEnL (K:yda)(ta:TA):TI:=fun σ H R=>ta σ H λvs H1=>Ex2 λa xs=>vs=[.ref a]∧SqL K H1 a xs∧R (Iel K a) H1
theorem zblb {es:List Expr}{k1:Nat}{tp:Pos}{a:Expr}{ta:TA}{p pos:Pos}(hg:Gl X "enumerate")(hm:X.mg "enumerate" = none)(ha:PA X [a] ta)(hs:yxc [a] X.env=[(false,eval a X.env)]:=by rfl):PI X (.Tuple es k1 tp) (.Call (.Name "enumerate" p) [a] [] pos) (iEnL X.K ta):=by
 intro pins s σ H R I h;refine Call_ (zgr I hg hm zpfb (ymd (thn (ha pos pins s σ H _ I h) λus s1 ⟨vs,H1,I1,r1,q1⟩=>?_) hs rfl));obtain⟨b,xs,e,hq,q⟩:=q1;subst e;obtain⟨u,rfl,ru⟩:=vals1 r1;cases ru;obtain⟨its,rv,pl,hz⟩:=I1.list hq;refine call_enumerate_list pl.isList λg en li _ kp=>?_;refine yon (s:={ s1 with heap:=g }) en ?_;refine⟨s1.heap.objs.size+1,[s1.heap.objs.size+1,s1.heap.objs.size],_,_,H1,rfl,I1.kept (t':=s1.toks) kp,znmb b _ _,⟨⟨_,en⟩,li,Nat.succ_ne_self _⟩,λc hc=>?_,q⟩;have z:c=s1.heap.objs.size+1∨c=s1.heap.objs.size:=by simpa using hc
 rcases z with rfl|rfl
 ·exact I1.fpOk (ype _) (I1.hok.fresh (ype _))
 ·exact I1.fpOk (yga _) (I1.hok.fresh (yga _))
end
theorem zcsb {K:yda}{a:Addr}{xs:List V}{g:TG}{tb:TS}{D:Ends}{σ:St}{H:Hp}(Pv:Nat->St->Hp->Prop)(h0:Pv 0 σ H)(hl:∀i σ H,i≤xs.length->Pv i σ H->SqL K H a xs)
  (hs:∀i x σ H p,xs[i]?=some x->Pv i σ H->H p=none->g (.ref p) σ (upd H p (.tup [.int (i:Int),x])) fun σ2 H2=>tb { D with nx:=Pv (i+1),ct:=Pv (i+1),bk:=D.nx } σ2 H2) (hd:∀ σ H,Pv xs.length σ H->D.nx σ H) :
  ∃W:Nat->Nat->St->Hp->Prop,(∃m,W 0 m σ H)∧∀i m σ H,W i m σ H →
   ((Iel K a).stop i H∧D.nx σ H)∨((Iel K a).go i H∧∃N:St->Hp->Prop,(∀ σ' H',N σ' H'->∃m',m'<m∧W (i+1) m' σ' H')∧∀x H',(Iel K a).yld i H x H'->g x σ H' fun σ2 H2=>tb { D with nx:=N,ct:=N,bk:=D.nx } σ2 H2):=by
 refine⟨λi m σ H=>m=xs.length-i∧i≤xs.length∧Pv i σ H,⟨xs.length,rfl,ywa _,h0⟩,?_⟩;rintro i m σ H ⟨rfl,hi,pv⟩;have sq:=hl i σ H hi pv
 by_cases lt:i<xs.length
 ·have ex:xs[i]?=some xs[i]:=ybb lt;refine .inr ⟨⟨xs,xs[i],sq,ex⟩,Pv (i+1),fun σ' H' z=>⟨xs.length-(i+1),by omega,rfl,lt,z⟩,λx H' y=>?_⟩;obtain⟨p,v,hp,rfl,rfl,hv⟩:=y;exact hs i v σ H p (hv xs sq) pv hp
 ·obtain rfl:i=xs.length:=by omega
  exact .inl ⟨⟨xs,sq,yga _⟩,hd σ H pv⟩
theorem zwnb {K:yda}{a:Addr}{xs:List V}{H1:Hp}{g:TG}{tt:TT}{te:TE}{n:Nat}{js:List Nat}{σ:St}{Q:VK}(Pv:Nat->List V->Hp->Prop)(hl:∀i ys H,Pv i ys H->SqL K H a xs)(h0:Pv 0 [] H1)(hz:∀i ys H,Pv i ys H->ys.length≤yva)
  (hs:∀i x ys H p,xs[i]?=some x->Pv i ys H->H p=none->g (.ref p) (zrf n js σ) (upd H p (.tup [.int (i:Int),x])) fun σ2 H2=>σ2.drop n=(zrf n js σ).drop n∧tt σ2 H2 λb H3=>if b=true then te σ2 H3 λy H4=>Pv (i+1) (ys++[y]) H4 else Pv (i+1) ys H3)
  (hd:∀ys H,Pv xs.length ys H->∀p,H p=none->Q (.ref p) (upd H p (.lst ys))):zoy (Iel K a) H1 g tt te n js σ Q:=by
 refine⟨λi m ys H=>m=xs.length-i∧i≤xs.length∧Pv i ys H,⟨xs.length,rfl,ywa _,h0⟩,?_⟩;rintro i m ys H ⟨rfl,hi,pv⟩;have sq:=hl i ys H pv
 by_cases lt:i<xs.length
 ·have ex:xs[i]?=some xs[i]:=ybb lt;refine .inr ⟨⟨xs,xs[i],sq,ex⟩,hz i ys H pv,Pv (i+1),λys' H' z=>⟨xs.length-(i+1),by omega,rfl,lt,z⟩,λx H' y=>?_⟩;obtain⟨p,v,hp,rfl,rfl,hv⟩:=y;exact hs i v ys H p (hv xs sq) pv hp
 ·obtain rfl:i=xs.length:=by omega
  exact .inl ⟨⟨xs,sq,yga _⟩,hz _ ys H pv,hd ys H pv⟩
end L2
namespace SSet
open PySem PySem.Spec PyProof.Rows
section
variable {mask:Nat}{owner:Array (Option Nat)}
end
end SSet
namespace SSet
open PySem PySem.Spec PyProof.Rows
section
variable {prog:yzb}{w:World}{A:Around}{E:Value->Shared->Prop}{s:Shared}
end
end SSet
namespace SSet
open PySem PySem.Spec PyProof.Rows
section
variable {prog:yzb}{w:World}{A:Around}{E:Value->Shared->Prop}{s:Shared}
end
end SSet
namespace L2
open PySem PySem.Spec PyProof.Rows PySem.MeetsSeq
section
variable {X:Cx}
end
end L2
namespace L2
open PySem PyProof.Rows
section
variable {X:Cx}{pins:List (Addr×Obj)}{σ:St}{H:Hp}{s:Shared}{h':Heap}
theorem Inv.zvob {t':Nat}{fp:List Addr}(I:Inv X pins σ H s)(k:∀b o,b∉fp->s.heap.get? b=some o->h'.get? b=some o)(ff:∀b∈fp,FpOk X pins H b):Inv X pins σ H { s with heap:=h',toks:=t' }:=by
 have o1:∀b u,H b=some u->b∉fp:=λb u e z=>by
  rw[(ff b z).1] at e;cases e
 refine I.step (g':=s.gens) (d':=s.drawn) (ch:=fp) (λb hb=>?_) (λb o _ _ hc e _=>k b o hc e) (λb o _ _ hc e _=>⟨o.slots,k b o hc e⟩) (λ_ _ _ _ n=>n)
  (λb o hc e=>⟨o,k b o hc e⟩) (λ_ _ e=>e) (λ_ _ _ e=>e) (λb ps e=>⟨#[],by rw[e];simp⟩) (λm hm=>?_) (λb u e=>?_) I.bare
 ·obtain⟨_,f1,_,f3,f4,f5⟩:=ff b hb;exact⟨f3,f1,f4,f5⟩
 ·obtain⟨o,es,ep,ho,r⟩:=hm;exact⟨o,es,ep,k _ o (λz=>(ff _ z).2.1 rfl) ho,r⟩
 ·refine (I.hok b u e).stay (λc v hc q=>k c v ?_ q) (λ_ q=>q) λ_ _ q=>q
  rcases hc with z|z
  ·rw[z];exact o1 b u e
  ·exact o1 c _ z
end
theorem boot_zip:yki "zip" = some (.type "zip"):=by decide +kernel
section
variable {X:Cx}
end
open PySem.Spec PySem.MeetsSeq in
theorem zghc (l:Addr)(items:Array Value)(n:Nat)(u:Tok)(dd:Option Addr)(sl:Array (Option Value)) :
  Meets (yle.«tuple.__mul__» ⟨[.ref l,.int 1 u],[]⟩) (λ_ R s=>s.heap.get? l=some { cls:=.type "tuple",dict:=dd,data:=.seq items n,slots:=sl }∧R (.ok (.ret (Value.ref l))) s):=by
 refine .of_wp λprog w A R s h=>?_;obtain⟨hp,g,d,tk,os⟩:=s;obtain⟨hl,h⟩:=h;unfold yle.«tuple.__mul__»
 wp_walk using wpAny_loadPart' hl
 exact⟨_,rfl,h⟩
open PySem.Spec PySem.MeetsSeq in
theorem zihc (l:Addr)(items:Array Value)(n:Nat)(u:Tok)(dd:Option Addr)(sl:Array (Option Value))(h0:¬ items.isEmpty=true) :
  Meets (yle.«tuple.__mul__» ⟨[.ref l,.int 0 u],[]⟩) (λ_ R s=>s.heap.get? l=some { cls:=.type "tuple",dict:=dd,data:=.seq items n,slots:=sl }∧R (.ok (.ret (Value.ref s.heap.objs.size))) { s with heap:=s.heap.push { cls:=Value.type "tuple",data:=Data.seq #[] },toks:=s.toks }):=by
 refine .of_wp λprog w A R s h=>?_;obtain⟨hp,g,d,tk,os⟩:=s;obtain⟨hl,h⟩:=h;unfold yle.«tuple.__mul__»;have e0:items.isEmpty=false:=by simpa using h0
 wp_walk using wpAny_loadPart' hl
 exact⟨_,rfl,h⟩
section
variable {X:Cx}
open PySem.Spec PySem.MeetsSeq
def zayb (K:yda):R2:=λx y H Q=>Ex3 λa xs k=>x = .ref a∧y = .int k∧SqT K H a xs∧xs≠[]∧0≤k∧k<2 ^ 63∧xs.length*k.toNat≤yva∧(k=1->Q (.ref a) H)∧(k≠1->∀p,H p=none->Q (.ref p) (upd H p (.tup (yna k.toNat xs).flatten)))
theorem zdlb:OpR X (ydj .Mult) (zayb X.K):=by
 intro pins s σ H x y v u Q I rx ry h;obtain⟨a,xs,k,rfl,rfl,ha,hx,h0,h3,hz,q1,q⟩:=h
 by_cases big:2≤k
 ·exact znab pins s σ H _ _ v u Q I rx ry ⟨a,xs,k,rfl,rfl,ha,hx,big,h3,hz,q (by omega)⟩
 cases rx;obtain⟨t,rfl⟩:=ry;obtain⟨its,r,p1,_⟩:=I.tuple ha;obtain⟨⟨cls,dd,data,sl⟩,ho,hc,n,hd⟩:=id p1;simp only at hc hd;subst hc hd;have hl:=r.length;have hne:¬ its.toArray.isEmpty=true:=by
  intro z;refine hx (r.zgw.mp ?_)
  simpa using z
 rcases (show k=1∨k=0 by omega) with rfl|rfl
 ·refine ycj (T:="tuple") (U:="int") (by decide) ⟨_,ho,rfl⟩ (λs'=>ykl s' 1 t) zsi ydq yri zzm yto.lookup
   (ywg yri (ykl s 1 t) yuo (ysn _ _) (zbs 1 t a its.toArray n dd sl)
    ⟨ho,rfl,⟨_,ho,rfl⟩,ywg yvo ⟨_,ho,rfl⟩ ytn (yrm _ _) (zghc a its.toArray n t dd sl) ⟨ho,?_⟩⟩)
  exact⟨.ref a,H,I,rfl,q1 rfl⟩
 ·refine ycj (T:="tuple") (U:="int") (by decide) ⟨_,ho,rfl⟩ (λs'=>ykl s' 0 t) zsi ydq yri zzm yto.lookup
   (ywg yri (ykl s 0 t) yuo (ysn _ _) (zbs 0 t a its.toArray n dd sl)
    ⟨ho,rfl,⟨_,ho,rfl⟩,ywg yvo ⟨_,ho,rfl⟩ ytn (yrm _ _) (zihc a its.toArray n t dd sl hne) ⟨ho,?_⟩⟩)
  refine⟨.ref s.heap.objs.size,_,I.laid (t':=s.toks) (o:=.tup []) (λb o z=>yba _ z) (yga _) ⟨by show 0≤yva;decide,[],.nil,⟨_,yfa _ rfl,rfl,_,rfl⟩⟩,rfl,?_⟩;exact q (by decide) _ (I.hok.fresh (yga _))
end
end L2
namespace L2
open PySem PyProof.Rows
section
variable {pr:yzb}{wo:World}{Ar:Around}{Ex:Value->Shared->Prop}{sh:Shared}
theorem tupB {h g:Heap}{b t:Addr}{xs:Array Value}(x:h.IsTuple t xs)(e:yqt b h g)(n:t≠b):g.IsTuple t xs:=by
 obtain⟨o,ho,r⟩:=x;exact⟨o,e _ _ n ho,r⟩
theorem zeub {z TI TO i1 i2 l1 l2:Addr}{k1 k2:Nat}{xs ys:Array Value}{x y a b:Value}{Q:Value->Shared->Prop}(D:ynq z TI TO i1 i2 l1 l2)
  (hz:IsZip sh.heap z TI TO .none) (hI:IsPair sh.heap TI (.ref i1) (.ref i2)) (hO:IsPair sh.heap TO a b) (h1:sh.heap.IsTupleIter i1 l1 k1) (h2:sh.heap.IsListIter i2 l2 k2) (hl1:sh.heap.IsTuple l1 xs) (hl2:sh.heap.IsList l2 ys) (hx:xs[k1]?=some x) (hy:ys[k2]?=some y)
  (q:∀g,IsZip g z TI TO (rawInt sh.heap.objs.size)->IsPair g TO x y->g.IsTupleIter i1 l1 (k1+1)->g.IsListIter i2 l2 (k2+1)->IsPair g sh.heap.objs.size x y->g.objs.size=sh.heap.objs.size+1->(∀c o,c≠z->c≠TO->c≠i1->c≠i2->sh.heap.get? c=some o->g.get? c=some o)->Q (.ref sh.heap.objs.size) { sh with heap:=g }) :
  wpAny (model pr wo) Ar (yle.«zip.__next__» ⟨[.ref z],[]⟩) (λfin s'=>∃v,fin = .done (.ret v)∧Q v s') Ex sh:=by
 refine (show wpAny (model pr wo) Ar (field (.ref z) 2 >>= _) _ Ex sh from yaa (ynd hz rfl (x:=.bool false) rfl ?_));refine (show wpAny (model pr wo) Ar (field (.ref z) 3 >>= _) _ Ex sh from yaa (ynd hz rfl (x:=.ref TI) rfl ?_));refine yaa (yjh hI rfl ?_);refine (show wpAny (model pr wo) Ar (yzc (.ref z) >>= _) _ Ex sh from yaa ?_);unfold yzc;refine yaa (ynd hz rfl (x:=.none) rfl (yea ?_));simp only[if_true];refine yaa (yyg (yaa (ynd hz rfl (x:=.ref TO) rfl ?_)));refine yaa (ycc hz (by simp) λg1 z1 s1=>yaa ?_)
 replace z1:IsZip g1 z TI TO .ellipsis:=z1
 simp only[yys,List.zipIdx_nil,ypp,List.forIn_nil];refine yaa (yaa (ylo ?_));refine (show wpAny (model pr wo) _ (ywc (.ref i1) >>= _) _ _ _ from yaa (zvab (h1.extBut s1.extBut D.i1z) (tupB hl1 s1.extBut D.l1z) hx λg2 t2 s2=>yea ?_));have O2:IsPair g2 TO a b:=s2.extBut _ _ D.TOi1 (s1.extBut _ _ D.TOz hO);refine yaa (yjh O2 rfl (yaa (yel O2 λg3 O3 s3=>?_)))
 replace O3:IsPair g3 TO x b:=O3
 refine yaa (yyq (yea ?_));refine yaa (yaa (ylo ?_));refine (show wpAny (model pr wo) _ (ywc (.ref i2) >>= _) _ _ _ from yaa (wpAny_nextOf_list_item (((h2.extBut s1.extBut D.i2z).extBut s2.extBut D.i12.symm).extBut s3.extBut D.TOi2.symm) (((hl2.extBut s1.extBut D.l2z).extBut s2.extBut D.l2i1).extBut s3.extBut D.l2TO) hy λg4 t4 s4=>yea ?_));have O4:IsPair g4 TO x b:=s4.extBut _ _ D.TOi2 O3;refine yaa (yjh O4 rfl (yaa (yel O4 λg5 O5 s5=>?_)))
 replace O5:IsPair g5 TO x y:=O5
 refine yaa (yyq (yea (yea ?_)));refine yaa (yjh O5 rfl (yaa (ypk ?_)));have sz:g5.objs.size=sh.heap.objs.size:=by rw[s5.1,s4.1,s3.1,s2.1,s1.1]
 have z5:IsZip g5 z TI TO .ellipsis:=s5.extBut _ _ D.TOz.symm (s4.extBut _ _ D.i2z.symm (s3.extBut _ _ D.TOz.symm (s2.extBut _ _ D.i1z.symm z1)));have k5:∀c o,c≠z->c≠TO->c≠i1->c≠i2->sh.heap.get? c=some o->g5.get? c=some o:=λc o c1 c2 c3 c4 e=>s5.extBut _ _ c2 (s4.extBut _ _ c4 (s3.extBut _ _ c2 (s2.extBut _ _ c3 (s1.extBut _ _ c1 e))));have a5:g5.IsTupleIter i1 l1 (k1+1):=((t2.extBut s3.extBut D.TOi1.symm).extBut s4.extBut D.i12).extBut s5.extBut D.TOi1.symm;have b5:g5.IsListIter i2 l2 (k2+1):=t4.extBut s5.extBut D.TOi2.symm;have zl:z<g5.objs.size:=yoa z5;refine (show wpAny (model pr wo) _ (yue (.ref z) (.ref g5.objs.size) >>= _) _ _ _ from yaa ?_);unfold yue;have z6:IsZip (g5.push { cls:=.type "tuple",data:=.seq #[x,y] }) z TI TO .ellipsis:=yba _ z5;refine yaa (ycc z6 (by simp) λg7 z7 s7=>?_)
 replace z7:IsZip g7 z TI TO (rawInt g5.objs.size):=z7
 refine ycc z7 (by simp) λg8 z8 s8=>?_
 replace z8:IsZip g8 z TI TO (rawInt g5.objs.size):=z8
 have up:∀c o,c≠z->g5.get? c=some o->g8.get? c=some o:=λc o c1 e=>s8.extBut _ _ c1 (s7.extBut _ _ c1 (yba _ e));have T8:IsPair g8 g5.objs.size x y:=s8.extBut _ _ (yze zl) (s7.extBut _ _ (yze zl) (yfa _ rfl));have n8:g8.objs.size=g5.objs.size+1:=by rw[s8.1,s7.1,ylc]
 rw[sz] at z8 T8 n8;refine yea ⟨_,rfl,(show Q (.ref g5.objs.size) _ from ?_)⟩;rw[sz];obtain⟨o1,e1,r1⟩:=a5;obtain⟨o2,e2,r2⟩:=b5;exact q g8 z8 (up _ _ D.TOz O5) ⟨o1,up _ _ D.i1z e1,r1⟩ ⟨o2,up _ _ D.i2z e2,r2⟩ T8 n8 λc o c1 c2 c3 c4 e=>up c o c1 (k5 c o c1 c2 c3 c4 e)
theorem zcub {z TI TO i1 i2 l1 l2:Addr}{k1 k2:Nat}{xs ys:Array Value}{a b:Value}{Q:yyt->Shared->Prop}(hd:Ar.handled=none)(D:ynq z TI TO i1 i2 l1 l2)
  (hz:IsZip sh.heap z TI TO .none) (hI:IsPair sh.heap TI (.ref i1) (.ref i2)) (hO:IsPair sh.heap TO a b) (h1:sh.heap.IsTupleIter i1 l1 k1) (h2:sh.heap.IsListIter i2 l2 k2) (hl1:sh.heap.IsTuple l1 xs) (hl2:sh.heap.IsList l2 ys) (he:xs[k1]?=none∨ys[k2]?=none)
  (q:∀g e,(∀c o,c≠z->c≠TO->c≠i1->c≠i2->sh.heap.get? c=some o->g.get? c=some o)->(∃o,g.get? e=some o∧o.cls = .type "StopIteration")->Ex (.ref e) { sh with heap:=g }) :
  wpAny (model pr wo) Ar (yle.«zip.__next__» ⟨[.ref z],[]⟩) Q Ex sh:=by
 refine (show wpAny (model pr wo) Ar (field (.ref z) 2 >>= _) _ Ex sh from yaa (ynd hz rfl (x:=.bool false) rfl ?_));refine (show wpAny (model pr wo) Ar (field (.ref z) 3 >>= _) _ Ex sh from yaa (ynd hz rfl (x:=.ref TI) rfl ?_));refine yaa (yjh hI rfl ?_);refine (show wpAny (model pr wo) Ar (yzc (.ref z) >>= _) _ Ex sh from yaa ?_);unfold yzc;refine yaa (ynd hz rfl (x:=.none) rfl (yea ?_));simp only[if_true];refine yaa (yyg (yaa (ynd hz rfl (x:=.ref TO) rfl ?_)));refine yaa (ycc hz (by simp) λg1 z1 s1=>yaa ?_)
 replace z1:IsZip g1 z TI TO .ellipsis:=z1
 simp only[yys,List.zipIdx_nil,ypp,List.forIn_nil];refine yaa (yaa (ylo ?_));cases hx:xs[k1]? with
 | none =>
  refine (show wpAny (model pr wo) _ (ywc (.ref i1) >>= _) _ _ _ from yaa (zekb hd (h1.extBut s1.extBut D.i1z) (tupB hl1 s1.extBut D.l1z) hx λg2 e s2 ⟨oe,h3,h4⟩=>?_));have z2:IsZip g2 z TI TO .ellipsis:=s2 _ _ D.i1z.symm z1;have nz:e≠z:=λy=>by subst y;rw[z2] at h3;cases h3;simp at h4
  exact ycc z2 (by simp) λg3 _ s3=>q g3 e (λc o c1 _ c3 _ y=>s3.extBut _ _ c1 (s2 _ _ c3 (s1.extBut _ _ c1 y))) ⟨oe,s3.extBut _ _ nz h3,h4⟩
 | some x =>
  have hy:ys[k2]?=none:=by
   rcases he with h|h
   ·rw[hx] at h;cases h
   ·exact h
  refine (show wpAny (model pr wo) _ (ywc (.ref i1) >>= _) _ _ _ from yaa (zvab (h1.extBut s1.extBut D.i1z) (tupB hl1 s1.extBut D.l1z) hx λg2 t2 s2=>yea ?_));have O2:IsPair g2 TO a b:=s2.extBut _ _ D.TOi1 (s1.extBut _ _ D.TOz hO);refine yaa (yjh O2 rfl (yaa (yel O2 λg3 O3 s3=>?_)));refine yaa (yyq (yea ?_));refine yaa (yaa (ylo ?_));refine (show wpAny (model pr wo) _ (ywc (.ref i2) >>= _) _ _ _ from yaa (wpAny_nextOf_list_end hd (((h2.extBut s1.extBut D.i2z).extBut s2.extBut D.i12.symm).extBut s3.extBut D.TOi2.symm) (((hl2.extBut s1.extBut D.l2z).extBut s2.extBut D.l2i1).extBut s3.extBut D.l2TO) hy λg4 e s4 ⟨oe,h3,h4⟩=>?_));have z4:IsZip g4 z TI TO .ellipsis:=s4 _ _ D.i2z.symm (s3.extBut _ _ D.TOz.symm (s2.extBut _ _ D.i1z.symm z1));have nz:e≠z:=λy=>by subst y;rw[z4] at h3;cases h3;simp at h4
  exact ycc z4 (by simp) λg5 _ s5=>q g5 e (λc o c1 c2 c3 c4 y=>s5.extBut _ _ c1 (s4 _ _ c4 (s3.extBut _ _ c2 (s2.extBut _ _ c3 (s1.extBut _ _ c1 y))))) ⟨oe,s5.extBut _ _ nz h3,h4⟩
theorem zdub {z TI TO i1 i2 l1 l2:Addr}{k1 k2:Nat}{xs ys:Array Value}{x y a b:Value}{Q:Option Value->Shared->Prop}(D:ynq z TI TO i1 i2 l1 l2)
  (hz:IsZip sh.heap z TI TO .none) (hI:IsPair sh.heap TI (.ref i1) (.ref i2)) (hO:IsPair sh.heap TO a b) (h1:sh.heap.IsTupleIter i1 l1 k1) (h2:sh.heap.IsListIter i2 l2 k2) (hl1:sh.heap.IsTuple l1 xs) (hl2:sh.heap.IsList l2 ys) (hx:xs[k1]?=some x) (hy:ys[k2]?=some y)
  (q:∀g,IsZip g z TI TO (rawInt sh.heap.objs.size)->IsPair g TO x y->g.IsTupleIter i1 l1 (k1+1)->g.IsListIter i2 l2 (k2+1)->IsPair g sh.heap.objs.size x y->g.objs.size=sh.heap.objs.size+1->(∀c o,c≠z->c≠TO->c≠i1->c≠i2->sh.heap.get? c=some o->g.get? c=some o)->Q (some (.ref sh.heap.objs.size)) { sh with heap:=g }) :
  wpAny (model pr wo) Ar (pyNext (.ref z)) Q Ex sh:=by
 have ty:sh.TypeIs (.ref z) "zip":=⟨_,hz,rfl⟩;unfold pyNext;exact yaa (yrj (yuc (name:=yuf "__next__") ty ycm (ync ycm ty F.entry_zip_next (zeub D hz hI hO h1 h2 hl1 hl2 hx hy λg a1 a2 a3 a4 a5 a6 a7=>yea (q g a1 a2 a3 a4 a5 a6 a7)) (F.args_zip_next_1 _))))
theorem zyyb {z TI TO i1 i2 l1 l2:Addr}{k1 k2:Nat}{xs ys:Array Value}{a b:Value}{Q:Option Value->Shared->Prop}(hd:Ar.handled=none)(D:ynq z TI TO i1 i2 l1 l2)
  (hz:IsZip sh.heap z TI TO .none) (hI:IsPair sh.heap TI (.ref i1) (.ref i2)) (hO:IsPair sh.heap TO a b) (h1:sh.heap.IsTupleIter i1 l1 k1) (h2:sh.heap.IsListIter i2 l2 k2) (hl1:sh.heap.IsTuple l1 xs) (hl2:sh.heap.IsList l2 ys) (he:xs[k1]?=none∨ys[k2]?=none)
  (q:∀g,(∀c o,c≠z->c≠TO->c≠i1->c≠i2->sh.heap.get? c=some o->g.get? c=some o)->Q none { sh with heap:=g }):wpAny (model pr wo) Ar (pyNext (.ref z)) Q Ex sh:=by
 have ty:sh.TypeIs (.ref z) "zip":=⟨_,hz,rfl⟩;unfold pyNext;refine yaa (yrj (yuc (name:=yuf "__next__") ty ycm (ync ycm ty F.entry_zip_next (zcub hd D hz hI hO h1 h2 hl1 hl2 he λg e hk ⟨o,ho,hc⟩=>?_) (F.args_zip_next_1 _))));exact yaa (ywk (T:="StopIteration") (b:=true) ⟨o,ho,hc⟩ yqq (yea (q _ hk)))
abbrev zt1 (h:Heap)(t:Addr):Heap:=h.push { cls:=.type "tuple_iterator",data:=.fields #[.ref t,.int 0 0] }
abbrev zt2 (h:Heap)(t l:Addr):Heap:=(zt1 h t).push { cls:=.type "list_iterator",data:=.fields #[.ref l,.int 0 0] }
abbrev zt3 (h:Heap)(t l:Addr):Heap:=(zt2 h t l).push { cls:=.type "tuple",data:=.seq #[.ref h.objs.size,.ref (zt1 h t).objs.size] }
abbrev zt4 (h:Heap)(t l:Addr):Heap:=(zt3 h t l).push { cls:=.type "tuple",data:=.seq #[.none,.none] }
abbrev zt5 (h:Heap)(t l:Addr):Heap:=(zt4 h t l).push { cls:=.type "zip",data:=.fields #[.none,.bool false,.bool false,.ref (zt2 h t l).objs.size,.ref (zt3 h t l).objs.size] }
theorem zarb (t l:Addr)(xs ys:Array Value):Meets (yle.«zip.__new__» ⟨[.type "zip",.ref t,.ref l],[]⟩) (λ_ R s=>s.heap.IsTuple t xs∧s.heap.IsList l ys∧R (.ok (.ret (.ref (zt4 s.heap t l).objs.size))) { s with heap:=zt5 s.heap t l }) :=
 .of_wp λprog w A R s h=>by
  obtain⟨hp,g,d,tk,os⟩:=s;obtain⟨a1,a2,h⟩:=h;have hsub:=sub_zip;have b1:Heap.IsTuple (yrt ⟨hp,g,d,tk,os⟩) t xs:=a1;have b2:Heap.IsList (yrt ⟨hp.push { cls:=.type "tuple_iterator",data:=.fields #[.ref t,.int 0 0] },g,d,tk,os⟩) l ys:=Heap.IsList.push a2 _
  wp_walk using yyf b1,ydk b2
  exact⟨_,rfl,h⟩
theorem zznb {t l:Addr}{xs ys:Array Value}{Q:Value->Shared->Prop}(h1:sh.heap.IsTuple t xs)(h2:sh.heap.IsList l ys)
  (q:∀g,IsZip g (sh.heap.objs.size+4) (sh.heap.objs.size+2) (sh.heap.objs.size+3) .none->IsPair g (sh.heap.objs.size+2) (.ref sh.heap.objs.size) (.ref (sh.heap.objs.size+1))->IsPair g (sh.heap.objs.size+3) .none .none->g.IsTupleIter sh.heap.objs.size t 0->g.IsListIter (sh.heap.objs.size+1) l 0->(∀c o,sh.heap.get? c=some o->g.get? c=some o)->Q (.ref (sh.heap.objs.size+4)) { sh with heap:=g }) :
  wpAny (model pr wo) Ar (call (.type "zip") [.ref t,.ref l]) Q Ex sh:=by
 refine callType_new F.called_zip (by decide) (F.typeCall_zip_2 _ _) (F.newCall_zip_2 _ _) (λobj=>F.args_object_init_3 obj _ _) F.entry_zip_new (zarb t l xs ys) ⟨h1,h2,?_⟩;have n1:(zt1 sh.heap t).objs.size=sh.heap.objs.size+1:=ylc ..;have n2:(zt2 sh.heap t l).objs.size=sh.heap.objs.size+2:=by rw[ylc,n1]
 have n3:(zt3 sh.heap t l).objs.size=sh.heap.objs.size+3:=by rw[ylc,n2]
 have n4:(zt4 sh.heap t l).objs.size=sh.heap.objs.size+4:=by rw[ylc,n3]
 have e5:(zt5 sh.heap t l).get? (zt4 sh.heap t l).objs.size=some _:=yfa _ rfl;have e4:(zt5 sh.heap t l).get? (zt3 sh.heap t l).objs.size=some _:=yba _ (yfa _ rfl);have e3:(zt5 sh.heap t l).get? (zt2 sh.heap t l).objs.size=some _:=yba _ (yba _ (yfa _ rfl));have e2:(zt5 sh.heap t l).get? (zt1 sh.heap t).objs.size=some _:=yba _ (yba _ (yba _ (yfa _ rfl)));have e1:(zt5 sh.heap t l).get? sh.heap.objs.size=some _:=yba _ (yba _ (yba _ (yba _ (yfa _ rfl))));show _∧_
 rw[n2,n3,n4] at e5;rw[n1,n2] at e3;rw[n3] at e4;rw[n1] at e2;rw[n4];exact⟨⟨_,e5,rfl⟩,q _ e5 e3 e4 ⟨_,e1,rfl,rfl⟩ ⟨_,e2,rfl,rfl⟩ λc o x=>yba _ (yba _ (yba _ (yba _ (yba _ x))))⟩
end
def ZpT (h:Heap)(z TI TO i1 i2 l1 l2:Addr)(i:Nat):Prop:=IsZip h z TI TO .none∧IsPair h TI (.ref i1) (.ref i2)∧(Ex2 λa b=>IsPair h TO a b)∧h.IsTupleIter i1 l1 i∧h.IsListIter i2 l2 i
def Izt (K:yda)(a b:Addr):It :=
 ⟨λi H=>Ex4 λxs ys x y=>SqT K H a xs∧SqL K H b ys∧xs[i]?=some x∧ys[i]?=some y,λi H x H'=>Ex3 λp v u=>H p=none∧x = .ref p∧H'=upd H p (.tup [v,u])∧∀xs ys,SqT K H a xs->SqL K H b ys->xs[i]?=some v∧ys[i]?=some u,λi H=>Ex2 λxs ys=>SqT K H a xs∧SqL K H b ys∧(xs.length≤i∨ys.length≤i)⟩
theorem zqob {h:Heap}{z TI TO i1 i2 a b:Addr}{i:Nat}{xs ys:Array Value}(D1:TI≠z)(D2:TO≠z)(D3:i1≠z)(D4:i2≠z)(D5:TI≠TO)(D6:TI≠i1)(D7:TI≠i2)(D8:TO≠i1)(D9:TO≠i2)(D10:i1≠i2)(nTO:a≠TO)(st:ZpT h z TI TO i1 i2 a b i)(p:h.IsTuple a xs)(q:h.IsList b ys):ynq z TI TO i1 i2 a b:=by
 obtain⟨g1,g2,⟨x0,y0,g3⟩,⟨o4,g4,c4,_⟩,⟨o5,g5,c5,_⟩⟩:=st;obtain⟨b1,b2,b3,b4⟩:b≠z∧b≠TO∧b≠i1∧b≠i2:=by
  obtain⟨o,ho,hc,_⟩:=q;refine⟨λe=>?_,λe=>?_,λe=>?_,λe=>?_⟩
  ·rw[e,g1] at ho;cases ho;exact absurd hc (by simp)
  ·rw[e,g3] at ho;cases ho;exact absurd hc (by simp)
  ·rw[e,g4] at ho;cases ho;exact absurd (c4.symm.trans hc) (by simp)
  ·rw[e,g5] at ho;cases ho;exact absurd (c5.symm.trans hc) (by simp)
 obtain⟨a1,a3,a4⟩:a≠z∧a≠i1∧a≠i2:=by
  obtain⟨o,ho,hc,_⟩:=p;refine⟨λe=>?_,λe=>?_,λe=>?_⟩
  ·rw[e,g1] at ho;cases ho;exact absurd hc (by simp)
  ·rw[e,g4] at ho;cases ho;exact absurd (c4.symm.trans hc) (by simp)
  ·rw[e,g5] at ho;cases ho;exact absurd (c5.symm.trans hc) (by simp)
 exact⟨D1,D2,D3,D4,D5,D6,D7,D8,D9,D10,a1,nTO,a3,a4,b1,b2,b3,b4⟩
theorem zjmb {P:yzb}{w:World}{K:yda}{es:List Expr}{k1:Nat}{pos:Pos}(a b z TI TO i1 i2:Addr)(D1:TI≠z)(D2:TO≠z)(D3:i1≠z)(D4:i2≠z)(D5:TI≠TO)(D6:TI≠i1)(D7:TI≠i2)(D8:TO≠i1)(D9:TO≠i2)(D10:i1≠i2)(nTO:a≠TO):Turn P w K (.Tuple es k1 pos) (Izt K a b) [z,TI,TO,i1,i2] z (λi h=>ZpT h z TI TO i1 i2 a b i) where
 mem:=by simp
 obj:=λi h st c hc=>by
  obtain⟨g1,g2,⟨x,y,g3⟩,⟨o4,h4,_,d4⟩,⟨o5,h5,_,d5⟩⟩:=st;simp only[yja,yie,or_false] at hc
  rcases hc with rfl|rfl|rfl|rfl|rfl
  ·exact⟨_,g1,λv y=>by cases y⟩
  ·exact⟨_,g2,λv y=>by cases y⟩
  ·exact⟨_,g3,λv y=>by cases y⟩
  ·exact⟨o4,h4,λv y=>by rw[d4] at y;cases y⟩
  ·exact⟨o5,h5,λv y=>by rw[d5] at y;cases y⟩
 keep:=λi h h' st k=>by
  obtain⟨g1,g2,⟨x,y,g3⟩,⟨o4,h4,r4⟩,⟨o5,h5,r5⟩⟩:=st;exact⟨k z (by simp) _ g1,k TI (by simp) _ g2,⟨x,y,k TO (by simp) _ g3⟩,⟨o4,k i1 (by simp) _ h4,r4⟩,⟨o5,k i2 (by simp) _ h5,r5⟩⟩
 item:=by
  intro X hP hw hK hc i pins s σ H E I hf st hg;subst hP hw hK;obtain⟨xs,ys,x,y,hq,hq2,hx,hy⟩:=hg;obtain⟨its,rv,p,hz⟩:=I.tuple hq;obtain⟨its2,rv2,p2,hz2⟩:=I.list hq2;obtain⟨u,hu,ru⟩:=rv.get hx;obtain⟨u2,hu2,ru2⟩:=rv2.get hy;obtain⟨g1,g2,⟨x0,y0,g3⟩,g4,g5⟩:=id st;have low:∀c∈[z,TI,TO,i1,i2],c<s.heap.objs.size:=λc hc=>by
   simp only[yja,yie,or_false] at hc
   rcases hc with rfl|rfl|rfl|rfl|rfl
   ·exact yoa g1
   ·exact yoa g2
   ·exact yoa g3
   ·obtain⟨o,h,_⟩:=g4;exact yoa h
   ·obtain⟨o,h,_⟩:=g5;exact yoa h
  have D:ynq z TI TO i1 i2 a b:=zqob D1 D2 D3 D4 D5 D6 D7 D8 D9 D10 nTO st p p2.isList;refine zdub D g1 g2 g3 g4 g5 p p2.isList (x:=u) (y:=u2) (by simpa using hu) (by simpa using hu2) λg e1 eo i1' i2' t1 sz k1=>?_;refine⟨_,rfl,wpAny_letOwnedTupleGo_zip e1 λg2' e2 s2=>?_⟩;have na:∀c,c<s.heap.objs.size->c≠s.heap.objs.size:=λc h=>yfb h;have ltz:=low z (by simp);have tt:g2'.get? s.heap.objs.size=some { cls:=.type "tuple",data:=.seq #[u,u2] }:=s2.extBut _ _ (yze ltz) t1;have kk:∀c o,c∉[z,TI,TO,i1,i2]->s.heap.get? c=some o->g2'.get? c=some o:=λc o hc e=>by
   simp only[yja,yie,or_false,not_or] at hc;exact s2.extBut c o hc.1 (k1 c o hc.1 hc.2.2.1 hc.2.2.2.1 hc.2.2.2.2 e)
  have I1:Inv X pins σ (upd H s.heap.objs.size (.tup [x,y])) { s with heap:=s.heap.push { cls:=.type "tuple",data:=.seq #[u,u2] },toks:=s.toks } :=
   I.laid (t':=s.toks) (λb o z=>yba _ z) (yga _) ⟨by show 2≤yva;decide,[u,u2],.cons ru (.cons ru2 .nil),⟨_,yfa _ rfl,rfl,_,rfl⟩⟩
  have fo:∀c∈[z,TI,TO,i1,i2],FpOk X pins (upd H s.heap.objs.size (.tup [x,y])) c:=λc hc=>⟨by rw[zbb (na c (low c hc))];exact (hf c hc).1,(hf c hc).2⟩;have I2:=I1.zvob (h':=g2') (t':=s.toks) (fp:=[z,TI,TO,i1,i2]) (λc o hc e=>by
   by_cases hb:c=s.heap.objs.size
   ·rw[hb] at e ⊢;rw[yfa _ rfl] at e;cases e;exact tt
   ·rw[ypn _ _ _ hb] at e;exact kk c o hc e) fo
  refine⟨.ref s.heap.objs.size,_,I2,rfl,⟨s.heap.objs.size,x,y,I.hok.fresh (yga _),rfl,rfl,λzs ws hz hw=>⟨by rw[I.ziv hz hq];exact hx,by rw[I.zyab hw hq2];exact hy⟩⟩,⟨e2,?_,⟨u,u2,?_⟩,?_,?_⟩,λc hc=>(fo c hc).1⟩
  ·exact s2.extBut _ _ D1 (k1 _ _ D1 D5 D6 D7 g2)
  ·exact s2.extBut _ _ D2 eo
  ·obtain⟨o,e,r⟩:=i1';exact⟨o,s2.extBut _ _ D3 e,r⟩
  ·obtain⟨o,e,r⟩:=i2';exact⟨o,s2.extBut _ _ D4 e,r⟩
 done:=by
  intro X hP hw hK hc i pins s σ H E I hf st hg;subst hP hw hK;obtain⟨xs,ys,hq,hq2,hx⟩:=hg;obtain⟨its,rv,p,hz⟩:=I.tuple hq;obtain⟨its2,rv2,p2,hz2⟩:=I.list hq2;obtain⟨g1,g2,⟨x0,y0,g3⟩,g4,g5⟩:=id st;have D:ynq z TI TO i1 i2 a b:=zqob D1 D2 D3 D4 D5 D6 D7 D8 D9 D10 nTO st p p2.isList;have hl:=rv.length;have hl2:=rv2.length;refine zyyb (I.ok.hd hc) D g1 g2 g3 g4 g5 p p2.isList ?_ λg kp=>⟨rfl,I.zvob (t':=s.toks) (fp:=[z,TI,TO,i1,i2]) (λc o hc e=>?_) hf⟩
  ·rcases hx with hx|hx
   ·exact .inl (by simp;omega)
   ·exact .inr (by simp;omega)
  ·simp only[yja,yie,or_false,not_or] at hc;exact kp c o hc.1 hc.2.2.1 hc.2.2.2.1 hc.2.2.2.2 e
 self:=λ_ _ _ _ _ st h=>by
  obtain⟨g1,_⟩:=st;exact wpAny_pyIter_zip g1 h
section
variable {X:Cx}
def iZpT (K:yda)(ta:TA):TI:=fun σ H R=>ta σ H λvs H1=>Ex4 λa b xs ys=>vs=[.ref a,.ref b]∧SqT K H1 a xs∧SqL K H1 b ys∧R (Izt K a b) H1
theorem zlvb {es:List Expr}{k1:Nat}{tp:Pos}{a b:Expr}{ta:TA}{p pos:Pos}(hg:Gl X "zip")(hm:X.mg "zip" = none)(ha:PA X [a,b] ta)(hs:yxc [a,b] X.env=(false,eval a X.env)::yxc [b] X.env:=by rfl)(hp:(backTo pos (yxc [b] X.env)).any (·.1)=false:=by rfl):PI X (.Tuple es k1 tp) (.Call (.Name "zip" p) [a,b] [] pos) (iZpT X.K ta):=by
 intro pins s σ H R I h;refine Call_ (zgr I hg hm boot_zip (ymd (thn (ha pos pins s σ H _ I h) λus s1 ⟨vs,H1,I1,r1,q1⟩=>?_) hs hp));obtain⟨c,d,xs,ys,e,hq,hq2,q⟩:=q1;subst e;obtain⟨u,u',rfl,ru,ru'⟩:=vals2 r1;cases ru;cases ru';obtain⟨its,rv,pl,hz⟩:=I1.tuple hq;obtain⟨its2,rv2,pl2,hz2⟩:=I1.list hq2;refine zznb pl pl2.isList λg zz ti to li1 li2 kp=>?_;refine wpAny_pyIter_zip (s:={ s1 with heap:=g }) zz ?_;have n:∀{i j:Nat},i≠j->s1.heap.objs.size+i≠s1.heap.objs.size+j:=λh e=>h (Nat.add_left_cancel e);have cl:c<s1.heap.objs.size:=by
  obtain⟨o,ho,_⟩:=pl;exact yoa ho
 refine⟨s1.heap.objs.size+4,[s1.heap.objs.size+4,s1.heap.objs.size+2,s1.heap.objs.size+3,s1.heap.objs.size,s1.heap.objs.size+1],_,_,H1,rfl,I1.kept (t':=s1.toks) kp,zjmb c d (s1.heap.objs.size+4) (s1.heap.objs.size+2) (s1.heap.objs.size+3) s1.heap.objs.size (s1.heap.objs.size+1) (n (by decide)) (n (by decide)) (n (i:=0) (by decide)) (n (by decide)) (n (by decide)) (n (j:=0) (by decide)) (n (by decide)) (n (j:=0) (by decide)) (n (by decide)) (n (i:=0) (by decide)) (yfb (yab cl (yyk _ _))),⟨zz,ti,⟨_,_,to⟩,li1,li2⟩,λx hx=>?_,q⟩;have le:s1.heap.objs.size≤x:=by
  simp only[yja,yie,or_false] at hx
  rcases hx with e|e|e|e|e<;>rw[e]<;>first|exact yga _|exact yyk _ _
 exact I1.fpOk le (I1.hok.fresh le)
end
theorem zvnb {K:yda}{a b:Addr}{xs zs:List V}{H1:Hp}{g:TG}{tt:TT}{te:TE}{n:Nat}{js:List Nat}{σ:St}{Q:VK}(Pv:Nat->List V->Hp->Prop)(hlen:xs.length=zs.length)(hl:∀i ys H,Pv i ys H->SqT K H a xs∧SqL K H b zs)(h0:Pv 0 [] H1)(hz:∀i ys H,Pv i ys H->ys.length≤yva)
  (hs:∀i x y ys H p,xs[i]?=some x->zs[i]?=some y->Pv i ys H->H p=none->g (.ref p) (zrf n js σ) (upd H p (.tup [x,y])) fun σ2 H2=>σ2.drop n=(zrf n js σ).drop n∧tt σ2 H2 λb H3=>if b=true then te σ2 H3 λy H4=>Pv (i+1) (ys++[y]) H4 else Pv (i+1) ys H3)
  (hd:∀ys H,Pv xs.length ys H->∀p,H p=none->Q (.ref p) (upd H p (.lst ys))):zoy (Izt K a b) H1 g tt te n js σ Q:=by
 refine⟨λi m ys H=>m=xs.length-i∧i≤xs.length∧Pv i ys H,⟨xs.length,rfl,ywa _,h0⟩,?_⟩;rintro i m ys H ⟨rfl,hi,pv⟩;obtain⟨sq,sq2⟩:=hl i ys H pv
 by_cases lt:i<xs.length
 ·have ex:xs[i]?=some xs[i]:=ybb lt;have ey:zs[i]?=some (zs[i]'(by omega)):=ybb (by omega);refine .inr ⟨⟨xs,zs,xs[i],_,sq,sq2,ex,ey⟩,hz i ys H pv,Pv (i+1),λys' H' z=>⟨xs.length-(i+1),by omega,rfl,lt,z⟩,λx H' y=>?_⟩;obtain⟨p,v,u,hp,rfl,rfl,hv⟩:=y;obtain⟨h1,h2⟩:=hv xs zs sq sq2;exact hs i v u ys H p h1 h2 pv hp
 ·obtain rfl:i=xs.length:=by omega
  exact .inl ⟨⟨xs,zs,sq,sq2,.inl (yga _)⟩,hz _ ys H pv,hd ys H pv⟩
section
variable {X:Cx}
end
end L2
namespace L2
open PySem PyProof.Rows
def DfT (K:yda)(dV:Value)(ds:List Value):Prop:=Ex3 λ(da:Addr) (o:Obj) (n:Nat)=>dV = .ref da∧K.lookup da=some o∧o.data = .seq ds.toArray n
structure FunD (K:yda)(x qual:Str)(st:Stmt)(f:Addr)(fd:yrf)(ds:List Value):Prop where
 ex:Ex10 λ(oc:Value) (od:Option Addr) (dV kV doc pm:Value) (an:Option Addr) (cdv ct:Value) (osl:Array (Option Value)) =>
  fd=ytf x qual (zrk st) (zpg st) (zga st) dV kV doc pm an cdv ct∧K.lookup f=some ⟨oc,od,.func fd,osl⟩∧yeh K cdv qual=true∧DfT K dV ds
 kp:ygf K (.ref f)=true
set_option genInjectivity false in
structure MfD (K:yda)(C:Addr)(x q:Str)(st:Stmt)(ds:List Value) where
 f:Addr
 d:yrf
 F:FunD K x q st f d ds
 M:Meth K C x f
section
variable {K:yda}{C f da:Addr}{x q:Str}{st:Stmt}{oc dcl:Value}{od an ddi:Option Addr}{sl dsl:Array (Option Value)}{kV dc pm cd ct:Value}{ds:List Value}{dn:Nat}
def mfd_of (a:yjb K (.ref C) x=some (some (.ref f)))(i:yqk K (.ref f)=true)
  (l:K.lookup f=some ⟨oc,od,.func (ytf x q (zrk st) (zpg st) (zga st) (.ref da) kV dc pm an cd ct),sl⟩) (c:yeh K cd q=true) (k:ygf K (.ref f)=true)
  (t:K.lookup da=some ⟨dcl,ddi,.seq ds.toArray dn,dsl⟩):MfD K C x q st ds :=
 ⟨f,_,⟨⟨_,_,_,_,_,_,_,_,_,_,rfl,l,c,da,_,dn,rfl,t,rfl⟩,k⟩,⟨a,i,k⟩⟩
end
section
variable {P:yzb}{w:World}{K:yda}{mg:Str->Option Value}{base:Heap}{C:Addr}{x q:Str}{st:Stmt}{N ps:List Str}{k:Nat}{sp:Sp}{ds:List Value}
theorem MfD.ok (g:MfD K C x q st ds)(S:zma N ps (zga st))
  (hb:∀(f:Addr) (cdv:Value) (A:Around) (outer:List Env) (s:Shared) (H:Hp) (vs:List V) (Q:VK) (E:XK),Room k (A.deeper (envOfC q (zga st) s.heap.objs.size f cdv))->sp vs H Q E->let X:=(cxOf CX0 P w K mg base N q (zga st) f cdv A outer s H E).nox;∃t,PSs X (zpg st) t∧t { nx:=λ_ H'=>Q .non H',rt:=Q } (start N vs) H)
  (len:∀vs H Q E,sp vs H Q E->vs.length=ps.length:=by intro _ _ _ _ h;cases h;rename_i h;rw[h.1];rfl):FnOk P w K mg base CX0 (k+1) g.f g.d ps sp:=by
 obtain⟨oc,od,dV,kV,doc,pm,an,cdv,ct,osl,e,lk,hcd,_⟩:=g.F.ex;have lk':=lk;rw[e] at lk';rw[e];refine zkfc lk' hcd S len λA outer s H vs Q E hr hsp=>?_;obtain⟨t,h,q⟩:=hb g.f cdv A outer s H vs Q E hr hsp;exact⟨t,h.nox,q⟩
theorem FunD.binds {f:Addr}{fd:yrf}(F:FunD K x q st f fd ds){es:List Value}
  (h:∀(dV kV doc pm:Value) (an:Option Addr) (cdv ct:Value) (us:List Value),(us++es).length=ps.length->∃kk:Option (Array Value)->Sem (List (Str×Value)),bindArgs (ytf x q (zrk st) (zpg st) (zga st) dV kV doc pm an cdv ct) ⟨us,[]⟩=yul dV >>= kk∧kk (some ds.toArray)=pure (ps.zip (us++es))):Binds K fd ps es:=by
 obtain⟨oc,od,dV,kV,doc,pm,an,cdv,ct,osl,rfl,lk,hcd,da,o,n,rfl,t,e⟩:=F.ex;intro s us hK hl;obtain⟨kk,h1,h2⟩:=h (.ref da) kV doc pm an cdv ct us hl;exact yuq.of_defaults rfl (hK _ _ t) e h1 h2
end
end L2
namespace L2
open PySem PySem.Spec PyProof.Rows PySem.MeetsSeq
def tLR2 (ta:TA):TE:=fun σ H Q=>ta σ H λvs H1=>∃(i:Nat),∃(j:Nat),vs=[.int (i:Int),.int ((i:Int)+(j:Int))]∧i≤1000∧j≤1000∧∀p,H1 p=none->Q (.ref p) (upd H1 p (.lst ((yko i j).map λk:Nat=>V.int (k:Int))))
section
variable {X:Cx}
theorem zmab {a b:Expr}{ta:TA}{p p2 pos pos2:Pos}(hc:X.calm=true)(hg:Gl X "list")(hm:X.mg "list" = none)(hg2:Gl X "range")(hm2:X.mg "range" = none)(ha:PA X [a,b] ta)(hs:yxc [a,b] X.env=[(false,eval a X.env),(false,eval b X.env)]:=by rfl)(hs3:yxc [b] X.env=[(false,eval b X.env)]:=by rfl)
  (hs2:yxc [Expr.Call (.Name "range" p2) [a,b] [] pos2] X.env=[(false,eval (.Call (.Name "range" p2) [a,b] [] pos2) X.env)]:=by rfl):PE X (.Call (.Name "list" p) [.Call (.Name "range" p2) [a,b] [] pos2] [] pos) (tLR2 ta):=by
 intro pins s σ H Q I h;refine yii (zgr I hg hm ywh ?_);refine ymd ?_ (by rw[hs2];rfl) rfl;rw[hs2];show wpAny _ _ (spliced [(false,eval (.Call (.Name "range" p2) [a,b] [] pos2) X.env)]) _ _ s
 refine yir ?_;refine Call_ (zgr I hg2 hm2 boot_range (ymd (thn (ha pos2 pins s σ H _ I h) λus s1 ⟨vs,H1,I1,r1,q1⟩=>?_) (by rw[hs,hs3]) (by rw[hs3];rfl)));obtain⟨i,j,e,hi,hj,q⟩:=q1;subst e;cases r1 with
 | cons r rr =>
 cases rr with
 | cons r' rr =>
 cases rr;obtain⟨t,rfl⟩:=r;obtain⟨t',rfl⟩:=r';refine call_range_2 (ysr ?_);have rs:ywn (i:Int) ((i:Int)+(j:Int)) 1=((j:Nat):Int):=by
  rw[rangeSize_one]
  split<;>omega
 refine call_list_range (n:=j) (show X.A.handled=none from I.ok.hd hc) (IsRange.new ..) (small_one (by omega) (by omega) (by omega) (by omega)) rs (by omega) λh' tk acc' c' k1 k2 k3=>?_;have sz:(s1.heap.push { cls:=.type "range",data:=.fields #[.int (i:Int) t,.int ((i:Int)+(j:Int)) t',.int 1 s1.toks] }).objs.size=s1.heap.objs.size+1:=ylc _ _;have vs:Vals ((yko i j).map λk:Nat=>V.int (k:Int)) acc'.toList:=by
  have z:=zpy acc'.toList i λk v e=>by
   obtain⟨t,e2⟩:=k3.2 k v (by rw[← yac];exact e);exact⟨t,by rw[e2];congr 1;omega⟩
  rw[ysa,k3.1] at z;exact z
 refine⟨.ref _,_,I1.laid (t':=tk) (o:=.lst ((yko i j).map λk:Nat=>V.int (k:Int))) (λb o e=>k1 b o (yba _ e)) (a:=(s1.heap.push { cls:=.type "range",data:=.fields #[.int (i:Int) t,.int ((i:Int)+(j:Int)) t',.int 1 s1.toks] }).objs.size) (by rw[sz];exact ype _) ?_,rfl,q _ (I1.hok.fresh (by rw[sz];exact ype _))⟩;refine⟨?_,acc'.toList,c',vs,?_⟩
 ·rw[yca,List.length_range'];exact yob hj (by decide)
 ·rw[ylf];exact k2
end
end L2
namespace Wm
open PySem
theorem zmsb {c:Nat}:∀{x y a b:List Nat},c∉x->c∉y->x++c::a=y++c::b->x=y∧a=b
 | [],[],a,b,_,_,h=>⟨rfl,by simpa using h⟩
 | [],y::ys,a,b,_,hy,h=>by
  exfalso;simp only[ybm,ywo,ydm] at h;exact hy (by rw[← h.1];exact yma)
 | x::xs,[],a,b,hx,_,h=>by
  exfalso;simp only[ybm,ywo,ydm] at h;exact hx (by rw[h.1];exact yma)
 | x::xs,y::ys,a,b,hx,hy,h=>by
  simp only[ywo,ydm] at h;obtain⟨h1,h2⟩:=h;obtain⟨e1,e2⟩:=zmsb (λz=>hx (yla _ z)) (λz=>hy (yla _ z)) h2;exact⟨by rw[h1,e1],e2⟩
def jl (c:Nat):List (List Nat)->List Nat
 | []=>[]
 | [x]=>x
 | x::y::r=>x++c::jl c (y::r)
theorem zoyb {c:Nat}:∀{xs ys:List (List Nat)},xs≠[]->ys≠[]->(∀x∈xs,c∉x)->(∀y∈ys,c∉y)->jl c xs=jl c ys->xs=ys
 | [],_,h,_,_,_,_=>absurd rfl h
 | _,[],_,h,_,_,_=>absurd rfl h
 | [x],[y],_,_,_,_,h=>by
  have h':x=y:=h;rw[h']
 | [x],y::z::r,_,_,hx,_,h=>by
  exfalso;have h':x=y++c::jl c (z::r):=h;exact hx x yma (by rw[h'];simp)
 | x::z::r,[y],_,_,_,hy,h=>by
  exfalso;have h':x++c::jl c (z::r)=y:=h;exact hy y yma (by rw[← h'];simp)
 | x::z::r,y::z'::r',_,_,hx,hy,h=>by
  have h':x++c::jl c (z::r)=y++c::jl c (z'::r'):=h;obtain⟨e1,e2⟩:=zmsb (hx x yma) (hy y yma) h';rw[e1,zoyb (by simp) (by simp) (λq hq=>hx q (yla _ hq)) (λq hq=>hy q (yla _ hq)) e2]
theorem zop (c:Nat):∀ws:List Str,(yrc ⟨#[c]⟩ ws).cps.toList=jl c (ws.map λw=>w.cps.toList)
 | []=>rfl
 | [x]=>rfl
 | x::y::r=>by
  have ih:=zop c (y::r);show (x++(⟨#[c]⟩:Str)++yrc ⟨#[c]⟩ (y::r)).cps.toList=x.cps.toList++c::jl c ((y::r).map λw=>w.cps.toList)
  rw[← ih];show ((x.cps++#[c])++(yrc ⟨#[c]⟩ (y::r)).cps).toList=_
  simp
theorem toList_inj {xs ys:List Str}(h:(xs.map λw=>w.cps.toList)=(ys.map λw=>w.cps.toList)):xs=ys:=by
 induction xs generalizing ys with
 | nil=>cases ys with
  | nil=>rfl
  | cons y r=>simp at h
 | cons x r ih=>cases ys with
  | nil=>simp at h
  | cons y s =>
   simp only[ytb,ydm] at h;have e:x=y:=by
    obtain⟨a⟩:=x;obtain⟨b⟩:=y;have h1:a.toList=b.toList:=h.1;rw[yzk.mp h1]
   rw[e,ih h.2]
theorem zkub (x y:Str):yvf x y≠[]:=by
 unfold yvf
 split
 ·simp
 ·split
  ·simp
  ·unfold yrh;cases yud x y 0 x.length (x.length+1)<;>simp
theorem zqy {c:Nat}{ws:List Str}(hne:ws≠[])(hf:∀w∈ws,c∉w.cps.toList):yvf (yrc ⟨#[c]⟩ ws) ⟨#[c]⟩=ws:=by
 refine toList_inj (zoyb (c:=c) (by simpa using zkub _ _) (by simpa using hne) (λx hx=>?_) (λx hx=>?_) ?_)
 ·obtain⟨w,hw,rfl⟩:=yfc.mp hx;exact StrLaws.split_free _ c w hw
 ·obtain⟨w,hw,rfl⟩:=yfc.mp hx;exact hf w hw
 ·rw[← zop,← zop,StrLaws.join_split]
theorem zqu (s:Str):∀ws:List Str,(yrc s ws).length≤(ws.map (·.length)).sum+ws.length*s.length
 | []=>ywa _
 | [x]=>by
  show x.length≤_
  simp only[ytb,yxh,ywj,List.sum_nil,ycf];omega
 | x::y::r=>by
  have ih:=zqu s (y::r);show (x++s++yrc s (y::r)).length≤_
  rw[ygs,ygs];simp only[ytb,ywj,ykc,Nat.add_mul,Nat.one_mul] at ih ⊢;omega
inductive Wh where
 | all|self|mine|mark (n:Str)|force (i:Nat)|not (a:Wh)|both (a b:Wh)|any (a b:Wh)
def Wh.word:Wh->Str
 | .all=>"all"
 | .self=>"self"
 | .mine=>"mine"
 | .mark _=>"mark"
 | .force _=>"force"
 | .not _=>"not"
 | .both _ _=>"both"
 | .any _ _=>"any"
inductive Wv where
 | non|name (n:Str)|num (i:Nat)
def Wh.val:Wh->Wv
 | .mark n=>.name n
 | .force i=>.num i
 | _=>.non
def Wh.parts:Wh->List Wh
 | .not a=>[a]
 | .both a b=>[a,b]
 | .any a b=>[a,b]
 | _=>[]
def Wv.words:Wv->List Str
 | .non=>[]
 | .name n=>[n]
 | .num i=>[toString (i:Int)]
def Wh.words:Wh->List Str
 | .all=>["all"]
 | .self=>["self"]
 | .mine=>["mine"]
 | .mark n=>["mark",n]
 | .force i=>["force",toString (i:Int)]
 | .not a=>"not" :: a.words
 | .both a b=>"both" :: (a.words++b.words)
 | .any a b=>"any" :: (a.words++b.words)
def Wh.size:Wh->Nat
 | .not a=>a.size+1
 | .both a b=>a.size+b.size+1
 | .any a b=>a.size+b.size+1
 | _=>1
def Wh.flat:Wh->List (Str×Wv)
 | .not a=>("not",.non)::a.flat
 | .both a b=>("both",.non)::(a.flat++b.flat)
 | .any a b=>("any",.non)::(a.flat++b.flat)
 | w=>[(w.word,w.val)]
def zce (n:Str):Prop:=1≤n.length∧n.length≤8∧∀c∈n.cps.toList,97≤c∧c≤122
def Wh.ok:Wh->Prop
 | .mark n=>zce n
 | .force i=>i<1000
 | .not a=>a.ok
 | .both a b=>a.ok∧b.ok
 | .any a b=>a.ok∧b.ok
 | _=>True
theorem zmeb:∀i:Nat,i<1000->∀c∈(toString (i:Int):Str).cps.toList,48≤c∧c≤57:=by decide +kernel
theorem zis:∀i:Nat,i<1000->1≤(toString (i:Int):Str).length∧(toString (i:Int):Str).length≤3:=by decide +kernel
def zftb (u:Str):Prop:=32∉u.cps.toList∧1≤u.length∧u.length≤8
theorem zcrb {n:Str}(h:zce n):zftb n:=⟨λz=>absurd (h.2.2 32 z).1 (by decide),h.1,h.2.1⟩
theorem zcr {i:Nat}(h:i<1000):zftb (toString (i:Int):Str):=by
 have q:=zis i h;exact⟨λz=>absurd (zmeb i h 32 z).1 (by decide),q.1,by omega⟩
theorem ztxb {l:List Nat}{k:Nat}(h:∀x∈l,x≤k):l.sum≤l.length*k:=by
 induction l with
 | nil=>simp
 | cons x r ih =>
  have a:=h x yma;have b:=ih λy hy=>h y (yla _ hy);rw[ywj,ykc,Nat.add_mul,Nat.one_mul];omega
def step:List Wh->List Wh
 | []=>[]
 | h::t=>h.parts++t
def pend (w:Wh):Nat->List Wh
 | 0=>[w]
 | j+1=>step (pend w j)
def Wh.depth:Wh->Nat
 | .not a=>a.depth+1
 | .both a b=>max a.depth b.depth+1
 | .any a b=>max a.depth b.depth+1
 | _=>1
end Wm
namespace Wm
open PySem
def plain (w:Wh):Prop:=w.ok∧w.size≤9
structure Deed where
 each:Str
 kind:Str
 amt:Wv
 whom:Wh
def zuyb:List Str:=["each","one"]
def znr:List Str:=["leave","hurt","gain","lack","lose","score","draw"]
def zrcb:List Str:=["come","leave","hurt","gain","lack","lose","score","draw"]
def zxh:List Str:=["lose","score","draw"]
def changes:List Str:=["mute","steal","gain","lack","be","more","less","per"]
inductive zku:Str->Wv->Prop
 | leave:zku "leave" .non
 | gain {n:Str}:zce n->zku "gain" (.name n)
 | lack {n:Str}:zce n->zku "lack" (.name n)
 | hurt {i:Nat}:i<1000->zku "hurt" (.num i)
 | lose {i:Nat}:i<1000->zku "lose" (.num i)
 | score {i:Nat}:i<1000->zku "score" (.num i)
 | draw {i:Nat}:i<1000->zku "draw" (.num i)
structure Deed.ok (d:Deed):Prop where
 each:d.each∈zuyb
 amt:zku d.kind d.amt
 whom:plain d.whom
def Deed.words (d:Deed):List Str:=d.each::d.kind::(d.amt.words++d.whom.words)
inductive Hv where
 | v (x:Wv)|w (y:Wh)
def Hv.words:Hv->List Str
 | .v x=>x.words
 | .w y=>y.words
inductive zgl:Str->Hv->Prop
 | mute:zgl "mute" (.v .non)
 | steal:zgl "steal" (.v .non)
 | gain {n:Str}:zce n->zgl "gain" (.v (.name n))
 | lack {n:Str}:zce n->zgl "lack" (.v (.name n))
 | be {i:Nat}:i<1000->zgl "be" (.v (.num i))
 | more {i:Nat}:i<1000->zgl "more" (.v (.num i))
 | less {i:Nat}:i<1000->zgl "less" (.v (.num i))
 | per {y:Wh}:plain y->zgl "per" (.w y)
inductive TurnOk:Str->Wv->Prop
 | none:TurnOk "none" .non
 | here:TurnOk "here" .non
 | less {i:Nat}:i<1000->TurnOk "less" (.num i)
 | more {i:Nat}:i<1000->TurnOk "more" (.num i)
 | as {n:Str}:n∈zxh->TurnOk "as" (.name n)
def turns:Str->List Str:=λk =>
 if k = "leave" then ["none","here"] else if k = "hurt" then ["none","here","less","more"] else if k = "gain" then ["none","here"] else if k = "lack" then ["none","here"]
 else ["none","less","more","as"]
inductive Rule where
 | hold (word:Str) (val:Hv) (whom:Wh)
 | wen (kind:Str) (whom:Wh) (deed:Deed)
 | instead (kind:Str) (whom:Wh) (word:Str) (val:Wv)
 | may (cost:Nat) (deed:Deed)
def Rule.ok:Rule->Prop
 | .hold w v y=>zgl w v∧plain y
 | .wen k y d=>k∈zrcb∧plain y∧d.ok
 | .instead k y w v=>k∈znr∧plain y∧w∈turns k∧TurnOk w v
 | .may c d=>c<1000∧d.ok
def Rule.words:Rule->List Str
 | .hold w v y=>"hold" :: w::(v.words++y.words)
 | .wen k y d=>"when" :: k::(y.words++("do":Str)::d.words)
 | .instead k y w v=>"instead" :: k::(y.words++("do":Str)::w::v.words)
 | .may c d=>"may" :: toString (c:Int) :: "do" :: d.words
theorem zku.kind {k:Str}{v:Wv}(h:zku k v):k∈znr:=by cases h<;>decide
theorem zgl.word {k:Str}{v:Hv}(h:zgl k v):k∈changes:=by cases h<;>decide
def zkx (u:Str):Prop:=zftb u∧47∉u.cps.toList
theorem zjw {n:Str}(h:zce n):zkx n:=⟨zcrb h,λz=>absurd (h.2.2 47 z).1 (by decide)⟩
theorem zlp {i:Nat}(h:i<1000):zkx (toString (i:Int):Str):=⟨zcr h,λz=>absurd (zmeb i h 47 z).1 (by decide)⟩
def goodW (u:Str):Bool:=!u.cps.toList.contains 32 && !u.cps.toList.contains 47&&decide (1≤u.length)&&decide (u.length≤8)
theorem zgk {u:Str}(h:goodW u=true):zkx u:=by
 unfold goodW at h;rw[yhe,yhe,yhe] at h;obtain⟨⟨⟨a,b⟩,c⟩,d⟩:=h;refine⟨⟨λz=>?_,of_decide_eq_true c,of_decide_eq_true d⟩,λz=>?_⟩
 ·rw[yeq.mpr z] at a;cases a
 ·rw[yeq.mpr z] at b;cases b
theorem zdbb {l:List Str}(h:l.all goodW=true){u:Str}(hu:u∈l):zkx u:=zgk (yxg.mp h u hu)
theorem Wh.zmk {w:Wh}(h:w.ok):∀u∈w.words,zkx u:=by
 induction w with
 | all=>intro u hu;exact zdbb (l:=["all"]) (by decide +kernel) hu
 | self=>intro u hu;exact zdbb (l:=["self"]) (by decide +kernel) hu
 | mine=>intro u hu;exact zdbb (l:=["mine"]) (by decide +kernel) hu
 | mark n =>
  intro u hu
  rcases yja.mp hu with rfl|hu
  ·exact zgk (by decide +kernel)
  ·rw[yka.mp hu];exact zjw h
 | force i =>
  intro u hu
  rcases yja.mp hu with rfl|hu
  ·exact zgk (by decide +kernel)
  ·rw[yka.mp hu];exact zlp h
 | not a ih =>
  intro u hu
  rcases yja.mp hu with rfl|hu
  ·exact zgk (by decide +kernel)
  ·exact ih h u hu
 | both a b ia ib =>
  intro u hu
  rcases yja.mp hu with rfl|hu
  ·exact zgk (by decide +kernel)
  ·rcases ykd.mp hu with hu|hu
   ·exact ia h.1 u hu
   ·exact ib h.2 u hu
 | any a b ia ib =>
  intro u hu
  rcases yja.mp hu with rfl|hu
  ·exact zgk (by decide +kernel)
  ·rcases ykd.mp hu with hu|hu
   ·exact ia h.1 u hu
   ·exact ib h.2 u hu
theorem zku.words {k:Str}{v:Wv}(h:zku k v):∀u∈v.words,zkx u:=by
 intro u hu;cases h with
 | leave=>cases hu
 | gain h=>rw[yka.mp hu];exact zjw h
 | lack h=>rw[yka.mp hu];exact zjw h
 | hurt h=>rw[yka.mp hu];exact zlp h
 | lose h=>rw[yka.mp hu];exact zlp h
 | score h=>rw[yka.mp hu];exact zlp h
 | draw h=>rw[yka.mp hu];exact zlp h
theorem TurnOk.words {k:Str}{v:Wv}(h:TurnOk k v):∀u∈v.words,zkx u:=by
 intro u hu;cases h with
 | none=>cases hu
 | here=>cases hu
 | less h=>rw[yka.mp hu];exact zlp h
 | more h=>rw[yka.mp hu];exact zlp h
 | as h=>rw[yka.mp hu];exact zdbb (l:=zxh) (by decide +kernel) h
theorem TurnOk.word {k:Str}{v:Wv}(h:TurnOk k v):zkx k:=by cases h<;>exact zgk (by decide +kernel)
theorem zgl.words {k:Str}{v:Hv}(h:zgl k v):∀u∈v.words,zkx u:=by
 intro u hu;cases h with
 | mute=>cases hu
 | steal=>cases hu
 | gain h=>rw[yka.mp hu];exact zjw h
 | lack h=>rw[yka.mp hu];exact zjw h
 | be h=>rw[yka.mp hu];exact zlp h
 | more h=>rw[yka.mp hu];exact zlp h
 | less h=>rw[yka.mp hu];exact zlp h
 | per h=>exact Wh.zmk h.1 u hu
theorem Deed.zmk {d:Deed}(h:d.ok):∀u∈d.words,zkx u:=by
 intro u hu
 rcases yja.mp hu with rfl|hu
 ·exact zdbb (l:=zuyb) (by decide +kernel) h.each
 rcases yja.mp hu with rfl|hu
 ·exact zdbb (l:=znr) (by decide +kernel) h.amt.kind
 rcases ykd.mp hu with hu|hu
 ·exact h.amt.words u hu
 ·exact Wh.zmk h.whom.1 u hu
theorem Rule.zmk {r:Rule}(h:r.ok):∀u∈r.words,zkx u:=by
 intro u hu;cases r with
 | hold w v y =>
  rcases yja.mp hu with rfl|hu
  ·exact zgk (by decide +kernel)
  rcases yja.mp hu with rfl|hu
  ·exact zdbb (l:=changes) (by decide +kernel) h.1.word
  rcases ykd.mp hu with hu|hu
  ·exact h.1.words u hu
  ·exact Wh.zmk h.2.1 u hu
 | wen k y d =>
  rcases yja.mp hu with rfl|hu
  ·exact zgk (by decide +kernel)
  rcases yja.mp hu with rfl|hu
  ·exact zdbb (l:=zrcb) (by decide +kernel) h.1
  rcases ykd.mp hu with hu|hu
  ·exact Wh.zmk h.2.1.1 u hu
  rcases yja.mp hu with rfl|hu
  ·exact zgk (by decide +kernel)
  ·exact Deed.zmk h.2.2 u hu
 | instead k y w v =>
  rcases yja.mp hu with rfl|hu
  ·exact zgk (by decide +kernel)
  rcases yja.mp hu with rfl|hu
  ·exact zdbb (l:=znr) (by decide +kernel) h.1
  rcases ykd.mp hu with hu|hu
  ·exact Wh.zmk h.2.1.1 u hu
  rcases yja.mp hu with rfl|hu
  ·exact zgk (by decide +kernel)
  rcases yja.mp hu with rfl|hu
  ·exact h.2.2.2.word
  ·exact h.2.2.2.words u hu
 | may c d =>
  rcases yja.mp hu with rfl|hu
  ·exact zgk (by decide +kernel)
  rcases yja.mp hu with rfl|hu
  ·exact zlp h.1
  rcases yja.mp hu with rfl|hu
  ·exact zgk (by decide +kernel)
  ·exact Deed.zmk h.2 u hu
end Wm
namespace Wm
open PySem PySem.StrLaws PySem.Builtin.Str
def SL:Str:=⟨#[32,47,32]⟩
theorem zrz {s sub:Str}{hi:Nat}:∀{cuts cuts':List Nat} {a f f':Nat},ChainG s sub hi a cuts f->(∀k,f≤k->¬ At s sub hi k)->ChainG s sub hi a cuts' f'->(∀k,f'≤k->¬ At s sub hi k)->cuts=cuts'
 | [],[],_,_,_,_,_,_,_=>rfl
 | [],c::r,a,f,f',h,n,h',n'=>by
  have e:f=a:=h;subst e;exact absurd h'.2.1 (n c h'.1)
 | c::r,[],a,f,f',h,n,h',n'=>by
  have e:f'=a:=h';subst e;exact absurd h.2.1 (n' c h.1)
 | c::r,c'::r',a,f,f',h,n,h',n'=>by
  rcases yds c c' with z|z|z
  ·exact absurd h.2.1 (h'.2.2.1 c h.1 z)
  ·subst z;rw[zrz h.2.2.2 n h'.2.2.2 n']
  ·exact absurd h'.2.1 (h.2.2.1 c' h'.1 z)
theorem zgbb (x:Str)(a b:Nat):(x.cps.extract a b).toList=(x.cps.toList.drop a).take (b-a):=by
 rw[ydl,List.extract_eq_take_drop]
theorem zwyb {x:Str}{hi k:Nat}(h:At x SL hi k):x.cps.toList[k+1]?=some 47:=by
 have e:x.cps.extract k (k+3)=#[32,47,32]:=by
  have:=h.2;unfold subAt at this;exact beq_iff_eq.mp this
 have q:=congrArg (λz=>z.toList[1]?) e;simp only[zgbb] at q;rw[yoh (by omega),ynj] at q;exact q
theorem at_of {x:Str}{pre r:List Nat}(e:x.cps.toList=pre++32::47::32::r):At x SL x.length pre.length:=by
 have hl:=congrArg yzn e;rw[ypa] at hl;simp only[ykc,ysa] at hl;refine⟨?_,?_⟩
 ·show pre.length+3≤x.cps.size;omega
 ·unfold subAt;rw[beq_iff_eq];apply yzk.mp;rw[zgbb,e,List.drop_left];show ((32::47::32::r:List Nat).take (pre.length+3-pre.length))=[32,47,32]
  rw[yxj];rfl
def jl3:List (List Nat)->List Nat
 | []=>[]
 | [p]=>p
 | p::q::r=>p++32::47::32::jl3 (q::r)
def cutsOf:Nat->List (List Nat)->List Nat
 | a,p::q::r=>(a+p.length)::cutsOf (a+p.length+3) (q::r)
 | _,_=>[]
def lastOf:Nat->List (List Nat)->Nat
 | a,p::q::r=>lastOf (a+p.length+3) (q::r)
 | a,_=>a
theorem zdfc:∀ws:List Str,(yrc SL ws).cps.toList=jl3 (ws.map λw=>w.cps.toList)
 | []=>rfl
 | [x]=>rfl
 | x::y::r=>by
  have e:yrc SL (x::y::r)=x++SL++yrc SL (y::r):=rfl;rw[e];show ((x.cps++SL.cps)++(yrc SL (y::r)).cps).toList=_
  rw[yci,yci,zdfc (y::r),ywb];rfl
theorem zuxb {x:Str}{pre p r:List Nat}{b:Nat}(e:x.cps.toList=pre++(p++r))(hb:b=pre.length+p.length)(q:Str)(hq:q.cps.toList=p):strSub x pre.length b=q:=by
 obtain⟨c⟩:=q;have z:x.cps.extract pre.length b=c:=by
  apply yzk.mp;rw[zgbb,e,List.drop_left,hb,yxj,List.take_left];exact hq.symm
 show (⟨x.cps.extract pre.length b⟩:Str)=⟨c⟩
 rw[z]
theorem zxlb {x:Str}:∀{ps:List Str} {pre:List Nat},ps≠[]->(∀p∈ps,47∉p.cps.toList)->x.cps.toList=pre++jl3 (ps.map λw=>w.cps.toList) →
  ChainG x SL x.length pre.length (cutsOf pre.length (ps.map λw=>w.cps.toList)) (lastOf pre.length (ps.map λw=>w.cps.toList))∧(∀k,lastOf pre.length (ps.map λw=>w.cps.toList)≤k->¬ At x SL x.length k)∧partsFrom x 3 pre.length (cutsOf pre.length (ps.map λw=>w.cps.toList))=ps
 | [],_,h,_,_=>absurd rfl h
 | [p],pre,_,hf,e=>by
  have e':x.cps.toList=pre++p.cps.toList:=e;refine⟨rfl,λk hk hA=>?_,?_⟩
  ·have hk':pre.length≤k:=hk;have m:=zwyb hA;rw[e',ytd (by omega)] at m;exact hf p (yka.mpr rfl) (ycb m)
  ·show [strSub x pre.length x.length]=[p];rw[zuxb (r:=[]) (by rw[ypc];exact e') ?_ p rfl];have hl:=congrArg yzn e';rw[ypa,ysa] at hl;exact hl
 | p::q::r,pre,_,hf,e=>by
  have e':x.cps.toList=pre++(p.cps.toList++32::47::32::jl3 ((q::r).map λw=>w.cps.toList)):=e;have e1:x.cps.toList=(pre++p.cps.toList)++32::47::32::jl3 ((q::r).map λw=>w.cps.toList):=by rw[e',ywb]
  have e2:x.cps.toList=(pre++p.cps.toList++[32,47,32])++jl3 ((q::r).map λw=>w.cps.toList):=by rw[e1,ywb (pre++p.cps.toList)];rfl
  obtain⟨c1,c2,c3⟩:=zxlb (ps:=q::r) (pre:=pre++p.cps.toList++[32,47,32]) (ycg _ _) (λy hy=>hf y (yla _ hy)) e2;have el:(pre++p.cps.toList++[32,47,32]).length=pre.length+p.cps.toList.length+3:=by
   rw[ypa,ypa];rfl
  rw[el] at c1 c2 c3;have eA:=at_of e1;rw[ypa] at eA;refine⟨⟨yyk _ _,eA,λk h1 h2 hA=>?_,c1⟩,c2,?_⟩
  ·have m:=zwyb hA
   rcases yyh (k+1) (pre.length+p.cps.toList.length) with z|z
   ·rw[e',ytd (by omega),ydh (by omega)] at m;exact hf p yma (ycb m)
   ·have h2':k<pre.length+p.cps.toList.length:=h2;have ek:k+1=(pre++p.cps.toList).length:=(by rw[ypa];omega);rw[e1,ek,ytd (yga _),Nat.sub_self] at m;exact absurd m (by simp)
  ·show strSub x pre.length (pre.length+p.cps.toList.length)::partsFrom x 3 (pre.length+p.cps.toList.length+3) (cutsOf (pre.length+p.cps.toList.length+3) ((q::r).map λw=>w.cps.toList))=p::q::r;rw[c3,zuxb e' rfl p rfl]
theorem zfdc {ps:List Str}(hne:ps≠[])(hf:∀p∈ps,47∉p.cps.toList):yvf (yrc SL ps) SL=ps:=by
 obtain⟨f,hG,hn⟩:=occ_tight (yrc SL ps) SL (by decide);obtain⟨c1,c2,c3⟩:=zxlb (x:=yrc SL ps) (ps:=ps) (pre:=[]) hne hf (zdfc ps);have u:=zrz hG hn c1 c2;unfold yvf;rw[u];have one:cutsOf ([]:List Nat).length (ps.map λw=>w.cps.toList)=[]->[yrc SL ps]=ps:=λz=>by
  cases ps with
  | nil=>exact absurd rfl hne
  | cons p r =>
   cases r with
   | nil=>rfl
   | cons q r=>cases z
 split
 ·rename_i hc;rw[Bool.or_eq_true,decide_eq_true_eq,decide_eq_true_eq] at hc;apply one
  rcases hc with h|h
  ·cases hcut:cutsOf ([]:List Nat).length (ps.map λw=>w.cps.toList) with
   | nil=>rfl
   | cons c r =>
    rw[hcut] at c1;have:=c1.2.1.1;omega
  ·exfalso;have ek:ygj SL=1:=(by decide +kernel);rw[ek] at h;unfold ygj at h
   split at h
   ·omega
   ·split at h
    ·omega
    ·omega
 ·split
  ·rename_i he;exact one (List.isEmpty_iff.mp he)
  ·rw[partsBetween_eq];exact c3
end Wm
namespace Wm
open PySem PySem.Spec PyProof.Rows
def leS (a b:Str):Prop:=a.cps.toList≤b.cps.toList
theorem zwec {a b:Str}(h:ltCps b.cps.toList a.cps.toList=false):leS a b:=by
 rw[ltCps_eq] at h;exact yot.mp (of_decide_eq_false h)
theorem zkrb {a b c:Str}(h:leS a b)(g:leS b c):leS a c:=List.le_trans h g
theorem zawb {a b:Str}(h:leS a b)(g:leS b a):a=b:=by
 have e:=yus h g;obtain⟨x⟩:=a;obtain⟨y⟩:=b;rw[show x=y from yzk.mp e]
theorem zwdb:∀(p:Str) (l:List Str),risingS p l=true->(p::l).Pairwise leS
 | p,[],_=>List.pairwise_singleton _ _
 | p,x::r,h=>by
  have h':(!ltCps x.cps.toList p.cps.toList&&risingS x r)=true:=h;rw[yhe] at h';have h1:leS p x:=zwec (by have:=h'.1;revert this;cases ltCps x.cps.toList p.cps.toList<;>simp);have h2:=zwdb x r h'.2;rw[yqm];refine⟨λb hb=>?_,h2⟩
  rcases yja.mp hb with rfl|hb
  ·exact h1
  ·exact zkrb h1 ((yqm.mp h2).1 b hb)
theorem zxcb:∀{l:List Str},yxm l=true->l.Pairwise leS
 | [],_=>.nil
 | x::r,h=>zwdb x r h
theorem zvgb {xs ys:List Str}(hp:xs.Perm ys)(hx:yxm xs=true)(hy:yxm ys=true):xs=ys :=
 yun (le:=leS) (λ_ _ _ _ h g=>zawb h g) (zxcb hx) (zxcb hy) hp
theorem zwlb {xs:List Str}(h:xs.Nodup):SSet.dd xs=xs:=by
 have key:∀n,n≤xs.length->SSet.dd (xs.take n)=xs.take n:=by
  intro n
  induction n with
  | zero=>intro _;rfl
  | succ n ih =>
   intro hn;have hlt:n<xs.length:=hn;rw[ydb,ybb hlt];show SSet.dd (xs.take n++[xs[n]])=xs.take n++[xs[n]]
   rw[SSet.zqp,ih (by omega),if_neg];intro hm;obtain⟨i,hi,e⟩:=List.getElem_of_mem hm;rw[yza] at hi;rw[List.getElem_take] at e;exact (yih.mp h) i n (by omega) hlt (by omega) e
 have:=key xs.length (yga _)
 rwa [yyd] at this
structure Marks (ms:List Str):Prop where
 ok:∀m∈ms,zce m
 nd:ms.Nodup
 so:yxm ms=true
 le:ms.length≤20
theorem Marks.same {ms ys:List Str}(h:Marks ms)(hp:ys.Perm (SSet.dd ms))(hs:yxm ys=true):ys=ms:=by
 rw[zwlb h.nd] at hp;exact zvgb hp hs h.so
def CM:Str:=⟨#[44]⟩
def zeh:List Str->Str
 | []=>"-"
 | m::r=>yrc CM (m::r)
theorem zks {c:Nat}:∀{ws:List Str} {d:Nat},d∈(yrc ⟨#[c]⟩ ws).cps.toList->d=c∨∃w∈ws,d∈w.cps.toList
 | [],d,h=>by cases h
 | [x],d,h=>.inr ⟨x,yka.mpr rfl,h⟩
 | x::y::r,d,h=>by
  have e:yrc ⟨#[c]⟩ (x::y::r)=x++⟨#[c]⟩++yrc ⟨#[c]⟩ (y::r):=rfl;rw[e] at h;have h':d∈((x.cps++#[c])++(yrc ⟨#[c]⟩ (y::r)).cps).toList:=h;rw[yci,yci] at h'
  rcases ykd.mp h' with h'|h'
  ·rcases ykd.mp h' with h'|h'
   ·exact .inr ⟨x,yma,h'⟩
   ·exact .inl (yka.mp h')
  ·rcases zks h' with z|⟨w,hw,z⟩
   ·exact .inl z
   ·exact .inr ⟨w,yla _ hw,z⟩
theorem zjn {ms:List Str}(h:Marks ms)(hne:ms≠[]):∀d∈(zeh ms).cps.toList,d=44∨(97≤d∧d≤122):=by
 cases ms with
 | nil=>exact absurd rfl hne
 | cons m r =>
  intro d hd
  rcases zks (c:=44) hd with z|⟨w,hw,z⟩
  ·exact .inl z
  ·exact .inr ((h.ok w hw).2.2 d z)
theorem zteb {ms:List Str}(h:Marks ms)(hne:ms≠[]):zeh ms ≠ "-":=by
 intro z;have:=zjn h hne 45 (by rw[z];decide +kernel);omega
theorem zcl {ms:List Str}(h:Marks ms):1≤(zeh ms).length∧(zeh ms).length≤180:=by
 cases ms with
 | nil=>exact⟨by decide,by decide⟩
 | cons m r =>
  have a:=zqu CM (m::r);have c:=ztxb (l:=(m::r).map (·.length)) (k:=8) (λx hx=>by
   obtain⟨u,hu,rfl⟩:=yfc.mp hx;exact (h.ok u hu).2.1)
  rw[yca] at c;have e:CM.length=1:=rfl;rw[e] at a;have l:=h.le;refine⟨?_,?_⟩
  ·have m1:=(h.ok m yma).1;cases r with
   | nil=>exact m1
   | cons y r =>
    have e2:yrc CM (m::y::r)=m++CM++yrc CM (y::r):=rfl;show 1≤(yrc CM (m::y::r)).length
    rw[e2];show 1≤((m.cps++CM.cps)++(yrc CM (y::r)).cps).size
    rw[yrn,yrn];have:m.length=m.cps.size:=rfl;omega
  ·show (yrc CM (m::r)).length≤180;omega
theorem zkw {ms:List Str}(h:Marks ms)(hne:ms≠[]):yvf (zeh ms) CM=ms:=by
 cases ms with
 | nil=>exact absurd rfl hne
 | cons m r=>exact zqy (c:=44) (ycg _ _) (λw hw z=>absurd ((h.ok w hw).2.2 44 z).1 (by decide))
structure Crd where
 name:Str
 cost:Nat
 force:Nat
 marks:List Str
 rules:List Rule
structure Crd.ok (c:Crd):Prop where
 name:zce c.name
 cost:c.cost<1000
 force:c.force<1000
 marks:Marks c.marks
 rules:∀r∈c.rules,r.ok
 few:c.rules.length≤3
def Crd.head (c:Crd):List Str:=[c.name,toString (c.cost:Int),toString (c.force:Int),zeh c.marks]
def zevb (r:Rule):Str:=yrc " " r.words
def Crd.text (c:Crd):Str:=yrc SL (yrc " " c.head::c.rules.map zevb)
theorem zifb {c d:Nat}{ws:List Str}(h:∀w∈ws,d∉w.cps.toList)(n:d≠c):d∉(yrc ⟨#[c]⟩ ws).cps.toList:=λz=>by
 rcases zks z with e|⟨w,hw,z⟩
 ·exact n e
 ·exact h w hw z
theorem zzhb {ms:List Str}(h:Marks ms):32∉(zeh ms).cps.toList∧47∉(zeh ms).cps.toList:=by
 by_cases e:ms=[]
 ·subst e;exact⟨by decide,by decide⟩
 ·exact⟨λz=>by have:=zjn h e 32 z;omega,λz=>by have:=zjn h e 47 z;omega⟩
theorem Crd.zcfb {c:Crd}(h:c.ok):∀u∈c.head,32∉u.cps.toList∧47∉u.cps.toList:=by
 intro u hu;simp only[Crd.head,yja,yie,or_false] at hu
 rcases hu with rfl|rfl|rfl|rfl
 ·exact⟨(zjw h.name).1.1,(zjw h.name).2⟩
 ·exact⟨(zlp h.cost).1.1,(zlp h.cost).2⟩
 ·exact⟨(zlp h.force).1.1,(zlp h.force).2⟩
 ·exact zzhb h.marks
theorem Crd.zjz {c:Crd}(h:c.ok):yvf (yrc " " c.head) " " = c.head:=zqy (c:=32) (ycg _ _) (λu hu=>(Crd.zcfb h u hu).1)
theorem Crd.zcbb {c:Crd}(h:c.ok):(yrc " " c.head).length≤300:=by
 have a:=zqu " " c.head;have c':=ztxb (l:=c.head.map (·.length)) (k:=180) (λx hx=>by
  obtain⟨u,hu,rfl⟩:=yfc.mp hx;simp only[Crd.head,yja,yie,or_false] at hu
  rcases hu with rfl|rfl|rfl|rfl
  ·have:=h.name.2.1;omega
  ·have:=(zis _ h.cost).2;omega
  ·have:=(zis _ h.force).2;omega
  ·exact (zcl h.marks).2)
 have e:(" ":Str).length=1:=rfl;rw[e] at a;have s:(c.head.map (·.length)).sum=c.name.length+((toString (c.cost:Int):Str).length+((toString (c.force:Int):Str).length+((zeh c.marks).length+0))):=rfl;have hl:c.head.length=4:=rfl;rw[s,hl] at a;have b1:=h.name.2.1;have b2:=(zis _ h.cost).2;have b3:=(zis _ h.force).2;have b4:=(zcl h.marks).2;omega
theorem Crd.split {c:Crd}(h:c.ok):yvf c.text SL=yrc " " c.head::c.rules.map zevb:=by
 refine zfdc (ycg _ _) λp hp=>?_
 rcases yja.mp hp with rfl|hp
 ·exact zifb (λu hu=>(Crd.zcfb h u hu).2) (by decide)
 ·obtain⟨r,hr,rfl⟩:=yfc.mp hp;exact zifb (λu hu=>(Rule.zmk (h.rules r hr) u hu).2) (by decide)
end Wm
namespace Wm
open PySem PySem.Spec PyProof.Rows
end Wm
namespace K37
open PySem L2 PyProof.Rows Wm
variable {P:yzb}{w:World}{K:yda}{mg:Str->Option Value}{base:Heap}
def top (i:Nat):Stmt:=PySem.Challenge.pw_turnstack_k37_whole_plain_fights.main.body.getD i (.Pass ⟨0,0,0,0⟩)
abbrev zsdb:Stmt:=top 11
abbrev zstb:List Str:=["word"]
abbrev zvx:List Str:=["word"]
theorem zxmb:zma zstb zvx (zga zsdb):=scOf (by decide +kernel)
abbrev zyv:Stmt:=top 12
abbrev ztjb:List Str:=["word"]
abbrev zwp:List Str:=["word"]
theorem zddb:zma ztjb zwp (zga zyv):=scOf (by decide +kernel)
abbrev zzy:Stmt:=top 13
abbrev znob:List Str:=["word","most"]
abbrev zvs:List Str:=["word","most"]
theorem zbhb:zma znob zvs (zga zzy):=scOf (by decide +kernel)
abbrev zqi:Stmt:=inClass (top 14) 0
abbrev ziu:List Str:=["self","text"]
abbrev zwi:List Str:=["self","text"]
theorem zyr:zma ziu zwi (zga zqi):=scOf (by decide +kernel)
abbrev ztm:Stmt:=inClass (top 14) 1
abbrev zogb:List Str:=["self"]
abbrev zeo:List Str:=["self"]
theorem zdab:zma zogb zeo (zga ztm):=scOf (by decide +kernel)
abbrev zqj:Stmt:=inClass (top 14) 2
abbrev zwh:Stmt:=inClass (top 14) 3
abbrev zat:List Str:=["self","word"]
abbrev zei:List Str:=["self"]
theorem zbk:zma zat zei (zga zwh):=scOf (by decide +kernel)
abbrev zng:Stmt:=inClass (top 14) 4
abbrev zcq:List Str:=["self","word"]
abbrev zqg:List Str:=["self"]
theorem zzi:zma zcq zqg (zga zng):=scOf (by decide +kernel)
abbrev zok:Stmt:=inClass (top 14) 5
abbrev zny:List Str:=["self"]
abbrev zvk:List Str:=["self"]
theorem zsv:zma zny zvk (zga zok):=scOf (by decide +kernel)
abbrev zvm:Stmt:=inClass (top 15) 0
abbrev zep:Stmt:=inClass (top 15) 2
abbrev zxjb:List Str:=["self","sight","number","keeper","thing"]
abbrev zaq:List Str:=["self","sight","number","keeper","thing"]
theorem zfdb:zma zxjb zaq (zga zep):=scOf (by decide +kernel)
abbrev zum:Stmt:=inClass (top 15) 3
abbrev zal:Stmt:=inClass (top 15) 4
abbrev zmkb:Stmt:=top 16
abbrev zdxb:List Str:=["sight","thing","row"]
abbrev zybb:List Str:=["sight","thing"]
theorem zzcb:zma zdxb zybb (zga zmkb):=scOf (by decide +kernel)
abbrev zdhb:Stmt:=top 17
abbrev zkdb:Stmt:=top 18
abbrev zuac:Stmt:=top 19
abbrev zrj:Stmt:=inClass (top 28) 0
abbrev zzx:List Str:=["self","name","cost","force","marks","rules"]
abbrev zzj:List Str:=["self","name","cost","force","marks","rules"]
theorem zbu:zma zzx zzj (zga zrj):=scOf (by decide +kernel)
abbrev zwv:Stmt:=top 30
abbrev zrjb:List Str:=["text","texts","words","name","cost","force","marks"]
abbrev zup:List Str:=["text"]
theorem zef:zma zrjb zup (zga zwv):=scOf (by decide +kernel)
abbrev zgt:Stmt:=top 31
abbrev zigb:List Str:=["word","marks"]
abbrev zyn:List Str:=["word"]
theorem zjq:zma zigb zyn (zga zgt):=scOf (by decide +kernel)
abbrev zvv:Stmt:=top 32
abbrev zqjb:List Str:=["text","words","first","rule"]
abbrev ztp:List Str:=["text"]
theorem zadb:zma zqjb ztp (zga zvv):=scOf (by decide +kernel)
abbrev zfhb:Stmt:=top 33
abbrev zdp:Stmt:=top 34
abbrev zehb:Stmt:=top 35
abbrev zdy:Stmt:=top 36
abbrev zzr:Stmt:=top 37
abbrev zymb:Stmt:=top 38
abbrev zghb:Stmt:=top 39
abbrev zgab:Stmt:=top 40
abbrev zpq:Stmt:=top 49
abbrev zmcb:List Str:=["lying"]
abbrev zem:List Str:=["lying"]
theorem zby:zma zmcb zem (zga zpq):=scOf (by decide +kernel)
abbrev zvdb:Stmt:=top 50
abbrev zvtb:List Str:=["lying","found","number","card","keeper","came","marks","place","rule"]
abbrev zxx:List Str:=["lying"]
theorem znf:zma zvtb zxx (zga zvdb):=scOf (by decide +kernel)
abbrev zaqb:Stmt:=top 51
abbrev zscc:List Str:=["lying","sight","change","asker","rule","fitting","amount"]
abbrev zmjb:List Str:=["lying","sight","change"]
theorem zzub:zma zscc zmjb (zga zaqb):=scOf (by decide +kernel)
abbrev zmdb:Stmt:=top 52
abbrev zmtb:List Str:=["lying","number","place","rules"]
abbrev zqx:List Str:=["lying","number","place"]
theorem zumb:zma zmtb zqx (zga zmdb):=scOf (by decide +kernel)
abbrev zas:Stmt:=top 53
abbrev zjhb:Stmt:=top 54
abbrev zvkb:Stmt:=top 55
abbrev znxb:List Str:=["lying","sight","change","word","amounts"]
abbrev zicb:List Str:=["lying","sight","change"]
theorem zypb:zma znxb zicb (zga zvkb):=scOf (by decide +kernel)
abbrev zbqb:Stmt:=top 56
abbrev zrkb:Stmt:=top 57
abbrev zjxb:List Str:=["values","one"]
abbrev zdcb:List Str:=["values","one"]
theorem zupb:zma zjxb zdcb (zga zrkb):=scOf (by decide +kernel)
abbrev zidb:Stmt:=top 58
abbrev zktb:List Str:=["values","one"]
abbrev zox:List Str:=["values","one"]
theorem ztmb:zma zktb zox (zga zidb):=scOf (by decide +kernel)
abbrev zihb:Stmt:=top 59
abbrev zjdb:Stmt:=top 60
abbrev zcvb:Stmt:=top 61
abbrev zrdb:Stmt:=top 62
abbrev zrtb:List Str:=["lying","sight","order","every","layer","left","change"]
abbrev zux:List Str:=["lying"]
theorem zsg:zma zrtb zux (zga zrdb):=scOf (by decide +kernel)
abbrev zqdb:Stmt:=top 63
abbrev zqtb:List Str:=["lying","sight","left","leaned"]
abbrev ztx:List Str:=["lying","sight","left"]
theorem zwmb:zma zqtb ztx (zga zqdb):=scOf (by decide +kernel)
abbrev zukb:Stmt:=top 65
abbrev zmxb:List Str:=["ways","choices"]
abbrev zgcb:List Str:=["ways","choices"]
theorem zxpb:zma zmxb zgcb (zga zukb):=scOf (by decide +kernel)
abbrev zmq:Stmt:=top 66
abbrev zjcb:List Str:=["lying","sight","sort","happening","kind","thing","amount","found","number","card","owner","came","marks","keeper","place","rule"]
abbrev zbm:List Str:=["lying","sight","sort","happening"]
theorem zvb:zma zjcb zbm (zga zmq):=scOf (by decide +kernel)
abbrev zuv:Stmt:=top 67
abbrev zpjb:List Str:=["lying","sight","happening","used","meant"]
abbrev zsp:List Str:=["lying","sight","happening","used"]
theorem zet:zma zpjb zsp (zga zuv):=scOf (by decide +kernel)
abbrev zlkb:Stmt:=top 68
abbrev zcxb:List Str:=["happening","word","value","number","kind","thing","amount"]
abbrev zxbb:List Str:=["happening","word","value","number"]
theorem ztpb:zma zcxb zxbb (zga zlkb):=scOf (by decide +kernel)
abbrev zxv:Stmt:=top 69
abbrev zsjb:List Str:=["sight","thing"]
abbrev zvp:List Str:=["sight","thing"]
theorem zcdb:zma zsjb zvp (zga zxv):=scOf (by decide +kernel)
abbrev zqo:Stmt:=top 70
abbrev zly:List Str:=["lying","sight","happening","choices","trail","used","left","rules","player","way","came","number","place","rule"]
abbrev ztk:List Str:=["lying","sight","happening","choices"]
theorem zlb:zma zly ztk (zga zqo):=scOf (by decide +kernel)
abbrev zcqb:Stmt:=top 87
abbrev ztcc:List Str:=["decks","cards","owners","player","deck"]
abbrev znjb:List Str:=["decks"]
theorem zkq:zma ztcc znjb (zga zcqb):=scOf (by decide +kernel)
abbrev zjt:Stmt:=top 88
abbrev zkgb:List Str:=["card"]
abbrev zao:List Str:=["card"]
theorem zbab:zma zkgb zao (zga zjt):=scOf (by decide +kernel)
abbrev znq:Stmt:=top 89
abbrev zkcb:List Str:=["cards","owners","players","decks"]
abbrev zcm:List Str:=["cards","owners","players"]
theorem zoo:zma zkcb zcm (zga znq):=scOf (by decide +kernel)
abbrev zit:Stmt:=top 90
abbrev zjgb:List Str:=["owners","player"]
abbrev zzn:List Str:=["owners","player"]
theorem zaab:zma zjgb zzn (zga zit):=scOf (by decide +kernel)
abbrev zndb:Stmt:=top 91
abbrev zntb:List Str:=["cards","owners","table","marks"]
abbrev zrx:List Str:=["cards","owners","table"]
theorem zuy:zma zntb zrx (zga zndb):=scOf (by decide +kernel)
abbrev zwy:Stmt:=top 92
abbrev zkob:List Str:=["cards","owners","table"]
abbrev zss:List Str:=["cards","owners","table"]
theorem zzgb:zma zkob zss (zga zwy):=scOf (by decide +kernel)
abbrev zxy:Stmt:=top 93
abbrev zlob:List Str:=["values","place","value"]
abbrev zts:List Str:=["values","place","value"]
theorem zahb:zma zlob zts (zga zxy):=scOf (by decide +kernel)
abbrev zft:Stmt:=top 94
abbrev zggb:List Str:=["table","part","place","value"]
abbrev zxn:List Str:=["table","part","place","value"]
theorem zyz:zma zggb zxn (zga zft):=scOf (by decide +kernel)
abbrev ztdb:Stmt:=top 95
abbrev zttb:List Str:=["table","happening","kind","thing","amount"]
abbrev zwx:List Str:=["table","happening"]
theorem zjo:zma zttb zwx (zga ztdb):=scOf (by decide +kernel)
abbrev zskb:Stmt:=top 96
abbrev zkxb:List Str:=["cards","table","happening"]
abbrev zecb:List Str:=["cards","table","happening"]
theorem zvpb:zma zkxb zecb (zga zskb):=scOf (by decide +kernel)
abbrev zck:Stmt:=top 97
abbrev zur:List Str:=["table","happening","kind","thing","amount","player","deck","hand"]
abbrev zmh:List Str:=["table","happening"]
theorem zic:zma zur zmh (zga zck):=scOf (by decide +kernel)
abbrev zmm:Stmt:=top 98
abbrev zgu:List Str:=["cards","table","happening","kind","number","amount","marks"]
abbrev zvi:List Str:=["cards","table","happening"]
theorem zde:zma zgu zvi (zga zmm):=scOf (by decide +kernel)
abbrev zodb:Stmt:=top 99
abbrev zotb:List Str:=["cards","table","number"]
abbrev zsx:List Str:=["cards","table","number"]
theorem zvmb:zma zotb zsx (zga zodb):=scOf (by decide +kernel)
abbrev zyy:Stmt:=top 100
abbrev zmob:List Str:=["cards","table","number"]
abbrev zus:List Str:=["cards","table","number"]
theorem zcp:zma zmob zus (zga zyy):=scOf (by decide +kernel)
abbrev zudb:Stmt:=top 101
abbrev zutb:List Str:=["cards","owners","table","sight","happening","then","then_sight","meant"]
abbrev ztr:List Str:=["cards","owners","table","sight","happening"]
theorem zrd:zma zutb ztr (zga zudb):=scOf (by decide +kernel)
abbrev zzxb:Stmt:=top 102
abbrev zdgc:List Str:=["cards","owners","table","deed","number","keeper","choices","each","kind","amount","whom","sight","ways","left","way"]
abbrev zjtb:List Str:=["cards","owners","table","deed","number","keeper","choices"]
theorem zrac:zma zdgc zjtb (zga zzxb):=scOf (by decide +kernel)
abbrev zchb:Stmt:=top 103
abbrev zpdb:Stmt:=top 104
abbrev zptb:List Str:=["cards","owners","table","sight","happenings","choices","log","calls","left","happening","trail","came","more"]
abbrev zsr:List Str:=["cards","owners","table","sight","happenings","choices"]
theorem zrb:zma zptb zsr (zga zpdb):=scOf (by decide +kernel)
abbrev zdk:Stmt:=top 106
abbrev zvr:List Str:=["stand","player","table","pile","turn","word","passes","coins","over"]
abbrev znh:List Str:=["stand","player"]
theorem zbc:zma zvr znh (zga zdk):=scOf (by decide +kernel)
abbrev zzk:Stmt:=top 107
abbrev zzs:List Str:=["cards","stand","player","number","table","pile","turn","word","passes","coins","over","why"]
abbrev zdi:List Str:=["cards","stand","player","number"]
theorem zxb:zma zzs zdi (zga zzk):=scOf (by decide +kernel)
abbrev zpkb:Stmt:=top 109
abbrev zgxb:List Str:=["cards","owners","table","choices","log","calls","left","rests","then","entries","more"]
abbrev zbcb:List Str:=["cards","owners","table","choices"]
theorem zff:zma zgxb zbcb (zga zpkb):=scOf (by decide +kernel)
abbrev zyxb:Stmt:=top 110
abbrev zcgc:List Str:=["cards","owners","table","choices","sight","leavings"]
abbrev zitb:List Str:=["cards","owners","table","choices"]
theorem zcab:zma zcgc zitb (zga zyxb):=scOf (by decide +kernel)
abbrev ztv:Stmt:=top 111
abbrev zojb:List Str:=["cards","owners","table","gone","going","theirs","number"]
abbrev zrp:List Str:=["cards","owners","table"]
theorem zrg:zma zojb zrp (zga ztv):=scOf (by decide +kernel)
abbrev zoq:Stmt:=top 117
abbrev zlcb:List Str:=["table","others"]
abbrev zdm:List Str:=["table"]
theorem zpo:zma zlcb zdm (zga zoq):=scOf (by decide +kernel)
abbrev zro:Stmt:=top 118
abbrev zmy:List Str:=["table","player","many","around"]
abbrev zuk:List Str:=["table","player"]
theorem zpj:zma zmy zuk (zga zro):=scOf (by decide +kernel)
abbrev znkb:Stmt:=top 119
abbrev zexb:List Str:=["pile","waiting","places"]
abbrev zzbb:List Str:=["pile","waiting"]
theorem zbdb:zma zexb zzbb (zga znkb):=scOf (by decide +kernel)
abbrev zxxb:Stmt:=top 120
abbrev zbgc:List Str:=["coins","player","cost"]
abbrev zgtb:List Str:=["coins","player","cost"]
theorem zqac:zma zbgc zgtb (zga zxxb):=scOf (by decide +kernel)
abbrev zokb:Stmt:=top 121
abbrev zfxb:List Str:=["cards","stand","player","number","table","pile","turn","word","passes","coins","over","placed"]
abbrev zacb:List Str:=["cards","stand","player","number"]
theorem zte:zma zfxb zacb (zga zokb):=scOf (by decide +kernel)
abbrev zqkb:Stmt:=top 122
abbrev zixb:List Str:=["cards","owners","stand","choices","table","pile","turn","word","passes","coins","over","outcome"]
abbrev zccb:List Str:=["cards","owners","stand","choices"]
theorem zgf:zma zixb zccb (zga zqkb):=scOf (by decide +kernel)
abbrev zvy:Stmt:=top 123
abbrev zjob:List Str:=["cards","owners","table","top","choices","sort","player","number","place","rule","happening","then","sight","calls"]
abbrev zrs:List Str:=["cards","owners","table","top","choices"]
theorem zbe:zma zjob zrs (zga zvy):=scOf (by decide +kernel)
abbrev zldb:Stmt:=top 124
abbrev zltb:List Str:=["cards","owners","outcome","pile","turn","word","coins","table","log","calls","left","look_log","look_calls","placed","players"]
abbrev zpx:List Str:=["cards","owners","outcome","pile","turn","word","coins"]
theorem zxc:zma zltb zpx (zga zldb):=scOf (by decide +kernel)
abbrev zzpb:Stmt:=top 125
abbrev zrcc:List Str:=["cards","table","pile","gone","sort","player","number","place"]
abbrev zljb:List Str:=["cards","table","pile"]
theorem zpl:zma zrcc zljb (zga zzpb):=scOf (by decide +kernel)
abbrev zyk:Stmt:=top 126
abbrev zys:List Str:=["table","turn","calls","choices","waiting","left","player","own","way","keeper","number","place"]
abbrev zci:List Str:=["table","turn","calls","choices"]
theorem zqb:zma zys zci (zga zyk):=scOf (by decide +kernel)
abbrev ztkb:Stmt:=top 127
abbrev zlxb:List Str:=["players","placed"]
abbrev zfcb:List Str:=["players","placed"]
theorem zwpb:zma zlxb zfcb (zga ztkb):=scOf (by decide +kernel)
abbrev zri:Stmt:=inClass (top 129) 0
abbrev zju:List Str:=["self","decks","cards","owners","table"]
abbrev zxi:List Str:=["self","decks"]
theorem zpf:zma zju zxi (zga zri):=scOf (by decide +kernel)
abbrev zwm:Stmt:=inClass (top 129) 1
abbrev zpgb:List Str:=["self","player","number","why"]
abbrev zfo:List Str:=["self","player","number"]
theorem zlq:zma zpgb zfo (zga zwm):=scOf (by decide +kernel)
abbrev zgp:Stmt:=inClass (top 129) 3
abbrev zzjb:List Str:=["self","player","choices","why","taken","stand","log"]
abbrev zjm:List Str:=["self","player","choices"]
theorem zmi:zma zzjb zjm (zga zgp):=scOf (by decide +kernel)
abbrev zym:Stmt:=inClass (top 129) 6
abbrev zrgb:List Str:=["self","deed","stand","log"]
abbrev zio:List Str:=["self","deed","stand","log"]
theorem zfab:zma zrgb zio (zga zym):=scOf (by decide +kernel)
abbrev zql:Stmt:=inClass (top 129) 9
abbrev zpcb:List Str:=["self"]
abbrev zim:List Str:=["self"]
theorem zcy:zma zpcb zim (zga zql):=scOf (by decide +kernel)
abbrev zfp:Stmt:=inClass (top 129) 10
abbrev zyjb:List Str:=["self"]
abbrev zbq:List Str:=["self"]
theorem zgdb:zma zyjb zbq (zga zfp):=scOf (by decide +kernel)
abbrev zxm:Stmt:=inClass (top 129) 13
abbrev zqgb:List Str:=["self"]
abbrev zgo:List Str:=["self"]
theorem zeab:zma zqgb zgo (zga zxm):=scOf (by decide +kernel)
abbrev zrq:Stmt:=top 131
abbrev zocb:List Str:=["_law_script","_law_k","_law_cell"]
abbrev zgm:List Str:=["_law_script","_law_k"]
theorem znk:zma zocb zgm (zga zrq):=scOf (by decide +kernel)
abbrev zkhb:Stmt:=top 132
abbrev zmhb:Stmt:=top 133
abbrev zlhb:Stmt:=top 134
abbrev zzv:Stmt:=top 135
abbrev zujb:List Str:=["_law_number_here","_law_sorts","_law_sort","_law_kinds","_law_deed_here","_law_kind"]
abbrev zxp:List Str:=["_law_number_here","_law_sorts"]
theorem zedb:zma zujb zxp (zga zzv):=scOf (by decide +kernel)
abbrev zbw:Stmt:=top 136
abbrev zwjb:List Str:=["_law_number_here","_law_sorts","_law_name","_law_head","_law_rules","_law_k"]
abbrev zzp:List Str:=["_law_number_here","_law_sorts"]
theorem zli:zma zwjb zzp (zga zbw):=scOf (by decide +kernel)
abbrev zmt:Stmt:=top 137
abbrev zngb:List Str:=["_law_script","_law_sorts","_law_first_here","_law_decks_here","_law_player","_law_deck","_law_k"]
abbrev zdo:List Str:=["_law_script","_law_sorts"]
theorem zof:zma zngb zdo (zga zmt):=scOf (by decide +kernel)
abbrev zkt:Stmt:=top 138
abbrev zlgb:List Str:=["_law_decks_here","_law_heads_here","_law_deck","_law_text","_law_words","_law_marks"]
abbrev zbo:List Str:=["_law_decks_here"]
theorem zpe:zma zlgb zbo (zga zkt):=scOf (by decide +kernel)
abbrev zlt:Stmt:=top 139
abbrev zmgb:List Str:=["_law_decks_here","_law_heads_here","_law_hands","_law_left","_law_first_here","_law_deck","_law_own","_law_nobody","_law_head","_law_marks","_law_table","_law_coins"]
abbrev zco:List Str:=["_law_decks_here","_law_heads_here"]
theorem zgc:zma zmgb zco (zga zlt):=scOf (by decide +kernel)
abbrev zqq:Stmt:=top 140
abbrev zncb:List Str:=["_law_stand","_law_heads_here","_law_number_here","_law_table","_law_pile","_law_turn_here","_law_word","_law_passes","_law_coins","_law_over","_law_hands"]
abbrev zfm:List Str:=["_law_stand","_law_heads_here","_law_number_here"]
theorem zfc:zma zncb zfm (zga zqq):=scOf (by decide +kernel)
abbrev zaw:Stmt:=top 141
abbrev zvjb:List Str:=["_law_stand","_law_heads_here","_law_table","_law_pile","_law_turn_here","_law_word","_law_passes","_law_coins","_law_over","_law_number_here","_law_log"]
abbrev zyp:List Str:=["_law_stand","_law_heads_here"]
theorem zpc:zma zvjb zyp (zga zaw):=scOf (by decide +kernel)
abbrev zsm:Stmt:=top 142
abbrev zyx:List Str:=["_law_stand","_law_table","_law_pile","_law_turn_here","_law_word","_law_passes","_law_coins","_law_over","_law_hands","_law_decks_here","_law_log"]
abbrev zyj:List Str:=["_law_stand"]
theorem zib:zma zyx zyj (zga zsm):=scOf (by decide +kernel)
abbrev zaz:Stmt:=top 143
abbrev zoob:List Str:=["_law_stand","_law_heads_here","_law_table","_law_pile","_law_turn_here","_law_word","_law_passes","_law_coins","_law_over"]
abbrev zws:List Str:=["_law_stand","_law_heads_here"]
theorem zif:zma zoob zws (zga zaz):=scOf (by decide +kernel)
abbrev zbz:Stmt:=top 144
abbrev zpob:List Str:=["_law_stand","_law_heads_here","_law_table","_law_pile","_law_turn_here","_law_word","_law_passes","_law_coins","_law_over"]
abbrev zxs:List Str:=["_law_stand","_law_heads_here"]
theorem zjf:zma zpob zxs (zga zbz):=scOf (by decide +kernel)
abbrev zvdc:Stmt:=top 145
abbrev znhc:List Str:=["_law_script","_law_decks_here","_law_heads_here","_law_fight","_law_beside","_law_stand","_law_many","_law_k","_law_number_here","_law_some","_law_word","_law_card_here","_law_log"]
abbrev zagc:List Str:=["_law_script"]
theorem zyi:zma znhc zagc (zga zvdc):=scOf (by decide +kernel)
abbrev zlx:Str:="abcdefghijklmnopqrstuvwxyz"
abbrev zmx:Str:="0123456789"
abbrev zxtb:List (Str×yxr):=[("all",.flat (.int 0)),("self",.flat (.int 0)),("mine",.flat (.int 0)),("mark",.flat (.int 0)),("force",.flat (.int 0)),("not",.flat (.int 1)),("both",.flat (.int 2)),("any",.flat (.int 2))]
abbrev zwtb:List (Str×yxr):=[("leave",.tup ((["none","here"]:List Str).map PyData.str)),("hurt",.tup ((["none","here","less","more"]:List Str).map PyData.str)),("gain",.tup ((["none","here"]:List Str).map PyData.str)),("lack",.tup ((["none","here"]:List Str).map PyData.str)),("lose",.tup ((["none","less","more","as"]:List Str).map PyData.str)),("score",.tup ((["none","less","more","as"]:List Str).map PyData.str)),("draw",.tup ((["none","less","more","as"]:List Str).map PyData.str))]
abbrev zqcb:List (Str×yxr):=[("mute",.flat (.int 0)),("steal",.flat (.int 1)),("gain",.flat (.int 2)),("lack",.flat (.int 2)),("be",.flat (.int 3)),("more",.flat (.int 4)),("less",.flat (.int 4)),("per",.flat (.int 4))]
abbrev zkm:List (Str×yxr):=[("when",.flat (.int 3)),("may",.flat (.int 2))]
theorem onlZ {m:List Value->Prop}(h:m [])(us:List Value)(hl:us.length=0):m us:=by rw[ytj.mp hl];exact h
theorem onlS {m:List Value->Prop}{k:Nat}(h:∀a,∀us,us.length=k->m (a::us))(us:List Value)(hl:us.length=k+1):m us:=by
 obtain⟨a,t,rfl⟩:=List.exists_cons_of_length_eq_add_one hl;exact h a t (Nat.succ.inj hl)
@[elab_as_elim] theorem onl1 {m:List Value->Prop} (h:∀a,m [a]) (us:List Value) (hl:us.length=1):m us:=(onlS (m:=λt=>m (t)) λa=>onlZ (h a)) us hl
@[elab_as_elim] theorem onl2 {m:List Value->Prop} (h:∀a b,m [a,b]) (us:List Value) (hl:us.length=2):m us:=(onlS (m:=λt=>m (t)) λa=>onlS (m:=λt=>m (a::t)) λb=>onlZ (h a b)) us hl
@[elab_as_elim] theorem onl3 {m:List Value->Prop} (h:∀a b c,m [a,b,c]) (us:List Value) (hl:us.length=3):m us:=(onlS (m:=λt=>m (t)) λa=>onlS (m:=λt=>m (a::t)) λb=>onlS (m:=λt=>m (a::b::t)) λc=>onlZ (h a b c)) us hl
@[elab_as_elim] theorem onl4 {m:List Value->Prop} (h:∀a b c d,m [a,b,c,d]) (us:List Value) (hl:us.length=4):m us:=(onlS (m:=λt=>m (t)) λa=>onlS (m:=λt=>m (a::t)) λb=>onlS (m:=λt=>m (a::b::t)) λc=>onlS (m:=λt=>m (a::b::c::t)) λd=>onlZ (h a b c d)) us hl
@[elab_as_elim] theorem onl5 {m:List Value->Prop} (h:∀a b c d e,m [a,b,c,d,e]) (us:List Value) (hl:us.length=5):m us:=(onlS (m:=λt=>m (t)) λa=>onlS (m:=λt=>m (a::t)) λb=>onlS (m:=λt=>m (a::b::t)) λc=>onlS (m:=λt=>m (a::b::c::t)) λd=>onlS (m:=λt=>m (a::b::c::d::t)) λe=>onlZ (h a b c d e)) us hl
@[elab_as_elim] theorem onl6 {m:List Value->Prop} (h:∀a b c d e f,m [a,b,c,d,e,f]) (us:List Value) (hl:us.length=6):m us:=(onlS (m:=λt=>m (t)) λa=>onlS (m:=λt=>m (a::t)) λb=>onlS (m:=λt=>m (a::b::t)) λc=>onlS (m:=λt=>m (a::b::c::t)) λd=>onlS (m:=λt=>m (a::b::c::d::t)) λe=>onlS (m:=λt=>m (a::b::c::d::e::t)) λf=>onlZ (h a b c d e f)) us hl
@[elab_as_elim] theorem onl7 {m:List Value->Prop} (h:∀a b c d e f g,m [a,b,c,d,e,f,g]) (us:List Value) (hl:us.length=7):m us:=(onlS (m:=λt=>m (t)) λa=>onlS (m:=λt=>m (a::t)) λb=>onlS (m:=λt=>m (a::b::t)) λc=>onlS (m:=λt=>m (a::b::c::t)) λd=>onlS (m:=λt=>m (a::b::c::d::t)) λe=>onlS (m:=λt=>m (a::b::c::d::e::t)) λf=>onlS (m:=λt=>m (a::b::c::d::e::f::t)) λg=>onlZ (h a b c d e f g)) us hl
set_option genInjectivity false in
set_option genSizeOf false in
structure Tf (K:yda)(mg:Str->Option Value) where
 zzg:Gf K mg "is_name" "is_name" zsdb
 zgg:Gf K mg "is_number" "is_number" zyv
 zth:Gf K mg "is_whole" "is_whole" zzy
 zjl:Gf K mg "row_of" "row_of" zmkb
 zazb:Gf K mg "take_whom" "take_whom" zdhb
 zpxb:Gf K mg "take_value" "take_value" zkdb
 zfgc:Gf K mg "built" "built" zuac
 zeg:Gf K mg "read_card" "read_card" zwv
 zxe:Gf K mg "read_marks" "read_marks" zgt
 zdg:Gf K mg "read_rule" "read_rule" zvv
 zczb:Gf K mg "take_hold" "take_hold" zfhb
 zsgb:Gf K mg "take_change_value" "take_change_value" zdp
 zbzb:Gf K mg "take_when" "take_when" zehb
 zytb:Gf K mg "take_instead" "take_instead" zdy
 zgmb:Gf K mg "take_turn_value" "take_turn_value" zzr
 zucc:Gf K mg "take_may" "take_may" zymb
 zdzb:Gf K mg "take_deed" "take_deed" zghb
 zfub:Gf K mg "take_amount" "take_amount" zgab
 zne:Gf K mg "first_sight" "first_sight" zpq
 zoj:Gf K mg "changes" "changes" zvdb
 zyo:Gf K mg "reach" "reach" zaqb
 zlj:Gf K mg "rule_of" "rule_of" zmdb
 zimb:Gf K mg "numbers_fitting" "numbers_fitting" zas
 zfzb:Gf K mg "amount_of" "amount_of" zjhb
 zol:Gf K mg "behind" "behind" zvkb
 zvcc:Gf K mg "changed" "changed" zbqb
 zdj:Gf K mg "joined" "joined" zrkb
 zwe:Gf K mg "without" "without" zidb
 zezb:Gf K mg "leaned_on" "leaned_on" zihb
 zoxb:Gf K mg "waited_for" "waited_for" zjdb
 zegc:Gf K mg "led_to" "led_to" zcvb
 znj:Gf K mg "layered" "layered" zrdb
 zmj:Gf K mg "next_of" "next_of" zqdb
 zfj:Gf K mg "chosen" "chosen" zukb
 zsb:Gf K mg "rules_meant" "rules_meant" zmq
 zke:Gf K mg "rules_for" "rules_for" zuv
 zil:Gf K mg "turned" "turned" zlkb
 zfg:Gf K mg "player_of" "player_of" zxv
 zbd:Gf K mg "put_in_place" "put_in_place" zqo
 zzo:Gf K mg "begun" "begun" zcqb
 zze:Gf K mg "many_holds" "many_holds" zjt
 zle:Gf K mg "first_table" "first_table" znq
 zye:Gf K mg "numbers_of" "numbers_of" zit
 zkc:Gf K mg "rows_of" "rows_of" zndb
 ztc:Gf K mg "sight_of" "sight_of" zwy
 zub:Gf K mg "replaced" "replaced" zxy
 zdb:Gf K mg "with_value" "with_value" zft
 zaf:Gf K mg "happens" "happens" ztdb
 zej:Gf K mg "happen" "happen" zskb
 zlc:Gf K mg "happen_to_player" "happen_to_player" zck
 zcd:Gf K mg "happen_to_card" "happen_to_card" zmm
 zyg:Gf K mg "renewed" "renewed" zodb
 zjd:Gf K mg "put_away" "put_away" zyy
 ztd:Gf K mg "done_to" "done_to" zudb
 zzu:Gf K mg "done" "done" zzxb
 zzyb:Gf K mg "things_of" "things_of" zchb
 zse:Gf K mg "put_all" "put_all" zpdb
 zwb:Gf K mg "against_speaking" "against_speaking" zdk
 zvc:Gf K mg "against_playing" "against_playing" zzk
 zll:Gf K mg "looked" "looked" zpkb
 zyu:Gf K mg "look" "look" zyxb
 zcg:Gf K mg "with_gone" "with_gone" ztv
 zme:Gf K mg "first_stand" "first_stand" zoq
 zob:Gf K mg "players_from" "players_from" zro
 zcj:Gf K mg "put_on" "put_on" znkb
 zxu:Gf K mg "paid" "paid" zxxb
 zkl:Gf K mg "played" "played" zokb
 zml:Gf K mg "let_go" "let_go" zqkb
 zsh:Gf K mg "top_done" "top_done" zvy
 zxg:Gf K mg "settled" "settled" zldb
 zxo:Gf K mg "swept" "swept" zzpb
 zuc:Gf K mg "in_piling_order" "in_piling_order" zyk
 znl:Gf K mg "end_of" "end_of" ztkb
 ztb:Gf K mg "_law_number" "_law_number" zrq
 zgzb:Gf K mg "_law_whom" "_law_whom" zkhb
 zjzb:Gf K mg "_law_deed" "_law_deed" zmhb
 zizb:Gf K mg "_law_turn" "_law_turn" zlhb
 zig:Gf K mg "_law_rule" "_law_rule" zzv
 zkg:Gf K mg "_law_card" "_law_card" zbw
 zdf:Gf K mg "_law_decks" "_law_decks" zmt
 zbf:Gf K mg "_law_heads" "_law_heads" zkt
 zcf:Gf K mg "_law_first" "_law_first" zlt
 zoe:Gf K mg "_law_played" "_law_played" zqq
 zjg:Gf K mg "_law_come" "_law_come" zaw
 zkd:Gf K mg "_law_new_turn" "_law_new_turn" zsm
 zuh:Gf K mg "_law_let" "_law_let" zaz
 zvh:Gf K mg "_law_can" "_law_can" zbz
 ztob:Gf K mg "law" "law" zvdc
set_option genInjectivity false in
set_option genSizeOf false in
structure Tx (K:yda)(mg:Str->Option Value) extends Tf K mg where
 ztf:Addr
 zyd:Cls K ztf
 zerb:mg "Words" = some (.ref ztf)
 zdd:If K ztf "__init__" "Words.__init__" zqi
 zud:Mf K ztf "take" "Words.take" ztm
 zap:Mf K ztf "take_one_of" "Words.take_one_of" zqj
 zwc:Mf K ztf "take_name" "Words.take_name" zwh
 zac:Mf K ztf "take_number" "Words.take_number" zng
 zae:Mf K ztf "finish" "Words.finish" zok
 zqe:zsf K ztf "words"
 zwd:zsf K ztf "place"
 ztn:Addr
 zrsb:Cls K ztn
 zqec:mg "Whom" = some (.ref ztn)
 zbv:If K ztn "__init__" "Whom.__init__" zvm
 zlg:Mf K ztn "fits" "Whom.fits" zep
 zav:Mf K ztn "fits_row" "Whom.fits_row" zum
 zxr:Mf K ztn "fits_parts" "Whom.fits_parts" zal
 zmp:zsf K ztn "word"
 zgn:zsf K ztn "value"
 zin:zsf K ztn "parts"
 zjfc:Isi K ztn
 znb:Addr
 zih:Cls K znb
 zjyb:mg "Card" = some (.ref znb)
 zmd:If K znb "__init__" "Card.__init__" zrj
 zvl:zsf K znb "name"
 zbi:zsf K znb "cost"
 zni:zsf K znb "force"
 zug:zsf K znb "marks"
 zmf:zsf K znb "rules"
 zza:Addr
 zpb:Cls K zza
 zaib:mg "Fight" = some (.ref zza)
 zoc:If K zza "__init__" "Fight.__init__" zri
 zfe:Mf K zza "play" "Fight.play" zwm
 zld:MfD K zza "let" "Fight.let" zgp [.none]
 zie:Mf K zza "keep" "Fight.keep" zym
 zvd:Mf K zza "stand" "Fight.stand" zql
 zmg:Mf K zza "log" "Fight.log" zfp
 zge:Mf K zza "many" "Fight.many" zxm
 zzc:zsf K zza "all_cards"
 zxd:zsf K zza "all_owners"
 zpd:zsf K zza "now"
 zsd:zsf K zza "last_log"
 ztg:zsf K zza "past"
 zfmb:mg "all" = none
 zsob:mg "dict" = none
 zje:mg "enumerate" = none
 ztz:mg "int" = none
 zak:mg "isinstance" = none
 zuf:mg "len" = none
 zki:mg "list" = none
 zbub:mg "max" = none
 zxyb:mg "min" = none
 zrh:mg "range" = none
 zwr:mg "reversed" = none
 zrob:mg "set" = none
 zwg:mg "sorted" = none
 zemb:mg "str" = none
 zaub:mg "sum" = none
 zzb:mg "tuple" = none
 zztb:mg "zip" = none
 zxeb:Tok
 zlr:mg "LETTERS" = some (.str zlx zxeb)
 zyeb:Tok
 zmr:mg "FIGURES" = some (.str zmx zyeb)
 zqt:Tok
 znn:mg "MOST_WORDS" = some (.int 9 zqt)
 zkjb:Addr
 zkib:mg "PARTS" = some (.ref zkjb)
 zeib:ylk (yoi λb=>K.lookup b) (λb=>K.lookup b) zkjb zxtb=true
 zrt:Tok
 zik:mg "MOST_RULES" = some (.int 3 zrt)
 zjjb:Addr
 zjib:mg "SORTS" = some (.ref zjjb)
 zdib:TupK K zjjb ["hold","when","instead","may"]
 zjx:Addr
 ztw:mg "CHANGES" = some (.ref zjx)
 zpw:TupK K zjx ["mute","steal","gain","lack","be","more","less","per"]
 zvn:Addr
 zmn:mg "WHEN_KINDS" = some (.ref zvn)
 zkn:TupK K zvn ["come","leave","hurt","gain","lack","lose","score","draw"]
 zwn:Addr
 zpn:mg "DEED_KINDS" = some (.ref zwn)
 zln:TupK K zwn ["leave","hurt","gain","lack","lose","score","draw"]
 zsk:Addr
 zqk:mg "PLAYER_KINDS" = some (.ref zsk)
 zpk:TupK K zsk ["lose","score","draw"]
 zijb:Addr
 ziib:mg "TURNS" = some (.ref zijb)
 zcib:TabK K zijb zwtb
 zrr:Addr
 ztu:mg "LAYERS" = some (.ref zrr)
 zpu:ylk (yoi λb=>K.lookup b) (λb=>K.lookup b) zrr zqcb=true
 zir:Tok
 zjj:mg "MANY_LAYERS" = some (.int 5 zir)
 zpm:Tok
 zbg:mg "FEWEST_PLAYERS" = some (.int 2 zpm)
 zuo:Tok
 zii:mg "MOST_PLAYERS" = some (.int 4 zuo)
 ztt:Tok
 zkk:mg "MOST_CARDS" = some (.int 16 ztt)
 zst:Tok
 zjk:mg "MOST_HOLDS" = some (.int 8 zst)
 zvo:Tok
 zji:mg "FIRST_POINTS" = some (.int 20 zvo)
 zut:Tok
 zpi:mg "FIRST_HAND" = some (.int 3 zut)
 zplb:Tok
 zlo:mg "POINTS" = some (.int 0 zplb)
 zolb:Tok
 zkr:mg "SCORES" = some (.int 1 zolb)
 znyb:Tok
 zqm:mg "GONE" = some (.int 2 znyb)
 zrrb:Tok
 zsw:mg "DECKS" = some (.int 3 zrrb)
 zqrb:Tok
 zon:mg "HANDS" = some (.int 4 zqrb)
 zprb:Tok
 zfh:mg "LYING" = some (.int 5 zprb)
 zmyb:Tok
 zffb:mg "HEAP" = some (.int 6 zmyb)
 zorb:Tok
 zvj:mg "MARKS" = some (.int 7 zorb)
 znlb:Tok
 zwl:mg "WOUNDS" = some (.int 8 znlb)
 zqlb:Tok
 zsu:mg "PLACES" = some (.int 40 zqlb)
 zpt:Tok
 zoi:mg "TURN_COINS" = some (.int 5 zpt)
 zfgb:Addr
 zgfb:mg "FULL" = some (.ref zfgb)
 zmrb:TupK K zfgb ["full"]
 zlh:Addr
 zkj:mg "DEED_PLACES" = some (.ref zlh)
 zij:ylk (yoi λb=>K.lookup b) (λb=>K.lookup b) zlh zkm=true
theorem zbgb (T:Tx K mg):Binds K T.zzg.d zvx []:=T.zzg.F.binds λ_ _ _ _ _ _ us hl=>onl1 (λ_=>rfl) us hl
theorem zyib (T:Tx K mg):Binds K T.zgg.d zwp []:=T.zgg.F.binds λ_ _ _ _ _ _ us hl=>onl1 (λ_=>rfl) us hl
theorem zeob (T:Tx K mg):Binds K T.zth.d zvs []:=T.zth.F.binds λ_ _ _ _ _ _ us hl=>onl2 (λ_ _=>rfl) us hl
theorem zfu (T:Tx K mg):Binds K T.zdd.d zwi []:=T.zdd.F.binds λ_ _ _ _ _ _ us hl=>onl2 (λ_ _=>rfl) us hl
theorem zun (T:Tx K mg):Binds K T.zud.d zeo []:=T.zud.F.binds λ_ _ _ _ _ _ us hl=>onl1 (λ_=>rfl) us hl
theorem zqs (T:Tx K mg):Binds K T.zwc.d zei []:=T.zwc.F.binds λ_ _ _ _ _ _ us hl=>onl1 (λ_=>rfl) us hl
theorem zxj (T:Tx K mg):Binds K T.zac.d zqg []:=T.zac.F.binds λ_ _ _ _ _ _ us hl=>onl1 (λ_=>rfl) us hl
theorem zky (T:Tx K mg):Binds K T.zae.d zvk []:=T.zae.F.binds λ_ _ _ _ _ _ us hl=>onl1 (λ_=>rfl) us hl
theorem zcjb (T:Tx K mg):Binds K T.zlg.d zaq []:=T.zlg.F.binds λ_ _ _ _ _ _ us hl=>onl5 (λ_ _ _ _ _=>rfl) us hl
theorem zuwb (T:Tx K mg):Binds K T.zjl.d zybb []:=T.zjl.F.binds λ_ _ _ _ _ _ us hl=>onl2 (λ_ _=>rfl) us hl
theorem zgx (T:Tx K mg):Binds K T.zmd.d zzj []:=T.zmd.F.binds λ_ _ _ _ _ _ us hl=>onl6 (λ_ _ _ _ _ _=>rfl) us hl
theorem zwib (T:Tx K mg):Binds K T.zeg.d zup []:=T.zeg.F.binds λ_ _ _ _ _ _ us hl=>onl1 (λ_=>rfl) us hl
theorem zxfb (T:Tx K mg):Binds K T.zxe.d zyn []:=T.zxe.F.binds λ_ _ _ _ _ _ us hl=>onl1 (λ_=>rfl) us hl
theorem zvib (T:Tx K mg):Binds K T.zdg.d ztp []:=T.zdg.F.binds λ_ _ _ _ _ _ us hl=>onl1 (λ_=>rfl) us hl
theorem zubb (T:Tx K mg):Binds K T.zne.d zem []:=T.zne.F.binds λ_ _ _ _ _ _ us hl=>onl1 (λ_=>rfl) us hl
theorem zctb (T:Tx K mg):Binds K T.zoj.d zxx []:=T.zoj.F.binds λ_ _ _ _ _ _ us hl=>onl1 (λ_=>rfl) us hl
theorem zgcc (T:Tx K mg):Binds K T.zyo.d zmjb []:=T.zyo.F.binds λ_ _ _ _ _ _ us hl=>onl3 (λ_ _ _=>rfl) us hl
theorem zzsb (T:Tx K mg):Binds K T.zlj.d zqx []:=T.zlj.F.binds λ_ _ _ _ _ _ us hl=>onl3 (λ_ _ _=>rfl) us hl
theorem zzwb (T:Tx K mg):Binds K T.zol.d zicb []:=T.zol.F.binds λ_ _ _ _ _ _ us hl=>onl3 (λ_ _ _=>rfl) us hl
theorem zbmb (T:Tx K mg):Binds K T.zdj.d zdcb []:=T.zdj.F.binds λ_ _ _ _ _ _ us hl=>onl2 (λ_ _=>rfl) us hl
theorem zbx (T:Tx K mg):Binds K T.zwe.d zox []:=T.zwe.F.binds λ_ _ _ _ _ _ us hl=>onl2 (λ_ _=>rfl) us hl
theorem zbtb (T:Tx K mg):Binds K T.znj.d zux []:=T.znj.F.binds λ_ _ _ _ _ _ us hl=>onl1 (λ_=>rfl) us hl
theorem zatb (T:Tx K mg):Binds K T.zmj.d ztx []:=T.zmj.F.binds λ_ _ _ _ _ _ us hl=>onl3 (λ_ _ _=>rfl) us hl
theorem zdmb (T:Tx K mg):Binds K T.zfj.d zgcb []:=T.zfj.F.binds λ_ _ _ _ _ _ us hl=>onl2 (λ_ _=>rfl) us hl
theorem zjh (T:Tx K mg):Binds K T.zsb.d zbm []:=T.zsb.F.binds λ_ _ _ _ _ _ us hl=>onl4 (λ_ _ _ _=>rfl) us hl
theorem zcx (T:Tx K mg):Binds K T.zke.d zsp []:=T.zke.F.binds λ_ _ _ _ _ _ us hl=>onl4 (λ_ _ _ _=>rfl) us hl
theorem ztwb (T:Tx K mg):Binds K T.zil.d zxbb []:=T.zil.F.binds λ_ _ _ _ _ _ us hl=>onl4 (λ_ _ _ _=>rfl) us hl
theorem zxib (T:Tx K mg):Binds K T.zfg.d zvp []:=T.zfg.F.binds λ_ _ _ _ _ _ us hl=>onl2 (λ_ _=>rfl) us hl
theorem zwo (T:Tx K mg):Binds K T.zbd.d ztk []:=T.zbd.F.binds λ_ _ _ _ _ _ us hl=>onl4 (λ_ _ _ _=>rfl) us hl
theorem zicc (T:Tx K mg):Binds K T.zzo.d znjb []:=T.zzo.F.binds λ_ _ _ _ _ _ us hl=>onl1 (λ_=>rfl) us hl
theorem zagb (T:Tx K mg):Binds K T.zze.d zao []:=T.zze.F.binds λ_ _ _ _ _ _ us hl=>onl1 (λ_=>rfl) us hl
theorem zsbb (T:Tx K mg):Binds K T.zle.d zcm []:=T.zle.F.binds λ_ _ _ _ _ _ us hl=>onl3 (λ_ _ _=>rfl) us hl
theorem zzfb (T:Tx K mg):Binds K T.zye.d zzn []:=T.zye.F.binds λ_ _ _ _ _ _ us hl=>onl2 (λ_ _=>rfl) us hl
theorem zwj (T:Tx K mg):Binds K T.zkc.d zrx []:=T.zkc.F.binds λ_ _ _ _ _ _ us hl=>onl3 (λ_ _ _=>rfl) us hl
theorem zel (T:Tx K mg):Binds K T.ztc.d zss []:=T.ztc.F.binds λ_ _ _ _ _ _ us hl=>onl3 (λ_ _ _=>rfl) us hl
theorem zvg (T:Tx K mg):Binds K T.zub.d zts []:=T.zub.F.binds λ_ _ _ _ _ _ us hl=>onl3 (λ_ _ _=>rfl) us hl
theorem zzd (T:Tx K mg):Binds K T.zdb.d zxn []:=T.zdb.F.binds λ_ _ _ _ _ _ us hl=>onl4 (λ_ _ _ _=>rfl) us hl
theorem zdx (T:Tx K mg):Binds K T.zaf.d zwx []:=T.zaf.F.binds λ_ _ _ _ _ _ us hl=>onl2 (λ_ _=>rfl) us hl
theorem zcmb (T:Tx K mg):Binds K T.zej.d zecb []:=T.zej.F.binds λ_ _ _ _ _ _ us hl=>onl3 (λ_ _ _=>rfl) us hl
theorem zpr (T:Tx K mg):Binds K T.zlc.d zmh []:=T.zlc.F.binds λ_ _ _ _ _ _ us hl=>onl2 (λ_ _=>rfl) us hl
theorem zeu (T:Tx K mg):Binds K T.zcd.d zvi []:=T.zcd.F.binds λ_ _ _ _ _ _ us hl=>onl3 (λ_ _ _=>rfl) us hl
theorem zwfb (T:Tx K mg):Binds K T.zyg.d zsx []:=T.zyg.F.binds λ_ _ _ _ _ _ us hl=>onl3 (λ_ _ _=>rfl) us hl
theorem zno (T:Tx K mg):Binds K T.zjd.d zus []:=T.zjd.F.binds λ_ _ _ _ _ _ us hl=>onl3 (λ_ _ _=>rfl) us hl
theorem zex (T:Tx K mg):Binds K T.ztd.d ztr []:=T.ztd.F.binds λ_ _ _ _ _ _ us hl=>onl5 (λ_ _ _ _ _=>rfl) us hl
theorem zwfc (T:Tx K mg):Binds K T.zzu.d zjtb []:=T.zzu.F.binds λ_ _ _ _ _ _ us hl=>onl7 (λ_ _ _ _ _ _ _=>rfl) us hl
theorem zyfb (T:Tx K mg):Binds K T.zse.d zsr []:=T.zse.F.binds λ_ _ _ _ _ _ us hl=>onl6 (λ_ _ _ _ _ _=>rfl) us hl
theorem zlk (T:Tx K mg):Binds K T.zwb.d znh []:=T.zwb.F.binds λ_ _ _ _ _ _ us hl=>onl2 (λ_ _=>rfl) us hl
theorem zps (T:Tx K mg):Binds K T.zvc.d zdi []:=T.zvc.F.binds λ_ _ _ _ _ _ us hl=>onl4 (λ_ _ _ _=>rfl) us hl
theorem zwwb (T:Tx K mg):Binds K T.zll.d zbcb []:=T.zll.F.binds λ_ _ _ _ _ _ us hl=>onl4 (λ_ _ _ _=>rfl) us hl
theorem zvfc (T:Tx K mg):Binds K T.zyu.d zitb []:=T.zyu.F.binds λ_ _ _ _ _ _ us hl=>onl4 (λ_ _ _ _=>rfl) us hl
theorem zuib (T:Tx K mg):Binds K T.zcg.d zrp []:=T.zcg.F.binds λ_ _ _ _ _ _ us hl=>onl3 (λ_ _ _=>rfl) us hl
theorem ztbb (T:Tx K mg):Binds K T.zme.d zdm []:=T.zme.F.binds λ_ _ _ _ _ _ us hl=>onl1 (λ_=>rfl) us hl
theorem zyf (T:Tx K mg):Binds K T.zob.d zuk []:=T.zob.F.binds λ_ _ _ _ _ _ us hl=>onl2 (λ_ _=>rfl) us hl
theorem zamb (T:Tx K mg):Binds K T.zcj.d zzbb []:=T.zcj.F.binds λ_ _ _ _ _ _ us hl=>onl2 (λ_ _=>rfl) us hl
theorem zufc (T:Tx K mg):Binds K T.zxu.d zgtb []:=T.zxu.F.binds λ_ _ _ _ _ _ us hl=>onl3 (λ_ _ _=>rfl) us hl
theorem zvwb (T:Tx K mg):Binds K T.zkl.d zacb []:=T.zkl.F.binds λ_ _ _ _ _ _ us hl=>onl4 (λ_ _ _ _=>rfl) us hl
theorem zxwb (T:Tx K mg):Binds K T.zml.d zccb []:=T.zml.F.binds λ_ _ _ _ _ _ us hl=>onl4 (λ_ _ _ _=>rfl) us hl
theorem zdob (T:Tx K mg):Binds K T.zsh.d zrs []:=T.zsh.F.binds λ_ _ _ _ _ _ us hl=>onl5 (λ_ _ _ _ _=>rfl) us hl
theorem zvfb (T:Tx K mg):Binds K T.zxg.d zpx []:=T.zxg.F.binds λ_ _ _ _ _ _ us hl=>onl7 (λ_ _ _ _ _ _ _=>rfl) us hl
theorem zfcc (T:Tx K mg):Binds K T.zxo.d zljb []:=T.zxo.F.binds λ_ _ _ _ _ _ us hl=>onl3 (λ_ _ _=>rfl) us hl
theorem zos (T:Tx K mg):Binds K T.zuc.d zci []:=T.zuc.F.binds λ_ _ _ _ _ _ us hl=>onl4 (λ_ _ _ _=>rfl) us hl
theorem zywb (T:Tx K mg):Binds K T.znl.d zfcb []:=T.znl.F.binds λ_ _ _ _ _ _ us hl=>onl2 (λ_ _=>rfl) us hl
theorem zrm (T:Tx K mg):Binds K T.zoc.d zxi []:=T.zoc.F.binds λ_ _ _ _ _ _ us hl=>onl2 (λ_ _=>rfl) us hl
theorem zxt (T:Tx K mg):Binds K T.zfe.d zfo []:=T.zfe.F.binds λ_ _ _ _ _ _ us hl=>onl3 (λ_ _ _=>rfl) us hl
theorem zejb (T:Tx K mg):Binds K T.zld.d zjm []:=T.zld.F.binds λ_ _ _ _ _ _ _ us hl=>onl3 (λ_ _ _=>⟨_,rfl,rfl⟩) us (by simpa using hl)
theorem zau (T:Tx K mg):Binds K T.zld.d zjm [.none]:=T.zld.F.binds λ_ _ _ _ _ _ _ us hl=>onl2 (λ_ _=>⟨_,rfl,rfl⟩) us (by simpa using hl)
theorem zzt (T:Tx K mg):Binds K T.zie.d zio []:=T.zie.F.binds λ_ _ _ _ _ _ us hl=>onl4 (λ_ _ _ _=>rfl) us hl
theorem zqr (T:Tx K mg):Binds K T.zvd.d zim []:=T.zvd.F.binds λ_ _ _ _ _ _ us hl=>onl1 (λ_=>rfl) us hl
theorem zdjb (T:Tx K mg):Binds K T.zmg.d zbq []:=T.zmg.F.binds λ_ _ _ _ _ _ us hl=>onl1 (λ_=>rfl) us hl
theorem zyt (T:Tx K mg):Binds K T.zge.d zgo []:=T.zge.F.binds λ_ _ _ _ _ _ us hl=>onl1 (λ_=>rfl) us hl
theorem zkh (T:Tx K mg):Binds K T.ztb.d zgm []:=T.ztb.F.binds λ_ _ _ _ _ _ us hl=>onl2 (λ_ _=>rfl) us hl
theorem zzib (T:Tx K mg):Binds K T.zig.d zxp []:=T.zig.F.binds λ_ _ _ _ _ _ us hl=>onl2 (λ_ _=>rfl) us hl
theorem zbjb (T:Tx K mg):Binds K T.zkg.d zzp []:=T.zkg.F.binds λ_ _ _ _ _ _ us hl=>onl2 (λ_ _=>rfl) us hl
theorem zegb (T:Tx K mg):Binds K T.zdf.d zdo []:=T.zdf.F.binds λ_ _ _ _ _ _ us hl=>onl2 (λ_ _=>rfl) us hl
theorem zcgb (T:Tx K mg):Binds K T.zbf.d zbo []:=T.zbf.F.binds λ_ _ _ _ _ _ us hl=>onl1 (λ_=>rfl) us hl
theorem zdgb (T:Tx K mg):Binds K T.zcf.d zco []:=T.zcf.F.binds λ_ _ _ _ _ _ us hl=>onl2 (λ_ _=>rfl) us hl
theorem zvbb (T:Tx K mg):Binds K T.zoe.d zfm []:=T.zoe.F.binds λ_ _ _ _ _ _ us hl=>onl3 (λ_ _ _=>rfl) us hl
theorem zajb (T:Tx K mg):Binds K T.zjg.d zyp []:=T.zjg.F.binds λ_ _ _ _ _ _ us hl=>onl2 (λ_ _=>rfl) us hl
theorem zfx (T:Tx K mg):Binds K T.zkd.d zyj []:=T.zkd.F.binds λ_ _ _ _ _ _ us hl=>onl1 (λ_=>rfl) us hl
theorem zfob (T:Tx K mg):Binds K T.zuh.d zws []:=T.zuh.F.binds λ_ _ _ _ _ _ us hl=>onl2 (λ_ _=>rfl) us hl
theorem zgob (T:Tx K mg):Binds K T.zvh.d zxs []:=T.zvh.F.binds λ_ _ _ _ _ _ us hl=>onl2 (λ_ _=>rfl) us hl
theorem zomb (T:Tx K mg)(kb:K.In base):yit base T.zrr zqcb:=KTD.text_of_look (λb o q=>kb b o q) T.zpu
theorem zlv (T:Tx K mg)(kb:K.In base):yit base T.zlh zkm:=KTD.text_of_look (λb o q=>kb b o q) T.zij
abbrev LL:Str:="abcdefghijklmnopqrstuvwxyz"
abbrev FF:Str:="0123456789"
def inS (c:Nat)(u:Str):Bool:=!(yud u ⟨#[c]⟩ 0 u.length 1).isEmpty
def allIn (t u:Str):Bool:=(t.cps.toList.map λc=>inS c u).all id
def zgz (t:Str):Bool:=decide (V.str t=V.str "0")||(!decide (V.str ⟨#[t.cps.getD 0 0]⟩=V.str "0"))
def short (t:Str)(n:Int):Bool:=decide ((1:Int)≤((t.length:Nat):Int))&&decide (((t.length:Nat):Int)≤n)
def isName (t:Str):Bool:=short t 8&&allIn t LL
def isWhole (t:Str)(n:Int):Bool:=short t n&&(allIn t FF&&zgz t)
def isNumber (t:Str):Bool:=isWhole t 3
theorem small {n:Nat}(h:n≤1000):n≤yva:=yye (zvf h)
theorem ztnb {t:Str}(h:(1:Int)≤((t.length:Nat):Int)):atI t.cps.toList 0=some (t.cps.getD 0 0):=by
 have hl:0<t.cps.size:=by
  have e:t.length=t.cps.size:=rfl;omega
 have e:t.cps.toList[0]?=some (t.cps.getD 0 0):=by
  rw[yac,ylg,ykb hl];rfl
 exact zpa (j:=0) e
theorem zetb {α:Type}{xs:List α}{i:Int}(h0:0≤i)(h:i<(xs.length:Int)):∃v,atI xs i=some v∧v∈xs:=by
 have hk:i.toNat<xs.length:=by omega
 have e:xs[i.toNat]?=some xs[i.toNat]:=ybb hk;have q:=zpa e;rw[show ((i.toNat:Nat):Int)=i by omega] at q;exact⟨_,q,ycb e⟩
theorem zkcc {ns:List Int}{i:Int}(h0:0≤i)(h:i<(ns.length:Int)):∃z,atI (ns.map V.int) i=some (.int z):=by
 obtain⟨v,hv,hm⟩:=zetb (xs:=ns.map V.int) h0 (by rw[yca];exact h);obtain⟨z,_,rfl⟩:=yfc.mp hm;exact⟨z,hv⟩
def But (p:Addr)(H H':Hp):Prop:=∀b o,b≠p->H b=some o->H' b=some o
theorem But.trans {p:Addr}{H H1 H2:Hp}(a:But p H H1)(b:But p H1 H2):But p H H2:=λc o n h=>b c o n (a c o n h)
theorem But.laid {p q:Addr}{H:Hp}{o:HO}(h:H q=none):But p H (upd H q o):=λb u n e=>by rw[zbb (zka e h)];exact e
theorem But.put {p:Addr}{H:Hp}{o:HO}:But p H (upd H p o):=λb u n e=>by rw[zbb n];exact e
theorem But.same {p:Addr}{H H':Hp}(h:Same H H'):But p H H':=λb o _ e=>h b o e
theorem zgj {H:Hp}{p:Addr}(h:H p=none)(o:HO):Same H (upd H p o):=λb u q=>by rw[zbb (zka q h)];exact q
def SqF (K:yda)(H:Hp)(a:Addr)(xs:List V):Prop :=
 (∃o,H a=some (.frz o (.lst xs)))∨Ex3 λ(o:Obj) (its:Array Value) (n:Nat)=>K.lookup a=some o∧o.cls = .type "list" ∧ o.dict=none∧o.data = .seq its n∧its.size≤yva∧Vals xs its.toList
theorem SqF.sq {K:yda}{H:Hp}{a:Addr}{xs:List V}(h:SqF K H a xs):SqL K H a xs:=by
 rcases h with⟨o,h⟩|h
 ·exact .inl (.inr ⟨o,h⟩)
 ·exact .inr h
theorem SqF.of {K:yda}{H:Hp}{a:Addr}{xs:List V}(O:Only H)(h:SqL K H a xs):SqF K H a xs:=by
 rcases h with (h|⟨o,h⟩)|h
 ·rcases O a with z|⟨o,ys,z⟩
  ·rw[z] at h;cases h
  ·rw[z] at h;cases h
 ·exact .inl ⟨o,h⟩
 ·exact .inr h
theorem SqF.keep {K:yda}{H H':Hp}{a:Addr}{xs:List V}(h:SqF K H a xs)(k:∀o u,H a=some (.frz o u)->H' a=some (.frz o u)):SqF K H' a xs:=by
 rcases h with⟨o,h⟩|h
 ·exact .inl ⟨o,k _ _ h⟩
 ·exact .inr h
structure Tk (K:yda)(H:Hp)(p:Addr)(k:Int):Prop where
 ex:Ex2 λa (ns:List Int)=>H p=some (.lst [.ref a,.int k])∧SqF K H a (ns.map V.int)∧ns.length≤63
 lo:0≤k
def zndc:Sp:=λvs H Q _=>∃t:Str,vs=[.str t]∧t.length≤1000∧∀H',Same H H'->Q (.bl (isName t)) H'
def zpub:Sp:=λvs H Q _=>∃t:Str,vs=[.str t]∧t.length≤1000∧∀H',Same H H'->Q (.bl (isNumber t)) H'
def zpzb:Sp:=λvs H Q _=>Ex2 λ(t:Str) (n:Int)=>vs=[.str t,.int n]∧t.length≤1000∧∀H',Same H H'->Q (.bl (isWhole t n)) H'
def zrub (K:yda):Sp:=λvs H Q _=>Ex2 λa (ns:List Int)=>vs=[.ref a]∧SqF K H a (ns.map V.int)∧ns.length≤63∧∀H',Q (.bl true) H'
abbrev zbec:R2:=λx y H Q=>Ex2 λi j=>x = .str i∧y = .str j∧Q (.bl (!(yud j i 0 j.length 1).isEmpty)) H
theorem zoz {t L:Str}{σ:L2.St}{H:Hp}{Q:VK}(hz:t.length≤yva)(q:∀p,H p=none->Q (.ref p) (upd H p (.lst ((t.cps.toList.map λc=>inS c L).map V.bl)))) :
  zoy (Its t) H (zasb 0) zzcc (tOp zbec (tVar 0) (tC (.str L))) 1 [] σ Q:=by
 refine zpwb (λi ys H'=>H'=H∧i≤t.cps.size∧ys=((t.cps.toList.take i).map λc=>inS c L).map V.bl) ⟨rfl,ywa _,rfl⟩ ?_ ?_ ?_
 ·rintro i ys H' ⟨_,hi,rfl⟩;rw[yca,yca,yza];have e:t.length=t.cps.toList.length:=by simp[Str.length]
  omega
 ·rintro i c ys H' hc ⟨rfl,hi,rfl⟩;refine⟨rfl,_,rfl,_,_,rfl,rfl,rfl,?_,?_⟩
  ·have hlt:i<t.cps.size:=(Array.getElem?_eq_some_iff.mp hc).1;exact hlt
  ·have e:t.cps.toList[i]?=some c:=by simpa using hc
   rw[ydb,e,ygb,ygb];rfl
 ·rintro ys H' ⟨rfl,_,rfl⟩ p hp;have q':=q p hp;rw[yra (by simp)];exact q'
section
variable {P:yzb}{w:World}{K:yda}{mg:Str->Option Value}{base:Heap}{f:Addr}{fd:yrf}
theorem zfz (T:Tx K mg):FnOk P w K mg base CX0 2 T.zzg.f T.zzg.d zvx zndc:=by
 refine T.zzg.ok zxmb ?_;rintro f c A o s H vs Q E hr ⟨t,rfl,hz,q⟩ X;have hz':=small hz;refine⟨_,  (zfa (zsa (zeyb (zovb zoab zoab zia (zab zwt rfl T.zuf ysb (zaa (pv 0) zba)) zia) (zzdb (zab (zrbb rfl) rfl T.zfmb boot_all (zaa (zec (own:=["sign"]) (cap:=[]) rfl (zya.chk rfl rfl) .nil (zcyb (pv 0)) (λ_ _ _ _=>(zda (i:=0) (show yhb (["sign"]:List Str) by decide +kernel) rfl (.inl rfl))) (λ_ _ _ _=>zyc) (λ_ _ _ _=>by exact (zyh zbeb (pv 0) (zua (v:=.str zlx) rfl T.zlr ⟨_,rfl⟩) rfl))) zba)))))),?_⟩;refine⟨_,rfl,t,rfl,hz',_,_,rfl,rfl,_,rfl,?_⟩;refine ite2 (λc1=>?_) (λc1=>?_)
 ·refine⟨_,_,rfl,rfl,_,rfl,?_⟩;refine ite2 (λc2=>?_) (λc2=>?_)
  ·refine⟨_,rfl,t,rfl,?_⟩;refine zoz hz' λp hp=>?_;refine⟨p,_,rfl,SqL.of zta,?_⟩;have q':=q (upd H p (.lst ((t.cps.toList.map λc=>inS c LL).map V.bl))) (zgj hp _);have e:isName t=allIn t LL:=by
    unfold isName short;rw[c1,c2,ydi,ydi]
   rw[e] at q';exact q'
  ·have q':=q H (Same.refl H);have e:isName t=false:=by
    unfold isName short;rw[ywi.mpr c2,ytm,ygg]
   rw[e] at q';exact q'
 ·refine⟨_,rfl,iteF ?_⟩;have q':=q H (Same.refl H);have e:isName t=false:=by
   unfold isName short;rw[ywi.mpr c1,ygg,ygg]
  rw[e] at q';exact q'
theorem zthb (T:Tx K mg):FnOk P w K mg base CX0 1 T.zth.f T.zth.d zvs zpzb:=by
 refine T.zth.ok zbhb ?_;rintro f c A o s H vs Q E hr ⟨t,n,rfl,hz,q⟩ X;have hz':=small hz;refine⟨_,  (zca (zrc (PW.pt (zfqb (zek (zalb zoab zoab zia (zab zwt rfl T.zuf ysb (zaa (pv 0) zba)) (pv 1))) (zzkb (zek (zph (zab (zrbb rfl) rfl T.zfmb boot_all (zaa (zec (own:=["sign"]) (cap:=[]) rfl (zya.chk rfl rfl) .nil (zcyb (pv 0)) (λ_ _ _ _=>(zda (i:=0) (show yhb (["sign"]:List Str) by decide +kernel) rfl (.inl rfl))) (λ_ _ _ _=>zyc) (λ_ _ _ _=>by exact (zyh zbeb (pv 0) (zua (v:=.str zmx) rfl T.zmr ⟨_,rfl⟩) rfl))) zba)))))))
   (zfa (zsa zbnb))
   zeb)
  (zfa (zsa (zebc (zyh zoh (pv 0) zkb (zfb _)) (zzdb (zyh zphb (zva zqyb (pv 0) zia (λ_ _=>rfl)) zkb (zfb _))))))),?_⟩
 refine⟨_,rfl,t,rfl,hz',_,_,rfl,rfl,_,rfl,?_⟩;refine ite2 (λc1=>?_) (λc1=>?_)
 ·refine⟨_,rfl,_,_,rfl,rfl,_,rfl,?_⟩;refine ite2 (λc2=>?_) (λc2=>?_)
  ·refine iteT ?_;have q':=q H (Same.refl H);have c2':decide (((t.length:Nat):Int)≤n)=false:=(by simpa using c2);have e:isWhole t n=false:=by
    unfold isWhole short;rw[c2',ytm,ygg]
   rw[e] at q';exact q'
  ·have c2':decide (((t.length:Nat):Int)≤n)=true:=by simpa using c2
   refine⟨_,rfl,t,rfl,?_⟩;refine zoz hz' λp hp=>?_;refine⟨p,_,rfl,SqL.of zta,_,rfl,?_⟩;have S1:=zgj hp (.lst ((t.cps.toList.map λc=>inS c FF).map V.bl));have q':=q _ S1;have e0:isWhole t n=(allIn t FF&&zgz t):=by
    unfold isWhole short;rw[c1,c2',ydi,ydi]
   rw[e0] at q';refine ite2 (λc3=>?_) (λc3=>?_)
   ·have c3':allIn t FF=false:=by simpa [allIn] using c3
    rw[c3',ygg] at q';exact q'
   ·have c3':allIn t FF=true:=by simpa [allIn] using c3
    rw[c3',ydi] at q';refine⟨_,rfl,rfl,_,rfl,?_⟩;refine ite2 (λc4=>?_) (λc4=>?_)
    ·have e:zgz t=true:=by
      unfold zgz;rw[c4,yfq]
     rw[e] at q';exact q'
    ·refine⟨_,rfl,t,_,_,rfl,rfl,hz',ztnb (of_decide_eq_true c1),rfl,?_⟩;have e:zgz t=(!decide (V.str ⟨#[t.cps.getD 0 0]⟩=V.str "0")):=by
      unfold zgz;rw[ywi.mpr c4,yjo]
     rw[e] at q';exact q'
 ·refine⟨_,rfl,iteT (iteT ?_)⟩;have q':=q H (Same.refl H);have e:isWhole t n=false:=by
   unfold isWhole short;rw[ywi.mpr c1,ygg,ygg]
  rw[e] at q';exact q'
theorem zgeb (T:Tx K mg):FnOk P w K mg base CX0 2 T.zgg.f T.zgg.d zwp zpub:=by
 refine T.zgg.ok zddb ?_;rintro f c A o s H vs Q E hr ⟨t,rfl,hz,q⟩ X;refine⟨_,  (zfa (zsa (zja (zthb T) hr rfl T.zth.m T.zth.F.kp (zeob T) .nil zqa (zaa (pv 0) (zaa zia zba))))),?_⟩;exact⟨_,rfl,t,3,rfl,hz,q⟩
end
section
seal PySem.wpAny
theorem zgfc:∀c:Nat,c<123->97≤c->inS c LL=true:=by decide +kernel
theorem ziw {n:Str}(h:zce n):isName n=true:=by
 unfold isName short allIn;obtain⟨h1,h2,h3⟩:=h;rw[decide_eq_true (by omega),decide_eq_true (by omega),ydi,ydi,yxg];intro b hb;obtain⟨c,hc,rfl⟩:=yfc.mp hb;exact zgfc c (by have:=h3 c hc;omega) (h3 c hc).1
theorem zneb:∀i:Nat,i<1000->isNumber (toString (i:Int):Str)=true:=by decide +kernel
theorem zwhb:∀i:Nat,i<1000->PySem.intText? (toString (i:Int):Str)=some (i:Int):=by decide +kernel
theorem zag {f:Str}{v:V}{r:List (Str×V)}:yof f ((f,v)::r)=some v:=by rw[ybg,beq_self_eq_true]
theorem zmb {f g:Str}{v:V}{r:List (Str×V)}(h:¬ f=g):yof f ((g,v)::r)=yof f r:=by
 have e:(f==g)=false:=by simpa using h
 rw[ybg,e]
theorem zcs {f:Str}{v:V}:putF f v []=[(f,v)]:=rfl
theorem znhb {f:Str}{v u:V}{r:List (Str×V)}:putF f v ((f,u)::r)=(f,v)::r:=by
 show (if f=f then (f,v)::r else (f,u)::putF f v r)=_
 rw[if_pos rfl]
theorem zqd {f g:Str}{v u:V}{r:List (Str×V)}(h:¬ g=f):putF f v ((g,u)::r)=(g,u)::putF f v r:=by
 show (if g=f then (g,v)::r else (g,u)::putF f v r)=_
 rw[if_neg h]
def wfs (l:Addr)(k:Int):List (Str×V):=[("words",.ref l),("place",.int k)]
theorem zkec:¬ (("words":Str) = "place"):=by decide +kernel
theorem zehc:¬ (("place":Str) = "words"):=by decide +kernel
theorem zcv (l:Addr)(k:Int):(wfs l k).lookup ("words":Str)=some (.ref l):=zag
theorem zdq (l:Addr)(k:Int):(wfs l k).lookup ("place":Str)=some (.int k):=(zmb zehc).trans zag
theorem zkzb (l:Addr)(k j:Int):putF "place" (.int j) (wfs l k)=wfs l j:=(zqd zkec).trans (congrArg _ znhb)
theorem zgub (l:Addr)(j:Int):putF "place" (.int j) (putF "words" (.ref l) [])=wfs l j:=(zqd zkec).trans rfl
theorem zdv (l:Addr)(k:Int){m:Str}(h1:¬ m = "words")(h2:¬ m = "place"):(wfs l k).lookup m=none:=(zmb h1).trans ((zmb h2).trans rfl)
def WAt (C:Addr)(H:Hp)(p:Addr)(ws:List Str)(k:Nat):Prop:=Ex2 λdx l=>H p=some (.ins C dx (wfs l (k:Int)))∧H l=some (.lst (ws.map V.str))
theorem WAt.at {C:Addr}{H H':Hp}{p:Addr}{ws:List Str}{k:Nat}(h:WAt C H p ws k)(s:Same H H'):WAt C H' p ws k:=by
 obtain⟨dx,l,h1,h2⟩:=h;exact⟨dx,l,s _ _ h1,s _ _ h2⟩
theorem WAt.go {C:Addr}{H:Hp}{p dx l:Addr}{ws:List Str}{k j:Nat}(h1:H p=some (.ins C dx (wfs l (k:Int))))(h2:H l=some (.lst (ws.map V.str))):WAt C (upd H p (.ins C dx (wfs l (j:Int)))) p ws j:=by
 have n:l≠p:=zlec h2 h1 (by intro z;cases z);exact⟨dx,l,zta,by rw[zbb n];exact h2⟩
theorem But.of_same {p:Addr}{H H1 H2:Hp}(a:But p H H1)(b:Same H1 H2):But p H H2:=a.trans (But.same b)
theorem zxfc {ws:List Str}{k:Nat}{u:Str}(h:ws[k]?=some u):atI (ws.map V.str) (k:Int)=some (.str u):=zpa (by rw[yia,h];rfl)
def zozb (C:Addr):Sp:=λvs H Q _=>Ex3 λp dx (t:Str)=>vs=[.ref p,.str t]∧H p=some (.ins C dx [])∧t.length≤1000∧∀H',WAt C H' p (yvf t " ") 0->But p H H'->Q .non H'
def zqzb (C:Addr):Sp:=λvs H Q _=>Ex4 λp (ws:List Str) (k:Nat) (u:Str)=>vs=[.ref p]∧WAt C H p ws k∧ws[k]?=some u∧∀H',WAt C H' p ws (k+1)->But p H H'->Q (.str u) H'
def zrzb (C:Addr):Sp:=λvs H Q _=>Ex4 λp (ws:List Str) (k:Nat) (u:Str)=>vs=[.ref p]∧WAt C H p ws k∧ws[k]?=some u∧zce u∧∀H',WAt C H' p ws (k+1)->But p H H'->Q (.str u) H'
def zdpb (C:Addr):Sp:=λvs H Q _=>Ex4 λp (ws:List Str) (k i:Nat)=>vs=[.ref p]∧WAt C H p ws k∧ws[k]?=some (toString (i:Int):Str)∧i<1000∧∀H',WAt C H' p ws (k+1)->But p H H'->Q (.int i) H'
def zepb (C:Addr):Sp:=λvs H Q _=>Ex2 λp (ws:List Str)=>vs=[.ref p]∧WAt C H p ws ws.length∧Q .non H
theorem zsvb (T:Tx K mg):FnOk P w K mg base CX0 2 T.zdd.f T.zdd.d zwi (zozb T.ztf):=by
 refine T.zdd.ok zyr ?_;rintro f c A o s H vs Q E hr ⟨p,dx,t,rfl,hp,ht,q⟩ X;refine⟨_,  (zca (zfk (pv 0) (zog yre yqg yrg zdr (pv 1) (zaa zkb zba)) rfl)
  (zfa (zfk (pv 0) zia rfl))),?_⟩
 refine⟨_,rfl,rfl,t,_,rfl,rfl,(by decide +kernel),(yob (ylh ht 2) (by decide)),λl hl=>?_⟩;have npl:p≠l:=zka hp hl;refine⟨_,rfl,p,_,dx,_,rfl,(by rw[zbb npl];exact hp),T.zyd,T.zqe,(by show 0<1000;decide),?_⟩;refine⟨_,rfl,p,_,dx,_,rfl,zta,T.zyd,T.zwd,(by show 1<1000;decide),?_⟩;refine q _ ⟨dx,l,?_,?_⟩ ?_
 ·rw[zta,zgub];rfl
 ·rw[zbb npl.symm,zbb npl.symm,zta]
 ·exact (But.laid hl).trans (But.put.trans But.put)
theorem zul (T:Tx K mg):FnOk P w K mg base CX0 2 T.zud.f T.zud.d zeo (zqzb T.ztf):=by
 refine T.zud.ok zdab ?_;rintro f c A o s H vs Q E hr ⟨p,ws,k,u,rfl,⟨dx,l,h1,h2⟩,hu,q⟩ X;refine⟨_,  (zca (zrc (zxa zoh (zee (pv 0) rfl) (zab zwa rfl T.zuf ysb (zaa (zee (pv 0) rfl) zba)) (zfb _))
   (zfa zqf)
   zeb)
  (zca (zjqb (pv 0) zia zffc)
  (zfa (zsa (zva zad (zee (pv 0) rfl) (zgb znm (zee (pv 0) rfl) zia) (λ_ _=>rfl)))))),?_⟩
 have hk:k<ws.length:=(yha.mp hu).1;have n:l≠p:=zlec h2 h1 (by intro z;cases z);refine⟨_,rfl,p,_,dx,_,_,rfl,h1,T.zyd,T.zwd,zdq _ _,_,rfl,p,_,dx,_,_,rfl,h1,T.zyd,T.zqe,zcv _ _,l,_,rfl,.inl (SqL.of h2),rfl,_,rfl,?_⟩;refine ite2 (λc=>?_) (λc=>?_)
 ·exfalso;have c':=of_decide_eq_true c;injection c' with c'
  rw[yca] at c';omega
 ·refine⟨_,rfl,p,_,dx,_,_,rfl,h1,T.zyd,T.zwd,zdq _ _,_,_,rfl,rfl,dx,_,h1,(by show 2<1000;decide),?_⟩;rw[zkzb];refine⟨_,rfl,p,_,dx,_,_,rfl,zta,T.zyd,T.zqe,zcv _ _,_,rfl,p,_,dx,_,_,rfl,zta,T.zyd,T.zwd,zdq _ _,_,_,rfl,rfl,l,_,_,_,rfl,rfl,SqL.of (by rw[zbb n];exact h2),(by rw[Int.add_sub_cancel];exact zxfc hu),?_⟩;exact q _ (WAt.go (j:=k+1) h1 h2) But.put
theorem zfw (T:Tx K mg):FnOk P w K mg base CX0 2 T.zae.f T.zae.d zvk (zepb T.ztf):=by
 refine T.zae.ok zsv ?_;rintro f c A o s H vs Q E hr ⟨p,ws,rfl,⟨dx,l,h1,h2⟩,q⟩ X;refine⟨_,  (zfa (zrc (zxa zpqb (zee (pv 0) rfl) (zab zwa rfl T.zuf ysb (zaa (zee (pv 0) rfl) zba)) (zfb _))
   (zfa zqf)
   zeb)),?_⟩
 refine⟨_,rfl,p,_,dx,_,_,rfl,h1,T.zyd,T.zwd,zdq _ _,_,rfl,p,_,dx,_,_,rfl,h1,T.zyd,T.zqe,zcv _ _,l,_,rfl,.inl (SqL.of h2),_,_,rfl,rfl,_,rfl,?_⟩;refine ite2 (λc=>?_) (λc=>?_)
 ·exfalso;have c':=of_decide_eq_true c;rw[yca] at c';omega
 ·exact q
theorem zyq (T:Tx K mg):FnOk P w K mg base CX0 3 T.zwc.f T.zwc.d zei (zrzb T.ztf):=by
 refine T.zwc.ok zbk ?_;rintro f c A o s H vs Q E hr ⟨p,ws,k,u,rfl,W,hu,hn,q⟩ X;refine⟨_,  (zca (zla (i:=1) zbk.nd rfl (.inl rfl) (zzf (pv 0) T.zyd T.zud.M (zul T) hr (zun T) .nil zqa))
  (zca (zrc (zek (zph (zja (zfz T) hr rfl T.zzg.m T.zzg.F.kp (zbgb T) .nil zqa (zaa (pv 1) zba))))
   (zfa zqf)
   zeb)
  (zfa (zsa (pv 1))))),?_⟩
 obtain⟨dx,l,h1,h2⟩:=id W;refine⟨_,rfl,p,dx,_,rfl,h1,zdv _ _ (by decide +kernel) (by decide +kernel),p,ws,k,u,rfl,W,hu,λH1 W1 B1=>?_⟩;refine⟨_,rfl,u,rfl,(yob hn.2.1 (by decide)),λH2 S2=>?_⟩;rw[ziw hn];refine⟨_,rfl,iteF ?_⟩;exact⟨_,rfl,q H2 (W1.at S2) (B1.of_same S2)⟩
theorem zaj (T:Tx K mg):FnOk P w K mg base CX0 3 T.zac.f T.zac.d zqg (zdpb T.ztf):=by
 refine T.zac.ok zzi ?_;rintro f c A o s H vs Q E hr ⟨p,ws,k,i,rfl,W,hu,hi,q⟩ X;refine⟨_,  (zca (zla (i:=1) zzi.nd rfl (.inl rfl) (zzf (pv 0) T.zyd T.zud.M (zul T) hr (zun T) .nil zqa))
  (zca (zrc (zek (zph (zja (zgeb T) hr rfl T.zgg.m T.zgg.F.kp (zyib T) .nil zqa (zaa (pv 1) zba))))
   (zfa zqf)
   zeb)
  (zfa (zsa (zna zam rfl T.ztz yor (zaa (pv 1) zba)))))),?_⟩
 obtain⟨dx,l,h1,h2⟩:=id W;refine⟨_,rfl,p,dx,_,rfl,h1,zdv _ _ (by decide +kernel) (by decide +kernel),p,ws,k,_,rfl,W,hu,λH1 W1 B1=>?_⟩;have hl:=zis i hi;refine⟨_,rfl,_,rfl,(by omega),λH2 S2=>?_⟩;rw[zneb i hi];refine⟨_,rfl,iteF ?_⟩;exact⟨_,rfl,_,_,rfl,zwhb i hi,(by omega),q H2 (W1.at S2) (B1.of_same S2)⟩
def cfs (n:Str)(c f:Nat)(m t:Addr):List (Str×V):=[("name",.str n),("cost",.int c),("force",.int f),("marks",.ref m),("rules",.ref t)]
def zzzb:Sp:=λvs H Q _=>∃ms:List Str,vs=[.str (zeh ms)]∧Marks ms∧∀m H',Same H H'->H' m=some (.tup (ms.map V.str))->Q (.ref m) H'
def zqmb (B:Addr):Sp:=λvs H Q _=>Ex7 λx dx m t (n:Str) (c f:Nat)=>vs=[.ref x,.str n,.int c,.int f,.ref m,.ref t]∧H x=some (.ins B dx [])∧Q .non (upd H x (.ins B dx (cfs n c f m t)))
theorem zswb (n:Str)(c f:V)(m t:Addr):putF "rules" (.ref t) (putF "marks" (.ref m) (putF "force" f (putF "cost" c (putF "name" (.str n) []))))=([("name",.str n),("cost",c),("force",f),("marks",.ref m),("rules",.ref t)]:List (Str×V)):=by
 repeat (first|rw[zcs]|rw[zqd (by decide +kernel)])
theorem zwz {K:yda}{H:Hp}:∀xs:List Str,DVs K H (xs.map V.str) (xs.map .str)
 | []=>.nil
 | x::r=>.cons (.str x) (zwz r)
theorem zulb:∀xs:List Str,yoe (xs.map .str) (xs.map .str)=true
 | []=>by simp[yoe]
 | x::r=>by simp[yoe,ypd,zulb r]
theorem zjbc (T:Tx K mg):FnOk P w K mg base CX0 2 T.zmd.f T.zmd.d zzj (zqmb T.znb):=by
 refine T.zmd.ok zbu ?_;rintro f c A o s H vs Q E hr ⟨x,dx,m,t,n,c,f,rfl,hx,q⟩ X;refine⟨_,  (zca (zfk (pv 0) (pv 1) rfl)
  (zca (zfk (pv 0) (pv 2) rfl)
  (zca (zfk (pv 0) (pv 3) rfl)
  (zca (zfk (pv 0) (pv 4) rfl)
  (zfa (zfk (pv 0) (pv 5) rfl)))))),?_⟩
 refine⟨_,rfl,_,rfl,x,_,dx,_,rfl,hx,T.zih,T.zvl,(by show 0<1000;decide),?_⟩;refine⟨_,rfl,_,rfl,x,_,dx,_,rfl,zta,T.zih,T.zbi,(by show 1<1000;decide),?_⟩;refine⟨_,rfl,_,rfl,x,_,dx,_,rfl,zta,T.zih,T.zni,(by show 2<1000;decide),?_⟩;refine⟨_,rfl,_,rfl,x,_,dx,_,rfl,zta,T.zih,T.zug,(by show 3<1000;decide),?_⟩;refine⟨_,rfl,_,rfl,x,_,dx,_,rfl,zta,T.zih,T.zmf,(by show 4<1000;decide),?_⟩;show Q .non _
 rw[zbp,zbp,zbp,zbp,zswb];exact q
theorem zklb {n:Str}(h:zce n):yec (.str n)=true:=by
 rw[yec];unfold PyData.strOk;rw[← Array.all_toList,yxg];intro c hc;have:=(h.2.2 c hc).2;simp;omega
theorem zabb:∀xs:List Str,(∀x∈xs,yec (.str x)=true)->yrb (xs.map .str)=true
 | [],_=>by simp[yrb]
 | x::r,h=>by
  have h1:=h x yma;have h2:=zabb r λy hy=>h y (yla _ hy);rw[ytb,yrb,h1,h2];rfl
theorem zkbb:∀xs:List Str,yvb (xs.map .str)=0
 | []=>by simp[yvb]
 | x::r=>by simp[yvb,ybe,zkbb r]
theorem zct {ms:List Str}(h:∀m∈ms,zce m):yhc (.list (ms.map .str))=true:=by
 unfold yhc;rw[yec,zabb ms (λx hx=>zklb (h x hx)),ybe,zkbb];rfl
theorem zpab (T:Tx K mg):FnOk P w K mg base CX0 3 T.zxe.f T.zxe.d zyn zzzb:=by
 refine T.zxe.ok zjq ?_;rintro f c A o s H vs Q E hr ⟨ms,rfl,hm,q⟩ X;refine⟨_,  (zca (zrc (zxa zoh (pv 0) zkb (zfb _))
   (zfa (zsa (zra zba)))
   zeb)
  (zca (zla (i:=1) zjq.nd rfl (.inl rfl) (zog yre yqg yrg zdr (pv 0) (zaa zkb zba)))
  (zca (zrc (zek (zph (zab (zrbb rfl) rfl T.zfmb boot_all (zaa (zec (own:=["mark"]) (cap:=[]) rfl (zya.chk rfl rfl) .nil (zcc (pv 1)) (λ_ _ _ _=>(zda (i:=0) (show yhb (["mark"]:List Str) by decide +kernel) rfl (.inl rfl))) (λ_ _ _ _=>zyc) (λ_ _ _ _=>by exact (zja (zfz T) hr rfl T.zzg.m T.zzg.F.kp (zbgb T) .nil zqa (zaa (pv 0) zba)))) zba))))
   (zfa zqf)
   zeb)
  (zca (zrc (zxa (zvq hr.units) (pv 1) (zab (zsn rfl) rfl T.zwg yhj (zaa (zna (zpbb rfl) rfl T.zrob boot_set (zaa (pv 1) zba)) zba)) (zfb _))
   (zfa zqf)
   zeb)
  (zfa (zsa (zna zoa rfl T.zzb ymc (zaa (pv 1) zba)))))))),?_⟩
 refine⟨_,rfl,rfl,_,rfl,?_⟩
 by_cases hne:ms=[]
 ·subst hne;exact iteT ⟨sz0,λa ha=>q a _ (zgj ha _) zta⟩
 refine ite2 (λc=>?_) (λ_=>?_)
 ·exfalso;have c':=of_decide_eq_true c;injection c' with c'
  exact zteb hm hne c'
 have ml:=zcl hm;have es:yvf (zeh ms) "," = ms:=zkw hm hne;refine⟨_,rfl,rfl,_,_,rfl,rfl,(by decide +kernel),(yob (ylh ml.2 2) (by decide)),λl hl=>?_⟩;rw[es];have S1:=zgj hl (.lst (ms.map V.str));have e1:upd H l (.lst (ms.map V.str)) l=some (.lst (ms.map V.str)):=zta;generalize upd H l (.lst (ms.map V.str))=H1 at *;refine⟨_,rfl,l,rfl,⟨_,SqL.of e1⟩,?_⟩;refine zyb (xs:=ms.map V.str) (λi ys H'=>Same H1 H'∧i≤ms.length∧ys=((ms.take i).map isName).map V.bl) (λi ys H' z=>SqL.of (z.1 _ _ e1)) ⟨Same.refl _,ywa _,rfl⟩ ?_ ?_ ?_
 ·rintro i ys H' ⟨_,_,rfl⟩;rw[yca,yca,yza];have:=hm.le;exact small (by omega)
 ·rintro i x ys H' hx ⟨S3,hi,rfl⟩;obtain⟨m,hmm,rfl⟩:∃m,ms[i]?=some m∧V.str m=x:=by
   rw[yia] at hx;cases z:ms[i]? with
   | none=>rw[z] at hx;cases hx
   | some m=>rw[z] at hx;cases hx;exact⟨m,rfl,rfl⟩
  have hmem:=ycb hmm;refine⟨rfl,_,rfl,m,rfl,(yob (hm.ok m hmem).2.1 (by decide)),λH4 S4=>⟨S3.trans S4,?_,?_⟩⟩
  ·exact (yha.mp hmm).1
  ·rw[ydb,hmm,ygb,ygb];rfl
 ·rintro ys H2 ⟨S2,_,rfl⟩ b hb;rw[yca,yyd];have S3:=zgj hb (.lst ((ms.map isName).map V.bl));refine⟨b,_,rfl,SqL.of zta,_,rfl,?_⟩;have al:(ms.map isName).all id=true:=by
   rw[yxg];intro x hx;obtain⟨m,hmm,rfl⟩:=yfc.mp hx;exact ziw (hm.ok m hmm)
  rw[al];refine iteF ?_;have e3:=S3 _ _ (S2 _ _ e1);generalize upd H2 b (.lst ((ms.map isName).map V.bl))=H3 at *;have ml2:=hm.le;refine⟨_,rfl,_,rfl,l,ms,rfl,SqL.of e3,(by omega),λp hp=>?_⟩;have S4:∀o,Same H3 (upd H3 p o):=λo=>zgj hp o;refine⟨p,_,rfl,zta,(by rw[zwlb hm.nd];omega),λp2 ys hp2 py so=>?_⟩;have ey:=hm.same py so;subst ey;have S5:=zgj hp2 (.lst (ys.map V.str));refine⟨.list (ys.map .str),.list (ys.map .str),.lst (SqL.of (S5 _ _ (S4 _ _ _ e3))) (zwz _),.lst (SqL.of zta) (zwz _),zct hm.ok,zct hm.ok,_,rfl,?_⟩;have ev:(!PyData.eqv (.list (ys.map .str)) (.list (ys.map .str)))=false:=by
   rw[ypd,zulb];rfl
  rw[ev];refine iteF ?_;refine⟨_,rfl,l,_,rfl,.inl ⟨SqL.of (S5 _ _ (S4 _ _ _ e3)),λt ht=>?_⟩⟩;exact q t _ (λc o e=>zgj ht _ _ _ (S5 _ _ (S4 _ _ _ (S3 _ _ (S2 _ _ (S1 _ _ e)))))) zta
theorem zve {H H':Hp}{p:Addr}(S:Same H H')(h:H p=none)(o:HO):Same H (upd H' p o):=λb u q=>by rw[zbb (zka q h)];exact S b u q
theorem none_of {H H':Hp}{p:Addr}(S:Same H H')(h:H' p=none):H p=none:=by
 cases e:H p with
 | none=>rfl
 | some o =>
  have z:=S _ _ e;rw[z] at h;cases h
@[elab_as_elim] theorem laid {H:Hp} {l:Addr} {o:HO} {motive:Hp->Prop} (hl:H l=none) (h:∀H1,Same H H1->H1 l=some o->motive H1):motive (upd H l o):=h _ (zgj hl o) zta
theorem SqF.same {K:yda}{H H':Hp}{a:Addr}{xs:List V}(h:SqF K H a xs)(k:Same H H'):SqF K H' a xs:=h.keep λ_ _ z=>k _ _ z
theorem zyfc {ns:List Int}{i:Int}(h0:0≤i)(h:i<(ns.length:Int)):∃z,atI (ns.map V.int) i=some (.int z)∧z∈ns:=by
 obtain⟨v,hv,hm⟩:=zetb (xs:=ns.map V.int) h0 (by rw[yca];exact h);obtain⟨z,hz,rfl⟩:=yfc.mp hm;exact⟨z,hv,hz⟩
theorem zdtb {ss:List Str}{r:Int}(h0:0≤r)(h1:r<(ss.length:Int)):∃u,atI (ss.map V.str) r=some (.str u)∧u∈ss:=by
 obtain⟨v,hv,hm⟩:=zetb (xs:=ss.map V.str) h0 (by rw[yca];exact h1);obtain⟨u,hu,rfl⟩:=yfc.mp hm;exact⟨u,hv,hu⟩
theorem zom (x:Int){m:Int}(h:0<m):0≤x % m∧x % m<m:=⟨Int.emod_nonneg x (by omega),Int.emod_lt_of_pos x h⟩
inductive All2 {α β:Type}(R:α->β->Prop):List α->List β->Prop where
 | nil:All2 R [] []
 | cons {a:α} {b:β} {as:List α} {bs:List β}:R a b->All2 R as bs->All2 R (a::as) (b::bs)
theorem All2.imp {α β:Type}{R S:α->β->Prop}(f:∀{a b},R a b->S a b){as:List α}{bs:List β}(z:All2 R as bs):All2 S as bs:=by
 induction z with
 | nil=>exact .nil
 | cons h _ ih=>exact .cons (f h) ih
theorem All2.snoc {α β:Type}{R:α->β->Prop}{a:α}{b:β}(h:R a b){as:List α}{bs:List β}(z:All2 R as bs):All2 R (as++[a]) (bs++[b]):=by
 induction z with
 | nil=>exact .cons h .nil
 | cons g _ ih=>exact .cons g ih
theorem All2.len {α β:Type}{R:α->β->Prop}{as:List α}{bs:List β}(z:All2 R as bs):as.length=bs.length:=by
 induction z with
 | nil=>rfl
 | cons _ _ ih=>rw[ykc,ykc,ih]
theorem All2.get {α β:Type}{R:α->β->Prop}:∀{as:List α} {bs:List β} {i:Nat} {a:α},All2 R as bs->as[i]?=some a->∃b,bs[i]?=some b∧R a b
 | _,_,_,_,.nil,e=>by simp at e
 | _,_,0,_,.cons h t,e=>by
  rw[yif] at e;cases e;exact⟨_,rfl,h⟩
 | _,_,i+1,_,.cons h t,e=>by
  rw[yjc] at e;obtain⟨u,h1,h2⟩:=t.get e;exact⟨u,by rw[yjc];exact h1,h2⟩
theorem All2.mem {α β:Type}{R:α->β->Prop}{as:List α}{bs:List β}(h:All2 R as bs){a:α}(ha:a∈as):∃b∈bs,R a b:=by
 induction h with
 | nil=>cases ha
 | cons r t ih =>
  rcases yja.mp ha with rfl|z
  ·exact⟨_,yma,r⟩
  ·obtain⟨b,hb,rb⟩:=ih z;exact⟨b,yla _ hb,rb⟩
theorem All2.perm {α β:Type}{R:α->β->Prop}{as cs:List α}(p:cs.Perm as):∀{bs:List β},All2 R as bs->∃ds,All2 R cs ds∧ds.Perm bs:=by
 induction p with
 | nil=>intro bs h;exact⟨bs,h,.refl _⟩
 | cons x p ih =>
  intro bs h;cases h with
  | cons r t =>
   obtain⟨ds,h1,h2⟩:=ih t;exact⟨_::ds,.cons r h1,h2.cons _⟩
 | swap x y l =>
  intro bs h;cases h with
  | cons r t =>
   cases t with
   | cons r' t'=>exact⟨_,.cons r' (.cons r t'),.swap _ _ _⟩
 | trans p1 p2 ih1 ih2 =>
  intro bs h;obtain⟨ds,h1,h2⟩:=ih2 h;obtain⟨es,h3,h4⟩:=ih1 h1;exact⟨es,h3,h4.trans h2⟩
theorem All2.mem2 {α β:Type}{R:α->β->Prop}{as:List α}{bs:List β}(z:All2 R as bs){b:β}(hb:b∈bs):∃a∈as,R a b:=by
 induction z with
 | nil=>cases hb
 | cons h _ ih =>
  rcases yja.mp hb with z|z
  ·rw[z];exact⟨_,yma,h⟩
  ·obtain⟨a,ha,r⟩:=ih z;exact⟨a,yla _ ha,r⟩
def isF (o:HO):Prop:=Ex3 λC dx (fs:List (Str×V))=>o = .ins C dx fs∧(fs=[]∨Ex2 λv r=>fs=(("all_cards":Str),v)::r)
theorem zmec {xs:List V}:¬ isF (.tup xs):=by
 rintro⟨_,_,_,e,_⟩;cases e
theorem zfhc:¬ (("name":Str) = "all_cards"):=by decide +kernel
theorem zmbc {B dx m t:Addr}{nm:Str}{c f:Nat}:¬ isF (.ins B dx (cfs nm c f m t)):=by
 rintro⟨_,_,_,e,h⟩;injection e with _ _ e
 rw[← e] at h;unfold cfs at h
 rcases h with h|⟨_,_,h⟩
 ·cases h
 ·injection h with h _
  injection h with h _
  exact zfhc h
def Kp (H H':Hp):Prop:=∀a o,(∀xs,o≠HO.lst xs)->¬ isF o->H a=some o->H' a=some o
theorem Kp.same {H H':Hp}(s:Same H H'):Kp H H':=λ_ _ _ _ h=>s _ _ h
theorem Kp.trans {H H1 H2:Hp}(a:Kp H H1)(b:Kp H1 H2):Kp H H2:=λc o n m h=>b c o n m (a c o n m h)
theorem Kp.put {H:Hp}{l:Addr}{us vs:List V}(e:H l=some (.lst us)):Kp H (upd H l (.lst vs)):=λa o n _ h=>by
 rw[zbb λz=>?_]
 ·exact h
 ·rw[z,e] at h;injection h with h
  exact n _ h.symm
theorem Kp.t {H H':Hp}(s:Kp H H'){a:Addr}{xs:List V}(h:H a=some (.tup xs)):H' a=some (.tup xs):=s _ _ (λ_ z=>by cases z) zmec h
theorem Kp.i {H H':Hp}(s:Kp H H'){a B dx m t:Addr}{nm:Str}{c f:Nat}(h:H a=some (.ins B dx (cfs nm c f m t))):H' a=some (.ins B dx (cfs nm c f m t)):=s _ _ (λ_ z=>by cases z) zmbc h
theorem Kp.butF {x:Addr}{H H':Hp}{o:HO}(b:But x H H')(hx:H x=some o)(f:isF o):Kp H H':=λa u _ m h=>b a u (λz=>by
 rw[z,hx] at h;injection h with h
 rw[← h] at m;exact m f) h
theorem zrn (xs:List V)(n:Nat):cutV xs none (some (n:Int))=xs.take n:=by
 unfold cutV;rw[HT.zwkb,HT.ziab,List.drop_zero,yms]
 by_cases h:n≤xs.length
 ·rw[Nat.min_eq_left h]
 ·rw[Nat.min_eq_right (by omega),yra (yga _),yra (by omega)]
theorem zxw (xs:List V)(n:Nat):cutV xs (some (n:Int)) none=xs.drop n:=by
 unfold cutV;rw[HT.zwkb,HT.ziab]
 by_cases h:n≤xs.length
 ·rw[Nat.min_eq_left h,yra (by rw[yej];exact yga _)]
 ·rw[Nat.min_eq_right (by omega),Nat.sub_self,ysq,List.drop_eq_nil_of_le (by omega)]
structure Tab where
 pts:List Int
 scs:List Int
 gone:List Bool
 decks:List (List Int)
 hands:List (List Int)
 lying:List Int
 heap:List Int
 marks:List (List Str)
 wnds:List Int
def T1 (H:Hp)(v:V)(xs:List V):Prop:=∃b,v = .ref b∧H b=some (.tup xs)
def T2 (H:Hp)(v:V)(xss:List (List V)):Prop:=Ex2 λb us=>v = .ref b∧H b=some (.tup us)∧All2 (T1 H) us xss
theorem T1.kp {H H':Hp}(s:Kp H H'){v:V}{xs:List V}(h:T1 H v xs):T1 H' v xs:=by
 obtain⟨b,e,h⟩:=h;exact⟨b,e,s.t h⟩
theorem T2.kp {H H':Hp}(s:Kp H H'){v:V}{xss:List (List V)}(h:T2 H v xss):T2 H' v xss:=by
 obtain⟨b,us,e,h,al⟩:=h;exact⟨b,us,e,s.t h,al.imp λz=>z.kp s⟩
def iM (xs:List Int):List V:=xs.map V.int
def sM (xs:List Str):List V:=xs.map V.str
structure TabP (H:Hp)(t:Tab)(v0 v1 v2 v3 v4 v5 v6 v7 v8:V):Prop where
 p0:T1 H v0 (iM t.pts)
 p1:T1 H v1 (iM t.scs)
 p2:T1 H v2 (t.gone.map V.bl)
 p3:T2 H v3 (t.decks.map iM)
 p4:T2 H v4 (t.hands.map iM)
 p5:T1 H v5 (iM t.lying)
 p6:T1 H v6 (iM t.heap)
 p7:T2 H v7 (t.marks.map sM)
 p8:T1 H v8 (iM t.wnds)
theorem TabP.kp {H H':Hp}(s:Kp H H'){t:Tab}{v0 v1 v2 v3 v4 v5 v6 v7 v8:V}(h:TabP H t v0 v1 v2 v3 v4 v5 v6 v7 v8):TabP H' t v0 v1 v2 v3 v4 v5 v6 v7 v8:=⟨h.p0.kp s,h.p1.kp s,h.p2.kp s,h.p3.kp s,h.p4.kp s,h.p5.kp s,h.p6.kp s,h.p7.kp s,h.p8.kp s⟩
def TabT (H:Hp)(v:V)(t:Tab):Prop:=Ex10 λa v0 v1 v2 v3 v4 v5 v6 v7 v8=>v = .ref a∧H a=some (.tup [v0,v1,v2,v3,v4,v5,v6,v7,v8])∧TabP H t v0 v1 v2 v3 v4 v5 v6 v7 v8
theorem TabT.kp {H H':Hp}(s:Kp H H'){v:V}{t:Tab}(h:TabT H v t):TabT H' v t:=by
 obtain⟨a,v0,v1,v2,v3,v4,v5,v6,v7,v8,e,h,p⟩:=h;exact⟨a,v0,v1,v2,v3,v4,v5,v6,v7,v8,e,s.t h,p.kp s⟩
theorem All2.set {α β:Type}{R:α->β->Prop}{as:List α}{bs:List β}(z:All2 R as bs){a:α}{b:β}(h:R a b):∀n:Nat,All2 R (as.set n a) (bs.set n b):=by
 induction z with
 | nil=>intro n;rw[List.set_nil,List.set_nil];exact .nil
 | cons g t ih =>
  intro n;cases n with
  | zero=>exact .cons h t
  | succ n=>exact .cons g (ih n)
theorem zbcc {α:Type}{xs:List α}{i:Nat}(h:i<xs.length)(x:α):xs.take i++[x]++xs.drop (i+1)=xs.set i x:=by
 rw[List.set_eq_take_append_cons_drop,if_pos h,ywb];rfl
theorem ztq {G:Prop}{Kx pre:Addr->Hp->Prop}(g:(∀b Hs,pre b Hs->Kx b Hs)->G)(k:∀b Hs,pre b Hs->Kx b Hs):G:=g k
def zry:Sp:=λvs H Q _=>Ex4 λa xs (i:Nat) x=>vs=[.ref a,.int (i:Int),x]∧H a=some (.tup xs)∧i<xs.length∧xs.length≤1000∧∀b H',Same H H'->H' b=some (.tup (xs.set i x))->Q (.ref b) H'
def zcpb:Sp:=λvs H Q _=>Ex7 λa q ps xs (k i:Nat) x=>vs=[.ref a,.int (k:Int),.int (i:Int),x]∧H a=some (.tup ps)∧ps.length≤1000∧ps[k]?=some (.ref q)∧H q=some (.tup xs)∧i<xs.length∧xs.length≤1000∧∀b q' H',Same H H'->H' q'=some (.tup (xs.set i x))->H' b=some (.tup (ps.set k (.ref q')))->Q (.ref b) H'
theorem zkf (T:Tx K mg):FnOk P w K mg base CX0 2 T.zub.f T.zub.d zts zry:=by
 refine T.zub.ok zahb ?_;rintro f c A o s H vs Q E hr ⟨a,xs,i,x,rfl,ea,hi,hl,q⟩ X;refine⟨_,  (zfa (zsa (zgb zzh (zgb zko (znc zwk (pv 0) zod (znd (pv 1))) (zra (zaa (pv 2) zba))) (znc zwk (pv 0) (znd (zgb zue (pv 1) zia)) zod)))),?_⟩;refine⟨_,rfl,_,rfl,_,rfl,a,_,rfl,SqT.of ea,?_,λb1 hb1=>?_⟩
 ·rintro⟨_,z⟩;rw[HT.ziab] at z;omega
 rw[zrn];refine laid hb1 λH1 S1 e1=>?_;refine⟨_,rfl,sz1,λb2 hb2=>?_⟩;refine laid hb2 λH2 S2 e2=>?_;refine' ztq (pre:=λb H3=>Same H H3∧H3 b=some (.tup (xs.take i++[x]))) (λkk=>?gg) ?kn
 case gg =>
  refine⟨b1,b2,_,_,rfl,rfl,SqT.of (S2 _ _ e1),SqT.of e2,by simp,(by rw[yza];exact small (by show min i xs.length+1≤1000;omega)),λz=>?_,λz b3 hb3=>?_⟩
  ·have e2':H2 b2=some (.tup (xs.take i++[x])):=by rw[z];exact e2
   obtain⟨c,hc⟩:∃c,c=b2:=⟨_,rfl⟩;obtain⟨Hz,hz⟩:∃h,h=H2:=⟨_,rfl⟩;rw[← hc,← hz];exact kk c Hz (by rw[hc,hz];exact⟨S1.trans S2,e2'⟩)
  ·refine laid hb3 λH3 S3 e3=>?_;exact kk b3 H3 ⟨S1.trans (S2.trans S3),e3⟩
 case kn =>
 rintro b3 H3 ⟨S3,e3⟩;refine⟨_,rfl,_,rfl,_,_,rfl,rfl,_,rfl,a,_,rfl,SqT.of (S3 _ _ ea),?_,λb4 hb4=>?_⟩
 ·rintro⟨z,_⟩;rw[show (i:Int)+1=((i+1:Nat):Int) by omega,HT.ziab] at z;omega
 dsimp only;rw[show (i:Int)+1=((i+1:Nat):Int) by omega,zxw];refine laid hb4 λH4 S4 e4=>?_;have cp:=zbcc hi x;refine⟨b3,b4,_,_,rfl,rfl,SqT.of (S4 _ _ e3),SqT.of e4,by simp,(by rw[ypa,yza,yej];exact small (by show min i xs.length+1+(xs.length-(i+1))≤1000;omega)),λz=>?_,λz b5 hb5=>?_⟩
 ·refine q b3 H4 (S3.trans S4) ?_;rw[z,ypc] at cp;rw[← cp];exact S4 _ _ e3
 ·refine laid hb5 λH5 S5 e5=>?_;rw[cp] at e5;exact q b5 H5 (S3.trans (S4.trans S5)) e5
theorem zgd (T:Tx K mg):FnOk P w K mg base CX0 3 T.zdb.f T.zdb.d zxn zcpb:=by
 refine T.zdb.ok zyz ?_;rintro f c A o s H vs Q E hr ⟨a,qa,ps,xs,k,i,x,rfl,ea,pl,ek,eq,hi,hl,q⟩ X;refine⟨_,  (zfa (zsa (zja (zkf T) hr rfl T.zub.m T.zub.F.kp (zvg T) .nil zqa (zaa (pv 0) (zaa (pv 1) (zaa (zja (zkf T) hr rfl T.zub.m T.zub.F.kp (zvg T) .nil zqa (zaa (zva zcb (pv 0) (pv 1) (λ_ _=>rfl)) (zaa (pv 2) (zaa (pv 3) zba)))) zba)))))),?_⟩;refine⟨_,rfl,_,rfl,_,rfl,_,rfl,a,_,_,_,rfl,rfl,SqT.of ea,zpa ek,_,rfl,_,rfl,qa,xs,i,x,rfl,eq,hi,hl,λq' H1 S1 e1=>?_⟩;refine⟨a,ps,k,.ref q',rfl,S1 _ _ ea,(yha.mp ek).1,pl,λb H2 S2 e2=>?_⟩;exact q b q' H2 (S1.trans S2) (S2 _ _ e1) e2
def ztub:Sp:=λvs H Q _=>Ex2 λm x=>vs=[.ref m,x]∧((Ex2 λ(ms:List Str) (n:Str)=>x = .str n∧H m=some (.tup (sM ms))∧ms.length≤60∧∀p (zs:List Str) H',Same H H'->H' p=some (.tup (sM zs))->zs.Perm (SSet.dd (ms++[n]))->yxm zs=true->Q (.ref p) H') ∨
 Ex2 λ(ns:List Int) (n:Int)=>x = .int n∧H m=some (.tup (iM ns))∧ns.length≤60∧∀p (zs:List Int) H',Same H H'->H' p=some (.tup (iM zs))->zs.Perm (ISet.dd (ns++[n]))->zs.Pairwise (· ≤ ·)->Q (.ref p) H')
def zgdc:Sp:=λvs H Q _=>Ex3 λm xs x=>vs=[.ref m,x]∧H m=some (.tup xs)∧(∀v∈xs,scal v x=true)∧xs.length≤60∧∀p H',Same H H'->H' p=some (.tup (xs.filter λv=>!decide (v=x)))->Q (.ref p) H'
theorem zqfc (xs:List Str):(SSet.dd xs).length≤xs.length:=by
 have z:=SSet.zoib xs.length xs;rw[yra (yga _)] at z;exact z
theorem zrfc (xs:List Int):(ISet.dd xs).length≤xs.length:=by
 have z:=ISet.zoib xs.length xs;rw[yra (yga _)] at z;exact z
theorem zfeb (T:Tx K mg):FnOk P w K mg base CX0 2 T.zdj.f T.zdj.d zdcb ztub:=by
 refine T.zdj.ok zupb ?_;rintro f c A o s H vs Q E hr ⟨m,x,rfl,h⟩ X;refine⟨_,  (zfa (zsa (zna zoa rfl T.zzb ymc (zaa (zab (zzw rfl) rfl T.zwg yhj (zaa (zna (zofb rfl) rfl T.zrob boot_set (zaa (zgb zko (pv 0) (zra (zaa (pv 1) zba))) zba)) zba)) zba)))),?_⟩;refine⟨_,rfl,_,rfl,sz1,λt1 ht1=>?_⟩;refine laid ht1 λH1 S1 e1=>?_
 rcases h with⟨ms,n,rfl,em,le,q⟩|⟨ns,n,rfl,em,le,q⟩
 ·refine⟨m,t1,_,_,rfl,rfl,SqT.of (S1 _ _ em),SqT.of e1,by simp,(by unfold sM;rw[yca];exact small (by show ms.length+1≤1000;omega)),λz=>?g1,λz t2 ht2=>?g2⟩
  case' g1 =>
   have z':ms=[]:=yei.mp z;have e2:H1 t1=some (.tup ((ms++[n]).map V.str)):=(by rw[e1,z'];rfl);have S2:=S1
  case' g2 =>
   refine laid ht2 λH2 S2' e2'=>?_;have e2:H2 t2=some (.tup ((ms++[n]).map V.str)):=(by rw[e2',ygb];rfl);have S2:=S1.trans S2'
  all_goals
   have gl:=zqfc (ms++[n]);rw[ypa,ycf] at gl;refine .inl ⟨_,ms++[n],rfl,SqT.of e2,(by rw[ypa];show ms.length+1≤1000;omega),λl hl=>?_⟩;refine laid hl λH3 S3 e3=>?_;refine .inl ⟨l,_,rfl,e3,(by omega),λp ys hp py sy=>?_⟩;refine laid hp λH4 S4 e4=>?_;refine⟨p,_,rfl,.inl ⟨SqL.of e4,λtm htm=>?_⟩⟩;refine laid htm λH5 S5 e5=>?_;exact q tm ys H5 (S2.trans (S3.trans (S4.trans S5))) e5 py sy
 ·refine⟨m,t1,_,_,rfl,rfl,SqT.of (S1 _ _ em),SqT.of e1,by simp,(by unfold iM;rw[yca];exact small (by show ns.length+1≤1000;omega)),λz=>?g3,λz t2 ht2=>?g4⟩
  case' g3 =>
   have z':ns=[]:=yei.mp z;have e2:H1 t1=some (.tup ((ns++[n]).map V.int)):=(by rw[e1,z'];rfl);have S2:=S1
  case' g4 =>
   refine laid ht2 λH2 S2' e2'=>?_;have e2:H2 t2=some (.tup ((ns++[n]).map V.int)):=(by rw[e2',ygb];rfl);have S2:=S1.trans S2'
  all_goals
   have gl:=zrfc (ns++[n]);rw[ypa,ycf] at gl;refine .inr ⟨_,ns++[n],rfl,SqT.of e2,(by rw[ypa];show ns.length+1≤1000;omega),λl hl=>?_⟩;refine laid hl λH3 S3 e3=>?_;refine .inr ⟨l,_,rfl,e3,(by omega),λp ys hp py sy=>?_⟩;refine laid hp λH4 S4 e4=>?_;refine⟨p,_,rfl,.inl ⟨SqL.of e4,λtm htm=>?_⟩⟩;refine laid htm λH5 S5 e5=>?_;exact q tm ys H5 (S2.trans (S3.trans (S4.trans S5))) e5 py sy
theorem zes (T:Tx K mg):FnOk P w K mg base CX0 2 T.zwe.f T.zwe.d zox zgdc:=by
 refine T.zwe.ok ztmb ?_;rintro f c A o s H vs Q E hr ⟨m,xs,x,rfl,em,sc,le,q⟩ X;refine⟨_,  (zfa (zsa (zna zoa rfl T.zzb ymc (zaa (zec (own:=["value"]) (cap:=["one"]) rfl (zya.chk rfl rfl) (.cons (j:=1) rfl (.inl rfl) (.inl rfl) .nil) (zdw (pv 0)) (λ_ _ _ _=>(zda (i:=0) (show yhb (["value","one"]:List Str) by decide +kernel) rfl (.inl rfl))) (λ_ _ _ _=>zah (zxa zphb (pv 0) (pv 1) (zfb _))) (λ_ _ _ _=>by exact (pv 0))) zba)))),?_⟩;refine⟨_,rfl,m,rfl,⟨_,SqT.of em⟩,?_⟩;refine zyl (xs:=xs) (λj ys H'=>H'=H∧ys=(xs.take j).filter λv=>!decide (v=x)) (λj ys H' z=>by rw[z.1];exact SqT.of em) ⟨rfl,rfl⟩ ?_ ?_ ?_
 ·rintro j ys H' ⟨_,rfl⟩;have h1:=yqc (λv=>!decide (v=x)) (xs.take j);rw[yza] at h1;exact small (by omega)
 ·rintro j v ys H' hv ⟨rfl,rfl⟩;refine⟨rfl,_,rfl,_,rfl,sc v (ycb hv),_,rfl,?_⟩;rw[ydb,hv,yub,yjf];refine ite2 (λc=>?_) (λc=>?_)
  ·exact⟨_,rfl,rfl,by rw[ywd (p:=λv=>!decide (v=x)) c];rfl⟩
  ·exact⟨rfl,by rw[yxd (p:=λv=>!decide (v=x)) c];simp⟩
 ·rintro ys H' ⟨rfl,rfl⟩ l1 hl1;rw[yra (yga _)];refine laid hl1 λHa Sa ea=>?_;refine⟨l1,_,rfl,.inl ⟨SqL.of ea,λtm htm=>?_⟩⟩;refine laid htm λHb Sb eb=>?_;exact q tm Hb (Sa.trans Sb) eb
def CmT (B:Addr)(H:Hp)(v:V)(ms:List Str):Prop:=Ex7 λa dx m tt (nm:Str) (c f:Nat)=>v = .ref a∧H a=some (.ins B dx (cfs nm c f m tt))∧H m=some (.tup (sM ms))
theorem CmT.kp {B:Addr}{H H':Hp}(s:Kp H H'){v:V}{ms:List Str}(h:CmT B H v ms):CmT B H' v ms:=by
 obtain⟨a,dx,m,tt,nm,c,f,e,h1,h2⟩:=h;exact⟨a,dx,m,tt,nm,c,f,e,s.i h1,s.t h2⟩
theorem zmfb (n:Str)(c f:Nat)(m t:Addr):(cfs n c f m t).lookup ("marks":Str)=some (.ref m):=(zmb (by decide +kernel)).trans ((zmb (by decide +kernel)).trans ((zmb (by decide +kernel)).trans zag))
structure TOk (np nc:Nat)(t:Tab):Prop where
 pts:t.pts.length=np
 scs:t.scs.length=np
 gone:t.gone.length=np
 decks:t.decks.length=np
 hands:t.hands.length=np
 marks:t.marks.length=nc
 wnds:t.wnds.length=nc
 ly:t.lying.length≤16
 hp:t.heap.length≤16
 ms:∀m∈t.marks,m.length≤40
 ds:∀d∈t.decks,d.length≤16
 hs:∀d∈t.hands,d.length≤16
 np4:np≤4
 nc16:nc≤16
def hpM (t:Tab)(kd:Str)(th:Int):Bool:=if th<0 then !(t.gone.getD (-1-th).toNat false) else (decide (kd = "come")||decide (th∈t.lying))
inductive PlR (t:Tab)(p:Nat)(z:Int):Str->Tab->Prop where
 | lose {x:Int}:t.pts[p]?=some x->PlR t p z "lose" { t with pts:=t.pts.set p (x-z) }
 | score {x:Int}:t.scs[p]?=some x->PlR t p z "score" { t with scs:=t.scs.set p (x+z) }
 | draw {d h hand:List Int}:t.decks[p]?=some d->t.hands[p]?=some h->hand.Perm (h++d.take z.toNat)->hand.Pairwise (· ≤ ·)->PlR t p z "draw" { t with hands:=t.hands.set p hand,decks:=t.decks.set p (d.drop z.toNat) }
inductive CrR (cms:List (List Str))(t:Tab)(n:Nat):V->Str->Tab->Prop where
 | come {av:V} {ms:List Str}:cms[n]?=some ms->CrR cms t n av "come" { t with marks:=t.marks.set n ms,wnds:=t.wnds.set n 0,lying:=t.lying++[(n:Int)] }
 | leave {av:V} {ms:List Str} {heap:List Int}:cms[n]?=some ms->heap.Perm (ISet.dd (t.heap++[(n:Int)]))->heap.Pairwise (· ≤ ·)->CrR cms t n av "leave" { t with marks:=t.marks.set n ms,wnds:=t.wnds.set n 0,lying:=t.lying.filter λx=>!decide (x=(n:Int)),heap:=heap }
 | hurt {x z:Int}:t.wnds[n]?=some x->CrR cms t n (.int z) "hurt" { t with wnds:=t.wnds.set n (x+z) }
 | gain {ms zs:List Str} {u:Str}:t.marks[n]?=some ms->zs.Perm (SSet.dd (ms++[u]))->yxm zs=true->CrR cms t n (.str u) "gain" { t with marks:=t.marks.set n zs }
 | lack {ms:List Str} {u:Str}:t.marks[n]?=some ms->CrR cms t n (.str u) "lack" { t with marks:=t.marks.set n (ms.filter λx=>!decide (x=u)) }
def zmpb:Sp:=λvs H Q _=>Ex8 λtv ha (t:Tab) (np nc:Nat) (kd:Str) (th:Int) av=>vs=[tv,.ref ha]∧TabT H tv t∧TOk np nc t∧H ha=some (.tup [.str kd,.int th,av]) ∧ -(np:Int)≤th∧∀H',Same H H'->Q (.bl (hpM t kd th)) H'
theorem inI (n:Int)(ns:List Int):inV (.int n) (iM ns)=decide (n∈ns):=by
 unfold inV iM
 induction ns with
 | nil=>rfl
 | cons x r ih =>
  rw[ytb,yjr,ih]
  by_cases e:x=n
  ·subst e;rw[decide_eq_true yma];have:eqV (V.int x) (V.int x)=true:=by simp[eqV]
   rw[this,yfq]
  ·have h1:eqV (V.int x) (V.int n)=false:=by simp[eqV,e]
   rw[h1,yjo];refine decide_eq_decide.mpr ⟨λz=>yla _ z,λz=>?_⟩
   rcases yja.mp z with y|y
   ·exact absurd y.symm e
   ·exact y
theorem zkfb (ns:List Int):(iM ns).all zfbb=true:=by
 rw[yxg];intro v hv;obtain⟨x,_,rfl⟩:=yfc.mp hv;rfl
theorem zfs (T:Tx K mg):FnOk P w K mg base CX0 2 T.zaf.f T.zaf.d zwx zmpb:=by
 refine T.zaf.ok zjo ?_;rintro f c A o s H vs Q E hr ⟨tv,ha,t,np,nc,kd,th,av,rfl,TT,TO,eh,hth,q⟩ X;obtain⟨a,v0,v1,v2,v3,v4,v5,v6,v7,v8,rfl,ea,TP⟩:=TT;refine⟨_,  (zca (zsc (pv 1) (zmc (n:=3) rfl (zea (zda (i:=2) zjo.nd rfl (.inl rfl)) (zea (zda (i:=3) zjo.nd rfl (.inl rfl)) (zea (zda (i:=4) zjo.nd rfl (.inl rfl)) zjb)))))
  (zca (zrc (zxa zpqb (pv 3) zia (zfb _))
   (zfa (zsa (zdyb (zva zcb (zva zcb (pv 0) (zua (v:=.int 2) rfl T.zqm ⟨_,rfl⟩) (λ_ _=>rfl)) (zgb znm (zkab ziq zia) (pv 3)) (λ_ _=>rfl)))))
   zeb)
  (zfa (zsa (zebc (zyh zoh (pv 2) zkb (zfb _)) (zzdb (zyh zqqb (pv 3) (zva zcb (pv 0) (zua (v:=.int 5) rfl T.zfh ⟨_,rfl⟩) (λ_ _=>rfl)) rfl))))))),?_⟩
 refine⟨_,rfl,ha,_,rfl,SqT.of eh,rfl,_,_,rfl,_,_,rfl,_,_,rfl,rfl,?_⟩;refine⟨_,rfl,_,_,rfl,rfl,_,rfl,ite2 (λc=>?_) (λc=>?_)⟩
 ·have c':th<0:=of_decide_eq_true c;obtain⟨b,rfl,eb⟩:=TP.p2;obtain⟨p,hp⟩:∃p:Nat,-1-th=(p:Int):=⟨(-1-th).toNat,by omega⟩;have pl:p<t.gone.length:=by rw[TO.gone];omega
  have eg:(t.gone.map V.bl)[p]?=some (.bl t.gone[p]):=by rw[yia,ybb pl];rfl
  refine⟨_,rfl,a,_,_,_,rfl,rfl,SqT.of ea,zpa (j:=2) rfl,_,rfl,_,rfl,_,_,rfl,rfl,?_⟩;dsimp only;rw[hp];refine⟨b,_,_,_,rfl,rfl,SqT.of eb,zpa eg,_,rfl,?_⟩;have z:=q H (Same.refl _);have e:hpM t kd th = !t.gone[p]:=by
   unfold hpM;rw[if_pos c',hp,yeb,yua,ybb pl];rfl
  rw[e] at z;exact z
 ·have c':¬ th<0:=λz=>c (decide_eq_true z);obtain⟨b,rfl,eb⟩:=TP.p5;have e:hpM t kd th=(decide (kd = "come")||decide (th∈t.lying)):=if_neg c';have ek:decide (V.str kd=V.str "come")=decide (kd = "come"):=decide_eq_decide.mpr ⟨λz=>by injection z,λz=>by rw[z]⟩;refine⟨_,rfl,rfl,_,rfl,?_⟩;have z:=q H (Same.refl _);rw[e] at z;refine ite2 (λc1=>?_) (λc1=>?_)
  ·rw[← ek,c1,yfq] at z;exact z
  ·rw[← ek,ywi.mpr c1,yjo] at z;refine⟨_,rfl,_,rfl,a,_,_,_,rfl,rfl,SqT.of ea,zpa (j:=5) rfl,b,_,rfl,.inr (SqT.of eb),rfl,zkfb _,?_⟩;show Q (.bl (inV (.int th) (iM t.lying))) H
   rw[inI];exact z
def zugc:Sp:=λvs H Q _=>Ex8 λtv ha (t:Tab) (np nc p:Nat) (kd:Str) (z:Int)=>vs=[tv,.ref ha]∧TabT H tv t∧TOk np nc t∧H ha=some (.tup [.str kd,.int (-1-(p:Int)),.int z])∧p<np∧kd∈zxh∧0≤z∧∀v' (t':Tab) H',Same H H'->TabT H' v' t'->PlR t p z kd t'->Q v' H'
theorem getx {α:Type}{xs:List α}{i:Nat}(h:i<xs.length):∃x,xs[i]?=some x:=⟨_,ybb h⟩
theorem All2.get2 {α β:Type}{R:α->β->Prop}{as:List α}{bs:List β}(z:All2 R as bs){i:Nat}{b:β}(h:bs[i]?=some b):∃a,as[i]?=some a∧R a b:=by
 induction z generalizing i with
 | nil=>simp at h
 | cons r _ ih =>
  cases i with
  | zero =>
   rw[yif] at h;cases h;exact⟨_,rfl,r⟩
  | succ i =>
   rw[yjc] at h;obtain⟨a,e,q⟩:=ih h;exact⟨a,by rw[yjc];exact e,q⟩
theorem zbj {α:Type}{f:α->V}{xs:List α}{i:Nat}{x:α}(h:xs[i]?=some x):atI (xs.map f) (i:Int)=some (f x):=zpa (by rw[yia,h];rfl)
theorem znsb {xs:List V}{z:Int}(h:0≤z):cutV xs none (some z)=xs.take z.toNat:=by
 have e:z=((z.toNat:Nat):Int):=by omega
 rw[e,zrn,yeb]
theorem zlsb {xs:List V}{z:Int}(h:0≤z):cutV xs (some z) none=xs.drop z.toNat:=by
 have e:z=((z.toNat:Nat):Int):=by omega
 rw[e,zxw,yeb]
theorem zvw {xs:List V}{lo hi:Option Int}(h:HT.sIx xs.length 0 lo=0∧HT.sIx xs.length xs.length hi=xs.length):cutV xs lo hi=xs:=by
 unfold cutV;rw[h.1,h.2,List.drop_zero,yms,yra (yga _)]
theorem zkp (T:Tx K mg):FnOk P w K mg base CX0 4 T.zlc.f T.zlc.d zmh zugc:=by
 refine T.zlc.ok zic ?_;rintro f c A o s H vs Q E hr ⟨tv,ha,t,np,nc,p,kd,z,rfl,TT,TO,eh,hp,hk,z0,q⟩ X;obtain⟨a,v0,v1,v2,v3,v4,v5,v6,v7,v8,rfl,ea,TP⟩:=TT;have np4:=TO.np4;refine⟨_,  (zca (zsc (pv 1) (zmc (n:=3) rfl (zea (zda (i:=2) zic.nd rfl (.inl rfl)) (zea (zda (i:=3) zic.nd rfl (.inl rfl)) (zea (zda (i:=4) zic.nd rfl (.inl rfl)) zjb)))))
  (zca (zla (i:=5) zic.nd rfl (.inl rfl) (zgb znm (zkab ziq zia) (pv 3)))
  (zca (zrc (zxa zoh (pv 2) zkb (zfb _))
   (zfa (zsa (zja (zgd T) hr rfl T.zdb.m T.zdb.F.kp (zzd T) .nil zqa (zaa (pv 0) (zaa (zua (v:=.int 0) rfl T.zlo ⟨_,rfl⟩) (zaa (pv 5) (zaa (zgb znm (zva zcb (zva zcb (pv 0) (zua (v:=.int 0) rfl T.zlo ⟨_,rfl⟩) (λ_ _=>rfl)) (pv 5) (λ_ _=>rfl)) (pv 4)) zba)))))))
   zeb)
  (zca (zrc (zxa zoh (pv 2) zkb (zfb _))
   (zfa (zsa (zja (zgd T) hr rfl T.zdb.m T.zdb.F.kp (zzd T) .nil zqa (zaa (pv 0) (zaa (zua (v:=.int 1) rfl T.zkr ⟨_,rfl⟩) (zaa (pv 5) (zaa (zgb zue (zva zcb (zva zcb (pv 0) (zua (v:=.int 1) rfl T.zkr ⟨_,rfl⟩) (λ_ _=>rfl)) (pv 5) (λ_ _=>rfl)) (pv 4)) zba)))))))
   zeb)
  (zca (zla (i:=6) zic.nd rfl (.inl rfl) (zva zcb (zva zcb (pv 0) (zua (v:=.int 3) rfl T.zsw ⟨_,rfl⟩) (λ_ _=>rfl)) (pv 5) (λ_ _=>rfl)))
  (zca (zla (i:=7) zic.nd rfl (.inl rfl) (zna zoa rfl T.zzb ymc (zaa (zab zui rfl T.zwg yhj (zaa (zgb zqhb (zva zcb (zva zcb (pv 0) (zua (v:=.int 4) rfl T.zon ⟨_,rfl⟩) (λ_ _=>rfl)) (pv 5) (λ_ _=>rfl)) (znc znv (pv 6) zod (znd (pv 4)))) zba)) zba)))
  (zfa (zsa (zja (zgd T) hr rfl T.zdb.m T.zdb.F.kp (zzd T) .nil zqa (zaa (zja (zgd T) hr rfl T.zdb.m T.zdb.F.kp (zzd T) .nil zqa (zaa (pv 0) (zaa (zua (v:=.int 4) rfl T.zon ⟨_,rfl⟩) (zaa (pv 5) (zaa (pv 7) zba))))) (zaa (zua (v:=.int 3) rfl T.zsw ⟨_,rfl⟩) (zaa (pv 5) (zaa (znc znv (pv 6) (znd (pv 4)) zod) zba))))))))))))),?_⟩
 refine⟨_,rfl,ha,_,rfl,SqT.of eh,rfl,_,_,rfl,_,_,rfl,_,_,rfl,rfl,?_⟩;refine⟨_,rfl,_,rfl,_,_,rfl,rfl,?_⟩;have ep:(-1:Int)-(-1-(p:Int))=(p:Int):=by omega
 dsimp only;rw[show (-(1:Int)-(-1-(p:Int)))=(p:Int) from ep];simp only[zxh,yja,yie,or_false] at hk
 rcases hk with rfl|rfl|rfl
 ·obtain⟨b,rfl,eb⟩:=TP.p0;obtain⟨x,hx⟩:=getx (xs:=t.pts) (by rw[TO.pts];exact hp);refine⟨_,rfl,rfl,_,rfl,iteT ?_⟩;refine⟨_,rfl,_,rfl,_,rfl,a,_,_,_,rfl,rfl,SqT.of ea,zpa (j:=0) rfl,_,rfl,b,_,_,_,rfl,rfl,SqT.of eb,zbj hx,_,rfl,_,_,rfl,rfl,?_⟩;refine⟨a,b,_,_,0,p,_,rfl,ea,(by show 9≤1000;decide),rfl,eb,by unfold iM;rw[yca,TO.pts];exact hp,by unfold iM;rw[yca,TO.pts];omega,λc b' H1 S1 e1 e2=>?_⟩;have TP1:=TP.kp (Kp.same S1);refine q (.ref c) _ H1 S1 ⟨c,_,v1,v2,v3,v4,v5,v6,v7,v8,rfl,e2,?_⟩ (.lose hx);exact { TP1 with p0:=⟨b',rfl,by rw[e1];unfold iM;rw[yge]⟩ }
 ·obtain⟨b,rfl,eb⟩:=TP.p1;obtain⟨x,hx⟩:=getx (xs:=t.scs) (by rw[TO.scs];exact hp);refine⟨_,rfl,rfl,_,rfl,iteF ⟨_,rfl,rfl,_,rfl,iteT ?_⟩⟩;refine⟨_,rfl,_,rfl,_,rfl,a,_,_,_,rfl,rfl,SqT.of ea,zpa (j:=1) rfl,_,rfl,b,_,_,_,rfl,rfl,SqT.of eb,zbj hx,_,rfl,_,_,rfl,rfl,?_⟩;refine⟨a,b,_,_,1,p,_,rfl,ea,(by show 9≤1000;decide),rfl,eb,by unfold iM;rw[yca,TO.scs];exact hp,by unfold iM;rw[yca,TO.scs];omega,λc b' H1 S1 e1 e2=>?_⟩;have TP1:=TP.kp (Kp.same S1);refine q (.ref c) _ H1 S1 ⟨c,v0,_,v2,v3,v4,v5,v6,v7,v8,rfl,e2,?_⟩ (.score hx);exact { TP1 with p1:=⟨b',rfl,by rw[e1];unfold iM;rw[yge]⟩ }
 ·obtain⟨b3,u3,rfl,e3,al3⟩:=TP.p3;obtain⟨b4,u4,rfl,e4,al4⟩:=TP.p4;obtain⟨d,hd⟩:=getx (xs:=t.decks) (by rw[TO.decks];exact hp);obtain⟨h,hh⟩:=getx (xs:=t.hands) (by rw[TO.hands];exact hp);obtain⟨_,edv,db,rfl,edb⟩:=al3.get2 (b:=iM d) (by rw[yia,hd];rfl);obtain⟨_,ehv,hb,rfl,ehb⟩:=al4.get2 (b:=iM h) (by rw[yia,hh];rfl);have dl:=TO.ds d (ycb hd);have hl:=TO.hs h (ycb hh);refine⟨_,rfl,rfl,_,rfl,iteF ⟨_,rfl,rfl,_,rfl,iteF ?_⟩⟩;refine⟨_,rfl,a,_,_,_,rfl,rfl,SqT.of ea,zpa (j:=3) rfl,_,rfl,b3,_,_,_,rfl,rfl,SqT.of e3,zpa edv,?_⟩;refine⟨_,rfl,a,_,_,_,rfl,rfl,SqT.of ea,zpa (j:=4) rfl,_,rfl,b4,_,_,_,rfl,rfl,SqT.of e4,zpa ehv,_,rfl,_,rfl,_,rfl,?_⟩;refine' ztq (pre:=λc H1=>Same H H1∧H1 c=some (.tup (iM (d.take z.toNat)))) (λkk=>?ga) ?ka
  case ga =>
   refine⟨db,_,rfl,SqT.of edb,λwh=>?w1,λ_ c hc=>?f1⟩
   case f1 =>
    rw[znsb z0];refine laid hc λH1 S1 e1=>?_;exact kk c H1 ⟨S1,by rw[e1];unfold iM;rw[ymo]⟩
   case w1 =>
    have ew:=zvw wh;rw[znsb z0] at ew;have ez:H db=some (.tup (iM (d.take z.toNat))):=by
     rw[edb];unfold iM at ew ⊢;rw[ymo,ew]
    exact kk db H ⟨Same.refl _,ez⟩
  case ka =>
  rintro c1 H1 ⟨S1,e1⟩;refine' ztq (pre:=λc H2=>Same H H2∧H2 c=some (.tup (iM (h++d.take z.toNat)))) (λkk=>?gb) ?kb
  case gb =>
   have ehb1:=S1 _ _ ehb;refine⟨hb,c1,_,_,rfl,rfl,SqT.of ehb1,SqT.of e1,?s2,λx0=>?a2,λx0 y0=>?b2,λx0 y0 c hc=>?f2⟩
   case f2 =>
    refine laid hc λH2 S2 e2=>?_;exact kk c H2 ⟨S1.trans S2,by rw[e2];unfold iM;rw[ygb]⟩
   case s2 =>
    unfold iM;rw[yca,yca,yza];exact small (by omega)
   case a2 =>
    have h0:h=[]:=yei.mp x0;have ez:H1 c1=some (.tup (iM (h++d.take z.toNat))):=(by rw[h0];exact e1);exact kk c1 H1 ⟨S1,ez⟩
   case b2 =>
    have d0:d.take z.toNat=[]:=yei.mp y0;have ez:H1 hb=some (.tup (iM (h++d.take z.toNat))):=(by rw[d0,ypc];exact ehb1);exact kk hb H1 ⟨S1,ez⟩
  case kb =>
  rintro c2 H2 ⟨S2,e2⟩;refine⟨c2,_,rfl,.inr (SqT.of e2),(by rw[ypa,yza];omega),λl ys hl' py sy=>?_⟩;refine laid hl' λH3 S3 e3'=>?_;refine⟨l,_,rfl,.inl ⟨SqL.of e3',λtm htm=>?_⟩⟩;refine laid htm λH4 S4 e4'=>?_;have S04:=S2.trans (S3.trans S4);have l4:=al4.len;have l3:=al3.len;rw[yca,TO.hands] at l4;rw[yca,TO.decks] at l3;refine⟨_,rfl,_,rfl,_,rfl,a,b4,_,u4,4,p,.ref tm,rfl,S04 _ _ ea,(by show 9≤1000;decide),rfl,S04 _ _ e4,by omega,by omega,λta b4' H5 S5 e5 e5'=>?_⟩;have S05:=S04.trans S5;refine⟨_,rfl,_,rfl,_,rfl,_,rfl,?_⟩;refine' ztq (pre:=λc H6=>Same H5 H6∧H6 c=some (.tup (iM (d.drop z.toNat)))) (λkk=>?gc) ?kc
  case gc =>
   have edb5:=S05 _ _ edb;refine⟨db,_,rfl,SqT.of edb5,λwh=>?w3,λ_ c hc=>?f3⟩
   case f3 =>
    rw[zlsb z0];refine laid hc λH6 S6 e6=>?_;exact kk c H6 ⟨S6,by rw[e6];unfold iM;rw[yno]⟩
   case w3 =>
    have ew:=zvw wh;rw[zlsb z0] at ew;have ez:H5 db=some (.tup (iM (d.drop z.toNat))):=by
     rw[edb5];unfold iM at ew ⊢;rw[yno,ew]
    exact kk db H5 ⟨Same.refl _,ez⟩
  case kc =>
  rintro c3 H6 ⟨S6,e6⟩;have S06:=S05.trans S6;refine⟨ta,b3,_,u3,3,p,.ref c3,rfl,S6 _ _ e5',(by show 9≤1000;decide),rfl,S06 _ _ e3,by omega,by omega,λtb b3' H7 S7 e7 e7'=>?_⟩;have S07:=S06.trans S7;have TP7:=TP.kp (Kp.same S07);have k7:=Kp.same S07;refine q (.ref tb) _ H7 S07 ⟨tb,v0,v1,v2,.ref b3',.ref b4',v5,v6,v7,v8,rfl,e7',?_⟩ (.draw hd hh py sy);refine { TP7 with p3:=⟨b3',_,rfl,e7,?_⟩,p4:=⟨b4',_,rfl,(S6.trans S7) _ _ e5,?_⟩ }
  ·rw[yge];exact (al3.imp λz=>z.kp k7).set ⟨c3,rfl,S7 _ _ e6⟩ p
  ·rw[yge];exact (al4.imp λz=>z.kp k7).set ⟨tm,rfl,(S5.trans (S6.trans S7)) _ _ e4'⟩ p
def CdsT (B:Addr)(H:Hp)(ca:Addr)(cms:List (List Str)):Prop:=∃cvs,H ca=some (.lst cvs)∧All2 (CmT B H) cvs cms
theorem CdsT.same {B:Addr}{H H':Hp}(s:Same H H'){ca:Addr}{cms:List (List Str)}(h:CdsT B H ca cms):CdsT B H' ca cms:=by
 obtain⟨cvs,e,al⟩:=h;exact⟨cvs,s _ _ e,al.imp λz=>z.kp (Kp.same s)⟩
def zrgc (B:Addr):Sp:=λvs H Q _=>Ex8 λca tv (t:Tab) (np nc n:Nat) (cms:List (List Str)) (ms:List Str)=>vs=[.ref ca,tv,.int (n:Int)]∧CdsT B H ca cms∧TabT H tv t∧TOk np nc t∧n<nc∧cms[n]?=some ms∧∀v' H',Same H H'->TabT H' v' { t with marks:=t.marks.set n ms,wnds:=t.wnds.set n 0 }->Q v' H'
def zsgc (B:Addr):Sp:=λvs H Q _=>Ex7 λca tv (t:Tab) (np nc n:Nat) (cms:List (List Str))=>vs=[.ref ca,tv,.int (n:Int)]∧CdsT B H ca cms∧TabT H tv t∧TOk np nc t∧n<nc∧cms.length=nc∧∀v' (t':Tab) H',Same H H'->TabT H' v' t'->CrR cms t n .non "leave" t'->Q v' H'
def zvgc (B:Addr):Sp:=λvs H Q _=>Ex10 λca tv ha (t:Tab) (np nc n:Nat) (cms:List (List Str)) (kd:Str) av=>vs=[.ref ca,tv,.ref ha]∧CdsT B H ca cms∧TabT H tv t∧TOk np nc t∧H ha=some (.tup [.str kd,.int (n:Int),av])∧n<nc∧cms.length=nc∧(kd = "come" ∨ kd = "leave" ∨ (kd = "hurt" ∧ ∃z:Int,av = .int z)∨((kd = "gain" ∨ kd = "lack")∧∃u:Str,av = .str u))∧∀v' (t':Tab) H',Same H H'->TabT H' v' t'->CrR cms t n av kd t'->Q v' H'
theorem zez (T:Tx K mg):FnOk P w K mg base CX0 4 T.zyg.f T.zyg.d zsx (zrgc T.znb):=by
 refine T.zyg.ok zvmb ?_;rintro f c A o s H vs Q E hr ⟨ca,tv,t,np,nc,n,cms,ms,rfl,CD,TT,TO,hn,em,q⟩ X;obtain⟨a,v0,v1,v2,v3,v4,v5,v6,v7,v8,rfl,ea,TP⟩:=TT;have nc16:=TO.nc16;obtain⟨cvs,ec,al⟩:=CD;obtain⟨_,ecv,cd,dx,m,tt,nm,c,f,rfl,ecd,emm⟩:=al.get2 em;obtain⟨b7,u7,rfl,e7,al7⟩:=TP.p7;have l7:=al7.len;rw[yca,TO.marks] at l7;refine⟨_,  (zfa (zsa (zja (zgd T) hr rfl T.zdb.m T.zdb.F.kp (zzd T) .nil zqa (zaa (zja (zgd T) hr rfl T.zdb.m T.zdb.F.kp (zzd T) .nil zqa (zaa (pv 1) (zaa (zua (v:=.int 7) rfl T.zvj ⟨_,rfl⟩) (zaa (pv 2) (zaa (zee (zva zad (pv 0) (pv 2) (λ_ _=>rfl)) rfl) zba))))) (zaa (zua (v:=.int 8) rfl T.zwl ⟨_,rfl⟩) (zaa (pv 2) (zaa zia zba))))))),?_⟩;refine⟨_,rfl,_,rfl,_,rfl,?_⟩;refine⟨_,rfl,ca,_,_,_,rfl,rfl,SqL.of ec,zpa ecv,cd,_,dx,_,_,rfl,ecd,T.zih,T.zug,zmfb _ _ _ _ _,?_⟩;refine⟨a,b7,_,u7,7,n,.ref m,rfl,ea,(by show 9≤1000;decide),rfl,e7,by omega,by omega,λa1 b7' H1 S1 e1 e1'=>?_⟩;obtain⟨b8,rfl,e8⟩:=TP.p8;refine⟨_,rfl,a1,b8,_,_,8,n,.int 0,rfl,e1',(by show 9≤1000;decide),rfl,S1 _ _ e8,by unfold iM;rw[yca,TO.wnds];exact hn,by unfold iM;rw[yca,TO.wnds];omega,λa2 b8' H2 S2 e2 e2'=>?_⟩;have S12:=S1.trans S2;have k2:=Kp.same S12;have TP2:=TP.kp k2;refine q (.ref a2) H2 S12 ⟨a2,v0,v1,v2,v3,v4,v5,v6,.ref b7',.ref b8',rfl,e2',?_⟩;refine { TP2 with p7:=⟨b7',_,rfl,S2 _ _ e1,?_⟩,p8:=⟨b8',rfl,by rw[e2];unfold iM;rw[yge]⟩ };rw[yge];exact (al7.imp λz=>z.kp k2).set ⟨m,rfl,S12 _ _ emm⟩ n
theorem ztl (T:Tx K mg):FnOk P w K mg base CX0 5 T.zjd.f T.zjd.d zus (zsgc T.znb):=by
 refine T.zjd.ok zcp ?_;rintro f c A o s H vs Q E hr ⟨ca,tv,t,np,nc,n,cms,rfl,CD,TT,TO,hn,hc,q⟩ X;obtain⟨ms,em⟩:=getx (xs:=cms) (by rw[hc];exact hn);refine⟨_,  (zca (zla (i:=1) zcp.nd rfl (.inl rfl) (zja (zez T) hr rfl T.zyg.m T.zyg.F.kp (zwfb T) .nil zqa (zaa (pv 0) (zaa (pv 1) (zaa (pv 2) zba)))))
  (zca (zla (i:=1) zcp.nd rfl (.inl rfl) (zja (zkf T).up hr rfl T.zub.m T.zub.F.kp (zvg T) .nil zqa (zaa (pv 1) (zaa (zua (v:=.int 5) rfl T.zfh ⟨_,rfl⟩) (zaa (zja (zes T).up hr rfl T.zwe.m T.zwe.F.kp (zbx T) .nil zqa (zaa (zva zcb (pv 1) (zua (v:=.int 5) rfl T.zfh ⟨_,rfl⟩) (λ_ _=>rfl)) (zaa (pv 2) zba))) zba)))))
  (zfa (zsa (zja (zkf T).up hr rfl T.zub.m T.zub.F.kp (zvg T) .nil zqa (zaa (pv 1) (zaa (zua (v:=.int 6) rfl T.zffb ⟨_,rfl⟩) (zaa (zja (zfeb T).up hr rfl T.zdj.m T.zdj.F.kp (zbmb T) .nil zqa (zaa (zva zcb (pv 1) (zua (v:=.int 6) rfl T.zffb ⟨_,rfl⟩) (λ_ _=>rfl)) (zaa (pv 2) zba))) zba)))))))),?_⟩
 refine⟨_,rfl,_,rfl,_,rfl,ca,tv,t,np,nc,n,cms,ms,rfl,CD,TT,TO,hn,em,λt1 H1 S1 TT1=>?_⟩;obtain⟨a,v0,v1,v2,v3,v4,v5,v6,v7,v8,rfl,ea,TP⟩:=TT1;obtain⟨b5,rfl,e5⟩:=TP.p5;obtain⟨b6,rfl,e6⟩:=TP.p6;have ly:=TO.ly;have hpl:=TO.hp;refine⟨_,rfl,_,rfl,a,_,_,_,rfl,rfl,SqT.of ea,zpa (j:=5) rfl,_,rfl,b5,_,.int (n:Int),rfl,e5,?_,by unfold iM;rw[yca];show t.lying.length≤60;omega,λp5 H2 S2 e2=>?_⟩
 ·intro v hv;obtain⟨y,_,rfl⟩:=yfc.mp hv;rfl
 refine⟨a,_,5,.ref p5,rfl,S2 _ _ ea,(by show 5<9;decide),(by show 9≤1000;decide),λa2 H3 S3 e3=>?_⟩;have S23:=S2.trans S3;refine⟨_,rfl,_,rfl,a2,_,_,_,rfl,rfl,SqT.of e3,zpa (j:=6) rfl,_,rfl,b6,.int (n:Int),rfl,.inr ⟨t.heap,(n:Int),rfl,S23 _ _ e6,by omega,λp6 zs H4 S4 e4 pz sz=>?_⟩⟩;refine⟨a2,_,6,.ref p6,rfl,S4 _ _ e3,(by show 6<9;decide),(by show 9≤1000;decide),λa3 H5 S5 e5'=>?_⟩;have S45:=S4.trans S5;have S25:=S23.trans S45;have S15:=S1.trans S25;have TP5:=TP.kp (Kp.same S25);refine q (.ref a3) _ H5 S15 ⟨a3,v0,v1,v2,v3,v4,.ref p5,.ref p6,v7,v8,rfl,e5',?_⟩ (.leave em pz sz);refine { TP5 with p5:=⟨p5,rfl,?_⟩,p6:=⟨p6,rfl,S5 _ _ e4⟩ };rw[(S3.trans S45) _ _ e2];unfold iM;rw[ygq]
 congr 3
 refine ynk λx _=>?_;show (!decide (V.int x=V.int n)) = !decide (x=(n:Int))
 rw[decide_eq_decide.mpr ⟨λz=>by injection z,λz=>by rw[z]⟩]
theorem zgs (T:Tx K mg):FnOk P w K mg base CX0 6 T.zcd.f T.zcd.d zvi (zvgc T.znb):=by
 refine T.zcd.ok zde ?_;rintro f c A o s H vs Q E hr ⟨ca,tv,ha,t,np,nc,n,cms,kd,av,rfl,CD,TT,TO,eh,hn,hc,hk,q⟩ X;obtain⟨ms,em⟩:=getx (xs:=cms) (by rw[hc];exact hn);have nc16:=TO.nc16;refine⟨_,  (zca (zsc (pv 2) (zmc (n:=3) rfl (zea (zda (i:=3) zde.nd rfl (.inl rfl)) (zea (zda (i:=4) zde.nd rfl (.inl rfl)) (zea (zda (i:=5) zde.nd rfl (.inl rfl)) zjb)))))
  (zca (zrc (zxa zoh (pv 3) zkb (zfb _))
   (zfa (zsa (zja (zkf T).up hr rfl T.zub.m T.zub.F.kp (zvg T) .nil zqa (zaa (zja (zez T).up hr rfl T.zyg.m T.zyg.F.kp (zwfb T) .nil zqa (zaa (pv 0) (zaa (pv 1) (zaa (pv 4) zba)))) (zaa (zua (v:=.int 5) rfl T.zfh ⟨_,rfl⟩) (zaa (zgb zko (zva zcb (pv 1) (zua (v:=.int 5) rfl T.zfh ⟨_,rfl⟩) (λ_ _=>rfl)) (zra (zaa (pv 4) zba))) zba))))))
   zeb)
  (zca (zrc (zxa zoh (pv 3) zkb (zfb _))
   (zfa (zsa (zja (ztl T) hr rfl T.zjd.m T.zjd.F.kp (zno T) .nil zqa (zaa (pv 0) (zaa (pv 1) (zaa (pv 4) zba))))))
   zeb)
  (zca (zrc (zxa zoh (pv 3) zkb (zfb _))
   (zfa (zsa (zja (zgd T).up hr rfl T.zdb.m T.zdb.F.kp (zzd T) .nil zqa (zaa (pv 1) (zaa (zua (v:=.int 8) rfl T.zwl ⟨_,rfl⟩) (zaa (pv 4) (zaa (zgb zue (zva zcb (zva zcb (pv 1) (zua (v:=.int 8) rfl T.zwl ⟨_,rfl⟩) (λ_ _=>rfl)) (pv 4) (λ_ _=>rfl)) (pv 5)) zba)))))))
   zeb)
  (zca (zla (i:=6) zde.nd rfl (.inl rfl) (zva zcb (zva zcb (pv 1) (zua (v:=.int 7) rfl T.zvj ⟨_,rfl⟩) (λ_ _=>rfl)) (pv 4) (λ_ _=>rfl)))
  (zfa (zsa (zja (zgd T).up hr rfl T.zdb.m T.zdb.F.kp (zzd T) .nil zqa (zaa (pv 1) (zaa (zua (v:=.int 7) rfl T.zvj ⟨_,rfl⟩) (zaa (pv 4) (zaa (zuq (zxa zoh (pv 3) zkb (zfb _)) (zja (zfeb T).up hr rfl T.zdj.m T.zdj.F.kp (zbmb T) .nil zqa (zaa (pv 6) (zaa (pv 5) zba))) (zja (zes T).up hr rfl T.zwe.m T.zwe.F.kp (zbx T) .nil zqa (zaa (pv 6) (zaa (pv 5) zba)))) zba)))))))))))),?_⟩
 refine⟨_,rfl,ha,_,rfl,SqT.of eh,rfl,_,_,rfl,_,_,rfl,_,_,rfl,rfl,?_⟩
 rcases hk with rfl|rfl|⟨rfl,z,rfl⟩|⟨hk,u,rfl⟩
 ·refine⟨_,rfl,rfl,_,rfl,iteT ?_⟩;refine⟨_,rfl,_,rfl,_,rfl,ca,tv,t,np,nc,n,cms,ms,rfl,CD,TT,TO,hn,em,λt1 H1 S1 TT1=>?_⟩;obtain⟨a,v0,v1,v2,v3,v4,v5,v6,v7,v8,rfl,ea,TP⟩:=TT;obtain⟨a1,w0,w1,w2,w3,w4,w5,w6,w7,w8,rfl,ea1,TP1⟩:=TT1;obtain⟨b5,rfl,e5⟩:=TP.p5;have fin:∀c5 H2,Same H1 H2->H2 c5=some (.tup (iM (t.lying++[(n:Int)])))->zry [.ref a1,.int ((5:Nat):Int),.ref c5] H2 Q E0:=by
   intro c5 H2 S2 e2;refine⟨a1,_,5,.ref c5,rfl,S2 _ _ ea1,(by show 5<9;decide),(by show 9≤1000;decide),λa3 H3 S3 e3=>?_⟩;have S13:=S2.trans S3;have TP3:=TP1.kp (Kp.same S13);refine q (.ref a3) _ H3 (S1.trans S13) ⟨a3,w0,w1,w2,w3,w4,.ref c5,w6,w7,w8,rfl,e3,?_⟩ (.come em);exact { TP3 with p5:=⟨c5,rfl,S3 _ _ e2⟩ }
  refine⟨_,rfl,a,_,_,_,rfl,rfl,SqT.of (S1 _ _ ea),zpa (j:=5) rfl,_,rfl,sz1,λt1 ht1=>?_⟩;refine laid ht1 λH2 S2 e2=>?_;have ly:=TO.ly;have e5':=(S1.trans S2) _ _ e5;refine⟨b5,t1,_,_,rfl,rfl,SqT.of e5',SqT.of e2,by simp,(by unfold iM;rw[yca];exact small (by show t.lying.length+1≤1000;omega)),λz=>?g1,λz t2 ht2=>?g2⟩
  case g2 =>
   refine laid ht2 λH3 S3 e3=>?_;exact fin t2 H3 (S2.trans S3) (by rw[e3];unfold iM;rw[ygb];rfl)
  case g1 =>
   have z':t.lying=[]:=yei.mp z;exact fin t1 H2 S2 (by rw[e2,z'];rfl)
 ·refine⟨_,rfl,rfl,_,rfl,iteF ⟨_,rfl,rfl,_,rfl,iteT ?_⟩⟩;refine⟨_,rfl,_,rfl,_,rfl,ca,tv,t,np,nc,n,cms,rfl,CD,TT,TO,hn,hc,λt1 t' H1 S1 TT1 cr=>?_⟩;refine q t1 t' H1 S1 TT1 ?_;cases cr with
  | leave e1 p1 s1=>exact .leave e1 p1 s1
 ·refine⟨_,rfl,rfl,_,rfl,iteF ⟨_,rfl,rfl,_,rfl,iteF ⟨_,rfl,rfl,_,rfl,iteT ?_⟩⟩⟩;obtain⟨a,v0,v1,v2,v3,v4,v5,v6,v7,v8,rfl,ea,TP⟩:=TT;obtain⟨b,rfl,eb⟩:=TP.p8;obtain⟨x,hx⟩:=getx (xs:=t.wnds) (by rw[TO.wnds];exact hn);refine⟨_,rfl,_,rfl,_,rfl,a,_,_,_,rfl,rfl,SqT.of ea,zpa (j:=8) rfl,_,rfl,b,_,_,_,rfl,rfl,SqT.of eb,zbj hx,_,rfl,_,_,rfl,rfl,?_⟩;refine⟨a,b,_,_,8,n,_,rfl,ea,(by show 9≤1000;decide),rfl,eb,by unfold iM;rw[yca,TO.wnds];exact hn,by unfold iM;rw[yca,TO.wnds];omega,λc b' H1 S1 e1 e2=>?_⟩;have TP1:=TP.kp (Kp.same S1);refine q (.ref c) _ H1 S1 ⟨c,v0,v1,v2,v3,v4,v5,v6,v7,_,rfl,e2,?_⟩ (.hurt hx);exact { TP1 with p8:=⟨b',rfl,by rw[e1];unfold iM;rw[yge]⟩ }
 ·have k1:kd ≠ "come":=by rintro rfl;rcases hk with z|z<;>exact absurd z (by decide +kernel)
  have k2:kd ≠ "leave":=by rintro rfl;rcases hk with z|z<;>exact absurd z (by decide +kernel)
  have k3:kd ≠ "hurt":=by rintro rfl;rcases hk with z|z<;>exact absurd z (by decide +kernel)
  have kf:∀{u:Str},kd≠u->decide (V.str kd=V.str u)=false:=λh=>decide_eq_false (by intro z;injection z with z;exact h z);refine⟨_,rfl,rfl,_,rfl,ite2 (λz=>absurd z (by rw[kf k1];decide)) (λ_=>?_)⟩;refine⟨_,rfl,rfl,_,rfl,ite2 (λz=>absurd z (by rw[kf k2];decide)) (λ_=>?_)⟩;refine⟨_,rfl,rfl,_,rfl,ite2 (λz=>absurd z (by rw[kf k3];decide)) (λ_=>?_)⟩;obtain⟨a,v0,v1,v2,v3,v4,v5,v6,v7,v8,rfl,ea,TP⟩:=TT;obtain⟨b,u7,rfl,eb,al⟩:=TP.p7;have l7:=al.len;rw[yca,TO.marks] at l7;obtain⟨mm,hm⟩:=getx (xs:=t.marks) (by rw[TO.marks];exact hn);obtain⟨_,emv,mb,rfl,emb⟩:=al.get2 (b:=sM mm) (by rw[yia,hm];rfl);have ml:=TO.ms mm (ycb hm);refine⟨_,rfl,a,_,_,_,rfl,rfl,SqT.of ea,zpa (j:=7) rfl,_,rfl,b,_,_,_,rfl,rfl,SqT.of eb,zpa emv,?_⟩;have fin:∀c7 (zs:List Str) H2,Same H H2->H2 c7=some (.tup (sM zs))->CrR cms t n (.str u) kd { t with marks:=t.marks.set n zs }->zcpb [.ref a,.int ((7:Nat):Int),.int (n:Int),.ref c7] H2 Q E0:=by
   intro c7 zs H2 S2 e2 cr;refine⟨a,b,_,u7,7,n,.ref c7,rfl,S2 _ _ ea,(by show 9≤1000;decide),rfl,S2 _ _ eb,by omega,by omega,λc b' H3 S3 e3 e3'=>?_⟩;have k3:=Kp.same (S2.trans S3);have TP3:=TP.kp k3;refine q (.ref c) _ H3 (S2.trans S3) ⟨c,v0,v1,v2,v3,v4,v5,v6,_,v8,rfl,e3',?_⟩ cr;refine { TP3 with p7:=⟨b',_,rfl,e3,?_⟩ };rw[yge];exact (al.imp λz=>z.kp k3).set ⟨c7,rfl,S3 _ _ e2⟩ n
  refine⟨_,rfl,_,rfl,_,rfl,rfl,_,rfl,?_⟩
  rcases hk with rfl|rfl
  ·refine iteT ?_;refine⟨_,rfl,_,rfl,mb,.str u,rfl,.inl ⟨mm,u,rfl,emb,by omega,λp zs H2 S2 e2 pz sz=>?_⟩⟩;exact fin p zs H2 S2 e2 (.gain hm pz sz)
  ·refine iteF ?_;refine⟨_,rfl,_,rfl,mb,_,.str u,rfl,emb,?_,by unfold sM;rw[yca];omega,λp H2 S2 e2=>?_⟩
   ·intro v hv;obtain⟨y,_,rfl⟩:=yfc.mp hv;rfl
   ·refine fin p _ H2 S2 ?_ (.lack hm);rw[e2];unfold sM;rw[ygq]
    congr 3
    refine ynk λx _=>?_;show (!decide (V.str x=V.str u)) = !decide (x=u)
    rw[decide_eq_decide.mpr ⟨λz=>by injection z,λz=>by rw[z]⟩]
def CrK (kd:Str)(av:V):Prop:=kd = "come" ∨ kd = "leave" ∨ (kd = "hurt" ∧ ∃z:Int,av = .int z)∨((kd = "gain" ∨ kd = "lack")∧∃u:Str,av = .str u)
inductive HpR (cms:List (List Str))(t:Tab):Str->Int->V->Tab->Prop where
 | no {kd:Str} {th:Int} {av:V}:hpM t kd th=false->HpR cms t kd th av t
 | pl {kd:Str} {p:Nat} {z:Int} {t':Tab}:t.gone[p]?=some false->PlR t p z kd t'->HpR cms t kd (-1-(p:Int)) (.int z) t'
 | cr {kd:Str} {n:Nat} {av:V} {t':Tab}:(kd = "come" ∨ (n:Int)∈t.lying)->CrR cms t n av kd t'->HpR cms t kd (n:Int) av t'
def zvub (B:Addr):Sp:=λvs H Q _=>Ex10 λca tv ha (t:Tab) (np nc:Nat) (th:Int) (cms:List (List Str)) (kd:Str) av=>vs=[.ref ca,tv,.ref ha]∧CdsT B H ca cms∧TabT H tv t∧TOk np nc t∧H ha=some (.tup [.str kd,.int th,av]) ∧ -(np:Int)≤th∧th<nc∧cms.length=nc∧(th<0->kd∈zxh∧∃z:Int,av = .int z∧0≤z)∧(0≤th->CrK kd av)∧∀v' (t':Tab) H',Same H H'->TabT H' v' t'->HpR cms t kd th av t'->Q v' H'
theorem zieb (T:Tx K mg):FnOk P w K mg base CX0 7 T.zej.f T.zej.d zecb (zvub T.znb):=by
 refine T.zej.ok zvpb ?_;rintro f c A o s H vs Q E hr ⟨ca,tv,ha,t,np,nc,th,cms,kd,av,rfl,CD,TT,TO,eh,h1,h2,hc,kp,kc,q⟩ X;refine⟨_,  (zca (zrc (zek (zph (zja (zfs T).up hr rfl T.zaf.m T.zaf.F.kp (zdx T) .nil zqa (zaa (pv 1) (zaa (pv 2) zba)))))
   (zfa (zsa (pv 1)))
   zeb)
  (zca (zrc (zxa zpqb (zva zcb (pv 2) zia (λ_ _=>rfl)) zia (zfb _))
   (zfa (zsa (zja (zkp T).up hr rfl T.zlc.m T.zlc.F.kp (zpr T) .nil zqa (zaa (pv 1) (zaa (pv 2) zba)))))
   zeb)
  (zfa (zsa (zja (zgs T) hr rfl T.zcd.m T.zcd.F.kp (zeu T) .nil zqa (zaa (pv 0) (zaa (pv 1) (zaa (pv 2) zba)))))))),?_⟩
 refine⟨_,rfl,_,rfl,tv,ha,t,np,nc,kd,th,av,rfl,TT,TO,eh,h1,λH1 S1=>?_⟩;have eh1:=S1 _ _ eh;have TT1:=TT.kp (Kp.same S1);refine⟨_,rfl,ite2 (λc=>?_) (λc=>?_)⟩
 ·have c':hpM t kd th=false:=by simpa using c
  exact⟨_,rfl,q tv t H1 S1 TT1 (.no c')⟩
 have c':hpM t kd th=true:=by simpa using c
 refine⟨_,rfl,ha,_,_,_,rfl,rfl,SqT.of eh1,zpa (j:=1) rfl,_,_,rfl,rfl,_,rfl,ite2 (λd=>?_) (λd=>?_)⟩
 ·have d':th<0:=of_decide_eq_true d;obtain⟨hk,z,rfl,z0⟩:=kp d';obtain⟨p,rfl⟩:∃p:Nat,th = -1-(p:Int):=⟨(-1-th).toNat,by omega⟩;have pn:p<np:=by omega
  obtain⟨g,hg⟩:=getx (xs:=t.gone) (by rw[TO.gone];exact pn);have g0:g=false:=by
   unfold hpM at c';rw[if_pos d',show (-1-(-1-(p:Int))).toNat=p by omega,yua,hg] at c'
   simpa using c'
  refine⟨_,rfl,_,rfl,tv,ha,t,np,nc,p,kd,z,rfl,TT1,TO,eh1,pn,hk,z0,λv' t' H' S' TT' pr=>?_⟩;exact q v' t' H' (S1.trans S') TT' (.pl (by rw[hg,g0]) pr)
 ·have d':¬ th<0:=λz=>d (decide_eq_true z);obtain⟨n,rfl⟩:∃n:Nat,th=(n:Int):=⟨th.toNat,by omega⟩;have nn:n<nc:=by omega
  have hm:kd = "come" ∨ (n:Int)∈t.lying:=by
   unfold hpM at c';rw[if_neg d'] at c'
   rcases yzq.mp c' with z|z
   ·exact .inl (of_decide_eq_true z)
   ·exact .inr (of_decide_eq_true z)
  refine⟨_,rfl,_,rfl,_,rfl,ca,tv,ha,t,np,nc,n,cms,kd,av,rfl,CD.same S1,TT1,TO,eh1,nn,hc,kc (by omega),λv' t' H' S' TT' cr=>?_⟩;exact q v' t' H' (S1.trans S') TT' (.cr hm cr)
structure Pc where
 force:Nat
 marks:List Str
def PcT (B:Addr)(H:Hp)(v:V)(c:Pc):Prop:=Ex6 λa dx m tt (nm:Str) (k:Nat)=>v = .ref a∧H a=some (.ins B dx (cfs nm k c.force m tt))∧H m=some (.tup (sM c.marks))∧H tt=some (.tup [])
theorem zakb {c:Crd}(h:c.ok)(h0:c.rules=[]):c.text.length≤2000:=by
 have b:=Crd.zcbb h;show (yrc SL (yrc " " c.head::c.rules.map zevb)).length≤2000
 have a:=zqu SL (yrc " " c.head::c.rules.map zevb);rw[h0] at a ⊢;have e:SL.length=3:=rfl;rw[yxh,ytb,ywj,ykc,e] at a;rw[yxh];simp at a;omega
def CoT (B:Addr)(H:Hp)(v:V)(n:Nat):Prop:=Ex6 λa dx m tt (nm:Str) (f:Nat)=>v = .ref a∧H a=some (.ins B dx (cfs nm n f m tt))
def zmub (B:Addr):Sp:=λvs H Q _=>∃c:Crd,vs=[.str c.text]∧c.ok∧c.rules=[]∧∀v H',Same H H'->PcT B H' v ⟨c.force,c.marks⟩->CoT B H' v c.cost->Q v H'
theorem zoeb (T:Tx K mg):FnOk P w K mg base CX0 8 T.zdg.f T.zdg.d ztp (λ_ _ _ _=>False):=by
 refine T.zdg.F.ok zadb (λvs H Q E h=>?_) (λcdv A outer s H vs Q E hr h=>?_)
 ·exact h.elim
 exact h.elim
theorem zdeb (T:Tx K mg):FnOk P w K mg base CX0 9 T.zeg.f T.zeg.d zup (zmub T.znb):=by
 refine T.zeg.ok zef ?_;rintro f c A o s H vs Q E hr ⟨c,rfl,ok,r0,q⟩ X;refine⟨_,  (zca (zrc (zek (zph (zab ztib rfl T.zak boot_isinstance (zaa (pv 0) (zaa (zfbc (v:=.ty "str") rfl T.zemb boot_str rfl) zba)))))
   (zfa zqf)
   zeb)
  (zca (zla (i:=1) zef.nd rfl (.inl rfl) (zog yre yqg yrg zdr (pv 0) (zaa zkb zba)))
  (zca (zrc (zxa zdnb (zab zwa rfl T.zuf ysb (zaa (pv 1) zba)) (zgb zue zia (zua (v:=.int 3) rfl T.zik ⟨_,rfl⟩)) (zfb _))
   (zfa zqf)
   zeb)
  (zca (zla (i:=2) zef.nd rfl (.inl rfl) (zlab T.zdd.M (zsvb T).up hr rfl T.zerb (zfu T) .nil zqa (zaa (zva zad (pv 1) zia (λ_ _=>rfl)) zba)))
  (zca (zla (i:=3) zef.nd rfl (.inl rfl) (zzf (pv 2) T.zyd T.zwc.M (zyq T).up hr (zqs T) .nil zqa))
  (zca (zla (i:=4) zef.nd rfl (.inl rfl) (zzf (pv 2) T.zyd T.zac.M (zaj T).up hr (zxj T) .nil zqa))
  (zca (zla (i:=5) zef.nd rfl (.inl rfl) (zzf (pv 2) T.zyd T.zac.M (zaj T).up hr (zxj T) .nil zqa))
  (zca (zla (i:=6) zef.nd rfl (.inl rfl) (zja (zpab T).up hr rfl T.zxe.m T.zxe.F.kp (zxfb T) .nil zqa (zaa (zzf (pv 2) T.zyd T.zud.M (zul T).up hr (zun T) .nil zqa) zba)))
  (zca (zjc (zzf (pv 2) T.zyd T.zae.M (zfw T).up hr (zky T) .nil zqa))
  (zfa (zsa (zlab T.zmd.M (zjbc T).up hr rfl T.zjyb (zgx T) .nil zqa (zaa (pv 3) (zaa (pv 4) (zaa (pv 5) (zaa (pv 6) (zaa (zna zoa rfl T.zzb ymc (zaa (zec (own:=["rule"]) (cap:=[]) rfl (zya.chk rfl rfl) .nil (zcc (znc zpv (pv 1) (znd zia) zod)) (λ_ _ _ _=>(zda (i:=0) (show yhb (["rule"]:List Str) by decide +kernel) rfl (.inl rfl))) (λ_ _ _ _=>zyc) (λ_ _ _ _=>by exact (zja (zoeb T) hr rfl T.zdg.m T.zdg.F.kp (zvib T) .nil zqa (zaa (pv 0) zba)))) zba)) zba))))))))))))))))),?_⟩
 have tl:=zakb ok r0;refine⟨_,rfl,_,_,.type "str",true,rfl,TyOf.str _,.inl ⟨"str",rfl,rfl⟩,true,rfl,?_⟩;refine iteF ?_;have es:yvf c.text " / " = [yrc " " c.head]:=by
  have z:=Crd.split ok;rw[r0] at z;exact z
 refine⟨_,rfl,rfl,_,_,rfl,rfl,(by decide +kernel),(yob (ylh tl 2) (by decide)),λl hl=>?_⟩;rw[es];refine laid hl λH1 S1 e1=>?_;refine⟨_,rfl,l,_,rfl,.inl (SqL.of e1),_,_,rfl,rfl,_,_,rfl,rfl,_,rfl,?_⟩;refine iteF ?_;refine⟨_,rfl,l,_,_,_,rfl,rfl,SqL.of e1,zpa (j:=0) rfl,?_⟩;intro x dx nx ndx nex;have hl2:=Crd.zcbb ok;refine⟨x,dx,_,rfl,zta,(by omega),λH2 W2 B2=>⟨rfl,?_⟩⟩;rw[show yvf (yrc " " c.head) " " = c.head from Crd.zjz ok] at W2;have S2:Same H1 H2:=λb o e=>B2 b o (zka e nx) (by rw[zbb (zka e nx),zbb (zka e ndx)];exact e);obtain⟨dx2,l2,at2,_⟩:=id W2;refine⟨_,rfl,x,dx2,_,rfl,at2,zdv _ _ (by decide +kernel) (by decide +kernel),x,c.head,0,c.name,rfl,W2,rfl,ok.name,λH3 W3 B3=>?_⟩;obtain⟨dx3,l3,at3,_⟩:=id W3;refine⟨_,rfl,x,dx3,_,rfl,at3,zdv _ _ (by decide +kernel) (by decide +kernel),x,c.head,1,c.cost,rfl,W3,rfl,ok.cost,λH4 W4 B4=>?_⟩;obtain⟨dx4,l4,at4,_⟩:=id W4;refine⟨_,rfl,x,dx4,_,rfl,at4,zdv _ _ (by decide +kernel) (by decide +kernel),x,c.head,2,c.force,rfl,W4,rfl,ok.force,λH5 W5 B5=>?_⟩;obtain⟨dx5,l5,at5,_⟩:=id W5;refine⟨_,rfl,x,dx5,_,rfl,at5,zdv _ _ (by decide +kernel) (by decide +kernel),x,c.head,3,zeh c.marks,rfl,W5,rfl,λH6 W6 B6=>?_⟩;refine⟨c.marks,rfl,ok.marks,λm H7 S7 em=>?_⟩;have W7:=W6.at S7;obtain⟨dx7,l7,at7,_⟩:=id W7;refine⟨_,rfl,x,dx7,_,rfl,at7,zdv _ _ (by decide +kernel) (by decide +kernel),x,c.head,rfl,W7,?_⟩;have S37:Same H H7:=λb o e=>by
  have n:=zka (S1 _ _ e) nx;exact S7 _ _ (B6 _ _ n (B5 _ _ n (B4 _ _ n (B3 _ _ n (S2 _ _ (S1 _ _ e))))))
 have nlx:=zka e1 nx;have e7:H7 l=some (.lst ([yrc " " c.head].map V.str)):=S7 _ _ (B6 _ _ nlx (B5 _ _ nlx (B4 _ _ nlx (B3 _ _ nlx (S2 _ _ e1)))));clear W2 W3 W4 W5 W6 at2 at3 at4 at5;refine⟨_,rfl,_,rfl,_,rfl,_,rfl,_,rfl,_,rfl,l,_,rfl,SqL.of e7,λs1 hs1=>?_⟩;have ct:cutV ([yrc " " c.head].map V.str) (some (1:Int)) none=[]:=rfl;rw[ct];refine laid hs1 λH8 S8 e8=>?_;refine⟨s1,rfl,⟨_,SqL.of e8⟩,?_⟩;refine zyb (xs:=[]) (λi ys H'=>H'=H8∧ys=[]) (λi ys H' z=>by rw[z.1];exact SqL.of e8) ⟨rfl,rfl⟩ ?_ ?_ ?_
 ·rintro i ys H' ⟨_,rfl⟩;exact ywa _
 ·intro i v ys H' hx;cases hx
 ·rintro ys H9 ⟨rfl,rfl⟩ b hb;refine laid hb λH10 S10 e10=>?_;refine⟨b,_,rfl,.inl ⟨SqL.of e10,λt ht=>?_⟩⟩;refine laid ht λH11 S11 e11=>?_;have Sall:Same H H11:=S37.trans (S8.trans (S10.trans S11));have em11:=(S8.trans (S10.trans S11)) _ _ em;intro y dy ny ndy ney;have S12:∀o,Same H11 (upd (upd (upd H11 dy (.own y)) y (.ins T.znb dy [])) y o):=λo b u e=>by
   rw[zbp,zbb (zka e ny),zbb (zka e ndy)];exact e
  refine⟨y,dy,m,t,c.name,c.cost,c.force,rfl,zta,rfl,?_⟩;exact q _ _ (Sall.trans (S12 _)) ⟨y,dy,m,t,c.name,c.cost,rfl,zta,S12 _ _ _ em11,S12 _ _ _ e11⟩ ⟨y,dy,m,t,c.name,c.force,rfl,zta⟩
theorem zpz {K:yda}{a:Addr}{xs:List V}{H1:Hp}{g:TG}{tt:TT}{te:TE}{n:Nat}{js:List Nat}{σ:L2.St}{Q:VK}(Pv:Nat->List V->Hp->Prop)(hl:∀i ys H,Pv i ys H->SqT K H a xs)(h0:Pv 0 [] H1)(hz:∀i ys H,Pv i ys H->ys.length≤yva)
  (hs:∀i x ys H p,xs[i]?=some x->Pv i ys H->H p=none->g (.ref p) (zrf n js σ) (upd H p (.tup [.int (i:Int),x])) fun σ2 H2=>σ2.drop n=(zrf n js σ).drop n∧tt σ2 H2 λb H3=>if b=true then te σ2 H3 λy H4=>Pv (i+1) (ys++[y]) H4 else Pv (i+1) ys H3)
  (hd:∀ys H,Pv xs.length ys H->∀p,H p=none->Q (.ref p) (upd H p (.lst ys))):zoy (Ite K a) H1 g tt te n js σ Q:=by
 refine⟨λi m ys H=>m=xs.length-i∧i≤xs.length∧Pv i ys H,⟨xs.length,rfl,ywa _,h0⟩,?_⟩;rintro i m ys H ⟨rfl,hi,pv⟩;have sq:=hl i ys H pv
 by_cases lt:i<xs.length
 ·have ex:xs[i]?=some xs[i]:=ybb lt;refine .inr ⟨⟨xs,xs[i],sq,ex⟩,hz i ys H pv,Pv (i+1),λys' H' z=>⟨xs.length-(i+1),by omega,rfl,lt,z⟩,λx H' y=>?_⟩;obtain⟨p,v,hp,rfl,rfl,hv⟩:=y;exact hs i v ys H p (hv xs sq) pv hp
 ·obtain rfl:i=xs.length:=by omega
  exact .inl ⟨⟨xs,sq,yga _⟩,hz _ ys H pv,hd ys H pv⟩
theorem PcT.kp {B:Addr}{H H':Hp}(s:Kp H H'){v:V}{c:Pc}(h:PcT B H v c):PcT B H' v c:=by
 obtain⟨a,dx,m,tt,nm,k,e,h1,h2,h3⟩:=h;exact⟨a,dx,m,tt,nm,k,e,s.i h1,s.t h2,s.t h3⟩
theorem PcT.cm {B:Addr}{H:Hp}{v:V}{c:Pc}(h:PcT B H v c):CmT B H v c.marks:=by
 obtain⟨a,dx,m,tt,nm,k,e,h1,h2,h3⟩:=h;exact⟨a,dx,m,tt,nm,k,c.force,e,h1,h2⟩
theorem zssb (n:Str)(c f:Nat)(m t:Addr):(cfs n c f m t).lookup ("force":Str)=some (.int f):=(zmb (by decide +kernel)).trans ((zmb (by decide +kernel)).trans zag)
theorem zyw (n:Str)(c f:Nat)(m t:Addr):(cfs n c f m t).lookup ("rules":Str)=some (.ref t):=(zmb (by decide +kernel)).trans ((zmb (by decide +kernel)).trans ((zmb (by decide +kernel)).trans ((zmb (by decide +kernel)).trans zag)))
def oM (os:List Nat):List V:=os.map λo=>V.int ((o:Nat):Int)
structure GC (B:Addr)(H:Hp)(ca oa:Addr)(cs:List Pc)(os:List Nat):Prop where
 c:∃cvs:List V,H ca=some (.lst cvs)∧All2 (PcT B H) cvs cs
 o:H oa=some (.lst (oM os))
 l:os.length=cs.length
 n:cs.length≤16
 k:∀m∈cs.map (·.marks),m.length≤40∧∀s∈m,zce s
theorem GC.same {B:Addr}{H H':Hp}(s:Same H H'){ca oa:Addr}{cs:List Pc}{os:List Nat}(h:GC B H ca oa cs os):GC B H' ca oa cs os:=by
 obtain⟨⟨cvs,h1,h2⟩,h3,h4,h5,h6⟩:=h;exact⟨⟨cvs,s _ _ h1,h2.imp λz=>z.kp (Kp.same s)⟩,s _ _ h3,h4,h5,h6⟩
theorem zwu {α β γ:Type}{R:α->β->Prop}{S:α->γ->Prop}{f:β->γ}(i:∀{a b},R a b->S a (f b)){as:List α}{bs:List β}(z:All2 R as bs):All2 S as (bs.map f):=by
 induction z with
 | nil=>exact .nil
 | cons h _ ih=>exact .cons (i h) ih
theorem GC.cds {B:Addr}{H:Hp}{ca oa:Addr}{cs:List Pc}{os:List Nat}(h:GC B H ca oa cs os):CdsT B H ca (cs.map (·.marks)):=by
 obtain⟨⟨cvs,h1,h2⟩,_⟩:=h;exact⟨cvs,h1,zwu (λz=>z.cm) h2⟩
structure TI (np nc:Nat)(t:Tab):Prop where
 ok:TOk np nc t
 nd:(t.lying++t.heap).Nodup
 rg:∀n∈t.lying,0≤n∧n<nc
 hr:∀n∈t.heap,0≤n∧n<nc
 so:t.heap.Pairwise (· ≤ ·)
 nm:∀m∈t.marks,∀s∈m,zce s
def RwN (B:Addr)(H:Hp)(cs:List Pc)(os:List Nat)(ms:List (List Str))(u:V)(n:Int):Prop :=
 Ex8 λa m cv (k o:Nat) (came:Int) (c:Pc) (mm:List Str)=>u = .ref a∧n=(k:Int)∧cs[k]?=some c∧os[k]?=some o∧ms[k]?=some mm∧H a=some (.tup [.int (k:Int),cv,.int (o:Int),.int came,.ref m])∧PcT B H cv c∧H m=some (.tup (sM mm))
theorem RwN.kp {B:Addr}{H H':Hp}(s:Kp H H'){cs:List Pc}{os:List Nat}{ms:List (List Str)}{u:V}{n:Int}(h:RwN B H cs os ms u n):RwN B H' cs os ms u n:=by
 obtain⟨a,m,cv,k,o,came,c,mm,e,e1,e2,e3,e4,h1,h2,h3⟩:=h;exact⟨a,m,cv,k,o,came,c,mm,e,e1,e2,e3,e4,s.t h1,h2.kp s,s.t h3⟩
def SgN (H:Hp)(cs:List Pc)(os:List Nat)(ms:List (List Str))(u:V)(n:Int):Prop :=
 Ex6 λa m (k o:Nat) (c:Pc) (mm:List Str)=>u = .ref a∧n=(k:Int)∧cs[k]?=some c∧os[k]?=some o∧ms[k]?=some mm∧H a=some (.tup [.int (k:Int),.int (o:Int),.ref m,.int (c.force:Int),.bl false])∧H m=some (.tup (sM mm))
theorem SgN.kp {H H':Hp}(s:Kp H H'){cs:List Pc}{os:List Nat}{ms:List (List Str)}{u:V}{n:Int}(h:SgN H cs os ms u n):SgN H' cs os ms u n:=by
 obtain⟨a,m,k,o,c,mm,e,e1,e2,e3,e4,h1,h3⟩:=h;exact⟨a,m,k,o,c,mm,e,e1,e2,e3,e4,s.t h1,s.t h3⟩
def numG (H:Hp):V->List Int
 | .ref a=>match H a with
  | some (.tup (.int n::_))=>[n]
  | _=>[]
 | _=>[]
theorem SgN.num {H:Hp}{cs:List Pc}{os:List Nat}{ms:List (List Str)}{u:V}{n:Int}(h:SgN H cs os ms u n):numG H u=[n]:=by
 obtain⟨a,m,k,o,c,mm,rfl,rfl,e2,e3,e4,h1,h3⟩:=h;show (match H a with
  | some (.tup (.int n::_))=>[n]
  | _=>[])=[(k:Int)]
 rw[h1]
theorem zrpb {H:Hp}{cs:List Pc}{os:List Nat}{ms:List (List Str)}{vs:List V}{ns:List Int}(z:All2 (SgN H cs os ms) vs ns):vs.map (numG H)=ns.map λn=>[n]:=by
 induction z with
 | nil=>rfl
 | cons h _ ih=>rw[ytb,ytb,h.num,ih]
theorem zgec {a b:Int}(h:([a]:List Int)<[b]):a<b:=by
 rcases ytk.mp h with z|⟨_,z⟩
 ·exact z
 ·exact absurd z (List.lt_irrefl _)
theorem zjnb {ns:List Int}(h:ns.Nodup):(ns.map λn=>[n]).Nodup:=by
 refine yhs.mpr (yvn ?_ h);intro a b n z;injection z with z
 exact n z
def zlub (B:Addr):Sp:=λvs H Q _=>Ex8 λca oa tv (t:Tab) (np nc:Nat) (cs:List Pc) (os:List Nat)=>vs=[.ref ca,.ref oa,tv]∧GC B H ca oa cs os∧TabT H tv t∧TI np nc t∧cs.length=nc∧∀p us H',Same H H'->H p=none->H' p=some (.lst us)->All2 (RwN B H' cs os t.marks) us t.lying->Q (.ref p) H'
def SgP (B:Addr)(H:Hp)(cs:List Pc)(os:List Nat)(ms:List (List Str))(ly:List Int)(Q:VK):Prop:=∀p out (ns:List Int) H',Same H H'->H p=none->H' p=some (.lst out)->All2 (SgN H' cs os ms) out ns->ns.Perm ly->ns.Pairwise (· < ·)->Q (.ref p) H'
def zgpb (B:Addr):Sp:=λvs H Q _=>Ex6 λl us (cs:List Pc) (os:List Nat) (ms:List (List Str)) (ly:List Int)=>vs=[.ref l]∧H l=some (.lst us)∧All2 (RwN B H cs os ms) us ly∧ly.length≤16∧ly.Nodup∧SgP B H cs os ms ly Q
def ziac (B:Addr):Sp:=λvs H Q _=>Ex6 λl us (cs:List Pc) (os:List Nat) (ms:List (List Str)) (ly:List Int)=>vs=[.ref l]∧H l=some (.lst us)∧All2 (RwN B H cs os ms) us ly∧ly.length≤16∧∀p H',Same H H'->H p=none->H' p=some (.lst [])->Q (.ref p) H'
def zcac (B:Addr):Sp:=λvs H Q _=>Ex6 λl us (cs:List Pc) (os:List Nat) (ms:List (List Str)) (ly:List Int)=>vs=[.ref l]∧H l=some (.lst us)∧All2 (RwN B H cs os ms) us ly∧ly.length≤16∧ly.Nodup∧SgP B H cs os ms ly (λv H1=>∀t o H',Same H1 H'->H' t=some (.tup [v,.ref o])->Q (.ref t) H')
def zkdc (B:Addr):Sp:=λvs H Q _=>Ex8 λca oa tv (t:Tab) (np nc:Nat) (cs:List Pc) (os:List Nat)=>vs=[.ref ca,.ref oa,tv]∧GC B H ca oa cs os∧TabT H tv t∧TI np nc t∧cs.length=nc∧SgP B H cs os t.marks t.lying Q
theorem zai (T:Tx K mg):FnOk P w K mg base CX0 2 T.zkc.f T.zkc.d zrx (zlub T.znb):=by
 refine T.zkc.ok zuy ?_;rintro f c A o s H vs Q E hr ⟨ca,oa,tv,t,np,nc,cs,os,rfl,GG,TT,TI0,hc,q⟩ X;obtain⟨a,v0,v1,v2,v3,v4,v5,v6,v7,v8,rfl,ea,TP⟩:=TT;obtain⟨b5,rfl,e5⟩:=TP.p5;obtain⟨b7,u7,rfl,e7,al7⟩:=TP.p7;obtain⟨⟨cvs,ec,alc⟩,eo,ol,n16,_⟩:=GG;have ly:=TI0.ok.ly;refine⟨_,  (zca (zla (i:=3) zuy.nd rfl (.inr rfl) (zva zcb (pv 2) (zua (v:=.int 7) rfl T.zvj ⟨_,rfl⟩) (λ_ _=>rfl)))
  (zfa (zsa (zec (own:=["came","number"]) (cap:=["cards","owners","marks"]) rfl (zya.chk rfl rfl) (.cons (j:=0) rfl (.inl rfl) (.inl rfl) (.cons (j:=1) rfl (.inl rfl) (.inl rfl) (.cons (j:=3) rfl (.inl rfl) (.inl rfl) .nil))) (znu rfl T.zje (zaa (zva zcb (pv 2) (zua (v:=.int 5) rfl T.zfh ⟨_,rfl⟩) (λ_ _=>rfl)) zba)) (λ_ _ _ _=>(zsl K (n:=2) rfl (zea (zda (i:=0) (show yhb (["came","number","cards","owners","marks"]:List Str) by decide +kernel) rfl (.inl rfl)) (zea (zda (i:=1) (show yhb (["came","number","cards","owners","marks"]:List Str) by decide +kernel) rfl (.inl rfl)) zjb)))) (λ_ _ _ _=>zyc) (λ_ _ _ _=>by exact (zra (zaa (pv 1) (zaa (zva (zjr K) (pv 2) (pv 1) (λ_ _=>rfl)) (zaa (zva (zjr K) (pv 3) (pv 1) (λ_ _=>rfl)) (zaa (pv 0) (zaa (zva (zid K) (pv 4) (pv 1) (λ_ _=>rfl)) zba))))))))))),?_⟩
 refine⟨_,rfl,a,_,_,_,rfl,rfl,SqT.of ea,zpa (j:=7) rfl,?_⟩;refine⟨_,rfl,a,_,_,_,rfl,rfl,SqT.of ea,zpa (j:=5) rfl,b5,_,rfl,SqT.of e5,?_⟩;refine zpz (xs:=iM t.lying) (λi ys H'=>Same H H'∧i≤t.lying.length∧All2 (RwN T.znb H' cs os t.marks) ys (t.lying.take i)) (λi ys H' z=>SqT.of (z.1 _ _ e5)) ⟨Same.refl _,ywa _,.nil⟩ ?_ ?_ ?_
 ·rintro i ys H' ⟨_,hi,hy⟩;have:=hy.len;rw[yza] at this;exact small (by omega)
 ·rintro i v ys H' pp hv ⟨S,_,hy⟩ hp;unfold iM at hv;rw[yia] at hv;obtain⟨x,hx,rfl⟩:=ygc.mp hv;have hi:i<t.lying.length:=(yha.mp hx).1;obtain⟨x0,x1⟩:=TI0.rg x (ycb hx);obtain⟨k,rfl⟩:∃k:Nat,x=(k:Int):=⟨x.toNat,by omega⟩;obtain⟨c,hcc⟩:=getx (xs:=cs) (i:=k) (by omega);obtain⟨o,ho⟩:=getx (xs:=os) (i:=k) (by omega);obtain⟨mm,hm⟩:=getx (xs:=t.marks) (i:=k) (by rw[TI0.ok.marks];omega);obtain⟨cv,hcv,pc⟩:=alc.get2 hcc;obtain⟨_,hmv,mb,rfl,emb⟩:=al7.get2 (b:=sM mm) (by rw[yia,hm];rfl);refine laid hp λH1 S1 e1=>?_;have S01:=S.trans S1;refine⟨pp,_,rfl,SqT.of e1,rfl,_,_,rfl,_,_,rfl,rfl,rfl,?_⟩;refine⟨_,rfl,_,rfl,_,rfl,ca,_,_,_,rfl,rfl,SqL.of (S01 _ _ ec),zpa hcv,_,rfl,_,rfl,oa,_,_,_,rfl,rfl,SqL.of (S01 _ _ eo),zbj ho,_,rfl,_,rfl,_,rfl,b7,_,_,_,rfl,rfl,SqT.of (S01 _ _ e7),zpa hmv,sz5,λr hr'=>?_⟩;refine laid hr' λH2 S2 e2=>?_;refine⟨S01.trans S2,hi,?_⟩;rw[ydb,hx];have k2:=Kp.same (S01.trans S2);exact All2.snoc ⟨r,mb,cv,k,o,(i:Int),c,mm,rfl,rfl,hcc,ho,hm,e2,pc.kp k2,k2.t emb⟩ (hy.imp λz=>z.kp (Kp.same (S1.trans S2)))
 ·rintro ys H' ⟨S,_,hy⟩ p hp;have e:(t.lying.take (iM t.lying).length)=t.lying:=by
   unfold iM;rw[yca,yyd]
  rw[e] at hy;refine laid hp λH2 S2 e2=>?_;exact q p ys H2 (S.trans S2) (none_of S hp) e2 (hy.imp λz=>z.kp (Kp.same S2))
theorem zgy (T:Tx K mg):FnOk P w K mg base CX0 2 T.zne.f T.zne.d zem (zgpb T.znb):=by
 refine T.zne.ok zby ?_;rintro f c A o s H vs Q E hr ⟨l,us,cs,os,ms,ly,rfl,el,LY,h16,hnd,q⟩ X;have ul:=LY.len;refine⟨_,  (zfa (zsa (zab zti rfl T.zwg yhj (zaa (zec (own:=["number","card","keeper","came","marks"]) (cap:=[]) rfl (zya.chk rfl rfl) .nil (zcc (pv 0)) (λ_ _ _ _=>(zsl K (n:=5) rfl (zea (zda (i:=0) (show yhb (["number","card","keeper","came","marks"]:List Str) by decide +kernel) rfl (.inl rfl)) (zea (zda (i:=1) (show yhb (["number","card","keeper","came","marks"]:List Str) by decide +kernel) rfl (.inl rfl)) (zea (zda (i:=2) (show yhb (["number","card","keeper","came","marks"]:List Str) by decide +kernel) rfl (.inl rfl)) (zea (zda (i:=3) (show yhb (["number","card","keeper","came","marks"]:List Str) by decide +kernel) rfl (.inl rfl)) (zea (zda (i:=4) (show yhb (["number","card","keeper","came","marks"]:List Str) by decide +kernel) rfl (.inl rfl)) zjb))))))) (λ_ _ _ _=>zyc) (λ_ _ _ _=>by exact (zra (zaa (pv 0) (zaa (pv 2) (zaa (zna (zjy K) rfl T.zzb ymc (zaa (pv 4) zba)) (zaa (zmqb K (pv 1) rfl) (zaa zbnb zba)))))))) zba)))),?_⟩;refine⟨_,rfl,l,rfl,⟨_,SqL.of el⟩,?_⟩;refine zyb (xs:=us) (λi ys H'=>Same H H'∧i≤us.length∧All2 (SgN H' cs os ms) ys (ly.take i)) (λi ys H' z=>SqL.of (z.1 _ _ el)) ⟨Same.refl _,ywa _,.nil⟩ ?_ ?_ ?_
 ·rintro i ys H' ⟨_,hi,hy⟩;have:=hy.len;rw[yza] at this;exact small (by omega)
 ·rintro i u ys H' hu ⟨S,_,hy⟩;have hi:i<us.length:=(yha.mp hu).1;obtain⟨n,en,rw1⟩:=LY.get hu;obtain⟨a,m,cv,k,o,came,c,mm,rfl,rfl,e2,e3,e4,ea,pc,em⟩:=rw1.kp (Kp.same S);obtain⟨cd,dx,m2,tt,nm,kk,rfl,ecd,_⟩:=pc;refine⟨a,_,rfl,SqT.of ea,rfl,_,_,rfl,_,_,rfl,_,_,rfl,_,_,rfl,_,_,rfl,rfl,rfl,?_⟩;refine⟨_,rfl,_,rfl,_,rfl,m,_,rfl,.inr ⟨SqT.of em,?_⟩⟩;refine⟨_,rfl,cd,_,dx,_,_,rfl,ecd,T.zih,T.zni,zssb _ _ _ _ _,sz5,λt ht=>?_⟩;refine laid ht λH3 S3 e3'=>?_;refine⟨S.trans S3,hi,?_⟩;rw[ydb,en];exact All2.snoc ⟨t,m,k,o,c,mm,rfl,rfl,e2,e3,e4,e3',S3 _ _ em⟩ (hy.imp λz=>z.kp (Kp.same S3))
 ·rintro ys H' ⟨S,_,hy⟩ p hp;rw[yra (by omega)] at hy;refine laid hp λH2 S2 e2=>?_;have hy2:All2 (SgN H2 cs os ms) ys ly:=hy.imp λz=>z.kp (Kp.same S2);have yl:=hy2.len;refine⟨p,ys,numG H2,1,rfl,SqL.of e2,by omega,by decide,λu hu=>?_,?_,λp' out hp' po so=>?_⟩
  ·obtain⟨r,_,sg⟩:=hy2.mem hu;have en:=sg.num;obtain⟨a,m,k,o,c,mm,rfl,rfl,_,_,_,h1,_⟩:=sg;exact⟨a,[(k:Int)],_,rfl,SqT.of h1,en,rfl⟩
  ·rw[zrpb hy2];exact zjnb hnd
  ·obtain⟨ns,h1,h2⟩:=hy2.perm po;refine laid hp' λH3 S3 e3=>?_;refine q p' out ns H3 (S.trans (S2.trans S3)) (none_of (S.trans S2) hp') e3 (h1.imp λz=>z.kp (Kp.same S3)) h2 ?_;rw[zrpb h1] at so;exact yvn (λz=>zgec z) (yhs.mp so)
theorem zinb (T:Tx K mg)(kb:K.In base):FnOk P w K mg base CX0 2 T.zoj.f T.zoj.d zxx (ziac T.znb):=by
 refine T.zoj.ok znf ?_;rintro f c A o s H vs Q E hr ⟨l,us,cs,os,ms,ly,rfl,el,LY,h16,q⟩ X;refine⟨_,  (zca (zla (i:=1) znf.nd rfl (.inl rfl) (zdc zba))
  (zca (zbh yyb rfl (zcc (pv 0)) (zmc (n:=5) rfl (zea (zda (i:=2) znf.nd rfl (.inl rfl)) (zea (zda (i:=3) znf.nd rfl (.inl rfl)) (zea (zda (i:=4) znf.nd rfl (.inl rfl)) (zea (zda (i:=5) znf.nd rfl (.inl rfl)) (zea (zda (i:=6) znf.nd rfl (.inl rfl)) zjb))))))
   (zfa (zbh yyb rfl (znu rfl T.zje (zaa (zee (pv 3) rfl) zba)) (zmc (n:=2) rfl (zea (zda (i:=7) znf.nd rfl (.inl rfl)) (zea (zda (i:=8) znf.nd rfl (.inl rfl)) zjb)))
    (zfa (zrc (zxa zoh (zva zcb (pv 8) zia (λ_ _=>rfl)) zkb (zfb _))
     (zfa (zjc (zog yya ypb yqb zed (pv 1) (zaa (zra (zaa (zva (zpyb (zomb T kb)) (zua (v:=.ref T.zrr) rfl T.ztu rfl) (zva zcb (pv 8) zia (λ_ _=>rfl)) (λ_ _=>rfl)) (zaa (pv 5) (zaa (pv 2) (zaa (pv 7) zba))))) zba))))
     zeb)))))
  (zfa (zsa (zab zti rfl T.zwg yhj (zaa (pv 1) zba)))))),?_⟩
 refine⟨sz0,λf hf=>?_⟩;refine laid hf λH1 S1 e1=>?_;refine⟨_,rfl,l,rfl,⟨_,SqL.of (S1 _ _ el)⟩,?_⟩;refine zgh (xs:=us) (λi σ H'=>Ex7 λ(o2 o3 o4 o5 o6 o7 o8:Option V)=>σ=[some (.ref l),some (.ref f),o2,o3,o4,o5,o6,o7,o8]∧Same H1 H') ⟨_,_,_,_,_,_,_,rfl,Same.refl _⟩ (λi σ H' _ ⟨_,_,_,_,_,_,_,_,S⟩=>SqL.of (S _ _ (S1 _ _ el))) ?_ ?_
 ·rintro i u σ H' hu ⟨o2,o3,o4,o5,o6,o7,o8,rfl,S⟩;obtain⟨n,en,rw1⟩:=LY.get hu;obtain⟨a,m,cv,k,o,came,c,mm,rfl,rfl,e2,e3,e4,ea,pc,em⟩:=rw1.kp (Kp.same (S1.trans S));obtain⟨cd,dx,m2,tt,nm,kk,rfl,ecd,_,ett⟩:=pc;refine⟨a,_,rfl,SqT.of ea,rfl,_,_,rfl,_,_,rfl,_,_,rfl,_,_,rfl,_,_,rfl,rfl,?_⟩;refine⟨_,rfl,cd,_,dx,_,_,rfl,ecd,T.zih,T.zmf,zyw _ _ _ _ _,tt,_,rfl,SqT.of ett,?_⟩;refine zjfb (xs:=[]) (λi σ Hx=>Ex2 λ(o7 o8:Option V)=>σ=[some (.ref l),some (.ref f),some (.int (k:Int)),some (.ref cd),some (.int (o:Int)),some (.int came),some (.ref m),o7,o8]∧Hx=H') ⟨_,_,rfl,rfl⟩ (λi σ Hx _ ⟨_,_,_,e⟩=>by rw[e];exact SqT.of ett) ?_ ?_
  ·intro i x σ Hx p hx;cases hx
  ·rintro σ Hx ⟨o7,o8,rfl,rfl⟩;exact⟨_,_,_,_,_,_,_,rfl,S⟩
 ·rintro σ H' ⟨o2,o3,o4,o5,o6,o7,o8,rfl,S⟩;have ef:=S _ _ e1;refine⟨_,rfl,f,[],(λ_=>[]),1,rfl,SqL.of ef,(by decide),by decide,(λ_ h=>nomatch h),ygl.nil,λp out hp po _=>?_⟩;have eo:out=[]:=yil.mp po;subst eo;refine laid hp λH2 S2 e2=>?_;exact q p H2 (S1.trans (S.trans S2)) (none_of (S1.trans S) hp) e2
theorem zmnb (T:Tx K mg):FnOk P w K mg base CX0 4 T.zmj.f T.zmj.d ztx (λ_ _ _ _=>False):=by
 refine T.zmj.F.ok zwmb (λvs H Q E h=>?_) (λcdv A outer s H vs Q E hr h=>?_)
 ·exact h.elim
 exact h.elim
theorem zwvb (T:Tx K mg):FnOk P w K mg base CX0 4 T.zyo.f T.zyo.d zmjb (λ_ _ _ _=>False):=by
 refine T.zyo.F.ok zzub (λvs H Q E h=>?_) (λcdv A outer s H vs Q E hr h=>?_)
 ·exact h.elim
 exact h.elim
theorem zzqb (T:Tx K mg):FnOk P w K mg base CX0 4 T.zol.f T.zol.d zicb (λ_ _ _ _=>False):=by
 refine T.zol.F.ok zypb (λvs H Q E h=>?_) (λcdv A outer s H vs Q E hr h=>?_)
 ·exact h.elim
 exact h.elim
theorem zfnb (T:Tx K mg)(kb:K.In base):FnOk P w K mg base CX0 5 T.znj.f T.znj.d zux (zcac T.znb):=by
 refine T.znj.ok zsg ?_;rintro f c A o s H vs Q E hr ⟨l,us,cs,os,ms,ly,rfl,el,LY,h16,hnd,q⟩ X;refine⟨_,  (zca (zla (i:=1) zsg.nd rfl (.inl rfl) (zja (zgy T).up hr rfl T.zne.m T.zne.F.kp (zubb T) .nil zqa (zaa (pv 0) zba)))
  (zca (zla (i:=2) zsg.nd rfl (.inl rfl) (zdc zba))
  (zca (zla (i:=3) zsg.nd rfl (.inl rfl) (zja (zinb T kb).up hr rfl T.zoj.m T.zoj.F.kp (zctb T) .nil zqa (zaa (pv 0) zba)))
  (zca (zbh yyb rfl (zch rfl T.zrh (zaa (zua (v:=.int 5) rfl T.zjj ⟨_,rfl⟩) zba)) (zda (i:=4) zsg.nd rfl (.inr rfl))
   (zca (zan (i:=5) zsg.nd rfl (.inl rfl) (own:=["change"]) (cap:=["layer"]) rfl (zya.chk rfl rfl) (.cons (j:=4) rfl (.inl rfl) (.inl rfl) .nil) (zcc (pv 3)) (λ_ _ _ _=>(zda (i:=0) (show yhb (["change","layer"]:List Str) by decide +kernel) rfl (.inl rfl))) (λ_ _ _ _=>zah (zxa zoh (zva (zid K) (pv 0) zia (λ_ _=>rfl)) (pv 1) (zfb _))) (λ_ _ _ _=>by exact (pv 0)))
   (zfa (zmu yyb (zrl (pv 5) (λ_=>rfl))
    (zca (zla (i:=6) zsg.nd rfl (.inl rfl) (zja (zmnb T) hr rfl T.zmj.m T.zmj.F.kp (zatb T) .nil zqa (zaa (pv 0) (zaa (pv 1) (zaa (pv 5) zba)))))
    (zca (zjc (zog yya ypb yqb zed (pv 2) (zaa (zra (zaa (pv 6) (zaa (zja (zwvb T) hr rfl T.zyo.m T.zyo.F.kp (zgcc T) .nil zqa (zaa (pv 0) (zaa (pv 1) (zaa (pv 6) zba)))) zba))) zba)))
    (zca (zla (i:=1) zsg.nd rfl (.inl rfl) (zja (zzqb T) hr rfl T.zol.m T.zol.F.kp (zzwb T) .nil zqa (zaa (pv 0) (zaa (pv 1) (zaa (pv 6) zba)))))
    (zfa (zjc (zog yya PySem.F.slot_list_remove PySem.F.type_list_remove (zonb hr.units) (pv 5) (zaa (pv 6) zba)))))))))))
  (zfa (zsa (zra (zaa (pv 1) (zaa (pv 2) zba))))))))),?_⟩
 refine⟨_,rfl,l,us,cs,os,ms,ly,rfl,el,LY,h16,hnd,λp out ns H1 S1 np1 e1 al pn so=>?_⟩;refine⟨sz0,λod hod=>?_⟩;refine laid hod λH2 S2 e2=>?_;have S02:=S1.trans S2;refine⟨_,rfl,l,us,cs,os,ms,ly,rfl,S02 _ _ el,LY.imp λz=>z.kp (Kp.same S02),h16,λev H3 S3 nev e3=>?_⟩;refine⟨5,rfl,by decide,by decide,?_⟩;refine zqn (lo:=0) (n:=5) (λi σ Hx=>Ex3 λ(o4 o5 o6:Option V)=>σ=[some (.ref l),some (.ref p),some (.ref od),some (.ref ev),o4,o5,o6]∧Same H3 Hx) ⟨_,_,_,rfl,Same.refl _⟩ ?_ ?_
 ·rintro i σ Hx hi ⟨o4,o5,o6,rfl,S⟩;refine⟨_,rfl,ev,rfl,⟨_,SqL.of (S _ _ e3)⟩,?_⟩;refine zyb (xs:=[]) (λi ys H'=>H'=Hx∧ys=[]) (λi ys H' z=>by rw[z.1];exact SqL.of (S _ _ e3)) ⟨rfl,rfl⟩ ?_ ?_ ?_
  ·rintro i ys H' ⟨_,rfl⟩;exact ywa _
  ·intro i v ys H' hx;cases hx
  ·rintro ys H9 ⟨rfl,rfl⟩ b hb;refine laid hb λH10 S10 e10=>?_;refine⟨λm σ H'=>σ=[some (.ref l),some (.ref p),some (.ref od),some (.ref ev),some (.int (0+(i:Int))),some (.ref b),o6]∧H'=H10,⟨0,rfl,rfl⟩,?_⟩;rintro m σ H' ⟨rfl,rfl⟩;refine⟨_,rfl,_,.inl ⟨_,SqL.of e10,rfl⟩,?_⟩;exact iteF ⟨_,_,_,rfl,S.trans S10⟩
 ·rintro σ Hx ⟨o4,o5,o6,rfl,S⟩;refine⟨_,rfl,_,rfl,sz2,λt ht=>?_⟩;refine laid ht λH5 S5 e5=>?_;exact q p out ns H1 S1 np1 e1 al pn so t od H5 (S2.trans (S3.trans (S.trans S5))) e5
theorem zsj (T:Tx K mg)(kb:K.In base):FnOk P w K mg base CX0 6 T.ztc.f T.ztc.d zss (zkdc T.znb):=by
 refine T.ztc.ok zzgb ?_;rintro f c A o s H vs Q E hr ⟨ca,oa,tv,t,np,nc,cs,os,rfl,GG,TT,TI0,hc,q⟩ X;refine⟨_,  (zfa (zsa (zva zcb (zja (zfnb T kb) hr rfl T.znj.m T.znj.F.kp (zbtb T) .nil zqa (zaa (zja (zai T).up hr rfl T.zkc.m T.zkc.F.kp (zwj T) .nil zqa (zaa (pv 0) (zaa (pv 1) (zaa (pv 2) zba)))) zba)) zia (λ_ _=>rfl)))),?_⟩;refine⟨_,rfl,_,rfl,_,rfl,ca,oa,tv,t,np,nc,cs,os,rfl,GG,TT,TI0,hc,λp us H1 S1 np1 e1 al=>?_⟩;refine⟨p,us,cs,os,t.marks,t.lying,rfl,e1,al,TI0.ok.ly,(yfd.mp TI0.nd).1,λsp out ns H2 S2 np2 e2 al2 pn so t' od H3 S3 e3=>?_⟩;refine⟨t',_,_,_,rfl,rfl,SqT.of e3,zpa (j:=0) rfl,?_⟩;exact q sp out ns H3 (S1.trans (S2.trans S3)) (none_of S1 np2) (S3 _ _ e2) (al2.imp λz=>z.kp (Kp.same S3)) pn so
theorem zacc {xs:List Int}(h:xs.Nodup):ISet.dd xs=xs:=by
 have z:∀n,n≤xs.length->ISet.dd (xs.take n)=xs.take n:=by
  intro n
  induction n with
  | zero=>intro _;rw[ysq];rfl
  | succ n ih =>
   intro hn;have e:xs.take (n+1)=xs.take n++[xs[n]]:=(by rw[ydb,ybb hn];rfl);have hd:(xs.take n++[xs[n]]).Nodup:=(by rw[← e];exact (yfn _ _).nodup h);have hne:xs[n]∉xs.take n:=λw=>(yfd.mp hd).2.2 _ w _ (yka.mpr rfl) rfl;rw[e,ISet.zqp,ih (by omega),if_neg hne]
 have y:=z xs.length (yga _);rw[yra (yga _)] at y;exact y
theorem zmz {xs:List Int}{n:Int}(nd:xs.Nodup)(h:n∈xs):xs.Perm (n::xs.filter λx=>!decide (x=n)):=by
 induction xs with
 | nil=>cases h
 | cons x r ih =>
  obtain⟨n1,n2⟩:=yli.mp nd
  by_cases e:x=n
  ·subst e;rw[yxd (by simp)];have z:(r.filter λy=>!decide (y=x))=r:=by
    rw[yem];intro y hy;have:y≠x:=λw=>n1 (w▸hy);simp[this]
   rw[z]
  ·rw[ywd (by simp[e])];have hr:n∈r:=by
    rcases yja.mp h with w|w
    ·exact absurd w.symm e
    ·exact w
   exact ((ih n2 hr).cons x).trans (.swap _ _ _)
theorem zjab {xs ys:List Int}(h1:xs.Pairwise (· ≤ ·))(h2:ys.Pairwise (· ≤ ·))(p:xs.Perm ys):xs=ys :=
 yun (le:=λa b:Int=>a≤b) (λa b _ _ x y=>Int.le_antisymm x y) h1 h2 p
theorem few {ns:List Int}{nc:Nat}(nd:ns.Nodup)(h:∀n∈ns,0≤n∧n<nc):ns.length≤nc:=by
 have y:=yuk (l₂:=(yxb nc).map λi=>((i:Nat):Int)) nd λn hn=>by
  obtain⟨h0,h1⟩:=h n hn;exact yfc.mpr ⟨n.toNat,ych.mpr (by omega),by omega⟩
 rw[yca,ybc] at y;exact y
theorem TI.leave {np nc:Nat}{t t':Tab}{cms:List (List Str)}{n:Nat}{av:V}(h:TI np nc t)(hn:(n:Int)∈t.lying)(hc:∀m∈cms,m.length≤40∧∀s∈m,zce s)(cr:CrR cms t n av "leave" t'):TI np nc t'∧t'.heap.Perm (t.heap++[(n:Int)]):=by
 cases cr with
 | @leave _ ms heap em pz sz =>
 obtain⟨n1,n2,n3⟩:=yfd.mp h.nd;have hh:(n:Int)∉t.heap:=λz=>n3 _ hn _ z rfl;have dd:ISet.dd (t.heap++[(n:Int)])=t.heap++[(n:Int)]:=zacc (yfd.mpr ⟨n2,by simp,λx hx y hy z=>hh (by rw[← yka.mp hy,← z];exact hx)⟩);rw[dd] at pz;have hm:=hc ms (ycb em);have pf:=zmz n1 hn;have nd':((t.lying.filter λx=>!decide (x=(n:Int)))++heap).Nodup:=by
  refine (ysj.nodup_iff ?_).mp h.nd;refine (pf.append_right t.heap).trans ?_;show ((n:Int)::((t.lying.filter λx=>!decide (x=(n:Int)))++t.heap)).Perm _
  refine ysj.trans ?_ (pz.symm.append_left _);rw[← ywb];exact (List.perm_append_singleton _ _).symm
 have hr':∀x∈heap,0≤x∧x<nc:=λx hx=>by
  rcases ykd.mp (pz.mem_iff.mp hx) with z|z
  ·exact h.hr x z
  ·rw[yka.mp z];exact h.rg _ hn
 have nc16:=h.ok.nc16;have hl:=few (yfd.mp nd').2.1 hr';have fl:=yqc (λx=>!decide (x=(n:Int))) t.lying;have ly:=h.ok.ly;refine⟨⟨{ h.ok with marks:=by rw[yhf];exact h.ok.marks,wnds:=by rw[yhf];exact h.ok.wnds,ly:=by show (t.lying.filter _).length≤16;omega,hp:=by show heap.length≤16;omega,ms:=λm hmm=>?_ },nd',λx hx=>h.rg x (yjd.mp hx).1,hr',sz,λm hmm=>?_⟩,pz⟩
 ·rcases ykh hmm with z|z
  ·exact h.ok.ms m z
  ·rw[z];exact hm.1
 ·rcases ykh hmm with z|z
  ·exact h.nm m z
  ·rw[z];exact hm.2
def setM (cs:List Pc)(ms:List (List Str))(ns:List Int):List (List Str):=ns.foldl (λm n=>m.set n.toNat (((cs.map (·.marks))[n.toNat]?).getD [])) ms
def setW (ws:List Int)(ns:List Int):List Int:=ns.foldl (λw n=>w.set n.toNat 0) ws
structure Lv (cs:List Pc)(t t':Tab)(ns:List Int):Prop where
 pts:t'.pts=t.pts
 scs:t'.scs=t.scs
 gone:t'.gone=t.gone
 decks:t'.decks=t.decks
 hands:t'.hands=t.hands
 lying:t'.lying=t.lying.filter λn=>!decide (n∈ns)
 heap:t'.heap.Perm (t.heap++ns)
 marks:t'.marks=setM cs t.marks ns
 wnds:t'.wnds=setW t.wnds ns
theorem Lv.nil {cs:List Pc}{t:Tab}:Lv cs t t []:=⟨rfl,rfl,rfl,rfl,rfl,(yem.mpr (by simp)).symm,by simp,rfl,rfl⟩
theorem Lv.snoc {cs:List Pc}{t t1 t2:Tab}{ns:List Int}{n np nc:Nat}{av:V}(h:Lv cs t t1 ns)(T1:TI np nc t1)(hn:(n:Int)∈t1.lying)(hc:∀m∈cs.map (·.marks),m.length≤40∧∀s∈m,zce s)(cr:CrR (cs.map (·.marks)) t1 n av "leave" t2):Lv cs t t2 (ns++[(n:Int)]):=by
 obtain⟨_,pp⟩:=T1.leave hn hc cr;cases cr with
 | @leave _ ms heap em pz sz =>
 refine⟨h.pts,h.scs,h.gone,h.decks,h.hands,?_,?_,?_,?_⟩
 ·show t1.lying.filter _=_;rw[h.lying,List.filter_filter];refine ynk λx _=>?_
  by_cases e1:x=(n:Int)<;>by_cases e2:x∈ns<;>simp[e1,e2]
 ·rw[← ywb];exact pp.trans (h.heap.append_right _)
 ·show t1.marks.set n ms=_;unfold setM;rw[ykk];show _=yoq _ (n:Int).toNat _
  rw[yeb,em,h.marks];rfl
 ·show t1.wnds.set n 0=_;unfold setW;rw[ykk];show _=yoq _ (n:Int).toNat _
  rw[yeb,h.wnds];rfl
theorem Lv.det {cs:List Pc}{t t1 t2:Tab}{ns:List Int}(h1:Lv cs t t1 ns)(h2:Lv cs t t2 ns)(s1:t1.heap.Pairwise (· ≤ ·))(s2:t2.heap.Pairwise (· ≤ ·)):t1=t2:=by
 have eh:=zjab s1 s2 (h1.heap.trans h2.heap.symm);obtain⟨a1,a2,a3,a4,a5,a6,a7,a8,a9⟩:=t1;obtain⟨b1,b2,b3,b4,b5,b6,b7,b8,b9⟩:=t2;have p1:=h1.pts.trans h2.pts.symm;have p2:=h1.scs.trans h2.scs.symm;have p3:=h1.gone.trans h2.gone.symm;have p4:=h1.decks.trans h2.decks.symm;have p5:=h1.hands.trans h2.hands.symm;have p6:=h1.lying.trans h2.lying.symm;have p8:=h1.marks.trans h2.marks.symm;have p9:=h1.wnds.trans h2.wnds.symm;dsimp only at eh p1 p2 p3 p4 p5 p6 p8 p9;rw[eh,p1,p2,p3,p4,p5,p6,p8,p9]
def going (t:Tab):List Bool:=List.zipWith (λp g=>decide (p≤0) && !g) t.pts t.gone
def zdl (t:Tab):List Bool:=List.zipWith (λg b=>g||b) t.gone (going t)
def outs (os:List Nat)(t:Tab):List Int:=t.lying.filter λn=>(going t).getD (os.getD n.toNat 0) false
def worn (cs:List Pc)(ws:List Int)(n:Int):Bool:=decide ((((cs[n.toNat]?).map (·.force)).getD 0:Int)≤(ws[n.toNat]?).getD 0)
structure Lk (cs:List Pc)(os:List Nat)(t t':Tab)(ns:List Int):Prop where
 ex:∃t1:Tab,Lv cs t t1 (outs os t)∧t1.heap.Pairwise (· ≤ ·)∧Lv cs { t1 with gone:=zdl t } t' ns∧t'.heap.Pairwise (· ≤ ·)∧ns.Perm (t1.lying.filter (worn cs t1.wnds))∧ns.Pairwise (· < ·)
theorem zyub {ns:List Int}{n:Int}:∀{ws:List Int},(∀x∈ns,0≤x)->0≤n->n∉ns->(setW ws ns)[n.toNat]?=ws[n.toNat]?:=by
 unfold setW
 induction ns with
 | nil=>intro ws _ _ _;rfl
 | cons x r ih =>
  intro ws h0 hn hm;rw[List.foldl_cons,ih (λy hy=>h0 y (yla _ hy)) hn (λz=>hm (yla _ z))];have h1:=h0 x yma;have h2:x≠n:=λz=>hm (by rw[z];exact yma);rw[yal (by omega)]
theorem Lk.again {cs:List Pc}{os:List Nat}{t t1 t2:Tab}{n1 n2:List Int}{np nc:Nat}(TI0:TI np nc t)(h1:Lk cs os t t1 n1)(h2:Lk cs os t1 t2 n2):t2=t1∧n2=[]:=by
 obtain⟨a,a1,a2,a3,a4,a5,a6⟩:=h1;obtain⟨b,b1,b2,b3,b4,b5,b6⟩:=h2;have gl:=TI0.ok.gone;have pl:=TI0.ok.pts;have eg:t1.gone=zdl t:=a3.gone;have ep:t1.pts=t.pts:=a3.pts.trans a1.pts;have gg:∀i:Nat,(going t1).getD i false=false:=λi=>by
  unfold going;rw[eg,ep];unfold zdl going;rw[yua,yxf,yxf,yxf];cases e1:t.pts[i]? with
  | none=>rfl
  | some p =>
   cases e2:t.gone[i]? with
   | none=>rfl
   | some g =>
    show (decide (p≤0) && !(g||(decide (p≤0) && !g)))=false
    cases g<;>cases decide (p≤0)<;>rfl
 have eo:outs os t1=[]:=by
  unfold outs;rw[ysg];intro n _;rw[gg];decide
 have gt:zdl t1=t1.gone:=by
  refine yzr λi=>?_;have z:=gg i;unfold zdl;rw[yxf];rw[yua] at z;cases e1:t1.gone[i]? with
  | none=>rfl
  | some g =>
   cases e2:(going t1)[i]? with
   | none =>
    exfalso;have l1:=(yha.mp e1).1;rw[List.getElem?_eq_none_iff] at e2;unfold going at e2;rw[yij,ep] at e2;have:t1.gone.length≤t.gone.length:=by
     rw[eg];unfold zdl;rw[yij];exact Nat.min_le_left _ _
    omega
   | some x =>
    rw[e2] at z;have z':x=false:=z;show some (g||x)=some g
    rw[z',yfl]
 rw[eo] at b1;have e1:b=t1:=b1.det .nil b2 a4;subst e1;have hz:n2=[]:=by
  have:(b.lying.filter (worn cs b.wnds))=[]:=by
   rw[ysg];intro n hn hw;have hl:=a3.lying;rw[hl] at hn;obtain⟨m1,m2⟩:=yjd.mp hn;have m1':n∈a.lying:=m1;have m2':n∉n1:=(by simpa using m2);have al:=a1.lying;rw[al] at m1';have n0:=(TI0.rg n (yjd.mp m1').1).1;have np1:∀x∈n1,0≤x:=λx hx=>by
    have y:=(yjd.mp (a5.mem_iff.mp hx)).1;rw[al] at y;exact (TI0.rg x (yjd.mp y).1).1
   refine m2' (a5.mem_iff.mpr (yjd.mpr ⟨m1,?_⟩));unfold worn at hw ⊢;rw[a3.wnds,zyub np1 n0 m2'] at hw;exact hw
  rw[this] at b5;exact yil.mp b5
 subst hz;have e:({ b with gone:=zdl b }:Tab)=b:=by rw[gt]
 rw[e] at b3;exact⟨b3.det .nil b4 a4,rfl⟩
theorem zfib {K:yda}{H:Hp}(c:List Int):DVs K H (c.map V.int) (c.map PyData.int):=by
 induction c with
 | nil=>exact .nil
 | cons i r ih=>exact .cons (.int i) ih
theorem ztfc {K:yda}{H:Hp}(c:List Bool):DVs K H (c.map V.bl) (c.map PyData.bool):=by
 induction c with
 | nil=>exact .nil
 | cons i r ih=>exact .cons (.bl i) ih
theorem lay_ints (c:List Int):yrb (c.map .int)=true∧yvb (c.map .int)=0:=by
 induction c with
 | nil=>exact⟨rfl,rfl⟩
 | cons i r ih=>exact⟨by simp[yrb,yec,ih.1],by simp[yvb,ybe,ih.2]⟩
theorem zpbc (c:List Bool):yrb (c.map .bool)=true∧yvb (c.map .bool)=0:=by
 induction c with
 | nil=>exact⟨rfl,rfl⟩
 | cons i r ih=>exact⟨by simp[yrb,yec,ih.1],by simp[yvb,ybe,ih.2]⟩
def inD (c:List Int):PyData:=.tuple (c.map .int)
def stD (c:List Str):PyData:=.tuple (c.map .str)
theorem zzab {α:Type}{f:α->PyData}(xs:List α)(h:∀x∈xs,(f x).canLay0=true∧(f x).depth≤1):yrb (xs.map f)=true∧yvb (xs.map f)≤1:=by
 induction xs with
 | nil=>exact⟨rfl,ywa _⟩
 | cons c r ih =>
  obtain⟨h1,h2⟩:=ih λx hx=>h x (yla _ hx);obtain⟨g1,g2⟩:=h c yma;refine⟨by rw[ytb,yrb,g1,h1];rfl,?_⟩;rw[ytb,yvb];omega
theorem zmlb (c:List Int):(inD c).canLay0=true∧(inD c).depth≤1:=by
 obtain⟨h1,h2⟩:=lay_ints c;unfold inD;exact⟨by rw[yec,h1],by rw[ybe,h2];decide⟩
theorem zlyb {c:List Str}(h:∀s∈c,zce s):(stD c).canLay0=true∧(stD c).depth≤1:=by
 unfold stD;exact⟨by rw[yec,zabb c λx hx=>zklb (h x hx)],by rw[ybe,zkbb];decide⟩
def tabD (t:Tab):PyData:=.tuple [inD t.pts,inD t.scs,.tuple (t.gone.map .bool),.tuple (t.decks.map inD),.tuple (t.hands.map inD),inD t.lying,inD t.heap,.tuple (t.marks.map stD),inD t.wnds]
theorem zay {K:yda}{H:Hp}{v:V}{c:List Int}(h:T1 H v (iM c)):DV K H v (inD c):=by
 obtain⟨a,rfl,e⟩:=h;exact .tup (SqT.of e) (zfib _)
theorem zpgc {K:yda}{H:Hp}{v:V}{c:List Str}(h:T1 H v (sM c)):DV K H v (stD c):=by
 obtain⟨a,rfl,e⟩:=h;exact .tup (SqT.of e) (zwz _)
theorem zsxb {α:Type}{K:yda}{H:Hp}{f:α->List V}{g:α->PyData}(i:∀{v x},T1 H v (f x)->DV K H v (g x)){vs:List V}:∀{xs:List α},All2 (T1 H) vs (xs.map f)->DVs K H vs (xs.map g):=by
 induction vs with
 | nil =>
  intro xs z;cases xs with
  | nil=>exact .nil
  | cons x r=>cases z
 | cons v vs ih =>
  intro xs z;cases xs with
  | nil=>cases z
  | cons x r =>
   cases z with
   | cons h t=>exact .cons (i h) (ih t)
theorem zedc {K:yda}{H:Hp}{v:V}{c:List (List Int)}(h:T2 H v (c.map iM)):DV K H v (.tuple (c.map inD)):=by
 obtain⟨a,us,rfl,e,al⟩:=h;exact .tup (SqT.of e) (zsxb (λz=>zay z) al)
theorem zapb {K:yda}{H:Hp}{v:V}{c:List (List Str)}(h:T2 H v (c.map sM)):DV K H v (.tuple (c.map stD)):=by
 obtain⟨a,us,rfl,e,al⟩:=h;exact .tup (SqT.of e) (zsxb (λz=>zpgc z) al)
theorem TabT.dv {K:yda}{H:Hp}{v:V}{t:Tab}(h:TabT H v t):DV K H v (tabD t):=by
 obtain⟨a,v0,v1,v2,v3,v4,v5,v6,v7,v8,rfl,ea,TP⟩:=h;obtain⟨b2,rfl,e2⟩:=TP.p2;exact .tup (SqT.of ea) (.cons (zay TP.p0) (.cons (zay TP.p1) (.cons (.tup (SqT.of e2) (ztfc _)) (.cons (zedc TP.p3) (.cons (zedc TP.p4) (.cons (zay TP.p5) (.cons (zay TP.p6) (.cons (zapb TP.p7) (.cons (zay TP.p8) .nil)))))))))
theorem zlrb (c:List (List Int)):yrb (c.map inD)=true∧yvb (c.map inD)≤1:=zzab c λx _=>zmlb x
theorem zvz {t:Tab}(h:∀m∈t.marks,∀s∈m,zce s):(tabD t).canLay0=true∧(tabD t).depth≤8:=by
 obtain⟨m1,m2⟩:=zzab (f:=stD) t.marks λx hx=>zlyb (h x hx);obtain⟨d1,d2⟩:=zlrb t.decks;obtain⟨e1,e2⟩:=zlrb t.hands;obtain⟨g1,g2⟩:=zpbc t.gone;have i:=λc=>(zmlb c).1;have j:=λc=>(zmlb c).2;unfold tabD
 constructor
 ·simp only[yec,yrb,i,m1,d1,e1,g1,yjl]
 ·simp only[ybe,yvb,g2];have j1:=j t.pts;have j2:=j t.scs;have j3:=j t.lying;have j4:=j t.heap;have j5:=j t.wnds;omega
theorem zqv {d:PyData}(h:d.canLay0=true∧d.depth≤8):yhc d=true:=by
 unfold yhc;rw[h.1,decide_eq_true (by omega)];rfl
def lmD (t:Tab):PyData:=.tuple [inD t.lying,.tuple (t.marks.map stD)]
theorem zfr {t:Tab}(h:∀m∈t.marks,∀s∈m,zce s):yhc (lmD t)=true:=by
 obtain⟨m1,m2⟩:=zzab (f:=stD) t.marks λx hx=>zlyb (h x hx);obtain⟨j1,j2⟩:=zmlb t.lying;refine zqv ⟨?_,?_⟩
 ·unfold lmD;simp only[yec,yrb,j1,m1,yjl]
 ·unfold lmD;simp only[ybe,yvb];omega
def SgA (H:Hp)(u:V)(n:Int):Prop:=Ex3 λa (o:Int) rest=>u = .ref a∧H a=some (.tup (.int n :: .int o::rest))
theorem SgA.kp {H H':Hp}(s:Kp H H'){u:V}{n:Int}(h:SgA H u n):SgA H' u n:=by
 obtain⟨a,o,rest,e,h⟩:=h;exact⟨a,o,rest,e,s.t h⟩
def CvT (H:Hp)(s:Addr)(ly:List Int):Prop:=Ex2 λout (ns:List Int)=>H s=some (.lst out)∧All2 (SgA H) out ns∧∀n∈ly,n∈ns
theorem CvT.at {H H':Hp}(k:Kp H H'){s:Addr}(e:∀xs,H s=some (.lst xs)->H' s=some (.lst xs)){ly:List Int}(h:CvT H s ly):CvT H' s ly:=by
 obtain⟨out,ns,h1,h2,h3⟩:=h;exact⟨out,ns,e _ h1,h2.imp λz=>z.kp k,h3⟩
theorem CvT.same {H H':Hp}(k:Same H H'){s:Addr}{ly:List Int}(h:CvT H s ly):CvT H' s ly:=h.at (Kp.same k) λ_ z=>k _ _ z
theorem CvT.less {H:Hp}{s:Addr}{ly ly':List Int}(h:CvT H s ly)(g:∀n∈ly',n∈ly):CvT H s ly':=by
 obtain⟨out,ns,h1,h2,h3⟩:=h;exact⟨out,ns,h1,h2,λn hn=>h3 n (g n hn)⟩
theorem SgN.a {H:Hp}{cs:List Pc}{os:List Nat}{ms:List (List Str)}{u:V}{n:Int}(h:SgN H cs os ms u n):SgA H u n:=by
 obtain⟨a,m,k,o,c,mm,e,e1,e2,e3,e4,h1,h3⟩:=h;exact⟨a,_,_,e,by rw[h1,e1]⟩
def zvzb:Sp:=λvs H Q _=>Ex4 λs out (ns:List Int) (n:Int)=>vs=[.ref s,.int n]∧H s=some (.lst out)∧All2 (SgA H) out ns∧n∈ns∧∀a (o:Int) rest,H a=some (.tup (.int n :: .int o::rest))->Q (.ref a) H
def zkpb (B:Addr):Sp:=λvs H Q _=>Ex12 λl s ha us (cs:List Pc) (os:List Nat) (ms:List (List Str)) (ly:List Int) (st kd:Str) (th:Int) av=>vs=[.ref l,.ref s,.str st,.ref ha]∧H l=some (.lst us)∧All2 (RwN B H cs os ms) us ly∧CvT H s ly∧H ha=some (.tup [.str kd,.int th,av])∧∀p H',Same H H'->H p=none->H' p=some (.lst [])->Q (.ref p) H'
def zdac (B:Addr):Sp:=λvs H Q _=>Ex12 λl s ha uv us (cs:List Pc) (os:List Nat) (ms:List (List Str)) (ly:List Int) (kd:Str) (th:Int) av=>vs=[.ref l,.ref s,.ref ha,uv]∧H l=some (.lst us)∧All2 (RwN B H cs os ms) us ly∧CvT H s ly∧H ha=some (.tup [.str kd,.int th,av])∧∀p H',Same H H'->H p=none->H' p=some (.lst [])->Q (.ref p) H'
def zjpb (B:Addr):Sp:=λvs H Q _=>Ex13 λl s ha cl us (cs:List Pc) (os:List Nat) (ms:List (List Str)) (ly:List Int) (kd:Str) (th:Int) av (ch:List Int)=>vs=[.ref l,.ref s,.ref ha,.ref cl]∧H l=some (.lst us)∧All2 (RwN B H cs os ms) us ly∧CvT H s ly∧H ha=some (.tup [.str kd,.int th,av])∧H cl=some (.lst (iM ch))∧∀t tr lf H',Same H H'->H tr=none->H lf=none->tr≠lf->H' t=some (.tup [.ref tr,.ref ha,.ref lf])->H' tr=some (.lst [])->H' lf=some (.lst (iM ch))->Q (.ref t) H'
theorem zsqb (T:Tx K mg):FnOk P w K mg base CX0 2 T.zjl.f T.zjl.d zybb zvzb:=by
 refine T.zjl.ok zzcb ?_;rintro f c A o s H vs Q E hr ⟨sl,out,ns,n,rfl,hsl,R,hn,q⟩ X;refine⟨_,  (zca (zbh yyb rfl (zcc (pv 0)) (zda (i:=2) zzcb.nd rfl (.inl rfl))
   (zfa (zrc (zxa zoh (zva zcb (pv 2) zia (λ_ _=>rfl)) (pv 1) (zfb _))
    (zfa (zsa (pv 2)))
    zeb)))
  (zfa (zsa zqh))),?_⟩
 have rl:=R.len;refine⟨_,rfl,sl,rfl,⟨_,SqL.of hsl⟩,zgh (xs:=out) (λi σ H'=>H'=H∧(∃o,σ=[some (.ref sl),some (.int n),o])∧n∈ns.drop i) ⟨rfl,⟨_,rfl⟩,hn⟩ (λi σ H' _ z=>by rw[z.1];exact SqL.of hsl) ?_ ?_⟩
 ·rintro i x σ H' hx ⟨rfl,⟨o,rfl⟩,hm⟩;obtain⟨r,hr,a,ow,rest,rfl,h1⟩:=R.get hx;refine⟨_,rfl,a,_,_,_,rfl,rfl,SqT.of h1,zpa (j:=0) rfl,_,rfl,rfl,_,rfl,?_⟩;refine ite2 (λc=>?_) (λc=>?_)
  ·have c':=of_decide_eq_true c;injection c' with c'
   rw[c'] at h1;exact⟨_,rfl,q a ow rest h1⟩
  ·refine⟨rfl,⟨_,rfl⟩,?_⟩;have hi:=(yha.mp hr).1;rw[List.drop_eq_getElem_cons hi] at hm
   rcases yja.mp hm with z|z
   ·exfalso;have er:=(yha.mp hr).2;exact c (decide_eq_true (by rw[z,er]))
   ·exact z
 ·rintro σ H' ⟨rfl,⟨o,rfl⟩,hm⟩;rw[rl,List.drop_length] at hm;cases hm
theorem zseb (T:Tx K mg):FnOk P w K mg base CX0 2 T.zlg.f T.zlg.d zaq (λ_ _ _ _=>False):=by
 refine T.zlg.F.ok zfdb (λvs H Q E h=>?_) (λcdv A outer s H vs Q E hr h=>?_)
 ·exact h.elim
 exact h.elim
theorem zwf (T:Tx K mg):FnOk P w K mg base CX0 3 T.zsb.f T.zsb.d zbm (zkpb T.znb):=by
 refine T.zsb.ok zvb ?_;rintro f c A o s H vs Q E hr ⟨l,sa,ha,us,cs,os,ms,ly,st,kd,th,av,rfl,el,LY,CV,eh,q⟩ X;refine⟨_,  (zca (zsc (pv 3) (zmc (n:=3) rfl (zea (zda (i:=4) zvb.nd rfl (.inl rfl)) (zea (zda (i:=5) zvb.nd rfl (.inl rfl)) (zea (zda (i:=6) zvb.nd rfl (.inl rfl)) zjb)))))
  (zca (zla (i:=7) zvb.nd rfl (.inl rfl) (zdc zba))
  (zca (zbh yyb rfl (zcc (pv 0)) (zmc (n:=5) rfl (zea (zda (i:=8) zvb.nd rfl (.inl rfl)) (zea (zda (i:=9) zvb.nd rfl (.inl rfl)) (zea (zda (i:=10) zvb.nd rfl (.inl rfl)) (zea (zda (i:=11) zvb.nd rfl (.inl rfl)) (zea (zda (i:=12) zvb.nd rfl (.inl rfl)) zjb))))))
   (zca (zla (i:=13) zvb.nd rfl (.inl rfl) (zva zcb (zja (zsqb T) hr rfl T.zjl.m T.zjl.F.kp (zuwb T) .nil zqa (zaa (pv 1) (zaa (pv 8) zba))) zia (λ_ _=>rfl)))
   (zfa (zbh yyb rfl (znu rfl T.zje (zaa (zee (pv 9) rfl) zba)) (zmc (n:=2) rfl (zea (zda (i:=14) zvb.nd rfl (.inl rfl)) (zea (zda (i:=15) zvb.nd rfl (.inl rfl)) zjb)))
    (zfa (zrc (PW.pt (ziqb (zxa zoh (zva zcb (pv 15) zia (λ_ _=>rfl)) (pv 2) (zfb _)) (ziqb (zxa zoh (zva zcb (pv 15) zia (λ_ _=>rfl)) (pv 4) (zfb _)) (zgqb (zph (zbn (zva zcb (pv 15) zia (λ_ _=>rfl)) T.zrsb T.zlg.M (zseb T) hr (zcjb T) .nil zqa (zaa (pv 1) (zaa (pv 8) (zaa (pv 13) (zaa (pv 5) zba))))))))))
     (zfa (zjc (zog yya ypb yqb zed (pv 7) (zaa (zra (zaa (pv 11) (zaa (pv 14) (zaa (pv 8) (zaa (pv 13) zba))))) zba))))
     zeb))))))
  (zfa (zsa (zab zti rfl T.zwg yhj (zaa (pv 7) zba))))))),?_⟩
 refine⟨_,rfl,ha,_,rfl,SqT.of eh,rfl,_,_,rfl,_,_,rfl,_,_,rfl,rfl,?_⟩;refine⟨sz0,λf hf=>?_⟩;refine laid hf λH1 S1 e1=>?_;refine⟨_,rfl,l,rfl,⟨_,SqL.of (S1 _ _ el)⟩,?_⟩;refine zgh (xs:=us) (λi σ H'=>Ex8 λ(o8 o9 o10 o11 o12 o13 o14 o15:Option V)=>σ=[some (.ref l),some (.ref sa),some (.str st),some (.ref ha),some (.str kd),some (.int th),some av,some (.ref f),o8,o9,o10,o11,o12,o13,o14,o15]∧H'=H1) ⟨_,_,_,_,_,_,_,_,rfl,rfl⟩ (λi σ H' _ ⟨_,_,_,_,_,_,_,_,_,e⟩=>by rw[e];exact SqL.of (S1 _ _ el)) ?_ ?_
 ·rintro i u σ H' hu ⟨o8,o9,o10,o11,o12,o13,o14,o15,rfl,rfl⟩;obtain⟨n,en,rw1⟩:=LY.get hu;obtain⟨out,ns,es,als,inn⟩:=CV.same S1;obtain⟨a,m,cv,k,o,came,c,mm,rfl,rfl,e2,e3,e4,ea,pc,em⟩:=rw1.kp (Kp.same S1);obtain⟨cd,dx,m2,tt,nm,kk,rfl,ecd,_,ett⟩:=pc;refine⟨a,_,rfl,SqT.of ea,rfl,_,_,rfl,_,_,rfl,_,_,rfl,_,_,rfl,_,_,rfl,rfl,?_⟩;refine⟨_,rfl,_,rfl,sa,out,ns,(k:Int),rfl,es,als,inn _ (ycb en),λra ow rest era=>?_⟩;refine⟨ra,_,_,_,rfl,rfl,SqT.of era,zpa (j:=1) rfl,?_⟩;refine⟨_,rfl,cd,_,dx,_,_,rfl,ecd,T.zih,T.zmf,zyw _ _ _ _ _,tt,_,rfl,SqT.of ett,?_⟩;refine zjfb (xs:=[]) (λi σ Hx=>Ex2 λ(o14 o15:Option V)=>σ=[some (.ref l),some (.ref sa),some (.str st),some (.ref ha),some (.str kd),some (.int th),some av,some (.ref f),some (.int (k:Int)),some (.ref cd),some (.int (o:Int)),some (.int came),some (.ref m),some (.int ow),o14,o15]∧Hx=H') ⟨_,_,rfl,rfl⟩ (λi σ Hx _ ⟨_,_,_,e⟩=>by rw[e];exact SqT.of ett) ?_ ?_
  ·intro i x σ Hx p hx;cases hx
  ·rintro σ Hx ⟨o14,o15,rfl,rfl⟩;exact⟨_,_,_,_,_,_,_,_,rfl,rfl⟩
 ·rintro σ H' ⟨o8,o9,o10,o11,o12,o13,o14,o15,rfl,rfl⟩;refine⟨_,rfl,f,[],(λ_=>[]),1,rfl,SqL.of e1,(by decide),by decide,(λ_ h=>nomatch h),ygl.nil,λp out hp po _=>?_⟩;have eo:out=[]:=yil.mp po;subst eo;refine laid hp λH2 S2 e2=>?_;exact q p H2 (S1.trans S2) (none_of S1 hp) e2
theorem zot (T:Tx K mg):FnOk P w K mg base CX0 4 T.zke.f T.zke.d zsp (zdac T.znb):=by
 refine T.zke.ok zet ?_;rintro f c A o s H vs Q E hr ⟨l,sa,ha,uv,us,cs,os,ms,ly,kd,th,av,rfl,el,LY,CV,eh,q⟩ X;refine⟨_,  (zca (zla (i:=4) zet.nd rfl (.inl rfl) (zja (zwf T) hr rfl T.zsb.m T.zsb.F.kp (zjh T) .nil zqa (zaa (pv 0) (zaa (pv 1) (zaa zkb (zaa (pv 2) zba))))))
  (zfa (zsa (zec (own:=["came","place","number","keeper"]) (cap:=["used"]) rfl (zya.chk rfl rfl) (.cons (j:=3) rfl (.inl rfl) (.inl rfl) .nil) (zcc (pv 4)) (λ_ _ _ _=>(zsl K (n:=4) rfl (zea (zda (i:=0) (show yhb (["came","place","number","keeper","used"]:List Str) by decide +kernel) rfl (.inl rfl)) (zea (zda (i:=1) (show yhb (["came","place","number","keeper","used"]:List Str) by decide +kernel) rfl (.inl rfl)) (zea (zda (i:=2) (show yhb (["came","place","number","keeper","used"]:List Str) by decide +kernel) rfl (.inl rfl)) (zea (zda (i:=3) (show yhb (["came","place","number","keeper","used"]:List Str) by decide +kernel) rfl (.inl rfl)) zjb)))))) (λ_ _ _ _=>zah (zxa (zcnb K hr.units) (zra (zaa (pv 2) (zaa (pv 1) zba))) (pv 4) rfl)) (λ_ _ _ _=>by exact (zra (zaa (pv 0) (zaa (pv 2) (zaa (pv 1) zba))))))))),?_⟩
 refine⟨_,rfl,_,rfl,_,rfl,l,sa,ha,us,cs,os,ms,ly,"instead",kd,th,av,rfl,el,LY,CV,eh,λp H1 S1 np1 e1=>?_⟩;refine⟨_,rfl,p,rfl,⟨_,SqL.of e1⟩,?_⟩;refine zyb (xs:=[]) (λi ys H'=>H'=H1∧ys=[]) (λi ys H' z=>by rw[z.1];exact SqL.of e1) ⟨rfl,rfl⟩ ?_ ?_ ?_
 ·rintro i ys H' ⟨_,rfl⟩;exact ywa _
 ·intro i v ys H' hx;cases hx
 ·rintro ys H9 ⟨rfl,rfl⟩ b hb;refine laid hb λH2 S2 e2=>?_;exact q b H2 (S1.trans S2) (none_of S1 hb) e2
theorem zpeb (T:Tx K mg):FnOk P w K mg base CX0 4 T.zfg.f T.zfg.d zvp (λ_ _ _ _=>False):=by
 refine T.zfg.F.ok zcdb (λvs H Q E h=>?_) (λcdv A outer s H vs Q E hr h=>?_)
 ·exact h.elim
 exact h.elim
theorem zqeb (T:Tx K mg):FnOk P w K mg base CX0 4 T.zfj.f T.zfj.d zgcb (λ_ _ _ _=>False):=by
 refine T.zfj.F.ok zxpb (λvs H Q E h=>?_) (λcdv A outer s H vs Q E hr h=>?_)
 ·exact h.elim
 exact h.elim
theorem zlnb (T:Tx K mg):FnOk P w K mg base CX0 4 T.zlj.f T.zlj.d zqx (λ_ _ _ _=>False):=by
 refine T.zlj.F.ok zumb (λvs H Q E h=>?_) (λcdv A outer s H vs Q E hr h=>?_)
 ·exact h.elim
 exact h.elim
theorem zyqb (T:Tx K mg):FnOk P w K mg base CX0 4 T.zil.f T.zil.d zxbb (λ_ _ _ _=>False):=by
 refine T.zil.F.ok ztpb (λvs H Q E h=>?_) (λcdv A outer s H vs Q E hr h=>?_)
 ·exact h.elim
 exact h.elim
theorem zen (T:Tx K mg):FnOk P w K mg base CX0 5 T.zbd.f T.zbd.d ztk (zjpb T.znb):=by
 refine T.zbd.ok zlb ?_;rintro f c A o s H vs Q E hr ⟨l,sa,ha,cl,us,cs,os,ms,ly,kd,th,av,ch,rfl,el,LY,CV,eh,ec,q⟩ X;refine⟨_,  (zca (zla (i:=4) zlb.nd rfl (.inl rfl) (zdc zba))
  (zca (zla (i:=5) zlb.nd rfl (.inl rfl) (zdc zba))
  (zca (zla (i:=6) zlb.nd rfl (.inl rfl) (zna zqc rfl T.zki ywh (zaa (pv 3) zba)))
  (zca (zla (i:=7) zlb.nd rfl (.inl rfl) (zja (zot T) hr rfl T.zke.m T.zke.F.kp (zcx T) .nil zqa (zaa (pv 0) (zaa (pv 1) (zaa (pv 2) (zaa (pv 5) zba))))))
  (zca (zmu yyb (zrl (pv 7) (λ_=>rfl))
   (zca (zla (i:=8) zlb.nd rfl (.inl rfl) (zja (zpeb T) hr rfl T.zfg.m T.zfg.F.kp (zxib T) .nil zqa (zaa (pv 1) (zaa (zva zcb (pv 2) zia (λ_ _=>rfl)) zba))))
   (zca (zsc (zja (zqeb T) hr rfl T.zfj.m T.zfj.F.kp (zdmb T) .nil zqa (zaa (zab zwa rfl T.zuf ysb (zaa (pv 7) zba)) (zaa (pv 6) zba))) (zmc (n:=2) rfl (zea (zda (i:=9) zlb.nd rfl (.inl rfl)) (zea (zda (i:=6) zlb.nd rfl (.inl rfl)) zjb))))
   (zca (zsc (zva zad (pv 7) (pv 9) (λ_ _=>rfl)) (zmc (n:=3) rfl (zea (zda (i:=10) zlb.nd rfl (.inl rfl)) (zea (zda (i:=11) zlb.nd rfl (.inl rfl)) (zea (zda (i:=12) zlb.nd rfl (.inl rfl)) zjb)))))
   (zca (zla (i:=13) zlb.nd rfl (.inl rfl) (zja (zlnb T) hr rfl T.zlj.m T.zlj.F.kp (zzsb T) .nil zqa (zaa (pv 0) (zaa (pv 11) (zaa (pv 12) zba)))))
   (zca (zla (i:=2) zlb.nd rfl (.inl rfl) (zja (zyqb T) hr rfl T.zil.m T.zil.F.kp (ztwb T) .nil zqa (zaa (pv 2) (zaa (zva zcb (pv 13) zia (λ_ _=>rfl)) (zaa (zva zcb (pv 13) zia (λ_ _=>rfl)) (zaa (pv 11) zba))))))
   (zca (zjc (zog yya ypb yqb zed (pv 5) (zaa (zra (zaa (pv 11) (zaa (pv 12) zba))) zba)))
   (zca (zjc (zog yya ypb yqb zed (pv 4) (zaa (zra (zaa (pv 8) (zaa (pv 11) (zaa (pv 12) (zaa (pv 2) zba))))) zba)))
   (zfa (zla (i:=7) zlb.nd rfl (.inl rfl) (zuq (zxa zfyb (pv 2) zqh (zfb _)) (zdc zba) (zja (zot T) hr rfl T.zke.m T.zke.F.kp (zcx T) .nil zqa (zaa (pv 0) (zaa (pv 1) (zaa (pv 2) (zaa (pv 5) zba))))))))))))))))
  (zfa (zsa (zra (zaa (pv 4) (zaa (pv 2) (zaa (pv 6) zba))))))))))),?_⟩
 refine⟨sz0,λtr htr=>?_⟩;refine laid htr λH1 S1 e1=>?_;refine⟨sz0,λud hud=>?_⟩;refine laid hud λH2 S2 e2=>?_;have S02:=S1.trans S2;refine⟨_,rfl,cl,_,rfl,.inl (SqL.of (S02 _ _ ec)),λlf hlf=>?_⟩;refine laid hlf λH3 S3 e3=>?_;have S03:=S02.trans S3;refine⟨_,rfl,_,rfl,_,rfl,_,rfl,l,sa,ha,.ref ud,us,cs,os,ms,ly,kd,th,av,rfl,S03 _ _ el,LY.imp λz=>z.kp (Kp.same S03),CV.same S03,S03 _ _ eh,λrl H4 S4 nrl e4=>?_⟩;refine⟨λm σ H'=>σ=[some (.ref l),some (.ref sa),some (.ref ha),some (.ref cl),some (.ref tr),some (.ref ud),some (.ref lf),some (.ref rl),none,none,none,none,none,none]∧H'=H4,⟨0,rfl,rfl⟩,?_⟩;rintro m σ H' ⟨rfl,rfl⟩;refine⟨_,rfl,_,.inl ⟨_,SqL.of e4,rfl⟩,?_⟩;refine iteF ?_;refine⟨_,rfl,_,rfl,_,rfl,sz3,λt ht=>?_⟩;refine laid ht λH5 S5 e5=>?_;have S45:=S4.trans S5;exact q t tr lf H5 (S03.trans S45) htr (none_of S02 hlf) (zka (S2 _ _ e1) hlf) e5 ((S2.trans (S3.trans S45)) _ _ e1) (S45 _ _ e3)
def zidc (B:Addr):Sp:=λvs H Q _=>Ex8 λca oa tv (t:Tab) (np nc:Nat) (cs:List Pc) (os:List Nat)=>vs=[.ref ca,.ref oa,tv]∧GC B H ca oa cs os∧TabT H tv t∧TI np nc t∧cs.length=nc∧(∀o∈os,o<np)∧∀v' (t1:Tab) H',Same H H'->TabT H' v' { t1 with gone:=zdl t }->Lv cs t t1 (outs os t)->TI np nc t1->Q v' H'
theorem TI.gone {np nc:Nat}{t:Tab}(h:TI np nc t){g:List Bool}(hg:g.length=np):TI np nc { t with gone:=g }:=⟨{ h.ok with gone:=hg },h.nd,h.rg,h.hr,h.so,h.nm⟩
theorem zefb {np nc:Nat}{t:Tab}(h:TOk np nc t):(going t).length=np:=by
 unfold going;rw[yij,h.pts,h.gone,yom]
theorem zdfb {np nc:Nat}{t:Tab}(h:TOk np nc t):(zdl t).length=np:=by
 unfold zdl;rw[yij,zefb h,h.gone,yom]
theorem zceb (T:Tx K mg):FnOk P w K mg base CX0 6 T.zcg.f T.zcg.d zrp (zidc T.znb):=by
 refine T.zcg.ok zrg ?_;rintro f c A o s H vs Q E hr ⟨ca,oa,tv,t,np,nc,cs,os,rfl,GG,TT,TI0,hc,hos,q⟩ X;have TT0:=TT;obtain⟨a,v0,v1,v2,v3,v4,v5,v6,v7,v8,rfl,ea,TP⟩:=TT;obtain⟨b0,rfl,e0⟩:=TP.p0;obtain⟨b2,rfl,e2⟩:=TP.p2;obtain⟨b5,rfl,e5⟩:=TP.p5;have TO:=TI0.ok;have np4:=TO.np4;have ly:=TO.ly;have gol:=zefb TO;obtain⟨n1,n2,n3⟩:=yfd.mp TI0.nd;refine⟨_,  (zca (zla (i:=3) zrg.nd rfl (.inr rfl) (zva zcb (pv 2) (zua (v:=.int 2) rfl T.zqm ⟨_,rfl⟩) (λ_ _=>rfl)))
  (zca (zla (i:=4) zrg.nd rfl (.inr rfl) (zec (own:=["player","points"]) (cap:=["gone"]) rfl (zya.chk rfl rfl) (.cons (j:=3) rfl (.inl rfl) (.inl rfl) .nil) (znu rfl T.zje (zaa (zva zcb (pv 2) (zua (v:=.int 0) rfl T.zlo ⟨_,rfl⟩) (λ_ _=>rfl)) zba)) (λ_ _ _ _=>(zsl K (n:=2) rfl (zea (zda (i:=0) (show yhb (["player","points","gone"]:List Str) by decide +kernel) rfl (.inl rfl)) (zea (zda (i:=1) (show yhb (["player","points","gone"]:List Str) by decide +kernel) rfl (.inl rfl)) zjb)))) (λ_ _ _ _=>zyc) (λ_ _ _ _=>by exact (zeyb (zyh zoab (pv 1) zia (zfb _)) (zzdb (zdyb (zva (zid K) (pv 2) (pv 0) (λ_ _=>rfl))))))))
  (zca (zan (i:=5) zrg.nd rfl (.inl rfl) (own:=["number"]) (cap:=["going","owners"]) rfl (zya.chk rfl rfl) (.cons (j:=4) rfl (.inl rfl) (.inl rfl) (.cons (j:=1) rfl (.inl rfl) (.inl rfl) .nil)) (zdw (zva zcb (pv 2) (zua (v:=.int 5) rfl T.zfh ⟨_,rfl⟩) (λ_ _=>rfl))) (λ_ _ _ _=>(zda (i:=0) (show yhb (["number","going","owners"]:List Str) by decide +kernel) rfl (.inl rfl))) (λ_ _ _ _=>zah (zph (zva (zjr K) (pv 1) (zva (zjr K) (pv 2) (pv 0) (λ_ _=>rfl)) (λ_ _=>rfl)))) (λ_ _ _ _=>by exact (pv 0)))
  (zca (zbh yyb rfl (zcc (pv 5)) (zda (i:=6) zrg.nd rfl (.inl rfl))
   (zfa (zla (i:=2) zrg.nd rfl (.inl rfl) (zja (ztl T) hr rfl T.zjd.m T.zjd.F.kp (zno T) .nil zqa (zaa (pv 0) (zaa (pv 2) (zaa (pv 6) zba)))))))
  (zfa (zsa (zja (zkf T).up hr rfl T.zub.m T.zub.F.kp (zvg T) .nil zqa (zaa (pv 2) (zaa (zua (v:=.int 2) rfl T.zqm ⟨_,rfl⟩) (zaa (zna zoa rfl T.zzb ymc (zaa (zec (own:=["ahead","now"]) (cap:=[]) rfl (zya.chk rfl rfl) .nil (zlvb rfl T.zztb (zaa (pv 3) (zaa (pv 4) zba))) (λ_ _ _ _=>(zsl K (n:=2) rfl (zea (zda (i:=0) (show yhb (["ahead","now"]:List Str) by decide +kernel) rfl (.inl rfl)) (zea (zda (i:=1) (show yhb (["ahead","now"]:List Str) by decide +kernel) rfl (.inl rfl)) zjb)))) (λ_ _ _ _=>zyc) (λ_ _ _ _=>by exact (zebc (pv 0) (zzdb (pv 1))))) zba)) zba)))))))))),?_⟩
 refine⟨_,rfl,a,_,_,_,rfl,rfl,SqT.of ea,zpa (j:=2) rfl,?_⟩;refine⟨_,rfl,a,_,_,_,rfl,rfl,SqT.of ea,zpa (j:=0) rfl,b0,_,rfl,SqT.of e0,?_⟩;refine zpz (xs:=iM t.pts) (λi ys H'=>Same H H'∧i≤np∧ys=((going t).take i).map V.bl) (λi ys H' z=>SqT.of (z.1 _ _ e0)) ⟨Same.refl _,ywa _,rfl⟩ ?_ ?_ ?_
 ·rintro i ys H' ⟨_,hi,rfl⟩;rw[yca,yza];exact small (by omega)
 ·rintro i v ys H' pp hv ⟨S,_,rfl⟩ hp;unfold iM at hv;rw[yia] at hv;obtain⟨x,hx,rfl⟩:=ygc.mp hv;have hi:i<np:=by rw[← TO.pts];exact (yha.mp hx).1
  obtain⟨g,hg⟩:=getx (xs:=t.gone) (i:=i) (by rw[TO.gone];exact hi);have eg:(going t)[i]?=some (decide (x≤0) && !g):=by
   unfold going;rw[yxf,hx,hg]
  refine laid hp λH1 S1 e1=>?_;have S01:=S.trans S1;refine⟨pp,_,rfl,SqT.of e1,rfl,_,_,rfl,_,_,rfl,rfl,rfl,?_⟩;rw[ydb,eg,yub,ygb];refine⟨_,rfl,_,_,rfl,rfl,_,rfl,ite2 (λc=>?_) (λc=>?_)⟩
  ·have c':decide (x≤0)=true:=c;refine⟨_,rfl,_,rfl,b2,_,_,_,rfl,rfl,SqT.of (S01 _ _ e2),zbj hg,_,rfl,S01,hi,?_⟩;rw[c',ydi];rfl
  ·have c':decide (x≤0)=false:=by simpa using c
   refine⟨S01,hi,?_⟩;rw[c',ygg];rfl
 rintro ys H1 ⟨S1,_,rfl⟩ gl hgl;rw[show (going t).take (iM t.pts).length=going t by
  unfold iM;rw[yca,TO.pts,← gol,yyd]]
 refine laid hgl λH2 S2 eg2=>?_;have S02:=S1.trans S2;have e52:=S02 _ _ e5;have eo2:=(GG.same S02).o;refine⟨_,rfl,a,_,_,_,rfl,rfl,SqT.of (S02 _ _ ea),zpa (j:=5) rfl,b5,rfl,⟨_,SqT.of e52⟩,?_⟩;refine zyl (xs:=iM t.lying) (λi ys H'=>H'=H2∧ys=iM ((t.lying.take i).filter λn=>(going t).getD (os.getD n.toNat 0) false)) (λi ys H' z=>by rw[z.1];exact SqT.of e52) ⟨rfl,rfl⟩ ?_ ?_ ?_
 ·rintro i ys H' ⟨_,rfl⟩;unfold iM;rw[yca];have h1:=yqc (λn=>(going t).getD (os.getD n.toNat 0) false) (t.lying.take i);rw[yza] at h1;exact small (by omega)
 ·rintro i v ys H' hv ⟨rfl,rfl⟩;unfold iM at hv;rw[yia] at hv;obtain⟨x,hx,rfl⟩:=ygc.mp hv;obtain⟨x0,x1⟩:=TI0.rg x (ycb hx);obtain⟨k,rfl⟩:∃k:Nat,x=(k:Int):=⟨x.toNat,by omega⟩;have gl:=GG.l;obtain⟨o,ho⟩:=getx (xs:=os) (i:=k) (by omega);have oN:=hos o (ycb ho);obtain⟨b,hb⟩:=getx (xs:=going t) (i:=o) (by rw[gol];exact oN);have eb:(going t).getD (os.getD (k:Int).toNat 0) false=b:=by
   rw[yeb,yua,yua,ho];show ((going t)[o]?).getD false=b
   rw[hb];rfl
  rw[ydb,hx,yub,yjf];refine⟨rfl,_,rfl,_,rfl,_,rfl,oa,_,_,_,rfl,rfl,SqL.of eo2,zbj ho,_,_,_,_,rfl,rfl,SqL.of eg2,zbj hb,_,rfl,ite2 (λc=>?_) (λc=>?_)⟩
  ·refine⟨_,rfl,rfl,?_⟩;rw[ywd (by rw[eb];exact c)];unfold iM;rw[ygb];rfl
  ·refine⟨rfl,?_⟩;rw[yxd (by rw[eb];exact c)];simp
 rintro ys H3 ⟨rfl,rfl⟩ th hth;rw[show (t.lying.take (iM t.lying).length)=t.lying by
  unfold iM;rw[yca,yyd]]
 refine laid hth λH4 S4 e4=>?_;have e4':H4 th=some (.lst (iM (outs os t))):=e4;have S04:=S02.trans S4;refine⟨_,rfl,th,rfl,⟨_,SqL.of e4'⟩,?_⟩;have ond:(outs os t).Nodup:=n1.sublist yfm;refine zgh (xs:=iM (outs os t)) (λi σ H'=>Ex3 λtv (tx:Tab) o6=>σ=[some (.ref ca),some (.ref oa),some tv,some (.ref b2),some (.ref gl),some (.ref th),o6]∧Same H4 H'∧TabT H' tv tx∧TI np nc tx∧Lv cs t tx ((outs os t).take i)) ⟨.ref a,t,_,rfl,Same.refl _,TT0.kp (Kp.same S04),TI0,.nil⟩ (λi σ H' _ ⟨_,_,_,_,S,_⟩=>SqL.of (S _ _ e4')) ?_ ?_
 ·rintro i v σ H' hv ⟨tv,tx,o6,rfl,S,TTx,TIx,LV⟩;unfold iM at hv;rw[yia] at hv;obtain⟨x,hx,rfl⟩:=ygc.mp hv;have hm:=(yjd.mp (ycb hx)).1;obtain⟨x0,x1⟩:=TI0.rg x hm;obtain⟨k,rfl⟩:∃k:Nat,x=(k:Int):=⟨x.toNat,by omega⟩;have hin:(k:Int)∈tx.lying:=by
   rw[LV.lying];refine yjd.mpr ⟨hm,?_⟩;have:(k:Int)∉(outs os t).take i:=λz=>by
    obtain⟨j,hj⟩:=yzi z;have jl:=(yha.mp hj).1;rw[yza] at jl;rw[yoh (by omega)] at hj;have w:=(yis (j:=i) (yha.mp hj).1 ond).mp (by rw[hj,hx]);omega
   simp[this]
  have S0:=S04.trans S;have GGx:=GG.same S0;refine⟨_,rfl,_,rfl,_,rfl,ca,tv,tx,np,nc,k,cs.map (·.marks),rfl,GGx.cds,TTx,TIx.ok,by omega,by rw[yca];exact hc,λv' t' H5 S5 TT5 cr=>?_⟩;refine⟨v',t',_,rfl,S.trans S5,TT5,(TIx.leave hin GG.k cr).1,?_⟩;rw[ydb,hx];exact LV.snoc TIx hin GG.k cr
 rintro σ H5 ⟨tv,tx,o6,rfl,S5,TTx,TIx,LV⟩;rw[show (outs os t).take (iM (outs os t)).length=outs os t by
  unfold iM;rw[yca,yyd]] at LV
 have S45:=S04.trans S5;have S25:=S4.trans S5;refine⟨_,rfl,_,rfl,_,rfl,b2,gl,_,_,rfl,SqT.of (S45 _ _ e2),SqL.of (S25 _ _ eg2),?_⟩;refine zvnb (xs:=t.gone.map V.bl) (zs:=(going t).map V.bl) (λi ys H'=>Same H5 H'∧i≤np∧ys=((zdl t).take i).map V.bl) (by rw[yca,yca,gol,TO.gone]) (λi ys H' z=>⟨SqT.of ((S45.trans z.1) _ _ e2),SqL.of ((S25.trans z.1) _ _ eg2)⟩) ⟨Same.refl _,ywa _,rfl⟩ ?_ ?_ ?_
 ·rintro i ys H' ⟨_,hi,rfl⟩;rw[yca,yza];exact small (by omega)
 ·rintro i x y ys H' pp hx hy ⟨S,_,rfl⟩ hp;rw[yia] at hx hy;obtain⟨g,hg,rfl⟩:=ygc.mp hx;obtain⟨b,hb,rfl⟩:=ygc.mp hy;have hi:i<np:=by rw[← gol];exact (yha.mp hb).1
  have eg:(zdl t)[i]?=some (g||b):=by
   unfold zdl;rw[yxf,hg,hb]
  refine laid hp λH6 S6 e6=>?_;refine⟨pp,_,rfl,SqT.of e6,rfl,_,_,rfl,_,_,rfl,rfl,rfl,?_⟩;rw[ydb,eg,yub,ygb];refine⟨_,rfl,_,rfl,?_⟩;cases g with
  | true=>exact⟨S.trans S6,hi,rfl⟩
  | false=>exact⟨_,rfl,S.trans S6,hi,rfl⟩
 rintro ys H6 ⟨S6,_,rfl⟩ l hl;rw[show (zdl t).take (t.gone.map V.bl).length=zdl t by
  rw[yca,TO.gone,← zdfb TO,yyd]]
 refine laid hl λH7 S7 e7=>?_;refine⟨l,_,rfl,.inl ⟨SqL.of e7,λtm htm=>?_⟩⟩;refine laid htm λH8 S8 e8=>?_;have S58:=S6.trans (S7.trans S8);obtain⟨a',w0,w1,w2,w3,w4,w5,w6,w7,w8,rfl,ea',TPx⟩:=TTx.kp (Kp.same S58);refine⟨a',_,2,.ref tm,rfl,ea',(by show 2<9;decide),(by show 9≤1000;decide),λr H9 S9 e9=>?_⟩;have TP9:=TPx.kp (Kp.same S9);refine q (.ref r) tx H9 (S45.trans (S58.trans S9)) ⟨r,w0,w1,.ref tm,w3,w4,w5,w6,w7,w8,rfl,e9,?_⟩ LV TIx;exact { TP9 with p2:=⟨tm,rfl,S9 _ _ e8⟩ }
theorem zjv {G:Prop}{Kx pre:V->Hp->Prop}(g:(∀v Hs,pre v Hs->Kx v Hs)->G)(k:∀v Hs,pre v Hs->Kx v Hs):G:=g k
theorem ziwb {cms:List (List Str)}{t t':Tab}{n:Nat}{av:V}{kd:Str}(hn:(n:Int)∈t.lying){th:Int}(e:th=(n:Int))(h:HpR cms t kd th av t'):CrR cms t n av kd t':=by
 cases h with
 | no z =>
  exfalso;unfold hpM at z;rw[if_neg (by omega),e,decide_eq_true hn,Bool.or_true] at z;cases z
 | pl=>omega
 | @cr m _ _ _ c =>
  have:m=n:=by omega
  rw[← this];exact c
def zwub (B:Addr):Sp:=λvs H Q _=>Ex11 λca oa sa ha tv (t:Tab) (np nc n:Nat) (cs:List Pc) (os:List Nat)=>vs=[.ref ca,.ref oa,tv,.ref sa,.ref ha]∧GC B H ca oa cs os∧TabT H tv t∧TI np nc t∧cs.length=nc∧CvT H sa t.lying∧H ha=some (.tup [.str "leave",.int (n:Int),.int 0])∧(n:Int)∈t.lying∧∀r s' m v' (t':Tab) H',Same H H'->TabT H' v' t'->CrR (cs.map (·.marks)) t n (.int 0) "leave" t'->H' r=some (.tup [v',.ref s',.ref m])->CvT H' s' t'.lying->(s'=sa∨H s'=none)->H m=none->H' m=some (.lst [])->Q (.ref r) H'
theorem zgnb (T:Tx K mg)(kb:K.In base):FnOk P w K mg base CX0 8 T.ztd.f T.ztd.d ztr (zwub T.znb):=by
 refine T.ztd.ok zrd ?_;rintro f c A o s H vs Q E hr ⟨ca,oa,sa,ha,tv,t,np,nc,n,cs,os,rfl,GG,TT,TI0,hc,CV,eh,hn,q⟩ X;have rn:=TI0.rg _ hn;refine⟨_,  (zca (zla (i:=5) zrd.nd rfl (.inl rfl) (zja (zieb T) hr rfl T.zej.m T.zej.F.kp (zcmb T) .nil zqa (zaa (pv 0) (zaa (pv 2) (zaa (pv 4) zba)))))
  (zca (zla (i:=6) zrd.nd rfl (.inl rfl) (pv 3))
  (zca (zrc (zxa (zvq hr.units) (zra (zaa (zva zcb (pv 5) (zua (v:=.int 5) rfl T.zfh ⟨_,rfl⟩) (λ_ _=>rfl)) (zaa (zva zcb (pv 5) (zua (v:=.int 7) rfl T.zvj ⟨_,rfl⟩) (λ_ _=>rfl)) zba))) (zra (zaa (zva zcb (pv 2) (zua (v:=.int 5) rfl T.zfh ⟨_,rfl⟩) (λ_ _=>rfl)) (zaa (zva zcb (pv 2) (zua (v:=.int 7) rfl T.zvj ⟨_,rfl⟩) (λ_ _=>rfl)) zba))) (zfb _))
   (zfa (zla (i:=6) zrd.nd rfl (.inl rfl) (zja (zsj T kb).up hr rfl T.ztc.m T.ztc.F.kp (zel T) .nil zqa (zaa (pv 0) (zaa (pv 1) (zaa (pv 5) zba))))))
   zeb)
  (zca (zrc (zxa zoh (zva zcb (pv 4) zia (λ_ _=>rfl)) zkb (zfb _))
   (zfa (zla (i:=7) zrd.nd rfl (.inl rfl) (zja (zwf T).up hr rfl T.zsb.m T.zsb.F.kp (zjh T) .nil zqa (zaa (zja (zai T).up hr rfl T.zkc.m T.zkc.F.kp (zwj T) .nil zqa (zaa (pv 0) (zaa (pv 1) (zaa (pv 2) zba)))) (zaa (pv 3) (zaa zkb (zaa (pv 4) zba)))))))
   (zfa (zla (i:=7) zrd.nd rfl (.inl rfl) (zja (zwf T).up hr rfl T.zsb.m T.zsb.F.kp (zjh T) .nil zqa (zaa (zja (zai T).up hr rfl T.zkc.m T.zkc.F.kp (zwj T) .nil zqa (zaa (pv 0) (zaa (pv 1) (zaa (pv 5) zba)))) (zaa (pv 6) (zaa zkb (zaa (pv 4) zba))))))))
  (zfa (zsa (zra (zaa (pv 5) (zaa (pv 6) (zaa (zec (own:=["came","place","number","keeper"]) (cap:=[]) rfl (zya.chk rfl rfl) .nil (zcc (pv 7)) (λ_ _ _ _=>(zsl K (n:=4) rfl (zea (zda (i:=0) (show yhb (["came","place","number","keeper"]:List Str) by decide +kernel) rfl (.inl rfl)) (zea (zda (i:=1) (show yhb (["came","place","number","keeper"]:List Str) by decide +kernel) rfl (.inl rfl)) (zea (zda (i:=2) (show yhb (["came","place","number","keeper"]:List Str) by decide +kernel) rfl (.inl rfl)) (zea (zda (i:=3) (show yhb (["came","place","number","keeper"]:List Str) by decide +kernel) rfl (.inl rfl)) zjb)))))) (λ_ _ _ _=>zyc) (λ_ _ _ _=>by exact (zra (zaa (pv 3) (zaa (pv 2) (zaa (pv 1) zba)))))) zba)))))))))),?_⟩
 refine⟨_,rfl,_,rfl,_,rfl,ca,tv,ha,t,np,nc,(n:Int),cs.map (·.marks),"leave",.int 0,rfl,GG.cds,TT,TI0.ok,eh,by omega,by omega,by rw[yca];exact hc,λz=>by omega,λ_=>.inr (.inl rfl),λv' t' H1 S1 TT1 hp=>?_⟩;have cr:=ziwb hn rfl hp;obtain⟨TI1,_⟩:=TI0.leave hn GG.k cr;have lsub:∀x∈t'.lying,x∈t.lying:=λx hx=>by
  cases cr with
  | leave _ _ _=>exact (yjd.mp hx).1
 refine⟨_,rfl,?_⟩;obtain⟨a,v0,v1,v2,v3,v4,v5,v6,v7,v8,rfl,ea,TP⟩:=id TT;obtain⟨a1,w0,w1,w2,w3,w4,w5,w6,w7,w8,rfl,ea1,TP1⟩:=id TT1;refine⟨_,rfl,a1,_,_,_,rfl,rfl,SqT.of ea1,zpa (j:=5) rfl,_,rfl,a1,_,_,_,rfl,rfl,SqT.of ea1,zpa (j:=7) rfl,sz2,λp1 hp1=>?_⟩;refine laid hp1 λH2 S2 e2=>?_;have S02:=S1.trans S2;refine⟨_,rfl,a,_,_,_,rfl,rfl,SqT.of (S02 _ _ ea),zpa (j:=5) rfl,_,rfl,a,_,_,_,rfl,rfl,SqT.of (S02 _ _ ea),zpa (j:=7) rfl,sz2,λp2 hp2=>?_⟩;refine laid hp2 λH3 S3 e3=>?_;have S03:=S02.trans S3;have S13:=S2.trans S3;have TPa:=TP.kp (Kp.same S03);have TPb:=TP1.kp (Kp.same S13);refine⟨lmD t',lmD t,.tup (SqT.of (S3 _ _ e2)) (.cons (zay TPb.p5) (.cons (zapb TPb.p7) .nil)),.tup (SqT.of e3) (.cons (zay TPa.p5) (.cons (zapb TPa.p7) .nil)),zfr TI1.nm,zfr TI0.nm,_,rfl,?_⟩;refine' zjv (pre:=λv Hs=>∃s',v = .ref s'∧Same H3 Hs∧CvT Hs s' t'.lying∧(s'=sa∨H s'=none)) (λkk=>?g1) ?k1
 case g1 =>
  refine ite2 (λc=>?a) (λc=>?b)
  case a =>
   refine⟨_,rfl,_,rfl,_,rfl,ca,oa,.ref a1,t',np,nc,cs,os,rfl,GG.same S03,TT1.kp (Kp.same S13),TI1,hc,λp out ns H4 S4 np4 e4 al pn so=>?_⟩;obtain⟨v4,hv4⟩:∃x,x=V.ref p:=⟨_,rfl⟩;rw[← hv4];exact kk v4 H4 ⟨p,hv4,S4,⟨out,ns,e4,al.imp λz=>z.a,λx hx=>pn.mem_iff.mpr hx⟩,.inr (none_of S03 np4)⟩
  case b=>exact kk (.ref sa) H3 ⟨sa,rfl,Same.refl _,(CV.same S03).less lsub,.inl rfl⟩
 case k1 =>
 rintro _ H4 ⟨s',rfl,S4,CV4,hs'⟩;have S04:=S03.trans S4;refine⟨_,rfl,ha,_,_,_,rfl,rfl,SqT.of (S04 _ _ eh),zpa (j:=0) rfl,rfl,_,rfl,iteT ?_⟩;refine⟨_,rfl,_,rfl,_,rfl,ca,oa,.ref a,t,np,nc,cs,os,rfl,GG.same S04,TT.kp (Kp.same S04),TI0,hc,λp us H5 S5 np5 e5 al=>?_⟩;have S05:=S04.trans S5;refine⟨_,rfl,_,rfl,p,sa,ha,us,cs,os,t.marks,t.lying,"when","leave",(n:Int),.int 0,rfl,e5,al,CV.same S05,S05 _ _ eh,λm H6 S6 nm6 e6=>?_⟩;refine⟨_,rfl,_,rfl,_,rfl,m,rfl,⟨_,SqL.of e6⟩,?_⟩;refine zyb (xs:=[]) (λi ys H'=>H'=H6∧ys=[]) (λi ys H' z=>by rw[z.1];exact SqL.of e6) ⟨rfl,rfl⟩ ?_ ?_ ?_
 ·rintro i ys H' ⟨_,rfl⟩;exact ywa _
 ·intro i v ys H' hx;cases hx
 ·rintro ys H9 ⟨rfl,rfl⟩ b hb;refine laid hb λH7 S7 e7=>?_;refine⟨sz3,λr hr'=>?_⟩;refine laid hr' λH8 S8 e8=>?_;have S48:=S5.trans (S6.trans (S7.trans S8));exact q r s' b (.ref a1) t' H8 (S04.trans S48) (TT1.kp (Kp.same (S13.trans (S4.trans S48)))) cr e8 (CV4.same S48) hs' (none_of (S05.trans S6) hb) (S8 _ _ e7)
def LgT (F H:Hp)(u:V)(n:Int):Prop:=Ex3 λa h tr=>u = .ref a∧H a=some (.tup [.ref h,.ref tr,.ref h])∧H h=some (.tup [.str "leave",.int n,.int 0])∧H tr=some (.lst [])∧F tr=none
theorem LgT.same {F H H':Hp}(s:Same H H'){u:V}{n:Int}(h:LgT F H u n):LgT F H' u n:=by
 obtain⟨a,h,tr,e,h1,h2,h3,h4⟩:=h;exact⟨a,h,tr,e,s _ _ h1,s _ _ h2,s _ _ h3,h4⟩
theorem LgT.put {F H:Hp}{y:Addr}{ys ws:List V}(e:H y=some (.lst ys))(hy:F y≠none){u:V}{n:Int}(h:LgT F H u n):LgT F (upd H y (.lst ws)) u n:=by
 obtain⟨a,h,tr,eu,h1,h2,h3,h4⟩:=h;exact⟨a,h,tr,eu,(Kp.put e).t h1,(Kp.put e).t h2,by rw[zbb (λz=>hy (by rw[← z];exact h4))];exact h3,h4⟩
theorem LgT.bas {F G H:Hp}(g:∀a,F a=none->G a=none){u:V}{n:Int}(h:LgT F H u n):LgT G H u n:=by
 obtain⟨a,h,tr,e,h1,h2,h3,h4⟩:=h;exact⟨a,h,tr,e,h1,h2,h3,g _ h4⟩
def HpN (H:Hp)(u:V)(n:Int):Prop:=∃a,u = .ref a∧H a=some (.tup [.str "leave",.int n,.int 0])
theorem HpN.kp {H H':Hp}(s:Kp H H'){u:V}{n:Int}(h:HpN H u n):HpN H' u n:=by
 obtain⟨a,e,h⟩:=h;exact⟨a,e,s.t h⟩
def ResT (F H:Hp)(r:Addr)(t:Tab)(ns ch:List Int):Prop:=Ex5 λv lg c2 lf us=>H r=some (.tup [v,.ref lg,.ref c2,.ref lf])∧TabT H v t∧H lg=some (.lst us)∧All2 (LgT F H) us ns∧H c2=some (.lst [])∧H lf=some (.lst (iM ch))∧F lg=none∧F c2=none∧F lf=none∧lg≠c2∧lg≠lf∧c2≠lf
def zkac (B:Addr):Sp:=λvs H Q _=>Ex14 λca oa sa hl cl tv (t:Tab) (np nc:Nat) (cs:List Pc) (os:List Nat) hs (ns ch:List Int)=>vs=[.ref ca,.ref oa,tv,.ref sa,.ref hl,.ref cl]∧GC B H ca oa cs os∧TabT H tv t∧TI np nc t∧cs.length=nc∧CvT H sa t.lying∧H hl=some (.lst hs)∧All2 (HpN H) hs ns∧ns.Nodup∧(∀n∈ns,n∈t.lying)∧H cl=some (.lst (iM ch))∧∀r (t':Tab) H',Same H H'->Lv cs t t' ns->TI np nc t'->ResT H H' r t' ns ch->Q (.ref r) H'
theorem grow {F H:Hp}(h:Same F H):∀a,H a=none->F a=none:=λ_ z=>none_of h z
theorem zru {F H:Hp}{y:Addr}{o:HO}(e:∀a,H a=none->F a=none)(hy:H y≠none):∀a,upd H y o a=none->F a=none:=λa z=>by
 by_cases c:a=y
 ·rw[c,zta] at z;cases z
 ·rw[zbb c] at z;exact e a z
theorem zenb (T:Tx K mg)(kb:K.In base):FnOk P w K mg base CX0 9 T.zse.f T.zse.d zsr (zkac T.znb):=by
 refine T.zse.ok zrb ?_;rintro f c A o s H vs Q E hr ⟨ca,oa,sa,hl,cl,tv,t,np,nc,cs,os,hs,ns,ch,rfl,GG,TT,TI0,hc,CV,ehl,alh,nnd,nin,ecl,q⟩ X;refine⟨_,  (zca (zla (i:=6) zrb.nd rfl (.inl rfl) (zdc zba))
  (zca (zla (i:=7) zrb.nd rfl (.inl rfl) (zdc zba))
  (zca (zla (i:=8) zrb.nd rfl (.inl rfl) (zna zqc rfl T.zki ywh (zaa (pv 5) zba)))
  (zca (zbh yyb rfl (zcc (pv 4)) (zda (i:=9) zrb.nd rfl (.inl rfl))
   (zfa (zrc (zph (zja (zfs T).up hr rfl T.zaf.m T.zaf.F.kp (zdx T) .nil zqa (zaa (pv 2) (zaa (pv 9) zba))))
    (zca (zsc (zja (zen T).up hr rfl T.zbd.m T.zbd.F.kp (zwo T) .nil zqa (zaa (zja (zai T).up hr rfl T.zkc.m T.zkc.F.kp (zwj T) .nil zqa (zaa (pv 0) (zaa (pv 1) (zaa (pv 2) zba)))) (zaa (pv 3) (zaa (pv 9) (zaa (pv 8) zba))))) (zmc (n:=3) rfl (zea (zda (i:=10) zrb.nd rfl (.inl rfl)) (zea (zda (i:=11) zrb.nd rfl (.inl rfl)) (zea (zda (i:=8) zrb.nd rfl (.inl rfl)) zjb)))))
    (zca (zjc (zog yya ypb yqb zed (pv 6) (zaa (zra (zaa (pv 9) (zaa (pv 10) (zaa (pv 11) zba)))) zba)))
    (zfa (zrc (zxa zds (pv 11) zqh (zfb _))
     (zca (zsc (zja (zgnb T kb) hr rfl T.ztd.m T.ztd.F.kp (zex T) .nil zqa (zaa (pv 0) (zaa (pv 1) (zaa (pv 2) (zaa (pv 3) (zaa (pv 11) zba)))))) (zmc (n:=3) rfl (zea (zda (i:=2) zrb.nd rfl (.inl rfl)) (zea (zda (i:=3) zrb.nd rfl (.inl rfl)) (zea (zda (i:=12) zrb.nd rfl (.inl rfl)) zjb)))))
     (zfa (zjc (zog yya yef yff zbl (pv 7) (zaa (pv 12) zba)))))
     zeb))))
    zeb)))
  (zfa (zsa (zra (zaa (pv 2) (zaa (pv 6) (zaa (pv 7) (zaa (pv 8) zba))))))))))),?_⟩
 refine⟨sz0,λlg hlg=>?_⟩;refine laid hlg λH1 S1 e1=>?_;refine⟨sz0,λc2 hc2=>?_⟩;refine laid hc2 λH2 S2 e2=>?_;have S02:=S1.trans S2;refine⟨_,rfl,cl,_,rfl,.inl (SqL.of (S02 _ _ ecl)),λlf0 hlf0=>?_⟩;refine laid hlf0 λH3 S3 e3=>?_;have S03:=S02.trans S3;have e13:=(S2.trans S3) _ _ e1;have e23:=S3 _ _ e2;have fc2:H c2=none:=none_of S1 hc2;have n12:lg≠c2:=zka e1 hc2;have hal:=alh.len;have nl16:ns.length≤16:=yob (yuk nnd λn hn=>nin n hn) TI0.ok.ly;obtain⟨outs0,nss0,esa,_⟩:=id CV;refine⟨_,rfl,hl,rfl,⟨_,SqL.of (S03 _ _ ehl)⟩,?_⟩;refine zgh (xs:=hs) (λi σ Hx=>Ex9 λtv s' lf (tx:Tab) us o9 o10 o11 o12=>σ=[some (.ref ca),some (.ref oa),some tv,some (.ref s'),some (.ref hl),some (.ref cl),some (.ref lg),some (.ref c2),some (.ref lf),o9,o10,o11,o12]∧Same H Hx∧(∀a,Hx a=none->H3 a=none)∧TabT Hx tv tx∧TI np nc tx∧Lv cs t tx (ns.take i)∧CvT Hx s' tx.lying∧s'≠lg∧s'≠c2∧Hx lg=some (.lst us)∧All2 (LgT H3 Hx) us (ns.take i)∧Hx c2=some (.lst [])∧Hx lf=some (.lst (iM ch))∧lf≠lg∧lf≠c2∧H lf=none) ⟨tv,sa,lf0,t,[],_,_,_,_,rfl,S03,λ_ z=>z,TT.kp (Kp.same S03),TI0,.nil,CV.same S03,zka esa hlg,zka esa fc2,e13,.nil,e23,e3,ysc (zka (S2 _ _ e1) hlf0),ysc (zka e2 hlf0),none_of S02 hlf0⟩ (λi σ Hx _ ⟨_,_,_,_,_,_,_,_,_,_,S,_⟩=>SqL.of (S _ _ ehl)) ?_ ?_
 ·rintro i u σ Hx hu ⟨tv,s',lf,tx,us,o9,o10,o11,o12,rfl,S,gr,TTx,TIx,LV,CVx,ns1,ns2,elg,alg,ec2,elf,nf1,nf2,flf⟩;obtain⟨n0,en,ha,rfl,eh⟩:=alh.get hu;have hi:i<hs.length:=(yha.mp hu).1;have hm:=nin n0 (ycb en);obtain⟨x0,x1⟩:=TI0.rg n0 hm;obtain⟨n,rfl⟩:∃k:Nat,n0=(k:Int):=⟨n0.toNat,by omega⟩;have hin:(n:Int)∈tx.lying:=by
   rw[LV.lying];refine yjd.mpr ⟨hm,?_⟩;have:(n:Int)∉ns.take i:=λz=>by
    obtain⟨j,hj⟩:=yzi z;have jl:=(yha.mp hj).1;rw[yza] at jl;rw[yoh (by omega)] at hj;have w:=(yis (j:=i) (yha.mp hj).1 nnd).mp (by rw[hj,en]);omega
   simp[this]
  refine⟨_,rfl,_,rfl,tv,ha,tx,np,nc,"leave",(n:Int),.int 0,rfl,TTx,TIx.ok,S _ _ eh,by omega,λH4 S4=>?_⟩;have hh:hpM tx "leave" (n:Int)=true:=by
   unfold hpM;rw[if_neg (by omega),decide_eq_true hin,Bool.or_true]
  refine⟨_,rfl,?_⟩;rw[hh];refine iteT ?_;have S04:=S.trans S4;refine⟨_,rfl,_,rfl,_,rfl,ca,oa,tv,tx,np,nc,cs,os,rfl,GG.same S04,TTx.kp (Kp.same S4),TIx,hc,λrw5 ru H5 S5 nr5 e5 al5=>?_⟩;have S45:=S4.trans S5;have S05:=S.trans S45;refine⟨_,rfl,_,rfl,_,rfl,rw5,s',ha,lf,ru,cs,os,tx.marks,tx.lying,"leave",(n:Int),.int 0,ch,rfl,e5,al5,CVx.same S45,S05 _ _ eh,S45 _ _ elf,λtp tr lf' H6 S6 ftr flf' ntl e6 etr elf6=>?_⟩;have S46:=S45.trans S6;have S06:=S.trans S46;refine⟨tp,_,rfl,SqT.of e6,rfl,_,_,rfl,_,_,rfl,_,_,rfl,rfl,?_⟩;have elg6:=S46 _ _ elg;have ec26:=S46 _ _ ec2;refine⟨_,rfl,.inl ⟨rfl,_,SqL.of elg6⟩,_,rfl,_,rfl,_,rfl,sz3,λet het=>?_⟩;refine laid het λH7 S7 e7=>?_;have S47:=S46.trans S7;have S07:=S06.trans S7;have elg7:=S7 _ _ elg6;have ul:=alg.len;rw[yza] at ul;refine⟨lg,_,_,rfl,rfl,elg7,zvf (by omega),?_⟩;have S08:Same H (upd H7 lg (.lst (us++[.ref et]))):=zve S07 hlg _;have kp8:Kp H7 (upd H7 lg (.lst (us++[.ref et]))):=Kp.put elg7;have ftr3:H3 tr=none:=gr _ (none_of S45 ftr);have ntr:tr≠lg:=λz=>by rw[z,e13] at ftr3;cases ftr3
  have flg3:H3 lg≠none:=by rw[e13];intro z;cases z
  have alg8:All2 (LgT H3 (upd H7 lg (.lst (us++[.ref et])))) (us++[.ref et]) (ns.take (i+1)):=by
   rw[ydb,en];refine All2.snoc ⟨et,ha,tr,rfl,kp8.t e7,kp8.t (S07 _ _ eh),?_,ftr3⟩ (alg.imp λz=>(z.same S47).put elg7 flg3);rw[zbb ntr];exact S7 _ _ etr
  have lf'lg:lf'≠lg:=ysc (zka (S45 _ _ elg) flf');have lf'c2:lf'≠c2:=ysc (zka (S45 _ _ ec2) flf');have elg8:upd H7 lg (.lst (us++[.ref et])) lg=some (.lst (us++[.ref et])):=zta;have ec28:upd H7 lg (.lst (us++[.ref et])) c2=some (.lst []):=by rw[zbb (ysc n12)];exact S7 _ _ ec26
  have elf8:upd H7 lg (.lst (us++[.ref et])) lf'=some (.lst (iM ch)):=by rw[zbb lf'lg];exact S7 _ _ elf6
  have CV8:CvT (upd H7 lg (.lst (us++[.ref et]))) s' tx.lying:=(CVx.same S47).at kp8 λxs z=>by rw[zbb ns1];exact z
  have TT8:=(TTx.kp (Kp.same S47)).kp kp8;have gr8:∀a,upd H7 lg (.lst (us++[.ref et])) a=none->H3 a=none:=zru (λa z=>gr a (none_of S47 z)) (by rw[elg7];intro z;cases z);generalize upd H7 lg (.lst (us++[.ref et]))=H8 at S08 alg8 elg8 ec28 elf8 CV8 TT8 gr8 ⊢;clear kp8;refine⟨_,rfl,rfl,_,rfl,iteT ?_⟩;refine⟨_,rfl,_,rfl,_,rfl,_,rfl,_,rfl,ca,oa,s',ha,tv,tx,np,nc,n,cs,os,rfl,GG.same S08,TT8,TIx,hc,CV8,S08 _ _ eh,hin,λr9 s9 m9 v9 t9 H9 S9 TT9 cr e9 CV9 hs9 fm9 em9=>?_⟩;refine⟨r9,_,rfl,SqT.of e9,rfl,_,_,rfl,_,_,rfl,_,_,rfl,rfl,?_⟩;have ec29:=S9 _ _ ec28;refine⟨_,rfl,.inl ⟨rfl,_,SqL.of ec29⟩,_,rfl,c2,m9,_,_,rfl,rfl,ec29,em9,(by decide),?_⟩;have S09:=S08.trans S9;have kpA:Kp H9 (upd H9 c2 (.lst ([]++[]))):=Kp.put ec29;have flc3:H3 c2≠none:=by rw[e23];intro z;cases z
  have s9n:s9≠lg∧s9≠c2:=by
   rcases hs9 with z|z
   ·rw[z];exact⟨ns1,ns2⟩
   ·exact⟨ysc (zka elg8 z),ysc (zka ec28 z)⟩
  refine⟨v9,s9,lf',t9,us++[.ref et],_,_,_,_,rfl,zve S09 fc2 _,zru (λa z=>gr8 a (none_of S9 z)) (by rw[ec29];intro z;cases z),TT9.kp kpA,(TIx.leave hin GG.k cr).1,?_,CV9.at kpA (λxs z=>by rw[zbb s9n.2];exact z),s9n.1,s9n.2,by rw[zbb n12];exact S9 _ _ elg8,alg8.imp λz=>(z.same S9).put ec29 flc3,zta,by rw[zbb lf'c2];exact S9 _ _ elf8,lf'lg,lf'c2,none_of S05 flf'⟩;rw[ydb,en];exact LV.snoc TIx hin GG.k cr
 ·rintro σ Hx ⟨tv,s',lf,tx,us,o9,o10,o11,o12,rfl,S,gr,TTx,TIx,LV,CVx,ns1,ns2,elg,alg,ec2,elf,nf1,nf2,flf⟩;rw[hal,yyd] at LV alg;refine⟨_,rfl,_,rfl,_,rfl,_,rfl,sz4,λr hr'=>?_⟩;refine laid hr' λH5 S5 e5=>?_;exact q r tx H5 (S.trans S5) LV TIx ⟨tv,lg,c2,lf,us,e5,TTx.kp (Kp.same S5),S5 _ _ elg,alg.imp λz=>(z.same S5).bas (grow S03),S5 _ _ ec2,S5 _ _ elf,hlg,fc2,flf,n12,ysc nf1,ysc nf2⟩
theorem All2.app {α β:Type}{R:α->β->Prop}{as cs:List α}{bs ds:List β}(x:All2 R as bs)(y:All2 R cs ds):All2 R (as++cs) (bs++ds):=by
 induction x with
 | nil=>exact y
 | cons h _ ih=>exact .cons h ih
def zgkb (B:Addr):Sp:=λvs H Q _=>Ex10 λca oa cl tv (t:Tab) (np nc:Nat) (cs:List Pc) (os:List Nat) (ch:List Int)=>vs=[.ref ca,.ref oa,tv,.ref cl]∧GC B H ca oa cs os∧TabT H tv t∧TI np nc t∧cs.length=nc∧(∀o∈os,o<np)∧H cl=some (.lst (iM ch))∧∀r (t':Tab) (ns:List Int) H',Same H H'->Lk cs os t t' ns->TI np nc t'->ResT H H' r t' ns ch->Q (.ref r) H'
theorem zibc (T:Tx K mg)(kb:K.In base):FnOk P w K mg base CX0 10 T.zyu.f T.zyu.d zitb (zgkb T.znb):=by
 refine T.zyu.ok zcab ?_;rintro f c A o s H vs Q E hr ⟨ca,oa,cl,tv,t,np,nc,cs,os,ch,rfl,GG,TT,TI0,hc,hos,ecl,q⟩ X;refine⟨_,  (zca (zla (i:=2) zcab.nd rfl (.inr rfl) (zja (zceb T).up hr rfl T.zcg.m T.zcg.F.kp (zuib T) .nil zqa (zaa (pv 0) (zaa (pv 1) (zaa (pv 2) zba)))))
  (zca (zla (i:=4) zcab.nd rfl (.inl rfl) (zja (zsj T kb).up hr rfl T.ztc.m T.ztc.F.kp (zel T) .nil zqa (zaa (pv 0) (zaa (pv 1) (zaa (pv 2) zba)))))
  (zca (zan (i:=5) zcab.nd rfl (.inl rfl) (own:=["row"]) (cap:=["table"]) rfl (zya.chk rfl rfl) (.cons (j:=2) rfl (.inl rfl) (.inl rfl) .nil) (zcc (pv 4)) (λ_ _ _ _=>(zda (i:=0) (show yhb (["row","table"]:List Str) by decide +kernel) rfl (.inl rfl))) (λ_ _ _ _=>zah (zxa zchc (zva (zid K) (zva (zid K) (pv 1) (zua (v:=.int 8) rfl T.zwl ⟨_,rfl⟩) (λ_ _=>rfl)) (zva (zid K) (pv 0) zia (λ_ _=>rfl)) (λ_ _=>rfl)) (zva (zid K) (pv 0) zia (λ_ _=>rfl)) (zfb _))) (λ_ _ _ _=>by exact (zra (zaa zkb (zaa (zva (zid K) (pv 0) zia (λ_ _=>rfl)) (zaa zia zba))))))
  (zfa (zsa (zja (zenb T kb) hr rfl T.zse.m T.zse.F.kp (zyfb T) .nil zqa (zaa (pv 0) (zaa (pv 1) (zaa (pv 2) (zaa (pv 4) (zaa (pv 5) (zaa (pv 3) zba)))))))))))),?_⟩
 refine⟨_,rfl,_,rfl,_,rfl,ca,oa,tv,t,np,nc,cs,os,rfl,GG,TT,TI0,hc,hos,λv1 t1 H1 S1 TT1 LV1 TI1=>?_⟩;have TI2:=TI1.gone (zdfb TI0.ok);refine⟨_,rfl,_,rfl,_,rfl,ca,oa,v1,{ t1 with gone:=zdl t },np,nc,cs,os,rfl,GG.same S1,TT1,TI2,hc,λp out ns0 H2 S2 np2 e2 al pn so=>?_⟩;have pn':ns0.Perm t1.lying:=pn;have S02:=S1.trans S2;obtain⟨a,w0,w1,w2,w3,w4,w5,w6,w7,w8,rfl,ea,TP⟩:=TT1.kp (Kp.same S2);obtain⟨b8,rfl,e8⟩:=TP.p8;have e8':H2 b8=some (.tup (iM t1.wnds)):=e8;have ol:=al.len;have nl:=pn'.length_eq;have ly:=TI1.ok.ly;refine⟨_,rfl,p,rfl,⟨_,SqL.of e2⟩,?_⟩;refine zyb (xs:=out) (λi ys H'=>Same H2 H'∧All2 (HpN H') ys ((ns0.take i).filter (worn cs t1.wnds))) (λi ys H' z=>SqL.of (z.1 _ _ e2)) ⟨Same.refl _,.nil⟩ ?_ ?_ ?_
 ·rintro i ys H' ⟨_,hy⟩;have h1:=hy.len;have h2:=yqc (worn cs t1.wnds) (ns0.take i);rw[yza] at h2;exact small (by omega)
 ·rintro i u ys H' hu ⟨S,hy⟩;obtain⟨n,en,sg⟩:=al.get hu;obtain⟨ra,m,k,o,c,mm,rfl,rfl,c1,c2,c3,er,em⟩:=sg.kp (Kp.same S);have kn:k<nc:=by rw[← hc];exact (yha.mp c1).1
  obtain⟨x,hx⟩:=getx (xs:=t1.wnds) (i:=k) (by rw[TI1.ok.wnds];exact kn);have ew:worn cs t1.wnds (k:Int)=decide ((c.force:Int)≤x):=by
   unfold worn;rw[yeb,c1,hx];rfl
  rw[ydb,en,yub,yjf];refine⟨rfl,_,rfl,a,_,_,_,rfl,rfl,SqT.of (S _ _ ea),zpa (j:=8) rfl,_,rfl,ra,_,_,_,rfl,rfl,SqT.of er,zpa (j:=0) rfl,b8,_,_,_,rfl,rfl,SqT.of (S _ _ e8'),zbj hx,_,rfl,ra,_,_,_,rfl,rfl,SqT.of er,zpa (j:=3) rfl,_,_,rfl,rfl,_,rfl,ite2 (λc=>?_) (λc=>?_)⟩
  ·refine⟨_,rfl,ra,_,_,_,rfl,rfl,SqT.of er,zpa (j:=0) rfl,sz3,λta hta=>?_⟩;refine laid hta λH4 S4 e4=>?_;refine⟨S.trans S4,?_⟩;rw[ywd (by rw[ew];exact c)];exact All2.snoc ⟨ta,rfl,e4⟩ (hy.imp λz=>z.kp (Kp.same S4))
  ·refine⟨S,?_⟩;rw[yxd (by rw[ew];exact c),List.filter_nil,ypc];exact hy
 rintro ys H3 ⟨S3,hy⟩ hl hhl;rw[yra (by omega)] at hy;refine laid hhl λH4 S4 e4=>?_;have S24:=S3.trans S4;have S04:=S02.trans S24;have nd0:ns0.Nodup:=yvn (λz=>Int.ne_of_lt z) so;refine⟨_,rfl,_,rfl,_,rfl,_,rfl,_,rfl,_,rfl,ca,oa,p,hl,cl,.ref a,{ t1 with gone:=zdl t },np,nc,cs,os,ys,ns0.filter (worn cs t1.wnds),ch,rfl,GG.same S04,TT1.kp (Kp.same (S2.trans S24)),TI2,hc,⟨out,ns0,S24 _ _ e2,al.imp λz=>(z.kp (Kp.same S24)).a,λx hx=>pn'.mem_iff.mpr hx⟩,e4,hy.imp λz=>z.kp (Kp.same S4),nd0.sublist yfm,λx hx=>pn'.mem_iff.mp (yjd.mp hx).1,S04 _ _ ecl,λr t' H5 S5 LV TI5 RS=>?_⟩;refine q r t' _ H5 (S04.trans S5) ⟨t1,LV1,TI1.so,LV,TI5.so,pn'.filter _,so.sublist yfm⟩ TI5 ?_;obtain⟨v,lg,c2,lf,us,r1,r2,r3,r4,r5,r6,r7,r8,r9,r10⟩:=RS;exact⟨v,lg,c2,lf,us,r1,r2,r3,r4.imp λz=>z.bas (grow S04),r5,r6,none_of S04 r7,none_of S04 r8,none_of S04 r9,r10⟩
theorem zuqb (T:Tx K mg)(kb:K.In base):FnOk P w K mg base CX0 11 T.zll.f T.zll.d zbcb (zgkb T.znb):=by
 refine T.zll.ok zff ?_;rintro f c A o s H vs Q E hr ⟨ca,oa,cl,tv,t,np,nc,cs,os,ch,rfl,GG,TT,TI0,hc,hos,ecl,q⟩ X;refine⟨_,  (zca (zla (i:=4) zff.nd rfl (.inl rfl) (zdc zba))
  (zca (zla (i:=5) zff.nd rfl (.inl rfl) (zdc zba))
  (zca (zla (i:=6) zff.nd rfl (.inl rfl) (zna zqc rfl T.zki ywh (zaa (pv 3) zba)))
  (zca (zla (i:=7) zff.nd rfl (.inl rfl) zbnb)
  (zca (zmu yyb (zek (zph (pv 7)))
   (zca (zsc (zja (zibc T kb) hr rfl T.zyu.m T.zyu.F.kp (zvfc T) .nil zqa (zaa (pv 0) (zaa (pv 1) (zaa (pv 2) (zaa (pv 6) zba))))) (zmc (n:=4) rfl (zea (zda (i:=8) zff.nd rfl (.inl rfl)) (zea (zda (i:=9) zff.nd rfl (.inl rfl)) (zea (zda (i:=10) zff.nd rfl (.inl rfl)) (zea (zda (i:=6) zff.nd rfl (.inl rfl)) zjb))))))
   (zca (zjc (zog yya yef yff zbl (pv 4) (zaa (pv 9) zba)))
   (zca (zjc (zog yya yef yff zbl (pv 5) (zaa (pv 10) zba)))
   (zca (zla (i:=7) zff.nd rfl (.inl rfl) (zyh (zgyb hr.units) (pv 8) (pv 2) (zfb _)))
   (zfa (zla (i:=2) zff.nd rfl (.inr rfl) (pv 8))))))))
  (zfa (zsa (zra (zaa (pv 2) (zaa (pv 4) (zaa (zec (own:=["one"]) (cap:=["table"]) rfl (zya.chk rfl rfl) (.cons (j:=2) rfl (.inl rfl) (.inl rfl) .nil) (zcc (pv 5)) (λ_ _ _ _=>(zda (i:=0) (show yhb (["one","table"]:List Str) by decide +kernel) rfl (.inl rfl))) (λ_ _ _ _=>zah (zek (zph (zva (zid K) (zva (zid K) (pv 1) (zua (v:=.int 2) rfl T.zqm ⟨_,rfl⟩) (λ_ _=>rfl)) (zva (zid K) (pv 0) zia (λ_ _=>rfl)) (λ_ _=>rfl))))) (λ_ _ _ _=>by exact (pv 0))) (zaa (pv 6) zba)))))))))))),?_⟩
 refine⟨sz0,λlg hlg=>?_⟩;refine laid hlg λH1 S1 e1=>?_;refine⟨sz0,λc2 hc2=>?_⟩;refine laid hc2 λH2 S2 e2=>?_;have S02:=S1.trans S2;refine⟨_,rfl,cl,_,rfl,.inl (SqL.of (S02 _ _ ecl)),λlf0 hlf0=>?_⟩;refine laid hlf0 λH3 S3 e3=>?_;have S03:=S02.trans S3;have e13:=(S2.trans S3) _ _ e1;have e23:=S3 _ _ e2;have fc2:H c2=none:=none_of S1 hc2;have n12:lg≠c2:=zka e1 hc2;have flg3:H3 lg≠none:=by rw[e13];intro z;cases z
 have flc3:H3 c2≠none:=by rw[e23];intro z;cases z
 obtain⟨W,hW⟩:∃W:Nat->L2.St->Hp->Prop,W=λm σ Hx=>Ex9 λtv lf (tx:Tab) us (ns:List Int) (rb:Bool) o8 o9 o10=>σ=[some (.ref ca),some (.ref oa),some tv,some (.ref cl),some (.ref lg),some (.ref c2),some (.ref lf),some (.bl rb),o8,o9,o10]∧Same H Hx∧(∀a,Hx a=none->H3 a=none)∧TabT Hx tv tx∧TI np nc tx∧Hx lg=some (.lst us)∧All2 (LgT H3 Hx) us ns∧Hx c2=some (.lst [])∧Hx lf=some (.lst (iM ch))∧lf≠lg∧lf≠c2∧H lf=none∧((m=2∧rb=false∧tx=t∧ns=[])∨(m=1∧Lk cs os t tx ns)∨(m=0∧rb=true∧Lk cs os t tx ns)):=⟨_,rfl⟩;refine⟨W,⟨2,by rw[hW];exact⟨tv,lf0,t,[],[],false,_,_,_,rfl,S03,λ_ z=>z,TT.kp (Kp.same S03),TI0,e13,.nil,e23,e3,ysc (zka (S2 _ _ e1) hlf0),ysc (zka e2 hlf0),none_of S02 hlf0,.inl ⟨rfl,rfl,rfl,rfl⟩⟩⟩,?_⟩;intro m σ Hx hw;rw[hW] at hw;obtain⟨tv,lf,tx,us,ns,rb,o8,o9,o10,rfl,S,gr,TTx,TIx,elg,alg,ec2,elf,nf1,nf2,flf,st⟩:=hw;refine⟨_,rfl,_,rfl,ite2 (λc=>?_) (λc=>?_)⟩
 ·have rf:rb=false:=by simpa using c
  refine⟨fun σ' H'=>∃m',m'<m∧W m' σ' H',λ_ _ z=>z,?_⟩;refine⟨_,rfl,_,rfl,_,rfl,_,rfl,ca,oa,lf,tv,tx,np,nc,cs,os,ch,rfl,GG.same S,TTx,TIx,hc,hos,elf,λr t' ns' H4 S4 LK TI4 RS=>?_⟩;obtain⟨v',lg',c2',lf',us',er,TT4,elg',alg',ec2',elf',f1,f2,f3,d1,d2,d3⟩:=RS;refine⟨r,_,rfl,SqT.of er,rfl,_,_,rfl,_,_,rfl,_,_,rfl,_,_,rfl,rfl,?_⟩;have S04:=S.trans S4;have elg4:=S4 _ _ elg;have ec24:=S4 _ _ ec2;have ul:us.length≤16∧us'.length≤16:=by
   have h1:=alg.len;have h2:=alg'.len;have key:∀{t1 t2:Tab} {xs:List Int},TI np nc t1->Lk cs os t1 t2 xs->xs.length≤16:=by
    rintro t1 t2 xs TI1 ⟨y,y1,_,_,_,y5,_⟩;have l1:=y5.length_eq;have l2:=yqc (worn cs y.wnds) y.lying;have l3:y.lying.length≤t1.lying.length:=(by rw[y1.lying];exact yqc _ _);have l4:=TI1.ok.ly;omega
   have h3:=key TIx LK;refine⟨?_,by omega⟩
   rcases st with⟨_,_,_,z⟩|⟨_,z⟩|⟨_,_,z⟩
   ·rw[h1,z];decide
   ·have:=key TI0 z;omega
   ·have:=key TI0 z;omega
  refine⟨_,rfl,.inl ⟨rfl,_,SqL.of elg4⟩,_,rfl,lg,lg',_,_,rfl,rfl,elg4,elg',small (by omega),?_⟩;have kp5:Kp H4 (upd H4 lg (.lst (us++us'))):=Kp.put elg4;have S05:Same H (upd H4 lg (.lst (us++us'))):=zve S04 hlg _;have al5:All2 (LgT H3 (upd H4 lg (.lst (us++us')))) (us++us') (ns++ns'):=All2.app (alg.imp λz=>(z.same S4).put elg4 flg3) (alg'.imp λz=>(z.bas gr).put elg4 flg3);have elg5:upd H4 lg (.lst (us++us')) lg=some (.lst (us++us')):=zta;have ec25:upd H4 lg (.lst (us++us')) c2=some (.lst []):=by rw[zbb (ysc n12)];exact ec24
  have n1:c2'≠lg:=ysc (zka elg f2);have n2:lf'≠lg:=ysc (zka elg f3);have n3:lf'≠c2:=ysc (zka ec2 f3);have ec2'5:upd H4 lg (.lst (us++us')) c2'=some (.lst []):=by rw[zbb n1];exact ec2'
  have elf5:upd H4 lg (.lst (us++us')) lf'=some (.lst (iM ch)):=by rw[zbb n2];exact elf'
  have TT5:=TT4.kp kp5;have TTx5:=(TTx.kp (Kp.same S4)).kp kp5;have gr5:∀a,upd H4 lg (.lst (us++us')) a=none->H3 a=none:=zru (λa z=>gr a (none_of S4 z)) (by rw[elg4];intro z;cases z);generalize upd H4 lg (.lst (us++us'))=H5 at S05 al5 elg5 ec25 ec2'5 elf5 TT5 TTx5 gr5 ⊢;clear kp5;refine⟨_,rfl,.inl ⟨rfl,_,SqL.of ec25⟩,_,rfl,c2,c2',_,_,rfl,rfl,ec25,ec2'5,(by decide),?_⟩;have kp6:Kp H5 (upd H5 c2 (.lst ([]++[]))):=Kp.put ec25;have S06:Same H (upd H5 c2 (.lst ([]++[]))):=zve S05 fc2 _;have al6:All2 (LgT H3 (upd H5 c2 (.lst ([]++[])))) (us++us') (ns++ns'):=al5.imp λz=>z.put ec25 flc3;have elg6:upd H5 c2 (.lst ([]++[])) lg=some (.lst (us++us')):=by rw[zbb n12];exact elg5
  have ec26:upd H5 c2 (.lst ([]++[])) c2=some (.lst []):=zta;have elf6:upd H5 c2 (.lst ([]++[])) lf'=some (.lst (iM ch)):=by rw[zbb n3];exact elf5
  have TT6:=TT5.kp kp6;have TTx6:=TTx5.kp kp6;have gr6:∀a,upd H5 c2 (.lst ([]++[])) a=none->H3 a=none:=zru gr5 (by rw[ec25];intro z;cases z);generalize upd H5 c2 (.lst ([]++[]))=H6 at S06 al6 elg6 ec26 elf6 TT6 TTx6 gr6 ⊢;clear kp6;refine⟨_,rfl,_,rfl,tabD t',tabD tx,TT6.dv,TTx6.dv,zqv (zvz TI4.nm),zqv (zvz TIx.nm),?_⟩;refine⟨_,rfl,?_⟩
  rcases st with⟨rfl,_,rfl,rfl⟩|⟨rfl,z⟩|⟨_,z,_⟩
  ·refine⟨1,by decide,?_⟩;rw[hW];exact⟨v',lf',t',us++us',ns',_,_,_,_,rfl,S06,gr6,TT6,TI4,elg6,al6,ec26,elf6,n2,n3,none_of S f3,.inr (.inl ⟨rfl,LK⟩)⟩
  ·obtain⟨rfl,rfl⟩:=Lk.again TI0 z LK;rw[yan _ (zvz TI4.nm).1];refine⟨0,by decide,?_⟩;rw[hW];rw[ypc] at al6;exact⟨v',lf',t',us++us',ns,_,_,_,_,rfl,S06,gr6,TT6,TI4,elg6,al6,ec26,elf6,n2,n3,none_of S f3,.inr (.inr ⟨rfl,rfl,z⟩)⟩
  ·rw[rf] at z;cases z
 ·have rt:rb=true:=by simpa using c
  have LK:Lk cs os t tx ns:=by
   rcases st with⟨_,z,_⟩|⟨_,z⟩|⟨_,_,z⟩
   ·rw[rt] at z;cases z
   ·exact z
   ·exact z
  refine⟨_,rfl,_,rfl,_,rfl,c2,rfl,⟨_,SqL.of ec2⟩,?_⟩;refine zyb (xs:=[]) (λi ys H'=>H'=Hx∧ys=[]) (λi ys H' z=>by rw[z.1];exact SqL.of ec2) ⟨rfl,rfl⟩ ?_ ?_ ?_
  ·rintro i ys H' ⟨_,rfl⟩;exact ywa _
  ·intro i v ys H' hx;cases hx
  ·rintro ys H9 ⟨rfl,rfl⟩ b hb;refine laid hb λH7 S7 e7=>?_;refine⟨_,rfl,sz4,λr hr'=>?_⟩;refine laid hr' λH8 S8 e8=>?_;have S78:=S7.trans S8;exact q r tx ns H8 (S.trans S78) LK TIx ⟨tv,lg,b,lf,us,e8,TTx.kp (Kp.same S78),S78 _ _ elg,alg.imp λz=>(z.same S78).bas (grow S03),S8 _ _ e7,S78 _ _ elf,hlg,none_of S hb,flf,zka elg hb,ysc nf1,ysc (zka elf hb)⟩
theorem zueb:∀i:Nat,i<1000->i.log2<1920:=by decide +kernel
def zyzb (K:yda):Sp:=λvs H Q _=>Ex3 λa (ns:List Int) (k:Int)=>vs=[.ref a,.int k]∧SqF K H a (ns.map V.int)∧ns.length≤63∧0≤k∧k<1000∧∀r:Int,0≤r->r<2147483647->Q (.int r) H
def ms4:List (List Str):=[[],["a"],["bb"],["a","bb"]]
theorem nm_a:zce "a":=⟨by decide +kernel,by decide +kernel,by decide +kernel⟩
theorem zdhc:zce "bb":=⟨by decide +kernel,by decide +kernel,by decide +kernel⟩
theorem zoec:∀ms∈ms4,∀s∈ms,zce s:=by
 intro ms h s hs;have:s = "a" ∨ s = "bb":=by
  simp only[ms4,yja,yie,or_false] at h
  rcases h with rfl|rfl|rfl|rfl<;>simp only[yja,yie,or_false] at hs
  ·exact .inl hs
  ·exact .inr hs
  ·exact hs
 rcases this with rfl|rfl
 ·exact nm_a
 ·exact zdhc
theorem znbc:∀ms∈ms4,ms.length≤2:=by decide +kernel
theorem zpec:∀ms∈ms4,ms.Nodup:=by decide +kernel
theorem znec:∀ms∈ms4,yxm ms=true:=by decide +kernel
theorem ziyb {ms:List Str}(h:ms∈ms4):Marks ms:=⟨zoec ms h,zpec ms h,znec ms h,yob (znbc ms h) (by decide)⟩
def six:List Str:=["ox","wolf","a","bb","oxen","kestrels"]
theorem zrdc:∀n∈six,zce n:=by
 intro n h;refine⟨?_,?_,?_⟩
 ·revert n;decide +kernel
 ·revert n;decide +kernel
 ·revert n;decide +kernel
theorem mk4:ms4.map zeh=(["-","a","bb","a,bb"]:List Str):=by decide +kernel
structure Cd33 (c:Crd):Prop where
 ok:c.ok
 no:c.rules=[]
 mks:c.marks∈ms4
def zxub:Sp:=λvs H Q _=>Ex2 λ(n:Int) sa=>vs=[.int n,.ref sa]∧0≤n∧H sa=some (.lst [])∧∀(c:Crd) H',Same H H'->Cd33 c->Q (.str c.text) H'
theorem zlfc:(!PyData.eqv (.list []) (.list []))=false:=by simp[ypd,yoe]
theorem zqpb:yhc (.list [])=true:=by
 unfold yhc;rw[yec,yrb,ybe,yvb];rfl
theorem zxf (T:Tx K mg):FnOk P w K mg base CX0 2 T.ztb.f T.ztb.d zgm (zyzb K):=by
 refine T.ztb.ok znk ?_;rintro f c A o s H vs Q E hr ⟨a,ns,k,rfl,SF,n63,k0,k1,q⟩ X;refine⟨_,  (zca (zla (i:=2) znk.nd rfl (.inl rfl) zia)
  (zca (zrc (zxa zdnb (zab zwa rfl T.zuf ysb (zaa (pv 0) zba)) zia (zfb _))
   (zfa (zla (i:=2) znk.nd rfl (.inl rfl) (zva zad (pv 0) (zgb zdh (pv 1) (zab zwa rfl T.zuf ysb (zaa (pv 0) zba))) (λ_ _=>rfl))))
   zeb)
  (zfa (zsa (zgb zdh (zgb zue (zgb zue (zgb zue (zgb zso (pv 2) zia) (zgb zso (zgb zso (pv 1) (pv 1)) zia)) (zgb zso zia (pv 1))) zia) zia))))),?_⟩
 refine⟨_,rfl,a,_,rfl,.inl SF.sq,_,_,rfl,rfl,_,rfl,?_⟩;refine' zjv (pre:=λv Hs=>Hs=H∧∃z:Int,v = .int z) (λkk=>?g1) ?k1
 case g1 =>
  refine ite2 (λc=>?a) (λc=>?b)
  case a =>
   have c':=of_decide_eq_true c;rw[yca] at c';obtain⟨z,hz⟩:=zkcc (ns:=ns) (i:=k % (ns.length:Int)) (zom k (by omega)).1 (zom k (by omega)).2;refine⟨_,rfl,_,rfl,_,rfl,a,_,rfl,.inl SF.sq,_,_,rfl,rfl,(by rw[yca];omega),a,_,_,_,rfl,rfl,SF.sq,(by rw[yca];exact hz),?_⟩;obtain⟨v4,hv4⟩:∃x,x=V.int z:=⟨_,rfl⟩;obtain⟨Hz,hz'⟩:∃h,h=H:=⟨_,rfl⟩;rw[← hv4,← hz'];exact kk v4 Hz ⟨hz',z,hv4⟩
  case b=>exact kk (.int 0) H ⟨rfl,0,rfl⟩
 case k1 =>
 rintro _ _ ⟨rfl,z,rfl⟩;refine⟨_,rfl,_,_,rfl,rfl,.inr ⟨by decide,by decide⟩,_,rfl,_,rfl,_,_,rfl,rfl,.inr ⟨by omega,by omega⟩,_,_,rfl,rfl,.inr ⟨by decide,by decide⟩,_,_,rfl,rfl,_,rfl,_,_,rfl,rfl,.inl ⟨by decide,by decide⟩,_,_,rfl,rfl,_,_,rfl,rfl,_,_,rfl,rfl,(by show (0:Int)<_;decide),?_⟩;exact q _ (zom _ (by decide)).1 (zom _ (by decide)).2
theorem zreb (T:Tx K mg):FnOk P w K mg base CX0 2 T.zig.f T.zig.d zxp (λ_ _ _ _=>False):=by
 refine T.zig.F.ok zedb (λvs H Q E h=>?_) (λcdv A outer s H vs Q E hr h=>?_)
 ·exact h.elim
 exact h.elim
theorem zkeb (T:Tx K mg):FnOk P w K mg base CX0 3 T.zkg.f T.zkg.d zzp zxub:=by
 refine T.zkg.ok zli ?_;rintro f c A o s H vs Q E hr ⟨n,sa,rfl,n0,es,q⟩ X;obtain⟨co,hco⟩:∃co:Nat,n / 6 % 3=(co:Int):=⟨(n / 6 % 3).toNat,by omega⟩;obtain⟨fo,hfo⟩:∃fo:Nat,n / 18 % 5=(fo:Int):=⟨(n / 18 % 5).toNat,by omega⟩;have co3:co<1000:=by omega
 have fo5:fo<1000:=by omega
 obtain⟨nm,hnm,hm⟩:=zdtb (ss:=six) (r:=n % 6) (zom n (by decide)).1 (zom n (by decide)).2;obtain⟨mt,hmt,hmm⟩:=zdtb (ss:=["-","a","bb","a,bb"]) (r:=n / 90 % 4) (zom _ (by decide)).1 (zom _ (by decide)).2;rw[← mk4] at hmm;obtain⟨ms,hms,rfl⟩:=yfc.mp hmm;have nok:=zrdc nm hm;have cok:(Crd.mk nm co fo ms []).ok:=⟨nok,co3,fo5,ziyb hms,(λr hr=>nomatch hr),ywa _⟩;refine⟨_,  (zca (zla (i:=2) zli.nd rfl (.inl rfl) (zva zad (zdc (zaa zkb (zaa zkb (zaa zkb (zaa zkb (zaa zkb (zaa zkb zba))))))) (zgb zdh (pv 0) zia) (λ_ _=>rfl)))
  (zca (zla (i:=3) zli.nd rfl (.inl rfl) (zdc (zaa (pv 2) (zaa (zna zvt rfl T.zemb boot_str (zaa (zgb zdh (zgb zdn (pv 0) zia) zia) zba)) (zaa (zna zvt rfl T.zemb boot_str (zaa (zgb zdh (zgb zdn (pv 0) zia) zia) zba)) (zaa (zva zad (zdc (zaa zkb (zaa zkb (zaa zkb (zaa zkb zba))))) (zgb zdh (zgb zdn (pv 0) zia) zia) (λ_ _=>rfl)) zba))))))
  (zca (zla (i:=4) zli.nd rfl (.inl rfl) (zdc zba))
  (zca (zbh yyb rfl (zch rfl T.zrh (zaa (zgb zso (zgb zdh (zgb zdn (pv 0) zia) zia) (zna zax rfl T.ztz yor (zaa (zyh (zvq hr.units) (pv 1) (zdc zba) (zfb _)) zba))) zba)) (zda (i:=5) zli.nd rfl (.inl rfl))
   (zfa (zjc (zog yya ypb yqb zed (pv 4) (zaa (zja (zreb T) hr rfl T.zig.m T.zig.F.kp (zzib T) .nil zqa (zaa (zgb zdh (zgb zso (zgb zso (pv 0) (zgb zue (pv 5) zia)) zia) zia) (zaa (pv 1) zba))) zba)))))
  (zfa (zsa (zog yre yhq yiq zdrb zkb (zaa (zgb zrqb (zdc (zaa (zog yre yhq yiq zdrb zkb (zaa (pv 3) zba)) zba)) (pv 4)) zba)))))))),?_⟩
 refine⟨sz6,λl1 hl1=>?_⟩;refine laid hl1 λH1 S1 e1=>?_;refine⟨_,rfl,_,_,rfl,rfl,(by show (0:Int)<_;decide),l1,_,_,_,rfl,rfl,SqL.of e1,hnm,?_⟩;refine⟨_,rfl,_,rfl,_,_,rfl,rfl,⟨by decide,by decide⟩,_,_,rfl,rfl,(by show (0:Int)<_;decide),(co:Int),(by show [V.int (n / 6 % 3)]=_;rw[hco]),(by rw[ypr];exact zueb _ co3),?_⟩;refine⟨_,rfl,_,_,rfl,rfl,⟨by decide,by decide⟩,_,_,rfl,rfl,(by show (0:Int)<_;decide),(fo:Int),(by show [V.int (n / 18 % 5)]=_;rw[hfo]),(by rw[ypr];exact zueb _ fo5),?_⟩;refine⟨sz4,λl2 hl2=>?_⟩;refine laid hl2 λH2 S2 e2=>?_;refine⟨_,rfl,_,_,rfl,rfl,⟨by decide,by decide⟩,_,_,rfl,rfl,(by show (0:Int)<_;decide),l2,_,_,_,rfl,rfl,SqL.of e2,hmt,sz4,λhd hhd=>?_⟩;refine laid hhd λH3 S3 e3=>?_;have e3':H3 hd=some (.lst ((Crd.mk nm co fo ms []).head.map V.str)):=e3;refine⟨sz0,λrl hrl=>?_⟩;refine laid hrl λH4 S4 e4=>?_;have S14:=S1.trans (S2.trans (S3.trans S4));refine⟨_,rfl,_,_,rfl,rfl,⟨by decide,by decide⟩,_,_,rfl,rfl,(by show (0:Int)<_;decide),_,rfl,sz0,λem hem=>?_⟩;refine laid hem λH5 S5 e5=>?_;refine⟨.list [],.list [],.lst (SqL.of ((S14.trans S5) _ _ es)) .nil,.lst (SqL.of e5) .nil,zqpb,zqpb,?_⟩;rw[zlfc];refine .inr ⟨false,rfl,_,_,rfl,rfl,.inr ⟨by decide,by decide⟩,0,(by show [V.int (n / 360 % 4*0)]=_;rw[Int.mul_zero]),by decide,by decide,?_⟩;refine zqn (lo:=0) (n:=0) (λi σ Hx=>σ=[some (.int n),some (.ref sa),some (.str nm),some (.ref hd),some (.ref rl),none]∧Hx=H5) ⟨rfl,rfl⟩ ?_ ?_
 ·intro i σ Hx hi;omega
 rintro σ Hx ⟨rfl,rfl⟩;have mt:=(zcl (ziyb hms)).2;have n8:=nok.2.1;have c8:=(zcr co3).2.2;have f8:=(zcr fo5).2.2;have w1:(" ":Str).length=1:=rfl;refine⟨rfl,rfl,_,rfl," ",hd,(Crd.mk nm co fo ms []).head,rfl,rfl,SqL.of ((S4.trans S5) _ _ e3'),?_,sz1,λl6 hl6=>?_⟩
 ·show ([nm,(toString (co:Int):Str),(toString (fo:Int):Str),zeh ms].map (·.length)).sum+4*_≤_;simp only[ytb,yxh,ywj,List.sum_nil];omega
 refine laid hl6 λH6 S6 e6=>?_;refine⟨_,rfl,l6,rl,_,_,rfl,rfl,e6,(S5.trans S6) _ _ e4,small (by show 1+0≤1000;decide),λl7 hl7=>?_⟩;refine laid hl7 λH7 S7 e7=>?_;have hh:=Crd.zcbb cok;refine⟨" / ",l7,[yrc " " (Crd.mk nm co fo ms []).head],rfl,rfl,SqL.of e7,?_,?_⟩
 ·have w3:(" / ":Str).length=3:=by decide
  show [(yrc " " (Crd.mk nm co fo ms []).head).length].sum+1*_≤_
  rw[w3,List.sum_singleton];omega
 exact q (Crd.mk nm co fo ms []) H7 (S14.trans (S5.trans (S6.trans S7))) ⟨cok,rfl,hms⟩
def DkS (X:Addr)(H:Hp)(v:V)(cs:List Crd):Prop:=∃d,v = .ref d∧H d=some (.lst (cs.map λc=>V.str c.text))∧d≠X∧cs.length≤4∧∀c∈cs,Cd33 c
theorem DkS.same {X:Addr}{H H':Hp}(s:Same H H'){v:V}{cs:List Crd}(h:DkS X H v cs):DkS X H' v cs:=by
 obtain⟨d,e,h1,h2⟩:=h;exact⟨d,e,s _ _ h1,h2⟩
theorem DkS.put {X:Addr}{H:Hp}{o:HO}{v:V}{cs:List Crd}(h:DkS X H v cs):DkS X (upd H X o) v cs:=by
 obtain⟨d,e,h1,h2,h3⟩:=h;exact⟨d,e,by rw[zbb h2];exact h1,h2,h3⟩
def zopb (K:yda):Sp:=λvs H Q _=>Ex3 λa sa (ns:List Int)=>vs=[.ref a,.ref sa]∧SqF K H a (ns.map V.int)∧ns.length≤63∧H sa=some (.lst [])∧∀dl ds (dss:List (List Crd)) H',Same H H'->H dl=none->H' dl=some (.lst ds)->All2 (DkS dl H') ds dss->2≤dss.length->dss.length≤4->Q (.ref dl) H'
theorem zuab (T:Tx K mg):FnOk P w K mg base CX0 4 T.zdf.f T.zdf.d zdo (zopb K):=by
 refine T.zdf.ok zof ?_;rintro f c A o s H vs Q E hr ⟨a,sa,ns,rfl,SF,n63,es,q⟩ X;refine⟨_,  (zca (zla (i:=2) zof.nd rfl (.inl rfl) (zja (zxf T).up hr rfl T.ztb.m T.ztb.F.kp (zkh T) .nil zqa (zaa (pv 0) (zaa zia zba))))
  (zca (zla (i:=3) zof.nd rfl (.inl rfl) (zdc zba))
  (zca (zbh yyb rfl (zch rfl T.zrh (zaa (zgb zue zia (zgb zdh (pv 2) zia)) zba)) (zda (i:=4) zof.nd rfl (.inl rfl))
   (zca (zla (i:=5) zof.nd rfl (.inl rfl) (zdc zba))
   (zca (zbh yyb rfl (zch rfl T.zrh (zaa (zgb zdh (zja (zxf T).up hr rfl T.ztb.m T.ztb.F.kp (zkh T) .nil zqa (zaa (pv 0) (zaa (zgb zue zia (pv 4)) zba))) zia) zba)) (zda (i:=6) zof.nd rfl (.inl rfl))
    (zfa (zjc (zog yya ypb yqb zed (pv 5) (zaa (zja (zkeb T) hr rfl T.zkg.m T.zkg.F.kp (zbjb T) .nil zqa (zaa (zja (zxf T).up hr rfl T.ztb.m T.ztb.F.kp (zkh T) .nil zqa (zaa (pv 0) (zaa (zgb zue (zgb zue zia (zgb zso zia (pv 4))) (pv 6)) zba))) (zaa (pv 1) zba))) zba)))))
   (zfa (zjc (zog yya ypb yqb zed (pv 3) (zaa (pv 5) zba)))))))
  (zfa (zsa (pv 3)))))),?_⟩
 refine⟨_,rfl,a,ns,0,rfl,SF,n63,by decide,by decide,λf f0 f1=>?_⟩;refine⟨sz0,λdl hdl=>?_⟩;refine laid hdl λH1 S1 e1=>?_;have m3:=zom f (m:=3) (by decide);obtain⟨m,hm⟩:∃m:Nat,2+f % 3=(m:Int):=⟨(2+f % 3).toNat,by omega⟩;refine⟨_,rfl,_,_,rfl,rfl,(by show (0:Int)<_;decide),_,_,rfl,rfl,(m:Int),(by show [V.int (2+f % 3)]=_;rw[hm]),by omega,by omega,?_⟩;rw[yeb];refine zqn (lo:=0) (n:=m) (λi σ Hx=>Ex5 λds (dss:List (List Crd)) o4 o5 o6=>σ=[some (.ref a),some (.ref sa),some (.int f),some (.ref dl),o4,o5,o6]∧Same H Hx∧Hx dl=some (.lst ds)∧All2 (DkS dl Hx) ds dss∧dss.length=i∧i≤m) ⟨[],[],_,_,_,rfl,S1,e1,.nil,rfl,ywa _⟩ ?_ ?_
 ·rintro i σ Hx hi ⟨ds,dss,o4,o5,o6,rfl,S,ed,al,dl',_⟩;refine⟨sz0,λd hd=>?_⟩;refine laid hd λH2 S2 e2=>?_;have S02:=S.trans S2;have ndl:d≠dl:=ysc (zka ed hd);refine⟨_,rfl,_,rfl,_,_,rfl,rfl,a,ns,_,rfl,SF.same S02,n63,(by show 0≤1+(0+(i:Int));omega),(by show 1+(0+(i:Int))<1000;omega),λg g0 g1=>?_⟩;have j5:=zom g (m:=5) (by decide);obtain⟨j,hj⟩:∃j:Nat,g % 5=(j:Int):=⟨(g % 5).toNat,by omega⟩;refine⟨_,_,rfl,rfl,(by show (0:Int)<_;decide),(j:Int),(by show [V.int (g % 5)]=_;rw[hj]),by omega,by omega,?_⟩;rw[yeb];refine zqn (lo:=0) (n:=j) (λi2 σ Hy=>Ex2 λ(cs:List Crd) o6=>σ=[some (.ref a),some (.ref sa),some (.int f),some (.ref dl),some (.int (0+(i:Int))),some (.ref d),o6]∧Same Hx Hy∧Hy d=some (.lst (cs.map λc=>V.str c.text))∧cs.length=i2∧i2≤j∧∀c∈cs,Cd33 c) ⟨[],_,rfl,S2,e2,rfl,ywa _,(λ_ h=>nomatch h)⟩ ?_ ?_
  ·rintro i2 σ Hy hi2 ⟨cs,o6,rfl,Sy,ev,cl,_,ck⟩;have S0y:=S.trans Sy;refine⟨_,rfl,.inl ⟨rfl,_,SqL.of ev⟩,_,rfl,_,rfl,_,_,rfl,rfl,.inl ⟨by decide,by decide⟩,_,_,rfl,rfl,_,rfl,_,_,rfl,rfl,a,ns,_,rfl,SF.same S0y,n63,(by show 0≤5+5*(0+(i:Int))+(0+(i2:Int));omega),(by show 5+5*(0+(i:Int))+(0+(i2:Int))<1000;omega),λu u0 u1=>?_⟩;refine⟨_,rfl,u,sa,rfl,u0,S0y _ _ es,λc H3 S3 hc=>?_⟩;have ev3:=S3 _ _ ev;refine⟨d,_,_,rfl,rfl,ev3,zvf (by rw[yca];omega),?_⟩;refine⟨cs++[c],_,rfl,zve (Sy.trans S3) hd _,?_,by rw[ypa,cl];rfl,hi2,λx hx=>?_⟩
   ·rw[zta,ygb];rfl
   ·rcases ykd.mp hx with z|z
    ·exact ck x z
    ·rw[yka.mp z];exact hc
  ·rintro σ Hy ⟨cs,o6,rfl,Sy,ev,cl,_,ck⟩;have edy:=Sy _ _ ed;have dsl:=al.len;refine⟨_,rfl,.inl ⟨rfl,_,SqL.of edy⟩,_,rfl,dl,_,_,rfl,rfl,edy,zvf (by omega),?_⟩;exact⟨ds++[.ref d],dss++[cs],_,_,_,rfl,zve (S.trans Sy) hdl _,zta,All2.snoc (DkS.put ⟨d,rfl,ev,ndl,by omega,ck⟩) (al.imp λz=>(z.same Sy).put),by rw[ypa,dl'];rfl,hi⟩
 ·rintro σ Hx ⟨ds,dss,o4,o5,o6,rfl,S,ed,al,dl',_⟩;exact⟨_,rfl,q dl ds dss Hx S hdl ed al (by omega) (by omega)⟩
def nums (os:List Int)(p:Int)(i:Nat):List Int:=((yxb i).filter λj=>decide (os[j]?=some p)).map λj:Nat=>(j:Int)
def zmdc:Sp:=λvs H Q _=>Ex3 λoa (os:List Int) (p:Int)=>vs=[.ref oa,.int p]∧H oa=some (.lst (iM os))∧os.length≤16∧∀b H',Same H H'->H' b=some (.tup (iM (nums os p os.length)))->Q (.ref b) H'
theorem zuj (os:List Int)(p:Int)(i:Nat):nums os p (i+1)=nums os p i++(if os[i]?=some p then [(i:Int)] else []):=by
 unfold nums;rw[yog,yjf,ygb]
 congr 1
 by_cases h:os[i]?=some p
 ·rw[if_pos h,ywd (by exact decide_eq_true h)];rfl
 ·rw[if_neg h,yxd (by intro z;exact h (of_decide_eq_true z))];rfl
theorem zglb (os:List Int)(p:Int)(i:Nat):(nums os p i).length≤i:=by
 unfold nums;rw[yca];have:=yqc (λj=>decide (os[j]?=some p)) (yxb i);rw[ybc] at this;exact this
theorem zqab (T:Tx K mg):FnOk P w K mg base CX0 2 T.zye.f T.zye.d zzn zmdc:=by
 refine T.zye.ok zaab ?_;rintro f c A o s H vs Q E hr ⟨oa,os,p,rfl,eo,o16,q⟩ X;refine⟨_,  (zfa (zsa (zna zoa rfl T.zzb ymc (zaa (zec (own:=["number","owner"]) (cap:=["player"]) rfl (zya.chk rfl rfl) (.cons (j:=1) rfl (.inl rfl) (.inl rfl) .nil) (zblb rfl T.zje (zaa (pv 0) zba)) (λ_ _ _ _=>(zsl K (n:=2) rfl (zea (zda (i:=0) (show yhb (["number","owner","player"]:List Str) by decide +kernel) rfl (.inl rfl)) (zea (zda (i:=1) (show yhb (["number","owner","player"]:List Str) by decide +kernel) rfl (.inl rfl)) zjb)))) (λ_ _ _ _=>zah (zxa zoh (pv 1) (pv 2) (zfb _))) (λ_ _ _ _=>by exact (pv 0))) zba)))),?_⟩;refine⟨_,rfl,oa,_,rfl,SqL.of eo,?_⟩;refine zwnb (xs:=iM os) (λi ys H'=>Same H H'∧ys=iM (nums os p i)∧i≤os.length) (λi ys H' z=>SqL.of (z.1 _ _ eo)) ⟨Same.refl _,rfl,ywa _⟩ ?_ ?_ ?_
 ·rintro i ys H' ⟨_,rfl,hi⟩;unfold iM;rw[yca];have:=zglb os p i;exact small (by omega)
 ·rintro i v ys H' pp hv ⟨S,rfl,_⟩ hp;unfold iM at hv;rw[yia] at hv;obtain⟨x,hx,rfl⟩:=ygc.mp hv;have hi:i<os.length:=(yha.mp hx).1;refine laid hp λH1 S1 e1=>?_;refine⟨pp,_,rfl,SqT.of e1,rfl,_,_,rfl,_,_,rfl,rfl,rfl,_,rfl,_,rfl,rfl,_,rfl,?_⟩;refine ite2 (λc=>?_) (λc=>?_)
  ·have c':=of_decide_eq_true c;injection c' with c'
   refine⟨_,rfl,S.trans S1,?_,hi⟩;rw[zuj,if_pos (by rw[hx,c'])];unfold iM;rw[ygb];rfl
  ·have c':¬ x=p:=λz=>c (decide_eq_true (by rw[z]));refine⟨S.trans S1,?_,hi⟩;rw[zuj,if_neg (by rw[hx];intro z;injection z with z;exact c' z),ypc]
 ·rintro ys H' ⟨S,rfl,_⟩ l hl;refine laid hl λH1 S1 e1=>?_;refine⟨l,_,rfl,.inl ⟨SqL.of e1,λtm htm=>?_⟩⟩;refine laid htm λH2 S2 e2=>?_;refine q tm H2 (S.trans (S1.trans S2)) ?_;rw[e2];unfold iM;rw[yca]
theorem zikb {X:Cx}(K:yda)(hK:X.K=K:=by rfl):SlR X (rSlA K):=hK▸znv
def tab0 (os:List Int)(np:Nat)(cms:List (List Str)):Tab :=
 ⟨yna np 20,yna np 0,yna np false,(yxb np).map λp:Nat=>(nums os (p:Int) os.length).drop 3,(yxb np).map λp:Nat=>(nums os (p:Int) os.length).take 3,[],[],cms,yna cms.length 0⟩
theorem zslb (n:Nat)(x:V):(yna n [x]).flatten=yna n x:=by
 induction n with
 | zero=>rfl
 | succ n ih=>rw[ywe,yme,ih,ywe];rfl
theorem zxkb {K:yda}{a:Addr}{x:V}{n:Nat}{H:Hp}{Q:VK}(e:H a=some (.tup [x]))(hn:n≤1000)(q:∀b H',Same H H'->H' b=some (.tup (yna n x))->Q (.ref b) H'):zayb K (.ref a) (.int (n:Int)) H Q:=by
 refine⟨a,_,_,rfl,rfl,SqT.of e,ycg _ _,by omega,by omega,?_,λe1=>q a H (Same.refl _) ?_,λ_ p hp=>laid hp λH2 S2 e2=>q p H2 S2 ?_⟩
 ·rw[yeb];exact small (by show 1*n≤1000;omega)
 ·rw[e,show n=1 by omega];rfl
 ·rw[e2,zslb,yeb]
theorem zpib (xs:List Int):cutV (iM xs) (some 3) none=iM (xs.drop 3):=by
 rw[zlsb (by decide)];unfold iM;rw[yno];rfl
theorem zqib (xs:List Int):cutV (iM xs) none (some 3)=iM (xs.take 3):=by
 rw[znsb (by decide)];unfold iM;rw[ymo];rfl
theorem take_range {α:Type}(f:Nat->α){n i:Nat}(h:i<n):((yxb n).take (i+1)).map f=((yxb n).take i).map f++[f i]:=by
 rw[ydb,yng h,yub,ygb];rfl
def zeac (B:Addr):Sp:=λvs H Q _=>Ex5 λca oa (np:Nat) (os:List Int) (cms:List (List Str))=>vs=[.ref ca,.ref oa,.int (np:Int)]∧CdsT B H ca cms∧H oa=some (.lst (iM os))∧os.length≤16∧2≤np∧np≤4∧cms.length≤16∧∀v H',Same H H'->TabT H' v (tab0 os np cms)->Q v H'
theorem zey (T:Tx K mg):FnOk P w K mg base CX0 3 T.zle.f T.zle.d zcm (zeac T.znb):=by
 refine T.zle.ok zoo ?_;rintro f c A o s H vs Q E hr ⟨ca,oa,np,os,cms,rfl,CD,eo,o16,np2,np4,c16,q⟩ X;refine⟨_,  (zca (zan (i:=3) zoo.nd rfl (.inl rfl) (own:=["player"]) (cap:=["owners"]) rfl (zya.chk rfl rfl) (.cons (j:=1) rfl (.inl rfl) (.inl rfl) .nil) (zch rfl T.zrh (zaa (pv 2) zba)) (λ_ _ _ _=>(zda (i:=0) (show yhb (["player","owners"]:List Str) by decide +kernel) rfl (.inl rfl))) (λ_ _ _ _=>zyc) (λ_ _ _ _=>by exact (zja (zqab T) hr rfl T.zye.m T.zye.F.kp (zzfb T) .nil zqa (zaa (pv 1) (zaa (pv 0) zba)))))
  (zfa (zsa (zra (zaa (zgb znab (zra (zaa (zua (v:=.int 20) rfl T.zji ⟨_,rfl⟩) zba)) (pv 2)) (zaa (zgb znab (zra (zaa zia zba)) (pv 2)) (zaa (zgb znab (zra (zaa zbnb zba)) (pv 2)) (zaa (zna zoa rfl T.zzb ymc (zaa (zec (own:=["deck"]) (cap:=[]) rfl (zya.chk rfl rfl) .nil (zcc (pv 3)) (λ_ _ _ _=>(zda (i:=0) (show yhb (["deck"]:List Str) by decide +kernel) rfl (.inl rfl))) (λ_ _ _ _=>zyc) (λ_ _ _ _=>by exact (znc (zikb K) (pv 0) (znd (zua (v:=.int 3) rfl T.zpi ⟨_,rfl⟩)) zod))) zba)) (zaa (zna zoa rfl T.zzb ymc (zaa (zec (own:=["deck"]) (cap:=[]) rfl (zya.chk rfl rfl) .nil (zcc (pv 3)) (λ_ _ _ _=>(zda (i:=0) (show yhb (["deck"]:List Str) by decide +kernel) rfl (.inl rfl))) (λ_ _ _ _=>zyc) (λ_ _ _ _=>by exact (znc (zikb K) (pv 0) zod (znd (zua (v:=.int 3) rfl T.zpi ⟨_,rfl⟩))))) zba)) (zaa (zra zba) (zaa (zra zba) (zaa (zna zoa rfl T.zzb ymc (zaa (zec (own:=["card"]) (cap:=[]) rfl (zya.chk rfl rfl) .nil (zcc (pv 0)) (λ_ _ _ _=>(zda (i:=0) (show yhb (["card"]:List Str) by decide +kernel) rfl (.inl rfl))) (λ_ _ _ _=>zyc) (λ_ _ _ _=>by exact (zmqb K (pv 0) rfl))) zba)) (zaa (zgb zdlb (zra (zaa zia zba)) (zab zwa rfl T.zuf ysb (zaa (pv 0) zba))) zba))))))))))))),?_⟩
 refine⟨_,rfl,_,rfl,by omega,by omega,?_⟩;rw[yeb];refine zmo (λi ys H'=>Same H H'∧All2 (T1 H') ys ((yxb i).map λp:Nat=>iM (nums os (p:Int) os.length))∧i≤np) ⟨Same.refl _,.nil,ywa _⟩ ?_ ?_ ?_
 ·rintro i ys H' ⟨_,al,hi⟩;have:=al.len;rw[yca,ybc] at this;exact small (by omega)
 ·rintro i ys H' hi ⟨S,al,_⟩;refine⟨rfl,_,rfl,_,rfl,oa,os,(i:Int),?_,S _ _ eo,o16,λb H2 S2 e2=>⟨S.trans S2,?_,hi⟩⟩
  ·show [V.ref oa,V.int (0+(i:Int))]=_;rw[Int.zero_add]
  ·rw[yog,ygb];exact All2.snoc ⟨b,rfl,e2⟩ (al.imp λz=>z.kp (Kp.same S2))
 rintro dv H1 ⟨S1,al1,_⟩ dl hdl;refine laid hdl λH2 S2 e2=>?_;have S02:=S1.trans S2;have al2:All2 (T1 H2) dv ((yxb np).map λp:Nat=>iM (nums os (p:Int) os.length)):=al1.imp λz=>z.kp (Kp.same S2);have dvl:=al2.len;rw[yca,ybc] at dvl;have npz:([V.int 20]:List V).length*((np:Int)).toNat≤yva:=by
  rw[yeb];exact small (by show 1*np≤1000;omega)
 refine⟨sz1,λa1 h1=>?_⟩;refine laid h1 λH3 S3 e3=>?_;refine⟨_,rfl,a1,_,(np:Int),rfl,rfl,SqT.of e3,ycg _ _,by omega,by omega,npz,λp1 hp1=>?_⟩;refine laid hp1 λH4 S4 e4=>?_;refine⟨sz1,λa2 h2=>?_⟩;refine laid h2 λH5 S5 e5=>?_;refine⟨_,rfl,a2,_,(np:Int),rfl,rfl,SqT.of e5,ycg _ _,by omega,by omega,npz,λp2 hp2=>?_⟩;refine laid hp2 λH6 S6 e6=>?_;refine⟨sz1,λa3 h3=>?_⟩;refine laid h3 λH7 S7 e7=>?_;refine⟨_,rfl,a3,_,(np:Int),rfl,rfl,SqT.of e7,ycg _ _,by omega,by omega,npz,λp3 hp3=>?_⟩;refine laid hp3 λH8 S8 e8=>?_;have S28:=S3.trans (S4.trans (S5.trans (S6.trans (S7.trans S8))));have e28:=S28 _ _ e2;refine⟨_,rfl,dl,rfl,⟨_,SqL.of e28⟩,?_⟩;refine zyb (xs:=dv) (λi ys H'=>Same H8 H'∧All2 (T1 H') ys (((yxb np).take i).map λp:Nat=>iM ((nums os (p:Int) os.length).drop 3))) (λi ys H' z=>SqL.of (z.1 _ _ e28)) ⟨Same.refl _,.nil⟩ ?_ ?_ ?_
 ·rintro i ys H' ⟨_,al⟩;have:=al.len;rw[yca,yza,ybc] at this;exact small (by omega)
 ·rintro i v ys H' hv ⟨S,al⟩;have hi:i<np:=by rw[← dvl];exact (yha.mp hv).1
  obtain⟨xs,hx,b,rfl,eb⟩:=al2.get hv;rw[yia,yng hi] at hx;obtain rfl:=yoc hx;have eb':=(S28.trans S) _ _ eb;refine⟨rfl,_,rfl,_,rfl,b,_,rfl,SqT.of eb',λwh=>?_,λ_ c hc=>?_⟩
  ·have ew:=zvw wh;rw[zpib] at ew;rw[← ew] at eb';refine⟨S,?_⟩;rw[take_range _ hi];exact All2.snoc ⟨b,rfl,eb'⟩ al
  ·rw[zpib];refine laid hc λH9 S9 e9=>⟨S.trans S9,?_⟩;rw[take_range _ hi];exact All2.snoc ⟨c,rfl,e9⟩ (al.imp λz=>z.kp (Kp.same S9))
 rintro ds H9 ⟨S9,ald⟩ l9 hl9;rw[dvl,yra (by rw[ybc];exact yga _)] at ald;refine laid hl9 λH10 S10 e10=>?_;refine⟨l9,_,rfl,.inl ⟨SqL.of e10,λt3 ht3=>?_⟩⟩;refine laid ht3 λH11 S11 e11=>?_;have S811:=S9.trans (S10.trans S11);have S211:=S28.trans S811;have e211:=S811 _ _ e28;have ald11:All2 (T1 H11) ds ((yxb np).map λp:Nat=>iM ((nums os (p:Int) os.length).drop 3)):=ald.imp λz=>z.kp (Kp.same (S10.trans S11));refine⟨_,rfl,dl,rfl,⟨_,SqL.of e211⟩,?_⟩;refine zyb (xs:=dv) (λi ys H'=>Same H11 H'∧All2 (T1 H') ys (((yxb np).take i).map λp:Nat=>iM ((nums os (p:Int) os.length).take 3))) (λi ys H' z=>SqL.of (z.1 _ _ e211)) ⟨Same.refl _,.nil⟩ ?_ ?_ ?_
 ·rintro i ys H' ⟨_,al⟩;have:=al.len;rw[yca,yza,ybc] at this;exact small (by omega)
 ·rintro i v ys H' hv ⟨S,al⟩;have hi:i<np:=by rw[← dvl];exact (yha.mp hv).1
  obtain⟨xs,hx,b,rfl,eb⟩:=al2.get hv;rw[yia,yng hi] at hx;obtain rfl:=yoc hx;have eb':=(S211.trans S) _ _ eb;refine⟨rfl,_,rfl,_,rfl,b,_,rfl,SqT.of eb',λwh=>?_,λ_ c hc=>?_⟩
  ·have ew:=zvw wh;rw[zqib] at ew;rw[← ew] at eb';refine⟨S,?_⟩;rw[take_range _ hi];exact All2.snoc ⟨b,rfl,eb'⟩ al
  ·rw[zqib];refine laid hc λH9 S9 e9=>⟨S.trans S9,?_⟩;rw[take_range _ hi];exact All2.snoc ⟨c,rfl,e9⟩ (al.imp λz=>z.kp (Kp.same S9))
 rintro hs H12 ⟨S12,alh⟩ l12 hl12;rw[dvl,yra (by rw[ybc];exact yga _)] at alh;refine laid hl12 λH13 S13 e13=>?_;refine⟨l12,_,rfl,.inl ⟨SqL.of e13,λt4 ht4=>?_⟩⟩;refine laid ht4 λH14 S14 e14=>?_;refine⟨sz0,λt5 ht5=>?_⟩;refine laid ht5 λH15 S15 e15=>?_;refine⟨sz0,λt6 ht6=>?_⟩;refine laid ht6 λH16 S16 e16=>?_;have S1116:=S12.trans (S13.trans (S14.trans (S15.trans S16)));have S16':=S02.trans (S211.trans S1116);have alh16:All2 (T1 H16) hs ((yxb np).map λp:Nat=>iM ((nums os (p:Int) os.length).take 3)):=alh.imp λz=>z.kp (Kp.same (S13.trans (S14.trans (S15.trans S16))));obtain⟨cvs,ec,alc⟩:=CD.same S16';have cl:=alc.len;refine⟨_,rfl,ca,rfl,⟨_,SqL.of ec⟩,?_⟩;refine zyb (xs:=cvs) (λi ys H'=>H'=H16∧All2 (T1 H') ys ((cms.take i).map sM)) (λi ys H' z=>by rw[z.1];exact SqL.of ec) ⟨rfl,.nil⟩ ?_ ?_ ?_
 ·rintro i ys H' ⟨_,al⟩;have:=al.len;rw[yca,yza] at this;exact small (by omega)
 ·rintro i v ys H' hv ⟨rfl,al⟩;obtain⟨ms,hm,cd,dx,m,tt,nm,c,f,rfl,ecd,em⟩:=alc.get hv;refine⟨rfl,_,rfl,cd,_,dx,_,_,rfl,ecd,T.zih,T.zug,zmfb _ _ _ _ _,rfl,?_⟩;rw[ydb,hm,yub,ygb];exact All2.snoc ⟨m,rfl,em⟩ al
 rintro ms H17 ⟨rfl,alm⟩ l17 hl17;rw[cl,yra (yga _)] at alm;refine laid hl17 λH18 S18 e18=>?_;refine⟨l17,_,rfl,.inl ⟨SqL.of e18,λt7 ht7=>?_⟩⟩;refine laid ht7 λH19 S19 e19=>?_;refine⟨sz1,λa8 ha8=>?_⟩;refine laid ha8 λH20 S20 e20=>?_;have S1620:=S18.trans (S19.trans S20);refine⟨_,rfl,ca,_,rfl,.inl (SqL.of (S1620 _ _ ec)),zxkb e20 (by omega) λt8 H21 S21 e21=>?_⟩;refine⟨(by show 9≤yva;decide),λt ht=>?_⟩;refine laid ht λH22 S22 e22=>?_;have S2122:=S21.trans S22;have S1622:=S1620.trans S2122;have S1122:=S1116.trans S1622;have S1422:=(S15.trans S16).trans S1622;have S822:=S811.trans S1122;rw[zslb,yeb] at e4 e6 e8;refine q (.ref t) H22 (S16'.trans S1622) ⟨t,.ref p1,.ref p2,.ref p3,.ref t3,.ref t4,.ref t5,.ref t6,.ref t7,.ref t8,rfl,e22,?_⟩;exact {
  p0:=⟨p1,rfl,by rw[(S5.trans (S6.trans (S7.trans (S8.trans S822)))) _ _ e4];unfold iM tab0;rw[yce]⟩
  p1:=⟨p2,rfl,by rw[(S7.trans (S8.trans S822)) _ _ e6];unfold iM tab0;rw[yce]⟩
  p2:=⟨p3,rfl,by rw[S822 _ _ e8];unfold tab0;rw[yce]⟩
  p3:=⟨t3,ds,rfl,S1122 _ _ e11,by unfold tab0;rw[yee];exact ald11.imp λz=>z.kp (Kp.same S1122)⟩
  p4:=⟨t4,hs,rfl,S1422 _ _ e14,by unfold tab0;rw[yee];exact alh16.imp λz=>z.kp (Kp.same S1622)⟩
  p5:=⟨t5,rfl,(S16.trans S1622) _ _ e15⟩
  p6:=⟨t6,rfl,S1622 _ _ e16⟩
  p7:=⟨t7,ms,rfl,(S20.trans S2122) _ _ e19,alm.imp λz=>z.kp (Kp.same S1622)⟩
  p8:=⟨t8,rfl,by rw[S22 _ _ e21];unfold iM tab0;rw[yce,cl]⟩ }
theorem CoT.kp {B:Addr}{H H':Hp}(s:Kp H H'){v:V}{n:Nat}(h:CoT B H v n):CoT B H' v n:=by
 obtain⟨a,dx,m,tt,nm,f,e,h1⟩:=h;exact⟨a,dx,m,tt,nm,f,e,s.i h1⟩
def RcT (B:Addr)(H:Hp)(v:V)(c:Crd):Prop:=PcT B H v ⟨c.force,c.marks⟩∧CoT B H v c.cost
theorem RcT.kp {B:Addr}{H H':Hp}(s:Kp H H'){v:V}{c:Crd}(h:RcT B H v c):RcT B H' v c:=⟨h.1.kp s,h.2.kp s⟩
def ownN (dss:List (List Crd))(i:Nat):List Nat:=(yxb i).flatMap λj:Nat=>yna (dss.getD j []).length j
theorem zcn (dss:List (List Crd))(i:Nat):ownN dss (i+1)=ownN dss i++yna (dss.getD i []).length i:=by
 unfold ownN;rw[yog,ybr];simp
theorem zohb {dss:List (List Crd)}{i:Nat}:∀o∈ownN dss i,o<i:=λo ho=>by
 unfold ownN at ho;obtain⟨j,hj,h⟩:=List.mem_flatMap.mp ho;rw[(List.mem_replicate.mp h).2];exact ych.mp hj
theorem zou {dss:List (List Crd)}:∀i,i≤dss.length->(ownN dss i).length=(dss.take i).flatten.length:=by
 intro i
 induction i with
 | zero=>intro _;rfl
 | succ i ih =>
  intro h;have hi:i<dss.length:=h;rw[zcn,ypa,ih (by omega),yib,ydb,ybb hi,yub,yjj,ypa,yua,ybb hi];simp
theorem zebb {dss:List (List Crd)}(h:∀cs∈dss,cs.length≤4):dss.flatten.length≤4*dss.length:=by
 induction dss with
 | nil=>exact yga _
 | cons cs r ih =>
  have b:=ih λx hx=>h x (yla _ hx);have c:=h cs yma;rw[yme,ypa,ykc];omega
theorem zkv {dss:List (List Crd)}(i:Nat):(dss.take i).flatten.length≤dss.flatten.length:=by
 have e:dss.flatten=(dss.take i).flatten++(dss.drop i).flatten:=by rw[← yjj,ypi]
 rw[e,ypa];exact yyk _ _
def pcF (dss:List (List Crd)):List Pc:=dss.flatten.map λc=>⟨c.force,c.marks⟩
def coF (dss:List (List Crd)):List Nat:=dss.flatten.map (·.cost)
def DkN (H:Hp)(v:V)(cs:List Crd):Prop:=∃d,v = .ref d∧H d=some (.lst (cs.map λc=>V.str c.text))∧cs.length≤4∧∀c∈cs,c.ok∧c.rules=[]
def KsT (B:Addr)(H:Hp)(ca:Addr)(ks:List Nat):Prop:=∃cvs:List V,H ca=some (.lst cvs)∧All2 (CoT B H) cvs ks
theorem zjec (os:List Nat):oM os=iM (os.map λo=>((o:Nat):Int)):=by
 unfold oM iM;rw[yee];rfl
def zuub (B:Addr):Sp:=λvs H Q _=>Ex2 λv (c:Pc)=>vs=[v]∧PcT B H v c∧∀H',Same H H'->Q (.int 0) H'
def zjac (B:Addr):Sp:=λvs H Q _=>Ex3 λa ds (dss:List (List Crd))=>vs=[.ref a]∧H a=some (.lst ds)∧All2 (DkN H) ds dss∧2≤dss.length∧dss.length≤4∧∀t ca oa tv H',Same H H'->H ca=none->H oa=none->H' t=some (.tup [.ref ca,.ref oa,tv])->GC B H' ca oa (pcF dss) (ownN dss dss.length)->KsT B H' ca (coF dss)->TabT H' tv (tab0 ((ownN dss dss.length).map λo=>((o:Nat):Int)) dss.length ((pcF dss).map (·.marks)))->Q (.ref t) H'
theorem zrab (T:Tx K mg):FnOk P w K mg base CX0 2 T.zze.f T.zze.d zao (zuub T.znb):=by
 refine T.zze.ok zbab ?_;rintro f c A o s H vs Q E hr ⟨v,c,rfl,pc,q⟩ X;obtain⟨cd,dx,m,tt,nm,kk,rfl,ecd,em,ett⟩:=pc;refine⟨_,  (zfa (zsa (zab zwa rfl T.zuf ysb (zaa (zec (own:=["rule"]) (cap:=[]) rfl (zya.chk rfl rfl) .nil (zdw (zee (pv 0) rfl)) (λ_ _ _ _=>(zda (i:=0) (show yhb (["rule"]:List Str) by decide +kernel) rfl (.inl rfl))) (λ_ _ _ _=>zah (zxa zoh (zva (zid K) (pv 0) zia (λ_ _=>rfl)) zkb (zfb _))) (λ_ _ _ _=>by exact (pv 0))) zba)))),?_⟩;refine⟨_,rfl,cd,_,dx,_,_,rfl,ecd,T.zih,T.zmf,zyw _ _ _ _ _,tt,rfl,⟨_,SqT.of ett⟩,?_⟩;refine zyl (xs:=[]) (λi ys H'=>H'=H∧ys=[]) (λi ys H' z=>by rw[z.1];exact SqT.of ett) ⟨rfl,rfl⟩ ?_ ?_ ?_
 ·rintro i ys H' ⟨_,rfl⟩;exact ywa _
 ·intro i v ys H' hx;cases hx
 ·rintro ys H9 ⟨rfl,rfl⟩ b hb;refine laid hb λH2 S2 e2=>?_;exact⟨b,_,rfl,.inl (SqL.of e2),q H2 S2⟩
theorem zrvb (T:Tx K mg):FnOk P w K mg base CX0 10 T.zzo.f T.zzo.d znjb (zjac T.znb):=by
 refine T.zzo.ok zkq ?_;rintro f c A o s H vs Q E hr ⟨a,ds,dss,rfl,ea,al,d2,d4,q⟩ X;refine⟨_,  (zca (zla (i:=1) zkq.nd rfl (.inl rfl) (zdc zba))
  (zca (zla (i:=2) zkq.nd rfl (.inl rfl) (zdc zba))
  (zca (zbh yyb rfl (zblb rfl T.zje (zaa (pv 0) zba)) (zmc (n:=2) rfl (zea (zda (i:=3) zkq.nd rfl (.inr rfl)) (zea (zda (i:=4) zkq.nd rfl (.inl rfl)) zjb)))
   (zca (zjc (zog yya yef yff zbl (pv 1) (zaa (zec (own:=["text"]) (cap:=[]) rfl (zya.chk rfl rfl) .nil (zcc (pv 4)) (λ_ _ _ _=>(zda (i:=0) (show yhb (["text"]:List Str) by decide +kernel) rfl (.inl rfl))) (λ_ _ _ _=>zyc) (λ_ _ _ _=>by exact (zja (zdeb T) hr rfl T.zeg.m T.zeg.F.kp (zwib T) .nil zqa (zaa (pv 0) zba)))) zba)))
   (zfa (zjc (zog yya yef yff zbl (pv 2) (zaa (zec (own:=["text"]) (cap:=["player"]) rfl (zya.chk rfl rfl) (.cons (j:=3) rfl (.inl rfl) (.inl rfl) .nil) (zcc (pv 4)) (λ_ _ _ _=>(zda (i:=0) (show yhb (["text","player"]:List Str) by decide +kernel) rfl (.inl rfl))) (λ_ _ _ _=>zyc) (λ_ _ _ _=>by exact (pv 1))) zba))))))
  (zca (zrc (zek (zalb zoab zoab (zua (v:=.int 2) rfl T.zbg ⟨_,rfl⟩) (zab zwa rfl T.zuf ysb (zaa (pv 0) zba)) (zua (v:=.int 4) rfl T.zii ⟨_,rfl⟩)))
   (zfa zqf)
   zeb)
  (zca (zrc (zxa zdnb (zab zwa rfl T.zuf ysb (zaa (pv 1) zba)) (zua (v:=.int 16) rfl T.zkk ⟨_,rfl⟩) (zfb _))
   (zfa zqf)
   zeb)
  (zca (zrc (zxa zdnb (zab (zobb rfl) rfl T.zaub boot_sum (zaa (zec (own:=["card"]) (cap:=[]) rfl (zya.chk rfl rfl) .nil (zcc (pv 1)) (λ_ _ _ _=>(zda (i:=0) (show yhb (["card"]:List Str) by decide +kernel) rfl (.inl rfl))) (λ_ _ _ _=>zyc) (λ_ _ _ _=>by exact (zja (zrab T).up hr rfl T.zze.m T.zze.F.kp (zagb T) .nil zqa (zaa (pv 0) zba)))) zba)) (zua (v:=.int 8) rfl T.zjk ⟨_,rfl⟩) (zfb _))
   (zfa zqf)
   zeb)
  (zfa (zsa (zra (zaa (pv 1) (zaa (pv 2) (zaa (zja (zey T).up hr rfl T.zle.m T.zle.F.kp (zsbb T) .nil zqa (zaa (pv 1) (zaa (pv 2) (zaa (zab zwa rfl T.zuf ysb (zaa (pv 0) zba)) zba)))) zba)))))))))))),?_⟩
 have dl:=al.len;have dz:∀cs∈dss,cs.length≤4:=λcs hc=>by
  obtain⟨v,_,⟨d,_,_,h2,_⟩⟩:=al.mem2 hc;exact h2
 have fl:=zebb dz;refine⟨sz0,λca hca=>?_⟩;refine laid hca λH1 S1 e1=>?_;refine⟨sz0,λoa hoa=>?_⟩;have nco:ca≠oa:=zka e1 hoa;have hoa0:H oa=none:=none_of S1 hoa;refine laid hoa λH2 S2 e2=>?_;have S02:=S1.trans S2;refine⟨_,rfl,a,_,rfl,SqL.of (S02 _ _ ea),?_⟩;refine zcsb (xs:=ds) (λi σ Hx=>Ex3 λcvs o3 o4=>σ=[some (.ref a),some (.ref ca),some (.ref oa),o3,o4]∧Same H Hx∧Hx ca=some (.lst cvs)∧All2 (RcT T.znb Hx) cvs (dss.take i).flatten∧Hx oa=some (.lst (oM (ownN dss i)))∧i≤dss.length) ⟨[],_,_,rfl,S02,S2 _ _ e1,.nil,e2,ywa _⟩ (λi σ Hx _ ⟨cvs,o3,o4,_,S,_⟩=>SqL.of (S _ _ ea)) ?_ ?_
 ·rintro i v σ Hx pp hv ⟨cvs,o3,o4,rfl,S,ec,alc,eo,_⟩ hp;obtain⟨cs,hcs,d,rfl,ed,c4,cok⟩:=al.get hv;have hi:i<dss.length:=(yha.mp hcs).1;refine laid hp λH3 S3 e3=>?_;refine⟨pp,_,rfl,SqT.of e3,rfl,_,_,rfl,_,_,rfl,rfl,?_⟩;have S03:=S.trans S3;have ed3:=S03 _ _ ed;refine⟨_,rfl,.inl ⟨rfl,_,SqL.of (S3 _ _ ec)⟩,_,rfl,d,rfl,⟨_,SqL.of ed3⟩,?_⟩;refine zyb (xs:=cs.map λc=>V.str c.text) (λj ys H'=>Same H3 H'∧All2 (RcT T.znb H') ys (cs.take j)) (λj ys H' z=>SqL.of (z.1 _ _ ed3)) ⟨Same.refl _,.nil⟩ ?_ ?_ ?_
  ·rintro j ys H' ⟨_,al'⟩;have:=al'.len;rw[yza] at this;exact small (by omega)
  ·rintro j u ys H' hu ⟨S',al'⟩;rw[yia] at hu;obtain⟨c,hc,rfl⟩:=ygc.mp hu;obtain⟨ck,nh⟩:=cok c (ycb hc);refine⟨rfl,_,rfl,c,rfl,ck,nh,λcv H'' S'' pc co=>⟨S'.trans S'',?_⟩⟩;rw[ydb,hc,yub];exact All2.snoc ⟨pc,co⟩ (al'.imp λz=>z.kp (Kp.same S''))
  rintro ys H4 ⟨S4,aly⟩ l4 hl4;rw[yca,yra (yga _)] at aly;refine laid hl4 λH5 S5 e5=>?_;have S35:=S4.trans S5;have ec5:=(S3.trans S35) _ _ ec;have yl:=aly.len;have cl:=alc.len;have tf:=zkv (dss:=dss) i;refine⟨ca,l4,_,_,rfl,rfl,ec5,e5,small (by omega),?_⟩;have S05:=S03.trans S35;have S06:Same H (upd H5 ca (.lst (cvs++ys))):=zve S05 hca _;have ec6:upd H5 ca (.lst (cvs++ys)) ca=some (.lst (cvs++ys)):=zta;have eo6:upd H5 ca (.lst (cvs++ys)) oa=some (.lst (oM (ownN dss i))):=by
   rw[zbb (ysc nco)];exact (S3.trans S35) _ _ eo
  have kp6:Kp H5 (upd H5 ca (.lst (cvs++ys))):=Kp.put ec5;have alc6:All2 (RcT T.znb (upd H5 ca (.lst (cvs++ys)))) (cvs++ys) (dss.take (i+1)).flatten:=by
   have z1:All2 (RcT T.znb (upd H5 ca (.lst (cvs++ys)))) cvs (dss.take i).flatten:=alc.imp λz=>z.kp ((Kp.same (S3.trans S35)).trans kp6);have z2:All2 (RcT T.znb (upd H5 ca (.lst (cvs++ys)))) ys cs:=aly.imp λz=>z.kp ((Kp.same S5).trans kp6);rw[ydb,hcs,yub,yjj,yme,yzs,ypc];exact All2.app z1 z2
  generalize upd H5 ca (.lst (cvs++ys))=H6 at *;have ed6:=S06 _ _ ed;refine⟨_,rfl,.inl ⟨rfl,_,SqL.of eo6⟩,_,rfl,d,rfl,⟨_,SqL.of ed6⟩,?_⟩;refine zyb (xs:=cs.map λc=>V.str c.text) (λj ys H'=>H'=H6∧ys=yna j (V.int (i:Int))∧j≤4) (λj ys H' z=>by rw[z.1];exact SqL.of ed6) ⟨rfl,rfl,by decide⟩ ?_ ?_ ?_
  ·rintro j ys H' ⟨_,rfl,hj⟩;rw[yib];exact small (by omega)
  ·rintro j u ys H' hu ⟨rfl,rfl,_⟩;have hj:j<cs.length:=by
    have:=(yha.mp hu).1;rw[yca] at this;exact this
   exact⟨rfl,_,rfl,rfl,by rw[yeg],by omega⟩
  rintro zs H7 ⟨rfl,rfl,_⟩ l7 hl7;rw[yca];refine laid hl7 λH8 S8 e8=>?_;have ol:=zou (dss:=dss) i (by omega);have eo8:=S8 _ _ eo6;refine⟨oa,l7,_,_,rfl,rfl,eo8,e8,?_,?_⟩
  ·unfold oM;rw[yca,yib];exact small (by omega)
  have S08:=S06.trans S8;refine⟨cvs++ys,_,_,rfl,zve S08 hoa0 _,by rw[zbb nco];exact S8 _ _ ec6,alc6.imp λz=>z.kp ((Kp.same S8).trans (Kp.put eo8)),?_,hi⟩;rw[zta,zcn,yua,hcs];unfold oM;rw[ygb,yce];rfl
 ·rintro σ Hx ⟨cvs,o3,o4,rfl,S,ec,alc,eo,_⟩;rw[dl,yra (yga _)] at alc;rw[dl] at eo;have cl:=alc.len;have eax:=S _ _ ea;refine⟨_,rfl,a,_,rfl,.inl (SqL.of eax),_,_,rfl,rfl,_,rfl,ite2 (λ_=>?_) (λc=>absurd (decide_eq_true (by omega)) c)⟩;refine⟨_,_,rfl,rfl,_,rfl,ite2 (λc=>?_) (λ_=>?_)⟩
  ·exfalso;have c':(!decide ((ds.length:Int)≤4))=true:=c;rw[decide_eq_true (by omega)] at c';cases c'
  refine⟨_,rfl,ca,_,rfl,.inl (SqL.of ec),_,_,rfl,rfl,_,rfl,ite2 (λc=>?_) (λ_=>?_)⟩
  ·have c':=of_decide_eq_true c;omega
  refine⟨_,rfl,ca,rfl,⟨_,SqL.of ec⟩,?_⟩;refine zyb (xs:=cvs) (λj ys H'=>Same Hx H'∧ys=yna j (V.int 0)∧j≤cvs.length) (λj ys H' z=>SqL.of (z.1 _ _ ec)) ⟨Same.refl _,rfl,ywa _⟩ ?_ ?_ ?_
  ·rintro j ys H' ⟨_,rfl,hj⟩;rw[yib];exact small (by omega)
  ·rintro j v ys H' hv ⟨S',rfl,_⟩;obtain⟨c,hm,ck⟩:=alc.get hv;refine⟨rfl,_,rfl,v,_,rfl,(ck.kp (Kp.same S')).1,λH'' S''=>⟨S'.trans S'',by rw[yeg],(yha.mp hv).1⟩⟩
  rintro zs H3 ⟨S3,rfl,_⟩ l3 hl3;refine laid hl3 λH4 S4 e4=>?_;have S34:=S3.trans S4;have e4':H4 l3=some (.lst ((yna cvs.length (0:Int)).map V.int)):=by rw[e4,yce]
  have s0:∀n:Nat,(yna n (0:Int)).sum=0:=λn=>by
   induction n with
   | zero=>rfl
   | succ n ih=>rw[ywe,ywj,ih];rfl
  refine⟨l3,_,rfl,SqL.of e4',_,_,rfl,rfl,_,rfl,ite2 (λc=>?_) (λ_=>?_)⟩
  ·have c':=of_decide_eq_true c;rw[s0] at c';omega
  have al4:All2 (RcT T.znb H4) cvs dss.flatten:=alc.imp λz=>z.kp (Kp.same S34);have ol:=zou (dss:=dss) dss.length (yga _);rw[yra (yga _)] at ol;have GG:GC T.znb H4 ca oa (pcF dss) (ownN dss dss.length):=by
   refine⟨⟨cvs,S34 _ _ ec,zwu (λz=>z.1) al4⟩,S34 _ _ eo,by unfold pcF;rw[yca];exact ol,by unfold pcF;rw[yca];omega,λm hm=>?_⟩;obtain⟨c0,hc0,rfl⟩:=yfc.mp hm;obtain⟨c,hcc,rfl⟩:=yfc.mp hc0;obtain⟨cs,hcs,hc⟩:=yat.mp hcc;obtain⟨v,_,d,_,_,_,cok⟩:=al.mem2 hcs;have ok:=(cok c hc).1.marks;exact⟨yob ok.le (by decide),ok.ok⟩
  have KS:KsT T.znb H4 ca (coF dss):=⟨cvs,S34 _ _ ec,zwu (λz=>z.2) al4⟩;have cml:((pcF dss).map (·.marks)).length=dss.flatten.length:=by unfold pcF;rw[yca,yca]
  have eo4:=S34 _ _ eo;rw[zjec] at eo4;refine⟨_,rfl,_,rfl,_,rfl,_,rfl,_,rfl,a,_,rfl,.inl (SqL.of (S34 _ _ eax)),ca,oa,dss.length,(ownN dss dss.length).map (λo=>((o:Nat):Int)),(pcF dss).map (·.marks),(by show [V.ref ca,V.ref oa,V.int (ds.length:Int)]=_;rw[dl]),GG.cds,eo4,by rw[yca,ol];omega,d2,d4,by omega,λtv H5 S5 TT=>⟨sz3,λt ht=>?_⟩⟩;refine laid ht λH6 S6 e6=>?_;have S56:=S5.trans S6;obtain⟨cvs',k1,k2⟩:=KS;exact q t ca oa tv H6 (S.trans (S34.trans S56)) hca hoa0 e6 (GG.same S56) ⟨cvs',S56 _ _ k1,k2.imp λz=>z.kp (Kp.same S56)⟩ (TT.kp (Kp.same S6))
structure Sd where
 t:Tab
 pile:List (Nat×Nat)
 turn:Nat
 word:Nat
 passes:Nat
 coins:List Int
def PlT (H:Hp)(v:V)(x:Nat×Nat):Prop:=∃a,v = .ref a∧H a=some (.tup [.str "card",.int (x.1:Int),.int (x.2:Int),.int 0])
theorem PlT.kp {H H':Hp}(s:Kp H H'){v:V}{x:Nat×Nat}(h:PlT H v x):PlT H' v x:=by
 obtain⟨a,e,h⟩:=h;exact⟨a,e,s.t h⟩
def StT (H:Hp)(v:V)(s:Sd):Prop:=Ex5 λa pl co tv us=>v = .ref a∧H a=some (.tup [tv,.ref pl,.int (s.turn:Int),.int (s.word:Int),.int (s.passes:Int),.ref co,.non])∧TabT H tv s.t∧H pl=some (.tup us)∧All2 (PlT H) us s.pile∧H co=some (.tup (iM s.coins))
theorem StT.kp {H H':Hp}(k:Kp H H'){v:V}{s:Sd}(h:StT H v s):StT H' v s:=by
 obtain⟨a,pl,co,tv,us,e,h1,h2,h3,h4,h5⟩:=h;exact⟨a,pl,co,tv,us,e,k.t h1,h2.kp k,k.t h3,h4.imp λz=>z.kp k,k.t h5⟩
def cells (s:Sd):List Int:=s.t.decks.flatten++(s.t.hands.flatten++(s.pile.map (λx=>(x.2:Int))++(s.t.lying++s.t.heap)))
structure SI (np nc:Nat)(cs:List Pc)(s:Sd):Prop where
 ti:TI np nc s.t
 np2:2≤np
 pts:s.t.pts=yna np 20
 gone:s.t.gone=yna np false
 wnds:s.t.wnds=yna nc 0
 marks:s.t.marks=cs.map (·.marks)
 frc:∀n∈s.t.lying,∀c,cs[n.toNat]?=some c->0<c.force
 nd:(cells s).Nodup
 rg:∀n∈cells s,0≤n∧n<nc
 coins:s.coins.length=np
 turn:s.turn<np
 word:s.word<np
 passes:s.passes<np
 pile:s.pile.length≤1
abbrev Ev:=Str×Int×Int
def znx (ks:List Nat)(s:Sd)(n:Nat)(s':Sd):Prop:=Ex3 λ(h:List Int) (c:Int) (k:Nat)=>s.t.hands[s.word]?=some h∧s.coins[s.word]?=some c∧ks[n]?=some k∧s'={ s with t:={ s.t with hands:=s.t.hands.set s.word (h.filter λx=>!decide (x=(n:Int))) },pile:=s.pile++[(s.word,n)],passes:=0,coins:=s.coins.set s.word (c-(k:Int)) }
theorem znx.det {ks:List Nat}{s s1 s2:Sd}{n:Nat}(h1:znx ks s n s1)(h2:znx ks s n s2):s1=s2:=by
 obtain⟨a,b,c,e1,e2,e3,rfl⟩:=h1;obtain⟨a',b',c',e1',e2',e3',rfl⟩:=h2;rw[e1] at e1';rw[e2] at e2';rw[e3] at e3';cases e1';cases e2';cases e3';rfl
inductive LetR (np:Nat)(cs:List Pc)(s:Sd):Sd->List Ev->Prop where
 | pass:s.passes+1<np->LetR np cs s { s with word:=(s.word+1) % np,passes:=s.passes+1 } []
 | turn {d h hand:List Int}:¬ s.passes+1<np->s.pile=[]->s.t.decks[(s.turn+1) % np]?=some d->s.t.hands[(s.turn+1) % np]?=some h->hand.Perm (h++d.take 1)->hand.Pairwise (· ≤ ·)->LetR np cs s { s with t:={ s.t with hands:=s.t.hands.set ((s.turn+1) % np) hand,decks:=s.t.decks.set ((s.turn+1) % np) (d.drop 1) },turn:=(s.turn+1) % np,word:=(s.turn+1) % np,passes:=0,coins:=s.coins.set ((s.turn+1) % np) 5 } [("draw",-1-(((s.turn+1) % np:Nat):Int),1)]
 | come {p n:Nat} {c:Pc}:¬ s.passes+1<np->s.pile=[(p,n)]->cs[n]?=some c->c.force≠0->LetR np cs s { s with t:={ s.t with lying:=s.t.lying++[(n:Int)] },pile:=[],word:=s.turn,passes:=0 } [("come",(n:Int),0)]
 | gone {p n:Nat} {c:Pc} {heap:List Int}:¬ s.passes+1<np->s.pile=[(p,n)]->cs[n]?=some c->c.force=0->heap.Perm (s.t.heap++[(n:Int)])->heap.Pairwise (· ≤ ·)->LetR np cs s { s with t:={ s.t with heap:=heap },pile:=[],word:=s.turn,passes:=0 } [("come",(n:Int),0),("leave",(n:Int),0)]
theorem LetR.det {np:Nat}{cs:List Pc}{s s1 s2:Sd}{l1 l2:List Ev}(h1:LetR np cs s s1 l1)(h2:LetR np cs s s2 l2):s1=s2∧l1=l2:=by
 cases h1 with
 | pass a =>
  cases h2 with
  | pass _=>exact⟨rfl,rfl⟩
  | turn b=>exact absurd a b
  | come b=>exact absurd a b
  | gone b=>exact absurd a b
 | turn a1 a2 a3 a4 a5 a6 =>
  cases h2 with
  | pass b=>exact absurd b a1
  | turn b1 b2 b3 b4 b5 b6 =>
   rw[a3] at b3;rw[a4] at b4;cases b3;cases b4;rw[zjab a6 b6 (a5.trans b5.symm)];exact⟨rfl,rfl⟩
  | come _ b=>rw[a2] at b;cases b
  | gone _ b=>rw[a2] at b;cases b
 | come a1 a2 a3 a4 =>
  cases h2 with
  | pass b=>exact absurd b a1
  | turn _ b=>rw[a2] at b;cases b
  | come _ b=>rw[a2] at b;cases b;exact⟨rfl,rfl⟩
  | gone _ b c d=>rw[a2] at b;cases b;rw[a3] at c;cases c;exact absurd d a4
 | gone a1 a2 a3 a4 a5 a6 =>
  cases h2 with
  | pass b=>exact absurd b a1
  | turn _ b=>rw[a2] at b;cases b
  | come _ b c d=>rw[a2] at b;cases b;rw[a3] at c;cases c;exact absurd a4 d
  | gone _ b c d e f =>
   rw[a2] at b;cases b;rw[zjab a6 f (a5.trans e.symm)];exact⟨rfl,rfl⟩
theorem zuu {α:Type}:∀{xss:List (List α)} {i:Nat} {x y z:List α},xss[i]?=some x->x.Perm (z++y)->xss.flatten.Perm (z++(xss.set i y).flatten)
 | [],i,x,y,z,h,_=>by simp at h
 | a::r,0,x,y,z,h,p=>by
  rw[yif] at h;cases h;show (a++r.flatten).Perm (z++(y++r.flatten))
  rw[← ywb];exact p.append_right _
 | a::r,i+1,x,y,z,h,p=>by
  rw[yjc] at h;have ih:=zuu h p;show (a++r.flatten).Perm (z++(a++(r.set i y).flatten))
  refine (ih.append_left a).trans ?_;rw[← ywb,← ywb];exact ybh.append_right _
theorem zllb {α:Type}{xss:List (List α)}{i:Nat}{x:List α}(h:xss[i]?=some x):x.Sublist xss.flatten:=ysi (ycb h)
theorem znzb {nc:Nat}{xs ys:List Int}(nd:ys.Nodup)(rg:∀n∈ys,0≤n∧n<nc)(h:xs.Sublist ys):xs.length≤nc:=few (nd.sublist h) λn hn=>rg n (h.subset hn)
theorem SI.next {np nc:Nat}{cs:List Pc}{s s':Sd}(h:SI np nc cs s)(pm:(cells s').Perm (cells s))(e0:s'.t.pts=s.t.pts)(e1:s'.t.scs=s.t.scs)(e2:s'.t.gone=s.t.gone)(e7:s'.t.marks=s.t.marks)(e8:s'.t.wnds=s.t.wnds)(dl:s'.t.decks.length=s.t.decks.length)(hl:s'.t.hands.length=s.t.hands.length)(so:s'.t.heap.Pairwise (· ≤ ·))(fr:∀n∈s'.t.lying,∀c,cs[n.toNat]?=some c->0<c.force)(co:s'.coins.length=np)(tu:s'.turn<np)(wo:s'.word<np)(pa:s'.passes<np)(pi:s'.pile.length≤1):SI np nc cs s':=by
 have nd':(cells s').Nodup:=pm.nodup_iff.mpr h.nd;have rg':∀n∈cells s',0≤n∧n<nc:=λn hn=>h.rg n (pm.mem_iff.mp hn);have nc16:=h.ti.ok.nc16;have sD:s'.t.decks.flatten.Sublist (cells s'):=yzf _ _;have sR:(s'.t.hands.flatten++(s'.pile.map (λx=>(x.2:Int))++(s'.t.lying++s'.t.heap))).Sublist (cells s'):=yve _ _;have sH:s'.t.hands.flatten.Sublist (cells s'):=(yzf _ _).trans sR;have sL:(s'.t.lying++s'.t.heap).Sublist (cells s'):=((yve _ _).trans (yve _ _)).trans sR;have sY:s'.t.lying.Sublist (cells s'):=(yzf _ _).trans sL;have sP:s'.t.heap.Sublist (cells s'):=(yve _ _).trans sL;have fw:∀{xs:List Int},xs.Sublist (cells s')->xs.length≤16:=λz=>yob (znzb nd' rg' z) nc16;refine⟨⟨⟨by rw[e0];exact h.ti.ok.pts,by rw[e1];exact h.ti.ok.scs,by rw[e2];exact h.ti.ok.gone,by rw[dl];exact h.ti.ok.decks,by rw[hl];exact h.ti.ok.hands,by rw[e7];exact h.ti.ok.marks,by rw[e8];exact h.ti.ok.wnds,fw sY,fw sP,by rw[e7];exact h.ti.ok.ms,λd hd=>fw ((ysi hd).trans sD),λd hd=>fw ((ysi hd).trans sH),h.ti.ok.np4,nc16⟩,nd'.sublist sL,λn hn=>rg' n (sY.subset hn),λn hn=>rg' n (sP.subset hn),so,by rw[e7];exact h.ti.nm⟩,h.np2,by rw[e0];exact h.pts,by rw[e2];exact h.gone,by rw[e8];exact h.wnds,by rw[e7];exact h.marks,fr,nd',rg',co,tu,wo,pa,pi⟩
theorem SI.played {np nc:Nat}{cs:List Pc}{ks:List Nat}{s s':Sd}{n:Nat}(h:SI np nc cs s)(hp:s.pile=[])(hh:∀x,s.t.hands[s.word]?=some x->(n:Int)∈x)(pl:znx ks s n s'):SI np nc cs s':=by
 obtain⟨x,c,k,e1,e2,e3,rfl⟩:=pl;have sH:x.Sublist (cells s):=(zllb e1).trans ((yzf _ _).trans (yve _ _));have pf:=zmz (h.nd.sublist sH) (hh x e1);have pm:s.t.hands.flatten.Perm ([(n:Int)]++(s.t.hands.set s.word (x.filter λy=>!decide (y=(n:Int)))).flatten):=zuu e1 pf;refine h.next ?_ rfl rfl rfl rfl rfl rfl (by show (yoq _ _ _).length=_;rw[yhf]) h.ti.so h.frc (by show (yoq _ _ _).length=_;rw[yhf];exact h.coins) h.turn h.word (by have:=h.np2;show 0<np;omega) (by rw[hp];exact yga _);unfold cells;refine ydf _ ?_;show ((s.t.hands.set s.word (x.filter λy=>!decide (y=(n:Int)))).flatten++((s.pile++[(s.word,n)]).map (λx=>(x.2:Int))++(s.t.lying++s.t.heap))).Perm _
 rw[hp];refine ysj.trans ?_ (pm.symm.append_right _);exact yxo
theorem SI.let {np nc:Nat}{cs:List Pc}{s s':Sd}{lg:List Ev}(h:SI np nc cs s)(hc:cs.length=nc)(lr:LetR np cs s s' lg):SI np nc cs s':=by
 have np2:=h.np2;have md:∀x:Nat,x % np<np:=λx=>yln _ (by omega);cases lr with
 | pass a=>exact h.next (.refl _) rfl rfl rfl rfl rfl rfl rfl h.ti.so h.frc h.coins h.turn (md _) a h.pile
 | @turn d x hand a1 a2 a3 a4 a5 a6 =>
  refine h.next ?_ rfl rfl rfl rfl rfl (by show (yoq _ _ _).length=_;rw[yhf]) (by show (yoq _ _ _).length=_;rw[yhf]) h.ti.so h.frc (by show (yoq _ _ _).length=_;rw[yhf];exact h.coins) (md _) (md _) (by show 0<np;omega) (by rw[a2];decide);have p1:s.t.decks.flatten.Perm (d.take 1++(s.t.decks.set ((s.turn+1) % np) (d.drop 1)).flatten):=zuu a3 (by rw[ypi]);have p2:(s.t.hands.set ((s.turn+1) % np) hand).flatten.Perm (d.take 1++s.t.hands.flatten):=by
   have hl:=(yha.mp a4).1;have z:=zuu (xss:=s.t.hands.set ((s.turn+1) % np) hand) (i:=(s.turn+1) % np) (x:=hand) (y:=x) (z:=d.take 1) (yyj hl) (a5.trans ybh);rw[List.set_set] at z;have e:s.t.hands.set ((s.turn+1) % np) x=s.t.hands:=by
    have:=(yha.mp a4).2;rw[← this];exact yjq hl
   rw[e] at z;exact z
  unfold cells;refine ysj.trans ?_ (p1.symm.append_right _);show ((s.t.decks.set ((s.turn+1) % np) (d.drop 1)).flatten++((s.t.hands.set ((s.turn+1) % np) hand).flatten++(s.pile.map (λx=>(x.2:Int))++(s.t.lying++s.t.heap)))).Perm _
  refine ((p2.append_right _).append_left _).trans ?_;rw[ywb,← ywb];exact ybh.append_right _
 | @come p n c a1 a2 a3 a4 =>
  have np2':=h.np2;refine h.next ?_ rfl rfl rfl rfl rfl rfl rfl h.ti.so (λx hx c' hc'=>?_) h.coins h.turn h.turn (by show 0<np;omega) (by show ([]:List (Nat×Nat)).length≤1;decide)
  ·unfold cells;rw[a2];refine ydf _ (ydf _ ?_);show ((s.t.lying++[(n:Int)])++s.t.heap).Perm ((n:Int)::(s.t.lying++s.t.heap))
   rw[ywb];exact yxo
  ·rcases ykd.mp hx with z|z
   ·exact h.frc x z c' hc'
   ·rw[yka.mp z,yeb,a3] at hc';cases hc';omega
 | @gone p n c heap a1 a2 a3 a4 a5 a6 =>
  have np2':=h.np2;refine h.next ?_ rfl rfl rfl rfl rfl rfl rfl a6 h.frc h.coins h.turn h.turn (by show 0<np;omega) (by show ([]:List (Nat×Nat)).length≤1;decide);unfold cells;rw[a2];refine ydf _ (ydf _ ?_);show (s.t.lying++heap).Perm ((n:Int)::(s.t.lying++s.t.heap))
  refine (a5.append_left _).trans ?_;rw[← ywb];exact ybh (l₁:=s.t.lying++s.t.heap) (l₂:=[(n:Int)])
theorem zmwb {np nc:Nat}{t:Tab}(TO:TOk np nc t)(hp:t.pts=yna np 20)(hg:t.gone=yna np false):going t=yna np false:=by
 unfold going;rw[hp,hg,yep,yom];rfl
theorem zxab {np nc:Nat}{cs:List Pc}{os:List Nat}{t t2:Tab}{ns:List Int}(T0:TI np nc t)(hp:t.pts=yna np 20)(hg:t.gone=yna np false)(h:Lk cs os t t2 ns):Lv cs t t2 ns∧t2.heap.Pairwise (· ≤ ·)∧ns.Perm (t.lying.filter (worn cs t.wnds)):=by
 obtain⟨t1,a1,a2,a3,a4,a5,a6⟩:=h;have gn:=zmwb T0.ok hp hg;have eo:outs os t=[]:=by
  unfold outs;rw[ysg];intro n _;rw[gn,yua,ytc]
  split<;>decide
 rw[eo] at a1;have e1:t1=t:=a1.det .nil a2 T0.so;subst e1;have e2:zdl t1=t1.gone:=by
  unfold zdl;rw[gn,hg,yep,yom];rfl
 have e3:({ t1 with gone:=zdl t1 }:Tab)=t1:=by rw[e2]
 rw[e3] at a3;exact⟨a3,a4,a5⟩
def ffs (ca oa:Addr)(now:V)(ll pa:Addr):List (Str×V):=[("all_cards",.ref ca),("all_owners",.ref oa),("now",now),("last_log",.ref ll),("past",.ref pa)]
section
variable {ca oa ll pa:Addr}{now:V}
theorem zuw:(ffs ca oa now ll pa).lookup ("all_cards":Str)=some (.ref ca):=zag
theorem zunb:(ffs ca oa now ll pa).lookup ("all_owners":Str)=some (.ref oa):=(zmb (by decide +kernel)).trans zag
theorem zms:(ffs ca oa now ll pa).lookup ("now":Str)=some now:=(zmb (by decide +kernel)).trans ((zmb (by decide +kernel)).trans zag)
theorem zvbc:(ffs ca oa now ll pa).lookup ("last_log":Str)=some (.ref ll):=(zmb (by decide +kernel)).trans ((zmb (by decide +kernel)).trans ((zmb (by decide +kernel)).trans zag))
theorem ztlb:(ffs ca oa now ll pa).lookup ("past":Str)=some (.ref pa):=(zmb (by decide +kernel)).trans ((zmb (by decide +kernel)).trans ((zmb (by decide +kernel)).trans ((zmb (by decide +kernel)).trans zag)))
theorem zdsb {m:Str}(h:m∉(["all_cards","all_owners","now","last_log","past"]:List Str)):(ffs ca oa now ll pa).lookup m=none:=by
 simp only[yja,yie,or_false,not_or] at h;obtain⟨h1,h2,h3,h4,h5⟩:=h;exact (zmb h1).trans ((zmb h2).trans ((zmb h3).trans ((zmb h4).trans ((zmb h5).trans rfl))))
theorem zmib {v:V}:putF "now" v (ffs ca oa now ll pa)=ffs ca oa v ll pa:=(zqd (by decide +kernel)).trans (congrArg _ ((zqd (by decide +kernel)).trans (congrArg _ znhb)))
theorem znib {l:Addr}:putF "last_log" (.ref l) (ffs ca oa now ll pa)=ffs ca oa now l pa:=(zqd (by decide +kernel)).trans (congrArg _ ((zqd (by decide +kernel)).trans (congrArg _ ((zqd (by decide +kernel)).trans (congrArg _ znhb)))))
end
def Two (x p:Addr)(H H':Hp):Prop:=∀b o,b≠x->b≠p->H b=some o->H' b=some o
theorem Two.trans {x p:Addr}{H H1 H2:Hp}(a:Two x p H H1)(b:Two x p H1 H2):Two x p H H2:=λc o n m h=>b c o n m (a c o n m h)
theorem Two.same {x p:Addr}{H H':Hp}(s:Same H H'):Two x p H H':=λb o _ _ h=>s b o h
theorem Two.kp {x p F dx ca oa ll q:Addr}{now:V}{H H':Hp}{ps:List V}(t:Two x p H H')(hx:H x=some (.ins F dx (ffs ca oa now ll q)))(hp:H p=some (.lst ps)):Kp H H':=λa o n m h=>by
 refine t a o (λz=>?_) (λz=>?_) h
 ·rw[z,hx] at h;injection h with h
  exact m ⟨_,_,_,h.symm,.inr ⟨_,_,rfl⟩⟩
 ·rw[z,hp] at h;injection h with h
  exact n _ h.symm
def EvT (H:Hp)(h:Addr)(e:Ev):Prop:=H h=some (.tup [.str e.1,.int e.2.1,.int e.2.2])
def LgE (X:List Addr)(H:Hp)(u:V)(e:Ev):Prop:=Ex4 λa h tr h'=>u = .ref a∧H a=some (.tup [.ref h,.ref tr,.ref h'])∧EvT H h e∧H tr=some (.lst [])∧EvT H h' e∧tr∉X
def FtT (X:List Addr)(B F:Addr)(H:Hp)(x pa:Addr)(cs:List Pc)(ks os:List Nat)(s:Sd)(lg:List Ev)(k:Nat):Prop :=
 Ex7 λdx ca oa ll now ps us=>H x=some (.ins F dx (ffs ca oa now ll pa))∧GC B H ca oa cs os∧KsT B H ca ks∧StT H now s∧H pa=some (.lst ps)∧ps.length=k∧H ll=some (.lst us)∧All2 (LgE X H) us lg∧ca∉X∧oa∉X∧ll∉X∧pa∈X
theorem LgE.two {X:List Addr}{x p:Addr}{H H':Hp}(t:Two x p H H')(k:Kp H H')(hx:∀xs,H x≠some (.lst xs))(hp:p∈X){u:V}{e:Ev}(h:LgE X H u e):LgE X H' u e:=by
 obtain⟨a,h,tr,h',eu,h1,h2,h3,h4,h5⟩:=h;exact⟨a,h,tr,h',eu,k.t h1,k.t h2,t _ _ (λz=>hx _ (by rw[← z];exact h3)) (λz=>h5 (by rw[z];exact hp)) h3,k.t h4,h5⟩
theorem LgE.same {X:List Addr}{H H':Hp}(s:Same H H'){u:V}{e:Ev}(h:LgE X H u e):LgE X H' u e:=by
 obtain⟨a,h,tr,h',eu,h1,h2,h3,h4,h5⟩:=h;exact⟨a,h,tr,h',eu,s _ _ h1,s _ _ h2,s _ _ h3,s _ _ h4,h5⟩
theorem GC.two {B x p ca oa:Addr}{H H':Hp}{cs:List Pc}{os:List Nat}(t:Two x p H H')(k:Kp H H')(hx:∀xs,H x≠some (.lst xs))(n1:ca≠p)(n2:oa≠p)(h:GC B H ca oa cs os):GC B H' ca oa cs os:=by
 obtain⟨⟨cvs,h1,h2⟩,h3,h4,h5,h6⟩:=h;exact⟨⟨cvs,t _ _ (λz=>hx _ (by rw[← z];exact h1)) n1 h1,h2.imp λz=>z.kp k⟩,t _ _ (λz=>hx _ (by rw[← z];exact h3)) n2 h3,h4,h5,h6⟩
theorem KsT.two {B x p ca:Addr}{H H':Hp}{ks:List Nat}(t:Two x p H H')(k:Kp H H')(hx:∀xs,H x≠some (.lst xs))(n1:ca≠p)(h:KsT B H ca ks):KsT B H' ca ks:=by
 obtain⟨cvs,h1,h2⟩:=h;exact⟨cvs,t _ _ (λz=>hx _ (by rw[← z];exact h1)) n1 h1,h2.imp λz=>z.kp k⟩
theorem KsT.same {B ca:Addr}{H H':Hp}{ks:List Nat}(s:Same H H')(h:KsT B H ca ks):KsT B H' ca ks:=by
 obtain⟨cvs,h1,h2⟩:=h;exact⟨cvs,s _ _ h1,h2.imp λz=>z.kp (Kp.same s)⟩
theorem FtT.two {X:List Addr}{B F x p y q dy ca oa ll:Addr}{now:V}{H H':Hp}{cs:List Pc}{ks os:List Nat}{s:Sd}{lg:List Ev}{k:Nat}{ps:List V}(t:Two y q H H')(hy:H y=some (.ins F dy (ffs ca oa now ll q)))(hq:H q=some (.lst ps))(qX:q∈X)(nxy:x≠y)(npq:p≠q)(h:FtT X B F H x p cs ks os s lg k):FtT X B F H' x p cs ks os s lg k:=by
 have kp:=t.kp hy hq;have hl:∀xs,H y≠some (.lst xs):=λxs z=>by rw[hy] at z;cases z
 obtain⟨dx,ca,oa,ll,now,qs,us,h1,h2,h3,h4,h5,h6,h7,h8,h9,h10,h11,h12⟩:=h;refine⟨dx,ca,oa,ll,now,qs,us,t _ _ nxy (λz=>?_) h1,h2.two t kp hl (λz=>h9 (by rw[z];exact qX)) (λz=>h10 (by rw[z];exact qX)),h3.two t kp hl (λz=>h9 (by rw[z];exact qX)),h4.kp kp,t _ _ (λz=>hl _ (by rw[← z];exact h5)) npq h5,h6,t _ _ (λz=>hl _ (by rw[← z];exact h7)) (λz=>h11 (by rw[z];exact qX)) h7,h8.imp λz=>z.two t kp hl qX,h9,h10,h11,h12⟩;rw[z,hq] at h1;cases h1
theorem FtT.same {X:List Addr}{B F x p:Addr}{H H':Hp}{cs:List Pc}{ks os:List Nat}{s:Sd}{lg:List Ev}{k:Nat}(t:Same H H')(h:FtT X B F H x p cs ks os s lg k):FtT X B F H' x p cs ks os s lg k:=by
 obtain⟨dx,ca,oa,ll,now,qs,us,h1,h2,h3,h4,h5,h6,h7,h8,h9⟩:=h;exact⟨dx,ca,oa,ll,now,qs,us,t _ _ h1,h2.same t,h3.same t,h4.kp (Kp.same t),t _ _ h5,h6,t _ _ h7,h8.imp λz=>z.same t,h9⟩
theorem FtT.more {X:List Addr}{B F x p q:Addr}{H:Hp}{cs:List Pc}{ks os:List Nat}{s:Sd}{lg:List Ev}{k:Nat}(hq:H q=none)(h:FtT X B F H x p cs ks os s lg k):FtT (q::X) B F H x p cs ks os s lg k:=by
 have key:∀{a:Addr} {o:HO},H a=some o->a∉X->a∉q::X:=λh n z=>by
  rcases yja.mp z with z|z
  ·rw[z,hq] at h;cases h
  ·exact n z
 obtain⟨dx,ca,oa,ll,now,qs,us,h1,h2,h3,h4,h5,h6,h7,h8,h9,h10,h11,h12⟩:=h;obtain⟨cvs,g1,_⟩:=h2.c;refine⟨dx,ca,oa,ll,now,qs,us,h1,h2,h3,h4,h5,h6,h7,h8.imp λz=>?_,key g1 h9,key h2.o h10,key h7 h11,yla _ h12⟩;obtain⟨a,h,tr,h',eu,e1,e2,e3,e4,e5⟩:=z;exact⟨a,h,tr,h',eu,e1,e2,e3,e4,key e3 e5⟩
def zxnb (np:Nat):List Int:=5::yna (np-1) 0
def zpdc:Sp:=λvs H Q _=>Ex4 λtv (t:Tab) (np nc:Nat)=>vs=[tv]∧TabT H tv t∧TOk np nc t∧2≤np∧∀v' H',Same H H'->StT H' v' ⟨t,[],0,0,0,zxnb np⟩->Q v' H'
def znpb (B F:Addr):Sp:=λvs H Q _=>Ex6 λx dx a ds (dss:List (List Crd)) (Ys:List Addr)=>vs=[.ref x,.ref a]∧(∀y∈Ys,H y≠none)∧H x=some (.ins F dx [])∧H a=some (.lst ds)∧All2 (DkN H) ds dss∧2≤dss.length∧dss.length≤4∧∀pa H',But x H H'->H pa=none->FtT (pa::Ys) B F H' x pa (pcF dss) (coF dss) (ownN dss dss.length) ⟨tab0 ((ownN dss dss.length).map λo=>((o:Nat):Int)) dss.length ((pcF dss).map (·.marks)),[],0,0,0,zxnb dss.length⟩ [] 0->Q .non H'
theorem zyob {os:List Int}{np:Nat}{cms:List (List Str)}(h4:np≤4)(h16:os.length≤16)(c16:cms.length≤16)(hm:∀m∈cms,m.length≤40):TOk np cms.length (tab0 os np cms):=by
 have nl:∀p:Int,(nums os p os.length).length≤16:=λp=>yob (zglb os p os.length) h16;refine⟨yib,yib,yib,by show (List.map _ _).length=np;rw[yca,ybc],by show (List.map _ _).length=np;rw[yca,ybc],rfl,yib,by show 0≤16;decide,by show 0≤16;decide,hm,λd hd=>?_,λd hd=>?_,h4,c16⟩
 ·obtain⟨p,_,rfl⟩:=yfc.mp hd;have:=nl (p:Int);rw[yej];omega
 ·obtain⟨p,_,rfl⟩:=yfc.mp hd;have:=nl (p:Int);rw[yza];omega
theorem zfy (T:Tx K mg):FnOk P w K mg base CX0 2 T.zme.f T.zme.d zdm zpdc:=by
 refine T.zme.ok zpo ?_;rintro f c A o s H vs Q E hr ⟨tv,t,np,nc,rfl,TT,TO,np2,q⟩ X;have np4:=TO.np4;obtain⟨a,v0,v1,v2,v3,v4,v5,v6,v7,v8,rfl,ea,TP⟩:=id TT;obtain⟨b2,rfl,e2⟩:=TP.p2;have gl:((t.gone.map V.bl).length:Int)=(np:Int):=by rw[yca,TO.gone]
 obtain⟨m,hm⟩:∃m:Nat,np=m+1:=⟨np-1,by omega⟩;refine⟨_,  (zca (zla (i:=1) zpo.nd rfl (.inl rfl) (zgb znm (zab zwa rfl T.zuf ysb (zaa (zva zcb (pv 0) (zua (v:=.int 2) rfl T.zqm ⟨_,rfl⟩) (λ_ _=>rfl)) zba)) zia))
  (zfa (zsa (zra (zaa (pv 0) (zaa (zra zba) (zaa zia (zaa zia (zaa zia (zaa (zgb zzh (zra (zaa (zua (v:=.int 5) rfl T.zoi ⟨_,rfl⟩) zba)) (zgb zdlb (zra (zaa zia zba)) (pv 1))) (zaa zqh zba))))))))))),?_⟩
 refine⟨_,rfl,a,_,_,_,rfl,rfl,SqT.of ea,zpa (j:=2) rfl,b2,_,rfl,.inr (SqT.of e2),_,_,rfl,rfl,?_⟩;dsimp only;rw[gl,show ((np:Nat):Int)-1=(m:Int) by omega];refine⟨_,rfl,sz0,λp1 hp1=>?_⟩;refine laid hp1 λH1 S1 e1=>?_;refine⟨sz1,λc1 hc1=>?_⟩;refine laid hc1 λH2 S2 f2=>?_;refine⟨sz1,λc2 hc2=>?_⟩;refine laid hc2 λH3 S3 f3=>?_;refine⟨_,rfl,?_⟩;refine zxkb f3 (by omega) λb H4 S4 f4=>?_;have S24:=S3.trans S4;refine⟨c1,b,_,_,rfl,rfl,SqT.of (S24 _ _ f2),SqT.of f4,(by simp),(by rw[yib];exact small (by show 1+m≤1000;omega)),λz=>?_,λz p hp=>?_⟩
 ·have:=congrArg yzn z;rw[yib] at this;simp at this;omega
 refine laid hp λH5 S5 f5=>?_;refine⟨sz7,λr hr'=>?_⟩;refine laid hr' λH6 S6 f6=>?_;have S26:=S24.trans (S5.trans S6);have S06:=S1.trans (S2.trans S26);refine q (.ref r) H6 S06 ⟨r,p1,p,.ref a,[],rfl,f6,TT.kp (Kp.same S06),(S2.trans S26) _ _ e1,.nil,?_⟩;rw[S6 _ _ f5];unfold zxnb iM;rw[hm,ytb,yce];rfl
theorem zelb (T:Tx K mg):FnOk P w K mg base CX0 11 T.zoc.f T.zoc.d zxi (znpb T.znb T.zza):=by
 refine T.zoc.ok zpf ?_;rintro f c A o s H vs Q E hr ⟨x,dx,a,ds,dss,Ys,rfl,hY,hx,ea,al,d2,d4,q⟩ X;refine⟨_,  (zca (zsc (zja (zrvb T) hr rfl T.zzo.m T.zzo.F.kp (zicc T) .nil zqa (zaa (pv 1) zba)) (zmc (n:=3) rfl (zea (zda (i:=2) zpf.nd rfl (.inl rfl)) (zea (zda (i:=3) zpf.nd rfl (.inl rfl)) (zea (zda (i:=4) zpf.nd rfl (.inl rfl)) zjb)))))
  (zca (zfk (pv 0) (pv 2) rfl)
  (zca (zfk (pv 0) (pv 3) rfl)
  (zca (zfk (pv 0) (zja (zfy T).up hr rfl T.zme.m T.zme.F.kp (ztbb T) .nil zqa (zaa (pv 4) zba)) rfl)
  (zca (zfk (pv 0) (zdc zba) rfl)
  (zfa (zfk (pv 0) (zdc zba) rfl))))))),?_⟩
 refine⟨_,rfl,a,ds,dss,rfl,ea,al,d2,d4,λt ca oa tv H1 S1 nca noa et GG KS TT=>?_⟩;have n16:=GG.n;have gl:=GG.l;have cml:((pcF dss).map (·.marks)).length=(pcF dss).length:=yca _;have TO:=zyob (os:=(ownN dss dss.length).map λo=>((o:Nat):Int)) (np:=dss.length) (cms:=(pcF dss).map (·.marks)) d4 (by rw[yca];omega) (by omega) (λm hm=>(GG.k m hm).1);refine⟨t,_,rfl,SqT.of et,rfl,_,_,rfl,_,_,rfl,_,_,rfl,rfl,?_⟩;have hx1:=S1 _ _ hx;refine⟨_,rfl,_,rfl,x,_,dx,_,rfl,hx1,T.zpb,T.zzc,(by show 0<1000;decide),?_⟩;refine⟨_,rfl,_,rfl,x,_,dx,_,rfl,zta,T.zpb,T.zxd,(by show 1<1000;decide),?_⟩;rw[zbp,zcs,zqd (by decide +kernel),zcs];have B2:But x H1 (upd H1 x (.ins T.zza dx [("all_cards",.ref ca),("all_owners",.ref oa)])):=But.put;have k2:Kp H1 (upd H1 x (.ins T.zza dx [("all_cards",.ref ca),("all_owners",.ref oa)])):=Kp.butF B2 hx1 ⟨_,_,_,rfl,.inl rfl⟩;have hx2:upd H1 x (.ins T.zza dx [("all_cards",.ref ca),("all_owners",.ref oa)]) x=some (.ins T.zza dx [("all_cards",.ref ca),("all_owners",.ref oa)]):=zta;generalize upd H1 x (.ins T.zza dx [("all_cards",.ref ca),("all_owners",.ref oa)])=H2 at B2 k2 hx2 ⊢;refine⟨_,rfl,tv,_,dss.length,((pcF dss).map (·.marks)).length,rfl,TT.kp k2,TO,d2,λv3 H3 S3 ST=>?_⟩;have hx3:=S3 _ _ hx2;refine⟨_,rfl,x,_,dx,_,rfl,hx3,T.zpb,T.zpd,(by show 2<1000;decide),?_⟩;rw[zqd (by decide +kernel),zqd (by decide +kernel),zcs];have B4:But x H3 (upd H3 x (.ins T.zza dx [("all_cards",.ref ca),("all_owners",.ref oa),("now",v3)])):=But.put;have k4:Kp H3 (upd H3 x (.ins T.zza dx [("all_cards",.ref ca),("all_owners",.ref oa),("now",v3)])):=Kp.butF B4 hx3 ⟨_,_,_,rfl,.inr ⟨_,_,rfl⟩⟩;have hx4:upd H3 x (.ins T.zza dx [("all_cards",.ref ca),("all_owners",.ref oa),("now",v3)]) x=some (.ins T.zza dx [("all_cards",.ref ca),("all_owners",.ref oa),("now",v3)]):=zta;generalize upd H3 x (.ins T.zza dx [("all_cards",.ref ca),("all_owners",.ref oa),("now",v3)])=H4 at B4 k4 hx4 ⊢;refine⟨sz0,λll hll=>?_⟩;refine laid hll λH5 S5 e5=>?_;have hx5:=S5 _ _ hx4;refine⟨_,rfl,x,_,dx,_,rfl,hx5,T.zpb,T.zsd,(by show 3<1000;decide),?_⟩;rw[zqd (by decide +kernel),zqd (by decide +kernel),zqd (by decide +kernel),zcs];have B6:But x H5 (upd H5 x (.ins T.zza dx [("all_cards",.ref ca),("all_owners",.ref oa),("now",v3),("last_log",.ref ll)])):=But.put;have k6:Kp H5 (upd H5 x (.ins T.zza dx [("all_cards",.ref ca),("all_owners",.ref oa),("now",v3),("last_log",.ref ll)])):=Kp.butF B6 hx5 ⟨_,_,_,rfl,.inr ⟨_,_,rfl⟩⟩;have hx6:upd H5 x (.ins T.zza dx [("all_cards",.ref ca),("all_owners",.ref oa),("now",v3),("last_log",.ref ll)]) x=some (.ins T.zza dx [("all_cards",.ref ca),("all_owners",.ref oa),("now",v3),("last_log",.ref ll)]):=zta;generalize upd H5 x (.ins T.zza dx [("all_cards",.ref ca),("all_owners",.ref oa),("now",v3),("last_log",.ref ll)])=H6 at B6 k6 hx6 ⊢;refine⟨sz0,λpa hpa=>?_⟩;refine laid hpa λH7 S7 e7=>?_;have hx7:=S7 _ _ hx6;refine⟨_,rfl,x,_,dx,_,rfl,hx7,T.zpb,T.ztg,(by show 4<1000;decide),?_⟩;rw[zqd (by decide +kernel),zqd (by decide +kernel),zqd (by decide +kernel),zqd (by decide +kernel),zcs];have B8:But x H7 (upd H7 x (.ins T.zza dx (ffs ca oa v3 ll pa))):=But.put;have k8:Kp H7 (upd H7 x (.ins T.zza dx (ffs ca oa v3 ll pa))):=Kp.butF B8 hx7 ⟨_,_,_,rfl,.inr ⟨_,_,rfl⟩⟩;have hx8:upd H7 x (.ins T.zza dx (ffs ca oa v3 ll pa)) x=some (.ins T.zza dx (ffs ca oa v3 ll pa)):=zta;show Q .non (upd H7 x (.ins T.zza dx (ffs ca oa v3 ll pa)))
 generalize upd H7 x (.ins T.zza dx (ffs ca oa v3 ll pa))=H8 at B8 k8 hx8 ⊢;have B68:But x H6 H8:=(But.same S7).trans B8;have B58:But x H5 H8:=B6.trans B68;have B48:But x H4 H8:=(But.same S5).trans B58;have B38:But x H3 H8:=B4.trans B48;have B28:But x H2 H8:=(But.same S3).trans B38;have B18:But x H1 H8:=B2.trans B28;have B08:But x H H8:=(But.same S1).trans B18;have k18:Kp H1 H8:=k2.trans ((Kp.same S3).trans (k4.trans ((Kp.same S5).trans (k6.trans ((Kp.same S7).trans k8)))));have k38:Kp H3 H8:=k4.trans ((Kp.same S5).trans (k6.trans ((Kp.same S7).trans k8)));have nl:∀{y:Addr} {ys:List V},H1 y=some (.lst ys)->y≠x:=λ{y ys} e z=>by rw[z,hx1] at e;cases e
 have fpa:H pa=none:=by
  cases e:H pa with
  | none=>rfl
  | some o =>
   by_cases z:pa=x
   ·rw[z,hx6] at hpa;cases hpa
   ·have:=(But.same S1 |>.trans (B2.trans ((But.same S3).trans (B4.trans ((But.same S5).trans B6))))) _ _ z e;rw[this] at hpa;cases hpa
 obtain⟨⟨cvs,g1,g2⟩,g3,g4,g5,g6⟩:=GG;obtain⟨cvs',q1,q2⟩:=KS;have p7:∀{y:Addr} {o:HO},y≠x->H1 y=some o->y≠pa:=λ{y o} n e z=>by
  have:=(B2.trans ((But.same S3).trans (B4.trans ((But.same S5).trans B6)))) _ _ n e;rw[z,hpa] at this;cases this
 have e78:H8 pa=some (.lst []):=B8 _ _ (λz=>by rw[z,hx7] at e7;cases e7) e7;have nlx:ll≠x:=λz=>by rw[z,hx5] at e5;cases e5
 refine q pa H8 B08 fpa ⟨dx,ca,oa,ll,v3,[],[],hx8,⟨⟨cvs,B18 _ _ (nl g1) g1,g2.imp λz=>z.kp k18⟩,B18 _ _ (nl g3) g3,g4,g5,g6⟩,⟨cvs',B18 _ _ (nl q1) q1,q2.imp λz=>z.kp k18⟩,ST.kp k38,e78,rfl,B58 _ _ nlx e5,.nil,?_,?_,?_,yma⟩
 ·exact λz=>(yja.mp z).elim (p7 (nl g1) g1) λy=>hY _ y nca
 ·exact λz=>(yja.mp z).elim (p7 (nl g3) g3) λy=>hY _ y noa
 ·intro z
  rcases yja.mp z with z|z
  ·have e6:=B6 _ _ nlx e5;rw[z,hpa] at e6;cases e6
  ·cases e:H ll with
   | none=>exact hY _ z e
   | some o =>
    have:=(But.same S1 |>.trans (B2.trans ((But.same S3).trans B4))) _ _ nlx e;rw[this] at hll;cases hll
def zsub (F:Addr):Sp:=λvs H Q _=>Ex11 λx dx ca oa ll pa l' now dv sv ps=>vs=[.ref x,dv,sv,.ref l']∧H x=some (.ins F dx (ffs ca oa now ll pa))∧H pa=some (.lst ps)∧ps.length≤900∧∀u H',H' x=some (.ins F dx (ffs ca oa sv l' pa))->H' pa=some (.lst (ps++[u]))->Two x pa H H'->Q .non H'
def ztzb:Sp:=λvs H Q _=>Ex2 λsv (s:Sd)=>vs=[sv,.int (s.word:Int)]∧StT H sv s∧Q .non H
structure MayP (ks:List Nat)(s:Sd)(n:Nat):Prop where
 tw:s.turn=s.word
 pile:s.pile=[]
 hand:∃h,s.t.hands[s.word]?=some h∧(n:Int)∈h
 cost:Ex2 λ(k:Nat) (c:Int)=>ks[n]?=some k∧s.coins[s.word]?=some c∧(k:Int)≤c
def zlac (B:Addr):Sp:=λvs H Q _=>Ex5 λca sv (s:Sd) (ks:List Nat) (n:Nat)=>vs=[.ref ca,sv,.int (s.word:Int),.int (n:Int)]∧KsT B H ca ks∧StT H sv s∧MayP ks s n∧Q .non H
def zipb:Sp:=λvs H Q _=>Ex4 λpl wl us ws=>vs=[.ref pl,.ref wl]∧H pl=some (.tup us)∧H wl=some (.lst ws)∧us.length+ws.length≤40∧∀r p' H',Same H H'->H' r=some (.tup [.ref p',.bl true])->H' p'=some (.tup (us++ws))->Q (.ref r) H'
def zoub:Sp:=λvs H Q _=>Ex5 λco (cs:List Int) (p:Nat) (c k:Int)=>vs=[.ref co,.int (p:Int),.int k]∧H co=some (.tup (iM cs))∧cs.length≤4∧cs[p]?=some c∧∀b H',Same H H'->H' b=some (.tup (iM (cs.set p (c-k))))->Q (.ref b) H'
def zpmb (B:Addr):Sp:=λvs H Q _=>Ex8 λca sv (s:Sd) (ks:List Nat) (np nc n:Nat) (cs:List Pc)=>vs=[.ref ca,sv,.int (s.word:Int),.int (n:Int)]∧KsT B H ca ks∧StT H sv s∧SI np nc cs s∧MayP ks s n∧∀v' (s':Sd) H',Same H H'->StT H' v' s'->znx ks s n s'->Q v' H'
def znub (B F:Addr):Sp:=λvs H Q _=>Ex12 λ(Ys:List Addr) x pa (s:Sd) (ks os:List Nat) (np nc n k:Nat) (cs:List Pc) (lg:List Ev)=>vs=[.ref x,.int (s.word:Int),.int (n:Int)]∧FtT Ys B F H x pa cs ks os s lg k∧(∀y∈Ys,H y≠none)∧SI np nc cs s∧MayP ks s n∧k≤900∧∀(s':Sd) H',Two x pa H H'->znx ks s n s'->FtT Ys B F H' x pa cs ks os s' [] (k+1)->Q .non H'
theorem zclb {X:List Addr}{H:Hp}(h:∀y∈X,H y≠none){l:Addr}(e:H l=none):l∉X:=λz=>h l z e
theorem zbr (T:Tx K mg):FnOk P w K mg base CX0 2 T.zie.f T.zie.d zio (zsub T.zza):=by
 refine T.zie.ok zfab ?_;rintro f c A o s H vs Q E hr ⟨x,dx,ca,oa,ll,pa,l',now,dv,sv,ps,rfl,hx,hp,p9,q⟩ X;have nxp:x≠pa:=λz=>by rw[z,hp] at hx;cases hx
 refine⟨_,  (zca (zjc (zog yya ypb yqb zed (zee (pv 0) rfl) (zaa (zra (zaa (pv 1) (zaa (zee (pv 0) rfl) zba))) zba)))
  (zca (zfk (pv 0) (pv 2) rfl)
  (zfa (zfk (pv 0) (pv 3) rfl)))),?_⟩
 refine⟨_,rfl,x,_,dx,_,_,rfl,hx,T.zpb,T.ztg,ztlb,.inl ⟨rfl,_,SqL.of hp⟩,_,rfl,_,rfl,x,_,dx,_,_,rfl,hx,T.zpb,T.zpd,zms,sz2,λtp htp=>?_⟩;refine laid htp λH1 S1 e1=>?_;refine⟨pa,_,_,rfl,rfl,S1 _ _ hp,zvf (by omega),?_⟩;have hx2:upd H1 pa (.lst (ps++[.ref tp])) x=some (.ins T.zza dx (ffs ca oa now ll pa)):=by rw[zbb nxp];exact S1 _ _ hx
 have hp2:upd H1 pa (.lst (ps++[.ref tp])) pa=some (.lst (ps++[.ref tp])):=zta;have t2:Two x pa H (upd H1 pa (.lst (ps++[.ref tp]))):=λb o _ n h=>by rw[zbb n];exact S1 _ _ h
 generalize upd H1 pa (.lst (ps++[.ref tp]))=H2 at hx2 hp2 t2 ⊢;refine⟨_,rfl,_,rfl,x,_,dx,_,rfl,hx2,T.zpb,T.zpd,(by show 5<1000;decide),?_⟩;rw[zmib];refine⟨_,rfl,_,rfl,x,_,dx,_,rfl,zta,T.zpb,T.zsd,(by show 5<1000;decide),?_⟩;rw[znib,zbp];exact q (.ref tp) _ zta (by rw[zbb (ysc nxp)];exact hp2) λb o n1 n2 h=>by rw[zbb n1];exact t2 b o n1 n2 h
theorem ztj (T:Tx K mg):FnOk P w K mg base CX0 2 T.zwb.f T.zwb.d znh ztzb:=by
 refine T.zwb.ok zbc ?_;rintro f c A o s H vs Q E hr ⟨sv,s,rfl,⟨a,pl,co,tv,us,rfl,ea,_⟩,q⟩ X;refine⟨_,  (zca (zsc (pv 0) (zmc (n:=7) rfl (zea (zda (i:=2) zbc.nd rfl (.inl rfl)) (zea (zda (i:=3) zbc.nd rfl (.inl rfl)) (zea (zda (i:=4) zbc.nd rfl (.inl rfl)) (zea (zda (i:=5) zbc.nd rfl (.inl rfl)) (zea (zda (i:=6) zbc.nd rfl (.inl rfl)) (zea (zda (i:=7) zbc.nd rfl (.inl rfl)) (zea (zda (i:=8) zbc.nd rfl (.inl rfl)) zjb)))))))))
  (zca (zrc (zxa zds (pv 8) zqh (zfb _))
   (zfa (zsa zkb))
   zeb)
  (zca (zrc (zxa zphb (pv 1) (pv 5) (zfb _))
   (zfa (zsa zkb))
   zeb)
  (zfa (zsa zqh))))),?_⟩
 refine⟨_,rfl,a,_,rfl,SqT.of ea,rfl,_,_,rfl,_,_,rfl,_,_,rfl,_,_,rfl,_,_,rfl,_,_,rfl,_,_,rfl,rfl,?_⟩;refine⟨_,rfl,rfl,_,rfl,iteF ?_⟩;refine⟨_,rfl,_,rfl,rfl,_,rfl,ite2 (λc=>absurd c (by simp)) (λ_=>?_)⟩;exact q
theorem zxq (T:Tx K mg):FnOk P w K mg base CX0 3 T.zvc.f T.zvc.d zdi (zlac T.znb):=by
 refine T.zvc.ok zxb ?_;rintro f c A o s H vs Q E hr ⟨ca,sv,s,ks,n,rfl,⟨cvs,ec,alc⟩,ST,MP,q⟩ X;obtain⟨a,pl,co,tv,us,rfl,ea,TT,epl,alp,eco⟩:=id ST;obtain⟨ta,v0,v1,v2,v3,v4,v5,v6,v7,v8,rfl,eta,TP⟩:=TT;obtain⟨b4,u4,rfl,e4,al4⟩:=TP.p4;obtain⟨h,hh,hin⟩:=MP.hand;obtain⟨k,c,hk,hcc,kc⟩:=MP.cost;obtain⟨_,ehv,hb,rfl,ehb⟩:=al4.get2 (b:=iM h) (by rw[yia,hh];rfl);obtain⟨_,ecv,cd,dx,m,tt,nm,f,rfl,ecd⟩:=alc.get2 hk;have ue:us=[]:=by
  have:=alp.len;rw[MP.pile] at this;exact ydg this
 refine⟨_,  (zca (zsc (pv 1) (zmc (n:=7) rfl (zea (zda (i:=4) zxb.nd rfl (.inl rfl)) (zea (zda (i:=5) zxb.nd rfl (.inl rfl)) (zea (zda (i:=6) zxb.nd rfl (.inl rfl)) (zea (zda (i:=7) zxb.nd rfl (.inl rfl)) (zea (zda (i:=8) zxb.nd rfl (.inl rfl)) (zea (zda (i:=9) zxb.nd rfl (.inl rfl)) (zea (zda (i:=10) zxb.nd rfl (.inl rfl)) zjb)))))))))
  (zca (zla (i:=11) zxb.nd rfl (.inl rfl) (zja (ztj T) hr rfl T.zwb.m T.zwb.F.kp (zlk T) .nil zqa (zaa (pv 1) (zaa (pv 2) zba))))
  (zca (zrc (zxa zds (pv 11) zqh (zfb _))
   (zfa (zsa (pv 11)))
   zeb)
  (zca (zrc (PW.pt (zfqb (zxa zphb (pv 2) (pv 6) (zfb _)) (zzkb (zrl (pv 5) (λ_=>rfl)))))
   (zfa (zsa zkb))
   zeb)
  (zca (zrc (zxa zaeb (pv 3) (zva zcb (zva zcb (pv 4) (zua (v:=.int 4) rfl T.zon ⟨_,rfl⟩) (λ_ _=>rfl)) (pv 2) (λ_ _=>rfl)) rfl)
   (zfa (zsa zkb))
   zeb)
  (zca (zrc (zxa zdnb (zee (zva zad (pv 0) (pv 3) (λ_ _=>rfl)) rfl) (zva zcb (pv 9) (pv 2) (λ_ _=>rfl)) (zfb _))
   (zfa (zsa zkb))
   zeb)
  (zfa (zsa zqh)))))))),?_⟩
 refine⟨_,rfl,a,_,rfl,SqT.of ea,rfl,_,_,rfl,_,_,rfl,_,_,rfl,_,_,rfl,_,_,rfl,_,_,rfl,_,_,rfl,rfl,?_⟩;refine⟨_,rfl,_,rfl,.ref a,s,rfl,ST,?_⟩;refine⟨_,rfl,rfl,_,rfl,iteF ?_⟩;refine⟨_,rfl,_,rfl,rfl,_,rfl,ite2 (λz=>absurd z (by rw[MP.tw];simp)) (λ_=>?_)⟩;refine⟨_,rfl,_,.inr (.inl ⟨_,SqT.of epl,rfl⟩),?_⟩;rw[ue];refine iteF ?_;refine⟨_,rfl,_,rfl,ta,_,_,_,rfl,rfl,SqT.of eta,zpa (j:=4) rfl,_,rfl,b4,_,_,_,rfl,rfl,SqT.of e4,zpa ehv,hb,_,rfl,.inr (SqT.of ehb),rfl,zkfb _,_,rfl,ite2 (λz=>?_) (λ_=>?_)⟩
 ·exfalso;rw[inI,decide_eq_true hin] at z;cases z
 refine⟨_,rfl,_,rfl,ca,_,_,_,rfl,rfl,SqL.of ec,zpa ecv,cd,_,dx,_,_,rfl,ecd,T.zih,T.zbi,(zmb (by decide +kernel)).trans zag,_,rfl,_,rfl,co,_,_,_,rfl,rfl,SqT.of eco,zbj hcc,_,_,rfl,rfl,_,rfl,ite2 (λz=>?_) (λ_=>?_)⟩
 ·have:=of_decide_eq_true z;omega
 exact q
theorem zeeb (T:Tx K mg):FnOk P w K mg base CX0 2 T.zcj.f T.zcj.d zzbb zipb:=by
 refine T.zcj.ok zbdb ?_;rintro f c A o s H vs Q E hr ⟨pl,wl,us,ws,rfl,ep,ew,l40,q⟩ X;refine⟨_,  (zca (zla (i:=2) zbdb.nd rfl (.inl rfl) (zgb znm (zua (v:=.int 40) rfl T.zsu ⟨_,rfl⟩) (zab zwa rfl T.zuf ysb (zaa (pv 0) zba))))
  (zfa (zsa (zra (zaa (zgb zqhb (pv 0) (zna zoa rfl T.zzb ymc (zaa (znc zpv (pv 1) zod (znd (pv 2))) zba))) (zaa (zyh zoab (zab zwa rfl T.zuf ysb (zaa (pv 1) zba)) (pv 2) (zfb _)) zba)))))),?_⟩
 refine⟨_,rfl,pl,_,rfl,.inr (SqT.of ep),_,_,rfl,rfl,?_⟩;dsimp only;obtain⟨m,hm⟩:∃m:Nat,(40:Int)-(us.length:Int)=(m:Int):=⟨(40-(us.length:Int)).toNat,by omega⟩;rw[hm];refine⟨_,rfl,_,rfl,_,rfl,_,rfl,wl,_,rfl,SqL.of ew,λl1 hl1=>?_⟩;rw[zrn,yra (by omega)];refine laid hl1 λH1 S1 e1=>?_;refine⟨l1,_,rfl,.inl ⟨SqL.of e1,λt1 ht1=>?_⟩⟩;refine laid ht1 λH2 S2 e2=>?_;have S02:=S1.trans S2;refine' ztq (pre:=λb Hs=>Same H2 Hs∧Hs b=some (.tup (us++ws))) (λkk=>?g) ?k
 case g =>
  refine⟨pl,t1,_,_,rfl,rfl,SqT.of (S02 _ _ ep),SqT.of e2,small (by omega),λz=>?a,λz z2=>?b,λz z2 b hb=>?c⟩
  case c=>exact laid hb λH3 S3 e3=>kk b H3 ⟨S3,e3⟩
  case a =>
   have e2':H2 t1=some (.tup (us++ws)):=(by rw[z];exact e2);exact kk t1 H2 ⟨Same.refl _,e2'⟩
  case b =>
   have e2':H2 pl=some (.tup (us++ws)):=(by rw[z2,ypc];exact S02 _ _ ep);exact kk pl H2 ⟨Same.refl _,e2'⟩
 case k =>
 rintro b H3 ⟨S3,e3⟩;refine⟨_,rfl,wl,_,rfl,.inl (SqL.of ((S02.trans S3) _ _ ew)),_,rfl,_,_,rfl,rfl,sz2,λr hr'=>?_⟩;refine laid hr' λH4 S4 e4=>?_;refine q r b H4 (S02.trans (S3.trans S4)) ?_ (S4 _ _ e3);rw[e4];have:decide (((ws.length:Nat):Int)≤(m:Int))=true:=decide_eq_true (by omega);show some (HO.tup [V.ref b,V.bl (decide (((ws.length:Nat):Int)≤(m:Int)))])=_
 rw[this]
theorem zgbc (T:Tx K mg):FnOk P w K mg base CX0 3 T.zxu.f T.zxu.d zgtb zoub:=by
 refine T.zxu.ok zqac ?_;rintro f c A o s H vs Q E hr ⟨co,cs,p,c,k,rfl,ec,l4,hc,q⟩ X;have pl:=(yha.mp hc).1;refine⟨_,  (zfa (zsa (zja (zkf T) hr rfl T.zub.m T.zub.F.kp (zvg T) .nil zqa (zaa (pv 0) (zaa (pv 1) (zaa (zgb znm (zva zcb (pv 0) (pv 1) (λ_ _=>rfl)) (pv 2)) zba)))))),?_⟩;refine⟨_,rfl,_,rfl,_,rfl,_,rfl,co,_,_,_,rfl,rfl,SqT.of ec,zbj hc,_,rfl,_,_,rfl,rfl,co,_,p,.int (c-k),rfl,ec,by unfold iM;rw[yca];exact pl,by unfold iM;rw[yca];omega,λb H1 S1 e1=>?_⟩;exact q b H1 S1 (by rw[e1];unfold iM;rw[yge])
theorem ztqb (T:Tx K mg):FnOk P w K mg base CX0 6 T.zkl.f T.zkl.d zacb (zpmb T.znb):=by
 refine T.zkl.ok zte ?_;rintro f c A o s H vs Q E hr ⟨ca,sv,s,ks,np,nc,n,cs,rfl,⟨cvs,ec,alc⟩,ST,SS,MP,q⟩ X;obtain⟨a,pl,co,tv,us,rfl,ea,TT,epl,alp,eco⟩:=ST;obtain⟨ta,v0,v1,v2,v3,v4,v5,v6,v7,v8,rfl,eta,TP⟩:=TT;obtain⟨b4,u4,rfl,e4,al4⟩:=id TP.p4;obtain⟨h,hh,hin⟩:=MP.hand;obtain⟨k,c,hk,hcc,kc⟩:=MP.cost;obtain⟨_,ehv,hb,rfl,ehb⟩:=al4.get2 (b:=iM h) (by rw[yia,hh];rfl);obtain⟨_,ecv,cd,dx,m,tt,nm,f,rfl,ecd⟩:=alc.get2 hk;have TO:=SS.ti.ok;have np4:=TO.np4;have l4:=al4.len;rw[yca,TO.hands] at l4;have wl:=SS.word;have hl:=TO.hs h (ycb hh);have upl:=alp.len;rw[MP.pile] at upl;refine⟨_,  (zca (zsc (pv 1) (zmc (n:=7) rfl (zea (zda (i:=4) zte.nd rfl (.inl rfl)) (zea (zda (i:=5) zte.nd rfl (.inl rfl)) (zea (zda (i:=6) zte.nd rfl (.inl rfl)) (zea (zda (i:=7) zte.nd rfl (.inl rfl)) (zea (zda (i:=8) zte.nd rfl (.inl rfl)) (zea (zda (i:=9) zte.nd rfl (.inl rfl)) (zea (zda (i:=10) zte.nd rfl (.inl rfl)) zjb)))))))))
  (zca (zla (i:=4) zte.nd rfl (.inl rfl) (zja (zgd T).up hr rfl T.zdb.m T.zdb.F.kp (zzd T) .nil zqa (zaa (pv 4) (zaa (zua (v:=.int 4) rfl T.zon ⟨_,rfl⟩) (zaa (pv 2) (zaa (zja (zes T).up hr rfl T.zwe.m T.zwe.F.kp (zbx T) .nil zqa (zaa (zva zcb (zva zcb (pv 4) (zua (v:=.int 4) rfl T.zon ⟨_,rfl⟩) (λ_ _=>rfl)) (pv 2) (λ_ _=>rfl)) (zaa (pv 3) zba))) zba))))))
  (zca (zsc (zja (zeeb T).up hr rfl T.zcj.m T.zcj.F.kp (zamb T) .nil zqa (zaa (pv 5) (zaa (zdc (zaa (zra (zaa zkb (zaa (pv 2) (zaa (pv 3) (zaa zia zba))))) zba)) zba))) (zmc (n:=2) rfl (zea (zda (i:=5) zte.nd rfl (.inl rfl)) (zea (zda (i:=11) zte.nd rfl (.inl rfl)) zjb))))
  (zca (zrc (zek (zph (pv 11)))
   (zfa (zla (i:=4) zte.nd rfl (.inl rfl) (zja (ztl T) hr rfl T.zjd.m T.zjd.F.kp (zno T) .nil zqa (zaa (pv 0) (zaa (pv 4) (zaa (pv 3) zba))))))
   zeb)
  (zfa (zsa (zra (zaa (pv 4) (zaa (pv 5) (zaa (pv 6) (zaa (pv 7) (zaa zia (zaa (zja (zgbc T).up hr rfl T.zxu.m T.zxu.F.kp (zufc T) .nil zqa (zaa (pv 9) (zaa (pv 2) (zaa (zee (zva zad (pv 0) (pv 3) (λ_ _=>rfl)) rfl) zba)))) (zaa (zuq (zph (pv 11)) zqh (zua (v:=.ref T.zfgb) rfl T.zgfb rfl)) zba)))))))))))))),?_⟩
 refine⟨_,rfl,a,_,rfl,SqT.of ea,rfl,_,_,rfl,_,_,rfl,_,_,rfl,_,_,rfl,_,_,rfl,_,_,rfl,_,_,rfl,rfl,?_⟩;refine⟨_,rfl,_,rfl,_,rfl,ta,_,_,_,rfl,rfl,SqT.of eta,zpa (j:=4) rfl,_,rfl,b4,_,_,_,rfl,rfl,SqT.of e4,zpa ehv,_,rfl,hb,_,.int (n:Int),rfl,ehb,?_,by unfold iM;rw[yca];omega,λp1 H1 S1 e1=>?_⟩
 ·intro v hv;obtain⟨y,_,rfl⟩:=yfc.mp hv;rfl
 refine⟨ta,b4,_,u4,4,s.word,.ref p1,rfl,S1 _ _ eta,(by show 9≤1000;decide),rfl,S1 _ _ e4,by omega,by omega,λtb b4' H2 S2 f2 f2'=>?_⟩;have S02:=S1.trans S2;refine⟨_,rfl,_,rfl,_,rfl,sz4,λw1 hw1=>?_⟩;refine laid hw1 λH3 S3 f3=>?_;refine⟨sz1,λw2 hw2=>?_⟩;refine laid hw2 λH4 S4 f4=>?_;have S24:=S3.trans S4;have S04:=S02.trans S24;refine⟨pl,w2,us,[.ref w1],rfl,S04 _ _ epl,f4,(by rw[upl];show 0+1≤40;decide),λr p' H5 S5 f5 f5'=>?_⟩;have S05:=S04.trans S5;refine⟨r,_,rfl,SqT.of f5,rfl,_,_,rfl,_,_,rfl,rfl,?_⟩;refine⟨_,rfl,_,rfl,iteF ?_⟩;refine⟨_,rfl,_,rfl,_,rfl,_,rfl,_,rfl,_,rfl,_,rfl,_,rfl,ca,_,_,_,rfl,rfl,SqL.of (S05 _ _ ec),zpa ecv,cd,_,dx,_,_,rfl,S05 _ _ ecd,T.zih,T.zbi,(zmb (by decide +kernel)).trans zag,co,s.coins,s.word,c,(k:Int),rfl,S05 _ _ eco,by rw[SS.coins];exact np4,hcc,λco' H6 S6 f6=>?_⟩;refine⟨_,rfl,_,rfl,iteT ?_⟩;refine⟨sz7,λrr hrr=>?_⟩;refine laid hrr λH7 S7 f7=>?_;have S67:=S6.trans S7;have S57:=S5.trans S67;have S47:=S4.trans S57;have S27:=S3.trans S47;have S07:=S02.trans S27;have kp:=Kp.same S07;have TP7:=TP.kp kp;refine q (.ref rr) { s with t:={ s.t with hands:=s.t.hands.set s.word (h.filter λx=>!decide (x=(n:Int))) },pile:=s.pile++[(s.word,n)],passes:=0,coins:=s.coins.set s.word (c-(k:Int)) } H7 S07 ⟨rr,p',co',.ref tb,us++[.ref w1],rfl,f7,⟨tb,v0,v1,v2,v3,.ref b4',v5,v6,v7,v8,rfl,S27 _ _ f2',{ TP7 with p4:=⟨b4',_,rfl,S27 _ _ f2,?_⟩ }⟩,S67 _ _ f5',?_,S7 _ _ f6⟩ ⟨h,c,k,hh,hcc,hk,rfl⟩
 ·rw[yge];refine (al4.imp λz=>z.kp kp).set ⟨p1,rfl,?_⟩ _;rw[(S2.trans S27) _ _ e1];unfold iM;rw[ygq]
  congr 3
  refine ynk λx _=>?_;show (!decide (V.int x=V.int n)) = !decide (x=(n:Int))
  rw[decide_eq_decide.mpr ⟨λz=>by injection z,λz=>by rw[z]⟩]
 ·exact All2.snoc ⟨w1,rfl,S47 _ _ f3⟩ (alp.imp λz=>z.kp kp)
theorem zzq (T:Tx K mg):FnOk P w K mg base CX0 7 T.zfe.f T.zfe.d zfo (znub T.znb T.zza):=by
 refine T.zfe.ok zlq ?_;rintro f c A o s H vs Q E hr ⟨Ys,x,pa,s,ks,os,np,nc,n,k,cs,lg,rfl,FT,hX,SS,MP,k9,q⟩ X;obtain⟨dx,ca,oa,ll,now,ps,us,hx,GG,KS,ST,hp,pl,hl,alg,n1,n2,n3,n4⟩:=FT;refine⟨_,  (zca (zla (i:=3) zlq.nd rfl (.inl rfl) (zja (zxq T).up hr rfl T.zvc.m T.zvc.F.kp (zps T) .nil zqa (zaa (zee (pv 0) rfl) (zaa (zee (pv 0) rfl) (zaa (pv 1) (zaa (pv 2) zba))))))
  (zca (zrc (zxa zds (pv 3) zqh (zfb _))
   (zfa zqf)
   zeb)
  (zfa (zjc (zbn (pv 0) T.zpb T.zie.M (zbr T).up hr (zzt T) .nil zqa (zaa (zra (zaa zkb (zaa (pv 1) (zaa (pv 2) zba)))) (zaa (zja (ztqb T) hr rfl T.zkl.m T.zkl.F.kp (zvwb T) .nil zqa (zaa (zee (pv 0) rfl) (zaa (zee (pv 0) rfl) (zaa (pv 1) (zaa (pv 2) zba))))) (zaa (zdc zba) zba)))))))),?_⟩
 refine⟨_,rfl,x,_,dx,_,_,rfl,hx,T.zpb,T.zzc,zuw,_,rfl,x,_,dx,_,_,rfl,hx,T.zpb,T.zpd,zms,_,rfl,_,rfl,ca,now,s,ks,n,rfl,KS,ST,MP,?_⟩;refine⟨_,rfl,rfl,_,rfl,iteF ?_⟩;refine⟨_,rfl,x,dx,_,rfl,hx,zdsb (by decide +kernel),_,rfl,_,rfl,sz3,λd1 hd1=>?_⟩;refine laid hd1 λH1 S1 e1=>?_;have hx1:=S1 _ _ hx;refine⟨_,rfl,x,_,dx,_,_,rfl,hx1,T.zpb,T.zzc,zuw,_,rfl,x,_,dx,_,_,rfl,hx1,T.zpb,T.zpd,zms,_,rfl,_,rfl,ca,now,s,ks,np,nc,n,cs,rfl,KS.same S1,ST.kp (Kp.same S1),SS,MP,λv' s' H2 S2 ST2 pl2=>?_⟩;have S02:=S1.trans S2;refine⟨sz0,λl3 hl3=>?_⟩;refine laid hl3 λH3 S3 e3=>?_;have S03:=S02.trans S3;have hx3:=S03 _ _ hx;refine⟨x,dx,ca,oa,ll,pa,l3,now,.ref d1,v',ps,rfl,hx3,S03 _ _ hp,by omega,λu H4 hx4 hp4 t4=>?_⟩;have t04:Two x pa H H4:=(Two.same S03).trans t4;have kp:=t04.kp hx hp;have kp3:=t4.kp hx3 (S03 _ _ hp);have nx:∀xs,H x≠some (.lst xs):=λxs z=>by rw[hx] at z;cases z
 have np':∀{y:Addr},y∉Ys->y≠pa:=λh z=>h (by rw[z];exact n4);have f3:l3∉Ys:=zclb hX (none_of S02 hl3);refine q s' H4 t04 pl2 ⟨dx,ca,oa,l3,v',ps++[u],[],hx4,GG.two t04 kp nx (np' n1) (np' n2),KS.two t04 kp nx (np' n1),(ST2.kp (Kp.same S3)).kp kp3,hp4,by rw[ypa,pl];rfl,?_,.nil,n1,n2,f3,n4⟩;exact t4 _ _ (λz=>by rw[z,hx3] at e3;cases e3) (np' f3) e3
def round (p np:Nat):List Nat:=(yxb np).map λi=>(p+i) % np
theorem zsq (p np:Nat):(round p np).length=np:=by unfold round;rw[yca,ybc]
theorem zjp {p np:Nat}(h:0<np):(round p np)[0]?=some (p % np):=by
 unfold round;rw[yia,yng h];rfl
def zldc:Sp:=λvs H Q _=>Ex5 λtv (t:Tab) (np nc p:Nat)=>vs=[tv,.int (p:Int)]∧TabT H tv t∧TOk np nc t∧t.gone=yna np false∧1≤np∧∀l H',Same H H'->H l=none->H' l=some (.lst (oM (round p np)))->Q (.ref l) H'
def zfac:Sp:=λvs H Q _=>Ex2 λl xs=>vs=[.ref l,.bl true]∧H l=some (.lst xs)∧2≤xs.length∧Q .non H
def zwzb:Sp:=λvs H Q _=>Ex7 λtv (t:Tab) (np nc p:Nat) cl cv=>vs=[tv,.int (p:Int),.ref cl,cv]∧TabT H tv t∧TOk np nc t∧t.gone=yna np false∧1≤np∧H cl=some (.lst [])∧∀wl H',Same H H'->H wl=none->H' wl=some (.lst [])->Q (.ref wl) H'
def zjdc:Sp:=λvs H Q _=>Ex3 λcv tv pl=>vs=[cv,tv,.ref pl]∧H pl=some (.tup [])∧∀r p' H',Same H H'->H' r=some (.tup [tv,.ref p'])->H' p'=some (.tup [])->Q (.ref r) H'
theorem zlf (T:Tx K mg):FnOk P w K mg base CX0 2 T.zob.f T.zob.d zuk zldc:=by
 refine T.zob.ok zpj ?_;rintro f c A o s H vs Q E hr ⟨tv,t,np,nc,p,rfl,TT,TO,hg,np1,q⟩ X;have np4:=TO.np4;obtain⟨a,v0,v1,v2,v3,v4,v5,v6,v7,v8,rfl,ea,TP⟩:=TT;obtain⟨b2,rfl,e2⟩:=TP.p2;have gl:((t.gone.map V.bl).length:Int)=(np:Int):=by rw[yca,TO.gone]
 refine⟨_,  (zca (zla (i:=2) zpj.nd rfl (.inr rfl) (zab zwa rfl T.zuf ysb (zaa (zva zcb (pv 0) (zua (v:=.int 2) rfl T.zqm ⟨_,rfl⟩) (λ_ _=>rfl)) zba)))
  (zca (zan (i:=3) zpj.nd rfl (.inl rfl) (own:=["steps"]) (cap:=["many","player"]) rfl (zya.chk rfl rfl) (.cons (j:=2) rfl (.inl rfl) (.inl rfl) (.cons (j:=1) rfl (.inl rfl) (.inl rfl) .nil)) (zch rfl T.zrh (zaa (pv 2) zba)) (λ_ _ _ _=>(zda (i:=0) (show yhb (["steps","many","player"]:List Str) by decide +kernel) rfl (.inl rfl))) (λ_ _ _ _=>zyc) (λ_ _ _ _=>by exact (zgb zdh (zgb zue (pv 2) (pv 0)) (pv 1))))
  (zfa (zsa (zec (own:=["one"]) (cap:=["table"]) rfl (zya.chk rfl rfl) (.cons (j:=0) rfl (.inl rfl) (.inl rfl) .nil) (zcc (pv 3)) (λ_ _ _ _=>(zda (i:=0) (show yhb (["one","table"]:List Str) by decide +kernel) rfl (.inl rfl))) (λ_ _ _ _=>zah (zek (zph (zva (zid K) (zva (zid K) (pv 1) (zua (v:=.int 2) rfl T.zqm ⟨_,rfl⟩) (λ_ _=>rfl)) (pv 0) (λ_ _=>rfl))))) (λ_ _ _ _=>by exact (pv 0))))))),?_⟩
 refine⟨_,rfl,a,_,_,_,rfl,rfl,SqT.of ea,zpa (j:=2) rfl,b2,_,rfl,.inr (SqT.of e2),?_⟩;dsimp only;rw[gl];refine⟨_,rfl,(np:Int),rfl,by omega,by omega,?_⟩;rw[yeb];refine zmo (λj ys Hy=>H=Hy∧j≤np∧ys=oM ((round p np).take j)) ⟨rfl,ywa _,rfl⟩ ?_ ?_ ?_
 ·rintro j ys Hy ⟨_,hj,rfl⟩;unfold oM;rw[yca,yza];exact small (by omega)
 ·rintro j ys Hy hj ⟨rfl,_,rfl⟩;have e:(round p np)[j]?=some ((p+j) % np):=by
   unfold round;rw[yia,yng hj];rfl
  refine⟨rfl,_,rfl,_,rfl,_,_,rfl,rfl,_,rfl,_,_,rfl,rfl,(by show (0:Int)<(np:Int);omega),rfl,hj,?_⟩;rw[ydb,e,yub];unfold oM;rw[ygb];show _++[V.int (((p:Int)+(0+(j:Int))) % (np:Int))]=_++[V.int (((p+j) % np:Nat):Int)]
  rw[Int.zero_add,yyo,Int.natCast_add]
 rintro ys Hy ⟨rfl,_,rfl⟩ l hl;rw[show (round p np).take np=round p np from yra (by rw[zsq];exact yga _)];refine laid hl λH1 S1 e1=>?_;refine⟨_,rfl,l,rfl,⟨_,SqL.of e1⟩,?_⟩;refine zyb (xs:=oM (round p np)) (λj ys Hy=>Hy=H1∧ys=(oM (round p np)).take j) (λj ys Hy z=>by rw[z.1];exact SqL.of e1) ⟨rfl,rfl⟩ ?_ ?_ ?_
 ·rintro j ys Hy ⟨_,rfl⟩;unfold oM;rw[yza,yca,zsq];exact small (by omega)
 ·rintro j v ys Hy hv ⟨rfl,rfl⟩;have hv0:=hv;unfold oM at hv;rw[yia] at hv;obtain⟨o,ho,rfl⟩:=ygc.mp hv;have on:o<np:=by
   unfold round at ho;obtain⟨i,_,rfl⟩:=yfc.mp (ycb ho);exact yln _ (by omega)
  refine⟨rfl,_,rfl,a,_,_,_,rfl,rfl,SqT.of (S1 _ _ ea),zpa (j:=2) rfl,_,rfl,b2,_,_,_,rfl,rfl,SqT.of (S1 _ _ e2),zbj (x:=false) (by rw[hg,ytc,if_pos on]),_,rfl,iteT ?_⟩;refine⟨_,rfl,rfl,?_⟩;rw[ydb,hv0];rfl
 rintro ys Hy ⟨rfl,rfl⟩ l2 hl2;rw[yyd];refine laid hl2 λH2 S2 f2=>?_;exact q l2 H2 (S1.trans S2) (none_of S1 hl2) f2
theorem zwqb (T:Tx K mg):FnOk P w K mg base CX0 2 T.znl.f T.znl.d zfcb zfac:=by
 refine T.znl.ok zwpb ?_;rintro f c A o s H vs Q E hr ⟨l,xs,rfl,el,l2,q⟩ X;refine⟨_,  (zca (zrc (zxa zoh (zab zwa rfl T.zuf ysb (zaa (pv 0) zba)) zia (zfb _))
   (zfa (zsa (zra (zaa zkb (zaa (zva zad (pv 0) zia (λ_ _=>rfl)) zba)))))
   zeb)
  (zca (zrc (zek (zrl (pv 0) (λ_=>rfl)))
   (zfa (zsa (zra (zaa zkb zba))))
   zeb)
  (zfa (zsa (zuq (zph (pv 1)) zqh (zua (v:=.ref T.zfgb) rfl T.zgfb rfl)))))),?_⟩
 refine⟨_,rfl,l,_,rfl,.inl (SqL.of el),rfl,_,rfl,ite2 (λc=>?_) (λ_=>?_)⟩
 ·have c':=of_decide_eq_true c;injection c' with c'
  omega
 refine⟨_,rfl,_,.inl ⟨_,SqL.of el,rfl⟩,ite2 (λc=>?_) (λ_=>?_)⟩
 ·exfalso;cases xs with
  | nil=>simp at l2
  | cons x r=>cases c
 exact⟨_,rfl,_,rfl,iteT q⟩
theorem zwq (T:Tx K mg):FnOk P w K mg base CX0 5 T.zuc.f T.zuc.d zci zwzb:=by
 refine T.zuc.ok zqb ?_;rintro f c A o s H vs Q E hr ⟨tv,t,np,nc,p,cl,cv,rfl,TT,TO,hg,np1,ecl,q⟩ X;refine⟨_,  (zca (zla (i:=4) zqb.nd rfl (.inl rfl) (zdc zba))
  (zca (zla (i:=5) zqb.nd rfl (.inl rfl) (pv 3))
  (zca (zbh yyb rfl (zcc (zja (zlf T).up hr rfl T.zob.m T.zob.F.kp (zyf T) .nil zqa (zaa (pv 0) (zaa (pv 1) zba)))) (zda (i:=6) zqb.nd rfl (.inr rfl))
   (zca (zan (i:=7) zqb.nd rfl (.inl rfl) (own:=["one"]) (cap:=["player"]) rfl (zya.chk rfl rfl) (.cons (j:=6) rfl (.inl rfl) (.inl rfl) .nil) (zcc (pv 2)) (λ_ _ _ _=>(zda (i:=0) (show yhb (["one","player"]:List Str) by decide +kernel) rfl (.inl rfl))) (λ_ _ _ _=>zah (zxa zoh (zva (zid K) (pv 0) zia (λ_ _=>rfl)) (pv 1) (zfb _))) (λ_ _ _ _=>by exact (pv 0)))
   (zfa (zmu yyb (zrl (pv 7) (λ_=>rfl))
    (zca (zsc (zja (zqeb T) hr rfl T.zfj.m T.zfj.F.kp (zdmb T) .nil zqa (zaa (zab zwa rfl T.zuf ysb (zaa (pv 7) zba)) (zaa (pv 5) zba))) (zmc (n:=2) rfl (zea (zda (i:=8) zqb.nd rfl (.inl rfl)) (zea (zda (i:=5) zqb.nd rfl (.inl rfl)) zjb))))
    (zca (zsc (zog yya PySem.F.slot_list_pop PySem.F.type_list_pop zxvb (pv 7) (zaa (pv 8) zba)) (zmc (n:=3) rfl (zea (zda (i:=9) zqb.nd rfl (.inl rfl)) (zea (zda (i:=10) zqb.nd rfl (.inl rfl)) (zea (zda (i:=11) zqb.nd rfl (.inl rfl)) zjb)))))
    (zfa (zjc (zog yya ypb yqb zed (pv 4) (zaa (zra (zaa zkb (zaa (pv 6) (zaa (pv 10) (zaa (pv 11) zba))))) zba))))))))))
  (zfa (zsa (pv 4)))))),?_⟩
 refine⟨sz0,λwl hwl=>?_⟩;refine laid hwl λH1 S1 e1=>?_;refine⟨_,rfl,?_⟩;refine⟨_,rfl,_,rfl,tv,t,np,nc,p,rfl,TT.kp (Kp.same S1),TO,hg,np1,λl H2 S2 nl e2=>?_⟩;have S12:=S1.trans S2;refine⟨l,rfl,⟨_,SqL.of e2⟩,?_⟩;refine zgh (xs:=oM (round p np)) (λi σ Hx=>Ex2 λ(o6 o7:Option V)=>σ=[some tv,some (.int (p:Int)),some (.ref cl),some cv,some (.ref wl),some cv,o6,o7,none,none,none,none]∧Same H2 Hx) ⟨_,_,rfl,Same.refl _⟩ (λi σ Hx _ ⟨_,_,_,S⟩=>SqL.of (S _ _ e2)) ?_ ?_
 ·rintro i v σ Hx hv ⟨o6,o7,rfl,S⟩;have ec:=(S12.trans S) _ _ ecl;refine⟨_,rfl,cl,rfl,⟨_,SqL.of ec⟩,?_⟩;refine zyb (xs:=[]) (λi ys H'=>H'=Hx∧ys=[]) (λi ys H' z=>by rw[z.1];exact SqL.of ec) ⟨rfl,rfl⟩ ?_ ?_ ?_
  ·rintro i ys H' ⟨_,rfl⟩;exact ywa _
  ·intro i v ys H' hx;cases hx
  ·rintro ys H9 ⟨rfl,rfl⟩ b hb;refine laid hb λH10 S10 e10=>?_;refine⟨λm σ H'=>σ=[some tv,some (.int (p:Int)),some (.ref cl),some cv,some (.ref wl),some cv,some v,some (.ref b),none,none,none,none]∧H'=H10,⟨0,rfl,rfl⟩,?_⟩;rintro m σ H' ⟨rfl,rfl⟩;refine⟨_,rfl,_,.inl ⟨_,SqL.of e10,rfl⟩,?_⟩;exact iteF ⟨_,_,rfl,S.trans S10⟩
 ·rintro σ Hx ⟨o6,o7,rfl,S⟩;exact⟨_,rfl,q wl Hx (S12.trans S) hwl ((S2.trans S) _ _ e1)⟩
theorem zqvb (T:Tx K mg):FnOk P w K mg base CX0 6 T.zxo.f T.zxo.d zljb zjdc:=by
 refine T.zxo.ok zpl ?_;rintro f c A o s H vs Q E hr ⟨cv,tv,pl,rfl,ep,q⟩ X;refine⟨_,  (zca (zan (i:=3) zpl.nd rfl (.inl rfl) (own:=["one"]) (cap:=["table"]) rfl (zya.chk rfl rfl) (.cons (j:=1) rfl (.inl rfl) (.inl rfl) .nil) (zdw (pv 2)) (λ_ _ _ _=>(zda (i:=0) (show yhb (["one","table"]:List Str) by decide +kernel) rfl (.inl rfl))) (λ_ _ _ _=>zah (zph (zva (zid K) (zva (zid K) (pv 1) (zua (v:=.int 2) rfl T.zqm ⟨_,rfl⟩) (λ_ _=>rfl)) (zva (zid K) (pv 0) zia (λ_ _=>rfl)) (λ_ _=>rfl)))) (λ_ _ _ _=>by exact (pv 0)))
  (zca (zbh yyb rfl (zcc (pv 3)) (zmc (n:=4) rfl (zea (zda (i:=4) zpl.nd rfl (.inl rfl)) (zea (zda (i:=5) zpl.nd rfl (.inl rfl)) (zea (zda (i:=6) zpl.nd rfl (.inl rfl)) (zea (zda (i:=7) zpl.nd rfl (.inl rfl)) zjb)))))
   (zfa (zrc (zxa zoh (pv 4) zkb (zfb _))
    (zfa (zla (i:=1) zpl.nd rfl (.inr rfl) (zja (ztl T) hr rfl T.zjd.m T.zjd.F.kp (zno T) .nil zqa (zaa (pv 0) (zaa (pv 1) (zaa (pv 6) zba))))))
    zeb)))
  (zfa (zsa (zra (zaa (pv 1) (zaa (zna zoa rfl T.zzb ymc (zaa (zec (own:=["one"]) (cap:=["table"]) rfl (zya.chk rfl rfl) (.cons (j:=1) rfl (.inl rfl) (.inl rfl) .nil) (zdw (pv 2)) (λ_ _ _ _=>(zda (i:=0) (show yhb (["one","table"]:List Str) by decide +kernel) rfl (.inl rfl))) (λ_ _ _ _=>zah (zek (zph (zva (zid K) (zva (zid K) (pv 1) (zua (v:=.int 2) rfl T.zqm ⟨_,rfl⟩) (λ_ _=>rfl)) (zva (zid K) (pv 0) zia (λ_ _=>rfl)) (λ_ _=>rfl))))) (λ_ _ _ _=>by exact (pv 0))) zba)) zba))))))),?_⟩
 refine⟨_,rfl,pl,rfl,⟨_,SqT.of ep⟩,?_⟩;refine zyl (xs:=[]) (λi ys H'=>H=H'∧ys=[]) (λi ys H' z=>by rw[← z.1];exact SqT.of ep) ⟨rfl,rfl⟩ ?_ ?_ ?_
 ·rintro i ys H' ⟨_,rfl⟩;exact ywa _
 ·intro i v ys H' hx;cases hx
 rintro ys H9 ⟨rfl,rfl⟩ b hb;refine laid hb λH1 S1 e1=>?_;refine⟨_,rfl,b,rfl,⟨_,SqL.of e1⟩,?_⟩;refine zgh (xs:=[]) (λi σ Hx=>Ex4 λ(o4 o5 o6 o7:Option V)=>σ=[some cv,some tv,some (.ref pl),some (.ref b),o4,o5,o6,o7]∧Hx=H1) ⟨_,_,_,_,rfl,rfl⟩ (λi σ Hx _ ⟨_,_,_,_,_,e⟩=>by rw[e];exact SqL.of e1) ?_ ?_
 ·intro i v σ Hx hx;cases hx
 rintro σ Hx ⟨o4,o5,o6,o7,rfl,rfl⟩;have ep1:=S1 _ _ ep;refine⟨_,rfl,_,rfl,pl,rfl,⟨_,SqT.of ep1⟩,?_⟩;refine zyl (xs:=[]) (λi ys H'=>H'=Hx∧ys=[]) (λi ys H' z=>by rw[z.1];exact SqT.of ep1) ⟨rfl,rfl⟩ ?_ ?_ ?_
 ·rintro i ys H' ⟨_,rfl⟩;exact ywa _
 ·intro i v ys H' hx;cases hx
 rintro ys H9 ⟨rfl,rfl⟩ b2 hb2;refine laid hb2 λH2 S2 e2=>?_;refine⟨b2,_,rfl,.inl ⟨SqL.of e2,λt ht=>?_⟩⟩;refine laid ht λH3 S3 e3=>?_;refine⟨sz2,λr hr'=>?_⟩;refine laid hr' λH4 S4 e4=>?_;exact q r t H4 (S1.trans (S2.trans (S3.trans S4))) e4 (S4 _ _ e3)
theorem zvlb:∀(c d:List Int),yoe (c.map .int) (d.map .int)=decide (c=d)
 | [],[]=>by simp[yoe]
 | [],_::_=>by simp[yoe]
 | _::_,[]=>by simp[yoe]
 | x::c,y::d=>by
  simp only[ytb,yoe,zvlb c d]
  by_cases e:x=y
  ·by_cases e2:c=d<;>simp[ypd,e,e2]
  ·simp[ypd,e]
theorem zzvb {t t':Tab}(h:ypd (lmD t') (lmD t)=true):t'.lying=t.lying:=by
 unfold lmD at h;rw[ypd,yoe] at h;have z:=(Bool.and_eq_true_iff.mp h).1;unfold inD at z;rw[ypd,zvlb] at z;exact of_decide_eq_true z
def LgF (F H:Hp)(u:V)(e:Ev):Prop:=Ex4 λa h tr h'=>u = .ref a∧H a=some (.tup [.ref h,.ref tr,.ref h'])∧EvT H h e∧H tr=some (.lst [])∧EvT H h' e∧F tr=none
theorem LgF.same {F H H':Hp}(s:Same H H'){u:V}{e:Ev}(h:LgF F H u e):LgF F H' u e:=by
 obtain⟨a,h,tr,h',eu,h1,h2,h3,h4,h5⟩:=h;exact⟨a,h,tr,h',eu,s _ _ h1,s _ _ h2,s _ _ h3,s _ _ h4,h5⟩
theorem LgF.bas {F G H:Hp}(g:∀a,F a=none->G a=none){u:V}{e:Ev}(h:LgF F H u e):LgF G H u e:=by
 obtain⟨a,h,tr,h',eu,h1,h2,h3,h4,h5⟩:=h;exact⟨a,h,tr,h',eu,h1,h2,h3,h4,g _ h5⟩
theorem LgT.f {F H:Hp}{u:V}{n:Int}(h:LgT F H u n):LgF F H u ("leave",n,0):=by
 obtain⟨a,h,tr,eu,h1,h2,h3,h4⟩:=h;exact⟨a,h,tr,h,eu,h1,h2,h3,h2,h4⟩
def ResE (F H:Hp)(r:Addr)(t:Tab)(lg:List Ev)(ch:List Int):Prop:=Ex5 λv ll c2 lf us=>H r=some (.tup [v,.ref ll,.ref c2,.ref lf])∧TabT H v t∧H ll=some (.lst us)∧All2 (LgF F H) us lg∧H c2=some (.lst [])∧H lf=some (.lst (iM ch))
def zgac (B:Addr):Sp:=λvs H Q _=>Ex13 λca oa sa ha tv (t:Tab) (np nc:Nat) (th:Int) (kd:Str) av (cs:List Pc) (os:List Nat)=>vs=[.ref ca,.ref oa,tv,.ref sa,.ref ha]∧GC B H ca oa cs os∧TabT H tv t∧TI np nc t∧cs.length=nc∧CvT H sa t.lying∧H ha=some (.tup [.str kd,.int th,av])∧kd ≠ "leave" ∧ -(np:Int)≤th∧th<nc∧(th<0->kd∈zxh∧∃z:Int,av = .int z∧0≤z)∧(0≤th->CrK kd av)∧(∀t',HpR (cs.map (·.marks)) t kd th av t'->TI np nc t')∧∀r s' m v' (t':Tab) H',Same H H'->TabT H' v' t'->HpR (cs.map (·.marks)) t kd th av t'->H' r=some (.tup [v',.ref s',.ref m])->H m=none->H' m=some (.lst [])->Q (.ref r) H'
theorem zew (T:Tx K mg)(kb:K.In base):FnOk P w K mg base CX0 8 T.ztd.f T.ztd.d ztr (zgac T.znb):=by
 refine T.ztd.ok zrd ?_;rintro f c A o s H vs Q E hr ⟨ca,oa,sa,ha,tv,t,np,nc,th,kd,av,cs,os,rfl,GG,TT,TI0,hc,CV,eh,kn,lo,hi,kp,kc,hti,q⟩ X;refine⟨_,  (zca (zla (i:=5) zrd.nd rfl (.inl rfl) (zja (zieb T) hr rfl T.zej.m T.zej.F.kp (zcmb T) .nil zqa (zaa (pv 0) (zaa (pv 2) (zaa (pv 4) zba)))))
  (zca (zla (i:=6) zrd.nd rfl (.inl rfl) (pv 3))
  (zca (zrc (zxa (zvq hr.units) (zra (zaa (zva zcb (pv 5) (zua (v:=.int 5) rfl T.zfh ⟨_,rfl⟩) (λ_ _=>rfl)) (zaa (zva zcb (pv 5) (zua (v:=.int 7) rfl T.zvj ⟨_,rfl⟩) (λ_ _=>rfl)) zba))) (zra (zaa (zva zcb (pv 2) (zua (v:=.int 5) rfl T.zfh ⟨_,rfl⟩) (λ_ _=>rfl)) (zaa (zva zcb (pv 2) (zua (v:=.int 7) rfl T.zvj ⟨_,rfl⟩) (λ_ _=>rfl)) zba))) (zfb _))
   (zfa (zla (i:=6) zrd.nd rfl (.inl rfl) (zja (zsj T kb).up hr rfl T.ztc.m T.ztc.F.kp (zel T) .nil zqa (zaa (pv 0) (zaa (pv 1) (zaa (pv 5) zba))))))
   zeb)
  (zca (zrc (zxa zoh (zva zcb (pv 4) zia (λ_ _=>rfl)) zkb (zfb _))
   (zfa (zla (i:=7) zrd.nd rfl (.inl rfl) (zja (zwf T).up hr rfl T.zsb.m T.zsb.F.kp (zjh T) .nil zqa (zaa (zja (zai T).up hr rfl T.zkc.m T.zkc.F.kp (zwj T) .nil zqa (zaa (pv 0) (zaa (pv 1) (zaa (pv 2) zba)))) (zaa (pv 3) (zaa zkb (zaa (pv 4) zba)))))))
   (zfa (zla (i:=7) zrd.nd rfl (.inl rfl) (zja (zwf T).up hr rfl T.zsb.m T.zsb.F.kp (zjh T) .nil zqa (zaa (zja (zai T).up hr rfl T.zkc.m T.zkc.F.kp (zwj T) .nil zqa (zaa (pv 0) (zaa (pv 1) (zaa (pv 5) zba)))) (zaa (pv 6) (zaa zkb (zaa (pv 4) zba))))))))
  (zfa (zsa (zra (zaa (pv 5) (zaa (pv 6) (zaa (zec (own:=["came","place","number","keeper"]) (cap:=[]) rfl (zya.chk rfl rfl) .nil (zcc (pv 7)) (λ_ _ _ _=>(zsl K (n:=4) rfl (zea (zda (i:=0) (show yhb (["came","place","number","keeper"]:List Str) by decide +kernel) rfl (.inl rfl)) (zea (zda (i:=1) (show yhb (["came","place","number","keeper"]:List Str) by decide +kernel) rfl (.inl rfl)) (zea (zda (i:=2) (show yhb (["came","place","number","keeper"]:List Str) by decide +kernel) rfl (.inl rfl)) (zea (zda (i:=3) (show yhb (["came","place","number","keeper"]:List Str) by decide +kernel) rfl (.inl rfl)) zjb)))))) (λ_ _ _ _=>zyc) (λ_ _ _ _=>by exact (zra (zaa (pv 3) (zaa (pv 2) (zaa (pv 1) zba)))))) zba)))))))))),?_⟩
 refine⟨_,rfl,_,rfl,_,rfl,ca,tv,ha,t,np,nc,th,cs.map (·.marks),kd,av,rfl,GG.cds,TT,TI0.ok,eh,lo,hi,by rw[yca];exact hc,kp,kc,λv' t' H1 S1 TT1 hp=>?_⟩;have TI1:=hti t' hp;refine⟨_,rfl,?_⟩;obtain⟨a,v0,v1,v2,v3,v4,v5,v6,v7,v8,rfl,ea,TP⟩:=id TT;obtain⟨a1,w0,w1,w2,w3,w4,w5,w6,w7,w8,rfl,ea1,TP1⟩:=id TT1;refine⟨_,rfl,a1,_,_,_,rfl,rfl,SqT.of ea1,zpa (j:=5) rfl,_,rfl,a1,_,_,_,rfl,rfl,SqT.of ea1,zpa (j:=7) rfl,sz2,λp1 hp1=>?_⟩;refine laid hp1 λH2 S2 e2=>?_;have S02:=S1.trans S2;refine⟨_,rfl,a,_,_,_,rfl,rfl,SqT.of (S02 _ _ ea),zpa (j:=5) rfl,_,rfl,a,_,_,_,rfl,rfl,SqT.of (S02 _ _ ea),zpa (j:=7) rfl,sz2,λp2 hp2=>?_⟩;refine laid hp2 λH3 S3 e3=>?_;have S03:=S02.trans S3;have S13:=S2.trans S3;have TPa:=TP.kp (Kp.same S03);have TPb:=TP1.kp (Kp.same S13);refine⟨lmD t',lmD t,.tup (SqT.of (S3 _ _ e2)) (.cons (zay TPb.p5) (.cons (zapb TPb.p7) .nil)),.tup (SqT.of e3) (.cons (zay TPa.p5) (.cons (zapb TPa.p7) .nil)),zfr TI1.nm,zfr TI0.nm,_,rfl,?_⟩;refine' zjv (pre:=λv Hs=>∃s',v = .ref s'∧Same H3 Hs∧CvT Hs s' t'.lying) (λkk=>?g1) ?k1
 case g1 =>
  refine ite2 (λc=>?a) (λc=>?b)
  case a =>
   refine⟨_,rfl,_,rfl,_,rfl,ca,oa,.ref a1,t',np,nc,cs,os,rfl,GG.same S03,TT1.kp (Kp.same S13),TI1,hc,λp out ns H4 S4 np4 e4 al pn so=>?_⟩;obtain⟨v4,hv4⟩:∃x,x=V.ref p:=⟨_,rfl⟩;rw[← hv4];exact kk v4 H4 ⟨p,hv4,S4,⟨out,ns,e4,al.imp λz=>z.a,λx hx=>pn.mem_iff.mpr hx⟩⟩
  case b =>
   have c':ypd (lmD t') (lmD t)=true:=(by simpa using c);exact kk (.ref sa) H3 ⟨sa,rfl,Same.refl _,by rw[zzvb c'];exact CV.same S03⟩
 case k1 =>
 rintro _ H4 ⟨s',rfl,S4,CV4⟩;have S04:=S03.trans S4;have S14:=S13.trans S4;refine⟨_,rfl,ha,_,_,_,rfl,rfl,SqT.of (S04 _ _ eh),zpa (j:=0) rfl,rfl,_,rfl,ite2 (λz=>?_) (λ_=>?_)⟩
 ·exfalso;have z':=of_decide_eq_true z;injection z' with z'
  exact kn z'
 refine⟨_,rfl,_,rfl,_,rfl,ca,oa,.ref a1,t',np,nc,cs,os,rfl,GG.same S04,TT1.kp (Kp.same S14),TI1,hc,λp us H5 S5 np5 e5 al=>?_⟩;have S05:=S04.trans S5;refine⟨_,rfl,_,rfl,p,s',ha,us,cs,os,t'.marks,t'.lying,"when",kd,th,av,rfl,e5,al,CV4.same S5,S05 _ _ eh,λm H6 S6 nm6 e6=>?_⟩;refine⟨_,rfl,_,rfl,_,rfl,m,rfl,⟨_,SqL.of e6⟩,?_⟩;refine zyb (xs:=[]) (λi ys H'=>H'=H6∧ys=[]) (λi ys H' z=>by rw[z.1];exact SqL.of e6) ⟨rfl,rfl⟩ ?_ ?_ ?_
 ·rintro i ys H' ⟨_,rfl⟩;exact ywa _
 ·intro i v ys H' hx;cases hx
 ·rintro ys H9 ⟨rfl,rfl⟩ b hb;refine laid hb λH7 S7 e7=>?_;refine⟨sz3,λr hr'=>?_⟩;refine laid hr' λH8 S8 e8=>?_;have S48:=S5.trans (S6.trans (S7.trans S8));exact q r s' b (.ref a1) t' H8 (S04.trans S48) (TT1.kp (Kp.same (S14.trans S48))) hp e8 (none_of (S05.trans S6) hb) (S8 _ _ e7)
theorem TI.come {np nc:Nat}{t t':Tab}{cms:List (List Str)}{n:Nat}{av:V}(h:TI np nc t)(hn:n<nc)(nin:(n:Int)∉t.lying++t.heap)(hc:∀m∈cms,m.length≤40∧∀s∈m,zce s)(cr:CrR cms t n av "come" t'):TI np nc t':=by
 cases cr with
 | @come _ ms em =>
 have hm:=hc ms (ycb em);have nd':((t.lying++[(n:Int)])++t.heap).Nodup:=by
  rw[ywb];exact yxo.nodup_iff.mpr (yli.mpr ⟨nin,h.nd⟩)
 have rg':∀x∈t.lying++[(n:Int)],0≤x∧x<nc:=λx hx=>by
  rcases ykd.mp hx with z|z
  ·exact h.rg x z
  ·rw[yka.mp z];omega
 have nc16:=h.ok.nc16;have hl:=few (yfd.mp nd').1 rg';refine⟨{ h.ok with marks:=by rw[yhf];exact h.ok.marks,wnds:=by rw[yhf];exact h.ok.wnds,ly:=by show (t.lying++[(n:Int)]).length≤16;omega,ms:=λm hmm=>?_ },nd',rg',h.hr,h.so,λm hmm=>?_⟩
 ·rcases ykh hmm with z|z
  ·exact h.ok.ms m z
  ·rw[z];exact hm.1
 ·rcases ykh hmm with z|z
  ·exact h.nm m z
  ·rw[z];exact hm.2
theorem zxrb {cms:List (List Str)}{t t':Tab}{n:Nat}{av:V}{th:Int}{kd:Str}(hk:kd = "come")(e:th=(n:Int))(h:HpR cms t kd th av t'):CrR cms t n av kd t':=by
 cases h with
 | no z =>
  exfalso;unfold hpM at z;rw[if_neg (by omega),decide_eq_true hk,yfq] at z;cases z
 | pl=>omega
 | @cr m _ _ _ c =>
  have:m=n:=by omega
  rw[← this];exact c
theorem zwrb {cms:List (List Str)}{t t':Tab}{p:Nat}{z:Int}{av:V}{th:Int}{kd:Str}(hg:t.gone[p]?=some false)(ha:av = .int z)(e:th = -1-(p:Int))(h:HpR cms t kd th av t'):PlR t p z kd t':=by
 cases h with
 | no y =>
  exfalso;unfold hpM at y;rw[if_pos (by omega),e,show (-1-(-1-(p:Int))).toNat=p by omega,yua,hg] at y;cases y
 | @pl m y _ _ c =>
  have e1:m=p:=by omega
  injection ha with ha
  rw[← e1,← ha];exact c
 | cr=>omega
def zszb (B:Addr):Sp:=λvs H Q _=>Ex13 λca oa tp cl tv (t:Tab) (np nc p n:Nat) (cs:List Pc) (os:List Nat) (ch:List Int)=>vs=[.ref ca,.ref oa,tv,.ref tp,.ref cl]∧GC B H ca oa cs os∧TabT H tv t∧TI np nc t∧cs.length=nc∧H tp=some (.tup [.str "card",.int (p:Int),.int (n:Int),.int 0])∧n<nc∧(n:Int)∉t.lying++t.heap∧H cl=some (.lst (iM ch))∧∀r (t':Tab) H',Same H H'->CrR (cs.map (·.marks)) t n (.int 0) "come" t'->ResE H H' r t' [("come",(n:Int),0)] ch->Q (.ref r) H'
def zxzb (B:Addr):Sp:=λvs H Q _=>Ex14 λca oa sa hl ha cl tv (t:Tab) (np nc p:Nat) (cs:List Pc) (os:List Nat) (ch:List Int)=>vs=[.ref ca,.ref oa,tv,.ref sa,.ref hl,.ref cl]∧GC B H ca oa cs os∧TabT H tv t∧TI np nc t∧cs.length=nc∧CvT H sa t.lying∧H hl=some (.lst [.ref ha])∧H ha=some (.tup [.str "draw",.int (-1-(p:Int)),.int 1])∧p<np∧t.gone[p]?=some false∧(∀t',PlR t p 1 "draw" t'->TI np nc t')∧H cl=some (.lst (iM ch))∧∀r (t':Tab) H',Same H H'->PlR t p 1 "draw" t'->ResE H H' r t' [("draw",-1-(p:Int),1)] ch->Q (.ref r) H'
theorem zlbc (T:Tx K mg):FnOk P w K mg base CX0 8 T.zzu.f T.zzu.d zjtb (λ_ _ _ _=>False):=by
 refine T.zzu.F.ok zrac (λvs H Q E h=>?_) (λcdv A outer s H vs Q E hr h=>?_)
 ·exact h.elim
 exact h.elim
theorem zrhb (T:Tx K mg)(kb:K.In base):FnOk P w K mg base CX0 9 T.zsh.f T.zsh.d zrs (zszb T.znb):=by
 refine T.zsh.ok zbe ?_;rintro f c A o s H vs Q E hr ⟨ca,oa,tp,cl,tv,t,np,nc,p,n,cs,os,ch,rfl,GG,TT,TI0,hc,et,hn,nin,ecl,q⟩ X;refine⟨_,  (zca (zsc (pv 3) (zmc (n:=4) rfl (zea (zda (i:=5) zbe.nd rfl (.inl rfl)) (zea (zda (i:=6) zbe.nd rfl (.inl rfl)) (zea (zda (i:=7) zbe.nd rfl (.inl rfl)) (zea (zda (i:=8) zbe.nd rfl (.inl rfl)) zjb))))))
  (zca (zrc (zxa zoh (pv 5) zkb (zfb _))
   (zca (zla (i:=9) zbe.nd rfl (.inl rfl) (zva zcb (zee (zva zad (pv 0) (pv 7) (λ_ _=>rfl)) rfl) (pv 8) (λ_ _=>rfl)))
   (zfa (zsa (zja (zlbc T) hr rfl T.zzu.m T.zzu.F.kp (zwfc T) .nil zqa (zaa (pv 0) (zaa (pv 1) (zaa (pv 2) (zaa (zva zcb (pv 9) (zva (zpyb (zlv T kb)) (zua (v:=.ref T.zlh) rfl T.zkj rfl) (zva zcb (pv 9) zia (λ_ _=>rfl)) (λ_ _=>rfl)) (λ_ _=>rfl)) (zaa (pv 7) (zaa (pv 6) (zaa (pv 4) zba)))))))))))
   zeb)
  (zca (zla (i:=10) zbe.nd rfl (.inl rfl) (zra (zaa zkb (zaa (pv 7) (zaa zia zba)))))
  (zca (zsc (zja (zew T kb) hr rfl T.ztd.m T.ztd.F.kp (zex T) .nil zqa (zaa (pv 0) (zaa (pv 1) (zaa (pv 2) (zaa (zja (zsj T kb).up hr rfl T.ztc.m T.ztc.F.kp (zel T) .nil zqa (zaa (pv 0) (zaa (pv 1) (zaa (pv 2) zba)))) (zaa (pv 10) zba)))))) (zmc (n:=3) rfl (zea (zda (i:=11) zbe.nd rfl (.inl rfl)) (zea (zda (i:=12) zbe.nd rfl (.inl rfl)) (zea (zda (i:=13) zbe.nd rfl (.inl rfl)) zjb)))))
  (zfa (zsa (zra (zaa (pv 11) (zaa (zdc (zaa (zra (zaa (pv 10) (zaa (zdc zba) (zaa (pv 10) zba)))) zba)) (zaa (pv 13) (zaa (zna zqc rfl T.zki ywh (zaa (pv 4) zba)) zba))))))))))),?_⟩
 refine⟨_,rfl,tp,_,rfl,SqT.of et,rfl,_,_,rfl,_,_,rfl,_,_,rfl,_,_,rfl,rfl,?_⟩;refine⟨_,rfl,rfl,_,rfl,iteF ?_⟩;refine⟨_,rfl,sz3,λha hha=>?_⟩;refine laid hha λH1 S1 e1=>?_;refine⟨_,rfl,_,rfl,_,rfl,_,rfl,_,rfl,_,rfl,ca,oa,tv,t,np,nc,cs,os,rfl,GG.same S1,TT.kp (Kp.same S1),TI0,hc,λsp out ns H2 S2 np2 e2 al pn so=>?_⟩;have S02:=S1.trans S2;refine⟨_,rfl,ca,oa,sp,ha,tv,t,np,nc,(n:Int),"come",.int 0,cs,os,rfl,GG.same S02,TT.kp (Kp.same S02),TI0,hc,⟨out,ns,e2,al.imp λz=>z.a,λx hx=>pn.mem_iff.mpr hx⟩,S2 _ _ e1,(by decide +kernel),by omega,by omega,λz=>by omega,λ_=>.inl rfl,λt' hp=>TI0.come hn nin GG.k (zxrb rfl rfl hp),λr s' m v' t' H3 S3 TT3 hp e3 nm em=>?_⟩;have cr:=zxrb rfl rfl hp;refine⟨r,_,rfl,SqT.of e3,rfl,_,_,rfl,_,_,rfl,_,_,rfl,rfl,?_⟩;have S03:=S02.trans S3;refine⟨_,rfl,_,rfl,sz0,λtr htr=>?_⟩;refine laid htr λH4 S4 e4=>?_;refine⟨_,rfl,sz3,λen hen=>?_⟩;refine laid hen λH5 S5 e5=>?_;refine⟨sz1,λlg hlg=>?_⟩;refine laid hlg λH6 S6 e6=>?_;have S46:=S5.trans S6;have S36:=S4.trans S46;have S06:=S03.trans S36;refine⟨_,rfl,_,rfl,cl,_,rfl,.inl (SqL.of (S06 _ _ ecl)),λlf hlf=>?_⟩;refine laid hlf λH7 S7 e7=>?_;refine⟨sz4,λrr hrr=>?_⟩;refine laid hrr λH8 S8 e8=>?_;have S78:=S7.trans S8;have S68:=S6.trans S78;have S58:=S5.trans S68;have S38:=S36.trans S78;have ev8:=(S2.trans (S3.trans S38)) _ _ e1;exact q rr t' H8 (S03.trans S38) cr ⟨v',lg,m,lf,[.ref en],e8,TT3.kp (Kp.same S38),S78 _ _ e6,.cons ⟨en,ha,tr,ha,rfl,S68 _ _ e5,ev8,S58 _ _ e4,ev8,none_of S03 htr⟩ .nil,S38 _ _ em,S8 _ _ e7⟩
theorem zshb (T:Tx K mg)(kb:K.In base):FnOk P w K mg base CX0 9 T.zse.f T.zse.d zsr (zxzb T.znb):=by
 refine T.zse.ok zrb ?_;rintro f c A o s H vs Q E hr ⟨ca,oa,sa,hl,ha,cl,tv,t,np,nc,p,cs,os,ch,rfl,GG,TT,TI0,hc,CV,ehl,eh,pn,hg,hti,ecl,q⟩ X;refine⟨_,  (zca (zla (i:=6) zrb.nd rfl (.inl rfl) (zdc zba))
  (zca (zla (i:=7) zrb.nd rfl (.inl rfl) (zdc zba))
  (zca (zla (i:=8) zrb.nd rfl (.inl rfl) (zna zqc rfl T.zki ywh (zaa (pv 5) zba)))
  (zca (zbh yyb rfl (zcc (pv 4)) (zda (i:=9) zrb.nd rfl (.inl rfl))
   (zfa (zrc (zph (zja (zfs T).up hr rfl T.zaf.m T.zaf.F.kp (zdx T) .nil zqa (zaa (pv 2) (zaa (pv 9) zba))))
    (zca (zsc (zja (zen T).up hr rfl T.zbd.m T.zbd.F.kp (zwo T) .nil zqa (zaa (zja (zai T).up hr rfl T.zkc.m T.zkc.F.kp (zwj T) .nil zqa (zaa (pv 0) (zaa (pv 1) (zaa (pv 2) zba)))) (zaa (pv 3) (zaa (pv 9) (zaa (pv 8) zba))))) (zmc (n:=3) rfl (zea (zda (i:=10) zrb.nd rfl (.inl rfl)) (zea (zda (i:=11) zrb.nd rfl (.inl rfl)) (zea (zda (i:=8) zrb.nd rfl (.inl rfl)) zjb)))))
    (zca (zjc (zog yya ypb yqb zed (pv 6) (zaa (zra (zaa (pv 9) (zaa (pv 10) (zaa (pv 11) zba)))) zba)))
    (zfa (zrc (zxa zds (pv 11) zqh (zfb _))
     (zca (zsc (zja (zew T kb) hr rfl T.ztd.m T.ztd.F.kp (zex T) .nil zqa (zaa (pv 0) (zaa (pv 1) (zaa (pv 2) (zaa (pv 3) (zaa (pv 11) zba)))))) (zmc (n:=3) rfl (zea (zda (i:=2) zrb.nd rfl (.inl rfl)) (zea (zda (i:=3) zrb.nd rfl (.inl rfl)) (zea (zda (i:=12) zrb.nd rfl (.inl rfl)) zjb)))))
     (zfa (zjc (zog yya yef yff zbl (pv 7) (zaa (pv 12) zba)))))
     zeb))))
    zeb)))
  (zfa (zsa (zra (zaa (pv 2) (zaa (pv 6) (zaa (pv 7) (zaa (pv 8) zba))))))))))),?_⟩
 refine⟨sz0,λlg hlg=>?_⟩;refine laid hlg λH1 S1 e1=>?_;refine⟨sz0,λc2 hc2=>?_⟩;refine laid hc2 λH2 S2 e2=>?_;have S02:=S1.trans S2;refine⟨_,rfl,cl,_,rfl,.inl (SqL.of (S02 _ _ ecl)),λlf0 hlf0=>?_⟩;refine laid hlf0 λH3 S3 e3=>?_;have S03:=S02.trans S3;have e13:=(S2.trans S3) _ _ e1;have e23:=S3 _ _ e2;have fc2:H c2=none:=none_of S1 hc2;have n12:lg≠c2:=zka e1 hc2;obtain⟨outs0,nss0,esa,_⟩:=id CV;have sl:sa≠lg:=zka esa hlg;refine⟨_,rfl,hl,rfl,⟨_,SqL.of (S03 _ _ ehl)⟩,?_⟩;refine zgh (xs:=[.ref ha]) (λi σ Hx=>(i=0∧Ex4 λ(o9 o10 o11 o12:Option V)=>σ=[some (.ref ca),some (.ref oa),some tv,some (.ref sa),some (.ref hl),some (.ref cl),some (.ref lg),some (.ref c2),some (.ref lf0),o9,o10,o11,o12]∧Hx=H3)∨(i=1∧Ex9 λv' s' lf (t':Tab) us o9 o10 o11 o12=>σ=[some (.ref ca),some (.ref oa),some v',some (.ref s'),some (.ref hl),some (.ref cl),some (.ref lg),some (.ref c2),some (.ref lf),o9,o10,o11,o12]∧Same H Hx∧PlR t p 1 "draw" t'∧TabT Hx v' t'∧Hx lg=some (.lst us)∧All2 (LgF H Hx) us [("draw",-1-(p:Int),1)]∧Hx c2=some (.lst [])∧Hx lf=some (.lst (iM ch)))) (.inl ⟨rfl,_,_,_,_,rfl,rfl⟩) (λi σ Hx _ z=>?_) ?_ ?_
 ·rcases z with⟨_,_,_,_,_,_,rfl⟩|⟨_,_,_,_,_,_,_,_,_,_,_,S,_⟩
  ·exact SqL.of (S03 _ _ ehl)
  ·exact SqL.of (S _ _ ehl)
 ·rintro i u σ Hx hu (⟨rfl,o9,o10,o11,o12,rfl,rfl⟩|⟨rfl,_⟩)
  case inr=>cases hu
  cases hu;refine⟨_,rfl,_,rfl,tv,ha,t,np,nc,"draw",-1-(p:Int),.int 1,rfl,TT.kp (Kp.same S03),TI0.ok,S03 _ _ eh,by omega,λH4 S4=>?_⟩;have hh:hpM t "draw" (-1-(p:Int))=true:=by
   unfold hpM;rw[if_pos (by omega),show (-1-(-1-(p:Int))).toNat=p by omega,yua,hg];rfl
  refine⟨_,rfl,?_⟩;rw[hh];refine iteT ?_;have S04:=S03.trans S4;refine⟨_,rfl,_,rfl,_,rfl,ca,oa,tv,t,np,nc,cs,os,rfl,GG.same S04,TT.kp (Kp.same S04),TI0,hc,λrw5 ru H5 S5 nr5 e5 al5=>?_⟩;have S35:=S4.trans S5;have S05:=S03.trans S35;refine⟨_,rfl,_,rfl,_,rfl,rw5,sa,ha,lf0,ru,cs,os,t.marks,t.lying,"draw",-1-(p:Int),.int 1,ch,rfl,e5,al5,CV.same S05,S05 _ _ eh,S35 _ _ e3,λtp tr lf' H6 S6 ftr flf' ntl e6 etr elf6=>?_⟩;have S36:=S35.trans S6;have S06:=S03.trans S36;refine⟨tp,_,rfl,SqT.of e6,rfl,_,_,rfl,_,_,rfl,_,_,rfl,rfl,?_⟩;have elg6:=S36 _ _ e13;have ec26:=S36 _ _ e23;refine⟨_,rfl,.inl ⟨rfl,_,SqL.of elg6⟩,_,rfl,_,rfl,_,rfl,sz3,λet het=>?_⟩;refine laid het λH7 S7 e7=>?_;have S07:=S06.trans S7;have elg7:=S7 _ _ elg6;refine⟨lg,_,_,rfl,rfl,elg7,zvf (by decide),?_⟩;have kp8:Kp H7 (upd H7 lg (.lst ([]++[.ref et]))):=Kp.put elg7;have S08:Same H (upd H7 lg (.lst ([]++[.ref et]))):=zve S07 hlg _;have ntr:tr≠lg:=ysc (zka (S35 _ _ e13) ftr);have lf'lg:lf'≠lg:=ysc (zka (S35 _ _ e13) flf');have lf'c2:lf'≠c2:=ysc (zka (S35 _ _ e23) flf');have ntc:tr≠c2:=ysc (zka (S35 _ _ e23) ftr);have elg8:upd H7 lg (.lst ([]++[.ref et])) lg=some (.lst ([]++[.ref et])):=zta;have eet8:=kp8.t e7;have etr8:upd H7 lg (.lst ([]++[.ref et])) tr=some (.lst []):=by rw[zbb ntr];exact S7 _ _ etr
  have ec28:upd H7 lg (.lst ([]++[.ref et])) c2=some (.lst []):=by rw[zbb (ysc n12)];exact S7 _ _ ec26
  have elf8:upd H7 lg (.lst ([]++[.ref et])) lf'=some (.lst (iM ch)):=by rw[zbb lf'lg];exact S7 _ _ elf6
  generalize upd H7 lg (.lst ([]++[.ref et]))=H8 at S08 elg8 eet8 etr8 ec28 elf8 ⊢;clear kp8;refine⟨_,rfl,rfl,_,rfl,iteT ?_⟩;refine⟨_,rfl,_,rfl,_,rfl,_,rfl,_,rfl,ca,oa,sa,ha,tv,t,np,nc,-1-(p:Int),"draw",.int 1,cs,os,rfl,GG.same S08,TT.kp (Kp.same S08),TI0,hc,CV.same S08,S08 _ _ eh,(by decide +kernel),by omega,by omega,λ_=>⟨by decide +kernel,1,rfl,by decide⟩,λz=>by omega,λt' hp=>hti t' (zwrb hg rfl rfl hp),λr9 s9 m9 v9 t9 H9 S9 TT9 hp e9 fm9 em9=>?_⟩;refine⟨r9,_,rfl,SqT.of e9,rfl,_,_,rfl,_,_,rfl,_,_,rfl,rfl,?_⟩;have ec29:=S9 _ _ ec28;refine⟨_,rfl,.inl ⟨rfl,_,SqL.of ec29⟩,_,rfl,c2,m9,_,_,rfl,rfl,ec29,em9,(by decide),?_⟩;have S09:=S08.trans S9;have kpA:Kp H9 (upd H9 c2 (.lst ([]++[]))):=Kp.put ec29;have ev:=S09 _ _ eh;refine .inr ⟨rfl,v9,s9,lf',t9,[]++[.ref et],_,_,_,_,rfl,zve S09 fc2 _,zwrb hg rfl rfl hp,TT9.kp kpA,by rw[zbb n12];exact S9 _ _ elg8,.cons ⟨et,ha,tr,ha,rfl,kpA.t (S9 _ _ eet8),kpA.t ev,by rw[zbb ntc];exact S9 _ _ etr8,kpA.t ev,none_of S05 ftr⟩ .nil,zta,by rw[zbb lf'c2];exact S9 _ _ elf8⟩
 ·rintro σ Hx (⟨z,_⟩|⟨_,v',s',lf,t',us,o9,o10,o11,o12,rfl,S,pr,TTx,elg,alg,ec2,elf⟩)
  ·cases z
  refine⟨_,rfl,_,rfl,_,rfl,_,rfl,sz4,λr hr'=>?_⟩;refine laid hr' λH5 S5 e5=>?_;exact q r t' H5 (S.trans S5) pr ⟨v',lg,c2,lf,us,e5,TTx.kp (Kp.same S5),S5 _ _ elg,alg.imp λz=>z.same S5,S5 _ _ ec2,S5 _ _ elf⟩
theorem zmv {p:L2.St->Hp->Prop}{σ σ':L2.St}{H:Hp}(e:σ=σ')(h:p σ' H):p σ H:=e▸h
def lvE (n:Int):Ev:=("leave",n,0)
theorem zkkb {α:Type}{xs:List α}{i:Nat}{x:α}(h:xs[i]?=some x):xs.set i x=xs:=by
 obtain⟨hl,e⟩:=yha.mp h;rw[← e];exact yjq hl
theorem zqwb {np nc:Nat}{cs:List Pc}{os:List Nat}{s:Sd}{t1 t2:Tab}{ns:List Int}{p n:Nat}{av:V}(SS:SI np nc cs s)(hc:cs.length=nc)(hp:¬ s.passes+1<np)(he:s.pile=[(p,n)])(cr:CrR (cs.map (·.marks)) s.t n av "come" t1)(T1:TI np nc t1)(lk:Lk cs os t1 t2 ns):LetR np cs s { s with t:=t2,pile:=[],word:=s.turn,passes:=0 } (("come",(n:Int),0)::ns.map lvE):=by
 have hn:n<nc:=by
  have:=(SS.rg (n:Int) (by unfold cells;rw[he];simp)).2;omega
 obtain⟨c,hcc⟩:=getx (xs:=cs) (i:=n) (by omega);have em':(cs.map (·.marks))[n]?=some c.marks:=by rw[yia,hcc];rfl
 have nin:(n:Int)∉s.t.lying:=λz=>by
  have nd:=SS.nd;unfold cells at nd;rw[he] at nd;have nd2:=(yfd.mp ((yfd.mp nd).2.1)).2.1;have nd3:=(yfd.mp nd2).2.2;exact nd3 (n:Int) (by simp) (n:Int) (yyi _ z) rfl
 cases cr with
 | @come _ ms em =>
 rw[em'] at em;cases em;have e1:s.t.marks.set n c.marks=s.t.marks:=zkkb (by rw[SS.marks,em']);have e2:s.t.wnds.set n 0=s.t.wnds:=zkkb (by rw[SS.wnds,ytc,if_pos hn]);have et:({ s.t with marks:=s.t.marks.set n c.marks,wnds:=s.t.wnds.set n 0,lying:=s.t.lying++[(n:Int)] }:Tab)={ s.t with lying:=s.t.lying++[(n:Int)] }:=by rw[e1,e2]
 rw[et] at lk T1;obtain⟨lv,so,pm⟩:=zxab T1 SS.pts SS.gone lk;have wf:∀x∈s.t.lying,worn cs s.t.wnds x=false:=λx hx=>by
  obtain⟨x0,x1⟩:=SS.ti.rg x hx;obtain⟨c',hc'⟩:=getx (xs:=cs) (i:=x.toNat) (by omega);have:=SS.frc x hx c' hc';unfold worn;rw[hc',SS.wnds,ytc,if_pos (by omega)];exact decide_eq_false (by show ¬ ((c'.force:Int)≤0);omega)
 have wn:worn cs s.t.wnds (n:Int)=decide (c.force=0):=by
  unfold worn;rw[yeb,hcc,SS.wnds,ytc,if_pos hn];exact decide_eq_decide.mpr (by show ((c.force:Int)≤0)↔_;omega)
 have fl:(s.t.lying++[(n:Int)]).filter (worn cs s.t.wnds)=if c.force=0 then [(n:Int)] else []:=by
  rw[yjf,ysg.mpr (λx hx=>by rw[wf x hx];decide),ybm]
  by_cases z:c.force=0
  ·rw[if_pos z,ywd (by rw[wn];exact decide_eq_true z)];rfl
  ·rw[if_neg z,yxd (by rw[wn];intro y;exact z (of_decide_eq_true y))];rfl
 have pm':ns.Perm (if c.force=0 then [(n:Int)] else []):=by rw[← fl];exact pm
 by_cases z:c.force=0
 ·rw[if_pos z] at pm';have en:ns=[(n:Int)]:=List.perm_singleton.mp pm';subst en;have l1:(s.t.lying++[(n:Int)]).filter (λx=>!decide (x∈[(n:Int)]))=s.t.lying:=by
   rw[yjf];have:s.t.lying.filter (λx=>!decide (x∈[(n:Int)]))=s.t.lying:=by
    rw[yem];intro x hx;have:x≠(n:Int):=λy=>nin (by rw[← y];exact hx);simp[this]
   rw[this];simp
  have e3:setM cs s.t.marks [(n:Int)]=s.t.marks:=by
   show s.t.marks.set (n:Int).toNat (((cs.map (·.marks))[(n:Int).toNat]?).getD [])=_
   rw[yeb,em'];exact e1
  have e4:setW s.t.wnds [(n:Int)]=s.t.wnds:=by
   show s.t.wnds.set (n:Int).toNat 0=_
   rw[yeb];exact e2
  have e5:t2={ s.t with heap:=t2.heap }:=by
   refine lv.det (cs:=cs) (t:={ s.t with lying:=s.t.lying++[(n:Int)] }) (ns:=[(n:Int)]) ⟨rfl,rfl,rfl,rfl,rfl,l1.symm,lv.heap,e3.symm,e4.symm⟩ so so
  have z2:LetR np cs s { s with t:={ s.t with heap:=t2.heap },pile:=[],word:=s.turn,passes:=0 } [("come",(n:Int),0),("leave",(n:Int),0)]:=.gone hp he hcc z lv.heap so;rw[← e5] at z2;exact z2
 ·rw[if_neg z] at pm';have en:ns=[]:=yil.mp pm';subst en;have e5:t2={ s.t with lying:=s.t.lying++[(n:Int)] }:=lv.det .nil so SS.ti.so;rw[e5];exact .come hp he hcc z
theorem ztgb {np nc:Nat}{cs:List Pc}{s:Sd}{t1:Tab}(SS:SI np nc cs s)(hc:cs.length=nc)(hp:¬ s.passes+1<np)(he:s.pile=[])(pr:PlR s.t ((s.turn+1) % np) 1 "draw" t1):TI np nc t1∧t1.pts=s.t.pts∧t1.gone=s.t.gone:=by
 cases pr with
 | draw a b c d=>exact⟨(SS.let hc (.turn hp he a b c d)).ti,rfl,rfl⟩
theorem zjub {np nc:Nat}{cs:List Pc}{os:List Nat}{s:Sd}{t1 t2:Tab}{ns:List Int}(SS:SI np nc cs s)(hc:cs.length=nc)(hp:¬ s.passes+1<np)(he:s.pile=[])(pr:PlR s.t ((s.turn+1) % np) 1 "draw" t1)(lk:Lk cs os t1 t2 ns):LetR np cs s { s with t:=t2,turn:=(s.turn+1) % np,word:=(s.turn+1) % np,passes:=0,coins:=s.coins.set ((s.turn+1) % np) 5 } (("draw",-1-(((s.turn+1) % np:Nat):Int),1)::ns.map lvE):=by
 obtain⟨T1,g1,g2⟩:=ztgb SS hc hp he pr;obtain⟨lv,so,pm⟩:=zxab T1 (g1.trans SS.pts) (g2.trans SS.gone) lk;cases pr with
 | @draw d h hand a b c e =>
 have fl:s.t.lying.filter (worn cs s.t.wnds)=[]:=by
  rw[ysg];intro x hx;obtain⟨x0,x1⟩:=SS.ti.rg x hx;obtain⟨c',hc'⟩:=getx (xs:=cs) (i:=x.toNat) (by omega);have:=SS.frc x hx c' hc';unfold worn;rw[hc',SS.wnds,ytc,if_pos (by omega)];intro z;have z':=of_decide_eq_true z;have z2:(c'.force:Int)≤0:=z';omega
 have pm':ns.Perm (s.t.lying.filter (worn cs s.t.wnds)):=pm;rw[fl] at pm';have en:ns=[]:=yil.mp pm';subst en;have e5:=lv.det .nil so SS.ti.so;rw[e5];exact .turn hp he a b c e
def zuzb (B:Addr):Sp:=λvs H Q _=>Ex16 λF ca oa oc pl co (t:Tab) (np nc turn:Nat) wv (lg:List Ev) (ch coins:List Int) (cs:List Pc) (os:List Nat)=>vs=[.ref ca,.ref oa,.ref oc,.ref pl,.int (turn:Int),wv,.ref co]∧(∀a,H a=none->F a=none)∧GC B H ca oa cs os∧ResE F H oc t lg ch∧TI np nc t∧cs.length=nc∧(∀o∈os,o<np)∧t.pts=yna np 20∧t.gone=yna np false∧2≤np∧turn<np∧H pl=some (.tup [])∧H co=some (.tup (iM coins))∧lg.length≤2∧∀r ll v' (t2:Tab) (ns:List Int) us H',Same H H'->H' r=some (.tup [v',.ref ll])->Lk cs os t t2 ns->StT H' v' ⟨t2,[],turn,turn,0,coins⟩->H' ll=some (.lst us)->All2 (LgF F H') us (lg++ns.map lvE)->H ll=none->Q (.ref r) H'
def zlpb (B:Addr):Sp:=λvs H Q _=>Ex10 λca oa cl sv (s:Sd) (np nc:Nat) (cs:List Pc) (os:List Nat) (ch:List Int)=>vs=[.ref ca,.ref oa,sv,.ref cl]∧GC B H ca oa cs os∧StT H sv s∧SI np nc cs s∧cs.length=nc∧(∀o∈os,o<np)∧H cl=some (.lst (iM ch))∧∀r ll v' (s':Sd) (lg:List Ev) us H',Same H H'->H' r=some (.tup [v',.ref ll])->StT H' v' s'->LetR np cs s s' lg->H' ll=some (.lst us)->All2 (LgF H H') us lg->H ll=none->Q (.ref r) H'
theorem zsec {np nc:Nat}{cs:List Pc}{os:List Nat}{t t2:Tab}{ns:List Int}(T0:TI np nc t)(h:Lk cs os t t2 ns):ns.length≤16:=by
 obtain⟨y,y1,_,_,_,y5,_⟩:=h;have l1:=y5.length_eq;have l2:=yqc (worn cs y.wnds) y.lying;have l3:y.lying.length≤t.lying.length:=by rw[y1.lying];exact yqc _ _
 have l4:=T0.ok.ly;omega
theorem zdz (T:Tx K mg)(kb:K.In base):FnOk P w K mg base CX0 12 T.zxg.f T.zxg.d zpx (zuzb T.znb):=by
 refine T.zxg.ok zxc ?_;rintro f c A o s H vs Q E hr ⟨F,ca,oa,oc,pl,co,t,np,nc,turn,wv,lg,ch,coins,cs,os,rfl,gF,GG,⟨v,ll,c2,lf,us,er,TT,ell,alg,ec2,elf⟩,TI0,hc,hos,hp,hg,np2,tn,ep,eco,lg2,q⟩ X;refine⟨_,  (zca (zsc (pv 2) (zmc (n:=4) rfl (zea (zda (i:=7) zxc.nd rfl (.inl rfl)) (zea (zda (i:=8) zxc.nd rfl (.inl rfl)) (zea (zda (i:=9) zxc.nd rfl (.inl rfl)) (zea (zda (i:=10) zxc.nd rfl (.inl rfl)) zjb))))))
  (zca (zsc (zja (zuqb T kb) hr rfl T.zll.m T.zll.F.kp (zwwb T) .nil zqa (zaa (pv 0) (zaa (pv 1) (zaa (pv 7) (zaa (pv 10) zba))))) (zmc (n:=4) rfl (zea (zda (i:=7) zxc.nd rfl (.inl rfl)) (zea (zda (i:=11) zxc.nd rfl (.inl rfl)) (zea (zda (i:=12) zxc.nd rfl (.inl rfl)) (zea (zda (i:=10) zxc.nd rfl (.inl rfl)) zjb))))))
  (zca (zsc (zja (zqvb T).up hr rfl T.zxo.m T.zxo.F.kp (zfcc T) .nil zqa (zaa (pv 0) (zaa (pv 7) (zaa (pv 3) zba)))) (zmc (n:=2) rfl (zea (zda (i:=7) zxc.nd rfl (.inl rfl)) (zea (zda (i:=3) zxc.nd rfl (.inl rfl)) zjb))))
  (zca (zsc (zja (zeeb T).up hr rfl T.zcj.m T.zcj.F.kp (zamb T) .nil zqa (zaa (pv 3) (zaa (zja (zwq T).up hr rfl T.zuc.m T.zuc.F.kp (zos T) .nil zqa (zaa (pv 7) (zaa (pv 4) (zaa (zgb zrqb (pv 9) (pv 12)) (zaa (pv 10) zba))))) zba))) (zmc (n:=2) rfl (zea (zda (i:=3) zxc.nd rfl (.inl rfl)) (zea (zda (i:=13) zxc.nd rfl (.inl rfl)) zjb))))
  (zca (zla (i:=14) zxc.nd rfl (.inl rfl) (zja (zlf T).up hr rfl T.zob.m T.zob.F.kp (zyf T) .nil zqa (zaa (pv 7) (zaa (pv 4) zba))))
  (zca (zrc (zrl (pv 14) (λ_=>rfl))
   (zfa (zla (i:=5) zxc.nd rfl (.inl rfl) (zva zad (pv 14) zia (λ_ _=>rfl))))
   zeb)
  (zfa (zsa (zra (zaa (zra (zaa (pv 7) (zaa (pv 3) (zaa (pv 4) (zaa (pv 5) (zaa zia (zaa (pv 6) (zaa (zja (zwqb T).up hr rfl T.znl.m T.znl.F.kp (zywb T) .nil zqa (zaa (pv 14) (zaa (pv 13) zba))) zba)))))))) (zaa (zgb zrqb (pv 8) (pv 11)) zba))))))))))),?_⟩
 refine⟨_,rfl,oc,_,rfl,SqT.of er,rfl,_,_,rfl,_,_,rfl,_,_,rfl,_,_,rfl,rfl,?_⟩;refine zmv (σ':=[some (.ref ca),some (.ref oa),some (.ref oc),some (.ref pl),some (.int (turn:Int)),some wv,some (.ref co),some v,some (.ref ll),some (.ref c2),some (.ref lf),none,none,none,none]) rfl ?_;refine⟨_,rfl,_,rfl,_,rfl,_,rfl,ca,oa,lf,v,t,np,nc,cs,os,ch,rfl,GG,TT,TI0,hc,hos,elf,λr1 t2 ns H1 S1 LK TI2 RS=>?_⟩;obtain⟨v2,lg2',c3,lf2,us2,er2,TT2,elg2,alg2,ec3,elf2,q1,q2,q3,_⟩:=RS;obtain⟨lv,_,_⟩:=zxab TI0 hp hg LK;have hg2:t2.gone=yna np false:=lv.gone.trans hg;refine⟨r1,_,rfl,SqT.of er2,rfl,_,_,rfl,_,_,rfl,_,_,rfl,_,_,rfl,rfl,?_⟩;refine zmv (σ':=[some (.ref ca),some (.ref oa),some (.ref oc),some (.ref pl),some (.int (turn:Int)),some wv,some (.ref co),some v2,some (.ref ll),some (.ref c2),some (.ref lf2),some (.ref lg2'),some (.ref c3),none,none]) rfl ?_;refine⟨_,rfl,_,rfl,_,rfl,.ref ca,v2,pl,rfl,S1 _ _ ep,λr2 p2 H2 S2 e2 e2'=>?_⟩;refine⟨r2,_,rfl,SqT.of e2,rfl,_,_,rfl,_,_,rfl,rfl,?_⟩;refine zmv (σ':=[some (.ref ca),some (.ref oa),some (.ref oc),some (.ref p2),some (.int (turn:Int)),some wv,some (.ref co),some v2,some (.ref ll),some (.ref c2),some (.ref lf2),some (.ref lg2'),some (.ref c3),none,none]) rfl ?_;have S02:=S1.trans S2;refine⟨_,rfl,_,rfl,_,rfl,_,rfl,_,rfl,c2,c3,_,_,rfl,rfl,S02 _ _ ec2,S2 _ _ ec3,(by decide),λl3 hl3=>?_⟩;refine laid hl3 λH3 S3 e3=>?_;have S23:=S2.trans S3;have TT3:=TT2.kp (Kp.same S23);refine⟨_,rfl,v2,t2,np,nc,turn,l3,.ref lf2,rfl,TT3,TI2.ok,hg2,by omega,e3,λwl H4 S4 nwl ewl=>?_⟩;refine⟨p2,wl,[],[],rfl,(S3.trans S4) _ _ e2',ewl,(by decide),λr5 p5 H5 S5 e5 e5'=>?_⟩;refine⟨r5,_,rfl,SqT.of e5,rfl,_,_,rfl,_,_,rfl,rfl,?_⟩;refine zmv (σ':=[some (.ref ca),some (.ref oa),some (.ref oc),some (.ref p5),some (.int (turn:Int)),some wv,some (.ref co),some v2,some (.ref ll),some (.ref c2),some (.ref lf2),some (.ref lg2'),some (.ref c3),some (.bl true),none]) rfl ?_;have S35:=S4.trans S5;refine⟨_,rfl,_,rfl,v2,t2,np,nc,turn,rfl,TT3.kp (Kp.same S35),TI2.ok,hg2,by omega,λl6 H6 S6 nl6 e6=>?_⟩;have S36:=S35.trans S6;have rl:=zsq turn np;have S26:=S23.trans S36;have S16:=S26;have S06:=S1.trans S26;have ol:(oM (round turn np)).length=np:=by unfold oM;rw[yca,rl]
 refine⟨_,rfl,_,.inl ⟨_,SqL.of e6,rfl⟩,ite2 (λc=>?_) (λc=>?_)⟩
 case refine_2 =>
  exfalso;cases hz:oM (round turn np) with
  | nil=>rw[hz] at ol;simp at ol;omega
  | cons x r=>rw[hz] at c;exact c rfl
 refine⟨_,rfl,l6,_,_,_,rfl,rfl,SqL.of e6,zbj (i:=0) (x:=turn % np) (zjp (by omega)),?_⟩;rw[Nat.mod_eq_of_lt tn];refine⟨_,rfl,_,rfl,_,rfl,_,rfl,_,rfl,_,rfl,_,rfl,l6,_,rfl,e6,by rw[ol];exact np2,sz7,λs7 hs7=>?_⟩;refine laid hs7 λH7 S7 e7=>?_;have S67:=S6.trans S7;have S07:=S06.trans S7;have S17:=S16.trans S7;have ul:=alg.len;have ul2:=alg2.len;have nl:=zsec TI0 LK;refine⟨_,rfl,_,rfl,ll,lg2',_,_,rfl,rfl,S07 _ _ ell,S17 _ _ elg2,small (by omega),λl8 hl8=>?_⟩;refine laid hl8 λH8 S8 e8=>?_;refine⟨sz2,λr9 hr9=>?_⟩;refine laid hr9 λH9 S9 e9=>?_;have S79:=S8.trans S9;have S09:=S07.trans S79;have S19:=S17.trans S79;refine q r9 l8 (.ref s7) t2 ns (us++us2) H9 S09 e9 LK ⟨s7,p5,co,v2,[],rfl,S79 _ _ e7,TT3.kp (Kp.same (S36.trans (S7.trans S79))),(S67.trans S79) _ _ e5',.nil,S09 _ _ eco⟩ (S9 _ _ e8) ?_ (none_of S07 hl8);refine All2.app (alg.imp λz=>z.same S09) ?_;exact zwu (S:=LgF F H9) (f:=lvE) (λ{u n} (z:LgT H H1 u n)=>((LgT.f z).bas gF).same S19) alg2
theorem zvqb (T:Tx K mg)(kb:K.In base):FnOk P w K mg base CX0 13 T.zml.f T.zml.d zccb (zlpb T.znb):=by
 refine T.zml.ok zgf ?_;rintro f c A o s H vs Q E hr ⟨ca,oa,cl,sv,s,np,nc,cs,os,ch,rfl,GG,ST,SS,hc,hos,ecl,q⟩ X;obtain⟨a,pl,co,tv,us,rfl,ea,TT,epl,alp,eco⟩:=ST;have TO:=SS.ti.ok;have np2:=SS.np2;have np4:=TO.np4;have tn:=SS.turn;refine⟨_,  (zca (zsc (pv 2) (zmc (n:=7) rfl (zea (zda (i:=4) zgf.nd rfl (.inl rfl)) (zea (zda (i:=5) zgf.nd rfl (.inl rfl)) (zea (zda (i:=6) zgf.nd rfl (.inl rfl)) (zea (zda (i:=7) zgf.nd rfl (.inl rfl)) (zea (zda (i:=8) zgf.nd rfl (.inl rfl)) (zea (zda (i:=9) zgf.nd rfl (.inl rfl)) (zea (zda (i:=10) zgf.nd rfl (.inl rfl)) zjb)))))))))
  (zca (zrc (zxa zpqb (zgb zue (pv 8) zia) (zab zwa rfl T.zuf ysb (zaa (zja (zlf T).up hr rfl T.zob.m T.zob.F.kp (zyf T) .nil zqa (zaa (pv 4) (zaa (pv 7) zba))) zba)) (zfb _))
   (zfa (zsa (zra (zaa (zra (zaa (pv 4) (zaa (pv 5) (zaa (pv 6) (zaa (zva zad (zja (zlf T).up hr rfl T.zob.m T.zob.F.kp (zyf T) .nil zqa (zaa (pv 4) (zaa (zgb zue (pv 7) zia) zba))) zia (λ_ _=>rfl)) (zaa (zgb zue (pv 8) zia) (zaa (pv 9) (zaa zqh zba)))))))) (zaa (zdc zba) zba)))))
   zeb)
  (zca (zrc (zrl (pv 5) (λ_=>rfl))
   (zca (zla (i:=11) zgf.nd rfl (.inl rfl) (zja (zrhb T kb).up hr rfl T.zsh.m T.zsh.F.kp (zdob T) .nil zqa (zaa (pv 0) (zaa (pv 1) (zaa (pv 4) (zaa (zva zcb (pv 5) (zkab ziq zia) (λ_ _=>rfl)) (zaa (pv 3) zba)))))))
   (zfa (zsa (zja (zdz T kb) hr rfl T.zxg.m T.zxg.F.kp (zvfb T) .nil zqa (zaa (pv 0) (zaa (pv 1) (zaa (pv 11) (zaa (znc zwk (pv 5) zod (znd (zkab ziq zia))) (zaa (pv 6) (zaa (pv 7) (zaa (pv 9) zba)))))))))))
   zeb)
  (zca (zla (i:=6) zgf.nd rfl (.inl rfl) (zva zad (zja (zlf T).up hr rfl T.zob.m T.zob.F.kp (zyf T) .nil zqa (zaa (pv 4) (zaa (zgb zue (pv 6) zia) zba))) zia (λ_ _=>rfl)))
  (zca (zla (i:=11) zgf.nd rfl (.inl rfl) (zja (zshb T kb).up hr rfl T.zse.m T.zse.F.kp (zyfb T) .nil zqa (zaa (pv 0) (zaa (pv 1) (zaa (pv 4) (zaa (zja (zsj T kb).up hr rfl T.ztc.m T.ztc.F.kp (zel T) .nil zqa (zaa (pv 0) (zaa (pv 1) (zaa (pv 4) zba)))) (zaa (zdc (zaa (zra (zaa zkb (zaa (zgb znm (zkab ziq zia) (pv 6)) (zaa zia zba)))) zba)) (zaa (pv 3) zba))))))))
  (zfa (zsa (zja (zdz T kb) hr rfl T.zxg.m T.zxg.F.kp (zvfb T) .nil zqa (zaa (pv 0) (zaa (pv 1) (zaa (pv 11) (zaa (pv 5) (zaa (pv 6) (zaa (pv 7) (zaa (zja (zkf T).up hr rfl T.zub.m T.zub.F.kp (zvg T) .nil zqa (zaa (pv 9) (zaa (pv 6) (zaa (zua (v:=.int 5) rfl T.zoi ⟨_,rfl⟩) zba)))) zba))))))))))))))),?_⟩
 refine⟨_,rfl,a,_,rfl,SqT.of ea,rfl,_,_,rfl,_,_,rfl,_,_,rfl,_,_,rfl,_,_,rfl,_,_,rfl,_,_,rfl,rfl,?_⟩;refine zmv (σ':=[some (.ref ca),some (.ref oa),some (.ref a),some (.ref cl),some tv,some (.ref pl),some (.int (s.turn:Int)),some (.int (s.word:Int)),some (.int (s.passes:Int)),some (.ref co),some .non,none]) rfl ?_;refine⟨_,rfl,_,_,rfl,rfl,_,rfl,_,rfl,tv,s.t,np,nc,s.word,rfl,TT,TO,SS.gone,by omega,λl1 H1 S1 nl1 e1=>?_⟩;have ol:(oM (round s.word np)).length=np:=by unfold oM;rw[yca,zsq]
 refine⟨l1,_,rfl,.inl (SqL.of e1),_,_,rfl,rfl,_,rfl,ite2 (λc=>?_) (λc=>?_)⟩
 ·have c':s.passes+1<np:=by
   have:=of_decide_eq_true c;rw[ol] at this;omega
  refine⟨_,rfl,_,rfl,_,rfl,_,rfl,_,rfl,_,_,rfl,rfl,tv,s.t,np,nc,s.word+1,rfl,TT.kp (Kp.same S1),TO,SS.gone,by omega,λl2 H2 S2 nl2 e2=>?_⟩;refine⟨l2,_,_,_,rfl,rfl,SqL.of e2,zbj (i:=0) (x:=(s.word+1) % np) (zjp (by omega)),_,rfl,_,_,rfl,rfl,_,rfl,sz7,λs3 hs3=>?_⟩;refine laid hs3 λH3 S3 e3=>?_;refine⟨sz0,λl4 hl4=>?_⟩;refine laid hl4 λH4 S4 e4=>?_;refine⟨sz2,λr hr'=>?_⟩;refine laid hr' λH5 S5 e5=>?_;have S45:=S4.trans S5;have S03:=S1.trans (S2.trans S3);have S05:=S03.trans S45;exact q r l4 (.ref s3) { s with word:=(s.word+1) % np,passes:=s.passes+1 } [] [] H5 S05 e5 ⟨s3,pl,co,tv,us,rfl,S45 _ _ e3,TT.kp (Kp.same S05),S05 _ _ epl,alp.imp λz=>z.kp (Kp.same S05),S05 _ _ eco⟩ (.pass c') (S5 _ _ e4) .nil (none_of S03 hl4)
 have hp:¬ s.passes+1<np:=λz=>c (decide_eq_true (by rw[ol];omega));refine⟨_,rfl,_,.inr (.inl ⟨_,SqT.of (S1 _ _ epl),rfl⟩),ite2 (λc2=>?_) (λc2=>?_)⟩
 ·
  obtain⟨⟨p,n⟩,he⟩:∃x,s.pile=[x]:=by
   have l1:=SS.pile;cases hz:s.pile with
   | nil =>
    exfalso;have:=alp.len;rw[hz] at this;rw[ydg this] at c2;cases c2
   | cons x r =>
    rw[hz] at l1;cases r with
    | nil=>exact⟨x,rfl⟩
    | cons y r=>simp at l1
  rw[he] at alp;cases alp with
  | @cons u _ us' _ hu hr =>
  cases hr;obtain⟨tp,rfl,etp⟩:=hu;have hn:n<nc:=by
   have:=(SS.rg (n:Int) (by unfold cells;rw[he];simp)).2;omega
  have nin:(n:Int)∉s.t.lying++s.t.heap:=λz=>by
   have nd:=SS.nd;unfold cells at nd;rw[he] at nd;have nd2:=(yfd.mp ((yfd.mp nd).2.1)).2.1;exact (yfd.mp nd2).2.2 (n:Int) (by simp) (n:Int) z rfl
  refine⟨_,rfl,_,rfl,_,rfl,_,rfl,_,rfl,pl,_,_,_,rfl,rfl,SqT.of (S1 _ _ epl),rfl,_,rfl,ca,oa,tp,cl,tv,s.t,np,nc,p,n,cs,os,ch,rfl,GG.same S1,TT.kp (Kp.same S1),SS.ti,hc,S1 _ _ etp,hn,nin,S1 _ _ ecl,λr2 t1 H2 S2 cr RE=>?_⟩;have S02:=S1.trans S2;refine⟨_,rfl,_,rfl,_,rfl,_,rfl,_,rfl,_,rfl,pl,_,rfl,SqT.of (S02 _ _ epl),?_,λb3 hb3=>?_⟩
  ·rintro⟨_,z⟩;exact absurd z (by show ¬ HT.sIx 1 1 (some (-1))=1;decide)
  rw[show cutV [V.ref tp] none (some (-1:Int))=[] from rfl];refine laid hb3 λH3 S3 e3=>?_;have T1:=SS.ti.come hn nin GG.k cr;have g1:t1.pts=s.t.pts∧t1.gone=s.t.gone:=by
   cases cr with
   | come _=>exact⟨rfl,rfl⟩
  have S03:=S02.trans S3;obtain⟨v,ll,c4,lf,us4,er,TT4,ell,alg,ec4,elf⟩:=RE;refine⟨_,rfl,_,rfl,_,rfl,H,ca,oa,r2,b3,co,t1,np,nc,s.turn,.int (s.word:Int),[("come",(n:Int),0)],ch,s.coins,cs,os,rfl,λx z=>none_of S03 z,GG.same S03,⟨v,ll,c4,lf,us4,S3 _ _ er,TT4.kp (Kp.same S3),S3 _ _ ell,alg.imp λz=>(z.bas (grow S1)).same S3,S3 _ _ ec4,S3 _ _ elf⟩,T1,hc,hos,g1.1.trans SS.pts,g1.2.trans SS.gone,np2,tn,e3,S03 _ _ eco,(by show 1≤2;decide),λr5 l5 v5 t5 ns us5 H5 S5 e5 LK ST5 el5 al5 nl5=>?_⟩;exact q r5 l5 v5 _ _ us5 H5 (S03.trans S5) e5 ST5 (zqwb SS hc hp he cr T1 LK) el5 al5 (none_of S03 nl5)
 ·
  have he:s.pile=[]:=by
   cases hz:us with
   | nil =>
    have:=alp.len;rw[hz] at this;exact ydg this.symm
   | cons x r=>rw[hz] at c2;exact absurd rfl c2
  have ue:us=[]:=by
   have:=alp.len;rw[he] at this;exact ydg this
  obtain⟨u,hu⟩:∃u,u=(s.turn+1) % np:=⟨_,rfl⟩;have un:u<np:=by rw[hu];exact yln _ (by omega)
  refine⟨_,rfl,_,rfl,_,_,rfl,rfl,tv,s.t,np,nc,s.turn+1,rfl,TT.kp (Kp.same S1),TO,SS.gone,by omega,λl2 H2 S2 nl2 e2=>?_⟩;refine⟨l2,_,_,_,rfl,rfl,SqL.of e2,zbj (i:=0) (x:=u) (by rw[hu];exact zjp (by omega)),?_⟩;have S02:=S1.trans S2;refine⟨_,rfl,_,rfl,_,rfl,_,rfl,_,rfl,_,rfl,ca,oa,tv,s.t,np,nc,cs,os,rfl,GG.same S02,TT.kp (Kp.same S02),SS.ti,hc,λsp out ns0 H3 S3 np3 e3 al pn so=>?_⟩;have S03:=S02.trans S3;refine⟨_,rfl,_,rfl,_,_,rfl,rfl,sz3,λha hha=>?_⟩;refine laid hha λH4 S4 e4=>?_;refine⟨sz1,λhl hhl=>?_⟩;refine laid hhl λH5 S5 e5=>?_;have S35:=S4.trans S5;have S05:=S03.trans S35;refine⟨_,rfl,ca,oa,sp,hl,ha,cl,tv,s.t,np,nc,u,cs,os,ch,rfl,GG.same S05,TT.kp (Kp.same S05),SS.ti,hc,⟨out,ns0,S35 _ _ e3,al.imp λz=>(z.kp (Kp.same S35)).a,λx hx=>pn.mem_iff.mpr hx⟩,e5,S5 _ _ e4,un,by rw[SS.gone,ytc,if_pos un],λt' pr=>(ztgb SS hc hp he (by rw[← hu];exact pr)).1,S05 _ _ ecl,λr6 t1 H6 S6 pr RE=>?_⟩;rw[hu] at pr;obtain⟨T1,g1,g2⟩:=ztgb SS hc hp he pr;have S06:=S05.trans S6;have cll:(iM s.coins).length=np:=by unfold iM;rw[yca,SS.coins]
  refine⟨_,rfl,_,rfl,_,rfl,_,rfl,_,rfl,_,rfl,_,rfl,_,rfl,co,_,u,.int 5,rfl,S06 _ _ eco,by rw[cll];exact un,by rw[cll];omega,λco' H7 S7 e7=>?_⟩;have S07:=S06.trans S7;obtain⟨v,ll,c4,lf,us4,er,TT4,ell,alg,ec4,elf⟩:=RE;have ep7:=S07 _ _ epl;rw[ue] at ep7;refine⟨H,ca,oa,r6,pl,co',t1,np,nc,u,.int (s.word:Int),[("draw",-1-(u:Int),1)],ch,s.coins.set u 5,cs,os,rfl,λx z=>none_of S07 z,GG.same S07,⟨v,ll,c4,lf,us4,S7 _ _ er,TT4.kp (Kp.same S7),S7 _ _ ell,alg.imp λz=>(z.bas (grow S05)).same S7,S7 _ _ ec4,S7 _ _ elf⟩,T1,hc,hos,g1.trans SS.pts,g2.trans SS.gone,np2,un,ep7,by rw[e7];unfold iM;rw[yge],(by show 1≤2;decide),λr8 l8 v8 t8 ns us8 H8 S8 e8 LK ST8 el8 al8 nl8=>?_⟩;have lr:=zjub SS hc hp he pr LK;rw[← hu] at lr;rw[he] at lr;exact q r8 l8 v8 _ _ us8 H8 (S07.trans S8) e8 ST8 lr el8 al8 (none_of S07 nl8)
def zbac (B F:Addr):Sp:=λvs H Q _=>Ex13 λ(Ys:List Addr) x pa cv (s:Sd) (ks os:List Nat) (np nc k:Nat) (cs:List Pc) (lg:List Ev) (ch:List Int)=>vs=[.ref x,.int (s.word:Int),cv]∧(cv = .non∨∃cl,cv = .ref cl∧H cl=some (.lst (iM ch)))∧FtT Ys B F H x pa cs ks os s lg k∧(∀y∈Ys,H y≠none)∧SI np nc cs s∧cs.length=nc∧(∀o∈os,o<np)∧k≤900∧∀(s':Sd) (lg':List Ev) H',Two x pa H H'->LetR np cs s s' lg'->FtT Ys B F H' x pa cs ks os s' lg' (k+1)->Q .non H'
def zfpb (B F:Addr):Sp:=λvs H Q _=>Ex9 λ(Ys:List Addr) x pa (s:Sd) (ks os:List Nat) (k:Nat) (cs:List Pc) (lg:List Ev)=>vs=[.ref x]∧FtT Ys B F H x pa cs ks os s lg k∧∀v,StT H v s->Q v H
def zqub (B F:Addr):Sp:=λvs H Q _=>Ex9 λ(Ys:List Addr) x pa (s:Sd) (ks os:List Nat) (k:Nat) (cs:List Pc) (lg:List Ev)=>vs=[.ref x]∧FtT Ys B F H x pa cs ks os s lg k∧Q (.int (k:Int)) H
def evD (e:Ev):PyData:=.tuple [.str e.1,.int e.2.1,.int e.2.2]
def lgD (e:Ev):PyData:=.tuple [evD e,.list [],evD e]
theorem znfc {K:yda}{H:Hp}{a:Addr}{e:Ev}(h:EvT H a e):DV K H (.ref a) (evD e):=.tup (SqT.of h) (.cons (.str _) (.cons (.int _) (.cons (.int _) .nil)))
theorem ztec {K:yda}{Ys:List Addr}{H:Hp}{us:List V}{es:List Ev}(z:All2 (LgE Ys H) us es):DVs K H us (es.map lgD):=by
 induction z with
 | nil=>exact .nil
 | cons h _ ih =>
  obtain⟨a,h,tr,h',rfl,h1,h2,h3,h4,_⟩:=h;exact .cons (.tup (SqT.of h1) (.cons (znfc h2) (.cons (.lst (SqL.of h3) .nil) (.cons (znfc h4) .nil)))) ih
def zaac (K:yda)(B F:Addr):Sp:=λvs H Q _=>Ex9 λ(Ys:List Addr) x pa (s:Sd) (ks os:List Nat) (k:Nat) (cs:List Pc) (lg:List Ev)=>vs=[.ref x]∧FtT Ys B F H x pa cs ks os s lg k∧lg.length≤20∧∀l us H',Same H H'->H' l=some (.lst us)->All2 (LgE [] H') us lg->Q (.ref l) H'
theorem zfn (T:Tx K mg)(kb:K.In base):FnOk P w K mg base CX0 14 T.zld.f T.zld.d zjm (zbac T.znb T.zza):=by
 refine T.zld.ok zmi ?_;rintro f c A o s H vs Q E hr ⟨Ys,x,pa,cv,s,ks,os,np,nc,k,cs,lg,ch,rfl,hcv,FT,hX,SS,hc,hos,k9,q⟩ X;obtain⟨dx,ca,oa,ll,now,ps,us,hx,GG,KS,ST,hp,pl,hl,alg,n1,n2,n3,n4⟩:=FT;refine⟨_,  (zca (zla (i:=3) zmi.nd rfl (.inl rfl) (zja (ztj T).up hr rfl T.zwb.m T.zwb.F.kp (zlk T) .nil zqa (zaa (zee (pv 0) rfl) (zaa (pv 1) zba))))
  (zca (zrc (zxa zds (pv 3) zqh (zfb _))
   (zfa zqf)
   zeb)
  (zca (zla (i:=4) zmi.nd rfl (.inl rfl) (zuq (zxa zfyb (pv 2) zqh (zfb _)) (zdc zba) (zna zqc rfl T.zki ywh (zaa (pv 2) zba))))
  (zca (zsc (zja (zvqb T kb) hr rfl T.zml.m T.zml.F.kp (zxwb T) .nil zqa (zaa (zee (pv 0) rfl) (zaa (zee (pv 0) rfl) (zaa (zee (pv 0) rfl) (zaa (pv 4) zba))))) (zmc (n:=2) rfl (zea (zda (i:=5) zmi.nd rfl (.inl rfl)) (zea (zda (i:=6) zmi.nd rfl (.inl rfl)) zjb))))
  (zfa (zjc (zbn (pv 0) T.zpb T.zie.M (zbr T).up hr (zzt T) .nil zqa (zaa (zra (zaa zkb (zaa (pv 1) (zaa (zna zoa rfl T.zzb ymc (zaa (pv 4) zba)) zba)))) (zaa (pv 5) (zaa (pv 6) zba)))))))))),?_⟩
 refine⟨_,rfl,x,_,dx,_,_,rfl,hx,T.zpb,T.zpd,zms,_,rfl,now,s,rfl,ST,?_⟩;refine⟨_,rfl,rfl,_,rfl,iteF ?_⟩;refine' zjv (pre:=λv Hs=>Ex2 λtk (ch':List Int)=>v = .ref tk∧Same H Hs∧Hs tk=some (.lst (iM ch'))) (λkk=>?g1) ?k1
 case g1 =>
  refine⟨_,rfl,rfl,_,rfl,?_⟩;refine Or.elim hcv (λhcv=>?_) (λhcv=>?_)
  ·refine ite2 (λ_=>⟨sz0,λtk htk=>?_⟩) (λz=>absurd (decide_eq_true hcv) z);refine laid htk λH1 S1 e1=>?_;obtain⟨v4,hv4⟩:∃x,x=V.ref tk:=⟨_,rfl⟩;rw[← hv4];exact kk v4 H1 ⟨tk,[],hv4,S1,e1⟩
  ·obtain⟨cl,hcv,ecl⟩:=hcv;refine ite2 (λz=>by rw[hcv] at z;cases of_decide_eq_true z) (λ_=>⟨_,rfl,cl,_,(by rw[hcv]),.inl (SqL.of ecl),λtk htk=>?_⟩);refine laid htk λH1 S1 e1=>?_;obtain⟨v4,hv4⟩:∃x,x=V.ref tk:=⟨_,rfl⟩;rw[← hv4];exact kk v4 H1 ⟨tk,ch,hv4,S1,e1⟩
 case k1 =>
 rintro _ H1 ⟨tk,ch',rfl,S1,etk⟩;have hx1:=S1 _ _ hx;refine⟨_,rfl,x,_,dx,_,_,rfl,hx1,T.zpb,T.zzc,zuw,_,rfl,x,_,dx,_,_,rfl,hx1,T.zpb,T.zxd,zunb,_,rfl,x,_,dx,_,_,rfl,hx1,T.zpb,T.zpd,zms,_,rfl,ca,oa,tk,now,s,np,nc,cs,os,ch',rfl,GG.same S1,ST.kp (Kp.same S1),SS,hc,hos,etk,λr l2 v' s' lg' us2 H2 S2 er ST2 lr el2 al2 nl2=>?_⟩;have S02:=S1.trans S2;have hx2:=S02 _ _ hx;refine⟨r,_,rfl,SqT.of er,rfl,_,_,rfl,_,_,rfl,rfl,?_⟩;refine⟨_,rfl,x,dx,_,rfl,hx2,zdsb (by decide +kernel),_,rfl,_,rfl,tk,_,rfl,.inl ⟨SqL.of (S2 _ _ etk),λt3 ht3=>?_⟩⟩;refine laid ht3 λH3 S3 e3=>?_;refine⟨sz3,λd4 hd4=>?_⟩;refine laid hd4 λH4 S4 e4=>?_;have S24:=S3.trans S4;have S04:=S02.trans S24;have hx4:=S04 _ _ hx;refine⟨_,rfl,_,rfl,x,dx,ca,oa,ll,pa,l2,now,.ref d4,v',ps,rfl,hx4,S04 _ _ hp,by omega,λu H5 hx5 hp5 t5=>?_⟩;have t05:Two x pa H H5:=(Two.same S04).trans t5;have kp:=t05.kp hx hp;have kp4:=t5.kp hx4 (S04 _ _ hp);have nx:∀xs,H x≠some (.lst xs):=λxs z=>by rw[hx] at z;cases z
 have nx4:∀xs,H4 x≠some (.lst xs):=λxs z=>by rw[hx4] at z;cases z
 have np':∀{y:Addr},y∉Ys->y≠pa:=λh z=>h (by rw[z];exact n4);have f2:l2∉Ys:=zclb hX (none_of S1 nl2);have el4:=S24 _ _ el2;refine q s' lg' H5 t05 lr ⟨dx,ca,oa,l2,v',ps++[u],us2,hx5,GG.two t05 kp nx (np' n1) (np' n2),KS.two t05 kp nx (np' n1),(ST2.kp (Kp.same S24)).kp kp4,hp5,by rw[ypa,pl];rfl,t5 _ _ (λz=>nx4 _ (by rw[← z];exact el4)) (np' f2) el4,?_,n1,n2,f2,n4⟩;refine al2.imp λz=>?_;obtain⟨a,h,tr,h',eu,g1,g2,g3,g4,g5⟩:=z.same S24;have ft:tr∉Ys:=zclb hX (none_of S1 g5);exact⟨a,h,tr,h',eu,kp4.t g1,kp4.t g2,t5 _ _ (λz=>nx4 _ (by rw[← z];exact g3)) (np' ft) g3,kp4.t g4,ft⟩
theorem zto (T:Tx K mg):FnOk P w K mg base CX0 2 T.zvd.f T.zvd.d zim (zfpb T.znb T.zza):=by
 refine T.zvd.ok zcy ?_;rintro f c A o s H vs Q E hr ⟨Ys,x,pa,s,ks,os,k,cs,lg,rfl,FT,q⟩ X;obtain⟨dx,ca,oa,ll,now,ps,us,hx,GG,KS,ST,hp,pl,hl,alg,n1,n2,n3,n4⟩:=FT;refine⟨_,  (zfa (zsa (zee (pv 0) rfl))),?_⟩;exact⟨_,rfl,x,_,dx,_,_,rfl,hx,T.zpb,T.zpd,zms,q now ST⟩
theorem zar (T:Tx K mg):FnOk P w K mg base CX0 2 T.zge.f T.zge.d zgo (zqub T.znb T.zza):=by
 refine T.zge.ok zeab ?_;rintro f c A o s H vs Q E hr ⟨Ys,x,pa,s,ks,os,k,cs,lg,rfl,FT,q⟩ X;obtain⟨dx,ca,oa,ll,now,ps,us,hx,GG,KS,ST,hp,pl,hl,alg,n1,n2,n3,n4⟩:=FT;refine⟨_,  (zfa (zsa (zab zwa rfl T.zuf ysb (zaa (zee (pv 0) rfl) zba)))),?_⟩;refine⟨_,rfl,x,_,dx,_,_,rfl,hx,T.zpb,T.ztg,ztlb,pa,_,rfl,.inl (SqL.of hp),?_⟩;rw[pl];exact q
theorem zleb (T:Tx K mg):FnOk P w K mg base CX0 2 T.zmg.f T.zmg.d zbq (zaac K T.znb T.zza):=by
 refine T.zmg.ok zgdb ?_;rintro f c A o s H vs Q E hr ⟨Ys,x,pa,s,ks,os,k,cs,lg,rfl,FT,l20,q⟩ X;obtain⟨dx,ca,oa,ll,now,ps,us,hx,GG,KS,ST,hp,pl,hl,alg,n1,n2,n3,n4⟩:=FT;have ul:=alg.len;refine⟨_,  (zfa (zsa (zec (own:=["happening","trail","came"]) (cap:=[]) rfl (zya.chk rfl rfl) .nil (zcc (zee (pv 0) rfl)) (λ_ _ _ _=>(zsl K (n:=3) rfl (zea (zda (i:=0) (show yhb (["happening","trail","came"]:List Str) by decide +kernel) rfl (.inl rfl)) (zea (zda (i:=1) (show yhb (["happening","trail","came"]:List Str) by decide +kernel) rfl (.inl rfl)) (zea (zda (i:=2) (show yhb (["happening","trail","came"]:List Str) by decide +kernel) rfl (.inl rfl)) zjb))))) (λ_ _ _ _=>zyc) (λ_ _ _ _=>by exact (zra (zaa (pv 0) (zaa (zna (zor K) rfl T.zki ywh (zaa (pv 1) zba)) (zaa (pv 2) zba)))))))),?_⟩;refine⟨_,rfl,x,_,dx,_,_,rfl,hx,T.zpb,T.zsd,zvbc,ll,rfl,⟨_,SqL.of hl⟩,?_⟩;refine zyb (xs:=us) (λi ys H'=>Same H H'∧i≤us.length∧All2 (LgE [] H') ys (lg.take i)) (λi ys H' z=>SqL.of (z.1 _ _ hl)) ⟨Same.refl _,ywa _,.nil⟩ ?_ ?_ ?_
 ·rintro i ys H' ⟨_,hi,al⟩;have:=al.len;rw[yza] at this;exact small (by omega)
 ·rintro i u ys H' hu ⟨S,_,al⟩;obtain⟨e,he,z⟩:=alg.get hu;obtain⟨a,h,tr,h',rfl,g1,g2,g3,g4,_⟩:=z.same S;refine⟨a,_,rfl,SqT.of g1,rfl,_,_,rfl,_,_,rfl,_,_,rfl,rfl,rfl,?_⟩;refine⟨_,rfl,_,rfl,tr,_,rfl,.inl (SqL.of g3),λl hl'=>?_⟩;refine laid hl' λH1 S1 e1=>?_;refine⟨_,rfl,sz3,λt ht=>?_⟩;refine laid ht λH2 S2 e2=>?_;have S12:=S1.trans S2;refine⟨S.trans S12,(yha.mp hu).1,?_⟩;rw[ydb,he];exact All2.snoc ⟨t,h,l,h',rfl,e2,S12 _ _ g2,S2 _ _ e1,S12 _ _ g4,by simp⟩ (al.imp λz=>z.same S12)
 ·rintro ys H' ⟨S,_,al⟩ l hl';rw[yra (by omega)] at al;refine laid hl' λH1 S1 e1=>?_;exact q l ys H1 (S.trans S1) e1 (al.imp λz=>z.same S1)
theorem zqbc {n j:Nat}(h:j<n):ixN n (j:Int)=some j:=by
 unfold ixN;rw[if_pos (by omega),if_pos (by omega),yeb]
theorem But.kpl {p:Addr}{H H':Hp}{xs:List V}(b:But p H H')(e:H p=some (.lst xs)):Kp H H':=λa o n _ h=>b a o (λz=>by
 rw[z,e] at h;injection h with h
 exact n _ h.symm) h
theorem zrv {p:Addr}{xs:List V}{j:Nat}{v:V}{H:Hp}{Q:Hp->Prop}(e:H p=some (.lst xs))(hj:j<xs.length)(q:∀H',But p H H'->H' p=some (.lst (xs.set j v))->Q H'):zzdc (.ref p) (.int (j:Int)) v H Q:=⟨p,xs,_,j,rfl,rfl,e,zqbc hj,q _ But.put zta⟩
theorem zvxb {K:yda}{a:Addr}{xs ys:List V}{lo hi:Option Int}{H:Hp}{Q:VK}(e:H a=some (.tup xs))(c:cutV xs lo hi=ys)(q:∀b H',Same H H'->H' b=some (.tup ys)->Q (.ref b) H'):rSlA K (.ref a) lo hi H Q:=by
 refine⟨a,xs,rfl,SqT.of e,λwh=>q a H (Same.refl _) ?_,λ_ p hp=>laid hp λH2 S2 e2=>q p H2 S2 (by rw[e2,c])⟩;rw[e,← c,zvw wh]
theorem zzl {K:yda}{a b:Addr}{xs ys:List V}{H:Hp}{Q:VK}(ea:H a=some (.tup xs))(eb:H b=some (.tup ys))(nx:xs≠[])(l:xs.length+ys.length≤1000)(q:∀p H',Same H H'->H' p=some (.tup (xs++ys))->Q (.ref p) H'):zcec K (.ref a) (.ref b) H Q:=⟨a,b,xs,ys,rfl,rfl,SqT.of ea,SqT.of eb,nx,small l,λz=>q a H (Same.refl _) (by rw[z,ypc];exact ea),λ_ _ hp=>laid hp λH2 S2 e2=>q _ H2 S2 e2⟩
theorem znbb {K:yda}{a b:Addr}{xs ys:List V}{H:Hp}{Q:VK}(ea:H a=some (.tup xs))(eb:H b=some (.tup ys))(ny:ys≠[])(l:xs.length+ys.length≤1000)(q:∀p H',Same H H'->H' p=some (.tup (xs++ys))->Q (.ref p) H'):zbyb K (.ref a) (.ref b) H Q:=⟨a,b,xs,ys,rfl,rfl,SqT.of ea,SqT.of eb,ny,small l,λz=>q b H (Same.refl _) (by rw[z];exact eb),λ_ _ hp=>laid hp λH2 S2 e2=>q _ H2 S2 e2⟩
theorem zecc {K:yda}{a b:Addr}{xs ys:List V}{H:Hp}{Q:VK}(ea:H a=some (.tup xs))(eb:H b=some (.tup ys))(l:xs.length+ys.length≤1000)(q:∀p H',Same H H'->H' p=some (.tup (xs++ys))->Q (.ref p) H'):zeec K (.ref a) (.ref b) H Q:=⟨a,b,xs,ys,rfl,rfl,SqT.of ea,SqT.of eb,small l,λz=>q b H (Same.refl _) (by rw[z];exact eb),λ_ z=>q a H (Same.refl _) (by rw[z,ypc];exact ea),λ_ _ _ hp=>laid hp λH2 S2 e2=>q _ H2 S2 e2⟩
def HdT (H:Hp)(v:V)(c:Crd):Prop:=Ex2 λa m=>v = .ref a∧H a=some (.tup [.int (c.cost:Int),.int (c.force:Int),.ref m])∧H m=some (.tup (c.marks.map V.str))
theorem HdT.kp {H H':Hp}(s:Kp H H'){v:V}{c:Crd}(h:HdT H v c):HdT H' v c:=by
 obtain⟨a,m,e,h1,h2⟩:=h;exact⟨a,m,e,s.t h1,s.t h2⟩
def HdS (H:Hp)(hd:Addr)(cs:List Crd):Prop:=∃us,H hd=some (.lst us)∧All2 (HdT H) us cs
theorem HdS.same {H H':Hp}(s:Same H H'){hd:Addr}{cs:List Crd}(h:HdS H hd cs):HdS H' hd cs:=by
 obtain⟨us,h1,h2⟩:=h;exact⟨us,s _ _ h1,h2.imp λz=>z.kp (Kp.same s)⟩
def ztgc:Sp:=λvs H Q _=>Ex7 λsv hd (n np nc:Nat) (s:Sd) (dss:List (List Crd))=>vs=[sv,.ref hd,.int (n:Int)]∧StT H sv s∧HdS H hd dss.flatten∧SI np nc (pcF dss) s∧MayP (coF dss) s n∧∀v' (s':Sd) H',Same H H'->StT H' v' s'->znx (coF dss) s n s'->Q v' H'
theorem ziy (T:Tx K mg):FnOk P w K mg base CX0 2 T.zoe.f T.zoe.d zfm ztgc:=by
 refine T.zoe.ok zfc ?_;rintro f c A o s H vs Q E hr ⟨sv,hd,n,np,nc,s,dss,rfl,ST,⟨hus,ehd,alh⟩,SS,MP,q⟩ X;obtain⟨a,pl,co,tv,us,rfl,ea,TT,epl,alp,eco⟩:=ST;obtain⟨ta,v0,v1,v2,v3,v4,v5,v6,v7,v8,rfl,eta,TP⟩:=TT;obtain⟨b4,u4,rfl,e4,al4⟩:=id TP.p4;obtain⟨h,hh,hin⟩:=MP.hand;obtain⟨k,c,hk,hcc,kc⟩:=MP.cost;obtain⟨_,ehv,hb,rfl,ehb⟩:=al4.get2 (b:=iM h) (by rw[yia,hh];rfl);obtain⟨cr,hcr,rfl⟩:∃cr,dss.flatten[n]?=some cr∧cr.cost=k:=by
  unfold coF at hk;rw[yia] at hk;obtain⟨cr,h1,h2⟩:=ygc.mp hk;exact⟨cr,h1,h2⟩
 obtain⟨_,ehn,hc,hm,rfl,ehc,_⟩:=alh.get2 hcr;have TO:=SS.ti.ok;have np4:=TO.np4;have l4:=al4.len;rw[yca,TO.hands] at l4;have wl:=SS.word;have hl16:=TO.hs h (ycb hh);have upl:=alp.len;rw[MP.pile] at upl;refine⟨_,  (zca (zsc (pv 0) (zmc (n:=7) rfl (zea (zda (i:=3) zfc.nd rfl (.inl rfl)) (zea (zda (i:=4) zfc.nd rfl (.inl rfl)) (zea (zda (i:=5) zfc.nd rfl (.inl rfl)) (zea (zda (i:=6) zfc.nd rfl (.inl rfl)) (zea (zda (i:=7) zfc.nd rfl (.inl rfl)) (zea (zda (i:=8) zfc.nd rfl (.inl rfl)) (zea (zda (i:=9) zfc.nd rfl (.inl rfl)) zjb)))))))))
  (zca (zla (i:=10) zfc.nd rfl (.inl rfl) (zna zqc rfl T.zki ywh (zaa (zva zcb (pv 3) zia (λ_ _=>rfl)) zba)))
  (zca (zsc (zna zoa rfl T.zzb ymc (zaa (zec (own:=["_law_one"]) (cap:=["_law_number_here"]) rfl (zya.chk rfl rfl) (.cons (j:=2) rfl (.inl rfl) (.inl rfl) .nil) (zdw (zva zad (pv 10) (pv 6) (λ_ _=>rfl))) (λ_ _ _ _=>(zda (i:=0) (show yhb (["_law_one","_law_number_here"]:List Str) by decide +kernel) rfl (.inl rfl))) (λ_ _ _ _=>zah (zxa zphb (pv 0) (pv 1) (zfb _))) (λ_ _ _ _=>by exact (pv 0))) zba)) (zydb (pv 10) (pv 6) set_list))
  (zca (zla (i:=8) zfc.nd rfl (.inl rfl) (zna zqc rfl T.zki ywh (zaa (pv 8) zba)))
  (zca (zsc (zgb znm (zva zefc (pv 8) (pv 6) (λ_ _=>rfl)) (zva zcb (zva zad (pv 1) (pv 2) (λ_ _=>rfl)) zia (λ_ _=>rfl))) (zydb (pv 8) (pv 6) set_list))
  (zca (zla (i:=3) zfc.nd rfl (.inl rfl) (zgb zzh (zgb zzh (znc zwk (pv 3) zod (znd zia)) (zra (zaa (zna zoa rfl T.zzb ymc (zaa (pv 10) zba)) zba))) (znc zwk (pv 3) (znd zia) zod)))
  (zfa (zsa (zra (zaa (pv 3) (zaa (zgb zko (pv 4) (zra (zaa (zra (zaa zkb (zaa (pv 6) (zaa (pv 2) (zaa zia zba))))) zba))) (zaa (pv 5) (zaa (pv 6) (zaa zia (zaa (zna zoa rfl T.zzb ymc (zaa (pv 8) zba)) (zaa (pv 9) zba)))))))))))))))),?_⟩
 refine⟨_,rfl,a,_,rfl,SqT.of ea,rfl,_,_,rfl,_,_,rfl,_,_,rfl,_,_,rfl,_,_,rfl,_,_,rfl,_,_,rfl,rfl,?_⟩;refine zmv (σ':=[some (.ref a),some (.ref hd),some (.int (n:Int)),some (.ref ta),some (.ref pl),some (.int (s.turn:Int)),some (.int (s.word:Int)),some (.int (s.passes:Int)),some (.ref co),some .non,none]) rfl ?_;refine⟨_,rfl,ta,_,_,_,rfl,rfl,SqT.of eta,zpa (j:=4) rfl,b4,_,rfl,.inr (SqT.of e4),λhl hhl=>?_⟩;refine laid hhl λH1 S1 f1=>?_;refine⟨_,rfl,_,rfl,hl,_,_,_,rfl,rfl,SqL.of f1,zpa ehv,hb,rfl,⟨_,SqT.of (S1 _ _ ehb)⟩,?_⟩;refine zyl (xs:=iM h) (λi ys H'=>H1=H'∧ys=iM ((h.take i).filter λx=>!decide (x=(n:Int)))) (λi ys H' z=>by rw[← z.1];exact SqT.of (S1 _ _ ehb)) ⟨rfl,rfl⟩ ?_ ?_ ?_
 ·rintro i ys H' ⟨_,rfl⟩;unfold iM;rw[yca];have h1:=yqc (λx=>!decide (x=(n:Int))) (h.take i);rw[yza] at h1;exact small (by omega)
 ·rintro i v ys H' hv ⟨rfl,rfl⟩;unfold iM at hv;rw[yia] at hv;obtain⟨x,hx,rfl⟩:=ygc.mp hv;rw[ydb,hx,yub,yjf];refine⟨rfl,_,rfl,_,rfl,rfl,_,rfl,ite2 (λc=>?_) (λc=>?_)⟩
  ·refine⟨_,rfl,rfl,?_⟩;rw[ywd (p:=λx=>!decide (x=(n:Int))) (by simpa using c)];unfold iM;rw[ygb];rfl
  ·refine⟨rfl,?_⟩;rw[yxd (p:=λx=>!decide (x=(n:Int))) (by simpa using c)];simp
 rintro ys H2 ⟨rfl,rfl⟩ l2 hl2;rw[show (h.take (iM h).length)=h by
  unfold iM;rw[yca,yyd]]
 refine laid hl2 λH2 S2 f2=>?_;refine⟨l2,_,rfl,.inl ⟨SqL.of f2,λt3 ht3=>?_⟩⟩;refine laid ht3 λH3 S3 f3=>?_;have S13:=S2.trans S3;refine⟨_,rfl,_,rfl,zrv (S13 _ _ f1) (by omega) λH4 B4 f4=>?_⟩;have n1:∀{b:Addr} {o:HO},H b=some o->b≠hl:=λz=>zka z hhl;have S04:Same H H4:=λb o z=>B4 b o (n1 z) ((S1.trans S13) b o z);have k14:Kp H3 H4:=B4.kpl (S13 _ _ f1);refine⟨_,rfl,co,_,rfl,.inr (SqT.of (S04 _ _ eco)),λcl hcl=>?_⟩;refine laid hcl λH5 S5 f5=>?_;have S05:=S04.trans S5;refine⟨_,rfl,_,rfl,.inl ⟨cl,_,_,_,rfl,rfl,SqL.of f5,zbj hcc,_,rfl,_,rfl,hd,_,_,_,rfl,rfl,SqL.of (S05 _ _ ehd),zpa ehn,hc,_,_,_,rfl,rfl,SqT.of (S05 _ _ ehc),zpa (j:=0) rfl,_,_,rfl,rfl,_,rfl,_,rfl,zrv f5 (by unfold iM;rw[yca,SS.coins];exact wl) λH6 B6 f6=>?_⟩⟩;have n2:∀{b:Addr} {o:HO},H4 b=some o->b≠cl:=λz=>zka z hcl;have S46:Same H4 H6:=λb o z=>B6 b o (n2 z) (S5 b o z);have S06:=S04.trans S46;refine⟨_,rfl,_,rfl,ta,_,rfl,SqT.of (S06 _ _ eta),(λz=>absurd z.2 (by show ¬ HT.sIx 9 9 (some 4)=9;decide)),λc1 hc1=>?_⟩;refine laid hc1 λH7 S7 f7=>?_;have f7':H7 c1=some (.tup [v0,v1,v2,v3]):=f7;refine⟨_,rfl,hl,_,rfl,.inl ⟨SqL.of ((S46.trans S7) _ _ f4),λt8 ht8=>?_⟩⟩;refine laid ht8 λH8 S8 f8=>?_;refine⟨sz1,λt9 ht9=>?_⟩;refine laid ht9 λH9 S9 f9=>?_;have S79:=S8.trans S9;refine zzl (S79 _ _ f7') f9 (by simp) (by show 4+1≤1000;decide) λc2 H10 S10 f10=>?_;have S8':=S9.trans S10;have S0A:=S06.trans (S7.trans (S79.trans S10));refine⟨_,rfl,_,rfl,ta,_,rfl,SqT.of (S0A _ _ eta),(λz=>absurd z.1 (by show ¬ HT.sIx 9 0 (some 5)=0;decide)),λc3 hc3=>?_⟩;refine laid hc3 λH11 S11 f11=>?_;have f11':H11 c3=some (.tup [v5,v6,v7,v8]):=f11;refine zzl (S11 _ _ f10) f11' (by simp) (by show 5+4≤1000;decide) λtb H12 S12 f12=>?_;have S8B:=S8'.trans (S11.trans S12);have S6B:=S7.trans (S8.trans S8B);have S0B:=S06.trans S6B;refine⟨_,rfl,_,rfl,_,rfl,_,rfl,sz4,λw1 hw1=>?_⟩;refine laid hw1 λH13 S13' f13=>?_;refine⟨sz1,λw2 hw2=>?_⟩;refine laid hw2 λH14 S14 f14=>?_;have SBE:=S13'.trans S14;refine znbb ((S0B.trans SBE) _ _ epl) f14 (by simp) (by rw[upl];show 0+1≤1000;decide) λp5 H15 S15 f15=>?_;refine⟨_,rfl,_,rfl,_,rfl,cl,_,rfl,.inl ⟨SqL.of ((S6B.trans (SBE.trans S15)) _ _ f6),λt6 ht6=>?_⟩⟩;refine laid ht6 λH16 S16 f16=>?_;refine⟨_,rfl,sz7,λr hr'=>?_⟩;refine laid hr' λH17 S17 f17=>?_;have SFH:=S16.trans S17;have SEH:=S15.trans SFH;have SDH:=S14.trans SEH;have SBH:=S13'.trans SDH;have S8H:=S8B.trans SBH;have S0H:=S0B.trans SBH;have S4H:=S46.trans (S6B.trans SBH);have kp:=Kp.same S0H;have TP7:=TP.kp kp;refine q (.ref r) { s with t:={ s.t with hands:=s.t.hands.set s.word (h.filter λx=>!decide (x=(n:Int))) },pile:=s.pile++[(s.word,n)],passes:=0,coins:=s.coins.set s.word (c-(cr.cost:Int)) } H17 S0H ⟨r,p5,t6,.ref tb,us++[.ref w1],rfl,f17,⟨tb,v0,v1,v2,v3,.ref t8,v5,v6,v7,v8,rfl,SBH _ _ f12,{ TP7 with p4:=⟨t8,_,rfl,S8H _ _ f8,?_⟩ }⟩,SFH _ _ f15,?_,?_⟩ ⟨h,c,cr.cost,hh,hcc,hk,rfl⟩
 ·rw[yge];refine (al4.imp λz=>z.kp kp).set ⟨t3,rfl,?_⟩ _;exact S4H _ _ (k14.t f3)
 ·exact All2.snoc ⟨w1,rfl,SDH _ _ f13⟩ (alp.imp λz=>z.kp kp)
 ·rw[S17 _ _ f16];unfold iM;rw[yge]
def zygc:Sp:=λvs H Q _=>Ex6 λsv hd (np nc:Nat) (s:Sd) (dss:List (List Crd))=>vs=[sv,.ref hd]∧StT H sv s∧HdS H hd dss.flatten∧SI np nc (pcF dss) s∧(pcF dss).length=nc∧¬ s.passes+1<np∧s.pile≠[]∧∀r ll v' (s':Sd) (lg:List Ev) us H',Same H H'->H' r=some (.tup [v',.ref ll])->StT H' v' s'->LetR np (pcF dss) s s' lg->H' ll=some (.lst us)->All2 (LgF H H') us lg->H ll=none->Q (.ref r) H'
def zqgc:Sp:=λvs H Q _=>Ex5 λsv (np nc:Nat) (s:Sd) (cs:List Pc)=>vs=[sv]∧StT H sv s∧SI np nc cs s∧¬ s.passes+1<np∧s.pile=[]∧∀r ll v' (s':Sd) (lg:List Ev) us H',Same H H'->H' r=some (.tup [v',.ref ll])->StT H' v' s'->LetR np cs s s' lg->H' ll=some (.lst us)->All2 (LgF H H') us lg->H ll=none->Q (.ref r) H'
def zodc:Sp:=λvs H Q _=>Ex6 λsv hd (np nc:Nat) (s:Sd) (dss:List (List Crd))=>vs=[sv,.ref hd]∧StT H sv s∧HdS H hd dss.flatten∧SI np nc (pcF dss) s∧(pcF dss).length=nc∧∀r ll v' (s':Sd) (lg:List Ev) us H',Same H H'->H' r=some (.tup [v',.ref ll])->StT H' v' s'->LetR np (pcF dss) s s' lg->H' ll=some (.lst us)->All2 (LgF H H') us lg->H ll=none->Q (.ref r) H'
theorem zjeb (T:Tx K mg):FnOk P w K mg base CX0 2 T.zjg.f T.zjg.d zyp zygc:=by
 refine T.zjg.ok zpc ?_;rintro f c A o s H vs Q E hr ⟨sv,hd,np,nc,s,dss,rfl,ST,⟨hus,ehd,alh⟩,SS,hc,hp,hne,q⟩ X;obtain⟨a,pl,co,tv,us,rfl,ea,TT,epl,alp,eco⟩:=ST;obtain⟨ta,v0,v1,v2,v3,v4,v5,v6,v7,v8,rfl,eta,TP⟩:=TT;obtain⟨b5,rfl,e5⟩:=id TP.p5;obtain⟨b6,rfl,e6⟩:=id TP.p6;obtain⟨⟨p,n⟩,he⟩:∃x,s.pile=[x]:=by
  have l1:=SS.pile;cases hz:s.pile with
  | nil=>exact absurd hz hne
  | cons x r =>
   rw[hz] at l1;cases r with
   | nil=>exact⟨x,rfl⟩
   | cons y r=>simp at l1
 rw[he] at alp;cases alp with
 | @cons u _ us' _ hu hr =>
 cases hr;obtain⟨tp,rfl,etp⟩:=hu;have hn:n<nc:=by
  have:=(SS.rg (n:Int) (by unfold cells;rw[he];simp)).2;omega
 obtain⟨cr,hcr⟩:=getx (xs:=dss.flatten) (i:=n) (by unfold pcF at hc;rw[yca] at hc;omega);have hpc:(pcF dss)[n]?=some ⟨cr.force,cr.marks⟩:=by unfold pcF;rw[yia,hcr];rfl
 obtain⟨_,ehn,hh,hm,rfl,ehc,_⟩:=alh.get2 hcr;have TO:=SS.ti.ok;have ly:=TO.ly;have hpl:=TO.hp;refine⟨_,  (zca (zsc (pv 0) (zmc (n:=7) rfl (zea (zda (i:=2) zpc.nd rfl (.inl rfl)) (zea (zda (i:=3) zpc.nd rfl (.inl rfl)) (zea (zda (i:=4) zpc.nd rfl (.inl rfl)) (zea (zda (i:=5) zpc.nd rfl (.inl rfl)) (zea (zda (i:=6) zpc.nd rfl (.inl rfl)) (zea (zda (i:=7) zpc.nd rfl (.inl rfl)) (zea (zda (i:=8) zpc.nd rfl (.inl rfl)) zjb)))))))))
  (zca (zla (i:=9) zpc.nd rfl (.inl rfl) (zva zcb (zva zcb (pv 3) (zkab ziq zia) (λ_ _=>rfl)) zia (λ_ _=>rfl)))
  (zca (zla (i:=10) zpc.nd rfl (.inl rfl) (zdc (zaa (zra (zaa (zra (zaa zkb (zaa (pv 9) (zaa zia zba)))) (zaa (zdc zba) (zaa (zra (zaa zkb (zaa (pv 9) (zaa zia zba)))) zba)))) zba)))
  (zca (zrc (zxa zoh (zva zcb (zva zad (pv 1) (pv 9) (λ_ _=>rfl)) zia (λ_ _=>rfl)) zia (zfb _))
   (zca (zjc (zog yya ypb yqb zed (pv 10) (zaa (zra (zaa (zra (zaa zkb (zaa (pv 9) (zaa zia zba)))) (zaa (zdc zba) (zaa (zra (zaa zkb (zaa (pv 9) (zaa zia zba)))) zba)))) zba)))
   (zfa (zla (i:=2) zpc.nd rfl (.inl rfl) (zgb zzh (zgb zzh (znc zwk (pv 2) zod (znd zia)) (zra (zaa (zna zoa rfl T.zzb ymc (zaa (zab zui rfl T.zwg yhj (zaa (zgb zko (zva zcb (pv 2) zia (λ_ _=>rfl)) (zra (zaa (pv 9) zba))) zba)) zba)) zba))) (znc zwk (pv 2) (znd zia) zod)))))
   (zfa (zla (i:=2) zpc.nd rfl (.inl rfl) (zgb zzh (zgb zzh (znc zwk (pv 2) zod (znd zia)) (zra (zaa (zgb zko (zva zcb (pv 2) zia (λ_ _=>rfl)) (zra (zaa (pv 9) zba))) zba))) (znc zwk (pv 2) (znd zia) zod)))))
  (zfa (zsa (zra (zaa (zra (zaa (pv 2) (zaa (znc zwk (pv 3) zod (znd (zkab ziq zia))) (zaa (pv 4) (zaa (pv 4) (zaa zia (zaa (pv 7) (zaa zqh zba)))))))) (zaa (pv 10) zba))))))))),?_⟩
 refine⟨_,rfl,a,_,rfl,SqT.of ea,rfl,_,_,rfl,_,_,rfl,_,_,rfl,_,_,rfl,_,_,rfl,_,_,rfl,_,_,rfl,rfl,?_⟩;refine zmv (σ':=[some (.ref a),some (.ref hd),some (.ref ta),some (.ref pl),some (.int (s.turn:Int)),some (.int (s.word:Int)),some (.int (s.passes:Int)),some (.ref co),some .non,none,none]) rfl ?_;refine⟨_,rfl,_,rfl,pl,_,_,_,rfl,rfl,SqT.of epl,rfl,tp,_,_,_,rfl,rfl,SqT.of etp,zpa (j:=2) rfl,?_⟩;refine⟨_,rfl,sz3,λh1 hh1=>?_⟩;refine laid hh1 λH1 S1 f1=>?_;refine⟨sz0,λtr htr=>?_⟩;refine laid htr λH2 S2 f2=>?_;refine⟨_,rfl,sz3,λh3 hh3=>?_⟩;refine laid hh3 λH3 S3 f3=>?_;refine⟨sz3,λt4 ht4=>?_⟩;refine laid ht4 λH4 S4 f4=>?_;refine⟨sz1,λll hll=>?_⟩;refine laid hll λH5 S5 f5=>?_;have S35:=S4.trans S5;have S25:=S3.trans S35;have S15:=S2.trans S25;have S05:=S1.trans S15;have l1:LgF H H5 (.ref t4) ("come",(n:Int),0):=⟨t4,h1,tr,h3,rfl,S5 _ _ f4,S15 _ _ f1,S25 _ _ f2,S35 _ _ f3,none_of S1 htr⟩;have hll0:=none_of (S1.trans (S2.trans (S3.trans S4))) hll;refine⟨_,rfl,_,rfl,hd,_,_,_,rfl,rfl,SqL.of (S05 _ _ ehd),zpa ehn,hh,_,_,_,rfl,rfl,SqT.of (S05 _ _ ehc),zpa (j:=1) rfl,rfl,_,rfl,ite2 (λc=>?_) (λc=>?_)⟩
 ·have f0:cr.force=0:=by
   have:=of_decide_eq_true c;injection this with this
   omega
  refine⟨_,rfl,.inl ⟨rfl,_,SqL.of f5⟩,_,rfl,sz3,λh6 hh6=>?_⟩;refine laid hh6 λH6 S6 f6=>?_;refine⟨sz0,λtr2 htr2=>?_⟩;refine laid htr2 λH7 S7 f7=>?_;refine⟨_,rfl,sz3,λh8 hh8=>?_⟩;refine laid hh8 λH8 S8 f8=>?_;refine⟨sz3,λt9 ht9=>?_⟩;refine laid ht9 λH9 S9 f9=>?_;have S79:=S8.trans S9;have S69:=S7.trans S79;have S59:=S6.trans S69;refine⟨ll,_,_,rfl,rfl,S59 _ _ f5,zvf (by show 1≤1000;decide),?_⟩;have SA:Same H (upd H9 ll (.lst ([.ref t4]++[.ref t9]))):=zve (S05.trans S59) hll0 _;have fA:upd H9 ll (.lst ([.ref t4]++[.ref t9])) ll=some (.lst ([.ref t4]++[.ref t9])):=zta;have BA:But ll H9 (upd H9 ll (.lst ([.ref t4]++[.ref t9]))):=But.put;have ntr:tr≠ll:=zka ((S3.trans S4) _ _ f2) hll;have ntr2:tr2≠ll:=λz=>by
   have:=S79 _ _ f7;rw[z] at htr2;rw[S6 _ _ f5] at htr2;cases htr2
  have kpA:=BA.kpl (S59 _ _ f5);have l1A:LgF H (upd H9 ll (.lst ([.ref t4]++[.ref t9]))) (.ref t4) ("come",(n:Int),0):=by
   obtain⟨x1,x2,x3,x4,g0,g1,g2,g3,g4,g5⟩:=l1.same S59;cases g0;have e1:=S59 _ _ (S5 _ _ f4);rw[g1] at e1;cases e1;exact⟨_,_,_,_,rfl,kpA.t g1,kpA.t g2,BA _ _ ntr g3,kpA.t g4,g5⟩
  have l2A:LgF H (upd H9 ll (.lst ([.ref t4]++[.ref t9]))) (.ref t9) ("leave",(n:Int),0):=by
   exact⟨t9,h6,tr2,h8,rfl,kpA.t f9,kpA.t (S69 _ _ f6),BA _ _ ntr2 (S79 _ _ f7),kpA.t (S9 _ _ f8),none_of (S05.trans S6) htr2⟩
  generalize upd H9 ll (.lst ([.ref t4]++[.ref t9]))=HA at SA fA l1A l2A ⊢;refine⟨_,rfl,_,rfl,ta,_,rfl,SqT.of (SA _ _ eta),(λz=>absurd z.2 (by show ¬ HT.sIx 9 9 (some 6)=9;decide)),λc1 hc1=>?_⟩;refine laid hc1 λH11 S11 f11=>?_;have f11':H11 c1=some (.tup [v0,v1,v2,v3,v4,.ref b5]):=f11;have S0B:=SA.trans S11;refine⟨_,rfl,ta,_,_,_,rfl,rfl,SqT.of (S0B _ _ eta),zpa (j:=6) rfl,_,rfl,sz1,λt12 ht12=>?_⟩;refine laid ht12 λH12 S12 f12=>?_;refine znbb ((S0B.trans S12) _ _ e6) f12 (by simp) (by unfold iM;rw[yca];show _+1≤1000;omega) λc2 H13 S13 f13=>?_;have f13':H13 c2=some (.tup ((s.t.heap++[(n:Int)]).map V.int)):=by rw[f13];unfold iM;rw[ygb];rfl
  refine⟨c2,_,rfl,.inr (SqT.of f13'),(by rw[ypa,ycf];omega),λl14 hpz hl14 pm so=>?_⟩;refine laid hl14 λH14 S14 f14=>?_;refine⟨l14,_,rfl,.inl ⟨SqL.of f14,λt15 ht15=>?_⟩⟩;refine laid ht15 λH15 S15' f15=>?_;refine⟨sz1,λt16 ht16=>?_⟩;refine laid ht16 λH16 S16 f16=>?_;have SBG:=S12.trans (S13.trans (S14.trans (S15'.trans S16)));refine zzl (SBG _ _ f11') f16 (by simp) (by show 6+1≤1000;decide) λc3 H17 S17 f17=>?_;have S0H:=S0B.trans (SBG.trans S17);refine⟨_,rfl,_,rfl,ta,_,rfl,SqT.of (S0H _ _ eta),(λz=>absurd z.1 (by show ¬ HT.sIx 9 0 (some 7)=0;decide)),λc4 hc4=>?_⟩;refine laid hc4 λH18 S18 f18=>?_;have f18':H18 c4=some (.tup [v7,v8]):=f18;refine zzl (S18 _ _ f17) f18' (by simp) (by show 7+2≤1000;decide) λtb H19 S19 f19=>?_;have S0J:=S0H.trans (S18.trans S19);refine⟨_,rfl,_,rfl,_,rfl,_,rfl,pl,_,rfl,SqT.of (S0J _ _ epl),(λz=>absurd z.2 (by show ¬ HT.sIx 1 1 (some (-1))=1;decide)),λb3 hb3=>?_⟩;refine laid hb3 λH20 S20 f20=>?_;have f20':H20 b3=some (.tup []):=f20;refine⟨_,rfl,_,rfl,_,rfl,sz7,λst hst=>?_⟩;refine laid hst λH21 S21 f21=>?_;refine⟨_,rfl,sz2,λr hr'=>?_⟩;refine laid hr' λH22 S22 f22=>?_;have SKM:=S21.trans S22;have SJM:=S20.trans SKM;have SFM:=S16.trans (S17.trans (S18.trans (S19.trans SJM)));have SAM:=S11.trans (SBG.trans (S17.trans (S18.trans (S19.trans SJM))));have S0M:=S0J.trans SJM;have TP7:=TP.kp (Kp.same S0M);exact q r ll (.ref st) { s with t:={ s.t with heap:=hpz },pile:=[],word:=s.turn,passes:=0 } [("come",(n:Int),0),("leave",(n:Int),0)] _ H22 S0M f22 ⟨st,b3,co,.ref tb,[],rfl,S22 _ _ f21,⟨tb,v0,v1,v2,v3,v4,.ref b5,.ref t15,v7,v8,rfl,SJM _ _ f19,{ TP7 with p6:=⟨t15,rfl,SFM _ _ f15⟩ }⟩,SKM _ _ f20',.nil,S0M _ _ eco⟩ (.gone hp he hpc f0 pm so) (SAM _ _ fA) (.cons (l1A.same SAM) (.cons (l2A.same SAM) .nil)) hll0
 ·have f0:cr.force≠0:=λz=>c (by rw[z];exact decide_eq_true rfl);refine⟨_,rfl,_,rfl,ta,_,rfl,SqT.of (S05 _ _ eta),(λz=>absurd z.2 (by show ¬ HT.sIx 9 9 (some 5)=9;decide)),λc1 hc1=>?_⟩;refine laid hc1 λH11 S11 f11=>?_;have f11':H11 c1=some (.tup [v0,v1,v2,v3,v4]):=f11;have S0B:=S05.trans S11;refine⟨_,rfl,ta,_,_,_,rfl,rfl,SqT.of (S0B _ _ eta),zpa (j:=5) rfl,_,rfl,sz1,λt12 ht12=>?_⟩;refine laid ht12 λH12 S12 f12=>?_;refine znbb ((S0B.trans S12) _ _ e5) f12 (by simp) (by unfold iM;rw[yca];show _+1≤1000;omega) λt15 H13 S13 f13=>?_;have f13':H13 t15=some (.tup (iM (s.t.lying++[(n:Int)]))):=by rw[f13];unfold iM;rw[ygb];rfl
  refine⟨sz1,λt16 ht16=>?_⟩;refine laid ht16 λH16 S16 f16=>?_;have SBG:=S12.trans (S13.trans S16);refine zzl (SBG _ _ f11') f16 (by simp) (by show 5+1≤1000;decide) λc3 H17 S17 f17=>?_;have S0H:=S0B.trans (SBG.trans S17);refine⟨_,rfl,_,rfl,ta,_,rfl,SqT.of (S0H _ _ eta),(λz=>absurd z.1 (by show ¬ HT.sIx 9 0 (some 6)=0;decide)),λc4 hc4=>?_⟩;refine laid hc4 λH18 S18 f18=>?_;have f18':H18 c4=some (.tup [.ref b6,v7,v8]):=f18;refine zzl (S18 _ _ f17) f18' (by simp) (by show 6+3≤1000;decide) λtb H19 S19 f19=>?_;have S0J:=S0H.trans (S18.trans S19);refine⟨_,rfl,_,rfl,_,rfl,_,rfl,pl,_,rfl,SqT.of (S0J _ _ epl),(λz=>absurd z.2 (by show ¬ HT.sIx 1 1 (some (-1))=1;decide)),λb3 hb3=>?_⟩;refine laid hb3 λH20 S20 f20=>?_;have f20':H20 b3=some (.tup []):=f20;refine⟨_,rfl,_,rfl,_,rfl,sz7,λst hst=>?_⟩;refine laid hst λH21 S21 f21=>?_;refine⟨_,rfl,sz2,λr hr'=>?_⟩;refine laid hr' λH22 S22 f22=>?_;have SKM:=S21.trans S22;have SJM:=S20.trans SKM;have SFM:=S16.trans (S17.trans (S18.trans (S19.trans SJM)));have SAM:=S11.trans (SBG.trans (S17.trans (S18.trans (S19.trans SJM))));have S0M:=S0J.trans SJM;have TP7:=TP.kp (Kp.same S0M);exact q r ll (.ref st) { s with t:={ s.t with lying:=s.t.lying++[(n:Int)] },pile:=[],word:=s.turn,passes:=0 } [("come",(n:Int),0)] _ H22 S0M f22 ⟨st,b3,co,.ref tb,[],rfl,S22 _ _ f21,⟨tb,v0,v1,v2,v3,v4,.ref t15,.ref b6,v7,v8,rfl,SJM _ _ f19,{ TP7 with p5:=⟨t15,rfl,SFM _ _ f13'⟩ }⟩,SKM _ _ f20',.nil,S0M _ _ eco⟩ (.come hp he hpc f0) (SAM _ _ f5) (.cons (l1.same SAM) .nil) hll0
theorem zosb {d:List Int}:cutV (iM d) none (some 1)=iM (d.take 1):=(zrn (iM d) 1).trans (by unfold iM;rw[ymo])
theorem zpsb {d:List Int}:cutV (iM d) (some 1) none=iM (d.drop 1):=(zxw (iM d) 1).trans (by unfold iM;rw[yno])
def plD (x:Nat×Nat):PyData:=.tuple [.str "card",.int (x.1:Int),.int (x.2:Int),.int 0]
theorem zbbc {K:yda}{H:Hp}{us:List V}{xs:List (Nat×Nat)}(z:All2 (PlT H) us xs):DVs K H us (xs.map plD):=by
 induction z with
 | nil=>exact .nil
 | cons h _ ih =>
  obtain⟨a,rfl,h⟩:=h;exact .cons (.tup (SqT.of h) (.cons (.str _) (.cons (.int _) (.cons (.int _) (.cons (.int _) .nil))))) ih
theorem zygb:yhc (.tuple [])=true:=by
 unfold yhc;rw[yec,yrb,ybe,yvb];rfl
theorem zjkb {xs:List (Nat×Nat)}(h:xs.length≤1):yhc (.tuple (xs.map plD))=true:=by
 cases xs with
 | nil=>exact zygb
 | cons x r =>
  cases r with
  | nil =>
   unfold yhc;simp[plD,yec,yrb,ybe,yvb];decide +kernel
  | cons y r=>simp at h
theorem zibb {xs:List (Nat×Nat)}:ypd (.tuple (xs.map plD)) (.tuple [])=decide (xs=[]):=by
 cases xs with
 | nil=>simp[ypd,yoe]
 | cons x r=>simp[ypd,yoe]
theorem zcu (T:Tx K mg):FnOk P w K mg base CX0 2 T.zkd.f T.zkd.d zyj zqgc:=by
 refine T.zkd.ok zib ?_;rintro f c A o s H vs Q E hr ⟨sv,np,nc,s,cs,rfl,ST,SS,hp,he,q⟩ X;obtain⟨a,pl,co,tv,us,rfl,ea,TT,epl,alp,eco⟩:=ST;obtain⟨ta,v0,v1,v2,v3,v4,v5,v6,v7,v8,rfl,eta,TP⟩:=TT;obtain⟨b4,u4,rfl,e4,al4⟩:=id TP.p4;obtain⟨b3,u3,rfl,e3,al3⟩:=id TP.p3;have TO:=SS.ti.ok;have np4:=TO.np4;have np2:=SS.np2;have l4:=al4.len;rw[yca,TO.hands] at l4;have l3:=al3.len;rw[yca,TO.decks] at l3;have cll:(iM s.coins).length=np:=by unfold iM;rw[yca,SS.coins]
 obtain⟨u,hu⟩:∃u,u=(s.turn+1) % np:=⟨_,rfl⟩;have un:u<np:=by rw[hu];exact yln _ (by omega)
 obtain⟨d,hd⟩:=getx (xs:=s.t.decks) (i:=u) (by rw[TO.decks];exact un);obtain⟨h,hh⟩:=getx (xs:=s.t.hands) (i:=u) (by rw[TO.hands];exact un);obtain⟨_,edv,db,rfl,edb⟩:=al3.get2 (b:=iM d) (by rw[yia,hd];rfl);obtain⟨_,ehv,hb,rfl,ehb⟩:=al4.get2 (b:=iM h) (by rw[yia,hh];rfl);have d16:=TO.ds d (ycb hd);have h16:=TO.hs h (ycb hh);have eu:((s.turn:Int)+1) % (((iM s.coins).length:Nat):Int)=(u:Int):=by
  rw[cll,hu];exact (yyo (s.turn+1) np).symm
 refine⟨_,  (zca (zsc (pv 0) (zmc (n:=7) rfl (zea (zda (i:=1) zib.nd rfl (.inl rfl)) (zea (zda (i:=2) zib.nd rfl (.inl rfl)) (zea (zda (i:=3) zib.nd rfl (.inl rfl)) (zea (zda (i:=4) zib.nd rfl (.inl rfl)) (zea (zda (i:=5) zib.nd rfl (.inl rfl)) (zea (zda (i:=6) zib.nd rfl (.inl rfl)) (zea (zda (i:=7) zib.nd rfl (.inl rfl)) zjb)))))))))
  (zca (zla (i:=3) zib.nd rfl (.inl rfl) (zgb zdh (zgb zue (pv 3) zia) (zab zwa rfl T.zuf ysb (zaa (pv 6) zba))))
  (zca (zla (i:=6) zib.nd rfl (.inl rfl) (zna zqc rfl T.zki ywh (zaa (pv 6) zba)))
  (zca (zsc zia (zydb (pv 6) (pv 3) set_list))
  (zca (zla (i:=8) zib.nd rfl (.inl rfl) (zna zqc rfl T.zki ywh (zaa (zva zcb (pv 1) zia (λ_ _=>rfl)) zba)))
  (zca (zla (i:=9) zib.nd rfl (.inl rfl) (zna zqc rfl T.zki ywh (zaa (zva zcb (pv 1) zia (λ_ _=>rfl)) zba)))
  (zca (zsc (zna zoa rfl T.zzb ymc (zaa (zab zui rfl T.zwg yhj (zaa (zgb zqhb (zva zad (pv 8) (pv 3) (λ_ _=>rfl)) (znc znv (zva zad (pv 9) (pv 3) (λ_ _=>rfl)) zod (znd zia))) zba)) zba)) (zydb (pv 8) (pv 3) set_list))
  (zca (zsc (znc znv (zva zad (pv 9) (pv 3) (λ_ _=>rfl)) (znd zia) zod) (zydb (pv 9) (pv 3) set_list))
  (zca (zla (i:=1) zib.nd rfl (.inl rfl) (zgb zzh (zgb zzh (znc zwk (pv 1) zod (znd zia)) (zra (zaa (zna zoa rfl T.zzb ymc (zaa (pv 9) zba)) (zaa (zna zoa rfl T.zzb ymc (zaa (pv 8) zba)) zba)))) (znc zwk (pv 1) (znd zia) zod)))
  (zca (zla (i:=10) zib.nd rfl (.inl rfl) (zdc (zaa (zra (zaa (zra (zaa zkb (zaa (zgb znm (zkab ziq zia) (pv 3)) (zaa zia zba)))) (zaa (zdc zba) (zaa (zra (zaa zkb (zaa (zgb znm (zkab ziq zia) (pv 3)) (zaa zia zba)))) zba)))) zba)))
  (zfa (zsa (zra (zaa (zra (zaa (pv 1) (zaa (pv 2) (zaa (pv 3) (zaa (pv 3) (zaa zia (zaa (zna zoa rfl T.zzb ymc (zaa (pv 6) zba)) (zaa zqh zba)))))))) (zaa (pv 10) zba))))))))))))))),?_⟩
 refine⟨_,rfl,a,_,rfl,SqT.of ea,rfl,_,_,rfl,_,_,rfl,_,_,rfl,_,_,rfl,_,_,rfl,_,_,rfl,_,_,rfl,rfl,?_⟩;refine zmv (σ':=[some (.ref a),some (.ref ta),some (.ref pl),some (.int (s.turn:Int)),some (.int (s.word:Int)),some (.int (s.passes:Int)),some (.ref co),some .non,none,none,none]) rfl ?_;refine⟨_,rfl,_,_,rfl,rfl,_,rfl,co,_,rfl,.inr (SqT.of eco),_,_,rfl,rfl,(by rw[cll];show (0:Int)<_;omega),?_⟩;dsimp only;rw[eu];refine⟨_,rfl,co,_,rfl,.inr (SqT.of eco),λcl hcl=>?_⟩;refine laid hcl λH1 S1 f1=>?_;refine⟨_,rfl,_,rfl,zrv f1 (by omega) λH2 B2 f2=>?_⟩;have S02:Same H H2:=λb o z=>B2 b o (zka z hcl) (S1 b o z);refine⟨_,rfl,ta,_,_,_,rfl,rfl,SqT.of (S02 _ _ eta),zpa (j:=4) rfl,b4,_,rfl,.inr (SqT.of (S02 _ _ e4)),λhl hhl=>?_⟩;refine laid hhl λH3 S3 f3=>?_;have S03:=S02.trans S3;refine⟨_,rfl,ta,_,_,_,rfl,rfl,SqT.of (S03 _ _ eta),zpa (j:=3) rfl,b3,_,rfl,.inr (SqT.of (S03 _ _ e3)),λdl hdl=>?_⟩;refine laid hdl λH4 S4 f4=>?_;have S04:=S03.trans S4;refine⟨_,rfl,_,rfl,hl,_,_,_,rfl,rfl,SqL.of (S4 _ _ f3),zpa ehv,_,rfl,_,rfl,dl,_,_,_,rfl,rfl,SqL.of f4,zpa edv,_,rfl,?_⟩;refine zvxb (ys:=iM (d.take 1)) (S04 _ _ edb) zosb λc5 H5 S5 f5=>?_;have S05:=S04.trans S5;refine zecc (S05 _ _ ehb) f5 (by unfold iM;rw[yca,yca,yza];omega) λc6 H6 S6 f6=>?_;have f6':H6 c6=some (.tup ((h++d.take 1).map V.int)):=by rw[f6];unfold iM;rw[ygb]
 refine⟨c6,_,rfl,.inr (SqT.of f6'),(by rw[ypa,yza];omega),λl7 hand hl7 pm so=>?_⟩;refine laid hl7 λH7 S7 f7=>?_;refine⟨l7,_,rfl,.inl ⟨SqL.of f7,λt8 ht8=>?_⟩⟩;refine laid ht8 λH8 S8 f8=>?_;have S48:=S5.trans (S6.trans (S7.trans S8));refine⟨_,rfl,_,rfl,zrv ((S4.trans S48) _ _ f3) (by omega) λH9 B9 f9=>?_⟩;have S29:Same H2 H9:=λb o z=>B9 b o (zka z hhl) ((S3.trans (S4.trans S48)) b o z);have S09:=S02.trans S29;have f89:=(B9.kpl ((S4.trans S48) _ _ f3)).t f8;have f49:H9 dl=_:=B9 _ _ (λz=>by rw[z,f3] at hdl;cases hdl) (S48 _ _ f4);refine⟨_,rfl,_,rfl,dl,_,_,_,rfl,rfl,SqL.of f49,zpa edv,_,rfl,?_⟩;dsimp only[zzob];refine zvxb (ys:=iM (d.drop 1)) (S09 _ _ edb) zpsb λc10 H10 S10 f10=>?_;refine⟨_,rfl,_,rfl,zrv (S10 _ _ f49) (by omega) λH11 B11 f11=>?_⟩;have nd:∀{b:Addr} {o:HO},H b=some o->b≠dl:=λz=>zka (S03 _ _ z) hdl;have S0B:Same H H11:=λb o z=>B11 b o (nd z) (S10 b o (S09 b o z));have kB:=B11.kpl (S10 _ _ f49);have g8:=kB.t (S10 _ _ f89);have g10:=kB.t f10;have g9:H11 hl=_:=B11 _ _ (λz=>by rw[← z,f3] at hdl;cases hdl) (S10 _ _ f9);have g2:H11 cl=_:=B11 _ _ (λz=>by rw[← z,S3 _ _ f2] at hdl;cases hdl) (S10 _ _ (S29 _ _ f2));refine⟨_,rfl,_,rfl,ta,_,rfl,SqT.of (S0B _ _ eta),(λz=>absurd z.2 (by show ¬ HT.sIx 9 9 (some 3)=9;decide)),λc1 hc1=>?_⟩;refine laid hc1 λH12 S12 f12=>?_;have f12':H12 c1=some (.tup [v0,v1,v2]):=f12;refine⟨_,rfl,dl,_,rfl,.inl ⟨SqL.of (S12 _ _ f11),λt13 ht13=>?_⟩⟩;refine laid ht13 λH13 S13 f13=>?_;refine⟨_,rfl,hl,_,rfl,.inl ⟨SqL.of ((S12.trans S13) _ _ g9),λt14 ht14=>?_⟩⟩;refine laid ht14 λH14 S14 f14=>?_;refine⟨sz2,λt15 ht15=>?_⟩;refine laid ht15 λH15 S15 f15=>?_;have SCF:=S13.trans (S14.trans S15);refine zzl (SCF _ _ f12') f15 (by simp) (by show 3+2≤1000;decide) λc2 H16 S16 f16=>?_;have SBG:=S12.trans (SCF.trans S16);have S0G:=S0B.trans SBG;refine⟨_,rfl,_,rfl,ta,_,rfl,SqT.of (S0G _ _ eta),(λz=>absurd z.1 (by show ¬ HT.sIx 9 0 (some 5)=0;decide)),λc3 hc3=>?_⟩;refine laid hc3 λH17 S17 f17=>?_;have f17':H17 c3=some (.tup [v5,v6,v7,v8]):=f17;refine zzl (S17 _ _ f16) f17' (by simp) (by show 5+4≤1000;decide) λtb H18 S18 f18=>?_;have SBI:=SBG.trans (S17.trans S18);refine⟨_,rfl,_,rfl,_,_,rfl,rfl,sz3,λh1 hh1=>?_⟩;refine laid hh1 λH19 S19 f19=>?_;refine⟨sz0,λtr htr=>?_⟩;refine laid htr λH20 S20 f20=>?_;refine⟨_,rfl,_,rfl,_,_,rfl,rfl,sz3,λh3 hh3=>?_⟩;refine laid hh3 λH21 S21 f21=>?_;refine⟨sz3,λt4 ht4=>?_⟩;refine laid ht4 λH22 S22 f22=>?_;refine⟨sz1,λll hll=>?_⟩;refine laid hll λH23 S23 f23=>?_;have SLN:=S22.trans S23;have SKN:=S21.trans SLN;have SJN:=S20.trans SKN;have SIN:=S19.trans SJN;have S0I:=S0B.trans SBI;have l1:LgF H H23 (.ref t4) ("draw",-1-(u:Int),1):=⟨t4,h1,tr,h3,rfl,S23 _ _ f22,SJN _ _ f19,SKN _ _ f20,SLN _ _ f21,none_of (S0I.trans S19) htr⟩;have SBN:=SBI.trans SIN;refine⟨_,rfl,_,rfl,_,rfl,_,rfl,_,rfl,cl,_,rfl,.inl ⟨SqL.of (SBN _ _ g2),λt24 ht24=>?_⟩⟩;refine laid ht24 λH24 S24 f24=>?_;refine⟨sz7,λst hst=>?_⟩;refine laid hst λH25 S25 f25=>?_;refine⟨_,rfl,sz2,λr hr'=>?_⟩;refine laid hr' λH26 S26 f26=>?_;have SOQ:=S25.trans S26;have SNQ:=S24.trans SOQ;have SIQ:=SIN.trans SNQ;have SBQ:=SBN.trans SNQ;have S0Q:=S0B.trans SBQ;have SDQ:=S14.trans (S15.trans (S16.trans (S17.trans (S18.trans SIQ))));have SEQ:=S15.trans (S16.trans (S17.trans (S18.trans SIQ)));have kp:=Kp.same S0Q;have TP7:=TP.kp kp;have lr:LetR np cs s _ _:=.turn (cs:=cs) (hand:=hand) hp he (by rw[← hu];exact hd) (by rw[← hu];exact hh) pm so;rw[← hu] at lr;refine q r ll (.ref st) { s with t:={ s.t with hands:=s.t.hands.set u hand,decks:=s.t.decks.set u (d.drop 1) },turn:=u,word:=u,passes:=0,coins:=s.coins.set u 5 } _ _ H26 S0Q f26 ⟨st,pl,t24,.ref tb,us,rfl,S26 _ _ f25,⟨tb,v0,v1,v2,.ref t13,.ref t14,v5,v6,v7,v8,rfl,SIQ _ _ f18,{ TP7 with p3:=⟨t13,_,rfl,SDQ _ _ f13,?_⟩,p4:=⟨t14,_,rfl,SEQ _ _ f14,?_⟩ }⟩,S0Q _ _ epl,alp.imp λz=>z.kp kp,?_⟩ lr (SNQ _ _ f23) (.cons (l1.same SNQ) .nil) (none_of (S0I.trans (S19.trans (S20.trans (S21.trans S22)))) hll)
 ·show All2 (T1 H26) _ ((s.t.decks.set u (d.drop 1)).map iM);rw[yge];exact (al3.imp λz=>z.kp kp).set ⟨c10,rfl,SBQ _ _ g10⟩ _
 ·show All2 (T1 H26) _ ((s.t.hands.set u hand).map iM);rw[yge];exact (al4.imp λz=>z.kp kp).set ⟨t8,rfl,SBQ _ _ g8⟩ _
 ·rw[SOQ _ _ f24];show some (HO.tup ((iM s.coins).set u (V.int 5)))=some (HO.tup (iM (s.coins.set u 5)))
  unfold iM;rw[yge]
theorem zuhb (T:Tx K mg):FnOk P w K mg base CX0 3 T.zuh.f T.zuh.d zws zodc:=by
 refine T.zuh.ok zif ?_;rintro f c A o s H vs Q E hr ⟨sv,hd,np,nc,s,dss,rfl,ST,HS,SS,hc,q⟩ X;obtain⟨a,pl,co,tv,us,rfl,ea,TT,epl,alp,eco⟩:=id ST;have cll:(iM s.coins).length=np:=by unfold iM;rw[yca,SS.coins]
 have np2:=SS.np2;refine⟨_,  (zca (zsc (pv 0) (zmc (n:=7) rfl (zea (zda (i:=2) zif.nd rfl (.inl rfl)) (zea (zda (i:=3) zif.nd rfl (.inl rfl)) (zea (zda (i:=4) zif.nd rfl (.inl rfl)) (zea (zda (i:=5) zif.nd rfl (.inl rfl)) (zea (zda (i:=6) zif.nd rfl (.inl rfl)) (zea (zda (i:=7) zif.nd rfl (.inl rfl)) (zea (zda (i:=8) zif.nd rfl (.inl rfl)) zjb)))))))))
  (zca (zrc (zxa zpqb (zgb zue (pv 6) zia) (zab zwa rfl T.zuf ysb (zaa (pv 7) zba)) (zfb _))
   (zfa (zsa (zra (zaa (zra (zaa (pv 2) (zaa (pv 3) (zaa (pv 4) (zaa (zgb zdh (zgb zue (pv 5) zia) (zab zwa rfl T.zuf ysb (zaa (pv 7) zba))) (zaa (zgb zue (pv 6) zia) (zaa (pv 7) (zaa (pv 8) zba)))))))) (zaa (zdc zba) zba)))))
   zeb)
  (zca (zrc (zxa (zgyb hr.units) (pv 3) (zra zba) (zfb _))
   (zfa (zsa (zja (zcu T) hr rfl T.zkd.m T.zkd.F.kp (zfx T) .nil zqa (zaa (pv 0) zba))))
   zeb)
  (zfa (zsa (zja (zjeb T) hr rfl T.zjg.m T.zjg.F.kp (zajb T) .nil zqa (zaa (pv 0) (zaa (pv 1) zba)))))))),?_⟩
 refine⟨_,rfl,a,_,rfl,SqT.of ea,rfl,_,_,rfl,_,_,rfl,_,_,rfl,_,_,rfl,_,_,rfl,_,_,rfl,_,_,rfl,rfl,?_⟩;refine zmv (σ':=[some (.ref a),some (.ref hd),some tv,some (.ref pl),some (.int (s.turn:Int)),some (.int (s.word:Int)),some (.int (s.passes:Int)),some (.ref co),some .non]) rfl ?_;refine⟨_,rfl,_,_,rfl,rfl,_,rfl,co,_,rfl,.inr (SqT.of eco),_,_,rfl,rfl,_,rfl,ite2 (λc=>?_) (λc=>?_)⟩
 ·have c':s.passes+1<np:=by
   have:=of_decide_eq_true c;rw[cll] at this;omega
  have eu:((s.word:Int)+1) % (((iM s.coins).length:Nat):Int)=(((s.word+1) % np:Nat):Int):=by
   rw[cll];exact (yyo (s.word+1) np).symm
  refine⟨_,rfl,_,rfl,_,rfl,_,rfl,_,_,rfl,rfl,_,rfl,co,_,rfl,.inr (SqT.of eco),_,_,rfl,rfl,(by rw[cll];show (0:Int)<_;omega),?_⟩;dsimp only;rw[eu];refine⟨_,rfl,_,_,rfl,rfl,_,rfl,_,rfl,sz7,λst hst=>?_⟩;refine laid hst λH1 S1 f1=>?_;refine⟨sz0,λll hll=>?_⟩;refine laid hll λH2 S2 f2=>?_;refine⟨sz2,λr hr'=>?_⟩;refine laid hr' λH3 S3 f3=>?_;have S13:=S2.trans S3;have S03:=S1.trans S13;have kp:=Kp.same S03;exact q r ll (.ref st) { s with word:=(s.word+1) % np,passes:=s.passes+1 } [] [] H3 S03 f3 ⟨st,pl,co,tv,us,rfl,S13 _ _ f1,TT.kp kp,S03 _ _ epl,alp.imp λz=>z.kp kp,S03 _ _ eco⟩ (.pass c') (S3 _ _ f2) .nil (none_of S1 hll)
 have hp:¬ s.passes+1<np:=λz=>c (decide_eq_true (by rw[cll];omega));refine⟨_,rfl,sz0,λe0 he0=>?_⟩;refine laid he0 λH1 S1 f1=>?_;refine⟨.tuple (s.pile.map plD),.tuple [],.tup (SqT.of (S1 _ _ epl)) (zbbc (alp.imp λz=>z.kp (Kp.same S1))),.tup (SqT.of f1) .nil,zjkb SS.pile,zygb,_,rfl,ite2 (λc2=>?_) (λc2=>?_)⟩
 ·have he:s.pile=[]:=by
   have c2':ypd (.tuple (s.pile.map plD)) (.tuple [])=true:=c2;rw[zibb] at c2';exact of_decide_eq_true c2'
  exact⟨_,rfl,.ref a,np,nc,s,pcF dss,rfl,ST.kp (Kp.same S1),SS,hp,he,λr ll v' s' lg us' H' S' a1 a2 a3 a4 a5 a6=>q r ll v' s' lg us' H' (S1.trans S') a1 a2 a3 a4 (a5.imp λz=>z.bas (grow S1)) (none_of S1 a6)⟩
 ·have he:s.pile≠[]:=λz=>c2 (by
   show ypd (.tuple (s.pile.map plD)) (.tuple [])=true
   rw[zibb];exact decide_eq_true z)
  exact⟨_,rfl,_,rfl,.ref a,hd,np,nc,s,dss,rfl,ST.kp (Kp.same S1),HS.same S1,SS,hc,hp,he,λr ll v' s' lg us' H' S' a1 a2 a3 a4 a5 a6=>q r ll v' s' lg us' H' (S1.trans S') a1 a2 a3 a4 (a5.imp λz=>z.bas (grow S1)) (none_of S1 a6)⟩
def canF (ks:List Nat)(c x:Int):Bool:=decide (((ks.getD x.toNat 0:Nat):Int)≤c)
def zqdc:Sp:=λvs H Q _=>Ex6 λsv hd (np nc:Nat) (s:Sd) (dss:List (List Crd))=>vs=[sv,.ref hd]∧StT H sv s∧HdS H hd dss.flatten∧SI np nc (pcF dss) s∧(pcF dss).length=nc∧∀l (ns:List Int) H',Same H H'->H' l=some (.lst (iM ns))->ns.length≤16->(∀x∈ns,∃n:Nat,x=(n:Int)∧MayP (coF dss) s n)->Q (.ref l) H'
def zwgc:Sp:=λvs H Q _=>Ex3 λdl ds (dss:List (List Crd))=>vs=[.ref dl]∧H dl=some (.lst ds)∧All2 (DkN H) ds dss∧dss.length≤4∧∀hd H',Same H H'->HdS H' hd dss.flatten->Q (.ref hd) H'
theorem zvhb (T:Tx K mg):FnOk P w K mg base CX0 2 T.zvh.f T.zvh.d zxs zqdc:=by
 refine T.zvh.ok zjf ?_;rintro f c A o s H vs Q E hr ⟨sv,hd,np,nc,s,dss,rfl,ST,⟨hus,ehd,alh⟩,SS,hc,q⟩ X;obtain⟨a,pl,co,tv,us,rfl,ea,TT,epl,alp,eco⟩:=ST;obtain⟨ta,v0,v1,v2,v3,v4,v5,v6,v7,v8,rfl,eta,TP⟩:=TT;obtain⟨b4,u4,rfl,e4,al4⟩:=id TP.p4;have TO:=SS.ti.ok;have wl:=SS.word;obtain⟨h,hh⟩:=getx (xs:=s.t.hands) (i:=s.word) (by rw[TO.hands];exact wl);obtain⟨c,hcc⟩:=getx (xs:=s.coins) (i:=s.word) (by rw[SS.coins];exact wl);obtain⟨_,ehv,hb,rfl,ehb⟩:=al4.get2 (b:=iM h) (by rw[yia,hh];rfl);have h16:=TO.hs h (ycb hh);refine⟨_,  (zca (zsc (pv 0) (zmc (n:=7) rfl (zea (zda (i:=2) zjf.nd rfl (.inl rfl)) (zea (zda (i:=3) zjf.nd rfl (.inl rfl)) (zea (zda (i:=4) zjf.nd rfl (.inl rfl)) (zea (zda (i:=5) zjf.nd rfl (.inr rfl)) (zea (zda (i:=6) zjf.nd rfl (.inl rfl)) (zea (zda (i:=7) zjf.nd rfl (.inr rfl)) (zea (zda (i:=8) zjf.nd rfl (.inl rfl)) zjb)))))))))
  (zca (zrc (PW.pt (zfqb (zxa zphb (pv 4) (pv 5) (zfb _)) (zzkb (zxa (zvq hr.units) (pv 3) (zra zba) (zfb _)))))
   (zfa (zsa (zdc zba)))
   zeb)
  (zfa (zsa (zec (own:=["_law_number_here"]) (cap:=["_law_coins","_law_word","_law_heads_here"]) rfl (zya.chk rfl rfl) (.cons (j:=7) rfl (.inl rfl) (.inl rfl) (.cons (j:=5) rfl (.inl rfl) (.inl rfl) (.cons (j:=1) rfl (.inl rfl) (.inl rfl) .nil))) (zdw (zva zcb (zva zcb (pv 2) zia (λ_ _=>rfl)) (pv 5) (λ_ _=>rfl))) (λ_ _ _ _=>(zda (i:=0) (show yhb (["_law_number_here","_law_coins","_law_word","_law_heads_here"]:List Str) by decide +kernel) rfl (.inl rfl))) (λ_ _ _ _=>zah (zxa zoab (zva (zid K) (zva (zjr K) (pv 3) (pv 0) (λ_ _=>rfl)) zia (λ_ _=>rfl)) (zva (zid K) (pv 1) (pv 2) (λ_ _=>rfl)) (zfb _))) (λ_ _ _ _=>by exact (pv 0))))))),?_⟩
 refine⟨_,rfl,a,_,rfl,SqT.of ea,rfl,_,_,rfl,_,_,rfl,_,_,rfl,_,_,rfl,_,_,rfl,_,_,rfl,_,_,rfl,rfl,?_⟩;refine zmv (σ':=[some (.ref a),some (.ref hd),some (.ref ta),some (.ref pl),some (.int (s.turn:Int)),some (.int (s.word:Int)),some (.int (s.passes:Int)),some (.ref co),some .non]) rfl ?_;refine⟨_,rfl,_,rfl,rfl,_,rfl,ite2 (λc1=>?_) (λc1=>?_)⟩
 ·refine iteT ⟨sz0,λl hl=>?_⟩;exact laid hl λH1 S1 f1=>q l [] H1 S1 f1 (ywa _) (λx hx=>nomatch hx)
 have tw:s.turn=s.word:=by
  have c1':¬ (!decide (V.int (s.turn:Int)=V.int (s.word:Int)))=true:=c1;simp at c1';omega
 refine⟨_,rfl,sz0,λe0 he0=>?_⟩;refine laid he0 λH1 S1 f1=>?_;refine⟨.tuple (s.pile.map plD),.tuple [],.tup (SqT.of (S1 _ _ epl)) (zbbc (alp.imp λz=>z.kp (Kp.same S1))),.tup (SqT.of f1) .nil,zjkb SS.pile,zygb,_,rfl,ite2 (λc2=>?_) (λc2=>?_)⟩
 ·refine⟨sz0,λl hl=>?_⟩;exact laid hl λH2 S2 f2=>q l [] H2 (S1.trans S2) f2 (ywa _) (λx hx=>nomatch hx)
 have he:s.pile=[]:=by
  have c2':¬ (!PyData.eqv (.tuple (s.pile.map plD)) (.tuple []))=true:=c2;rw[zibb] at c2'
  simpa using c2'
 have ehb1:=S1 _ _ ehb;refine⟨_,rfl,ta,_,_,_,rfl,rfl,SqT.of (S1 _ _ eta),zpa (j:=4) rfl,_,rfl,b4,_,_,_,rfl,rfl,SqT.of (S1 _ _ e4),zpa ehv,hb,rfl,⟨_,SqT.of ehb1⟩,?_⟩;have hk:∀x∈h,Ex2 λ(n:Nat) (cr:Crd)=>x=(n:Int)∧dss.flatten[n]?=some cr:=λx hx=>by
  have sH:h.Sublist (cells s):=(zllb hh).trans ((yzf _ _).trans (yve _ _));obtain⟨x0,x1⟩:=SS.rg x (sH.subset hx);obtain⟨n,rfl⟩:∃n:Nat,x=(n:Int):=⟨x.toNat,by omega⟩;obtain⟨cr,hcr⟩:=getx (xs:=dss.flatten) (i:=n) (by unfold pcF at hc;rw[yca] at hc;omega);exact⟨n,cr,rfl,hcr⟩
 refine zyl (xs:=iM h) (λi ys H'=>H1=H'∧ys=iM ((h.take i).filter (canF (coF dss) c))) (λi ys H' z=>by rw[← z.1];exact SqT.of ehb1) ⟨rfl,rfl⟩ ?_ ?_ ?_
 ·rintro i ys H' ⟨_,rfl⟩;unfold iM;rw[yca];have h1:=yqc (canF (coF dss) c) (h.take i);rw[yza] at h1;exact small (by omega)
 ·rintro i v ys H' hv ⟨rfl,rfl⟩;unfold iM at hv;rw[yia] at hv;obtain⟨x,hx,rfl⟩:=ygc.mp hv;obtain⟨n,cr,rfl,hcr⟩:=hk x (ycb hx);obtain⟨_,ehn,hc',hm,rfl,ehc,_⟩:=alh.get2 hcr;have ec:canF (coF dss) c (n:Int)=decide ((cr.cost:Int)≤c):=by
   unfold canF coF;rw[yeb,yua,yia,hcr];rfl
  rw[ydb,hx,yub,yjf];refine⟨rfl,_,rfl,_,rfl,hd,_,_,_,rfl,rfl,SqL.of (S1 _ _ ehd),zpa ehn,hc',_,_,_,rfl,rfl,SqT.of (S1 _ _ ehc),zpa (j:=0) rfl,_,rfl,_,rfl,co,_,_,_,rfl,rfl,SqT.of (S1 _ _ eco),zbj hcc,_,_,rfl,rfl,_,rfl,ite2 (λd=>?_) (λd=>?_)⟩
  ·refine⟨_,rfl,rfl,?_⟩;rw[ywd (by rw[ec];exact d)];unfold iM;rw[ygb];rfl
  ·refine⟨rfl,?_⟩;rw[yxd (by rw[ec];exact d)];simp
 rintro ys H2 ⟨rfl,rfl⟩ l2 hl2;rw[show (h.take (iM h).length)=h by
  unfold iM;rw[yca,yyd]]
 refine laid hl2 λH2 S2 f2=>?_;refine q l2 (h.filter (canF (coF dss) c)) H2 (S1.trans S2) f2 (yob (yqc _ _) h16) λx hx=>?_;obtain⟨x1,x2⟩:=yjd.mp hx;obtain⟨n,cr,rfl,hcr⟩:=hk x x1;have ek:(coF dss)[n]?=some cr.cost:=by unfold coF;rw[yia,hcr];rfl
 refine⟨n,rfl,tw,he,⟨h,hh,x1⟩,⟨cr.cost,c,ek,hcc,?_⟩⟩;have:=of_decide_eq_true x2;rw[yeb,yua,ek] at this;exact this
theorem zsab (T:Tx K mg):FnOk P w K mg base CX0 2 T.zbf.f T.zbf.d zbo zwgc:=by
 refine T.zbf.ok zpe ?_;rintro f c A o s H vs Q E hr ⟨dl,ds,dss,rfl,ed,al,d4,q⟩ X;have dl':=al.len;have dz:∀cs∈dss,cs.length≤4:=λcs hc=>by
  obtain⟨v,_,⟨d,_,_,h2,_⟩⟩:=al.mem2 hc;exact h2
 have fl:=zebb dz;refine⟨_,  (zca (zla (i:=1) zpe.nd rfl (.inl rfl) (zdc zba))
  (zca (zbh yyb rfl (zcc (pv 0)) (zda (i:=2) zpe.nd rfl (.inl rfl))
   (zfa (zbh yyb rfl (zcc (pv 2)) (zda (i:=3) zpe.nd rfl (.inl rfl))
    (zca (zla (i:=4) zpe.nd rfl (.inl rfl) (zog yre yqg yrg zdr (pv 3) (zaa zkb zba)))
    (zca (zla (i:=5) zpe.nd rfl (.inl rfl) (zra zba))
    (zca (zrc (zxa zphb (zva zad (pv 4) zia (λ_ _=>rfl)) zkb (zfb _))
     (zfa (zla (i:=5) zpe.nd rfl (.inl rfl) (zna zoa rfl T.zzb ymc (zaa (zog yre yqg yrg zdr (zva zad (pv 4) zia (λ_ _=>rfl)) (zaa zkb zba)) zba))))
     zeb)
    (zfa (zjc (zog yya ypb yqb zed (pv 1) (zaa (zra (zaa (zna zam rfl T.ztz yor (zaa (zva zad (pv 4) zia (λ_ _=>rfl)) zba)) (zaa (zna zam rfl T.ztz yor (zaa (zva zad (pv 4) zia (λ_ _=>rfl)) zba)) (zaa (pv 5) zba)))) zba))))))))))
  (zfa (zsa (pv 1))))),?_⟩
 refine⟨sz0,λhd hhd=>?_⟩;refine laid hhd λH1 S1 e1=>?_;refine⟨_,rfl,dl,rfl,⟨_,SqL.of (S1 _ _ ed)⟩,?_⟩;refine zgh (xs:=ds) (λi σ Hx=>Ex5 λus o2 o3 o4 o5=>σ=[some (.ref dl),some (.ref hd),o2,o3,o4,o5]∧Same H Hx∧Hx hd=some (.lst us)∧All2 (HdT Hx) us (dss.take i).flatten) ⟨[],_,_,_,_,rfl,S1,e1,.nil⟩ (λi σ Hx _ ⟨_,_,_,_,_,_,S,_⟩=>SqL.of (S _ _ ed)) ?_ ?_
 ·rintro i v σ Hx hv ⟨us,o2,o3,o4,o5,rfl,S,eh,ah⟩;obtain⟨cs,hcs,d,rfl,edk,c4,cok⟩:=al.get hv;have fi:=zkv (dss:=dss) i;refine⟨_,rfl,d,rfl,⟨_,SqL.of (S _ _ edk)⟩,?_⟩;refine zgh (xs:=cs.map λc=>V.str c.text) (λj σ Hy=>Ex4 λus o3 o4 o5=>σ=[some (.ref dl),some (.ref hd),some (.ref d),o3,o4,o5]∧Same H Hy∧Hy hd=some (.lst us)∧All2 (HdT Hy) us ((dss.take i).flatten++cs.take j)∧j≤cs.length) ⟨us,_,_,_,rfl,S,eh,by rw[ysq,ypc];exact ah,ywa _⟩ (λj σ Hy _ ⟨_,_,_,_,_,S,_⟩=>SqL.of (S _ _ edk)) ?_ ?_
  ·rintro j v σ Hy hv ⟨us,o3,o4,o5,rfl,S,eh,ah,_⟩;rw[yia] at hv;obtain⟨c,hc,rfl⟩:=ygc.mp hv;have hj:j<cs.length:=(yha.mp hc).1;obtain⟨ok,nr⟩:=cok c (ycb hc);have tl:=zakb ok nr;have et:yvf c.text " " = c.head:=by
    have z:c.text=yrc " " c.head:=by unfold Crd.text;rw[nr];rfl
    rw[z];exact Crd.zjz ok
   refine⟨_,rfl,rfl,_,_,rfl,rfl,(by decide +kernel),(yob (ylh tl 2) (by decide)),λwl hwl=>?_⟩;rw[et];refine laid hwl λH2 S2 e2=>?_;refine⟨sz0,λm0 hm0=>?_⟩;refine laid hm0 λH3 S3 e3=>?_;have e23:=S3 _ _ e2;have mok:=ok.marks;refine⟨_,rfl,wl,_,_,_,rfl,rfl,SqL.of e23,zpa (j:=3) rfl,rfl,_,rfl,?_⟩;refine' zjv (pre:=λv Hs=>∃m,v = .ref m∧Same H3 Hs∧Hs m=some (.tup (c.marks.map V.str))) (λkk=>?g1) ?k1
   case g1 =>
    refine ite2 (λz=>?a) (λz=>?b)
    case a =>
     have hne:c.marks≠[]:=λy=>by
      have z':(!decide (V.str (zeh c.marks)=V.str "-"))=true:=z;rw[y] at z';have:zeh ([]:List Str) = "-":=rfl;rw[this] at z';simp at z'
     have ml:=zcl mok;refine⟨_,rfl,wl,_,_,_,rfl,rfl,SqL.of e23,zpa (j:=3) rfl,rfl,_,_,rfl,rfl,(by decide +kernel),(yob (ylh ml.2 2) (by decide)),λl4 hl4=>?_⟩;refine laid hl4 λH4 S4 e40=>?_;have es:yvf (zeh c.marks) "," = c.marks:=zkw mok hne;have e4:H4 l4=some (.lst ((yvf (zeh c.marks) ",").map V.str)):=e40;rw[es] at e4;refine⟨l4,_,rfl,.inl ⟨SqL.of e4,λm hm=>?_⟩⟩;refine laid hm λH5 S5 e5=>?_;obtain⟨v4,hv4⟩:∃x,x=V.ref m:=⟨_,rfl⟩;rw[← hv4];exact kk v4 H5 ⟨m,hv4,S4.trans S5,e5⟩
    case b =>
     have he:c.marks=[]:=by
      cases hz:c.marks with
      | nil=>rfl
      | cons x r =>
       exfalso;refine z ?_;show (!decide (V.str (zeh c.marks)=V.str "-"))=true
       rw[decide_eq_false]
       ·rfl
       ·intro y;injection y with y
        exact zteb mok (by rw[hz];simp) y
     obtain⟨Hz,hz'⟩:∃h,h=H3:=⟨_,rfl⟩;rw[← hz'];exact kk (.ref m0) Hz ⟨m0,rfl,by rw[hz'];exact Same.refl _,by rw[hz',e3,he];rfl⟩
   case k1 =>
   rintro _ H4 ⟨m,rfl,S4,e4⟩;have S24:=S3.trans S4;have S14:=S2.trans S24;have e24:=S24 _ _ e2;refine⟨_,rfl,.inl ⟨rfl,_,SqL.of (S14 _ _ eh)⟩,_,rfl,wl,_,_,_,rfl,rfl,SqL.of e24,zpa (j:=1) rfl,_,_,rfl,zwhb c.cost ok.cost,(by have:=(zcr ok.cost).2.2;omega),_,rfl,wl,_,_,_,rfl,rfl,SqL.of e24,zpa (j:=2) rfl,_,_,rfl,zwhb c.force ok.force,(by have:=(zcr ok.force).2.2;omega),_,rfl,sz3,λt5 ht5=>?_⟩;refine laid ht5 λH5 S5 e5=>?_;have S15:=S14.trans S5;have ul:=ah.len;rw[ypa,yza] at ul;refine⟨hd,_,_,rfl,rfl,S15 _ _ eh,zvf (by omega),?_⟩;have kp:Kp H5 (upd H5 hd (.lst (us++[.ref t5]))):=Kp.put (S15 _ _ eh);refine⟨us++[.ref t5],_,_,_,rfl,zve (S.trans S15) hhd _,zta,?_,hj⟩;rw[ydb,hc,yub,← ywb];exact All2.snoc ⟨t5,m,rfl,kp.t e5,kp.t (S5 _ _ e4)⟩ (ah.imp λz=>z.kp ((Kp.same S15).trans kp))
  ·rintro σ Hy ⟨us,o3,o4,o5,rfl,S,eh,ah,_⟩;rw[yca,yyd] at ah;refine⟨us,_,_,_,_,rfl,S,eh,?_⟩;rw[ydb,hcs,yub,yjj,yme,yzs,ypc];exact ah
 ·rintro σ Hx ⟨us,o2,o3,o4,o5,rfl,S,eh,ah⟩;rw[dl',yra (yga _)] at ah;exact⟨_,rfl,q hd Hx S ⟨us,eh,ah⟩⟩
theorem zuvb (A B:List Int)(p:Int):∀i,i≤B.length->nums (A++B) p (A.length+i)=nums A p A.length++(nums B p i).map λz=>(A.length:Int)+z:=by
 intro i
 induction i with
 | zero =>
  intro _;have e:∀k,k≤A.length->nums (A++B) p k=nums A p k:=by
   intro k
   induction k with
   | zero=>intro _;rfl
   | succ k ih =>
    intro h;rw[zuj,zuj,ih (by omega),ydh (by omega)]
  rw[Nat.add_zero,e _ (yga _)];exact (ypc _).symm
 | succ i ih =>
  intro h;rw[← Nat.add_assoc,zuj,ih (by omega),zuj,ygb,← ywb,ytd (by omega),yxj]
  congr 1
  by_cases c:B[i]?=some p
  ·rw[if_pos c,if_pos c,ytb,yxh,Int.natCast_add]
  ·rw[if_neg c,if_neg c];rfl
theorem ztvb (x p:Int)(n:Nat):∀i,i≤n->nums (yna n x) p i=if x=p then (yxb i).map (λk:Nat=>(k:Int)) else []:=by
 intro i
 induction i with
 | zero=>intro _;split<;>rfl
 | succ i ih =>
  intro h;rw[zuj,ih (by omega),ytc,if_pos (show i<n by omega)]
  by_cases c:x=p
  ·rw[if_pos c,if_pos c,if_pos (by rw[c]),yog,ygb];rfl
  ·rw[if_neg c,if_neg c,if_neg (λz=>c (yoc z))];rfl
def sg (dss:List (List Crd))(p:Nat):List Int:=(yxb (dss.getD p []).length).map λk:Nat=>((ownN dss p).length:Int)+(k:Int)
def ownI (dss:List (List Crd))(m:Nat):List Int:=(ownN dss m).map λo=>((o:Nat):Int)
theorem zpvb (dss:List (List Crd))(m:Nat):(ownI dss m).length=(ownN dss m).length:=yca _
theorem znqb (dss:List (List Crd))(m:Nat):ownI dss (m+1)=ownI dss m++yna (dss.getD m []).length (m:Int):=by
 unfold ownI;rw[zcn,ygb,yce]
theorem zflb (dss:List (List Crd))(p:Nat):∀m,nums (ownI dss m) (p:Int) (ownI dss m).length=if p<m then sg dss p else []:=by
 intro m
 induction m with
 | zero=>rw[if_neg (Nat.not_lt_zero _)];rfl
 | succ m ih =>
  rw[znqb,ypa,zuvb _ _ _ _ (yga _),ih,yib,ztvb _ _ _ _ (yga _)]
  by_cases c:(m:Int)=(p:Int)
  ·have e:m=p:=by omega
   subst e;rw[if_neg (yje _),if_pos rfl,if_pos (ymf _),yee,zpvb];rfl
  ·rw[if_neg c]
   by_cases d:p<m
   ·rw[if_pos d,if_pos (by omega)];exact ypc _
   ·rw[if_neg d,if_neg (by omega)];rfl
theorem zoac (dss:List (List Crd)):∀m,(yxb m).flatMap (sg dss)=(yxb (ownN dss m).length).map λk:Nat=>(k:Int):=by
 intro m
 induction m with
 | zero=>rfl
 | succ m ih =>
  rw[yog,ybr,ih,zcn,ypa,yib,List.range_add,ygb,yee]
  congr 1
  rw[List.flatMap_singleton];unfold sg;refine yqf λk _=>?_;show _=(((ownN dss m).length+k:Nat):Int)
  omega
theorem ziub (f:Nat->List Int)(xs:List Nat):((xs.map λp=>(f p).drop 3).flatten++(xs.map λp=>(f p).take 3).flatten).Perm (xs.flatMap f):=by
 induction xs with
 | nil=>exact .refl _
 | cons x r ih =>
  rw[ytb,ytb,yme,yme,List.flatMap_cons];refine ysj.trans ?_ (show (((f x).take 3++(f x).drop 3)++r.flatMap f).Perm (f x++r.flatMap f) by rw[ypi]);refine ysj.trans ?_ (ydf _ ih);generalize (f x).drop 3=a;generalize (f x).take 3=b;generalize (r.map λp=>(f p).drop 3).flatten=c;generalize (r.map λp=>(f p).take 3).flatten=d;have e1:(a++c++(b++d)).Perm (b++(a++c)++d):=by
   rw[← ywb];exact ybh.append_right _
  refine e1.trans ?_;rw[← ywb,← ywb]
def sd0 (dss:List (List Crd)):Sd:=⟨tab0 ((ownN dss dss.length).map λo=>((o:Nat):Int)) dss.length ((pcF dss).map (·.marks)),[],0,0,0,zxnb dss.length⟩
theorem zudc (dss:List (List Crd)):(sd0 dss).t.decks=(yxb dss.length).map λp:Nat=>(sg dss p).drop 3:=yqf λp hp=>by
 have z:=zflb dss p dss.length;rw[if_pos (ych.mp hp)] at z;exact congrArg (List.drop 3) z
theorem ztdc (dss:List (List Crd)):(sd0 dss).t.hands=(yxb dss.length).map λp:Nat=>(sg dss p).take 3:=yqf λp hp=>by
 have z:=zflb dss p dss.length;rw[if_pos (ych.mp hp)] at z;exact congrArg (List.take 3) z
theorem zsdc {dss:List (List Crd)}(d2:2≤dss.length)(d4:dss.length≤4)(hc:∀cs∈dss,cs.length≤4)(hk:∀cs∈dss,∀c∈cs,c.ok):SI dss.length (pcF dss).length (pcF dss) (sd0 dss):=by
 have fl:=zebb hc;have ol:=zou (dss:=dss) dss.length (yga _);rw[yra (yga _)] at ol;have pl:(pcF dss).length=dss.flatten.length:=yca _;have cml:((pcF dss).map (·.marks)).length=(pcF dss).length:=yca _;have nm:∀m∈(pcF dss).map (·.marks),m.length≤40∧∀s∈m,zce s:=λm hm=>by
  obtain⟨c0,hc0,rfl⟩:=yfc.mp hm;obtain⟨c,hcc,rfl⟩:=yfc.mp hc0;obtain⟨cs,hcs,hx⟩:=yat.mp hcc;have ok:=(hk cs hcs c hx).marks;exact⟨yob ok.le (by decide),ok.ok⟩
 have TO:=zyob (os:=(ownN dss dss.length).map λo=>((o:Nat):Int)) (np:=dss.length) (cms:=(pcF dss).map (·.marks)) d4 (by rw[yca];omega) (by omega) (λm hm=>(nm m hm).1);rw[cml] at TO;have pm:(cells (sd0 dss)).Perm ((yxb (pcF dss).length).map λk:Nat=>(k:Int)):=by
  have e:cells (sd0 dss)=(sd0 dss).t.decks.flatten++(sd0 dss).t.hands.flatten:=by
   unfold cells;show _++(_++([]++([]++[])))=_
   simp
  rw[e,zudc,ztdc,pl,← ol,← zoac];exact ziub _ _
 refine⟨⟨TO,.nil,(λ_ h=>nomatch h),(λ_ h=>nomatch h),.nil,λm hm=>(nm m hm).2⟩,d2,rfl,rfl,?_,rfl,(λ_ h=>nomatch h),?_,λn hn=>?_,?_,by show 0<_;omega,by show 0<_;omega,by show 0<_;omega,ywa _⟩
 ·show yna ((pcF dss).map (·.marks)).length (0:Int)=_;rw[cml]
 ·refine pm.nodup_iff.mpr ?_;refine ygl.map _ (λa b h=>?_) List.nodup_range;show (a:Int)≠(b:Int)
  omega
 ·obtain⟨k,hk,rfl⟩:=yfc.mp (pm.mem_iff.mp hn);have:=ych.mp hk;exact⟨by show (0:Int)≤(k:Int);omega,by show ((k:Nat):Int)<_;omega⟩
 ·show (5::yna (dss.length-1) (0:Int)).length=dss.length;rw[ykc,yib];omega
theorem znac {dss:List (List Crd)}{i:Nat}{cs:List Crd}(h:dss[i]?=some cs):(yko (ownN dss i).length cs.length).map (λk:Nat=>V.int (k:Int))=iM (sg dss i):=by
 unfold iM sg;rw[yee,yua,h,ybt,List.range'_eq_map_range,yee];refine yqf λk _=>?_;show V.int (((ownN dss i).length+k:Nat):Int)=V.int (((ownN dss i).length:Int)+(k:Int))
 congr 1
theorem zccc {np:Nat}(h:2≤np):((yxb np).map λp:Nat=>(5:Int)*(if p=0 then 1 else 0))=zxnb np:=by
 obtain⟨m,rfl⟩:∃m,np=m+1:=⟨np-1,by omega⟩;unfold zxnb;rw[List.range_succ_eq_map,ytb,yee]
 congr 1
 rw[Nat.add_sub_cancel];refine List.ext_getElem (by simp) λk h1 h2=>?_;simp
def zxgc:Sp:=λvs H Q _=>Ex4 λdl hd ds (dss:List (List Crd))=>vs=[.ref dl,.ref hd]∧H dl=some (.lst ds)∧All2 (DkN H) ds dss∧HdS H hd dss.flatten∧2≤dss.length∧dss.length≤4∧∀v' H',Same H H'->StT H' v' (sd0 dss)->Q v' H'
theorem ztab (T:Tx K mg):FnOk P w K mg base CX0 2 T.zcf.f T.zcf.d zco zxgc:=by
 refine T.zcf.ok zgc ?_;rintro f c A o s H vs Q E hr ⟨dl,hd,ds,dss,rfl,ed,al,⟨hus,ehd,alh⟩,d2,d4,q⟩ X;have dl':=al.len;have hl':=alh.len;have dz:∀cs∈dss,cs.length≤4:=λcs hc=>by
  obtain⟨v,_,⟨d,_,_,h2,_⟩⟩:=al.mem2 hc;exact h2
 have fl:=zebb dz;refine⟨_,  (zca (zla (i:=2) zgc.nd rfl (.inl rfl) (zdc zba))
  (zca (zla (i:=3) zgc.nd rfl (.inl rfl) (zdc zba))
  (zca (zla (i:=4) zgc.nd rfl (.inl rfl) zia)
  (zca (zbh yyb rfl (zcc (pv 0)) (zda (i:=5) zgc.nd rfl (.inl rfl))
   (zca (zla (i:=6) zgc.nd rfl (.inl rfl) (zmab rfl rfl T.zki rfl T.zrh (zaa (pv 4) (zaa (zgb zue (pv 4) (zab zwa rfl T.zuf ysb (zaa (pv 5) zba))) zba))))
   (zca (zjc (zog yya ypb yqb zed (pv 2) (zaa (zna zoa rfl T.zzb ymc (zaa (znc zpv (pv 6) zod (znd zia)) zba)) zba)))
   (zca (zjc (zog yya ypb yqb zed (pv 3) (zaa (zna zoa rfl T.zzb ymc (zaa (znc zpv (pv 6) (znd zia) zod) zba)) zba)))
   (zfa (zla (i:=4) zgc.nd rfl (.inl rfl) (zgb zue (pv 4) (zab zwa rfl T.zuf ysb (zaa (pv 5) zba)))))))))
  (zca (zla (i:=7) zgc.nd rfl (.inl rfl) (zna zoa rfl T.zzb ymc (zaa (zec (own:=["_law_deck"]) (cap:=[]) rfl (zya.chk rfl rfl) .nil (zcc (pv 0)) (λ_ _ _ _=>(zda (i:=0) (show yhb (["_law_deck"]:List Str) by decide +kernel) rfl (.inl rfl))) (λ_ _ _ _=>zyc) (λ_ _ _ _=>by exact zbnb)) zba)))
  (zca (zla (i:=8) zgc.nd rfl (.inl rfl) (zra (zaa (zna zoa rfl T.zzb ymc (zaa (zec (own:=["_law_deck"]) (cap:=[]) rfl (zya.chk rfl rfl) .nil (zcc (pv 0)) (λ_ _ _ _=>(zda (i:=0) (show yhb (["_law_deck"]:List Str) by decide +kernel) rfl (.inl rfl))) (λ_ _ _ _=>zyc) (λ_ _ _ _=>by exact zia)) zba)) (zaa (zna zoa rfl T.zzb ymc (zaa (zec (own:=["_law_deck"]) (cap:=[]) rfl (zya.chk rfl rfl) .nil (zcc (pv 0)) (λ_ _ _ _=>(zda (i:=0) (show yhb (["_law_deck"]:List Str) by decide +kernel) rfl (.inl rfl))) (λ_ _ _ _=>zyc) (λ_ _ _ _=>by exact zia)) zba)) (zaa (pv 7) (zaa (zna zoa rfl T.zzb ymc (zaa (pv 3) zba)) (zaa (zna zoa rfl T.zzb ymc (zaa (pv 2) zba)) zba)))))))
  (zca (zla (i:=9) zgc.nd rfl (.inl rfl) (zna zoa rfl T.zzb ymc (zaa (zec (own:=["_law_row"]) (cap:=[]) rfl (zya.chk rfl rfl) .nil (zcc (pv 1)) (λ_ _ _ _=>(zda (i:=0) (show yhb (["_law_row"]:List Str) by decide +kernel) rfl (.inl rfl))) (λ_ _ _ _=>zyc) (λ_ _ _ _=>by exact (zva (zid K) (pv 0) zia (λ_ _=>rfl)))) zba)))
  (zca (zla (i:=10) zgc.nd rfl (.inl rfl) (zgb zzh (pv 8) (zra (zaa (zra zba) (zaa (zra zba) (zaa (pv 9) (zaa (zna zoa rfl T.zzb ymc (zaa (zec (own:=["_law_row"]) (cap:=[]) rfl (zya.chk rfl rfl) .nil (zcc (pv 1)) (λ_ _ _ _=>(zda (i:=0) (show yhb (["_law_row"]:List Str) by decide +kernel) rfl (.inl rfl))) (λ_ _ _ _=>zyc) (λ_ _ _ _=>by exact zia)) zba)) zba)))))))
  (zca (zan (i:=11) zgc.nd rfl (.inl rfl) (own:=["_law_player"]) (cap:=[]) rfl (zya.chk rfl rfl) .nil (zch rfl T.zrh (zaa (zab zwa rfl T.zuf ysb (zaa (pv 0) zba)) zba)) (λ_ _ _ _=>(zda (i:=0) (show yhb (["_law_player"]:List Str) by decide +kernel) rfl (.inl rfl))) (λ_ _ _ _=>zyc) (λ_ _ _ _=>by exact (zgb zso zia (zna zax rfl T.ztz yor (zaa (zyh zoh (pv 0) zia (zfb _)) zba)))))
  (zfa (zsa (zra (zaa (pv 10) (zaa (zra zba) (zaa zia (zaa zia (zaa zia (zaa (zna zoa rfl T.zzb ymc (zaa (pv 11) zba)) (zaa zqh zba))))))))))))))))))),?_⟩
 refine⟨sz0,λha hha=>?_⟩;refine laid hha λH1 S1 e1=>?_;refine⟨sz0,λla hla=>?_⟩;have nal:ha≠la:=zka e1 hla;have hla0:=none_of S1 hla;refine laid hla λH2 S2 e2=>?_;have S02:=S1.trans S2;refine⟨_,rfl,dl,rfl,⟨_,SqL.of (S02 _ _ ed)⟩,?_⟩;refine zgh (xs:=ds) (λi σ Hx=>Ex4 λhv lv o5 o6=>σ=[some (.ref dl),some (.ref hd),some (.ref ha),some (.ref la),some (.int ((ownN dss i).length:Int)),o5,o6,none,none,none,none,none]∧Same H Hx∧Hx ha=some (.lst hv)∧Hx la=some (.lst lv)∧All2 (T1 Hx) hv ((yxb i).map λp:Nat=>iM ((sg dss p).take 3))∧All2 (T1 Hx) lv ((yxb i).map λp:Nat=>iM ((sg dss p).drop 3))∧i≤ds.length) ⟨[],[],_,_,rfl,S02,S2 _ _ e1,e2,.nil,.nil,ywa _⟩ (λi σ Hx _ ⟨_,_,_,_,_,S,_⟩=>SqL.of (S _ _ ed)) ?_ ?_
 ·rintro i v σ Hx hv ⟨us,lv,o5,o6,rfl,S,eh,el,ah,aL,_⟩;obtain⟨cs,hcs,d,rfl,edk,c4,_⟩:=al.get hv;have hi:i<dss.length:=(yha.mp hcs).1;have ol:=zou (dss:=dss) i (by omega);have tf:=zkv (dss:=dss) i;have ehl:=ah.len;have ell:=aL.len;rw[yca,ybc] at ehl ell;refine⟨_,rfl,_,rfl,_,rfl,d,_,rfl,.inl (SqL.of (S _ _ edk)),_,_,rfl,rfl,(ownN dss i).length,cs.length,(by show [V.int _,V.int (_+(((cs.map λc=>V.str c.text).length:Nat):Int))]=_;rw[yca]),by omega,by omega,λw1 hw1=>?_⟩;rw[znac hcs];refine laid hw1 λH3 S3 e3=>?_;have nw1:w1≠ha:=ysc (zka eh hw1);have nw2:w1≠la:=ysc (zka el hw1);refine⟨_,rfl,.inl ⟨rfl,_,SqL.of (S3 _ _ eh)⟩,_,rfl,_,rfl,w1,_,rfl,SqL.of e3,λl4 hl4=>?_⟩;rw[zqib];refine laid hl4 λH4 S4 e4=>?_;refine⟨l4,_,rfl,.inl ⟨SqL.of e4,λt5 ht5=>?_⟩⟩;refine laid ht5 λH5 S5 e5=>?_;have S35:=S4.trans S5;have Sx5:=S3.trans S35;refine⟨ha,_,_,rfl,rfl,Sx5 _ _ eh,zvf (by omega),?_⟩;have S06:Same H (upd H5 ha (.lst (us++[.ref t5]))):=zve (S.trans Sx5) hha _;have B6:But ha H5 (upd H5 ha (.lst (us++[.ref t5]))):=But.put;have k6:=B6.kpl (Sx5 _ _ eh);have eh6:upd H5 ha (.lst (us++[.ref t5])) ha=some (.lst (us++[.ref t5])):=zta;have el6:=B6 _ _ (ysc nal) (Sx5 _ _ el);have e36:=B6 _ _ nw1 (S35 _ _ e3);have ah6:All2 (T1 (upd H5 ha (.lst (us++[.ref t5])))) (us++[.ref t5]) ((yxb (i+1)).map λp:Nat=>iM ((sg dss p).take 3)):=by
   rw[yog,ygb];exact All2.snoc ⟨t5,rfl,k6.t e5⟩ (ah.imp λz=>z.kp ((Kp.same Sx5).trans k6))
  have aL6:All2 (T1 (upd H5 ha (.lst (us++[.ref t5])))) lv ((yxb i).map λp:Nat=>iM ((sg dss p).drop 3)):=aL.imp λz=>z.kp ((Kp.same Sx5).trans k6);generalize upd H5 ha (.lst (us++[.ref t5]))=H6 at S06 B6 k6 eh6 el6 e36 ah6 aL6 ⊢;refine⟨_,rfl,.inl ⟨rfl,_,SqL.of el6⟩,_,rfl,_,rfl,w1,_,rfl,SqL.of e36,λl7 hl7=>?_⟩;rw[zpib];refine laid hl7 λH7 S7 e7=>?_;refine⟨l7,_,rfl,.inl ⟨SqL.of e7,λt8 ht8=>?_⟩⟩;refine laid ht8 λH8 S8 e8=>?_;have S68:=S7.trans S8;refine⟨la,_,_,rfl,rfl,S68 _ _ el6,zvf (by omega),?_⟩;have B9:But la H8 (upd H8 la (.lst (lv++[.ref t8]))):=But.put;have k9:=B9.kpl (S68 _ _ el6);have S09:Same H (upd H8 la (.lst (lv++[.ref t8]))):=zve (S06.trans S68) hla0 _;have el9:upd H8 la (.lst (lv++[.ref t8])) la=some (.lst (lv++[.ref t8])):=zta;have eh9:=B9 _ _ nal (S68 _ _ eh6);have k69:=(Kp.same S68).trans k9;have aL9:All2 (T1 (upd H8 la (.lst (lv++[.ref t8])))) (lv++[.ref t8]) ((yxb (i+1)).map λp:Nat=>iM ((sg dss p).drop 3)):=by
   rw[yog,ygb];exact All2.snoc ⟨t8,rfl,k9.t e8⟩ (aL6.imp λz=>z.kp k69)
  have ah9:All2 (T1 (upd H8 la (.lst (lv++[.ref t8])))) (us++[.ref t5]) ((yxb (i+1)).map λp:Nat=>iM ((sg dss p).take 3)):=ah6.imp λz=>z.kp k69;generalize upd H8 la (.lst (lv++[.ref t8]))=H9 at B9 k9 S09 el9 eh9 k69 aL9 ah9 ⊢;refine⟨_,rfl,_,rfl,d,_,rfl,.inl (SqL.of (S09 _ _ edk)),_,_,rfl,rfl,?_⟩;refine⟨us++[.ref t5],lv++[.ref t8],some (.ref d),some (.ref w1),?_,S09,eh9,el9,ah9,aL9,by omega⟩;have e:((ownN dss i).length:Int)+(((cs.map λc=>V.str c.text).length:Nat):Int)=((ownN dss (i+1)).length:Int):=by
   rw[yca,zcn,ypa,yib,yua,hcs,ybt];omega
  rw[← e];rfl
 ·rintro σ Hx ⟨us,lv,o5,o6,rfl,S,eh,el,ah,aL,_⟩;rw[dl'] at ah aL;have ehl:=ah.len;have ell:=aL.len;rw[yca,ybc] at ehl ell;have edx:=S _ _ ed;refine⟨_,rfl,dl,rfl,⟨_,SqL.of edx⟩,?_⟩;refine zyb (xs:=ds) (λj ys H'=>Hx=H'∧ys=yna j (V.bl false)∧j≤ds.length) (λj ys H' z=>by rw[← z.1];exact SqL.of edx) ⟨rfl,rfl,ywa _⟩ (by rintro j ys H' ⟨_,rfl,hj⟩;rw[yib];exact small (by omega)) (by rintro j u ys H' hu ⟨rfl,rfl,_⟩;exact⟨rfl,rfl,by rw[yeg],(yha.mp hu).1⟩) ?_;rintro ys H3 ⟨rfl,rfl,_⟩ l3 hl3;refine laid hl3 λH3 S3 e3=>?_;refine⟨l3,_,rfl,.inl ⟨SqL.of e3,λt4 ht4=>?_⟩⟩;refine laid ht4 λH4 S4 e4=>?_;have Sx4:=S3.trans S4;have ed4:=Sx4 _ _ edx;refine⟨_,rfl,dl,rfl,⟨_,SqL.of ed4⟩,?_⟩;refine zyb (xs:=ds) (λj ys H'=>H4=H'∧ys=yna j (V.int 20)∧j≤ds.length) (λj ys H' z=>by rw[← z.1];exact SqL.of ed4) ⟨rfl,rfl,ywa _⟩ (by rintro j ys H' ⟨_,rfl,hj⟩;rw[yib];exact small (by omega)) (by rintro j u ys H' hu ⟨rfl,rfl,_⟩;exact⟨rfl,rfl,by rw[yeg],(yha.mp hu).1⟩) ?_;rintro ys H5 ⟨rfl,rfl,_⟩ l5 hl5;refine laid hl5 λH5 S5 e5=>?_;refine⟨l5,_,rfl,.inl ⟨SqL.of e5,λt6 ht6=>?_⟩⟩;refine laid ht6 λH6 S6 e6=>?_;have S46:=S5.trans S6;have ed6:=S46 _ _ ed4;refine⟨_,rfl,dl,rfl,⟨_,SqL.of ed6⟩,?_⟩;refine zyb (xs:=ds) (λj ys H'=>H6=H'∧ys=yna j (V.int 0)∧j≤ds.length) (λj ys H' z=>by rw[← z.1];exact SqL.of ed6) ⟨rfl,rfl,ywa _⟩ (by rintro j ys H' ⟨_,rfl,hj⟩;rw[yib];exact small (by omega)) (by rintro j u ys H' hu ⟨rfl,rfl,_⟩;exact⟨rfl,rfl,by rw[yeg],(yha.mp hu).1⟩) ?_;rintro ys H7 ⟨rfl,rfl,_⟩ l7 hl7;refine laid hl7 λH7 S7 e7=>?_;refine⟨l7,_,rfl,.inl ⟨SqL.of e7,λt8 ht8=>?_⟩⟩;refine laid ht8 λH8 S8 e8=>?_;have S68:=S7.trans S8;have S48:=S46.trans S68;have Sx8:=Sx4.trans S48;refine⟨_,rfl,_,rfl,la,_,rfl,.inl ⟨SqL.of (Sx8 _ _ el),λt9 ht9=>?_⟩⟩;refine laid ht9 λH9 S9 e9=>?_;refine⟨_,rfl,ha,_,rfl,.inl ⟨SqL.of ((Sx8.trans S9) _ _ eh),λt10 ht10=>?_⟩⟩;refine laid ht10 λH10 S10 e10=>?_;refine⟨sz5,λt11 ht11=>?_⟩;refine laid ht11 λH11 S11 e11=>?_;have S8B:=S9.trans (S10.trans S11);have SxB:=Sx8.trans S8B;have S0B:=S.trans SxB;have ehB:=S0B _ _ ehd;refine⟨_,rfl,hd,rfl,⟨_,SqL.of ehB⟩,?_⟩;refine zyb (xs:=hus) (λj ys H'=>H11=H'∧All2 (T1 H11) ys (((pcF dss).map (·.marks)).map sM |>.take j)∧j≤hus.length) (λj ys H' z=>by rw[← z.1];exact SqL.of ehB) ⟨rfl,.nil,ywa _⟩ ?_ ?_ ?_
  ·rintro j ys H' ⟨_,al',hj⟩;have:=al'.len;rw[yza] at this;exact small (by omega)
  ·rintro j u ys H' hu ⟨rfl,al',_⟩;obtain⟨c,hc,a,m,rfl,g1,g2⟩:=alh.get hu;refine⟨rfl,_,rfl,a,_,_,_,rfl,rfl,SqT.of (S0B _ _ g1),zpa (j:=2) rfl,rfl,?_,(yha.mp hu).1⟩;have e:(((pcF dss).map (·.marks)).map sM)[j]?=some (sM c.marks):=by
    unfold pcF;rw[yia,yia,yia,hc];rfl
   rw[ydb,e];exact All2.snoc ⟨m,rfl,S0B _ _ g2⟩ al'
  rintro mvs H12 ⟨rfl,aM,_⟩ l12 hl12;have cml:(((pcF dss).map (·.marks)).map sM).length=hus.length:=by
   unfold pcF;rw[yca,yca,yca,hl']
  rw[yra (by omega)] at aM;refine laid hl12 λH12 S12 e12=>?_;refine⟨l12,_,rfl,.inl ⟨SqL.of e12,λt13 ht13=>?_⟩⟩;refine laid ht13 λH13 S13 e13=>?_;have SBD:=S12.trans S13;refine⟨_,rfl,sz0,λt14 ht14=>?_⟩;refine laid ht14 λH14 S14 e14=>?_;refine⟨sz0,λt15 ht15=>?_⟩;refine laid ht15 λH15 S15 e15=>?_;have SDF:=S14.trans S15;have SBF:=SBD.trans SDF;have ehF:=SBF _ _ ehB;refine⟨_,rfl,_,rfl,hd,rfl,⟨_,SqL.of ehF⟩,?_⟩;refine zyb (xs:=hus) (λj ys H'=>H15=H'∧ys=yna j (V.int 0)∧j≤hus.length) (λj ys H' z=>by rw[← z.1];exact SqL.of ehF) ⟨rfl,rfl,ywa _⟩ (by rintro j ys H' ⟨_,rfl,hj⟩;rw[yib];exact small (by omega)) (by rintro j u ys H' hu ⟨rfl,rfl,_⟩;exact⟨rfl,rfl,by rw[yeg],(yha.mp hu).1⟩) ?_;rintro ys H16 ⟨rfl,rfl,_⟩ l16 hl16;refine laid hl16 λH16 S16 e16=>?_;refine⟨l16,_,rfl,.inl ⟨SqL.of e16,λt17 ht17=>?_⟩⟩;refine laid ht17 λH17 S17 e17=>?_;refine⟨sz4,λt18 ht18=>?_⟩;refine laid ht18 λH18 S18 e18=>?_;have SFI:=S16.trans (S17.trans S18);have SBI:=SBF.trans SFI;refine zzl (SBI _ _ e11) e18 (by simp) (by show 5+4≤1000;decide) λtb H19 S19 e19=>?_;have SxJ:=SxB.trans (SBI.trans S19);refine⟨_,rfl,dl,_,rfl,.inl (SqL.of (SxJ _ _ edx)),(dss.length:Int),(by rw[dl']),by omega,by omega,?_⟩;rw[yeb];refine zmo (λj ys Hy=>H19=Hy∧j≤dss.length∧ys=iM ((yxb j).map λp:Nat=>(5:Int)*(if p=0 then 1 else 0))) ⟨rfl,ywa _,rfl⟩ ?_ ?_ ?_
  ·rintro j ys Hy ⟨_,hj,rfl⟩;unfold iM;rw[yca,yca,ybc];exact small (by omega)
  ·rintro j ys Hy hj ⟨rfl,_,rfl⟩;refine⟨rfl,_,rfl,rfl,.inr ⟨_,rfl,_,_,rfl,rfl,.inl ⟨by decide,by decide⟩,rfl,hj,?_⟩⟩;rw[yog,ygb];unfold iM;rw[ygb]
   congr 1
   have e:decide (V.int (0+(j:Int))=V.int 0)=decide (j=0):=decide_eq_decide.mpr ⟨λz=>by injection z with z;omega,λz=>by rw[z];rfl⟩;show [V.int (5*(if decide (V.int (0+(j:Int))=V.int 0)=true then 1 else 0))]=[V.int (5*(if j=0 then 1 else 0))]
   rw[e]
   by_cases z:j=0<;>simp[z]
  rintro ys H20 ⟨rfl,_,rfl⟩ l20 hl20;rw[zccc d2];refine laid hl20 λH20 S20 e20=>?_;refine⟨_,rfl,sz0,λt21 ht21=>?_⟩;refine laid ht21 λH21 S21 e21=>?_;refine⟨_,rfl,l20,_,rfl,.inl ⟨SqL.of (S21 _ _ e20),λt22 ht22=>?_⟩⟩;refine laid ht22 λH22 S22 e22=>?_;refine⟨sz7,λr hr'=>?_⟩;refine laid hr' λH23 S23 e23=>?_;have SLN:=S22.trans S23;have SJN:=S20.trans (S21.trans SLN);have SIN:=S19.trans SJN;have SHN:=S18.trans SIN;have SDN:=SDF.trans (SFI.trans SIN);have SBN:=SBI.trans SIN;have SxN:=SxB.trans SBN;have S10N:=S11.trans SBN;have S9N:=S10.trans S10N;have S8N:=S8B.trans SBN;have S6N:=S68.trans S8N;have S4N:=S48.trans S8N;refine q (.ref r) H23 (S.trans SxN) ⟨r,t21,t22,.ref tb,[],rfl,e23,⟨tb,_,_,_,_,_,_,_,_,_,rfl,SJN _ _ e19,?_⟩,SLN _ _ e21,.nil,S23 _ _ e22⟩;have rp:∀(n:Nat) (x:Int),iM (yna n x)=yna n (V.int x):=λn x=>by unfold iM;rw[yce]
  refine⟨⟨t6,rfl,?_⟩,⟨t8,rfl,?_⟩,⟨t4,rfl,?_⟩,⟨t9,lv,rfl,S9N _ _ e9,?_⟩,⟨t10,us,rfl,S10N _ _ e10,?_⟩,⟨t14,rfl,(S15.trans (SFI.trans SIN)) _ _ e14⟩,⟨t15,rfl,(SFI.trans SIN) _ _ e15⟩,⟨t13,mvs,rfl,SDN _ _ e13,?_⟩,⟨t17,rfl,?_⟩⟩
  ·rw[S6N _ _ e6];show _=some (HO.tup (iM (yna dss.length 20)))
   rw[rp,dl']
  ·rw[S8N _ _ e8];show _=some (HO.tup (iM (yna dss.length 0)))
   rw[rp,dl']
  ·rw[S4N _ _ e4];show _=some (HO.tup ((yna dss.length false).map V.bl))
   rw[yce,dl']
  ·rw[zudc,yee];exact aL.imp λz=>z.kp (Kp.same SxN)
  ·rw[ztdc,yee];exact ah.imp λz=>z.kp (Kp.same SxN)
  ·exact aM.imp λz=>z.kp (Kp.same SBN)
  ·rw[SHN _ _ e17];show _=some (HO.tup (iM (yna ((pcF dss).map (·.marks)).length 0)))
   rw[rp,← cml,yca]
theorem zvrb {c:TT}{a b rest:TS}{D:Ends}{σ:L2.St}{H:Hp}(M:L2.St->Hp->Prop)(hR:∀ σ' H',M σ' H'->rest D σ' H')(h:∀R:L2.St->Hp->Prop,(∀ σ' H',M σ' H'->R σ' H')->tIfS c a b { D with nx:=R } σ H):tSeq (tIfS c a b) rest D σ H:=h _ hR
def sdD (s:Sd):PyData:=.tuple [tabD s.t,.tuple (s.pile.map plD),.int (s.turn:Int),.int (s.word:Int),.int (s.passes:Int),.tuple (s.coins.map .int),.none]
theorem StT.dv {K:yda}{H:Hp}{v:V}{s:Sd}(h:StT H v s):DV K H v (sdD s):=by
 obtain⟨a,pl,co,tv,us,rfl,h1,h2,h3,h4,h5⟩:=h;exact .tup (SqT.of h1) (.cons h2.dv (.cons (.tup (SqT.of h3) (zbbc h4)) (.cons (.int _) (.cons (.int _) (.cons (.int _) (.cons (.tup (SqT.of h5) (zfib _)) (.cons .non .nil)))))))
theorem zbwb (xs:List (Nat×Nat)):yrb (xs.map plD)=true∧yvb (xs.map plD)≤1:=by
 induction xs with
 | nil=>exact⟨rfl,ywa _⟩
 | cons x r ih =>
  have hs:(PyData.str "card").canLay0=true:=by rw[yec];decide +kernel
  refine⟨?_,?_⟩
  ·rw[ytb,yrb,ih.1];unfold plD;simp only[yec,yrb,yjl] at hs ⊢;exact hs
  ·rw[ytb,yvb];have:=ih.2;unfold plD;simp only[ybe,yvb];unfold plD at this;omega
theorem zwxb {s:Sd}(h:∀m∈s.t.marks,∀x∈m,zce x):(sdD s).canLay0=true∧(sdD s).depth≤9:=by
 obtain⟨t1,t2⟩:=zvz h;obtain⟨l1,l2⟩:=zbwb s.pile;obtain⟨i1,i2⟩:=lay_ints s.coins;unfold sdD;refine⟨?_,?_⟩
 ·simp only[yec,yrb,t1,l1,i1,yjl]
 ·simp only[ybe,yvb,i2];omega
theorem zzgc {s:Sd}(h:∀m∈s.t.marks,∀x∈m,zce x):yhc (sdD s)=true:=by
 obtain⟨h1,h2⟩:=zwxb h;unfold yhc;rw[h1,decide_eq_true (by omega)];rfl
theorem zmfc {e:Ev}(h:e.1∈(["come","leave","draw"]:List Str)):(evD e).canLay0=true∧(evD e).depth≤1:=by
 have z:∀x∈(["come","leave","draw"]:List Str),(PyData.str x).canLay0=true:=by
  intro x hx;rw[yec]
  revert x
  decide +kernel
 have h:=z _ h;unfold evD;exact⟨by simp only[yec,yrb] at h ⊢;rw[h];rfl,by simp[ybe,yvb]⟩
theorem zirb {es:List Ev}(h:∀e∈es,e.1∈(["come","leave","draw"]:List Str)):(PyData.list (es.map lgD)).canLay0=true∧(PyData.list (es.map lgD)).depth≤3:=by
 have z:yrb (es.map lgD)=true∧yvb (es.map lgD)≤2:=by
  induction es with
  | nil=>exact⟨rfl,ywa _⟩
  | cons e r ih =>
   obtain⟨h1,h2⟩:=zmfc (h e yma);have ih:=ih λx hx=>h x (yla _ hx);refine⟨?_,?_⟩
   ·rw[ytb,yrb,ih.1];unfold lgD;simp only[yec,yrb,h1,yjl]
   ·rw[ytb,yvb];have:=ih.2;unfold lgD;simp only[ybe,yvb];unfold lgD at this;omega
 refine⟨?_,?_⟩
 ·rw[yec];exact z.1
 ·rw[ybe];omega
theorem zkyb {es:List Ev}(h:∀e∈es,e.1∈(["come","leave","draw"]:List Str)):yhc (PyData.list (es.map lgD))=true:=by
 obtain⟨h1,h2⟩:=zirb h;unfold yhc;rw[h1,decide_eq_true (by omega)];rfl
theorem LetR.ev {np:Nat}{cs:List Pc}{s s':Sd}{lg:List Ev}(h:LetR np cs s s' lg):(∀e∈lg,e.1∈(["come","leave","draw"]:List Str))∧lg.length≤20:=by
 cases h with
 | pass _=>exact⟨(λ_ h=>nomatch h),ywa _⟩
 | turn=>exact⟨λe he=>by rw[yka.mp he];exact yla _ (yla _ yma),by show 1≤20;decide⟩
 | come=>exact⟨λe he=>by rw[yka.mp he];exact yma,by show 1≤20;decide⟩
 | gone =>
  refine⟨λe he=>?_,by show 2≤20;decide⟩
  rcases yja.mp he with z|z
  ·rw[z];exact yma
  ·rw[yka.mp z];exact yla _ yma
theorem zjhc (c:List Int):yhc (.list (c.map .int))=true:=by
 obtain⟨h1,h2⟩:=lay_ints c;unfold yhc;rw[yec,h1,ybe,h2];rfl
theorem zifc (c:List Int):ypd (.list (c.map .int)) (.list [])=decide (c=[]):=by
 cases c with
 | nil=>simp[ypd,yoe]
 | cons x r=>simp[ypd,yoe]
theorem FtT.kp2 {X:List Addr}{B F x p:Addr}{H H':Hp}{cs:List Pc}{ks os:List Nat}{s:Sd}{lg:List Ev}{k:Nat}(h:FtT X B F H x p cs ks os s lg k)(t:Two x p H H'):Kp H H':=by
 obtain⟨dx,ca,oa,ll,now,ps,us,hx,_,_,_,hp,_⟩:=h;exact t.kp hx hp
theorem FtT.other {X:List Addr}{B F x p y q:Addr}{H H':Hp}{cs:List Pc}{ks os:List Nat}{s s2:Sd}{lg lg2:List Ev}{k k2:Nat}(hy:FtT X B F H y q cs ks os s2 lg2 k2)(t:Two y q H H')(nxy:x≠y)(npq:p≠q)(h:FtT X B F H x p cs ks os s lg k):FtT X B F H' x p cs ks os s lg k:=by
 obtain⟨dx,ca,oa,ll,now,ps,us,hx,_,_,_,hp,_,_,_,_,_,_,qX⟩:=hy;exact h.two t hx hp qX nxy npq
theorem FtT.obj {X:List Addr}{B F x p:Addr}{H:Hp}{cs:List Pc}{ks os:List Nat}{s:Sd}{lg:List Ev}{k:Nat}(h:FtT X B F H x p cs ks os s lg k):Ex2 λdx (fs:List (Str×V))=>H x=some (.ins F dx fs)∧(∀m,m∉(["all_cards","all_owners","now","last_log","past"]:List Str)->fs.lookup m=none)∧H p≠none:=by
 obtain⟨dx,ca,oa,ll,now,ps,us,hx,_,_,_,hp,_⟩:=h;exact⟨dx,_,hx,λm hm=>zdsb hm,by rw[hp];simp⟩
theorem Two.bs {x p:Addr}{G H H':Hp}(S:Same G H)(gx:G x=none)(gp:G p=none)(t:Two x p H H'):Same G H':=λb o z=>t b o (zka z gx) (zka z gp) (S b o z)
structure Deed (B F:Addr)(G:Hp)(hd x1 p1 x2 p2:Addr)(dss:List (List Crd))(k:Nat)(Hx:Hp)(sv:V)(s:Sd)(l1 l2:List Ev):Prop where
 S:Same G Hx
 f1:FtT [p2,p1] B F Hx x1 p1 (pcF dss) (coF dss) (ownN dss dss.length) s l1 k
 f2:FtT [p2,p1] B F Hx x2 p2 (pcF dss) (coF dss) (ownN dss dss.length) s l2 k
 st:StT Hx sv s
 si:SI dss.length (pcF dss).length (pcF dss) s
theorem zgwb {c:TT}{a b:TS}{D:Ends}{σ:L2.St}{H:Hp}(M:Bool->Hp->Prop)(k:∀bb H',M bb H'->(if bb=true then a D σ H' else b D σ H'))(g:∀R:Bool->Hp->Prop,(∀bb H',M bb H'->R bb H')->c σ H R):tIfS c a b D σ H:=g _ k
theorem DkN.same {H H':Hp}(s:Same H H'){v:V}{cs:List Crd}(h:DkN H v cs):DkN H' v cs:=by
 obtain⟨d,e,h1,h2⟩:=h;exact⟨d,e,s _ _ h1,h2⟩
theorem zobc (L:Nat)(b:Bool)(h:L≤40):∃m:Nat,m≤52∧(12:Int)+(if (40:Int)*(if b=true then 1 else 0)>(L:Int) then (40:Int)*(if b=true then 1 else 0) else (L:Int))=(m:Int):=by
 refine⟨((12:Int)+(if (40:Int)*(if b=true then 1 else 0)>(L:Int) then (40:Int)*(if b=true then 1 else 0) else (L:Int))).toNat,?_,?_⟩
 ·cases b<;>simp<;>split<;>omega
 ·cases b<;>simp<;>split<;>omega
theorem zknb {X:List Addr}{p1 p2:Addr}{H:Hp}(h1:H p1≠none)(h2:H p2≠none):∀y∈[p2,p1],H y≠none:=λy hy=>by
 rcases yja.mp hy with z|z
 ·rw[z];exact h2
 ·rw[yka.mp z];exact h1
theorem Same.ne {H H':Hp}(s:Same H H'){y:Addr}(h:H y≠none):H' y≠none:=λz=>h (none_of s z)
theorem ziec (T:Tx K mg)(kb:K.In base):FnOk P w K mg base CX0 15 T.ztob.f T.ztob.d zagc (zrub K):=by
 refine T.ztob.ok zyi ?_;rintro f c A o s H vs Q E hr ⟨a,ns,rfl,SF,n63,q⟩ X;refine⟨_,  (zca (zla (i:=1) zyi.nd rfl (.inl rfl) (zja (zuab T).up hr rfl T.zdf.m T.zdf.F.kp (zegb T) .nil zqa (zaa (pv 0) (zaa (zdc zba) zba))))
  (zca (zla (i:=2) zyi.nd rfl (.inl rfl) (zja (zsab T).up hr rfl T.zbf.m T.zbf.F.kp (zcgb T) .nil zqa (zaa (pv 1) zba)))
  (zca (zla (i:=3) zyi.nd rfl (.inl rfl) (zlab T.zoc.M (zelb T).up hr rfl T.zaib (zrm T) .nil zqa (zaa (zec (own:=["_law_deck"]) (cap:=[]) rfl (zya.chk rfl rfl) .nil (zcc (pv 1)) (λ_ _ _ _=>(zda (i:=0) (show yhb (["_law_deck"]:List Str) by decide +kernel) rfl (.inl rfl))) (λ_ _ _ _=>zyc) (λ_ _ _ _=>by exact (zna (zor K) rfl T.zki ywh (zaa (pv 0) zba)))) zba)))
  (zca (zla (i:=4) zyi.nd rfl (.inl rfl) (zlab T.zoc.M (zelb T).up hr rfl T.zaib (zrm T) .nil zqa (zaa (pv 1) zba)))
  (zca (zla (i:=5) zyi.nd rfl (.inl rfl) (zja (ztab T).up hr rfl T.zcf.m T.zcf.F.kp (zdgb T) .nil zqa (zaa (pv 1) (zaa (pv 2) zba))))
  (zca (zla (i:=6) zyi.nd rfl (.inl rfl) (zgb zue zia (zab (zusb rfl) rfl T.zbub boot_max (zaa (zab zwa rfl T.zuf ysb (zaa (znc zpv (pv 0) zod (znd zia)) zba)) (zaa (zgb zso zia (zna zax rfl T.ztz yor (zaa (zyh zoh (zgb zdh (zja (zxf T).up hr rfl T.ztb.m T.ztb.F.kp (zkh T) .nil zqa (zaa (pv 0) (zaa zia zba))) zia) zia (zfb _)) zba))) zba)))))
  (zca (zbh yyb rfl (zch rfl T.zrh (zaa (pv 6) zba)) (zda (i:=7) zyi.nd rfl (.inl rfl))
   (zca (zla (i:=8) zyi.nd rfl (.inr rfl) (zja (zxf T).up hr rfl T.ztb.m T.ztb.F.kp (zkh T) .nil zqa (zaa (pv 0) (zaa (zgb zue zia (pv 7)) zba))))
   (zca (zla (i:=9) zyi.nd rfl (.inl rfl) (zja (zvhb T).up hr rfl T.zvh.m T.zvh.F.kp (zgob T) .nil zqa (zaa (pv 5) (zaa (pv 2) zba))))
   (zca (zla (i:=10) zyi.nd rfl (.inl rfl) (zva zcb (pv 5) zia (λ_ _=>rfl)))
   (zca (zrc (PW.pt (ziqb (zxa (zvq hr.units) (pv 9) (zdc zba) (zfb _)) (zgqb (zxa zdnb (zgb zdh (pv 8) zia) zia (zfb _)))))
    (zca (zla (i:=11) zyi.nd rfl (.inl rfl) (zva zad (pv 9) (zgb zdh (zgb zdn (pv 8) zia) (zab zwa rfl T.zuf ysb (zaa (pv 9) zba))) (λ_ _=>rfl)))
    (zca (zla (i:=5) zyi.nd rfl (.inl rfl) (zja (ziy T).up hr rfl T.zoe.m T.zoe.F.kp (zvbb T) .nil zqa (zaa (pv 5) (zaa (pv 2) (zaa (pv 11) zba)))))
    (zca (zla (i:=12) zyi.nd rfl (.inl rfl) (zdc zba))
    (zca (zjc (zbn (pv 3) T.zpb T.zfe.M (zzq T).up hr (zxt T) .nil zqa (zaa (pv 10) (zaa (pv 11) zba))))
    (zfa (zjc (zbn (pv 4) T.zpb T.zfe.M (zzq T).up hr (zxt T) .nil zqa (zaa (pv 10) (zaa (pv 11) zba)))))))))
    (zca (zsc (zja (zuhb T).up hr rfl T.zuh.m T.zuh.F.kp (zfob T) .nil zqa (zaa (pv 5) (zaa (pv 2) zba))) (zmc (n:=2) rfl (zea (zda (i:=5) zyi.nd rfl (.inl rfl)) (zea (zda (i:=12) zyi.nd rfl (.inl rfl)) zjb))))
    (zca (zrc (zxa zoh (zgb zdh (zgb zdn (pv 8) zia) zia) zia (zfb _))
     (zfa (zjc (zbn (pv 3) T.zpb T.zld.M (zfn T kb) hr (zau T) (show Vals [V.non] [Value.none] from .cons rfl (.nil)) zqa (zaa (pv 10) zba))))
     (zfa (zjc (zbn (pv 3) T.zpb T.zld.M (zfn T kb) hr (zejb T) .nil zqa (zaa (pv 10) (zaa (zec (own:=["_law_j"]) (cap:=["_law_number_here"]) rfl (zya.chk rfl rfl) (.cons (j:=8) rfl (.inl rfl) (.inl rfl) .nil) (zch rfl T.zrh (zaa (zgb zdh (zgb zdn (pv 8) zia) zia) zba)) (λ_ _ _ _=>(zda (i:=0) (show yhb (["_law_j","_law_number_here"]:List Str) by decide +kernel) rfl (.inl rfl))) (λ_ _ _ _=>zyc) (λ_ _ _ _=>by exact (zgb znm (zgb zdh (zgb zdn (pv 1) zia) zia) zia))) zba))))))
    (zfa (zjc (zbn (pv 4) T.zpb T.zld.M (zfn T kb) hr (zau T) (show Vals [V.non] [Value.none] from .cons rfl (.nil)) zqa (zaa (pv 10) zba)))))))
   (zfa (zrc (PW.pt (zfqb (zxa (zvq hr.units) (zzf (pv 3) T.zpb T.zvd.M (zto T).up hr (zqr T) .nil zqa) (pv 5) (zfb _)) (zfqb (zxa (zvq hr.units) (zzf (pv 3) T.zpb T.zmg.M (zleb T).up hr (zdjb T) .nil zqa) (pv 12) (zfb _)) (zzkb (zxa (zvq hr.units) (zzf (pv 4) T.zpb T.zvd.M (zto T).up hr (zqr T) .nil zqa) (pv 5) (zfb _))))))
    (zfa (zsa zbnb))
    zeb)))))))
  (zfa (zsa (zyh zoh (zzf (pv 3) T.zpb T.zge.M (zar T).up hr (zyt T) .nil zqa) (zzf (pv 4) T.zpb T.zge.M (zar T).up hr (zyt T) .nil zqa) (zfb _))))))))))),?_⟩
 refine⟨_,rfl,sz0,λem hem=>?_⟩;refine laid hem λH1 S1 e1=>?_;refine⟨a,em,ns,rfl,SF.same S1,n63,e1,λdl ds dss H2 S2 ndl edl alk d2 d4=>?_⟩;have alN:All2 (DkN H2) ds dss:=alk.imp λ⟨d,e,h1,_,h3,h4⟩=>⟨d,e,h1,h3,λc hc=>⟨(h4 c hc).ok,(h4 c hc).no⟩⟩;refine⟨_,rfl,dl,ds,dss,rfl,edl,alN,d4,λhd H3 S3 HS=>?_⟩;have S03:=S1.trans (S2.trans S3);have dsl:=alN.len;have dz:∀cs∈dss,cs.length≤4:=λcs hc=>by
  obtain⟨v,_,⟨d,_,_,h2,_⟩⟩:=alN.mem2 hc;exact h2
 have dk:∀cs∈dss,∀c∈cs,c.ok:=λcs hc c hcc=>by
  obtain⟨v,_,⟨d,_,_,_,h2⟩⟩:=alN.mem2 hc;exact (h2 c hcc).1
 refine⟨_,rfl,dl,rfl,⟨_,SqL.of (S3 _ _ edl)⟩,?_⟩;refine zyb (xs:=ds) (λj ys H'=>Same H3 H'∧All2 (DkN H') ys (dss.take j)) (λj ys H' z=>SqL.of ((S3.trans z.1) _ _ edl)) ⟨Same.refl _,.nil⟩ ?_ ?_ ?_
 ·rintro j ys H' ⟨_,al'⟩;have:=al'.len;rw[yza] at this;exact small (by omega)
 ·rintro j u ys H' hu ⟨S',al'⟩;obtain⟨cs,hcs,d,rfl,edk,c4,cok⟩:=alN.get hu;refine⟨rfl,_,rfl,d,_,rfl,.inl (SqL.of ((S3.trans S') _ _ edk)),λl hl=>?_⟩;refine laid hl λH4 S4 e4=>?_;refine⟨S'.trans S4,?_⟩;rw[ydb,hcs,yub];exact All2.snoc ⟨l,rfl,e4,c4,cok⟩ (al'.imp λz=>z.same S4)
 rintro ys H4 ⟨S4,alc⟩ l5 hl5;rw[dsl,yra (yga _)] at alc;refine laid hl5 λH5 S5 e5=>?_;have S35:=S4.trans S5;intro x1 dx1 hx1 hdx1 ndx1;have S56:Same H5 (upd (upd H5 dx1 (.own x1)) x1 (.ins T.zza dx1 [])):=λb o z=>by rw[zbb (zka z hx1),zbb (zka z hdx1)];exact z
 have e6:upd (upd H5 dx1 (.own x1)) x1 (.ins T.zza dx1 []) x1=some (.ins T.zza dx1 []):=zta;generalize upd (upd H5 dx1 (.own x1)) x1 (.ins T.zza dx1 [])=H6 at S56 e6 ⊢;refine⟨x1,dx1,l5,ys,dss,[],rfl,(λ_ h=>nomatch h),e6,S56 _ _ e5,alc.imp (λz=>z.same (S5.trans S56)),d2,d4,λp1 H7 B7 np1 F1=>⟨rfl,?_⟩⟩;have S57:Same H5 H7:=λb o z=>B7 b o (zka z hx1) (S56 b o z);have S37:=S35.trans S57;have gx1:H3 x1=none:=none_of S35 hx1;have gp1:H3 p1=none:=none_of S35 (none_of S56 np1);obtain⟨_,_,ox1,_,op1⟩:=F1.obj;refine⟨_,rfl,?_⟩;intro x2 dx2 hx2 hdx2 ndx2;have S78:Same H7 (upd (upd H7 dx2 (.own x2)) x2 (.ins T.zza dx2 [])):=λb o z=>by rw[zbb (zka z hx2),zbb (zka z hdx2)];exact z
 have e8:upd (upd H7 dx2 (.own x2)) x2 (.ins T.zza dx2 []) x2=some (.ins T.zza dx2 []):=zta;generalize upd (upd H7 dx2 (.own x2)) x2 (.ins T.zza dx2 [])=H8 at S78 e8 ⊢;have S28:=S3.trans (S37.trans S78);refine⟨x2,dx2,dl,ds,dss,[p1],rfl,(λy hy=>by rw[yka.mp hy];exact Same.ne S78 op1),e8,S28 _ _ edl,alN.imp (λz=>z.same S28),d2,d4,λp2 H9 B9 np2 F2=>⟨rfl,?_⟩⟩;have S79:Same H7 H9:=λb o z=>B9 b o (zka z hx2) (S78 b o z);have gx2:H3 x2=none:=none_of S37 hx2;have np2':=none_of S78 np2;have gp2:H3 p2=none:=none_of S37 np2';have nx:x1≠x2:=zka ox1 hx2;have npp:p1≠p2:=λz=>op1 (by rw[z];exact np2');have F1':=(F1.more np2').same S79;have S39:=S37.trans S79;have S29:=S3.trans S39;refine⟨_,rfl,_,rfl,dl,hd,ds,dss,rfl,S29 _ _ edl,alN.imp (λz=>z.same S29),HS.same S39,d2,d4,λsv H10 S10 ST=>?_⟩;have S0A:=S03.trans (S39.trans S10);refine⟨_,rfl,_,rfl,a,_,rfl,(SF.same S0A).sq,λl11 hl11=>?_⟩;have cl:(cutV (ns.map V.int) none (some 40)).length≤40:=by
  rw[show (40:Int)=((40:Nat):Int) from rfl,zrn,yza];exact Nat.min_le_left _ _
 refine laid hl11 λH11 S11 e11=>?_;refine⟨l11,_,rfl,.inl (SqL.of e11),?_⟩;have S0B:=S0A.trans S11;refine⟨_,rfl,a,ns,75,rfl,SF.same S0B,n63,by decide,by decide,λr r0 r1=>?_⟩;refine⟨_,_,rfl,rfl,(by show (0:Int)<_;decide),rfl,.inr ⟨_,rfl,_,_,rfl,rfl,.inl ⟨by decide,by decide⟩,_,_,rfl,_,_,rfl,rfl,?_⟩⟩;obtain⟨m,m52,hm⟩:=zobc _ (decide (V.int (r % 8)=V.int 5)) cl;refine⟨_,rfl,(m:Int),congrArg (λz=>[V.int z]) hm,by omega,by omega,?_⟩;rw[yeb];have D0:Deed T.znb T.zza H3 hd x1 p1 x2 p2 dss 0 H11 sv (sd0 dss) [] []:=⟨S39.trans (S10.trans S11),F1'.same (S10.trans S11),F2.same (S10.trans S11),ST.kp (Kp.same S11),zsdc d2 d4 dz dk⟩;refine zqn (lo:=0) (n:=m) (λi σ Hx=>Ex11 λsv (s:Sd) (l1 l2:List Ev) o6 o7 o8 o9 o10 o11 o12=>σ=[some (.ref a),some (.ref dl),some (.ref hd),some (.ref x1),some (.ref x2),some sv,o6,o7,o8,o9,o10,o11,o12]∧Deed T.znb T.zza H3 hd x1 p1 x2 p2 dss i Hx sv s l1 l2) ⟨sv,sd0 dss,[],[],_,_,_,_,_,_,_,rfl,D0⟩ ?_ ?_
 ·rintro i σ Hx hi ⟨sv,s,l1,l2,o6,o7,o8,o9,o10,o11,o12,rfl,D⟩;obtain⟨sa,pl,co,tv,us,rfl,esa,_⟩:=id D.st;refine⟨_,rfl,_,rfl,_,_,rfl,rfl,a,ns,_,rfl,SF.same (S03.trans D.S),n63,(by show 0≤80+(0+(i:Int));omega),(by show 80+(0+(i:Int))<1000;omega),λg g0 g1=>?_⟩;refine⟨_,rfl,_,rfl,.ref sa,hd,_,_,s,dss,rfl,D.st,HS.same D.S,D.si,rfl,λl nss H1 S1 el l16 hm=>?_⟩;refine⟨_,rfl,sa,_,_,_,rfl,rfl,SqT.of (S1 _ _ esa),zpa (j:=3) rfl,?_⟩
  try dsimp only[zasb]
  refine zvrb (fun σ' H'=>Ex7 λsv' (s':Sd) (l1' l2':List Ev) ll us o11=>σ'=[some (.ref a),some (.ref dl),some (.ref hd),some (.ref x1),some (.ref x2),some sv',o6,some (.int (0+(i:Int))),some (.int g),some (.ref l),some (.int (s.word:Int)),o11,some (.ref ll)]∧Deed T.znb T.zza H3 hd x1 p1 x2 p2 dss (i+1) H' sv' s' l1' l2'∧H' ll=some (.lst us)∧All2 (LgE [p2,p1] H') us l1'∧(∀e∈l1',e.1∈(["come","leave","draw"]:List Str))∧l1'.length≤20) ?_ ?_
  ·rintro _ H2 ⟨sv',s',l1',l2',ll,us,o11,rfl,D',ell,all,hev,l20⟩;obtain⟨dx1,fs1,ox1,nf1,_⟩:=D'.f1.obj;obtain⟨dx2,fs2,ox2,nf2,_⟩:=D'.f2.obj;have sl:=zwxb (s:=s') D'.si.ti.nm;have sh:=zzgc (s:=s') D'.si.ti.nm;refine⟨_,rfl,x1,dx1,fs1,rfl,ox1,nf1 _ (by decide +kernel),[p2,p1],x1,p1,s',_,_,_,_,_,rfl,D'.f1,λv1 ST1=>?_⟩;refine⟨_,rfl,sdD s',sdD s',ST1.dv,D'.st.dv,sh,sh,_,rfl,?_⟩;rw[yan _ sl.1];refine iteF ?_;refine⟨_,rfl,x1,dx1,fs1,rfl,ox1,nf1 _ (by decide +kernel),[p2,p1],x1,p1,s',_,_,_,_,_,rfl,D'.f1,l20,λlc uc H4 S4 elc alc'=>?_⟩;refine⟨_,rfl,.list (l1'.map lgD),.list (l1'.map lgD),.lst (SqL.of elc) (ztec alc'),.lst (SqL.of (S4 _ _ ell)) (ztec (all.imp λz=>z.same S4)),zkyb hev,zkyb hev,_,rfl,?_⟩;rw[yan _ (zirb hev).1];refine iteF ?_;refine⟨_,rfl,x2,dx2,fs2,rfl,S4 _ _ ox2,nf2 _ (by decide +kernel),[p2,p1],x2,p2,s',_,_,_,_,_,rfl,D'.f2.same S4,λv2 ST2=>?_⟩;have st4:=D'.st.kp (Kp.same S4);refine⟨_,rfl,sdD s',sdD s',ST2.dv,st4.dv,sh,sh,_,rfl,?_⟩;rw[yan _ sl.1];exact iteF ⟨sv',s',l1',l2',_,_,_,_,_,_,_,rfl,⟨D'.S.trans S4,D'.f1.same S4,D'.f2.same S4,st4,D'.si⟩⟩
  ·intro R hR;obtain⟨_,_,oy1,_,yp1⟩:=D.f1.obj;obtain⟨_,_,oy2,_,yp2⟩:=D.f2.obj;refine zgwb (λbb H'=>Same H1 H'∧(bb=true->nss≠[])) ?_ ?_
   case refine_2 =>
    intro R2 hR2;refine⟨_,rfl,sz0,λe0 he0=>?_⟩;refine laid he0 λH2 S2 f2=>?_;refine⟨.list (nss.map .int),.list [],.lst (SqL.of (S2 _ _ el)) (zfib _),.lst (SqL.of f2) .nil,zjhc _,zqpb,_,rfl,?_⟩;rw[zifc];refine ite2 (λc=>?_) (λc=>?_)
    ·have hne:nss≠[]:=by simpa using c
     refine⟨_,rfl,_,_,rfl,rfl,(by show (0:Int)<_;decide),_,_,rfl,rfl,_,rfl,?_⟩;exact hR2 _ H2 ⟨S2,λ_=>hne⟩
    ·exact hR2 _ H2 ⟨S2,λz=>by cases z⟩
   rintro bb H2 ⟨S2,hb⟩;have Sx2:=S1.trans S2;have el2:=S2 _ _ el;refine ite2 (λc=>?_) (λc=>?_)
   ·
    have hne:=hb c;have lp:0<nss.length:=List.length_pos_iff.mpr hne;have mb:=zom (g / 3) (m:=(nss.length:Int)) (by omega);obtain⟨z,hz,hzm⟩:=zyfc (ns:=nss) (i:=g / 3 % (nss.length:Int)) mb.1 mb.2;obtain⟨n,rfl,MP⟩:=hm z hzm;have ell:((iM nss).length:Int)=(nss.length:Int):=(by unfold iM;rw[yca]);refine⟨_,rfl,_,rfl,_,_,rfl,rfl,⟨by decide,by decide⟩,_,rfl,l,_,rfl,.inl (SqL.of el2),_,_,rfl,rfl,(by rw[ell];omega),l,_,_,_,rfl,rfl,SqL.of el2,(by rw[ell];exact hz),?_⟩;refine⟨_,rfl,_,rfl,_,rfl,.ref sa,hd,n,_,_,s,dss,rfl,D.st.kp (Kp.same Sx2),HS.same (D.S.trans Sx2),D.si,MP,λv' s' H4 S4 ST4 PL=>?_⟩;have Sx4:=Sx2.trans S4;refine⟨sz0,λll hll=>?_⟩;have nl:∀{y:Addr},Hx y≠none->ll≠y:=λh z=>Same.ne Sx4 h (by rw[← z];exact hll);refine laid hll λH5 S5 f5=>?_;have Sx5:=Sx4.trans S5;have FA:=D.f1.same Sx5;have FB:=D.f2.same Sx5;obtain⟨dx1,fs1,ox1,nf1,q1⟩:=FA.obj;obtain⟨_,_,_,_,q2⟩:=FB.obj;refine⟨_,rfl,x1,dx1,fs1,rfl,ox1,nf1 _ (by decide +kernel),_,rfl,_,rfl,[p2,p1],x1,p1,s,_,_,_,_,n,i,_,l1,rfl,FA,zknb (X:=[]) q1 q2,D.si,MP,by omega,λs6 H6 t6 PL6 F6=>?_⟩;have es:s6=s':=PL6.det PL;subst es;have FB6:=FA.other t6 (ysc nx) (ysc npp) FB;obtain⟨dx2,fs2,ox2,nf2,q4⟩:=FB6.obj;obtain⟨_,_,_,_,q3⟩:=F6.obj;refine⟨_,rfl,x2,dx2,fs2,rfl,ox2,nf2 _ (by decide +kernel),_,rfl,_,rfl,[p2,p1],x2,p2,s,_,_,_,_,n,i,_,l2,rfl,FB6,zknb (X:=[]) q3 q4,D.si,MP,by omega,λs7 H7 t7 PL7 F7=>?_⟩;have es:s7=s6:=PL7.det PL;subst es;have k57:=(FA.kp2 t6).trans (FB6.kp2 t7);refine hR _ H7 ⟨v',s7,[],[],ll,[],some (.int (n:Int)),rfl,⟨?_,FB6.other t7 nx npp F6,F7,(ST4.kp (Kp.same S5)).kp k57,D.si.played MP.pile (λx hx=>?_) PL⟩,?_,.nil,(λ_ h=>nomatch h),ywa _⟩
    ·exact Two.bs (Two.bs (D.S.trans Sx5) gx1 gp1 t6) gx2 gp2 t7
    ·obtain⟨y,hy,hyn⟩:=MP.hand;rw[hy] at hx;cases hx;exact hyn
    ·exact t7 _ _ (nl (by rw[oy2];simp)) (nl yp2) (t6 _ _ (nl (by rw[oy1];simp)) (nl yp1) f5)
   ·
    refine⟨_,rfl,_,rfl,.ref sa,hd,_,_,s,dss,rfl,D.st.kp (Kp.same Sx2),HS.same (D.S.trans Sx2),D.si,rfl,λr ll v' s' lg us' H4 S4 er ST4 LR ell all nll=>?_⟩;have Sx4:=Sx2.trans S4;refine⟨r,_,rfl,SqT.of er,rfl,_,_,rfl,_,_,rfl,rfl,?_⟩;refine zmv (σ':=[some (.ref a),some (.ref dl),some (.ref hd),some (.ref x1),some (.ref x2),some v',o6,some (.int (0+(i:Int))),some (.int g),some (.ref l),some (.int (s.word:Int)),o11,some (.ref ll)]) rfl ?_;have FA:=D.f1.same Sx4;have FB:=D.f2.same Sx4;obtain⟨dx1,fs1,ox1,nf1,q1⟩:=FA.obj;obtain⟨_,_,_,_,q2⟩:=FB.obj;have nl:∀{y:Addr},Hx y≠none->ll≠y:=λh z=>Same.ne Sx2 h (by rw[← z];exact nll);have hY2:=zknb (X:=[]) (Same.ne Sx2 yp1) (Same.ne Sx2 yp2);have all':All2 (LgE [p2,p1] H4) us' lg:=all.imp λ⟨a,h,tr,h',eu,g1,g2,g3,g4,g5⟩=>⟨a,h,tr,h',eu,g1,g2,g3,g4,zclb hY2 g5⟩;dsimp only;refine zvrb (fun σ' H'=>σ'=[some (.ref a),some (.ref dl),some (.ref hd),some (.ref x1),some (.ref x2),some v',o6,some (.int (0+(i:Int))),some (.int g),some (.ref l),some (.int (s.word:Int)),o11,some (.ref ll)]∧Two x1 p1 H4 H'∧FtT [p2,p1] T.znb T.zza H' x1 p1 (pcF dss) (coF dss) (ownN dss dss.length) s' lg (i+1)) ?_ ?_
    ·rintro _ H5 ⟨rfl,t5,F5⟩;have FB5:=FA.other t5 (ysc nx) (ysc npp) FB;obtain⟨dx2,fs2,ox2,nf2,q4⟩:=FB5.obj;obtain⟨_,_,_,_,q3⟩:=F5.obj;refine⟨_,rfl,x2,dx2,fs2,rfl,ox2,nf2 _ (by decide +kernel),_,rfl,[p2,p1],x2,p2,.non,s,_,_,_,_,i,_,l2,[],rfl,.inl rfl,FB5,zknb (X:=[]) q3 q4,D.si,rfl,λo ho=>zohb o ho,by omega,λs6 lg6 H6 t6 LR6 F6=>?_⟩;obtain⟨es,eg⟩:=LR6.det LR;subst es eg;have k45:=FA.kp2 t5;have k56:=FB5.kp2 t6;obtain⟨hev,l20⟩:=LR.ev;refine hR _ H6 ⟨v',s6,lg6,lg6,ll,us',o11,rfl,⟨Two.bs (Two.bs (D.S.trans Sx4) gx1 gp1 t5) gx2 gp2 t6,FB5.other t6 nx npp F5,F6,ST4.kp (k45.trans k56),D.si.let rfl LR⟩,t6 _ _ (nl (by rw[oy2];simp)) (nl yp2) (t5 _ _ (nl (by rw[oy1];simp)) (nl yp1) ell),?_,hev,l20⟩;refine all'.imp λz=>?_;exact (z.two t5 k45 (λxs y=>by rw[ox1] at y;cases y) (by simp)).two t6 k56 (λxs y=>by rw[ox2] at y;cases y) (by simp)
    ·intro R2 hR2;refine⟨_,rfl,_,_,rfl,rfl,⟨by decide,by decide⟩,_,_,rfl,rfl,(by show (0:Int)<_;decide),rfl,_,rfl,ite2 (λc=>?_) (λc=>?_)⟩
     ·refine⟨_,rfl,x1,dx1,fs1,rfl,ox1,nf1 _ (by decide +kernel),_,rfl,[p2,p1],x1,p1,.non,s,_,_,_,_,i,_,l1,[],rfl,.inl rfl,FA,zknb (X:=[]) q1 q2,D.si,rfl,λo ho=>zohb o ho,by omega,λs6 lg6 H6 t6 LR6 F6=>?_⟩;obtain⟨es,eg⟩:=LR6.det LR;subst es eg;exact hR2 _ H6 ⟨rfl,t6,F6⟩
     ·refine⟨_,rfl,x1,dx1,fs1,rfl,ox1,nf1 _ (by decide +kernel),_,rfl,?_⟩;have m4:=zom (g / 126) (m:=4) (by decide);obtain⟨kn,hkn⟩:∃k:Nat,g / 126 % 4=(k:Int):=⟨(g / 126 % 4).toNat,by omega⟩;refine⟨_,rfl,_,_,rfl,rfl,⟨by decide,by decide⟩,_,_,rfl,rfl,(by show (0:Int)<_;decide),(kn:Int),(by show [V.int (g / 126 % 4)]=_;rw[hkn]),by omega,by omega,?_⟩;rw[yeb];refine zmo (λj ys Hy=>∃ch:List Int,ys=iM ch∧ch.length=j∧j≤kn∧H4=Hy) ⟨[],rfl,rfl,ywa _,rfl⟩ ?_ ?_ ?_
      ·rintro j ys Hy ⟨ch,rfl,al,hj,_⟩;unfold iM;rw[yca,al];exact small (by omega)
      ·rintro j ys Hy hj ⟨ch,rfl,al,_,rfl⟩;refine⟨rfl,_,rfl,_,_,rfl,rfl,⟨by decide,by decide⟩,_,_,rfl,rfl,(by show (0:Int)<_;decide),_,_,rfl,rfl,?_⟩;exact⟨ch++[_],by unfold iM;rw[ygb];rfl,by rw[ypa,al];rfl,hj,rfl⟩
      rintro ys Hy ⟨ch,rfl,chl,_,rfl⟩ cc hcc;refine laid hcc λH5 S5 ecc=>?_;refine⟨[p2,p1],x1,p1,.ref cc,s,_,_,_,_,i,_,l1,ch,rfl,.inr ⟨cc,rfl,ecc⟩,FA.same S5,zknb (X:=[]) (Same.ne S5 q1) (Same.ne S5 q2),D.si,rfl,λo ho=>zohb o ho,by omega,λs6 lg6 H6 t6 LR6 F6=>?_⟩;obtain⟨es,eg⟩:=LR6.det LR;subst es eg;exact hR2 _ H6 ⟨rfl,(Two.same S5).trans t6,F6⟩
 ·rintro σ Hx ⟨sv,s,l1,l2,o6,o7,o8,o9,o10,o11,o12,rfl,D⟩;obtain⟨dx1,fs1,ox1,nf1,_⟩:=D.f1.obj;obtain⟨dx2,fs2,ox2,nf2,_⟩:=D.f2.obj;refine⟨_,rfl,x1,dx1,fs1,rfl,ox1,nf1 _ (by decide +kernel),[p2,p1],x1,p1,s,_,_,_,_,_,rfl,D.f1,_,rfl,x2,dx2,fs2,rfl,ox2,nf2 _ (by decide +kernel),[p2,p1],x2,p2,s,_,_,_,_,_,rfl,D.f2,rfl,?_⟩;show Q (.bl (decide (V.int (m:Int)=V.int (m:Int)))) Hx
  rw[decide_eq_true rfl];exact q Hx
end
def mkT {K:yda}{h:Heap}{mg:Str->Option Value}(X:K.In h)(G:h.Ns yta mg){C_Words:Addr}{C_Whom:Addr}{C_Card:Addr}{C_Fight:Addr}{t_LETTERS:Tok}{t_FIGURES:Tok}{t_MOST_WORDS:Tok}{A_PARTS:Addr}{t_MOST_RULES:Tok}{A_SORTS:Addr}{A_CHANGES:Addr}{A_WHEN_KINDS:Addr}{A_DEED_KINDS:Addr}{A_PLAYER_KINDS:Addr}{A_TURNS:Addr}{A_LAYERS:Addr}{t_MANY_LAYERS:Tok}{t_FEWEST_PLAYERS:Tok}{t_MOST_PLAYERS:Tok}{t_MOST_CARDS:Tok}{t_MOST_HOLDS:Tok}{t_FIRST_POINTS:Tok}{t_FIRST_HAND:Tok}{t_POINTS:Tok}{t_SCORES:Tok}{t_GONE:Tok}{t_DECKS:Tok}{t_HANDS:Tok}{t_LYING:Tok}{t_HEAP:Tok}{t_MARKS:Tok}{t_WOUNDS:Tok}{t_PLACES:Tok}{t_TURN_COINS:Tok}{A_FULL:Addr}{A_DEED_PLACES:Addr}(tf:Tf K mg)
  (zaxb:yxa K yta "Words" = some (some (.ref C_Words)))
  (zmvb:yag K C_Words ygr=true)
  (zkwb:yhg K C_Words=true)
  (zivb:ynh K C_Words=true)
  (zavb:yjb K (.ref C_Words) "__setattr__" = some (some (.builtin "object.__setattr__")))
  (y_Words___init__:If K C_Words "__init__" "Words.__init__" zqi)
  (y_Words_take:Mf K C_Words "take" "Words.take" ztm)
  (y_Words_take_one_of:Mf K C_Words "take_one_of" "Words.take_one_of" zqj)
  (y_Words_take_name:Mf K C_Words "take_name" "Words.take_name" zwh)
  (y_Words_take_number:Mf K C_Words "take_number" "Words.take_number" zng)
  (y_Words_finish:Mf K C_Words "finish" "Words.finish" zok)
  (zqe:yjb K (.ref C_Words) "words" = some none)
  (zwd:yjb K (.ref C_Words) "place" = some none)
  (zocc:yxa K yta "Whom" = some (some (.ref C_Whom)))
  (zcbc:yag K C_Whom ygr=true)
  (zrbc:yhg K C_Whom=true)
  (zzac:ynh K C_Whom=true)
  (zsac:yjb K (.ref C_Whom) "__setattr__" = some (some (.builtin "object.__setattr__")))
  (y_Whom___init__:If K C_Whom "__init__" "Whom.__init__" zvm)
  (y_Whom_fits:Mf K C_Whom "fits" "Whom.fits" zep)
  (y_Whom_fits_row:Mf K C_Whom "fits_row" "Whom.fits_row" zum)
  (y_Whom_fits_parts:Mf K C_Whom "fits_parts" "Whom.fits_parts" zal)
  (zmp:yjb K (.ref C_Whom) "word" = some none)
  (zgn:yjb K (.ref C_Whom) "value" = some none)
  (zin:yjb K (.ref C_Whom) "parts" = some none)
  (q1_Whom:yjb K (.ref C_Whom) "__class__" = some (some (.builtin "object.__class__")))
  (q2_Whom:yfk K (.builtin "object.__class__") "__get__" = some (some (.builtin "getset_descriptor.__get__")))
  (q3_Whom:ykp K (.builtin "object.__class__")=some true)
  (q4_Whom:yhr K C_Whom (.type "object")=some true)
  (q5_Whom:yqd K (.ref C_Whom) (.type "str")=some false)
  (q6_Whom:yqd K (.ref C_Whom) (.type "int")=some false)
  (q7_Whom:yqd K (.ref C_Whom) (.type "tuple")=some false)
  (q8_Whom:yqd K (.ref C_Whom) (.type "list")=some false)
  (q9_Whom:yqd K (.type "str") (.ref C_Whom)=some false)
  (q10_Whom:yqd K (.type "int") (.ref C_Whom)=some false)
  (zpcc:yxa K yta "Card" = some (some (.ref C_Card)))
  (zdbc:yag K C_Card ygr=true)
  (zsbc:yhg K C_Card=true)
  (zabc:ynh K C_Card=true)
  (ztac:yjb K (.ref C_Card) "__setattr__" = some (some (.builtin "object.__setattr__")))
  (y_Card___init__:If K C_Card "__init__" "Card.__init__" zrj)
  (zvl:yjb K (.ref C_Card) "name" = some none)
  (zbi:yjb K (.ref C_Card) "cost" = some none)
  (zni:yjb K (.ref C_Card) "force" = some none)
  (zug:yjb K (.ref C_Card) "marks" = some none)
  (zmf:yjb K (.ref C_Card) "rules" = some none)
  (zbxb:yxa K yta "Fight" = some (some (.ref C_Fight)))
  (znvb:yag K C_Fight ygr=true)
  (zlwb:yhg K C_Fight=true)
  (zjvb:ynh K C_Fight=true)
  (zbvb:yjb K (.ref C_Fight) "__setattr__" = some (some (.builtin "object.__setattr__")))
  (y_Fight___init__:If K C_Fight "__init__" "Fight.__init__" zri)
  (y_Fight_play:Mf K C_Fight "play" "Fight.play" zwm)
  (y_Fight_let:MfD K C_Fight "let" "Fight.let" zgp [.none])
  (y_Fight_keep:Mf K C_Fight "keep" "Fight.keep" zym)
  (y_Fight_stand:Mf K C_Fight "stand" "Fight.stand" zql)
  (y_Fight_log:Mf K C_Fight "log" "Fight.log" zfp)
  (y_Fight_many:Mf K C_Fight "many" "Fight.many" zxm)
  (zzc:yjb K (.ref C_Fight) "all_cards" = some none)
  (zxd:yjb K (.ref C_Fight) "all_owners" = some none)
  (zpd:yjb K (.ref C_Fight) "now" = some none)
  (zsd:yjb K (.ref C_Fight) "last_log" = some none)
  (ztg:yjb K (.ref C_Fight) "past" = some none)
  (zfmb:yxa K yta "all" = some none)
  (zsob:yxa K yta "dict" = some none)
  (zje:yxa K yta "enumerate" = some none)
  (ztz:yxa K yta "int" = some none)
  (zak:yxa K yta "isinstance" = some none)
  (zuf:yxa K yta "len" = some none)
  (zki:yxa K yta "list" = some none)
  (zbub:yxa K yta "max" = some none)
  (zxyb:yxa K yta "min" = some none)
  (zrh:yxa K yta "range" = some none)
  (zwr:yxa K yta "reversed" = some none)
  (zrob:yxa K yta "set" = some none)
  (zwg:yxa K yta "sorted" = some none)
  (zemb:yxa K yta "str" = some none)
  (zaub:yxa K yta "sum" = some none)
  (zzb:yxa K yta "tuple" = some none)
  (zztb:yxa K yta "zip" = some none)
  (zlr:yxa K yta "LETTERS" = some (some (.str zlx t_LETTERS)))
  (zmr:yxa K yta "FIGURES" = some (some (.str zmx t_FIGURES)))
  (znn:yxa K yta "MOST_WORDS" = some (some (.int 9 t_MOST_WORDS)))
  (zkib:yxa K yta "PARTS" = some (some (.ref A_PARTS)))
  (zeib:ylk (yoi λb=>K.lookup b) (λb=>K.lookup b) A_PARTS zxtb=true)
  (zik:yxa K yta "MOST_RULES" = some (some (.int 3 t_MOST_RULES)))
  (zjib:yxa K yta "SORTS" = some (some (.ref A_SORTS)))
  (zdib:TupK K A_SORTS ["hold","when","instead","may"])
  (ztw:yxa K yta "CHANGES" = some (some (.ref A_CHANGES)))
  (zpw:TupK K A_CHANGES ["mute","steal","gain","lack","be","more","less","per"])
  (zmn:yxa K yta "WHEN_KINDS" = some (some (.ref A_WHEN_KINDS)))
  (zkn:TupK K A_WHEN_KINDS ["come","leave","hurt","gain","lack","lose","score","draw"])
  (zpn:yxa K yta "DEED_KINDS" = some (some (.ref A_DEED_KINDS)))
  (zln:TupK K A_DEED_KINDS ["leave","hurt","gain","lack","lose","score","draw"])
  (zqk:yxa K yta "PLAYER_KINDS" = some (some (.ref A_PLAYER_KINDS)))
  (zpk:TupK K A_PLAYER_KINDS ["lose","score","draw"])
  (ziib:yxa K yta "TURNS" = some (some (.ref A_TURNS)))
  (zcib:TabK K A_TURNS zwtb)
  (ztu:yxa K yta "LAYERS" = some (some (.ref A_LAYERS)))
  (zpu:ylk (yoi λb=>K.lookup b) (λb=>K.lookup b) A_LAYERS zqcb=true)
  (zjj:yxa K yta "MANY_LAYERS" = some (some (.int 5 t_MANY_LAYERS)))
  (zbg:yxa K yta "FEWEST_PLAYERS" = some (some (.int 2 t_FEWEST_PLAYERS)))
  (zii:yxa K yta "MOST_PLAYERS" = some (some (.int 4 t_MOST_PLAYERS)))
  (zkk:yxa K yta "MOST_CARDS" = some (some (.int 16 t_MOST_CARDS)))
  (zjk:yxa K yta "MOST_HOLDS" = some (some (.int 8 t_MOST_HOLDS)))
  (zji:yxa K yta "FIRST_POINTS" = some (some (.int 20 t_FIRST_POINTS)))
  (zpi:yxa K yta "FIRST_HAND" = some (some (.int 3 t_FIRST_HAND)))
  (zlo:yxa K yta "POINTS" = some (some (.int 0 t_POINTS)))
  (zkr:yxa K yta "SCORES" = some (some (.int 1 t_SCORES)))
  (zqm:yxa K yta "GONE" = some (some (.int 2 t_GONE)))
  (zsw:yxa K yta "DECKS" = some (some (.int 3 t_DECKS)))
  (zon:yxa K yta "HANDS" = some (some (.int 4 t_HANDS)))
  (zfh:yxa K yta "LYING" = some (some (.int 5 t_LYING)))
  (zffb:yxa K yta "HEAP" = some (some (.int 6 t_HEAP)))
  (zvj:yxa K yta "MARKS" = some (some (.int 7 t_MARKS)))
  (zwl:yxa K yta "WOUNDS" = some (some (.int 8 t_WOUNDS)))
  (zsu:yxa K yta "PLACES" = some (some (.int 40 t_PLACES)))
  (zoi:yxa K yta "TURN_COINS" = some (some (.int 5 t_TURN_COINS)))
  (zgfb:yxa K yta "FULL" = some (some (.ref A_FULL)))
  (zmrb:TupK K A_FULL ["full"])
  (zkj:yxa K yta "DEED_PLACES" = some (some (.ref A_DEED_PLACES)))
  (zij:ylk (yoi λb=>K.lookup b) (λb=>K.lookup b) A_DEED_PLACES zkm=true):Tx K mg :=
 { tf with ztf:=C_Words,zerb:=ylb X G zaxb,zyd:=⟨zmvb,zkwb,zivb,zavb⟩,zdd:=y_Words___init__,zud:=y_Words_take,zap:=y_Words_take_one_of,zwc:=y_Words_take_name,zac:=y_Words_take_number,zae:=y_Words_finish,zqe:=zqe,zwd:=zwd,ztn:=C_Whom,zqec:=ylb X G zocc,zrsb:=⟨zcbc,zrbc,zzac,zsac⟩,zbv:=y_Whom___init__,zlg:=y_Whom_fits,zav:=y_Whom_fits_row,zxr:=y_Whom_fits_parts,zmp:=zmp,zgn:=zgn,zin:=zin,zjfc:=⟨q1_Whom,q2_Whom,q3_Whom,q4_Whom,q5_Whom,q6_Whom,q7_Whom,q8_Whom,q9_Whom,q10_Whom⟩,znb:=C_Card,zjyb:=ylb X G zpcc,zih:=⟨zdbc,zsbc,zabc,ztac⟩,zmd:=y_Card___init__,zvl:=zvl,zbi:=zbi,zni:=zni,zug:=zug,zmf:=zmf,zza:=C_Fight,zaib:=ylb X G zbxb,zpb:=⟨znvb,zlwb,zjvb,zbvb⟩,zoc:=y_Fight___init__,zfe:=y_Fight_play,zld:=y_Fight_let,zie:=y_Fight_keep,zvd:=y_Fight_stand,zmg:=y_Fight_log,zge:=y_Fight_many,zzc:=zzc,zxd:=zxd,zpd:=zpd,zsd:=zsd,ztg:=ztg,zfmb:=ydc X G zfmb,zsob:=ydc X G zsob,zje:=ydc X G zje,ztz:=ydc X G ztz,zak:=ydc X G zak,zuf:=ydc X G zuf,zki:=ydc X G zki,zbub:=ydc X G zbub,zxyb:=ydc X G zxyb,zrh:=ydc X G zrh,zwr:=ydc X G zwr,zrob:=ydc X G zrob,zwg:=ydc X G zwg,zemb:=ydc X G zemb,zaub:=ydc X G zaub,zzb:=ydc X G zzb,zztb:=ydc X G zztb,zxeb:=t_LETTERS,zlr:=ylb X G zlr,zyeb:=t_FIGURES,zmr:=ylb X G zmr,zqt:=t_MOST_WORDS,znn:=ylb X G znn,zkjb:=A_PARTS,zkib:=ylb X G zkib,zeib:=zeib,zrt:=t_MOST_RULES,zik:=ylb X G zik,zjjb:=A_SORTS,zjib:=ylb X G zjib,zdib:=zdib,zjx:=A_CHANGES,ztw:=ylb X G ztw,zpw:=zpw,zvn:=A_WHEN_KINDS,zmn:=ylb X G zmn,zkn:=zkn,zwn:=A_DEED_KINDS,zpn:=ylb X G zpn,zln:=zln,zsk:=A_PLAYER_KINDS,zqk:=ylb X G zqk,zpk:=zpk,zijb:=A_TURNS,ziib:=ylb X G ziib,zcib:=zcib,zrr:=A_LAYERS,ztu:=ylb X G ztu,zpu:=zpu,zir:=t_MANY_LAYERS,zjj:=ylb X G zjj,zpm:=t_FEWEST_PLAYERS,zbg:=ylb X G zbg,zuo:=t_MOST_PLAYERS,zii:=ylb X G zii,ztt:=t_MOST_CARDS,zkk:=ylb X G zkk,zst:=t_MOST_HOLDS,zjk:=ylb X G zjk,zvo:=t_FIRST_POINTS,zji:=ylb X G zji,zut:=t_FIRST_HAND,zpi:=ylb X G zpi,zplb:=t_POINTS,zlo:=ylb X G zlo,zolb:=t_SCORES,zkr:=ylb X G zkr,znyb:=t_GONE,zqm:=ylb X G zqm,zrrb:=t_DECKS,zsw:=ylb X G zsw,zqrb:=t_HANDS,zon:=ylb X G zon,zprb:=t_LYING,zfh:=ylb X G zfh,zmyb:=t_HEAP,zffb:=ylb X G zffb,zorb:=t_MARKS,zvj:=ylb X G zvj,znlb:=t_WOUNDS,zwl:=ylb X G zwl,zqlb:=t_PLACES,zsu:=ylb X G zsu,zpt:=t_TURN_COINS,zoi:=ylb X G zoi,zfgb:=A_FULL,zgfb:=ylb X G zgfb,zmrb:=zmrb,zlh:=A_DEED_PLACES,zkj:=ylb X G zkj,zij:=zij }
theorem all_mk {l:yop}{w:World}{K:yda}{mg:Str->Option Value}{fa:Addr}(hfa:mg "law" = some (.ref fa))(T:Tx K mg) :
  ∃fd:yrf,(∀(s:Shared) (v:Value),yuq s fd ⟨[v],[]⟩ [("_law_script",v)])∧∀base:Heap,K.In base->base.Ns yta mg->FnOk l.prog w K mg base CX0 15 fa fd ["_law_script"] (zrub K):=by
 cases zxec T.ztob hfa;refine⟨_,(λs v=>?_),λbase kb _=>ziec T kb⟩;obtain⟨oc,od,kV,doc,pm,an,cdv,ct,osl,e,lk,hcd⟩:=T.ztob.F.ex;rw[e];exact .of_eq rfl
theorem walk {l:yop}{q:yzb}{loose:List Str}{XP:(Str->Option Value)->Heap->Prop}{YP:World->Heap->Prop}{d:DefRec}{K:Params->yda}(hn:l.most=some 63)(hdf:d.params.defaults=[])
  (hY:∀(w:World) (h:Heap),YP w h->(K w.params).In h)
  (F:∀(w:World) (mg:Str->Option Value) fa (h:Heap),(K w.params).In h->h.Ns yta mg->mg d.name=some (.ref fa) →
   ∃fd:yrf,(∀(s:Shared) (u:Value),yuq s fd ⟨[u],[]⟩ [("_law_script",u)])∧∀base:Heap,(K w.params).In base->base.Ns yta mg->FnOk l.prog w (K w.params) mg base CX0 15 fa fd ["_law_script"] (zrub (K w.params))) :
  ytt q loose XP YP l.row.toRowW d [] (λf vs=>yst f vs) :=
 L2.zlzb (n:=63) (k:=15) (x:="_law_script") (CX:=λ_=>CX0) (sp:=λw=>zrub (K w.params)) hn (by decide) hdf ⟨rfl,by decide,by decide⟩ hY F (λ_ _ a ns hl hO hS=>⟨a,ns,rfl,SqF.of hO hS,hl,λ_=>rfl⟩) λ_ _ _ _ _ z=>z
end K37
namespace PySem.W.Fast
def tw6412649636358142240:=()
def tw3692058506144372273:=()
def tw18095751506540462327:=()
def tw3084295039878484796:=()
def tw7123162609790482823:=()
def tw16900722083669832075:=()
def tw10007922592873739098:=()
def tw14439117160735557708:=()
def tw14456157200406360131:=()
def tw13123159361238547710:=()
def tw8545651334240314372:=()
def tw16950632759332243661:=()
def tw12931687354387806148:=()
def tw3559993460676285733:=()
def tw17036819220423614718:=()
def tw2902118706658614473:=()
def tw10388095892121240310:=()
def tw9314910232142563588:=()
def tw16839796644121502662:=()
def tw13970518487069526026:=()
def tw14642557120502298883:=()
def tw18160501383638298004:=()
def tw5904371455450461530:=()
def tw13768721435897773682:=()
def tw12032869916771325734:=()
def tw5870661823562503529:=()
def tw11634009792632121894:=()
def tw17247963742743153935:=()
def tw7756637861912252701:=()
def tw14251798332773292702:=()
def tw8587606697894005763:=()
def tw4960460229617969805:=()
def tw2876071813977223889:=()
def tw8356526734131095447:=()
def tw9371053727427592303:=()
def tw14284656833772292177:=()
def tw801523866525366395:=()
def tw6284912184770527715:=()
def tw12948248767964577636:=()
def tw7213257124273127098:=()
def tw2904557005475224189:=()
def tw6877363410924055682:=()
def tw15530629095935653511:=()
def tw11467611349344206962:=()
def tw17469161366881871357:=()
def tw6876385833834678945:=()
def tw17181113932687154533:=()
def tw3144919145936929059:=()
def tw9887074156375757328:=()
def tw17786947182116377066:=()
def tw1910672527716323104:=()
def tw1265456804799654417:=()
def tw2038146458059449184:=()
def tw15278340135012176206:=()
def tw12798839582379536070:=()
def tw13060378502883984637:=()
def tw8851506087316395121:=()
def tw312134814687049313:=()
def tw13976354047992252627:=()
def tw1294351701508344017:=()
def tw2539214044527906366:=()
def tw18260716203848423283:=()
def tw14287668820022784619:=()
def tw4318938134225309490:=()
def tw17920346233076834998:=()
def tw1219402803297536027:=()
def tw14541684589392620891:=()
def tw14971146596737761806:=()
def tw8036791812428172184:=()
def tw17886382842112416655:=()
def tw4621360715488413356:=()
def tw16801775623580903750:=()
def tw15037184601957003499:=()
def tw11767056817143338372:=()
def tw491050463039082785:=()
def tw1003161025254403997:=()
def tw6204539182967345342:=()
def tw14113891656769267408:=()
def tw6586156870285731990:=()
def tw16221918211867592771:=()
def tw9128256405129860941:=()
def tw13095569920836309955:=()
def tw263655032760691003:=()
def tw13779784965425583151:=()
def tw8261321915090809126:=()
def tw5917098351677084653:=()
def tw5998961391419647015:=()
def tw163580228980893514:=()
def tw17064277523867804526:=()
def tw2245407584268149338:=()
def tw6979934584261479116:=()
def tw17333341453001118271:=()
def tw836379033302808043:=()
def tw3494070113438204116:=()
def tw10445309423135409303:=()
def tw17517332090322265721:=()
def tw11855323603789008715:=()
def tw13731909482566782205:=()
def tw1466688513547575024:=()
def tw10449919769060415846:=()
def tw5691485640893203456:=()
def tw1456575950738746729:=()
def tw366428448910269550:=()
def tw5933977504395875086:=()
def tw3820145776683063939:=()
def tw6427852119424983565:=()
def tw12276602761204364975:=()
def tw11225869418194834581:=()
def tw5292393311753030497:=()
def tw1653384651442733921:=()
def tw6508338587633791377:=()
def tw14582115483165178674:=()
def tw15680980953118750556:=()
def tw166133888410473474:=()
def tw7796463042720207911:=()
def tw15698147023418235543:=()
def tw7653612692328196232:=()
def tw4726441152076472078:=()
def tw4722254590299987983:=()
def tw10266354822660390845:=()
def tw8017993400928134371:=()
def tw13223931594433494857:=()
def tw10705195553312749976:=()
def tw15971619382548048211:=()
def tw5688780032834563077:=()
def tw6532317090659659181:=()
def tw3480632469637537509:=()
def tw1668427638807330522:=()
def tw10141729386851841846:=()
def tw7612485533771530012:=()
def tw7584266356552654894:=()
def tw10708473382995503779:=()
def tw4292985634843247153:=()
def tw6429418542323379247:=()
def tw17028544832040300878:=()
def tw2895477951658081685:=()
def tw4477873314944997767:=()
def tw4180143866329474904:=()
def tw13446207115655823278:=()
def tw712985325841679058:=()
def tw3088183664852680184:=()
def tw13443028657429071083:=()
def tw14604794226962574564:=()
def tw10687742416943970940:=()
def tw4733942940398926633:=()
def tw9398185245077146791:=()
def tw1756892667782054224:=()
def tw17151648429919329451:=()
def tw17296700617322976316:=()
def tw13053203046753876705:=()
def tw11143582940030557734:=()
def tw10975507569337259422:=()
def tw5677751268863572087:=()
def tw4146315866739690121:=()
def tw1294766370091725878:=()
def tw6218493807625334667:=()
def tw14774000284797566890:=()
def tw9775435263985156773:=()
def tw3835621874661112626:=()
def tw6177959289065777116:=()
def tw3743764563956934172:=()
def tw158680058587496222:=()
def tw8236725686658694971:=()
def tw13770453608514180677:=()
def tw17480229631071685276:=()
def tw1913486478821447120:=()
def tw6809579992285025627:=()
def tw12092868868391237421:=()
def tw11991036172749452124:=()
def tw14730837241637688754:=()
def tw6121582824621432715:=()
def tw5900986355058076884:=()
def tw14508624242496597505:=()
def tw4699527557515976280:=()
def tw9203543630053501974:=()
def tw3881024872019357076:=()
def tw2255868041989664963:=()
def tw8722457459254279538:=()
def tw12997226939439436386:=()
def tw14664026105610131142:=()
def tw2434372427025736765:=()
def tw17796851053422909344:=()
def tw905751826363880715:=()
def tw13370509659692473939:=()
def tw182014892697894158:=()
def tw5172599771712943181:=()
def tw2094834959299283369:=()
def tw10445029511486722119:=()
def tw9786491129829672483:=()
def tw10696397090424785556:=()
def tw16248630417061964180:=()
def tw656646226189846771:=()
def tw16248567596018611065:=()
def tw15702133877303707119:=()
def tw7041432690977421947:=()
def tw14398494785045716003:=()
def tw16869155052900526743:=()
def tw2478609593861024372:=()
def tw7627326812981018238:=()
def tw1303764865492805704:=()
def tw2901477938763932061:=()
def tw8719097656991515225:=()
def tw3633192076515098866:=()
def tw1721989461260668789:=()
def tw2898319493669113697:=()
def tw17252903606841977169:=()
def tw13688430517651167475:=()
def tw5332408004638291307:=()
def tw15535026090106646874:=()
def tw15225675900580708747:=()
def tw2747007270042686029:=()
def tw6594732217810633469:=()
def tw7976331901982157409:=()
def tw15357108170012662736:=()
def tw1573412933007299221:=()
def tw5198706532476939164:=()
def tw5984460070990110894:=()
def tw14992396942894381198:=()
def tw1202248817099079871:=()
def tw15390796926353729266:=()
def tw4930284742871191246:=()
def tw17397436770839088796:=()
def tw5789754232735745889:=()
def tw5975533420162810054:=()
def tw5812554194653480268:=()
def tw5523507903262382209:=()
def tw10120317774630417665:=()
def tw17795758289272972404:=()
def tw9519280224920839195:=()
def tw11871510836235055882:=()
def tw10817247342930491497:=()
def tw3233987915025605293:=()
def tw6600288406757710619:=()
def tw18311357969027833814:=()
def tw7022633309578562599:=()
def tw3881819135380798596:=()
def tw11753732972161854717:=()
def tw12265713935779147423:=()
def tw14698874982643728156:=()
def tw17892701203841346813:=()
def tw5231484104205066496:=()
def tw5446723192964333486:=()
def tw7899634528559969724:=()
def tw353565583899410941:=()
def tw5285369309695687670:=()
def tw7629342552464335371:=()
def tw8705789534417258585:=()
def tw14656498249090515304:=()
def tw12262590230500582449:=()
def tw7457155345542541541:=()
def tw17715040539800543252:=()
def tw2052996808909942111:=()
def tw8810843639369823104:=()
def tw9529738015724928232:=()
def tw16586757073696037544:=()
def tw593369638557973873:=()
def tw17268978346559967780:=()
def tw4992594646525604667:=()
def tw9376828767487515497:=()
def tw6138998938182946952:=()
def tw12944955055019504176:=()
def tw11442307227560286510:=()
def tw1297906985966863057:=()
def tw5657205183813139466:=()
def tw6916688288461604693:=()
def tw7483881627750857893:=()
def tw5586827649141817655:=()
def tw309366170439724381:=()
def tw12183653269188914208:=()
def tw6974810908971752798:=()
def tw10557891540461165049:=()
def tw15729807537316988401:=()
def tw6843054164690107390:=()
def tw15291931045966444531:=()
def tw12657210109309501962:=()
def tw12723896879849557401:=()
def tw10850211190298855948:=()
def tw14850077314995856826:=()
def tw7624124247271560025:=()
def tw1184892676077552027:=()
def tw4852965165240268247:=()
def tw14887219751270180823:=()
def tw11203788212926324366:=()
def tw1416219507269978888:=()
def tw14729120623974781633:=()
def tw14594135532528427509:=()
def tw9718583653393905966:=()
def tw254404669776326886:=()
def tw13112363411117131239:=()
def tw15412945338160239827:=()
def tw12689589717571057564:=()
def tw14854747687258808925:=()
def tw4137104167787821843:=()
def tw18274816121684093261:=()
def tw8598353234486397794:=()
def tw6442279627950473898:=()
def tw15438152432555413926:=()
def tw14132833309289626389:=()
def tw10552808991417021293:=()
def tw1555951795971111261:=()
def tw7997099130427524281:=()
def tw7001913437996363593:=()
def tw13855168517647050961:=()
def tw10114490462034986615:=()
def tw16756401627118367516:=()
def tw5034562374733358523:=()
def tw12583637600945538944:=()
def tw8218148935869270019:=()
def tw2542827352461011048:=()
def tw12044231810686987183:=()
def tw4397430784899504796:=()
def tw2836905062722817949:=()
def tw14740699192793846385:=()
def tw8850443146148746895:=()
def tw5259396149034977554:=()
end PySem.W.Fast
open PySem PySem.W PyProof.Rows
set_option maxRecDepth 100000 in
set_option maxHeartbeats 0 in
theorem PySem.Challenge.cw_turnstack_k37_whole_plain_fights_holds : PySem.Challenge.rw_turnstack_k37_whole_plain_fights.Holds := by
  w_on; o_law; k_head; (case hw => w_witness2)
  k_fill
  refine K37.walk (l := PySem.Challenge.rw_turnstack_k37_whole_plain_fights) rfl rfl (fun w h Y => PySem.W.kIn_of Y) ?F
  case F =>
    intro w mg fa h KX G hmg
    refine' K37.all_mk hmg (K37.mkT KX G ⟨L2.gf_of KX G ?qea ?qfa ?qga ?qha, L2.gf_of KX G ?qia ?qja ?qka ?qla, L2.gf_of KX G ?qma ?qna ?qoa ?qpa, L2.gf_of KX G ?qoc ?qpc ?qqc ?qrc, L2.gf_of KX G ?qsc ?qtc ?quc ?qvc, L2.gf_of KX G ?qwc ?qxc ?qyc ?qzc, L2.gf_of KX G ?qad ?qbd ?qcd ?qdd, L2.gf_of KX G ?qjd ?qkd ?qld ?qmd, L2.gf_of KX G ?qnd ?qod ?qpd ?qqd, L2.gf_of KX G ?qrd ?qsd ?qtd ?qud, L2.gf_of KX G ?qvd ?qwd ?qxd ?qyd, L2.gf_of KX G ?qzd ?qae ?qbe ?qce, L2.gf_of KX G ?qde ?qee ?qfe ?qge, L2.gf_of KX G ?qhe ?qie ?qje ?qke, L2.gf_of KX G ?qle ?qme ?qne ?qoe, L2.gf_of KX G ?qpe ?qqe ?qre ?qse, L2.gf_of KX G ?qte ?que ?qve ?qwe, L2.gf_of KX G ?qxe ?qye ?qze ?qaf, L2.gf_of KX G ?qbf ?qcf ?qdf ?qef, L2.gf_of KX G ?qff ?qgf ?qhf ?qif, L2.gf_of KX G ?qjf ?qkf ?qlf ?qmf, L2.gf_of KX G ?qnf ?qof ?qpf ?qqf, L2.gf_of KX G ?qrf ?qsf ?qtf ?quf, L2.gf_of KX G ?qvf ?qwf ?qxf ?qyf, L2.gf_of KX G ?qzf ?qag ?qbg ?qcg, L2.gf_of KX G ?qdg ?qeg ?qfg ?qgg, L2.gf_of KX G ?qhg ?qig ?qjg ?qkg, L2.gf_of KX G ?qlg ?qmg ?qng ?qog, L2.gf_of KX G ?qpg ?qqg ?qrg ?qsg, L2.gf_of KX G ?qtg ?qug ?qvg ?qwg, L2.gf_of KX G ?qxg ?qyg ?qzg ?qah, L2.gf_of KX G ?qbh ?qch ?qdh ?qeh, L2.gf_of KX G ?qfh ?qgh ?qhh ?qih, L2.gf_of KX G ?qjh ?qkh ?qlh ?qmh, L2.gf_of KX G ?qnh ?qoh ?qph ?qqh, L2.gf_of KX G ?qrh ?qsh ?qth ?quh, L2.gf_of KX G ?qvh ?qwh ?qxh ?qyh, L2.gf_of KX G ?qzh ?qai ?qbi ?qci, L2.gf_of KX G ?qdi ?qei ?qfi ?qgi, L2.gf_of KX G ?qhi ?qii ?qji ?qki, L2.gf_of KX G ?qli ?qmi ?qni ?qoi, L2.gf_of KX G ?qpi ?qqi ?qri ?qsi, L2.gf_of KX G ?qti ?qui ?qvi ?qwi, L2.gf_of KX G ?qxi ?qyi ?qzi ?qaj, L2.gf_of KX G ?qbj ?qcj ?qdj ?qej, L2.gf_of KX G ?qfj ?qgj ?qhj ?qij, L2.gf_of KX G ?qjj ?qkj ?qlj ?qmj, L2.gf_of KX G ?qnj ?qoj ?qpj ?qqj, L2.gf_of KX G ?qrj ?qsj ?qtj ?quj, L2.gf_of KX G ?qvj ?qwj ?qxj ?qyj, L2.gf_of KX G ?qzj ?qak ?qbk ?qck, L2.gf_of KX G ?qdk ?qek ?qfk ?qgk, L2.gf_of KX G ?qhk ?qik ?qjk ?qkk, L2.gf_of KX G ?qlk ?qmk ?qnk ?qok, L2.gf_of KX G ?qpk ?qqk ?qrk ?qsk, L2.gf_of KX G ?qtk ?quk ?qvk ?qwk, L2.gf_of KX G ?qxk ?qyk ?qzk ?qal, L2.gf_of KX G ?qbl ?qcl ?qdl ?qel, L2.gf_of KX G ?qfl ?qgl ?qhl ?qil, L2.gf_of KX G ?qjl ?qkl ?qll ?qml, L2.gf_of KX G ?qnl ?qol ?qpl ?qql, L2.gf_of KX G ?qrl ?qsl ?qtl ?qul, L2.gf_of KX G ?qvl ?qwl ?qxl ?qyl, L2.gf_of KX G ?qzl ?qam ?qbm ?qcm, L2.gf_of KX G ?qdm ?qem ?qfm ?qgm, L2.gf_of KX G ?qhm ?qim ?qjm ?qkm, L2.gf_of KX G ?qlm ?qmm ?qnm ?qom, L2.gf_of KX G ?qpm ?qqm ?qrm ?qsm, L2.gf_of KX G ?qtm ?qum ?qvm ?qwm, L2.gf_of KX G ?qxm ?qym ?qzm ?qan, L2.gf_of KX G ?qbn ?qcn ?qdn ?qen, L2.gf_of KX G ?qfn ?qgn ?qhn ?qin, L2.gf_of KX G ?qjn ?qkn ?qln ?qmn, L2.gf_of KX G ?qxo ?qyo ?qzo ?qap, L2.gf_of KX G ?qbp ?qcp ?qdp ?qep, L2.gf_of KX G ?qfp ?qgp ?qhp ?qip, L2.gf_of KX G ?qjp ?qkp ?qlp ?qmp, L2.gf_of KX G ?qnp ?qop ?qpp ?qqp, L2.gf_of KX G ?qrp ?qsp ?qtp ?qup, L2.gf_of KX G ?qvp ?qwp ?qxp ?qyp, L2.gf_of KX G ?qzp ?qaq ?qbq ?qcq, L2.gf_of KX G ?qdq ?qeq ?qfq ?qgq, L2.gf_of KX G ?qhq ?qiq ?qjq ?qkq, L2.gf_of KX G ?qlq ?qmq ?qnq ?qoq, L2.gf_of KX G ?qpq ?qqq ?qrq ?qsq, L2.gf_of KX G ?qtq ?quq ?qvq ?qwq, L2.gf_of KX G ?qxq ?qyq ?qzq ?qar, L2.gf_of KX G ?qbr ?qcr ?qdr ?qer⟩ ?qaa ?qfr ?qgr ?qhr ?qir (L2.if_of ?qqa ?qra ?qsa ?qta ?qua ?qjr ?qkr) (L2.mf_of ?qva ?qwa ?qxa ?qya ?qza) (L2.mf_of ?qab ?qbb ?qcb ?qdb ?qeb) (L2.mf_of ?qfb ?qgb ?qhb ?qib ?qjb) (L2.mf_of ?qkb ?qlb ?qmb ?qnb ?qob) (L2.mf_of ?qpb ?qqb ?qrb ?qsb ?qtb) ?qlr ?qmr ?qba ?qnr ?qor ?qpr ?qqr (L2.if_of ?qub ?qvb ?qwb ?qxb ?qyb ?qrr ?qsr) (L2.mf_of ?qzb ?qac ?qbc ?qcc ?qdc) (L2.mf_of ?qec ?qfc ?qgc ?qhc ?qic) (L2.mf_of ?qjc ?qkc ?qlc ?qmc ?qnc) ?qtr ?qur ?qvr ?qwr ?qxr ?qyr ?qzr ?qas ?qbs ?qcs ?qds ?qes ?qfs ?qca ?qgs ?qhs ?qis ?qjs (L2.if_of ?qed ?qfd ?qgd ?qhd ?qid ?qks ?qls) ?qms ?qns ?qos ?qps ?qqs ?qda ?qrs ?qss ?qts ?qus (L2.if_of ?qnn ?qon ?qpn ?qqn ?qrn ?qvs ?qws) (L2.mf_of ?qsn ?qtn ?qun ?qvn ?qwn) (L2.mfd_of ?qxn ?qyn ?qzn ?qao ?qbo ?qco) (L2.mf_of ?qdo ?qeo ?qfo ?qgo ?qho) (L2.mf_of ?qio ?qjo ?qko ?qlo ?qmo) (L2.mf_of ?qno ?qoo ?qpo ?qqo ?qro) (L2.mf_of ?qso ?qto ?quo ?qvo ?qwo) ?qxs ?qys ?qzs ?qat ?qbt ?qct ?qdt ?qet ?qft ?qgt ?qht ?qit ?qjt ?qkt ?qlt ?qmt ?qnt ?qot ?qpt ?qqt ?qrt ?qst ?qtt ?qut ?qvt ?qwt ?qxt ?qyt ?qzt ?qau ?qbu ?qcu ?qdu ?qeu ?qfu ?qgu ?qhu ?qiu ?qju ?qku ?qlu ?qmu ?qnu ?qou ?qpu ?qqu ?qru ?qsu ?qtu ?quu ?qvu ?qwu ?qxu ?qyu ?qzu ?qav ?qbv ?qcv ?qdv ?qev ?qfv ?qgv ?qhv ?qiv)
    case qaa | qba | qca | qda | qea | qfa | qga | qha | qia | qja | qka | qla | qma | qna | qoa | qpa | qqa | qra | qsa | qta | qua | qva | qwa | qxa | qya | qza | qab | qbb | qcb | qdb | qeb | qfb | qgb | qhb | qib | qjb | qkb | qlb | qmb | qnb | qob | qpb | qqb | qrb | qsb | qtb | qub | qvb | qwb | qxb | qyb | qzb | qac | qbc | qcc | qdc | qec | qfc | qgc | qhc | qic | qjc | qkc | qlc | qmc | qnc | qoc | qpc | qqc | qrc | qsc | qtc | quc | qvc | qwc | qxc | qyc | qzc | qad | qbd | qcd | qdd | qed | qfd | qgd | qhd | qid | qjd | qkd | qld | qmd | qnd | qod | qpd | qqd | qrd | qsd | qtd | qud | qvd | qwd | qxd | qyd | qzd | qae | qbe | qce | qde | qee | qfe | qge | qhe | qie | qje | qke | qle | qme | qne | qoe | qpe | qqe | qre | qse | qte | que | qve | qwe | qxe | qye | qze | qaf | qbf | qcf | qdf | qef | qff | qgf | qhf | qif | qjf | qkf | qlf | qmf | qnf | qof | qpf | qqf | qrf | qsf | qtf | quf | qvf | qwf | qxf | qyf | qzf | qag | qbg | qcg | qdg | qeg | qfg | qgg | qhg | qig | qjg | qkg | qlg | qmg | qng | qog | qpg | qqg | qrg | qsg | qtg | qug | qvg | qwg | qxg | qyg | qzg | qah | qbh | qch | qdh | qeh | qfh | qgh | qhh | qih | qjh | qkh | qlh | qmh | qnh | qoh | qph | qqh | qrh | qsh | qth | quh | qvh | qwh | qxh | qyh | qzh | qai | qbi | qci | qdi | qei | qfi | qgi | qhi | qii | qji | qki | qli | qmi | qni | qoi | qpi | qqi | qri | qsi | qti | qui | qvi | qwi | qxi | qyi | qzi | qaj | qbj | qcj | qdj | qej | qfj | qgj | qhj | qij | qjj | qkj | qlj | qmj | qnj | qoj | qpj | qqj | qrj | qsj | qtj | quj | qvj | qwj | qxj | qyj | qzj | qak | qbk | qck | qdk | qek | qfk | qgk | qhk | qik | qjk | qkk | qlk | qmk | qnk | qok | qpk | qqk | qrk | qsk | qtk | quk | qvk | qwk | qxk | qyk | qzk | qal | qbl | qcl | qdl | qel | qfl | qgl | qhl | qil | qjl | qkl | qll | qml | qnl | qol | qpl | qql | qrl | qsl | qtl | qul | qvl | qwl | qxl | qyl | qzl | qam | qbm | qcm | qdm | qem | qfm | qgm | qhm | qim | qjm | qkm | qlm | qmm | qnm | qom | qpm | qqm | qrm | qsm | qtm | qum | qvm | qwm | qxm | qym | qzm | qan | qbn | qcn | qdn | qen | qfn | qgn | qhn | qin | qjn | qkn | qln | qmn | qnn | qon | qpn | qqn | qrn | qsn | qtn | qun | qvn | qwn | qxn | qyn | qzn | qao | qbo | qco | qdo | qeo | qfo | qgo | qho | qio | qjo | qko | qlo | qmo | qno | qoo | qpo | qqo | qro | qso | qto | quo | qvo | qwo | qxo | qyo | qzo | qap | qbp | qcp | qdp | qep | qfp | qgp | qhp | qip | qjp | qkp | qlp | qmp | qnp | qop | qpp | qqp | qrp | qsp | qtp | qup | qvp | qwp | qxp | qyp | qzp | qaq | qbq | qcq | qdq | qeq | qfq | qgq | qhq | qiq | qjq | qkq | qlq | qmq | qnq | qoq | qpq | qqq | qrq | qsq | qtq | quq | qvq | qwq | qxq | qyq | qzq | qar | qbr | qcr | qdr | qer | qfr | qgr | qhr | qir | qjr | qkr | qlr | qmr | qnr | qor | qpr | qqr | qrr | qsr | qtr | qur | qvr => k_is
    case qwr | qxr | qyr | qzr | qas | qbs | qcs | qds | qes | qfs => first | k_is | kit_is | kernel_rfl
    case qgs | qhs | qis | qjs | qks | qls | qms | qns | qos | qps | qqs | qrs | qss | qts | qus | qvs | qws | qxs | qys | qzs | qat | qbt | qct | qdt | qet | qft | qgt | qht | qit | qjt | qkt | qlt | qmt | qnt | qot | qpt | qqt | qrt | qst | qtt | qut | qvt | qwt => k_is
    case qxt => first | kernel_rfl | (unfold L2.TupK; kernel_rfl)
    case qyt | qzt => k_is
    case qau => first | kernel_rfl | (unfold L2.TupK; kernel_rfl)
    case qbu => k_is
    case qcu => first | kernel_rfl | (unfold L2.TupK; kernel_rfl)
    case qdu => k_is
    case qeu => first | kernel_rfl | (unfold L2.TupK; kernel_rfl)
    case qfu => k_is
    case qgu => first | kernel_rfl | (unfold L2.TupK; kernel_rfl)
    case qhu => k_is
    case qiu => first | kernel_rfl | (unfold L2.TupK; kernel_rfl)
    case qju => k_is
    case qku => first | kernel_rfl | (unfold L2.TupK; kernel_rfl)
    case qlu => k_is
    case qmu => first | kernel_rfl | (unfold L2.TupK; kernel_rfl)
    case qnu | qou | qpu | qqu | qru | qsu | qtu | quu | qvu | qwu | qxu | qyu | qzu | qav | qbv | qcv | qdv | qev | qfv => k_is
    case qgv => first | kernel_rfl | (unfold L2.TupK; kernel_rfl)
    case qhv => k_is
    case qiv => first | kernel_rfl | (unfold L2.TupK; kernel_rfl)
