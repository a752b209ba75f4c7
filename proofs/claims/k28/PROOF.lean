import PyProof.Rows.All
import Wide.All
import OpenK.AllK
import Wide.FinOn
import Lean
import PyProof.EqAt
import PyProof.EqKinds
import PyProof.TupleCall
import PyProof.StrLawsTight
import PyProof.StrLawsChain
import KE.KSortTup
import PyProof.EnumIter
import PyProof.EnumMake
import PyProof.EnumFor
import KE.KDictOf
import PyProof.AttrMissHeap
import PyProof.Walks
import PyProof.WalksMore
import PyProof.P3In
import PyProof.DictIter
import PyProof.SumWalkG
import PyProof.Rows.SumAny
import PyProof.FactsAll.subtypes_4
import PyProof.ListOps
import PyProof.ListRange
import PyProof.FactsAll.tuple
import PyProof.ListMulRoad
import PyProof.EnumIter
import PyProof.EnumMake
import PyProof.EnumFor
import PySem.Challenge.RW_turnstack_k28_whole_no_card_is_lost
set_option Elab.async false
set_option linter.all false
set_option maxRecDepth 100000
inductive Ex2 {A1 A2 : Type} (p : A1 → A2 → Prop) : Prop
  | mk (a1 : A1) (a2 : A2) (h : p a1 a2) : Ex2 p
inductive Ex3 {A1 A2 A3 : Type} (p : A1 → A2 → A3 → Prop) : Prop
  | mk (a1 : A1) (a2 : A2) (a3 : A3) (h : p a1 a2 a3) : Ex3 p
inductive Ex4 {A1 A2 A3 A4 : Type} (p : A1 → A2 → A3 → A4 → Prop) : Prop
  | mk (a1 : A1) (a2 : A2) (a3 : A3) (a4 : A4) (h : p a1 a2 a3 a4) : Ex4 p
inductive Ex5 {A1 A2 A3 A4 A5 : Type} (p : A1 → A2 → A3 → A4 → A5 → Prop) : Prop
  | mk (a1 : A1) (a2 : A2) (a3 : A3) (a4 : A4) (a5 : A5) (h : p a1 a2 a3 a4 a5) : Ex5 p
inductive Ex6 {A1 A2 A3 A4 A5 A6 : Type} (p : A1 → A2 → A3 → A4 → A5 → A6 → Prop) : Prop
  | mk (a1 : A1) (a2 : A2) (a3 : A3) (a4 : A4) (a5 : A5) (a6 : A6) (h : p a1 a2 a3 a4 a5 a6) : Ex6 p
inductive Ex7 {A1 A2 A3 A4 A5 A6 A7 : Type} (p : A1 → A2 → A3 → A4 → A5 → A6 → A7 → Prop) : Prop
  | mk (a1 : A1) (a2 : A2) (a3 : A3) (a4 : A4) (a5 : A5) (a6 : A6) (a7 : A7) (h : p a1 a2 a3 a4 a5 a6 a7) : Ex7 p
inductive Ex8 {A1 A2 A3 A4 A5 A6 A7 A8 : Type} (p : A1 → A2 → A3 → A4 → A5 → A6 → A7 → A8 → Prop) : Prop
  | mk (a1 : A1) (a2 : A2) (a3 : A3) (a4 : A4) (a5 : A5) (a6 : A6) (a7 : A7) (a8 : A8) (h : p a1 a2 a3 a4 a5 a6 a7 a8) : Ex8 p
inductive Ex9 {A1 A2 A3 A4 A5 A6 A7 A8 A9 : Type} (p : A1 → A2 → A3 → A4 → A5 → A6 → A7 → A8 → A9 → Prop) : Prop
  | mk (a1 : A1) (a2 : A2) (a3 : A3) (a4 : A4) (a5 : A5) (a6 : A6) (a7 : A7) (a8 : A8) (a9 : A9) (h : p a1 a2 a3 a4 a5 a6 a7 a8 a9) : Ex9 p
inductive Ex10 {A1 A2 A3 A4 A5 A6 A7 A8 A9 A10 : Type} (p : A1 → A2 → A3 → A4 → A5 → A6 → A7 → A8 → A9 → A10 → Prop) : Prop
  | mk (a1 : A1) (a2 : A2) (a3 : A3) (a4 : A4) (a5 : A5) (a6 : A6) (a7 : A7) (a8 : A8) (a9 : A9) (a10 : A10) (h : p a1 a2 a3 a4 a5 a6 a7 a8 a9 a10) : Ex10 p
set_option maxHeartbeats 0
noncomputable section
open PySem renaming wpAny_bind→yaa,wpAny_pure→yfa,sizeLine→ywa,mainGlobals→yab,boot_len→yjb,Program→yvb,wpAny_holding→ykc,codeAny_builtin→yqc,wpAny_setState_of→yuc,starEach→yxc,intKind→yad,wpAny_newObj_type→ycd,NameKind→ygd,strKind→ykd,wpAny_call_entry→ysd,SetTable→yvd,wpAny_truthy_bool→yee,wpAny_askSetting→yle,wpAny_mono→yne,plainId_quiet→yse,compareOp→yte,wpAny_ite_split→yve,wpAny_callSpecial?_slot→yze,Builtin→yhf,scanBound→ykf,FuncData→ypf,codeAny_mono→ywf,wpAny_setField_rec→yyf,wpAny_passesOwn→yeg,slot_dict_getitem→ykg,fits_of_scanBound→ylg,pickOrder→yng,mem_of_lookup→ywg,wpAny_getItem_str_slice→yzg,binaryOp→yhh,wpAny_Call_Name_kw→yih,bootBuiltins→ykh,wpAny_updateSeq→ynh,setsByText→yuh,wpAny_runValue→yzh,relayAll→ydi,wpAny_isInstance→yei,wpAny_typeOf→ymi,codeAny→yqi,attributeBase→yri,assignEach→yhj,wpAny_pyIter_list→yij,wpAny_sequenceKey→ylj,sliceBounds→ymj,call_meets→ynj,wpAny_storeSet_of→yoj,weight_type_call_type→yvj,noFill_tuple_add→ybk,setNext→ydk,codeAny_call_builtin→ygk,wpAny_rule→ylk,wpAny_execs_nil→ynk,letOwnedTupleGo→yok,post_val_or_str→yrk,ElemsOf→ysk,putSet_of→ytk,codeAny_of_tree→yuk,wpAny_setEntries_of→yvk,wpAny_pyIter_tuple→yil,wpAny_load→yzl,foldedSetIterable→yam,typeIs_str→ycm,wpAny_comprehension_free→ydm,seqItems?→ygm,wpAny_pyIter_slot→yhm,behindInMarks→yqm,keywordEach→yrm,seq_tuple_add→ysm,unsupported→yum,wpAny_newList→yxm,check_set_init_1→ydn,wpAny_pyNext_list_item→yin,Within→yln,holding→ynn,wpAny_pyNext_list_end→yon,concat_meets→yvn,getItem→ywn,setAddHashed→ybo,hashByValue_scannable→yco,builtinLookup_eq_fast→yeo,wpAny_ite_false→yio,wpAny_call→yro,sliceRange_one→yto,isSubtype_type→yuo,wpAny_standAt→yep,setField→ymp,updateSeq→ynp,BindsTo→yvp,Keyword→ywp,callerA→yyp,relabel→yzp,isInstance→ybq,seqSlot_of→yqq,Operator→yrq,backToKw→ysq,swapsWith→ytq,getMethod→yuq,seqIndex?→yxq,notedBy→yyq,newFields→ybr,collect→ycr,call→ygr
open List renaming length_map→yba,length_append→yea,mem_singleton→yia,length_cons→yja,mem_cons→yka,take_of_length_le→yla,getElem?_eq_getElem→yma,size_toArray→yoa,getElem?_map→yqa,mem_cons_self→yra,getElem?_eq_some_iff→ysa,mem_cons_of_mem→yta,map_append→yxa,getD_eq_getElem?_getD→yza,mem_of_getElem?→ybb,take_add_one→ydb,length_take→ygb,cons_ne_nil→yhb,map_cons→yib,replicate→ylb,range→ypb,length_range→yrb,getElem?_cons_succ→ytb,mem_append_right→ywb,flatten_cons→ybc,mem_map→ycc,mem_append→ydc,flatten_append→yec,append_nil→yfc,length_replicate→ygc,getElem?_append_right→yic,length_singleton→yvc,Nodup→yyc,mem_append_left→yzc,append_assoc→ydd,nodup_append→ymd,getElem?_set_ne→yud,sum_cons→yae,not_mem_nil→ybe,replicate_succ→yce,getElem?_cons_zero→yhe,length_drop→yje,getElem?_set_self→yme,lookup→yoe,getElem?_append_left→yre,length_set→yue,map_set→ywe,getElem?_drop→yxe,lookup_cons→yye,map_nil→ycf,count_append→yff,length_nil→ymf,perm_iff_count→yof,pairwise_lt_range→yrf,all_eq_true→yvf,map_replicate→yag,range_succ→yrg,length→yvg,map_eq_nil_iff→ych,filter_cons_of_pos→ydh,filter_cons_of_neg→yeh,cons_append→yfh,getElem?_eq_none→ylh,length_filter_le→yph,take_append_drop→yqh,sublist_flatten_of_mem→yrh,mem_range→ywh,mem_or_eq_of_mem_set→ybi,count_nil→yci,flatten_nil→yfi,filterMap_cons→ygi,getElem?_range→yji,length_pos_iff→yki,nodup_cons→ysi,getElem?_replicate→yti,findIdx?_eq_some_iff_getElem→yui,Perm→yxi,length_eq_zero_iff→yyi,append_eq_nil_iff→ydj,take_sublist→ykj,drop_zero→ysj,drop_drop→ytj,drop_left→yuj,getElem?_toArray→yxj,map_map→yyj,sum_nil→yzj,getElem_mem→yck,getElem?_of_mem→yjk,nil_append→yal,length_eraseIdx_of_lt→yhl,pairwise_cons→yol,filter_append→yql,findIdx?_eq_none_iff→yul,pairwise_iff_getElem→yvl,take_zero→ywl,getElem?_take_of_lt→ybm,pairwise_map→ynm,pairwise_singleton→ybn,take_length→yhn,mem_filter→ymn,of_mem_zip→yun,contains_iff_mem→yjo,perm_append_comm→ypo,count_cons→yqo,replicate_succ'→yso,toList_toArray→yzo,mem_filterMap→yfp,filterMap_map→yip,any_cons→yjp,map_take→yqp,map_drop→yrp,foldl→yxp,foldl_append→yaq,filter_congr→yfq
open PySem.Heap renaming get?_push_of_some→yca,get?_push_size→yha,lt_size→yna,get?_update_other→ysb,size_push→ylc,get?_update_self→ymc,SameBut→ysg,size_update→yfn
open PySem.W renaming Frag→yda,nsIn→ycb,findIn→ykb,mg_of→ynb,mg_none_of→ypc,kitOne→yrc,kia_one→yxd,emptyDict→yfe,keepIn→ybf,instObj→ygf,plainGet→yuf,hasDictIn→yfg,fnOf→yug,plainOver→yth,codeIn→yxh,specialIn→yjj,plainGet_of→yqk,isFn→yjl,callWith_K→ykl,lookIn→yrl,methodObj→yyl,cellsFrom_some→yjn,takerIn→ypn,makesIn→yqn,takesIn→ysn,methodCall_KW→ytn,OpenLaw→yxn,mroIn→ygp,kitx_list→ysp,kitx_dict→ytp,handedIn→ymq,WalkO→yhr
open Nat renaming le_refl→yga,lt_of_lt_of_le→yua,ne_of_lt→yva,le_trans→ymb,zero_le→yqb,lt_succ_of_lt→yoc,lt_irrefl→yid,le_of_lt→yde,le_succ→yge,lt_succ_self→yie,ne_of_gt→ytg,sub_self→yak,add_le_add_right→ykk,lt_or_ge→ynl,le_succ_of_le→yom,add_sub_cancel_left→yan,le_add_right→ygn,le_of_eq→yrn,sub_zero→ylo,eq_zero_or_pos→yop,lt_trichotomy→ycq
open Array renaming length_toList→ypa,getElem?_toList→yob,getElem?_eq_getElem→yyb,toArray_toList→ynd,getD_eq_getD_getElem?→yif,toList_append→ylf,getElem?_eq_none→yqf,toList_push→ypj,size_append→yqj,toList_inj→yfk,toList_extract→yik
open PySem.Str renaming join→yya,ofString→yli,length_append→yeq,empty→yvq,length→yfr
open Bool renaming false_ne_true→yeb,and_eq_true→ytc,false_eq_true→yxf,false_and→ybg,eq_false_iff→ypg,true_and→yvh,eq_iff_iff→ypk,and_false→ysl,or_false→ytm,false_or→yzm,true_or→yko,or_eq_true_iff→yap
open PySem.F renaming called_set→yfb,plainAttrs_list→yac,plainAttrs_str→yhc,slot_list_append→yed,type_list_append→yfd,slot_str_join→yqd,type_str_join→yrd,plain_extend_loop→ydg,args_tuple_add_2→ygg,entry_tuple_add→yxg,plain_list_iadd→ybh,slot_tuple_add→ygh,slot_set_iter→ymh,entry_type_call→ywi,typeCall_set_1→ybj,entry_set_init→ycj,slot_str_split→yej,type_str_split→yfj,plain_sum_loop→yek,plain_proto_collect→yxk,sub_tuple_frozenset→yzk,args_str_split_2→yll,entry_str_split→yem,slot_list_extend→ylm,type_list_extend→ymm,args_set_iter_1→yvm,slot_tuple_rmul→yym,slot_str_split→ycn,slot_tuple_mul→ykn,plain_set_new→ydo,sub_tuple_set→ygo,slot_list_pop→yno,type_list_pop→yoo
open Option renaming toList_some→yub,map_eq_some_iff→ywd,toList_none→ylp,getD_none→ynq
open Int renaming toNat_natCast→yxb,emod_lt_of_pos→yzi,emod_nonneg→ydl,natAbs_natCast→ypl,toNat_of_nonneg→ybp
open PySem.SetTable renaming below→yzb,grown→yhd,insertAt→yjm,orStandIn→ykp,has→ylq,relaid→yar,laid→yjr,fits→ykr,slot→ylr
open Option.some renaming inj→yjc
open PyProof.Rows.F renaming plain_set_update_loop→ync,entry_set_update_loop→yyd
open PySem.Around renaming under_plainId→ysc,under_plain→yml,under→ygq
open Ne renaming symm→ywc
open PyProof.Rows renaming slot_tuple_getitem→ybd,callWith_type1→yod,boot_tuple→yqe,boot_list→yzf,IntsAre→yyg,subscriptTail_builtinR→yaj,entry_proto_collect'→yhk,sortedS→yyk,boot_sorted→ycl,StrsAre→ytl,entry_list_iadd'→yen,entry_list_sort→yfo,boot_isinstance→ymo,slot_list_sort→yvo,args_list_sort→ywo,AllBare→yxo,boot_str→ypp,plain_sorted→yiq,entry_sorted→yjq,args_sorted1→ykq,sortedAll→yer
open PySem.Builtin.Str renaming occurrences→yjd,strSliceIndices→ynf,partsBetween→yjg,strKind→yhi
open PySem.Builtin.List renaming listExtendWith→ypd,listSameRef→yog,listTooLong→yni,listLengthHint→ywk
open PySem.Obj renaming mapSeq→ytd,putSet→ymg
open PySem.PassesOwn renaming never→yzd
open PySem.SeqAt renaming shaped→yke,EqAt→ype
open PySem.PyData renaming eqvAll→yaf,canLay0→ydf,eqv→yig,canLayAll0→yqg,depthAll→yoh,depth→ypi
open PySem.SetTable.below renaming go→yef
open PySem.Txt renaming split→yjf,slice→yyn,slice_le→yzn
open PySem.Builtin.Tuple renaming tupleTooMany→ysf,tupleExact→yhg,tupleItemsOf→ygl
open False renaming elim→ytf
open PySem.Builtin.Slice renaming slicePlaces→ycg,sliceAdjust→yyh,sliceApplied→yfl
open PySem.Shared renaming TypeIs→yah
open PySem.Builtin.Frozenset renaming updateFrom→yjh,sizeOf→yim,slot0→ywm
open PySem.Value renaming isStrOf→ysh,isInt→ygj,isStrOf_shape→ymk,isInt_shape→yxl
open PySem.Calls renaming call_function_entry→yai,Name_function_global→yel,spliced_cons→yhp,spliced_nil→yup
open PySem.Heap.SameBut renaming update→yii,refl→yfm
open PyProof.Rows.KTD renaming datLooks→yoi,datumAt→yyo,TextTab→yzq,tabLook→ydr,Dat→yir
open PySem.Code renaming quiet_builtin→yvi,isFrame→yhq
open List.Perm renaming refl→yrj,append_left→ywj,eq_of_pairwise→ykm,append→ypq
open List.cons renaming injEq→ybl
open PySem.Builtin.Range renaming rangeSize→ypm
open PySem.StrLaws renaming glued_eq_join→yao
open List.Pairwise renaming sublist→yho
open PySem.SeqAt.EqAt renaming int_str→ycp,str_int→ydp
open PySem.SetTable.probe renaming go→ydq
open PySem.P renaming add_list→yoq
open PyProof.Rows.IsTup renaming new→ywq
open PySem.pickOrder renaming go→ymr
namespace L2
open PySem PySem.Spec PyProof.Rows
abbrev Key:=Sum Int Str
def zfub:Key->Value->Bool
 | .inl k,v=>ygj k v
 | .inr x,v=>ysh x v
def keyH (w:World):Key->Int
 | .inl k=>hashInt k
 | .inr x=>hashStr w x
theorem zsd:∀{k:Key} {v:Value},zfub k v=true->(Ex2 λi t=>k=Sum.inl i∧v=Value.int i t)∨(Ex2 λx t=>k=Sum.inr x∧v=Value.str x t)
 | .inl i,v,h=>by
  obtain⟨t,e⟩:=yxl (k:=i) (v:=v) h;exact .inl ⟨i,t,rfl,e⟩
 | .inr x,v,h=>by
  obtain⟨t,e⟩:=ymk (x:=x) (v:=v) h;exact .inr ⟨x,t,rfl,e⟩
theorem zeub (a b:Int):decide ((Sum.inl a:Key)=Sum.inl b)=(a==b):=by
 by_cases e:a=b
 ·subst e;simp
 ·have h:¬ (Sum.inl a:Key)=Sum.inl b:=λq=>e (Sum.inl.inj q);rw[decide_eq_false h];exact (beq_eq_false_iff_ne.mpr e).symm
theorem zbub (a b:Str):decide ((Sum.inr a:Key)=Sum.inr b)=decide (a=b):=by
 by_cases e:a=b
 ·subst e;simp
 ·have h:¬ (Sum.inr a:Key)=Sum.inr b:=λq=>e (Sum.inr.inj q);rw[decide_eq_false h,decide_eq_false e]
theorem zdub (a:Int)(b:Str):decide ((Sum.inl a:Key)=Sum.inr b)=false:=decide_eq_false (λq=>nomatch q)
theorem zcub (a:Str)(b:Int):decide ((Sum.inr a:Key)=Sum.inl b)=false:=decide_eq_false (λq=>nomatch q)
def zujb (prog:yvb)(w:World):PySem.KeyKind prog w Key where
 is:=zfub
 hash:=keyH w
 inj:=λv a b ha hb=>by
  rcases zsd ha with⟨i,t,rfl,rfl⟩|⟨x,t,rfl,rfl⟩
  ·rcases zsd hb with⟨j,u,rfl,e⟩|⟨y,u,rfl,e⟩
   ·injection e with e1 _;rw[e1]
   ·exact nomatch e
  ·rcases zsd hb with⟨j,u,rfl,e⟩|⟨y,u,rfl,e⟩
   ·exact nomatch e
   ·injection e with e1 _;rw[e1]
 byValue:=λk v h=>by
  rcases zsd h with⟨i,t,rfl,rfl⟩|⟨x,t,rfl,rfl⟩<;>rfl
 pyHash:=λhv h=>by
  rcases zsd hv with⟨i,t,rfl,rfl⟩|⟨x,t,rfl,rfl⟩
  ·exact wpAny_pyHash_int h
  ·exact wpAny_pyHash_str h
 eqBool:=λhu hv h=>by
  rcases zsd hu with⟨i,t,rfl,rfl⟩|⟨x,t,rfl,rfl⟩
  ·rcases zsd hv with⟨j,u,rfl,rfl⟩|⟨y,u,rfl,rfl⟩
   ·rw[zeub] at h;exact wpAny_eqBool_int h
   ·rw[zdub] at h;exact ycp i t y u _ _ _ _ h
  ·rcases zsd hv with⟨j,u,rfl,rfl⟩|⟨y,u,rfl,rfl⟩
   ·rw[zcub] at h;exact ydp x t j u _ _ _ _ h
   ·rw[zbub] at h;exact wpAny_eqBool_str h
 «strs»:=λk x t v h=>by
  rcases zsd h with⟨i,u,rfl,e⟩|⟨y,u,rfl,e⟩
  ·exact nomatch e
  ·injection e with e1 _
   subst e1;cases v<;>rfl
end L2
namespace L2
open PySem PySem.Spec PyProof.Rows
inductive V where
 | non|bl (b:Bool)|int (i:Int)|str (x:Str)|byt (b:Array UInt8)|flt (b:UInt64)|ref (a:Addr)|ty (n:String)
 deriving DecidableEq
def RelV:V->Value->Prop
 | .non,u=>u=Value.none
 | .bl b,u=>u=Value.bool b
 | .int i,u=>∃t,u=Value.int i t
 | .str x,u=>∃t,u=Value.str x t
 | .byt b,u=>∃t,u=Value.bytes b t
 | .flt b,u=>∃t,u=Value.float b t
 | .ref a,u=>u=Value.ref a
 | .ty n,u=>u=Value.type n
abbrev Vals:List V->List Value->Prop:=Paired RelV
theorem Vals.length {xs:List V}{us:List Value}(r:Vals xs us):xs.length=us.length:=Paired.length r
theorem Vals.get:∀{xs:List V} {us:List Value} {i:Nat} {x:V},Vals xs us->xs[i]?=some x->∃u,us[i]?=some u∧RelV x u
 | _,_,_,_,.nil,e=>by simp at e
 | _,_,0,_,.cons r _,e=>by simp at e;subst e;exact⟨_,rfl,r⟩
 | _,_,i+1,x,.cons _ t,e=>by
  obtain⟨u,h1,h2⟩:=Vals.get (i:=i) (x:=x) t (by simpa using e);exact⟨u,by simpa using h1,h2⟩
theorem Vals.set {x:V}{u:Value}(r:RelV x u):∀{xs:List V} {us:List Value} (i:Nat),Vals xs us->Vals (xs.set i x) (us.set i u)
 | _,_,_,.nil=>.nil
 | _,_,0,.cons _ t=>.cons r t
 | _,_,i+1,.cons q t=>.cons q (Vals.set r i t)
theorem Vals.append:∀{xs ys:List V} {us ws:List Value},Vals xs us->Vals ys ws->Vals (xs++ys) (us++ws)
 | _,_,_,_,.nil,s=>s
 | _,_,_,_,.cons r t,s=>.cons r (Vals.append t s)
theorem Vals.take:∀{xs:List V} {us:List Value} (n:Nat),Vals xs us->Vals (xs.take n) (us.take n)
 | _,_,0,_=>.nil
 | _,_,_+1,.nil=>.nil
 | _,_,n+1,.cons r t=>.cons r (Vals.take n t)
theorem Vals.drop:∀{xs:List V} {us:List Value} (n:Nat),Vals xs us->Vals (xs.drop n) (us.drop n)
 | _,_,0,r=>r
 | _,_,_+1,.nil=>.nil
 | _,_,n+1,.cons _ t=>Vals.drop n t
def RelO:Option V->Option Value->Prop
 | some v,some u=>RelV v u
 | none,none=>True
 | _,_=>False
def KV {κ:Type}:List (κ×V)->List (κ×Value)->Prop:=Paired λ(p:κ×V) (q:κ×Value)=>p.1=q.1∧RelV p.2 q.2
def kV:Key->V
 | .inl i=>.int i
 | .inr x=>.str x
inductive HO where
 | lst (xs:List V)
 | tup (xs:List V)
 | dK (kvs:List (Key×V))|dT (kvs:List (List Key×V))
 | set (S:Int->Bool) (n:Nat)
 | ins (C dx:Addr) (fs:List (Str×V))
 | own (x:Addr)
 | xd (fs:List (Str×V))
 | met (f x:Addr)
 | rng (lo hi:Int)
 | frz (o:Obj) (u:HO)
 | tbl (ps:Array Value)
 | ext (φ:Heap->Prop)
abbrev Hp:=Addr->Option HO
def upd (H:Hp)(a:Addr)(o:HO):Hp:=λb=>if b=a then some o else H b
theorem zia {H:Hp}{a:Addr}{o:HO}:upd H a o a=some o:=by unfold upd;rw[if_pos rfl]
theorem zdb {H:Hp}{a b:Addr}{o:HO}(h:b≠a):upd H a o b=H b:=by unfold upd;rw[if_neg h]
theorem zvk {H:Hp}{a:Addr}{o u:HO}:upd (upd H a o) a u=upd H a u:=by
 funext b;unfold upd;split<;>rfl
theorem zdl {H:Hp}{a b:Addr}{o u:HO}(h:H a=some o)(h':H b=some u)(d:o≠u):a≠b:=by
 intro e;subst e;rw[h] at h';exact d (yjc h')
theorem zka {H:Hp}{a b:Addr}{o:HO}(h:H a=some o)(h':H b=none):a≠b:=by
 intro e;subst e;rw[h] at h';cases h'
section
variable (P:yvb)(w:World)
def zvj (H:Hp)(h:Heap)(a:Addr):HO->Prop
 | .lst xs=>xs.length≤ywa∧Ex2 λ(its:List Value) (n:Nat)=>Vals xs its∧h.get? a=some { cls:=.type "list",data:=.seq its.toArray n }
 | .tup xs=>xs.length≤ywa∧∃its:List Value,Vals xs its∧IsTup h a its.toArray
 | .dK kvs=>kvs.length≤ywa∧(a==sysModules)=false∧∃vs,KV kvs vs∧h.DictOf (zujb P w) a vs
 | .dT kvs=>kvs.length≤ywa∧(a==sysModules)=false∧∃xs:List (List Key×Addr×Value),
   Paired (λ(p:List Key×V) (q:List Key×Addr×Value)=>p.1=q.1∧H q.2.1=some (.tup (p.1.map kV))∧RelV p.2 q.2.2) kvs xs ∧
   Ex3 λo es ep=>h.get? a=some o∧o.ExactDict∧o.data = .dict es ep∧es.toList=xs.map (entryOfKey (tupleKind (zujb P w)))∧(xs.map (·.1)).Nodup
 | .set S n=>h.SetOf (intKind P w) a S n
 | .ins C dx fs=>H dx=some (.own a)∧fs.length≤1000∧dx≠a∧h.get? a=some (ygf C dx) ∧
   ∃mA,h.Ns1 dx mA∧(∀f,RelO (fs.lookup f) (mA f))∧yln mA (fs.map (·.1))
 | .own _=>∃o,h.get? a=some o
 | .xd fs=>∃mA,h.Ns1 a mA∧∀f,RelO (fs.lookup f) (mA f)
 | .rng lo hi=>Ex3 λt u v=>h.get? a=some { cls:=.type "range",data:=.fields #[.int lo t,.int hi u,.int 1 v] }
 | .frz o u=>h.get? a=some o∧zvj H h a u
 | .tbl ps=>h.get? a=some { cls:=.none,data:=.fields ps }
 | .met f x=>h.get? a=some (yyl (.ref f) (.ref x))
 | .ext φ=>φ h∧(∃o,h.get? a=some o)∧∀h1 h2:Heap,φ h1->(∀o,h1.get? a=some o->h2.get? a=some o)->φ h2
def HOk (H:Hp)(h:Heap):Prop:=∀a o,H a=some o->zvj P w H h a o
end
section
variable {P:yvb}{w:World}{H H':Hp}{h h':Heap}{a:Addr}{o:HO}
theorem zvj.lt (x:zvj P w H h a o):a<h.objs.size:=by
 cases o with
 | lst xs=>obtain⟨_,_,_,_,e⟩:=x;exact yna e
 | tup xs=>obtain⟨_,_,_,p⟩:=x;exact p.lt
 | dK kvs=>obtain⟨_,_,_,_,o,_,_,e,_⟩:=x;exact yna e
 | dT kvs=>obtain⟨_,_,_,_,o,_,_,e,_⟩:=x;exact yna e
 | set S n=>obtain⟨o,_,_,_,e,_⟩:=x;exact yna e
 | ins C dx fs=>obtain⟨_,_,_,e,_⟩:=x;exact yna e
 | own y=>obtain⟨_,e⟩:=x;exact yna e
 | xd fs=>obtain⟨_,⟨_,_,_,e,_⟩,_⟩:=x;exact yna e
 | rng lo hi=>obtain⟨_,_,_,e⟩:=x;exact yna e
 | frz ob u=>obtain⟨e,_⟩:=x;exact yna e
 | tbl ps=>exact yna (show h.get? a=some _ from x)
 | met f y=>exact yna (show h.get? a=some _ from x)
 | ext φ=>obtain⟨_,⟨_,e⟩,_⟩:=x;exact yna e
theorem Paired.mapP {α β:Type}{F G:α->β->Prop}:∀{l₁:List α} {l₂:List β},Paired F l₁ l₂->(∀a b,F a b->G a b)->Paired G l₁ l₂
 | _,_,.nil,_=>.nil
 | _,_,.cons r t,f=>.cons (f _ _ r) (Paired.mapP t f)
theorem zvj.stay (x:zvj P w H h a o)(k:∀b u,(b=a∨H b=some (.own a))->h.get? b=some u->h'.get? b=some u)
  (ho:∀b,H b=some (.own a)->H' b=some (.own a)) (ht:∀b xs,H b=some (.tup xs)->H' b=some (.tup xs)):zvj P w H' h' a o:=by
 induction o with
 | lst xs=>obtain⟨z,its,n,r,e⟩:=x;exact⟨z,its,n,r,k _ _ (.inl rfl) e⟩
 | tup xs=>obtain⟨z,its,r,ob,e,c⟩:=x;exact⟨z,its,r,ob,k _ _ (.inl rfl) e,c⟩
 | dK kvs=>obtain⟨z,y,vs,r,ob,es,ep,e,c⟩:=x;exact⟨z,y,vs,r,ob,es,ep,k _ _ (.inl rfl) e,c⟩
 | dT kvs =>
  obtain⟨z,y,xs,r,ob,es,ep,e,c⟩:=x;exact⟨z,y,xs,Paired.mapP r λp q z=>⟨z.1,ht _ _ z.2.1,z.2.2⟩,ob,es,ep,k _ _ (.inl rfl) e,c⟩
 | set S n=>obtain⟨ob,es,ep,t,e,c⟩:=x;exact⟨ob,es,ep,t,k _ _ (.inl rfl) e,c⟩
 | ins C dx fs =>
  obtain⟨d,z,ne,e,mA,⟨od,es,ep,e2,c⟩,r⟩:=x;exact⟨ho _ d,z,ne,k _ _ (.inl rfl) e,mA,⟨od,es,ep,k _ _ (.inr d) e2,c⟩,r⟩
 | own y=>obtain⟨ob,e⟩:=x;exact⟨ob,k _ _ (.inl rfl) e⟩
 | xd fs=>obtain⟨mA,⟨od,es,ep,e,c⟩,r⟩:=x;exact⟨mA,⟨od,es,ep,k _ _ (.inl rfl) e,c⟩,r⟩
 | rng lo hi=>obtain⟨t,u,v,e⟩:=x;exact⟨t,u,v,k _ _ (.inl rfl) e⟩
 | frz ob u ih=>obtain⟨e,q⟩:=x;exact⟨k _ _ (.inl rfl) e,ih q⟩
 | tbl ps =>
  have e:h.get? a=some { cls:=.none,data:=.fields ps }:=x;show h'.get? a=some { cls:=.none,data:=.fields ps }
  exact k a _ (.inl rfl) e
 | met f y =>
  have e:h.get? a=some (yyl (.ref f) (.ref y)):=x;show h'.get? a=some (yyl (.ref f) (.ref y))
  exact k a _ (.inl rfl) e
 | ext φ=>obtain⟨p,⟨o,e⟩,st⟩:=x;exact⟨st _ _ p λo q=>k _ _ (.inl rfl) q,⟨o,k _ _ (.inl rfl) e⟩,st⟩
theorem HOk.lt (x:HOk P w H h)(e:H a=some o):a<h.objs.size:=(x a o e).lt
theorem HOk.fresh (x:HOk P w H h)(e:h.objs.size≤a):H a=none:=by
 cases q:H a with
 | none=>rfl
 | some u=>exact absurd (yua (x.lt q) e) (yid _)
theorem HOk.kept (x:HOk P w H h)(k:∀b u,h.get? b=some u->h'.get? b=some u):HOk P w H h':=λa o e =>
 (x a o e).stay (λb u _ q=>k b u q) (λ_ q=>q) λ_ _ q=>q
theorem HOk.laid (x:HOk P w H h)(k:∀b u,h.get? b=some u->h'.get? b=some u)(hp:h.objs.size≤a)(new:zvj P w (upd H a o) h' a o):HOk P w (upd H a o) h':=λb u e=>by
 have hn:=x.fresh hp
 by_cases hb:b=a
 ·subst hb;rw[zia] at e;cases e;exact new
 ·rw[zdb hb] at e;exact (x b u e).stay (λc v _ q=>k c v q) (λc q=>by rw[zdb (zka q hn)];exact q) λc xs q=>by rw[zdb (zka q hn)];exact q
end
def Rd (H:Hp)(a:Addr)(u:HO):Prop:=H a=some u∨∃o,H a=some (.frz o u)
theorem Rd.ok {P:yvb}{w:World}{H:Hp}{h:Heap}{a:Addr}{u:HO}(r:Rd H a u)(x:HOk P w H h):zvj P w H h a u:=by
 rcases r with r|⟨o,r⟩
 ·exact x a u r
 ·obtain⟨_,q⟩:=x a _ r;exact q
def Mut:Option HO->Prop
 | some (.lst _)=>True
 | some (.dK _)=>True
 | some (.dT _)=>True
 | some (.set _ _)=>True
 | some (.ins _ _ _)=>True
 | some (.ext _)=>True
 | _=>False
section
variable {P:yvb}{w:World}{H:Hp}{h h':Heap}{x e:Addr}{o':HO}
theorem HOk.write (ok:HOk P w H h)(mu:Mut (H x))(he:e=x∨H e=some (.own x))(k:∀b u,b≠e->h.get? b=some u->h'.get? b=some u)(heo:∃u,h'.get? e=some u)
  (new:zvj P w (upd H x o') h' x o'):HOk P w (upd H x o') h':=λb u q=>by
 have nown:∀c y,H c=some (.own y)->c≠x:=λc y r z=>by subst z;rw[r] at mu;exact mu
 have ntup:∀c xs,H c=some (.tup xs)->c≠x:=λc xs r z=>by subst z;rw[r] at mu;exact mu
 by_cases hb:b=x
 ·subst hb;rw[zia] at q;cases q;exact new
 ·rw[zdb hb] at q
  by_cases hbe:b=e
  ·have q':H b=some (.own x):=by
    rcases he with z|z
    ·exact absurd (hbe.trans z) hb
    ·rw[hbe];exact z
   rw[q] at q';cases q';obtain⟨v,hv⟩:=heo;exact⟨v,by rw[hbe];exact hv⟩
  ·refine (ok b u q).stay (λc v hc r=>k c v ?_ r) (λc r=>by rw[zdb (nown c b r)];exact r) λc xs r=>by rw[zdb (ntup c xs r)];exact r
   rcases hc with rfl|hc
   ·exact hbe
   ·rintro rfl
    rcases he with z|z
    ·exact nown c b hc z
    ·rw[hc] at z;cases z;exact hb rfl
end
structure Un (fs ex:List Addr)(H H':Hp)(h h':Heap):Prop where
 keep:∀b o,h.get? b=some o->H b=none->b∉fs->b∉ex->h'.get? b=some o
 slot:∀b o,h.get? b=some o->H b=none->b∈fs->b∉ex->∃sl,h'.get? b=some { o with slots:=sl }
 free:∀b o,h.get? b=some o->H b=none->b∉ex->H' b=none
 there:∀b o,h.get? b=some o->b∉ex->∃o',h'.get? b=some o'
 tups:∀b xs,H b=some (.tup xs)->H' b=some (.tup xs)
 frzs:∀b o u,H b=some (.frz o u)->H' b=some (.frz o u)
 tbls:∀b ps,H b=some (.tbl ps)->∃more,H' b=some (.tbl (ps++more))
section
variable {fs fs' ex ex':List Addr}{H H1 H2:Hp}{h h1 h2 h':Heap}{a x e:Addr}{o:HO}
theorem Un.any (u:Un fs ex H H1 h h1){b:Addr}{ob:Obj}(q:h.get? b=some ob)(n:H b=none)(hx:b∉ex):∃sl,h1.get? b=some { ob with slots:=sl }:=by
 by_cases hb:b∈fs
 ·exact u.slot b ob q n hb hx
 ·exact⟨ob.slots,u.keep b ob q n hb hx⟩
theorem Un.kept (k:∀b u,h.get? b=some u->h'.get? b=some u):Un fs ex H H h h' :=
 ⟨λb ob q _ _ _=>k b ob q,λb ob q _ _ _=>⟨ob.slots,k b ob q⟩,λ_ _ _ n _=>n,λb ob q _=>⟨ob,k b ob q⟩,λ_ _ q=>q,λ_ _ _ q=>q,λ_ ps q=>⟨#[],by rw[q];simp⟩⟩
theorem Un.refl:Un fs ex H H h h:=Un.kept λ_ _ q=>q
theorem Un.laid (k:∀b u,h.get? b=some u->h'.get? b=some u)(hp:h.objs.size≤a)(hn:H a=none):Un fs ex H (upd H a o) h h' where
 keep:=λb u q _ _ _=>k b u q
 slot:=λb u q _ _ _=>⟨u.slots,k b u q⟩
 free:=λb u q n _=>by rw[zdb (yva (yua (yna q) hp))];exact n
 there:=λb u q _=>⟨u,k b u q⟩
 tups:=λb xs q=>by rw[zdb (zka q hn)];exact q
 frzs:=λb u xs q=>by rw[zdb (zka q hn)];exact q
 tbls:=λb ps q=>⟨#[],by rw[zdb (zka q hn),q];simp⟩
theorem Un.write (mu:Mut (H x))(he:e=x∨H e=some (.own x))(k:∀b u,b≠e->h.get? b=some u->h'.get? b=some u)(heo:∃u,h'.get? e=some u):Un fs ex H (upd H x o) h h':=by
 have hx:∀b,H b=none->b≠x:=λb n z=>by subst z;rw[n] at mu;exact mu
 have hb:∀b,H b=none->b≠e:=λb n z=>by
  subst z
  rcases he with r|r
  ·exact hx b n r
  ·rw[n] at r;cases r
 have hm:∀b u,H b=some u->¬ Mut (some u)->b≠x:=λb u q nm z=>by subst z;rw[q] at mu;exact nm mu
 refine⟨λb u q n _ _=>k b u (hb b n) q,λb u q n _ _=>⟨u.slots,k b u (hb b n) q⟩,λb u q n _=>by rw[zdb (hx b n)];exact n,λb u q _=>?_,
  λb xs q=>by rw[zdb (hm b _ q λz=>z)];exact q,λb u xs q=>by rw[zdb (hm b _ q λz=>z)];exact q,λb ps q=>⟨#[],by rw[zdb (hm b _ q λz=>z),q];simp⟩⟩
 by_cases hbe:b=e
 ·subst hbe;exact heo
 ·exact⟨u,k b u hbe q⟩
end
def trk (h:Heap)(H:Hp):List Addr:=(ypb h.objs.size).filter λa=>(H a).isSome
def hidT (h:Heap)(H:Hp):Heap:=PySem.W.hideAll h (trk h H)
theorem zmkb (h:Heap)(H:Hp):(hidT h H).objs.size=h.objs.size:=PySem.W.hideAll_size _ _
theorem zxnb {h:Heap}{H:Hp}{b:Addr}{o:Obj}(e:h.get? b=some o)(n:H b=none):(hidT h H).get? b=some o :=
 PySem.W.hideAll_get _ e λhm=>by
  have q:(H b).isSome=true:=(ymn.mp hm).2;rw[n] at q;simp at q
theorem zxqb {h:Heap}{H:Hp}{b:Addr}{o:Obj}(e:(hidT h H).get? b=some o):h.get? b=some o∧H b=none:=by
 have e':h.get? b=some o:=PySem.W.of_hideAll (trk h H) e;refine⟨e',?_⟩;cases q:H b with
 | none=>rfl
 | some x =>
  have hm:b∈trk h H:=ymn.mpr ⟨ywh.mpr (yna e'),by simp[q]⟩;have z:(hidT h H).get? b=none:=PySem.W.hideAll_none (trk h H) hm;rw[z] at e;cases e
def zasb (g h:Heap)(L:Addr):List (Addr×Obj):=(ypb h.objs.size).filterMap λa=>if a=L∨(g.get? a).isSome=true then none else (h.get? a).map λo=>(a,o)
def rest (g h:Heap)(L d:Addr):List (Addr×Obj):=(zasb g h L).filter λp=>decide (p.1≠d)
end L2
namespace L2
open PySem PySem.Spec PyProof.Rows
structure Mod (K:yda)(mg:Str->Option Value)(base:Heap):Prop where
 kin:K.In base
 glob:base.Ns yab mg
 blt:∃mb,base.Ns builtinsNs mb∧∀x:Str,x ≠ "__name__"->mb x=ykh x
 nolimit:base.NoLimit
structure Cx where
 prog:yvb
 w:World
 K:yda
 mg:Str->Option Value
 base:Heap
 A:Around
 N:List Str
 s₀:Shared
 H₀:Hp
 env:Env
 outer:List Env
 stack:List Env
 ex:List Addr
 fn:Str->Bool
 calm:Bool
 pn:List (Addr×Obj)
 xe:Value->Shared->Prop
def frs (l:List Env):List Addr:=l.filterMap (·.frame)
abbrev Cx.fs (X:Cx):List Addr:=frs X.outer
def Vis (sc:Scope)(x:Str):Prop:=sc.names.lookup x=some .local∨sc.names.lookup x=some .cell∨sc.names.lookup x=some .free
def Loc (sc:Scope)(x:Str):Prop:=sc.names.lookup x=some .local∨sc.names.lookup x=some .cell
def Look (env:Env)(h:Heap)(m:Str->Option Value)(x:Str)(u:Value):Prop :=
 (env.kindOf x=some .local∧m x=some u)∨((env.kindOf x=some .cell∨env.kindOf x=some .free)∧∃c,env.cells.lookup x=some c∧h.IsCell c (some u))
structure Cx.Ok (X:Cx):Prop where
 mod:Mod X.K X.mg X.base
 kind:X.env.scope.kind = .function
 glob:X.env.globals=yab
 blt:X.env.builtins=builtinsNs
 above:X.s₀.heap.objs.size≤X.env.locals
 inj:∀x y c,X.env.cells.lookup x=some c->X.env.cells.lookup y=some c->x=y
 has:∀x,(X.env.kindOf x=some .cell∨X.env.kindOf x=some .free)->∃c,X.env.cells.lookup x=some c
 cab:∀x c,X.fn x=true->X.env.cells.lookup x=some c->X.s₀.heap.objs.size≤c
 hd:X.calm=true->X.A.handled=none
 frames:X.A.frames=some X.stack
 stk:X.stack=X.outer∨(X.stack=X.env::X.outer∧X.env.frame=some X.env.locals)
 exf:∀b∈X.ex,b≠X.env.locals∧∀x c,X.env.cells.lookup x=some c->c≠b
 bs:∀b o,X.base.get? b=some o->X.s₀.heap.get? b=some o∧X.H₀ b=none
 bsz:X.base.objs.size≤X.s₀.heap.objs.size
 noex:∀b o,X.base.get? b=some o->b∉X.ex
 exfs:∀b∈X.ex,b∉X.fs
 funs:X.s₀.heap.FunFrames X.base X.outer
 frf:∀b∈X.fs,X.H₀ b=none
structure Inv (X:Cx)(pins:List (Addr×Obj))(σ:List (Option V))(H:Hp)(s:Shared):Prop where
 ok:X.Ok
 os:s.os=X.s₀.os
 bare:yxo s.gens
 base:Un X.fs X.ex X.H₀ H X.s₀.heap s.heap
 loc:∃m,s.heap.Ns X.env.locals m∧∀(i:Nat) (x:Str) (v:V),X.N[i]?=some x->σ[i]?=some (some v)->Vis X.env.scope x->∃u,RelV v u∧Look X.env s.heap m x u
 cell:∀x c,X.env.cells.lookup x=some c->∃v,s.heap.IsCell c v
 free:H X.env.locals=none
 freeC:∀x c,X.env.cells.lookup x=some c->H c=none
 pin:∀p∈X.pn++pins,s.heap.get? p.1=some p.2∧H p.1=none∧p.1≠X.env.locals∧p.1∉X.fs∧∀v,p.2.data ≠ .cell v
 hok:HOk X.prog X.w H s.heap
 len:σ.length=X.N.length
section
variable {X:Cx}{pins:List (Addr×Obj)}{σ:List (Option V)}{H H':Hp}{s:Shared}{h':Heap}
theorem Cx.Ok.nofr (ok:X.Ok){b:Addr}{o:Obj}(e:X.base.get? b=some o):b∉X.fs:=λhb=>by
 have:=(ok.funs.mem hb).1;rw[e] at this;cases this
theorem Inv.bs (I:Inv X pins σ H s):∀b o,X.base.get? b=some o->s.heap.get? b=some o∧H b=none:=λb o e =>
 ⟨I.base.keep b o (I.ok.bs b o e).1 (I.ok.bs b o e).2 (I.ok.nofr e) (I.ok.noex b o e),I.base.free b o (I.ok.bs b o e).1 (I.ok.bs b o e).2 (I.ok.noex b o e)⟩
theorem Inv.bk (I:Inv X pins σ H s):∀b o,X.base.get? b=some o->s.heap.get? b=some o:=λb o e=>(I.bs b o e).1
theorem Inv.mod (I:Inv X pins σ H s):Mod X.K X.mg X.base:=I.ok.mod
theorem Inv.kIn (I:Inv X pins σ H s):X.K.In s.heap:=I.ok.mod.kin.keeps I.bk
theorem Inv.lt (I:Inv X pins σ H s):X.env.locals<s.heap.objs.size:=let ⟨_,hn,_⟩:=I.loc;hn.lt
theorem Inv.sz (I:Inv X pins σ H s):X.s₀.heap.objs.size≤s.heap.objs.size:=ymb I.ok.above (yde I.lt)
theorem Inv.nofs (I:Inv X pins σ H s){a:Addr}(h:s.heap.objs.size≤a):a∉X.fs:=λhb=>by
 obtain⟨_,o,ho,_⟩:=I.ok.funs.mem hb;exact absurd (yua (yna ho) (ymb I.sz h)) (yid _)
theorem Inv.cne (I:Inv X pins σ H s):∀x c,X.env.cells.lookup x=some c->c≠X.env.locals:=λx c e z=>by
 obtain⟨v,o,ho,hd⟩:=I.cell x c e;obtain⟨m,⟨o',es,ep,ho',hd',_⟩,_⟩:=I.loc;rw[z,ho'] at ho;cases ho;rw[hd'] at hd;cases hd
theorem Inv.funs (I:Inv X pins σ H s):s.heap.FunFrames X.base X.outer:=by
 have all:∀(l:List Env),(∀b∈frs l,b∈X.fs)->X.s₀.heap.FunFrames X.base l->s.heap.FunFrames X.base l:=by
  intro l
  induction l with
  | nil=>intro _ _;trivial
  | cons env r ih =>
   intro hs hl;obtain⟨hk,⟨L,o,hf,hn,ho,hd⟩,hr⟩:=hl;have hL:L∈X.fs:=hs L (by unfold frs;rw[ygi,hf];exact yra);obtain⟨sl,e⟩:=I.base.slot L o ho (I.ok.frf L hL) hL λz=>I.ok.exfs L z hL;exact⟨hk,⟨L,_,hf,hn,e,hd⟩,ih (λb hb=>hs b (by unfold frs;rw[ygi,hf];exact yta _ hb)) hr⟩
 exact all X.outer (λ_ hb=>hb) I.ok.funs
theorem Inv.stack (I:Inv X pins σ H s):s.heap.FunFrames X.base X.stack:=by
 rcases I.ok.stk with e|⟨e,hf⟩
 ·rw[e];exact I.funs
 ·rw[e];obtain⟨m,hn,_⟩:=I.loc;refine .cons (by rw[I.ok.kind];decide) hf hn ?_ I.funs;exact Heap.get?_none_of_le (ymb I.ok.bsz I.ok.above)
theorem Inv.zcfb (I:Inv X pins σ H s):∀b∈frs X.stack,b∈X.env.locals::X.fs:=λb hb=>by
 rcases I.ok.stk with e|⟨e,hf⟩
 ·rw[e] at hb;exact yta _ hb
 ·rw[e] at hb;unfold frs at hb;rw[ygi,hf] at hb;exact hb
theorem Inv.zpib (I:Inv X pins σ H s):∀b∈frs X.stack,H b=none:=λb hb=>by
 rcases yka.mp (I.zcfb b hb) with e|hb
 ·rw[e];exact I.free
 ·obtain⟨_,o,ho,_⟩:=I.ok.funs.mem hb;exact I.base.free b o ho (I.ok.frf b hb) λz=>I.ok.exfs b z hb
theorem Inv.step {g':Array GenState}{t':Nat}{d':Drawn}{ch:List Addr}(I:Inv X pins σ H s)
  (hch:∀b∈ch,(b∈X.ex∨X.s₀.heap.objs.size≤b)∧b≠X.env.locals∧(∀x c,X.env.cells.lookup x=some c->c≠b)∧∀p∈X.pn++pins,p.1≠b)
  (keep:∀b o,b≠X.env.locals->b∉X.fs->b∉ch->s.heap.get? b=some o->H b=none->h'.get? b=some o)
  (slot:∀b o,b≠X.env.locals->b∈X.fs->b∉ch->s.heap.get? b=some o->H b=none->∃sl,h'.get? b=some { o with slots:=sl }) (free:∀b o,b∉ch->s.heap.get? b=some o->H b=none->H' b=none)
  (there:∀b o,b∉ch->s.heap.get? b=some o->∃o',h'.get? b=some o')
  (tups:∀b xs,H b=some (.tup xs)->H' b=some (.tup xs)) (frzs:∀b o u,H b=some (.frz o u)->H' b=some (.frz o u)) (tbls:∀b ps,H b=some (.tbl ps)->∃more,H' b=some (.tbl (ps++more)))
  (ns:∀m,s.heap.Ns X.env.locals m->h'.Ns X.env.locals m) (hok:HOk X.prog X.w H' h') (hg:yxo g') :
  Inv X pins σ H' { s with heap:=h',gens:=g',drawn:=d',toks:=t' }:=by
 have neL:∀b o,X.s₀.heap.get? b=some o->b≠X.env.locals:=λb o e=>yva (yua (yna e) I.ok.above);have neC:∀b o,X.s₀.heap.get? b=some o->b∉X.ex->b∉ch:=λb o e hx hb=>by
  rcases (hch b hb).1 with z|z
  ·exact hx z
  ·exact absurd (yua (yna e) z) (yid _)
 have cellK:∀x c,X.env.cells.lookup x=some c->∀v,s.heap.IsCell c v->h'.IsCell c v:=λx c e v ⟨o,ho,hd⟩=>by
  have nch:c∉ch:=λz=>(hch c z).2.2.1 x c e rfl
  by_cases hc:c∈X.fs
  ·obtain⟨sl,q⟩:=slot c o (I.cne x c e) hc nch ho (I.freeC x c e);exact⟨_,q,hd⟩
  ·exact⟨o,keep c o (I.cne x c e) hc nch ho (I.freeC x c e),hd⟩
 refine⟨I.ok,I.os,hg,⟨λb o e n hb hx=>?_,λb o e n hb hx=>?_,λb o e n hx=>?_,λb o e hx=>?_,λb xs e=>tups b xs (I.base.tups b xs e),λb o xs e=>frzs b o xs (I.base.frzs b o xs e),λb ps e=>?_⟩,?_,λx c e=>?_,?_,λx c e=>?_,λp hp=>?_,hok,I.len⟩
 ·exact keep b o (neL b o e) hb (neC b o e hx) (I.base.keep b o e n hb hx) (I.base.free b o e n hx)
 ·obtain⟨sl,e1⟩:=I.base.slot b o e n hb hx;obtain⟨sl',e2⟩:=slot b _ (neL b o e) hb (neC b o e hx) e1 (I.base.free b o e n hx);exact⟨sl',e2⟩
 ·obtain⟨o',e1⟩:=I.base.there b o e hx;exact free b o' (neC b o e hx) e1 (I.base.free b o e n hx)
 ·obtain⟨o',e1⟩:=I.base.there b o e hx;exact there b o' (neC b o e hx) e1
 ·obtain⟨m1,e1⟩:=I.base.tbls b ps e;obtain⟨m2,e2⟩:=tbls b _ e1;exact⟨m1++m2,by rw[e2,Array.append_assoc]⟩
 ·obtain⟨m,hn,hl⟩:=I.loc;refine⟨m,ns m hn,λi x v e1 e2 e3=>?_⟩;obtain⟨u,r,l⟩:=hl i x v e1 e2 e3;refine⟨u,r,?_⟩
  rcases l with l|⟨k,c,e,z⟩
  ·exact .inl l
  ·exact .inr ⟨k,c,e,cellK x c e _ z⟩
 ·obtain⟨v,z⟩:=I.cell x c e;exact⟨v,cellK x c e v z⟩
 ·obtain⟨m,⟨o,_,_,ho,_⟩,_⟩:=I.loc;exact free _ o (λz=>(hch _ z).2.1 rfl) ho I.free
 ·obtain⟨v,o,ho,hd⟩:=I.cell x c e;exact free c o (λz=>(hch c z).2.2.1 x c e rfl) ho (I.freeC x c e)
 ·obtain⟨e,n,ne,nf,d⟩:=I.pin p hp;have nch:p.1∉ch:=λz=>(hch p.1 z).2.2.2 p hp rfl;exact⟨keep p.1 p.2 ne nf nch e n,free p.1 p.2 nch e n,ne,nf,d⟩
theorem Inv.un {t':Nat}(I:Inv X pins σ H s)(u:Un X.fs [] H H' s.heap h')(hok:HOk X.prog X.w H' h'):Inv X pins σ H' { s with heap:=h',toks:=t' }:=by
 obtain⟨m,⟨o,es,ep,ho,r⟩,_⟩:=id I.loc;obtain⟨sl,hL⟩:=u.any ho I.free (by simp);exact I.step (g':=s.gens) (d':=s.drawn) (ch:=[]) (λ_ z=>nomatch z) (λb o _ hb _ e n=>u.keep b o e n hb (by simp)) (λb o _ hb _ e n=>u.slot b o e n hb (by simp)) (λb o _ e n=>u.free b o e n (by simp)) (λb o _ e=>u.there b o e (by simp)) u.tups u.frzs u.tbls (λm' hm=>by
  obtain⟨o',es',ep',ho',r'⟩:=hm;rw[ho] at ho';cases ho';exact⟨_,es',ep',hL,r'⟩) hok I.bare
theorem Inv.call {g':Array GenState}{t':Nat}{d':Drawn}{ch:List Addr}(I:Inv X pins σ H s)(u:Un (frs X.stack) ch H H' s.heap h')(hok:HOk X.prog X.w H' h')(hg:yxo g')
  (hch:∀b∈ch,(b∈X.ex∨X.s₀.heap.objs.size≤b)∧b≠X.env.locals∧(∀x c,X.env.cells.lookup x=some c->c≠b)∧∀p∈X.pn++pins,p.1≠b) :
  Inv X pins σ H' { s with heap:=h',gens:=g',drawn:=d',toks:=t' }:=by
 obtain⟨m,⟨o,es,ep,ho,r⟩,_⟩:=id I.loc;obtain⟨sl,hL⟩:=u.any ho I.free λz=>(hch _ z).2.1 rfl;exact I.step (ch:=ch) hch (λb o hL hb hc e n=>u.keep b o e n (λz=>(yka.mp (I.zcfb b z)).elim hL hb) hc) (λb o _ _ hc e n=>u.any e n hc) (λb o hc e n=>u.free b o e n hc) (λb o hc e=>u.there b o e hc) u.tups u.frzs u.tbls (λm' hm=>by
  obtain⟨o',es',ep',ho',r'⟩:=hm;rw[ho] at ho';cases ho';exact⟨_,es',ep',hL,r'⟩) hok hg
theorem Inv.turned {t':Nat}{it:Addr}(I:Inv X pins σ H s)(k:∀b o,b≠it->s.heap.get? b=some o->h'.get? b=some o)(hn:H it=none)(hL:it≠X.env.locals)
  (h1:it∈X.ex∨X.s₀.heap.objs.size≤it) (h2:∀x c,X.env.cells.lookup x=some c->c≠it) (h3:∀p∈X.pn++pins,p.1≠it):Inv X pins σ H { s with heap:=h',toks:=t' }:=by
 have nit:∀b u,H b=some u->b≠it:=λb u e z=>by rw[z,hn] at e;cases e
 refine I.step (g':=s.gens) (d':=s.drawn) (ch:=[it]) (λb hb=>?_) (λb o _ _ hc e _=>k b o (λz=>hc (by simp[z])) e) (λb o _ _ hc e _=>⟨o.slots,k b o (λz=>hc (by simp[z])) e⟩) (λ_ _ _ _ n=>n)
  (λb o hc e=>⟨o,k b o (λz=>hc (by simp[z])) e⟩) (λ_ _ e=>e) (λ_ _ _ e=>e) (λb ps e=>⟨#[],by rw[e];simp⟩) (λm hm=>?_) (λb u e=>?_) I.bare
 ·have e:b=it:=by simpa using hb
  subst e;exact⟨h1,hL,h2,h3⟩
 ·obtain⟨o,es,ep,ho,r⟩:=hm;exact⟨o,es,ep,k _ o (ywc hL) ho,r⟩
 ·refine (I.hok b u e).stay (λc v hc q=>k c v ?_ q) (λ_ q=>q) λ_ _ q=>q
  rcases hc with z|z
  ·rw[z];exact nit b u e
  ·exact nit c _ z
theorem Inv.tok (I:Inv X pins σ H s)(t:Nat):Inv X pins σ H { s with toks:=t }:=I.un (h':=s.heap) (t':=t) Un.refl I.hok
theorem Inv.kept {t':Nat}(I:Inv X pins σ H s)(k:∀b u,s.heap.get? b=some u->h'.get? b=some u):Inv X pins σ H { s with heap:=h',toks:=t' }:=I.un (Un.kept k) (I.hok.kept k)
theorem Inv.laid {a:Addr}{o:HO}{t':Nat}(I:Inv X pins σ H s)(k:∀b u,s.heap.get? b=some u->h'.get? b=some u)(hp:s.heap.objs.size≤a)(new:zvj X.prog X.w (upd H a o) h' a o) :
  Inv X pins σ (upd H a o) { s with heap:=h',toks:=t' }:=I.un (Un.laid k hp (I.hok.fresh hp)) (I.hok.laid k hp new)
theorem Inv.write {x e:Addr}{o:HO}{t':Nat}(I:Inv X pins σ H s)(mu:Mut (H x))(he:e=x∨H e=some (.own x))(k:∀b u,b≠e->s.heap.get? b=some u->h'.get? b=some u)(heo:∃u,h'.get? e=some u)
  (new:zvj X.prog X.w (upd H x o) h' x o):Inv X pins σ (upd H x o) { s with heap:=h',toks:=t' }:=I.un (Un.write mu he k heo) (I.hok.write mu he k heo new)
theorem Inv.weak {σ':List (Option V)}(I:Inv X pins σ H s)(hl:σ'.length=σ.length)(w:∀(i:Nat) v,σ'[i]?=some (some v)->σ[i]?=some (some v)):Inv X pins σ' H s :=
 ⟨I.ok,I.os,I.bare,I.base,let ⟨m,hn,hl'⟩:=I.loc;⟨m,hn,λi x v e1 e2 e3=>hl' i x v e1 (w i v e2) e3⟩,I.cell,I.free,I.freeC,I.pin,I.hok,hl.trans I.len⟩
theorem Inv.zet {pins':List (Addr×Obj)}(I:Inv X pins σ H s)(h:∀p∈pins',s.heap.get? p.1=some p.2∧H p.1=none∧p.1≠X.env.locals∧p.1∉X.fs∧∀v,p.2.data ≠ .cell v):Inv X pins' σ H s :=
 ⟨I.ok,I.os,I.bare,I.base,I.loc,I.cell,I.free,I.freeC,λp hp=>(ydc.mp hp).elim (λz=>I.pin p (yzc _ z)) (h p),I.hok,I.len⟩
theorem zpfb {N:List Str}(hN:N.Nodup){i j:Nat}{x:Str}(a:N[i]?=some x)(b:N[j]?=some x):i=j:=by
 obtain⟨h1,e1⟩:=ysa.mp a;obtain⟨h2,e2⟩:=ysa.mp b;exact (List.getElem_inj hN).mp (e1.trans e2.symm)
theorem zfz {M:Model}{A:Around}{E:Value->Shared->Prop}{i:Nat}{x:Str}{v:V}{u:Value}{Q:Unit->Shared->Prop}(I:Inv X pins σ H s)(hN:X.N.Nodup)(hi:X.N[i]?=some x)(hx:Loc X.env.scope x)(r:RelV v u)
  (h:∀s',Inv X pins (σ.set i (some v)) H s'->(∃a,ysg a s.heap s'.heap∧(a=X.env.locals∨X.env.cells.lookup x=some a))->Q () s') (hf:X.fn x=true∨X.env.scope.names.lookup x=some .local:=by first|exact .inl rfl|exact .inr rfl|assumption):wpAny M A (storeName X.env x u) Q E s:=by
 obtain⟨m,hn,hl⟩:=id I.loc;have hcls:(X.env.scope.kind == .class||(X.env.scope.kind == .module&&X.env.locals != X.env.globals))=false:=by rw[I.ok.kind];rfl
 have hiσ:i<σ.length:=by rw[I.len];exact (ysa.mp hi).1
 have cne:=I.cne;have tracked:∀{a:Addr} {h':Heap},(∃o,s.heap.get? a=some o∧H a=none)->ysg a s.heap h'->HOk X.prog X.w H h':=λ{a h'} ha hs b ob e=>by
  obtain⟨_,_,hfree⟩:=ha;refine (I.hok b ob e).stay (λc w' hc q=>(hs.2 c ?_).trans q) (λ_ q=>q) λ_ _ q=>q;rintro rfl
  rcases hc with rfl|hc
  ·rw[hfree] at e;cases e
  ·rw[hfree] at hc;cases hc
 rcases hx with hk|hk
 ·refine wpAny_storeName_local hk hn (λh' hn' hs=>?_) hcls;obtain⟨oL,_,_,hoL,_⟩:=id hn;refine h _ ⟨I.ok,I.os,I.bare,⟨λb o e n hb hx=>?_,λb o e n hb hx=>?_,I.base.free,λb o e hx=>?_,I.base.tups,I.base.frzs,I.base.tbls⟩,⟨_,hn',λj y v' e1 e2 e3=>?_⟩,λy c e=>?_,I.free,I.freeC,λp hp=>?_,tracked ⟨oL,hoL,I.free⟩ hs,by simpa using I.len⟩ ⟨_,hs,.inl rfl⟩
  ·exact (hs.2 b (yva (yua (yna e) I.ok.above))).trans (I.base.keep b o e n hb hx)
  ·obtain⟨sl,e1⟩:=I.base.slot b o e n hb hx;exact⟨sl,(hs.2 b (yva (yua (yna e) I.ok.above))).trans e1⟩
  ·obtain⟨o',e1⟩:=I.base.there b o e hx;exact⟨o',(hs.2 b (yva (yua (yna e) I.ok.above))).trans e1⟩
  ·by_cases hj:j=i
   ·subst hj;rw[hi] at e1;cases e1;rw[yme hiσ] at e2;cases e2;exact⟨u,r,.inl ⟨hk,by simp⟩⟩
   ·rw[yud (ywc hj)] at e2;obtain⟨u',r',q⟩:=hl j y v' e1 e2 e3;refine⟨u',r',?_⟩
    rcases q with⟨k,e⟩|⟨k,c,e,z⟩
    ·refine .inl ⟨k,?_⟩;have:y≠x:=λe=>hj (zpfb hN e1 (e▸hi));simp[this,e]
    ·exact .inr ⟨k,c,e,z.sameBut hs (cne y c e)⟩
  ·obtain⟨w',z⟩:=I.cell y c e;exact⟨w',z.sameBut hs (cne y c e)⟩
  ·obtain⟨e,n,ne,nf,d⟩:=I.pin p hp;exact⟨(hs.2 p.1 ne).trans e,n,ne,nf,d⟩
 ·have hfn:X.fn x=true:=by
   rcases hf with z|z
   ·exact z
   ·rw[z] at hk;cases hk
  obtain⟨c,hc⟩:=I.ok.has x (.inl hk);obtain⟨w',z⟩:=I.cell x c hc;refine wpAny_storeName_cell I.ok.kind hk hc z (λh' hc' hs=>?_);obtain⟨oc,hoc,hocd⟩:=id z;refine h { s with heap:=h' } ⟨I.ok,I.os,I.bare,⟨λb o e n hb hx=>?_,λb o e n hb hx=>?_,I.base.free,λb o e hx=>?_,I.base.tups,I.base.frzs,I.base.tbls⟩,⟨m,hn.sameBut hs (ywc (cne x c hc)),λj y v' e1 e2 e3=>?_⟩,λy c' e=>?_,I.free,I.freeC,λp hp=>?_,tracked ⟨oc,hoc,I.freeC x c hc⟩ hs,by simpa using I.len⟩ ⟨c,hs,.inr hc⟩
  ·exact (hs.2 b (yva (yua (yna e) (I.ok.cab x c hfn hc)))).trans (I.base.keep b o e n hb hx)
  ·obtain⟨sl,e1⟩:=I.base.slot b o e n hb hx;exact⟨sl,(hs.2 b (yva (yua (yna e) (I.ok.cab x c hfn hc)))).trans e1⟩
  ·obtain⟨o',e1⟩:=I.base.there b o e hx;exact⟨o',(hs.2 b (yva (yua (yna e) (I.ok.cab x c hfn hc)))).trans e1⟩
  ·by_cases hj:j=i
   ·subst hj;rw[hi] at e1;cases e1;rw[yme hiσ] at e2;cases e2;exact⟨u,r,.inr ⟨.inl hk,c,hc,hc'⟩⟩
   ·rw[yud (ywc hj)] at e2;obtain⟨u',r',q⟩:=hl j y v' e1 e2 e3;refine⟨u',r',?_⟩
    rcases q with q|⟨k,c',e,z'⟩
    ·exact .inl q
    ·refine .inr ⟨k,c',e,z'.sameBut hs ?_⟩;rintro rfl;exact hj (zpfb hN e1 (I.ok.inj _ _ _ e hc▸hi))
  ·by_cases hcc:c'=c
   ·subst hcc;exact⟨_,hc'⟩
   ·obtain⟨w2,z2⟩:=I.cell y c' e;exact⟨w2,z2.sameBut hs hcc⟩
  ·obtain⟨e,n,ne,nf,d⟩:=I.pin p hp;refine⟨(hs.2 p.1 ?_).trans e,n,ne,nf,d⟩;intro q;rw[q,hoc] at e;have q':oc=p.2:=yjc e;exact d w' (by rw[← q'];exact hocd)
theorem zsw {M:Model}{A:Around}{E:Value->Shared->Prop}{i:Nat}{x:Str}{v:V}{u:Value}{Q:Unit->Shared->Prop}(I:Inv X pins σ H s)(hN:X.N.Nodup)(hi:X.N[i]?=some x)(hx:Loc X.env.scope x)(r:RelV v u)
  (h:∀s',Inv X pins (σ.set i (some v)) H s'->Q () s') (hf:X.fn x=true∨X.env.scope.names.lookup x=some .local:=by first|exact .inl rfl|exact .inr rfl|assumption):wpAny M A (storeName X.env x u) Q E s :=
 zfz I hN hi hx r (λs' I' _=>h s' I') hf
end
abbrev XK:=Value->Option Addr->Hp->Prop
abbrev St:=List (Option V)
abbrev VK:=V->Hp->Prop
abbrev TE:=St->Hp->VK->Prop
abbrev TT:=St->Hp->(Bool->Hp->Prop)->Prop
abbrev TA:=St->Hp->(List V->Hp->Prop)->Prop
structure Ends where
 nx:St->Hp->Prop
 rt:VK
 bk:St->Hp->Prop:=λ_ _=>False
 ct:St->Hp->Prop:=λ_ _=>False
abbrev TS:=Ends->St->Hp->Prop
def EP (X:Cx)(pins:List (Addr×Obj))(σ:St)(Q:VK)(u:Value)(s':Shared):Prop:=Ex2 λv H'=>Inv X pins σ H' s'∧RelV v u∧Q v H'
def TP (X:Cx)(pins:List (Addr×Obj))(σ:St)(Q:Bool->Hp->Prop)(b:Bool)(s':Shared):Prop:=∃H',Inv X pins σ H' s'∧Q b H'
def AP (X:Cx)(pins:List (Addr×Obj))(σ:St)(Q:List V->Hp->Prop)(us:List Value)(s':Shared):Prop:=Ex2 λvs H'=>Inv X pins σ H' s'∧Vals vs us∧Q vs H'
def SP (X:Cx)(pins:List (Addr×Obj))(D:Ends)(f:Flow)(s':Shared):Prop :=
 match f with
 | .next=>∃ σ' H',Inv X pins σ' H' s'∧D.nx σ' H'
 | .brk=>∃ σ' H',Inv X pins σ' H' s'∧D.bk σ' H'
 | .cont=>∃ σ' H',Inv X pins σ' H' s'∧D.ct σ' H'
 | .ret u=>∃v σ' H',Inv X pins σ' H' s'∧RelV v u∧D.rt v H'
def PE (X:Cx)(e:Expr)(t:TE):Prop :=
 ∀(pins:List (Addr×Obj)) (s:Shared) (σ:St) (H:Hp) (Q:VK),Inv X pins σ H s->t σ H Q->wpAny (model X.prog X.w) X.A (eval e X.env) (EP X pins σ Q) X.xe s
def PT (X:Cx)(e:Expr)(t:TT):Prop :=
 ∀(pins:List (Addr×Obj)) (s:Shared) (σ:St) (H:Hp) (Q:Bool->Hp->Prop),Inv X pins σ H s->t σ H Q->wpAny (model X.prog X.w) X.A (isTrue e X.env (eval e X.env)) (TP X pins σ Q) X.xe s
def PW (X:Cx)(e:Expr)(t:TT):Prop :=
 ∀(whole:Sem Value) (pins:List (Addr×Obj)) (s:Shared) (σ:St) (H:Hp) (Q:Bool->Hp->Prop),Inv X pins σ H s->t σ H Q->wpAny (model X.prog X.w) X.A (isTrue e X.env whole) (TP X pins σ Q) X.xe s
theorem PW.pt {X:Cx}{e:Expr}{t:TT}(h:PW X e t):PT X e t:=h _
def PA (X:Cx)(es:List Expr)(t:TA):Prop :=
 ∀(pos:Pos) (pins:List (Addr×Obj)) (s:Shared) (σ:St) (H:Hp) (Q:List V->Hp->Prop),Inv X pins σ H s->t σ H Q->wpAny (model X.prog X.w) X.A (spliced (backTo pos (yxc es X.env))) (AP X pins σ Q) X.xe s
def PS (X:Cx)(st:Stmt)(t:TS):Prop :=
 ∀(pins:List (Addr×Obj)) (s:Shared) (σ:St) (H:Hp) (D:Ends),Inv X pins σ H s->t D σ H->wpAny (model X.prog X.w) X.A (exec st X.env) (SP X pins D) X.xe s
def PSs (X:Cx)(st:List Stmt)(t:TS):Prop :=
 ∀(pins:List (Addr×Obj)) (s:Shared) (σ:St) (H:Hp) (D:Ends),Inv X pins σ H s->t D σ H->wpAny (model X.prog X.w) X.A (execs st X.env) (SP X pins D) X.xe s
theorem thn {α:Type}{t:Sem α}{Q Q':α->Shared->Prop}{M:Model}{A:Around}{E:Value->Shared->Prop}{s:Shared}(h:wpAny M A t Q E s)(hQ:∀a s,Q a s->Q' a s):wpAny M A t Q' E s:=yne h hQ λ_ _ x=>x
end L2
namespace L2
open PySem PySem.Spec PyProof.Rows
section
variable {X:Cx}
def tVar (i:Nat):TE:=fun σ H Q=>∃v,σ[i]?=some (some v)∧Q v H
def tC (v:V):TE:=λ_ H Q=>Q v H
theorem zftb {i:Nat}{x:Str}{pos:Pos}(hN:X.N[i]?=some x)(hv:Vis X.env.scope x)(hd:(x==("__debug__":Str))=false:=by decide)(hcd:(x==("__classdict__":Str))=false:=by decide):PE X (.Name x pos) (tVar i):=by
 intro pins s σ H Q I h;obtain⟨v,e,h⟩:=h;obtain⟨m,hn,hl⟩:=I.loc;obtain⟨u,r,l⟩:=hl i x v hN e hv;have fin:EP X pins σ Q u s:=⟨v,H,I,r,h⟩
 rcases l with⟨hk,hm⟩|⟨hk,c,hc,hcell⟩
 ·exact wpAny_Name (wpAny_loadName_local I.ok.kind hk hn hm fin) hd
 ·rcases hk with hk|hk
  ·exact wpAny_Name (wpAny_loadName_cell I.ok.kind hk hc hcell fin) hd
  ·exact wpAny_Name (wpAny_loadName_free I.ok.kind hk hc hcell fin hcd) hd
theorem zfa {i j pos}:PE X (.Constant (.int i) j pos) (tC (.int i)):=λ_ _ _ H _ I h=>wpAny_Constant_int ⟨.int i,H,I.tok _,⟨_,rfl⟩,h⟩
theorem zjt {b j pos}:PE X (.Constant (.bool b) j pos) (tC (.bl b)):=λ_ _ _ H _ I h=>Constant_bool ⟨.bl b,H,I,rfl,h⟩
theorem zmfb {j pos}:PE X (.Constant .none j pos) (tC .non):=λ_ _ _ H _ I h=>Constant_none ⟨.non,H,I,rfl,h⟩
theorem zma {x j pos}:PE X (.Constant (.str x) j pos) (tC (.str x)):=λ_ _ _ H _ I h=>Calls.Constant_str ⟨.str x,H,I.tok _,⟨_,rfl⟩,h⟩
def Gl (X:Cx)(x:Str):Prop:=X.env.kindOf x=some .globalImplicit
theorem zkdb {E:Value->Shared->Prop}{pins:List (Addr×Obj)}{s:Shared}{σ:St}{H:Hp}{x:Str}{u:Value}{pos:Pos}{Q:Value->Shared->Prop}(I:Inv X pins σ H s)(hg:Gl X x)(hm:X.mg x=some u)(h:Q u s)
  (hd:(x==("__debug__":Str))=false:=by decide):wpAny (model X.prog X.w) X.A (eval (.Name x pos) X.env) Q E s :=
 yel I.ok.kind hg (Calls.loadGlobal_global (by rw[I.ok.glob];exact I.mod.glob.keeps I.bk) hm h) hd
theorem zir {E:Value->Shared->Prop}{pins:List (Addr×Obj)}{s:Shared}{σ:St}{H:Hp}{x:Str}{u:Value}{pos:Pos}{Q:Value->Shared->Prop}(I:Inv X pins σ H s)(hg:Gl X x)(hm:X.mg x=none)(hv:ykh x=some u)(h:Q u s)
  (hn:x ≠ "__name__":=by decide) (hd:(x==("__debug__":Str))=false:=by decide):wpAny (model X.prog X.w) X.A (eval (.Name x pos) X.env) Q E s:=by
 obtain⟨mb,h1,h2⟩:=I.mod.blt;exact yel I.ok.kind hg (Calls.loadGlobal_builtin (by rw[I.ok.glob];exact I.mod.glob.keeps I.bk) hm (by rw[I.ok.blt];exact h1.keeps I.bk) ((h2 x hn).trans hv) h) hd
theorem znb {x:Str}{v:V}{u:Value}{pos:Pos}(hg:Gl X x)(hm:X.mg x=some u)(r:RelV v u)(hd:(x==("__debug__":Str))=false:=by decide):PE X (.Name x pos) (tC v) :=
 λ_ _ _ H _ I h=>zkdb I hg hm ⟨v,H,I,r,h⟩ hd
theorem zzcb {x:Str}{v:V}{u:Value}{pos:Pos}(hg:Gl X x)(hm:X.mg x=none)(hv:ykh x=some u)(r:RelV v u)(hn:x ≠ "__name__":=by decide)(hd:(x==("__debug__":Str))=false:=by decide):PE X (.Name x pos) (tC v) :=
 λ_ _ _ H _ I h=>zir I hg hm hv ⟨v,H,I,r,h⟩ hn hd
variable {a b:Expr}{ta tb:TE}{pos:Pos}
def tB (t:TE):TT:=fun σ H Q=>t σ H λx H1=>∃c,x = .bl c∧Q c H1
theorem zkm {e:Expr}{t:TE}(h:PE X e t)(he:∀whole,isTrue e X.env whole=(do let v ← whole;standAt e.pos;ynn [v] (truthy v)):=by intro _;rfl):PT X e (tB t):=by
 intro pins s σ H Q I hw;refine isTrue_plain (thn (h pins s σ H _ I hw) λv s1 ⟨x,H1,I1,r1,q1⟩=>?_) (he _);obtain⟨d,rfl,q⟩:=q1;cases r1;exact yee ⟨H1,I1,q⟩
variable {tA tB':TT}{rest:List Expr}
def tAnd (t u:TT):TT:=fun σ H Q=>t σ H λc H1=>if c=true then u σ H1 Q else Q false H1
def tOr (t u:TT):TT:=fun σ H Q=>t σ H λc H1=>if c=true then Q true H1 else u σ H1 Q
def tNot (t:TT):TT:=fun σ H Q=>t σ H λc H1=>Q (!c) H1
theorem zqp (ha:PT X a tA):PW X (.BoolOp .And [a] pos) tA:=by
 intro wh pins s σ H Q I h;refine isTrue_and (thn (ha pins s σ H Q I h) λc s1 e=>?_);cases c with
 | true=>exact isTrue_and_nil e
 | false=>exact e
theorem zjfb (ha:PT X a tA):PW X (.BoolOp .Or [a] pos) tA:=by
 intro wh pins s σ H Q I h;refine isTrue_or (thn (ha pins s σ H Q I h) λc s1 e=>?_);cases c with
 | false=>exact isTrue_or_nil e
 | true=>exact e
theorem zrv (ha:PT X a tA)(hb:PW X (.BoolOp .And (b::rest) pos) tB'):PW X (.BoolOp .And (a::b::rest) pos) (tAnd tA tB'):=by
 intro wh pins s σ H Q I h;refine isTrue_and (thn (ha pins s σ H _ I h) λc s1 ⟨H1,I1,q1⟩=>?_);cases c with
 | true=>exact hb wh pins s1 σ H1 Q I1 q1
 | false=>exact⟨H1,I1,q1⟩
theorem zjjb (ha:PT X a tA)(hb:PW X (.BoolOp .Or (b::rest) pos) tB'):PW X (.BoolOp .Or (a::b::rest) pos) (tOr tA tB'):=by
 intro wh pins s σ H Q I h;refine isTrue_or (thn (ha pins s σ H _ I h) λc s1 ⟨H1,I1,q1⟩=>?_);cases c with
 | true=>exact⟨H1,I1,q1⟩
 | false=>exact hb wh pins s1 σ H1 Q I1 q1
theorem zal (ha:PT X a tA):PT X (.UnaryOp .Not a pos) (tNot tA):=by
 intro pins s σ H Q I h;exact isTrue_not (ha pins s σ H (λc H1=>Q (!c) H1) I h)
def zivb (ta tb:TE):TE:=fun σ H Q=>ta σ H λx H1=>∃c,x = .bl c∧if c=true then tb σ H1 Q else Q (.bl false) H1
def tOrV (ta tb:TE):TE:=fun σ H Q=>ta σ H λx H1=>∃c,x = .bl c∧if c=true then Q (.bl true) H1 else tb σ H1 Q
def zbvb (ta:TE):TE:=fun σ H Q=>ta σ H λx H1=>∃c,x = .bl c∧Q (.bl (!c)) H1
theorem zpjb {op}{t:TE}(h:PE X a t):PE X (.BoolOp op [a] pos) t:=λpins s σ H Q I hw=>BoolOp_one (h pins s σ H Q I hw)
theorem zjtb (ha:PE X a ta)(hb:PE X (.BoolOp .And (b::rest) pos) tb):PE X (.BoolOp .And (a::b::rest) pos) (zivb ta tb):=by
 intro pins s σ H Q I h;refine BoolOp_and (thn (ha pins s σ H _ I h) λv s1 ⟨x,H1,I1,r1,q1⟩=>?_);obtain⟨c,rfl,q1⟩:=q1;cases r1;refine yee ?_;cases c with
 | true=>exact hb pins s1 σ H1 Q I1 q1
 | false=>exact⟨.bl false,H1,I1,rfl,q1⟩
theorem zgtb (ha:PE X a ta)(hb:PE X (.BoolOp .Or (b::rest) pos) tb):PE X (.BoolOp .Or (a::b::rest) pos) (tOrV ta tb):=by
 intro pins s σ H Q I h;refine BoolOp_or (thn (ha pins s σ H _ I h) λv s1 ⟨x,H1,I1,r1,q1⟩=>?_);obtain⟨c,rfl,q1⟩:=q1;cases r1;refine yee ?_;cases c with
 | false=>exact hb pins s1 σ H1 Q I1 q1
 | true=>exact⟨.bl true,H1,I1,rfl,q1⟩
theorem zitb (ha:PE X a ta):PE X (.UnaryOp .Not a pos) (zbvb ta):=by
 intro pins s σ H Q I h;refine UnaryOp_ (thn (ha pins s σ H _ I h) λv s1 ⟨x,H1,I1,r1,q1⟩=>?_);obtain⟨c,rfl,q1⟩:=q1;cases r1;exact not_of (yee ⟨.bl (!c),H1,I1,rfl,q1⟩)
def tIf (t:TT)(ta tb:TE):TE:=fun σ H Q=>t σ H λc H1=>if c=true then ta σ H1 Q else tb σ H1 Q
theorem zcnb {c:Expr}(hc:PT X c tA)(ha:PE X a ta)(hb:PE X b tb):PE X (.IfExp c a b pos) (tIf tA ta tb):=by
 intro pins s σ H Q I h;refine wpAny_IfExp (thn (hc pins s σ H _ I h) λd s1 ⟨H1,I1,q1⟩=>?_);cases d with
 | true=>exact ha pins s1 σ H1 Q I1 q1
 | false=>exact hb pins s1 σ H1 Q I1 q1
end
end L2
namespace L2
open PySem PySem.Spec PyProof.Rows
def SqL (K:yda)(H:Hp)(a:Addr)(xs:List V):Prop :=
 Rd H a (.lst xs) ∨
  Ex3 λ(o:Obj) (its:Array Value) (n:Nat)=>K.lookup a=some o∧o.cls = .type "list" ∧ o.dict=none∧o.data = .seq its n∧its.size≤ywa∧Vals xs its.toList
def SqT (K:yda)(H:Hp)(a:Addr)(xs:List V):Prop :=
 Rd H a (.tup xs) ∨
  Ex3 λ(o:Obj) (its:Array Value) (n:Nat)=>K.lookup a=some o∧o.cls = .type "tuple" ∧ o.data = .seq its n∧its.size≤ywa∧Vals xs its.toList
def absV:Value->Option V
 | .none=>some .non
 | .bool b=>some (.bl b)
 | .int i _=>some (.int i)
 | .str x _=>some (.str x)
 | .bytes b _=>some (.byt b)
 | .float b _=>some (.flt b)
 | .ref a=>some (.ref a)
 | .type n=>some (.ty n)
 | _=>none
theorem RelV.abs {x:V}{u:Value}(r:RelV x u):absV u=some x:=by
 cases x with
 | non=>cases r;rfl
 | bl _=>cases r;rfl
 | int _=>obtain⟨t,rfl⟩:=r;rfl
 | str _=>obtain⟨t,rfl⟩:=r;rfl
 | byt _=>obtain⟨t,rfl⟩:=r;rfl
 | flt _=>obtain⟨t,rfl⟩:=r;rfl
 | ref _=>cases r;rfl
 | ty _=>cases r;rfl
theorem RelV.inj {x y:V}{u:Value}(r:RelV x u)(q:RelV y u):x=y:=yjc (r.abs.symm.trans q.abs)
theorem Vals.inj:∀{xs ys:List V} {us:List Value},Vals xs us->Vals ys us->xs=ys
 | _,_,_,.nil,.nil=>rfl
 | _,_,_,.cons r t,.cons r' t'=>by rw[r.inj r',Vals.inj t t']
section
variable {X:Cx}{pins:List (Addr×Obj)}{σ:St}{H:Hp}{s:Shared}{a:Addr}{xs ys:List V}
theorem SqL.of {K:yda}(h:H a=some (.lst xs)):SqL K H a xs:=.inl (.inl h)
theorem SqT.of {K:yda}(h:H a=some (.tup xs)):SqT K H a xs:=.inl (.inl h)
theorem Inv.list (I:Inv X pins σ H s)(h:SqL X.K H a xs):∃its:List Value,Vals xs its∧PlainL s.heap a its.toArray∧xs.length≤ywa:=by
 rcases h with h|⟨o,its,n,hk,hc,hd,hs,hz,r⟩
 ·obtain⟨z,its,n,r,e⟩:=h.ok I.hok;exact⟨its,r,⟨_,n,e,rfl,rfl,rfl⟩,z⟩
 ·refine⟨its.toList,r,⟨o,n,I.kIn a o hk,hc,hd,by simpa using hs⟩,?_⟩;have e:=r.length;simp only[ypa] at e;omega
theorem Inv.tuple (I:Inv X pins σ H s)(h:SqT X.K H a xs):∃its:List Value,Vals xs its∧IsTup s.heap a its.toArray∧xs.length≤ywa:=by
 rcases h with h|⟨o,its,n,hk,hc,hs,hz,r⟩
 ·obtain⟨z,its,r,p⟩:=h.ok I.hok;exact⟨its,r,p,z⟩
 ·refine⟨its.toList,r,⟨o,I.kIn a o hk,hc,n,by simpa using hs⟩,?_⟩;have e:=r.length;simp only[ypa] at e;omega
theorem Inv.zufb (I:Inv X pins σ H s)(h:SqL X.K H a xs)(h':SqL X.K H a ys):xs=ys:=by
 obtain⟨its,r,⟨o,n,e,_,_,d⟩,_⟩:=I.list h;obtain⟨its',r',⟨o',n',e',_,_,d'⟩,_⟩:=I.list h';rw[e] at e';cases e';rw[d] at d';injection d' with d1 _
 have:its=its':=by simpa using congrArg Array.toList d1
 subst this;exact r.inj r'
theorem Inv.zoib (I:Inv X pins σ H s)(h:SqT X.K H a xs)(h':SqT X.K H a ys):xs=ys:=by
 obtain⟨its,r,⟨o,e,_,n,d⟩,_⟩:=I.tuple h;obtain⟨its',r',⟨o',e',_,n',d'⟩,_⟩:=I.tuple h';rw[e] at e';cases e';rw[d] at d';injection d' with d1 _
 have:its=its':=by simpa using congrArg Array.toList d1
 subst this;exact r.inj r'
end
abbrev Cx.wish (X:Cx)(E:Value->Shared->Prop):Cx:={ X with xe:=E }
abbrev Cx.nox (X:Cx):Cx:=X.wish λ_ _=>False
theorem Cx.Ok.wish {X:Cx}(ok:X.Ok)(E:Value->Shared->Prop):(X.wish E).Ok :=
 ⟨ok.mod,ok.kind,ok.glob,ok.blt,ok.above,ok.inj,ok.has,ok.cab,ok.hd,ok.frames,ok.stk,ok.exf,ok.bs,ok.bsz,ok.noex,ok.exfs,ok.funs,ok.frf⟩
theorem Cx.Ok.zpq {X:Cx}{E:Value->Shared->Prop}(ok:(X.wish E).Ok):X.Ok :=
 ⟨ok.mod,ok.kind,ok.glob,ok.blt,ok.above,ok.inj,ok.has,ok.cab,ok.hd,ok.frames,ok.stk,ok.exf,ok.bs,ok.bsz,ok.noex,ok.exfs,ok.funs,ok.frf⟩
section
variable {X:Cx}{pins:List (Addr×Obj)}{σ:St}{H:Hp}{s:Shared}{E:Value->Shared->Prop}
theorem Inv.wish (I:Inv X pins σ H s)(E:Value->Shared->Prop):Inv (X.wish E) pins σ H s:=⟨I.ok.wish E,I.os,I.bare,I.base,I.loc,I.cell,I.free,I.freeC,I.pin,I.hok,I.len⟩
theorem Inv.zpq (I:Inv (X.wish E) pins σ H s):Inv X pins σ H s:=⟨I.ok.zpq,I.os,I.bare,I.base,I.loc,I.cell,I.free,I.freeC,I.pin,I.hok,I.len⟩
theorem SP.zpq {D:Ends}{f:Flow}{s':Shared}(h:SP (X.wish E) pins D f s'):SP X pins D f s':=by
 cases f with
 | next=>obtain⟨σ',H',I,q⟩:=h;exact⟨σ',H',I.zpq,q⟩
 | brk=>obtain⟨σ',H',I,q⟩:=h;exact⟨σ',H',I.zpq,q⟩
 | cont=>obtain⟨σ',H',I,q⟩:=h;exact⟨σ',H',I.zpq,q⟩
 | ret u=>obtain⟨v,σ',H',I,r,q⟩:=h;exact⟨v,σ',H',I.zpq,r,q⟩
theorem PSs.nox {st:List Stmt}{t:TS}(h:PSs X.nox st t):PSs X st t:=λpins s σ H D I hw =>
 yne (h pins s σ H D (I.wish _) hw) (λ_ _ q=>q.zpq) λ_ _ z=>ytf z
end
section
variable {X:Cx}{st:Stmt}{rest:List Stmt}{t u:TS}{e:Expr}{te:TE}{pos:Pos}
def zcvb:TS:=λD σ H=>D.nx σ H
def tSeq (t u:TS):TS:=λD σ H=>t { D with nx:=u D } σ H
theorem zva:PSs X [] zcvb:=λ_ _ σ H _ I h=>ynk ⟨σ,H,I,h⟩
theorem zca (h1:PS X st t)(h2:PSs X rest u):PSs X (st::rest) (tSeq t u):=by
 intro pins s σ H D I h;refine wpAny_execs_cons (thn (h1 pins s σ H { D with nx:=u D } I h) λf s1 q=>?_);cases f with
 | next =>
  obtain⟨σ',H',I',q⟩:=q;exact h2 pins s1 σ' H' D I' q
 | ret v=>exact q
 | brk=>exact q
 | cont=>exact q
theorem zea (h1:PS X st t):PSs X [st] t:=by
 intro pins s σ H D I h;refine wpAny_execs_cons (thn (h1 pins s σ H D I h) λf s1 q=>?_);cases f with
 | next=>exact ynk q
 | ret v=>exact q
 | brk=>exact q
 | cont=>exact q
theorem Inv.quiet {pins:List (Addr×Obj)}{σ:St}{H:Hp}{s:Shared}(I:Inv X pins σ H s):interactive X.env=false:=by simp[interactive,I.ok.kind]
def zevb (te:TE):TS:=λD σ H=>te σ H λ_ H1=>D.nx σ H1
theorem zme (he:PE X e te)(hs:ytq e none pos.line X.env=pure false:=by rfl):PS X (.Expr e pos) (zevb te):=by
 intro pins s σ H D I h;exact wpAny_Expr_any (thn (he pins s σ H _ I h) λv s1 ⟨x,H1,I1,r1,q1⟩=>⟨σ,H1,I1,q1⟩) I.quiet hs
def tRet (te:TE):TS:=λD σ H=>te σ H D.rt
theorem zta (he:PE X e te):PS X (.Return (some e) pos) (tRet te):=by
 intro pins s σ H D I h;exact wpAny_Return_some (thn (he pins s σ H _ I h) λv s1 ⟨x,H1,I1,r1,q1⟩=>⟨x,σ,H1,I1,r1,q1⟩)
def tIfS (c:TT)(t u:TS):TS:=λD σ H=>c σ H λb H1=>if b=true then t D σ H1 else u D σ H1
theorem zvb {c:Expr}{a b:List Stmt}{tc:TT}(hc:PT X c tc)(ha:PSs X a t)(hb:PSs X b u):PS X (.If c a b pos) (tIfS tc t u):=by
 intro pins s σ H D I h;refine wpAny_If (thn (hc pins s σ H _ I h) λd s1 ⟨H1,I1,q1⟩=>?_);cases d with
 | true=>exact ha pins s1 σ H1 D I1 q1
 | false=>exact hb pins s1 σ H1 D I1 q1
def zlsb:TS:=λ_ _ _=>False
theorem zxd:PS X st zlsb:=λ_ _ _ _ _ _ h=>h.elim
end
abbrev TG:=V->St->Hp->(St->Hp->Prop)->Prop
abbrev TGs:=List V->St->Hp->(St->Hp->Prop)->Prop
def PG (X:Cx)(target:Expr)(t:TG):Prop :=
 ∀(pins:List (Addr×Obj)) (s:Shared) (σ:St) (H:Hp) (v:V) (u:Value) (Q:St->Hp->Prop),Inv X pins σ H s->RelV v u->t v σ H Q →
  wpAny (model X.prog X.w) X.A (assign target X.env u) (λ_ s'=>∃ σ' H',Inv X pins σ' H' s'∧Q σ' H') X.xe s
def PGs (X:Cx)(ts:List Expr)(t:TGs):Prop :=
 ∀(pins:List (Addr×Obj)) (s:Shared) (σ:St) (H:Hp) (vs:List V) (us:List Value) (Q:St->Hp->Prop),Inv X pins σ H s->Vals vs us->t vs σ H Q →
  wpAny (model X.prog X.w) X.A (assignInOrder ((yhj ts X.env).map (·.2)) us) (λ_ s'=>∃ σ' H',Inv X pins σ' H' s'∧Q σ' H') X.xe s
abbrev TSet:=V->V->V->Hp->(Hp->Prop)->Prop
def PSet (X:Cx)(t:TSet):Prop :=
 ∀(pins:List (Addr×Obj)) (s:Shared) (σ:St) (H:Hp) (o i v:V) (ov iv u:Value) (Q:Hp->Prop),Inv X pins σ H s->RelV o ov->RelV i iv->RelV v u->t o i v H Q →
  wpAny (model X.prog X.w) X.A (setItem ov iv u) (λ_ s'=>∃H',Inv X pins σ H' s'∧Q H') X.xe s
abbrev TIp:=V->V->Hp->VK->Prop
def PIp (X:Cx)(op:yrq)(t:TIp):Prop :=
 ∀(pins:List (Addr×Obj)) (s:Shared) (σ:St) (H:Hp) (x y:V) (v u:Value) (Q:VK),Inv X pins σ H s->RelV x v->RelV y u->t x y H Q →
  wpAny (model X.prog X.w) X.A (inplaceOp op v u) (EP X pins σ Q) X.xe s
section
variable {X:Cx}{pos:Pos}
def zbob (i:Nat):TG:=λv σ H Q=>Q (σ.set i (some v)) H
theorem zeb {i:Nat}{x:Str}(hN:X.N.Nodup)(hi:X.N[i]?=some x)(hx:Loc X.env.scope x)(hf:X.fn x=true∨X.env.scope.names.lookup x=some .local:=by first|exact .inl rfl|exact .inr rfl|assumption):PG X (.Name x pos) (zbob i):=by
 intro pins s σ H v u Q I r h;exact wpAny_assign_Name (zsw I hN hi hx r (λs' I'=>⟨_,H,I',h⟩) hf)
def gNil:TGs:=λvs σ H Q=>vs=[]∧Q σ H
def zzvb (t:TG)(u:TGs):TGs:=λvs σ H Q=>Ex2 λv r=>vs=v::r∧t v σ H fun σ' H'=>u r σ' H' Q
theorem zbl:PGs X [] gNil:=by
 intro pins s σ H vs us Q I r h;obtain⟨e,h⟩:=h;subst e;cases r;exact assignInOrder_nil ⟨σ,H,I,h⟩
theorem zlc {e:Expr}{es:List Expr}{t:TG}{u:TGs}(h1:PG X e t)(h2:PGs X es u)
  (hs:(yhj (e::es) X.env).map (·.2)=assign e X.env::(yhj es X.env).map (·.2):=by rfl):PGs X (e::es) (zzvb t u):=by
 intro pins s σ H vs us Q I r h;obtain⟨v,vr,e1,h⟩:=h;subst e1;cases r with
 | cons r rr =>
  rw[hs];refine assignInOrder_cons (thn (h1 pins s σ H _ _ _ I r h) λ_ s1 ⟨σ1,H1,I1,q1⟩=>?_);exact h2 pins s1 σ1 H1 _ _ Q I1 rr q1
def gTup (K:yda)(n:Nat)(t:TGs):TG:=λv σ H Q=>Ex2 λa xs=>v = .ref a∧SqT K H a xs∧xs.length=n∧t xs σ H Q
theorem zer {es:List Expr}{k:Nat}{t:TGs}{n:Nat}(hc:X.calm=true)(h:PGs X es t)
  (hn:(yhj es X.env).length=n:=by rfl) (hst:(yhj es X.env).findIdx? (·.1)=none:=by rfl):PG X (.Tuple es k pos) (gTup X.K n t):=by
 intro pins s σ H v u Q I r hw;obtain⟨a,xs,e1,hq,hl,hw⟩:=hw;subst e1;cases r;obtain⟨its,rv,ht,hz⟩:=I.tuple hq;refine assign_Tuple_tuple (I.ok.hd hc) ht (by simp[hn,← hl,rv.length]) hst λh' hx=>?_;have I1:Inv X pins σ H { s with heap:=h' }:=I.kept (t':=s.toks) λb o e=>hx b o (yva (yna e)) e;exact h pins _ σ H xs _ Q I1 (by simpa using rv) hw
def gSub (to ti:TE)(t:TSet):TG:=λv σ H Q=>to σ H λo H1=>ti σ H1 λi H2=>t o i v H2 λH3=>Q σ H3
theorem zuz {o i:Expr}{to ti:TE}{t:TSet}(ho:PE X o to)(hi:PE X i ti)(hs:PSet X t)
  (ha:∀v,assign (.Subscript o i pos) X.env v=(do
   let ov ← ynn [v] (eval o X.env)
   let iv ← ynn [v,ov] (eval i X.env)
   standAt pos
   ynn [v,ov,iv] (setItem ov iv v)
   release [v,ov,iv] []):=by intro _;rfl):PG X (.Subscript o i pos) (gSub to ti t):=by
 intro pins s σ H v u Q I r h;rw[ha];refine yaa (ykc (thn (ho pins s σ H _ I h) λov s1 ⟨x,H1,I1,r1,q1⟩=>?_));refine yaa (ykc (thn (hi pins s1 σ H1 _ I1 q1) λiv s2 ⟨y,H2,I2,r2,q2⟩=>?_));refine yaa (yep (yaa (ykc (thn (hs pins s2 σ H2 x y v ov iv u _ I2 r1 r2 r q2) λ_ s3 ⟨H3,I3,q3⟩=>?_))));exact wpAny_release ⟨σ,H3,I3,q3⟩
def tAsg (te:TE)(g:TG):TS:=λD σ H=>te σ H λx H1=>g x σ H1 D.nx
theorem znm {tg e:Expr}{te:TE}{g:TG}(he:PE X e te)(hg:PG X tg g)(hs:swapsWithSole [tg] e pos.line X.env=pure false:=by rfl)(hw:swappedStores [tg] e X.env=pure none:=by rfl)
  (h1:(yhj [tg] X.env).map (·.2)=[assign tg X.env]:=by rfl):PS X (.Assign [tg] e pos) (tAsg te g):=by
 intro pins s σ H D I h;refine wpAny_Assign_stores (thn (he pins s σ H _ I h) λv s1 ⟨x,H1,I1,r1,q1⟩=>?_) hs hw;rw[h1];exact thn (hg pins s1 σ H1 x v _ I1 r1 q1) λ_ s2 q=>q
theorem zoa {i:Nat}{x:Str}{e:Expr}{te:TE}{pos':Pos}(hN:X.N.Nodup)(hi:X.N[i]?=some x)(hx:Loc X.env.scope x)(he:PE X e te)(hs:ytq e (some (.Name x pos')) pos.line X.env=pure false:=by rfl)(hf:X.fn x=true∨X.env.scope.names.lookup x=some .local:=by first|exact .inl rfl|exact .inr rfl|assumption) :
  PS X (.Assign [.Name x pos'] e pos) (tAsg te (zbob i)):=by
 intro pins s σ H D I h;refine wpAny_Assign_Name (thn (he pins s σ H _ I h) λv s1 ⟨y,H1,I1,r1,q1⟩=>?_) hs;exact zsw I1 hN hi hx r1 (λs2 I2=>⟨_,H1,I2,q1⟩) hf
def tAug (i:Nat)(te:TE)(ti:TIp):TS:=λD σ H=>∃x,σ[i]?=some (some x)∧te σ H λy H1=>ti x y H1 λz H2=>D.nx (σ.set i (some z)) H2
theorem zdtb {i:Nat}{x:Str}{e:Expr}{te:TE}{op:yrq}{ti:TIp}{pos':Pos}(hN:X.N.Nodup)(hi:X.N[i]?=some x)(hx:Loc X.env.scope x)(he:PE X e te)(ho:PIp X op ti)(hf:X.fn x=true∨X.env.scope.names.lookup x=some .local:=by first|exact .inl rfl|exact .inr rfl|assumption) :
  PS X (.AugAssign (.Name x pos') op e pos) (tAug i te ti):=by
 intro pins s σ H D I h;obtain⟨v,e1,h⟩:=h;obtain⟨m,hn,hl⟩:=I.loc;have vis:Vis X.env.scope x:=by rcases hx with k|k;exact .inl k;exact .inr (.inl k)
 obtain⟨u,r,l⟩:=hl i x v hi e1 vis;refine wpAny_AugAssign_Name ?_;have go:wpAny (model X.prog X.w) X.A (eval e X.env) (λw s₂=>wpAny (model X.prog X.w) X.A (inplaceOp op u w) (λr s₃=>wpAny (model X.prog X.w) X.A (storeName X.env x r) (λ_=>SP X pins D .next) X.xe s₃) X.xe s₂) X.xe s:=by
  refine thn (he pins s σ H _ I h) λw s1 ⟨y,H1,I1,r1,q1⟩=>?_;refine thn (ho pins s1 σ H1 v y u w _ I1 r r1 q1) λz s2 ⟨zv,H2,I2,r2,q2⟩=>?_;exact zsw I2 hN hi hx r2 (λs3 I3=>⟨_,H2,I3,q2⟩) hf
 rcases l with⟨hk,hm⟩|⟨hk,c,hc,hcell⟩
 ·exact wpAny_loadName_local I.ok.kind hk hn hm go
 ·rcases hk with hk|hk
  ·exact wpAny_loadName_cell I.ok.kind hk hc hcell go
  ·rcases hx with k|k
   ·have:X.env.scope.names.lookup x=some .free:=hk;rw[k] at this;cases this
   ·have:X.env.scope.names.lookup x=some .free:=hk;rw[k] at this;cases this
def ipI (f:Int->Int->Int):TIp:=λx y H Q=>Ex2 λi j=>x = .int i∧y = .int j∧Q (.int (f i j)) H
theorem zkub:PIp X .Add (ipI λi j=>i+j):=by
 intro pins s σ H x y v u Q I r1 r2 h;obtain⟨i,j,e1,e2,q⟩:=h;subst e1;subst e2;obtain⟨t,rfl⟩:=r1;obtain⟨t',rfl⟩:=r2;exact iadd_int ⟨.int _,H,I.tok _,⟨_,rfl⟩,q⟩
end
section
variable {X:Cx}{pos:Pos}
def zisb (c:TT)(tb:TS):TS:=λD σ H=>∃W:Nat->St->Hp->Prop,(∃m,W m σ H)∧∀m σ H,W m σ H →
 c σ H λb H1=>if b=true then ∃N:St->Hp->Prop,(∀ σ' H',N σ' H'->∃m',m'<m∧W m' σ' H')∧tb { D with nx:=N,ct:=N,bk:=D.nx } σ H1 else D.nx σ H1
theorem zwmb {c:Expr}{body:List Stmt}{tc:TT}{tb:TS}(hp:PassesOwn (model X.prog X.w) X.A X.env X.xe)(hc:PT X c tc)(hb:PSs X body tb):PS X (.While c body [] pos) (zisb tc tb):=by
 intro pins s σ H D I h;obtain⟨W,⟨m0,w0⟩,turn⟩:=h;refine wpAny_While (codeAny_whileLoop (λn s'=>∃ σ' H',Inv X pins σ' H' s'∧W n σ' H') ?_ m0 ⟨σ,H,I,w0⟩);rintro n s1 ⟨σ1,H1,I1,w1⟩;refine yeg hp (thn (hc pins s1 σ1 H1 _ I1 (turn n σ1 H1 w1)) λb s2 ⟨H2,I2,q2⟩=>?_);cases b with
 | true =>
  obtain⟨N,hN,q2⟩:=q2;rw[if_pos rfl];refine yeg hp (thn (hb pins s2 σ1 H2 _ I2 q2) λf s3 q3=>?_);cases f with
  | next =>
   obtain⟨σ3,H3,I3,n3⟩:=q3;obtain⟨m',hm,w3⟩:=hN σ3 H3 n3;exact⟨m',hm,σ3,H3,I3,w3⟩
  | cont =>
   obtain⟨σ3,H3,I3,n3⟩:=q3;obtain⟨m',hm,w3⟩:=hN σ3 H3 n3;exact⟨m',hm,σ3,H3,I3,w3⟩
  | brk=>exact q3
  | ret v=>exact q3
 | false =>
  rw[if_neg yeb];exact ynk ⟨σ1,H2,I2,q2⟩
end
structure It where
 go:Nat->Hp->Prop
 yld:Nat->Hp->V->Hp->Prop
 stop:Nat->Hp->Prop
def FpOk (X:Cx)(pins:List (Addr×Obj))(H:Hp)(b:Addr):Prop :=
 H b=none∧b≠X.env.locals∧b∉X.fs∧(b∈X.ex∨X.s₀.heap.objs.size≤b)∧(∀x c,X.env.cells.lookup x=some c->c≠b)∧∀p∈X.pn++pins,p.1≠b
theorem Inv.fpOk {X:Cx}{pins:List (Addr×Obj)}{σ:St}{H H':Hp}{s:Shared}{b:Addr}(I:Inv X pins σ H s)(hb:s.heap.objs.size≤b)(hn:H' b=none):FpOk X pins H' b:=by
 refine⟨hn,ytg (yua I.lt hb),I.nofs hb,.inr (ymb I.sz hb),λx c e z=>?_,λp hp z=>?_⟩
 ·obtain⟨v,q⟩:=I.cell x c e;exact absurd (yua q.lt (by rw[z];exact hb)) (yid _)
 ·exact absurd (yua (yna (I.pin p hp).1) (by rw[z];exact hb)) (yid _)
structure Turn (P:yvb)(w:World)(K:yda)(tg:Expr)(J:It)(fp:List Addr)(it:Addr)(tn:Nat->Heap->Prop):Prop where
 mem:it∈fp
 obj:∀i h,tn i h->∀b∈fp,∃o,h.get? b=some o∧∀v,o.data ≠ .cell v
 keep:∀i h h',tn i h->(∀b∈fp,∀o,h.get? b=some o->h'.get? b=some o)->tn i h'
 item:∀(X:Cx),X.prog=P->X.w=w->X.K=K->X.calm=true->∀(i:Nat) (pins:List (Addr×Obj)) (s:Shared) (σ:St) (H:Hp) (E:Value->Shared->Prop),Inv X pins σ H s->(∀b∈fp,FpOk X pins H b)->tn i s.heap->J.go i H →
  wpAny (model P w) X.A (pyNext (.ref it)) (λr s1=>∃u,r=some u ∧
   wpAny (model P w) X.A (yok tg (.ref it) u) (λ_ s2=>Ex2 λx H'=>Inv X pins σ H' s2∧RelV x u∧J.yld i H x H'∧tn (i+1) s2.heap∧∀b∈fp,H' b=none) E s1) E s
 done:∀(X:Cx),X.prog=P->X.w=w->X.K=K->X.calm=true->∀(i:Nat) (pins:List (Addr×Obj)) (s:Shared) (σ:St) (H:Hp) (E:Value->Shared->Prop),Inv X pins σ H s->(∀b∈fp,FpOk X pins H b)->tn i s.heap->J.stop i H →
  wpAny (model P w) X.A (pyNext (.ref it)) (λr s1=>r=none∧Inv X pins σ H s1) E s
 self:∀(A:Around) (i:Nat) (s:Shared) (Q:Value->Shared->Prop) (E:Value->Shared->Prop),tn i s.heap->Q (.ref it) s->wpAny (model P w) A (pyIter (.ref it)) Q E s
abbrev TI:=St->Hp->(It->Hp->Prop)->Prop
def PIE (X:Cx)(pins:List (Addr×Obj))(σ:St)(tg:Expr)(R:It->Hp->Prop)(itv:Value)(s2:Shared):Prop :=
 Ex5 λ(it:Addr) (fp:List Addr) (tn:Nat->Heap->Prop) (J:It) (H':Hp)=>itv = .ref it∧Inv X pins σ H' s2∧Turn X.prog X.w X.K tg J fp it tn∧tn 0 s2.heap∧(∀b∈fp,FpOk X pins H' b)∧R J H'
def PI (X:Cx)(tg iter:Expr)(wi:TI):Prop :=
 ∀(pins:List (Addr×Obj)) (s:Shared) (σ:St) (H:Hp) (R:It->Hp->Prop),Inv X pins σ H s->wi σ H R →
  wpAny (model X.prog X.w) X.A (eval iter X.env) (λv s1=>wpAny (model X.prog X.w) X.A (pyIter v) (PIE X pins σ tg R) X.xe s1) X.xe s
theorem zokb {M:Model}{A:Around}{E:Value->Shared->Prop}{s:Shared}{tg:Expr}{it:Addr}{u:Value}{o:Obj}{n:String}{vs:Array Value}{Q:Unit->Shared->Prop}(ho:s.heap.get? it=some o)(hc:o.cls = .type n)(hd:o.data = .fields vs)
  (hn:["enumerate","zip","dict_itemiterator","dict_reverseitemiterator","odict_iterator","itertools.zip_longest","itertools.pairwise"].contains n=false) (hQ:Q () s):wpAny M A (yok tg (.ref it) u) Q E s:=by
 unfold yok;cases tg<;>first
  | exact yfa hQ
  | (cases u<;>first
    | exact yfa hQ
    | (refine yaa (yzl ho ?_)
       rw[hc,hd];show wpAny M A (if (["enumerate","zip","dict_itemiterator","dict_reverseitemiterator","odict_iterator","itertools.zip_longest","itertools.pairwise"].contains n&&vs[0]?==some (rawInt _))=true then _ else _) Q E s
       rw[if_neg (by intro h;rw[hn,ybg] at h;cases h)];exact yfa hQ))
def Itl (K:yda)(a:Addr):It :=
 ⟨λi H=>Ex2 λxs x=>SqL K H a xs∧xs[i]?=some x,λi H x H'=>H'=H∧∀xs,SqL K H a xs->xs[i]?=some x,λi H=>∃xs,SqL K H a xs∧xs.length≤i⟩
def Itt (K:yda)(a:Addr):It :=
 ⟨λi H=>Ex2 λxs x=>SqT K H a xs∧xs[i]?=some x,λi H x H'=>H'=H∧∀xs,SqT K H a xs->xs[i]?=some x,λi H=>∃xs,SqT K H a xs∧xs.length≤i⟩
def Itr (lo:Int)(n:Nat):It:=⟨λi _=>i<n,λi H x H'=>H'=H∧x = .int (lo+i),λi _=>n≤i⟩
theorem znib {P:yvb}{w:World}{K:yda}{tg:Expr}(a it:Addr):Turn P w K tg (Itl K a) [it] it (λi h=>h.IsListIter it a i) where
 mem:=by simp
 obj:=λi h st b hb=>by
  have e:b=it:=by simpa using hb
  subst e;obtain⟨o,e,c,d⟩:=st;exact⟨o,e,λv z=>by rw[d] at z;cases z⟩
 keep:=λi h h' st k=>st.at λo e=>k it (by simp) o e
 item:=by
  intro X hP hw hK hc i pins s σ H E I hf st hg;subst hP hw hK;obtain⟨xs,x,hq,hx⟩:=hg;obtain⟨its,rv,p,hz⟩:=I.list hq;obtain⟨u,hu,ru⟩:=rv.get hx;obtain⟨f0,f1,f2,f3,f4,f5⟩:=hf it (by simp);refine yin st p.isList (x:=u) (by simpa using hu) λh' st' sb=>?_;have I1:Inv X pins σ H { s with heap:=h' }:=I.turned (t':=s.toks) (λb o hb e=>(sb.2 b hb).trans e) f0 f1 f3 f4 f5;obtain⟨o,e,c,d⟩:=id st';exact⟨u,rfl,zokb (s:={ s with heap:=h' }) e c d (by decide) ⟨x,H,I1,ru,⟨rfl,λys hy=>by rw[I.zufb hy hq];exact hx⟩,st',λb hb=>(hf b hb).1⟩⟩
 done:=by
  intro X hP hw hK hc i pins s σ H E I hf st hg;subst hP hw hK;obtain⟨xs,hq,hx⟩:=hg;obtain⟨its,rv,p,hz⟩:=I.list hq;obtain⟨f0,f1,f2,f3,f4,f5⟩:=hf it (by simp);have hl:=rv.length;exact yon (I.ok.hd hc) st p.isList (by simp;omega) λh' eb=>⟨rfl,I.turned (t':=s.toks) (λb o hb e=>eb b o hb e) f0 f1 f3 f4 f5⟩
 self:=λ_ _ _ _ _ st h=>wpAny_pyIter_listiter st h
theorem zogb {P:yvb}{w:World}{K:yda}{tg:Expr}(a it:Addr):Turn P w K tg (Itt K a) [it] it (λi h=>h.IsTupleIter it a i) where
 mem:=by simp
 obj:=λi h st b hb=>by
  have e:b=it:=by simpa using hb
  subst e;obtain⟨o,e,c,d⟩:=st;exact⟨o,e,λv z=>by rw[d] at z;cases z⟩
 keep:=λi h h' st k=>st.at λo e=>k it (by simp) o e
 item:=by
  intro X hP hw hK hc i pins s σ H E I hf st hg;subst hP hw hK;obtain⟨xs,x,hq,hx⟩:=hg;obtain⟨its,rv,p,hz⟩:=I.tuple hq;obtain⟨u,hu,ru⟩:=rv.get hx;obtain⟨f0,f1,f2,f3,f4,f5⟩:=hf it (by simp);refine wpAny_pyNext_tuple_item st (show s.heap.IsTuple a its.toArray from p) (x:=u) (by simpa using hu) λh' st' sb=>?_;have I1:Inv X pins σ H { s with heap:=h' }:=I.turned (t':=s.toks) (λb o hb e=>(sb.2 b hb).trans e) f0 f1 f3 f4 f5;obtain⟨o,e,c,d⟩:=id st';exact⟨u,rfl,zokb (s:={ s with heap:=h' }) e c d (by decide) ⟨x,H,I1,ru,⟨rfl,λys hy=>by rw[I.zoib hy hq];exact hx⟩,st',λb hb=>(hf b hb).1⟩⟩
 done:=by
  intro X hP hw hK hc i pins s σ H E I hf st hg;subst hP hw hK;obtain⟨xs,hq,hx⟩:=hg;obtain⟨its,rv,p,hz⟩:=I.tuple hq;obtain⟨f0,f1,f2,f3,f4,f5⟩:=hf it (by simp);have hl:=rv.length;exact wpAny_pyNext_tuple_end (I.ok.hd hc) st (show s.heap.IsTuple a its.toArray from p) (by simp;omega) λh' eb=>⟨rfl,I.turned (t':=s.toks) (λb o hb e=>eb b o hb e) f0 f1 f3 f4 f5⟩
 self:=λ_ _ _ _ _ st h=>wpAny_pyIter_tupleiter st h
theorem zpgb {P:yvb}{w:World}{K:yda}{tg:Expr}(it:Addr)(lo:Int)(n:Nat):Turn P w K tg (Itr lo n) [it] it (λi h=>IsRangeIter h it (lo+(i:Nat)*1) ((n:Int)-(i:Nat)) 1) where
 mem:=by simp
 obj:=λi h st b hb=>by
  have e:b=it:=by simpa using hb
  subst e;exact⟨_,st,λv z=>by
   have z':Data.fields _=Data.cell v:=z;cases z'⟩
 keep:=λi h h' st k=>k it (by simp) _ st
 item:=by
  intro X hP hw hK hc i pins s σ H E I hf st hg;subst hP hw hK;obtain⟨f0,f1,f2,f3,f4,f5⟩:=hf it (by simp);have W:=Walks.range (prog:=X.prog) (w:=X.w) (I.ok.hd hc) it lo 1 n;refine W.item i s _ _ hg st λv h' tk hv st' kk=>?_;obtain⟨t,rfl⟩:=hv;have I1:Inv X pins σ H { s with heap:=h',toks:=tk }:=I.turned (λb o hb e=>kk b o (by simpa using hb) e) f0 f1 f3 f4 f5;refine⟨_,rfl,zokb (s:={ s with heap:=h',toks:=tk }) (n:="range_iterator") st' rfl rfl (by decide) ⟨.int (lo+i),H,I1,⟨t,?_⟩,⟨rfl,rfl⟩,st',λb hb=>(hf b hb).1⟩⟩;rw[Int.mul_one]
 done:=by
  intro X hP hw hK hc i pins s σ H E I hf st hg;subst hP hw hK;obtain⟨f0,f1,f2,f3,f4,f5⟩:=hf it (by simp);exact wpAny_pyNext_range_end (I.ok.hd hc) st (by have:n≤i:=hg;omega) λh' eb=>⟨rfl,I.turned (t':=s.toks) (λb o hb e=>eb b o hb e) f0 f1 f3 f4 f5⟩
 self:=λ_ _ _ _ _ st h=>wpAny_pyIter_rangeiter st h
end L2
namespace L2
open PySem PySem.Spec PyProof.Rows
section
variable {X:Cx}{tg:Expr}
def zoub (K:yda)(tl:TE):TI:=fun σ H R=>tl σ H λx H1=>∃a,x = .ref a∧(∃xs,SqL K H1 a xs)∧R (Itl K a) H1
def iTup (K:yda)(tl:TE):TI:=fun σ H R=>tl σ H λx H1=>∃a,x = .ref a∧(∃xs,SqT K H1 a xs)∧R (Itt K a) H1
theorem zag {l:Expr}{tl:TE}(hl:PE X l tl):PI X tg l (zoub X.K tl):=by
 intro pins s σ H R I h;refine thn (hl pins s σ H _ I h) λv s1 ⟨x,H1,I1,r1,q1⟩=>?_;obtain⟨a,e,⟨xs,hq⟩,q⟩:=q1;subst e;cases r1;obtain⟨its,rv,p,hz⟩:=I1.list hq;refine yij p.isList ?_;refine⟨s1.heap.objs.size,[s1.heap.objs.size],_,_,H1,rfl,I1.kept (t':=s1.toks) λb o e=>yca _ e,znib a _,⟨_,yha _ rfl,rfl,rfl⟩,λb hb=>?_,q⟩;have e:b=s1.heap.objs.size:=by simpa using hb
 subst e;exact I1.fpOk (yga _) (I1.hok.fresh (yga _))
theorem ztz {l:Expr}{tl:TE}(hl:PE X l tl):PI X tg l (iTup X.K tl):=by
 intro pins s σ H R I h;refine thn (hl pins s σ H _ I h) λv s1 ⟨x,H1,I1,r1,q1⟩=>?_;obtain⟨a,e,⟨xs,hq⟩,q⟩:=q1;subst e;cases r1;obtain⟨its,rv,p,hz⟩:=I1.tuple hq;refine yil (show s1.heap.IsTuple a its.toArray from p) ?_;refine⟨s1.heap.objs.size,[s1.heap.objs.size],_,_,H1,rfl,I1.kept (t':=s1.toks) λb o e=>yca _ e,zogb a _,⟨_,yha _ rfl,rfl,rfl⟩,λb hb=>?_,q⟩;have e:b=s1.heap.objs.size:=by simpa using hb
 subst e;exact I1.fpOk (yga _) (I1.hok.fresh (yga _))
theorem zumb {pins:List (Addr×Obj)}{σ:St}{H:Hp}{s:Shared}{R:It->Hp->Prop}{E:Value->Shared->Prop}{lo hi:Int}{t u v:Tok}{tk:Nat}(I:Inv X pins σ H s)(h1:-(2 ^ 62)≤lo)(h2:lo<2 ^ 62)(h3:-(2 ^ 62)≤hi)(h4:hi<2 ^ 62)
  (q:R (Itr lo (hi-lo).toNat) H):wpAny (model X.prog X.w) X.A (pyIter (.ref s.heap.objs.size)) (PIE X pins σ tg R) E { s with heap:=s.heap.push { cls:=.type "range",data:=.fields #[.int lo t,.int hi u,.int 1 v] },toks:=tk }:=by
 refine wpAny_pyIter_range (IsRange.new ..) (small_one h1 h2 h3 h4) ?_;have I1:Inv X pins σ H { s with heap:=s.heap.push { cls:=.type "range",data:=.fields #[.int lo t,.int hi u,.int 1 v] },toks:=tk }:=I.kept λb o e=>yca _ e;refine⟨(s.heap.push { cls:=.type "range",data:=.fields #[.int lo t,.int hi u,.int 1 v] }).objs.size,[(s.heap.push { cls:=.type "range",data:=.fields #[.int lo t,.int hi u,.int 1 v] }).objs.size],_,_,H,rfl,
  I1.kept (t':=tk) λb o e=>yca _ e,zpgb _ lo (hi-lo).toNat,?_,λb hb=>?_,q⟩
 ·have e1:lo+((0:Nat):Int)*1=lo:=by simp
  have e2:(((hi-lo).toNat:Nat):Int)-((0:Nat):Int)=ypm lo hi 1:=by rw[rangeSize_one];split<;>omega
  show IsRangeIter _ _ (lo+((0:Nat):Int)*1) ((((hi-lo).toNat:Nat):Int)-((0:Nat):Int)) 1
  rw[e1,e2];exact yha _ rfl
 ·have e:b=(s.heap.push { cls:=.type "range",data:=.fields #[.int lo t,.int hi u,.int 1 v] }).objs.size:=by simpa using hb
  subst e;exact I1.fpOk (yga _) (I1.hok.fresh (yga _))
def zyvb (ta:TA):TI:=fun σ H R=>ta σ H λvs H1=>∃j:Int,vs=[.int j] ∧ -(2 ^ 62)≤j∧j<2 ^ 62∧R (Itr 0 j.toNat) H1
theorem zzf {a:Expr}{ta:TA}{p pos:Pos}(hg:Gl X "range")(hm:X.mg "range" = none)(ha:PA X [a] ta)(hs:yxc [a] X.env=[(false,eval a X.env)]:=by rfl):PI X tg (.Call (.Name "range" p) [a] [] pos) (zyvb ta):=by
 intro pins s σ H R I h;refine Call_ (zir I hg hm boot_range (yod (thn (ha pos pins s σ H _ I h) λus s1 ⟨vs,H1,I1,r1,q1⟩=>?_) hs rfl));obtain⟨j,e,q1,q2,q⟩:=q1;subst e;cases r1 with
 | cons r rr =>
  cases rr;obtain⟨t,rfl⟩:=r;exact call_range_1 (zumb I1 (by omega) (by omega) q1 q2 (by simpa using q))
def tFor (wi:TI)(g:TG)(tb:TS):TS:=λD σ H=>wi σ H λJ H1=>∃W:Nat->Nat->St->Hp->Prop,(∃m,W 0 m σ H1)∧∀i m σ H,W i m σ H →
 (J.stop i H∧D.nx σ H)∨(J.go i H∧∃N:St->Hp->Prop,(∀ σ' H',N σ' H'->∃m',m'<m∧W (i+1) m' σ' H')∧∀x H',J.yld i H x H'->g x σ H' fun σ2 H2=>tb { D with nx:=N,ct:=N,bk:=D.nx } σ2 H2)
def zsv (fp:List Addr)(h:Heap):List (Addr×Obj):=fp.filterMap λb=>(h.get? b).map λo=>(b,o)
theorem zxp {fp:List Addr}{h:Heap}{b:Addr}{o:Obj}(hb:b∈fp)(e:h.get? b=some o):(b,o)∈zsv fp h:=yfp.mpr ⟨b,hb,by rw[e];rfl⟩
theorem ztjb {fp:List Addr}{h:Heap}{p:Addr×Obj}(hp:p∈zsv fp h):p.1∈fp∧h.get? p.1=some p.2:=by
 obtain⟨b,hb,e⟩:=yfp.mp hp;cases q:h.get? b with
 | none=>rw[q] at e;cases e
 | some o =>
  rw[q] at e;have e':(b,o)=p:=yjc e;subst e';exact⟨hb,q⟩
theorem Inv.pinned {pins:List (Addr×Obj)}{σ:St}{H:Hp}{s:Shared}{fp:List Addr}(I:Inv X pins σ H s)(hf:∀b∈fp,FpOk X pins H b)(ho:∀b∈fp,∃o,s.heap.get? b=some o∧∀v,o.data ≠ .cell v):Inv X (pins++zsv fp s.heap) σ H s :=
 I.zet λp hp=>(ydc.mp hp).elim (λz=>I.pin p (ywb _ z)) λz=>by
  obtain⟨hb,e⟩:=ztjb z;obtain⟨f0,f1,f2,_⟩:=hf p.1 hb;obtain⟨o,e',d⟩:=ho p.1 hb;rw[e] at e';cases e';exact⟨e,f0,f1,f2,d⟩
theorem Inv.zqw {pins pl:List (Addr×Obj)}{σ:St}{H:Hp}{s:Shared}(I:Inv X (pins++pl) σ H s):Inv X pins σ H s:=I.zet λp hp=>I.pin p (ywb _ (yzc _ hp))
theorem zlm {iter:Expr}{body:List Stmt}{wi:TI}{g:TG}{tb:TS}{pos:Pos}(hp:PassesOwn (model X.prog X.w) X.A X.env X.xe)(hc:X.calm=true)(hi:PI X tg iter wi)(hg:PG X tg g)(hb:PSs X body tb)
  (hs:∀x,yam iter X.env x=pure x:=by intro _;rfl):PS X (.For tg iter body [] pos) (tFor wi g tb):=by
 intro pins s σ H D I h;refine wpAny_For (thn (hi pins s σ H _ I h) λv s1 h1=>thn h1 λitv s2 h2=>?_) hs;obtain⟨it,fp,tn,J,H2,e,I2,T,st2,f2,W,⟨m0,w0⟩,turn⟩:=h2;subst e;have stat:∀{H':Hp},(∀b∈fp,H' b=none)->∀b∈fp,FpOk X pins H' b:=λhn b hb=>⟨hn b hb,(f2 b hb).2⟩;refine codeAny_forLoop_any (λn s'=>∃i σ' H',Inv X pins σ' H' s'∧tn i s'.heap∧(∀b∈fp,H' b=none)∧W i n σ' H') ?_ m0 ⟨0,σ,H2,I2,st2,λb hb=>(f2 b hb).1,w0⟩;rintro n s3 ⟨i,σ3,H3,I3,st3,fr3,w3⟩
 rcases turn i n σ3 H3 w3 with⟨stop,qn⟩|⟨go,N,hN,step⟩
 ·refine yeg hp (thn (T.done X rfl rfl rfl hc i pins s3 σ3 H3 X.xe I3 (stat fr3) st3 stop) λr s4 ⟨hr,I4⟩=>?_);subst hr;exact ynk ⟨σ3,H3,I4,qn⟩
 ·refine yeg hp (thn (T.item X rfl rfl rfl hc i pins s3 σ3 H3 X.xe I3 (stat fr3) st3 go) λr s4 ⟨u,hr,h4⟩=>?_);subst hr;refine yeg hp (thn h4 λ_ s5 ⟨x,H5,I5,r5,y5,st5,fr5⟩=>?_);have I5':=I5.pinned (stat fr5) (T.obj _ _ st5);refine yeg hp (thn (hg _ s5 σ3 H5 x u _ I5' r5 (step x H5 y5)) λ_ s6 ⟨σ6,H6,I6,q6⟩=>?_);refine yeg hp (thn (hb _ s6 σ6 H6 _ I6 q6) λf s7 q7=>?_);have again:∀{σ7:St} {H7:Hp},Inv X (pins++zsv fp s5.heap) σ7 H7 s7->N σ7 H7->∃m,m<n∧∃i σ' H',Inv X pins σ' H' s7∧tn i s7.heap∧(∀b∈fp,H' b=none)∧W i m σ' H':=λ{σ7 H7} I7 n7=>by
   obtain⟨m',hm,w7⟩:=hN σ7 H7 n7;refine⟨m',hm,i+1,σ7,H7,I7.zqw,T.keep _ _ _ st5 λb hb o e=>(I7.pin (b,o) (ywb _ (ywb _ (zxp hb e)))).1,λb hb=>?_,w7⟩;obtain⟨o,e,d⟩:=T.obj _ _ st5 b hb;exact (I7.pin (b,o) (ywb _ (ywb _ (zxp hb e)))).2.1
  cases f with
  | next=>obtain⟨σ7,H7,I7,n7⟩:=q7;exact again I7 n7
  | cont=>obtain⟨σ7,H7,I7,n7⟩:=q7;exact again I7 n7
  | brk=>obtain⟨σ7,H7,I7,q7⟩:=q7;exact⟨σ7,H7,I7.zqw,q7⟩
  | ret v=>obtain⟨x7,σ7,H7,I7,r7,q7⟩:=q7;exact⟨x7,σ7,H7,I7.zqw,r7,q7⟩
end
theorem zcgb {K:yda}{a:Addr}{xs:List V}{g:TG}{tb:TS}{D:Ends}{σ:St}{H:Hp}(Pv:Nat->St->Hp->Prop)(h0:Pv 0 σ H)(hl:∀i σ H,i≤xs.length->Pv i σ H->SqL K H a xs)
  (hs:∀i x σ H,xs[i]?=some x->Pv i σ H->g x σ H fun σ2 H2=>tb { D with nx:=Pv (i+1),ct:=Pv (i+1),bk:=D.nx } σ2 H2) (hd:∀ σ H,Pv xs.length σ H->D.nx σ H) :
  ∃W:Nat->Nat->St->Hp->Prop,(∃m,W 0 m σ H)∧∀i m σ H,W i m σ H →
   ((Itl K a).stop i H∧D.nx σ H)∨((Itl K a).go i H∧∃N:St->Hp->Prop,(∀ σ' H',N σ' H'->∃m',m'<m∧W (i+1) m' σ' H')∧∀x H',(Itl K a).yld i H x H'->g x σ H' fun σ2 H2=>tb { D with nx:=N,ct:=N,bk:=D.nx } σ2 H2):=by
 refine⟨λi m σ H=>m=xs.length-i∧i≤xs.length∧Pv i σ H,⟨xs.length,by simp,yqb _,h0⟩,?_⟩;rintro i m σ H ⟨rfl,hi,p⟩;have q:=hl i σ H hi p
 by_cases hlt:i<xs.length
 ·refine .inr ⟨⟨xs,xs[i],q,by simp[hlt]⟩,Pv (i+1),fun σ' H' p'=>⟨xs.length-(i+1),by omega,rfl,hlt,p'⟩,λx H' y=>?_⟩;obtain⟨e,y⟩:=y;subst e;exact hs i x σ _ (y xs q) p
 ·have e:i=xs.length:=by omega
  subst e;exact .inl ⟨⟨xs,q,yga _⟩,hd σ H p⟩
theorem zjrb {K:yda}{a:Addr}{xs:List V}{g:TG}{tb:TS}{D:Ends}{σ:St}{H:Hp}(Pv:Nat->St->Hp->Prop)(h0:Pv 0 σ H)(hl:∀i σ H,i≤xs.length->Pv i σ H->SqT K H a xs)
  (hs:∀i x σ H,xs[i]?=some x->Pv i σ H->g x σ H fun σ2 H2=>tb { D with nx:=Pv (i+1),ct:=Pv (i+1),bk:=D.nx } σ2 H2) (hd:∀ σ H,Pv xs.length σ H->D.nx σ H) :
  ∃W:Nat->Nat->St->Hp->Prop,(∃m,W 0 m σ H)∧∀i m σ H,W i m σ H →
   ((Itt K a).stop i H∧D.nx σ H)∨((Itt K a).go i H∧∃N:St->Hp->Prop,(∀ σ' H',N σ' H'->∃m',m'<m∧W (i+1) m' σ' H')∧∀x H',(Itt K a).yld i H x H'->g x σ H' fun σ2 H2=>tb { D with nx:=N,ct:=N,bk:=D.nx } σ2 H2):=by
 refine⟨λi m σ H=>m=xs.length-i∧i≤xs.length∧Pv i σ H,⟨xs.length,by simp,yqb _,h0⟩,?_⟩;rintro i m σ H ⟨rfl,hi,p⟩;have q:=hl i σ H hi p
 by_cases hlt:i<xs.length
 ·refine .inr ⟨⟨xs,xs[i],q,by simp[hlt]⟩,Pv (i+1),fun σ' H' p'=>⟨xs.length-(i+1),by omega,rfl,hlt,p'⟩,λx H' y=>?_⟩;obtain⟨e,y⟩:=y;subst e;exact hs i x σ _ (y xs q) p
 ·have e:i=xs.length:=by omega
  subst e;exact .inl ⟨⟨xs,q,yga _⟩,hd σ H p⟩
theorem zil {lo:Int}{n:Nat}{g:TG}{tb:TS}{D:Ends}{σ:St}{H:Hp}(Pv:Nat->St->Hp->Prop)(h0:Pv 0 σ H)
  (hs:∀i σ H,i<n->Pv i σ H->g (.int (lo+i)) σ H fun σ2 H2=>tb { D with nx:=Pv (i+1),ct:=Pv (i+1),bk:=D.nx } σ2 H2) (hd:∀ σ H,Pv n σ H->D.nx σ H) :
  ∃W:Nat->Nat->St->Hp->Prop,(∃m,W 0 m σ H)∧∀i m σ H,W i m σ H →
   ((Itr lo n).stop i H∧D.nx σ H)∨((Itr lo n).go i H∧∃N:St->Hp->Prop,(∀ σ' H',N σ' H'->∃m',m'<m∧W (i+1) m' σ' H')∧∀x H',(Itr lo n).yld i H x H'->g x σ H' fun σ2 H2=>tb { D with nx:=N,ct:=N,bk:=D.nx } σ2 H2):=by
 refine⟨λi m σ H=>m=n-i∧i≤n∧Pv i σ H,⟨n,by simp,yqb _,h0⟩,?_⟩;rintro i m σ H ⟨rfl,hi,p⟩
 by_cases hlt:i<n
 ·refine .inr ⟨hlt,Pv (i+1),fun σ' H' p'=>⟨n-(i+1),by omega,rfl,hlt,p'⟩,λx H' y=>?_⟩;obtain⟨e,y⟩:=y;subst e y;exact hs i σ _ hlt p
 ·have e:i=n:=by omega
  subst e;exact .inl ⟨yga _,hd σ H p⟩
end L2
namespace L2
open PySem PySem.Spec PyProof.Rows
abbrev R2:=V->V->Hp->VK->Prop
def OpR (X:Cx)(f:Value->Value->Sem Value)(r:R2):Prop :=
 ∀(pins:List (Addr×Obj)) (s:Shared) (σ:St) (H:Hp) (x y:V) (v u:Value) (Q:VK),Inv X pins σ H s->RelV x v->RelV y u->r x y H Q →
  wpAny (model X.prog X.w) X.A (f v u) (EP X pins σ Q) X.xe s
def UnR (X:Cx)(f:Value->Sem Value)(r:V->Hp->VK->Prop):Prop :=
 ∀(pins:List (Addr×Obj)) (s:Shared) (σ:St) (H:Hp) (x:V) (v:Value) (Q:VK),Inv X pins σ H s->RelV x v->r x H Q →
  wpAny (model X.prog X.w) X.A (f v) (EP X pins σ Q) X.xe s
def zqg (X:Cx)(f:Value)(r:List V->Hp->VK->Prop):Prop :=
 ∀(pins:List (Addr×Obj)) (s:Shared) (σ:St) (H:Hp) (xs:List V) (us:List Value) (Q:VK),Inv X pins σ H s->Vals xs us->r xs H Q →
  wpAny (model X.prog X.w) X.A (call f us) (EP X pins σ Q) X.xe s
def tOp (r:R2)(ta tb:TE):TE:=fun σ H Q=>ta σ H λx H1=>tb σ H1 λy H2=>r x y H2 Q
def tUn (r:V->Hp->VK->Prop)(ta:TE):TE:=fun σ H Q=>ta σ H λx H1=>r x H1 Q
def rI (C:Int->Int->Prop)(g:Int->Int->V):R2:=λx y H Q=>Ex2 λi j=>x = .int i∧y = .int j∧C i j∧Q (g i j) H
def rI0 (g:Int->Int->V):R2:=λx y H Q=>Ex2 λi j=>x = .int i∧y = .int j∧Q (g i j) H
def rU (g:Int->V):V->Hp->VK->Prop:=λx H Q=>∃i,x = .int i∧Q (g i) H
section
variable {X:Cx}{a b c:Expr}{ta tb tc:TE}{pos:Pos}
theorem binT (ha:PE X a ta)(hb:PE X b tb){pins:List (Addr×Obj)}{s:Shared}{σ:St}{H:Hp}{R:V->V->Hp->Prop}(I:Inv X pins σ H s)
  (h:ta σ H λx H1=>tb σ H1 λy H2=>R x y H2) {Q:Value->Shared->Prop} {f:Value->Value->Sem Value}
  (hf:∀v u s2 x y H2,Inv X pins σ H2 s2->RelV x v->RelV y u->R x y H2->wpAny (model X.prog X.w) X.A (f v u) Q X.xe s2) :
  wpAny (model X.prog X.w) X.A (eval a X.env) (λv s₁=>wpAny (model X.prog X.w) X.A (eval b X.env) (λu s₂=>wpAny (model X.prog X.w) X.A (f v u) Q X.xe s₂) X.xe s₁) X.xe s:=by
 refine thn (ha pins s σ H _ I h) λv s1 ⟨x,H1,I1,r1,q1⟩=>?_;refine thn (hb pins s1 σ H1 _ I1 q1) λu s2 ⟨y,H2,I2,r2,q2⟩=>?_;exact hf v u s2 x y H2 I2 r1 r2 q2
theorem zqb {op:yrq}{r:R2}(ho:OpR X (yhh op) r)(ha:PE X a ta)(hb:PE X b tb):PE X (.BinOp a op b pos) (tOp r ta tb):=by
 intro pins s σ H Q I h;exact wpAny_BinOp (binT ha hb I h λv u s2 x y H2 I2 rx ry q=>ho pins s2 σ H2 x y v u Q I2 rx ry q)
theorem zbx {op:UnaryOp}{r:V->Hp->VK->Prop}(ho:UnR X (unaryOp op) r)(ha:PE X a ta):PE X (.UnaryOp op a pos) (tUn r ta):=by
 intro pins s σ H Q I h;exact UnaryOp_ (thn (ha pins s σ H _ I h) λv s1 ⟨x,H1,I1,r1,q1⟩=>ho pins s1 σ H1 x v Q I1 r1 q1)
theorem opI {f:Value->Value->Sem Value}{C:Int->Int->Prop}{g:Int->Int->Int}
  (rule:∀(i j:Int) (t u:Tok) (s:Shared) (Q:Value->Shared->Prop) (E:Value->Shared->Prop),C i j->Q (.int (g i j) s.toks) { s with toks:=s.toks+1 }->wpAny (model X.prog X.w) X.A (f (.int i t) (.int j u)) Q E s) :
  OpR X f (rI C λi j=>.int (g i j)):=by
 intro pins s σ H x y v u Q I rx ry h;obtain⟨i,j,rfl,rfl,hc,q⟩:=h;obtain⟨t,rfl⟩:=rx;obtain⟨t',rfl⟩:=ry;exact rule i j t t' s _ _ hc ⟨.int (g i j),H,I.tok _,⟨_,rfl⟩,q⟩
theorem opI0 {f:Value->Value->Sem Value}{g:Int->Int->Int}
  (rule:∀(i j:Int) (t u:Tok) (s:Shared) (Q:Value->Shared->Prop) (E:Value->Shared->Prop),Q (.int (g i j) s.toks) { s with toks:=s.toks+1 }->wpAny (model X.prog X.w) X.A (f (.int i t) (.int j u)) Q E s) :
  OpR X f (rI0 λi j=>.int (g i j)):=by
 intro pins s σ H x y v u Q I rx ry h;obtain⟨i,j,rfl,rfl,q⟩:=h;obtain⟨t,rfl⟩:=rx;obtain⟨t',rfl⟩:=ry;exact rule i j t t' s _ _ ⟨.int (g i j),H,I.tok _,⟨_,rfl⟩,q⟩
theorem opB0 {f:Value->Value->Sem Value}{g:Int->Int->Bool}
  (rule:∀(i j:Int) (t u:Tok) (s:Shared) (Q:Value->Shared->Prop) (E:Value->Shared->Prop),Q (.bool (g i j)) s->wpAny (model X.prog X.w) X.A (f (.int i t) (.int j u)) Q E s) :
  OpR X f (rI0 λi j=>.bl (g i j)):=by
 intro pins s σ H x y v u Q I rx ry h;obtain⟨i,j,rfl,rfl,q⟩:=h;obtain⟨t,rfl⟩:=rx;obtain⟨t',rfl⟩:=ry;exact rule i j t t' s _ _ ⟨.bl (g i j),H,I,rfl,q⟩
def CDiv (i j:Int):Prop:=0<j∧j<1073741824
def CPow (i j:Int):Prop:=0≤j∧j≤1000000∧i.natAbs<2 ^ 64
def CMul (i j:Int):Prop:=(-(2 ^ 64)<i∧i<2 ^ 64)∨(-(2 ^ 64)<j∧j<2 ^ 64)
theorem CMul.ok {i j:Int}(h:CMul i j):IntMulOk i j:=by
 rcases h with⟨h1,h2⟩|⟨h1,h2⟩
 ·exact .of_left (intBits_le_64 h1 h2)
 ·exact .of_right (intBits_le_64 h1 h2)
theorem zbh:OpR X (yhh .Add) (rI0 λi j=>.int (i+j)):=opI0 λ_ _ _ _ _ _ _ q=>add_int q
theorem zah:OpR X (yhh .Sub) (rI0 λi j=>.int (i-j)):=opI0 λ_ _ _ _ _ _ _ q=>sub_int q
theorem zxz:OpR X (yhh .Mult) (rI CMul λi j=>.int (i*j)):=opI λ_ _ _ _ _ _ _ hc q=>mul_int q hc.ok
theorem ztqb:OpR X (yhh .FloorDiv) (rI CDiv λi j=>.int (i / j)):=opI λi j _ _ _ _ _ hc q=>by
 have h1:(0:Int)<j:=hc.1;have h2:j<1073741824:=hc.2;exact floordiv_int (by omega) (by rw[Int.fdiv_eq_ediv_of_nonneg i (by omega)];exact q) (.inl (PyProof.noPylong_small (by omega)))
theorem zom:OpR X (yhh .Mod) (rI (λ_ j=>0<j) λi j=>.int (i % j)):=opI λi j _ _ _ _ _ hc q=>by
 have h1:(0:Int)<j:=hc;exact mod_int' (by omega) (by rw[Int.fmod_eq_emod_of_nonneg i (by omega)];exact q)
theorem zltb:OpR X (yhh .Pow) (rI CPow λi j=>.int (i ^ j.toNat)):=opI λ_ _ _ _ _ _ _ hc q=>pow_int_small hc.1 hc.2.1 hc.2.2 q
theorem unI {f:Value->Sem Value}{g:Int->Int}
  (rule:∀(i:Int) (t:Tok) (s:Shared) (Q:Value->Shared->Prop) (E:Value->Shared->Prop),Q (.int (g i) s.toks) { s with toks:=s.toks+1 }->wpAny (model X.prog X.w) X.A (f (.int i t)) Q E s) :
  UnR X f (rU λi=>.int (g i)):=by
 intro pins s σ H x v Q I rx h;obtain⟨i,rfl,q⟩:=h;obtain⟨t,rfl⟩:=rx;exact rule i t s _ _ ⟨.int (g i),H,I.tok _,⟨_,rfl⟩,q⟩
theorem zdo:UnR X (unaryOp .USub) (rU λi=>.int (-i)):=unI λ_ _ _ _ _ q=>neg_int q
end
def scal:V->V->Bool
 | .non,.non=>true|.non,.int _=>true|.int _,.non=>true|.non,.bl _=>true|.bl _,.non=>true|.non,.str _=>true|.str _,.non=>true
 | .int _,.int _=>true|.bl _,.bl _=>true|.str _,.str _=>true|.byt _,.byt _=>true
 | .int _,.str _=>true|.str _,.int _=>true|.bl _,.str _=>true|.str _,.bl _=>true
 | _,_=>false
def rEq:R2:=λx y H Q=>scal x y=true∧Q (.bl (decide (x=y))) H
def rNe:R2:=λx y H Q=>scal x y=true∧Q (.bl (!decide (x=y))) H
theorem zalb {i j:Int}:decide (V.int i=V.int j)=(i==j):=by
 rw[ypk];simp
theorem zcpb {i j:Bool}:decide (V.bl i=V.bl j)=(i==j):=by
 rw[ypk];simp
theorem zzkb {i j:Str}:decide (V.str i=V.str j)=(i==j):=by
 rw[ypk];simp
theorem zblb {i j:Array UInt8}:decide (V.byt i=V.byt j)=(i.toList==j.toList):=by
 rw[ypk];cases i;cases j;simp
section
variable {X:Cx}{a b c:Expr}{ta tb tc:TE}{pos:Pos}
theorem zsc {pins:List (Addr×Obj)}{σ:St}{H:Hp}{s:Shared}{Q:VK}{k k':Bool}(I:Inv X pins σ H s)(q:Q (.bl k) H)(e:k=k'):EP X pins σ Q (.bool k') s:=by
 subst e;exact⟨.bl k,H,I,rfl,q⟩
theorem zne:OpR X (yte .Eq) rEq:=by
 intro pins s σ H x y v u Q I rx ry h;obtain⟨hs,q⟩:=h;cases x with
 | non =>
  cases rx;cases y with
  | non=>cases ry;exact PySem.EqNone.eq_none_none (zsc I q (by simp))
  | bl j=>cases ry;exact PySem.EqNone.eq_none_bool (zsc I q (by simp))
  | int j=>obtain⟨t',rfl⟩:=ry;exact PySem.EqNone.eq_none_int (zsc I q (by simp))
  | str j=>obtain⟨t',rfl⟩:=ry;exact PySem.EqNone.eq_none_str (zsc I q (by simp))
  | _=>exact absurd (show false=true from hs) yeb
 | bl i =>
  cases rx;cases y with
  | non=>cases ry;exact PySem.EqNone.eq_bool_none (zsc I q (by simp))
  | bl j=>cases ry;exact eq_bool (zsc I q zcpb)
  | str j=>obtain⟨t',rfl⟩:=ry;exact PySem.EqMixed.eq_bool_str (zsc I q (by simp))
  | _=>exact absurd (show false=true from hs) yeb
 | int i =>
  obtain⟨t,rfl⟩:=rx;cases y with
  | non=>cases ry;exact PySem.EqNone.eq_int_none (zsc I q (by simp))
  | int j=>obtain⟨t',rfl⟩:=ry;exact eq_int (zsc I q zalb)
  | str j=>obtain⟨t',rfl⟩:=ry;exact PySem.EqMixed.eq_int_str (zsc I q (by simp))
  | _=>exact absurd (show false=true from hs) yeb
 | str i =>
  obtain⟨t,rfl⟩:=rx;cases y with
  | non=>cases ry;exact PySem.EqNone.eq_str_none (zsc I q (by simp))
  | bl j=>cases ry;exact PySem.EqMixed.eq_str_bool (zsc I q (by simp))
  | int j=>obtain⟨t',rfl⟩:=ry;exact PySem.EqMixed.eq_str_int (zsc I q (by simp))
  | str j=>obtain⟨t',rfl⟩:=ry;exact eq_str (zsc I q zzkb)
  | _=>exact absurd (show false=true from hs) yeb
 | byt i =>
  obtain⟨t,rfl⟩:=rx;cases y with
  | byt j=>obtain⟨t',rfl⟩:=ry;exact PySem.W.eq_bytes (zsc I q zblb)
  | _=>exact absurd (show false=true from hs) yeb
 | _=>cases y<;>exact absurd (show false=true from hs) yeb
theorem zqjb:OpR X (yte .NotEq) rNe:=by
 intro pins s σ H x y v u Q I rx ry h;obtain⟨hs,q⟩:=h;cases x with
 | non =>
  cases rx;cases y with
  | non=>cases ry;exact PySem.EqNone.ne_none_none (zsc I q (by simp))
  | bl j=>cases ry;exact PySem.EqNone.ne_none_bool (zsc I q (by simp))
  | int j=>obtain⟨t',rfl⟩:=ry;exact PySem.EqNone.ne_none_int (zsc I q (by simp))
  | str j=>obtain⟨t',rfl⟩:=ry;exact PySem.EqNone.ne_none_str (zsc I q (by simp))
  | _=>exact absurd (show false=true from hs) yeb
 | bl i =>
  cases rx;cases y with
  | non=>cases ry;exact PySem.EqNone.ne_bool_none (zsc I q (by simp))
  | bl j=>cases ry;exact ne_bool (zsc I q (congrArg not zcpb))
  | str j=>obtain⟨t',rfl⟩:=ry;exact PySem.EqMixed.ne_bool_str (zsc I q (by simp))
  | _=>exact absurd (show false=true from hs) yeb
 | int i =>
  obtain⟨t,rfl⟩:=rx;cases y with
  | non=>cases ry;exact PySem.EqNone.ne_int_none (zsc I q (by simp))
  | int j=>obtain⟨t',rfl⟩:=ry;exact ne_int (zsc I q (congrArg not zalb))
  | str j=>obtain⟨t',rfl⟩:=ry;exact PySem.EqMixed.ne_int_str (zsc I q (by simp))
  | _=>exact absurd (show false=true from hs) yeb
 | str i =>
  obtain⟨t,rfl⟩:=rx;cases y with
  | non=>cases ry;exact PySem.EqNone.ne_str_none (zsc I q (by simp))
  | bl j=>cases ry;exact PySem.EqMixed.ne_str_bool (zsc I q (by simp))
  | int j=>obtain⟨t',rfl⟩:=ry;exact PySem.EqMixed.ne_str_int (zsc I q (by simp))
  | str j=>obtain⟨t',rfl⟩:=ry;exact ne_str (zsc I q (congrArg not zzkb))
  | _=>exact absurd (show false=true from hs) yeb
 | byt i =>
  obtain⟨t,rfl⟩:=rx;cases y with
  | byt j=>obtain⟨t',rfl⟩:=ry;exact PySem.W.ne_bytes (zsc I q (congrArg not zblb))
  | _=>exact absurd (show false=true from hs) yeb
 | _=>cases y<;>exact absurd (show false=true from hs) yeb
theorem zenb:OpR X (yte .Lt) (rI0 λi j=>.bl (decide (i<j))):=opB0 λ_ _ _ _ _ _ _ q=>lt_int q
theorem zehb:OpR X (yte .LtE) (rI0 λi j=>.bl (decide (i≤j))):=opB0 λ_ _ _ _ _ _ _ q=>le_int q
theorem zkt:OpR X (yte .Gt) (rI0 λi j=>.bl (decide (j<i))):=opB0 λ_ _ _ _ _ _ _ q=>gt_int q
theorem zyz:OpR X (yte .In) (λx y H Q=>Ex2 λi j=>x = .str i∧y = .str j∧Q (.bl (!(yjd j i 0 j.length 1).isEmpty)) H):=by
 intro pins s σ H x y v u Q I rx ry h;obtain⟨i,j,rfl,rfl,q⟩:=h;obtain⟨t,rfl⟩:=rx;obtain⟨t',rfl⟩:=ry;exact in_str (zsc I q rfl)
theorem zsqb:OpR X (yte .IsNot) (λx y H Q=>y = .non∧Q (.bl (!decide (x = .non))) H):=by
 intro pins s σ H x y v u Q I rx ry h;obtain⟨rfl,q⟩:=h;cases ry;refine isnot_none_gen (zsc I q ?_);cases x<;>first
  | (cases rx;rfl)
  | (obtain⟨t,rfl⟩:=rx;rfl)
theorem zgb (b:Expr){op:CmpOp}(h:op ≠ .In:=by decide)(h2:op ≠ .NotIn:=by decide):yqm op b=false:=by
 have e1:(op==CmpOp.In)=false:=by cases op<;>first|rfl|exact absurd rfl h
 have e2:(op==CmpOp.NotIn)=false:=by cases op<;>first|rfl|exact absurd rfl h2
 cases b<;>simp[yqm,e1,e2]
theorem ztp {op:CmpOp}{r:R2}(ho:OpR X (yte op) r)(ha:PE X a ta)(hb:PE X b tb)(hm:yqm op b=false):PE X (.Compare a [op] [b] pos) (tOp r ta tb):=by
 intro pins s σ H Q I h;exact wpAny_Compare1 (binT ha hb I h λv u s2 x y H2 I2 rx ry q=>ho pins s2 σ H2 x y v u Q I2 rx ry q) hm
def zksb (t:TE):TT:=fun σ H Q=>t σ H λx H'=>∃k,x = .bl k∧Q k H'
theorem zna {op:CmpOp}{r:R2}(ho:OpR X (yte op) r)(ha:PE X a ta)(hb:PE X b tb)(hm:yqm op b=false):PT X (.Compare a [op] [b] pos) (zksb (tOp r ta tb)):=by
 intro pins s σ H Q I h;refine wpAny_isTrue_Compare1 (thn (ha pins s σ H _ I h) λv s1 ⟨x,H1,I1,r1,q1⟩=>thn (hb pins s1 σ H1 _ I1 q1) λu s2 ⟨y,H2,I2,r2,q2⟩ =>
  thn (ho pins s2 σ H2 x y v u _ I2 r1 r2 q2) λc s3 ⟨z,H3,I3,r3,k,e,q3⟩=>?_) hm
 subst e;cases r3;exact yee ⟨H3,I3,q3⟩
def zmob (r r':R2)(ta tb tc:TE):TE:=fun σ H Q=>ta σ H λx H1=>tb σ H1 λy H2=>r x y H2 λz H3=>∃k,z = .bl k ∧
 (if k=true then tc σ H3 λw' H4=>r' y w' H4 Q else Q (.bl false) H3)
theorem zdnb {op op':CmpOp}{r r':R2}(ho:OpR X (yte op) r)(ho':OpR X (yte op') r')(ha:PE X a ta)(hb:PE X b tb)(hc:PE X c tc)
  (hm:lastMarks [op,op'] [b,c]=false:=by with_unfolding_all rfl):PE X (.Compare a [op,op'] [b,c] pos) (zmob r r' ta tb tc):=by
 intro pins s σ H Q I h;refine Compare_chain (thn (ha pins s σ H _ I h) λv s1 ⟨x,H1,I1,r1,q1⟩=>chain_link (thn (hb pins s1 σ H1 _ I1 q1) λu s2 ⟨y,H2,I2,r2,q2⟩ =>
  thn (ho pins s2 σ H2 x y v u _ I2 r1 r2 q2) λd s3 ⟨z,H3,I3,r3,k,e,q3⟩=>?_)) hm
 subst e;cases r3;refine yee ?_;cases k with
 | false=>exact ite_ff ⟨.bl false,H3,I3,rfl,q3⟩
 | true=>exact ite_tt (chain_last (thn (hc pins s3 σ H3 _ I3 q3) λw' s4 ⟨z',H4,I4,r4,q4⟩=>ho' pins s4 σ H4 y z' u w' Q I4 r2 r4 q4))
theorem zkfb {op op':CmpOp}{r r':R2}(ho:OpR X (yte op) r)(ho':OpR X (yte op') r')(ha:PE X a ta)(hb:PE X b tb)(hc:PE X c tc)
  (hm:lastMarks [op,op'] [b,c]=false:=by with_unfolding_all rfl):PT X (.Compare a [op,op'] [b,c] pos) (zksb (zmob r r' ta tb tc)):=by
 intro pins s σ H Q I h;refine isTrue_chain (thn (ha pins s σ H _ I h) λv s1 ⟨x,H1,I1,r1,q1⟩=>test_link (thn (hb pins s1 σ H1 _ I1 q1) λu s2 ⟨y,H2,I2,r2,q2⟩ =>
  thn (ho pins s2 σ H2 x y v u _ I2 r1 r2 q2) λd s3 ⟨z,H3,I3,r3,k,e,q3⟩=>?_)) hm
 subst e;cases r3;refine yee ?_;cases k with
 | false =>
  obtain⟨k',e',q'⟩:=q3;cases e';exact ite_ff ⟨H3,I3,q'⟩
 | true =>
  refine ite_tt (test_last (thn (hc pins s3 σ H3 _ I3 q3) λw' s4 ⟨z',H4,I4,r4,q4⟩=>thn (ho' pins s4 σ H4 y z' u w' _ I4 r2 r4 q4) λd' s5 ⟨z2,H5,I5,r5,k2,e2,q5⟩=>?_));subst e2;cases r5;exact yee ⟨H5,I5,q5⟩
theorem zyv:(ywa:Nat)<2 ^ 63:=by rw[sizeLine_eq];decide
theorem ztj:OpR X (yhh .Add) (λx y H Q=>Ex2 λi j=>x = .str i∧y = .str j∧i.length+j.length≤ywa∧Q (.str (i++j)) H):=by
 intro pins s σ H x y v u Q I rx ry h;obtain⟨i,j,rfl,rfl,hz,q⟩:=h;obtain⟨t,rfl⟩:=rx;obtain⟨t',rfl⟩:=ry;exact add_str (λt' tk=>⟨.str (i++j),H,I.tok _,⟨_,rfl⟩,q⟩) hz
theorem vals1 {x:V}{us:List Value}(r:Vals [x] us):∃u,us=[u]∧RelV x u:=by
 cases r with
 | cons r1 r2=>cases r2;exact⟨_,rfl,r1⟩
theorem vals2 {x y:V}{us:List Value}(r:Vals [x,y] us):Ex2 λu w'=>us=[u,w']∧RelV x u∧RelV y w':=by
 cases r with
 | cons r1 r2 =>
  cases r2 with
  | cons r3 r4=>cases r4;exact⟨_,_,rfl,r1,r3⟩
theorem zkl:zqg X (.type "str") (λxs H Q=>∃i,xs=[.int i]∧i.natAbs.log2<1920∧Q (.str (toString i)) H):=by
 intro pins s σ H xs us Q I r h;obtain⟨i,rfl,hz,q⟩:=h;obtain⟨u,rfl,t,rfl⟩:=vals1 r;exact PySem.P.str_of_int hz ⟨.str _,H,I.tok _,⟨_,rfl⟩,q⟩
end
end L2
namespace L2
open PySem PySem.Spec PyProof.Rows
structure ObjM (h:Heap)(x dx C:Addr)(mA:Str->Option Value):Prop where
 obj:h.get? x=some (ygf C dx)
 ns:h.Ns1 dx mA
 ne:dx≠x
theorem zxjb {h:Heap}{dx:Addr}{mA:Str->Option Value}(n:h.Ns1 dx mA):∃od,h.get? dx=some od∧∀name,yrl name od=some (mA name):=by
 obtain⟨o,es,ep,ho,hd,hk,_,hm⟩:=n;refine⟨o,ho,λname=>?_⟩;have e:=hm name;unfold nsFind findBy at e;rw[← Array.find?_toList] at e;unfold yrl;rw[hd];dsimp only
 split
 ·rename_i y q;rw[q] at e;exact congrArg some e
 ·rename_i q;rw[q] at e;have a:es.toList.any (·.refKey)=false:=by
   rw[List.any_eq_false];intro y hy;obtain⟨z,t,hkey⟩:=hk y (Array.mem_toList_iff.mp hy);simp[DictEntry.refKey,hkey]
  have a':¬ es.toList.any (·.refKey)=true:=by rw[a];exact yeb
  rw[if_neg a'];exact congrArg some e
theorem ObjM.look {h:Heap}{x dx C:Addr}{mA:Str->Option Value}(I:ObjM h x dx C mA):∃od,PySem.W.InstAt h x (ygf C dx) C (some od)∧∀name,yrl name od=some (mA name) :=
 let ⟨od,ho,hl⟩:=zxjb I.ns
 ⟨od,⟨I.obj,rfl,rfl,ho⟩,hl⟩
section
variable {prog:yvb}{w:World}{A:Around}{E:Value->Shared->Prop}{s:Shared}{K:yda}{x dx C f:Addr}{mA:Str->Option Value}{name:Str}{v:Value}
theorem get_map {expr:Bool}{Q:Value->Shared->Prop}(X:K.In s.heap)(I:ObjM s.heap x dx C mA)(hg:yuf K C name=true)(hh:yfg K C=true)
  (ha:ykb K (.ref C) name=some none) (hv:mA name=some v) (hv':ymq v=true) (h:Q v { s with toks:=s.toks+1 }) :
  wpAny (model prog w) A (getAttr (.ref x) name expr) Q E s:=by
 obtain⟨od,J,hl⟩:=I.look;exact PySem.W.get_value X J (yqk hg).1 (PySem.W.findObj_own hh ha rfl (by rw[hl,hv])) hv' h
theorem zaob {pl:Sem Bool}{Q:Value×List Value->Shared->Prop}(X:K.In s.heap)(I:ObjM s.heap x dx C mA)(hg:yuf K C name=true)
  (hf:ykb K (.ref C) name=some (some (.ref f))) (ht:yjl K (.ref f)=true) (hv:mA name=none) (h:Q (.ref f,[.ref x]) s) :
  wpAny (model prog w) A (yuq (.ref x) name pl) Q E s:=by
 obtain⟨od,J,hl⟩:=I.look;exact PySem.W.method_fn X J (yqk hg).1 (yqk hg).2 hf (beq_iff_eq.mp ht) (by show (yrl name od).map (·.isSome)=some false;rw[hl,hv];rfl) h
theorem zcqb {ns:List Str}{Q:Unit->Shared->Prop}(X:K.In s.heap)(I:ObjM s.heap x dx C mA)
  (hs:ykb K (.ref C) "__setattr__" = some (some (.builtin "object.__setattr__"))) (hp:yth K C=true) (ht:ypn K C name=some none) (hh:yfg K C=true)
  (hw:yln mA ns) (hsz:ns.length≤ywa)
  (h:∀h',ObjM h' x dx C (λy=>if y=name then some v else mA y)->ysg dx s.heap h'->Q () { s with heap:=h',toks:=s.toks+2 }) :
  wpAny (model prog w) A (setAttr (.ref x) name v) Q E s:=by
 obtain⟨od,J,hl⟩:=I.look;refine PySem.W.set_plain X J hs (PySem.W.osa_open (s:={ s with toks:=s.toks+1 }) (r:=none) X J hp ht λb=>?_);obtain⟨cd,hc,hd'⟩:=PySem.W.any_some hh;have hx:s.heap.get? x=some ⟨.ref C,some dx,.plain,#[]⟩:=I.obj;refine yaa (yfa (yaa (yaa (wpAny_loadPart hx (yaa (PySem.W.Looks.here (s:={ s with toks:=s.toks+1 }) (PySem.W.looks_clsIn X hc) ?_))))));rw[hd'];refine yfa (a:=some dx) (yaa (yfa (yaa ?_)));refine wpAny_nsSet1 (s:={ s with toks:=s.toks+1 }) I.ns λh' hn2 hs2=>?_;obtain⟨oD,esD,epD,hoD,hdD,hcD⟩:=hn2.count (yln.cons name v hw);refine yaa (wpAny_lookBehind hoD (by rw[hdD];exact pastItsLine_dict (ymb hcD (by rw[yja];omega))) ?_);exact yfa (h _ ⟨(hs2.2 _ (ywc I.ne)).trans I.obj,hn2,I.ne⟩ hs2)
theorem zonb {R:Result->Shared->Prop}{vs:List Value}{kw:List (Str×Value)}(X:K.In s.heap)(hm:yqn K C=true)
  (hi:ykb K (.ref C) "__init__" = some (some (.ref f))) (hf:PySem.W.typeIn K (.ref f)=some (.type "function"))
  (h:yqi (model prog w) (A.under (.builtin "type.__call__" ⟨.ref C::vs,kw⟩)) (.call (.ref f) ⟨.ref (s.heap.objs.size+1)::vs,kw⟩) (PySem.W.InitBack (s.heap.objs.size+1) R)
   { s with heap:=(s.heap.push yfe).push (ygf C s.heap.objs.size) }) :
  yqi (model prog w) A (.call (.ref C) ⟨vs,kw⟩) R s:=by
 obtain⟨hh,g,d,t,os⟩:=s;exact PySem.W.make_core (PySem.W.makes_of X hm) (PySem.W.looks_findIn X hi) (λself=>PySem.W.bind_fn X self hf) (.inl rfl) h
end
def putF (f:Str)(v:V):List (Str×V)->List (Str×V)
 | []=>[(f,v)]
 | (g,x)::r=>if g=f then (g,v)::r else (g,x)::putF f v r
theorem zst (f g:Str)(v:V):∀fs:List (Str×V),(putF f v fs).lookup g=if g=f then some v else fs.lookup g
 | []=>by
  show yoe g [(f,v)]=_
  by_cases h:g=f
  ·have hb:(g==f)=true:=beq_iff_eq.mpr h;simp only[yoe,hb,if_pos h]
  ·have hb:(g==f)=false:=beq_eq_false_iff_ne.mpr h;simp only[yoe,hb,if_neg h]
 | (k,x)::r=>by
  have ih:=zst f g v r;rw[show putF f v ((k,x)::r)=(if k=f then (k,v)::r else (k,x)::putF f v r) from rfl]
  by_cases hk:k=f
  ·rw[if_pos hk]
   by_cases h:g=k
   ·have hb:(g==k)=true:=beq_iff_eq.mpr h;simp only[yoe,hb,if_pos (h.trans hk)]
   ·have hb:(g==k)=false:=beq_eq_false_iff_ne.mpr h;simp only[yoe,hb,if_neg (λe:g=f=>h (e.trans hk.symm))]
  ·rw[if_neg hk]
   by_cases h:g=k
   ·have hb:(g==k)=true:=beq_iff_eq.mpr h;simp only[yoe,hb,if_neg (λe:g=f=>hk (h.symm.trans e))]
   ·have hb:(g==k)=false:=beq_eq_false_iff_ne.mpr h;simp only[yoe,hb];exact ih
theorem zvt (f:Str)(v:V):∀fs:List (Str×V),f∈(putF f v fs).map (·.1)∧∀g,g∈fs.map (·.1)->g∈(putF f v fs).map (·.1)
 | []=>⟨by simp[putF],λg h=>by simp at h⟩
 | (k,x)::r=>by
  obtain⟨i1,i2⟩:=zvt f v r;rw[show putF f v ((k,x)::r)=(if k=f then (k,v)::r else (k,x)::putF f v r) from rfl]
  by_cases hk:k=f
  ·rw[if_pos hk];subst hk;exact⟨by simp,λg h=>by simpa using h⟩
  ·rw[if_neg hk];refine⟨?_,λg h=>?_⟩
   ·rw[yib];exact yta _ i1
   ·rw[yib] at h ⊢
    rcases yka.mp h with e|e
    ·exact yka.mpr (.inl e)
    ·exact yta _ (i2 g e)
theorem zut (f:Str)(v:V):∀fs:List (Str×V),(putF f v fs).length≤fs.length+1
 | []=>by simp[putF]
 | (k,x)::r=>by
  have ih:=zut f v r;rw[show putF f v ((k,x)::r)=(if k=f then (k,v)::r else (k,x)::putF f v r) from rfl]
  by_cases hk:k=f
  ·rw[if_pos hk,yja,yja];omega
  ·rw[if_neg hk,yja,yja];omega
theorem RelO.some_of {v:V}{o:Option Value}(r:RelO (some v) o):∃u,o=some u∧RelV v u:=by
 cases o with
 | none=>exact (show False from r).elim
 | some u=>exact⟨u,rfl,r⟩
theorem RelO.none_of {o:Option Value}(r:RelO none o):o=none:=by
 cases o with
 | none=>rfl
 | some u=>exact (show False from r).elim
theorem znkb {v:V}{u:Value}(r:RelV v u):ymq u=true:=by
 cases v with
 | non=>cases (show u=Value.none from r);rfl
 | bl b=>cases (show u=Value.bool b from r);rfl
 | int i=>obtain⟨t,e⟩:=(show ∃t,u=Value.int i t from r);cases e;rfl
 | str x=>obtain⟨t,e⟩:=(show ∃t,u=Value.str x t from r);cases e;rfl
 | byt b=>obtain⟨t,e⟩:=(show ∃t,u=Value.bytes b t from r);cases e;rfl
 | flt b=>obtain⟨t,e⟩:=(show ∃t,u=Value.float b t from r);cases e;rfl
 | ref a=>cases (show u=Value.ref a from r);rfl
 | ty n=>cases (show u=Value.type n from r);rfl
section
variable {P:yvb}{w:World}{H H':Hp}{h h':Heap}{a C dx:Addr}{fs fs':List (Str×V)}
theorem zvx (hok:HOk P w H h)(e:H a=some (.ins C dx fs)):∃mA,ObjM h a dx C mA∧(∀f,RelO (fs.lookup f) (mA f))∧yln mA (fs.map (·.1))∧fs.length≤1000∧H dx=some (.own a):=by
 obtain⟨d,z,ne,ob,mA,n,r,q⟩:=(show zvj P w H h a (.ins C dx fs) from hok a _ e);exact⟨mA,⟨ob,n,ne⟩,r,q,z,d⟩
end
structure Cls (K:yda)(C:Addr):Prop where
 pg:yuf K C yvq=true
 hd:yfg K C=true
 po:yth K C=true
 sa:ykb K (.ref C) "__setattr__" = some (some (.builtin "object.__setattr__"))
theorem Cls.get {K:yda}{C:Addr}(c:Cls K C)(f:Str):yuf K C f=true:=c.pg
def zmh (K:yda)(C:Addr)(f:Str):Prop:=ykb K (.ref C) f=some none
theorem zmh.taker {K:yda}{C:Addr}{f:Str}(n:zmh K C f):ypn K C f=some none:=by
 unfold ypn;rw[show ykb K (.ref C) f=some none from n];rfl
structure Con (K:yda)(C:Addr)(f:Str)(v:V)(u:Value):Prop where
 at_:ykb K (.ref C) f=some (some u)
 rel:RelV v u
 get:yjj K u "__get__" = some none
 cp:PySem.W.copiedNames.contains f=false
structure Meth (K:yda)(C:Addr)(m:Str)(f:Addr):Prop where
 at_:ykb K (.ref C) m=some (some (.ref f))
 fn:yjl K (.ref f)=true
 kp:ybf K (.ref f)=true
section
variable {X:Cx}{pins:List (Addr×Obj)}{σ:St}{H:Hp}{s:Shared}{a C dx:Addr}{fs:List (Str×V)}{f:Str}{v:V}{A:Around}{E:Value->Shared->Prop}
theorem zbw {b:Bool}{Q:Value->Shared->Prop}(I:Inv X pins σ H s)(e:H a=some (.ins C dx fs))(c:Cls X.K C)(n:zmh X.K C f)(l:fs.lookup f=some v)
  (h:∀u s',Inv X pins σ H s'->RelV v u->Q u s'):wpAny (model X.prog X.w) A (getAttr (.ref a) f b) Q E s:=by
 obtain⟨mA,O,r,_,_,_⟩:=zvx I.hok e;obtain⟨u,hu,ru⟩:=RelO.some_of (v:=v) (o:=mA f) (by rw[← l];exact r f);exact get_map I.kIn O (c.get f) c.hd n hu (znkb ru) (h u _ (I.tok _) ru)
theorem zaw {m:Str}{g:Addr}{pl:Sem Bool}{Q:Value×List Value->Shared->Prop}(I:Inv X pins σ H s)(e:H a=some (.ins C dx fs))(c:Cls X.K C)(k:Meth X.K C m g)(l:fs.lookup m=none)
  (h:Q (.ref g,[.ref a]) s):wpAny (model X.prog X.w) A (yuq (.ref a) m pl) Q E s:=by
 obtain⟨mA,O,r,_,_,_⟩:=zvx I.hok e;have hn:mA m=none:=RelO.none_of (by rw[← l];exact r m);exact zaob I.kIn O (c.get m) k.at_ k.fn hn h
theorem zmv {y:V}{u:Value}{Q:Unit->Shared->Prop}(I:Inv X pins σ H s)(e:H a=some (.ins C dx fs))(c:Cls X.K C)(n:zmh X.K C f)(hl:fs.length<1000)(ry:RelV y u)
  (h:∀s',Inv X pins σ (upd H a (.ins C dx (putF f y fs))) s'->Q () s'):wpAny (model X.prog X.w) A (setAttr (.ref a) f u) Q E s:=by
 obtain⟨mA,O,r,wi,_,ho⟩:=zvx I.hok e;have hz:(fs.map (·.1)).length≤ywa:=by rw[yba,sizeLine_eq];omega
 refine zcqb I.kIn O c.sa c.po n.taker c.hd wi hz λh' O' sb=>h _ ?_;have hd:∃o,h'.get? dx=some o:=let ⟨o,_,_,e',_⟩:=O'.ns;⟨o,e'⟩;refine I.write (x:=a) (e:=dx) (by rw[e];exact True.intro) (.inr ho) (λb q hb z=>(sb.2 b hb).trans z) hd ?_;refine⟨by rw[zdb O.ne];exact ho,?_,O.ne,O'.obj,_,O'.ns,λg=>?_,λg hg=>?_⟩
 ·have:=zut f y fs;omega
 ·show RelO ((putF f y fs).lookup g) (if g=f then some u else mA g);rw[zst]
  by_cases q:g=f
  ·rw[if_pos q,if_pos q];exact ry
  ·rw[if_neg q,if_neg q];exact r g
 ·by_cases q:g=f
  ·rw[q];exact (zvt f y fs).1
  ·refine (zvt f y fs).2 g (wi g λz=>hg ?_);show (if g=f then some u else mA g)=none
   rw[if_neg q];exact z
theorem Inv.made (I:Inv X pins σ H s):Inv X pins σ (upd (upd H s.heap.objs.size (.own (s.heap.objs.size+1))) (s.heap.objs.size+1) (.ins C s.heap.objs.size []))
  { s with heap:=(s.heap.push yfe).push (ygf C s.heap.objs.size) }:=by
 have e1:(s.heap.push yfe).get? s.heap.objs.size=some yfe:=yha s.heap rfl;have e2:((s.heap.push yfe).push (ygf C s.heap.objs.size)).get? (s.heap.objs.size+1)=some (ygf C s.heap.objs.size):=by
  have:=yha (s.heap.push yfe) (o:=ygf C s.heap.objs.size) rfl
  rwa [ylc] at this
 have e3:(s.heap.push yfe).Ns s.heap.objs.size (λ_=>none):=⟨yfe,#[],_,e1,rfl,(λe he=>absurd he (by simp)),λ_=>rfl⟩;have I1:=I.laid (a:=s.heap.objs.size) (o:=.own (s.heap.objs.size+1)) (h':=s.heap.push yfe) (t':=s.toks) (λb u q=>yca _ q) (yga _) ⟨_,e1⟩;refine I1.laid (a:=s.heap.objs.size+1) (o:=.ins C s.heap.objs.size []) (t':=s.toks) (λb u q=>yca _ q) (yrn (ylc _ _)) ?_;have ne:s.heap.objs.size≠s.heap.objs.size+1:=yva (yie _);refine⟨by rw[zdb ne,zia],yqb _,ne,e2,λ_=>none,(Heap.Ns1.of_empty e3).at λo q=>yca _ q,λ_=>True.intro,λy hy=>absurd rfl hy⟩
theorem zvrb {prog:yvb}{w:World}{env:Env}{e:Expr}{f:Str}{pos:Pos}{s:Shared}{Q:Value->Shared->Prop}(hb:yri e f env (eval e env)=eval e env)
  (h:wpAny (model prog w) A (eval e env) (λo s₁=>wpAny (model prog w) A (getAttr o f true) Q E s₁) E s):wpAny (model prog w) A (eval (.Attribute e f pos) env) Q E s :=
 Attribute_any_ h (by rw[arm_eval_Attribute,hb])
end
def tFld (K:yda)(ta:TE)(f:Str):TE:=fun σ H Q=>ta σ H λx H1=>Ex5 λa C dx fs v=>x = .ref a∧H1 a=some (.ins C dx fs)∧Cls K C∧zmh K C f∧fs.lookup f=some v∧Q v H1
def sFld (K:yda)(ta tv:TE)(f:Str):TS:=λD σ H=>tv σ H λy H1=>ta σ H1 λx H2=>Ex4 λa C dx fs=>x = .ref a∧H2 a=some (.ins C dx fs)∧Cls K C∧zmh K C f∧fs.length<1000 ∧
 D.nx σ (upd H2 a (.ins C dx (putF f y fs)))
def InOp (X:Cx)(op:yrq)(rd:V->V->Hp->VK->Prop):Prop :=
 ∀(pins:List (Addr×Obj)) (s:Shared) (σ:St) (H:Hp) (x y:V) (u v:Value) (Q:VK),Inv X pins σ H s->RelV x u->RelV y v->rd x y H Q->wpAny (model X.prog X.w) X.A (inplaceOp op u v) (EP X pins σ Q) X.xe s
def zfqb (K:yda)(ta tv:TE)(rd:V->V->Hp->VK->Prop)(f:Str):TS:=λD σ H=>ta σ H λx H1=>Ex5 λa C dx fs v=>x = .ref a∧H1 a=some (.ins C dx fs)∧Cls K C∧zmh K C f∧fs.lookup f=some v ∧
 tv σ H1 λy H2=>rd v y H2 λz H3=>Ex2 λdx' fs'=>H3 a=some (.ins C dx' fs')∧fs'.length<1000∧D.nx σ (upd H3 a (.ins C dx' (putF f z fs')))
section
variable {X:Cx}{o e value:Expr}{f:Str}{pos pos' tpos:Pos}{ta tv:TE}
theorem zqo (he:PE X e ta)(hb:yri e f X.env (eval e X.env)=eval e X.env):PE X (.Attribute e f pos) (tFld X.K ta f):=by
 intro pins s σ H Q I h;refine zvrb hb (thn (he pins s σ H _ I h) λu s1 ⟨x,H1,I1,rx,a,C,dx,fs,v,ex,ea,c,n,l,q⟩=>?_);subst ex;obtain rfl:u=Value.ref a:=rx;exact zbw I1 ea c n l λu' s2 I2 ru=>⟨v,H1,I2,ru,q⟩
theorem zmm (ha:PE X o ta)(hv:PE X value tv)(hs:ytq value (some (.Attribute o f pos')) pos.line X.env=pure false):PS X (.Assign [.Attribute o f pos'] value pos) (sFld X.K ta tv f):=by
 intro pins s σ H D I h;refine plainObj_wpAny_Assign_Attribute (thn (hv pins s σ H _ I h) λu s1 ⟨y,H1,I1,ry,q⟩=>thn (ha pins s1 σ H1 _ I1 q) λov s2 ⟨x,H2,I2,rx,a,C,dx,fs,ex,ea,c,n,l,q2⟩=>?_) hs;subst ex;obtain rfl:ov=Value.ref a:=rx;exact zmv I2 ea c n l ry λs3 I3=>⟨σ,_,I3,q2⟩
theorem zkjb {op:yrq}{rd:V->V->Hp->VK->Prop}(ha:PE X o ta)(hv:PE X value tv)(hop:InOp X op rd):PS X (.AugAssign (.Attribute o f tpos) op value pos) (zfqb X.K ta tv rd f):=by
 intro pins s σ H D I h;refine wpAny_AugAssign_AttributeAny (thn (ha pins s σ H _ I h) λov s1 ⟨x,H1,I1,rx,a,C,dx,fs,v,ex,ea,c,n,l,q⟩=>?_);subst ex;obtain rfl:ov=Value.ref a:=rx;refine zbw I1 ea c n l λu s2 I2 ru=>thn (hv pins s2 σ H1 _ I2 q) λw3 s3 ⟨y,H2,I3,ry,q3⟩=>thn (hop pins s3 σ H2 v y u w3 _ I3 ru ry q3) λw4 s4 ⟨z,H3,I4,rz,dx',fs',ea',l',q4⟩=>?_;exact zmv I4 ea' c n l' rz λs5 I5=>⟨σ,_,I5,q4⟩
def rAdd:V->V->Hp->VK->Prop:=λx y H Q=>Ex2 λi j=>x = .int i∧y = .int j∧Q (.int (i+j)) H
theorem zlub:InOp X .Add rAdd:=by
 rintro pins s σ H x y u v Q I rx ry ⟨i,j,rfl,rfl,q⟩;obtain⟨t,rfl⟩:=(show ∃t,u=Value.int i t from rx);obtain⟨t',rfl⟩:=(show ∃t',v=Value.int j t' from ry);exact PyProof.Rows.iadd_int ⟨.int (i+j),H,I.tok _,⟨_,rfl⟩,q⟩
end
section
variable {X:Cx}{pins:List (Addr×Obj)}{σ:St}{H:Hp}{s:Shared}{A:Around}{E:Value->Shared->Prop}{Q:Value->Shared->Prop}{c:Value}{b:Bool}
inductive TyOf (K:yda)(H:Hp):V->Value->Prop where
 | non:TyOf K H .non (.type "NoneType")
 | bl (x:Bool):TyOf K H (.bl x) (.type "bool")
 | int (i:Int):TyOf K H (.int i) (.type "int")
 | str (x:Str):TyOf K H (.str x) (.type "str")
 | flt (x:UInt64):TyOf K H (.flt x) (.type "float")
 | lst {a:Addr} {xs:List V} (e:H a=some (.lst xs)):TyOf K H (.ref a) (.type "list")
 | frz {a:Addr} {o:Obj} {xs:List V} (e:H a=some (.frz o (.lst xs))):TyOf K H (.ref a) (.type "list")
 | tup {a:Addr} {xs:List V} (e:H a=some (.tup xs)):TyOf K H (.ref a) (.type "tuple")
 | dK {a:Addr} {kvs:List (Key×V)} (e:H a=some (.dK kvs)):TyOf K H (.ref a) (.type "dict")
 | dT {a:Addr} {kvs:List (List Key×V)} (e:H a=some (.dT kvs)):TyOf K H (.ref a) (.type "dict")
 | ins {a C dx:Addr} {fs:List (Str×V)} (e:H a=some (.ins C dx fs)) (cl:Cls K C) (ha:ykb K (.ref C) "__class__" = some (some (.builtin "object.__class__")))
   (hn:yjj K (.builtin "object.__class__") "__get__" = some (some (.builtin "getset_descriptor.__get__"))) (htk:ysn K (.builtin "object.__class__")=some true)
   (hm:ygp K C (.type "object")=some true):TyOf K H (.ref a) (.ref C)
theorem zzab {x:V}{u t:Value}(I:Inv X pins σ H s)(rx:RelV x u)(ty:TyOf X.K H x t)(e:yrc X.K t c=some b)(h:∀tk,Q (.bool b) { s with toks:=tk }) :
  wpAny (model X.prog X.w) A (call (.builtin "isinstance") [u,c]) Q E s:=by
 cases ty with
 | non=>cases (show u=Value.none from rx);exact yxd PySem.W.kitx_none I.kIn True.intro e (λz=>nomatch z) h
 | bl y=>cases (show u=Value.bool y from rx);exact yxd PySem.W.kitx_bool I.kIn True.intro e (λz=>nomatch z) h
 | int i=>obtain⟨t,q⟩:=(show ∃t,u=Value.int i t from rx);cases q;exact yxd PySem.W.kitx_int I.kIn True.intro e (λz=>nomatch z) h
 | str y=>obtain⟨t,q⟩:=(show ∃t,u=Value.str y t from rx);cases q;exact yxd PySem.W.kitx_str I.kIn True.intro e (λz=>nomatch z) h
 | flt y=>obtain⟨t,q⟩:=(show ∃t,u=Value.float y t from rx);cases q;exact yxd PySem.W.kitx_float I.kIn True.intro e (λz=>nomatch z) h
 | @lst a xs ea =>
  cases (show u=Value.ref a from rx);obtain⟨_,_,n,_,h1⟩:=(show zvj X.prog X.w H s.heap a (.lst xs) from I.hok a _ ea);exact yxd ysp I.kIn ⟨_,h1,rfl⟩ e (λz=>nomatch z) h
 | @frz a ob xs ea =>
  cases (show u=Value.ref a from rx);obtain⟨_,_,_,n,_,h1⟩:=(show zvj X.prog X.w H s.heap a (.frz ob (.lst xs)) from I.hok a _ ea);exact yxd ysp I.kIn ⟨_,h1,rfl⟩ e (λz=>nomatch z) h
 | @tup a xs ea =>
  cases (show u=Value.ref a from rx);obtain⟨_,_,_,p⟩:=(show zvj X.prog X.w H s.heap a (.tup xs) from I.hok a _ ea);obtain⟨o,h1,h2,_⟩:=p;exact yxd PySem.W.kitx_tuple I.kIn ⟨o,h1,h2⟩ e (λz=>nomatch z) h
 | @dK a kvs ea =>
  cases (show u=Value.ref a from rx);obtain⟨_,_,vs,_,p⟩:=(show zvj X.prog X.w H s.heap a (.dK kvs) from I.hok a _ ea);obtain⟨o,es,ep,h1,h2,_⟩:=p;exact yxd ytp I.kIn ⟨o,h1,h2.1⟩ e (λz=>nomatch z) h
 | @dT a kvs ea =>
  cases (show u=Value.ref a from rx);obtain⟨_,_,xs,_,o,es,ep,h1,h2,_⟩:=(show zvj X.prog X.w H s.heap a (.dT kvs) from I.hok a _ ea);exact yxd ytp I.kIn ⟨o,h1,h2.1⟩ e (λz=>nomatch z) h
 | @ins a C dx fs ea cl ha hn htk hm =>
  cases (show u=Value.ref a from rx);obtain⟨mA,O,_⟩:=zvx I.hok ea;obtain⟨od,J,_⟩:=O.look;exact yxd (PySem.W.kitx_own (cl.get _) cl.hd ha hn htk hm) I.kIn J e (λz=>nomatch z) h
end
end L2
namespace L2
open PySem PySem.Spec PyProof.Rows
structure Room (k:Nat)(A:Around):Prop where
 hd:A.handled=none
 dp:A.depth+3*k+5<recursionLimit
 un:A.units+16*k+200<cLine
theorem Room.mono {j k:Nat}{A:Around}(r:Room k A)(h:j≤k):Room j A:=⟨r.hd,by have:=r.dp;omega,by have:=r.un;omega⟩
theorem Room.deeper {k:Nat}{A:Around}(r:Room (k+1) A)(env:Env):Room k (A.deeper env) :=
 ⟨r.hd,by have:=r.dp;show A.depth+1+3*k+5<_;omega,by have:=r.un;show A.units+3+16*k+200<_;omega⟩
theorem zlhb {A:Around}{C:Addr}{us:List Value}{kw:List (Str×Value)}:(A.under (.builtin "type.__call__" ⟨.ref C::us,kw⟩)).depth=A.depth+1:=by
 first|rfl|simp[ygq,Code.weight,Code.isCreation,Code.isGuard,Code.isCaller,Code.frames,yhq,guardIds]
theorem zkhb {A:Around}{C:Addr}{us:List Value}{kw:List (Str×Value)}:(A.under (.builtin "type.__call__" ⟨.ref C::us,kw⟩)).units=A.units+1:=by
 first|rfl|simp[ygq,Code.cUnits,Code.frames,yhq]
theorem Room.make {k:Nat}{A:Around}(r:Room (k+1) A)(C:Addr)(us:List Value)(kw:List (Str×Value)):Room k (A.under (.builtin "type.__call__" ⟨.ref C::us,kw⟩)) :=
 ⟨r.hd,by have:=r.dp;rw[zlhb];omega,by have:=r.un;rw[zkhb];omega⟩
theorem Room.depth {k:Nat}{A:Around}(r:Room k A):A.depth<recursionLimit:=by have:=r.dp;omega
theorem Room.units {k:Nat}{A:Around}(r:Room k A):A.units+64<cLine:=by have:=r.un;omega
def tNil:TA:=λ_ H Q=>Q [] H
def zfvb (ta:TE)(tr:TA):TA:=fun σ H Q=>ta σ H λx H1=>tr σ H1 λxs H2=>Q (x::xs) H2
section
variable {X:Cx}{e:Expr}{es:List Expr}{te:TE}{t:TA}{pos:Pos}
theorem zba:PA X [] tNil:=λ_ _ _ _ H Q I h=>yup ⟨[],H,I,.nil,h⟩
theorem zaa (ha:PE X e te)(hr:PA X es t)(hs:yxc (e::es) X.env=(false,eval e X.env)::yxc es X.env:=by rfl):PA X (e::es) (zfvb te t):=by
 intro pos pins s σ H Q I h;rw[hs];show wpAny _ _ (spliced ((false,eval e X.env)::backTo pos (yxc es X.env))) _ _ s
 refine yhp (thn (ha pins s σ H _ I h) λu s1 ⟨x,H1,I1,r1,q1⟩=>?_);exact thn (hr pos pins s1 σ H1 _ I1 q1) λus s2 ⟨xs,H2,I2,r2,q2⟩=>⟨x::xs,H2,I2,.cons r1 r2,q2⟩
def tTup (t:TA):TE:=fun σ H Q=>t σ H λxs H1=>xs.length≤ywa∧∀p,H1 p=none->Q (.ref p) (upd H1 p (.tup xs))
def tLst (t:TA):TE:=fun σ H Q=>t σ H λxs H1=>xs.length≤ywa∧∀p,H1 p=none->Q (.ref p) (upd H1 p (.lst xs))
theorem ztb {x1}(h:PA X es t):PE X (.Tuple es x1 pos) (tTup t):=by
 intro pins s σ H Q I hq;refine wpAny_Tuple_spliced (thn (h pos pins s σ H _ I hq) λus s1 ⟨xs,H1,I1,r,z,q⟩=>⟨by rw[← r.length];exact z,?_⟩);have hf:H1 s1.heap.objs.size=none:=I1.hok.fresh (yga _);refine⟨.ref s1.heap.objs.size,upd H1 s1.heap.objs.size (.tup xs),I1.laid (t':=s1.toks) (λb u e=>yca _ e) (yga _) ?_,rfl,q _ hf⟩;exact⟨z,us,r,⟨_,yha _ rfl,rfl,_,rfl⟩⟩
theorem zgd (h:PA X es t):PE X (.List es pos) (tLst t):=by
 intro pins s σ H Q I hq;refine wpAny_List_spliced (thn (h pos pins s σ H _ I hq) λus s1 ⟨xs,H1,I1,r,z,q⟩=>⟨by rw[← r.length];exact z,?_⟩);have hf:H1 s1.heap.objs.size=none:=I1.hok.fresh (yga _);refine⟨.ref s1.heap.objs.size,upd H1 s1.heap.objs.size (.lst xs),I1.laid (t':=s1.toks) (λb u e=>yca _ e) (yga _) ?_,rfl,q _ hf⟩;exact⟨z,us,0,r,yha _ rfl⟩
end
abbrev Sp:=List V->Hp->VK->XK->Prop
abbrev CXT:=List Env->Hp->Shared->XK->Value->Shared->Prop
structure Env0 (P:yvb)(w:World)(K:yda)(mg:Str->Option Value)(base:Heap)(A:Around)(outer:List Env)(s:Shared)(H:Hp):Prop where
 frames:A.frames=some outer
 mod:Mod K mg base
 bs:∀b o,base.get? b=some o->s.heap.get? b=some o∧H b=none
 bsz:base.objs.size≤s.heap.objs.size
 funs:s.heap.FunFrames base outer
 frf:∀b∈frs outer,H b=none
 hok:HOk P w H s.heap
 bare:yxo s.gens
def CE (outer:List Env)(P:yvb)(w:World)(H:Hp)(s:Shared)(Q:VK)(u:Value)(s':Shared):Prop :=
 Ex2 λv H'=>s'.os=s.os∧yxo s'.gens∧Un (frs outer) [] H H' s.heap s'.heap∧HOk P w H' s'.heap∧RelV v u∧Q v H'
def CR (CX:CXT)(outer:List Env)(P:yvb)(w:World)(H:Hp)(s:Shared)(Q:VK)(E:XK)(r:Result)(s':Shared):Prop :=
 match r with
 | .ok (.ret u)=>CE outer P w H s Q u s'
 | .ok _=>False
 | .error e=>CX outer H s E e s'
structure FnOk (P:yvb)(w:World)(K:yda)(mg:Str->Option Value)(base:Heap)(CX:CXT)(k:Nat)(f:Addr)(fd:ypf)(ps:List Str)(sp:Sp):Prop where
 len:∀vs H Q E,sp vs H Q E->vs.length=ps.length
 run:∀(A:Around) (outer:List Env) (s:Shared) (H:Hp) (args:Args) (us:List Value) (vs:List V) (Q:VK) (E:XK),Room k A->Env0 P w K mg base A outer s H->yvp s fd args (ps.zip us)->Vals vs us->sp vs H Q E →
  yqi (model P w) A (.call (.ref f) args) (CR CX outer P w H s Q E) s
theorem FnOk.mono {P:yvb}{w:World}{K:yda}{mg:Str->Option Value}{base:Heap}{CX:CXT}{j k:Nat}{f:Addr}{fd:ypf}{ps:List Str}{sp:Sp}(F:FnOk P w K mg base CX j f fd ps sp)(h:j≤k) :
  FnOk P w K mg base CX k f fd ps sp:=⟨F.len,λA outer s H args us vs Q E hr=>F.run A outer s H args us vs Q E (hr.mono h)⟩
theorem Env0.make {P:yvb}{w:World}{K:yda}{mg:Str->Option Value}{base:Heap}{A:Around}{outer:List Env}{s:Shared}{H:Hp}(e:Env0 P w K mg base A outer s H)(C:Addr)(us:List Value)(kw:List (Str×Value)) :
  Env0 P w K mg base (A.under (.builtin "type.__call__" ⟨.ref C::us,kw⟩)) outer s H:=⟨by first|exact e.frames|(simpa [ygq,Code.envs,yhq,pushEnvs] using e.frames),e.mod,e.bs,e.bsz,e.funs,e.frf,e.hok,e.bare⟩
section
variable {X:Cx}{pins:List (Addr×Obj)}{σ:St}{H:Hp}{s s':Shared}
theorem Inv.env0 (I:Inv X pins σ H s):Env0 X.prog X.w X.K X.mg X.base X.A X.stack s H :=
 ⟨I.ok.frames,I.ok.mod,I.bs,ymb I.ok.bsz I.sz,I.stack,I.zpib,I.hok,I.bare⟩
theorem Inv.after {Q:VK}{u:Value}(I:Inv X pins σ H s)(h:CE X.stack X.prog X.w H s Q u s'):EP X pins σ Q u s':=by
 obtain⟨v,H',os,bare,un,hok,r,q⟩:=h;obtain⟨hh,g,d,t,os'⟩:=s';obtain rfl:os'=s.os:=os;exact⟨v,H',I.call (h':=hh) (g':=g) (d':=d) (t':=t) (ch:=[]) un hok bare (λb z=>absurd z (by simp)),r,q⟩
end
def zgvb (sp:Sp)(dvs:List V)(E:XK)(t:TA):TE:=fun σ H Q=>t σ H λvs H1=>sp (vs++dvs) H1 Q E
def zmsb (C:Addr)(m:Str)(sp:Sp)(dvs:List V)(E:XK)(ta:TE)(t:TA):TE:=fun σ H Q=>ta σ H λx H1=>Ex3 λa dx fs=>x = .ref a∧H1 a=some (.ins C dx fs)∧fs.lookup m=none ∧
 t σ H1 λvs H2=>sp (x::(vs++dvs)) H2 Q E
def zdvb (C:Addr)(sp:Sp)(dvs:List V)(E:XK)(t:TA):TE:=fun σ H Q=>t σ H λvs H1=>∀x dx,H1 x=none->H1 dx=none->dx≠x →
 sp (.ref x::(vs++dvs)) (upd (upd H1 dx (.own x)) x (.ins C dx [])) (λv H2=>v = .non∧Q (.ref x) H2) E
def Binds (K:yda)(fd:ypf)(ps:List Str)(ds:List Value):Prop :=
 ∀(s:Shared) (us:List Value),K.In s.heap->(us++ds).length=ps.length->yvp s fd ⟨us,[]⟩ (ps.zip (us++ds))
theorem Binds.all {K:yda}{fd:ypf}{ps:List Str}(h:∀us:List Value,us.length=ps.length->bindArgs fd ⟨us,[]⟩=pure (ps.zip us)):Binds K fd ps []:=λs us _ hl=>by
 rw[yfc] at hl ⊢;exact .of_eq (h us hl)
def Passes (CX:CXT)(X:Cx)(E:XK):Prop:=∀(pins:List (Addr×Obj)) (σ:St) (H:Hp) (s:Shared) (e:Value) (s':Shared),Inv X pins σ H s->CX X.stack H s E e s'->X.xe e s'
section
variable {X:Cx}{CX:CXT}{k:Nat}{f C:Addr}{fd:ypf}{ps:List Str}{sp:Sp}{dvs:List V}{ds:List Value}{E:XK}{x m:Str}{p pos apos:Pos}{e o:Expr}{es:List Expr}{ta:TE}{t:TA}
theorem zejb {pins:List (Addr×Obj)}{σ:St}{H:Hp}{s:Shared}{Q:VK}{us:List Value}{vs:List V}(F:FnOk X.prog X.w X.K X.mg X.base CX k f fd ps sp)(hr:Room k X.A)(hb:Binds X.K fd ps ds)(hd:Vals dvs ds)(hx:Passes CX X E)
  (I:Inv X pins σ H s) (r:Vals vs us) (h:sp (vs++dvs) H Q E):wpAny (model X.prog X.w) X.A (call (.ref f) us) (EP X pins σ Q) X.xe s:=by
 have r2:Vals (vs++dvs) (us++ds):=r.append hd;have hl:(us++ds).length=ps.length:=by rw[← r2.length];exact F.len _ _ _ _ h
 refine yro (ywf (F.run X.A X.stack s H ⟨us,[]⟩ (us++ds) (vs++dvs) Q E hr I.env0 (hb s us I.kIn hl) r2 h) λr s' hq=>?_);cases r with
 | error e=>exact hx pins σ H s e s' I hq
 | ok fl =>
  cases fl with
  | ret u=>exact I.after hq
  | next=>exact ytf hq
  | brk=>exact ytf hq
  | cont=>exact ytf hq
theorem zga (F:FnOk X.prog X.w X.K X.mg X.base CX k f fd ps sp)(hr:Room k X.A)(hg:Gl X x)(hm:X.mg x=some (.ref f))(hk:ybf X.K (.ref f)=true)(hb:Binds X.K fd ps ds)(hd:Vals dvs ds)(hx:Passes CX X E)
  (ha:PA X (e::es) t) (hdb:(x==("__debug__":Str))=false:=by decide) (he:yxc (e::es) X.env=(false,eval e X.env)::yxc es X.env:=by rfl) (hpl:(backTo pos (yxc es X.env)).any (·.1)=false:=by rfl) :
  PE X (.Call (.Name x p) (e::es) [] pos) (zgvb sp dvs E t):=by
 intro pins s σ H Q I h;refine yih (zkdb I hg hm ?_ hdb);refine ykl (h₀:=X.base) I.ok.mod.kin hk (thn (ha pos pins s σ H _ I h) λus s1 ⟨vs,H1,I1,r,q⟩=>⟨I1.kIn,?_⟩) he hpl;exact zejb F hr hb hd hx I1 r q
theorem zci {pl:Sem Bool}(he:PE X o ta)(c:Cls X.K C)(hm:Meth X.K C m f)(F:FnOk X.prog X.w X.K X.mg X.base CX k f fd ps sp)(hr:Room k X.A)(hb:Binds X.K fd ps ds)(hd:Vals dvs ds)(hx:Passes CX X E)(ha:PA X (e::es) t)
  (hst:yxc (e::es) X.env=(false,eval e X.env)::yxc es X.env:=by rfl) (hpl:(backTo pos (yxc es X.env)).any (·.1)=false:=by rfl)
  (ht:eval (.Call (.Attribute o m apos) (e::es) [] pos) X.env=(do
   let ov ← eval o X.env
   standAt apos.atName
   let (f,first) ← ynn [ov] (yuq ov m pl)
   callWith pos f first (backTo pos (yxc (e::es) X.env)) (ysq pos (yrm [] X.env))):=by rfl) :
  PE X (.Call (.Attribute o m apos) (e::es) [] pos) (zmsb C m sp dvs E ta t):=by
 intro pins s σ H Q I h;refine ytn (pl:=pl) (thn (he pins s σ H _ I h) λu s1 ⟨x,H1,I1,rx,a,dx,fs,ex,ea,l,q⟩=>?_) ht;subst ex;obtain rfl:u=Value.ref a:=rx;refine zaw I1 ea c hm l ?_;refine ykl (first:=[.ref a]) (h₀:=X.base) I.ok.mod.kin hm.kp (thn (ha pos pins s1 σ H1 _ I1 q) λus s2 ⟨vs,H2,I2,r,q2⟩=>⟨I2.kIn,?_⟩) hst hpl;exact zejb (us:=.ref a::us) (vs:=.ref a::vs) F hr hb hd hx I2 (.cons rfl r) q2
theorem zvc {pl:Sem Bool}(he:PE X o ta)(c:Cls X.K C)(hm:Meth X.K C m f)(F:FnOk X.prog X.w X.K X.mg X.base CX k f fd ps sp)(hr:Room k X.A)(hb:Binds X.K fd ps ds)(hd:Vals dvs ds)(hx:Passes CX X E)
  (ht:eval (.Call (.Attribute o m apos) [] [] pos) X.env=(do
   let ov ← eval o X.env
   standAt apos.atName
   let (f,first) ← ynn [ov] (yuq ov m pl)
   callWith pos f first (backTo pos (yxc [] X.env)) (ysq pos (yrm [] X.env))):=by rfl) :
  PE X (.Call (.Attribute o m apos) [] [] pos) (zmsb C m sp dvs E ta tNil):=by
 intro pins s σ H Q I h;refine ytn (pl:=pl) (thn (he pins s σ H _ I h) λu s1 ⟨x,H1,I1,rx,a,dx,fs,ex,ea,l,q⟩=>?_) ht;subst ex;obtain rfl:u=Value.ref a:=rx;refine zaw I1 ea c hm l ?_;exact PySem.W.callWith_K0 (first:=[.ref a]) I1.kIn hm.kp (zejb (us:=[.ref a]) (vs:=[.ref a]) F hr hb hd hx I1 (.cons rfl .nil) q)
structure Mk (K:yda)(C f:Addr):Prop where
 makes:yqn K C=true
 init:ykb K (.ref C) "__init__" = some (some (.ref f))
 fn:yjl K (.ref f)=true
 kp:ybf K (.ref C)=true
theorem zsmb {pins:List (Addr×Obj)}{σ:St}{H:Hp}{s:Shared}{Q:VK}{us:List Value}{vs:List V}(M:Mk X.K C f)(F:FnOk X.prog X.w X.K X.mg X.base CX k f fd ps sp)(hr:Room (k+1) X.A)(hb:Binds X.K fd ps ds)(hd:Vals dvs ds)
  (hx:Passes CX X E) (I:Inv X pins σ H s) (r:Vals vs us)
  (h:∀x dx,H x=none->H dx=none->dx≠x->sp (.ref x::(vs++dvs)) (upd (upd H dx (.own x)) x (.ins C dx [])) (λv H2=>v = .non∧Q (.ref x) H2) E) :
  wpAny (model X.prog X.w) X.A (call (.ref C) us) (EP X pins σ Q) X.xe s:=by
 have hq:=h (s.heap.objs.size+1) s.heap.objs.size (I.hok.fresh (yge _)) (I.hok.fresh (yga _)) (yva (yie _));have I2:=Inv.made (C:=C) I;have r2:Vals (V.ref (s.heap.objs.size+1)::(vs++dvs)) (Value.ref (s.heap.objs.size+1)::(us++ds)):=.cons rfl (r.append hd);have hl:(Value.ref (s.heap.objs.size+1)::us++ds).length=ps.length:=by
  have e:=r2.length;rw[F.len _ _ _ _ hq] at e;exact e.symm
 refine yro (zonb (f:=f) I.kIn M.makes M.init (beq_iff_eq.mp M.fn) (ywf (F.run _ X.stack _ _ ⟨Value.ref (s.heap.objs.size+1)::us,[]⟩ (Value.ref (s.heap.objs.size+1)::(us++ds)) _ _ E (hr.make C us [])
  (I2.env0.make C us []) (hb _ (Value.ref (s.heap.objs.size+1)::us) I2.kIn hl) r2 hq) λr s' hq'=>?_))
 cases r with
 | error e=>exact hx pins σ _ _ e s' I2 hq'
 | ok fl =>
  cases fl with
  | ret u =>
   obtain⟨v,H',I3,rv,ev,q3⟩:=I2.after hq';subst ev;exact⟨rv,⟨V.ref (s.heap.objs.size+1),H',I3,rfl,q3⟩⟩
  | next=>exact ytf hq'
  | brk=>exact ytf hq'
  | cont=>exact ytf hq'
theorem zcx (M:Mk X.K C f)(F:FnOk X.prog X.w X.K X.mg X.base CX k f fd ps sp)(hr:Room (k+1) X.A)(hg:Gl X x)(hm:X.mg x=some (.ref C))(hb:Binds X.K fd ps ds)(hd:Vals dvs ds)(hx:Passes CX X E)
  (ha:PA X (e::es) t) (hdb:(x==("__debug__":Str))=false:=by decide) (he:yxc (e::es) X.env=(false,eval e X.env)::yxc es X.env:=by rfl) (hpl:(backTo pos (yxc es X.env)).any (·.1)=false:=by rfl) :
  PE X (.Call (.Name x p) (e::es) [] pos) (zdvb C sp dvs E t):=by
 intro pins s σ H Q I h;refine yih (zkdb I hg hm ?_ hdb);refine ykl (h₀:=X.base) I.ok.mod.kin M.kp (thn (ha pos pins s σ H _ I h) λus s1 ⟨vs,H1,I1,r,q⟩=>⟨I1.kIn,?_⟩) he hpl;exact zsmb M F hr hb hd hx I1 r q
end
section
variable {X:Cx}{CX:CXT}{k:Nat}{f C:Addr}{fd:ypf}{ps ks:List Str}{sp:Sp}{E:XK}{x m:Str}{p pos apos kpos:Pos}{e o:Expr}{es:List Expr}{kws:List ywp}{te ta:TE}{t tk:TA}{nm:Option Str}
structure zcwb (K:yda)(fd:ypf)(ps ks:List Str)(g:List Value->List Value->List Value)(gV:List V->List V->List V):Prop where
 to:∀(s:Shared) (us ws:List Value),K.In s.heap->(g us ws).length=ps.length->yvp s fd ⟨us,ks.zip ws⟩ (ps.zip (g us ws))
 rel:∀{vs:List V} {us:List Value} {zs:List V} {ws:List Value},Vals vs us->Vals zs ws->Vals (gV vs zs) (g us ws)
variable {g:List Value->List Value->List Value}{gV:List V->List V->List V}
end
structure zua (N P:List Str)(sc:Scope):Prop where
 kind:sc.kind = .function
 co:sc.isCoroutine=false
 gen:sc.isGenerator=false
 nd:N.Nodup
 pre:N.take P.length=P
 par:∀x∈P,sc.names.lookup x=some .local∨sc.names.lookup x=some .cell
 nofree:∀y∈sc.names,y.2 ≠ .free
theorem zobb {kindOf:Str->Option ygd}{x:Str}:∀{binds:List (Str×Value)} {m:Str->Option Value},(∀v,(x,v)∉binds)->bindL kindOf binds m x=m x
 | [],_,_=>rfl
 | (n,v)::r,m,h=>by
  unfold bindL;rw[zobb λw hw=>h w (yta _ hw)]
  split
  ·have:x≠n:=by rintro rfl;exact h v yra
   simp[this]
  ·rfl
theorem zqbb {kindOf:Str->Option ygd}{x:Str}:∀{binds:List (Str×Value)} {m:Str->Option Value},(∀v,(x,v)∉binds)->bindC kindOf binds m x=m x
 | [],_,_=>rfl
 | (n,v)::r,m,h=>by
  unfold bindC;rw[zqbb λw hw=>h w (yta _ hw)]
  split
  ·rfl
  ·have:x≠n:=by rintro rfl;exact h v yra
   simp[this]
theorem zpbb {kindOf:Str->Option ygd}{x:Str}{v:Value}:∀{P:List Str} {vs:List Value} {i:Nat} {m:Str->Option Value},P.Nodup->P[i]?=some x->vs[i]?=some v->kindOf x=some .local →
  bindL kindOf (P.zip vs) m x=some v
 | [],_,_,_,_,h,_,_=>by simp at h
 | _::_,[],_,_,_,_,h,_=>by simp at h
 | p::P,w::vs,0,m,nd,h1,h2,hk=>by
  simp at h1 h2;subst h1;subst h2;show bindL kindOf ((p,w)::P.zip vs) m p=_
  unfold bindL;rw[zobb λv hv=>(ysi.mp nd).1 (yun hv).1,if_pos hk];simp
 | p::P,w::vs,i+1,m,nd,h1,h2,hk=>by
  show bindL kindOf ((p,w)::P.zip vs) m x=_
  unfold bindL;exact zpbb (i:=i) (ysi.mp nd).2 (by simpa using h1) (by simpa using h2) hk
theorem zrbb {kindOf:Str->Option ygd}{x:Str}{v:Value}:∀{P:List Str} {vs:List Value} {i:Nat} {m:Str->Option Value},P.Nodup->P[i]?=some x->vs[i]?=some v->kindOf x≠some .local →
  bindC kindOf (P.zip vs) m x=some v
 | [],_,_,_,_,h,_,_=>by simp at h
 | _::_,[],_,_,_,_,h,_=>by simp at h
 | p::P,w::vs,0,m,nd,h1,h2,hk=>by
  simp at h1 h2;subst h1;subst h2;show bindC kindOf ((p,w)::P.zip vs) m p=_
  unfold bindC;rw[zqbb λv hv=>(ysi.mp nd).1 (yun hv).1,if_neg hk];simp
 | p::P,w::vs,i+1,m,nd,h1,h2,hk=>by
  show bindC kindOf ((p,w)::P.zip vs) m x=_
  unfold bindC;exact zrbb (i:=i) (ysi.mp nd).2 (by simpa using h1) (by simpa using h2) hk
def start (N:List Str)(vs:List V):St:=vs.map some++ylb (N.length-vs.length) none
def cxOf (CX:CXT)(P:yvb)(w:World)(K:yda)(mg:Str->Option Value)(base:Heap)(N:List Str)(qual:Str)(scope:Scope)(f:Addr)(cd:Value)(A:Around)(outer:List Env)(s:Shared)(H:Hp)(E:XK):Cx where
 prog:=P
 w:=w
 K:=K
 mg:=mg
 base:=base
 A:=A.deeper (envOfC qual scope s.heap.objs.size f cd)
 N:=N
 s₀:=s
 H₀:=H
 env:=envOfC qual scope s.heap.objs.size f cd
 outer:=outer
 stack:=envOfC qual scope s.heap.objs.size f cd::outer
 ex:=[]
 calm:=true
 fn:=λ_=>true
 pn:=[]
 xe:=λe s'=>wpAny (model P w) (A.deeper (envOfC qual scope s.heap.objs.size f cd)) (leaving (envOfC qual scope s.heap.objs.size f cd) e) (λ_ s''=>CX outer H s E e s'') (λe' s''=>CX outer H s E e' s'') s'
theorem zjgb {sc:Scope}{n:Nat}{x:Str}(h:sc.names.lookup x=some .cell):∃c,(cellsFrom n sc.names []).lookup x=some c:=by
 have q:=yjn sc.names n [] (.inl h);exact Option.isSome_iff_exists.mp q
theorem zjkb {CX:CXT}{P:yvb}{w:World}{K:yda}{mg:Str->Option Value}{base:Heap}{N ps:List Str}{qual:Str}{scope:Scope}{f:Addr}{cd:Value}{A:Around}{outer:List Env}{s s1:Shared}{H:Hp}{E:XK}{us:List Value}{vs:List V}
  (S:zua N ps scope) (hd:A.handled=none) (e0:Env0 P w K mg base A outer s H) (hl:vs.length=ps.length) (r:Vals vs us)
  (x:InCallC s s.heap.objs.size (bindL (envOfC qual scope s.heap.objs.size f cd).kindOf (ps.zip us) λ_=>none) (cellsFrom (s.heap.objs.size+1) scope.names []) (bindC (envOfC qual scope s.heap.objs.size f cd).kindOf (ps.zip us) λ_=>none) s1) :
  Inv (cxOf CX P w K mg base N qual scope f cd A outer s H E) [] (start N vs) H s1:=by
 have hpl:ps.length≤N.length:=by have:=congrArg yvg S.pre;rw[ygb] at this;omega
 obtain⟨h1,tk,rfl,hk⟩:=x.done;have noA:∀b:Addr,b∉(cxOf CX P w K mg base N qual scope f cd A outer s H E).ex:=λb z=>absurd (show b∈([]:List Addr) from z) (by simp);refine⟨⟨e0.mod,S.kind,rfl,rfl,yga _,λy z c h1 h2=>?_,λy hy=>?_,λy c _ h=>?_,λ_=>hd,Around.frames_deeper e0.frames,.inr ⟨rfl,rfl⟩,λb z=>absurd z (noA b),e0.bs,e0.bsz,λb _ _=>noA b,λb z=>absurd z (noA b),e0.funs,e0.frf⟩,
  rfl,e0.bare,Un.kept hk,⟨_,x.toInCall.ns,λi y v h1 h2 h3=>?_⟩,λy c h=>⟨_,x.cell y c h⟩,e0.hok.fresh (yga _),λy c h=>?_,λp hp=>absurd (show p∈([]:List (Addr×Obj)) from hp) (by simp),e0.hok.kept hk,?_⟩
 ·exact name_of_addr x.apart (ywg h1) (ywg h2)
 ·have hy:scope.names.lookup y=some .cell∨scope.names.lookup y=some .free:=hy
  rcases hy with hy|hy
  ·exact zjgb hy
  ·exact absurd rfl (S.nofree _ (ywg hy))
 ·exact yde (x.above y c (ywg h))
 ·have hi:i<vs.length:=by
   unfold start at h2
   by_cases hi:i<vs.length
   ·exact hi
   ·rw[yic (by simpa using hi)] at h2;rw[yti] at h2
    split at h2<;>cases h2
  have ha:vs[i]?=some v:=by
   unfold start at h2;rw[yre (by simpa using hi),yqa] at h2;cases e:vs[i]? with
   | none=>rw[e] at h2;cases h2
   | some a=>rw[e] at h2;cases h2;rfl
  obtain⟨u,hu,rv⟩:=r.get ha;have hp:ps[i]?=some y:=by
   rw[← S.pre,ybm (by omega)];exact h1
  have ndP:ps.Nodup:=by rw[← S.pre];exact S.nd.sublist (ykj _ _)
  refine⟨u,rv,?_⟩
  rcases S.par y (ybb hp) with k|k
  ·exact .inl ⟨k,zpbb ndP hp hu k⟩
  ·obtain⟨c,e⟩:=zjgb (n:=s.heap.objs.size+1) k;refine .inr ⟨.inl k,c,e,?_⟩;have q:=x.cell y c e;rw[zrbb ndP hp hu (by show scope.names.lookup y≠_;rw[k];decide)] at q;exact q
 ·exact e0.hok.fresh (yde (x.above y c (ywg h)))
 ·unfold start;show _=N.length
  rw[yea,yba,ygc];omega
theorem zawb {CX:CXT}{P:yvb}{w:World}{K:yda}{mg:Str->Option Value}{base:Heap}{k:Nat}{f:Addr}{name qual:Str}{params:Arguments}{body:List Stmt}{scope:Scope}{dV kV doc pm cdv ct oc:Value}{an od:Option Addr}
  {osl:Array (Option Value)} {N ps:List Str} {sp:Sp} (lk:K.lookup f=some ⟨oc,od,.func (yug name qual params body scope dV kV doc pm an cdv ct),osl⟩) (hcd:yxh K cdv qual=true) (S:zua N ps scope)
  (len:∀vs H Q E,sp vs H Q E->vs.length=ps.length)
  (hbody:∀(A:Around) (outer:List Env) (s:Shared) (H:Hp) (vs:List V) (Q:VK) (E:XK),Room k (A.deeper (envOfC qual scope s.heap.objs.size f cdv))->sp vs H Q E →
   ∃t,PSs (cxOf CX P w K mg base N qual scope f cdv A outer s H E) body t∧t { nx:=λ_ H'=>Q .non H',rt:=Q } (start N vs) H) :
  FnOk P w K mg base CX (k+1) f (yug name qual params body scope dV kV doc pm an cdv ct) ps sp:=by
 refine⟨len,λA outer s H args us vs Q E hr e0 hb r hsp=>?_⟩;have hl:=len _ _ _ _ hsp;have KX:K.In s.heap:=e0.mod.kin.keeps λb o e=>(e0.bs b o e).1;have lim:s.heap.NoLimit:=e0.mod.nolimit.keeps λb o e=>(e0.bs b o e).1;have hkind:∀y∈ps.zip us,scope.names.lookup y.1=some .local∨(scope.names.lookup y.1=some .cell∧((cellsFrom (s.heap.objs.size+1) scope.names []).lookup y.1).isSome=true):=λ⟨n,v⟩ hy=>by
  rcases S.par n (yun hy).1 with q|q
  ·exact .inl q
  ·exact .inr ⟨q,yjn _ _ _ (.inl q)⟩
 refine codeAny_call_function hr.depth (KX _ _ lk) rfl S.co S.gen rfl (PySem.W.codeRec_of KX hcd) (hb _ _ _ _ ?_);refine wpAny_newFunctionEnv_cells S.kind hkind λenv he s1 x=>?_;subst he;refine⟨lim.keeps x.toInCall.keep,codeAny_func ?_⟩;obtain⟨t,ht,hq⟩:=hbody A outer s H vs Q E (hr.deeper _) hsp;have I:Inv (cxOf CX P w K mg base N qual scope f cdv A outer s H E) [] (start N vs) H s1:=zjkb S hr.hd e0 hl r x;refine yne (ht [] s1 (start N vs) H _ I hq) (λfl s' hs=>?_) λe s' hs=>hs;have fin:∀{σ':St} {H':Hp} {v:V} {u:Value},Inv (cxOf CX P w K mg base N qual scope f cdv A outer s H E) [] σ' H' s'->RelV v u->Q v H'->CE outer P w H s Q u s' :=
  λ{σ' H' v u} J rv q=>⟨v,H',J.os,J.bare,J.base,J.hok,rv,q⟩
 cases fl with
 | ret u =>
  obtain⟨v,σ',H',J,rv,q⟩:=hs;exact fin J rv q
 | next =>
  obtain⟨σ',H',J,q⟩:=hs;exact fin (v:=V.non) (u:=Value.none) J rfl q
 | brk =>
  obtain⟨_,_,_,q⟩:=hs;exact ytf q
 | cont =>
  obtain⟨_,_,_,q⟩:=hs;exact ytf q
end L2
namespace L2
open PySem PySem.Spec PyProof.Rows
section
variable {X:Cx}{x:Str}{p pos:Pos}{e:Expr}{es:List Expr}{t:TA}{id T:String}{r:List V->Hp->VK->Prop}
def tCB (r:List V->Hp->VK->Prop)(t:TA):TE:=fun σ H Q=>t σ H λvs H1=>r vs H1 Q
theorem zza (hc:zqg X (.builtin id) r)(hg:Gl X x)(hm:X.mg x=none)(hv:ykh x=some (.builtin id))(ha:PA X (e::es) t)(hn:x ≠ "__name__":=by decide)(hdb:(x==("__debug__":Str))=false:=by decide)
  (he:yxc (e::es) X.env=(false,eval e X.env)::yxc es X.env:=by rfl) (hpl:(backTo pos (yxc es X.env)).any (·.1)=false:=by rfl):PE X (.Call (.Name x p) (e::es) [] pos) (tCB r t):=by
 intro pins s σ H Q I h;refine yih (zir I hg hm hv ?_ hn hdb);exact PyProof.Rows.callWith_builtin1 (thn (ha pos pins s σ H _ I h) λus s1 ⟨vs,H1,I1,r1,q1⟩=>hc pins s1 σ H1 vs us Q I1 r1 q1) he hpl
theorem zya (hc:zqg X (.type T) r)(hg:Gl X x)(hm:X.mg x=none)(hv:ykh x=some (.type T))(ha:PA X (e::es) t)(hn:x ≠ "__name__":=by decide)(hdb:(x==("__debug__":Str))=false:=by decide)
  (he:yxc (e::es) X.env=(false,eval e X.env)::yxc es X.env:=by rfl) (hpl:(backTo pos (yxc es X.env)).any (·.1)=false:=by rfl):PE X (.Call (.Name x p) (e::es) [] pos) (tCB r t):=by
 intro pins s σ H Q I h;refine yih (zir I hg hm hv ?_ hn hdb);exact yod (thn (ha pos pins s σ H _ I h) λus s1 ⟨vs,H1,I1,r1,q1⟩=>hc pins s1 σ H1 vs us Q I1 r1 q1) he hpl
end
end L2
namespace HT
open PySem PyProof.Rows
section
open PySem.SeqAt
open PySem.AutoSeq1 (wpAny_loadPart')
open PySem.MeetsSeq PySem.MeetsSeq2 PySem.MeetsSeq3
end
section
variable {prog:yvb}{w:World}{A:Around}{E:Value->Shared->Prop}{s:Shared}
theorem zsrb {t b:Addr}{vs ws:List Value}{Q:Value->Shared->Prop}(ht:IsTup s.heap t vs.toArray)(hb:IsTup s.heap b ws.toArray)(hv:vs≠[])
  (h1:ws=[]->Q (.ref t) s) (h2:ws≠[]->Q (.ref s.heap.objs.size) { s with heap:=s.heap.push { cls:=.type "tuple",data:=.seq (vs++ws).toArray } })
  (hsz:vs.length+ws.length≤ywa):wpAny (model prog w) A (yhh .Add (.ref t) (.ref b)) Q E s:=by
 obtain⟨⟨cls,dd,data,sl⟩,ho,hc,n,hd⟩:=id ht;obtain⟨⟨cls2,dd2,data2,sl2⟩,ho2,hc2,n2,hd2⟩:=id hb;simp only at hc hd hc2 hd2;subst hc hd hc2 hd2;have e:vs.toArray++ws.toArray=(vs++ws).toArray:=by simp
 by_cases hw:ws=[]
 ·exact yvn ⟨_,ho,rfl⟩ ⟨_,ho2,rfl⟩ ybk ysm ygh yxg (ygg _ _)
   (tuple_addW1 t b vs.toArray ws.toArray n n2 dd dd2 sl sl2 (by simpa using hv) (by simp[hw])) ⟨ho,ho2,h1 hw⟩
 ·refine yvn ⟨_,ho,rfl⟩ ⟨_,ho2,rfl⟩ ybk ysm ygh yxg (ygg _ _)
   (tuple_addW2 t b vs.toArray ws.toArray n n2 dd dd2 sl sl2 (by simpa using hv) (by simpa using hw) (by rw[yoa,yoa];exact hsz)) ⟨ho,ho2,?_⟩
  rw[e];exact h2 hw
def sIx (n d:Nat):Option Int->Nat
 | none=>d
 | some v=>if v<0 then (v+(n:Int)).toNat else min v.toNat n
theorem zgfb (n d:Nat):sIx n d none=d:=rfl
theorem zbt (n d k:Nat):sIx n d (some (k:Int))=min k n:=by
 show (if (k:Int)<0 then ((k:Int)+(n:Int)).toNat else min (k:Int).toNat n)=min k n
 rw[if_neg (by omega),yxb]
theorem zzsb (n d:Nat)(hd:d≤n)(o:Option Int):sIx n d o≤n:=by
 cases o with
 | none=>exact hd
 | some v =>
  show (if v<0 then (v+(n:Int)).toNat else min v.toNat n)≤n
  by_cases hv:v<0
  ·rw[if_pos hv];omega
  ·rw[if_neg hv];exact Nat.min_le_right _ _
theorem zilb (v:Int)(n d:Nat):(if v<0 then max (v+(n:Int)) 0 else min v (n:Int))=((sIx n d (some v):Nat):Int):=by
 show (if v<0 then max (v+(n:Int)) 0 else min v (n:Int))=(((if v<0 then (v+(n:Int)).toNat else min v.toNat n):Nat):Int)
 by_cases hv:v<0
 ·simp only[if_pos hv];omega
 ·simp only[if_neg hv];omega
theorem zwhb (lo hi:Option Int)(n:Nat):yyh lo hi 1 (n:Int)=(((sIx n 0 lo:Nat):Int),((sIx n n hi:Nat):Int)):=by
 have h1:¬ ((1:Int)<0):=by omega
 unfold yyh;simp only[h1,if_false];refine Prod.ext ?_ ?_
 ·cases lo with
  | none=>rfl
  | some v=>exact zilb v n 0
 ·cases hi with
  | none=>rfl
  | some v=>exact zilb v n n
theorem zdhb (i j:Nat):ycg (i:Int) (j:Int) 1=j-i:=by
 unfold ycg;have h1:(1:Int)>0:=by omega
 simp only[h1,if_true,Int.ediv_one]
 split<;>omega
theorem zlv {v:Value}{o:Option Int}{Q:Option Int->Shared->Prop}(p:IsPart v o)(h:Q o s):wpAny (model prog w) A (yhf.Slice.slicePartIndex v) Q E s:=by
 cases p with
 | none=>exact slicePart_none h
 | int i t=>exact slicePart_int h
theorem znk {sl:Addr}{vl vu:Value}{lo hi:Option Int}{n:Nat}{Q:Int×Int×Nat->Shared->Prop}(hs:s.heap.IsSliceOf sl vl vu .none)(pl:IsPart vl lo)(pu:IsPart vu hi)
  (h:Q (((sIx n 0 lo:Nat):Int),1,sIx n n hi-sIx n 0 lo) s):wpAny (model prog w) A (yfl (.ref sl) (pure (n:Int))) Q E s:=by
 obtain⟨os,hos,hcs,hds⟩:=id hs;unfold yfl yhf.Slice.sliceFields;refine yaa (yaa (wpAny_field hos hds (x:=vl) rfl (yaa (wpAny_field hos hds (x:=vu) rfl (yaa (wpAny_field hos hds (x:=.none) rfl (yfa ?_)))))));refine yaa (slicePart_none ?_);show wpAny _ _ (if ((1:Int)==0)=true then _ else _) _ _ s
 rw[if_neg (by decide)];refine yaa (zlv pl (yaa (zlv pu (yaa (yfa ?_)))));show wpAny _ _ (match yyh lo hi 1 (n:Int) with|(lo,hi)=>pure (lo,(1:Int),ycg lo hi 1)) _ _ s
 rw[zwhb lo hi n];show wpAny _ _ (pure (((sIx n 0 lo:Nat):Int),(1:Int),ycg ((sIx n 0 lo:Nat):Int) ((sIx n n hi:Nat):Int) 1)) _ _ s
 rw[zdhb];exact yfa h
theorem zzmb (xs:Array Value)(i k:Nat):((ypb k).filterMap λ(m:Nat)=>xs[((i:Int)+(m:Int)*1).toNat]?).toArray=((xs.toList.drop i).take k).toArray:=by
 have e:(λ(m:Nat)=>xs[((i:Int)+(m:Int)*1).toNat]?)=λm=>xs[i+m]?:=by
  funext m
  have:((i:Int)+(m:Int)*1).toNat=i+m:=by omega
  rw[this]
 rw[e];have:=pick_run xs i k;rw[yip] at this;have e2:((λx=>xs[x]?)∘λx=>i+x)=λm=>xs[i+m]?:=rfl;rw[e2] at this;rw[this]
theorem zzp {t sl:Addr}{items:Array Value}{vl vu:Value}{lo hi:Option Int}{Q:Value->Shared->Prop}(ht:IsTup s.heap t items)(hs:s.heap.IsSliceOf sl vl vu .none)(pl:IsPart vl lo)(pu:IsPart vu hi)
  (hw:¬ (sIx items.size 0 lo=0∧sIx items.size items.size hi=items.size))
  (h:Q (.ref s.heap.objs.size) { s with heap:=s.heap.push { cls:=.type "tuple",data:=.seq ((items.toList.drop (sIx items.size 0 lo)).take (sIx items.size items.size hi-sIx items.size 0 lo)).toArray } })
  (hsz:items.size≤ywa):wpAny (model prog w) A (ywn (.ref t) (.ref sl)) Q E s:=by
 have htake:sizeOk (.seq ((items.toList.drop (sIx items.size 0 lo)).take (sIx items.size items.size hi-sIx items.size 0 lo)).toArray):=by
  show ((items.toList.drop (sIx items.size 0 lo)).take (sIx items.size items.size hi-sIx items.size 0 lo)).toArray.size≤ywa
  rw[yoa,ygb,yje,ypa];omega
 have hj:sIx items.size items.size hi≤items.size:=zzsb _ _ (yga _) hi;obtain⟨os,hos,hcs,hds⟩:=id hs;have hTs:s.TypeIs (.ref sl) "slice":=⟨os,hos,hcs⟩;unfold ywn
 try with_reducible refine ykc ?_
 first|refine yaa (yfa ?_)|skip
 refine yaa (ylj ht.typeIs (by decide) ?_);refine yaa (yze (name:=yli "__getitem__") ht.typeIs ybd
  (ysd ybd ht.typeIs entry_tuple_getitem ?_ (args_tuple_getitem _ _)))
 show wpAny _ _ (ygl (.ref t) >>= _) _ _ s
 refine yaa (tupleItemsOf_ ht ?_);refine yaa (ymi hTs ?_);rw[if_pos (by decide)];refine yaa (znk hs pl pu ?_);have hno:¬ ((((sIx items.size 0 lo:Nat):Int)==0&&(1:Int)==1&&(sIx items.size items.size hi-sIx items.size 0 lo)==items.size)=true):=by
  intro q;rw[ytc,ytc] at q;have q1:((sIx items.size 0 lo:Nat):Int)=0:=eq_of_beq q.1.1;have q2:sIx items.size items.size hi-sIx items.size 0 lo=items.size:=eq_of_beq q.2;exact hw ⟨by omega,by omega⟩
 show wpAny _ _ (if (((sIx items.size 0 lo:Nat):Int)==0&&(1:Int)==1&&(sIx items.size items.size hi-sIx items.size 0 lo)==items.size)=true then _ else _) _ _ s
 rw[if_neg hno,zzmb]
 first
  | exact yaa (m:=yhg _) (ycd (yfa ⟨_,rfl,yfa h⟩) htake)
  | exact yaa (m:=yhg _) (ycd (yaa (yfa (yfa ⟨_,rfl,yfa h⟩))) htake)
  | exact yaa (yaa (m:=yhg _) (ycd (yfa (yfa ⟨_,rfl,yfa h⟩)) htake))
  | exact yaa (yaa (m:=yhg _) (ycd (yfa ⟨_,rfl,yfa h⟩) htake))
end
end HT
namespace L2
open PySem PySem.Spec PyProof.Rows
abbrev TO:=St->Hp->(Option Int->Hp->Prop)->Prop
def PO (X:Cx)(e:Option Expr)(t:TO):Prop :=
 ∀(pins:List (Addr×Obj)) (s:Shared) (σ:St) (H:Hp) (Q:Option Int->Hp->Prop),Inv X pins σ H s->t σ H Q →
  wpAny (model X.prog X.w) X.A (evalPart e X.env) (λu s'=>Ex2 λo H'=>Inv X pins σ H' s'∧IsPart u o∧Q o H') X.xe s
def znpb:TO:=λ_ H Q=>Q none H
def zavb (t:TE):TO:=fun σ H Q=>t σ H λx H1=>∃i,x = .int i∧Q (some i) H1
section
variable {X:Cx}{e:Expr}{te:TE}{lo hi:Option Expr}{tl th:TO}{pos p2:Pos}
theorem zqe:PO X none znpb:=by
 intro pins s σ H Q I h;rw[evalPart_none];exact yfa ⟨none,H,I,.none,h⟩
theorem zpe (h:PE X e te):PO X (some e) (zavb te):=by
 intro pins s σ H Q I hw;rw[evalPart_some];refine thn (h pins s σ H _ I hw) λu s1 ⟨x,H1,I1,r1,q1⟩=>?_;obtain⟨i,rfl,q⟩:=q1;obtain⟨t,rfl⟩:=r1;exact⟨some i,H1,I1,.int i t,q⟩
def SlR (X:Cx)(r:V->Option Int->Option Int->Hp->VK->Prop):Prop :=
 ∀(pins:List (Addr×Obj)) (s:Shared) (σ:St) (H:Hp) (x:V) (v vl vu:Value) (lo hi:Option Int) (sl:Addr) (Q:VK),Inv X pins σ H s->RelV x v->s.heap.IsSliceOf sl vl vu .none->IsPart vl lo->IsPart vu hi->r x lo hi H Q →
  Ex2 λT id=>typeLookup (.type T) "__getitem__" = pure (some (.builtin id))∧s.TypeIs v T∧wpAny (model X.prog X.w) X.A (ywn v (.ref sl)) (EP X pins σ Q) X.xe s
def tSl (r:V->Option Int->Option Int->Hp->VK->Prop)(te:TE)(tl th:TO):TE:=fun σ H Q=>te σ H λx H1=>tl σ H1 λl H2=>th σ H2 λu H3=>r x l u H3 Q
theorem zcd {r:V->Option Int->Option Int->Hp->VK->Prop}(hr:SlR X r)(he:PE X e te)(hl:PO X lo tl)(hu:PO X hi th):PE X (.Subscript e (.Slice lo hi none p2) pos) (tSl r te tl th):=by
 intro pins s σ H Q I h;refine Subscript_ (thn (he pins s σ H _ I h) λv s1 ⟨x,H1,I1,r1,q1⟩=>?_);refine wpAny_Slice (thn (hl pins s1 σ H1 _ I1 q1) λvl s2 ⟨l,H2,I2,pl,q2⟩=>thn (hu pins s2 σ H2 _ I2 q2) λvu s3 ⟨u,H3,I3,pu,q3⟩=>?_);rw[evalPart_none];refine yfa ?_;have I4:Inv X pins σ H3 { s3 with heap:=s3.heap.push { cls:=.type "slice",data:=.fields #[vl,vu,.none] } }:=I3.kept (t':=s3.toks) λb ob q=>yca _ q;obtain⟨T,id,hT,ht,hg⟩:=hr pins { s3 with heap:=s3.heap.push { cls:=.type "slice",data:=.fields #[vl,vu,.none] } } σ H3 x v vl vu l u s3.heap.objs.size Q I4 r1 (Heap.IsSliceOf.new ..) pl pu q3;show wpAny (model X.prog X.w) X.A (subscriptTail e (.Slice lo hi none p2) v (.ref s3.heap.objs.size)) (EP X pins σ Q) X.xe { s3 with heap:=s3.heap.push { cls:=.type "slice",data:=.fields #[vl,vu,.none] } }
 exact tail_any (ops:=[.ref s3.heap.objs.size,v]) ht hT hg (by with_unfolding_all rfl)
def cutV (xs:List V)(lo hi:Option Int):List V:=(xs.drop (HT.sIx xs.length 0 lo)).take (HT.sIx xs.length xs.length hi-HT.sIx xs.length 0 lo)
theorem zcu (xs:List V)(lo hi:Option Int):(cutV xs lo hi).length≤xs.length:=by
 unfold cutV;rw[ygb,yje];omega
def rSlT (K:yda):V->Option Int->Option Int->Hp->VK->Prop:=λx lo hi H Q=>Ex2 λa xs=>x = .ref a∧SqT K H a xs ∧
 ¬ (HT.sIx xs.length 0 lo=0∧HT.sIx xs.length xs.length hi=xs.length)∧∀p,H p=none->Q (.ref p) (upd H p (.tup (cutV xs lo hi)))
theorem zqq:SlR X (rSlT X.K):=by
 intro pins s σ H x v vl vu lo hi sl Q I rx hs pl pu h;obtain⟨a,xs,rfl,hx,hw,q⟩:=h;cases rx;obtain⟨its,r,ht,hz⟩:=I.tuple hx;have hlen:its.toArray.size=xs.length:=by rw[yoa];exact r.length.symm
 refine⟨"tuple",_,ybd.lookup,ht.typeIs,?_⟩;refine HT.zzp ht hs pl pu (by rw[hlen];exact hw) ?_ (by rw[hlen];exact hz);rw[hlen];refine⟨.ref s.heap.objs.size,_,I.laid (t':=s.toks) (o:=.tup (cutV xs lo hi)) (λb ob q=>yca _ q) (yga _) ?_,rfl,q _ (I.hok.fresh (yga _))⟩;exact⟨ymb (zcu xs lo hi) hz,_,(r.drop (HT.sIx xs.length 0 lo)).take (HT.sIx xs.length xs.length hi-HT.sIx xs.length 0 lo),ywq _ _⟩
def zsvb (K:yda):R2:=λx y H Q=>Ex4 λa b xs ys=>x = .ref a∧y = .ref b∧SqT K H a xs∧SqT K H b ys∧xs≠[]∧xs.length+ys.length≤ywa ∧
 (ys=[]->Q (.ref a) H)∧(ys≠[]->∀p,H p=none->Q (.ref p) (upd H p (.tup (xs++ys))))
theorem Vals.znx {xs:List V}{us:List Value}(r:Vals xs us):us=[]↔xs=[]:=by
 cases r with
 | nil=>simp
 | cons _ _=>simp
theorem zvm:OpR X (yhh .Add) (zsvb X.K):=by
 intro pins s σ H x y v u Q I rx ry h;obtain⟨a,b,xs,ys,rfl,rfl,ha,hb,hx,hz,q1,q2⟩:=h;cases rx;cases ry;obtain⟨its,r1,p1,_⟩:=I.tuple ha;obtain⟨its2,r2,p2,_⟩:=I.tuple hb;refine HT.zsrb p1 p2 (λz=>hx (r1.znx.mp z)) (λz=>⟨.ref a,H,I,rfl,q1 (r2.znx.mp z)⟩) (λz=>?_) (by rw[← r1.length,← r2.length];exact hz);refine⟨.ref s.heap.objs.size,_,I.laid (t':=s.toks) (o:=.tup (xs++ys)) (λb ob q=>yca _ q) (yga _) ?_,rfl,q2 (λw=>z (r2.znx.mpr w)) _ (I.hok.fresh (yga _))⟩;exact⟨by rw[yea];exact hz,_,r1.append r2,ywq _ _⟩
end
end L2
namespace L2
open PySem PySem.Spec PyProof.Rows
def ixN (n:Nat)(i:Int):Option Nat:=if 0≤i then (if i<n then some i.toNat else none) else if -(n:Int)≤i then some (i+n).toNat else none
def atI {α:Type}(xs:List α)(i:Int):Option α:=(ixN xs.length i).bind λj=>xs[j]?
theorem zgkb {n:Nat}{i:Int}{j:Nat}(h:ixN n i=some j):yxq i n=some j∧j<n ∧ -(n:Int)≤i∧i<n:=by
 unfold ixN at h
 by_cases h0:0≤i
 ·rw[if_pos h0] at h
  by_cases h1:i<n
  ·rw[if_pos h1] at h;have e:i.toNat=j:=yjc h;exact⟨by rw[seqIndex_of h0 h1,e],by omega,by omega,h1⟩
  ·rw[if_neg h1] at h;cases h
 ·rw[if_neg h0] at h
  by_cases h1:-(n:Int)≤i
  ·rw[if_pos h1] at h;have e:(i+n).toNat=j:=yjc h;exact⟨by rw[seqIndex_neg (by omega) h1,e],by omega,h1,by omega⟩
  ·rw[if_neg h1] at h;cases h
theorem zdeb {α:Type}{xs:List α}{i:Int}{v:α}(h:atI xs i=some v):∃j,yxq i xs.length=some j∧xs[j]?=some v∧j<xs.length ∧ -(xs.length:Int)≤i∧i<xs.length:=by
 unfold atI at h;cases e:ixN xs.length i with
 | none=>rw[e] at h;cases h
 | some j =>
  rw[e] at h;obtain⟨h1,h2,h3,h4⟩:=zgkb e;exact⟨j,h1,h,h2,h3,h4⟩
theorem zra {α:Type}{xs:List α}{j:Nat}{v:α}(h:xs[j]?=some v):atI xs (j:Int)=some v:=by
 have hj:j<xs.length:=(ysa.mp h).1;have e:ixN xs.length (j:Int)=some j:=by
  unfold ixN;rw[if_pos (by omega),if_pos (by omega)];simp
 unfold atI;rw[e];exact h
def zdsb (b:Expr):Prop:=∀o i,subscripted b false o i=operate [o,i] (ywn o i)
def IxR (X:Cx)(r:R2):Prop :=
 ∀(value slice:Expr) (pins:List (Addr×Obj)) (s:Shared) (σ:St) (H:Hp) (x y:V) (v u:Value) (Q:VK),Inv X pins σ H s->RelV x v->RelV y u->r x y H Q →
  subscripted slice false v u=operate [v,u] (ywn v u)->wpAny (model X.prog X.w) X.A (subscriptTail value slice v u) (EP X pins σ Q) X.xe s
def MtR (X:Cx)(id:String)(r:V->List V->Hp->VK->Prop):Prop :=
 ∀(pins:List (Addr×Obj)) (s:Shared) (σ:St) (H:Hp) (x:V) (xs:List V) (v:Value) (us:List Value) (Q:VK),Inv X pins σ H s->RelV x v->Vals xs us->r x xs H Q →
  wpAny (model X.prog X.w) X.A (call (.builtin id) (v::us)) (EP X pins σ Q) X.xe s
section
variable {X:Cx}{a b:Expr}{ta tb:TE}{pos:Pos}
theorem zbb {r:R2}(hr:IxR X r)(ha:PE X a ta)(hb:PE X b tb)(hs:zdsb b):PE X (.Subscript a b pos) (tOp r ta tb):=by
 intro pins s σ H Q I h;exact Subscript_ (binT ha hb I h λv u s2 x y H2 I2 rx ry q=>hr a b pins s2 σ H2 x y v u Q I2 rx ry q (hs _ _))
def rIxL (K:yda):R2:=λx y H Q=>Ex4 λp xs i v=>x = .ref p∧y = .int i∧SqL K H p xs∧atI xs i=some v∧Q v H
def rIxT (K:yda):R2:=λx y H Q=>Ex4 λp xs i v=>x = .ref p∧y = .int i∧SqT K H p xs∧atI xs i=some v∧Q v H
def rIxS:R2:=λx y H Q=>Ex3 λz i c=>x = .str z∧y = .int i∧z.length≤ywa∧atI z.cps.toList i=some c∧Q (.str ⟨#[c]⟩) H
theorem znc:IxR X (rIxL X.K):=by
 intro value slice pins s σ H x y v u Q I rx ry h hs;obtain⟨p,xs,i,z,rfl,rfl,hq,he,q⟩:=h;cases rx;obtain⟨t,rfl⟩:=ry;obtain⟨its,r,pl,hz⟩:=I.list hq;obtain⟨j,h1,h2,h3,h4,h5⟩:=zdeb he;obtain⟨w,ew,rw'⟩:=r.get h2;have hl:=r.length;have hn:=zyv;have fin:EP X pins σ Q w s:=⟨z,H,I,rw',q⟩
 by_cases h0:0≤i
 ·have hj:i.toNat=j:=by
   rw[seqIndex_of h0 h5] at h1;exact yjc h1
  exact item_listR pl.isList h0 (by omega) (by rw[hj];simpa using ew) fin hs
 ·have hj:(i+(its.toArray.size:Int)).toNat=j:=by
   rw[seqIndex_neg (by omega) h4] at h1;rw[yoa,← hl];exact yjc h1
  exact yaj (x:=w) pl.isList.typeIs slot_list_getitem.lookup
   (wpAny_getItem_list_neg (Q:=λr s'=>r=w∧EP X pins σ Q r s') pl.isList (by omega) (by rw[yoa]<;>omega) (by omega) (by rw[hj];simpa using ew) ⟨rfl,fin⟩) hs
theorem zab:IxR X (rIxT X.K):=by
 intro value slice pins s σ H x y v u Q I rx ry h hs;obtain⟨p,xs,i,z,rfl,rfl,hq,he,q⟩:=h;cases rx;obtain⟨t,rfl⟩:=ry;obtain⟨its,r,pl,hz⟩:=I.tuple hq;obtain⟨j,h1,h2,h3,h4,h5⟩:=zdeb he;obtain⟨w,ew,rw'⟩:=r.get h2;have hl:=r.length;have hn:=zyv;have fin:EP X pins σ Q w s:=⟨z,H,I,rw',q⟩;exact yaj (x:=w) pl.typeIs slot_tuple_getitem.lookup
  (getItem_tuple (j:=j) (Q:=λr s'=>r=w∧EP X pins σ Q r s') pl (by omega) (by omega) (by rw[yoa,← hl];exact h1) (by simpa using ew) ⟨rfl,fin⟩) hs
theorem zfkb:IxR X rIxS:=by
 intro value slice pins s σ H x y v u Q I rx ry h hs;obtain⟨z,i,c,rfl,rfl,hz,he,q⟩:=h;obtain⟨t,rfl⟩:=rx;obtain⟨t',rfl⟩:=ry;obtain⟨j,h1,h2,h3,h4,h5⟩:=zdeb he;have hl:z.cps.toList.length=z.length:=by simp[yfr]
 rw[hl] at h1 h4 h5;have hn:=zyv;exact tail_any (ycm s z t) slot_str_getitem.lookup (getItem_str (c:=c) (by
  have e1:decide (i < -(2 ^ 63:Int))=false:=decide_eq_false (by omega);have e2:decide (i≥2 ^ 63)=false:=decide_eq_false (by omega);rw[e1,e2,ytm]) (by rw[h1];simpa using h2) ⟨.str ⟨#[c]⟩,H,I.tok _,⟨_,rfl⟩,q⟩) hs
theorem zjhb (its:List Value)(n j:Nat)(u:Value):ytd (·.setIfInBounds j u) { cls:=.type "list",data:=.seq its.toArray n }={ cls:=.type "list",data:=.seq (its.set j u).toArray n }:=by
 simp[ytd]
theorem Inv.lst {pins:List (Addr×Obj)}{σ:St}{H:Hp}{s:Shared}{p:Addr}{xs:List V}(I:Inv X pins σ H s)(h:H p=some (.lst xs)) :
  Ex2 λ(its:List Value) (n:Nat)=>Vals xs its∧s.heap.get? p=some { cls:=.type "list",data:=.seq its.toArray n }∧xs.length≤ywa:=by
 obtain⟨z,its,n,r,e⟩:=I.hok p _ h;exact⟨its,n,r,e,z⟩
theorem Inv.zvtb {pins:List (Addr×Obj)}{σ:St}{H:Hp}{s:Shared}{p:Addr}{xs ys:List V}{its its':List Value}{n n':Nat}{f:Obj->Obj}(I:Inv X pins σ H s)(h:H p=some (.lst xs))
  (ho:s.heap.get? p=some { cls:=.type "list",data:=.seq its.toArray n }) (hf:f { cls:=.type "list",data:=.seq its.toArray n }={ cls:=.type "list",data:=.seq its'.toArray n' }) (r:Vals ys its') (hz:ys.length≤ywa) (t:Nat) :
  Inv X pins σ (upd H p (.lst ys)) { s with heap:=s.heap.update p f,toks:=t }:=by
 have e:(s.heap.update p f).get? p=some { cls:=.type "list",data:=.seq its'.toArray n' }:=by
  rw[ymc f ho (by rw[hf]<;>rfl),hf]
 refine I.write (x:=p) (e:=p) (by rw[h];trivial) (.inl rfl) (λb u hb q=>(ysb _ _ (ywc hb)).trans q) ⟨_,e⟩ ?_;exact⟨hz,its',n',r,e⟩
def zqvb:V->V->V->Hp->(Hp->Prop)->Prop:=λo i v H Q=>Ex4 λp xs k j=>o = .ref p∧i = .int k∧H p=some (.lst xs)∧ixN xs.length k=some j∧Q (upd H p (.lst (xs.set j v)))
theorem set_list:PSet X zqvb:=by
 intro pins s σ H o i v ov iv u Q I ro ri rv h;obtain⟨p,xs,k,j,rfl,rfl,hp,hj,q⟩:=h;cases ro;obtain⟨t,rfl⟩:=ri;obtain⟨its,n,r,ho,hz⟩:=I.lst hp;obtain⟨h1,h2,h3,h4⟩:=zgkb hj;have hl:=r.length;have hn:=zyv;have I':Inv X pins σ (upd H p (.lst (xs.set j v))) { s with heap:=s.heap.update p (ytd (·.setIfInBounds j u)) } :=
  I.zvtb hp ho (zjhb its n j u) (r.set rv j) (by rw[yue];exact hz) s.toks
 by_cases h0:0≤k
 ·have hk:k.toNat=j:=by
   rw[seqIndex_of h0 h4] at h1;exact yjc h1
  exact PySem.W.ki_setAt ho h0 (by omega) (by rw[yoa,← hl];exact h4) (by rw[hk];exact⟨_,I',q⟩)
 ·have hk:(k+(its.toArray.size:Int)).toNat=j:=by
   rw[seqIndex_neg (by omega) h3] at h1;rw[yoa,← hl];exact yjc h1
  exact PySem.W.ki_setBack ho (by omega) (by rw[yoa,← hl];exact h3) (by omega) (by rw[hk];exact⟨_,I',q⟩)
theorem zjz (lo hi:Option Int)(n:Nat):(ymj lo hi none n).1=((HT.sIx n 0 lo:Nat):Int)∧(ymj lo hi none n).2.1=((HT.sIx n n hi:Nat):Int)∧(ymj lo hi none n).2.2=1:=by
 refine⟨?_,?_,rfl⟩
 ·cases lo with
  | none=>simp[ymj,HT.sIx]
  | some i =>
   simp only[ymj,HT.sIx,ynq,show (1:Int)>0 by decide,if_true]
   by_cases h:i<0
   ·simp only[h,if_true]<;>omega
   ·simp only[h,if_false]<;>omega
 ·cases hi with
  | none=>simp[ymj,HT.sIx]
  | some i =>
   simp only[ymj,HT.sIx,ynq,show (1:Int)>0 by decide,if_true]
   by_cases h:i<0
   ·simp only[h,if_true]<;>omega
   ·simp only[h,if_false]<;>omega
theorem zuw (its:List Value)(lo hi:Option Int):slicePick its.toArray lo hi none=((its.drop (HT.sIx its.length 0 lo)).take (HT.sIx its.length its.length hi-HT.sIx its.length 0 lo)).toArray:=by
 obtain⟨h1,h2,h3⟩:=zjz lo hi its.toArray.size;unfold slicePick;rw[h1,h2,h3];simp only[yto,pick_run,yoa]<;>rfl
def rSlL (K:yda):V->Option Int->Option Int->Hp->VK->Prop:=λx lo hi H Q=>Ex2 λa xs=>x = .ref a∧SqL K H a xs∧∀p,H p=none->Q (.ref p) (upd H p (.lst (cutV xs lo hi)))
theorem ztcb:SlR X (rSlL X.K):=by
 intro pins s σ H x v vl vu lo hi sl Q I rx hs pl pu h;obtain⟨a,xs,rfl,hx,q⟩:=h;cases rx;obtain⟨its,r,ht,hz⟩:=I.list hx;have hlen:=r.length;refine⟨"list",_,slot_list_getitem.lookup,ht.isList.typeIs,?_⟩;refine wpAny_getItem_list_slice ht.isList hs pl pu .none (by simp) ?_ (by rw[yoa]<;>omega);rw[zuw,← hlen];refine⟨.ref s.heap.objs.size,_,I.laid (t':=s.toks) (o:=.lst (cutV xs lo hi)) (λb ob q=>yca _ q) (yga _) ?_,rfl,q _ (I.hok.fresh (yga _))⟩;exact⟨ymb (zcu xs lo hi) hz,_,0,(r.drop (HT.sIx xs.length 0 lo)).take (HT.sIx xs.length xs.length hi-HT.sIx xs.length 0 lo),yha _ rfl⟩
def zzu:V->Bool
 | .non=>true
 | .bl _=>true
 | .int _=>true
 | .str _=>true
 | _=>false
def eqV:V->V->Bool
 | .non,.non=>true
 | .bl a,.bl b=>a==b
 | .bl a,.int b=>(if a then 1 else 0)==b
 | .int a,.bl b=>a==(if b then 1 else 0)
 | .int a,.int b=>a==b
 | .str a,.str b=>a==b
 | _,_=>false
theorem zrub {A:Around}{s:Shared}{y x:V}{u v:Value}(ry:RelV y u)(rx:RelV x v)(fy:zzu y=true)(fx:zzu x=true):ype A s u v (eqV y x):=by
 cases y with
 | non =>
  cases ry;cases x with
  | non=>cases rx;exact ype.same _
  | bl b=>cases rx;exact ype.none_bool b
  | int b=>obtain⟨t,rfl⟩:=rx;exact ype.none_int b t
  | str b=>obtain⟨t,rfl⟩:=rx;exact ype.none_str b t
  | _=>exact absurd (show false=true from fx) yeb
 | bl a =>
  cases ry;cases x with
  | non=>cases rx;exact ype.bool_none a
  | bl b=>cases rx;exact ype.bool_bool a b
  | int b=>obtain⟨t,rfl⟩:=rx;exact ype.bool_int a b t
  | str b=>obtain⟨t,rfl⟩:=rx;exact ype.bool_str a b t
  | _=>exact absurd (show false=true from fx) yeb
 | int a =>
  obtain⟨t',rfl⟩:=ry;cases x with
  | non=>cases rx;exact ype.int_none a t'
  | bl b=>cases rx;exact ype.int_bool a t' b
  | int b=>obtain⟨t,rfl⟩:=rx;exact ype.int_int a t' b t
  | str b=>obtain⟨t,rfl⟩:=rx;exact ycp a t' b t
  | _=>exact absurd (show false=true from fx) yeb
 | str a =>
  obtain⟨t',rfl⟩:=ry;cases x with
  | non=>cases rx;exact ype.str_none a t'
  | bl b=>cases rx;exact ype.str_bool a t' b
  | int b=>obtain⟨t,rfl⟩:=rx;exact ydp a t' b t
  | str b=>obtain⟨t,rfl⟩:=rx;exact ype.str_str a t' b t
  | _=>exact absurd (show false=true from fx) yeb
 | _=>exact absurd (show false=true from fy) yeb
def eqU (x:V)(u:Value):Bool:=match u with
 | .none=>eqV .non x
 | .bool b=>eqV (.bl b) x
 | .int i _=>eqV (.int i) x
 | .str z _=>eqV (.str z) x
 | _=>false
theorem zyob {x y:V}{u:Value}(r:RelV y u)(f:zzu y=true):eqU x u=eqV y x:=by
 cases y with
 | non=>cases r;rfl
 | bl b=>cases r;rfl
 | int i=>obtain⟨t,rfl⟩:=r;rfl
 | str z=>obtain⟨t,rfl⟩:=r;rfl
 | _=>exact absurd (show false=true from f) yeb
theorem zju {x:V}:∀{xs:List V} {us:List Value},Vals xs us->xs.all zzu=true->us.any (eqU x)=xs.any λy=>eqV y x
 | _,_,.nil,_=>rfl
 | y::xs,u::us,.cons r t,f=>by
  rw[List.all_cons,ytc] at f;rw[yjp,yjp,zyob r f.1,zju t f.2]
theorem zvo {A:Around}{s:Shared}{x:V}{v:Value}(rx:RelV x v)(fx:zzu x=true):∀{xs:List V} {us:List Value},Vals xs us->xs.all zzu=true->∀u∈us,ype A s u v (eqU x u)
 | _,_,.nil,_=>λu hu=>by cases hu
 | y::xs,u::us,.cons r t,f=>λu' hu=>by
  rw[List.all_cons,ytc] at f
  rcases yka.mp hu with rfl|hu
  ·rw[zyob r f.1];exact zrub r rx f.1 fx
  ·exact zvo rx fx t f.2 u' hu
def inV (x:V)(xs:List V):Bool:=xs.any λy=>eqV y x
def rIn (K:yda)(neg:Bool):R2:=λx y H Q=>Ex2 λp xs=>y = .ref p∧(SqL K H p xs∨SqT K H p xs)∧zzu x=true∧xs.all zzu=true∧Q (.bl (if neg then !inV x xs else inV x xs)) H
theorem zte:OpR X (yte .In) (rIn X.K false):=by
 intro pins s σ H x y v u Q I rx ry h;obtain⟨p,xs,rfl,hq,fx,fs,q⟩:=h;cases ry
 rcases hq with hq|hq
 ·obtain⟨its,r,pl,hz⟩:=I.list hq;refine SeqAt.in_listAt (eqU x) pl.isList (λw hw=>zvo rx fx r fs w (by simpa using hw)) ⟨.bl _,H,I,rfl,?_⟩;rw[show its.toArray.any (eqU x)=its.any (eqU x) by simp,zju r fs];exact q
 ·obtain⟨its,r,pl,hz⟩:=I.tuple hq;refine SeqAt.in_tupleAt (eqU x) pl (λw hw=>zvo rx fx r fs w (by simpa using hw)) ⟨.bl _,H,I,rfl,?_⟩;rw[show its.toArray.any (eqU x)=its.any (eqU x) by simp,zju r fs];exact q
theorem zfr:OpR X (yte .NotIn) (rIn X.K true):=by
 intro pins s σ H x y v u Q I rx ry h;obtain⟨p,xs,rfl,hq,fx,fs,q⟩:=h;cases ry
 rcases hq with hq|hq
 ·obtain⟨its,r,pl,hz⟩:=I.list hq;refine SeqAt.notIn_listAt (eqU x) pl.isList (λw hw=>zvo rx fx r fs w (by simpa using hw)) ⟨.bl _,H,I,rfl,?_⟩;rw[show its.toArray.any (eqU x)=its.any (eqU x) by simp,zju r fs];exact q
 ·obtain⟨its,r,pl,hz⟩:=I.tuple hq;refine SeqAt.notIn_tupleAt (eqU x) pl (λw hw=>zvo rx fx r fs w (by simpa using hw)) ⟨.bl _,H,I,rfl,?_⟩;rw[show its.toArray.any (eqU x)=its.any (eqU x) by simp,zju r fs];exact q
theorem zwa:zqg X (.builtin "len") (λxs H Q=>Ex2 λp ys=>xs=[.ref p]∧(SqL X.K H p ys∨SqT X.K H p ys)∧Q (.int ys.length) H):=by
 intro pins s σ H xs us Q I r h;obtain⟨p,ys,rfl,hq,q⟩:=h;obtain⟨u,rfl,rx⟩:=vals1 r;cases rx;have hn:=zyv
 rcases hq with hq|hq
 ·obtain⟨its,r',pl,hz⟩:=I.list hq;have hlen:=r'.length;exact Calls.call_len_list pl.isList (by simp only[yoa]<;>omega) ⟨.int ys.length,H,I.tok _,⟨s.toks+1,by rw[yoa,hlen]⟩,q⟩
 ·obtain⟨its,r',pl,hz⟩:=I.tuple hq;have hlen:=r'.length;exact len_tuple pl (by simp only[yoa]<;>omega) ⟨.int ys.length,H,I.tok _,⟨s.toks+1,by rw[yoa,hlen]⟩,q⟩
theorem znl:zqg X (.builtin "len") (λxs H Q=>∃z,xs=[.str z]∧z.length≤ywa∧Q (.int z.length) H):=by
 intro pins s σ H xs us Q I r h;obtain⟨z,rfl,hz,q⟩:=h;obtain⟨u,rfl,t,rfl⟩:=vals1 r;have hn:=zyv;exact len_str (by omega) ⟨.int z.length,H,I.tok _,⟨_,rfl⟩,q⟩
theorem zxb:zqg X (.type "list") (λxs H Q=>Ex2 λp ys=>xs=[.ref p]∧(SqL X.K H p ys∨SqT X.K H p ys)∧∀l,H l=none->Q (.ref l) (upd H l (.lst ys))):=by
 intro pins s σ H xs us Q I r h;obtain⟨p,ys,rfl,hq,q⟩:=h;obtain⟨u,rfl,rx⟩:=vals1 r;cases rx;have fin:∀(its:List Value),Vals ys its->ys.length≤ywa->∀(h':Heap) (c':Nat),(∀b o',s.heap.get? b=some o'->h'.get? b=some o') →
   h'.get? s.heap.objs.size=some { cls:=.type "list",dict:=none,data:=.seq its.toArray c',slots:=#[] }->EP X pins σ Q (.ref s.heap.objs.size) { s with heap:=h' }:=λits r' hz h' c' kp e =>
  ⟨.ref s.heap.objs.size,_,I.laid (t':=s.toks) kp (yga _) (show zvj X.prog X.w _ h' _ (.lst ys) from⟨hz,its,c',r',e⟩),rfl,q _ (I.hok.fresh (yga _))⟩
 rcases hq with hq|hq
 ·obtain⟨its,r',pl,hz⟩:=I.list hq;have hlen:=r'.length;obtain⟨o,ho,hc,n,hd⟩:=pl.isList;exact call_list_seq p (.inl rfl) ho hc hd (λh' c' kp e=>fin its r' hz h' c' kp e) (by simp only[yoa]<;>omega)
 ·obtain⟨its,r',pl,hz⟩:=I.tuple hq;have hlen:=r'.length;obtain⟨o,ho,hc,n,hd⟩:=pl;exact call_list_seq p (.inr rfl) ho hc hd (λh' c' kp e=>fin its r' hz h' c' kp e) (by simp only[yoa]<;>omega)
theorem zrb:zqg X (.type "tuple") (λxs H Q=>Ex2 λp ys=>xs=[.ref p]∧((SqL X.K H p ys∧∀l,H l=none->Q (.ref l) (upd H l (.tup ys)))∨(SqT X.K H p ys∧Q (.ref p) H))):=by
 intro pins s σ H xs us Q I r h;obtain⟨p,ys,rfl,h⟩:=h;obtain⟨u,rfl,rx⟩:=vals1 r;cases rx
 rcases h with⟨hq,q⟩|⟨hq,q⟩
 ·obtain⟨its,r',pl,hz⟩:=I.list hq;have hlen:=r'.length;refine call_tuple_list pl.isList (λh' kp=>?_) (by simp only[yoa]<;>omega);have I1:Inv X pins σ H { s with heap:=h' }:=I.kept (t':=s.toks) kp;have I2:Inv X pins σ (upd H h'.objs.size (.tup ys)) { s with heap:=h'.push { cls:=.type "tuple",data:=.seq its.toArray } } :=
   I1.laid (t':=s.toks) (λb o e=>yca _ e) (yga _) (show zvj X.prog X.w _ _ _ (.tup ys) from⟨hz,its,r',ywq _ _⟩)
  exact⟨.ref h'.objs.size,_,I2,rfl,q _ (I1.hok.fresh (yga _))⟩
 ·obtain⟨its,r',pl,hz⟩:=I.tuple hq;exact call_tuple_same pl ⟨.ref p,H,I,rfl,q⟩
def tyV (K:yda)(T:String)(x:V)(H:Hp):Prop:=match x with
 | .str _=>T = "str"
 | .int _=>T = "int"
 | .ref p=>(T = "list" ∧ ∃xs,SqL K H p xs)∨(T = "tuple" ∧ ∃o,K.lookup p=some o∧o.cls = .type "tuple" ∧ o.dict=none) ∨
   (T = "dict" ∧ ((∃kvs,H p=some (.dK kvs))∨∃kvs,H p=some (.dT kvs)))∨(T = "set" ∧ Ex2 λS n=>H p=some (.set S n))
 | _=>False
theorem zgsb {pins:List (Addr×Obj)}{σ:St}{H:Hp}{s:Shared}{T:String}{x:V}{v:Value}(I:Inv X pins σ H s)(r:RelV x v)(ty:tyV X.K T x H) :
  s.TypeIs v T∧∀a,v = .ref a->∃ob,s.heap.get? a=some ob∧ob.dict=none:=by
 cases x with
 | str z =>
  obtain⟨t,rfl⟩:=r;cases (show T = "str" from ty);exact⟨ycm s z t,λ_ e=>nomatch e⟩
 | int i =>
  obtain⟨t,rfl⟩:=r;cases (show T = "int" from ty);exact⟨typeIs_int s i t,λ_ e=>nomatch e⟩
 | ref p =>
  cases r
  rcases ty with⟨rfl,xs,hq⟩|⟨rfl,o,hk,hc,hd⟩|⟨rfl,hk⟩|⟨rfl,S,n,hk⟩
  ·obtain⟨its,_,pl,_⟩:=I.list hq;refine⟨pl.isList.typeIs,λa e=>?_⟩;cases e;obtain⟨o,n,e,c,hd,_⟩:=pl;exact⟨o,e,hd⟩
  ·refine⟨⟨o,I.kIn p o hk,hc⟩,λa e=>?_⟩;cases e;exact⟨o,I.kIn _ o hk,hd⟩
  ·have z:∃o,s.heap.get? p=some o∧o.ExactDict:=by
    rcases hk with⟨kvs,hk⟩|⟨kvs,hk⟩
    ·obtain⟨_,_,_,_,o,_,_,e,ex,_⟩:=I.hok p _ hk;exact⟨o,e,ex⟩
    ·obtain⟨_,_,_,_,o,_,_,e,ex,_⟩:=I.hok p _ hk;exact⟨o,e,ex⟩
   obtain⟨o,e,ex⟩:=z;refine⟨⟨o,e,ex.1⟩,λa e2=>?_⟩;cases e2;exact⟨o,e,ex.2.1⟩
  ·obtain⟨o,_,_,_,e,ex,_⟩:=I.hok p _ hk;refine⟨⟨o,e,ex.1⟩,λa e2=>?_⟩;cases e2;exact⟨o,e,ex.2.1⟩
 | _=>exact ytf ty
def tBM (K:yda)(T:String)(r:V->List V->Hp->VK->Prop)(to:TE)(t:TA):TE:=fun σ H Q=>to σ H λx H1=>tyV K T x H1∧t σ H1 λxs H2=>r x xs H2 Q
variable {o e:Expr}{es:List Expr}{to:TE}{t:TA}{name:Str}{apos cpos:Pos}{T id:String}{r:V->List V->Hp->VK->Prop}
theorem zdi (pa:PlainAttrs T)(slot:Slot T name id)(hty:typeOf (.builtin id)=pure (.type "method_descriptor"))(hm:MtR X id r)(ho:PE X o to)(ha:PA X (e::es) t)
  (hbase:yri o name X.env (eval o X.env)=eval o X.env:=by rfl)
  (hfew:((backTo cpos (yxc (e::es) X.env)).all (λx=>!x.1)&&(ysq cpos (yrm [] X.env)).all (λx=>x.1.isSome)
   && decide ((e::es).length+([]:List ywp).length+(if ([]:List ywp).isEmpty then 0 else 1)<30))=true:=by rfl)
  (hline:(apos.endLine==cpos.line)=true:=by rfl) (hs:yxc (e::es) X.env=(false,eval e X.env)::yxc es X.env:=by rfl) (hplain:(backTo cpos (yxc es X.env)).any (·.1)=false:=by rfl) :
  PE X (.Call (.Attribute o name apos) (e::es) [] cpos) (tBM X.K T r to t):=by
 intro pins s σ H Q I h;refine wpAny_Call_method_late hbase hfew hline rfl (thn (ho pins s σ H _ I h) λv s1 ⟨x,H1,I1,r1,ty,q1⟩=>?_);obtain⟨h1,h2⟩:=zgsb I1 r1 ty;refine⟨T,id,pa,slot,hty,h1,h2,?_⟩;have hA:=ha cpos pins s1 σ H1 _ I1 q1;rw[hs] at hA ⊢;refine Calls.callWith_builtin (by show (false||(backTo cpos (yxc es X.env)).any (·.1))=false;rw[hplain]<;>rfl) (Calls.evalArgs_plain ?_);exact thn hA λus s2 ⟨vs,H2,I2,r2,q2⟩=>hm pins s2 σ H2 x vs v us Q I2 r1 r2 q2
end
end L2
namespace L2
open PySem PySem.Spec PyProof.Rows
def MtM (X:Cx)(id:String)(r:V->List V->Hp->VK->Prop):Prop :=
 ∀(pins:List (Addr×Obj)) (s:Shared) (σ:St) (H:Hp) (x:V) (xs:List V) (v:Value) (us:List Value) (Q:VK),Inv X pins σ H s->RelV x v->Vals xs us->r x xs H Q →
  wpAny (model X.prog X.w) X.A (call (.builtin id) (v::us)) (EP X pins σ Q) X.xe s
theorem Vals.one:∀{x:V} {us:List Value},Vals [x] us->∃u,us=[u]∧RelV x u
 | _,_,.cons r .nil=>⟨_,rfl,r⟩
theorem Vals.eraseIdx:∀{xs:List V} {us:List Value} (i:Nat),Vals xs us->Vals (xs.eraseIdx i) (us.eraseIdx i)
 | _,_,_,.nil=>.nil
 | _,_,0,.cons _ t=>t
 | _,_,i+1,.cons r t=>.cons r (Vals.eraseIdx i t)
theorem Vals.rep {xs:List V}{us:List Value}(h:Vals xs us):∀k:Nat,Vals (ylb k xs).flatten (ylb k us).flatten
 | 0=>.nil
 | k+1=>by
  rw[yce,yce,ybc,ybc];exact Vals.append h (Vals.rep h k)
theorem ztab {α:Type}:∀(l:List α) (i:Nat),(l.eraseIdx i).length≤l.length
 | [],_=>yga _
 | _::_,0=>yge _
 | _::r,i+1=>Nat.succ_le_succ (ztab r i)
theorem foldl_rep (its:List Value):∀(k:Nat) (acc:List Value),
  yxp (λx1 x2=>x1++x2) acc.toArray (ylb k its.toArray)=(acc++(ylb k its).flatten).toArray
 | 0,acc=>by simp
 | k+1,acc=>by
  have e:acc.toArray++its.toArray=(acc++its).toArray:=by simp
  have e2:(acc++its)++(ylb k its).flatten=acc++(ylb (k+1) its).flatten:=by
   rw[yce,ybc,ydd]
  rw[← e2,← foldl_rep its k (acc++its),← e,yce,List.foldl_cons]
section
variable {X:Cx}{pins:List (Addr×Obj)}{σ:St}{H:Hp}{s:Shared}{l b:Addr}{xs ys zs:List V}
theorem Inv.lset {its its':List Value}{n:Nat}{f:Array Value->Array Value}{t':Nat}(I:Inv X pins σ H s)(hH:H l=some (.lst xs))
  (e:s.heap.get? l=some { cls:=.type "list",data:=.seq its.toArray n }) (hf:f its.toArray=its'.toArray) (hv:Vals ys its') (hz:ys.length≤ywa) :
  Inv X pins σ (upd H l (.lst ys)) { s with heap:=s.heap.update l (ytd f),toks:=t' }:=by
 have q:=PySem.IsL.update e f;rw[hf] at q;refine I.write (x:=l) (e:=l) (by rw[hH];exact trivial) (.inl rfl) (λb' u hb hu=>(ysb s.heap (ytd f) (ywc hb)).trans hu) ⟨_,q⟩ ?_;exact⟨hz,its',_,hv,q⟩
theorem Inv.lnew {its:List Value}{t':Nat}(I:Inv X pins σ H s)(hv:Vals ys its)(hz:ys.length≤ywa) :
  Inv X pins σ (upd H s.heap.objs.size (.lst ys)) { s with heap:=s.heap.push { cls:=.type "list",data:=.seq its.toArray },toks:=t' } :=
 I.laid (λ_ _ q=>yca _ q) (yga _) ⟨hz,its,0,hv,yha _ rfl⟩
theorem Inv.fresh (I:Inv X pins σ H s):H s.heap.objs.size=none:=I.hok.fresh (yga _)
theorem Inv.lstM (I:Inv X pins σ H s)(hH:H l=some (.lst xs)):xs.length≤ywa∧Ex2 λ(its:List Value) (n:Nat)=>Vals xs its∧xs.length=its.length∧s.heap.get? l=some { cls:=.type "list",data:=.seq its.toArray n }:=by
 obtain⟨z,its,n,r,e⟩:=I.hok l _ hH;exact⟨z,its,n,r,r.length,e⟩
theorem zknb {n:Nat}(h:n≤ywa):yni n=false:=by
 unfold yni;exact decide_eq_false (by omega)
end
section
variable {X:Cx}
def ziqb:V->List V->Hp->VK->Prop:=λx vs H Q=>Ex3 λl xs y=>x = .ref l∧vs=[y]∧H l=some (.lst xs)∧xs.length<ywa∧Q .non (upd H l (.lst (xs++[y])))
theorem zeh:MtM X "list.append" ziqb:=by
 intro pins s σ H x vs v us Q I rx rv h;obtain⟨l,xs,y,rfl,rfl,hH,hz,q⟩:=h;cases rx;obtain⟨u,rfl,ru⟩:=rv.one;obtain⟨z,its,n,r,hl,e⟩:=I.lstM hH;refine ynj F.slot_list_append ⟨_,e,rfl⟩ F.entry_list_append (F.args_list_append_2 _ _) (PySem.list_append l its.toArray n u (by rw[yoa];omega)) ⟨e,?_⟩;refine⟨.non,_,I.lset (its':=its++[u]) hH e (by simp) (r.append (.cons ru .nil)) ?_,rfl,q⟩;rw[yea,yvc];omega
def zgqb:V->List V->Hp->VK->Prop:=λx vs H Q=>Ex4 λl b xs zs=>x = .ref l∧vs=[.ref b]∧H l=some (.lst xs)∧H b=some (.lst zs)∧xs.length+zs.length≤ywa∧Q .non (upd H l (.lst (xs++zs)))
theorem zsab:MtM X "list.extend" zgqb:=by
 intro pins s σ H x vs v us Q I rx rv h;obtain⟨l,b,xs,zs,rfl,rfl,hH,hB,hz,q⟩:=h;cases rx;obtain⟨u,rfl,ru⟩:=rv.one;cases ru;obtain⟨z,its,n,r,hl,e⟩:=I.lstM hH;obtain⟨z2,its2,n2,r2,hl2,e2⟩:=I.lstM hB;have hsz:its.toArray.size+its2.toArray.size≤ywa:=by rw[yoa,yoa];omega
 have hlong:¬ (!its.toArray.isEmpty&&yni (its.toArray.size+its2.toArray.size))=true:=by
  rw[zknb hsz,ysl];exact yeb
 refine ynj F.slot_list_extend ⟨_,e,rfl⟩ F.entry_list_extend (F.args_list_extend_2 _ _)
  (AutoSeq1.list_extend_list_list_0 l its.toArray n b its2.toArray n2 hlong (by rw[yoa];omega) (by omega)) ⟨e,e2,?_⟩
 refine⟨.non,_,I.lset (its':=its++its2) hH e (by simp) (r.append r2) ?_,rfl,q⟩;rw[yea];omega
def zatb:V->List V->Hp->VK->Prop:=λx vs H Q=>Ex5 λl xs i k y=>x = .ref l∧vs=[.int i]∧H l=some (.lst xs) ∧ -(2 ^ 63)≤i∧i<2 ^ 63∧yxq i xs.length=some k∧xs[k]?=some y∧Q y (upd H l (.lst (xs.eraseIdx k)))
theorem zsfb:MtM X "list.pop" zatb:=by
 intro pins s σ H x vs v us Q I rx rv h;obtain⟨l,xs,i,k,y,rfl,rfl,hH,h1,h2,hk,hy,q⟩:=h;cases rx;obtain⟨u,rfl,ru⟩:=rv.one;obtain⟨t,rfl⟩:=ru;obtain⟨z,its,n,r,hl,e⟩:=I.lstM hH;obtain⟨w,hw,rw'⟩:=r.get hy;refine ynj F.slot_list_pop ⟨_,e,rfl⟩ F.entry_list_pop (F.args_list_pop_2 _ _)
  (MeetsSeq.list_pop_at l its.toArray n i t k w (fitsIndex_both h1 h2) (by rw[yoa,← hl];exact hk) (by rw[← yob];exact hw) (by rw[yoa];omega)) ⟨e,?_⟩
 refine⟨y,_,I.lset (its':=its.eraseIdx k) hH e ?_ (r.eraseIdx k) ?_,rw',q⟩
 ·show its.toArray.eraseIdxIfInBounds k=(its.eraseIdx k).toArray;rw[List.eraseIdxIfInBounds_toArray]
 ·have:=ztab xs k;omega
def rCat:R2:=λx y H Q=>Ex4 λl b xs zs=>x = .ref l∧y = .ref b∧H l=some (.lst xs)∧H b=some (.lst zs)∧xs.length+zs.length≤ywa∧∀p,H p=none->Q (.ref p) (upd H p (.lst (xs++zs)))
theorem zlt:OpR X (yhh .Add) rCat:=by
 intro pins s σ H x y v u Q I rx ry h;obtain⟨l,b,xs,zs,rfl,rfl,hH,hB,hz,q⟩:=h;cases rx;cases ry;obtain⟨z,its,n,r,hl,e⟩:=I.lstM hH;obtain⟨z2,its2,n2,r2,hl2,e2⟩:=I.lstM hB;refine yoq e e2 ?_ (by rw[yoa,yoa];omega);have ea:its.toArray++its2.toArray=(its++its2).toArray:=by simp
 rw[ea];exact⟨.ref _,_,I.lnew (t':=s.toks) (r.append r2) (by rw[yea];omega),rfl,q _ I.fresh⟩
theorem len_rep {α:Type}(xs:List α)(k:Nat):(ylb k xs).flatten.length=k*xs.length:=by
 induction k with
 | zero=>simp
 | succ k ih=>rw[yce,ybc,yea,ih,Nat.succ_mul,Nat.add_comm]
end
section
variable {prog:yvb}{w:World}{A:Around}{E:Value->Shared->Prop}{s:Shared}
end
section
variable {X:Cx}
end
end L2
namespace Att
open PySem PySem.W PySem.Calls PyProof.Rows
theorem zwt {P:Params}{h:Heap}:∀(ns:List Int) (vs:List Value),WellAll P h vs (ns.map WData.int)->yyg vs ns:=by
 intro ns
 induction ns with
 | nil =>
  intro vs w;rw[ycf] at w;cases w;exact .nil
 | cons n ns ih =>
  intro vs w;rw[yib] at w;cases w with
  | cons a b =>
   cases a;exact .cons _ _ (ih _ b)
theorem zzib {l:OpenLaw}{n:Nat}(hn:l.most=some n){P:Params}{h:Heap}{args:List WData}{vals:List Value}
  (hpre:l.row.toRowW.claim.pre args=true) (hwl:WellAll P h vals args) :
  Ex3 λa vs ns=>vals=[Value.ref a]∧args=[WData.list (ns.map WData.int)]∧h.get? a=some { cls:=.type "list",data:=.seq vs.toArray }∧yyg vs ns∧ns.length≤n:=by
 have hsh:WShape.hasAll [] args [.list .int]=true:=(pre_splitW hpre).1;have hc:l.pre.holds [] { args:=args }=true:=(pre_splitW hpre).2;obtain⟨d,r,rfl,h1,h2⟩:=hasAllW_cons hsh;obtain rfl:=hasAllW_nil h2;obtain⟨xs,rfl,h3⟩:=hasW_list h1;obtain⟨ns,rfl⟩:=items_int h3;have hlen:ns.length≤n:=by
  unfold OpenLaw.pre at hc;have h4:(WTm.not (.lt (.lit (.int (n:Int))) (.len (.arg 0)))).holds [] { args:=[.list (ns.map .int)] }=true:=by
   have h4:=(holds_andW hc).1;rw[hn] at h4;exact h4
  have h5:=condW_of h4 (w_not (w_lt w_lit (w_len_list (w_arg rfl))));rw[yba] at h5;refine Nat.le_of_not_lt λq=>?_;have q':(n:Int)<((ns.length:Nat):Int):=by omega
  first
   | (rw[decide_eq_true q'] at h5;exact absurd h5 (by decide))
   | (simp at h5;omega)
 cases hwl with
 | cons w1 w2 =>
  cases w2;cases w1 with
  | list ho hall=>exact⟨_,_,ns,rfl,rfl,ho,zwt ns _ hall,hlen⟩
theorem zljb (l:OpenLaw)(args:List WData):l.row.toRowW.claim.post args (.bool true) args=true :=
 postW_of (r:=l.row.toRowW) (X:=(true==true))
  (show WShape.has [] (.bool true) .bool=true by first|rfl|decide|simp[WShape.has,WShape.arms,WShape.armsAll])
  (show (WTm.eq .res (.lit (.bool true))).value [] { args:=args,res:=some (.bool true),after:=args }=some (.bool (true==true)) from w_eq_bool (w_res rfl) w_lit) rfl
theorem zceb {l:OpenLaw}{n:Nat}{q:yvb}{loose:List Str}{XP:(Str->Option Value)->Heap->Prop}{YP:World->Heap->Prop}{d:DefRec}
  (hn:l.most=some n) (hdf:d.params.defaults=[])
  (call:∀(w:World) (s₀ s₁:Shared) (mg mb:Str->Option Value) (fa:Addr) (o:Obj) (pm cd doc:Value) (a:Addr) (vs:List Value) (ns:List Int),
   Ground q loose [] XP w s₀ mg mb s₁.heap->YP w s₁.heap →
   s₁.heap.get? fa=some o->o.data = .func (docDef d.name d.params d.body d.scope pm cd doc)->s₁.heap.CodeRec cd d.name->mg d.name=some (.ref fa) →
   s₁.heap.get? a=some { cls:=.type "list",data:=.seq vs.toArray }->yyg vs ns->ns.length≤n->s₁.gens=#[] →
   yqi (model l.prog w) yyp (.call (.ref fa) ⟨[.ref a],[]⟩) (λr s'=>r = .ok (.ret (.bool true))∧OldK s₁.heap s'.heap∧s'.os=s₁.os∧yxo s'.gens) s₁) :
  WalkO q loose XP YP l.row.toRowW d [] (λf vs=>ygr f vs):=by
 intro w s₀ s₁ mg mb G Y fa o pm cd doc dV kV ho hd hcd hD hmg hg args vals as hpre hlay hrd hwl hlo;obtain rfl:dV = .none:=Dflts.none hD hdf;obtain rfl:kV = .none:=Dflts.noKw hD;obtain⟨a,vs,ns,rfl,rfl,hobj,hints,hlen⟩:=zzib hn hpre hwl;refine enter_call (ywf (call w s₀ s₁ mg mb fa o pm cd doc a vs ns G Y ho (fd_plain hd) hcd hmg hobj hints hlen hg) λr s' hq=>?_);obtain⟨rfl,h2,h3,h4⟩:=hq;exact⟨.inl ⟨.bool true,.bool true,[],rfl,λ_=>rfl,.bool true,zljb l _,λ_=>⟨List.Pairwise.nil,λ_ hm=>(nomatch hm)⟩⟩,h2,h3,h4⟩
section
variable {prog:yvb}{w:World}{A:Around}{E:Value->Shared->Prop}{s:Shared}{K:Frag}
end
end Att
namespace L2
open PySem PySem.Spec PyProof.Rows
theorem zco:∀{vs:List Value} {ns:List Int},yyg vs ns->Vals (ns.map V.int) vs
 | _,_,.nil=>.nil
 | _,_,.cons n t h=>.cons ⟨t,rfl⟩ (zco h)
def Only (H:Hp):Prop:=∀b,H b=none∨Ex2 λo xs=>H b=some (.frz o (.lst xs))
theorem zrnb {P:yvb}{w:World}{K:yda}{mg mb:Str->Option Value}{CX:CXT}{k:Nat}{fa a:Addr}{fd:ypf}{x:Str}{sp:Sp}{s₁:Shared}{vs:List Value}{ns:List Int}
  (KX:K.In s₁.heap) (hns:s₁.heap.Ns yab mg) (hb:s₁.heap.Ns builtinsNs mb) (hbb:∀x:Str,x ≠ "__name__"->mb x=ykh x) (hlim:s₁.heap.NoLimit) (hg:s₁.gens=#[])
  (ha:s₁.heap.get? a=some { cls:=.type "list",data:=.seq vs.toArray }) (hi:yyg vs ns) (hl:ns.length≤ywa) (hr:Room k yyp)
  (F:∀base:Heap,K.In base->base.Ns yab mg->FnOk P w K mg base CX k fa fd [x] sp) (hbind:∀(s:Shared) (u:Value),yvp s fd ⟨[u],[]⟩ [(x,u)])
  (hsp:∀H:Hp,Only H->SqL K H a (ns.map V.int)->sp [.ref a] H (λv _=>v = .bl true) λ_ _ _=>False)
  (hCX:∀H e s',CX [] H s₁ (λ_ _ _=>False) e s'->False) :
  yqi (model P w) yyp (.call (.ref fa) ⟨[.ref a],[]⟩) (λr s'=>r = .ok (.ret (.bool true))∧OldK s₁.heap s'.heap∧s'.os=s₁.os∧yxo s'.gens) s₁:=by
 have rv:=zco hi;have lenV:=hi.length;have core:∀H:Hp,Only H->SqL K H a (ns.map V.int)->HOk P w H s₁.heap->(∀b,H b≠none->b=a)->(H a≠none->K.lookup a=none) →
   yqi (model P w) yyp (.call (.ref fa) ⟨[.ref a],[]⟩) (λr s'=>r = .ok (.ret (.bool true))∧OldK s₁.heap s'.heap∧s'.os=s₁.os∧yxo s'.gens) s₁:=by
  intro H hO hS hok hA hK;have base_of:∀{b:Addr} {o:Obj},s₁.heap.get? b=some o->H b=none->(hidT s₁.heap H).get? b=some o:=λe n=>zxnb e n;have noA:∀{b:Addr} {o:Obj} {es:Array DictEntry} {ep:Nat},s₁.heap.get? b=some o->o.data = .dict es ep->H b=none:=λ{b o es ep} e d=>by
   cases q:H b with
   | none=>rfl
   | some u =>
    have e':b=a:=hA b (by rw[q];simp);subst e';rw[ha] at e;cases e;have d':Data.seq vs.toArray _=Data.dict es ep:=d;cases d'
  have nsK:∀{b:Addr} {m:Str->Option Value},s₁.heap.Ns b m->(hidT s₁.heap H).Ns b m:=λ{b m} ⟨o,es,ep,e,d,r⟩=>⟨o,es,ep,base_of e (noA e d),d,r⟩;have hKb:K.In (hidT s₁.heap H):=λb o e=>base_of (KX b o e) (by
   cases q:H b with
   | none=>rfl
   | some u =>
    have e':b=a:=hA b (by rw[q];simp);subst e';rw[hK (by rw[q];simp)] at e;cases e)
  have hM:Mod K mg (hidT s₁.heap H):=⟨hKb,nsK hns,⟨mb,nsK hb,hbb⟩,let ⟨mc,h1,h2⟩:=hlim;⟨mc,nsK h1,h2⟩⟩;have e0:Env0 P w K mg (hidT s₁.heap H) yyp [] s₁ H:=⟨rfl,hM,λb o e=>zxqb e,yrn (zmkb _ _),trivial,λb hb=>absurd (show b∈([]:List Addr) from hb) (by simp),hok,.of_eq hg⟩;refine ywf ((F _ hKb (nsK hns)).run yyp [] s₁ H ⟨[.ref a],[]⟩ [.ref a] [.ref a] _ _ hr e0 (hbind s₁ (.ref a)) (.cons rfl .nil) (hsp H hO hS)) λr s' h=>?_;cases r with
  | error e=>exact (hCX H e s' h).elim
  | ok fl =>
   cases fl with
   | next=>exact ytf h
   | brk=>exact ytf h
   | cont=>exact ytf h
   | ret u =>
    obtain⟨v,H',os,bare,un,hok',r',q⟩:=h;have q':v = .bl true:=q;subst q';obtain rfl:u=Value.bool true:=r';refine⟨rfl,OldK.of_keep λb o e=>?_,os,bare⟩;cases q:H b with
    | none=>exact un.keep b o e q (by intro z;exact absurd (show b∈([]:List Addr) from z) (by simp)) (by simp)
    | some u =>
     rcases hO b with z|⟨ob,xs,z⟩
     ·rw[q] at z;cases z
     ·have z2:=un.frzs b ob _ z;obtain⟨e1,_⟩:=hok b _ z;obtain⟨e2,_⟩:=hok' b _ z2;rw[e] at e1;cases e1;exact e2
 cases hk:K.lookup a with
 | some o =>
  have e:=KX a o hk;rw[ha] at e;cases e;refine core (λ_=>none) (λ_=>.inl rfl) (.inr ⟨_,vs.toArray,_,hk,rfl,rfl,rfl,by rw[yoa,lenV];exact hl,by simpa using rv⟩) (λb u z=>by have z':(none:Option HO)=some u:=z;cases z') (λb z=>absurd rfl z) λz=>absurd rfl z
 | none =>
  refine core (λb=>if b=a then some (.frz { cls:=.type "list",data:=.seq vs.toArray } (.lst (ns.map V.int))) else none) (λb=>?_) (.inl (.inr ⟨{ cls:=.type "list",data:=.seq vs.toArray },if_pos rfl⟩)) (λb u z=>?_) (λb z=>?_) λ_=>hk
  ·by_cases hb:b=a
   ·exact .inr ⟨_,_,if_pos hb⟩
   ·exact .inl (if_neg hb)
  ·by_cases hb:b=a
   ·have z':=(if_pos hb).symm.trans z;cases z';subst hb;exact⟨ha,by rw[yba];exact hl,vs,_,rv,ha⟩
   ·have z':=(if_neg hb).symm.trans z;cases z'
  ·by_cases hb:b=a
   ·exact hb
   ·exact absurd (if_neg hb) z
end L2
namespace L2
open PySem PySem.Spec PyProof.Rows
theorem zkpb {l:yxn}{n k:Nat}{q:yvb}{loose:List Str}{XP:(Str->Option Value)->Heap->Prop}{YP:World->Heap->Prop}{d:DefRec}{K:Params->yda}{CX:World->CXT}{sp:World->Sp}{x:Str}
  (hn:l.most=some n) (hn2:n≤ywa) (hdf:d.params.defaults=[]) (hr:Room k yyp)
  (hY:∀(w:World) (h:Heap),YP w h->(K w.params).In h)
  (F:∀(w:World) (mg:Str->Option Value) (fa:Addr) (h:Heap),(K w.params).In h->h.Ns yab mg->mg d.name=some (.ref fa) →
   ∃fd:ypf,(∀(s:Shared) (u:Value),yvp s fd ⟨[u],[]⟩ [(x,u)]) ∧
    ∀base:Heap,(K w.params).In base->base.Ns yab mg->FnOk l.prog w (K w.params) mg base (CX w) k fa fd [x] (sp w))
  (hsp:∀(w:World) (H:Hp) (a:Addr) (ns:List Int),ns.length≤n->Only H->SqL (K w.params) H a (ns.map V.int)->sp w [.ref a] H (λv _=>v = .bl true) λ_ _ _=>False)
  (hCX:∀(w:World) (H:Hp) (s:Shared) (e:Value) (s':Shared),CX w [] H s (λ_ _ _=>False) e s'->False) :
  yhr q loose XP YP l.row.toRowW d [] (λf vs=>ygr f vs):=by
 refine Att.zceb hn hdf λw s₀ s₁ mg mb fa o pm cd doc a vs ns G Y ho hd hcd hmg hobj hints hlen hg=>?_;have KX:=hY w _ Y;obtain⟨fd,hb,hF⟩:=F w mg fa _ KX G.T.g hmg;exact zrnb KX G.T.g G.T.b G.T.builtins G.T.nolimit hg hobj hints (ymb hlen hn2) hr hF hb (λH hO hS=>hsp w H a ns hlen hO hS) λH e s'=>hCX w H s₁ e s'
end L2
namespace L2
open PySem PySem.Spec PyProof.Rows
def inClass (s:Stmt)(j:Nat):Stmt:=match s with
 | .ClassDef _ _ _ body _ _ _ _ _ _ _=>body.getD j (.Pass ⟨0,0,0,0⟩)
 | _=>.Pass ⟨0,0,0,0⟩
def zcn (s:Stmt):Arguments:=match s with
 | .FunctionDef _ a _ _ _ _ _ _ _ _=>a
 | _=>{ posonlyargs:=[],args:=[],vararg:=none,kwonlyargs:=[],kw_defaults:=[],kwarg:=none,defaults:=[] }
def zii (s:Stmt):List Stmt:=match s with
 | .FunctionDef _ _ b _ _ _ _ _ _ _=>b
 | _=>[]
def zja (s:Stmt):Scope:=match s with
 | .FunctionDef _ _ _ _ _ _ sc _ _ _=>sc
 | _=>{ kind:=.function,names:=[],isGenerator:=false,isCoroutine:=false }
abbrev CX0:CXT:=λ_ _ _ _ _ _=>False
abbrev E0:XK:=λ_ _ _=>False
theorem zpa {X:Cx}:Passes CX0 X E0:=λ_ _ _ _ _ _ _ h=>h.elim
structure Fun (K:yda)(x qual:Str)(st:Stmt)(f:Addr)(fd:ypf):Prop where
 ex:Ex9 λ(oc:Value) (od:Option Addr) (kV doc pm:Value) (an:Option Addr) (cdv ct:Value) (osl:Array (Option Value)) =>
  fd=yug x qual (zcn st) (zii st) (zja st) .none kV doc pm an cdv ct∧K.lookup f=some ⟨oc,od,.func fd,osl⟩∧yxh K cdv qual=true
 kp:ybf K (.ref f)=true
section
variable {P:yvb}{w:World}{K:yda}{mg:Str->Option Value}{base:Heap}
theorem Fun.ok {x qual:Str}{st:Stmt}{f:Addr}{fd:ypf}{N ps:List Str}{k:Nat}{sp:Sp}(F:Fun K x qual st f fd)(S:zua N ps (zja st))(len:∀vs H Q E,sp vs H Q E->vs.length=ps.length)
  (hbody:∀(cdv:Value) (A:Around) (outer:List Env) (s:Shared) (H:Hp) (vs:List V) (Q:VK) (E:XK),Room k (A.deeper (envOfC qual (zja st) s.heap.objs.size f cdv))->sp vs H Q E →
   ∃t,PSs (cxOf CX0 P w K mg base N qual (zja st) f cdv A outer s H E).nox (zii st) t∧t { nx:=λ_ H'=>Q .non H',rt:=Q } (start N vs) H):FnOk P w K mg base CX0 (k+1) f fd ps sp:=by
 obtain⟨oc,od,kV,doc,pm,an,cdv,ct,osl,rfl,lk,hcd⟩:=F.ex;refine zawb lk hcd S len λA outer s H vs Q E hr hsp=>?_;obtain⟨t,h,q⟩:=hbody cdv A outer s H vs Q E hr hsp;exact⟨t,h.nox,q⟩
theorem Fun.binds {x qual:Str}{st:Stmt}{f:Addr}{fd:ypf}{ps:List Str}(F:Fun K x qual st f fd)
  (h:∀(kV doc pm:Value) (an:Option Addr) (cdv ct:Value) (us:List Value),us.length=ps.length->bindArgs (yug x qual (zcn st) (zii st) (zja st) .none kV doc pm an cdv ct) ⟨us,[]⟩=pure (ps.zip us)):Binds K fd ps []:=by
 obtain⟨oc,od,kV,doc,pm,an,cdv,ct,osl,rfl,lk,hcd⟩:=F.ex;exact .all (h kV doc pm an cdv ct)
theorem zpkb {x qual:Str}{st:Stmt}{f:Addr}{oc:Value}{od an:Option Addr}{osl:Array (Option Value)}{kV doc pm cdv ct:Value}(l:K.lookup f=some ⟨oc,od,.func (yug x qual (zcn st) (zii st) (zja st) .none kV doc pm an cdv ct),osl⟩)
  (c:yxh K cdv qual=true) (k:ybf K (.ref f)=true):Fun K x qual st f (yug x qual (zcn st) (zii st) (zja st) .none kV doc pm an cdv ct):=⟨⟨oc,od,kV,doc,pm,an,cdv,ct,osl,rfl,l,c⟩,k⟩
end
theorem zse {n:Nat}(h:n≤1000):n<ywa:=Nat.lt_of_le_of_lt h (by decide)
section
variable {X:Cx}
theorem pv (i:Nat){x:Str}{pos:Pos}(hN:X.N[i]?=some x:=by rfl)(hv:Vis X.env.scope x:=by first|exact Or.inl rfl|exact Or.inr (Or.inl rfl)|exact Or.inr (Or.inr rfl))(hd:(x==("__debug__":Str))=false:=by decide)
  (hcd:(x==("__classdict__":Str))=false:=by decide):PE X (.Name x pos) (tVar i):=zftb hN hv hd hcd
end
theorem iteF {A B:Prop}(h:B):if false=true then A else B:=by
 rw[if_neg yeb];exact h
theorem iteT {A B:Prop}(h:A):if true=true then A else B:=by
 rw[if_pos rfl];exact h
theorem ite2 {c A B:Prop}[Decidable c](h1:c->A)(h2:¬ c->B):if c then A else B:=by
 by_cases h:c
 ·rw[if_pos h];exact h1 h
 ·rw[if_neg h];exact h2 h
def Same (H H':Hp):Prop:=∀b o,H b=some o->H' b=some o
theorem Same.refl (H:Hp):Same H H:=λ_ _ h=>h
theorem Same.trans {H H1 H2:Hp}(a:Same H H1)(b:Same H1 H2):Same H H2:=λc o h=>b c o (a c o h)
end L2
namespace L2
open PySem PySem.Spec PyProof.Rows
def clGo (cells:List (Str×Addr)):List (Str×ygd)->List (Str×Addr)->List (Str×Addr)
 | [],cs=>cs
 | (n,k)::r,cs=>clGo cells r (if k == .free then (match cells.lookup n with|some c=>(n,c)::cs|none=>cs) else cs)
def clOf (sc:Scope)(cells:List (Str×Addr)):List (Str×Addr):=clGo cells sc.names []
theorem zjw {sc:Scope}{env:Env}(h:∀y∈sc.names,y.2 = .free->∃c,env.cells.lookup y.1=some c):closureFor sc env=pure (clOf sc env.cells):=by
 have go:∀(l:List (Str×ygd)) (cs:List (Str×Addr)),(∀y∈l,y.2 = .free->∃c,env.cells.lookup y.1=some c) →
   (forIn l cs (λ(x:Str×ygd) (r:List (Str×Addr))=>(match x with|(name,kind)=>if kind==ygd.free then (do let c ← cellOf env name;pure (ForInStep.yield ((name,c)::r))) else pure (ForInStep.yield r):Sem (ForInStep (List (Str×Addr))))))=pure (clGo env.cells l cs):=by
  intro l
  induction l with
  | nil=>intro cs _;rfl
  | cons y r ih =>
   intro cs h;obtain⟨n,k⟩:=y;have hr:∀y∈r,y.2 = .free->∃c,env.cells.lookup y.1=some c:=λy hy=>h y (yta _ hy);rw[List.forIn_cons]
   by_cases hk:k = .free
   ·subst hk;obtain⟨c,e⟩:=h (n,.free) yra rfl;have e':env.cells.lookup n=some c:=e;simp only[beq_self_eq_true,if_true,cellOf,e',pure_bind,clGo];exact ih _ hr
   ·have hb:(k==ygd.free)=false:=by simpa using hk
    simp only[hb,yxf,if_false,pure_bind,clGo];exact ih _ hr
 unfold closureFor clOf;refine Eq.trans (bind_pure _) ?_;exact go sc.names [] h
theorem zds {cells:List (Str×Addr)}:∀(l:List (Str×ygd)) (cs:List (Str×Addr)),(∀x c,cs.lookup x=some c->cells.lookup x=some c)->∀x c,(clGo cells l cs).lookup x=some c->cells.lookup x=some c
 | [],_,h,x,c,e=>h x c e
 | (n,k)::r,cs,h,x,c,e=>by
  refine zds r _ (λy d z=>?_) x c e
  by_cases hk:(k==ygd.free)=true
  ·rw[if_pos hk] at z;cases q:cells.lookup n with
   | none=>rw[q] at z;exact h y d z
   | some a =>
    rw[q] at z;have z':yoe y ((n,a)::cs)=some d:=z;rw[yye] at z';cases hy:y==n with
    | true =>
     rw[hy] at z';have ey:y=n:=(by simpa using hy);rw[ey,q];exact z'
    | false =>
     rw[hy] at z';exact h y d z'
  ·rw[if_neg hk] at z;exact h y d z
theorem zigb {cells:List (Str×Addr)}:∀(l:List (Str×ygd)) (cs:List (Str×Addr)) (x:Str),((x,ygd.free)∈l∧(∃c,cells.lookup x=some c))∨(∃c,cs.lookup x=some c)->∃c,(clGo cells l cs).lookup x=some c
 | [],cs,x,h=>by
  rcases h with⟨h,_⟩|h
  ·cases h
  ·exact h
 | (n,k)::r,cs,x,h=>by
  refine zigb r _ x ?_;have put:(∃c,cs.lookup x=some c)->∃c,(if (k==ygd.free)=true then (match cells.lookup n with|some c=>(n,c)::cs|none=>cs) else cs).lookup x=some c:=λ⟨c,e⟩=>by
   by_cases hk:(k==ygd.free)=true
   ·rw[if_pos hk];cases q:cells.lookup n with
    | none=>exact⟨c,e⟩
    | some a =>
     show ∃c,yoe x ((n,a)::cs)=some c
     rw[yye];cases hy:x==n with
     | true=>exact⟨a,rfl⟩
     | false=>exact⟨c,e⟩
   ·rw[if_neg hk];exact⟨c,e⟩
  rcases h with⟨h,c,e⟩|h
  ·rcases yka.mp h with z|z
   ·injection z with z1 z2
    subst z1;subst z2;refine .inr ⟨c,?_⟩;show yoe x (match cells.lookup x with|some c=>(x,c)::cs|none=>cs)=some c
    rw[e];show yoe x ((x,c)::cs)=some c
    rw[yye,beq_self_eq_true]
   ·exact .inl ⟨z,c,e⟩
  ·exact .inr (put h)
theorem zdr {env:Env}:∀{l:List (Str×ygd)} {x:Str},(∀y∈l,y.2≠ygd.cell) →
  ((l.map λ(n,k)=>if (k==ygd.free&&env.scope.kind == .function&&env.kindOf n==some .cell) then (n,ygd.cell) else (n,k)).lookup x=some .cell ∨
   (l.map λ(n,k)=>if (k==ygd.free&&env.scope.kind == .function&&env.kindOf n==some .cell) then (n,ygd.cell) else (n,k)).lookup x=some .free)->(x,ygd.free)∈l
 | [],x,_,h=>by rcases h with h|h<;>simp at h
 | (n,k)::r,x,hc,h=>by
  rw[yib] at h;have nk:k≠ygd.cell:=hc (n,k) yra
  by_cases hx:x=n
  ·subst hx;have kf:k = .free:=by
    by_cases q:(k==ygd.free&&env.scope.kind == .function&&env.kindOf x==some .cell)=true
    ·rw[ytc,ytc] at q
     simpa using q.1.1
    ·have e:(match (x,k) with|(n,k)=>if (k==ygd.free&&env.scope.kind == .function&&env.kindOf n==some .cell)=true then (n,ygd.cell) else (n,k))=(x,k):=if_neg q;rw[e,yye,beq_self_eq_true] at h
     rcases h with h|h
     ·exact absurd (yjc h) nk
     ·exact yjc h
   subst kf;exact yra
  ·refine yta _ (zdr (env:=env) (λy hy=>hc y (yta _ hy)) ?_);have hb:(x==n)=false:=by simpa using hx
   by_cases q:(k==ygd.free&&env.scope.kind == .function&&env.kindOf n==some .cell)=true
   ·have e:(match (n,k) with|(n,k)=>if (k==ygd.free&&env.scope.kind == .function&&env.kindOf n==some .cell)=true then (n,ygd.cell) else (n,k))=(n,ygd.cell):=if_pos q;rw[e,yye,hb] at h;exact h
   ·have e:(match (n,k) with|(n,k)=>if (k==ygd.free&&env.scope.kind == .function&&env.kindOf n==some .cell)=true then (n,ygd.cell) else (n,k))=(n,k):=if_neg q;rw[e,yye,hb] at h;exact h
def blk (X:Cx)(N':List Str)(sc:Scope)(fp:List Addr)(s:Shared)(H:Hp)(C:Addr):Cx where
 prog:=X.prog
 w:=X.w
 K:=X.K
 mg:=X.mg
 base:=X.base
 A:=X.A
 N:=N'
 s₀:=s
 H₀:=H
 env:=compEnvC sc (clOf sc X.env.cells) C X.env
 outer:=X.stack
 stack:=X.stack
 ex:=fp
 fn:=λ_=>false
 calm:=X.calm
 pn:=[]
 xe:=λ_ _=>False
inductive Caps (X:Cx)(sc:Scope):List Str->List Nat->Prop where
 | nil:Caps X sc [] []
 | cons {x:Str} {j:Nat} {cap:List Str} {js:List Nat} (hj:X.N[j]?=some x) (hk:X.env.kindOf x=some .cell∨X.env.kindOf x=some .free)
   (hr:(yzp sc X.env).names.lookup x=some .cell∨(yzp sc X.env).names.lookup x=some .free):Caps X sc cap js->Caps X sc (x::cap) (j::js)
structure zsb (X:Cx)(sc:Scope):Prop where
 kind:sc.kind = .function
 cell:∀y∈sc.names,y.2 ≠ .cell
 names:∀y∈sc.names,y.2 = .local->sc.names.lookup y.1=some .local
 free:∀y∈sc.names,y.2 = .free->X.env.kindOf y.1=some .cell∨X.env.kindOf y.1=some .free
def ztub (sc:Scope)(nm:List (Str×ygd)):Bool:=sc.names.all λy=>y.2 != .cell&&(y.2 != .local||sc.names.lookup y.1==some .local)&&(y.2 != .free||(nm.lookup y.1==some .cell||nm.lookup y.1==some .free))
theorem zsb.chk {X:Cx}{sc:Scope}(hk:sc.kind = .function)(h:ztub sc X.env.scope.names=true):zsb X sc:=by
 have a:=yvf.mp h;refine⟨hk,λy hy e=>?_,λy hy e=>?_,λy hy e=>?_⟩
 ·have q:=a y hy;rw[e] at q;simp at q
 ·have q:=a y hy;rw[e] at q
  simpa using q
 ·have q:=a y hy;rw[e] at q;have q':X.env.scope.names.lookup y.1=some .cell∨X.env.scope.names.lookup y.1=some .free:=by simpa using q
  exact q'
def zrf (n:Nat)(js:List Nat)(σ:St):St:=ylb n none++js.map λj=>(σ[j]?).join
theorem Caps.len {X:Cx}{sc:Scope}:∀{cap:List Str} {js:List Nat},Caps X sc cap js->cap.length=js.length
 | _,_,.nil=>rfl
 | _,_,.cons _ _ _ c=>by rw[yja,yja,c.len]
theorem Caps.get {X:Cx}{sc:Scope}:∀{cap:List Str} {js:List Nat},Caps X sc cap js->∀{i:Nat} {x:Str},cap[i]?=some x →
  ∃j,js[i]?=some j∧X.N[j]?=some x∧(X.env.kindOf x=some .cell∨X.env.kindOf x=some .free)∧((yzp sc X.env).names.lookup x=some .cell∨(yzp sc X.env).names.lookup x=some .free)
 | _,_,.nil,i,x,e=>by simp at e
 | _,_,.cons hj hk hr c,0,x,e=>by
  rw[yhe] at e;cases e;exact⟨_,rfl,hj,hk,hr⟩
 | _,_,.cons hj hk hr c,i+1,x,e=>by
  rw[ytb] at e;obtain⟨j,h1,h2⟩:=c.get e;exact⟨j,by rw[ytb];exact h1,h2⟩
theorem zqlb {X:Cx}{sc:Scope}{own cap:List Str}{js:List Nat}{σ:St}(C:Caps X sc cap js):(zrf own.length js σ).length=(own++cap).length:=by
 unfold zrf;rw[yea,ygc,yba,yea,C.len]
theorem znbb {n:Nat}{js:List Nat}{σ:St}{i:Nat}{v:V}(e:(zrf n js σ)[i]?=some (some v)):n≤i∧∃j,js[i-n]?=some j∧σ[j]?=some (some v):=by
 unfold zrf at e
 by_cases h:i<n
 ·rw[yre (by simpa using h),yti,if_pos h] at e;cases e
 ·refine⟨by omega,?_⟩;rw[yic (by rw[ygc];omega),ygc,yqa] at e;cases q:js[i-n]? with
  | none=>rw[q] at e;cases e
  | some j =>
   rw[q] at e;have e':(σ[j]?).join=some v:=yjc e;refine⟨j,rfl,?_⟩;cases z:σ[j]? with
   | none=>rw[z] at e';cases e'
   | some o =>
    rw[z] at e';have e2:o=some v:=e';rw[e2]
theorem zlw {n:Nat}{js:List Nat}{σ σ2:St}(hd:σ2.drop n=(zrf n js σ).drop n){i:Nat}{v:V}(e:(zrf n js σ)[i]?=some (some v)):σ2[i]?=some (some v):=by
 have h:=(znbb e).1;have q:(σ2.drop n)[i-n]?=((zrf n js σ).drop n)[i-n]?:=by rw[hd]
 rw[yxe,yxe,show n+(i-n)=i by omega] at q;rw[q];exact e
def PTs (X:Cx)(ifs:List Expr)(t:TT):Prop :=
 ∀(pins:List (Addr×Obj)) (s:Shared) (σ:St) (H:Hp) (Q:Bool->Hp->Prop),Inv X pins σ H s->t σ H Q →
  wpAny (model X.prog X.w) X.A (forIn ifs true λc r=>if r=true then do let ok ← isTrue c X.env (eval c X.env);pure (ForInStep.yield ok) else pure (ForInStep.yield r)) (TP X pins σ Q) X.xe s
def zjsb:TT:=λ_ H Q=>Q true H
theorem zle {X:Cx}:PTs X [] zjsb:=λ_ _ _ H _ I h=>wpAny_tests_nil ⟨H,I,h⟩
theorem zsp {X:Cx}{c:Expr}{t:TT}(hc:PT X c t):PTs X [c] t:=λpins s σ H Q I h=>wpAny_tests_one (hc pins s σ H Q I h)
theorem zibb {prog:yvb}{w:World}{A:Around}{R:Result->Shared->Prop}{s:Shared}{elt tg iter:Expr}{ifs:List Expr}{scope:Scope}{pos:Pos}{it acc:Value}{env:Env}(I:Nat->Shared->Prop)
  (turn:∀n s,I n s->wpAny (model prog w) A (pyNext it) (λr s₁=>match r with
   | none=>R (.ok .next) s₁
   | some v=>wpAny (model prog w) A (yok tg it v) (λ_ s₀=>wpAny (model prog w) A (assign tg env v) (λ_ s₂ =>
     wpAny (model prog w) A (forIn ifs true λc r=>if r=true then do let ok ← isTrue c env (eval c env);pure (ForInStep.yield ok) else pure (ForInStep.yield r)) (λok s₃ =>
      if ok=true then wpAny (model prog w) A (eval elt env) (λx s₄ =>
       wpAny (model prog w) A (call (.builtin "list.append") [acc,x]) (λ_ s₅=>∃m,m<n∧I m s₅) (yyq (model prog w) A env λe s'=>R (.error e) s') s₄) (yyq (model prog w) A env λe s'=>R (.error e) s') s₃
      else ∃m,m<n∧I m s₃) (yyq (model prog w) A env λe s'=>R (.error e) s') s₂) (yyq (model prog w) A env λe s'=>R (.error e) s') s₀) (yyq (model prog w) A env λe s'=>R (.error e) s') s₁)
    (yyq (model prog w) A env λe s'=>R (.error e) s') s)
  (n:Nat) (h:I n s) :
  yqi (model prog w) A (.compLoop (.ListComp elt [⟨tg,iter,ifs,0⟩] scope pos) 0 it acc env) R s:=by
 refine codeAny_loop rfl I (λn s hI=>?_) n h;show wpAny _ A ((compTurn (.ListComp elt [⟨tg,iter,ifs,0⟩] scope pos) 0 it acc env).onRaise (λx=>do noteFrame x env;theTreesLotGoes x)) _ _ s
 refine wpAny_noted ?_;rw[compTurn_list];refine yaa (yep (yaa (yne (turn n s hI) (λr s₁ h₁=>?_) λ_ _ h'=>h')));cases r with
 | none=>exact yfa h₁
 | some v =>
  refine yaa (yne h₁ (λ_ s₀ h₀=>?_) λ_ _ h'=>h');refine yaa (yne h₀ (λ_ s₂ h₂=>yaa (yne h₂ (λok s₃ h₃=>?_) λ_ _ h'=>h')) λ_ _ h'=>h');cases ok with
  | false=>exact yfa ⟨rfl,h₃⟩
  | true =>
   exact yaa (yaa (yne h₃ (λx s₄ h₄=>yaa (yne h₄ (λ_ s₅ h₅=>yfa (yfa ⟨rfl,h₅⟩)) λ_ _ h'=>h')) λ_ _ h'=>h'))
def zncb (J:It)(H1:Hp)(g:TG)(tt:TT)(te:TE)(n:Nat)(js:List Nat)(σ:St)(Q:VK):Prop:=∃W:Nat->Nat->List V->Hp->Prop,(∃m,W 0 m [] H1)∧∀i m ys H,W i m ys H →
 (J.stop i H∧ys.length≤ywa∧∀p,H p=none->Q (.ref p) (upd H p (.lst ys))) ∨
 (J.go i H∧ys.length≤ywa∧∃N:List V->Hp->Prop,(∀ys' H',N ys' H'->∃m',m'<m∧W (i+1) m' ys' H')∧∀x H',J.yld i H x H'->g x (zrf n js σ) H' fun σ2 H2=>σ2.drop n=(zrf n js σ).drop n∧tt σ2 H2 λb H3 =>
  if b=true then te σ2 H3 λy H4=>N (ys++[y]) H4 else N ys H3)
def znsb (wi:TI)(g:TG)(tt:TT)(te:TE)(n:Nat)(js:List Nat):TE:=fun σ H Q=>wi σ H λJ H1=>zncb J H1 g tt te n js σ Q
section
variable {X:Cx}
theorem Vals.snoc {xs:List V}{us:List Value}{x:V}{u:Value}(r:Vals xs us)(q:RelV x u):Vals (xs++[x]) (us++[u]):=r.append (.cons q .nil)
theorem znlb {pins:List (Addr×Obj)}{σ:St}{H:Hp}{s s3:Shared}{sc:Scope}{own cap:List Str}{js:List Nat}{fp:List Addr}{C:Addr}{tn:Nat->Heap->Prop}{h₁:Heap}{tk:Nat}{m:Str->Option Value}(I:Inv X pins σ H s)(S:zsb X sc)(cp:Caps X sc cap js)
  (hob:∀b∈fp,∃o,s.heap.get? b=some o∧∀v,o.data ≠ .cell v) (hf:∀b∈fp,FpOk X pins H b) (hC:s.heap.objs.size≤C) (hn:h₁.Ns C m) (old:∀b o,s.heap.get? b=some o->h₁.get? b=some o) :
  Inv (blk X (own++cap) sc fp s H C) [] (zrf own.length js σ) H { s with heap:=h₁,toks:=tk }:=by
 have sub:∀x c,(clOf sc X.env.cells).lookup x=some c->X.env.cells.lookup x=some c:=zds sc.names [] (λx c e=>by simp at e);have has:∀x,((yzp sc X.env).names.lookup x=some .cell∨(yzp sc X.env).names.lookup x=some .free)->∃c,(clOf sc X.env.cells).lookup x=some c:=λx hx=>by
  have hm:=zdr (env:=X.env) (l:=sc.names) (x:=x) S.cell hx;exact zigb sc.names [] x (.inl ⟨hm,I.ok.has x (S.free _ hm rfl)⟩)
 refine⟨⟨I.ok.mod,S.kind,I.ok.glob,I.ok.blt,hC,λx y c e1 e2=>I.ok.inj x y c (sub x c e1) (sub y c e2),has,(λx c e=>by cases e),I.ok.hd,I.ok.frames,.inl rfl,λb hb=>?_,I.bs,ymb I.ok.bsz I.sz,λb o e hb=>?_,λb hb z=>?_,I.stack,I.zpib⟩,
  rfl,I.bare,Un.kept old,⟨m,hn,λi x v h1 h2 h3=>?_⟩,λx c e=>?_,I.hok.fresh hC,λx c e=>I.freeC x c (sub x c e),λp hp=>absurd (show p∈([]:List (Addr×Obj)) from hp) (by simp),I.hok.kept old,zqlb cp⟩
 ·obtain⟨o,e,_⟩:=hob b hb;refine⟨yva (yua (yna e) hC),λx c e=>?_⟩;exact (hf b hb).2.2.2.2.1 x c (sub x c e)
 ·obtain⟨_,_,_,h4,_,_⟩:=hf b hb
  rcases h4 with z|z
  ·exact I.ok.noex b o e z
  ·exact absurd (yua (yna e) (ymb I.ok.bsz z)) (yid _)
 ·obtain⟨_,h2,h3,_⟩:=hf b hb
  rcases yka.mp (I.zcfb b z) with q|q
  ·exact h2 q
  ·exact h3 q
 ·obtain⟨hni,j,hj,hv⟩:=znbb h2;have h1':(own++cap)[i]?=some x:=h1;rw[yic hni] at h1';obtain⟨j',e1,e2,e3,e4⟩:=cp.get h1';rw[hj] at e1;cases e1;obtain⟨m0,hn0,hl0⟩:=I.loc;have vis:Vis X.env.scope x:=.inr e3;obtain⟨u,ru,lk⟩:=hl0 j x v e2 hv vis;refine⟨u,ru,?_⟩
  rcases lk with⟨k,_⟩|⟨k,c,ec,hc⟩
  ·exfalso
   rcases e3 with q|q
   ·rw[q] at k;cases k
   ·rw[q] at k;cases k
  ·obtain⟨c',ec'⟩:=has x e4;have q:=sub x c' ec';rw[ec] at q;cases q;exact .inr ⟨e4,c,ec',hc.keeps old⟩
 ·obtain⟨v,z⟩:=I.cell x c (sub x c e);exact⟨v,z.keeps old⟩
theorem zplb {pins pn:List (Addr×Obj)}{σ σ':St}{H H':Hp}{s s':Shared}{sc:Scope}{N':List Str}{fp:List Addr}{C D:Addr}{h':Heap}{ys:List V}{its:List Value}{nn:Nat}(I:Inv X pins σ H s)(J:Inv (blk X N' sc fp s H C) pn σ' H' s')
  (hf:∀b∈fp,FpOk X pins H b) (hC:s.heap.objs.size≤C) (hD:s.heap.objs.size≤D) (hDC:D≠C) (hn:H' D=none) (ho:s'.heap.get? D=some { cls:=.type "list",data:=.seq its.toArray nn }) (hz:ys.length≤ywa) (rv:Vals ys its)
  (hs:ysg C s'.heap h'):Inv X pins σ (upd H' D (.lst ys)) { s' with heap:=h' }:=by
 have u:Un (frs X.stack) fp H H' s.heap s'.heap:=J.base;have low:∀b o,s.heap.get? b=some o->b≠C∧b≠D:=λb o e=>⟨yva (yua (yna e) hC),yva (yua (yna e) hD)⟩;have kp:∀b o,b≠C->s'.heap.get? b=some o->h'.get? b=some o:=λb o hb e=>(hs.2 b hb).trans e;have u2:Un (frs X.stack) fp H (upd H' D (.lst ys)) s.heap h':=by
  refine⟨λb o e n hb hx=>kp b o (low b o e).1 (u.keep b o e n hb hx),λb o e n hb hx=>?_,λb o e n hx=>?_,λb o e hx=>?_,λb xs e=>?_,λb o xs e=>?_,λb ps e=>?_⟩
  ·obtain⟨sl,q⟩:=u.slot b o e n hb hx;exact⟨sl,kp b _ (low b o e).1 q⟩
  ·rw[zdb (low b o e).2];exact u.free b o e n hx
  ·obtain⟨o',q⟩:=u.there b o e hx;exact⟨o',kp b _ (low b o e).1 q⟩
  ·have q:=u.tups b xs e;rw[zdb (zka q hn)];exact q
  ·have q:=u.frzs b o xs e;rw[zdb (zka q hn)];exact q
  ·obtain⟨more,q⟩:=u.tbls b ps e;exact⟨more,by rw[zdb (zka q hn)];exact q⟩
 have nC:H' C=none:=J.free;have hok:HOk X.prog X.w (upd H' D (.lst ys)) h':=λb o e=>by
  by_cases hb:b=D
  ·subst hb;rw[zia] at e;cases e;exact⟨hz,its,nn,rv,kp b _ hDC ho⟩
  ·rw[zdb hb] at e;refine (J.hok b o e).stay (λc v hc q=>kp c v ?_ q) (λc q=>?_) λc xs q=>?_
   ·rintro rfl
    rcases hc with z|z
    ·rw[← z,nC] at e;cases e
    ·rw[nC] at z;cases z
   ·rw[zdb (zka q hn)];exact q
   ·rw[zdb (zka q hn)];exact q
 have os:=J.os;have bare:=J.bare;obtain⟨hh,g,d,t,os'⟩:=s';obtain rfl:os'=s.os:=os;have z:=I.call (h':=h') (g':=g) (d':=d) (t':=t) (ch:=fp) u2 hok bare λb hb=>⟨(hf b hb).2.2.2.1,(hf b hb).2.1,(hf b hb).2.2.2.2.1,(hf b hb).2.2.2.2.2⟩;exact z
theorem zolb {elt iter tg:Expr}{ifs:List Expr}{sc:Scope}{pos:Pos}{own cap:List Str}{js:List Nat}{g:TG}{tt:TT}{te:TE}{Qf:List V->Hp->Prop}{RR:Value->Addr->Result->Shared->Prop}{E:Value->Shared->Prop}
  {pins:List (Addr×Obj)} {σ:St} {H2:Hp} {s2:Shared} {it:Addr} {fp:List Addr} {tn:Nat->Heap->Prop} {J:It} {W:Nat->Nat->List V->Hp->Prop} {m0:Nat}
  (hc:X.calm=true) (S:zsb X sc) (cp:Caps X sc cap js)
  (hg:∀fp s H C,PG (blk X (own++cap) sc fp s H C) tg g) (ht:∀fp s H C,PTs (blk X (own++cap) sc fp s H C) ifs tt) (he:∀fp s H C,PE (blk X (own++cap) sc fp s H C) elt te)
  (I2:Inv X pins σ H2 s2) (T:Turn X.prog X.w X.K tg J fp it tn) (st2:tn 0 s2.heap) (f2:∀b∈fp,FpOk X pins H2 b) (w0:W 0 m0 [] H2)
  (turn:∀i m ys H,W i m ys H->(J.stop i H∧ys.length≤ywa∧Qf ys H) ∨
   (J.go i H∧ys.length≤ywa∧∃N:List V->Hp->Prop,(∀ys' H',N ys' H'->∃m',m'<m∧W (i+1) m' ys' H')∧∀x H',J.yld i H x H'->g x (zrf own.length js σ) H' fun σ2 H2=>σ2.drop own.length=(zrf own.length js σ).drop own.length∧tt σ2 H2 λb H3 =>
    if b=true then te σ2 H3 λy H4=>N (ys++[y]) H4 else N ys H3))
  (hRR:∀D C H4 s4 pn ys its nn,s2.heap.objs.size≤D->s2.heap.objs.size≤C->D≠C->Inv (blk X (own++cap) sc fp s2 H2 C) pn (zrf own.length js σ) H4 s4->H4 D=none->s4.heap.get? D=some { cls:=.type "list",data:=.seq its.toArray nn } →
   ys.length≤ywa->Vals ys its->Qf ys H4->RR (.ref D) C (.ok .next) s4) :
  wpAny (model X.prog X.w) X.A (newList []) (λacc s₃=>wpAny (model X.prog X.w) X.A (newFunctionEnv sc X.env.globals (clOf sc X.env.cells) [] X.env.qual none .none (some X.env)) (λcenv s₄ =>
   yqi (model X.prog X.w) X.A (.compStart (.ListComp elt [⟨tg,iter,ifs,0⟩] sc pos) 0 (.ref it) acc { cenv with scope:=yzp sc X.env }) (RR acc cenv.locals) s₄) E s₃) E s2:=by
 refine ycd (wpAny_newFunctionEnv S.cell (by intro y hy;simp at hy) (λh₁ hns₁ hsb₁=>?_) S.kind);dsimp only at hns₁ hsb₁ ⊢;generalize hH2:s2.heap.push { cls:=.type "list",dict:=none,data:=.seq ([]:List Value).toArray }=HH at hns₁ hsb₁ ⊢;generalize hDd:s2.heap.objs.size=D at hns₁ hsb₁ ⊢;generalize hCc:HH.objs.size=C at hns₁ hsb₁ ⊢;have hC:C=D+1:=by rw[← hCc,← hH2,ylc,hDd]
 have hDC:D≠C:=by rw[hC];exact yva (yie _)
 have hCle:s2.heap.objs.size≤C:=by rw[hDd,hC];exact yge _
 have hDle:s2.heap.objs.size≤D:=yrn hDd;have below:∀b,b<s2.heap.objs.size->b≠C∧b≠D:=λb hb=>⟨yva (yua hb hCle),yva (yua hb hDle)⟩;have old:∀b o,s2.heap.get? b=some o->h₁.get? b=some o:=λb o e=>hsb₁.extBut b o (below b (yna e)).1 (yca _ (hH2▸yca _ e));have q0:HH.get? D=some { cls:=.type "list",data:=.seq ([]:List Value).toArray 0 }:=by
  rw[← hH2,← hDd];exact yha _ rfl
 have hacc:h₁.get? D=some { cls:=.type "list",data:=.seq ([]:List Value).toArray 0 }:=hsb₁.extBut _ _ hDC (yca _ q0);have fpo:=T.obj 0 _ st2;have fplt:∀b∈fp,b<s2.heap.objs.size:=λb hb=>by obtain⟨o,e,_⟩:=fpo b hb;exact yna e
 have st3:tn 0 h₁:=T.keep 0 _ _ st2 λb hb o e=>old b o e;have I3:∀tk,Inv (blk X (own++cap) sc fp s2 H2 C) [] (zrf own.length js σ) H2 { s2 with heap:=h₁,toks:=tk }:=λtk=>znlb (s3:=s2) (tn:=tn) I2 S cp fpo f2 hCle hns₁ old;have stkD:∀b,s2.heap.objs.size≤b->b∉frs X.stack:=λb hb hm=>by
  obtain⟨_,o,e,_⟩:=I2.stack.mem hm;exact absurd (yua (yna e) hb) (yid _)
 have nD:H2 D=none:=I2.hok.fresh hDle;have stat:∀{pn:List (Addr×Obj)} {H':Hp},(∀p∈pn,p.1=D)->(∀b∈fp,H' b=none)->∀b∈fp,FpOk (blk X (own++cap) sc fp s2 H2 C) pn H' b:=λ{pn H'} hp hn b hb=>by
  refine⟨hn b hb,(below b (fplt b hb)).1,λz=>?_,.inl hb,λx c e=>?_,λp hp' z=>?_⟩
  ·obtain⟨_,h2,h3,_⟩:=f2 b hb
   rcases yka.mp (I2.zcfb b z) with q|q
   ·exact h2 q
   ·exact h3 q
  ·exact (f2 b hb).2.2.2.2.1 x c (zds sc.names [] (λx c e=>by simp at e) x c e)
  ·have e:=hp p (by simpa [blk] using hp');rw[e] at z;exact (below b (fplt b hb)).2 z.symm
 have pinD:∀{H':Hp} {s':Shared} {o:Obj},Inv (blk X (own++cap) sc fp s2 H2 C) [] (zrf own.length js σ) H' s'->H' D=none->s'.heap.get? D=some o->(∀v,o.data ≠ .cell v)->Inv (blk X (own++cap) sc fp s2 H2 C) [(D,o)] (zrf own.length js σ) H' s':=λ{H' s' o} I' n e d =>
  I'.zet λp hp=>by
   have q:p=(D,o):=(by simpa using hp);subst q;exact⟨e,n,hDC,stkD D hDle,d⟩
 have loop:∀s₃:Shared,s₃={ s2 with heap:=h₁,toks:=s2.toks+([]:List (Str×Value)).length } →
   yqi (model X.prog X.w) X.A (.compLoop (.ListComp elt [⟨tg,iter,ifs,0⟩] sc pos) 0 (.ref it) (.ref D) (compEnvC sc (clOf sc X.env.cells) C X.env)) (RR (.ref D) C) s₃:=by
  rintro s₃ rfl;refine zibb (λk s'=>Ex5 λi ys its nn H'=>Inv (blk X (own++cap) sc fp s2 H2 C) [] (zrf own.length js σ) H' s'∧tn i s'.heap∧(∀b∈fp,H' b=none)∧H' D=none ∧
   s'.heap.get? D=some { cls:=.type "list",data:=.seq its.toArray nn }∧Vals ys its∧W i k ys H') ?_ m0 ⟨0,[],[],0,H2,I3 _,st3,λb hb=>(f2 b hb).1,nD,hacc,.nil,w0⟩
  rintro k s3 ⟨i,ys,its,nn,H3,I3,st3,fr3,d3,o3,rv3,w3⟩;have I3':=pinD I3 d3 o3 (λv z=>by cases z);have only:∀p∈[(D,({ cls:=.type "list",data:=.seq its.toArray nn }:Obj))],p.1=D:=λp hp=>by
   rw[yia.mp hp]
  rcases turn i k ys H3 w3 with⟨stop,hz,qn⟩|⟨go,hz,N,hN,step⟩
  ·refine yne (T.done (blk X (own++cap) sc fp s2 H2 C) rfl rfl rfl hc i _ s3 _ H3 (λ_ _=>False) I3' (stat only fr3) st3 stop) (λr s4 ⟨hr,I4⟩=>?_) λ_ _ z=>z.elim;subst hr;have o4:=(I4.pin (D,_) (ywb _ (yia.mpr rfl))).1;exact hRR D C H3 s4 _ ys its nn hDle hCle hDC I4 d3 o4 hz rv3 qn
  ·refine yne (T.item (blk X (own++cap) sc fp s2 H2 C) rfl rfl rfl hc i _ s3 _ H3 (λ_ _=>False) I3' (stat only fr3) st3 go) (λr s4 ⟨u,hr,h4⟩=>?_) λ_ _ z=>z.elim;subst hr;refine yne h4 (λ_ s5 ⟨x,H5,I5,r5,y5,st5,fr5⟩=>?_) λ_ _ z=>z.elim;have I5':=I5.pinned (stat only fr5) (T.obj _ _ st5);refine yne (hg fp s2 H2 C _ s5 _ H5 x u _ I5' r5 (step x H5 y5)) (λ_ s6 ⟨σ6,H6,I6,d6,q6⟩=>?_) λ_ _ z=>z.elim;refine yne (ht fp s2 H2 C _ s6 σ6 H6 _ I6 q6) (λok s7 ⟨H7,I7,q7⟩=>?_) λ_ _ z=>z.elim;have memD:∀{o:Obj},(D,o)∈(blk X (own++cap) sc fp s2 H2 C).pn++([(D,o)]++zsv fp s5.heap):=ywb _ (yzc _ (yia.mpr rfl));have memF:∀{b:Addr} {o o':Obj},b∈fp->s5.heap.get? b=some o->(b,o)∈(blk X (own++cap) sc fp s2 H2 C).pn++([(D,o')]++zsv fp s5.heap):=λhb e=>ywb _ (ywb _ (zxp hb e));have σlen:(zrf own.length js σ).length=σ6.length:=by
    have a:=I6.len;have b:=I5.len;exact b.trans a.symm
   cases ok with
   | false =>
    have q7':N ys H7:=q7;obtain⟨m',hm,w7⟩:=hN _ _ q7';refine⟨m',hm,i+1,ys,its,nn,H7,(I7.zet λp hp=>absurd hp (by simp)).weak σlen (λj v e=>zlw d6 e),T.keep _ _ _ st5 λb hb o e=>(I7.pin (b,o) (memF hb e)).1,λb hb=>?_,(I7.pin (D,_) memD).2.1,(I7.pin (D,_) memD).1,rv3,w7⟩;obtain⟨o,e,_⟩:=T.obj _ _ st5 b hb;exact (I7.pin (b,o) (memF hb e)).2.1
   | true =>
    have q7':te σ6 H7 λy H4=>N (ys++[y]) H4:=q7;refine yne (he fp s2 H2 C _ s7 σ6 H7 _ I7 q7') (λyv s8 ⟨y,H8,I8,r8,n8'⟩=>?_) λ_ _ z=>z.elim;obtain⟨m',hm,w8⟩:=hN _ _ n8';have o8:=(I8.pin (D,_) memD).1;have n8:=(I8.pin (D,_) memD).2.1;refine append_at (hsz:=by rw[yoa,← rv3.length];exact hz) o8 λh9 hs9 hD9=>?_;have I8':=(I8.zet (pins':=[]) λp hp=>absurd hp (by simp)).weak σlen (λj v e=>zlw d6 e);have I9:=I8'.turned (h':=h9) (t':=s8.toks) (it:=D) (λb o hb e=>(hs9.2 b hb).trans e) n8 hDC (.inr hDle) (λx c e z=>by
     obtain⟨v,q⟩:=I2.cell x c (zds sc.names [] (λx c e=>by simp at e) x c e);exact absurd (yua q.lt (by rw[z];exact hDle)) (yid _)) (λp hp=>absurd (show p∈([]:List (Addr×Obj)) from hp) (by simp))
    refine⟨m',hm,i+1,ys++[y],its++[yv],nn+1,H8,I9,T.keep _ _ _ st5 λb hb o e=>(hs9.2 b (below b (fplt b hb)).2).trans (I8.pin (b,o) (memF hb e)).1,λb hb=>?_,n8,?_,rv3.snoc r8,w8⟩
    ·obtain⟨o,e,_⟩:=T.obj _ _ st5 b hb;exact (I8.pin (b,o) (memF hb e)).2.1
    ·rw[hD9,List.push_toArray]
 exact codeAny_compStart_list (loop _ rfl) (T.self X.A 0 _ _ _ st3 (loop _ rfl))
theorem zwc {elt iter tg:Expr}{ifs:List Expr}{sc:Scope}{pos:Pos}{own cap:List Str}{js:List Nat}{wi:TI}{g:TG}{tt:TT}{te:TE}(hc:X.calm=true)(S:zsb X sc)(cp:Caps X sc cap js)(hi:PI X tg iter wi)
  (hg:∀fp s H C,PG (blk X (own++cap) sc fp s H C) tg g) (ht:∀fp s H C,PTs (blk X (own++cap) sc fp s H C) ifs tt) (he:∀fp s H C,PE (blk X (own++cap) sc fp s H C) elt te)
  (hs:∀x,yam iter X.env x=pure x:=by intro _;rfl):PE X (.ListComp elt [⟨tg,iter,ifs,0⟩] sc pos) (znsb wi g tt te own.length js):=by
 intro pins s σ H Q I h;rw[eval_ListComp];refine ydm (use:=none) rfl hs (zjw λy hy hf=>I.ok.has y.1 (S.free y hy hf)) S.kind S.names (thn (hi pins s σ H _ I h) λv s1 h1=>thn h1 λitv s2 h2=>?_);obtain⟨it,fp,tn,J,H2,e,I2,T,st2,f2,W,⟨m0,w0⟩,turn⟩:=h2;subst e;refine zolb (RR:=λacc C=>compPost (model X.prog X.w) X.A X.xe none (EP X pins σ Q) acc C) (Qf:=λys H=>∀p,H p=none->Q (.ref p) (upd H p (.lst ys))) hc S cp hg ht he I2 T st2 f2 w0 turn ?_;intro D C H4 s4 pn ys its nn hD hC hDC I4 n4 o4 hz rv q;obtain⟨m,hn,_⟩:=I4.loc;exact⟨m,hn,λh' hs'=>⟨.ref D,upd H4 D (.lst ys),zplb I2 I4 f2 hC hD hDC n4 o4 hz rv hs',rfl,q D n4⟩⟩
end
def Its (x:Str):It:=⟨λi _=>i<x.cps.size,λi H v H'=>H'=H∧∃c,x.cps[i]?=some c∧v = .str ⟨#[c]⟩,λi _=>i=x.cps.size⟩
section
variable {X:Cx}{tg:Expr}
def iStr (tl:TE):TI:=fun σ H R=>tl σ H λv H1=>∃x,v = .str x∧R (Its x) H1
theorem zgs {P:yvb}{w:World}{K:yda}{tg:Expr}{ty:String}(x:Str)(t:Tok)(it:Addr)(hty:["enumerate","zip","dict_itemiterator","dict_reverseitemiterator","odict_iterator","itertools.zip_longest","itertools.pairwise"].contains ty=false)
  (W:∀A:Around,A.handled=none->Walks P w A it [it] [it] x.cps.size (SignAt x) (λi h=>h.IsStrIter it ty x t i))
  (hself:∀(A:Around) (i:Nat) (s:Shared) (Q:Value->Shared->Prop) (E:Value->Shared->Prop),s.heap.IsStrIter it ty x t i->Q (.ref it) s->wpAny (model P w) A (pyIter (.ref it)) Q E s) :
  Turn P w K tg (Its x) [it] it (λi h=>h.IsStrIter it ty x t i) where
 mem:=by simp
 obj:=λi h st b hb=>by
  have e:b=it:=by simpa using hb
  subst e;obtain⟨o,e,c,d⟩:=st;exact⟨o,e,λv z=>by rw[d] at z;cases z⟩
 keep:=λi h h' st k=>by
  obtain⟨o,e,r⟩:=st;exact⟨o,k it (by simp) o e,r⟩
 item:=by
  intro X hP hw hK hc i pins s σ H E I hf st hg;subst hP hw hK;obtain⟨f0,f1,f2,f3,f4,f5⟩:=hf it (by simp);refine (W X.A (I.ok.hd hc)).item i s _ _ hg st λv h' tk hv st' kk=>?_;obtain⟨c,u,hcx,rfl⟩:=hv;have I1:Inv X pins σ H { s with heap:=h',toks:=tk }:=I.turned (λb o hb e=>kk b o (by simpa using hb) e) f0 f1 f3 f4 f5;obtain⟨o,e,c',d⟩:=id st';exact⟨_,rfl,zokb (s:={ s with heap:=h',toks:=tk }) e c' d hty ⟨.str ⟨#[c]⟩,H,I1,⟨u,rfl⟩,⟨rfl,c,hcx,rfl⟩,st',λb hb=>(hf b hb).1⟩⟩
 done:=by
  intro X hP hw hK hc i pins s σ H E I hf st hg;subst hP hw hK;obtain⟨f0,f1,f2,f3,f4,f5⟩:=hf it (by simp);have le:i=x.cps.size:=hg;subst le;exact (W X.A (I.ok.hd hc)).done s _ _ st λh' tk kk=>⟨rfl,I.turned (λb o hb e=>kk b o (by simpa using hb) e) f0 f1 f3 f4 f5⟩
 self:=hself
theorem zpob {l:Expr}{tl:TE}(hl:PE X l tl):PI X tg l (iStr tl):=by
 intro pins s σ H R I h;refine thn (hl pins s σ H _ I h) λv s1 ⟨y,H1,I1,r1,q1⟩=>?_;obtain⟨x,e,q⟩:=q1;subst e;obtain⟨t,rfl⟩:=r1;have fp:∀b∈[s1.heap.objs.size],FpOk X pins H1 b:=λb hb=>by
  have e:b=s1.heap.objs.size:=by simpa using hb
  subst e;exact I1.fpOk (yga _) (I1.hok.fresh (yga _))
 cases ha:x.cps.all (· < 128)
 ·refine wpAny_pyIter_wide ha ?_;exact⟨s1.heap.objs.size,[s1.heap.objs.size],_,Its x,H1,rfl,I1.kept (t':=s1.toks) λb o e=>yca _ e,zgs x t _ (by decide) (λA hA=>Walks.strWide hA _ x t) (λA i s Q E st h=>wpAny_pyIter_striter_wide st h),⟨_,yha _ rfl,rfl,rfl⟩,fp,q⟩
 ·refine wpAny_pyIter_ascii ha ?_;exact⟨s1.heap.objs.size,[s1.heap.objs.size],_,Its x,H1,rfl,I1.kept (t':=s1.toks) λb o e=>yca _ e,zgs x t _ (by decide) (λA hA=>Walks.strAscii hA _ x t) (λA i s Q E st h=>wpAny_pyIter_striter_ascii st h),⟨_,yha _ rfl,rfl,rfl⟩,fp,q⟩
end
theorem zgy {J:It}{len:Nat}{x:Nat->V}{H1:Hp}{g:TG}{tt:TT}{te:TE}{n:Nat}{js:List Nat}{σ:St}{Q:VK}(Pv:Nat->List V->Hp->Prop)(hgo:∀i ys H,Pv i ys H->i<len->J.go i H)(hst:∀ys H,Pv len ys H->J.stop len H)
  (hy:∀i ys H v H',Pv i ys H->i<len->J.yld i H v H'->H'=H∧v=x i) (h0:Pv 0 [] H1) (hz:∀i ys H,Pv i ys H->ys.length≤ywa)
  (hs:∀i ys H,i<len->Pv i ys H->g (x i) (zrf n js σ) H fun σ2 H2=>σ2.drop n=(zrf n js σ).drop n∧tt σ2 H2 λb H3=>if b=true then te σ2 H3 λy H4=>Pv (i+1) (ys++[y]) H4 else Pv (i+1) ys H3)
  (hd:∀ys H,Pv len ys H->∀p,H p=none->Q (.ref p) (upd H p (.lst ys))):zncb J H1 g tt te n js σ Q:=by
 refine⟨λi m ys H=>m=len-i∧i≤len∧Pv i ys H,⟨len,by simp,yqb _,h0⟩,?_⟩;rintro i m ys H ⟨rfl,hi,p⟩
 by_cases hlt:i<len
 ·refine .inr ⟨hgo i ys H p hlt,hz i ys H p,Pv (i+1),λys' H' p'=>⟨len-(i+1),by omega,rfl,hlt,p'⟩,λv H' y=>?_⟩;obtain⟨e,ev⟩:=hy i ys H v H' p hlt y;subst e ev;exact hs i ys _ hlt p
 ·have e:i=len:=by omega
  subst e;exact .inl ⟨hst ys H p,hz _ ys H p,hd ys H p⟩
theorem zfob {t:Str}{H1:Hp}{g:TG}{tt:TT}{te:TE}{n:Nat}{js:List Nat}{σ:St}{Q:VK}(Pv:Nat->List V->Hp->Prop)(h0:Pv 0 [] H1)(hz:∀i ys H,Pv i ys H->ys.length≤ywa)
  (hs:∀i c ys H,t.cps[i]?=some c->Pv i ys H->g (.str ⟨#[c]⟩) (zrf n js σ) H fun σ2 H2=>σ2.drop n=(zrf n js σ).drop n∧tt σ2 H2 λb H3=>if b=true then te σ2 H3 λy H4=>Pv (i+1) (ys++[y]) H4 else Pv (i+1) ys H3)
  (hd:∀ys H,Pv t.cps.size ys H->∀p,H p=none->Q (.ref p) (upd H p (.lst ys))):zncb (Its t) H1 g tt te n js σ Q:=by
 refine zgy (len:=t.cps.size) (x:=λi=>.str ⟨#[t.cps.getD i 0]⟩) Pv (λi ys H _ h=>h) (λys H _=>rfl) (λi ys H v H' _ hlt y=>?_) h0 hz (λi ys H hlt p=>?_) hd
 ·obtain⟨e,c,hc,ev⟩:=y;refine⟨e,?_⟩;rw[ev,yif,hc];rfl
 ·have hc:t.cps[i]?=some (t.cps.getD i 0):=by
   rw[yif,yyb hlt];rfl
  exact hs i _ ys H hc p
theorem ztd {K:yda}{a:Addr}{xs:List V}{H1:Hp}{g:TG}{tt:TT}{te:TE}{n:Nat}{js:List Nat}{σ:St}{Q:VK}(Pv:Nat->List V->Hp->Prop)(hl:∀i ys H,Pv i ys H->SqL K H a xs)(h0:Pv 0 [] H1)(hz:∀i ys H,Pv i ys H->ys.length≤ywa)
  (hs:∀i x ys H,xs[i]?=some x->Pv i ys H->g x (zrf n js σ) H fun σ2 H2=>σ2.drop n=(zrf n js σ).drop n∧tt σ2 H2 λb H3=>if b=true then te σ2 H3 λy H4=>Pv (i+1) (ys++[y]) H4 else Pv (i+1) ys H3)
  (hd:∀ys H,Pv xs.length ys H->∀p,H p=none->Q (.ref p) (upd H p (.lst ys))):zncb (Itl K a) H1 g tt te n js σ Q:=by
 refine zgy (len:=xs.length) (x:=λi=>xs.getD i .non) Pv (λi ys H p hlt=>⟨xs,xs[i],hl i ys H p,by simp[hlt]⟩) (λys H p=>⟨xs,hl _ ys H p,yga _⟩) (λi ys H v H' p hlt y=>?_) h0 hz (λi ys H hlt p=>?_) hd
 ·obtain⟨e,y⟩:=y;refine⟨e,?_⟩;rw[yza,y xs (hl i ys H p)];rfl
 ·refine hs i _ ys H ?_ p;rw[yza,yma hlt];rfl
theorem zcs {K:yda}{a:Addr}{xs:List V}{H1:Hp}{g:TG}{tt:TT}{te:TE}{n:Nat}{js:List Nat}{σ:St}{Q:VK}(Pv:Nat->List V->Hp->Prop)(hl:∀i ys H,Pv i ys H->SqT K H a xs)(h0:Pv 0 [] H1)(hz:∀i ys H,Pv i ys H->ys.length≤ywa)
  (hs:∀i x ys H,xs[i]?=some x->Pv i ys H->g x (zrf n js σ) H fun σ2 H2=>σ2.drop n=(zrf n js σ).drop n∧tt σ2 H2 λb H3=>if b=true then te σ2 H3 λy H4=>Pv (i+1) (ys++[y]) H4 else Pv (i+1) ys H3)
  (hd:∀ys H,Pv xs.length ys H->∀p,H p=none->Q (.ref p) (upd H p (.lst ys))):zncb (Itt K a) H1 g tt te n js σ Q:=by
 refine zgy (len:=xs.length) (x:=λi=>xs.getD i .non) Pv (λi ys H p hlt=>⟨xs,xs[i],hl i ys H p,by simp[hlt]⟩) (λys H p=>⟨xs,hl _ ys H p,yga _⟩) (λi ys H v H' p hlt y=>?_) h0 hz (λi ys H hlt p=>?_) hd
 ·obtain⟨e,y⟩:=y;refine⟨e,?_⟩;rw[yza,y xs (hl i ys H p)];rfl
 ·refine hs i _ ys H ?_ p;rw[yza,yma hlt];rfl
theorem zdm {lo:Int}{len:Nat}{H1:Hp}{g:TG}{tt:TT}{te:TE}{n:Nat}{js:List Nat}{σ:St}{Q:VK}(Pv:Nat->List V->Hp->Prop)(h0:Pv 0 [] H1)(hz:∀i ys H,Pv i ys H->ys.length≤ywa)
  (hs:∀i ys H,i<len->Pv i ys H->g (.int (lo+i)) (zrf n js σ) H fun σ2 H2=>σ2.drop n=(zrf n js σ).drop n∧tt σ2 H2 λb H3=>if b=true then te σ2 H3 λy H4=>Pv (i+1) (ys++[y]) H4 else Pv (i+1) ys H3)
  (hd:∀ys H,Pv len ys H->∀p,H p=none->Q (.ref p) (upd H p (.lst ys))):zncb (Itr lo len) H1 g tt te n js σ Q :=
 zgy (len:=len) (x:=λi=>.int (lo+i)) Pv (λi ys H _ h=>h) (λys H _=>yga _) (λi ys H v H' _ hlt y=>y) h0 hz (λi ys H hlt p=>hs i ys H hlt p) hd
section
variable {X:Cx}
def rSlS:V->Option Int->Option Int->Hp->VK->Prop:=λx lo hi H Q=>∃t,x = .str t∧t.length≤ywa∧∀t',t'=yyn t lo hi->t'.length≤t.length->Q (.str t') H
theorem zoob:SlR X rSlS:=by
 intro pins s σ H x v vl vu lo hi sl Q I rx hs pl pu h;obtain⟨t,rfl,hz,q⟩:=h;obtain⟨tk,rfl⟩:=rx;have fin:∀{l u:Option (Int×Tok)},l.map (·.1)=lo->u.map (·.1)=hi->(∀k t',EP X pins σ Q (.str (yyn t (l.map (·.1)) (u.map (·.1))) t') { s with toks:=k }):=λ{l u} e1 e2 k t' =>
  ⟨.str _,H,I.tok k,⟨t',rfl⟩,by rw[e1,e2];exact q _ rfl (PyProof.Txt.length_slice_le t _ _)⟩
 refine⟨"str",_,F.slot_str_getitem.lookup,ycm _ _ _,?_⟩;cases pl with
 | none =>
  cases pu with
  | none=>exact yzg (l:=none) (u:=none) (st:=none) hs rfl (yrk ⟨ymb (yzn t _ _) hz,λt' k=>fin (l:=none) (u:=none) rfl rfl k t'⟩)
  | int j tj=>exact yzg (l:=none) (u:=some (j,tj)) (st:=none) hs rfl (yrk ⟨ymb (yzn t _ _) hz,λt' k=>fin (l:=none) (u:=some (j,tj)) rfl rfl k t'⟩)
 | int i ti =>
  cases pu with
  | none=>exact yzg (l:=some (i,ti)) (u:=none) (st:=none) hs rfl (yrk ⟨ymb (yzn t _ _) hz,λt' k=>fin (l:=some (i,ti)) (u:=none) rfl rfl k t'⟩)
  | int j tj=>exact yzg (l:=some (i,ti)) (u:=some (j,tj)) (st:=none) hs rfl (yrk ⟨ymb (yzn t _ _) hz,λt' k=>fin (l:=some (i,ti)) (u:=some (j,tj)) rfl rfl k t'⟩)
theorem ziib:∀{bs:List Bool} {us:List Value},Vals (bs.map V.bl) us->us=bs.map Value.bool
 | [],us,r=>by rw[ycf] at r;cases r;rfl
 | b::bs,us,r=>by
  rw[yib] at r;cases r with
  | cons r1 r2=>rw[yib,ziib r2,show _=Value.bool b from r1]
theorem zoy (hc:X.calm=true):zqg X (.builtin "all") (λxs H Q=>Ex2 λ(a:Addr) (bs:List Bool)=>xs=[.ref a]∧SqL X.K H a (bs.map V.bl)∧Q (.bl (bs.all id)) H):=by
 intro pins s σ H xs us Q I r h;obtain⟨a,bs,rfl,hq,q⟩:=h;obtain⟨u,rfl,ru⟩:=vals1 r;cases ru;obtain⟨its,rv,p,hz⟩:=I.list hq;have e:=ziib rv;have hlt:a<s.heap.objs.size:=by obtain⟨o,n,e,_⟩:=p;exact yna e
 refine call_all_walk (yij p.isList ?_);refine⟨s.heap.objs.size,_,_,_,_,_,λi=>bs.getD i true,rfl,Walks.list (show X.A.in1.handled=none from I.ok.hd hc) s.heap.objs.size a (yva hlt) its.toArray,⟨⟨_,yha _ rfl,rfl,rfl⟩,p.isList.push _⟩,?_,?_⟩
 ·intro i v s' Q' E' hP hQ;have hP':its[i]?=some v:=by simpa using hP
  rw[e,yqa] at hP';cases z:bs[i]? with
  | none=>rw[z] at hP';cases hP'
  | some b =>
   rw[z] at hP';have ev:Value.bool b=v:=yjc hP';subst ev;have hQ':Q' (bs.getD i true) s':=hQ;rw[yza,z] at hQ';exact yee hQ'
 ·intro h' tk kk;refine⟨.bl _,H,I.kept (t':=tk) λb o e=>kk b o (λz=>?_) (yca _ e),?_,q⟩
  ·have z':b=s.heap.objs.size:=by simpa using z
   exact absurd (yna e) (by rw[z'];exact yid _)
  ·show Value.bool _=Value.bool _
   congr 1
   rw[yoa,e,yba];have go:∀l:List Bool,(ypb l.length).all (λi=>l.getD i true)=l.all id:=λl=>by
    have q:=range_getD l true;have e2:((ypb l.length).map λj=>l.getD j true).all id=(ypb l.length).all λi=>l.getD i true:=by
     rw[List.all_map];rfl
    rw[← e2,q]
   exact go bs
theorem zen:zqg X (.builtin "isinstance") (λxs H Q=>Ex4 λx c t b=>xs=[x,c]∧TyOf X.K H x t∧((∃n,c = .ty n∧yrc X.K t (.type n)=some b)∨(∃a,c = .ref a∧yrc X.K t (.ref a)=some b))∧Q (.bl b) H):=by
 intro pins s σ H xs us Q I r h;obtain⟨x,c,t,b,rfl,ty,hc,q⟩:=h;obtain⟨u,u',rfl,r1,r2⟩:=vals2 r
 rcases hc with⟨n,rfl,e⟩|⟨a,rfl,e⟩
 ·cases (show u'=Value.type n from r2);exact zzab I r1 ty e λtk=>⟨.bl b,H,I.tok tk,rfl,q⟩
 ·cases (show u'=Value.ref a from r2);exact zzab I r1 ty e λtk=>⟨.bl b,H,I.tok tk,rfl,q⟩
mutual
inductive DV (K:yda)(H:Hp):V->PyData->Prop where
 | non:DV K H .non .none
 | bl (b:Bool):DV K H (.bl b) (.bool b)
 | int (i:Int):DV K H (.int i) (.int i)
 | str (x:Str):DV K H (.str x) (.str x)
 | lst {a:Addr} {xs:List V} {ds:List PyData}:SqL K H a xs->DVs K H xs ds->DV K H (.ref a) (.list ds)
 | tup {a:Addr} {xs:List V} {ds:List PyData}:SqT K H a xs->DVs K H xs ds->DV K H (.ref a) (.tuple ds)
inductive DVs (K:yda)(H:Hp):List V->List PyData->Prop where
 | nil:DVs K H [] []
 | cons {x:V} {d:PyData} {xs:List V} {ds:List PyData}:DV K H x d->DVs K H xs ds->DVs K H (x::xs) (d::ds)
end
mutual
theorem DV.reads {pins:List (Addr×Obj)}{σ:St}{H:Hp}{s:Shared}(I:Inv X pins σ H s):∀{x:V} {d:PyData} {u:Value},DV X.K H x d->RelV x u->∃as,Reads s.heap u d as
 | _,_,_,.non,r=>by cases r;exact⟨_,.none⟩
 | _,_,_,.bl b,r=>by cases r;exact⟨_,.bool b⟩
 | _,_,_,.int i,r=>by obtain⟨t,rfl⟩:=r;exact⟨_,.int i t⟩
 | _,_,_,.str x,r=>by obtain⟨t,rfl⟩:=r;exact⟨_,.str x t⟩
 | _,_,_,.lst hq hs,r=>by
  cases r;obtain⟨its,rv,⟨o,n,e,c,_,d⟩,_⟩:=I.list hq;obtain⟨as,q⟩:=hs.reads I rv;exact⟨_,.list e c d (by simpa using q)⟩
 | _,_,_,.tup hq hs,r=>by
  cases r;obtain⟨its,rv,⟨o,e,c,n,d⟩,_⟩:=I.tuple hq;obtain⟨as,q⟩:=hs.reads I rv;exact⟨_,.tuple e c d (by simpa using q)⟩
theorem DVs.reads {pins:List (Addr×Obj)}{σ:St}{H:Hp}{s:Shared}(I:Inv X pins σ H s):∀{xs:List V} {ds:List PyData} {us:List Value},DVs X.K H xs ds->Vals xs us->∃as,ReadsAll s.heap us ds as
 | _,_,_,.nil,.nil=>⟨_,.nil⟩
 | _,_,_,.cons h hs,.cons r rs=>by
  obtain⟨as,q⟩:=h.reads I r;obtain⟨bs,p⟩:=hs.reads I rs;exact⟨_,.cons q p⟩
end
theorem zmtb (hu:X.A.units+64<cLine):OpR X (yte .Eq) (λx y H Q=>Ex2 λd e=>DV X.K H x d∧DV X.K H y e∧yke d=true∧yke e=true∧Q (.bl (yig d e)) H):=by
 intro pins s σ H x y v u Q I rx ry h;obtain⟨d,e,hd,he,s1,s2,q⟩:=h;obtain⟨as,r1⟩:=hd.reads I rx;obtain⟨bs,r2⟩:=he.reads I ry;exact eq_dataH r1 r2 s1 s2 hu ⟨.bl _,H,I,rfl,q⟩
theorem zro (hu:X.A.units+64<cLine):OpR X (yte .NotEq) (λx y H Q=>Ex2 λd e=>DV X.K H x d∧DV X.K H y e∧yke d=true∧yke e=true∧Q (.bl (!PyData.eqv d e)) H):=by
 intro pins s σ H x y v u Q I rx ry h;obtain⟨d,e,hd,he,s1,s2,q⟩:=h;obtain⟨as,r1⟩:=hd.reads I rx;obtain⟨bs,r2⟩:=he.reads I ry;exact ne_dataH r1 r2 s1 s2 hu ⟨.bl _,H,I,rfl,q⟩
end
end L2
namespace L2
open PySem PyProof.Rows
set_option genInjectivity false in
structure Gf (K:yda)(mg:Str->Option Value)(x q:Str)(st:Stmt) where
 f:Addr
 d:ypf
 F:Fun K x q st f d
 m:mg x=some (.ref f)
set_option genInjectivity false in
structure Mf (K:yda)(C:Addr)(x q:Str)(st:Stmt) where
 f:Addr
 d:ypf
 F:Fun K x q st f d
 M:Meth K C x f
set_option genInjectivity false in
structure If (K:yda)(C:Addr)(x q:Str)(st:Stmt) where
 f:Addr
 d:ypf
 F:Fun K x q st f d
 M:Mk K C f
section
variable {K:yda}{mg:Str->Option Value}{h:Heap}{C f:Addr}{x q:Str}{st:Stmt}{oc:Value}{od an:Option Addr}{sl:Array (Option Value)}{kV dc pm cd ct:Value}
def gf_of (X:K.In h)(G:h.Ns yab mg)(a:ycb K yab x=some (some (.ref f)))
  (l:K.lookup f=some ⟨oc,od,.func (yug x q (zcn st) (zii st) (zja st) .none kV dc pm an cd ct),sl⟩) (c:yxh K cd q=true) (k:ybf K (.ref f)=true):Gf K mg x q st :=
 ⟨f,_,zpkb l c k,ynb X G a⟩
def mf_of (a:ykb K (.ref C) x=some (some (.ref f)))(i:yjl K (.ref f)=true)
  (l:K.lookup f=some ⟨oc,od,.func (yug x q (zcn st) (zii st) (zja st) .none kV dc pm an cd ct),sl⟩) (c:yxh K cd q=true) (k:ybf K (.ref f)=true):Mf K C x q st :=
 ⟨f,_,zpkb l c k,⟨a,i,k⟩⟩
def if_of (a:ykb K (.ref C) "__init__" = some (some (.ref f)))(i:yjl K (.ref f)=true)
  (l:K.lookup f=some ⟨oc,od,.func (yug x q (zcn st) (zii st) (zja st) .none kV dc pm an cd ct),sl⟩) (c:yxh K cd q=true) (k:ybf K (.ref f)=true)
  (mk:yqn K C=true) (kc:ybf K (.ref C)=true):If K C x q st :=
 ⟨f,_,zpkb l c k,⟨mk,a,i,kc⟩⟩
theorem zytb {fa:Addr}(g:Gf K mg x q st)(e:mg x=some (.ref fa)):g.f=fa:=by
 have z:=g.m.symm.trans e;injection z with z
 injection z
end
section
variable {P:yvb}{w:World}{K:yda}{mg:Str->Option Value}{base:Heap}{C:Addr}{x q:Str}{st:Stmt}{N ps:List Str}{k:Nat}{sp:Sp}
theorem Gf.ok (g:Gf K mg x q st)(S:zua N ps (zja st))
  (hb:∀(f:Addr) (cdv:Value) (A:Around) (outer:List Env) (s:Shared) (H:Hp) (vs:List V) (Q:VK) (E:XK),Room k (A.deeper (envOfC q (zja st) s.heap.objs.size f cdv))->sp vs H Q E->let X:=(cxOf CX0 P w K mg base N q (zja st) f cdv A outer s H E).nox;∃t,PSs X (zii st) t∧t { nx:=λ_ H'=>Q .non H',rt:=Q } (start N vs) H)
  (len:∀vs H Q E,sp vs H Q E->vs.length=ps.length:=by intro _ _ _ _ h;cases h;rename_i h;rw[h.1];rfl):FnOk P w K mg base CX0 (k+1) g.f g.d ps sp:=g.F.ok S len (hb g.f)
theorem Mf.ok (g:Mf K C x q st)(S:zua N ps (zja st))
  (hb:∀(f:Addr) (cdv:Value) (A:Around) (outer:List Env) (s:Shared) (H:Hp) (vs:List V) (Q:VK) (E:XK),Room k (A.deeper (envOfC q (zja st) s.heap.objs.size f cdv))->sp vs H Q E->let X:=(cxOf CX0 P w K mg base N q (zja st) f cdv A outer s H E).nox;∃t,PSs X (zii st) t∧t { nx:=λ_ H'=>Q .non H',rt:=Q } (start N vs) H)
  (len:∀vs H Q E,sp vs H Q E->vs.length=ps.length:=by intro _ _ _ _ h;cases h;rename_i h;rw[h.1];rfl):FnOk P w K mg base CX0 (k+1) g.f g.d ps sp:=g.F.ok S len (hb g.f)
theorem If.ok (g:If K C x q st)(S:zua N ps (zja st))
  (hb:∀(f:Addr) (cdv:Value) (A:Around) (outer:List Env) (s:Shared) (H:Hp) (vs:List V) (Q:VK) (E:XK),Room k (A.deeper (envOfC q (zja st) s.heap.objs.size f cdv))->sp vs H Q E->let X:=(cxOf CX0 P w K mg base N q (zja st) f cdv A outer s H E).nox;∃t,PSs X (zii st) t∧t { nx:=λ_ H'=>Q .non H',rt:=Q } (start N vs) H)
  (len:∀vs H Q E,sp vs H Q E->vs.length=ps.length:=by intro _ _ _ _ h;cases h;rename_i h;rw[h.1];rfl):FnOk P w K mg base CX0 (k+1) g.f g.d ps sp:=g.F.ok S len (hb g.f)
theorem FnOk.up {f:Addr}{d:ypf}{m:Nat}(h:FnOk P w K mg base CX0 k f d ps sp)(le:k≤m:=by first|decide|omega):FnOk P w K mg base CX0 m f d ps sp:=h.mono le
end
theorem sz0:0≤ywa:=by decide
theorem sz1:1≤ywa:=by decide
theorem sz2:2≤ywa:=by decide
theorem sz3:3≤ywa:=by decide
theorem sz4:4≤ywa:=by decide
theorem sz5:5≤ywa:=by decide
theorem sz7:7≤ywa:=by decide
def scB (N P:List Str)(sc:Scope):Bool :=
 decide (sc.kind = .function)&&(!sc.isCoroutine&&(!sc.isGenerator&&(decide N.Nodup&&(decide (N.take P.length=P) &&
  (P.all (λx=>decide (sc.names.lookup x=some .local∨sc.names.lookup x=some .cell))&&sc.names.all λy=>decide (y.2 ≠ .free))))))
theorem scOf {N P:List Str}{sc:Scope}(h:scB N P sc=true):zua N P sc:=by
 unfold scB at h;simp only[ytc,Bool.not_eq_true',decide_eq_true_eq,yvf] at h;obtain⟨a,b,c,d,e,f,g⟩:=h;exact⟨a,b,c,d,e,f,g⟩
end L2
namespace L2
open PySem PySem.Spec PyProof.Rows
section
variable {X:Cx}
theorem znj:∀{ys:List Str} {us:List Value},Vals (ys.map V.str) us->ytl us ys
 | [],us,r=>by rw[ycf] at r;cases r;exact .nil
 | y::ys,us,r=>by
  rw[yib] at r;cases r with
  | cons r1 r2 =>
   obtain⟨t,e⟩:=r1;subst e;exact .cons y t (znj r2)
theorem zez:∀l:List (Str×Tok),Vals ((l.map (·.1)).map V.str) (strValues l)
 | []=>.nil
 | (x,t)::r=>.cons ⟨t,rfl⟩ (zez r)
theorem zym:MtR X "str.join" (λx xs H Q=>Ex3 λsep a ys=>x = .str sep∧xs=[.ref a]∧SqL X.K H a (ys.map V.str)∧(ys.map (·.length)).sum+ys.length*sep.length≤16777216∧Q (.str (yya sep ys)) H):=by
 intro pins s σ H x xs v us Q I rx rs h;obtain⟨sep,a,ys,rfl,rfl,hq,hz,q⟩:=h;obtain⟨t,rfl⟩:=rx;obtain⟨u,rfl,ru⟩:=vals1 rs;cases ru;obtain⟨its,rv,p,_⟩:=I.list hq;refine join_list (items:=its.toArray) (ys:=ys) p.isList (by simpa using znj rv) hz λt' k=>⟨.str _,H,I.tok k,⟨t',rfl⟩,?_⟩;have e:Txt.join sep ys=yya sep ys:=by first|rfl|exact yao sep ys
 rw[e];exact q
theorem zpx:MtR X "str.split" (λx xs H Q=>Ex2 λt y=>x = .str t∧xs=[.str y]∧(y.length==0)=false∧t.length+2≤ywa∧∀l,H l=none->Q (.ref l) (upd H l (.lst ((yjf t y).map V.str)))):=by
 intro pins s σ H x xs v us Q I rx rs h;obtain⟨x,y,rfl,rfl,hy,hsz,q⟩:=h;obtain⟨t,rfl⟩:=rx;obtain⟨u,rfl,ru⟩:=vals1 rs;obtain⟨tu,rfl⟩:=ru;have hn:(yjg x (yjd x y 0 x.length (x.length+1)) y.length).length≤ywa:=by
  have e1:=StrLaws.occ_length_le x y 0 x.length (x.length+1);rw[length_partsBetween];omega
 have fin:∀(l:List (Str×Tok)) (k:Nat),l.map (·.1)=yjf x y->l.length≤ywa->EP X pins σ Q (.ref s.heap.objs.size) { s with heap:=s.heap.push { cls:=.type "list",data:=.seq (strValues l).toArray },toks:=k }:=λl k e hl=>by
  refine⟨.ref s.heap.objs.size,upd H s.heap.objs.size (.lst ((yjf x y).map V.str)),I.laid (t':=k) (λb o e=>yca _ e) (yga _) ⟨?_,strValues l,_,?_,yha _ rfl⟩,rfl,q _ (I.hok.fresh (yga _))⟩
  ·rw[← e,yba,yba];exact hl
  ·rw[← e];exact zez l
 cases h1:(decide (x.length<y.length)||decide (yhi x<yhi y))
 ·cases hf:(yjd x y 0 x.length (x.length+1)).isEmpty
  ·refine ynj ycn (ycm _ _ _) yem (yll _ _) (meets_str_split_sep x y t tu h1 hy hf (by omega) hn) ?_;show wants _ _ _ { s with toks:=_,heap:=s.heap.push { cls:=.type "list",data:=.seq (strsFrom s.toks (yjg x (yjd x y 0 x.length (x.length+1)) y.length)).toArray } }
   rw[strsFrom_eq];refine fin (numbered s.toks _) _ ((numbered_texts _ _).trans ((if_neg (ne_true_of_eq_false h1)).trans (if_neg (ne_true_of_eq_false hf))).symm) ?_;have e:=congrArg yvg (numbered_texts s.toks (yjg x (yjd x y 0 x.length (x.length+1)) y.length));rw[yba] at e;omega
  ·exact ynj ycn (ycm _ _ _) yem (yll _ _) (meets_str_split_not_found x y t tu h1 hy hf)
    (fin [(x,t)] s.toks ((if_neg (ne_true_of_eq_false h1)).trans (if_pos hf)).symm (by show 1≤ywa;decide))
 ·exact ynj ycn (ycm _ _ _) yem (yll _ _) (meets_str_split_cannot_occur x y t tu h1)
   (fin [(x,t)] s.toks (if_pos h1).symm (by show 1≤ywa;decide))
theorem zkbb:zqg X (.type "str") (λxs H Q=>∃x,xs=[.str x]∧Q (.str x) H):=by
 intro pins s σ H xs us Q I r h;obtain⟨x,rfl,q⟩:=h;obtain⟨u,rfl,t,rfl⟩:=vals1 r;exact PySem.P.str_of_str ⟨.str x,H,I,⟨t,rfl⟩,q⟩
theorem zny:zqg X (.type "int") (λxs H Q=>Ex2 λx n=>xs=[.str x]∧PySem.intText? x=some n∧x.length≤640∧Q (.int n) H):=by
 intro pins s σ H xs us Q I r h;obtain⟨x,n,rfl,hn,hl,q⟩:=h;obtain⟨u,rfl,t,rfl⟩:=vals1 r;exact PySem.W.KIN.call_text hn hl ⟨.int n,H,I.tok _,⟨_,rfl⟩,q⟩
theorem zkqb {i:Nat}{x:Str}{elt iter tg:Expr}{ifs:List Expr}{sc:Scope}{pos spos pos':Pos}{own cap:List Str}{js:List Nat}{wi:TI}{g:TG}{tt:TT}{te:TE}(hN:X.N.Nodup)(hix:X.N[i]?=some x)(hx:Loc X.env.scope x)
  (hc:X.calm=true) (S:zsb X sc) (cp:Caps X sc cap js) (hi:PI X tg iter wi)
  (hg:∀fp s H C,PG (blk X (own++cap) sc fp s H C) tg g) (ht:∀fp s H C,PTs (blk X (own++cap) sc fp s H C) ifs tt) (he:∀fp s H C,PE (blk X (own++cap) sc fp s H C) elt te)
  (hsw:ytq (.ListComp elt [⟨tg,iter,ifs,0⟩] sc pos) (some (.Name x pos')) spos.line X.env=pure true:=by rfl) (hs:∀x,yam iter X.env x=pure x:=by intro _;rfl)
  (hf:X.fn x=true∨X.env.scope.names.lookup x=some .local:=by first|exact .inl rfl|exact .inr rfl|assumption) :
  PS X (.Assign [.Name x pos'] (.ListComp elt [⟨tg,iter,ifs,0⟩] sc pos) spos) (tAsg (znsb wi g tt te own.length js) (zbob i)):=by
 intro pins s σ H D I h;rw[exec_Assign_Name_used _ _ _ _ hsw];refine yaa (yep (yaa ?_));show wpAny _ X.A (do let _ ← comprehension (.ListComp elt [⟨tg,iter,ifs,0⟩] sc pos) sc X.env _ (newList []) false (eval iter X.env) (some (assign (.Name x pos') X.env))) _ _ s
 refine yaa (yne (ydm (use:=some (assign (.Name x pos') X.env)) (Q:=λ_ s'=>SP X pins D .next s') rfl hs (zjw λy hy hf=>I.ok.has y.1 (S.free y hy hf)) S.kind S.names
  (thn (hi pins s σ H _ I h) λv s1 h1=>thn h1 λitv s2 h2=>?_)) (λ_ s' hq=>yfa (yfa hq)) λ_ _ e=>e)
 obtain⟨it,fp,tn,J,H2,e,I2,T,st2,f2,W,⟨m0,w0⟩,turn⟩:=h2;subst e;refine zolb (RR:=λacc C=>compPost (model X.prog X.w) X.A X.xe (some (assign (.Name x pos') X.env)) (λ_ s'=>SP X pins D .next s') acc C) (Qf:=λys H=>∀p,H p=none->D.nx (σ.set i (some (.ref p))) (upd H p (.lst ys))) hc S cp hg ht he I2 T st2 f2 w0 turn ?_;intro DD C H4 s4 pn ys its nn hD hC hDC I4 n4 o4 hz rv q;have I5:Inv X pins σ (upd H4 DD (.lst ys)) s4:=zplb (h':=s4.heap) I2 I4 f2 hC hD hDC n4 o4 hz rv (yfm ..);obtain⟨m,hn,_⟩:=I4.loc;have hn':s4.heap.Ns C m:=hn;show wpAny _ X.A (assign (.Name x pos') X.env (.ref DD)) _ _ s4
 refine wpAny_assign_Name (zfz I5 hN hix hx (v:=.ref DD) (u:=.ref DD) rfl (λs6 I6 ⟨a,hsb,ha⟩=>?_) hf);have lt2:X.env.locals<s2.heap.objs.size:=I2.lt;have cellC:∀y c,X.env.cells.lookup y=some c->c≠C:=λy c e=>by
  obtain⟨v,z⟩:=I2.cell y c e;exact yva (yua z.lt hC)
 have aC:C≠a:=by
  rcases ha with rfl|ha
  ·exact ytg (yua lt2 hC)
  ·exact ywc (cellC _ _ ha)
 refine⟨m,hn'.sameBut hsb aC,λh' hs'=>?_⟩;have nC:(upd H4 DD (.lst ys)) C=none:=by rw[zdb (ywc hDC)];exact I4.free
 have I7:=I6.turned (h':=h') (t':=s6.toks) (it:=C) (λb o hb e=>(hs'.2 b hb).trans e) nC (ytg (yua lt2 hC)) (.inr (ymb I2.sz hC)) cellC (λp hp=>by
  exact yva (yua (yna (I2.pin p hp).1) hC))
 exact⟨_,_,I7,q DD n4⟩
def Itv (K:yda)(a:Addr)(xs:List V):It :=
 ⟨λi H=>SqL K H a xs∧i<xs.length,λi H x H'=>H'=H∧xs[xs.length-1-i]?=some x,λi H=>SqL K H a xs∧i=xs.length⟩
def iRev (K:yda)(ta:TA):TI:=fun σ H R=>ta σ H λvs H1=>Ex2 λa xs=>vs=[.ref a]∧SqL K H1 a xs∧R (Itv K a xs) H1
theorem zcmb {P:yvb}{w:World}{K:yda}{tg:Expr}(a it:Addr)(xs:List V):Turn P w K tg (Itv K a xs) [it] it (λi h=>i≤xs.length∧h.IsRevIter it a ((xs.length:Int)-1-(i:Int))) where
 mem:=by simp
 obj:=λi h st b hb=>by
  have e:b=it:=by simpa using hb
  subst e;obtain⟨_,o,e,c,d⟩:=st;exact⟨o,e,λv z=>by rw[d] at z;cases z⟩
 keep:=λi h h' st k=>⟨st.1,st.2.at λo e=>k it (by simp) o e⟩
 item:=by
  intro X hP hw hK hc i pins s σ H E I hf st hg;subst hP hw hK;obtain⟨hq,hlt⟩:=hg;obtain⟨f0,f1,f2,f3,f4,f5⟩:=hf it (by simp);obtain⟨its,rv,p,hz⟩:=I.list hq;have hl:=rv.length;have hx:xs[xs.length-1-i]?=some (xs[xs.length-1-i]'(by omega)):=yma (by omega);obtain⟨u,hu,ru⟩:=rv.get hx;have hit:=st.2;rw[show (xs.length:Int)-1-(i:Int)=((xs.length-1-i:Nat):Int) by omega] at hit;refine wpAny_pyNext_rev_item hit p.isList (x:=u) (by simpa using hu) λh' hit' hs'=>?_;rw[show ((xs.length-1-i:Nat):Int)-1=(xs.length:Int)-1-((i+1:Nat):Int) by omega] at hit';have I1:Inv X pins σ H { s with heap:=h' }:=I.turned (t':=s.toks) (λb o hb e=>(hs'.2 b hb).trans e) f0 f1 f3 f4 f5;obtain⟨o,e,c',d⟩:=id hit';exact⟨u,rfl,zokb (s:={ s with heap:=h' }) e c' d (by decide) ⟨_,H,I1,ru,⟨rfl,hx⟩,⟨hlt,hit'⟩,λb hb=>(hf b hb).1⟩⟩
 done:=by
  intro X hP hw hK hc i pins s σ H E I hf st hg;subst hP hw hK;obtain⟨hq,e⟩:=hg;obtain⟨f0,f1,f2,f3,f4,f5⟩:=hf it (by simp);have hit:=st.2;rw[show (xs.length:Int)-1-(i:Int) = -1 by omega] at hit;exact wpAny_pyNext_rev_end (I.ok.hd hc) hit λh' he'=>⟨rfl,I.turned (t':=s.toks) (λb o hb e=>he' b o hb e) f0 f1 f3 f4 f5⟩
 self:=λ_ _ _ _ _ st h=>wpAny_pyIter_revIter st.2 h
theorem boot_reversed:ykh "reversed" = some (.type "reversed"):=by decide +kernel
theorem zxcb {tg a:Expr}{ta:TA}{p pos:Pos}(hg:Gl X "reversed")(hm:X.mg "reversed" = none)(ha:PA X [a] ta)(hs:yxc [a] X.env=[(false,eval a X.env)]:=by rfl):PI X tg (.Call (.Name "reversed" p) [a] [] pos) (iRev X.K ta):=by
 intro pins s σ H R I h;refine Call_ (zir I hg hm boot_reversed (yod (thn (ha pos pins s σ H _ I h) λus s1 ⟨vs,H1,I1,r1,q1⟩=>?_) hs rfl));obtain⟨b,xs,e,hq,q⟩:=q1;subst e;obtain⟨u,rfl,ru⟩:=vals1 r1;cases ru;obtain⟨its,rv,pl,hz⟩:=I1.list hq;have hl:=rv.length;refine call_reversed_list pl.isList ?_;have hit:(s1.heap.push (revObj b ((its.toArray.size:Int)-1))).IsRevIter s1.heap.objs.size b ((xs.length:Int)-1-((0:Nat):Int)):=by
  refine⟨_,yha _ rfl,rfl,?_⟩;show Data.fields #[.ref b,rawInt _]=Data.fields #[.ref b,rawInt _]
  rw[yoa,← hl,show (xs.length:Int)-1-((0:Nat):Int)=(xs.length:Int)-1 by omega]
 refine wpAny_pyIter_revIter (s:={ s1 with heap:=s1.heap.push (revObj b ((its.toArray.size:Int)-1)) }) hit ?_;refine⟨s1.heap.objs.size,[s1.heap.objs.size],_,_,H1,rfl,I1.kept (t':=s1.toks) λb o e=>yca _ e,zcmb b _ xs,⟨yqb _,hit⟩,λc hc=>?_,q⟩;have e:c=s1.heap.objs.size:=by simpa using hc
 subst e;exact I1.fpOk (yga _) (I1.hok.fresh (yga _))
end
theorem zkrb {K:yda}{a:Addr}{xs:List V}{g:TG}{tb:TS}{D:Ends}{σ:St}{H:Hp}(Pv:Nat->St->Hp->Prop)(h0:Pv 0 σ H)(hl:∀i σ H,i≤xs.length->Pv i σ H->SqL K H a xs)
  (hs:∀i x σ H,i<xs.length->xs[xs.length-1-i]?=some x->Pv i σ H->g x σ H fun σ2 H2=>tb { D with nx:=Pv (i+1),ct:=Pv (i+1),bk:=D.nx } σ2 H2) (hd:∀ σ H,Pv xs.length σ H->D.nx σ H) :
  ∃W:Nat->Nat->St->Hp->Prop,(∃m,W 0 m σ H)∧∀i m σ H,W i m σ H →
   ((Itv K a xs).stop i H∧D.nx σ H)∨((Itv K a xs).go i H∧∃N:St->Hp->Prop,(∀ σ' H',N σ' H'->∃m',m'<m∧W (i+1) m' σ' H')∧∀x H',(Itv K a xs).yld i H x H'->g x σ H' fun σ2 H2=>tb { D with nx:=N,ct:=N,bk:=D.nx } σ2 H2):=by
 refine⟨λi m σ H=>m=xs.length-i∧i≤xs.length∧Pv i σ H,⟨xs.length,by simp,yqb _,h0⟩,?_⟩;rintro i m σ H ⟨rfl,hi,p⟩;have q:=hl i σ H hi p
 by_cases hlt:i<xs.length
 ·refine .inr ⟨⟨q,hlt⟩,Pv (i+1),fun σ' H' p'=>⟨xs.length-(i+1),by omega,rfl,hlt,p'⟩,λx H' y=>?_⟩;obtain⟨e,y⟩:=y;subst e;exact hs i x σ _ hlt y p
 ·have e:i=xs.length:=by omega
  subst e;exact .inl ⟨⟨q,rfl⟩,hd σ H p⟩
end L2
namespace L2
open PySem PySem.Spec PyProof.Rows
section
variable {X:Cx}{a:Addr}{D:List (Str×yir)}
theorem zwz (T:yzq X.base a D):OpR X (yte .NotIn) (λx y H Q=>∃k,x = .str k∧y = .ref a∧Q (.bl (!KTD.inKeys k D)) H):=by
 intro pins s σ H x y v u Q I rx ry h;obtain⟨k,rfl,rfl,q⟩:=h;obtain⟨t,rfl⟩:=rx;cases ry;exact KTD.notin_text ⟨T,I.bk⟩ ⟨.bl _,H,I.tok _,rfl,q⟩
theorem zwob (T:yzq X.base a D):IxR X (λx y H Q=>Ex2 λk i=>x = .ref a∧y = .str k∧yyo k D=some (.flat (.int i))∧Q (.int i) H):=by
 intro value slice pins s σ H x y v u Q I rx ry h hs;obtain⟨k,i,rfl,rfl,hd,q⟩:=h;cases rx;obtain⟨tk,rfl⟩:=ry;have T':KTD.Here X.base s.heap a D:=⟨T,I.bk⟩;refine subscriptTail_builtin_flat T'.typeIs ykg.lookup ?_ hs;unfold ywn
 try with_reducible refine ykc ?_
 refine yaa (ylj T'.typeIs (by decide) ?_);refine yaa (yze (name:=yli "__getitem__") T'.typeIs ykg
  (ysd ykg T'.typeIs entry_dict_getitem ?_ (args_dict_getitem _ _)))
 show wpAny _ _ (dictGet a (.str k tk) >>= _) _ _ s
 refine yaa (KTD.dictGet_text T' (λd v ha hv=>?_) λhn=>?_)
 ·rw[hd] at ha;cases ha;have hv':Reads s.heap v (.int i) []:=hv s.heap;obtain⟨t,rfl⟩:∃t,v=Value.int i t:=by
   cases hv' with
   | int _ t=>exact⟨t,rfl⟩
  have fin:EP X pins σ Q (.int i t) { s with toks:=s.toks+1 }:=⟨.int i,H,I.tok _,⟨t,rfl⟩,q⟩;exact yfa ⟨Value.int i t,rfl,yfa ⟨λb z=>(nomatch z),fin⟩⟩
 ·rw[hd] at hn;cases hn
end
end L2
namespace L2
open PySem PySem.Spec PyProof.Rows
section
variable {X:Cx}
@[irreducible] def rStrAny:List V->Hp->VK->Prop:=λxs H Q=>(∃x,xs=[.str x]∧Q (.str x) H)∨∃i:Int,xs=[.int i]∧i.natAbs.log2<1920∧Q (.str (toString i)) H
theorem zll:zqg X (.type "str") rStrAny:=by
 intro pins s σ H xs us Q I r h;unfold rStrAny at h
 rcases h with h|h
 ·exact zkbb pins s σ H xs us Q I r h
 ·exact zkl pins s σ H xs us Q I r h
end
end L2
namespace L2
open PySem PySem.Spec PyProof.Rows
section
variable (K:yda){X:Cx}{a b o e:Expr}{es:List Expr}{ta tb to te:TE}{t:TA}{name f:Str}{apos cpos pos:Pos}{T id:String}{r:V->List V->Hp->VK->Prop}
theorem zyfb (hK:X.K=K:=by rfl):IxR X (rIxL K):=hK▸znc
theorem zldb (hK:X.K=K:=by rfl):IxR X (rIxT K):=hK▸zab
theorem zfp (hK:X.K=K:=by rfl):zqg X (.builtin "len") (λxs H Q=>Ex2 λp ys=>xs=[.ref p]∧(SqL K H p ys∨SqT K H p ys)∧Q (.int ys.length) H):=hK▸zwa
theorem zqqb (he:PE X e ta)(hb:yri e f X.env (eval e X.env)=eval e X.env)(hK:X.K=K:=by rfl):PE X (.Attribute e f pos) (tFld K ta f):=hK▸zqo he hb
end
end L2
namespace SSet
open PySem PySem.Spec PyProof.Rows
theorem zwtb (t:yvd)(n:Nat):(t.orStandIn n).led=t.led∧(t.plain=false->(t.orStandIn n).plain=false):=by
 unfold ykp
 split
 ·exact⟨rfl,id⟩
 ·exact⟨rfl,λ_=>rfl⟩
theorem zzjb (t:yvd)(es:Array (Int×Value))(h:Int)(x:Value):(layNew t es h x).2.1.led=t.led:=by
 unfold layNew
 split
 ·exact (zwtb _ _).1
 ·rfl
theorem zuab (t:yvd)(es:Array (Int×Value))(k:Nat):(ydi t es k).2.1.led=t.led∧(t.plain=false->(ydi t es k).2.1.plain=false):=by
 unfold ydi
 split
 ·rename_i u order e;have q:u.led=t.led∧u.plain=t.plain:=by
   unfold yar yjr at e;simp only[bind,Option.bind,pure] at e
   split at e
   ·cases e
   ·injection e with e
    injection e with e _
    rw[← e];exact⟨rfl,rfl⟩
  dsimp only
  split
  ·exact⟨q.1,λz=>q.2.trans z⟩
  ·exact⟨rfl,λ_=>rfl⟩
 ·exact⟨rfl,λ_=>rfl⟩
def SS (prog:yvb)(w:World)(h:Heap)(a:Addr)(D:List Str)(b:Bool):Prop :=
 ∃o es ep t,h.get? a=some o∧o.ExactSet∧o.data = .set es ep t∧ysk (ykd prog w) es.toList∧(es.toList.map λe=>strOf e.2).Perm D∧es.size<ykf∧t.fits es.size=true∧t.led=b∧(es.size=0∨t.plain=false)
section
variable {prog:yvb}{w:World}{A:Around}{E:Value->Shared->Prop}{s:Shared}
theorem SS.keep {h h':Heap}{a:Addr}{D:List Str}{b:Bool}(x:SS prog w h a D b)(k:∀o,h.get? a=some o->h'.get? a=some o):SS prog w h' a D b:=by
 obtain⟨o,es,ep,t,ho,r⟩:=x;exact⟨o,es,ep,t,k _ ho,r⟩
theorem zzob {es:List (Int×Value)}(h:ysk (ykd prog w) es){e:Int×Value}(he:e∈es):∃x t,e.2 = .str x t∧e.1=(ykd prog w).hash x:=by
 obtain⟨⟨k,hk,hh⟩,_⟩:=h e he;obtain⟨t,et⟩:=ymk (x:=k) (v:=e.2) hk;exact⟨k,t,et,hh⟩
theorem zzm {es:List (Int×Value)}{D:List Str}{x:Str}(hel:ysk (ykd prog w) es)(hp:(es.map λe=>strOf e.2).Perm D) :
  x∈D↔∃e∈es,(ykd prog w).is x e.2=true:=by
 rw[← hp.mem_iff,ycc]
 constructor
 ·rintro⟨e,he,rfl⟩;obtain⟨y,t,e1,_⟩:=zzob hel he;refine⟨e,he,?_⟩;rw[e1];show ysh y (.str y t)=true
  simp[ysh]
 ·rintro⟨e,he,hi⟩;obtain⟨t,e1⟩:=ymk (x:=x) (v:=e.2) hi;exact⟨e,he,by rw[e1];rfl⟩
theorem zafb {g:Bool->Sem Unit}(hg:∀(b:Bool) (s₁:Shared) (Q':Unit->Shared->Prop),Q' () s₁->wpAny (model prog w) A (g b) Q' E s₁)
  {a:Addr} {o:Obj} {es:Array (Int×Value)} {ep:Nat} {t:yvd} (ho:s.heap.get? a=some o) (hex:o.ExactSet) (hd:o.data = .set es ep t)
  {fs:Array (Int×Value)} {u:yvd} {D:List Str} {b:Bool} (hel:ysk (ykd prog w) fs.toList) (hp:(fs.toList.map λe=>strOf e.2).Perm D) (hb:fs.size<ykf) (hf:u.fits fs.size=true) (hl:u.led=b) (hpl:u.plain=false)
  {dm:Bool} {R:Option Bool->Shared->Prop} (h:∀h',ysg a s.heap h'->SS prog w h' a D b->R (some true) { s with heap:=h' }) :
  wpAny (model prog w) A (do
    storeSet a fs u
    if (!dm&&u.tooFull)=true then do
        g (ydi u fs (yhd fs.size)).2.2
        storeSet a (ydi u fs (yhd fs.size)).1 (ydi u fs (yhd fs.size)).2.1
        pure (some true)
     else pure (some true)) R E s:=by
 have lim:∀{n:Nat},n<ykf->n≤ywa:=λz=>ylg z;refine yaa (yoj ho hd ?_ (lim hb));have k1:(s.heap.update a (ymg fs u)).get? a=some { o with data:=.set fs (ep+1) u }:=by
  have z:=ymc (ymg fs u) ho (by rw[ytk fs u hd];rfl);rw[ytk fs u hd] at z;exact z
 have b1:=yii s.heap a (ymg fs u)
 split
 ·have p2:=relayAll_perm u fs (yhd fs.size);have f2:=relayAll_fits u fs (yhd fs.size);obtain⟨l2,q2⟩:=zuab u fs (yhd fs.size);generalize ydi u fs (yhd fs.size)=R2 at p2 f2 l2 q2 ⊢;obtain⟨fs2,u2,gv⟩:=R2;dsimp only at p2 f2 l2 q2 ⊢;have z2:fs2.size=fs.size:=by rw[← ypa,p2.length_eq,ypa]
  refine yaa (hg _ _ _ ?_);refine yaa (yoj k1 rfl ?_ (lim (by rw[z2];exact hb)));have k2:((s.heap.update a (ymg fs u)).update a (ymg fs2 u2)).get? a=some { o with data:=.set fs2 (ep+1+1) u2 }:=by
   have z:=ymc (ymg fs2 u2) k1 (by rw[ytk fs2 u2 rfl];rfl);rw[ytk fs2 u2 rfl] at z;exact z
  exact yfa (h _ (b1.trans (yii _ a _)) ⟨_,fs2,_,u2,k2,hex,rfl,ElemsOf.perm hel p2,(p2.map _).trans hp,by rw[z2];exact hb,f2,l2.trans hl,.inr (q2 hpl)⟩)
 ·exact yfa (h _ b1 ⟨_,fs,_,u,k1,hex,rfl,hel,hp,hb,hf,hl,.inr hpl⟩)
theorem add_str {a:Addr}{D:List Str}{b:Bool}{x:Str}{tk:Tok}{Q:Bool->Shared->Prop}(hS:SS prog w s.heap a D b)(hroom:D.length+1<ykf)
  (h:∀h' r,ysg a s.heap h'->SS prog w h' a (if x∈D then D else D++[x]) b->Q r { s with heap:=h' }) :
  wpAny (model prog w) A (ybo a (.str x tk) ((ykd prog w).hash x)) Q E s:=by
 obtain⟨o,es,ep,t,ho,hex,hd,hel,hp,hb,hf,hl,hpl⟩:=hS;have key:(ykd prog w).is x (.str x tk)=true:=by
  show ysh x (.str x tk)=true
  simp[ysh]
 have hz:es.size=D.length:=by rw[← hp.length_eq,yba,ypa]
 unfold ybo setAddHashedIn;refine ykc (yaa (yuc ho hd hf ?_));dsimp only;rw[byScan_of (x:=.str x tk) rfl hb hel];simp only[↓reduceIte];unfold setAddByScan;refine yaa (yaa (ylk (yaa (wpAny_setScan_of key ho hd hf hel ?_))));have mi:=zzm (x:=x) hel hp;cases hr:List.findIdx? (λe=>(ykd prog w).is x e.2) es.toList with
 | some j =>
  obtain⟨hj,hpj,_⟩:=yui.mp hr;have hin:x∈D:=mi.mpr ⟨_,yck hj,hpj⟩;dsimp only;refine yfa (yfa ?_);have z:=h s.heap false (yfm a s.heap);rw[if_pos hin] at z;exact z ⟨o,es,ep,t,ho,hex,hd,hel,hp,hb,hf,hl,hpl⟩
 | none =>
  have hno:¬ x∈D:=λhin=>by
   obtain⟨e,he,hi⟩:=mi.mp hin;have z:=yul.mp hr e he;rw[hi] at z;cases z
  simp only[if_neg hno] at h;dsimp only;have p1:=layNew_perm t es ((ykd prog w).hash x) (.str x tk);have f1:=layNew_fits t es ((ykd prog w).hash x) (.str x tk);have l1:=zzjb t es ((ykd prog w).hash x) (.str x tk);generalize layNew t es ((ykd prog w).hash x) (.str x tk)=L at p1 f1 l1 ⊢;obtain⟨fs,u,dm,gave⟩:=L;dsimp only at p1 f1 l1 ⊢;rw[ypj] at p1;have el1:ysk (ykd prog w) fs.toList:=(hel.push key rfl).perm p1;have pp:(fs.toList.map λe=>strOf e.2).Perm (D++[x]):=by
   refine (p1.map _).trans ?_;rw[yxa];exact ypq hp (yrj _)
  have z1:fs.size=D.length+1:=by rw[← ypa,p1.length_eq,yea,ypa,hz];rfl
  have give:∀(c:Bool) (s₁:Shared) (Q':Unit->Shared->Prop),Q' () s₁->wpAny (model prog w) A (match c with|true=>rule "set.scan.the-table-gave-way"|false=>pure ()) Q' E s₁:=λc s₁ Q' q=>by
   cases c
   ·exact yfa q
   ·exact ylk q
  refine yaa (give _ _ _ ?_)
  split
  ·refine yaa ?_;rw[yco 8 (x:=.str x tk) rfl];refine yfa ?_;refine zafb (b:=b) (D:=D++[x]) give ho hex hd el1 pp (by omega) (yvd.fits_plain_off f1) (l1.trans hl) rfl ?_;intro h' sb S';exact yfa (h h' _ sb S')
  ·rename_i np;refine yaa (yfa ?_);simp only[↓reduceIte];refine zafb (b:=b) (D:=D++[x]) give ho hex hd el1 pp (by omega) f1 (l1.trans hl) (by simpa using np) ?_;intro h' sb S';exact yfa (h h' _ sb S')
def dd (xs:List Str):List Str:=xs.foldl (λD x=>if x∈D then D else D++[x]) []
theorem zdn (xs:List Str)(x:Str):dd (xs++[x])=if x∈dd xs then dd xs else dd xs++[x]:=by
 unfold dd;rw[yaq];rfl
theorem zodb:∀n (xs:List Str),(dd (xs.take n)).length≤n
 | 0,xs=>yga 0
 | n+1,xs=>by
  have ih:=zodb n xs;rw[ydb];cases e:xs[n]? with
  | none =>
   rw[ylp,yfc];omega
  | some x =>
   rw[yub,zdn]
   split
   ·omega
   ·rw[yea,yvc];omega
theorem zzr {R:Result->Shared->Prop}{I S:Addr}{fp wr:List Addr}{n:Nat}{P:Nat->Value->Prop}{St:Nat->Heap->Prop}{b:Bool}(W:Walks prog w A.in1 I fp wr n P St)(hSf:S∉fp)(xs:List Str)
  (hval:∀i v,P i v->∃x t,xs[i]?=some x∧v = .str x t) (hn:n+1<ykf) :
  ∀(k i:Nat) (s:Shared),n-i=k->i≤n->St i s.heap->SS prog w s.heap S (dd (xs.take i)) b →
   (∀h' tk,SS prog w h' S (dd (xs.take n)) b->(∀c o,c∉S::wr->s.heap.get? c=some o->h'.get? c=some o)->R (.ok (.ret .none)) { s with heap:=h',toks:=tk }) →
   yqi (model prog w) A (.builtin "set.update.loop" ⟨[.ref S,.ref I],[]⟩) R s:=by
 have nw:S∉wr:=λz=>hSf (W.sub _ z);intro k
 induction k with
 | zero =>
  intro i s hk hi st hS hR;obtain rfl:i=n:=by omega
  refine yqc yyd ?_;rw[ysc ync _];show wpAny _ A.in1 (pyNext (.ref I) >>= _) _ _ s
  refine yaa (W.done s _ _ st λh' tk keep=>?_);show wpAny _ A.in1 (ret Value.none) _ _ _
  exact yfa (hR h' tk (hS.keep λo e=>keep S o nw e) λc o hc e=>keep c o (λz=>hc (yta _ z)) e)
 | succ k ih =>
  intro i s hk hi st hS hR;have hlt:i<n:=by omega
  refine yqc yyd ?_;rw[ysc ync _];show wpAny _ A.in1 (pyNext (.ref I) >>= _) _ _ s
  refine yaa (W.item i s _ _ hlt st λv h1 tk hP st1 keep=>?_);obtain⟨x,t,hx,rfl⟩:=hval i v hP;have hS1:SS prog w h1 S (dd (xs.take i)) b:=hS.keep λo e=>keep S o nw e;show wpAny _ A.in1 (ynn [Value.str x t] (setAdd S (.str x t)) >>= _) _ _ _
  refine yaa (ykc ?_);unfold setAdd;refine ykc (yaa ((ykd prog w).pyHash (k:=x) (by show ysh x (.str x t)=true;simp[ysh]) ?_));have hle:=zodb i xs;refine add_str (b:=b) (D:=dd (xs.take i)) (s:={ s with heap:=h1,toks:=tk+1 }) hS1 (by omega) λh2 r sb S2=>?_;have e2:(if x∈dd (xs.take i) then dd (xs.take i) else dd (xs.take i)++[x])=dd (xs.take (i+1)):=by
   rw[ydb,hx,yub,zdn]
  rw[e2] at S2;refine yfa ⟨yse ync _,ih (i+1) _ (by omega) hlt (W.frame _ h1 _ st1 λc hc o e=>?_) S2 λh3 tk3 S3 keep3=>?_⟩
  ·rw[sb.2 c (λz:c=S=>hSf (by rw[← z];exact hc))];exact e
  ·refine hR h3 tk3 S3 λc o hc e=>keep3 c o hc ?_;show h2.get? c=some o
   rw[sb.2 c (λz:c=S=>hc (by rw[z];exact yra))];exact keep c o (λz=>hc (yta _ z)) e
abbrev empt (w:World):Obj:={ cls:=.type "set",dict:=none,data:=.set #[] 0 (.fresh 0 0 (!w.params.followText "set-order")) }
theorem zedb (v:Value){Q1:Value->Shared->Prop}(h:Q1 (.ref s.heap.objs.size) { s with heap:=s.heap.push (empt w) }) :
  yqi (model prog w) A (.call (.builtin "set.__new__") ⟨[.type "set",v],[]⟩) (wants Q1 E) s:=by
 refine yuk ?_;have sb:=sub_set_self;show wpAny _ A.in1 (checkBuiltinCall "set.__new__" ⟨[.type "set",v],[]⟩ >>= λ_=>again (.builtin "set.__new__" ⟨[.type "set",v],[]⟩)) _ _ s
 refine yaa (wpAny_of_eq (PySem.F.newCall_set_1 v) (yfa ⟨yse ydo _,yqc PySem.F.entry_set_new ?_⟩));rw[ysc ydo _];obtain⟨hp,gn,dr,tk,os⟩:=s;unfold yhf.«set.__new__»;unfold yhf.Frozenset.newClass;dsimp only
 wp_walk
 refine yle (yfa ?_);dsimp only[newObj];refine yaa (wpAny_alloc (yfa (yfa ?_)));exact h
theorem zpcb:∀{us:List Value} {xs:List Str},ytl us xs->∀(i:Nat) (v:Value),us[i]?=some v->∃x t,xs[i]?=some x∧v = .str x t
 | _,_,.nil,i,v,e=>by simp at e
 | _,_,.cons x t r,0,v,e=>by
  rw[yhe] at e;cases e;exact⟨x,t,rfl,rfl⟩
 | _,_,.cons x t r,i+1,v,e=>by
  rw[ytb] at e;obtain⟨y,u,h1,h2⟩:=zpcb r i v e;exact⟨y,u,by rw[ytb];exact h1,h2⟩
theorem zwkb (h:Heap):SS prog w (h.push (empt w)) h.objs.size [] (!w.params.followText "set-order") :=
 ⟨_,#[],0,_,yha _ rfl,⟨rfl,rfl,rfl⟩,rfl,λe he=>by simp at he,.nil,by decide,by rfl,rfl,.inl rfl⟩
theorem set_list {l:Addr}{its:Array Value}{xs:List Str}{Q:Value->Shared->Prop}(hh:A.handled=none)(hl:s.heap.IsList l its)(hi:ytl its.toList xs)(hb:its.size+1<ykf)
  (h:∀(h':Heap) (tk:Nat),SS prog w h' s.heap.objs.size (dd xs) (!w.params.followText "set-order")->(∀c o,s.heap.get? c=some o->h'.get? c=some o)->Q (.ref s.heap.objs.size) { s with heap:=h',toks:=tk }) :
  wpAny (model prog w) A (call (.type "set") [.ref l]) Q E s:=by
 obtain⟨cM,tM,mro⟩:=yfb.mro;have made:=yfb.made;have subs:=yfb.sub;have notT:=yfb.notType;have canC:=yfb.canCreate;have chk:=ybj (.ref l);refine yro (yuk ?_);show wpAny _ _ (callAny (.type "set") ⟨[.ref l],[]⟩) _ _ _
 refine yfa ⟨yvi _ (by decide +kernel),yqc ywi ?_⟩;rw[yml (yvj "set" [Value.ref l] []) rfl]
 repeat (any_goals (first|assumption|wp_step))
 refine ywf (zedb (.ref l) (E:=E) (Q1:=λob s1=>ob = .ref s.heap.objs.size∧s1={ s with heap:=s.heap.push (empt w) }) ⟨rfl,rfl⟩) λr s1 hr=>?_;cases r with
 | error e=>exact hr
 | ok fl =>
  cases fl with
  | ret ob =>
   obtain⟨rfl,rfl⟩:=hr;have g0:(s.heap.push (empt w)).get? s.heap.objs.size=some (empt w):=yha _ rfl;have ty0:yah { s with heap:=s.heap.push (empt w) } (.ref s.heap.objs.size) "set":=⟨_,g0,rfl⟩;have lk:=yfb.init.lookup;have bd:=yfb.init.bind (.ref s.heap.objs.size)
   repeat (any_goals (first|assumption|wp_step))
   refine ywf (ygk (R:=wants (λr s2=>r = .none∧∃h' tk,s2={ s with heap:=h',toks:=tk }∧SS prog w h' s.heap.objs.size (dd xs) (!w.params.followText "set-order") ∧
     (∀c o,s.heap.get? c=some o->h'.get? c=some o)) E) yfb.init.plain ycj (ydn ty0 ?_)) λr2 s2 hr2=>?_
   ·obtain⟨ol,e1,e2,nl,e3⟩:=hl;obtain⟨oc,od,oD,osl⟩:=ol;dsimp only at e2 e3;subst e2 e3;have e1':(s.heap.push (empt w)).get? l=some { cls:=.type "list",dict:=od,data:=.seq its nl,slots:=osl }:=yca _ e1;have q1:=PySem.F.sub_list_set;have q2:=PySem.F.sub_list_frozenset;have q3:(Value.type "list" == Value.type "dict")=false:=by decide
    have L1:(s.heap.push (empt w)).IsList l its:=⟨_,e1',rfl,nl,rfl⟩;have lt:l<s.heap.objs.size:=yna e1;unfold yhf.«set.__init__» noKeywords yjh;generalize hPI:pyIter=PI
    wp_walk
    subst hPI;refine yij L1 (yaa (yzh ?_));have ne:l≠(s.heap.push (empt w)).objs.size:=by
     rw[ylc];exact yva (yoc lt)
    have nf:s.heap.objs.size∉[(s.heap.push (empt w)).objs.size,l]:=by
     rw[ylc];intro z
     rcases yka.mp z with z|z
     ·exact absurd z (yva (yie _))
     ·exact absurd (yia.mp z) (ytg lt)
    have hv:∀(i:Nat) (v:Value),its[i]?=some v->∃x t,xs[i]?=some x∧v = .str x t:=λi v e=>zpcb hi i v (by rw[yob];exact e);have hx:xs.take its.size=xs:=yla (by rw[← ypa,hi.length];exact yga _);refine zzr (b:=!w.params.followText "set-order") (Walks.list (by simp[hh]) _ l ne its) nf xs hv hb (its.size-0) 0 _ (by omega) (yqb _) ⟨⟨_,yha _ rfl,rfl,rfl⟩,L1.push _⟩ ?S0 ?R0
    case S0=>exact (zwkb s.heap).keep λo e=>yca _ e
    case R0 =>
     intro h' tk S' keep;rw[hx] at S';show wpAny _ _ _ _ _ _
     refine yfa ?_;show wpAny _ _ (ret Value.none) _ _ _
     refine yfa ⟨rfl,h',tk,rfl,S',λc o e=>?_⟩;have clt:=yna e;refine keep c o ?_ (yca _ (yca _ e));rw[ylc];intro z
     rcases yka.mp z with z|z
     ·exact absurd z (yva clt)
     ·exact absurd (yia.mp z) (yva (yoc clt))
   ·cases r2 with
    | error e=>exact hr2
    | ok fl2 =>
     cases fl2 with
     | ret r =>
      obtain⟨rfl,h',tk,rfl,S',keep⟩:=hr2
      repeat (any_goals (first|assumption|wp_step))
      exact h _ _ S' keep
     | next=>exact hr2.elim
     | brk=>exact hr2.elim
     | cont=>exact hr2.elim
  | next=>exact hr.elim
  | brk=>exact hr.elim
  | cont=>exact hr.elim
end
end SSet
namespace SSet
open PySem PySem.Spec PyProof.Rows
theorem zjs:Slot "set_iterator" "__next__" "set_iterator.__next__":=.of (owner:="set_iterator") (n:="__next__") (by rw[typeLookup_type,yeo];kernel_rfl) (by decide +kernel) (by decide +kernel) (by decide +kernel) (by first|exact .inl (by decide +kernel)|exact .inr (by decide +kernel)) (by rw[yuo];kernel_rfl)
theorem znrb:entryFor table "set_iterator.__next__" = some yhf.«set_iterator.__next__»:=entryFor_of_fast (by kernel_rfl)
theorem zyrb (v:Value):argsOk "set_iterator.__next__" ⟨[v],[]⟩:=by unfold argsOk;kernel_rfl
theorem zvkb:entryFor table "set.__iter__" = some yhf.«frozenset.__iter__»:=entryFor_alias (id':="frozenset.__iter__") (by kernel_rfl) rfl (by decide +kernel) (by kernel_rfl)
theorem zxib:Slot "set_iterator" "__iter__" "set_iterator.__iter__":=.of (owner:="set_iterator") (n:="__iter__") (by rw[typeLookup_type,yeo];kernel_rfl) (by decide +kernel) (by decide +kernel) (by decide +kernel) (by first|exact .inl (by decide +kernel)|exact .inr (by decide +kernel)) (by rw[yuo];kernel_rfl)
theorem zmrb:entryFor table "set_iterator.__iter__" = some yhf.«dict_keyiterator.__iter__»:=entryFor_alias (id':="dict_keyiterator.__iter__") (by kernel_rfl) rfl (by decide +kernel) (by kernel_rfl)
theorem zxrb (v:Value):argsOk "set_iterator.__iter__" ⟨[v],[]⟩:=by unfold argsOk;kernel_rfl
def zuy (h:Heap)(it a:Addr)(first:Value)(i n ep:Nat):Prop:=h.get? it=some { cls:=.type "set_iterator",dict:=none,data:=.fields #[first,rawInt i,.ref a,rawInt n,rawInt ep],slots:=#[] }
def SObj (h:Heap)(a:Addr)(es:Array (Int×Value))(ep:Nat)(t:yvd):Prop:=∃o,h.get? a=some o∧o.cls = .type "set" ∧ o.data = .set es ep t∧t.fits es.size=true
theorem SObj.keep {h h':Heap}{a:Addr}{es:Array (Int×Value)}{ep:Nat}{t:yvd}(x:SObj h a es ep t)(k:∀o,h.get? a=some o->h'.get? a=some o):SObj h' a es ep t:=by
 obtain⟨o,ho,r⟩:=x;exact⟨o,k _ ho,r⟩
section
variable {prog:yvb}{w:World}{A:Around}{E:Value->Shared->Prop}{s:Shared}
theorem zuy.typeIs {it a:Addr}{f:Value}{i n ep:Nat}(h:zuy s.heap it a f i n ep):s.TypeIs (.ref it) "set_iterator":=⟨_,h,rfl⟩
theorem zgz {Q:Option Value->Shared->Prop}{F:Fin->Shared->Prop}(hh:A.handled=none)(hQ:∀h',(∀b o,s.heap.get? b=some o->h'.get? b=some o)->Q none { s with heap:=h' }) :
  wpAny (model prog w) A.in1 (newExc (.type "StopIteration") [] >>= λx=>raiseNew x) F (λe s'=>wpAny (model prog w) A (do
     let b ← ybq e (Value.type "StopIteration")
     if b=true then pure none else throw e) Q E s') s:=by
 refine yaa ?_;simp only[newExc,newTuple];refine yaa (ycd ?_ (by size_fits));refine yaa (m:=firstArgMember _ _) (wpAny_of_eq (a:=Value.none) (by first|rfl|(simp only[firstArgMember];rfl)) (ycd ?_ (by size_fits)));simp only[raiseNew];refine yaa (wpAny_handled ?_);rw[show A.in1.handled=none from hh];refine yaa (yfa (wpAny_throw ?_));refine yaa (yei (b:=true) (T:="StopIteration") ⟨_,yha _ rfl,rfl⟩ isSubtype_stop ?_);exact yfa (hQ _ λb o e=>yca _ (yca _ e))
theorem zox {it a:Addr}{f:Value}{i n ep:Nat}{es:Array (Int×Value)}{t:yvd}{Q:Option Value->Shared->Prop}(hit:zuy s.heap it a f i n ep)(hs:SObj s.heap a es ep t)(hn:es.size=n)
  (h:wpAny (model prog w) A.in1 (match f with
      | Value.int slot tok=>do
       let r ← ydk a slot.toNat i ep
       match r with
        | some (x,nx)=>do
         ymp (Value.ref it) 0 (rawInt nx)
         ymp (Value.ref it) 1 (rawInt ((i:Int)+1))
         ret x
        | none=>do
         ymp (Value.ref it) 2 Value.none
         let y ← newExc (Value.type "StopIteration") []
         raiseNew y
      | x=>do
       let r ← ygm f
       match r with
        | some places =>
         match places[i]? with
         | some (Value.int place tok)=>do
          let x ← setNextDrawn a place.toNat ep
          ymp (Value.ref it) 1 (rawInt ((i:Int)+1))
          ret x
         | some val=>yum "internal:set_iterator"
         | none=>do
          ymp (Value.ref it) 0 (rawInt 0)
          ymp (Value.ref it) 2 Value.none
          let y ← newExc (Value.type "StopIteration") []
          raiseNew y
        | x=>yum "internal:set_iterator")
   (λfin s'=>∃v,fin=Fin.done (Flow.ret v)∧wpAny (model prog w) A (pure (some v)) Q E s')
   (λe s'=>wpAny (model prog w) A (do
     let b ← ybq e (Value.type "StopIteration")
     if b=true then pure none else throw e) Q E s') s):wpAny (model prog w) A (pyNext (.ref it)) Q E s:=by
 obtain⟨oS,hoS,hcS,hdS,hf⟩:=id hs;unfold pyNext;refine yaa (wpAny_attempt (yze (name:=yli "__next__") hit.typeIs zjs (ysd zjs hit.typeIs znrb ?_ (zyrb _))));unfold yhf.«set_iterator.__next__»;refine yaa (yfa ?_);refine yaa (wpAny_fieldsOf hit rfl ?_);show wpAny _ _ (setEntries a >>= _) _ _ _
 refine yaa (yvk hoS hdS hf ?_);rw[if_neg (by rw[hn];simp[rawInt])];exact h
theorem zihb {it a tp:Addr}{i n ep:Nat}{es:Array (Int×Value)}{t:yvd}{pl:Array Value}{j:Nat}{tk:Tok}{e:Int×Value}{Q:Option Value->Shared->Prop}
  (hit:zuy s.heap it a (.ref tp) i n ep) (hs:SObj s.heap a es ep t) (hn:es.size=n) (htp:IsTup s.heap tp pl) (hpl:pl[i]?=some (.int j tk)) (he:es[j]?=some e)
  (hQ:∀h',zuy h' it a (.ref tp) (i+1) n ep->ysg it s.heap h'->Q (some e.2) { s with heap:=h' }):wpAny (model prog w) A (pyNext (.ref it)) Q E s:=by
 obtain⟨oS,hoS,hcS,hdS,hf⟩:=id hs;refine zox hit hs hn ?_;dsimp only;obtain⟨oT,hoT,hcT,nT,hdT⟩:=htp;have sq:∀{Q':Option (Array Value)->Shared->Prop},Q' (some pl) s->wpAny (model prog w) A.in1 (ygm (.ref tp)) Q' (λe s'=>wpAny (model prog w) A (do
     let b ← ybq e (Value.type "StopIteration")
     if b=true then pure none else throw e) Q E s') s:=λq=>by
  unfold ygm;refine yaa (yzl hoT ?_);rw[hdT];exact yfa q
 refine yaa (sq ?_);dsimp only;rw[hpl];dsimp only;rw[yxb];unfold setNextDrawn;refine yaa (yaa (yuc hoS hdS hf ?_));dsimp only;rw[if_neg (by simp),he];refine yfa ?_;refine yaa (yyf hit (by simp) λh' g sb=>?_);refine yfa ⟨_,rfl,yfa (hQ h' ?_ sb)⟩;exact g
theorem zukb {it a tp:Addr}{i n ep:Nat}{es:Array (Int×Value)}{t:yvd}{pl:Array Value}{Q:Option Value->Shared->Prop}(hh:A.handled=none)
  (hit:zuy s.heap it a (.ref tp) i n ep) (hs:SObj s.heap a es ep t) (hn:es.size=n) (htp:IsTup s.heap tp pl) (hpl:pl[i]?=none)
  (hQ:∀h',(∀b o,b≠it->s.heap.get? b=some o->h'.get? b=some o)->Q none { s with heap:=h' }):wpAny (model prog w) A (pyNext (.ref it)) Q E s:=by
 refine zox hit hs hn ?_;dsimp only;obtain⟨oT,hoT,hcT,nT,hdT⟩:=htp;have sq:∀{Q':Option (Array Value)->Shared->Prop},Q' (some pl) s->wpAny (model prog w) A.in1 (ygm (.ref tp)) Q' (λe s'=>wpAny (model prog w) A (do
     let b ← ybq e (Value.type "StopIteration")
     if b=true then pure none else throw e) Q E s') s:=λq=>by
  unfold ygm;refine yaa (yzl hoT ?_);rw[hdT];exact yfa q
 refine yaa (sq ?_);dsimp only;rw[hpl];dsimp only;refine yaa (yyf hit (by simp) λh1 g1 sb1=>?_);refine yaa (yyf g1 (by simp) λh2 g2 sb2=>?_);refine zgz hh λh' k=>hQ h' λb o nb e=>k b o ?_;show h2.get? b=some o
 rw[sb2.2 b nb,sb1.2 b nb];exact e
end
end SSet
namespace SSet
open PySem PySem.Spec PyProof.Rows
theorem pull {α:Type}:∀{l:List α} {i:Nat} (h:i<l.length),(l[i]::l.eraseIdx i).Perm l
 | [],i,h=>by simp at h
 | x::r,0,h=>yrj _
 | x::r,i+1,h=>by
  have ih:=pull (l:=r) (i:=i) (by simpa using h);exact (yxi.swap x _ _).trans (yxi.cons x ih)
theorem zmjb {α:Type}(nx:Nat->Nat):∀(k j:Nat) (left:List α) (out:Array α),left.length=k->(ymr nx k j left out).toList.Perm (out.toList++left)
 | 0,j,left,out,h=>by
  have e:left=[]:=yyi.mp h;subst e;rw[yfc];exact yrj _
 | k+1,j,left,out,h=>by
  have hlt:nx j % left.length<left.length:=Nat.mod_lt _ (by omega);unfold ymr;rw[yma hlt];dsimp only;refine (zmjb nx k (j+1) _ _ (by rw[yhl hlt];omega)).trans ?_;rw[ypj,ydd];exact ywj _ (pull hlt)
theorem zsz {α:Type}(nx:Nat->Nat)(xs:Array α):(yng nx xs).toList.Perm xs.toList:=by
 have q:=zmjb nx xs.size 0 xs.toList #[] (by simp);unfold yng
 simpa using q
section
variable {prog:yvb}{w:World}{A:Around}{E:Value->Shared->Prop}{s:Shared}
theorem zqhb {src:Source}{n:Nat}{Q:Nat->Shared->Prop}(hn:n≠0)(h:∀i d,i<n->Q i { s with drawn:=d }):wpAny (model prog w) A (choose src n) Q E s:=fun Γ p hΓ=>by
 unfold choose;show Sem.wp _ _ (.choose src n .pure) _ _ _ _
 rw[Sem.wp_choose];exact⟨hn,h _ _ (Nat.mod_lt _ (by omega))⟩
theorem zdy {α:Type}:∀(n:Nat) (xs:List α) (s:Shared) (Q:List α->Shared->Prop),xs.length=n->(∀ys d,ys.Perm xs->Q ys { s with drawn:=d })->wpAny (model prog w) A (drawOrder n xs) Q E s
 | 0,xs,s,Q,hl,h=>by
  have e:xs=[]:=yyi.mp hl;subst e;exact yfa (h [] s.drawn (yrj _))
 | n+1,[],s,Q,hl,h=>by cases hl
 | n+1,x::r,s,Q,hl,h=>by
  unfold drawOrder;refine yaa (zqhb (by simp) λi d hi=>?_);rw[yma hi];dsimp only;refine yaa (zdy n _ _ _ (by rw[yhl hi];omega) λys d2 hp=>?_);exact yfa (h _ d2 ((yxi.cons _ hp).trans (pull hi)))
theorem zyab {it a:Addr}{f:Value}{i n ep:Nat}{Q:Value->Shared->Prop}(hit:zuy s.heap it a f i n ep)(h:Q (.ref it) s):wpAny (model prog w) A (pyIter (.ref it)) Q E s:=by
 refine yhm hit.typeIs zxib (ysd zxib hit.typeIs zmrb ?_ (zxrb _));show wpAny _ _ (ret (Value.ref it)) _ _ s
 exact yfa ⟨_,rfl,"set_iterator",_,hit.typeIs,zjs.lookup,h⟩
theorem zfs (hh:A.handled=none){it a tp:Addr}(h1:a≠it)(h2:tp≠it)(es:Array (Int×Value))(ep:Nat)(t:yvd)(js:List Nat)(hl:js.length=es.size)(hj:∀j∈js,j<es.size) :
  Walks prog w A it [it,a,tp] [it] es.size (λi v=>∃j e,js[i]?=some j∧es[j]?=some e∧v=e.2) (λi h=>zuy h it a (.ref tp) i es.size ep∧SObj h a es ep t∧IsTup h tp (js.map λ(j:Nat)=>rawInt j).toArray) where
 sub:=λb hb=>by
  have e:b=it:=by simpa using hb
  rw[e];exact yra
 frame:=λi h h' st k=>⟨k it (by simp) _ st.1,st.2.1.keep λo e=>k a (by simp) o e,let ⟨o,e,r⟩:=st.2.2;⟨o,k tp (by simp) o e,r⟩⟩
 item:=λi s Q E hi st hQ=>by
  have hi':i<js.length:=by omega
  have ej:js[i]?=some js[i]:=yma hi';have hlt:js[i]<es.size:=hj _ (yck hi');have ee:es[js[i]]?=some es[js[i]]:=yyb hlt;refine zihb (j:=js[i]) (tk:=0) (e:=es[js[i]]) st.1 st.2.1 rfl st.2.2 ?_ ee λh' g sb=>?_
  ·rw[yxj,yqa,ej];rfl
  ·exact hQ _ h' s.toks ⟨_,_,ej,ee,rfl⟩ ⟨g,st.2.1.keep λo e=>(sb.2 a h1).trans e,let ⟨o,e,r⟩:=st.2.2;⟨o,(sb.2 tp h2).trans e,r⟩⟩ λb o hb e=>(sb.2 b λz=>hb (by rw[z];exact yra)).trans e
 done:=λs Q E st hQ=>by
  refine zukb hh st.1 st.2.1 rfl st.2.2 ?_ λh' k=>hQ h' s.toks λb o hb e=>k b o (λz=>hb (by rw[z];exact yra)) e;rw[yxj,yqa,ylh (by omega)];rfl
 self:=λi s Q E st h=>zyab st.1 h
theorem zbo (hh:A.handled=none){it a:Addr}(h1:a≠it)(es:Array (Int×Value))(ep:Nat)(t:yvd)(ord:List Value)(R:Nat->Nat->Prop)
  (hs:∀(A:Around) (E:Value->Shared->Prop) (i slot:Nat) (s:Shared) (Q:Option (Value×Nat)->Shared->Prop),i<es.size->R slot i->SObj s.heap a es ep t->(∀x nx,ord[i]?=some x->R nx (i+1)->Q (some (x,nx)) s)->wpAny (model prog w) A (ydk a slot i ep) Q E s)
  (he:∀(A:Around) (E:Value->Shared->Prop) (slot:Nat) (s:Shared) (Q:Option (Value×Nat)->Shared->Prop),R slot es.size->SObj s.heap a es ep t->Q none s->wpAny (model prog w) A (ydk a slot es.size ep) Q E s) :
  Walks prog w A it [it,a] [it] es.size (λi v=>ord[i]?=some v) (λi h=>(∃slot:Nat,zuy h it a (rawInt slot) i es.size ep∧R slot i)∧SObj h a es ep t) where
 sub:=λb hb=>by
  have e:b=it:=by simpa using hb
  rw[e];exact yra
 frame:=λi h h' ⟨⟨slot,g,r⟩,so⟩ k=>⟨⟨slot,k it (by simp) _ g,r⟩,so.keep λo e=>k a (by simp) o e⟩
 item:=λi s Q E hi st hQ=>by
  obtain⟨⟨slot,g,r⟩,so⟩:=st;refine zox g so rfl ?_;show wpAny _ _ (ydk a ((slot:Int).toNat) i ep >>= _) _ _ _
  rw[yxb];refine yaa (hs _ _ i slot s _ hi r so λx nx hx r'=>?_);dsimp only;refine yaa (yyf g (by simp) λh2 g2 sb2=>?_);refine yaa (yyf g2 (by simp) λh3 g3 sb3=>?_);have sb:∀b,b≠it->h3.get? b=s.heap.get? b:=λb nb=>(sb3.2 b nb).trans (sb2.2 b nb);refine yfa ⟨_,rfl,yfa (hQ _ h3 s.toks hx ⟨⟨nx,g3,r'⟩,so.keep λo e=>(sb a h1).trans e⟩ λb o hb e=>(sb b λz=>hb (by rw[z];exact yra)).trans e)⟩
 done:=λs Q E st hQ=>by
  obtain⟨⟨slot,g,r⟩,so⟩:=st;refine zox g so rfl ?_;show wpAny _ _ (ydk a ((slot:Int).toNat) es.size ep >>= _) _ _ _
  rw[yxb];refine yaa (he _ _ slot s _ r so ?_);dsimp only;refine yaa (yyf g (by simp) λh2 g2 sb2=>?_);refine zgz hh λh' k=>hQ h' s.toks λb o hb e=>k b o ?_;exact (sb2.2 b λz=>hb (by rw[z];exact yra)).trans e
 self:=λi s Q E ⟨⟨slot,g,_⟩,_⟩ h=>zyab g h
end
end SSet
namespace SSet
open PySem PySem.Spec PyProof.Rows
theorem zpj {α:Type}{vs ord:List α}(hl:vs.length=ord.length)(h:∀(i:Nat) v,vs[i]?=some v->ord[i]?=some v):vs=ord:=by
 refine List.ext_getElem? λi=>?_
 by_cases hi:i<vs.length
 ·rw[yma hi];exact (h i _ (yma hi)).symm
 ·rw[ylh (by omega),ylh (by omega)]
section
variable {prog:yvb}{w:World}{A:Around}{E:Value->Shared->Prop}{s:Shared}
theorem zfk {es:List (Int×Value)}{D:List Str}{vs:List Value}(hel:ysk (ykd prog w) es)(hp:(es.map λe=>strOf e.2).Perm D)(hv:vs.Perm (es.map (·.2))):∃ys,ytl vs ys∧ys.Perm D:=by
 refine⟨vs.map strOf,strsAre_map vs λv hm=>?_,?_⟩
 ·obtain⟨e,he,rfl⟩:=ycc.mp (hv.mem_iff.mp hm);obtain⟨x,t,e1,_⟩:=zzob hel he;exact⟨x,t,e1⟩
 ·refine (hv.map strOf).trans ?_;rw[yyj];exact hp
theorem zgw {es:Array (Int×Value)}{js:List Nat}(hj:js.Perm (ypb es.size)){vs:List Value}(hl:vs.length=es.size)(h:∀(i:Nat) v,vs[i]?=some v->∃j e,js[i]?=some j∧es[j]?=some e∧v=e.2):vs.Perm (es.toList.map (·.2)):=by
 have ev:vs=js.map λj=>(es.toList.getD j (0,.none)).2:=by
  refine zpj (by rw[yba,hj.length_eq,yrb,hl]) λi v hv=>?_;obtain⟨j,e,h1,h2,rfl⟩:=h i v hv;rw[yqa,h1];show some (es.toList.getD j (0,.none)).2=some e.2
  rw[yza,yob,h2];rfl
 rw[ev];refine (hj.map _).trans (yxi.of_eq ?_);refine zpj (by simp) λi v hv=>?_;rw[yqa] at hv
 by_cases hi:i<es.size
 ·rw[yji hi] at hv;have hv':(es.toList.getD i (0,.none)).2=v:=yjc hv;rw[yqa,← hv',yza,yma (by simpa using hi)];rfl
 ·rw[ylh (by simp;omega)] at hv;cases hv
theorem ztnb {a:Addr}{D:List Str}{Q:Value->Shared->Prop}(hh:A.handled=none)(hS:SS prog w s.heap a D (!w.params.followText "set-order"))
  (h:∀(h':Heap) (d':Drawn) (I:Addr) (n:Nat) (fp:List Addr) (P:Nat->Value->Prop) (St:Nat->Heap->Prop),(∀b o,s.heap.get? b=some o->h'.get? b=some o)->s.heap.objs.size≤I->(∀b∈fp,b=a∨s.heap.objs.size≤b) →
   Walks prog w A I fp [I] n P St->St 0 h'->n=D.length->(∀vs:List Value,vs.length=n->(∀(i:Nat) v,vs[i]?=some v->P i v)->∃ys,ytl vs ys∧ys.Perm D)->Q (.ref I) { s with heap:=h',drawn:=d' }) :
  wpAny (model prog w) A (pyIter (.ref a)) Q E s:=by
 obtain⟨o,es,ep,t,ho,hex,hd,hel,hp,hb,hf,hl,hpl⟩:=hS;have hT:s.TypeIs (.ref a) "set":=⟨o,ho,hex.1⟩;have so:SObj s.heap a es ep t:=⟨o,ho,hex.1,hd,hf⟩;have hz:es.size=D.length:=by rw[← hp.length_eq,yba,ypa]
 have alt:a<s.heap.objs.size:=yna ho;refine yhm hT ymh (ysd ymh hT zvkb ?_ (yvm _));unfold yhf.«frozenset.__iter__»;refine yaa (m:=ywm "__iter__" _) (yfa ?_);refine yaa (m:=yim a) (yaa (yvk ho hd hf (yfa ?_)));refine yaa (m:=setDrawn a) (yaa (yuc ho hd hf (yaa (m:=yuh) (yaa (yle (yfa (yfa ?_)))))));dsimp only;have jp:∀{first:Value} {h1:Heap} {d1:Drawn},SObj h1 a es ep t->Q (.ref h1.objs.size) { s with heap:=h1.push { cls:=.type "set_iterator",dict:=none,data:=.fields #[first,rawInt (0:Nat),.ref a,rawInt es.size,rawInt ep],slots:=#[] },drawn:=d1 } →
   wpAny (model prog w) A.in1 (do
    let e ← setEpoch a
    let v ← ybr "set_iterator" [first,rawInt 0,Value.ref a,rawInt es.size,rawInt e]
    ret v) (λfin s'=>∃v,fin=Fin.done (Flow.ret v)∧∃T' r,s'.TypeIs v T'∧typeLookup (Value.type T') (yli "__next__")=pure (some r)∧Q v s') E { s with heap:=h1,drawn:=d1 }:=by
  intro first h1 d1 ⟨o1,e1,e2,e3,e4⟩ q
  refine yaa (m:=setEpoch a) (yaa (yuc e1 e3 e4 (yfa ?_)));refine yaa (m:=ybr _ _) (ycd (yfa ⟨_,rfl,"set_iterator",_,⟨_,yha _ rfl,rfl⟩,zjs.lookup,?_⟩));exact q
 split
 ·rename_i hc;have hc':(!w.params.followText "set-order" && (!t.plain&&decide (es.size>1)))=true:=hc;refine yaa (zdy es.size (ypb es.size) s _ (by simp) λjs d1 pj=>?_);refine yaa (wpAny_newTuple ?_ (by rw[yba,pj.length_eq,yrb];exact ylg hb));have jl:js.length=es.size:=by rw[pj.length_eq,yrb]
  have jm:∀j∈js,j<es.size:=λj hj=>ywh.mp (pj.mem_iff.mp hj);refine jp (so.keep λo e=>yca _ e) ?_;have sz:(s.heap.push { cls:=.type "tuple",data:=.seq (js.map λ(j:Nat)=>rawInt j).toArray }).objs.size=s.heap.objs.size+1:=ylc _ _;refine h _ d1 _ es.size _ _ _ (λb o e=>yca _ (yca _ e)) (by rw[sz];exact yge _) ?_ (zfs (a:=a) (tp:=s.heap.objs.size) hh ?_ ?_ es ep t js jl jm) ⟨?_,?_,?_⟩ hz λvs hv hP=>zfk hel hp (zgw pj hv hP)
  ·intro b hb';rw[sz] at hb'
   rcases yka.mp hb' with z|z
   ·exact .inr (by rw[z];exact yge _)
   ·rcases yka.mp z with z|z
    ·exact .inl z
    ·exact .inr (by rw[yia.mp z];exact yga _)
  ·rw[sz];exact yva (yoc alt)
  ·rw[sz];exact yva (yie _)
  ·exact yha _ rfl
  ·exact so.keep λo e=>yca _ (yca _ e)
  ·exact⟨_,yca _ (yha _ rfl),rfl,_,rfl⟩
 ·rename_i hc;have hc':¬ (!w.params.followText "set-order" && (!t.plain&&decide (es.size>1)))=true:=hc;refine yaa (yfa (jp (h1:=s.heap) (d1:=s.drawn) so ?_));have fpk:∀b∈[s.heap.objs.size,a],b=a∨s.heap.objs.size≤b:=λb hb'=>by
   rcases yka.mp hb' with z|z
   ·exact .inr (by rw[z];exact yga _)
   ·exact .inl (yia.mp z)
  have ne:a≠s.heap.objs.size:=yva alt;cases ft:w.params.followText "set-order" with
  | true =>
   have bt:∀{A':Around} {E':Value->Shared->Prop} {s':Shared} {Q':Bool->Shared->Prop},Q' true s'->wpAny (model prog w) A' yuh Q' E' s':=λ{A' E' s' Q'} q=>by
    unfold yuh;refine yaa (yle (yfa ?_));show Q' (w.params.followText "set-order") s'
    rw[ft];exact q
   have stp:∀(A:Around) (E:Value->Shared->Prop) (i slot:Nat) (s:Shared) (Q:Option (Value×Nat)->Shared->Prop),SObj s.heap a es ep t->Q (((yng (w.params.setOrder a ep) es)[i]?).map λe=>(e.2,slot)) s->wpAny (model prog w) A (ydk a slot i ep) Q E s:=by
    intro A E i slot s Q ⟨o1,e1,e2,e3,e4⟩ q;unfold ydk;refine yaa (yuc e1 e3 e4 ?_);dsimp only;refine yaa (bt ?_);rw[if_pos rfl,if_neg (by simp)];unfold setWalk;refine yaa (yaa (yuc e1 e3 e4 (yaa (bt ?_))));rw[if_pos rfl];exact yaa (yle (yfa (yfa q)))
   have po:=zsz (w.params.setOrder a ep) es;have pz:(yng (w.params.setOrder a ep) es).size=es.size:=(by rw[← ypa,po.length_eq,ypa]);refine h _ s.drawn _ es.size _ _ _ (λb o e=>yca _ e) (yga _) fpk (zbo (a:=a) hh ne es ep t ((yng (w.params.setOrder a ep) es).toList.map (·.2)) (λslot _=>slot=0) ?_ ?_) ⟨⟨0,yha _ rfl,rfl⟩,so.keep λo e=>yca _ e⟩ hz λvs hv hP=>?_
   ·intro A E i slot s Q hi r so' q;have e1:(yng (w.params.setOrder a ep) es)[i]?=some (yng (w.params.setOrder a ep) es)[i]:=yyb (by omega);refine stp A E i slot s Q so' ?_;rw[e1];exact q _ _ (by rw[yqa,yob,e1];rfl) r
   ·intro A E slot s Q r so' q;refine stp A E _ slot s Q so' ?_;rw[yqf (by omega)];exact q
   ·refine zfk hel hp ?_;have e1:vs=(yng (w.params.setOrder a ep) es).toList.map (·.2):=zpj (by rw[hv,yba,ypa,pz]) hP;rw[e1];exact po.map _
  | false =>
   rw[ft] at hc' hl;have sm:es.size≤1:=by
    rcases hpl with z|z
    ·omega
    ·rw[z] at hc';simp at hc';exact hc'
   have bt:∀{A':Around} {E':Value->Shared->Prop} {s':Shared} {Q':Bool->Shared->Prop},Q' false s'->wpAny (model prog w) A' yuh Q' E' s':=λ{A' E' s' Q'} q=>by
    unfold yuh;refine yaa (yle (yfa ?_));show Q' (w.params.followText "set-order") s'
    rw[ft];exact q
   have stp:∀(A:Around) (E:Value->Shared->Prop) (i slot:Nat) (s:Shared) (Q:Option (Value×Nat)->Shared->Prop),SObj s.heap a es ep t->Q (match es[yzb t.place slot]?,t.place[yzb t.place slot]? with|some (_,x),some j=>some (x,j+1)|_,_=>none) s->wpAny (model prog w) A (ydk a slot i ep) Q E s:=by
    intro A E i slot s Q ⟨o1,e1,e2,e3,e4⟩ q;unfold ydk;refine yaa (yuc e1 e3 e4 ?_);dsimp only;refine yaa (bt ?_);rw[if_neg (by simp)];have nd:¬ (!t.plain&&decide (es.size>1))=true:=by
     rw[decide_eq_false (by omega),ysl];exact yeb
    refine yve (λz=>absurd z nd) (λ_=>?_);have nl:¬ (!t.led && !es.isEmpty)=true:=by
     rw[hl];simp
    refine yaa (yve (λz=>absurd z nl) (λ_=>yfa ?_));exact yfa q
   have ps:t.place.size=es.size:=by
    have z:=hf;unfold ykr at z;simp at z;exact z.1
   refine h _ s.drawn _ es.size _ _ _ (λb o e=>yca _ e) (yga _) fpk (zbo (a:=a) hh ne es ep t (es.toList.map (·.2)) (λslot i=>(i=0∧slot=0)∨(i=1∧∃j,t.place=#[j]∧slot=j+1)) ?_ ?_) ⟨⟨0,yha _ rfl,.inl ⟨rfl,rfl⟩⟩,so.keep λo e=>yca _ e⟩ hz λvs hv hP=>?_
   ·intro A E i slot s Q hi r so' q;have i0:i=0:=(by omega);subst i0;have s0:slot=0:=by
     rcases r with⟨_,z⟩|⟨z,_⟩
     ·exact z
     ·cases z
    subst s0;obtain⟨j,ej⟩:∃j,t.place=#[j]:=by
     rcases Array.size_eq_one_iff.mp (show t.place.size=1 by omega) with⟨j,z⟩
     exact⟨j,z⟩
    have e1:es[0]?=some es[0]:=yyb hi;refine stp A E 0 0 s Q so' ?_;have bl:yzb t.place 0=0:=by
     rw[ej];simp[yzb,yef]
    rw[bl,e1,ej];exact q _ _ (by rw[yqa,yob,e1];rfl) (.inr ⟨rfl,j,ej,rfl⟩)
   ·intro A E slot s Q r so' q;refine stp A E _ slot s Q so' ?_;have en:es[yzb t.place slot]?=none:=by
     rcases r with⟨z,y⟩|⟨z,j,ej,y⟩
     ·exact yqf (by omega)
     ·have bl:yzb t.place slot=1:=by
       rw[ej,y];simp[yzb,yef]
      rw[bl];exact yqf (by omega)
    rw[en];exact q
   ·refine zfk hel hp ?_;have e1:vs=es.toList.map (·.2):=zpj (by rw[hv,yba,ypa]) hP;rw[e1]
end
end SSet
namespace SSet
open PySem PySem.Spec PyProof.Rows PySem.W
section
variable {prog:yvb}{w:World}{A:Around}{E:Value->Shared->Prop}{s:Shared}
theorem zagb {r:Addr}{Q:Bool->Shared->Prop}(ty:s.TypeIs (.ref r) "set")(q:Q false s):wpAny (model prog w) A (ywk (.ref r)) Q E s:=by
 unfold ywk;refine yaa (wpAny_specialOf ty PySem.F.slot_set_len.lookup ?_);generalize hx:("set.__len__":String)=nm
 wp_delta
 rw[show splitId nm=some ("set","__len__") from by subst hx;decide +kernel];subst hx;refine yaa (yei (b:=true) (T:="set") ty (by rw[yuo];kernel_rfl) ?_);refine yve (λz=>absurd z (by decide)) (λ_=>?_);refine yve (λ_=>?_) (λz=>absurd (by decide +kernel) z);exact yaa (ymi ty (yfa q))
theorem zpdb {a:Addr}{D:List Str}{R:List Value->Shared->Prop}(hh:A.handled=none)(hS:SS prog w s.heap a D (!w.params.followText "set-order"))
  (h:∀(h':Heap) (d':Drawn) (tk:Nat) (vs:List Value) (ys:List Str),(∀b o,s.heap.get? b=some o->h'.get? b=some o)->s.heap.objs.size<h'.objs.size->ytl vs ys->ys.Perm D->R vs { s with heap:=h',drawn:=d',toks:=tk }) :
  wpAny (model prog w) A (ycr (.ref a)) R E s:=by
 obtain⟨oA,hoA⟩:∃o,s.heap.get? a=some o:=let ⟨o,_,_,_,e,_⟩:=hS;⟨o,e⟩;have alt:a<s.heap.objs.size:=yna hoA;have dz:D.length≤ywa:=by
  obtain⟨o,es,ep,t,_,_,_,_,hp,hb,_⟩:=hS;rw[← hp.length_eq,yba,ypa];exact ylg hb
 have nSa:s.heap.objs.size≠a:=ytg alt;unfold ycr;refine yaa (yzh (yqc yhk ?_));rw[ysc yxk _];show wpAny _ A.in1 (newList [] >>= λl=>again (.builtin "list.__iadd__" ⟨[l,.ref a],[]⟩)) _ _ s
 refine yaa (ycd (yfa ⟨yse ybh _,yqc yen ?_⟩));rw[ysc ybh _];show wpAny _ A.in1 (ypd (.ref s.heap.objs.size) (.ref a) (.ref s.heap.objs.size)) _ _ _
 unfold ypd;have S1:SS prog w (s.heap.push { cls:=.type "list",data:=.seq ([]:List Value).toArray }) a D (!w.params.followText "set-order"):=hS.keep λo e=>yca _ e;have g1:(s.heap.push { cls:=.type "list",data:=.seq ([]:List Value).toArray }).get? s.heap.objs.size=some { cls:=.type "list",dict:=none,data:=.seq #[] 0,slots:=#[] }:=yha _ rfl;have k1:∀b o,s.heap.get? b=some o->(s.heap.push { cls:=.type "list",data:=.seq ([]:List Value).toArray }).get? b=some o:=λb o e=>yca _ e;generalize s.heap.push { cls:=.type "list",data:=.seq ([]:List Value).toArray }=h1 at S1 g1 k1 ⊢;have ty1:yah { s with heap:=h1 } (.ref a) "set":=by
  obtain⟨o,es,ep,t,ho,hex,_⟩:=S1;exact⟨o,ho,hex.1⟩
 refine yaa (ymi (T:="set") ty1 ?_);have ns:yog (.ref s.heap.objs.size) (.ref a)=false:=by simp[yog,nSa]
 simp only[ns,show (Value.type "set" == Value.type "list")=false by decide,show (Value.type "set" == Value.type "tuple")=false by decide,ytm,yxf,if_false];refine yaa (ztnb (s:={ s with heap:=h1 }) (A:=A.in1) hh S1 λh2 d2 I n fp P St k2 hI hfp W st hn hv=>?_);have ty2:yah { s with heap:=h2,drawn:=d2 } (.ref a) "set":=by
  obtain⟨o,e,c⟩:=ty1;exact⟨o,k2 _ _ e,c⟩
 have slt:s.heap.objs.size<h1.objs.size:=yna g1;have nf:s.heap.objs.size∉fp:=λz=>by
  rcases hfp _ z with z|z
  ·exact nSa z
  ·exact absurd (yua slt z) (yid _)
 have key:∀(R':Result->Shared->Prop) (h3:Heap) (c:Nat),St 0 h3->(∀b o,b≠s.heap.objs.size->h2.get? b=some o->h3.get? b=some o)->h3.get? s.heap.objs.size=some { cls:=.type "list",dict:=none,data:=.seq #[] c,slots:=#[] } →
   (∀(h4:Heap) (tk:Nat) (vs:List Value) (ys:List Str) (c':Nat),(∀b o,s.heap.get? b=some o->h4.get? b=some o)->ytl vs ys->ys.Perm D->h4.get? s.heap.objs.size=some { cls:=.type "list",dict:=none,data:=.seq vs.toArray c',slots:=#[] }->R' (.ok (.ret (.ref s.heap.objs.size))) { s with heap:=h4,drawn:=d2,toks:=tk }) →
   yqi (model prog w) A (.builtin "list.extend.loop" ⟨[.ref s.heap.objs.size,.ref I,.ref s.heap.objs.size],[]⟩) R' { s with heap:=h3,drawn:=d2 }:=by
  intro R' h3 c st3 k3 g3 hR;refine codeAny_extend_loopS W.toS (by omega) s.heap.objs.size nf _ n 0 _ #[] c rfl (yqb _) st3 g3 (ItemsOf.nil _) λs' acc c' mv g' ia=>?_;rw[Moved.eq_with mv];obtain⟨ys,sy,py⟩:=hv acc.toList (by rw[ypa];exact ia.1) λi v e=>ia.2 i v (by rw[← yob];exact e);refine hR s'.heap s'.toks acc.toList ys c' (λb o e=>?_) sy py (by rw[ynd];exact g');have nb:b≠s.heap.objs.size:=yva (yna e);refine mv.heap b o (λz=>?_) (k3 b o nb (k2 b o (k1 b o e)))
  rcases yka.mp z with z|z
  ·exact nb z
  ·have bi:b=I:=yia.mp z;have:=yna (k1 b o e);rw[bi] at this;exact absurd (yua this hI) (yid _)
 have g2:=k2 _ _ g1;have fin:∀(h4:Heap) (tk:Nat) (vs:List Value) (ys:List Str) (c':Nat),(∀b o,s.heap.get? b=some o->h4.get? b=some o)->ytl vs ys->ys.Perm D->h4.get? s.heap.objs.size=some { cls:=.type "list",dict:=none,data:=.seq vs.toArray c',slots:=#[] } →
   wpAny (model prog w) A (load s.heap.objs.size >>= λo=>match o.data with
    | .seq xs _=>pure xs.toList
    | _=>yum "internal:collect") R E { s with heap:=h4,drawn:=d2,toks:=tk }:=λh4 tk vs ys c' k4 sy py g4=>by
  refine yaa (yzl g4 ?_);show wpAny _ _ (pure vs.toArray.toList) _ _ _
  exact yfa (h h4 d2 tk vs ys k4 (yna g4) sy py)
 refine yaa (ykc (zagb ty2 ?_));refine yve (λ_=>?_) (λ_=>yfa ⟨yse ydg _,key _ h2 0 st (λb o _ e=>e) g2 fin⟩);refine yaa (ylk (yaa ?_));show wpAny _ _ (ynp s.heap.objs.size (·.push .none) >>= λ_=>ynp s.heap.objs.size (·.pop)) _ _ _
 refine yaa (ynh g2 rfl ?_);have g3:=ymc (ytd (·.push Value.none)) g2 rfl;refine ynh (hz:=by seq_fits) g3 rfl ?_;have g4:=ymc (ytd (·.pop)) g3 rfl;refine yfa ⟨yse ydg _,key _ _ _ ?_ (λb o nb e=>?_) g4 fin⟩
 ·refine W.frame 0 _ _ st λb hb o e=>?_;have nb:s.heap.objs.size≠b:=λz=>nf (z▸hb);exact (ysb _ _ nb).trans ((ysb _ _ nb).trans e)
 ·exact (ysb _ _ (ywc nb)).trans ((ysb _ _ (ywc nb)).trans e)
theorem ztgb {a:Addr}{D:List Str}{Q:Value->Shared->Prop}(hh:A.handled=none)(hS:SS prog w s.heap a D (!w.params.followText "set-order"))(h64:D.length<64)
  (h:∀(h':Heap) (d':Drawn) (tk:Nat) (p:Addr) (vs:List Value) (ys:List Str) (n:Nat),(∀b o,s.heap.get? b=some o->h'.get? b=some o)->s.heap.objs.size≤p->h'.get? p=some { cls:=.type "list",data:=.seq vs.toArray n }->ytl vs ys->ys.Perm D->yyk ys=true →
   Q (.ref p) { s with heap:=h',drawn:=d',toks:=tk }):wpAny (model prog w) A (call (.builtin "sorted") [.ref a]) Q E s:=by
 refine yai kind_sorted yiq yjq (ykq _) ?_;unfold yhf.«sorted»;refine yaa (m:=checkCount "sorted" 1 1 _) (yfa (yaa (zpdb (A:=A.in1) hh hS λh1 d1 tk vs ys k1 lt1 sy py=>?_)));have vl:vs.length<64:=by rw[sy.length,py.length_eq];exact h64
 refine yaa (yxm ?_ (ymb (yde vl) (by decide)));have g1:(h1.push (seqObj "list" vs.toArray 0)).get? h1.objs.size=some (seqObj "list" vs.toArray 0):=yha _ rfl;refine yaa (ykc (ysd yvo ⟨_,g1,rfl⟩ yfo (list_sort_treeK strKind_oneLt g1 sy.keysOf (λv1 v2 rest e=>keyKind_strs (by rw[← e];exact sy)) vl λst' a1 a2=>⟨_,rfl,?_⟩) (ywo _)));obtain⟨zs,z1,z2,z3⟩:=sorted_out_str sy a1 a2;obtain⟨e,he⟩:=sortedHeap_at (vs:=vs) (out:=(arrOf st').map (·.2)) g1;refine yfa ⟨_,rfl,h _ d1 tk h1.objs.size ((arrOf st').map (·.2)).toList zs e (λb o q=>?_) (yde lt1) ?_ z1 (z2.trans py) z3⟩
 ·have q1:=k1 b o q;have bl:=yna q1;rw[sortedHeap_old (yva bl) (by rw[size_push'];exact yoc bl)];exact yca _ q1
 ·rw[ynd];exact he
end
end SSet
namespace L2
open PySem PySem.Spec PyProof.Rows
theorem strs_vals':∀{vs:List Value} {ys:List Str},ytl vs ys->Vals (ys.map V.str) vs
 | _,_,.nil=>.nil
 | _,_,.cons x t r=>.cons ⟨t,rfl⟩ (strs_vals' r)
def setO (X:Cx)(l:Addr)(D:List Str):HO:=.ext λh=>SSet.SS X.prog X.w h l D (!X.w.params.followText "set-order")
section
variable {X:Cx}
theorem Inv.zijb {pins:List (Addr×Obj)}{σ:St}{H:Hp}{s:Shared}(I:Inv X pins σ H s)(d:Drawn):Inv X pins σ H { s with drawn:=d } :=
 I.call (h':=s.heap) (g':=s.gens) (d':=d) (t':=s.toks) (ch:=[]) (Un.kept λb o e=>e) I.hok I.bare (λb z=>absurd z (by simp))
theorem zly (hc:X.calm=true):zqg X (.type "set") (λxs H Q=>Ex2 λp ys=>xs=[.ref p]∧SqL X.K H p (ys.map V.str)∧ys.length≤1000∧∀l,H l=none->Q (.ref l) (upd H l (setO X l (SSet.dd ys)))):=by
 intro pins s σ H xs us Q I r h;obtain⟨p,ys,rfl,hq,hy,q⟩:=h;obtain⟨u,rfl,ru⟩:=vals1 r;cases ru;obtain⟨its,rv,pl,hz⟩:=I.list hq;have sy:=znj rv;have il:its.length=ys.length:=sy.length;refine SSet.set_list (xs:=ys) (I.ok.hd hc) pl.isList (by simpa using sy) (by rw[yoa,il];have:ykf=4096:=rfl;omega) λh' tk S k=>?_;have I1:Inv X pins σ (upd H s.heap.objs.size (setO X s.heap.objs.size (SSet.dd ys))) { s with heap:=h',toks:=tk }:=I.laid (t':=tk) (λb o e=>k b o e) (yga _) ⟨S,let ⟨o,_,_,_,e,_⟩:=S;⟨o,e⟩,λh1 h2 x y=>x.keep y⟩;exact⟨.ref s.heap.objs.size,_,I1,rfl,q _ (I.hok.fresh (yga _))⟩
theorem zml (hc:X.calm=true):zqg X (.builtin "sorted") (λxs H Q=>Ex2 λl D=>xs=[.ref l]∧H l=some (setO X l D)∧D.length<64∧∀p ys,H p=none->ys.Perm D->yyk ys=true->Q (.ref p) (upd H p (.lst (ys.map V.str)))):=by
 intro pins s σ H xs us Q I r h;obtain⟨l,D,rfl,hl,h64,q⟩:=h;obtain⟨u,rfl,ru⟩:=vals1 r;cases ru;obtain⟨S,_,_⟩:=I.hok l _ hl;refine SSet.ztgb (I.ok.hd hc) S h64 λh' d' tk p vs ys n k hp g sy py so=>?_;have I0:=I.zijb d';have vl:vs.length≤ywa:=by
  rw[sy.length,py.length_eq];exact ymb (yde h64) (by decide)
 have I1:Inv X pins σ (upd H p (.lst (ys.map V.str))) { s with heap:=h',drawn:=d',toks:=tk }:=I0.laid (t':=tk) (λb o e=>k b o e) hp ⟨by rw[yba,← sy.length];exact vl,vs,n,strs_vals' sy,g⟩;exact⟨.ref p,_,I1,rfl,q p ys (I.hok.fresh hp) py so⟩
end
end L2
namespace L2
open PySem PySem.Spec PyProof.Rows
theorem zcob {x:Str}:∀{v:Value},KTD.flatLooks (.str x) v=true->RelV (.str x) v
 | .str y t,h=>⟨t,by rw[show x=y from beq_iff_eq.mp h]⟩
theorem zcw:∀{ss:List Str} {vs:List Value},KTD.flatsLook (ss.map PyData.str) vs=true->Vals (ss.map V.str) vs
 | [],[],_=>.nil
 | x::ss,v::vs,h=>by
  rw[yib] at h;have h':(KTD.flatLooks (.str x) v&&KTD.flatsLook (ss.map PyData.str) vs)=true:=h;rw[ytc] at h';exact .cons (zcob h'.1) (zcw h'.2)
def TupK (K:yda)(a:Addr)(ss:List Str):Prop:=yoi (λb=>K.lookup b) (.tup (ss.map PyData.str)) (.ref a)=true
theorem TupK.sq {K:yda}{a:Addr}{ss:List Str}(h:TupK K a ss)(hz:ss.length≤1000)(H:Hp):SqT K H a (ss.map V.str):=by
 unfold TupK yoi at h;simp only at h
 split at h
 ·rename_i o ho;rw[ytc] at h;obtain⟨e1,e2⟩:=h
  split at e2
  ·rename_i vs n hd;have V:=zcw e2;have hl:=V.length;refine .inr ⟨o,vs,n,ho,beq_iff_eq.mp e1,hd,?_,V⟩;rw[yba] at hl;have:vs.size=ss.length:=by simpa using hl.symm
   rw[this];exact ymb hz (by decide)
  ·cases e2
 ·cases h
theorem zpnb {K:yda}{ss:List Str}:∀{v:Value},yoi (λb=>K.lookup b) (.tup (ss.map PyData.str)) v=true->∃b,v = .ref b∧TupK K b ss
 | .ref b,h=>⟨b,rfl,h⟩
section
variable {X:Cx}{a:Addr}{D:List (Str×yir)}
abbrev TabK (K:yda)(a:Addr)(D:List (Str×yir)):Prop:=ydr (yoi λb=>K.lookup b) (λb=>K.lookup b) a D=true
theorem zcrb {K:yda}(hK:X.K=K)(l:TabK K a D):IxR X (λx y H Q=>Ex2 λk ss=>x = .ref a∧y = .str k∧yyo k D=some (.tup (ss.map PyData.str))∧∀b,TupK K b ss->Q (.ref b) H):=by
 subst hK;intro value slice pins s σ H x y v u Q I rx ry h hs;obtain⟨k,ss,rfl,rfl,hat,q⟩:=h;cases rx;obtain⟨tk,rfl⟩:=ry;obtain⟨_,o,es,ep,ho,hc,hd,hr⟩:=KTD.tab_of_look (R:=λd v=>yoi (λb=>X.K.lookup b) d v=true) (λ_ _ z=>z) (h:=s.heap) (λb o z=>I.kIn b o z) l;obtain⟨z,hz,hl⟩:=hr.find_some hat
 obtain⟨b,rfl,hb⟩:=zpnb hl;have ty:s.TypeIs (.ref a) "dict":=⟨o,ho,hc.1⟩;refine yaj (x:=.ref b) ty ykg.lookup ?_ hs;unfold ywn
 try with_reducible refine ykc ?_
 refine yaa (ylj ty (by decide) ?_);refine yaa (yze (name:=yli "__getitem__") ty ykg
  (ysd ykg ty entry_dict_getitem ?_ (args_dict_getitem _ _)))
 have fin:∀k',EP X pins σ Q (.ref b) { s with toks:=k' }:=λk'=>⟨.ref b,H,I.tok _,rfl,q b hb⟩;have fnd:findBy (λk v=>v.isStr k) es k=some (.ref b):=by
  rw[← hz];obtain⟨l⟩:=es;simp[findBy]
 show wpAny _ _ (dictGet a (.str k tk) >>= _) _ _ s
 refine yaa ?_;unfold dictGet
 try with_reducible refine ykc ?_
 refine yaa (wpAny_pyHash_str (yaa (KTD.kt_dictFind_strs (s:={ s with toks:=s.toks+1 }) ho hd (by obtain⟨l⟩:=es;simpa using hr.exact) ?_)));rw[findBy_of_findIdx?] at fnd;cases hi:es.findIdx? λe=>e.key.isStr k with
 | none=>rw[hi] at fnd;cases fnd
 | some i =>
  rw[hi] at fnd;refine yaa (wpAny_dictEntries (s:={ s with toks:=s.toks+1 }) ho hd (yfa ?_));rw[show es[i]?.map (·.val)=some (.ref b) from fnd];exact yfa ⟨_,rfl,yfa ⟨rfl,fin _⟩⟩
end
structure Isi (K:yda)(C:Addr):Prop where
 ha:ykb K (.ref C) "__class__" = some (some (.builtin "object.__class__"))
 hn:yjj K (.builtin "object.__class__") "__get__" = some (some (.builtin "getset_descriptor.__get__"))
 ht:ysn K (.builtin "object.__class__")=some true
 hm:ygp K C (.type "object")=some true
 oStr:yrc K (.ref C) (.type "str")=some false
 oInt:yrc K (.ref C) (.type "int")=some false
 oTup:yrc K (.ref C) (.type "tuple")=some false
 oLst:yrc K (.ref C) (.type "list")=some false
 sO:yrc K (.type "str") (.ref C)=some false
 iO:yrc K (.type "int") (.ref C)=some false
end L2
namespace L2
open PySem PySem.Spec PyProof.Rows
section
variable {X:Cx}
theorem zmnb:MtR X "str.join" (λx xs H Q=>Ex3 λsep a ys=>x = .str sep∧xs=[.ref a]∧SqT X.K H a (ys.map V.str)∧(ys.map (·.length)).sum+ys.length*sep.length≤16777216∧Q (.str (yya sep ys)) H):=by
 intro pins s σ H x xs v us Q I rx rs h;obtain⟨sep,a,ys,rfl,rfl,hq,hz,q⟩:=h;obtain⟨t,rfl⟩:=rx;obtain⟨u,rfl,ru⟩:=vals1 rs;cases ru;obtain⟨its,rv,p,_⟩:=I.tuple hq;refine join_tuple (items:=its.toArray) (ys:=ys) p (by simpa using znj rv) hz λt' k=>⟨.str _,H,I.tok k,⟨t',rfl⟩,?_⟩;have e:Txt.join sep ys=yya sep ys:=by first|rfl|exact yao sep ys
 rw[e];exact q
theorem zsr:zqg X (.builtin "sorted") (λxs H Q=>Ex2 λl zs=>xs=[.ref l]∧SqL X.K H l (zs.map V.str)∧zs.length<64∧∀p ys,H p=none->ys.Perm zs->yyk ys=true->Q (.ref p) (upd H p (.lst (ys.map V.str)))):=by
 intro pins s σ H xs us Q I r h;obtain⟨l,zs,rfl,hl,h64,q⟩:=h;obtain⟨u,rfl,ru⟩:=vals1 r;cases ru;obtain⟨its,rv,pl,_⟩:=I.list hl;have sy:=znj rv;refine sorted_strs (vs:=its) (ss:=zs) pl.isList sy (by rw[sy.length];exact h64) λout ys a1 a2 a3=>?_;obtain⟨e,he⟩:=sortedAll_at s.heap its out;have vl:out.toList.length≤ywa:=by
  rw[a1.length,a2.length_eq];exact ymb (yde h64) (by decide)
 have I1:Inv X pins σ (upd H (s.heap.objs.size+1) (.lst (ys.map V.str))) { s with heap:=yer s.heap its out }:=I.laid (t':=s.toks) (λb o e=>sortedAll_old e) (yge _) ⟨by rw[yba,← a1.length];exact vl,out.toList,e,strs_vals' a1,by rw[ynd];exact he⟩;exact⟨.ref (s.heap.objs.size+1),_,I1,rfl,q _ ys (I.hok.fresh (yge _)) a2 a3⟩
end
end L2
namespace TSort
open PySem PyProof.Rows
abbrev IL:=List Int
section keys
variable (k:Value->IL)
def ka (xs:Array Keyed)(i:Nat):IL:=((xs[i]?).map λp=>k p.1).getD []
def Up (xs:Array Keyed)(n:Nat):Prop:=∀i j,i<j->j<n->ka k xs i<ka k xs j
def Dn (xs:Array Keyed)(n:Nat):Prop:=∀i j,i<j->j<n->ka k xs j<ka k xs i
variable {k}
end keys
structure Ok (a0:Array Keyed)(kd:SortKind)(st:SortSt):Prop where
 perm:(arrOf st).Perm a0
 kind:kindOf st=kd
 none:failedOf st=none
 pend:pendingOf st=#[]
section
variable {pr:yvb}{wo:World}{Ar:Around}{Ex:Value->Shared->Prop}{sh:Shared}{k:Value->IL}{a0:Array Keyed}{kd:SortKind}
structure Cmp (pr:yvb)(wo:World)(Ar:Around)(Ex:Value->Shared->Prop)(sh:Shared)(k:Value->IL)(a0:Array Keyed)(kd:SortKind):Prop where
 lt:∀(x y:Keyed) (st:SortSt) (R:Option Bool->SortSt->Prop),kindOf st=kd->x∈a0.toList->y∈a0.toList->k x.1≠k y.1->R (some (decide (k x.1<k y.1))) st->wpS (model pr wo) Ar Ex sh (lt' x y) R st
 un:(a0.toList.map λp=>k p.1).Nodup
end
end TSort
namespace TSort
open PySem PyProof.Rows
section
variable {pr:yvb}{wo:World}{Ar:Around}{Ex:Value->Shared->Prop}{sh:Shared}{k:Value->IL}{a0:Array Keyed}{kd:SortKind}
structure Fin (k:Value->IL)(a0:Array Keyed)(st:SortSt):Prop where
 perm:(arrOf st).Perm a0
 none:failedOf st=none
 pend:pendingOf st=#[(0,a0.size,0)]
 up:Up k (arrOf st) a0.size
end
end TSort
namespace TSort
open PySem PyProof.Rows
def kf (f:Addr->IL):Value->IL
 | .ref a=>f a
 | _=>[]
section
variable {pr:yvb}{wo:World}{Ar:Around}{Ex:Value->Shared->Prop}{sh:Shared}
end
end TSort
namespace TSort
open PySem PyProof.Rows
section
variable {pr:yvb}{wo:World}{Ar:Around}{Ex:Value->Shared->Prop}{sh:Shared}
end
end TSort
namespace L2
open PySem PyProof.Rows
section
variable {X:Cx}
end
end L2
namespace L2
open PySem PyProof.Rows
section
variable {pr:yvb}{wo:World}{Ar:Around}{Ex:Value->Shared->Prop}
end
section
variable {X:Cx}
theorem znqb (K:yda){es:List Expr}{k:Nat}{t:TGs}{n:Nat}{pos:Pos}(hc:X.calm=true)(h:PGs X es t)
  (hn:(yhj es X.env).length=n:=by rfl) (hst:(yhj es X.env).findIdx? (·.1)=none:=by rfl) (hK:X.K=K:=by rfl):PG X (.Tuple es k pos) (gTup K n t):=hK▸zer hc h hn hst
end
end L2
namespace L2
open PySem PyProof.Rows
section
variable {X:Cx}
inductive TyB (K:yda)(H:Hp):V->Value->Prop where
 | non:TyB K H .non (.type "NoneType")
 | bl (x:Bool):TyB K H (.bl x) (.type "bool")
 | int (i:Int):TyB K H (.int i) (.type "int")
 | str (x:Str):TyB K H (.str x) (.type "str")
 | lst {a:Addr} {xs:List V} (e:SqL K H a xs):TyB K H (.ref a) (.type "list")
 | tup {a:Addr} {xs:List V} (e:SqT K H a xs):TyB K H (.ref a) (.type "tuple")
end
end L2
namespace L2
open PySem PySem.Spec PyProof.Rows
section
variable {κ:Type}[DecidableEq κ]
def valV (kvs:List (κ×V))(k:κ):Option V:=(kvs.find? λkv=>decide (kv.1=k)).map (·.2)
end
section
variable {P:yvb}{w:World}{H:Hp}{h:Heap}{a:Addr}
end
section
variable {X:Cx}{pins:List (Addr×Obj)}{σ:St}{H:Hp}{s:Shared}{a:Addr}{y v:V}{u r:Value}{o:Option V}{A:Around}{E:Value->Shared->Prop}
end
section
variable {X:Cx}{pins:List (Addr×Obj)}{σ:St}{H:Hp}{s:Shared}{a:Addr}{kvs:List (Key×V)}{k:Key}{u:Value}{A:Around}{E:Value->Shared->Prop}
end
section
variable {X:Cx}{o i e value:Expr}{pos pos' tpos:Pos}{td ty tv:TE}
end
section
variable {X:Cx}{pos:Pos}
end
structure M1 (X:Cx)(o:Expr)(m:Str)(apos:Pos)(e:Expr)(cpos:Pos):Prop where
 base:yri o m X.env (eval o X.env)=eval o X.env
 few:((backTo cpos (yxc [e] X.env)).all (λx=>!x.1)&&(ysq cpos (yrm [] X.env)).all (λx=>x.1.isSome)
  && decide (([e]:List Expr).length+([]:List ywp).length+(if ([]:List ywp).isEmpty then 0 else 1)<30))=true
 line:(apos.endLine==cpos.line)=true
 trees:backTo cpos (yxc [e] X.env)=[(false,eval e X.env)]
structure M2 (X:Cx)(o:Expr)(m:Str)(apos:Pos)(e f:Expr)(cpos:Pos):Prop where
 base:yri o m X.env (eval o X.env)=eval o X.env
 few:((backTo cpos (yxc [e,f] X.env)).all (λx=>!x.1)&&(ysq cpos (yrm [] X.env)).all (λx=>x.1.isSome)
  && decide (([e,f]:List Expr).length+([]:List ywp).length+(if ([]:List ywp).isEmpty then 0 else 1)<30))=true
 line:(apos.endLine==cpos.line)=true
 trees:backTo cpos (yxc [e,f] X.env)=[(false,eval e X.env),(false,eval f X.env)]
section
variable {X:Cx}{pins:List (Addr×Obj)}{σ:St}{H:Hp}{s:Shared}{a:Addr}{y d:V}{u r:Value}{o:Option V}{A:Around}{E:Value->Shared->Prop}
end
section
variable {X:Cx}{o e f:Expr}{apos cpos:Pos}{td ty tx:TE}
end
section
variable {X:Cx}{pins:List (Addr×Obj)}{σ:St}{H:Hp}{s:Shared}{a:Addr}{kvs:List (Key×V)}{A:Around}{E:Value->Shared->Prop}
end
section
variable {X:Cx}{pins:List (Addr×Obj)}{σ:St}{H:Hp}{s:Shared}{a:Addr}{y:V}{u:Value}{A:Around}{E:Value->Shared->Prop}
end
end L2
namespace L2
open PySem PyProof.Rows
section
variable {pr:yvb}{wo:World}{Ar:Around}{Ex:Value->Shared->Prop}{sh:Shared}
end
section
variable {X:Cx}{pins:List (Addr×Obj)}{σ:St}{H:Hp}{s:Shared}{h':Heap}
theorem Inv.zlpb {t':Nat}{p q:Addr}(I:Inv X pins σ H s)(k:∀b o,b≠p->b≠q->s.heap.get? b=some o->h'.get? b=some o)(fp:FpOk X pins H p)(fq:FpOk X pins H q):Inv X pins σ H { s with heap:=h',toks:=t' }:=by
 have o1:∀b u,H b=some u->b≠p:=λb u e z=>by
  rw[z,fp.1] at e;cases e
 have o2:∀b u,H b=some u->b≠q:=λb u e z=>by
  rw[z,fq.1] at e;cases e
 have kk:∀b o,b∉[p,q]->s.heap.get? b=some o->h'.get? b=some o:=λb o hb e=>k b o (λz=>hb (by simp[z])) (λz=>hb (by simp[z])) e;refine I.step (g':=s.gens) (d':=s.drawn) (ch:=[p,q]) (λb hb=>?_) (λb o _ _ hc e _=>kk b o hc e) (λb o _ _ hc e _=>⟨o.slots,kk b o hc e⟩) (λ_ _ _ _ n=>n)
  (λb o hc e=>⟨o,kk b o hc e⟩) (λ_ _ e=>e) (λ_ _ _ e=>e) (λb ps e=>⟨#[],by rw[e];simp⟩) (λm hm=>?_) (λb u e=>?_) I.bare
 ·have e:b=p∨b=q:=by simpa using hb
  rcases e with e|e
  ·rw[e];exact⟨fp.2.2.2.1,fp.2.1,fp.2.2.2.2.1,fp.2.2.2.2.2⟩
  ·rw[e];exact⟨fq.2.2.2.1,fq.2.1,fq.2.2.2.2.1,fq.2.2.2.2.2⟩
 ·obtain⟨o,es,ep,ho,r⟩:=hm;exact⟨o,es,ep,k _ o (ywc fp.2.1) (ywc fq.2.1) ho,r⟩
 ·refine (I.hok b u e).stay (λc v hc z=>?_) (λ_ z=>z) λ_ _ z=>z
  rcases hc with y|y
  ·rw[y];rw[y] at z;exact k b v (o1 b u e) (o2 b u e) z
  ·exact k c v (o1 c _ y) (o2 c _ y) z
end
section
variable {X:Cx}
theorem zmlb:ykh "enumerate" = some (.type "enumerate"):=by decide +kernel
end
end L2
namespace L2
open PySem PyProof.Rows
section
variable {X:Cx}{e st:Expr}{te ts:TE}{p2 pos:Pos}
end
end L2
namespace DL
open PySem PySem.Spec PyProof.Rows
section
variable {prog:yvb}{w:World}{A:Around}{E:Value->Shared->Prop}{s:Shared}
section
variable {κ:Type}[DecidableEq κ]{knd:KeyKind prog w κ}
end
end
end DL
namespace L2
open PySem PyProof.Rows
section
variable {X:Cx}
end
end L2
namespace SSet
open PySem PySem.Spec PyProof.Rows
section
variable {prog:yvb}{w:World}{A:Around}{E:Value->Shared->Prop}{s:Shared}
theorem set_tuple {l:Addr}{its:Array Value}{xs:List Str}{Q:Value->Shared->Prop}(hh:A.handled=none)(hl:s.heap.IsTuple l its)(hi:ytl its.toList xs)(hb:its.size+1<ykf)
  (h:∀(h':Heap) (tk:Nat),SS prog w h' s.heap.objs.size (dd xs) (!w.params.followText "set-order")->(∀c o,s.heap.get? c=some o->h'.get? c=some o)->Q (.ref s.heap.objs.size) { s with heap:=h',toks:=tk }) :
  wpAny (model prog w) A (call (.type "set") [.ref l]) Q E s:=by
 obtain⟨cM,tM,mro⟩:=yfb.mro;have made:=yfb.made;have subs:=yfb.sub;have notT:=yfb.notType;have canC:=yfb.canCreate;have chk:=ybj (.ref l);refine yro (yuk ?_);show wpAny _ _ (callAny (.type "set") ⟨[.ref l],[]⟩) _ _ _
 refine yfa ⟨yvi _ (by decide +kernel),yqc ywi ?_⟩;rw[yml (yvj "set" [Value.ref l] []) rfl]
 repeat (any_goals (first|assumption|wp_step))
 refine ywf (zedb (.ref l) (E:=E) (Q1:=λob s1=>ob = .ref s.heap.objs.size∧s1={ s with heap:=s.heap.push (empt w) }) ⟨rfl,rfl⟩) λr s1 hr=>?_;cases r with
 | error e=>exact hr
 | ok fl =>
  cases fl with
  | ret ob =>
   obtain⟨rfl,rfl⟩:=hr;have g0:(s.heap.push (empt w)).get? s.heap.objs.size=some (empt w):=yha _ rfl;have ty0:yah { s with heap:=s.heap.push (empt w) } (.ref s.heap.objs.size) "set":=⟨_,g0,rfl⟩;have lk:=yfb.init.lookup;have bd:=yfb.init.bind (.ref s.heap.objs.size)
   repeat (any_goals (first|assumption|wp_step))
   refine ywf (ygk (R:=wants (λr s2=>r = .none∧∃h' tk,s2={ s with heap:=h',toks:=tk }∧SS prog w h' s.heap.objs.size (dd xs) (!w.params.followText "set-order") ∧
     (∀c o,s.heap.get? c=some o->h'.get? c=some o)) E) yfb.init.plain ycj (ydn ty0 ?_)) λr2 s2 hr2=>?_
   ·obtain⟨ol,e1,e2,nl,e3⟩:=hl;obtain⟨oc,od,oD,osl⟩:=ol;dsimp only at e2 e3;subst e2 e3;have e1':(s.heap.push (empt w)).get? l=some { cls:=.type "tuple",dict:=od,data:=.seq its nl,slots:=osl }:=yca _ e1;have q1:=ygo;have q2:=yzk;have q3:(Value.type "tuple" == Value.type "dict")=false:=by decide
    have L1:(s.heap.push (empt w)).IsTuple l its:=⟨_,e1',rfl,nl,rfl⟩;have lt:l<s.heap.objs.size:=yna e1;unfold yhf.«set.__init__» noKeywords yjh;generalize hPI:pyIter=PI
    wp_walk
    subst hPI;refine yil L1 (yaa (yzh ?_));have ne:l≠(s.heap.push (empt w)).objs.size:=by
     rw[ylc];exact yva (yoc lt)
    have nf:s.heap.objs.size∉[(s.heap.push (empt w)).objs.size,l]:=by
     rw[ylc];intro z
     rcases yka.mp z with z|z
     ·exact absurd z (yva (yie _))
     ·exact absurd (yia.mp z) (ytg lt)
    have hv:∀(i:Nat) (v:Value),its[i]?=some v->∃x t,xs[i]?=some x∧v = .str x t:=λi v e=>zpcb hi i v (by rw[yob];exact e);have hx:xs.take its.size=xs:=yla (by rw[← ypa,hi.length];exact yga _);refine zzr (b:=!w.params.followText "set-order") (Walks.tuple (by simp[hh]) _ l ne its) nf xs hv hb (its.size-0) 0 _ (by omega) (yqb _) ⟨⟨_,yha _ rfl,rfl,rfl⟩,L1.push _⟩ ?S0 ?R0
    case S0=>exact (zwkb s.heap).keep λo e=>yca _ e
    case R0 =>
     intro h' tk S' keep;rw[hx] at S';show wpAny _ _ _ _ _ _
     refine yfa ?_;show wpAny _ _ (ret Value.none) _ _ _
     refine yfa ⟨rfl,h',tk,rfl,S',λc o e=>?_⟩;have clt:=yna e;refine keep c o ?_ (yca _ (yca _ e));rw[ylc];intro z
     rcases yka.mp z with z|z
     ·exact absurd z (yva clt)
     ·exact absurd (yia.mp z) (yva (yoc clt))
   ·cases r2 with
    | error e=>exact hr2
    | ok fl2 =>
     cases fl2 with
     | ret r =>
      obtain⟨rfl,h',tk,rfl,S',keep⟩:=hr2
      repeat (any_goals (first|assumption|wp_step))
      exact h _ _ S' keep
     | next=>exact hr2.elim
     | brk=>exact hr2.elim
     | cont=>exact hr2.elim
  | next=>exact hr.elim
  | brk=>exact hr.elim
  | cont=>exact hr.elim
end
end SSet
namespace L2
open PySem PyProof.Rows
section
variable {X:Cx}
theorem zlbb (hc:X.calm=true):zqg X (.type "set") (λxs H Q=>∃p ys,xs=[.ref p]∧SqT X.K H p (ys.map V.str)∧ys.length≤1000∧∀l,H l=none->Q (.ref l) (upd H l (setO X l (SSet.dd ys)))):=by
 intro pins s σ H xs us Q I r h;obtain⟨p,ys,rfl,hq,hy,q⟩:=h;obtain⟨u,rfl,ru⟩:=vals1 r;cases ru;obtain⟨its,rv,pl,hz⟩:=I.tuple hq;have sy:=znj rv;have il:its.length=ys.length:=sy.length;refine SSet.set_tuple (xs:=ys) (I.ok.hd hc) pl (by simpa using sy) (by rw[yoa,il];have:ykf=4096:=rfl;omega) λh' tk S k=>?_;have I1:Inv X pins σ (upd H s.heap.objs.size (setO X s.heap.objs.size (SSet.dd ys))) { s with heap:=h',toks:=tk }:=I.laid (t':=tk) (λb o e=>k b o e) (yga _) ⟨S,let ⟨o,_,_,_,e,_⟩:=S;⟨o,e⟩,λh1 h2 x y=>x.keep y⟩;exact⟨.ref s.heap.objs.size,_,I1,rfl,q _ (I.hok.fresh (yga _))⟩
end
end L2
namespace L2
open PySem PySem.Spec PyProof.Rows PySem.MeetsSeq
theorem zxub (l b:Addr)(items items2:Array Value)(n n2:Nat)(dd dd2:Option Addr)(sl sl2:Array (Option Value))(hc0:items.isEmpty=true) :
  Meets (yhf.«tuple.__add__» ⟨[.ref l,.ref b],[]⟩) (λ_ R s=>s.heap.get? l=some { cls:=.type "tuple",dict:=dd,data:=.seq items n,slots:=sl }∧s.heap.get? b=some { cls:=.type "tuple",dict:=dd2,data:=.seq items2 n2,slots:=sl2 }∧R (.ok (.ret (Value.ref b))) s):=by
 refine .of_wp λprog w A R s h=>?_;obtain⟨hp,g,d,tk,os⟩:=s;obtain⟨hl,hb,h⟩:=h;have f2:=PySem.F.sub_tuple_tuple;unfold yhf.«tuple.__add__»
 wp_walk using wpAny_loadPart' hl,wpAny_loadPart' hb
 exact⟨_,rfl,h⟩
section
variable {X:Cx}
def zctb (K:yda):R2:=λx y H Q=>Ex4 λa b xs ys=>x = .ref a∧y = .ref b∧SqT K H a xs∧SqT K H b ys∧ys≠[]∧xs.length+ys.length≤ywa∧(xs=[]->Q (.ref b) H)∧(xs≠[]->∀p,H p=none->Q (.ref p) (upd H p (.tup (xs++ys))))
theorem zfx:OpR X (yhh .Add) (zctb X.K):=by
 intro pins s σ H x y v u Q I rx ry h;obtain⟨a,b,xs,ys,rfl,rfl,ha,hb,hy,hz,q1,q2⟩:=h
 by_cases c:xs=[]
 ·subst c;cases rx;cases ry;obtain⟨its,r1,p1,_⟩:=I.tuple ha;obtain⟨its2,r2,p2,_⟩:=I.tuple hb;cases r1;obtain⟨⟨cls,dd,data,sl⟩,ho,hc,n,hd⟩:=id p1;obtain⟨⟨cls2,dd2,data2,sl2⟩,ho2,hc2,n2,hd2⟩:=id p2;simp only at hc hd hc2 hd2;subst hc hd hc2 hd2;exact yvn ⟨_,ho,rfl⟩ ⟨_,ho2,rfl⟩ ybk ysm ygh yxg (ygg _ _)
   (zxub a b _ its2.toArray n n2 dd dd2 sl sl2 rfl) ⟨ho,ho2,⟨.ref b,H,I,rfl,q1 rfl⟩⟩
 ·exact zvm pins s σ H (.ref a) (.ref b) v u Q I rx ry ⟨a,b,xs,ys,rfl,rfl,ha,hb,c,hz,λz=>absurd z hy,λ_=>q2 c⟩
end
end L2
namespace L2
open PySem PyProof.Rows
section
variable {X:Cx}
end
end L2
namespace DK
open PySem PySem.Spec PyProof.Rows
section
variable {prog:yvb}{w:World}{A:Around}{E:Value->Shared->Prop}{s:Shared}
end
end DK
namespace L2
open PySem PyProof.Rows
section
variable {X:Cx}{pins:List (Addr×Obj)}{σ:St}{H:Hp}{s:Shared}
end
section
variable {X:Cx}
end
end L2
namespace L2
open PySem PyProof.Rows
section
variable {X:Cx}
end
end L2
namespace L2
open PySem PyProof.Rows
section
open PySem.SeqAt PySem.MeetsSeq
open AutoSeq1 (wpAny_loadPart')
end
section
variable {X:Cx}
end
section
open TSort
end
section
variable {pr:yvb}{wo:World}{A:Around}{R:Result->Shared->Prop}{I S:Addr}{fp wr:List Addr}{n:Nat}{P:Nat->Value->Prop}{St:Nat->Heap->Prop}{h0:Heap}
end
section
variable {pr:yvb}{wo:World}{A:Around}{E:Value->Shared->Prop}{s:Shared}
end
section
variable {X:Cx}
end
end L2
namespace ISet
open PySem PySem.Spec PyProof.Rows
def Rise (xs:Array Nat):Prop:=xs.toList.Pairwise (· < ·)
theorem Rise.at {xs:Array Nat}(h:Rise xs){i j:Nat}(hij:i<j)(hj:j<xs.size):xs[i]<xs[j]:=by
 have z:=yvl.mp h i j (by simp;omega) (by simp;omega) hij
 simpa using z
theorem zgrb {xs:Array Nat}(h:Rise xs)(j:Nat):∀(fuel lo hi:Nat),hi≤xs.size->lo≤hi->hi-lo≤fuel->(∀i (hi':i<xs.size),i<lo->xs[i]<j)->(∀i (hi':i<xs.size),hi≤i->j≤xs[i]) →
  yef xs j fuel lo hi≤xs.size∧(∀i (hi':i<xs.size),i<yef xs j fuel lo hi->xs[i]<j)∧(∀i (hi':i<xs.size),yef xs j fuel lo hi≤i->j≤xs[i]):=by
 intro fuel
 induction fuel with
 | zero =>
  intro lo hi h1 h2 h3 h4 h5;have e:lo=hi:=by omega
  subst e;unfold yef;exact⟨h1,h4,h5⟩
 | succ n ih =>
  intro lo hi h1 h2 h3 h4 h5;unfold yef
  by_cases c:lo<hi
  ·rw[if_pos c];have hm:(lo+hi) / 2<xs.size:=(by omega);have eg:xs.getD ((lo+hi) / 2) j=xs[(lo+hi) / 2]:=by
    rw[yif,yyb hm];rfl
   dsimp only;rw[eg]
   by_cases c2:xs[(lo+hi) / 2]<j
   ·rw[if_pos c2];refine ih _ _ h1 (by omega) (by omega) (λi hi' hl=>?_) h5
    rcases ynl i ((lo+hi) / 2) with z|z
    ·exact Nat.lt_trans (h.at z hm) c2
    ·have e:i=(lo+hi) / 2:=by omega
     subst e;exact c2
   ·rw[if_neg c2];refine ih _ _ (by omega) (by omega) (by omega) h4 (λi hi' hl=>?_)
    rcases ynl ((lo+hi) / 2) i with z|z
    ·have:=h.at z hi';omega
    ·have e:i=(lo+hi) / 2:=by omega
     subst e;omega
  ·rw[if_neg c];have e:lo=hi:=(by omega);subst e;exact⟨h1,h4,h5⟩
theorem zcq {xs:Array Nat}(h:Rise xs)(j:Nat):yzb xs j≤xs.size∧(∀i (hi:i<xs.size),i<yzb xs j->xs[i]<j)∧(∀i (hi:i<xs.size),yzb xs j≤i->j≤xs[i]) :=
 zgrb h j xs.size 0 xs.size (yga _) (yqb _) (by omega) (λi _ h=>absurd h (Nat.not_lt_zero _)) (λi h1 h2=>by omega)
theorem zshb {xs:Array Nat}(h:Rise xs){i:Nat}(hi:i<xs.size):yzb xs (xs[i]+1)=i+1:=by
 obtain⟨b1,b2,b3⟩:=zcq h (xs[i]+1);generalize hp:yzb xs (xs[i]+1)=p at b1 b2 b3
 rcases ycq p (i+1) with z|z|z
 ·have:=b3 i hi (by omega);omega
 ·exact z
 ·have q:=b2 (i+1) (by omega) z;have r:=h.at (show i<i+1 by omega) (show i+1<xs.size by omega);omega
theorem zrhb {xs:Array Nat}(h:Rise xs):yzb xs 0=0:=by
 obtain⟨b1,b2,b3⟩:=zcq h 0;generalize hp:yzb xs 0=p at b1 b2 b3
 rcases yop p with z|z
 ·exact z
 ·have:=b2 0 (by omega) z;omega
theorem zndb {α:Type}(xs:Array α)(p:Nat)(x:α):(yjm xs p x).toList=xs.toList.take p++x::xs.toList.drop p:=by
 unfold yjm;rw[ylf,ypj,yik,yik];simp[yla]
theorem zvmb {xs:Array Nat}(h:Rise xs){j:Nat}(hj:¬ xs[yzb xs j]?=some j):Rise (yjm xs (yzb xs j) j):=by
 obtain⟨b1,b2,b3⟩:=zcq h j;generalize hp:yzb xs j=p at hj b1 b2 b3;unfold Rise;rw[zndb,List.pairwise_append,yol];have lt:∀a∈xs.toList.take p,a<j:=λa ha=>by
  obtain⟨i,hi⟩:=yjk ha;rw[List.getElem?_take] at hi
  split at hi
  ·rename_i c;obtain⟨hi',e⟩:=ysa.mp hi;rw[← e];exact b2 i (by simpa using hi') c
  ·cases hi
 have gt:∀a∈xs.toList.drop p,j<a:=λa ha=>by
  obtain⟨i,hi⟩:=yjk ha;rw[yxe] at hi;obtain⟨hi',e⟩:=ysa.mp hi;have hs:p+i<xs.size:=by simpa using hi'
  have q:=b3 (p+i) hs (by omega);have e':xs[p+i]=a:=by simpa using e
  rw[e'] at q
  rcases Nat.lt_or_eq_of_le q with z|z
  ·exact z
  ·exfalso
   rcases yop i with y|y
   ·subst y;apply hj;have hs':p<xs.size:=hs;rw[yyb hs',z]
    congr 1
   ·have r:=h.at (show p<p+i by omega) hs;have s:=b3 p (by omega) (yga _);omega
 refine⟨yho (ykj _ _) h,⟨gt,yho (List.drop_sublist _ _) h⟩,λa ha b hb=>?_⟩
 rcases yka.mp hb with z|z
 ·rw[z];exact lt a ha
 ·exact Nat.lt_trans (lt a ha) (gt b z)
structure RT (t:yvd):Prop where
 rise:Rise t.place
 none:t.dummies=#[]
theorem RT.stand (t:yvd)(n:Nat):RT (t.standIn n):=⟨by
 show (Array.range n).toList.Pairwise (· < ·)
 rw[Array.toList_range];exact yrf,rfl⟩
theorem RT.or {t:yvd}(h:RT t)(n:Nat):RT (t.orStandIn n):=by
 unfold ykp
 split
 ·exact h
 ·exact RT.stand t n
theorem zqfb {t:yvd}(h:t.dummies=#[])(j:Nat):ylq t.dummies j=false:=by
 rw[h];simp[ylq]
theorem zchb {t:yvd}(h:RT t)(f:Nat->Int)(x:Int):∀(n:Nat) (p:yvd.Probe),p.dummy=none->∀j d,ydq t f x n p=some (.empty j d)->d=none∧t.slot j = .empty:=by
 intro n
 induction n with
 | zero=>intro p hp j d e;cases e
 | succ n ih =>
  intro p hp j d e;unfold ydq at e;cases hs:t.slot p.j with
  | empty =>
   rw[hs] at e;injection e with e
   injection e with e1 e2
   rw[← e1,← e2];exact⟨hp,hs⟩
  | dummy =>
   exfalso;unfold ylr at hs;dsimp only at hs;rw[zqfb h.none] at hs
   split at hs
   ·cases hs
   ·simp at hs
  | live i =>
   rw[hs] at e;dsimp only at e;have adv:(t.advance p).dummy=none:=by
    unfold yvd.advance
    split
    ·exact hp
    ·exact hp
   split at e
   ·injection e with e
    cases e
   ·exact ih _ adv j d e
theorem zirb {t:yvd}(h:RT t){x:Int}{j:Nat}{b:Bool}(e:t.freeSlot x=some (j,b)):¬ t.place[yzb t.place j]?=some j:=by
 unfold yvd.freeSlot at e
 split at e
 ·rename_i j' d hq;obtain⟨hd,hs⟩:=zchb h _ _ _ _ rfl _ _ hq;subst hd;injection e with e
  injection e with e _
  have e':j'=j:=e;subst e';intro z;unfold ylr at hs;dsimp only at hs;rw[if_pos (by rw[z];simp)] at hs;cases hs
 ·cases e
theorem RT.put {t:yvd}(h:RT t){j:Nat}(hj:¬ t.place[yzb t.place j]?=some j):RT (t.put j).1:=by
 refine⟨zvmb h.rise hj,?_⟩;show (if ylq t.dummies j then _ else t.dummies)=#[]
 rw[zqfb h.none];exact h.none
theorem RT.new {t:yvd}(h:RT t)(es:Array (Int×Value))(x:Int)(v:Value):RT (layNew t es x v).2.1:=by
 unfold layNew
 split
 ·rename_i slot wd hf;exact (h.put (zirb h hf)).or _
 ·exact RT.stand _ _
theorem zyjb (f:Nat->Option Nat)(n:Nat):(((ypb n).filterMap λj=>(f j).map (j,·)).map (·.1)).Pairwise (· < ·):=by
 rw[List.map_filterMap];refine List.Pairwise.filterMap _ (R:=λa b:Nat=>a<b) ?_ yrf;intro a a' haa b hb b' hb';cases ha:f a with
 | none=>rw[ha] at hb;cases hb
 | some x =>
  cases ha':f a' with
  | none=>rw[ha'] at hb';cases hb'
  | some y =>
   rw[ha] at hb;rw[ha'] at hb';have e1:a=b:=(by simpa using hb);have e2:a'=b':=(by simpa using hb');rw[← e1,← e2];exact haa
theorem RT.zpvb {t:yvd}(h:RT t)(es:Array (Int×Value))(k:Nat):RT (ydi t es k).2.1:=by
 unfold ydi
 split
 ·rename_i u order e;have q:RT u:=by
   unfold yar yjr at e;simp only[bind,Option.bind,pure] at e
   split at e
   ·cases e
   ·injection e with e
    injection e with e _
    rw[← e];exact⟨by
     show (List.toArray _).toList.Pairwise _
     rw[yzo];exact zyjb _ _,rfl⟩
  dsimp only
  split
  ·exact q
  ·exact RT.stand _ _
 ·exact RT.stand _ _
end ISet
namespace ISet
open PySem PySem.Spec PyProof.Rows
def intV:Value->Int
 | .int k _=>k
 | _=>0
def IS (prog:yvb)(w:World)(h:Heap)(a:Addr)(D:List Int)(b:Bool):Prop :=
 ∃o es ep t,h.get? a=some o∧o.ExactSet∧o.data = .set es ep t∧ysk (yad prog w) es.toList∧(es.toList.map λe=>intV e.2).Perm D∧es.size<ykf∧t.fits es.size=true∧t.led=b∧RT t
section
variable {prog:yvb}{w:World}{A:Around}{E:Value->Shared->Prop}{s:Shared}
theorem IS.keep {h h':Heap}{a:Addr}{D:List Int}{b:Bool}(x:IS prog w h a D b)(k:∀o,h.get? a=some o->h'.get? a=some o):IS prog w h' a D b:=by
 obtain⟨o,es,ep,t,ho,r⟩:=x;exact⟨o,es,ep,t,k _ ho,r⟩
theorem zapb {es:List (Int×Value)}(h:ysk (yad prog w) es){e:Int×Value}(he:e∈es):∃x t,e.2 = .int x t∧e.1=(yad prog w).hash x:=by
 obtain⟨⟨k,hk,hh⟩,_⟩:=h e he;obtain⟨t,et⟩:=yxl (k:=k) (v:=e.2) hk;exact⟨k,t,et,hh⟩
theorem zzm {es:List (Int×Value)}{D:List Int}{x:Int}(hel:ysk (yad prog w) es)(hp:(es.map λe=>intV e.2).Perm D) :
  x∈D↔∃e∈es,(yad prog w).is x e.2=true:=by
 rw[← hp.mem_iff,ycc]
 constructor
 ·rintro⟨e,he,rfl⟩;obtain⟨y,t,e1,_⟩:=zapb hel he;refine⟨e,he,?_⟩;rw[e1];show ygj y (.int y t)=true
  simp[ygj]
 ·rintro⟨e,he,hi⟩;obtain⟨t,e1⟩:=yxl (k:=x) (v:=e.2) hi;exact⟨e,he,by rw[e1];rfl⟩
theorem zbfb {g:Bool->Sem Unit}(hg:∀(b:Bool) (s₁:Shared) (Q':Unit->Shared->Prop),Q' () s₁->wpAny (model prog w) A (g b) Q' E s₁)
  {a:Addr} {o:Obj} {es:Array (Int×Value)} {ep:Nat} {t:yvd} (ho:s.heap.get? a=some o) (hex:o.ExactSet) (hd:o.data = .set es ep t)
  {fs:Array (Int×Value)} {u:yvd} {D:List Int} {b:Bool} (hel:ysk (yad prog w) fs.toList) (hp:(fs.toList.map λe=>intV e.2).Perm D) (hb:fs.size<ykf) (hf:u.fits fs.size=true) (hl:u.led=b) (hpl:RT u)
  {dm:Bool} {R:Option Bool->Shared->Prop} (h:∀h',ysg a s.heap h'->IS prog w h' a D b->R (some true) { s with heap:=h' }) :
  wpAny (model prog w) A (do
    storeSet a fs u
    if (!dm&&u.tooFull)=true then do
        g (ydi u fs (yhd fs.size)).2.2
        storeSet a (ydi u fs (yhd fs.size)).1 (ydi u fs (yhd fs.size)).2.1
        pure (some true)
     else pure (some true)) R E s:=by
 have lim:∀{n:Nat},n<ykf->n≤ywa:=λz=>ylg z;refine yaa (yoj ho hd ?_ (lim hb));have k1:(s.heap.update a (ymg fs u)).get? a=some { o with data:=.set fs (ep+1) u }:=by
  have z:=ymc (ymg fs u) ho (by rw[ytk fs u hd];rfl);rw[ytk fs u hd] at z;exact z
 have b1:=yii s.heap a (ymg fs u)
 split
 ·have p2:=relayAll_perm u fs (yhd fs.size);have f2:=relayAll_fits u fs (yhd fs.size);have l2:=(SSet.zuab u fs (yhd fs.size)).1;have q2:=hpl.zpvb fs (yhd fs.size);generalize ydi u fs (yhd fs.size)=R2 at p2 f2 l2 q2 ⊢;obtain⟨fs2,u2,gv⟩:=R2;dsimp only at p2 f2 l2 q2 ⊢;have z2:fs2.size=fs.size:=by rw[← ypa,p2.length_eq,ypa]
  refine yaa (hg _ _ _ ?_);refine yaa (yoj k1 rfl ?_ (lim (by rw[z2];exact hb)));have k2:((s.heap.update a (ymg fs u)).update a (ymg fs2 u2)).get? a=some { o with data:=.set fs2 (ep+1+1) u2 }:=by
   have z:=ymc (ymg fs2 u2) k1 (by rw[ytk fs2 u2 rfl];rfl);rw[ytk fs2 u2 rfl] at z;exact z
  exact yfa (h _ (b1.trans (yii _ a _)) ⟨_,fs2,_,u2,k2,hex,rfl,ElemsOf.perm hel p2,(p2.map _).trans hp,by rw[z2];exact hb,f2,l2.trans hl,q2⟩)
 ·exact yfa (h _ b1 ⟨_,fs,_,u,k1,hex,rfl,hel,hp,hb,hf,hl,hpl⟩)
theorem add_int {a:Addr}{D:List Int}{b:Bool}{x:Int}{tk:Tok}{Q:Bool->Shared->Prop}(hS:IS prog w s.heap a D b)(hroom:D.length+1<ykf)
  (h:∀h' r,ysg a s.heap h'->IS prog w h' a (if x∈D then D else D++[x]) b->Q r { s with heap:=h' }) :
  wpAny (model prog w) A (ybo a (.int x tk) ((yad prog w).hash x)) Q E s:=by
 obtain⟨o,es,ep,t,ho,hex,hd,hel,hp,hb,hf,hl,hpl⟩:=hS;have key:(yad prog w).is x (.int x tk)=true:=by
  show ygj x (.int x tk)=true
  simp[ygj]
 have hz:es.size=D.length:=by rw[← hp.length_eq,yba,ypa]
 unfold ybo setAddHashedIn;refine ykc (yaa (yuc ho hd hf ?_));dsimp only;rw[byScan_of (x:=.int x tk) rfl hb hel];simp only[↓reduceIte];unfold setAddByScan;refine yaa (yaa (ylk (yaa (wpAny_setScan_of key ho hd hf hel ?_))));have mi:=zzm (x:=x) hel hp;cases hr:List.findIdx? (λe=>(yad prog w).is x e.2) es.toList with
 | some j =>
  obtain⟨hj,hpj,_⟩:=yui.mp hr;have hin:x∈D:=mi.mpr ⟨_,yck hj,hpj⟩;dsimp only;refine yfa (yfa ?_);have z:=h s.heap false (yfm a s.heap);rw[if_pos hin] at z;exact z ⟨o,es,ep,t,ho,hex,hd,hel,hp,hb,hf,hl,hpl⟩
 | none =>
  have hno:¬ x∈D:=λhin=>by
   obtain⟨e,he,hi⟩:=mi.mp hin;have z:=yul.mp hr e he;rw[hi] at z;cases z
  simp only[if_neg hno] at h;dsimp only;have p1:=layNew_perm t es ((yad prog w).hash x) (.int x tk);have f1:=layNew_fits t es ((yad prog w).hash x) (.int x tk);have l1:=SSet.zzjb t es ((yad prog w).hash x) (.int x tk);have r1:=hpl.new es ((yad prog w).hash x) (.int x tk);generalize layNew t es ((yad prog w).hash x) (.int x tk)=L at p1 f1 l1 r1 ⊢;obtain⟨fs,u,dm,gave⟩:=L;dsimp only at p1 f1 l1 r1 ⊢;rw[ypj] at p1;have el1:ysk (yad prog w) fs.toList:=(hel.push key rfl).perm p1;have pp:(fs.toList.map λe=>intV e.2).Perm (D++[x]):=by
   refine (p1.map _).trans ?_;rw[yxa];exact ypq hp (yrj _)
  have z1:fs.size=D.length+1:=by rw[← ypa,p1.length_eq,yea,ypa,hz];rfl
  have give:∀(c:Bool) (s₁:Shared) (Q':Unit->Shared->Prop),Q' () s₁->wpAny (model prog w) A (match c with|true=>rule "set.scan.the-table-gave-way"|false=>pure ()) Q' E s₁:=λc s₁ Q' q=>by
   cases c
   ·exact yfa q
   ·exact ylk q
  refine yaa (give _ _ _ ?_)
  split
  ·refine yaa ?_;rw[yco 8 (x:=.int x tk) rfl];refine yfa ?_;refine zbfb (b:=b) (D:=D++[x]) give ho hex hd el1 pp (by omega) f1 (l1.trans hl) r1 ?_;intro h' sb S';exact yfa (h h' _ sb S')
  ·rename_i np;refine yaa (yfa ?_);simp only[↓reduceIte];refine zbfb (b:=b) (D:=D++[x]) give ho hex hd el1 pp (by omega) f1 (l1.trans hl) r1 ?_;intro h' sb S';exact yfa (h h' _ sb S')
def dd (xs:List Int):List Int:=xs.foldl (λD x=>if x∈D then D else D++[x]) []
theorem zdn (xs:List Int)(x:Int):dd (xs++[x])=if x∈dd xs then dd xs else dd xs++[x]:=by
 unfold dd;rw[yaq];rfl
theorem zodb:∀n (xs:List Int),(dd (xs.take n)).length≤n
 | 0,xs=>yga 0
 | n+1,xs=>by
  have ih:=zodb n xs;rw[ydb];cases e:xs[n]? with
  | none =>
   rw[ylp,yfc];omega
  | some x =>
   rw[yub,zdn]
   split
   ·omega
   ·rw[yea,yvc];omega
theorem zzr {R:Result->Shared->Prop}{I S:Addr}{fp wr:List Addr}{n:Nat}{P:Nat->Value->Prop}{St:Nat->Heap->Prop}{b:Bool}(W:Walks prog w A.in1 I fp wr n P St)(hSf:S∉fp)(xs:List Int)
  (hval:∀i v,P i v->∃x t,xs[i]?=some x∧v = .int x t) (hn:n+1<ykf) :
  ∀(k i:Nat) (s:Shared),n-i=k->i≤n->St i s.heap->IS prog w s.heap S (dd (xs.take i)) b →
   (∀h' tk,IS prog w h' S (dd (xs.take n)) b->(∀c o,c∉S::wr->s.heap.get? c=some o->h'.get? c=some o)->R (.ok (.ret .none)) { s with heap:=h',toks:=tk }) →
   yqi (model prog w) A (.builtin "set.update.loop" ⟨[.ref S,.ref I],[]⟩) R s:=by
 have nw:S∉wr:=λz=>hSf (W.sub _ z);intro k
 induction k with
 | zero =>
  intro i s hk hi st hS hR;obtain rfl:i=n:=by omega
  refine yqc yyd ?_;rw[ysc ync _];show wpAny _ A.in1 (pyNext (.ref I) >>= _) _ _ s
  refine yaa (W.done s _ _ st λh' tk keep=>?_);show wpAny _ A.in1 (ret Value.none) _ _ _
  exact yfa (hR h' tk (hS.keep λo e=>keep S o nw e) λc o hc e=>keep c o (λz=>hc (yta _ z)) e)
 | succ k ih =>
  intro i s hk hi st hS hR;have hlt:i<n:=by omega
  refine yqc yyd ?_;rw[ysc ync _];show wpAny _ A.in1 (pyNext (.ref I) >>= _) _ _ s
  refine yaa (W.item i s _ _ hlt st λv h1 tk hP st1 keep=>?_);obtain⟨x,t,hx,rfl⟩:=hval i v hP;have hS1:IS prog w h1 S (dd (xs.take i)) b:=hS.keep λo e=>keep S o nw e;show wpAny _ A.in1 (ynn [Value.int x t] (setAdd S (.int x t)) >>= _) _ _ _
  refine yaa (ykc ?_);unfold setAdd;refine ykc (yaa ((yad prog w).pyHash (k:=x) (by show ygj x (.int x t)=true;simp[ygj]) ?_));have hle:=zodb i xs;refine add_int (b:=b) (D:=dd (xs.take i)) (s:={ s with heap:=h1,toks:=tk+1 }) hS1 (by omega) λh2 r sb S2=>?_;have e2:(if x∈dd (xs.take i) then dd (xs.take i) else dd (xs.take i)++[x])=dd (xs.take (i+1)):=by
   rw[ydb,hx,yub,zdn]
  rw[e2] at S2;refine yfa ⟨yse ync _,ih (i+1) _ (by omega) hlt (W.frame _ h1 _ st1 λc hc o e=>?_) S2 λh3 tk3 S3 keep3=>?_⟩
  ·rw[sb.2 c (λz:c=S=>hSf (by rw[← z];exact hc))];exact e
  ·refine hR h3 tk3 S3 λc o hc e=>keep3 c o hc ?_;show h2.get? c=some o
   rw[sb.2 c (λz:c=S=>hc (by rw[z];exact yra))];exact keep c o (λz=>hc (yta _ z)) e
theorem zkkb:∀{us:List Value} {xs:List Int},yyg us xs->∀(i:Nat) (v:Value),us[i]?=some v->∃x t,xs[i]?=some x∧v = .int x t
 | _,_,.nil,i,v,e=>by simp at e
 | _,_,.cons x t r,0,v,e=>by
  rw[yhe] at e;cases e;exact⟨x,t,rfl,rfl⟩
 | _,_,.cons x t r,i+1,v,e=>by
  rw[ytb] at e;obtain⟨y,u,h1,h2⟩:=zkkb r i v e;exact⟨y,u,by rw[ytb];exact h1,h2⟩
theorem zsg:∀{us:List Value} {xs:List Int},yyg us xs->us.length=xs.length
 | _,_,.nil=>rfl
 | _,_,.cons _ _ r=>congrArg (· + 1) (zsg r)
theorem zorb (h:Heap):IS prog w (h.push (SSet.empt w)) h.objs.size [] (!w.params.followText "set-order") :=
 ⟨_,#[],0,_,yha _ rfl,⟨rfl,rfl,rfl⟩,rfl,λe he=>by simp at he,.nil,by decide,by rfl,rfl,⟨.nil,rfl⟩⟩
theorem set_tuple {l:Addr}{its:Array Value}{xs:List Int}{Q:Value->Shared->Prop}(hh:A.handled=none)(hl:s.heap.IsTuple l its)(hi:yyg its.toList xs)(hb:its.size+1<ykf)
  (h:∀(h':Heap) (tk:Nat),IS prog w h' s.heap.objs.size (dd xs) (!w.params.followText "set-order")->(∀c o,s.heap.get? c=some o->h'.get? c=some o)->Q (.ref s.heap.objs.size) { s with heap:=h',toks:=tk }) :
  wpAny (model prog w) A (call (.type "set") [.ref l]) Q E s:=by
 obtain⟨cM,tM,mro⟩:=yfb.mro;have made:=yfb.made;have subs:=yfb.sub;have notT:=yfb.notType;have canC:=yfb.canCreate;have chk:=ybj (.ref l);refine yro (yuk ?_);show wpAny _ _ (callAny (.type "set") ⟨[.ref l],[]⟩) _ _ _
 refine yfa ⟨yvi _ (by decide +kernel),yqc ywi ?_⟩;rw[yml (yvj "set" [Value.ref l] []) rfl]
 repeat (any_goals (first|assumption|wp_step))
 refine ywf (SSet.zedb (.ref l) (E:=E) (Q1:=λob s1=>ob = .ref s.heap.objs.size∧s1={ s with heap:=s.heap.push (SSet.empt w) }) ⟨rfl,rfl⟩) λr s1 hr=>?_;cases r with
 | error e=>exact hr
 | ok fl =>
  cases fl with
  | ret ob =>
   obtain⟨rfl,rfl⟩:=hr;have g0:(s.heap.push (SSet.empt w)).get? s.heap.objs.size=some (SSet.empt w):=yha _ rfl;have ty0:yah { s with heap:=s.heap.push (SSet.empt w) } (.ref s.heap.objs.size) "set":=⟨_,g0,rfl⟩;have lk:=yfb.init.lookup;have bd:=yfb.init.bind (.ref s.heap.objs.size)
   repeat (any_goals (first|assumption|wp_step))
   refine ywf (ygk (R:=wants (λr s2=>r = .none∧∃h' tk,s2={ s with heap:=h',toks:=tk }∧IS prog w h' s.heap.objs.size (dd xs) (!w.params.followText "set-order") ∧
     (∀c o,s.heap.get? c=some o->h'.get? c=some o)) E) yfb.init.plain ycj (ydn ty0 ?_)) λr2 s2 hr2=>?_
   ·obtain⟨ol,e1,e2,nl,e3⟩:=hl;obtain⟨oc,od,oD,osl⟩:=ol;dsimp only at e2 e3;subst e2 e3;have e1':(s.heap.push (SSet.empt w)).get? l=some { cls:=.type "tuple",dict:=od,data:=.seq its nl,slots:=osl }:=yca _ e1;have q1:=ygo;have q2:=yzk;have q3:(Value.type "tuple" == Value.type "dict")=false:=by decide
    have L1:(s.heap.push (SSet.empt w)).IsTuple l its:=⟨_,e1',rfl,nl,rfl⟩;have lt:l<s.heap.objs.size:=yna e1;unfold yhf.«set.__init__» noKeywords yjh;generalize hPI:pyIter=PI
    wp_walk
    subst hPI;refine yil L1 (yaa (yzh ?_));have ne:l≠(s.heap.push (SSet.empt w)).objs.size:=by
     rw[ylc];exact yva (yoc lt)
    have nf:s.heap.objs.size∉[(s.heap.push (SSet.empt w)).objs.size,l]:=by
     rw[ylc];intro z
     rcases yka.mp z with z|z
     ·exact absurd z (yva (yie _))
     ·exact absurd (yia.mp z) (ytg lt)
    have hv:∀(i:Nat) (v:Value),its[i]?=some v->∃x t,xs[i]?=some x∧v = .int x t:=λi v e=>zkkb hi i v (by rw[yob];exact e);have hx:xs.take its.size=xs:=yla (by rw[← ypa,zsg hi];exact yga _);refine zzr (b:=!w.params.followText "set-order") (Walks.tuple (by simp[hh]) _ l ne its) nf xs hv hb (its.size-0) 0 _ (by omega) (yqb _) ⟨⟨_,yha _ rfl,rfl,rfl⟩,L1.push _⟩ ?S0 ?R0
    case S0=>exact (zorb s.heap).keep λo e=>yca _ e
    case R0 =>
     intro h' tk S' keep;rw[hx] at S';show wpAny _ _ _ _ _ _
     refine yfa ?_;show wpAny _ _ (ret Value.none) _ _ _
     refine yfa ⟨rfl,h',tk,rfl,S',λc o e=>?_⟩;have clt:=yna e;refine keep c o ?_ (yca _ (yca _ e));rw[ylc];intro z
     rcases yka.mp z with z|z
     ·exact absurd z (yva clt)
     ·exact absurd (yia.mp z) (yva (yoc clt))
   ·cases r2 with
    | error e=>exact hr2
    | ok fl2 =>
     cases fl2 with
     | ret r =>
      obtain⟨rfl,h',tk,rfl,S',keep⟩:=hr2
      repeat (any_goals (first|assumption|wp_step))
      exact h _ _ S' keep
     | next=>exact hr2.elim
     | brk=>exact hr2.elim
     | cont=>exact hr2.elim
  | next=>exact hr.elim
  | brk=>exact hr.elim
  | cont=>exact hr.elim
end
end ISet
namespace ISet
open PySem PySem.Spec PyProof.Rows PySem.W
section
variable {prog:yvb}{w:World}{A:Around}{E:Value->Shared->Prop}{s:Shared}
theorem intsAre_map:∀(vs:List Value),(∀v,v∈vs->∃x t,v = .int x t)->yyg vs (vs.map intV)
 | [],_=>.nil
 | v::vs,h=>by
  obtain⟨x,t,rfl⟩:=h v (yra ..);exact .cons x t (intsAre_map vs λu hu=>h u (yta _ hu))
theorem zfk {es:List (Int×Value)}{D:List Int}{vs:List Value}(hel:ysk (yad prog w) es)(hp:(es.map λe=>intV e.2).Perm D)(hv:vs.Perm (es.map (·.2))):∃ys,yyg vs ys∧ys.Perm D:=by
 refine⟨vs.map intV,intsAre_map vs λv hm=>?_,?_⟩
 ·obtain⟨e,he,rfl⟩:=ycc.mp (hv.mem_iff.mp hm);obtain⟨x,t,e1,_⟩:=zapb hel he;exact⟨x,t,e1⟩
 ·refine (hv.map intV).trans ?_;rw[yyj];exact hp
theorem zunb {a:Addr}{D:List Int}{Q:Value->Shared->Prop}(hh:A.handled=none)(hS:IS prog w s.heap a D (!w.params.followText "set-order"))
  (h:∀(h':Heap) (d':Drawn) (I:Addr) (n:Nat) (fp:List Addr) (P:Nat->Value->Prop) (St:Nat->Heap->Prop),(∀b o,s.heap.get? b=some o->h'.get? b=some o)->s.heap.objs.size≤I->(∀b∈fp,b=a∨s.heap.objs.size≤b) →
   Walks prog w A I fp [I] n P St->St 0 h'->n=D.length->(∀vs:List Value,vs.length=n->(∀(i:Nat) v,vs[i]?=some v->P i v)->∃ys,yyg vs ys∧ys.Perm D)->Q (.ref I) { s with heap:=h',drawn:=d' }) :
  wpAny (model prog w) A (pyIter (.ref a)) Q E s:=by
 obtain⟨o,es,ep,t,ho,hex,hd,hel,hp,hb,hf,hl,hpl⟩:=hS;have hT:s.TypeIs (.ref a) "set":=⟨o,ho,hex.1⟩;have so:SSet.SObj s.heap a es ep t:=⟨o,ho,hex.1,hd,hf⟩;have hz:es.size=D.length:=by rw[← hp.length_eq,yba,ypa]
 have alt:a<s.heap.objs.size:=yna ho;refine yhm hT ymh (ysd ymh hT SSet.zvkb ?_ (yvm _));unfold yhf.«frozenset.__iter__»;refine yaa (m:=ywm "__iter__" _) (yfa ?_);refine yaa (m:=yim a) (yaa (yvk ho hd hf (yfa ?_)));refine yaa (m:=setDrawn a) (yaa (yuc ho hd hf (yaa (m:=yuh) (yaa (yle (yfa (yfa ?_)))))));dsimp only;have jp:∀{first:Value} {h1:Heap} {d1:Drawn},SSet.SObj h1 a es ep t->Q (.ref h1.objs.size) { s with heap:=h1.push { cls:=.type "set_iterator",dict:=none,data:=.fields #[first,rawInt (0:Nat),.ref a,rawInt es.size,rawInt ep],slots:=#[] },drawn:=d1 } →
   wpAny (model prog w) A.in1 (do
    let e ← setEpoch a
    let v ← ybr "set_iterator" [first,rawInt 0,Value.ref a,rawInt es.size,rawInt e]
    ret v) (λfin s'=>∃v,fin=Fin.done (Flow.ret v)∧∃T' r,s'.TypeIs v T'∧typeLookup (Value.type T') (yli "__next__")=pure (some r)∧Q v s') E { s with heap:=h1,drawn:=d1 }:=by
  intro first h1 d1 ⟨o1,e1,e2,e3,e4⟩ q
  refine yaa (m:=setEpoch a) (yaa (yuc e1 e3 e4 (yfa ?_)));refine yaa (m:=ybr _ _) (ycd (yfa ⟨_,rfl,"set_iterator",_,⟨_,yha _ rfl,rfl⟩,SSet.zjs.lookup,?_⟩));exact q
 split
 ·rename_i hc;have hc':(!w.params.followText "set-order" && (!t.plain&&decide (es.size>1)))=true:=hc;refine yaa (SSet.zdy es.size (ypb es.size) s _ (by simp) λjs d1 pj=>?_);refine yaa (wpAny_newTuple ?_ (by rw[yba,pj.length_eq,yrb];exact ylg hb));have jl:js.length=es.size:=by rw[pj.length_eq,yrb]
  have jm:∀j∈js,j<es.size:=λj hj=>ywh.mp (pj.mem_iff.mp hj);refine jp (so.keep λo e=>yca _ e) ?_;have sz:(s.heap.push { cls:=.type "tuple",data:=.seq (js.map λ(j:Nat)=>rawInt j).toArray }).objs.size=s.heap.objs.size+1:=ylc _ _;refine h _ d1 _ es.size _ _ _ (λb o e=>yca _ (yca _ e)) (by rw[sz];exact yge _) ?_ (SSet.zfs (a:=a) (tp:=s.heap.objs.size) hh ?_ ?_ es ep t js jl jm) ⟨?_,?_,?_⟩ hz λvs hv hP=>zfk hel hp (SSet.zgw pj hv hP)
  ·intro b hb';rw[sz] at hb'
   rcases yka.mp hb' with z|z
   ·exact .inr (by rw[z];exact yge _)
   ·rcases yka.mp z with z|z
    ·exact .inl z
    ·exact .inr (by rw[yia.mp z];exact yga _)
  ·rw[sz];exact yva (yoc alt)
  ·rw[sz];exact yva (yie _)
  ·exact yha _ rfl
  ·exact so.keep λo e=>yca _ (yca _ e)
  ·exact⟨_,yca _ (yha _ rfl),rfl,_,rfl⟩
 ·rename_i hc;have hc':¬ (!w.params.followText "set-order" && (!t.plain&&decide (es.size>1)))=true:=hc;refine yaa (yfa (jp (h1:=s.heap) (d1:=s.drawn) so ?_));have fpk:∀b∈[s.heap.objs.size,a],b=a∨s.heap.objs.size≤b:=λb hb'=>by
   rcases yka.mp hb' with z|z
   ·exact .inr (by rw[z];exact yga _)
   ·exact .inl (yia.mp z)
  have ne:a≠s.heap.objs.size:=yva alt;cases ft:w.params.followText "set-order" with
  | true =>
   have bt:∀{A':Around} {E':Value->Shared->Prop} {s':Shared} {Q':Bool->Shared->Prop},Q' true s'->wpAny (model prog w) A' yuh Q' E' s':=λ{A' E' s' Q'} q=>by
    unfold yuh;refine yaa (yle (yfa ?_));show Q' (w.params.followText "set-order") s'
    rw[ft];exact q
   have stp:∀(A:Around) (E:Value->Shared->Prop) (i slot:Nat) (s:Shared) (Q:Option (Value×Nat)->Shared->Prop),SSet.SObj s.heap a es ep t->Q (((yng (w.params.setOrder a ep) es)[i]?).map λe=>(e.2,slot)) s->wpAny (model prog w) A (ydk a slot i ep) Q E s:=by
    intro A E i slot s Q ⟨o1,e1,e2,e3,e4⟩ q;unfold ydk;refine yaa (yuc e1 e3 e4 ?_);dsimp only;refine yaa (bt ?_);rw[if_pos rfl,if_neg (by simp)];unfold setWalk;refine yaa (yaa (yuc e1 e3 e4 (yaa (bt ?_))));rw[if_pos rfl];exact yaa (yle (yfa (yfa q)))
   have po:=SSet.zsz (w.params.setOrder a ep) es;have pz:(yng (w.params.setOrder a ep) es).size=es.size:=(by rw[← ypa,po.length_eq,ypa]);refine h _ s.drawn _ es.size _ _ _ (λb o e=>yca _ e) (yga _) fpk (SSet.zbo (a:=a) hh ne es ep t ((yng (w.params.setOrder a ep) es).toList.map (·.2)) (λslot _=>slot=0) ?_ ?_) ⟨⟨0,yha _ rfl,rfl⟩,so.keep λo e=>yca _ e⟩ hz λvs hv hP=>?_
   ·intro A E i slot s Q hi r so' q;have e1:(yng (w.params.setOrder a ep) es)[i]?=some (yng (w.params.setOrder a ep) es)[i]:=yyb (by omega);refine stp A E i slot s Q so' ?_;rw[e1];exact q _ _ (by rw[yqa,yob,e1];rfl) r
   ·intro A E slot s Q r so' q;refine stp A E _ slot s Q so' ?_;rw[yqf (by omega)];exact q
   ·refine zfk hel hp ?_;have e1:vs=(yng (w.params.setOrder a ep) es).toList.map (·.2):=SSet.zpj (by rw[hv,yba,ypa,pz]) hP;rw[e1];exact po.map _
  | false =>
   rw[ft] at hc' hl;have bt:∀{A':Around} {E':Value->Shared->Prop} {s':Shared} {Q':Bool->Shared->Prop},Q' false s'->wpAny (model prog w) A' yuh Q' E' s':=λ{A' E' s' Q'} q=>by
    unfold yuh;refine yaa (yle (yfa ?_));show Q' (w.params.followText "set-order") s'
    rw[ft];exact q
   have nd:¬ (!t.plain&&decide (es.size>1))=true:=λz=>hc' (by rw[z];rfl);have stp:∀(A:Around) (E:Value->Shared->Prop) (i slot:Nat) (s:Shared) (Q:Option (Value×Nat)->Shared->Prop),SSet.SObj s.heap a es ep t->Q (match es[yzb t.place slot]?,t.place[yzb t.place slot]? with|some (_,x),some j=>some (x,j+1)|_,_=>none) s->wpAny (model prog w) A (ydk a slot i ep) Q E s:=by
    intro A E i slot s Q ⟨o1,e1,e2,e3,e4⟩ q;unfold ydk;refine yaa (yuc e1 e3 e4 ?_);dsimp only;refine yaa (bt ?_);rw[if_neg (by simp)];refine yve (λz=>absurd z nd) (λ_=>?_);have nl:¬ (!t.led && !es.isEmpty)=true:=by
     rw[hl];simp
    refine yaa (yve (λz=>absurd z nl) (λ_=>yfa ?_));exact yfa q
   have ps:t.place.size=es.size:=by
    have z:=hf;unfold ykr at z;simp at z;exact z.1
   refine h _ s.drawn _ es.size _ _ _ (λb o e=>yca _ e) (yga _) fpk (SSet.zbo (a:=a) hh ne es ep t (es.toList.map (·.2)) (λslot i=>yzb t.place slot=i) ?_ ?_) ⟨⟨0,yha _ rfl,zrhb hpl.rise⟩,so.keep λo e=>yca _ e⟩ hz λvs hv hP=>?_
   ·intro A E i slot s Q hi r so' q;have e1:es[i]?=some es[i]:=yyb hi;have hi2:i<t.place.size:=(by omega);have e2:t.place[i]?=some t.place[i]:=yyb hi2;refine stp A E i slot s Q so' ?_;rw[r,e1,e2];exact q _ _ (by rw[yqa,yob,e1];rfl) (zshb hpl.rise hi2)
   ·intro A E slot s Q r so' q;refine stp A E _ slot s Q so' ?_;rw[r,yqf (yga _)];exact q
   ·refine zfk hel hp ?_;have e1:vs=es.toList.map (·.2):=SSet.zpj (by rw[hv,yba,ypa]) hP;rw[e1]
theorem zqdb {a:Addr}{D:List Int}{R:List Value->Shared->Prop}(hh:A.handled=none)(hS:IS prog w s.heap a D (!w.params.followText "set-order"))
  (h:∀(h':Heap) (d':Drawn) (tk:Nat) (vs:List Value) (ys:List Int),(∀b o,s.heap.get? b=some o->h'.get? b=some o)->s.heap.objs.size<h'.objs.size->yyg vs ys->ys.Perm D->R vs { s with heap:=h',drawn:=d',toks:=tk }) :
  wpAny (model prog w) A (ycr (.ref a)) R E s:=by
 obtain⟨oA,hoA⟩:∃o,s.heap.get? a=some o:=let ⟨o,_,_,_,e,_⟩:=hS;⟨o,e⟩;have alt:a<s.heap.objs.size:=yna hoA;have dz:D.length≤ywa:=by
  obtain⟨o,es,ep,t,_,_,_,_,hp,hb,_⟩:=hS;rw[← hp.length_eq,yba,ypa];exact ylg hb
 have nSa:s.heap.objs.size≠a:=ytg alt;unfold ycr;refine yaa (yzh (yqc yhk ?_));rw[ysc yxk _];show wpAny _ A.in1 (newList [] >>= λl=>again (.builtin "list.__iadd__" ⟨[l,.ref a],[]⟩)) _ _ s
 refine yaa (ycd (yfa ⟨yse ybh _,yqc yen ?_⟩));rw[ysc ybh _];show wpAny _ A.in1 (ypd (.ref s.heap.objs.size) (.ref a) (.ref s.heap.objs.size)) _ _ _
 unfold ypd;have S1:IS prog w (s.heap.push { cls:=.type "list",data:=.seq ([]:List Value).toArray }) a D (!w.params.followText "set-order"):=hS.keep λo e=>yca _ e;have g1:(s.heap.push { cls:=.type "list",data:=.seq ([]:List Value).toArray }).get? s.heap.objs.size=some { cls:=.type "list",dict:=none,data:=.seq #[] 0,slots:=#[] }:=yha _ rfl;have k1:∀b o,s.heap.get? b=some o->(s.heap.push { cls:=.type "list",data:=.seq ([]:List Value).toArray }).get? b=some o:=λb o e=>yca _ e;generalize s.heap.push { cls:=.type "list",data:=.seq ([]:List Value).toArray }=h1 at S1 g1 k1 ⊢;have ty1:yah { s with heap:=h1 } (.ref a) "set":=by
  obtain⟨o,es,ep,t,ho,hex,_⟩:=S1;exact⟨o,ho,hex.1⟩
 refine yaa (ymi (T:="set") ty1 ?_);have ns:yog (.ref s.heap.objs.size) (.ref a)=false:=by simp[yog,nSa]
 simp only[ns,show (Value.type "set" == Value.type "list")=false by decide,show (Value.type "set" == Value.type "tuple")=false by decide,ytm,yxf,if_false];refine yaa (zunb (s:={ s with heap:=h1 }) (A:=A.in1) hh S1 λh2 d2 I n fp P St k2 hI hfp W st hn hv=>?_);have ty2:yah { s with heap:=h2,drawn:=d2 } (.ref a) "set":=by
  obtain⟨o,e,c⟩:=ty1;exact⟨o,k2 _ _ e,c⟩
 have slt:s.heap.objs.size<h1.objs.size:=yna g1;have nf:s.heap.objs.size∉fp:=λz=>by
  rcases hfp _ z with z|z
  ·exact nSa z
  ·exact absurd (yua slt z) (yid _)
 have key:∀(R':Result->Shared->Prop) (h3:Heap) (c:Nat),St 0 h3->(∀b o,b≠s.heap.objs.size->h2.get? b=some o->h3.get? b=some o)->h3.get? s.heap.objs.size=some { cls:=.type "list",dict:=none,data:=.seq #[] c,slots:=#[] } →
   (∀(h4:Heap) (tk:Nat) (vs:List Value) (ys:List Int) (c':Nat),(∀b o,s.heap.get? b=some o->h4.get? b=some o)->yyg vs ys->ys.Perm D->h4.get? s.heap.objs.size=some { cls:=.type "list",dict:=none,data:=.seq vs.toArray c',slots:=#[] }->R' (.ok (.ret (.ref s.heap.objs.size))) { s with heap:=h4,drawn:=d2,toks:=tk }) →
   yqi (model prog w) A (.builtin "list.extend.loop" ⟨[.ref s.heap.objs.size,.ref I,.ref s.heap.objs.size],[]⟩) R' { s with heap:=h3,drawn:=d2 }:=by
  intro R' h3 c st3 k3 g3 hR;refine codeAny_extend_loopS W.toS (by omega) s.heap.objs.size nf _ n 0 _ #[] c rfl (yqb _) st3 g3 (ItemsOf.nil _) λs' acc c' mv g' ia=>?_;rw[Moved.eq_with mv];obtain⟨ys,sy,py⟩:=hv acc.toList (by rw[ypa];exact ia.1) λi v e=>ia.2 i v (by rw[← yob];exact e);refine hR s'.heap s'.toks acc.toList ys c' (λb o e=>?_) sy py (by rw[ynd];exact g');have nb:b≠s.heap.objs.size:=yva (yna e);refine mv.heap b o (λz=>?_) (k3 b o nb (k2 b o (k1 b o e)))
  rcases yka.mp z with z|z
  ·exact nb z
  ·have bi:b=I:=yia.mp z;have:=yna (k1 b o e);rw[bi] at this;exact absurd (yua this hI) (yid _)
 have g2:=k2 _ _ g1;have fin:∀(h4:Heap) (tk:Nat) (vs:List Value) (ys:List Int) (c':Nat),(∀b o,s.heap.get? b=some o->h4.get? b=some o)->yyg vs ys->ys.Perm D->h4.get? s.heap.objs.size=some { cls:=.type "list",dict:=none,data:=.seq vs.toArray c',slots:=#[] } →
   wpAny (model prog w) A (load s.heap.objs.size >>= λo=>match o.data with
    | .seq xs _=>pure xs.toList
    | _=>yum "internal:collect") R E { s with heap:=h4,drawn:=d2,toks:=tk }:=λh4 tk vs ys c' k4 sy py g4=>by
  refine yaa (yzl g4 ?_);show wpAny _ _ (pure vs.toArray.toList) _ _ _
  exact yfa (h h4 d2 tk vs ys k4 (yna g4) sy py)
 refine yaa (ykc (SSet.zagb ty2 ?_));refine yve (λ_=>?_) (λ_=>yfa ⟨yse ydg _,key _ h2 0 st (λb o _ e=>e) g2 fin⟩);refine yaa (ylk (yaa ?_));show wpAny _ _ (ynp s.heap.objs.size (·.push .none) >>= λ_=>ynp s.heap.objs.size (·.pop)) _ _ _
 refine yaa (ynh g2 rfl ?_);have g3:=ymc (ytd (·.push Value.none)) g2 rfl;refine ynh (hz:=by seq_fits) g3 rfl ?_;have g4:=ymc (ytd (·.pop)) g3 rfl;refine yfa ⟨yse ydg _,key _ _ _ ?_ (λb o nb e=>?_) g4 fin⟩
 ·refine W.frame 0 _ _ st λb hb o e=>?_;have nb:s.heap.objs.size≠b:=λz=>nf (z▸hb);exact (ysb _ _ nb).trans ((ysb _ _ nb).trans e)
 ·exact (ysb _ _ (ywc nb)).trans ((ysb _ _ (ywc nb)).trans e)
theorem zugb {a:Addr}{D:List Int}{Q:Value->Shared->Prop}(hh:A.handled=none)(hS:IS prog w s.heap a D (!w.params.followText "set-order"))(h64:D.length<64)
  (h:∀(h':Heap) (d':Drawn) (tk:Nat) (p:Addr) (vs:List Value) (ys:List Int) (n:Nat),(∀b o,s.heap.get? b=some o->h'.get? b=some o)->s.heap.objs.size≤p->h'.get? p=some { cls:=.type "list",data:=.seq vs.toArray n }->yyg vs ys->ys.Perm D->ys.Pairwise (· ≤ ·) →
   Q (.ref p) { s with heap:=h',drawn:=d',toks:=tk }):wpAny (model prog w) A (call (.builtin "sorted") [.ref a]) Q E s:=by
 refine yai kind_sorted yiq yjq (ykq _) ?_;unfold yhf.«sorted»;refine yaa (m:=checkCount "sorted" 1 1 _) (yfa (yaa (zqdb (A:=A.in1) hh hS λh1 d1 tk vs ys k1 lt1 sy py=>?_)));have vl:vs.length<64:=by rw[zsg sy,py.length_eq];exact h64
 refine yaa (yxm ?_ (ymb (yde vl) (by decide)));have g1:(h1.push (seqObj "list" vs.toArray 0)).get? h1.objs.size=some (seqObj "list" vs.toArray 0):=yha _ rfl;refine yaa (ykc (ysd yvo ⟨_,g1,rfl⟩ yfo (list_sort_tree g1 sy vl λout zs z1 z2 z3=>⟨_,rfl,?_⟩) (ywo _)));obtain⟨e,he⟩:=sortedHeap_at (vs:=vs) (out:=out) g1;refine yfa ⟨_,rfl,h _ d1 tk h1.objs.size out.toList zs e (λb o q=>?_) (yde lt1) ?_ z1 (z2.trans py) z3⟩
 ·have q1:=k1 b o q;have bl:=yna q1;rw[sortedHeap_old (yva bl) (by rw[size_push'];exact yoc bl)];exact yca _ q1
 ·rw[ynd];exact he
end
end ISet
namespace ISet
open PySem PySem.Spec PyProof.Rows PySem.W
section
variable {prog:yvb}{w:World}{A:Around}{E:Value->Shared->Prop}{s:Shared}
theorem ziy {l:Addr}{vs:List Value}{Q:List Value->Shared->Prop}(hl:s.heap.IsTuple l vs.toArray)
  (h:Q vs { s with heap:=(s.heap.push (seqObj "list" #[] 0)).update s.heap.objs.size (ytd (· ++ vs.toArray)) }) (hsz:vs.length≤ywa) :
  wpAny (model prog w) A (ycr (.ref l)) Q E s:=by
 obtain⟨o,ho,hc,n,hd⟩:=id hl;unfold ycr;refine yaa (yzh (yqc yhk ?_));show wpAny _ _ (do again (.builtin "list.__iadd__" ⟨[← newList [],.ref l],[]⟩)) _ _ s
 refine yaa (yxm (yfa ⟨yvi _ (by decide +kernel),yqc yen ?_⟩));show wpAny _ _ (ypd (.ref s.heap.objs.size) (.ref l) (.ref s.heap.objs.size)) _ _ { s with heap:=s.heap.push (seqObj "list" #[] 0) }
 unfold ypd;have ho':(s.heap.push (seqObj "list" #[] 0)).get? l=some o:=yca _ ho;refine yaa (ymi (T:="tuple") ⟨o,ho',hc⟩ ?_);have ht:(Value.type "tuple" == Value.type "tuple")=true:=by rfl
 rw[if_pos (by rw[ht];simp)];refine yaa (listItems_at ho' hd ?_);refine yaa (listItems_at (xs:=#[]) (n:=0) (yha _ rfl) rfl ?_);rw[if_neg (by simp)];refine yaa (listUpdate_at (xs:=#[]) (n:=0) (yha _ rfl) rfl ?_ (yqb _) (by show (#[]++vs.toArray).size≤ywa+1;simp only[yqj,yoa,ymf];omega));refine yfa ?_;show wpAny (model prog w) A (do
   let o ← load s.heap.objs.size
   match o.data with
   | .seq xs _=>pure xs.toList
   | _=>yum "internal:collect") Q E { s with heap:=(s.heap.push (seqObj "list" #[] 0)).update s.heap.objs.size (ytd (· ++ vs.toArray)) }
 refine yaa (yzl (get?_update_seq (yha _ rfl) _) ?_);show wpAny _ _ (pure ((#[]:Array Value)++vs.toArray).toList) Q E _
 rw[show ((#[]:Array Value)++vs.toArray).toList=vs by simp];exact yfa h
theorem zrcb {l:Addr}{vs:List Value}{ns:List Int}{Q:Value->Shared->Prop}(hl:s.heap.IsTuple l vs.toArray)(hI:yyg vs ns)(h64:vs.length<64)
  (h:∀(out:Array Value) (ns':List Int),yyg out.toList ns'->ns'.Perm ns->ns'.Pairwise (· ≤ ·)->Q (.ref (s.heap.objs.size+1)) { s with heap:=yer s.heap vs out }) :
  wpAny (model prog w) A (call (.builtin "sorted") [.ref l]) Q E s:=by
 refine yai kind_sorted yiq yjq (ykq _) ?_;unfold yhf.«sorted»;have big:vs.length≤ywa:=ymb (yde h64) (by decide);refine yaa (m:=checkCount "sorted" 1 1 _) (yfa ?_);refine yaa (ziy hl ?_ big);refine yaa (yxm ?_ big);have hsz:((s.heap.push (seqObj "list" #[] 0)).update s.heap.objs.size (ytd (· ++ vs.toArray))).objs.size=s.heap.objs.size+1:=by
  rw[yfn,size_push']
 have hoL:(((s.heap.push (seqObj "list" #[] 0)).update s.heap.objs.size (ytd (· ++ vs.toArray))).push (seqObj "list" vs.toArray 0)).get? (s.heap.objs.size+1)=some (seqObj "list" vs.toArray 0):=by
  rw[← hsz];exact yha _ rfl
 show wpAny _ _ _ _ _ { s with heap:=((s.heap.push (seqObj "list" #[] 0)).update s.heap.objs.size (ytd (· ++ vs.toArray))).push (seqObj "list" vs.toArray 0) }
 rw[hsz];refine yaa (ykc (ysd yvo ⟨_,hoL,rfl⟩ yfo (list_sort_tree hoL hI h64 λout ns' a1 a2 a3=>⟨_,rfl,?_⟩) (ywo _)));exact yfa ⟨_,rfl,h out ns' a1 a2 a3⟩
end
end ISet
namespace SumL
open PySem PySem.Spec PyProof.Rows
def LO (xs:Array Value)(n:Nat):Obj:={ cls:=.type "list",dict:=none,data:=.seq xs n,slots:=#[] }
def catF (ls:Nat->List Value):Nat->Nat->List Value
 | _,0=>[]
 | i,k+1=>ls i++catF ls (i+1) k
section
variable {prog:yvb}{w:World}{A:Around}{R:Result->Shared->Prop}
theorem loop {I ax S:Addr}(hh:A.in1.handled=none)(items:Array Value)(b:Nat->Addr)(ls:Nat->List Value)(hI:I≠S)(hax:ax≠I)(haxS:ax≠S)
  (hitm:∀i,i<items.size->items[i]?=some (.ref (b i))) (hb:∀i,i<items.size->b i≠I∧b i≠S) :
  ∀(k i:Nat) (s:Shared) (T:Addr) (acc:List Value) (ca c:Nat),items.size-i=k->i≤items.size->s.heap.IsListIter I ax i->s.heap.IsList ax items →
  (∀j,i≤j->j<items.size->∃n,s.heap.get? (b j)=some (LO (ls j).toArray n))->s.heap.get? S=some (LO #[.ref T] c)->s.heap.get? T=some (LO acc.toArray ca)->T≠I->T≠S->acc.length+(catF ls i k).length≤ywa →
  (∀h' T' c',(∀b o,b≠I->b≠S->s.heap.get? b=some o->h'.get? b=some o)->h'.get? T'=some (LO (acc++catF ls i k).toArray c')->(k=0->T'=T)->(0<k->s.heap.objs.size≤T')->R (.ok (.ret (.ref T'))) { s with heap:=h' }) →
  yqi (model prog w) A (.builtin "sum.loop" ⟨[.ref I,.ref S,rawInt 2,rawInt 0],[]⟩) R s:=by
 intro k
 induction k with
 | zero =>
  intro i s T acc ca c hk hi hit hl hbs hS hT tI tS hz hR;have hin:i=items.size:=by omega
  refine yqc F.entry_sum_loop ?_;rw[ysc yek _];show wpAny _ A.in1 (ygm (.ref S) >>= _) _ _ s
  refine yaa (wpAny_seqItems hS rfl ?_);show wpAny _ A.in1 (tryCatch (pyNext (.ref I)) _ >>= _) _ _ s
  refine yaa (wpAny_tryCatch (yon hh hit hl (by rw[hin];simp) λh' he'=>?_));refine yfa (hR h' T ca (λb o hbI _ e=>he' b o hbI e) ?_ (λ_=>rfl) (λz=>absurd z (yid _)));show h'.get? T=some (LO (acc++[]).toArray ca)
  rw[yfc];exact he' T _ tI hT
 | succ k ih =>
  intro i s T acc ca c hk hi hit hl hbs hS hT tI tS hz hR;have hlt:i<items.size:=by omega
  obtain⟨nb,hbi⟩:=hbs i (yga _) hlt;obtain⟨bI,bS⟩:=hb i hlt;refine yqc F.entry_sum_loop ?_;rw[ysc yek _];show wpAny _ A.in1 (ygm (.ref S) >>= _) _ _ s
  refine yaa (wpAny_seqItems hS rfl ?_);show wpAny _ A.in1 (tryCatch (pyNext (.ref I)) _ >>= _) _ _ s
  refine yaa (wpAny_tryCatch (yin hit hl (x:=.ref (b i)) (hitm i hlt) λh' hit' hs'=>?_));have hS':h'.get? S=some (LO #[.ref T] c):=(hs'.2 S (ywc hI)).trans hS;have hT':h'.get? T=some (LO acc.toArray ca):=(hs'.2 T tI).trans hT;have hb':h'.get? (b i)=some (LO (ls i).toArray nb):=(hs'.2 _ bI).trans hbi;have hz':acc.length+((ls i).length+(catF ls (i+1) k).length)≤ywa:=by
   have:=hz;simp only[catF,yea] at this;omega
  show wpAny _ A.in1 ((ynn [Value.ref (b i)] (yhh .Add (.ref T) (.ref (b i)))).attempt >>= _) _ _ _
  refine yaa (wpAny_attempt (ykc (yoq (items:=acc.toArray) (items2:=(ls i).toArray) (n:=ca) (n2:=nb) hT' hb' ?_ (by simp only[yoa];omega))));have hS1:(h'.push { cls:=.type "list",data:=.seq (acc.toArray++(ls i).toArray) }).get? S=some (LO #[.ref T] c):=yca _ hS';show wpAny _ A.in1 (ynp S (λ_=>#[.ref h'.objs.size]) >>= _) _ _ { s with heap:=h'.push { cls:=.type "list",data:=.seq (acc.toArray++(ls i).toArray) } }
  refine yaa ?_;refine ynh hS1 rfl ?_;have hS2:=ymc (ytd λ_=>#[Value.ref h'.objs.size]) hS1 rfl;refine yaa (wpAny_letGo ?_);refine yaa ?_;refine ynh hS2 rfl (yfa ⟨yse yek _,?_⟩);have hS3:=ymc (ytd λ_=>#[Value.ref h'.objs.size]) hS2 rfl;have ke:∀x o,x≠S->h'.get? x=some o->(((h'.push { cls:=.type "list",data:=.seq (acc.toArray++(ls i).toArray) }).update S (ytd λ_=>#[Value.ref h'.objs.size])).update S (ytd λ_=>#[Value.ref h'.objs.size])).get? x=some o:=λx o hx e =>
   (ysb _ _ (ywc hx)).trans ((ysb _ _ (ywc hx)).trans (yca _ e))
  have nS:h'.objs.size≠S:=λz=>yid _ (z▸yna hS');have nI:h'.objs.size≠I:=λz=>by
   obtain⟨o,ho,_⟩:=id hit';exact yid _ (z▸yna ho)
  refine ih (i+1) _ h'.objs.size (acc++ls i) 0 _ (by omega) (by omega) (hit'.at λo e=>ke I o hI e) (hl.at λo e=>ke ax o haxS ((hs'.2 ax hax).trans e)) (λj h1 h2=>?_) hS3 ?_ nI nS ?_ λh2 T' c' k1 k2 k3 k4=>?_
  ·obtain⟨n,e⟩:=hbs j (by omega) h2;exact⟨n,ke _ _ (hb j h2).2 ((hs'.2 _ (hb j h2).1).trans e)⟩
  ·refine (ysb _ _ (ywc nS)).trans ((ysb _ _ (ywc nS)).trans ?_);rw[List.append_toArray];exact yha _ rfl
  ·rw[yea];omega
  ·refine hR h2 T' c' (λx o hxI hxS e=>k1 x o hxI hxS (ke x o hxS ((hs'.2 x hxI).trans e))) ?_ (λz=>absurd z (Nat.succ_ne_zero _)) λ_=>?_
   ·rw[k2,catF,ydd]
   ·have sz:h'.objs.size=s.heap.objs.size:=hs'.1;cases k with
    | zero=>exact yrn (by rw[k3 rfl,sz])
    | succ k =>
     have:=k4 (Nat.succ_pos _);have e2:(((h'.push { cls:=.type "list",data:=.seq (acc.toArray++(ls i).toArray) }).update S (ytd λ_=>#[Value.ref h'.objs.size])).update S (ytd λ_=>#[Value.ref h'.objs.size])).objs.size=h'.objs.size+1:=by
      rw[yfn,yfn];exact ylc _ _
     have t2:h'.objs.size+1≤T':=(by rw[← e2];exact this);omega
end
section
variable {prog:yvb}{w:World}{A:Around}{E:Value->Shared->Prop}{s:Shared}
theorem ztlb (a b:Value):argsOk "sum" ⟨[a,b],[]⟩:=by unfold argsOk;kernel_rfl
theorem zklb {l st:Addr}{items:Array Value}{n0:Nat}{Q:Value->Shared->Prop}(b:Nat->Addr)(ls:Nat->List Value)(hh:A.in1.handled=none)(hl:s.heap.IsList l items)(hst:s.heap.get? st=some (LO #[] n0))
  (hitm:∀i,i<items.size->items[i]?=some (.ref (b i))) (hbs:∀j,j<items.size->∃n,s.heap.get? (b j)=some (LO (ls j).toArray n)) (h0:0<items.size) (hz:(catF ls 0 items.size).length≤ywa)
  (h:∀h' T c,(∀b o,s.heap.get? b=some o->h'.get? b=some o)->h'.get? T=some (LO (catF ls 0 items.size).toArray c)->s.heap.objs.size≤T->Q (.ref T) { s with heap:=h' }) :
  wpAny (model prog w) A (call (.builtin "sum") [.ref l,.ref st]) Q E s:=by
 refine call_function_tree F.kind_sum F.plain_sum F.entry_sum (ztlb _ _) ?_;unfold yhf.«sum»;simp only[yja,ymf];rw[if_neg (by decide)];refine yaa (wpAny_of_eq (show yhf.Builtins.bindParams "sum" ["start"] 0 ⟨[.ref st],[]⟩=pure [some (.ref st)] from rfl) ?_);refine yaa (yij hl ?_);refine yaa (yfa ?_);have hst1:(s.heap.push { cls:=.type "list_iterator",data:=.fields #[.ref l,.int 0 0] }).get? st=some (LO #[] n0):=yca _ hst;have ty:yah { s with heap:=s.heap.push { cls:=.type "list_iterator",data:=.fields #[.ref l,.int 0 0] } } (.ref st) "list":=⟨_,hst1,rfl⟩;simp only[List.forIn_cons,List.forIn_nil];refine yaa (yaa (yaa (yei (T:="list") (b:=false) ty F.sub_list_str ?_)));simp only[yxf,if_false];refine yfa (yaa (yaa (yei (T:="list") (b:=false) ty F.sub_list_bytes ?_)));simp only[yxf,if_false];refine yfa (yaa (yaa (yei (T:="list") (b:=false) ty F.sub_list_bytearray ?_)));simp only[yxf,if_false];refine yfa (yfa ?_);refine yaa (ycd ?_);refine yfa ⟨yse yek _,?_⟩;have lt:l<s.heap.objs.size:=by obtain⟨o,ho,_⟩:=id hl;exact yna ho
 have stt:st<s.heap.objs.size:=yna hst;have sz:(s.heap.push { cls:=.type "list_iterator",data:=.fields #[.ref l,.int 0 0] }).objs.size=s.heap.objs.size+1:=ylc _ _;have hbl:∀j,j<items.size->b j<s.heap.objs.size:=λj hj=>by
  obtain⟨n,e⟩:=hbs j hj;exact yna e
 have k2:∀x o,s.heap.get? x=some o->((s.heap.push { cls:=.type "list_iterator",data:=.fields #[.ref l,.int 0 0] }).push { cls:=.type "list",data:=.seq #[.ref st] }).get? x=some o:=λx o e=>yca _ (yca _ e);refine loop (I:=s.heap.objs.size) (ax:=l) (S:=(s.heap.push { cls:=.type "list_iterator",data:=.fields #[.ref l,.int 0 0] }).objs.size) hh items b ls (yva (by rw[sz];exact yie _)) (yva lt) (yva (by rw[sz];exact yoc lt)) hitm (λi hi=>⟨yva (hbl i hi),yva (by rw[sz];exact yoc (hbl i hi))⟩) items.size 0 _ st [] n0 0 rfl (yqb _) ?_ ?_ (λj _ hj=>?_) ?_ ?_ (yva stt) (yva (by rw[sz];exact yoc stt)) (by simpa using hz) λh' T c q1 q2 _ q4=>?_
 ·exact⟨_,yca _ (yha _ rfl),rfl,rfl⟩
 ·exact hl.at λo e=>k2 _ _ e
 ·obtain⟨n,e⟩:=hbs j hj;exact⟨n,k2 _ _ e⟩
 ·exact yha _ rfl
 ·exact k2 _ _ hst
 ·refine h h' T c (λx o e=>q1 x o ?_ ?_ (k2 _ _ e)) ?_ ?_
  ·exact yva (yna e)
  ·exact yva (by rw[sz];exact yoc (yna e))
  ·rw[q2,yal]
  ·have:=q4 h0;have e2:((s.heap.push { cls:=.type "list_iterator",data:=.fields #[.ref l,.int 0 0] }).push { cls:=.type "list",data:=.seq #[.ref st] }).objs.size=s.heap.objs.size+2:=by rw[ylc,sz]
   have t2:s.heap.objs.size+2≤T:=(by rw[← e2];exact this);omega
end
end SumL
namespace L2
open PySem PyProof.Rows
section
variable {X:Cx}
end
end L2
namespace L2
open PySem PySem.Spec PyProof.Rows
theorem ints_of:∀{vs:List Value} {ys:List Int},Vals (ys.map V.int) vs->yyg vs ys
 | _,[],.nil=>.nil
 | _,y::r,.cons h t=>by
  obtain⟨tk,rfl⟩:=h;exact .cons y tk (ints_of t)
def setI (X:Cx)(l:Addr)(D:List Int):HO:=.ext λh=>ISet.IS X.prog X.w h l D (!X.w.params.followText "set-order")
section
variable {X:Cx}
theorem zmy (hc:X.calm=true):zqg X (.type "set") (λxs H Q=>Ex2 λp ys=>xs=[.ref p]∧SqT X.K H p (ys.map V.int)∧ys.length≤1000∧∀l,H l=none->Q (.ref l) (upd H l (setI X l (ISet.dd ys)))):=by
 intro pins s σ H xs us Q I r h;obtain⟨p,ys,rfl,hq,hy,q⟩:=h;obtain⟨u,rfl,ru⟩:=vals1 r;cases ru;obtain⟨its,rv,pl,hz⟩:=I.tuple hq;have sy:=ints_of rv;have il:its.length=ys.length:=ISet.zsg sy;refine ISet.set_tuple (xs:=ys) (I.ok.hd hc) pl (by simpa using sy) (by rw[yoa,il];have:ykf=4096:=rfl;omega) λh' tk S k=>?_;have I1:Inv X pins σ (upd H s.heap.objs.size (setI X s.heap.objs.size (ISet.dd ys))) { s with heap:=h',toks:=tk }:=I.laid (t':=tk) (λb o e=>k b o e) (yga _) ⟨S,let ⟨o,_,_,_,e,_⟩:=S;⟨o,e⟩,λh1 h2 x y=>x.keep y⟩;exact⟨.ref s.heap.objs.size,_,I1,rfl,q _ (I.hok.fresh (yga _))⟩
theorem ztr (hc:X.calm=true):zqg X (.builtin "sorted") (λxs H Q=>Ex2 λl D=>xs=[.ref l]∧H l=some (setI X l D)∧D.length<64∧∀(p:Addr) (ys:List Int),H p=none->ys.Perm D->ys.Pairwise (· ≤ ·)->Q (.ref p) (upd H p (.lst (ys.map V.int)))):=by
 intro pins s σ H xs us Q I r h;obtain⟨l,D,rfl,hl,h64,q⟩:=h;obtain⟨u,rfl,ru⟩:=vals1 r;cases ru;obtain⟨S,_,_⟩:=I.hok l _ hl;refine ISet.zugb (I.ok.hd hc) S h64 λh' d' tk p vs ys n k hp g sy py so=>?_;have I0:=I.zijb d';have vl:vs.length≤ywa:=by
  rw[ISet.zsg sy,py.length_eq];exact ymb (yde h64) (by decide)
 have I1:Inv X pins σ (upd H p (.lst (ys.map V.int))) { s with heap:=h',drawn:=d',toks:=tk }:=I0.laid (t':=tk) (λb o e=>k b o e) hp ⟨by rw[yba,← ISet.zsg sy];exact vl,vs,n,zco sy,g⟩;exact⟨.ref p,_,I1,rfl,q p ys (I.hok.fresh hp) py so⟩
end
end L2
namespace L2
open PySem PySem.Spec PyProof.Rows PySem.MeetsSeq
section
variable {X:Cx}
theorem zllb {v:Value}{r1 r2:List V->Hp->VK->Prop}(a:zqg X v r1)(b:zqg X v r2):zqg X v (λxs H Q=>r1 xs H Q∨r2 xs H Q):=by
 intro pins s σ H xs us Q I r h
 rcases h with h|h
 ·exact a pins s σ H xs us Q I r h
 ·exact b pins s σ H xs us Q I r h
theorem zmbb (hc:X.calm=true):zqg X (.type "set") (λxs H Q=>(∃p,∃ys,xs=[.ref p]∧SqT X.K H p (ys.map V.str)∧ys.length≤1000∧∀l,H l=none->Q (.ref l) (upd H l (setO X l (SSet.dd ys))))∨Ex2 λp ys=>xs=[.ref p]∧SqT X.K H p (ys.map V.int)∧ys.length≤1000∧∀l,H l=none->Q (.ref l) (upd H l (setI X l (ISet.dd ys)))):=zllb (zlbb hc) (zmy hc)
theorem zdu (hc:X.calm=true):zqg X (.builtin "sorted") (λxs H Q=>(Ex2 λl D=>xs=[.ref l]∧H l=some (setO X l D)∧D.length<64∧∀p ys,H p=none->ys.Perm D->yyk ys=true->Q (.ref p) (upd H p (.lst (ys.map V.str))))∨Ex2 λl D=>xs=[.ref l]∧H l=some (setI X l D)∧D.length<64∧∀(p:Addr) (ys:List Int),H p=none->ys.Perm D->ys.Pairwise (· ≤ ·)->Q (.ref p) (upd H p (.lst (ys.map V.int)))):=zllb (zml hc) (ztr hc)
def ztvb (K:yda):R2:=λx y H Q=>Ex4 λa b xs ys=>x = .ref a∧y = .ref b∧SqT K H a xs∧SqT K H b ys∧xs.length+ys.length≤ywa∧(xs=[]->Q (.ref b) H)∧(xs≠[]->ys=[]->Q (.ref a) H)∧(xs≠[]->ys≠[]->∀p,H p=none->Q (.ref p) (upd H p (.tup (xs++ys))))
theorem zuqb:OpR X (yhh .Add) (ztvb X.K):=by
 intro pins s σ H x y v u Q I rx ry h;obtain⟨a,b,xs,ys,rfl,rfl,ha,hb,hz,q1,q2,q3⟩:=h
 by_cases c:xs=[]
 ·subst c;cases rx;cases ry;obtain⟨its,r1,p1,_⟩:=I.tuple ha;obtain⟨its2,r2,p2,_⟩:=I.tuple hb;cases r1;obtain⟨⟨cls,dd,data,sl⟩,ho,hc,n,hd⟩:=id p1;obtain⟨⟨cls2,dd2,data2,sl2⟩,ho2,hc2,n2,hd2⟩:=id p2;simp only at hc hd hc2 hd2;subst hc hd hc2 hd2;exact yvn ⟨_,ho,rfl⟩ ⟨_,ho2,rfl⟩ ybk ysm ygh yxg (ygg _ _)
   (zxub a b _ its2.toArray n n2 dd dd2 sl sl2 rfl) ⟨ho,ho2,⟨.ref b,H,I,rfl,q1 rfl⟩⟩
 ·exact zvm pins s σ H (.ref a) (.ref b) v u Q I rx ry ⟨a,b,xs,ys,rfl,rfl,ha,hb,c,hz,q2 c,q3 c⟩
theorem zph:zqg X (.builtin "sorted") (λxs H Q=>Ex2 λl ns=>xs=[.ref l]∧(SqL X.K H l (ns.map V.int)∨SqT X.K H l (ns.map V.int))∧ns.length<64∧∀(p:Addr) (ys:List Int),H p=none->ys.Perm ns->ys.Pairwise (· ≤ ·)->Q (.ref p) (upd H p (.lst (ys.map V.int)))):=by
 intro pins s σ H xs us Q I r h;obtain⟨l,ns,rfl,hl,h64,q⟩:=h;obtain⟨u,rfl,ru⟩:=vals1 r;cases ru;have fin:∀(its:List Value),yyg its ns->∀(out:Array Value) (ys:List Int),yyg out.toList ys->ys.Perm ns->ys.Pairwise (· ≤ ·)->Ex2 λv H'=>Inv X pins σ H' { s with heap:=yer s.heap its out }∧RelV v (.ref (s.heap.objs.size+1))∧Q v H':=λits sy out ys a1 a2 a3=>by
  obtain⟨e,he⟩:=sortedAll_at s.heap its out;have vl:out.toList.length≤ywa:=by
   rw[ISet.zsg a1,a2.length_eq];exact ymb (yde h64) (by decide)
  have I1:Inv X pins σ (upd H (s.heap.objs.size+1) (.lst (ys.map V.int))) { s with heap:=yer s.heap its out }:=I.laid (t':=s.toks) (λb o e=>sortedAll_old e) (yge _) ⟨by rw[yba,← ISet.zsg a1];exact vl,out.toList,e,zco a1,by rw[ynd];exact he⟩;exact⟨.ref (s.heap.objs.size+1),_,I1,rfl,q _ ys (I.hok.fresh (yge _)) a2 a3⟩
 rcases hl with hl|hl
 ·obtain⟨its,rv,pl,_⟩:=I.list hl;have sy:=ints_of rv;exact sorted_ints (vs:=its) (ns:=ns) pl.isList sy (by rw[ISet.zsg sy];exact h64) λout ys a1 a2 a3=>fin its sy out ys a1 a2 a3
 ·obtain⟨its,rv,pl,_⟩:=I.tuple hl;have sy:=ints_of rv;exact ISet.zrcb (vs:=its) (ns:=ns) pl sy (by rw[ISet.zsg sy];exact h64) λout ys a1 a2 a3=>fin its sy out ys a1 a2 a3
end
end L2
namespace HT
open PySem PySem.Spec PyProof.Rows L2
section
variable {prog:yvb}{w:World}{A:Around}{E:Value->Shared->Prop}{s:Shared}
theorem zbn {t sl:Addr}{items:Array Value}{vl vu:Value}{lo hi:Option Int}{Q:Value->Shared->Prop}(ht:IsTup s.heap t items)(hs:s.heap.IsSliceOf sl vl vu .none)(pl:IsPart vl lo)(pu:IsPart vu hi)
  (hw:sIx items.size 0 lo=0∧sIx items.size items.size hi=items.size) (h:Q (.ref t) s):wpAny (model prog w) A (ywn (.ref t) (.ref sl)) Q E s:=by
 obtain⟨os,hos,hcs,hds⟩:=id hs;have hTs:s.TypeIs (.ref sl) "slice":=⟨os,hos,hcs⟩;unfold ywn
 try with_reducible refine ykc ?_
 first|refine yaa (yfa ?_)|skip
 refine yaa (ylj ht.typeIs (by decide) ?_);refine yaa (yze (name:=yli "__getitem__") ht.typeIs ybd
  (ysd ybd ht.typeIs entry_tuple_getitem ?_ (args_tuple_getitem _ _)))
 show wpAny _ _ (ygl (.ref t) >>= _) _ _ s
 refine yaa (tupleItemsOf_ ht ?_);refine yaa (ymi hTs ?_);rw[if_pos (by decide)];refine yaa (znk hs pl pu ?_);have hyes:((((sIx items.size 0 lo:Nat):Int)==0&&(1:Int)==1&&(sIx items.size items.size hi-sIx items.size 0 lo)==items.size)=true):=by
  rw[hw.1,hw.2];simp
 show wpAny _ _ (if (((sIx items.size 0 lo:Nat):Int)==0&&(1:Int)==1&&(sIx items.size items.size hi-sIx items.size 0 lo)==items.size)=true then _ else _) _ _ s
 rw[if_pos hyes];refine yaa (m:=yhf.Tuple.tupleIsExact _) (yaa (ymi ht.typeIs (yfa ?_)));refine yve (λ_=>?_) (λz=>absurd (by decide) z);exact yaa (ylk (yfa ⟨_,rfl,yfa h⟩))
end
end HT
namespace L2
open PySem PySem.Spec PyProof.Rows
def rSlA (K:yda):V->Option Int->Option Int->Hp->VK->Prop:=λx lo hi H Q=>Ex2 λa xs=>x = .ref a∧SqT K H a xs ∧
 ((HT.sIx xs.length 0 lo=0∧HT.sIx xs.length xs.length hi=xs.length)->Q (.ref a) H)∧(¬ (HT.sIx xs.length 0 lo=0∧HT.sIx xs.length xs.length hi=xs.length)->∀p,H p=none->Q (.ref p) (upd H p (.tup (cutV xs lo hi))))
section
variable {X:Cx}
theorem zscb:SlR X (rSlA X.K):=by
 intro pins s σ H x v vl vu lo hi sl Q I rx hs pl pu h;obtain⟨a,xs,rfl,hx,q1,q2⟩:=h
 by_cases c:HT.sIx xs.length 0 lo=0∧HT.sIx xs.length xs.length hi=xs.length
 ·cases rx;obtain⟨its,r,ht,hz⟩:=I.tuple hx;have hlen:its.toArray.size=xs.length:=by rw[yoa];exact r.length.symm
  refine⟨"tuple",_,ybd.lookup,ht.typeIs,?_⟩;exact HT.zbn ht hs pl pu (by rw[hlen];exact c) ⟨.ref a,H,I,rfl,q1 c⟩
 ·exact zqq pins s σ H (.ref a) v vl vu lo hi sl Q I rx hs pl pu ⟨a,xs,rfl,hx,c,q2 c⟩
end
end L2
namespace L2
open PySem PySem.Spec PyProof.Rows PySem.MeetsSeq
theorem zqr:fillsNumberSlot (.type "tuple") "mul" = pure false :=
 PySem.fillsNumberSlot_seq (id:="tuple.__mul__") (r:=some (.builtin "tuple.__rmul__")) ykn.lookup (by decide +kernel) yym.lookup (by decide +kernel)
theorem zrz:seqRepeat? (.type "tuple")=pure (some (.builtin "tuple.__mul__")):=by
 unfold seqRepeat?;rw[yqq (T:="tuple") (name:="__mul__") (id:="tuple.__mul__") ykn.lookup (by decide +kernel),yqq (T:="tuple") (name:="__rmul__") (id:="tuple.__rmul__") yym.lookup (by decide +kernel)];rfl
theorem zbhb (a:Int)(t:Tok)(l:Addr)(items:Array Value)(n:Nat)(dd:Option Addr)(sl:Array (Option Value)) :
  Meets (yhf.«int.__rmul__» ⟨[.int a t,.ref l],[]⟩) (λ_ R s=>s.heap.get? l=some { cls:=.type "tuple",dict:=dd,data:=.seq items n,slots:=sl }∧R (.ok (.ret Value.notImplemented)) s) :=
 .of_wp λprog w A R s h=>by obtain⟨hp,g,d,tk,os⟩:=s;obtain⟨hl,h⟩:=h;wp_walk;exact⟨_,rfl,h⟩
theorem mulT (l:Addr)(items:Array Value)(n:Nat)(k:Int)(u:Tok)(dd:Option Addr)(sl:Array (Option Value))(h0:¬ items.isEmpty=true)(h2:2≤k)(h3:k<2 ^ 63)(hz:¬ ysf (items.size*k)=true) :
  Meets (yhf.«tuple.__mul__» ⟨[.ref l,.int k u],[]⟩) (λ_ R s=>s.heap.get? l=some { cls:=.type "tuple",dict:=dd,data:=.seq items n,slots:=sl }∧R (.ok (.ret (Value.ref s.heap.objs.size))) { s with heap:=s.heap.push { cls:=Value.type "tuple",data:=Data.seq (yxp (λx1 x2=>x1++x2) #[] (ylb k.toNat items)) },toks:=s.toks }):=by
 refine .of_wp λprog w A R s h=>?_;obtain⟨hp,g,d,tk,os⟩:=s;obtain⟨hl,h⟩:=h;unfold yhf.«tuple.__mul__»
 wp_walk using wpAny_loadPart' hl
 refine yio (decide_eq_false (by rw[yap,decide_eq_true_iff,decide_eq_true_iff];omega)) ?_
 wp_walk using wpAny_loadPart' hl
 have e0:items.isEmpty=false:=by simpa using h0
 have sz:(items.size:Int)*k≤(ywa:Int):=by
  unfold ysf at hz
  simpa using hz
 refine yio (decide_eq_false (by rw[e0,yzm,beq_iff_eq];omega)) ?_
 wp_walk using wpAny_loadPart' hl
 refine yio (decide_eq_false (by rw[e0,ytm,decide_eq_true_iff];omega)) ?_;dsimp only;have sl8:(ywa:Int)≤(2 ^ 63-1) / 8:=by decide
 rw[if_neg (by omega),if_neg hz];have hsz:(yxp (λx1 x2=>x1++x2) #[] (ylb k.toNat items)).size≤ywa:=by
  rw[AutoListH.size_joined,Array.size_empty,Nat.zero_add];have:((k.toNat*items.size:Nat):Int)≤(ywa:Int):=by
   rw[Int.natCast_mul,ybp (by omega),Int.mul_comm];exact sz
  omega
 wp_walk
 exact⟨_,rfl,h⟩
section
variable {X:Cx}
def zrvb (K:yda):R2:=λx y H Q=>Ex3 λa xs k=>x = .ref a∧y = .int k∧SqT K H a xs∧xs≠[]∧2≤k∧k<2 ^ 63∧xs.length*k.toNat≤ywa∧∀p,H p=none->Q (.ref p) (upd H p (.tup (ylb k.toNat xs).flatten))
theorem zex:OpR X (yhh .Mult) (zrvb X.K):=by
 intro pins s σ H x y v u Q I rx ry h;obtain⟨a,xs,k,rfl,rfl,ha,hx,h2,h3,hz,q⟩:=h;cases rx;obtain⟨t,rfl⟩:=ry;obtain⟨its,r,p1,_⟩:=I.tuple ha;obtain⟨⟨cls,dd,data,sl⟩,ho,hc,n,hd⟩:=id p1;simp only at hc hd;subst hc hd;have hl:=r.length;have hne:¬ its.toArray.isEmpty=true:=by
  intro z;refine hx (r.znx.mp ?_)
  simpa using z
 have hlong:¬ ysf ((its.toArray.size:Int)*k)=true:=by
  unfold ysf;rw[yoa,← hl];have:((xs.length*k.toNat:Nat):Int)≤(ywa:Int):=by omega
  rw[Int.natCast_mul,ybp (by omega)] at this
  simpa using this
 have hnew:yxp (λx1 x2=>x1++x2) #[] (ylb k.toNat its.toArray)=(ylb k.toNat its).flatten.toArray:=by
  have:=foldl_rep its k.toNat [];rw[yal] at this;exact this
 refine wpAny_binaryOp_repeat_ref (T:="tuple") (U:="int") (by decide) ⟨_,ho,rfl⟩ (λs'=>typeIs_int s' k t) zqr F.fills_int_mul F.slot_int_rmul zrz F.slot_int_index.lookup
  (ynj F.slot_int_rmul (typeIs_int s k t) F.entry_int_rmul (F.args_int_rmul_2 _ _) (zbhb k t a its.toArray n dd sl)
   ⟨ho,rfl,⟨_,ho,rfl⟩,ynj F.slot_tuple_mul ⟨_,ho,rfl⟩ F.entry_tuple_mul (F.args_tuple_mul_2 _ _) (mulT a its.toArray n k t dd sl hne h2 h3 hlong) ⟨ho,?_⟩⟩)
 rw[hnew];refine⟨.ref s.heap.objs.size,_,I.laid (t':=s.toks) (o:=.tup (ylb k.toNat xs).flatten) (λb ob q=>yca _ q) (yga _) ?_,rfl,q _ (I.hok.fresh (yga _))⟩;exact⟨by rw[len_rep,Nat.mul_comm];exact hz,_,r.rep k.toNat,ywq _ _⟩
end
end L2
namespace L2
open PySem PySem.Spec PyProof.Rows PySem.MeetsSeq
theorem zzeb {ls:Nat->List Value}:∀(yss:List (List V)) (i:Nat),(∀j ys,yss[j]?=some ys->Vals ys (ls (i+j)))->Vals yss.flatten (SumL.catF ls i yss.length)
 | [],_,_=>.nil
 | ys::r,i,h=>by
  rw[ybc,yja,SumL.catF];refine Vals.append (h 0 ys rfl) (zzeb r (i+1) λj zs e=>?_);have:=h (j+1) zs (by rw[ytb];exact e);rw[show i+1+j=i+(j+1) by omega];exact this
def rowAt (h:Heap)(a:Addr):List Value:=match h.get? a with
 | some o=>(match o.data with|.seq xs _=>xs.toList|_=>[])
 | none=>[]
section
variable {X:Cx}
theorem zky (hc:X.calm=true):zqg X (.builtin "sum") (λxs H Q=>Ex2 λ(l:Addr) (ns:List Int)=>xs=[.ref l]∧SqL X.K H l (ns.map V.int)∧Q (.int ns.sum) H):=by
 intro pins s σ H xs us Q I r h;obtain⟨l,ns,rfl,hl,q⟩:=h;obtain⟨u,rfl,ru⟩:=vals1 r;cases ru;obtain⟨its,rv,pl,_⟩:=I.list hl;have sy:=ints_of rv;obtain⟨ys,ey⟩:=AllInts.items sy.allInts;have pl2:=pl.isList;rw[ey] at pl2;have en:(ys.toList.map (·.1))=ns:=by
  rw[← nums_intItems,← ey];exact sy.numsOf
 refine sum_intListG (show X.A.handled=none from I.ok.hd hc) pl2 λh' tk t' hk=>?_;rw[preSum_eq,yla (by simp),en];exact⟨.int _,H,I.kept (t':=tk) hk,⟨t',rfl⟩,q⟩
theorem zav (hc:X.calm=true):zqg X (.builtin "sum") (λxs H Q=>Ex4 λ(a st:Addr) (bs:List Addr) (yss:List (List V))=>xs=[.ref a,.ref st]∧H a=some (.lst (bs.map V.ref))∧H st=some (.lst [])∧bs.length=yss.length∧(∀(i:Nat) b ys,bs[i]?=some b->yss[i]?=some ys->H b=some (.lst ys))∧bs≠[]∧yss.flatten.length≤ywa∧∀p,H p=none->Q (.ref p) (upd H p (.lst yss.flatten))):=by
 intro pins s σ H xs us Q I r h;obtain⟨a,st,bs,yss,rfl,ha,hst,hlen,hrow,hne,hz,q⟩:=h;obtain⟨u,u2,rfl,ru,ru2⟩:=vals2 r;cases ru;cases ru2;obtain⟨z,its,n,rv,hl,e⟩:=I.lstM ha;obtain⟨z0,its0,n0,rv0,hl0,e0⟩:=I.lstM hst;cases rv0;have lb:its.toArray.size=bs.length:=by rw[yoa,← hl,yba]
 have hit:∀i,i<its.toArray.size->its.toArray[i]?=some (.ref (bs.getD i 0)):=by
  intro i hi;rw[lb] at hi;obtain⟨u,hu,ru⟩:=rv.get (i:=i) (x:=.ref bs[i]) (by rw[yqa,yma hi];rfl);cases ru;rw[yxj,hu,yza,yma hi];rfl
 have hrows:∀j,j<its.toArray.size->∀ys,yss[j]?=some ys->Vals ys (rowAt s.heap (bs.getD j 0))∧∃m,s.heap.get? (bs.getD j 0)=some (SumL.LO (rowAt s.heap (bs.getD j 0)).toArray m):=by
  intro j hj ys hy;rw[lb] at hj;have eb:bs.getD j 0=bs[j]:=by rw[yza,yma hj];rfl
  obtain⟨z,it2,m,r2,hl2,e2⟩:=I.lstM (hrow j _ ys (yma hj) hy);rw[← eb] at e2;have er:rowAt s.heap (bs.getD j 0)=it2:=by
   unfold rowAt;rw[e2]
  rw[er];exact⟨r2,m,e2⟩
 have vc:Vals yss.flatten (SumL.catF (λj=>rowAt s.heap (bs.getD j 0)) 0 its.toArray.size):=by
  rw[lb,hlen];refine zzeb yss 0 λj ys hy=>?_;rw[Nat.zero_add];exact (hrows j (by rw[lb,hlen];exact (ysa.mp hy).1) ys hy).1
 have vl:=vc.length;refine SumL.zklb (l:=a) (st:=st) (items:=its.toArray) (n0:=n0) (λi=>bs.getD i 0) (λj=>rowAt s.heap (bs.getD j 0)) (show X.A.in1.handled=none from I.ok.hd hc) ⟨_,e,rfl,n,rfl⟩ e0 hit (λj hj=>?_) ?_ (by rw[← vl];exact hz) λh' T c k1 k2 k3=>?_
 ·obtain⟨ys,hy⟩:∃ys,yss[j]?=some ys:=⟨_,yma (by rw[← hlen,← lb];exact hj)⟩;exact (hrows j hj ys hy).2
 ·rw[lb];exact yki.mpr hne
 ·refine⟨.ref T,_,I.laid (t':=s.toks) (o:=.lst yss.flatten) k1 k3 ?_,rfl,q _ (I.hok.fresh k3)⟩;exact⟨hz,_,c,vc,k2⟩
end
end L2
namespace L2
open PySem PySem.Spec PyProof.Rows PySem.MeetsSeq
def tLR (ta:TA):TE:=fun σ H Q=>ta σ H λvs H1=>∃j:Nat,vs=[.int (j:Int)]∧j≤1000∧∀p,H1 p=none->Q (.ref p) (upd H1 p (.lst ((ypb j).map λi:Nat=>V.int (i:Int))))
theorem zjv:∀(vs:List Value) (k:Nat),(∀(j:Nat) v,vs[j]?=some v->∃t,v = .int ((k+j:Nat):Int) t)->Vals ((List.range' k vs.length).map λi:Nat=>V.int (i:Int)) vs
 | [],_,_=>.nil
 | v::r,k,h=>by
  rw[yja,List.range'_succ,yib];refine .cons ?_ (zjv r (k+1) λj u e=>?_)
  ·obtain⟨t,e⟩:=h 0 v rfl;exact⟨t,e⟩
  ·obtain⟨t,e2⟩:=h (j+1) u (by rw[ytb];exact e);exact⟨t,by rw[e2];congr 2;omega⟩
section
variable {X:Cx}
theorem zvz {a:Expr}{ta:TA}{p p2 pos pos2:Pos}(hc:X.calm=true)(hg:Gl X "list")(hm:X.mg "list" = none)(hg2:Gl X "range")(hm2:X.mg "range" = none)(ha:PA X [a] ta)(hs:yxc [a] X.env=[(false,eval a X.env)]:=by rfl)
  (hs2:yxc [Expr.Call (.Name "range" p2) [a] [] pos2] X.env=[(false,eval (.Call (.Name "range" p2) [a] [] pos2) X.env)]:=by rfl):PE X (.Call (.Name "list" p) [.Call (.Name "range" p2) [a] [] pos2] [] pos) (tLR ta):=by
 intro pins s σ H Q I h;refine yih (zir I hg hm yzf ?_);refine yod ?_ (by rw[hs2];rfl) rfl;rw[hs2];show wpAny _ _ (spliced [(false,eval (.Call (.Name "range" p2) [a] [] pos2) X.env)]) _ _ s
 refine yhp ?_;refine Call_ (zir I hg2 hm2 boot_range (yod (thn (ha pos2 pins s σ H _ I h) λus s1 ⟨vs,H1,I1,r1,q1⟩=>?_) hs rfl));obtain⟨j,e,hj,q⟩:=q1;subst e;obtain⟨u,rfl,ru⟩:=vals1 r1;obtain⟨t,rfl⟩:=ru;refine call_range_1 (yup ?_);have rs:ypm 0 (j:Int) 1=((j:Nat):Int):=by
  rw[rangeSize_one]
  split<;>omega
 refine call_list_range (n:=j) (show X.A.handled=none from I.ok.hd hc) (IsRange.new ..) (small_one (by omega) (by omega) (by omega) (by omega)) rs (by omega) λh' tk acc' c' k1 k2 k3=>?_;have sz:(s1.heap.push { cls:=.type "range",data:=.fields #[.int 0 s1.toks,.int (j:Int) t,.int 1 (s1.toks+1)] }).objs.size=s1.heap.objs.size+1:=ylc _ _;have vs:Vals ((ypb j).map λi:Nat=>V.int (i:Int)) acc'.toList:=by
  have z:=zjv acc'.toList 0 λk v e=>by
   obtain⟨t,e2⟩:=k3.2 k v (by rw[← yob];exact e);exact⟨t,by rw[e2];congr 1;omega⟩
  rw[ypa,k3.1,← List.range_eq_range'] at z;exact z
 refine⟨.ref _,_,I1.laid (t':=tk) (o:=.lst ((ypb j).map λi:Nat=>V.int (i:Int))) (λb o e=>k1 b o (yca _ e)) (a:=(s1.heap.push { cls:=.type "range",data:=.fields #[.int 0 s1.toks,.int (j:Int) t,.int 1 (s1.toks+1)] }).objs.size) (by rw[sz];exact yge _) ?_,rfl,q _ (I1.hok.fresh (by rw[sz];exact yge _))⟩;refine⟨?_,acc'.toList,c',vs,?_⟩
 ·rw[yba,yrb];exact ymb hj (by decide)
 ·rw[ynd];exact k2
end
end L2
namespace L2
open PySem PyProof.Rows
def EnL (h:Heap)(e it t:Addr)(i:Nat):Prop:=(∃old,IsEnum h e it (i:Int) old)∧h.IsListIter it t i∧e≠it
def Iel (K:yda)(a:Addr):It :=
 ⟨λi H=>Ex2 λxs x=>SqL K H a xs∧xs[i]?=some x,λi H x H'=>Ex2 λp v=>H p=none∧x = .ref p∧H'=upd H p (.tup [.int (i:Int),v])∧∀xs,SqL K H a xs->xs[i]?=some v,λi H=>∃xs,SqL K H a xs∧xs.length≤i⟩
theorem zqgb {P:yvb}{w:World}{K:yda}{es:List Expr}{k1:Nat}{pos:Pos}(a e it:Addr):Turn P w K (.Tuple es k1 pos) (Iel K a) [e,it] e (λi h=>EnL h e it a i) where
 mem:=by simp
 obj:=λi h st b hb=>by
  have z:b=e∨b=it:=by simpa using hb
  obtain⟨⟨old,he⟩,⟨o,g1,g2,g3⟩,_⟩:=st
  rcases z with rfl|rfl
  ·exact⟨_,he,λv y=>by cases y⟩
  ·exact⟨o,g1,λv y=>by rw[g3] at y;cases y⟩
 keep:=λi h h' st k=>by
  obtain⟨⟨old,he⟩,⟨o,g1,g2⟩,n⟩:=st;exact⟨⟨old,k e (by simp) _ he⟩,⟨o,k it (by simp) _ g1,g2⟩,n⟩
 item:=by
  intro X hP hw hK hc i pins s σ H E I hf st hg;subst hP hw hK;obtain⟨xs,x,hq,hx⟩:=hg;obtain⟨its,rv,p,hz⟩:=I.list hq;obtain⟨u,hu,ru⟩:=rv.get hx;have fe:=hf e (by simp);have fi:=hf it (by simp);have ne:=st.2.2;obtain⟨⟨old,he⟩,hit,_⟩:=id st;refine wpAny_pyNext_enum_item he hit p.isList (x:=u) (by simpa using hu) ne λg e1 i1 t1 _ k1=>?_;refine⟨_,rfl,wpAny_letOwnedTupleGo_enum e1 λg2 e2 s2=>?_⟩;have lt1:e<s.heap.objs.size:=yna he;have lt2:it<s.heap.objs.size:=by
   obtain⟨o,g1,_⟩:=hit;exact yna g1
  have kk:∀b o,b≠e->b≠it->s.heap.get? b=some o->g2.get? b=some o:=λb o n1 n2 z=>s2.extBut b o n1 (k1 b o n1 n2 z);have tt:g2.get? s.heap.objs.size=some { cls:=.type "tuple",data:=.seq #[.int i s.toks,u] }:=s2.extBut _ _ (ytg lt1) t1;have na:∀b,b<s.heap.objs.size->b≠s.heap.objs.size:=λb h=>yva h;have I1:Inv X pins σ (upd H s.heap.objs.size (.tup [.int (i:Int),x])) { s with heap:=s.heap.push { cls:=.type "tuple",data:=.seq #[.int i s.toks,u] },toks:=s.toks+1 } :=
   I.laid (t':=s.toks+1) (λb o z=>yca _ z) (yga _) ⟨by show 2≤ywa;decide,[.int i s.toks,u],.cons ⟨_,rfl⟩ (.cons ru .nil),⟨_,yha _ rfl,rfl,_,rfl⟩⟩
  have fo:∀b,b<s.heap.objs.size->FpOk X pins H b->FpOk X pins (upd H s.heap.objs.size (.tup [.int (i:Int),x])) b:=λb h f=>⟨by rw[zdb (na b h)];exact f.1,f.2⟩;have I2:=I1.zlpb (h':=g2) (t':=s.toks+1) (p:=e) (q:=it) (λb o n1 n2 z=>by
   by_cases hb:b=s.heap.objs.size
   ·rw[hb] at z ⊢;rw[yha _ rfl] at z;cases z;exact tt
   ·rw[Heap.get?_push_ne _ _ _ hb] at z;exact kk b o n1 n2 z) (fo e lt1 fe) (fo it lt2 fi)
  refine⟨.ref s.heap.objs.size,_,I2,rfl,⟨s.heap.objs.size,x,I.hok.fresh (yga _),rfl,rfl,λys hy=>by rw[I.zufb hy hq];exact hx⟩,⟨⟨u,e2⟩,?_,ne⟩,λb hb=>?_⟩
  ·obtain⟨o,z,r⟩:=i1;exact⟨o,s2.extBut _ _ (ywc ne) z,r⟩
  ·have z:b=e∨b=it:=by simpa using hb
   rcases z with rfl|rfl
   ·exact (fo _ lt1 fe).1
   ·exact (fo _ lt2 fi).1
 done:=by
  intro X hP hw hK hc i pins s σ H E I hf st hg;subst hP hw hK;obtain⟨xs,hq,hx⟩:=hg;obtain⟨its,rv,p,hz⟩:=I.list hq;obtain⟨f0,f1,f2,f3,f4,f5⟩:=hf it (by simp);obtain⟨⟨old,he⟩,hit,_⟩:=id st;have hl:=rv.length;exact wpAny_pyNext_enum_end (I.ok.hd hc) he hit p.isList (by simp;omega) λg eb=>⟨rfl,I.turned (t':=s.toks) (λb o hb z=>eb b o hb z) f0 f1 f3 f4 f5⟩
 self:=λ_ _ _ _ _ st h=>by
  obtain⟨⟨old,he⟩,_,_⟩:=st;exact wpAny_pyIter_enum he h
section
variable {X:Cx}
def iEnL (K:yda)(ta:TA):TI:=fun σ H R=>ta σ H λvs H1=>Ex2 λa xs=>vs=[.ref a]∧SqL K H1 a xs∧R (Iel K a) H1
theorem zlfb {es:List Expr}{k1:Nat}{tp:Pos}{a:Expr}{ta:TA}{p pos:Pos}(hg:Gl X "enumerate")(hm:X.mg "enumerate" = none)(ha:PA X [a] ta)(hs:yxc [a] X.env=[(false,eval a X.env)]:=by rfl):PI X (.Tuple es k1 tp) (.Call (.Name "enumerate" p) [a] [] pos) (iEnL X.K ta):=by
 intro pins s σ H R I h;refine Call_ (zir I hg hm zmlb (yod (thn (ha pos pins s σ H _ I h) λus s1 ⟨vs,H1,I1,r1,q1⟩=>?_) hs rfl));obtain⟨b,xs,e,hq,q⟩:=q1;subst e;obtain⟨u,rfl,ru⟩:=vals1 r1;cases ru;obtain⟨its,rv,pl,hz⟩:=I1.list hq;refine call_enumerate_list pl.isList λg en li _ kp=>?_;refine wpAny_pyIter_enum (s:={ s1 with heap:=g }) en ?_;refine⟨s1.heap.objs.size+1,[s1.heap.objs.size+1,s1.heap.objs.size],_,_,H1,rfl,I1.kept (t':=s1.toks) kp,zqgb b _ _,⟨⟨_,en⟩,li,Nat.succ_ne_self _⟩,λc hc=>?_,q⟩;have z:c=s1.heap.objs.size+1∨c=s1.heap.objs.size:=by simpa using hc
 rcases z with rfl|rfl
 ·exact I1.fpOk (yge _) (I1.hok.fresh (yge _))
 ·exact I1.fpOk (yga _) (I1.hok.fresh (yga _))
end
theorem zqkb {K:yda}{a:Addr}{xs:List V}{g:TG}{tb:TS}{D:Ends}{σ:St}{H:Hp}(Pv:Nat->St->Hp->Prop)(h0:Pv 0 σ H)(hl:∀i σ H,i≤xs.length->Pv i σ H->SqL K H a xs)
  (hs:∀i x σ H p,xs[i]?=some x->Pv i σ H->H p=none->g (.ref p) σ (upd H p (.tup [.int (i:Int),x])) fun σ2 H2=>tb { D with nx:=Pv (i+1),ct:=Pv (i+1),bk:=D.nx } σ2 H2) (hd:∀ σ H,Pv xs.length σ H->D.nx σ H) :
  ∃W:Nat->Nat->St->Hp->Prop,(∃m,W 0 m σ H)∧∀i m σ H,W i m σ H →
   ((Iel K a).stop i H∧D.nx σ H)∨((Iel K a).go i H∧∃N:St->Hp->Prop,(∀ σ' H',N σ' H'->∃m',m'<m∧W (i+1) m' σ' H')∧∀x H',(Iel K a).yld i H x H'->g x σ H' fun σ2 H2=>tb { D with nx:=N,ct:=N,bk:=D.nx } σ2 H2):=by
 refine⟨λi m σ H=>m=xs.length-i∧i≤xs.length∧Pv i σ H,⟨xs.length,rfl,yqb _,h0⟩,?_⟩;rintro i m σ H ⟨rfl,hi,pv⟩;have sq:=hl i σ H hi pv
 by_cases lt:i<xs.length
 ·have ex:xs[i]?=some xs[i]:=yma lt;refine .inr ⟨⟨xs,xs[i],sq,ex⟩,Pv (i+1),fun σ' H' z=>⟨xs.length-(i+1),by omega,rfl,lt,z⟩,λx H' y=>?_⟩;obtain⟨p,v,hp,rfl,rfl,hv⟩:=y;exact hs i v σ H p (hv xs sq) pv hp
 ·obtain rfl:i=xs.length:=by omega
  exact .inl ⟨⟨xs,sq,yga _⟩,hd σ H pv⟩
theorem zphb {K:yda}{a:Addr}{xs:List V}{H1:Hp}{g:TG}{tt:TT}{te:TE}{n:Nat}{js:List Nat}{σ:St}{Q:VK}(Pv:Nat->List V->Hp->Prop)(hl:∀i ys H,Pv i ys H->SqL K H a xs)(h0:Pv 0 [] H1)(hz:∀i ys H,Pv i ys H->ys.length≤ywa)
  (hs:∀i x ys H p,xs[i]?=some x->Pv i ys H->H p=none->g (.ref p) (zrf n js σ) (upd H p (.tup [.int (i:Int),x])) fun σ2 H2=>σ2.drop n=(zrf n js σ).drop n∧tt σ2 H2 λb H3=>if b=true then te σ2 H3 λy H4=>Pv (i+1) (ys++[y]) H4 else Pv (i+1) ys H3)
  (hd:∀ys H,Pv xs.length ys H->∀p,H p=none->Q (.ref p) (upd H p (.lst ys))):zncb (Iel K a) H1 g tt te n js σ Q:=by
 refine⟨λi m ys H=>m=xs.length-i∧i≤xs.length∧Pv i ys H,⟨xs.length,rfl,yqb _,h0⟩,?_⟩;rintro i m ys H ⟨rfl,hi,pv⟩;have sq:=hl i ys H pv
 by_cases lt:i<xs.length
 ·have ex:xs[i]?=some xs[i]:=yma lt;refine .inr ⟨⟨xs,xs[i],sq,ex⟩,hz i ys H pv,Pv (i+1),λys' H' z=>⟨xs.length-(i+1),by omega,rfl,lt,z⟩,λx H' y=>?_⟩;obtain⟨p,v,hp,rfl,rfl,hv⟩:=y;exact hs i v ys H p (hv xs sq) pv hp
 ·obtain rfl:i=xs.length:=by omega
  exact .inl ⟨⟨xs,sq,yga _⟩,hz _ ys H pv,hd ys H pv⟩
end L2
namespace Wm
open PySem
theorem zdlb {c:Nat}:∀{x y a b:List Nat},c∉x->c∉y->x++c::a=y++c::b->x=y∧a=b
 | [],[],a,b,_,_,h=>⟨rfl,by simpa using h⟩
 | [],y::ys,a,b,_,hy,h=>by
  exfalso;simp only[yal,yfh,ybl] at h;exact hy (by rw[← h.1];exact yra)
 | x::xs,[],a,b,hx,_,h=>by
  exfalso;simp only[yal,yfh,ybl] at h;exact hx (by rw[h.1];exact yra)
 | x::xs,y::ys,a,b,hx,hy,h=>by
  simp only[yfh,ybl] at h;obtain⟨h1,h2⟩:=h;obtain⟨e1,e2⟩:=zdlb (λz=>hx (yta _ z)) (λz=>hy (yta _ z)) h2;exact⟨by rw[h1,e1],e2⟩
def jl (c:Nat):List (List Nat)->List Nat
 | []=>[]
 | [x]=>x
 | x::y::r=>x++c::jl c (y::r)
theorem zvob {c:Nat}:∀{xs ys:List (List Nat)},xs≠[]->ys≠[]->(∀x∈xs,c∉x)->(∀y∈ys,c∉y)->jl c xs=jl c ys->xs=ys
 | [],_,h,_,_,_,_=>absurd rfl h
 | _,[],_,h,_,_,_=>absurd rfl h
 | [x],[y],_,_,_,_,h=>by
  have h':x=y:=h;rw[h']
 | [x],y::z::r,_,_,hx,_,h=>by
  exfalso;have h':x=y++c::jl c (z::r):=h;exact hx x yra (by rw[h'];simp)
 | x::z::r,[y],_,_,_,hy,h=>by
  exfalso;have h':x++c::jl c (z::r)=y:=h;exact hy y yra (by rw[← h'];simp)
 | x::z::r,y::z'::r',_,_,hx,hy,h=>by
  have h':x++c::jl c (z::r)=y++c::jl c (z'::r'):=h;obtain⟨e1,e2⟩:=zdlb (hx x yra) (hy y yra) h';rw[e1,zvob (by simp) (by simp) (λq hq=>hx q (yta _ hq)) (λq hq=>hy q (yta _ hq)) e2]
theorem zan (c:Nat):∀ws:List Str,(yya ⟨#[c]⟩ ws).cps.toList=jl c (ws.map λw=>w.cps.toList)
 | []=>rfl
 | [x]=>rfl
 | x::y::r=>by
  have ih:=zan c (y::r);show (x++(⟨#[c]⟩:Str)++yya ⟨#[c]⟩ (y::r)).cps.toList=x.cps.toList++c::jl c ((y::r).map λw=>w.cps.toList)
  rw[← ih];show ((x.cps++#[c])++(yya ⟨#[c]⟩ (y::r)).cps).toList=_
  simp
theorem toList_inj {xs ys:List Str}(h:(xs.map λw=>w.cps.toList)=(ys.map λw=>w.cps.toList)):xs=ys:=by
 induction xs generalizing ys with
 | nil=>cases ys with
  | nil=>rfl
  | cons y r=>simp at h
 | cons x r ih=>cases ys with
  | nil=>simp at h
  | cons y s =>
   simp only[yib,ybl] at h;have e:x=y:=by
    obtain⟨a⟩:=x;obtain⟨b⟩:=y;have h1:a.toList=b.toList:=h.1;rw[yfk.mp h1]
   rw[e,ih h.2]
theorem zdmb (x y:Str):yjf x y≠[]:=by
 unfold yjf
 split
 ·simp
 ·split
  ·simp
  ·unfold yjg;cases yjd x y 0 x.length (x.length+1)<;>simp
theorem zop {c:Nat}{ws:List Str}(hne:ws≠[])(hf:∀w∈ws,c∉w.cps.toList):yjf (yya ⟨#[c]⟩ ws) ⟨#[c]⟩=ws:=by
 refine toList_inj (zvob (c:=c) (by simpa using zdmb _ _) (by simpa using hne) (λx hx=>?_) (λx hx=>?_) ?_)
 ·obtain⟨w,hw,rfl⟩:=ycc.mp hx;exact StrLaws.split_free _ c w hw
 ·obtain⟨w,hw,rfl⟩:=ycc.mp hx;exact hf w hw
 ·rw[← zan,← zan,StrLaws.join_split]
theorem zdk (s:Str):∀ws:List Str,(yya s ws).length≤(ws.map (·.length)).sum+ws.length*s.length
 | []=>yqb _
 | [x]=>by
  show x.length≤_
  simp only[yib,ycf,yae,yzj,yvc];omega
 | x::y::r=>by
  have ih:=zdk s (y::r);show (x++s++yya s (y::r)).length≤_
  rw[yeq,yeq];simp only[yib,yae,yja,Nat.add_mul,Nat.one_mul] at ih ⊢;omega
theorem join_cons (s x:Str){r:List Str}(h:r≠[]):yya s (x::r)=x++s++yya s r:=by
 cases r with
 | nil=>exact absurd rfl h
 | cons y r=>rfl
theorem zbm (s:Str):∀{xs ys:List Str},xs≠[]->ys≠[]->yya s (xs++ys)=yya s xs++s++yya s ys
 | [],_,h,_=>absurd rfl h
 | [x],ys,_,h=>by rw[List.singleton_append,join_cons s x h];rfl
 | x::y::r,ys,_,h=>by
  have ih:=zbm s (xs:=y::r) (by simp) h;rw[yfh,join_cons s x (by simp),ih,join_cons s x (by simp)];simp only[Str.append_assoc]
theorem zxab (s:Str):∀{xss:List (List Str)},(∀xs∈xss,xs≠[])->yya s (xss.map (yya s))=yya s xss.flatten
 | [],_=>rfl
 | [xs],_=>by simp[yya]
 | xs::ys::r,h=>by
  have ih:=zxab s (xss:=ys::r) (λq hq=>h q (yta _ hq));have hx:=h xs yra;have hy:=h ys (yta _ yra);have ne:(ys::r).flatten≠[]:=by
   rw[ybc];intro z;exact hy (ydj.mp z).1
  rw[yib,join_cons s _ (by simp),ih,ybc (l:=xs),zbm s hx ne]
inductive Wh where
 | all|self|mine|mark (n:Str)|force (i:Nat)|not (a:Wh)|both (a b:Wh)|any (a b:Wh)
def Wh.word:Wh->Str
 | .all=>"all"
 | .self=>"self"
 | .mine=>"mine"
 | .mark _=>"mark"
 | .force _=>"force"
 | .not _=>"not"
 | .both _ _=>"both"
 | .any _ _=>"any"
inductive Wv where
 | non|name (n:Str)|num (i:Nat)
def Wh.val:Wh->Wv
 | .mark n=>.name n
 | .force i=>.num i
 | _=>.non
def Wh.parts:Wh->List Wh
 | .not a=>[a]
 | .both a b=>[a,b]
 | .any a b=>[a,b]
 | _=>[]
def Wv.words:Wv->List Str
 | .non=>[]
 | .name n=>[n]
 | .num i=>[toString (i:Int)]
def Wh.words:Wh->List Str
 | .all=>["all"]
 | .self=>["self"]
 | .mine=>["mine"]
 | .mark n=>["mark",n]
 | .force i=>["force",toString (i:Int)]
 | .not a=>"not" :: a.words
 | .both a b=>"both" :: (a.words++b.words)
 | .any a b=>"any" :: (a.words++b.words)
def Wh.size:Wh->Nat
 | .not a=>a.size+1
 | .both a b=>a.size+b.size+1
 | .any a b=>a.size+b.size+1
 | _=>1
theorem Wh.zyeb (w:Wh):w.words=w.word::(w.val.words++(w.parts.map Wh.words).flatten):=by
 cases w<;>simp[Wh.words,Wh.word,Wh.val,Wv.words,Wh.parts]
theorem Wh.zpd (w:Wh):w.words≠[]:=by
 rw[w.zyeb];simp
theorem Wh.size_eq (w:Wh):w.size=1+(w.parts.map Wh.size).sum:=by
 cases w<;>simp[Wh.size,Wh.parts]<;>omega
theorem Wh.size_pos (w:Wh):0<w.size:=by
 rw[w.size_eq];omega
def Wh.flat:Wh->List (Str×Wv)
 | .not a=>("not",.non)::a.flat
 | .both a b=>("both",.non)::(a.flat++b.flat)
 | .any a b=>("any",.non)::(a.flat++b.flat)
 | w=>[(w.word,w.val)]
theorem Wh.zlrb (w:Wh):w.flat=(w.word,w.val)::(w.parts.map Wh.flat).flatten:=by
 cases w<;>simp[Wh.flat,Wh.word,Wh.val,Wh.parts]
theorem Wh.zek (w:Wh):w.flat.length=w.size:=by
 induction w<;>simp[Wh.flat,Wh.size, *]
def zrr (ws:List Wh):List (Str×Wv):=(ws.map Wh.flat).flatten
def zuk (ws:List Wh):List Str:=(ws.map Wh.words).flatten
def zgo (ws:List Wh):Nat:=(ws.map Wh.size).sum
theorem zdw (w:Wh)(ws:List Wh):zrr (w::ws)=(w.word,w.val)::zrr (w.parts++ws):=by
 unfold zrr;rw[yib,ybc,w.zlrb,yxa,yec];rfl
theorem zocb (w:Wh)(ws:List Wh):zuk (w::ws)=w.word::(w.val.words++zuk (w.parts++ws)):=by
 unfold zuk;rw[yib,ybc,w.zyeb,yxa,yec];simp
theorem zxgb (w:Wh)(ws:List Wh):zgo (w::ws)=1+zgo (w.parts++ws):=by
 unfold zgo;rw[yib,yae,w.size_eq,yxa,List.sum_append];omega
theorem zyib {ws:List Wh}(h:ws≠[]):0<zgo ws:=by
 cases ws with
 | nil=>exact absurd rfl h
 | cons w r=>rw[zxgb];omega
def zud (n:Str):Prop:=1≤n.length∧n.length≤8∧∀c∈n.cps.toList,97≤c∧c≤122
def Wh.ok:Wh->Prop
 | .mark n=>zud n
 | .force i=>i<1000
 | .not a=>a.ok
 | .both a b=>a.ok∧b.ok
 | .any a b=>a.ok∧b.ok
 | _=>True
theorem Wh.zfnb {w:Wh}(h:w.ok):∀p∈w.parts,p.ok:=by
 cases w with
 | not a =>
  intro p hp;have e:p=a:=by simpa [Wh.parts] using hp
  rw[e];exact h
 | both a b =>
  intro p hp;have e:p=a∨p=b:=by simpa [Wh.parts] using hp
  rcases e with e|e<;>rw[e]
  ·exact h.1
  ·exact h.2
 | any a b =>
  intro p hp;have e:p=a∨p=b:=by simpa [Wh.parts] using hp
  rcases e with e|e<;>rw[e]
  ·exact h.1
  ·exact h.2
 | _=>intro p hp;simp[Wh.parts] at hp
theorem zoab:∀i:Nat,i<1000->∀c∈(toString (i:Int):Str).cps.toList,48≤c∧c≤57:=by decide +kernel
theorem zwp:∀i:Nat,i<1000->1≤(toString (i:Int):Str).length∧(toString (i:Int):Str).length≤3:=by decide +kernel
def zmw (u:Str):Prop:=32∉u.cps.toList∧1≤u.length∧u.length≤8
theorem zrab {n:Str}(h:zud n):zmw n:=⟨λz=>absurd (h.2.2 32 z).1 (by decide),h.1,h.2.1⟩
theorem zzd {i:Nat}(h:i<1000):zmw (toString (i:Int):Str):=by
 have q:=zwp i h;exact⟨λz=>absurd (zoab i h 32 z).1 (by decide),q.1,by omega⟩
theorem Wh.zxj (w:Wh):zmw w.word:=by
 have h:∀u∈(["all","self","mine","mark","force","not","both","any"]:List Str),32∉u.cps.toList∧1≤u.length∧u.length≤8:=by decide +kernel
 refine h _ ?_;cases w<;>simp[Wh.word]
theorem Wh.zzlb {w:Wh}(h:w.ok):∀u∈w.words,zmw u:=by
 induction w with
 | not a ih =>
  intro u hu
  rcases yka.mp hu with e|e
  ·rw[e];exact Wh.zxj (.not a)
  ·exact ih h u e
 | both a b iha ihb =>
  intro u hu
  rcases yka.mp hu with e|e
  ·rw[e];exact Wh.zxj (.both a b)
  ·rcases ydc.mp e with e|e
   ·exact iha h.1 u e
   ·exact ihb h.2 u e
 | any a b iha ihb =>
  intro u hu
  rcases yka.mp hu with e|e
  ·rw[e];exact Wh.zxj (.any a b)
  ·rcases ydc.mp e with e|e
   ·exact iha h.1 u e
   ·exact ihb h.2 u e
 | mark n =>
  intro u hu;have e:u = "mark" ∨ u=n:=by simpa [Wh.words] using hu
  rcases e with e|e<;>rw[e]
  ·exact Wh.zxj (.mark n)
  ·exact zrab h
 | force i =>
  intro u hu;have e:u = "force" ∨ u=toString (i:Int):=by simpa [Wh.words] using hu
  rcases e with e|e<;>rw[e]
  ·exact Wh.zxj (.force i)
  ·exact zzd h
 | all=>intro u hu;have e:u = "all":=by simpa [Wh.words] using hu
        rw[e];exact Wh.zxj .all
 | self=>intro u hu;have e:u = "self":=by simpa [Wh.words] using hu
         rw[e];exact Wh.zxj .self
 | mine=>intro u hu;have e:u = "mine":=by simpa [Wh.words] using hu
         rw[e];exact Wh.zxj .mine
theorem Wh.zbz (w:Wh):w.words.length≤2*w.size:=by
 induction w<;>simp[Wh.words,Wh.size]<;>omega
theorem zeo {l:List Nat}{k:Nat}(h:∀x∈l,x≤k):l.sum≤l.length*k:=by
 induction l with
 | nil=>simp
 | cons x r ih =>
  have a:=h x yra;have b:=ih λy hy=>h y (yta _ hy);rw[yae,yja,Nat.add_mul,Nat.one_mul];omega
def step:List Wh->List Wh
 | []=>[]
 | h::t=>h.parts++t
def pend (w:Wh):Nat->List Wh
 | 0=>[w]
 | j+1=>step (pend w j)
theorem zskb (w:Wh):zrr [w]=w.flat:=by simp[zrr]
theorem ziv (w:Wh):zuk [w]=w.words:=by simp[zuk]
theorem zit (w:Wh):∀j,zrr (pend w j)=w.flat.drop j
 | 0=>by rw[ysj];exact zskb w
 | j+1=>by
  have ih:=zit w j;show zrr (step (pend w j))=_
  cases e:pend w j with
  | nil =>
   rw[e] at ih;have z:w.flat.drop j=[]:=ih.symm;rw[← ytj (i:=1),z];rfl
  | cons h t =>
   rw[e,zdw] at ih;show zrr (h.parts++t)=_
   have z:=congrArg (List.drop 1) ih;rw[ytj] at z
   simpa using z
theorem zgt (w:Wh)(j:Nat):zgo (pend w j)=w.size-j:=by
 have a:∀ws:List Wh,(zrr ws).length=zgo ws:=by
  intro ws
  induction ws with
  | nil=>rfl
  | cons x r ih =>
   have e1:zrr (x::r)=x.flat++zrr r:=(by simp[zrr]);have e2:zgo (x::r)=x.size+zgo r:=(by simp[zgo]);rw[e1,e2,yea,x.zek,ih]
 rw[← a,zit,yje,w.zek]
theorem zycb {w:Wh}{j:Nat}(h:j<w.size):Ex2 λx t=>pend w j=x::t:=by
 cases e:pend w j with
 | nil =>
  have z:=zgt w j;rw[e] at z;have z':0=w.size-j:=z;omega
 | cons x t=>exact⟨x,t,rfl⟩
theorem zax (w:Wh):pend w w.size=[]:=by
 cases e:pend w w.size with
 | nil=>rfl
 | cons x t =>
  have z:=zgt w w.size;rw[e] at z;have p:=zyib (ws:=x::t) (by simp);omega
theorem zojb {w x:Wh}{t:List Wh}{j:Nat}(e:pend w j=x::t):w.flat[j]?=some (x.word,x.val):=by
 have z:=zit w j;rw[e,zdw] at z;have q:(w.flat.drop j)[0]?=some (x.word,x.val):=by rw[← z];rfl
 rw[yxe] at q
 simpa using q
theorem znjb {w:Wh}(h:w.ok):∀j,∀x∈pend w j,x.ok
 | 0=>λx hx=>by
  have e:x=w:=by simpa [pend] using hx
  rw[e];exact h
 | j+1=>λx hx=>by
  have ih:=znjb h j;cases e:pend w j with
  | nil =>
   have hx':x∈step (pend w j):=hx;rw[e] at hx';simp[step] at hx'
  | cons y t =>
   have hx':x∈step (pend w j):=hx;rw[e] at hx' ih
   rcases ydc.mp hx' with q|q
   ·exact Wh.zfnb (ih y yra) x q
   ·exact ih x (yta _ q)
def Wh.depth:Wh->Nat
 | .not a=>a.depth+1
 | .both a b=>max a.depth b.depth+1
 | .any a b=>max a.depth b.depth+1
 | _=>1
end Wm
namespace Wm
open PySem
def plain (w:Wh):Prop:=w.ok∧w.size≤9
structure Deed where
 each:Str
 kind:Str
 amt:Wv
 whom:Wh
def zfw:List Str:=["each","one"]
def zzc:List Str:=["leave","hurt","gain","lack","lose","score","draw"]
def zge:List Str:=["come","leave","hurt","gain","lack","lose","score","draw"]
def zqc:List Str:=["lose","score","draw"]
def changes:List Str:=["mute","steal","gain","lack","be","more","less","per"]
def sorts:List Str:=["hold","when","instead","may"]
inductive zmp:Str->Wv->Prop
 | leave:zmp "leave" .non
 | gain {n:Str}:zud n->zmp "gain" (.name n)
 | lack {n:Str}:zud n->zmp "lack" (.name n)
 | hurt {i:Nat}:i<1000->zmp "hurt" (.num i)
 | lose {i:Nat}:i<1000->zmp "lose" (.num i)
 | score {i:Nat}:i<1000->zmp "score" (.num i)
 | draw {i:Nat}:i<1000->zmp "draw" (.num i)
structure Deed.ok (d:Deed):Prop where
 each:d.each∈zfw
 amt:zmp d.kind d.amt
 whom:plain d.whom
def Deed.words (d:Deed):List Str:=d.each::d.kind::(d.amt.words++d.whom.words)
inductive Hv where
 | v (x:Wv)|w (y:Wh)
def Hv.words:Hv->List Str
 | .v x=>x.words
 | .w y=>y.words
inductive zni:Str->Hv->Prop
 | mute:zni "mute" (.v .non)
 | steal:zni "steal" (.v .non)
 | gain {n:Str}:zud n->zni "gain" (.v (.name n))
 | lack {n:Str}:zud n->zni "lack" (.v (.name n))
 | be {i:Nat}:i<1000->zni "be" (.v (.num i))
 | more {i:Nat}:i<1000->zni "more" (.v (.num i))
 | less {i:Nat}:i<1000->zni "less" (.v (.num i))
 | per {y:Wh}:plain y->zni "per" (.w y)
inductive TurnOk:Str->Wv->Prop
 | none:TurnOk "none" .non
 | here:TurnOk "here" .non
 | less {i:Nat}:i<1000->TurnOk "less" (.num i)
 | more {i:Nat}:i<1000->TurnOk "more" (.num i)
 | as {n:Str}:n∈zqc->TurnOk "as" (.name n)
def turns:Str->List Str:=λk =>
 if k = "leave" then ["none","here"] else if k = "hurt" then ["none","here","less","more"] else if k = "gain" then ["none","here"] else if k = "lack" then ["none","here"]
 else ["none","less","more","as"]
inductive Rule where
 | hold (word:Str) (val:Hv) (whom:Wh)
 | wen (kind:Str) (whom:Wh) (deed:Deed)
 | instead (kind:Str) (whom:Wh) (word:Str) (val:Wv)
 | may (cost:Nat) (deed:Deed)
def Rule.ok:Rule->Prop
 | .hold w v y=>zni w v∧plain y
 | .wen k y d=>k∈zge∧plain y∧d.ok
 | .instead k y w v=>k∈zzc∧plain y∧w∈turns k∧TurnOk w v
 | .may c d=>c<1000∧d.ok
def Rule.words:Rule->List Str
 | .hold w v y=>"hold" :: w::(v.words++y.words)
 | .wen k y d=>"when" :: k::(y.words++("do":Str)::d.words)
 | .instead k y w v=>"instead" :: k::(y.words++("do":Str)::w::v.words)
 | .may c d=>"may" :: toString (c:Int) :: "do" :: d.words
theorem zmp.kind {k:Str}{v:Wv}(h:zmp k v):k∈zzc:=by cases h<;>decide
theorem zni.word {k:Str}{v:Hv}(h:zni k v):k∈changes:=by cases h<;>decide
theorem Rule.zpd (r:Rule):r.words≠[]:=by cases r<;>exact yhb _ _
def zku (u:Str):Prop:=zmw u∧47∉u.cps.toList
theorem zqt {n:Str}(h:zud n):zku n:=⟨zrab h,λz=>absurd (h.2.2 47 z).1 (by decide)⟩
theorem zxm {i:Nat}(h:i<1000):zku (toString (i:Int):Str):=⟨zzd h,λz=>absurd (zoab i h 47 z).1 (by decide)⟩
def goodW (u:Str):Bool:=!u.cps.toList.contains 32 && !u.cps.toList.contains 47&&decide (1≤u.length)&&decide (u.length≤8)
theorem zaj {u:Str}(h:goodW u=true):zku u:=by
 unfold goodW at h;rw[ytc,ytc,ytc] at h;obtain⟨⟨⟨a,b⟩,c⟩,d⟩:=h;refine⟨⟨λz=>?_,of_decide_eq_true c,of_decide_eq_true d⟩,λz=>?_⟩
 ·rw[yjo.mpr z] at a;cases a
 ·rw[yjo.mpr z] at b;cases b
theorem zxo {l:List Str}(h:l.all goodW=true){u:Str}(hu:u∈l):zku u:=zaj (yvf.mp h u hu)
theorem Wh.znh {w:Wh}(h:w.ok):∀u∈w.words,zku u:=by
 induction w with
 | all=>intro u hu;exact zxo (l:=["all"]) (by decide +kernel) hu
 | self=>intro u hu;exact zxo (l:=["self"]) (by decide +kernel) hu
 | mine=>intro u hu;exact zxo (l:=["mine"]) (by decide +kernel) hu
 | mark n =>
  intro u hu
  rcases yka.mp hu with rfl|hu
  ·exact zaj (by decide +kernel)
  ·rw[yia.mp hu];exact zqt h
 | force i =>
  intro u hu
  rcases yka.mp hu with rfl|hu
  ·exact zaj (by decide +kernel)
  ·rw[yia.mp hu];exact zxm h
 | not a ih =>
  intro u hu
  rcases yka.mp hu with rfl|hu
  ·exact zaj (by decide +kernel)
  ·exact ih h u hu
 | both a b ia ib =>
  intro u hu
  rcases yka.mp hu with rfl|hu
  ·exact zaj (by decide +kernel)
  ·rcases ydc.mp hu with hu|hu
   ·exact ia h.1 u hu
   ·exact ib h.2 u hu
 | any a b ia ib =>
  intro u hu
  rcases yka.mp hu with rfl|hu
  ·exact zaj (by decide +kernel)
  ·rcases ydc.mp hu with hu|hu
   ·exact ia h.1 u hu
   ·exact ib h.2 u hu
theorem zmp.words {k:Str}{v:Wv}(h:zmp k v):∀u∈v.words,zku u:=by
 intro u hu;cases h with
 | leave=>cases hu
 | gain h=>rw[yia.mp hu];exact zqt h
 | lack h=>rw[yia.mp hu];exact zqt h
 | hurt h=>rw[yia.mp hu];exact zxm h
 | lose h=>rw[yia.mp hu];exact zxm h
 | score h=>rw[yia.mp hu];exact zxm h
 | draw h=>rw[yia.mp hu];exact zxm h
theorem TurnOk.words {k:Str}{v:Wv}(h:TurnOk k v):∀u∈v.words,zku u:=by
 intro u hu;cases h with
 | none=>cases hu
 | here=>cases hu
 | less h=>rw[yia.mp hu];exact zxm h
 | more h=>rw[yia.mp hu];exact zxm h
 | as h=>rw[yia.mp hu];exact zxo (l:=zqc) (by decide +kernel) h
theorem TurnOk.word {k:Str}{v:Wv}(h:TurnOk k v):zku k:=by cases h<;>exact zaj (by decide +kernel)
theorem zni.words {k:Str}{v:Hv}(h:zni k v):∀u∈v.words,zku u:=by
 intro u hu;cases h with
 | mute=>cases hu
 | steal=>cases hu
 | gain h=>rw[yia.mp hu];exact zqt h
 | lack h=>rw[yia.mp hu];exact zqt h
 | be h=>rw[yia.mp hu];exact zxm h
 | more h=>rw[yia.mp hu];exact zxm h
 | less h=>rw[yia.mp hu];exact zxm h
 | per h=>exact Wh.znh h.1 u hu
theorem Deed.znh {d:Deed}(h:d.ok):∀u∈d.words,zku u:=by
 intro u hu
 rcases yka.mp hu with rfl|hu
 ·exact zxo (l:=zfw) (by decide +kernel) h.each
 rcases yka.mp hu with rfl|hu
 ·exact zxo (l:=zzc) (by decide +kernel) h.amt.kind
 rcases ydc.mp hu with hu|hu
 ·exact h.amt.words u hu
 ·exact Wh.znh h.whom.1 u hu
theorem Rule.znh {r:Rule}(h:r.ok):∀u∈r.words,zku u:=by
 intro u hu;cases r with
 | hold w v y =>
  rcases yka.mp hu with rfl|hu
  ·exact zaj (by decide +kernel)
  rcases yka.mp hu with rfl|hu
  ·exact zxo (l:=changes) (by decide +kernel) h.1.word
  rcases ydc.mp hu with hu|hu
  ·exact h.1.words u hu
  ·exact Wh.znh h.2.1 u hu
 | wen k y d =>
  rcases yka.mp hu with rfl|hu
  ·exact zaj (by decide +kernel)
  rcases yka.mp hu with rfl|hu
  ·exact zxo (l:=zge) (by decide +kernel) h.1
  rcases ydc.mp hu with hu|hu
  ·exact Wh.znh h.2.1.1 u hu
  rcases yka.mp hu with rfl|hu
  ·exact zaj (by decide +kernel)
  ·exact Deed.znh h.2.2 u hu
 | instead k y w v =>
  rcases yka.mp hu with rfl|hu
  ·exact zaj (by decide +kernel)
  rcases yka.mp hu with rfl|hu
  ·exact zxo (l:=zzc) (by decide +kernel) h.1
  rcases ydc.mp hu with hu|hu
  ·exact Wh.znh h.2.1.1 u hu
  rcases yka.mp hu with rfl|hu
  ·exact zaj (by decide +kernel)
  rcases yka.mp hu with rfl|hu
  ·exact h.2.2.2.word
  ·exact h.2.2.2.words u hu
 | may c d =>
  rcases yka.mp hu with rfl|hu
  ·exact zaj (by decide +kernel)
  rcases yka.mp hu with rfl|hu
  ·exact zxm h.1
  rcases yka.mp hu with rfl|hu
  ·exact zaj (by decide +kernel)
  ·exact Deed.znh h.2 u hu
end Wm
namespace Wm
open PySem PySem.StrLaws PySem.Builtin.Str
def SL:Str:=⟨#[32,47,32]⟩
theorem zkw {s sub:Str}{hi:Nat}:∀{cuts cuts':List Nat} {a f f':Nat},ChainG s sub hi a cuts f->(∀k,f≤k->¬ At s sub hi k)->ChainG s sub hi a cuts' f'->(∀k,f'≤k->¬ At s sub hi k)->cuts=cuts'
 | [],[],_,_,_,_,_,_,_=>rfl
 | [],c::r,a,f,f',h,n,h',n'=>by
  have e:f=a:=h;subst e;exact absurd h'.2.1 (n c h'.1)
 | c::r,[],a,f,f',h,n,h',n'=>by
  have e:f'=a:=h';subst e;exact absurd h.2.1 (n' c h.1)
 | c::r,c'::r',a,f,f',h,n,h',n'=>by
  rcases ycq c c' with z|z|z
  ·exact absurd h.2.1 (h'.2.2.1 c h.1 z)
  ·subst z;rw[zkw h.2.2.2 n h'.2.2.2 n']
  ·exact absurd h'.2.1 (h.2.2.1 c' h'.1 z)
theorem zay (x:Str)(a b:Nat):(x.cps.extract a b).toList=(x.cps.toList.drop a).take (b-a):=by
 rw[yik,List.extract_eq_take_drop]
theorem zepb {x:Str}{hi k:Nat}(h:At x SL hi k):x.cps.toList[k+1]?=some 47:=by
 have e:x.cps.extract k (k+3)=#[32,47,32]:=by
  have:=h.2;unfold subAt at this;exact beq_iff_eq.mp this
 have q:=congrArg (λz=>z.toList[1]?) e;simp only[zay] at q;rw[ybm (by omega),yxe] at q;exact q
theorem at_of {x:Str}{pre r:List Nat}(e:x.cps.toList=pre++32::47::32::r):At x SL x.length pre.length:=by
 have hl:=congrArg yvg e;rw[yea] at hl;simp only[yja,ypa] at hl;refine⟨?_,?_⟩
 ·show pre.length+3≤x.cps.size;omega
 ·unfold subAt;rw[beq_iff_eq];apply yfk.mp;rw[zay,e,yuj];show ((32::47::32::r:List Nat).take (pre.length+3-pre.length))=[32,47,32]
  rw[yan];rfl
def jl3:List (List Nat)->List Nat
 | []=>[]
 | [p]=>p
 | p::q::r=>p++32::47::32::jl3 (q::r)
def cutsOf:Nat->List (List Nat)->List Nat
 | a,p::q::r=>(a+p.length)::cutsOf (a+p.length+3) (q::r)
 | _,_=>[]
def lastOf:Nat->List (List Nat)->Nat
 | a,p::q::r=>lastOf (a+p.length+3) (q::r)
 | a,_=>a
theorem ziub:∀ws:List Str,(yya SL ws).cps.toList=jl3 (ws.map λw=>w.cps.toList)
 | []=>rfl
 | [x]=>rfl
 | x::y::r=>by
  have e:yya SL (x::y::r)=x++SL++yya SL (y::r):=rfl;rw[e];show ((x.cps++SL.cps)++(yya SL (y::r)).cps).toList=_
  rw[ylf,ylf,ziub (y::r),ydd];rfl
theorem znob {x:Str}{pre p r:List Nat}{b:Nat}(e:x.cps.toList=pre++(p++r))(hb:b=pre.length+p.length)(q:Str)(hq:q.cps.toList=p):strSub x pre.length b=q:=by
 obtain⟨c⟩:=q;have z:x.cps.extract pre.length b=c:=by
  apply yfk.mp;rw[zay,e,yuj,hb,yan,List.take_left];exact hq.symm
 show (⟨x.cps.extract pre.length b⟩:Str)=⟨c⟩
 rw[z]
theorem zggb {x:Str}:∀{ps:List Str} {pre:List Nat},ps≠[]->(∀p∈ps,47∉p.cps.toList)->x.cps.toList=pre++jl3 (ps.map λw=>w.cps.toList) →
  ChainG x SL x.length pre.length (cutsOf pre.length (ps.map λw=>w.cps.toList)) (lastOf pre.length (ps.map λw=>w.cps.toList))∧(∀k,lastOf pre.length (ps.map λw=>w.cps.toList)≤k->¬ At x SL x.length k)∧partsFrom x 3 pre.length (cutsOf pre.length (ps.map λw=>w.cps.toList))=ps
 | [],_,h,_,_=>absurd rfl h
 | [p],pre,_,hf,e=>by
  have e':x.cps.toList=pre++p.cps.toList:=e;refine⟨rfl,λk hk hA=>?_,?_⟩
  ·have hk':pre.length≤k:=hk;have m:=zepb hA;rw[e',yic (by omega)] at m;exact hf p (yia.mpr rfl) (ybb m)
  ·show [strSub x pre.length x.length]=[p];rw[znob (r:=[]) (by rw[yfc];exact e') ?_ p rfl];have hl:=congrArg yvg e';rw[yea,ypa] at hl;exact hl
 | p::q::r,pre,_,hf,e=>by
  have e':x.cps.toList=pre++(p.cps.toList++32::47::32::jl3 ((q::r).map λw=>w.cps.toList)):=e;have e1:x.cps.toList=(pre++p.cps.toList)++32::47::32::jl3 ((q::r).map λw=>w.cps.toList):=by rw[e',ydd]
  have e2:x.cps.toList=(pre++p.cps.toList++[32,47,32])++jl3 ((q::r).map λw=>w.cps.toList):=by rw[e1,ydd (pre++p.cps.toList)];rfl
  obtain⟨c1,c2,c3⟩:=zggb (ps:=q::r) (pre:=pre++p.cps.toList++[32,47,32]) (yhb _ _) (λy hy=>hf y (yta _ hy)) e2;have el:(pre++p.cps.toList++[32,47,32]).length=pre.length+p.cps.toList.length+3:=by
   rw[yea,yea];rfl
  rw[el] at c1 c2 c3;have eA:=at_of e1;rw[yea] at eA;refine⟨⟨ygn _ _,eA,λk h1 h2 hA=>?_,c1⟩,c2,?_⟩
  ·have m:=zepb hA
   rcases ynl (k+1) (pre.length+p.cps.toList.length) with z|z
   ·rw[e',yic (by omega),yre (by omega)] at m;exact hf p yra (ybb m)
   ·have h2':k<pre.length+p.cps.toList.length:=h2;have ek:k+1=(pre++p.cps.toList).length:=(by rw[yea];omega);rw[e1,ek,yic (yga _),yak] at m;exact absurd m (by simp)
  ·show strSub x pre.length (pre.length+p.cps.toList.length)::partsFrom x 3 (pre.length+p.cps.toList.length+3) (cutsOf (pre.length+p.cps.toList.length+3) ((q::r).map λw=>w.cps.toList))=p::q::r;rw[c3,znob e' rfl p rfl]
theorem zosb {ps:List Str}(hne:ps≠[])(hf:∀p∈ps,47∉p.cps.toList):yjf (yya SL ps) SL=ps:=by
 obtain⟨f,hG,hn⟩:=occ_tight (yya SL ps) SL (by decide);obtain⟨c1,c2,c3⟩:=zggb (x:=yya SL ps) (ps:=ps) (pre:=[]) hne hf (ziub ps);have u:=zkw hG hn c1 c2;unfold yjf;rw[u];have one:cutsOf ([]:List Nat).length (ps.map λw=>w.cps.toList)=[]->[yya SL ps]=ps:=λz=>by
  cases ps with
  | nil=>exact absurd rfl hne
  | cons p r =>
   cases r with
   | nil=>rfl
   | cons q r=>cases z
 split
 ·rename_i hc;rw[Bool.or_eq_true,decide_eq_true_eq,decide_eq_true_eq] at hc;apply one
  rcases hc with h|h
  ·cases hcut:cutsOf ([]:List Nat).length (ps.map λw=>w.cps.toList) with
   | nil=>rfl
   | cons c r =>
    rw[hcut] at c1;have:=c1.2.1.1;omega
  ·exfalso;have ek:yhi SL=1:=(by decide +kernel);rw[ek] at h;unfold yhi at h
   split at h
   ·omega
   ·split at h
    ·omega
    ·omega
 ·split
  ·rename_i he;exact one (List.isEmpty_iff.mp he)
  ·rw[partsBetween_eq];exact c3
end Wm
namespace Wm
open PySem PySem.Spec PyProof.Rows
def leS (a b:Str):Prop:=a.cps.toList≤b.cps.toList
theorem zxtb {a b:Str}(h:ltCps b.cps.toList a.cps.toList=false):leS a b:=by
 rw[ltCps_eq] at h;exact List.not_lt.mp (of_decide_eq_false h)
theorem zakb {a b c:Str}(h:leS a b)(g:leS b c):leS a c:=List.le_trans h g
theorem zqnb {a b:Str}(h:leS a b)(g:leS b a):a=b:=by
 have e:=List.le_antisymm h g;obtain⟨x⟩:=a;obtain⟨y⟩:=b;rw[show x=y from yfk.mp e]
theorem zqz:∀(p:Str) (l:List Str),risingS p l=true->(p::l).Pairwise leS
 | p,[],_=>ybn _ _
 | p,x::r,h=>by
  have h':(!ltCps x.cps.toList p.cps.toList&&risingS x r)=true:=h;rw[ytc] at h';have h1:leS p x:=zxtb (by have:=h'.1;revert this;cases ltCps x.cps.toList p.cps.toList<;>simp);have h2:=zqz x r h'.2;rw[yol];refine⟨λb hb=>?_,h2⟩
  rcases yka.mp hb with rfl|hb
  ·exact h1
  ·exact zakb h1 ((yol.mp h2).1 b hb)
theorem ziz:∀{l:List Str},yyk l=true->l.Pairwise leS
 | [],_=>.nil
 | x::r,h=>zqz x r h
theorem zqcb {xs ys:List Str}(hp:xs.Perm ys)(hx:yyk xs=true)(hy:yyk ys=true):xs=ys :=
 ykm (le:=leS) (λ_ _ _ _ h g=>zqnb h g) (ziz hx) (ziz hy) hp
theorem zfgb {xs:List Str}(h:xs.Nodup):SSet.dd xs=xs:=by
 have key:∀n,n≤xs.length->SSet.dd (xs.take n)=xs.take n:=by
  intro n
  induction n with
  | zero=>intro _;rfl
  | succ n ih =>
   intro hn;have hlt:n<xs.length:=hn;rw[ydb,yma hlt];show SSet.dd (xs.take n++[xs[n]])=xs.take n++[xs[n]]
   rw[SSet.zdn,ih (by omega),if_neg];intro hm;obtain⟨i,hi,e⟩:=List.getElem_of_mem hm;rw[ygb] at hi;rw[List.getElem_take] at e;exact (yvl.mp h) i n (by omega) hlt (by omega) e
 have:=key xs.length (yga _)
 rwa [yhn] at this
structure Marks (ms:List Str):Prop where
 ok:∀m∈ms,zud m
 nd:ms.Nodup
 so:yyk ms=true
 le:ms.length≤20
theorem Marks.same {ms ys:List Str}(h:Marks ms)(hp:ys.Perm (SSet.dd ms))(hs:yyk ys=true):ys=ms:=by
 rw[zfgb h.nd] at hp;exact zqcb hp hs h.so
def CM:Str:=⟨#[44]⟩
def zfi:List Str->Str
 | []=>"-"
 | m::r=>yya CM (m::r)
theorem zyp {c:Nat}:∀{ws:List Str} {d:Nat},d∈(yya ⟨#[c]⟩ ws).cps.toList->d=c∨∃w∈ws,d∈w.cps.toList
 | [],d,h=>by cases h
 | [x],d,h=>.inr ⟨x,yia.mpr rfl,h⟩
 | x::y::r,d,h=>by
  have e:yya ⟨#[c]⟩ (x::y::r)=x++⟨#[c]⟩++yya ⟨#[c]⟩ (y::r):=rfl;rw[e] at h;have h':d∈((x.cps++#[c])++(yya ⟨#[c]⟩ (y::r)).cps).toList:=h;rw[ylf,ylf] at h'
  rcases ydc.mp h' with h'|h'
  ·rcases ydc.mp h' with h'|h'
   ·exact .inr ⟨x,yra,h'⟩
   ·exact .inl (yia.mp h')
  ·rcases zyp h' with z|⟨w,hw,z⟩
   ·exact .inl z
   ·exact .inr ⟨w,yta _ hw,z⟩
theorem zel {ms:List Str}(h:Marks ms)(hne:ms≠[]):∀d∈(zfi ms).cps.toList,d=44∨(97≤d∧d≤122):=by
 cases ms with
 | nil=>exact absurd rfl hne
 | cons m r =>
  intro d hd
  rcases zyp (c:=44) hd with z|⟨w,hw,z⟩
  ·exact .inl z
  ·exact .inr ((h.ok w hw).2.2 d z)
theorem zwjb {ms:List Str}(h:Marks ms)(hne:ms≠[]):zfi ms ≠ "-":=by
 intro z;have:=zel h hne 45 (by rw[z];decide +kernel);omega
theorem zam {ms:List Str}(h:Marks ms):1≤(zfi ms).length∧(zfi ms).length≤180:=by
 cases ms with
 | nil=>exact⟨by decide,by decide⟩
 | cons m r =>
  have a:=zdk CM (m::r);have c:=zeo (l:=(m::r).map (·.length)) (k:=8) (λx hx=>by
   obtain⟨u,hu,rfl⟩:=ycc.mp hx;exact (h.ok u hu).2.1)
  rw[yba] at c;have e:CM.length=1:=rfl;rw[e] at a;have l:=h.le;refine⟨?_,?_⟩
  ·have m1:=(h.ok m yra).1;cases r with
   | nil=>exact m1
   | cons y r =>
    have e2:yya CM (m::y::r)=m++CM++yya CM (y::r):=rfl;show 1≤(yya CM (m::y::r)).length
    rw[e2];show 1≤((m.cps++CM.cps)++(yya CM (y::r)).cps).size
    rw[yqj,yqj];have:m.length=m.cps.size:=rfl;omega
  ·show (yya CM (m::r)).length≤180;omega
theorem zfdb {ms:List Str}(h:Marks ms)(hne:ms≠[]):yjf (zfi ms) CM=ms:=by
 cases ms with
 | nil=>exact absurd rfl hne
 | cons m r=>exact zop (c:=44) (yhb _ _) (λw hw z=>absurd ((h.ok w hw).2.2 44 z).1 (by decide))
structure Crd where
 name:Str
 cost:Nat
 force:Nat
 marks:List Str
 rules:List Rule
structure Crd.ok (c:Crd):Prop where
 name:zud c.name
 cost:c.cost<1000
 force:c.force<1000
 marks:Marks c.marks
 rules:∀r∈c.rules,r.ok
 few:c.rules.length≤3
def Crd.head (c:Crd):List Str:=[c.name,toString (c.cost:Int),toString (c.force:Int),zfi c.marks]
def zdg (r:Rule):Str:=yya " " r.words
def Crd.text (c:Crd):Str:=yya SL (yya " " c.head::c.rules.map zdg)
theorem zcbb {c d:Nat}{ws:List Str}(h:∀w∈ws,d∉w.cps.toList)(n:d≠c):d∉(yya ⟨#[c]⟩ ws).cps.toList:=λz=>by
 rcases zyp z with e|⟨w,hw,z⟩
 ·exact n e
 ·exact h w hw z
theorem zgdb {ms:List Str}(h:Marks ms):32∉(zfi ms).cps.toList∧47∉(zfi ms).cps.toList:=by
 by_cases e:ms=[]
 ·subst e;exact⟨by decide,by decide⟩
 ·exact⟨λz=>by have:=zel h e 32 z;omega,λz=>by have:=zel h e 47 z;omega⟩
theorem Crd.zabb {c:Crd}(h:c.ok):∀u∈c.head,32∉u.cps.toList∧47∉u.cps.toList:=by
 intro u hu;simp only[Crd.head,yka,ybe,or_false] at hu
 rcases hu with rfl|rfl|rfl|rfl
 ·exact⟨(zqt h.name).1.1,(zqt h.name).2⟩
 ·exact⟨(zxm h.cost).1.1,(zxm h.cost).2⟩
 ·exact⟨(zxm h.force).1.1,(zxm h.force).2⟩
 ·exact zgdb h.marks
theorem Crd.zmhb {c:Crd}(h:c.ok):yjf (yya " " c.head) " " = c.head:=zop (c:=32) (yhb _ _) (λu hu=>(Crd.zabb h u hu).1)
theorem Crd.zwx {c:Crd}(h:c.ok):(yya " " c.head).length≤300:=by
 have a:=zdk " " c.head;have c':=zeo (l:=c.head.map (·.length)) (k:=180) (λx hx=>by
  obtain⟨u,hu,rfl⟩:=ycc.mp hx;simp only[Crd.head,yka,ybe,or_false] at hu
  rcases hu with rfl|rfl|rfl|rfl
  ·have:=h.name.2.1;omega
  ·have:=(zwp _ h.cost).2;omega
  ·have:=(zwp _ h.force).2;omega
  ·exact (zam h.marks).2)
 have e:(" ":Str).length=1:=rfl;rw[e] at a;have s:(c.head.map (·.length)).sum=c.name.length+((toString (c.cost:Int):Str).length+((toString (c.force:Int):Str).length+((zfi c.marks).length+0))):=rfl;have hl:c.head.length=4:=rfl;rw[s,hl] at a;have b1:=h.name.2.1;have b2:=(zwp _ h.cost).2;have b3:=(zwp _ h.force).2;have b4:=(zam h.marks).2;omega
theorem Crd.split {c:Crd}(h:c.ok):yjf c.text SL=yya " " c.head::c.rules.map zdg:=by
 refine zosb (yhb _ _) λp hp=>?_
 rcases yka.mp hp with rfl|hp
 ·exact zcbb (λu hu=>(Crd.zabb h u hu).2) (by decide)
 ·obtain⟨r,hr,rfl⟩:=ycc.mp hp;exact zcbb (λu hu=>(Rule.znh (h.rules r hr) u hu).2) (by decide)
end Wm
namespace Wm
open PySem PySem.Spec PyProof.Rows
end Wm
namespace K28
open PySem L2 PyProof.Rows Wm
variable {P:yvb}{w:World}{K:yda}{mg:Str->Option Value}{base:Heap}
def top (i:Nat):Stmt:=PySem.Challenge.pw_turnstack_k28_whole_no_card_is_lost.main.body.getD i (.Pass ⟨0,0,0,0⟩)
abbrev zoz:Stmt:=top 10
abbrev zwlb:List Str:=["word"]
abbrev zpu:List Str:=["word"]
theorem zahb:zua zwlb zpu (zja zoz):=scOf (by decide +kernel)
abbrev zss:Stmt:=top 11
abbrev zoeb:List Str:=["word"]
abbrev zon:List Str:=["word"]
theorem zlz:zua zoeb zon (zja zss):=scOf (by decide +kernel)
abbrev zqv:Stmt:=top 12
abbrev zaib:List Str:=["word","most"]
abbrev zkq:List Str:=["word","most"]
theorem zvcb:zua zaib zkq (zja zqv):=scOf (by decide +kernel)
abbrev zoh:Stmt:=inClass (top 13) 0
abbrev zyr:List Str:=["self","text"]
abbrev zsh:List Str:=["self","text"]
theorem zpp:zua zyr zsh (zja zoh):=scOf (by decide +kernel)
abbrev zzk:Stmt:=inClass (top 13) 1
abbrev zlcb:List Str:=["self"]
abbrev zwl:List Str:=["self"]
theorem zzw:zua zlcb zwl (zja zzk):=scOf (by decide +kernel)
abbrev zjf:Stmt:=inClass (top 13) 2
abbrev zxn:List Str:=["self","known","word"]
abbrev zmf:List Str:=["self","known"]
theorem zth:zua zxn zmf (zja zjf):=scOf (by decide +kernel)
abbrev zkg:Stmt:=inClass (top 13) 3
abbrev zoq:List Str:=["self","word"]
abbrev zpg:List Str:=["self"]
theorem zti:zua zoq zpg (zja zkg):=scOf (by decide +kernel)
abbrev zkf:Stmt:=inClass (top 13) 4
abbrev zyn:List Str:=["self","word"]
abbrev znf:List Str:=["self"]
theorem zuh:zua zyn znf (zja zkf):=scOf (by decide +kernel)
abbrev zij:Stmt:=inClass (top 13) 5
abbrev zgv:List Str:=["self"]
abbrev zmj:List Str:=["self"]
theorem zls:zua zgv zmj (zja zij):=scOf (by decide +kernel)
abbrev zai:Stmt:=inClass (top 14) 0
abbrev zru:List Str:=["self","word","value","parts"]
abbrev zli:List Str:=["self","word","value","parts"]
theorem zor:zua zru zli (zja zai):=scOf (by decide +kernel)
abbrev zms:Stmt:=top 15
abbrev zieb:List Str:=["words","taken","missing","word"]
abbrev zin:List Str:=["words"]
theorem zxg:zua zieb zin (zja zms):=scOf (by decide +kernel)
abbrev zwq:Stmt:=top 16
abbrev zdcb:List Str:=["words","word"]
abbrev zql:List Str:=["words","word"]
theorem zww:zua zdcb zql (zja zwq):=scOf (by decide +kernel)
abbrev zcjb:Stmt:=top 17
abbrev zesb:List Str:=["taken","whoms","word","value","many"]
abbrev zfeb:List Str:=["taken"]
theorem zzl:zua zesb zfeb (zja zcjb):=scOf (by decide +kernel)
abbrev zbi:Stmt:=inClass (top 26) 0
abbrev zsu:List Str:=["self","name","cost","force","marks","rules"]
abbrev zmi:List Str:=["self","name","cost","force","marks","rules"]
theorem zpr:zua zsu zmi (zja zbi):=scOf (by decide +kernel)
abbrev zrs:Stmt:=top 27
abbrev zneb:List Str:=["text","texts","words","name","cost","force","marks"]
abbrev znn:List Str:=["text"]
theorem zje:zua zneb znn (zja zrs):=scOf (by decide +kernel)
abbrev zxq:Stmt:=top 28
abbrev zecb:List Str:=["word","marks"]
abbrev zrl:List Str:=["word"]
theorem zko:zua zecb zrl (zja zxq):=scOf (by decide +kernel)
abbrev zqs:Stmt:=top 29
abbrev zmeb:List Str:=["text","words","first","rule"]
abbrev zmn:List Str:=["text"]
theorem zie:zua zmeb zmn (zja zqs):=scOf (by decide +kernel)
abbrev zos:Stmt:=top 30
abbrev zkeb:List Str:=["words","word","value","whom"]
abbrev zkn:List Str:=["words"]
theorem zoi:zua zkeb zkn (zja zos):=scOf (by decide +kernel)
abbrev zzh:Stmt:=top 31
abbrev zwn:List Str:=["words","word"]
abbrev zlf:List Str:=["words","word"]
theorem zem:zua zwn zlf (zja zzh):=scOf (by decide +kernel)
abbrev zns:Stmt:=top 32
abbrev zjeb:List Str:=["words","kind","whom"]
abbrev zjn:List Str:=["words"]
theorem zyk:zua zjeb zjn (zja zns):=scOf (by decide +kernel)
abbrev zim:Stmt:=top 33
abbrev zdv:List Str:=["words","kind","whom","word"]
abbrev zkj:List Str:=["words"]
theorem zvf:zua zdv zkj (zja zim):=scOf (by decide +kernel)
abbrev zqj:Stmt:=top 34
abbrev zlq:List Str:=["words","word"]
abbrev zlg:List Str:=["words","word"]
theorem zjo:zua zlq zlg (zja zqj):=scOf (by decide +kernel)
abbrev znv:Stmt:=top 35
abbrev zxhb:List Str:=["words","cost"]
abbrev zgq:List Str:=["words"]
theorem zks:zua zxhb zgq (zja znv):=scOf (by decide +kernel)
abbrev zps:Stmt:=top 36
abbrev zleb:List Str:=["words","each","kind","amount","whom"]
abbrev zln:List Str:=["words"]
theorem zyg:zua zleb zln (zja zps):=scOf (by decide +kernel)
abbrev zmo:Stmt:=top 37
abbrev zxy:List Str:=["words","kind"]
abbrev zjk:List Str:=["words","kind"]
theorem zuu:zua zxy zjk (zja zmo):=scOf (by decide +kernel)
abbrev zefb:Stmt:=top 44
abbrev zkob:List Str:=["values","one"]
abbrev zvy:List Str:=["values","one"]
theorem zajb:zua zkob zvy (zja zefb):=scOf (by decide +kernel)
abbrev zmz:Stmt:=top 45
abbrev zulb:List Str:=["values","one"]
abbrev znu:List Str:=["values","one"]
theorem zygb:zua zulb znu (zja zmz):=scOf (by decide +kernel)
abbrev zdjb:Stmt:=top 62
abbrev zfsb:List Str:=["decks","cards","owners","player","deck"]
abbrev zgeb:List Str:=["decks"]
theorem zlo:zua zfsb zgeb (zja zdjb):=scOf (by decide +kernel)
abbrev zzq:Stmt:=top 63
abbrev zgcb:List Str:=["card"]
abbrev ztl:List Str:=["card"]
theorem zyw:zua zgcb ztl (zja zzq):=scOf (by decide +kernel)
abbrev zno:Stmt:=top 64
abbrev zyy:List Str:=["cards","owners","players","decks"]
abbrev zkk:List Str:=["cards","owners","players"]
theorem zgm:zua zyy zkk (zja zno):=scOf (by decide +kernel)
abbrev zyq:Stmt:=top 65
abbrev zfcb:List Str:=["owners","player"]
abbrev zsl:List Str:=["owners","player"]
theorem zxw:zua zfcb zsl (zja zyq):=scOf (by decide +kernel)
abbrev zov:Stmt:=top 66
abbrev zyhb:List Str:=["values","place","value"]
abbrev ziq:List Str:=["values","place","value"]
theorem zucb:zua zyhb ziq (zja zov):=scOf (by decide +kernel)
abbrev zvq:Stmt:=top 67
abbrev zccb:List Str:=["table","part","place","value"]
abbrev zpl:List Str:=["table","part","place","value"]
theorem zvw:zua zccb zpl (zja zvq):=scOf (by decide +kernel)
abbrev zpz:Stmt:=top 68
abbrev zxlb:List Str:=["table","happening","kind","thing","amount"]
abbrev zqu:List Str:=["table","happening"]
theorem zyl:zua zxlb zqu (zja zpz):=scOf (by decide +kernel)
abbrev zffb:Stmt:=top 69
abbrev zlob:List Str:=["cards","table","happening"]
abbrev zwy:List Str:=["cards","table","happening"]
theorem zbjb:zua zlob zwy (zja zffb):=scOf (by decide +kernel)
abbrev zvi:Stmt:=top 70
abbrev zkp:List Str:=["table","happening","kind","thing","amount","player","deck","hand"]
abbrev zcg:List Str:=["table","happening"]
theorem zac:zua zkp zcg (zja zvi):=scOf (by decide +kernel)
abbrev zpk:Stmt:=top 71
abbrev zwr:List Str:=["cards","table","happening","kind","number","amount","marks"]
abbrev zqh:List Str:=["cards","table","happening"]
theorem zdd:zua zwr zqh (zja zpk):=scOf (by decide +kernel)
abbrev znz:Stmt:=top 72
abbrev zvlb:List Str:=["cards","table","number"]
abbrev zou:List Str:=["cards","table","number"]
theorem zzgb:zua zvlb zou (zja znz):=scOf (by decide +kernel)
abbrev zpv:Stmt:=top 73
abbrev zzhb:List Str:=["cards","table","number"]
abbrev zjq:List Str:=["cards","table","number"]
theorem zum:zua zzhb zjq (zja zpv):=scOf (by decide +kernel)
abbrev zzs:Stmt:=top 75
abbrev zveb:List Str:=["_law_script","_law_k","_law_seed","_law_mixed"]
abbrev zun:List Str:=["_law_script","_law_k"]
theorem zsi:zua zveb zun (zja zzs):=scOf (by decide +kernel)
abbrev zvs:Stmt:=top 76
abbrev zreb:List Str:=["_law_pen","_law_most","_law_cell_here"]
abbrev zqn:List Str:=["_law_pen","_law_most"]
theorem ztq:zua zreb zqn (zja zvs):=scOf (by decide +kernel)
abbrev zbr:Stmt:=top 77
abbrev zjcb:List Str:=["_law_pen","_law_letters","_law_base","_law_at","_law_first"]
abbrev zul:List Str:=["_law_pen"]
theorem zxf:zua zjcb zul (zja zbr):=scOf (by decide +kernel)
abbrev zpo:Stmt:=top 78
abbrev zaz:List Str:=["_law_pen"]
abbrev zmk:List Str:=["_law_pen"]
theorem zvu:zua zaz zmk (zja zpo):=scOf (by decide +kernel)
abbrev zts:Stmt:=top 79
abbrev zpeb:List Str:=["_law_pen","_law_names_here","_law_left","_law_way","_law_half","_law_one"]
abbrev zmg:List Str:=["_law_pen","_law_names_here","_law_left"]
theorem zpi:zua zpeb zmg (zja zts):=scOf (by decide +kernel)
abbrev zar:Stmt:=top 80
abbrev zicb:List Str:=["_law_whom_here","_law_words_here","_law_part"]
abbrev zqf:List Str:=["_law_whom_here"]
theorem zyj:zua zicb zqf (zja zar):=scOf (by decide +kernel)
abbrev zys:Stmt:=top 82
abbrev zueb:List Str:=["_law_pen","_law_names_here","_law_kind","_law_amount"]
abbrev ztn:List Str:=["_law_pen","_law_names_here"]
theorem zzg:zua zueb ztn (zja zys):=scOf (by decide +kernel)
abbrev zsj:Stmt:=top 83
abbrev znq:List Str:=["_law_deed_here","_law_words_here"]
abbrev zog:List Str:=["_law_deed_here"]
theorem zri:zua znq zog (zja zsj):=scOf (by decide +kernel)
abbrev zus:Stmt:=top 84
abbrev zqeb:List Str:=["_law_pen","_law_names_here","_law_kinds","_law_kind"]
abbrev zpn:List Str:=["_law_pen","_law_names_here","_law_kinds"]
theorem zsq:zua zqeb zpn (zja zus):=scOf (by decide +kernel)
abbrev zrj:Stmt:=top 86
abbrev zmq:List Str:=["_law_rule","_law_words_here"]
abbrev zng:List Str:=["_law_rule"]
theorem zqi:zua zmq zng (zja zrj):=scOf (by decide +kernel)
abbrev zat:Stmt:=top 87
abbrev zweb:List Str:=["_law_pen","_law_names_here","_law_rules","_law_marks","_law_cost","_law_force","_law_shown","_law_head","_law_text"]
abbrev zvn:List Str:=["_law_pen","_law_names_here","_law_rules"]
theorem zfd:zua zweb zvn (zja zat):=scOf (by decide +kernel)
abbrev zcr:Stmt:=top 88
abbrev zkcb:List Str:=["_law_pen","_law_names_here","_law_decks_here","_law_k","_law_deck","_law_j","_law_rules","_law_at"]
abbrev zvl:List Str:=["_law_pen","_law_names_here"]
theorem zqd:zua zkcb zvl (zja zcr):=scOf (by decide +kernel)
abbrev zqk:Stmt:=top 89
abbrev zxr:List Str:=["_law_table","_law_player","_law_number","_law_hands"]
abbrev zrh:List Str:=["_law_table","_law_player","_law_number"]
theorem zoj:zua zxr zrh (zja zqk):=scOf (by decide +kernel)
abbrev zxs:Stmt:=top 90
abbrev zteb:List Str:=["_law_table","_law_player","_law_gone_here"]
abbrev zsn:List Str:=["_law_table","_law_player"]
theorem zuq:zua zteb zsn (zja zxs):=scOf (by decide +kernel)
abbrev zws:Stmt:=top 91
abbrev zseb:List Str:=["_law_pen","_law_names_here","_law_table","_law_out","_law_kind","_law_amount","_law_thing"]
abbrev zrn:List Str:=["_law_pen","_law_names_here","_law_table","_law_out"]
theorem zke:zua zseb zrn (zja zws):=scOf (by decide +kernel)
abbrev zoo:Stmt:=top 92
abbrev zzy:List Str:=["_law_table","_law_cards","_law_out","_law_some","_law_part","_law_number"]
abbrev zlk:List Str:=["_law_table","_law_cards","_law_out"]
theorem zvd:zua zzy zlk (zja zoo):=scOf (by decide +kernel)
abbrev zjm:Stmt:=top 93
abbrev zfv:List Str:=["_law_table","_law_happening","_law_points","_law_scores","_law_kind","_law_thing","_law_amount"]
abbrev zlj:List Str:=["_law_table","_law_happening","_law_points","_law_scores"]
theorem zyf:zua zfv zlj (zja zjm):=scOf (by decide +kernel)
abbrev zysb:Stmt:=top 94
abbrev zbwb:List Str:=["_law_script","_law_pen","_law_names_here","_law_decks_here","_law_cards","_law_read","_law_owners","_law_table","_law_points","_law_scores","_law_out","_law_lost","_law_k","_law_player","_law_happening","_law_decks_before"]
abbrev zyub:List Str:=["_law_script"]
theorem zwf:zua zbwb zyub (zja zysb):=scOf (by decide +kernel)
abbrev zlu:Str:="abcdefghijklmnopqrstuvwxyz"
abbrev zmu:Str:="0123456789"
abbrev ztu:List (Str×yir):=[("all",.flat (.int 0)),("self",.flat (.int 0)),("mine",.flat (.int 0)),("mark",.flat (.int 0)),("force",.flat (.int 0)),("not",.flat (.int 1)),("both",.flat (.int 2)),("any",.flat (.int 2))]
abbrev zxeb:List (Str×yir):=[("leave",.tup ((["none","here"]:List Str).map PyData.str)),("hurt",.tup ((["none","here","less","more"]:List Str).map PyData.str)),("gain",.tup ((["none","here"]:List Str).map PyData.str)),("lack",.tup ((["none","here"]:List Str).map PyData.str)),("lose",.tup ((["none","less","more","as"]:List Str).map PyData.str)),("score",.tup ((["none","less","more","as"]:List Str).map PyData.str)),("draw",.tup ((["none","less","more","as"]:List Str).map PyData.str))]
theorem onlZ {m:List Value->Prop}(h:m [])(us:List Value)(hl:us.length=0):m us:=by rw[yyi.mp hl];exact h
theorem onlS {m:List Value->Prop}{k:Nat}(h:∀a,∀us,us.length=k->m (a::us))(us:List Value)(hl:us.length=k+1):m us:=by
 obtain⟨a,t,rfl⟩:=List.exists_cons_of_length_eq_add_one hl;exact h a t (Nat.succ.inj hl)
@[elab_as_elim] theorem onl1 {m:List Value->Prop} (h:∀a,m [a]) (us:List Value) (hl:us.length=1):m us:=(onlS (m:=λt=>m (t)) λa=>onlZ (h a)) us hl
@[elab_as_elim] theorem onl2 {m:List Value->Prop} (h:∀a b,m [a,b]) (us:List Value) (hl:us.length=2):m us:=(onlS (m:=λt=>m (t)) λa=>onlS (m:=λt=>m (a::t)) λb=>onlZ (h a b)) us hl
@[elab_as_elim] theorem onl3 {m:List Value->Prop} (h:∀a b c,m [a,b,c]) (us:List Value) (hl:us.length=3):m us:=(onlS (m:=λt=>m (t)) λa=>onlS (m:=λt=>m (a::t)) λb=>onlS (m:=λt=>m (a::b::t)) λc=>onlZ (h a b c)) us hl
@[elab_as_elim] theorem onl4 {m:List Value->Prop} (h:∀a b c d,m [a,b,c,d]) (us:List Value) (hl:us.length=4):m us:=(onlS (m:=λt=>m (t)) λa=>onlS (m:=λt=>m (a::t)) λb=>onlS (m:=λt=>m (a::b::t)) λc=>onlS (m:=λt=>m (a::b::c::t)) λd=>onlZ (h a b c d)) us hl
@[elab_as_elim] theorem onl5 {m:List Value->Prop} (h:∀a b c d e,m [a,b,c,d,e]) (us:List Value) (hl:us.length=5):m us:=(onlS (m:=λt=>m (t)) λa=>onlS (m:=λt=>m (a::t)) λb=>onlS (m:=λt=>m (a::b::t)) λc=>onlS (m:=λt=>m (a::b::c::t)) λd=>onlS (m:=λt=>m (a::b::c::d::t)) λe=>onlZ (h a b c d e)) us hl
@[elab_as_elim] theorem onl6 {m:List Value->Prop} (h:∀a b c d e f,m [a,b,c,d,e,f]) (us:List Value) (hl:us.length=6):m us:=(onlS (m:=λt=>m (t)) λa=>onlS (m:=λt=>m (a::t)) λb=>onlS (m:=λt=>m (a::b::t)) λc=>onlS (m:=λt=>m (a::b::c::t)) λd=>onlS (m:=λt=>m (a::b::c::d::t)) λe=>onlS (m:=λt=>m (a::b::c::d::e::t)) λf=>onlZ (h a b c d e f)) us hl
set_option genInjectivity false in
set_option genSizeOf false in
structure Tf (K:yda)(mg:Str->Option Value) where
 zuf:Gf K mg "is_name" "is_name" zoz
 zbf:Gf K mg "is_number" "is_number" zss
 zjg:Gf K mg "is_whole" "is_whole" zqv
 zyb:Gf K mg "take_whom" "take_whom" zms
 zae:Gf K mg "take_value" "take_value" zwq
 zsm:Gf K mg "built" "built" zcjb
 zaf:Gf K mg "read_card" "read_card" zrs
 zbe:Gf K mg "read_marks" "read_marks" zxq
 zze:Gf K mg "read_rule" "read_rule" zqs
 zye:Gf K mg "take_hold" "take_hold" zos
 zzb:Gf K mg "take_change_value" "take_change_value" zzh
 zxe:Gf K mg "take_when" "take_when" zns
 zad:Gf K mg "take_instead" "take_instead" zim
 zgc:Gf K mg "take_turn_value" "take_turn_value" zqj
 zgg:Gf K mg "take_may" "take_may" znv
 zld:Gf K mg "take_deed" "take_deed" zps
 zmd:Gf K mg "take_amount" "take_amount" zmo
 zwh:Gf K mg "joined" "joined" zefb
 zsf:Gf K mg "without" "without" zmz
 ztm:Gf K mg "begun" "begun" zdjb
 zde:Gf K mg "many_holds" "many_holds" zzq
 znd:Gf K mg "first_table" "first_table" zno
 zce:Gf K mg "numbers_of" "numbers_of" zyq
 zic:Gf K mg "replaced" "replaced" zov
 zjb:Gf K mg "with_value" "with_value" zvq
 zyh:Gf K mg "happens" "happens" zpz
 zwj:Gf K mg "happen" "happen" zffb
 zdc:Gf K mg "happen_to_player" "happen_to_player" zvi
 zoc:Gf K mg "happen_to_card" "happen_to_card" zpk
 ztf:Gf K mg "renewed" "renewed" znz
 zig:Gf K mg "put_away" "put_away" zpv
 zgf:Gf K mg "_law_cell" "_law_cell" zzs
 zda:Gf K mg "_law_take" "_law_take" zvs
 zee:Gf K mg "_law_names" "_law_names" zbr
 zec:Gf K mg "_law_figure" "_law_figure" zpo
 zmb:Gf K mg "_law_whom" "_law_whom" zts
 zkb:Gf K mg "_law_words" "_law_words" zar
 zff:Gf K mg "_law_deed" "_law_deed" zys
 zkc:Gf K mg "_law_deed_words" "_law_deed_words" zsj
 zcf:Gf K mg "_law_when" "_law_when" zus
 zjc:Gf K mg "_law_rule_words" "_law_rule_words" zrj
 zif:Gf K mg "_law_card" "_law_card" zat
 zfe:Gf K mg "_law_decks" "_law_decks" zcr
 zpc:Gf K mg "_law_taken_out" "_law_taken_out" zqk
 zef:Gf K mg "_law_gone" "_law_gone" zxs
 zdf:Gf K mg "_law_next" "_law_next" zws
 zod:Gf K mg "_law_stands" "_law_stands" zoo
 zbd:Gf K mg "_law_counted" "_law_counted" zjm
 zdib:Gf K mg "law" "law" zysb
set_option genInjectivity false in
set_option genSizeOf false in
structure Tx (K:yda)(mg:Str->Option Value) extends Tf K mg where
 zob:Addr
 zib:Cls K zob
 zidb:mg "Words" = some (.ref zob)
 zfc:If K zob "__init__" "Words.__init__" zoh
 zmc:Mf K zob "take" "Words.take" zzk
 zqa:Mf K zob "take_one_of" "Words.take_one_of" zjf
 zpb:Mf K zob "take_name" "Words.take_name" zkg
 zxa:Mf K zob "take_number" "Words.take_number" zkf
 zrc:Mf K zob "finish" "Words.finish" zij
 zrd:zmh K zob "words"
 zyc:zmh K zob "place"
 zed:Addr
 zjy:Cls K zed
 zqob:mg "Whom" = some (.ref zed)
 ztc:If K zed "__init__" "Whom.__init__" zai
 zak:zmh K zed "word"
 zwi:zmh K zed "value"
 zxi:zmh K zed "parts"
 znub:Isi K zed
 zid:Addr
 zgk:Cls K zid
 zrob:mg "Card" = some (.ref zid)
 zuc:If K zid "__init__" "Card.__init__" zbi
 zbk:zmh K zid "name"
 zck:zmh K zid "cost"
 zyi:zmh K zid "force"
 zpf:zmh K zid "marks"
 zdh:zmh K zid "rules"
 zlgb:mg "all" = none
 zxh:mg "enumerate" = none
 zylb:mg "int" = none
 zof:mg "isinstance" = none
 zre:mg "len" = none
 zeg:mg "list" = none
 zfg:mg "range" = none
 zxl:mg "reversed" = none
 zcib:mg "set" = none
 zvh:mg "sorted" = none
 zow:mg "str" = none
 zbib:mg "sum" = none
 zkd:mg "tuple" = none
 zvab:Tok
 zap:mg "LETTERS" = some (.str zlu zvab)
 zwab:Tok
 zbp:mg "FIGURES" = some (.str zmu zwab)
 zjr:Tok
 zcj:mg "MOST_WORDS" = some (.int 9 zjr)
 zgn:Addr
 zaq:mg "PARTS" = some (.ref zgn)
 ztx:ydr (yoi λb=>K.lookup b) (λb=>K.lookup b) zgn ztu=true
 zkr:Tok
 zdj:mg "MOST_RULES" = some (.int 3 zkr)
 zty:Addr
 zyx:mg "SORTS" = some (.ref zty)
 zsx:TupK K zty ["hold","when","instead","may"]
 zjp:Addr
 zcp:mg "CHANGES" = some (.ref zjp)
 zwo:TupK K zjp ["mute","steal","gain","lack","be","more","less","per"]
 zgj:Addr
 zbj:mg "WHEN_KINDS" = some (.ref zgj)
 zzi:TupK K zgj ["come","leave","hurt","gain","lack","lose","score","draw"]
 zlh:Addr
 zih:mg "DEED_KINDS" = some (.ref zlh)
 zfh:TupK K zlh ["leave","hurt","gain","lack","lose","score","draw"]
 zwg:Addr
 ztg:mg "PLAYER_KINDS" = some (.ref zwg)
 zrg:TupK K zwg ["lose","score","draw"]
 zsy:Addr
 zxx:mg "TURNS" = some (.ref zsy)
 zrx:TabK K zsy zxeb
 zrk:Tok
 zwe:mg "FEWEST_PLAYERS" = some (.int 2 zrk)
 zpm:Tok
 zug:mg "MOST_PLAYERS" = some (.int 4 zpm)
 zmr:Tok
 zfj:mg "MOST_CARDS" = some (.int 16 zmr)
 zlr:Tok
 zej:mg "MOST_HOLDS" = some (.int 8 zlr)
 zqm:Tok
 zvg:mg "FIRST_POINTS" = some (.int 20 zqm)
 znr:Tok
 zgh:mg "FIRST_HAND" = some (.int 3 znr)
 zxfb:Tok
 zzo:mg "POINTS" = some (.int 0 zxfb)
 zwfb:Tok
 zyo:mg "SCORES" = some (.int 1 zwfb)
 zuob:Tok
 zbgb:mg "GONE" = some (.int 2 zuob)
 zekb:Tok
 zyt:mg "DECKS" = some (.int 3 zekb)
 zdkb:Tok
 zxt:mg "HANDS" = some (.int 4 zdkb)
 zckb:Tok
 zgl:mg "LYING" = some (.int 5 zckb)
 ztob:Tok
 zbbb:mg "HEAP" = some (.int 6 ztob)
 zbkb:Tok
 zbq:mg "MARKS" = some (.int 7 zbkb)
 zvfb:Tok
 zcm:mg "WOUNDS" = some (.int 8 zvfb)
theorem zybb (T:Tx K mg):Binds K T.zuf.d zpu []:=T.zuf.F.binds λ_ _ _ _ _ _ us hl=>onl1 (λ_=>rfl) us hl
theorem zvdb (T:Tx K mg):Binds K T.zbf.d zon []:=T.zbf.F.binds λ_ _ _ _ _ _ us hl=>onl1 (λ_=>rfl) us hl
theorem zvhb (T:Tx K mg):Binds K T.zjg.d zkq []:=T.zjg.F.binds λ_ _ _ _ _ _ us hl=>onl2 (λ_ _=>rfl) us hl
theorem zsk (T:Tx K mg):Binds K T.zfc.d zsh []:=T.zfc.F.binds λ_ _ _ _ _ _ us hl=>onl2 (λ_ _=>rfl) us hl
theorem zkh (T:Tx K mg):Binds K T.zmc.d zwl []:=T.zmc.F.binds λ_ _ _ _ _ _ us hl=>onl1 (λ_=>rfl) us hl
theorem zlb (T:Tx K mg):Binds K T.zqa.d zmf []:=T.zqa.F.binds λ_ _ _ _ _ _ us hl=>onl2 (λ_ _=>rfl) us hl
theorem zoe (T:Tx K mg):Binds K T.zpb.d zpg []:=T.zpb.F.binds λ_ _ _ _ _ _ us hl=>onl1 (λ_=>rfl) us hl
theorem zbc (T:Tx K mg):Binds K T.zxa.d znf []:=T.zxa.F.binds λ_ _ _ _ _ _ us hl=>onl1 (λ_=>rfl) us hl
theorem zrm (T:Tx K mg):Binds K T.zrc.d zmj []:=T.zrc.F.binds λ_ _ _ _ _ _ us hl=>onl1 (λ_=>rfl) us hl
theorem zfu (T:Tx K mg):Binds K T.ztc.d zli []:=T.ztc.F.binds λ_ _ _ _ _ _ us hl=>onl4 (λ_ _ _ _=>rfl) us hl
theorem zji (T:Tx K mg):Binds K T.zyb.d zin []:=T.zyb.F.binds λ_ _ _ _ _ _ us hl=>onl1 (λ_=>rfl) us hl
theorem ztbb (T:Tx K mg):Binds K T.zae.d zql []:=T.zae.F.binds λ_ _ _ _ _ _ us hl=>onl2 (λ_ _=>rfl) us hl
theorem ztrb (T:Tx K mg):Binds K T.zsm.d zfeb []:=T.zsm.F.binds λ_ _ _ _ _ _ us hl=>onl1 (λ_=>rfl) us hl
theorem zgu (T:Tx K mg):Binds K T.zuc.d zmi []:=T.zuc.F.binds λ_ _ _ _ _ _ us hl=>onl6 (λ_ _ _ _ _ _=>rfl) us hl
theorem zudb (T:Tx K mg):Binds K T.zaf.d znn []:=T.zaf.F.binds λ_ _ _ _ _ _ us hl=>onl1 (λ_=>rfl) us hl
theorem zvbb (T:Tx K mg):Binds K T.zbe.d zrl []:=T.zbe.F.binds λ_ _ _ _ _ _ us hl=>onl1 (λ_=>rfl) us hl
theorem ztdb (T:Tx K mg):Binds K T.zze.d zmn []:=T.zze.F.binds λ_ _ _ _ _ _ us hl=>onl1 (λ_=>rfl) us hl
theorem zsdb (T:Tx K mg):Binds K T.zye.d zkn []:=T.zye.F.binds λ_ _ _ _ _ _ us hl=>onl1 (λ_=>rfl) us hl
theorem zfn (T:Tx K mg):Binds K T.zzb.d zlf []:=T.zzb.F.binds λ_ _ _ _ _ _ us hl=>onl2 (λ_ _=>rfl) us hl
theorem zrdb (T:Tx K mg):Binds K T.zxe.d zjn []:=T.zxe.F.binds λ_ _ _ _ _ _ us hl=>onl1 (λ_=>rfl) us hl
theorem zbv (T:Tx K mg):Binds K T.zad.d zkj []:=T.zad.F.binds λ_ _ _ _ _ _ us hl=>onl1 (λ_=>rfl) us hl
theorem zdq (T:Tx K mg):Binds K T.zgc.d zlg []:=T.zgc.F.binds λ_ _ _ _ _ _ us hl=>onl2 (λ_ _=>rfl) us hl
theorem zthb (T:Tx K mg):Binds K T.zgg.d zgq []:=T.zgg.F.binds λ_ _ _ _ _ _ us hl=>onl1 (λ_=>rfl) us hl
theorem zeu (T:Tx K mg):Binds K T.zld.d zln []:=T.zld.F.binds λ_ _ _ _ _ _ us hl=>onl1 (λ_=>rfl) us hl
theorem zpy (T:Tx K mg):Binds K T.zmd.d zjk []:=T.zmd.F.binds λ_ _ _ _ _ _ us hl=>onl2 (λ_ _=>rfl) us hl
theorem zkgb (T:Tx K mg):Binds K T.zwh.d zvy []:=T.zwh.F.binds λ_ _ _ _ _ _ us hl=>onl2 (λ_ _=>rfl) us hl
theorem zsbb (T:Tx K mg):Binds K T.zsf.d znu []:=T.zsf.F.binds λ_ _ _ _ _ _ us hl=>onl2 (λ_ _=>rfl) us hl
theorem zurb (T:Tx K mg):Binds K T.ztm.d zgeb []:=T.ztm.F.binds λ_ _ _ _ _ _ us hl=>onl1 (λ_=>rfl) us hl
theorem zxbb (T:Tx K mg):Binds K T.zde.d ztl []:=T.zde.F.binds λ_ _ _ _ _ _ us hl=>onl1 (λ_=>rfl) us hl
theorem zqy (T:Tx K mg):Binds K T.znd.d zkk []:=T.znd.F.binds λ_ _ _ _ _ _ us hl=>onl3 (λ_ _ _=>rfl) us hl
theorem zwbb (T:Tx K mg):Binds K T.zce.d zsl []:=T.zce.F.binds λ_ _ _ _ _ _ us hl=>onl2 (λ_ _=>rfl) us hl
theorem zuj (T:Tx K mg):Binds K T.zic.d ziq []:=T.zic.F.binds λ_ _ _ _ _ _ us hl=>onl3 (λ_ _ _=>rfl) us hl
theorem zjd (T:Tx K mg):Binds K T.zjb.d zpl []:=T.zjb.F.binds λ_ _ _ _ _ _ us hl=>onl4 (λ_ _ _ _=>rfl) us hl
theorem zrlb (T:Tx K mg):Binds K T.zyh.d zqu []:=T.zyh.F.binds λ_ _ _ _ _ _ us hl=>onl2 (λ_ _=>rfl) us hl
theorem ziob (T:Tx K mg):Binds K T.zwj.d zwy []:=T.zwj.F.binds λ_ _ _ _ _ _ us hl=>onl3 (λ_ _ _=>rfl) us hl
theorem zgp (T:Tx K mg):Binds K T.zdc.d zcg []:=T.zdc.F.binds λ_ _ _ _ _ _ us hl=>onl2 (λ_ _=>rfl) us hl
theorem zur (T:Tx K mg):Binds K T.zoc.d zqh []:=T.zoc.F.binds λ_ _ _ _ _ _ us hl=>onl3 (λ_ _ _=>rfl) us hl
theorem zubb (T:Tx K mg):Binds K T.ztf.d zou []:=T.ztf.F.binds λ_ _ _ _ _ _ us hl=>onl3 (λ_ _ _=>rfl) us hl
theorem zuhb (T:Tx K mg):Binds K T.zig.d zjq []:=T.zig.F.binds λ_ _ _ _ _ _ us hl=>onl3 (λ_ _ _=>rfl) us hl
theorem zaeb (T:Tx K mg):Binds K T.zgf.d zun []:=T.zgf.F.binds λ_ _ _ _ _ _ us hl=>onl2 (λ_ _=>rfl) us hl
theorem zsa (T:Tx K mg):Binds K T.zda.d zqn []:=T.zda.F.binds λ_ _ _ _ _ _ us hl=>onl2 (λ_ _=>rfl) us hl
theorem zzbb (T:Tx K mg):Binds K T.zee.d zul []:=T.zee.F.binds λ_ _ _ _ _ _ us hl=>onl1 (λ_=>rfl) us hl
theorem zik (T:Tx K mg):Binds K T.zec.d zmk []:=T.zec.F.binds λ_ _ _ _ _ _ us hl=>onl1 (λ_=>rfl) us hl
theorem zki (T:Tx K mg):Binds K T.zmb.d zmg []:=T.zmb.F.binds λ_ _ _ _ _ _ us hl=>onl3 (λ_ _ _=>rfl) us hl
theorem zjh (T:Tx K mg):Binds K T.zkb.d zqf []:=T.zkb.F.binds λ_ _ _ _ _ _ us hl=>onl1 (λ_=>rfl) us hl
theorem zzdb (T:Tx K mg):Binds K T.zff.d ztn []:=T.zff.F.binds λ_ _ _ _ _ _ us hl=>onl2 (λ_ _=>rfl) us hl
theorem zfq (T:Tx K mg):Binds K T.zkc.d zog []:=T.zkc.F.binds λ_ _ _ _ _ _ us hl=>onl1 (λ_=>rfl) us hl
theorem zwdb (T:Tx K mg):Binds K T.zcf.d zpn []:=T.zcf.F.binds λ_ _ _ _ _ _ us hl=>onl3 (λ_ _ _=>rfl) us hl
theorem zeq (T:Tx K mg):Binds K T.zjc.d zng []:=T.zjc.F.binds λ_ _ _ _ _ _ us hl=>onl1 (λ_=>rfl) us hl
theorem zbeb (T:Tx K mg):Binds K T.zif.d zvn []:=T.zif.F.binds λ_ _ _ _ _ _ us hl=>onl3 (λ_ _ _=>rfl) us hl
theorem zacb (T:Tx K mg):Binds K T.zfe.d zvl []:=T.zfe.F.binds λ_ _ _ _ _ _ us hl=>onl2 (λ_ _=>rfl) us hl
theorem zvr (T:Tx K mg):Binds K T.zpc.d zrh []:=T.zpc.F.binds λ_ _ _ _ _ _ us hl=>onl3 (λ_ _ _=>rfl) us hl
theorem zydb (T:Tx K mg):Binds K T.zef.d zsn []:=T.zef.F.binds λ_ _ _ _ _ _ us hl=>onl2 (λ_ _=>rfl) us hl
theorem zxdb (T:Tx K mg):Binds K T.zdf.d zrn []:=T.zdf.F.binds λ_ _ _ _ _ _ us hl=>onl4 (λ_ _ _ _=>rfl) us hl
theorem zry (T:Tx K mg):Binds K T.zod.d zlk []:=T.zod.F.binds λ_ _ _ _ _ _ us hl=>onl3 (λ_ _ _=>rfl) us hl
theorem zcv (T:Tx K mg):Binds K T.zbd.d zlj []:=T.zbd.F.binds λ_ _ _ _ _ _ us hl=>onl4 (λ_ _ _ _=>rfl) us hl
theorem zis (T:Tx K mg)(kb:K.In base):yzq base T.zgn ztu:=KTD.text_of_look (λb o q=>kb b o q) T.ztx
abbrev LL:Str:="abcdefghijklmnopqrstuvwxyz"
abbrev FF:Str:="0123456789"
def inS (c:Nat)(u:Str):Bool:=!(yjd u ⟨#[c]⟩ 0 u.length 1).isEmpty
def allIn (t u:Str):Bool:=(t.cps.toList.map λc=>inS c u).all id
def zxv (t:Str):Bool:=decide (V.str t=V.str "0")||(!decide (V.str ⟨#[t.cps.getD 0 0]⟩=V.str "0"))
def short (t:Str)(n:Int):Bool:=decide ((1:Int)≤((t.length:Nat):Int))&&decide (((t.length:Nat):Int)≤n)
def isName (t:Str):Bool:=short t 8&&allIn t LL
def isWhole (t:Str)(n:Int):Bool:=short t n&&(allIn t FF&&zxv t)
def isNumber (t:Str):Bool:=isWhole t 3
theorem small {n:Nat}(h:n≤1000):n≤ywa:=yde (zse h)
theorem znhb {t:Str}(h:(1:Int)≤((t.length:Nat):Int)):atI t.cps.toList 0=some (t.cps.getD 0 0):=by
 have hl:0<t.cps.size:=by
  have e:t.length=t.cps.size:=rfl;omega
 have e:t.cps.toList[0]?=some (t.cps.getD 0 0):=by
  rw[yob,yif,yyb hl];rfl
 exact zra (j:=0) e
theorem zbcb {α:Type}{xs:List α}{i:Int}(h0:0≤i)(h:i<(xs.length:Int)):∃v,atI xs i=some v∧v∈xs:=by
 have hk:i.toNat<xs.length:=by omega
 have e:xs[i.toNat]?=some xs[i.toNat]:=yma hk;have q:=zra e;rw[show ((i.toNat:Nat):Int)=i by omega] at q;exact⟨_,q,ybb e⟩
theorem zslb {ns:List Int}{i:Int}(h0:0≤i)(h:i<(ns.length:Int)):∃z,atI (ns.map V.int) i=some (.int z):=by
 obtain⟨v,hv,hm⟩:=zbcb (xs:=ns.map V.int) h0 (by rw[yba];exact h);obtain⟨z,_,rfl⟩:=ycc.mp hm;exact⟨z,hv⟩
def But (p:Addr)(H H':Hp):Prop:=∀b o,b≠p->H b=some o->H' b=some o
theorem But.refl (p:Addr)(H:Hp):But p H H:=λ_ _ _ h=>h
theorem But.trans {p:Addr}{H H1 H2:Hp}(a:But p H H1)(b:But p H1 H2):But p H H2:=λc o n h=>b c o n (a c o n h)
theorem But.laid {p q:Addr}{H:Hp}{o:HO}(h:H q=none):But p H (upd H q o):=λb u n e=>by rw[zdb (zka e h)];exact e
theorem But.put {p:Addr}{H:Hp}{o:HO}:But p H (upd H p o):=λb u n e=>by rw[zdb n];exact e
theorem But.same {p:Addr}{H H':Hp}(h:Same H H'):But p H H':=λb o _ e=>h b o e
theorem zcb {H:Hp}{p:Addr}(h:H p=none)(o:HO):Same H (upd H p o):=λb u q=>by rw[zdb (zka q h)];exact q
def SqF (K:yda)(H:Hp)(a:Addr)(xs:List V):Prop :=
 (∃o,H a=some (.frz o (.lst xs)))∨Ex3 λ(o:Obj) (its:Array Value) (n:Nat)=>K.lookup a=some o∧o.cls = .type "list" ∧ o.dict=none∧o.data = .seq its n∧its.size≤ywa∧Vals xs its.toList
theorem SqF.sq {K:yda}{H:Hp}{a:Addr}{xs:List V}(h:SqF K H a xs):SqL K H a xs:=by
 rcases h with⟨o,h⟩|h
 ·exact .inl (.inr ⟨o,h⟩)
 ·exact .inr h
theorem SqF.of {K:yda}{H:Hp}{a:Addr}{xs:List V}(O:Only H)(h:SqL K H a xs):SqF K H a xs:=by
 rcases h with (h|⟨o,h⟩)|h
 ·rcases O a with z|⟨o,ys,z⟩
  ·rw[z] at h;cases h
  ·rw[z] at h;cases h
 ·exact .inl ⟨o,h⟩
 ·exact .inr h
theorem SqF.keep {K:yda}{H H':Hp}{a:Addr}{xs:List V}(h:SqF K H a xs)(k:∀o u,H a=some (.frz o u)->H' a=some (.frz o u)):SqF K H' a xs:=by
 rcases h with⟨o,h⟩|h
 ·exact .inl ⟨o,k _ _ h⟩
 ·exact .inr h
structure Tk (K:yda)(H:Hp)(p:Addr)(k:Int):Prop where
 ex:Ex2 λa (ns:List Int)=>H p=some (.lst [.ref a,.int k])∧SqF K H a (ns.map V.int)∧ns.length≤63
 lo:0≤k
theorem Tk.ne {K:yda}{H:Hp}{p q:Addr}{k:Int}(T:Tk K H p k)(h:H q=none):p≠q:=by
 obtain⟨⟨a,ns,h1,_⟩,_⟩:=T;exact zka h1 h
theorem Tk.same {K:yda}{H H':Hp}{p:Addr}{k:Int}(T:Tk K H p k)(h:Same H H'):Tk K H' p k:=by
 obtain⟨⟨a,ns,h1,h2,h3⟩,lo⟩:=T;exact⟨⟨a,ns,h p _ h1,h2.keep λo u z=>h _ _ z,h3⟩,lo⟩
theorem Tk.other {K:yda}{H:Hp}{p q:Addr}{k:Int}{us vs:List V}(T:Tk K H p k)(hq:H q=some (.lst us))(n:p≠q):Tk K (upd H q (.lst vs)) p k:=by
 obtain⟨⟨a,ns,h1,h2,h3⟩,lo⟩:=T;exact⟨⟨a,ns,by rw[zdb n];exact h1,h2.keep λo u z=>by rw[zdb (zdl z hq (by intro y;cases y))];exact z,h3⟩,lo⟩
theorem Tk.begin {K:yda}{H:Hp}{p a:Addr}{ns:List Int}(hp:H p=none)(hS:SqF K H a (ns.map V.int))(h63:ns.length≤63):Tk K (upd H p (.lst [.ref a,.int 0])) p 0 :=
 ⟨⟨a,ns,zia,hS.keep λo u z=>by rw[zdb (zka z hp)];exact z,h63⟩,Int.le_refl 0⟩
def zssb (K:yda):Sp:=λvs H Q _=>Ex3 λp (k m:Int)=>vs=[.ref p,.int m]∧Tk K H p k∧k≤1000000∧0<m∧∀(r:Int) H',0≤r->r<m->But p H H'->Tk K H' p (k+1)->Q (.int r) H'
def zvsb:Sp:=λvs H Q _=>∃t:Str,vs=[.str t]∧t.length≤1000∧∀H',Same H H'->Q (.bl (isName t)) H'
def zgmb:Sp:=λvs H Q _=>∃t:Str,vs=[.str t]∧t.length≤1000∧∀H',Same H H'->Q (.bl (isNumber t)) H'
def zqpb:Sp:=λvs H Q _=>Ex2 λ(t:Str) (n:Int)=>vs=[.str t,.int n]∧t.length≤1000∧∀H',Same H H'->Q (.bl (isWhole t n)) H'
def zjmb (K:yda):Sp:=λvs H Q _=>Ex2 λa (ns:List Int)=>vs=[.ref a]∧SqF K H a (ns.map V.int)∧ns.length≤63∧∀H',Q (.bl true) H'
abbrev zbtb:R2:=λx y H Q=>Ex2 λi j=>x = .str i∧y = .str j∧Q (.bl (!(yjd j i 0 j.length 1).isEmpty)) H
theorem ziw {t L:Str}{σ:L2.St}{H:Hp}{Q:VK}(hz:t.length≤ywa)(q:∀p,H p=none->Q (.ref p) (upd H p (.lst ((t.cps.toList.map λc=>inS c L).map V.bl)))) :
  zncb (Its t) H (zbob 0) zjsb (tOp zbtb (tVar 0) (tC (.str L))) 1 [] σ Q:=by
 refine zfob (λi ys H'=>H'=H∧i≤t.cps.size∧ys=((t.cps.toList.take i).map λc=>inS c L).map V.bl) ⟨rfl,yqb _,rfl⟩ ?_ ?_ ?_
 ·rintro i ys H' ⟨_,hi,rfl⟩;rw[yba,yba,ygb];have e:t.length=t.cps.toList.length:=by simp[yfr]
  omega
 ·rintro i c ys H' hc ⟨rfl,hi,rfl⟩;refine⟨rfl,_,rfl,_,_,rfl,rfl,rfl,?_,?_⟩
  ·have hlt:i<t.cps.size:=(Array.getElem?_eq_some_iff.mp hc).1;exact hlt
  ·have e:t.cps.toList[i]?=some c:=by simpa using hc
   rw[ydb,e,yxa,yxa];rfl
 ·rintro ys H' ⟨rfl,_,rfl⟩ p hp;have q':=q p hp;rw[yla (by simp)];exact q'
section
variable {P:yvb}{w:World}{K:yda}{mg:Str->Option Value}{base:Heap}{f:Addr}{fd:ypf}
theorem zwv (T:Tx K mg):FnOk P w K mg base CX0 2 T.zuf.f T.zuf.d zpu zvsb:=by
 refine T.zuf.ok zahb ?_;rintro f c A o s H vs Q E hr ⟨t,rfl,hz,q⟩ X;have hz':=small hz;refine⟨_,  (zea (zta (zjtb (zdnb zehb zehb zfa (zza znl rfl T.zre yjb (zaa (pv 0) zba)) zfa) (zpjb (zza (zoy rfl) rfl T.zlgb boot_all (zaa (zwc (own:=["sign"]) (cap:=[]) rfl (zsb.chk rfl rfl) .nil (zpob (pv 0)) (λ_ _ _ _=>(zeb (i:=0) (show yyc (["sign"]:List Str) by decide +kernel) rfl (.inl rfl))) (λ_ _ _ _=>zle) (λ_ _ _ _=>by exact (ztp zyz (pv 0) (znb (v:=.str zlu) rfl T.zap ⟨_,rfl⟩) rfl))) zba)))))),?_⟩;refine⟨_,rfl,t,rfl,hz',_,_,rfl,rfl,_,rfl,?_⟩;refine ite2 (λc1=>?_) (λc1=>?_)
 ·refine⟨_,_,rfl,rfl,_,rfl,?_⟩;refine ite2 (λc2=>?_) (λc2=>?_)
  ·refine⟨_,rfl,t,rfl,?_⟩;refine ziw hz' λp hp=>?_;refine⟨p,_,rfl,SqL.of zia,?_⟩;have q':=q (upd H p (.lst ((t.cps.toList.map λc=>inS c LL).map V.bl))) (zcb hp _);have e:isName t=allIn t LL:=by
    unfold isName short;rw[c1,c2,yvh,yvh]
   rw[e] at q';exact q'
  ·have q':=q H (Same.refl H);have e:isName t=false:=by
    unfold isName short;rw[ypg.mpr c2,ysl,ybg]
   rw[e] at q';exact q'
 ·refine⟨_,rfl,iteF ?_⟩;have q':=q H (Same.refl H);have e:isName t=false:=by
   unfold isName short;rw[ypg.mpr c1,ybg,ybg]
  rw[e] at q';exact q'
theorem zddb (T:Tx K mg):FnOk P w K mg base CX0 1 T.zjg.f T.zjg.d zkq zqpb:=by
 refine T.zjg.ok zvcb ?_;rintro f c A o s H vs Q E hr ⟨t,n,rfl,hz,q⟩ X;have hz':=small hz;refine⟨_,  (zca (zvb (PW.pt (zjjb (zal (zkfb zehb zehb zfa (zza znl rfl T.zre yjb (zaa (pv 0) zba)) (pv 1))) (zjfb (zal (zkm (zza (zoy rfl) rfl T.zlgb boot_all (zaa (zwc (own:=["sign"]) (cap:=[]) rfl (zsb.chk rfl rfl) .nil (zpob (pv 0)) (λ_ _ _ _=>(zeb (i:=0) (show yyc (["sign"]:List Str) by decide +kernel) rfl (.inl rfl))) (λ_ _ _ _=>zle) (λ_ _ _ _=>by exact (ztp zyz (pv 0) (znb (v:=.str zmu) rfl T.zbp ⟨_,rfl⟩) rfl))) zba)))))))
   (zea (zta zjt))
   zva)
  (zea (zta (zgtb (ztp zne (pv 0) zma (zgb _)) (zpjb (ztp zqjb (zbb zfkb (pv 0) zfa (λ_ _=>rfl)) zma (zgb _))))))),?_⟩
 refine⟨_,rfl,t,rfl,hz',_,_,rfl,rfl,_,rfl,?_⟩;refine ite2 (λc1=>?_) (λc1=>?_)
 ·refine⟨_,rfl,_,_,rfl,rfl,_,rfl,?_⟩;refine ite2 (λc2=>?_) (λc2=>?_)
  ·refine iteT ?_;have q':=q H (Same.refl H);have c2':decide (((t.length:Nat):Int)≤n)=false:=(by simpa using c2);have e:isWhole t n=false:=by
    unfold isWhole short;rw[c2',ysl,ybg]
   rw[e] at q';exact q'
  ·have c2':decide (((t.length:Nat):Int)≤n)=true:=by simpa using c2
   refine⟨_,rfl,t,rfl,?_⟩;refine ziw hz' λp hp=>?_;refine⟨p,_,rfl,SqL.of zia,_,rfl,?_⟩;have S1:=zcb hp (.lst ((t.cps.toList.map λc=>inS c FF).map V.bl));have q':=q _ S1;have e0:isWhole t n=(allIn t FF&&zxv t):=by
    unfold isWhole short;rw[c1,c2',yvh,yvh]
   rw[e0] at q';refine ite2 (λc3=>?_) (λc3=>?_)
   ·have c3':allIn t FF=false:=by simpa [allIn] using c3
    rw[c3',ybg] at q';exact q'
   ·have c3':allIn t FF=true:=by simpa [allIn] using c3
    rw[c3',yvh] at q';refine⟨_,rfl,rfl,_,rfl,?_⟩;refine ite2 (λc4=>?_) (λc4=>?_)
    ·have e:zxv t=true:=by
      unfold zxv;rw[c4,yko]
     rw[e] at q';exact q'
    ·refine⟨_,rfl,t,_,_,rfl,rfl,hz',znhb (of_decide_eq_true c1),rfl,?_⟩;have e:zxv t=(!decide (V.str ⟨#[t.cps.getD 0 0]⟩=V.str "0")):=by
      unfold zxv;rw[ypg.mpr c4,yzm]
     rw[e] at q';exact q'
 ·refine⟨_,rfl,iteT (iteT ?_)⟩;have q':=q H (Same.refl H);have e:isWhole t n=false:=by
   unfold isWhole short;rw[ypg.mpr c1,ybg,ybg]
  rw[e] at q';exact q'
theorem zfab (T:Tx K mg):FnOk P w K mg base CX0 2 T.zbf.f T.zbf.d zon zgmb:=by
 refine T.zbf.ok zlz ?_;rintro f c A o s H vs Q E hr ⟨t,rfl,hz,q⟩ X;refine⟨_,  (zea (zta (zga (zddb T) hr rfl T.zjg.m T.zjg.F.kp (zvhb T) .nil zpa (zaa (pv 0) (zaa zfa zba))))),?_⟩;exact⟨_,rfl,t,3,rfl,hz,q⟩
end
section
seal PySem.wpAny
theorem zmub:∀c:Nat,c<123->97≤c->inS c LL=true:=by decide +kernel
theorem zpt {n:Str}(h:zud n):isName n=true:=by
 unfold isName short allIn;obtain⟨h1,h2,h3⟩:=h;rw[decide_eq_true (by omega),decide_eq_true (by omega),yvh,yvh,yvf];intro b hb;obtain⟨c,hc,rfl⟩:=ycc.mp hb;exact zmub c (by have:=h3 c hc;omega) (h3 c hc).1
theorem zpab:∀i:Nat,i<1000->isNumber (toString (i:Int):Str)=true:=by decide +kernel
theorem zyqb:∀i:Nat,i<1000->PySem.intText? (toString (i:Int):Str)=some (i:Int):=by decide +kernel
theorem zbs {f:Str}{v:V}{r:List (Str×V)}:yoe f ((f,v)::r)=some v:=by rw[yye,beq_self_eq_true]
theorem zue {f g:Str}{v:V}{r:List (Str×V)}(h:¬ f=g):yoe f ((g,v)::r)=yoe f r:=by
 have e:(f==g)=false:=by simpa using h
 rw[yye,e]
theorem zrp {f:Str}{v:V}:putF f v []=[(f,v)]:=rfl
theorem zjqb {f:Str}{v u:V}{r:List (Str×V)}:putF f v ((f,u)::r)=(f,v)::r:=by
 show (if f=f then (f,v)::r else (f,u)::putF f v r)=_
 rw[if_pos rfl]
theorem zzj {f g:Str}{v u:V}{r:List (Str×V)}(h:¬ g=f):putF f v ((g,u)::r)=(g,u)::putF f v r:=by
 show (if g=f then (g,v)::r else (g,u)::putF f v r)=_
 rw[if_neg h]
def wfs (l:Addr)(k:Int):List (Str×V):=[("words",.ref l),("place",.int k)]
theorem zrtb:¬ (("words":Str) = "place"):=by decide +kernel
theorem zuvb:¬ (("place":Str) = "words"):=by decide +kernel
theorem zes (l:Addr)(k:Int):(wfs l k).lookup ("words":Str)=some (.ref l):=zbs
theorem zao (l:Addr)(k:Int):(wfs l k).lookup ("place":Str)=some (.int k):=(zue zuvb).trans zbs
theorem zjpb (l:Addr)(k j:Int):putF "place" (.int j) (wfs l k)=wfs l j:=(zzj zrtb).trans (congrArg _ zjqb)
theorem zamb (l:Addr)(j:Int):putF "place" (.int j) (putF "words" (.ref l) [])=wfs l j:=(zzj zrtb).trans rfl
theorem zcc (l:Addr)(k:Int){m:Str}(h1:¬ m = "words")(h2:¬ m = "place"):(wfs l k).lookup m=none:=(zue h1).trans ((zue h2).trans rfl)
def WAt (C:Addr)(H:Hp)(p:Addr)(ws:List Str)(k:Nat):Prop:=Ex2 λdx l=>H p=some (.ins C dx (wfs l (k:Int)))∧H l=some (.lst (ws.map V.str))
theorem WAt.at {C:Addr}{H H':Hp}{p:Addr}{ws:List Str}{k:Nat}(h:WAt C H p ws k)(s:Same H H'):WAt C H' p ws k:=by
 obtain⟨dx,l,h1,h2⟩:=h;exact⟨dx,l,s _ _ h1,s _ _ h2⟩
theorem WAt.go {C:Addr}{H:Hp}{p dx l:Addr}{ws:List Str}{k j:Nat}(h1:H p=some (.ins C dx (wfs l (k:Int))))(h2:H l=some (.lst (ws.map V.str))):WAt C (upd H p (.ins C dx (wfs l (j:Int)))) p ws j:=by
 have n:l≠p:=zdl h2 h1 (by intro z;cases z);exact⟨dx,l,zia,by rw[zdb n];exact h2⟩
theorem But.of_same {p:Addr}{H H1 H2:Hp}(a:But p H H1)(b:Same H1 H2):But p H H2:=a.trans (But.same b)
theorem zuub {ws:List Str}{k:Nat}{u:Str}(h:ws[k]?=some u):atI (ws.map V.str) (k:Int)=some (.str u):=zra (by rw[yqa,h];rfl)
def zppb (C:Addr):Sp:=λvs H Q _=>Ex3 λp dx (t:Str)=>vs=[.ref p,.str t]∧H p=some (.ins C dx [])∧t.length≤1000∧∀H',WAt C H' p (yjf t " ") 0->But p H H'->Q .non H'
def zrpb (C:Addr):Sp:=λvs H Q _=>Ex4 λp (ws:List Str) (k:Nat) (u:Str)=>vs=[.ref p]∧WAt C H p ws k∧ws[k]?=some u∧∀H',WAt C H' p ws (k+1)->But p H H'->Q (.str u) H'
def zspb (C:Addr):Sp:=λvs H Q _=>Ex4 λp (ws:List Str) (k:Nat) (u:Str)=>vs=[.ref p]∧WAt C H p ws k∧ws[k]?=some u∧zud u∧∀H',WAt C H' p ws (k+1)->But p H H'->Q (.str u) H'
def zrib (C:Addr):Sp:=λvs H Q _=>Ex4 λp (ws:List Str) (k i:Nat)=>vs=[.ref p]∧WAt C H p ws k∧ws[k]?=some (toString (i:Int):Str)∧i<1000∧∀H',WAt C H' p ws (k+1)->But p H H'->Q (.int i) H'
def zsib (C:Addr):Sp:=λvs H Q _=>Ex2 λp (ws:List Str)=>vs=[.ref p]∧WAt C H p ws ws.length∧Q .non H
theorem zofb (T:Tx K mg):FnOk P w K mg base CX0 2 T.zfc.f T.zfc.d zsh (zppb T.zob):=by
 refine T.zfc.ok zpp ?_;rintro f c A o s H vs Q E hr ⟨p,dx,t,rfl,hp,ht,q⟩ X;refine⟨_,  (zca (zmm (pv 0) (zdi yhc yej yfj zpx (pv 1) (zaa zma zba)) rfl)
  (zea (zmm (pv 0) zfa rfl))),?_⟩
 refine⟨_,rfl,rfl,t,_,rfl,rfl,(by decide +kernel),(ymb (ykk ht 2) (by decide)),λl hl=>?_⟩;have npl:p≠l:=zka hp hl;refine⟨_,rfl,p,_,dx,_,rfl,(by rw[zdb npl];exact hp),T.zib,T.zrd,(by show 0<1000;decide),?_⟩;refine⟨_,rfl,p,_,dx,_,rfl,zia,T.zib,T.zyc,(by show 1<1000;decide),?_⟩;refine q _ ⟨dx,l,?_,?_⟩ ?_
 ·rw[zia,zamb];rfl
 ·rw[zdb npl.symm,zdb npl.symm,zia]
 ·exact (But.laid hl).trans (But.put.trans But.put)
theorem zbg (T:Tx K mg):FnOk P w K mg base CX0 2 T.zmc.f T.zmc.d zwl (zrpb T.zob):=by
 refine T.zmc.ok zzw ?_;rintro f c A o s H vs Q E hr ⟨p,ws,k,u,rfl,⟨dx,l,h1,h2⟩,hu,q⟩ X;refine⟨_,  (zca (zvb (zna zne (zqo (pv 0) rfl) (zza zwa rfl T.zre yjb (zaa (zqo (pv 0) rfl) zba)) (zgb _))
   (zea zxd)
   zva)
  (zca (zkjb (pv 0) zfa zlub)
  (zea (zta (zbb znc (zqo (pv 0) rfl) (zqb zah (zqo (pv 0) rfl) zfa) (λ_ _=>rfl)))))),?_⟩
 have hk:k<ws.length:=(ysa.mp hu).1;have n:l≠p:=zdl h2 h1 (by intro z;cases z);refine⟨_,rfl,p,_,dx,_,_,rfl,h1,T.zib,T.zyc,zao _ _,_,rfl,p,_,dx,_,_,rfl,h1,T.zib,T.zrd,zes _ _,l,_,rfl,.inl (SqL.of h2),rfl,_,rfl,?_⟩;refine ite2 (λc=>?_) (λc=>?_)
 ·exfalso;have c':=of_decide_eq_true c;injection c' with c'
  rw[yba] at c';omega
 ·refine⟨_,rfl,p,_,dx,_,_,rfl,h1,T.zib,T.zyc,zao _ _,_,_,rfl,rfl,dx,_,h1,(by show 2<1000;decide),?_⟩;rw[zjpb];refine⟨_,rfl,p,_,dx,_,_,rfl,zia,T.zib,T.zrd,zes _ _,_,rfl,p,_,dx,_,_,rfl,zia,T.zib,T.zyc,zao _ _,_,_,rfl,rfl,l,_,_,_,rfl,rfl,SqL.of (by rw[zdb n];exact h2),(by rw[Int.add_sub_cancel];exact zuub hu),?_⟩;exact q _ (WAt.go (j:=k+1) h1 h2) But.put
theorem zcl (T:Tx K mg):FnOk P w K mg base CX0 2 T.zrc.f T.zrc.d zmj (zsib T.zob):=by
 refine T.zrc.ok zls ?_;rintro f c A o s H vs Q E hr ⟨p,ws,rfl,⟨dx,l,h1,h2⟩,q⟩ X;refine⟨_,  (zea (zvb (zna zenb (zqo (pv 0) rfl) (zza zwa rfl T.zre yjb (zaa (zqo (pv 0) rfl) zba)) (zgb _))
   (zea zxd)
   zva)),?_⟩
 refine⟨_,rfl,p,_,dx,_,_,rfl,h1,T.zib,T.zyc,zao _ _,_,rfl,p,_,dx,_,_,rfl,h1,T.zib,T.zrd,zes _ _,l,_,rfl,.inl (SqL.of h2),_,_,rfl,rfl,_,rfl,?_⟩;refine ite2 (λc=>?_) (λc=>?_)
 ·exfalso;have c':=of_decide_eq_true c;rw[yba] at c';omega
 ·exact q
theorem zyd (T:Tx K mg):FnOk P w K mg base CX0 3 T.zpb.f T.zpb.d zpg (zspb T.zob):=by
 refine T.zpb.ok zti ?_;rintro f c A o s H vs Q E hr ⟨p,ws,k,u,rfl,W,hu,hn,q⟩ X;refine⟨_,  (zca (zoa (i:=1) zti.nd rfl (.inl rfl) (zvc (pv 0) T.zib T.zmc.M (zbg T) hr (zkh T) .nil zpa))
  (zca (zvb (zal (zkm (zga (zwv T) hr rfl T.zuf.m T.zuf.F.kp (zybb T) .nil zpa (zaa (pv 1) zba))))
   (zea zxd)
   zva)
  (zea (zta (pv 1))))),?_⟩
 obtain⟨dx,l,h1,h2⟩:=id W;refine⟨_,rfl,p,dx,_,rfl,h1,zcc _ _ (by decide +kernel) (by decide +kernel),p,ws,k,u,rfl,W,hu,λH1 W1 B1=>?_⟩;refine⟨_,rfl,u,rfl,(ymb hn.2.1 (by decide)),λH2 S2=>?_⟩;rw[zpt hn];refine⟨_,rfl,iteF ?_⟩;exact⟨_,rfl,q H2 (W1.at S2) (B1.of_same S2)⟩
theorem zwb (T:Tx K mg):FnOk P w K mg base CX0 3 T.zxa.f T.zxa.d znf (zrib T.zob):=by
 refine T.zxa.ok zuh ?_;rintro f c A o s H vs Q E hr ⟨p,ws,k,i,rfl,W,hu,hi,q⟩ X;refine⟨_,  (zca (zoa (i:=1) zuh.nd rfl (.inl rfl) (zvc (pv 0) T.zib T.zmc.M (zbg T) hr (zkh T) .nil zpa))
  (zca (zvb (zal (zkm (zga (zfab T) hr rfl T.zbf.m T.zbf.F.kp (zvdb T) .nil zpa (zaa (pv 1) zba))))
   (zea zxd)
   zva)
  (zea (zta (zya zny rfl T.zylb boot_int (zaa (pv 1) zba)))))),?_⟩
 obtain⟨dx,l,h1,h2⟩:=id W;refine⟨_,rfl,p,dx,_,rfl,h1,zcc _ _ (by decide +kernel) (by decide +kernel),p,ws,k,_,rfl,W,hu,λH1 W1 B1=>?_⟩;have hl:=zwp i hi;refine⟨_,rfl,_,rfl,(by omega),λH2 S2=>?_⟩;rw[zpab i hi];refine⟨_,rfl,iteF ?_⟩;exact⟨_,rfl,_,_,rfl,zyqb i hi,(by omega),q H2 (W1.at S2) (B1.of_same S2)⟩
def valV:Wv->V
 | .non=>.non
 | .name n=>.str n
 | .num i=>.int i
def hfs (w:Str)(v:V)(t:Addr):List (Str×V):=[("word",.str w),("value",v),("parts",.ref t)]
theorem zptb:¬ (("word":Str) = "value"):=by decide +kernel
theorem zqtb:¬ (("word":Str) = "parts"):=by decide +kernel
theorem zstb:¬ (("value":Str) = "parts"):=by decide +kernel
theorem zynb (w:Str)(v:V)(t:Addr):putF "parts" (.ref t) (putF "value" v (putF "word" (.str w) []))=hfs w v t:=by
 rw[zrp,zzj zptb,zrp,zzj zqtb,zzj zstb,zrp];rfl
theorem zdrb {C D dx dy t l:Addr}{w:Str}{v:V}{k:Int}:HO.ins D dx (hfs w v t)≠HO.ins C dy (wfs l k):=by
 intro z;injection z with _ _ z
 exact absurd (congrArg yvg z) (by show ¬ (3=2);decide)
mutual
inductive IsW (D:Addr)(H:Hp):V->Wh->Prop where
 | mk {a dx t:Addr} {vs:List V} {w:Wh} (h1:H a=some (.ins D dx (hfs w.word (valV w.val) t))) (h2:H t=some (.tup vs)) (h3:IsWs D H vs w.parts):IsW D H (.ref a) w
inductive IsWs (D:Addr)(H:Hp):List V->List Wh->Prop where
 | nil:IsWs D H [] []
 | cons {v:V} {w:Wh} {vs:List V} {ws:List Wh}:IsW D H v w->IsWs D H vs ws->IsWs D H (v::vs) (w::ws)
end
mutual
theorem IsW.same {D:Addr}{H H':Hp}(s:Same H H'):∀{v:V} {w:Wh},IsW D H v w->IsW D H' v w
 | _,_,.mk h1 h2 h3=>.mk (s _ _ h1) (s _ _ h2) (h3.same s)
theorem IsWs.same {D:Addr}{H H':Hp}(s:Same H H'):∀{vs:List V} {ws:List Wh},IsWs D H vs ws->IsWs D H' vs ws
 | _,_,.nil=>.nil
 | _,_,.cons h t=>.cons (h.same s) (t.same s)
end
mutual
theorem IsW.but {D C p dy l:Addr}{k:Int}{H H':Hp}(b:But p H H')(hp:H p=some (.ins C dy (wfs l k))):∀{v:V} {w:Wh},IsW D H v w->IsW D H' v w
 | _,_,.mk h1 h2 h3=>.mk (b _ _ (zdl h1 hp zdrb) h1) (b _ _ (zdl h2 hp (by intro z;cases z)) h2) (h3.but b hp)
theorem IsWs.but {D C p dy l:Addr}{k:Int}{H H':Hp}(b:But p H H')(hp:H p=some (.ins C dy (wfs l k))):∀{vs:List V} {ws:List Wh},IsWs D H vs ws->IsWs D H' vs ws
 | _,_,.nil=>.nil
 | _,_,.cons h t=>.cons (h.but b hp) (t.but b hp)
end
theorem IsWs.length {D:Addr}{H:Hp}:∀{vs:List V} {ws:List Wh},IsWs D H vs ws->vs.length=ws.length
 | _,_,.nil=>rfl
 | _,_,.cons _ t=>by rw[yja,yja,t.length]
theorem IsWs.split {D:Addr}{H:Hp}:∀{xs:List Wh} {vs:List V} {ys:List Wh},IsWs D H vs (xs++ys)->IsWs D H (vs.take xs.length) xs∧IsWs D H (vs.drop xs.length) ys
 | [],vs,ys,h=>⟨by rw[ymf,ywl];exact .nil,by rw[ymf,ysj];exact h⟩
 | x::xs,_,ys,.cons h t=>by
  obtain⟨a,b⟩:=IsWs.split (xs:=xs) t;exact⟨.cons h a,b⟩
theorem zbu (xs:List V)(n:Nat):cutV xs none (some (n:Int))=xs.take n:=by
 unfold cutV;rw[HT.zgfb,HT.zbt,ysj,ylo]
 by_cases h:n≤xs.length
 ·rw[Nat.min_eq_left h]
 ·rw[Nat.min_eq_right (by omega),yla (yga _),yla (by omega)]
theorem zjl (xs:List V)(n:Nat):cutV xs (some (n:Int)) none=xs.drop n:=by
 unfold cutV;rw[HT.zgfb,HT.zbt]
 by_cases h:n≤xs.length
 ·rw[Nat.min_eq_left h,yla (by rw[yje];exact yga _)]
 ·rw[Nat.min_eq_right (by omega),yak,ywl,List.drop_eq_nil_of_le (by omega)]
theorem zrw {w:Wh}(h:w.ok)(hs:w.size≤9):(yya " " w.words).length≤200:=by
 have a:=zdk " " w.words;have b:=w.zbz;have c:=zeo (l:=w.words.map (·.length)) (k:=8) (λx hx=>by
  obtain⟨u,hu,rfl⟩:=ycc.mp hx;exact (Wh.zzlb h u hu).2.2)
 rw[yba] at c;have e:(" ":Str).length=1:=rfl;rw[e] at a;omega
theorem ztt:∀i:Nat,i<1000->i.log2<1920:=by decide +kernel
theorem znfb (w:Wh):yyo w.word ztu=some (.flat (.int (w.parts.length:Nat))):=by
 cases w<;>rfl
theorem zrqb (w:Wh):KTD.inKeys w.word ztu=true:=by
 cases w<;>rfl
def zqsb (D:Addr):Sp:=λvs H Q _=>Ex5 λx dx t (u:Str) v=>vs=[.ref x,.str u,v,.ref t]∧H x=some (.ins D dx [])∧Q .non (upd H x (.ins D dx (hfs u v t)))
theorem zvqb (T:Tx K mg):FnOk P w K mg base CX0 2 T.ztc.f T.ztc.d zli (zqsb T.zed):=by
 refine T.ztc.ok zor ?_;rintro f c A o s H vs Q E hr ⟨x,dx,t,u,v,rfl,hx,q⟩ X;refine⟨_,  (zca (zmm (pv 0) (pv 1) rfl)
  (zca (zmm (pv 0) (pv 2) rfl)
  (zea (zmm (pv 0) (pv 3) rfl)))),?_⟩
 refine⟨_,rfl,_,rfl,x,_,dx,_,rfl,hx,T.zjy,T.zak,(by show 0<1000;decide),?_⟩;refine⟨_,rfl,_,rfl,x,_,dx,_,rfl,zia,T.zjy,T.zwi,(by show 1<1000;decide),?_⟩;refine⟨_,rfl,_,rfl,x,_,dx,_,rfl,zia,T.zjy,T.zxi,(by rw[zrp,zzj zptb,zrp];show 2<1000;decide),?_⟩;show Q .non _
 rw[zvk,zvk,zynb];exact q
def TkAt (H:Hp)(l:Addr)(fl:List (Str×Wv)):Prop:=∃as:List Addr,H l=some (.lst (as.map V.ref))∧as.length=fl.length∧∀(i:Nat) a (x:Str×Wv),as[i]?=some a->fl[i]?=some x->H a=some (.tup [.str x.1,valV x.2])
theorem TkAt.same {H H':Hp}{l:Addr}{fl:List (Str×Wv)}(h:TkAt H l fl)(s:Same H H'):TkAt H' l fl:=by
 obtain⟨as,h1,h2,h3⟩:=h;exact⟨as,s _ _ h1,h2,λi a x e1 e2=>s _ _ (h3 i a x e1 e2)⟩
theorem TkAt.but {H H':Hp}{l p C dy wl:Addr}{k:Int}{fl:List (Str×Wv)}(h:TkAt H l fl)(b:But p H H')(hp:H p=some (.ins C dy (wfs wl k))):TkAt H' l fl:=by
 obtain⟨as,h1,h2,h3⟩:=h;exact⟨as,b _ _ (zdl h1 hp (by intro z;cases z)) h1,h2,λi a x e1 e2=>b _ _ (zdl (h3 i a x e1 e2) hp (by intro z;cases z)) (h3 i a x e1 e2)⟩
theorem TkAt.snoc {H:Hp}{l a:Addr}{fl:List (Str×Wv)}{x:Str×Wv}(h:TkAt H l fl)(ha:H a=some (.tup [.str x.1,valV x.2])){as:List Addr}(hl:H l=some (.lst (as.map V.ref))):TkAt (upd H l (.lst (as.map V.ref++[.ref a]))) l (fl++[x]):=by
 obtain⟨as',h1,h2,h3⟩:=h;have e:as'=as:=by
  rw[h1] at hl;injection hl with hl
  injection hl with hl
  exact List.map_inj_right (λx y z=>by injection z) |>.mp hl
 subst e;refine⟨as'++[a],?_,?_,λi b y e1 e2=>?_⟩
 ·rw[zia,yxa];rfl
 ·rw[yea,yea,h2];rfl
 ·by_cases hi:i<as'.length
  ·rw[yre hi] at e1;rw[yre (by omega)] at e2;have z:=h3 i b y e1 e2;rw[zdb (zdl z h1 (by intro z;cases z))];exact z
  ·have hi2:i<(as'++[a]).length:=(ysa.mp e1).1;rw[yea,yvc] at hi2;have ei:i=as'.length:=(by omega);rw[yic (by omega),ei,yak] at e1;rw[yic (by omega),ei,h2,yak] at e2;cases e1;cases e2;rw[zdb (zdl ha h1 (by intro z;cases z))];exact ha
def zaqb (D:Addr):Sp:=λvs H Q _=>Ex2 λl (y:Wh)=>vs=[.ref l]∧TkAt H l y.flat∧y.size≤9∧∀v H',Same H H'->IsW D H' v y->Q v H'
def spTV (C:Addr):Sp:=λvs H Q _=>Ex5 λp (ws rest:List Str) (k:Nat) (y:Wh)=>vs=[.ref p,.str y.word]∧WAt C H p ws k∧y.ok∧ws.drop k=y.val.words++rest∧∀H',WAt C H' p ws (k+y.val.words.length)->But p H H'->Q (valV y.val) H'
def spTW (C D:Addr):Sp:=λvs H Q _=>Ex5 λp (ws rest:List Str) (k:Nat) (y:Wh)=>vs=[.ref p]∧WAt C H p ws k∧y.ok∧y.size≤9∧ws.drop k=y.words++rest∧∀v H',WAt C H' p ws (k+y.words.length)->But p H H'->IsW D H' v y->Q v H'
theorem zub {ws rest:List Str}{k:Nat}{u:Str}(h:ws.drop k=u::rest):ws[k]?=some u∧ws.drop (k+1)=rest:=by
 constructor
 ·have e:(ws.drop k)[0]?=some u:=by rw[h];rfl
  rw[yxe] at e
  simpa using e
 ·rw[← ytj,h];rfl
theorem zgx (T:Tx K mg):FnOk P w K mg base CX0 4 T.zae.f T.zae.d zql (spTV T.zob):=by
 refine T.zae.ok zww ?_;rintro f c A o s H vs Q E hr ⟨p,ws,rest,k,y,rfl,W,ok,hd,q⟩ X;refine⟨_,  (zca (zvb (zna zne (pv 1) zma (zgb _))
   (zea (zta (zvc (pv 0) T.zib T.zpb.M (zyd T) hr (zoe T) .nil zpa)))
   zva)
  (zca (zvb (zna zne (pv 1) zma (zgb _))
   (zea (zta (zvc (pv 0) T.zib T.zxa.M (zwb T) hr (zbc T) .nil zpa)))
   zva)
  (zea (zta zmfb)))),?_⟩
 obtain⟨dx,l,h1,h2⟩:=id W;refine⟨_,rfl,rfl,_,rfl,?_⟩;cases y with
 | mark n =>
  refine iteT ?_;refine⟨_,rfl,p,dx,_,rfl,h1,zcc _ _ (by decide +kernel) (by decide +kernel),p,ws,k,n,rfl,W,(zub hd).1,ok,λH1 W1 B1=>?_⟩;exact q H1 W1 B1
 | force i =>
  refine iteF ?_;refine⟨_,rfl,rfl,_,rfl,iteT ?_⟩;refine⟨_,rfl,p,dx,_,rfl,h1,zcc _ _ (by decide +kernel) (by decide +kernel),p,ws,k,i,rfl,W,(zub hd).1,ok,λH1 W1 B1=>?_⟩;exact q H1 W1 B1
 | _=>exact iteF ⟨_,rfl,rfl,_,rfl,iteF (q H W (But.refl p H))⟩
theorem zgnb (T:Tx K mg)(kb:K.In base):FnOk P w K mg base CX0 4 T.zsm.f T.zsm.d zfeb (zaqb T.zed):=by
 refine T.zsm.ok zzl ?_;rintro f c A o s H vs Q E hr ⟨l,y,rfl,⟨as,h1,h2,h3⟩,hs,q⟩ X;refine⟨_,  (zca (zoa (i:=1) zzl.nd rfl (.inl rfl) (zgd zba))
  (zca (zlm yzd rfl (zxcb rfl T.zxl (zaa (pv 0) zba)) (zer (n:=2) rfl (zlc (zeb (i:=2) zzl.nd rfl (.inl rfl)) (zlc (zeb (i:=3) zzl.nd rfl (.inl rfl)) zbl)))
   (zca (zoa (i:=4) zzl.nd rfl (.inl rfl) (zbb (zwob (zis T kb)) (znb (v:=.ref T.zgn) rfl T.zaq rfl) (pv 2) (λ_ _=>rfl)))
   (zea (zoa (i:=1) zzl.nd rfl (.inl rfl) (zqb zlt (zgd (zaa (zcx T.ztc.M (zvqb T) hr rfl T.zqob (zfu T) .nil zpa (zaa (pv 2) (zaa (pv 3) (zaa (zya zrb rfl T.zkd yqe (zaa (zcd ztcb (pv 1) zqe (zpe (pv 4))) zba)) zba)))) zba)) (zcd ztcb (pv 1) (zpe (pv 4)) zqe))))))
  (zea (zta (zbb znc (pv 1) zfa (λ_ _=>rfl)))))),?_⟩
 refine⟨sz0,λw0 hw0=>?_⟩;have S0:Same H (upd H w0 (.lst [])):=zcb hw0 _;have fl:=y.zek;have len:(as.map V.ref).length=y.size:=by rw[yba,h2,fl]
 refine⟨_,rfl,l,as.map V.ref,rfl,SqL.of (S0 _ _ h1),?_⟩;refine zkrb (xs:=as.map V.ref) (λi σ H'=>Ex5 λwl vs o2 o3 o4=>σ=[some (.ref l),some (.ref wl),o2,o3,o4]∧Same H H'∧H' wl=some (.lst vs)∧IsWs T.zed H' vs (pend y (y.size-i))) ⟨w0,[],_,_,_,rfl,S0,zia,by rw[ylo,zax];exact .nil⟩ (λi σ H' _ ⟨_,_,_,_,_,_,S',_⟩=>SqL.of (S' _ _ h1)) ?_ ?_
 ·rintro i x σ H' hi hx ⟨wl,vs,o2,o3,o4,rfl,S1,e1,W1⟩;rw[len] at hi hx;have hj:y.size-1-i<y.size:=by omega
  obtain⟨z,t,ez⟩:=zycb hj;have ef:=zojb ez;rw[yqa] at hx;cases ea:as[y.size-1-i]? with
  | none =>
   rw[ea] at hx;cases hx
  | some a =>
  rw[ea] at hx;cases hx;have ha:=S1 _ _ (h3 _ _ _ ea ef);have ep:pend y (y.size-i)=z.parts++t:=by
   rw[show y.size-i=(y.size-1-i)+1 by omega];show step (pend y (y.size-1-i))=_
   rw[ez];rfl
  rw[ep] at W1;obtain⟨Wp,Wt⟩:=W1.split;have vl:=W1.length;rw[yea] at vl;have szp:=zgt y (y.size-i);have lez:(z.parts++t).length≤zgo (z.parts++t):=by
   have go:∀l:List Wh,l.length≤zgo l:=by
    intro l
    induction l with
    | nil=>exact yqb _
    | cons x r ih =>
     have e2:zgo (x::r)=x.size+zgo r:=(by simp[zgo]);have:=x.size_pos;rw[e2,yja];omega
   exact go _
  rw[ep] at szp;rw[yea] at lez;refine⟨a,_,rfl,SqT.of ha,rfl,_,_,rfl,_,_,rfl,rfl,?_⟩;refine⟨_,rfl,_,_,rfl,rfl,znfb z,?_⟩;refine⟨_,rfl,_,rfl,_,rfl,_,rfl,_,rfl,wl,vs,rfl,SqL.of e1,λs1 hs1=>?_⟩;have S2:=zcb hs1 (.lst (cutV vs none (some ((z.parts.length:Nat):Int))));refine⟨s1,_,rfl,.inl ⟨SqL.of zia,λtp htp=>?_⟩⟩;have S3:=zcb htp (.tup (cutV vs none (some ((z.parts.length:Nat):Int))));intro x dx nx ndx nex;refine⟨x,dx,tp,z.word,valV z.val,rfl,zia,rfl,?_⟩;rw[zvk];have etp:=zka (b:=x) (zia (H:=upd H' s1 (.lst (cutV vs none (some ((z.parts.length:Nat):Int))))) (a:=tp) (o:=.tup (cutV vs none (some ((z.parts.length:Nat):Int))))) nx;have etd:=zka (b:=dx) (zia (H:=upd H' s1 (.lst (cutV vs none (some ((z.parts.length:Nat):Int))))) (a:=tp) (o:=.tup (cutV vs none (some ((z.parts.length:Nat):Int))))) ndx;generalize hH3:upd (upd H' s1 (.lst (cutV vs none (some ((z.parts.length:Nat):Int))))) tp (.tup (cutV vs none (some ((z.parts.length:Nat):Int))))=H3 at *;have e3:H3 tp=some (.tup (vs.take z.parts.length)):=by rw[← hH3,zia,zbu]
  have S4:Same H3 (upd (upd H3 dx (.own x)) x (.ins T.zed dx (hfs z.word (valV z.val) tp))):=λb o e=>by
   rw[zdb (zka e nx),zdb (zka e ndx)];exact e
  have e4:upd (upd H3 dx (.own x)) x (.ins T.zed dx (hfs z.word (valV z.val) tp)) x=some (.ins T.zed dx (hfs z.word (valV z.val) tp)):=zia;generalize upd (upd H3 dx (.own x)) x (.ins T.zed dx (hfs z.word (valV z.val) tp))=H4 at *;have S14:Same H' H4:=S2.trans (S3.trans S4);refine⟨sz1,λq1 hq1=>?_⟩;have S5:=zcb hq1 (.lst [.ref x]);refine⟨_,rfl,_,rfl,_,rfl,wl,vs,rfl,SqL.of (S5 _ _ (S14 _ _ e1)),λs2 hs2=>?_⟩;have e5:upd H4 q1 (.lst [.ref x]) q1=some (.lst [.ref x]):=zia;generalize upd H4 q1 (.lst [.ref x])=H5 at *;have S6:=zcb hs2 (.lst (cutV vs (some ((z.parts.length:Nat):Int)) none));have e6:upd H5 s2 (.lst (cutV vs (some ((z.parts.length:Nat):Int)) none)) s2=some (.lst (vs.drop z.parts.length)):=by rw[zia,zjl]
  generalize upd H5 s2 (.lst (cutV vs (some ((z.parts.length:Nat):Int)) none))=H6 at *;refine⟨q1,s2,_,_,rfl,rfl,S6 _ _ e5,e6,?_,λr hr'=>?_⟩
  ·rw[yje,yvc];exact small (by omega)
  have S7:=zcb hr' (.lst ([.ref x]++vs.drop z.parts.length));have S37:Same H3 (upd H6 r (.lst ([.ref x]++vs.drop z.parts.length))):=S4.trans (S5.trans (S6.trans S7));have S17:Same H' (upd H6 r (.lst ([.ref x]++vs.drop z.parts.length))):=S14.trans (S5.trans (S6.trans S7));refine⟨r,_,_,_,_,rfl,S1.trans S17,zia,?_⟩;rw[show y.size-(i+1)=y.size-1-i by omega,ez];exact .cons (.mk ((S5.trans (S6.trans S7)) _ _ e4) (S37 _ _ e3) (Wp.same S17)) (Wt.same S17)
 ·rintro σ H' ⟨wl,vs,o2,o3,o4,rfl,S1,e1,W1⟩;rw[len,yak] at W1;have W1':IsWs T.zed H' vs [y]:=W1;cases W1' with
  | cons hv ht =>
  cases ht;exact⟨_,rfl,wl,_,_,_,rfl,rfl,SqL.of e1,rfl,q _ H' S1 hv⟩
theorem zopb {y z:Wh}{t:List Wh}{j:Nat}(e:pend y j=z::t):pend y (j+1)=z.parts++t:=by
 show step (pend y j)=_
 rw[e];rfl
theorem zrkb {y:Wh}{j:Nat}{x:Str×Wv}(h:y.flat[j]?=some x):y.flat.take j++[x]=y.flat.take (j+1):=by
 rw[ydb,h];rfl
theorem zch (T:Tx K mg)(kb:K.In base):FnOk P w K mg base CX0 5 T.zyb.f T.zyb.d zin (spTW T.zob T.zed):=by
 refine T.zyb.ok zxg ?_;rintro f c A o s H vs Q E hr ⟨p,ws,rest,k,y,rfl,W,ok,hs,hd,q⟩ X;refine⟨_,  (zca (zoa (i:=1) zxg.nd rfl (.inl rfl) (zgd zba))
  (zca (zoa (i:=2) zxg.nd rfl (.inl rfl) zfa)
  (zca (zwmb yzd (zna zkt (pv 2) zfa (zgb _))
   (zca (zvb (zna zne (zza zwa rfl T.zre yjb (zaa (pv 1) zba)) (znb (v:=.int 9) rfl T.zcj ⟨_,rfl⟩) (zgb _))
    (zea zxd)
    zva)
   (zca (zoa (i:=3) zxg.nd rfl (.inl rfl) (zvc (pv 0) T.zib T.zmc.M (zbg T).up hr (zkh T) .nil zpa))
   (zca (zvb (zna (zwz (zis T kb)) (pv 3) (znb (v:=.ref T.zgn) rfl T.zaq rfl) rfl)
    (zea zxd)
    zva)
   (zca (zme (zdi yac yed yfd zeh (pv 1) (zaa (ztb (zaa (pv 3) (zaa (zga (zgx T) hr rfl T.zae.m T.zae.F.kp (ztbb T) .nil zpa (zaa (pv 0) (zaa (pv 3) zba))) zba))) zba)))
   (zea (zdtb (i:=2) zxg.nd rfl (.inl rfl) (zqb zah (zbb (zwob (zis T kb)) (znb (v:=.ref T.zgn) rfl T.zaq rfl) (pv 3) (λ_ _=>rfl)) zfa) zkub)))))))
  (zea (zta (zga (zgnb T kb) hr rfl T.zsm.m T.zsm.F.kp (ztrb T) .nil zpa (zaa (pv 1) zba))))))),?_⟩
 refine⟨sz0,λl hl=>?_⟩;have fl:=y.zek;refine⟨λm σ H'=>Ex3 λ(j k':Nat) o=>m=y.size-j∧σ=[some (.ref p),some (.ref l),some (.int ((pend y j).length:Nat)),o]∧j≤y.size∧But p H H'∧WAt T.zob H' p ws k'∧ws.drop k'=zuk (pend y j)++rest∧k'+(zuk (pend y j)).length=k+y.words.length∧TkAt H' l (y.flat.take j),⟨_,0,k,none,rfl,rfl,yqb _,But.laid hl,W.at (zcb hl _),?_,?_,[],zia,rfl,?_⟩,?_⟩
 ·show _=zuk [y]++rest;rw[ziv];exact hd
 ·show _+(zuk [y]).length=_;rw[ziv]
 ·intro i a x e;simp at e
 rintro m σ H' ⟨j,k',o,rfl,rfl,hj,B,W',hd',hk',TA⟩;refine⟨_,rfl,_,_,rfl,rfl,_,rfl,?_⟩;obtain⟨as,t1,t2,t3⟩:=id TA;rw[ygb] at t2;refine ite2 (λc=>?_) (λc=>?_)
 ·have c':(0:Int)<(((pend y j).length:Nat):Int):=of_decide_eq_true c;have hjl:j<y.size:=by
   rcases ynl j y.size with z|z
   ·exact z
   ·have e:j=y.size:=by omega
    rw[e,zax] at c';exact absurd c' (by simp)
  obtain⟨z,t,ez⟩:=zycb hjl;have zok:z.ok:=znjb ok j z (by rw[ez];exact yra);have ef:=zojb ez;rw[ez,zocb] at hd' hk';have es:=zopb ez;obtain⟨u1,u2⟩:=zub (rest:=(z.val.words++zuk (z.parts++t))++rest) hd';have u2':ws.drop (k'+1)=z.val.words++(zuk (z.parts++t)++rest):=by rw[u2,ydd]
  have kws:k'<ws.length:=(ysa.mp u1).1;refine⟨_,fun σ' H' n=>n,?_⟩;refine⟨_,rfl,l,_,rfl,.inl (SqL.of t1),rfl,_,rfl,?_⟩;refine ite2 (λc1=>?_) (λc1=>?_)
  ·exfalso;have c1':=of_decide_eq_true c1;injection c1' with c1'
   rw[yba] at c1';omega
  obtain⟨dx,wl,w1,w2⟩:=id W';refine⟨_,rfl,p,dx,_,rfl,w1,zcc _ _ (by decide +kernel) (by decide +kernel),p,ws,k',z.word,rfl,W',u1,λH1 W1 B1=>?_⟩;refine⟨_,rfl,_,rfl,rfl,_,rfl,?_⟩;rw[zrqb];refine iteF ?_;have TA1:=TA.but B1 w1;obtain⟨dx1,wl1,w11,w12⟩:=id W1;have t11:=B1 _ _ (zdl t1 w1 (by intro z;cases z)) t1;refine⟨_,rfl,.inl ⟨rfl,_,SqL.of t11⟩,_,rfl,_,rfl,_,rfl,p,ws,_,k'+1,z,rfl,W1,zok,u2',λH2 W2 B2=>?_⟩;have TA2:=TA1.but B2 w11;have t12:=B2 _ _ (zdl t11 w11 (by intro z;cases z)) t11;refine⟨sz2,λa ha=>?_⟩;have S3:=zcb ha (.tup [.str z.word,valV z.val]);have TA3:=TA2.same S3;have t13:=S3 _ _ t12;have e3:upd H2 a (.tup [.str z.word,valV z.val]) a=some (.tup [.str z.word,valV z.val]):=zia;generalize upd H2 a (.tup [.str z.word,valV z.val])=H3 at *;have W3:=W2.at S3;obtain⟨dx3,wl3,w31,w32⟩:=id W3;have npl:p≠l:=zdl w31 t13 (by intro z;cases z);have nwl:wl3≠l:=by
   intro z;rw[z,t13] at w32;injection w32 with w32
   injection w32 with w32
   cases ws with
   | nil=>exact absurd kws (by simp)
   | cons u r =>
    cases as with
    | nil=>simp at w32
    | cons b r'=>simp at w32
  refine⟨l,_,_,rfl,rfl,t13,?_,?_⟩
  ·rw[yba];exact zse (by omega)
  have TA4:=TA3.snoc (x:=(z.word,z.val)) e3 t13;rw[zrkb ef] at TA4;have W4:WAt T.zob (upd H3 l (.lst (as.map V.ref++[.ref a]))) p ws (k'+1+z.val.words.length):=⟨dx3,wl3,by rw[zdb npl];exact w31,by rw[zdb nwl];exact w32⟩;have B4:But p H (upd H3 l (.lst (as.map V.ref++[.ref a]))):=λb o n e=>by
   rw[zdb (zka e hl)];exact S3 _ _ (B2 _ _ n (B1 _ _ n (B _ _ n e)))
  have em:(((pend y j).length:Nat):Int)+(((z.parts.length:Nat):Int)-1)=(((pend y (j+1)).length:Nat):Int):=by
   rw[ez,es,yja,yea];omega
  refine⟨_,rfl,_,rfl,_,_,rfl,rfl,znfb z,_,_,rfl,rfl,_,_,rfl,rfl,?_⟩;refine⟨y.size-(j+1),by omega,j+1,k'+1+z.val.words.length,_,rfl,(by rw[← em];rfl),hjl,B4,W4,?_,?_,TA4⟩
  ·rw[es,← ytj,u2',yuj]
  ·rw[es];rw[yja,yea] at hk';omega
 ·have c':¬ (0:Int)<(((pend y j).length:Nat):Int):=of_decide_eq_false (ypg.mpr c);have ej:j=y.size:=by
   rcases ynl j y.size with z|z
   ·obtain⟨z,t,ez⟩:=zycb z;rw[ez,yja] at c';omega
   ·omega
  subst ej;rw[zax] at hk';rw[yla (by omega)] at TA;have hk2:k'=k+y.words.length:=hk';subst hk2;refine⟨_,rfl,l,y,rfl,TA,hs,λv H2 S2 IW=>?_⟩;exact q v H2 (W'.at S2) (B.of_same S2) IW
theorem zlkb {u:Str}:∀{ss:List Str},u∈ss->inV (.str u) (ss.map V.str)=true
 | x::ss,h=>by
  show (eqV (.str x) (.str u)||inV (.str u) (ss.map V.str))=true
  rcases yka.mp h with rfl|h
  ·have e:eqV (.str u) (.str u)=true:=by show (u==u)=true;simp
   rw[e];rfl
  ·rw[zlkb h,Bool.or_true]
theorem zdbb:∀ss:List Str,(ss.map V.str).all zzu=true
 | []=>rfl
 | _::ss=>zdbb ss
def Kn (K:yda)(H:Hp)(t:Addr)(ss:List Str):Prop:=TupK K t ss∨H t=some (.tup (ss.map V.str))
theorem Kn.sq {K:yda}{H H':Hp}{t p C dx l:Addr}{k:Int}{ss:List Str}(h:Kn K H t ss)(hz:ss.length≤1000)(hp:H p=some (.ins C dx (wfs l k)))(b:But p H H'):SqT K H' t (ss.map V.str):=by
 rcases h with h|h
 ·exact h.sq hz H'
 ·exact SqT.of (b _ _ (zdl h hp (by intro z;cases z)) h)
theorem zcy {ws xs:List Str}{k:Nat}(h:ws.drop k=xs)(hx:xs≠[]):k+xs.length=ws.length:=by
 have e:=congrArg yvg h;rw[yje] at e;have:xs.length≠0:=λz=>hx (List.eq_nil_of_length_eq_zero z);omega
theorem zdp {ws xs ys:List Str}{k:Nat}(h:ws.drop k=xs++ys):ws.drop (k+xs.length)=ys:=by
 rw[← ytj,h,yuj]
def amtV:Wv->V
 | .non=>.int 0
 | .name n=>.str n
 | .num i=>.int i
def HvAt (D:Addr)(H:Hp)(x:V):Hv->Prop
 | .v y=>x=valV y
 | .w y=>IsW D H x y
def znw (D:Addr)(H:Hp)(v:V)(d:Deed):Prop:=Ex2 λa x=>v = .ref a∧H a=some (.tup [.str d.each,.str d.kind,amtV d.amt,x])∧IsW D H x d.whom
def zlp (D:Addr)(H:Hp)(v:V):Rule->Prop
 | .hold w y z=>Ex3 λa x u=>v = .ref a∧H a=some (.tup [.str "hold",.str w,x,u])∧HvAt D H x y∧IsW D H u z
 | .wen k y d=>Ex3 λa x u=>v = .ref a∧H a=some (.tup [.str "when",.str k,x,u])∧IsW D H x y∧znw D H u d
 | .instead k y w z=>Ex2 λa x=>v = .ref a∧H a=some (.tup [.str "instead",.str k,x,.str w,valV z])∧IsW D H x y
 | .may c d=>Ex2 λa u=>v = .ref a∧H a=some (.tup [.str "may",.int c,u])∧znw D H u d
theorem HvAt.same {D:Addr}{H H':Hp}(s:Same H H'){x:V}:∀{y:Hv},HvAt D H x y->HvAt D H' x y
 | .v _,h=>h
 | .w _,h=>IsW.same s h
theorem HvAt.but {D C p dy l:Addr}{k:Int}{H H':Hp}(b:But p H H')(hp:H p=some (.ins C dy (wfs l k))){x:V}:∀{y:Hv},HvAt D H x y->HvAt D H' x y
 | .v _,h=>h
 | .w _,h=>IsW.but b hp h
theorem znw.same {D:Addr}{H H':Hp}(s:Same H H'){v:V}{d:Deed}(h:znw D H v d):znw D H' v d:=by
 obtain⟨a,x,e,h1,h2⟩:=h;exact⟨a,x,e,s _ _ h1,h2.same s⟩
theorem zlp.same {D:Addr}{H H':Hp}(s:Same H H'){v:V}:∀{r:Rule},zlp D H v r->zlp D H' v r
 | .hold w y z,⟨a,x,u,e,h,p,q⟩=>⟨a,x,u,e,s _ _ h,p.same s,q.same s⟩
 | .wen k y d,⟨a,x,u,e,h,p,q⟩=>⟨a,x,u,e,s _ _ h,p.same s,q.same s⟩
 | .instead k y w z,⟨a,x,e,h,p⟩=>⟨a,x,e,s _ _ h,p.same s⟩
 | .may c d,⟨a,u,e,h,p⟩=>⟨a,u,e,s _ _ h,p.same s⟩
theorem zmib {k:Str}(h:k∈zzc):yyo k zxeb=some (.tup ((turns k).map PyData.str)):=by
 simp only[zzc,yka,ybe,or_false] at h
 rcases h with rfl|rfl|rfl|rfl|rfl|rfl|rfl<;>rfl
theorem zkib (k:Str):(turns k).length≤1000:=by
 unfold turns
 repeat' split
 all_goals decide
def zlvb (K:yda)(C:Addr):Sp:=λvs H Q _=>Ex6 λp t (ws:List Str) (k:Nat) (u:Str) (ss:List Str)=>vs=[.ref p,.ref t]∧WAt C H p ws k∧ws[k]?=some u∧u∈ss∧ss.length≤1000∧Kn K H t ss∧∀H',WAt C H' p ws (k+1)->But p H H'->Q (.str u) H'
def zovb (C:Addr):Sp:=λvs H Q _=>Ex6 λp (ws rest:List Str) (k:Nat) (u:Str) (v:Wv)=>vs=[.ref p,.str u]∧WAt C H p ws k∧zmp u v∧ws.drop k=v.words++rest∧∀H',WAt C H' p ws (k+v.words.length)->But p H H'->Q (amtV v) H'
def zrsb (C:Addr):Sp:=λvs H Q _=>Ex5 λp (ws:List Str) (k:Nat) (u:Str) (v:Wv)=>vs=[.ref p,.str u]∧WAt C H p ws k∧TurnOk u v∧ws.drop k=v.words∧∀H',WAt C H' p ws (k+v.words.length)->But p H H'->Q (valV v) H'
def zpmb (C D:Addr):Sp:=λvs H Q _=>Ex6 λp (ws rest:List Str) (k:Nat) (u:Str) (v:Hv)=>vs=[.ref p,.str u]∧WAt C H p ws k∧zni u v∧ws.drop k=v.words++rest∧∀x H',WAt C H' p ws (k+v.words.length)->But p H H'->HvAt D H' x v->Q x H'
def zwsb (C D:Addr):Sp:=λvs H Q _=>Ex4 λp (ws:List Str) (k:Nat) (d:Deed)=>vs=[.ref p]∧WAt C H p ws k∧d.ok∧ws.drop k=d.words∧∀v H',WAt C H' p ws ws.length->But p H H'->znw D H' v d->Q v H'
def ztw (C D:Addr)(f:Rule->Prop):Sp:=λvs H Q _=>Ex4 λp (ws:List Str) (k:Nat) (r:Rule)=>vs=[.ref p]∧f r∧WAt C H p ws k∧r.ok∧ws.drop k=r.words.drop 1∧∀v H',WAt C H' p ws ws.length->But p H H'->zlp D H' v r->Q v H'
theorem zfb (T:Tx K mg):FnOk P w K mg base CX0 3 T.zqa.f T.zqa.d zmf (zlvb K T.zob):=by
 refine T.zqa.ok zth ?_;rintro f c A o s H vs Q E hr ⟨p,t,ws,k,u,ss,rfl,W,hu,hm,hz,hk,q⟩ X;refine⟨_,  (zca (zoa (i:=2) zth.nd rfl (.inl rfl) (zvc (pv 0) T.zib T.zmc.M (zbg T) hr (zkh T) .nil zpa))
  (zca (zvb (zna zfr (pv 2) (pv 1) rfl)
   (zea zxd)
   zva)
  (zea (zta (pv 2))))),?_⟩
 obtain⟨dx,l,h1,h2⟩:=id W;refine⟨_,rfl,p,dx,_,rfl,h1,zcc _ _ (by decide +kernel) (by decide +kernel),p,ws,k,u,rfl,W,hu,λH1 W1 B1=>?_⟩;refine⟨_,rfl,_,rfl,t,_,rfl,.inr (hk.sq hz h1 B1),rfl,zdbb ss,_,rfl,?_⟩;have e:(if true=true then !inV (.str u) (ss.map V.str) else inV (.str u) (ss.map V.str))=false:=by rw[zlkb hm];rfl
 refine ite2 (λc=>absurd (e.symm.trans c) yeb) (λ_=>?_);exact⟨_,rfl,q H1 W1 B1⟩
theorem zwu (T:Tx K mg):FnOk P w K mg base CX0 4 T.zmd.f T.zmd.d zjk (zovb T.zob):=by
 refine T.zmd.ok zuu ?_;rintro f c A o s H vs Q E hr ⟨p,ws,rest,k,u,v,rfl,W,ok,hd,q⟩ X;refine⟨_,  (zca (zvb (zna zne (pv 1) zma (zgb _))
   (zea (zta zfa))
   zva)
  (zca (zvb (zna zte (pv 1) (ztb (zaa zma (zaa zma zba))) rfl)
   (zea (zta (zvc (pv 0) T.zib T.zpb.M (zyd T) hr (zoe T) .nil zpa)))
   zva)
  (zea (zta (zvc (pv 0) T.zib T.zxa.M (zwb T) hr (zbc T) .nil zpa))))),?_⟩
 obtain⟨dx,l,h1,h2⟩:=id W;have nam:∀{n:Str},zud n->ws.drop k=n::rest->∀{a:Addr} {o:HO},H a=none->(∀H',WAt T.zob H' p ws (k+1)->But p H H'->Q (.str n) H')->Ex4 λp' (ws':List Str) (k':Nat) (u':Str)=>[V.ref p]=[.ref p']∧WAt T.zob (upd H a o) p' ws' k'∧ws'[k']?=some u'∧zud u'∧∀H',WAt T.zob H' p' ws' (k'+1)->But p' (upd H a o) H'->Q (.str u') H' :=
  λ{_} hn e {a o} ha q=>⟨p,ws,k,_,rfl,W.at (zcb ha o),(zub e).1,hn,λH1 W1 B1=>q H1 W1 ((But.laid ha).trans B1)⟩
 have num:∀{i:Nat},i<1000->ws.drop k=(toString (i:Int):Str)::rest->∀{a:Addr} {o:HO},H a=none->(∀H',WAt T.zob H' p ws (k+1)->But p H H'->Q (.int i) H')->Ex4 λp' (ws':List Str) (k' i':Nat)=>[V.ref p]=[.ref p']∧WAt T.zob (upd H a o) p' ws' k'∧ws'[k']?=some (toString (i':Int):Str)∧i'<1000∧∀H',WAt T.zob H' p' ws' (k'+1)->But p' (upd H a o) H'->Q (.int i') H' :=
  λ{_} hn e {a o} ha q=>⟨p,ws,k,_,rfl,W.at (zcb ha o),(zub e).1,hn,λH1 W1 B1=>q H1 W1 ((But.laid ha).trans B1)⟩
 have at1:∀{a:Addr} {o:HO},H a=none->upd H a o p=some (.ins T.zob dx (wfs l (k:Int))):=λ{a o} ha=>by rw[zdb (zka h1 ha)];exact h1
 refine⟨_,rfl,rfl,_,rfl,?_⟩;cases ok with
 | leave=>exact iteT (q H W (But.refl p H))
 | gain hn =>
  refine iteF ⟨_,rfl,sz2,λa ha=>⟨a,_,rfl,.inr (SqT.of zia),rfl,rfl,_,rfl,iteT ?_⟩⟩;exact⟨_,rfl,p,dx,_,rfl,at1 ha,zcc _ _ (by decide +kernel) (by decide +kernel),nam hn hd ha q⟩
 | lack hn =>
  refine iteF ⟨_,rfl,sz2,λa ha=>⟨a,_,rfl,.inr (SqT.of zia),rfl,rfl,_,rfl,iteT ?_⟩⟩;exact⟨_,rfl,p,dx,_,rfl,at1 ha,zcc _ _ (by decide +kernel) (by decide +kernel),nam hn hd ha q⟩
 | hurt hn =>
  refine iteF ⟨_,rfl,sz2,λa ha=>⟨a,_,rfl,.inr (SqT.of zia),rfl,rfl,_,rfl,iteF ?_⟩⟩;exact⟨_,rfl,p,dx,_,rfl,at1 ha,zcc _ _ (by decide +kernel) (by decide +kernel),num hn hd ha q⟩
 | lose hn =>
  refine iteF ⟨_,rfl,sz2,λa ha=>⟨a,_,rfl,.inr (SqT.of zia),rfl,rfl,_,rfl,iteF ?_⟩⟩;exact⟨_,rfl,p,dx,_,rfl,at1 ha,zcc _ _ (by decide +kernel) (by decide +kernel),num hn hd ha q⟩
 | score hn =>
  refine iteF ⟨_,rfl,sz2,λa ha=>⟨a,_,rfl,.inr (SqT.of zia),rfl,rfl,_,rfl,iteF ?_⟩⟩;exact⟨_,rfl,p,dx,_,rfl,at1 ha,zcc _ _ (by decide +kernel) (by decide +kernel),num hn hd ha q⟩
 | draw hn =>
  refine iteF ⟨_,rfl,sz2,λa ha=>⟨a,_,rfl,.inr (SqT.of zia),rfl,rfl,_,rfl,iteF ?_⟩⟩;exact⟨_,rfl,p,dx,_,rfl,at1 ha,zcc _ _ (by decide +kernel) (by decide +kernel),num hn hd ha q⟩
theorem zso (T:Tx K mg):FnOk P w K mg base CX0 4 T.zgc.f T.zgc.d zlg (zrsb T.zob):=by
 refine T.zgc.ok zjo ?_;rintro f c A o s H vs Q E hr ⟨p,ws,k,u,v,rfl,W,ok,hd,q⟩ X;refine⟨_,  (zca (zvb (zna zte (pv 1) (ztb (zaa zma (zaa zma zba))) rfl)
   (zea (zta (zvc (pv 0) T.zib T.zxa.M (zwb T) hr (zbc T) .nil zpa)))
   zva)
  (zca (zvb (zna zne (pv 1) zma (zgb _))
   (zea (zta (zci (pv 0) T.zib T.zqa.M (zfb T) hr (zlb T) .nil zpa (zaa (znb (v:=.ref T.zwg) rfl T.ztg rfl) zba))))
   zva)
  (zea (zta zmfb)))),?_⟩
 obtain⟨dx,l,h1,h2⟩:=id W;refine⟨_,rfl,sz2,λa ha=>⟨a,_,rfl,.inr (SqT.of zia),rfl,rfl,_,rfl,?_⟩⟩;have S:=zcb ha (.tup [.str "less",.str "more"]);have W1:=W.at S;have at1:upd H a (.tup [.str "less",.str "more"]) p=some (.ins T.zob dx (wfs l (k:Int))):=by rw[zdb (zka h1 ha)];exact h1
 have B:But p H (upd H a (.tup [.str "less",.str "more"])):=But.laid ha;cases ok with
 | none=>exact iteF ⟨_,rfl,rfl,_,rfl,iteF (q _ W1 B)⟩
 | here=>exact iteF ⟨_,rfl,rfl,_,rfl,iteF (q _ W1 B)⟩
 | less hn =>
  refine iteT ?_;exact⟨_,rfl,p,dx,_,rfl,at1,zcc _ _ (by decide +kernel) (by decide +kernel),p,ws,k,_,rfl,W1,(zub hd).1,hn,λH2 W2 B2=>q H2 W2 (B.trans B2)⟩
 | more hn =>
  refine iteT ?_;exact⟨_,rfl,p,dx,_,rfl,at1,zcc _ _ (by decide +kernel) (by decide +kernel),p,ws,k,_,rfl,W1,(zub hd).1,hn,λH2 W2 B2=>q H2 W2 (B.trans B2)⟩
 | as hn =>
  refine iteF ⟨_,rfl,rfl,_,rfl,iteT ?_⟩;exact⟨_,rfl,p,dx,_,rfl,at1,zcc _ _ (by decide +kernel) (by decide +kernel),p,_,ws,k,_,zqc,rfl,W1,(zub hd).1,hn,(by decide),.inl T.zrg,λH2 W2 B2=>q H2 W2 (B.trans B2)⟩
theorem zfm (T:Tx K mg)(kb:K.In base):FnOk P w K mg base CX0 6 T.zzb.f T.zzb.d zlf (zpmb T.zob T.zed):=by
 refine T.zzb.ok zem ?_;rintro f c A o s H vs Q E hr ⟨p,ws,rest,k,u,v,rfl,W,ok,hd,q⟩ X;refine⟨_,  (zca (zvb (zna zte (pv 1) (ztb (zaa zma (zaa zma zba))) rfl)
   (zea (zta (zvc (pv 0) T.zib T.zpb.M (zyd T).up hr (zoe T) .nil zpa)))
   zva)
  (zca (zvb (zna zte (pv 1) (ztb (zaa zma (zaa zma (zaa zma zba)))) rfl)
   (zea (zta (zvc (pv 0) T.zib T.zxa.M (zwb T).up hr (zbc T) .nil zpa)))
   zva)
  (zca (zvb (zna zne (pv 1) zma (zgb _))
   (zea (zta (zga (zch T kb) hr rfl T.zyb.m T.zyb.F.kp (zji T) .nil zpa (zaa (pv 0) zba))))
   zva)
  (zea (zta zmfb))))),?_⟩
 obtain⟨dx,l,h1,h2⟩:=id W;refine⟨_,rfl,sz2,λa ha=>⟨a,_,rfl,.inr (SqT.of zia),rfl,rfl,_,rfl,?_⟩⟩;have S:=zcb ha (.tup [.str "gain",.str "lack"]);have W1:=W.at S;have B:But p H (upd H a (.tup [.str "gain",.str "lack"])):=But.laid ha;generalize upd H a (.tup [.str "gain",.str "lack"])=H0 at *;obtain⟨dx1,l1,at1,_⟩:=id W1;have two:∀{b:Addr},H0 b=none->WAt T.zob (upd H0 b (.tup [.str "be",.str "more",.str "less"])) p ws k∧But p H (upd H0 b (.tup [.str "be",.str "more",.str "less"])):=λ{b} hb=>⟨W1.at (zcb hb _),B.trans (But.laid hb)⟩;cases ok with
 | gain hn =>
  exact iteT ⟨_,rfl,p,dx1,_,rfl,at1,zcc _ _ (by decide +kernel) (by decide +kernel),p,ws,k,_,rfl,W1,(zub hd).1,hn,λH2 W2 B2=>q _ H2 W2 (B.trans B2) rfl⟩
 | lack hn =>
  exact iteT ⟨_,rfl,p,dx1,_,rfl,at1,zcc _ _ (by decide +kernel) (by decide +kernel),p,ws,k,_,rfl,W1,(zub hd).1,hn,λH2 W2 B2=>q _ H2 W2 (B.trans B2) rfl⟩
 | be hn =>
  refine iteF ⟨_,rfl,sz3,λb hb=>⟨b,_,rfl,.inr (SqT.of zia),rfl,rfl,_,rfl,iteT ?_⟩⟩;obtain⟨W3,B3⟩:=two hb;obtain⟨dx3,l3,at3,_⟩:=id W3;exact⟨_,rfl,p,dx3,_,rfl,at3,zcc _ _ (by decide +kernel) (by decide +kernel),p,ws,k,_,rfl,W3,(zub hd).1,hn,λH2 W2 B2=>q _ H2 W2 (B3.trans B2) rfl⟩
 | more hn =>
  refine iteF ⟨_,rfl,sz3,λb hb=>⟨b,_,rfl,.inr (SqT.of zia),rfl,rfl,_,rfl,iteT ?_⟩⟩;obtain⟨W3,B3⟩:=two hb;obtain⟨dx3,l3,at3,_⟩:=id W3;exact⟨_,rfl,p,dx3,_,rfl,at3,zcc _ _ (by decide +kernel) (by decide +kernel),p,ws,k,_,rfl,W3,(zub hd).1,hn,λH2 W2 B2=>q _ H2 W2 (B3.trans B2) rfl⟩
 | less hn =>
  refine iteF ⟨_,rfl,sz3,λb hb=>⟨b,_,rfl,.inr (SqT.of zia),rfl,rfl,_,rfl,iteT ?_⟩⟩;obtain⟨W3,B3⟩:=two hb;obtain⟨dx3,l3,at3,_⟩:=id W3;exact⟨_,rfl,p,dx3,_,rfl,at3,zcc _ _ (by decide +kernel) (by decide +kernel),p,ws,k,_,rfl,W3,(zub hd).1,hn,λH2 W2 B2=>q _ H2 W2 (B3.trans B2) rfl⟩
 | per hn =>
  refine iteF ⟨_,rfl,sz3,λb hb=>⟨b,_,rfl,.inr (SqT.of zia),rfl,rfl,_,rfl,iteF ?_⟩⟩;obtain⟨W3,B3⟩:=two hb;exact⟨_,rfl,rfl,_,rfl,iteT ⟨_,rfl,p,ws,rest,k,_,rfl,W3,hn.1,hn.2,hd,λx H2 W2 B2 IW=>q x H2 W2 (B3.trans B2) IW⟩⟩
 | mute =>
  refine iteF ⟨_,rfl,sz3,λb hb=>⟨b,_,rfl,.inr (SqT.of zia),rfl,rfl,_,rfl,iteF ?_⟩⟩;obtain⟨W3,B3⟩:=two hb;exact⟨_,rfl,rfl,_,rfl,iteF (q _ _ W3 B3 rfl)⟩
 | steal =>
  refine iteF ⟨_,rfl,sz3,λb hb=>⟨b,_,rfl,.inr (SqT.of zia),rfl,rfl,_,rfl,iteF ?_⟩⟩;obtain⟨W3,B3⟩:=two hb;exact⟨_,rfl,rfl,_,rfl,iteF (q _ _ W3 B3 rfl)⟩
theorem zgr (T:Tx K mg)(kb:K.In base):FnOk P w K mg base CX0 6 T.zld.f T.zld.d zln (zwsb T.zob T.zed):=by
 refine T.zld.ok zyg ?_;rintro f c A o s H vs Q E hr ⟨p,ws,k,d,rfl,W,ok,hd,q⟩ X;refine⟨_,  (zca (zoa (i:=1) zyg.nd rfl (.inl rfl) (zci (pv 0) T.zib T.zqa.M (zfb T).up hr (zlb T) .nil zpa (zaa (ztb (zaa zma (zaa zma zba))) zba)))
  (zca (zoa (i:=2) zyg.nd rfl (.inl rfl) (zci (pv 0) T.zib T.zqa.M (zfb T).up hr (zlb T) .nil zpa (zaa (znb (v:=.ref T.zlh) rfl T.zih rfl) zba)))
  (zca (zoa (i:=3) zyg.nd rfl (.inl rfl) (zga (zwu T).up hr rfl T.zmd.m T.zmd.F.kp (zpy T) .nil zpa (zaa (pv 0) (zaa (pv 2) zba))))
  (zca (zoa (i:=4) zyg.nd rfl (.inl rfl) (zga (zch T kb) hr rfl T.zyb.m T.zyb.F.kp (zji T) .nil zpa (zaa (pv 0) zba)))
  (zea (zta (ztb (zaa (pv 1) (zaa (pv 2) (zaa (pv 3) (zaa (pv 4) zba))))))))))),?_⟩
 obtain⟨dx,l,h1,h2⟩:=id W;obtain⟨u1,hd1⟩:=zub (show ws.drop k=d.each::(d.kind::(d.amt.words++d.whom.words)) from hd);obtain⟨u2,hd2⟩:=zub hd1;have hd3:=zdp hd2;refine⟨_,rfl,p,dx,_,rfl,h1,zcc _ _ (by decide +kernel) (by decide +kernel),sz2,λa ha=>?_⟩;refine⟨p,a,ws,k,_,zfw,rfl,W.at (zcb ha _),u1,ok.each,(by decide),.inr zia,λH1 W1 B1=>?_⟩;have B1':But p H H1:=(But.laid ha).trans B1;obtain⟨dx1,l1,at1,_⟩:=id W1;refine⟨_,rfl,p,dx1,_,rfl,at1,zcc _ _ (by decide +kernel) (by decide +kernel),p,_,ws,k+1,_,zzc,rfl,W1,u2,ok.amt.kind,(by decide),.inl T.zfh,λH2 W2 B2=>?_⟩;refine⟨_,rfl,_,rfl,p,ws,_,k+1+1,_,d.amt,rfl,W2,ok.amt,hd2,λH3 W3 B3=>?_⟩;refine⟨_,rfl,p,ws,[],_,d.whom,rfl,W3,ok.whom.1,ok.whom.2,(by rw[yfc];exact hd3),λv H4 W4 B4 IW=>?_⟩;refine⟨_,rfl,_,rfl,_,rfl,_,rfl,sz4,λb hb=>?_⟩;have en:=zcy hd3 d.whom.zpd;rw[en] at W4;exact q _ _ (W4.at (zcb hb _)) ((B1'.trans (B2.trans (B3.trans B4))).trans (But.laid hb)) ⟨b,v,rfl,zia,IW.same (zcb hb _)⟩
def zjub:Rule->Prop
 | .hold _ _ _=>True
 | _=>False
def zwvb:Rule->Prop
 | .wen _ _ _=>True
 | _=>False
def zikb:Rule->Prop
 | .instead _ _ _ _=>True
 | _=>False
def zxvb:Rule->Prop
 | .may _ _=>True
 | _=>False
theorem zbab (T:Tx K mg)(kb:K.In base):FnOk P w K mg base CX0 7 T.zye.f T.zye.d zkn (ztw T.zob T.zed zjub):=by
 refine T.zye.ok zoi ?_;rintro f c A o s H vs Q E hr ⟨p,ws,k,r,rfl,is,W,ok,hd,q⟩ X;refine⟨_,  (zca (zoa (i:=1) zoi.nd rfl (.inl rfl) (zci (pv 0) T.zib T.zqa.M (zfb T).up hr (zlb T) .nil zpa (zaa (znb (v:=.ref T.zjp) rfl T.zcp rfl) zba)))
  (zca (zoa (i:=2) zoi.nd rfl (.inl rfl) (zga (zfm T kb) hr rfl T.zzb.m T.zzb.F.kp (zfn T) .nil zpa (zaa (pv 0) (zaa (pv 1) zba))))
  (zca (zoa (i:=3) zoi.nd rfl (.inl rfl) (zga (zch T kb).up hr rfl T.zyb.m T.zyb.F.kp (zji T) .nil zpa (zaa (pv 0) zba)))
  (zea (zta (ztb (zaa zma (zaa (pv 1) (zaa (pv 2) (zaa (pv 3) zba)))))))))),?_⟩
 cases r with
 | hold u v y =>
  obtain⟨dx,l,h1,h2⟩:=id W;obtain⟨ok1,ok2⟩:=ok;obtain⟨u1,hd1⟩:=zub (show ws.drop k=u::(v.words++y.words) from hd);have hd2:=zdp hd1;refine⟨_,rfl,p,dx,_,rfl,h1,zcc _ _ (by decide +kernel) (by decide +kernel),p,_,ws,k,_,changes,rfl,W,u1,ok1.word,(by decide),.inl T.zwo,λH1 W1 B1=>?_⟩;refine⟨_,rfl,_,rfl,p,ws,y.words,k+1,_,v,rfl,W1,ok1,hd1,λx H2 W2 B2 HV=>?_⟩;obtain⟨dx2,l2,at2,_⟩:=id W2;refine⟨_,rfl,p,ws,[],_,y,rfl,W2,ok2.1,ok2.2,(by rw[yfc];exact hd2),λz H3 W3 B3 IW=>?_⟩;refine⟨_,rfl,_,rfl,_,rfl,sz4,λb hb=>?_⟩;rw[zcy hd2 y.zpd] at W3;exact q _ _ (W3.at (zcb hb _)) ((B1.trans (B2.trans B3)).trans (But.laid hb)) ⟨b,x,z,rfl,zia,(HV.but B3 at2).same (zcb hb _),IW.same (zcb hb _)⟩
 | wen=>exact is.elim
 | instead=>exact is.elim
 | may=>exact is.elim
theorem zaab (T:Tx K mg)(kb:K.In base):FnOk P w K mg base CX0 7 T.zxe.f T.zxe.d zjn (ztw T.zob T.zed zwvb):=by
 refine T.zxe.ok zyk ?_;rintro f c A o s H vs Q E hr ⟨p,ws,k,r,rfl,is,W,ok,hd,q⟩ X;refine⟨_,  (zca (zoa (i:=1) zyk.nd rfl (.inl rfl) (zci (pv 0) T.zib T.zqa.M (zfb T).up hr (zlb T) .nil zpa (zaa (znb (v:=.ref T.zgj) rfl T.zbj rfl) zba)))
  (zca (zoa (i:=2) zyk.nd rfl (.inl rfl) (zga (zch T kb).up hr rfl T.zyb.m T.zyb.F.kp (zji T) .nil zpa (zaa (pv 0) zba)))
  (zca (zme (zci (pv 0) T.zib T.zqa.M (zfb T).up hr (zlb T) .nil zpa (zaa (ztb (zaa zma zba)) zba)))
  (zea (zta (ztb (zaa zma (zaa (pv 1) (zaa (pv 2) (zaa (zga (zgr T kb) hr rfl T.zld.m T.zld.F.kp (zeu T) .nil zpa (zaa (pv 0) zba)) zba)))))))))),?_⟩
 cases r with
 | wen u y d =>
  obtain⟨dx,l,h1,h2⟩:=id W;obtain⟨ok1,ok2,ok3⟩:=ok;obtain⟨u1,hd1⟩:=zub (show ws.drop k=u::(y.words++("do":Str)::d.words) from hd);have hd2:=zdp hd1;obtain⟨u3,hd3⟩:=zub hd2;refine⟨_,rfl,p,dx,_,rfl,h1,zcc _ _ (by decide +kernel) (by decide +kernel),p,_,ws,k,_,zge,rfl,W,u1,ok1,(by decide),.inl T.zzi,λH1 W1 B1=>?_⟩;refine⟨_,rfl,p,ws,_,k+1,y,rfl,W1,ok2.1,ok2.2,hd1,λx H2 W2 B2 IW=>?_⟩;obtain⟨dx2,l2,at2,_⟩:=id W2;refine⟨_,rfl,p,dx2,_,rfl,at2,zcc _ _ (by decide +kernel) (by decide +kernel),sz1,λa ha=>?_⟩;refine⟨p,a,ws,_,_,["do"],rfl,W2.at (zcb ha _),u3,yia.mpr rfl,(by decide),.inr zia,λH3 W3 B3=>?_⟩;have B3':But p H2 H3:=(But.laid ha).trans B3;obtain⟨dx3,l3,at3,_⟩:=id W3;refine⟨_,rfl,_,rfl,_,rfl,p,ws,_,d,rfl,W3,ok3,hd3,λz H4 W4 B4 ID=>?_⟩;refine⟨sz4,λb hb=>?_⟩;exact q _ _ (W4.at (zcb hb _)) ((B1.trans (B2.trans (B3'.trans B4))).trans (But.laid hb)) ⟨b,x,z,rfl,zia,((IW.but B3' at2).but B4 at3).same (zcb hb _),ID.same (zcb hb _)⟩
 | hold=>exact is.elim
 | instead=>exact is.elim
 | may=>exact is.elim
theorem zmt (T:Tx K mg)(kb:K.In base):FnOk P w K mg base CX0 6 T.zad.f T.zad.d zkj (ztw T.zob T.zed zikb):=by
 refine T.zad.ok zvf ?_;rintro f c A o s H vs Q E hr ⟨p,ws,k,r,rfl,is,W,ok,hd,q⟩ X;refine⟨_,  (zca (zoa (i:=1) zvf.nd rfl (.inl rfl) (zci (pv 0) T.zib T.zqa.M (zfb T).up hr (zlb T) .nil zpa (zaa (znb (v:=.ref T.zlh) rfl T.zih rfl) zba)))
  (zca (zoa (i:=2) zvf.nd rfl (.inl rfl) (zga (zch T kb) hr rfl T.zyb.m T.zyb.F.kp (zji T) .nil zpa (zaa (pv 0) zba)))
  (zca (zme (zci (pv 0) T.zib T.zqa.M (zfb T).up hr (zlb T) .nil zpa (zaa (ztb (zaa zma zba)) zba)))
  (zca (zoa (i:=3) zvf.nd rfl (.inl rfl) (zci (pv 0) T.zib T.zqa.M (zfb T).up hr (zlb T) .nil zpa (zaa (zbb (zcrb rfl T.zrx) (znb (v:=.ref T.zsy) rfl T.zxx rfl) (pv 1) (λ_ _=>rfl)) zba)))
  (zea (zta (ztb (zaa zma (zaa (pv 1) (zaa (pv 2) (zaa (pv 3) (zaa (zga (zso T).up hr rfl T.zgc.m T.zgc.F.kp (zdq T) .nil zpa (zaa (pv 0) (zaa (pv 3) zba))) zba)))))))))))),?_⟩
 cases r with
 | instead u y t v =>
  obtain⟨dx,l,h1,h2⟩:=id W;obtain⟨ok1,ok2,ok3,ok4⟩:=ok;obtain⟨u1,hd1⟩:=zub (show ws.drop k=u::(y.words++("do":Str)::t::v.words) from hd);have hd2:=zdp hd1;obtain⟨u3,hd3⟩:=zub hd2;obtain⟨u4,hd4⟩:=zub hd3;refine⟨_,rfl,p,dx,_,rfl,h1,zcc _ _ (by decide +kernel) (by decide +kernel),p,_,ws,k,_,zzc,rfl,W,u1,ok1,(by decide),.inl T.zfh,λH1 W1 B1=>?_⟩;refine⟨_,rfl,p,ws,_,k+1,y,rfl,W1,ok2.1,ok2.2,hd1,λx H2 W2 B2 IW=>?_⟩;obtain⟨dx2,l2,at2,_⟩:=id W2;refine⟨_,rfl,p,dx2,_,rfl,at2,zcc _ _ (by decide +kernel) (by decide +kernel),sz1,λa ha=>?_⟩;refine⟨p,a,ws,_,_,["do"],rfl,W2.at (zcb ha _),u3,yia.mpr rfl,(by decide),.inr zia,λH3 W3 B3=>?_⟩;have B3':But p H2 H3:=(But.laid ha).trans B3;obtain⟨dx3,l3,at3,_⟩:=id W3;refine⟨_,rfl,p,dx3,_,rfl,at3,zcc _ _ (by decide +kernel) (by decide +kernel),_,rfl,_,_,rfl,rfl,zmib ok1,λb hb=>?_⟩;refine⟨p,b,ws,_,_,turns u,rfl,W3,u4,ok3,zkib u,.inl hb,λH4 W4 B4=>?_⟩;obtain⟨dx4,l4,at4,_⟩:=id W4;refine⟨_,rfl,_,rfl,_,rfl,_,rfl,_,rfl,p,ws,_,_,v,rfl,W4,ok4,hd4,λH5 W5 B5=>?_⟩;refine⟨sz5,λb hb=>?_⟩;have en:k+1+y.words.length+1+1+v.words.length=ws.length:=by
   have:=zcy hd3 (yhb _ _);rw[yja] at this;omega
  rw[en] at W5;exact q _ _ (W5.at (zcb hb _)) ((B1.trans (B2.trans (B3'.trans (B4.trans B5)))).trans (But.laid hb)) ⟨b,x,rfl,zia,(((IW.but B3' at2).but B4 at3).but B5 at4).same (zcb hb _)⟩
 | hold=>exact is.elim
 | wen=>exact is.elim
 | may=>exact is.elim
theorem zbdb (T:Tx K mg)(kb:K.In base):FnOk P w K mg base CX0 7 T.zgg.f T.zgg.d zgq (ztw T.zob T.zed zxvb):=by
 refine T.zgg.ok zks ?_;rintro f c A o s H vs Q E hr ⟨p,ws,k,r,rfl,is,W,ok,hd,q⟩ X;refine⟨_,  (zca (zoa (i:=1) zks.nd rfl (.inl rfl) (zvc (pv 0) T.zib T.zxa.M (zwb T).up hr (zbc T) .nil zpa))
  (zca (zme (zci (pv 0) T.zib T.zqa.M (zfb T).up hr (zlb T) .nil zpa (zaa (ztb (zaa zma zba)) zba)))
  (zea (zta (ztb (zaa zma (zaa (pv 1) (zaa (zga (zgr T kb) hr rfl T.zld.m T.zld.F.kp (zeu T) .nil zpa (zaa (pv 0) zba)) zba)))))))),?_⟩
 cases r with
 | may c d =>
  obtain⟨dx,l,h1,h2⟩:=id W;obtain⟨ok1,ok2⟩:=ok;obtain⟨u1,hd1⟩:=zub (show ws.drop k=(toString (c:Int):Str)::("do":Str)::d.words from hd);obtain⟨u3,hd3⟩:=zub hd1;refine⟨_,rfl,p,dx,_,rfl,h1,zcc _ _ (by decide +kernel) (by decide +kernel),p,ws,k,c,rfl,W,u1,ok1,λH2 W2 B2=>?_⟩;obtain⟨dx2,l2,at2,_⟩:=id W2;refine⟨_,rfl,p,dx2,_,rfl,at2,zcc _ _ (by decide +kernel) (by decide +kernel),sz1,λa ha=>?_⟩;refine⟨p,a,ws,_,_,["do"],rfl,W2.at (zcb ha _),u3,yia.mpr rfl,(by decide),.inr zia,λH3 W3 B3=>?_⟩;have B3':But p H2 H3:=(But.laid ha).trans B3;refine⟨_,rfl,_,rfl,p,ws,_,d,rfl,W3,ok2,hd3,λz H4 W4 B4 ID=>?_⟩;refine⟨sz3,λb hb=>?_⟩;exact q _ _ (W4.at (zcb hb _)) ((B2.trans (B3'.trans B4)).trans (But.laid hb)) ⟨b,z,rfl,zia,ID.same (zcb hb _)⟩
 | hold=>exact is.elim
 | wen=>exact is.elim
 | instead=>exact is.elim
def zwib:Rule->Str
 | .hold _ _ _=>"hold"
 | .wen _ _ _=>"when"
 | .instead _ _ _ _=>"instead"
 | .may _ _=>"may"
theorem zgjb (r:Rule):r.words=(zwib r)::r.words.drop 1:=by cases r<;>rfl
theorem zfjb (r:Rule):(zwib r)∈sorts:=by
 cases r with
 | hold=>exact (by decide:("hold":Str)∈sorts)
 | wen=>exact (by decide:("when":Str)∈sorts)
 | instead=>exact (by decide:("instead":Str)∈sorts)
 | may=>exact (by decide:("may":Str)∈sorts)
theorem zeib (v:Wv):v.words.length≤1:=by cases v<;>simp[Wv.words]
theorem zcz {y:Wh}(h:plain y):y.words.length≤18:=by
 have a:=y.zbz;have b:=h.2;omega
theorem zpub {u:Str}{v:Hv}(h:zni u v):v.words.length≤18:=by
 cases v with
 | v x=>exact ymb (zeib x) (by decide)
 | w y =>
  cases h with
  | per h=>exact zcz h
theorem zegb {d:Deed}(h:d.ok):d.words.length≤21:=by
 have a:=zcz h.whom;have b:=zeib d.amt;have e:d.words.length=d.amt.words.length+d.whom.words.length+1+1:=by
  show (d.each::d.kind::(d.amt.words++d.whom.words)).length=_
  rw[yja,yja,yea]
 omega
theorem ztmb {r:Rule}(h:r.ok):r.words.length≤50:=by
 cases r with
 | hold u v y =>
  have a:=zcz h.2;have b:=zpub h.1;show (("hold":Str)::u::(v.words++y.words)).length≤50
  rw[yja,yja,yea];omega
 | wen u y d =>
  have a:=zcz h.2.1;have b:=zegb h.2.2;show (("when":Str)::u::(y.words++("do":Str)::d.words)).length≤50
  rw[yja,yja,yea,yja];omega
 | instead u y t v =>
  have a:=zcz h.2.1;have b:=zeib v;show (("instead":Str)::u::(y.words++("do":Str)::t::v.words)).length≤50
  rw[yja,yja,yea,yja,yja];omega
 | may c d =>
  have b:=zegb h.2;show (("may":Str)::(toString (c:Int):Str)::("do":Str)::d.words).length≤50
  rw[yja,yja,yja];omega
theorem text_len {ws:List Str}(h:∀u∈ws,zmw u):(yya " " ws).length≤9*ws.length:=by
 have a:=zdk " " ws;have c:=zeo (l:=ws.map (·.length)) (k:=8) (λx hx=>by
  obtain⟨u,hu,rfl⟩:=ycc.mp hx;exact (h u hu).2.2)
 rw[yba] at c;have e:(" ":Str).length=1:=rfl;rw[e] at a;omega
theorem zct {r:Rule}(h:r.ok):(zdg r).length≤450:=by
 have a:=text_len (ws:=r.words) (λu hu=>(Rule.znh h u hu).1);have b:=ztmb h;show (yya " " r.words).length≤450
 omega
def ztsb (D:Addr):Sp:=λvs H Q _=>∃r:Rule,vs=[.str (zdg r)]∧r.ok∧∀v H',Same H H'->zlp D H' v r->Q v H'
theorem zcab (T:Tx K mg)(kb:K.In base):FnOk P w K mg base CX0 8 T.zze.f T.zze.d zmn (ztsb T.zed):=by
 refine T.zze.ok zie ?_;rintro f c A o s H vs Q E hr ⟨r,rfl,ok,q⟩ X;refine⟨_,  (zca (zoa (i:=1) zie.nd rfl (.inl rfl) (zcx T.zfc.M (zofb T).up hr rfl T.zidb (zsk T) .nil zpa (zaa (pv 0) zba)))
  (zca (zoa (i:=2) zie.nd rfl (.inl rfl) (zci (pv 1) T.zib T.zqa.M (zfb T).up hr (zlb T) .nil zpa (zaa (znb (v:=.ref T.zty) rfl T.zyx rfl) zba)))
  (zca (zvb (zna zne (pv 2) zma (zgb _))
   (zea (zoa (i:=3) zie.nd rfl (.inl rfl) (zga (zbab T kb) hr rfl T.zye.m T.zye.F.kp (zsdb T) .nil zpa (zaa (pv 1) zba))))
   (zea (zvb (zna zne (pv 2) zma (zgb _))
    (zea (zoa (i:=3) zie.nd rfl (.inl rfl) (zga (zaab T kb) hr rfl T.zxe.m T.zxe.F.kp (zrdb T) .nil zpa (zaa (pv 1) zba))))
    (zea (zvb (zna zne (pv 2) zma (zgb _))
     (zea (zoa (i:=3) zie.nd rfl (.inl rfl) (zga (zmt T kb).up hr rfl T.zad.m T.zad.F.kp (zbv T) .nil zpa (zaa (pv 1) zba))))
     (zea (zoa (i:=3) zie.nd rfl (.inl rfl) (zga (zbdb T kb) hr rfl T.zgg.m T.zgg.F.kp (zthb T) .nil zpa (zaa (pv 1) zba)))))))))
  (zca (zme (zvc (pv 1) T.zib T.zrc.M (zcl T).up hr (zrm T) .nil zpa))
  (zea (zta (pv 3))))))),?_⟩
 have tl:=zct ok;refine⟨_,rfl,?_⟩;intro x dx nx ndx nex;refine⟨x,dx,_,rfl,zia,(by omega),λH1 W1 B1=>⟨rfl,?_⟩⟩;have es:yjf (zdg r) " " = r.words:=zop (c:=32) r.zpd (λu hu=>(Rule.znh ok u hu).1.1);rw[es] at W1;have S1:Same H H1:=λb o e=>B1 b o (zka e nx) (by rw[zdb (zka e nx),zdb (zka e ndx)];exact e);obtain⟨dx1,l1,at1,_⟩:=id W1;refine⟨_,rfl,x,dx1,_,rfl,at1,zcc _ _ (by decide +kernel) (by decide +kernel),x,_,r.words,0,(zwib r),sorts,rfl,W1,(by rw[zgjb r];rfl),zfjb r,(by decide),.inl T.zsx,λH2 W2 B2=>?_⟩;have fin:∀{v:V} {H3:Hp},WAt T.zob H3 x r.words r.words.length->But x H2 H3->zlp T.zed H3 v r->Q v H3:=λ{v H3} W3 B3 IR =>
  q v H3 (λb o e=>B3 b o (zka e nx) (B2 b o (zka e nx) (S1 b o e))) IR
 refine⟨_,rfl,rfl,_,rfl,?_⟩;cases r with
 | hold u v y =>
  refine iteT ⟨_,rfl,x,_,1,.hold u v y,rfl,trivial,W2,ok,rfl,λz H3 W3 B3 IR=>?_⟩;obtain⟨dx3,l3,at3,_⟩:=id W3;exact⟨_,rfl,x,dx3,_,rfl,at3,zcc _ _ (by decide +kernel) (by decide +kernel),x,_,rfl,W3,⟨_,rfl,fin W3 B3 IR⟩⟩
 | wen u y d =>
  refine iteF ⟨_,rfl,rfl,_,rfl,iteT ⟨_,rfl,x,_,1,.wen u y d,rfl,trivial,W2,ok,rfl,λz H3 W3 B3 IR=>?_⟩⟩;obtain⟨dx3,l3,at3,_⟩:=id W3;exact⟨_,rfl,x,dx3,_,rfl,at3,zcc _ _ (by decide +kernel) (by decide +kernel),x,_,rfl,W3,⟨_,rfl,fin W3 B3 IR⟩⟩
 | instead u y t v =>
  refine iteF ⟨_,rfl,rfl,_,rfl,iteF ⟨_,rfl,rfl,_,rfl,iteT ⟨_,rfl,x,_,1,.instead u y t v,rfl,trivial,W2,ok,rfl,λz H3 W3 B3 IR=>?_⟩⟩⟩;obtain⟨dx3,l3,at3,_⟩:=id W3;exact⟨_,rfl,x,dx3,_,rfl,at3,zcc _ _ (by decide +kernel) (by decide +kernel),x,_,rfl,W3,⟨_,rfl,fin W3 B3 IR⟩⟩
 | may c d =>
  refine iteF ⟨_,rfl,rfl,_,rfl,iteF ⟨_,rfl,rfl,_,rfl,iteF ⟨_,rfl,x,_,1,.may c d,rfl,trivial,W2,ok,rfl,λz H3 W3 B3 IR=>?_⟩⟩⟩;obtain⟨dx3,l3,at3,_⟩:=id W3;exact⟨_,rfl,x,dx3,_,rfl,at3,zcc _ _ (by decide +kernel) (by decide +kernel),x,_,rfl,W3,⟨_,rfl,fin W3 B3 IR⟩⟩
def cfs (n:Str)(c f:Nat)(m t:Addr):List (Str×V):=[("name",.str n),("cost",.int c),("force",.int f),("marks",.ref m),("rules",.ref t)]
inductive IsRules (D:Addr)(H:Hp):List V->List Rule->Prop where
 | nil:IsRules D H [] []
 | cons {v:V} {r:Rule} {vs:List V} {rs:List Rule}:zlp D H v r->IsRules D H vs rs->IsRules D H (v::vs) (r::rs)
theorem IsRules.same {D:Addr}{H H':Hp}(s:Same H H'):∀{vs:List V} {rs:List Rule},IsRules D H vs rs->IsRules D H' vs rs
 | _,_,.nil=>.nil
 | _,_,.cons h t=>.cons (h.same s) (t.same s)
theorem IsRules.snoc {D:Addr}{H:Hp}{v:V}{r:Rule}(h:zlp D H v r):∀{vs:List V} {rs:List Rule},IsRules D H vs rs->IsRules D H (vs++[v]) (rs++[r])
 | _,_,.nil=>.cons h .nil
 | _,_,.cons h' t=>.cons h' (IsRules.snoc h t)
theorem IsRules.length {D:Addr}{H:Hp}:∀{vs:List V} {rs:List Rule},IsRules D H vs rs->vs.length=rs.length
 | _,_,.nil=>rfl
 | _,_,.cons _ t=>congrArg (· + 1) t.length
theorem IsRules.get {D:Addr}{H:Hp}:∀{vs:List V} {rs:List Rule} {i:Nat} {v:V},IsRules D H vs rs->vs[i]?=some v->∃r,rs[i]?=some r∧zlp D H v r
 | _,_,0,_,.cons h _,e=>by cases e;exact⟨_,rfl,h⟩
 | _,_,i+1,_,.cons _ t,e=>t.get (i:=i) e
def zipb (B D:Addr)(H:Hp)(v:V)(c:Crd):Prop:=Ex5 λa dx m t vs=>v = .ref a∧H a=some (.ins B dx (cfs c.name c.cost c.force m t))∧H m=some (.tup (c.marks.map V.str))∧H t=some (.tup vs)∧IsRules D H vs c.rules
def zvpb:Sp:=λvs H Q _=>∃ms:List Str,vs=[.str (zfi ms)]∧Marks ms∧∀m H',Same H H'->H' m=some (.tup (ms.map V.str))->Q (.ref m) H'
def zsgb (B:Addr):Sp:=λvs H Q _=>Ex7 λx dx m t (n:Str) (c f:Nat)=>vs=[.ref x,.str n,.int c,.int f,.ref m,.ref t]∧H x=some (.ins B dx [])∧Q .non (upd H x (.ins B dx (cfs n c f m t)))
def zrgb (B D:Addr):Sp:=λvs H Q _=>∃c:Crd,vs=[.str c.text]∧c.ok∧∀v H',Same H H'->zipb B D H' v c->Q v H'
theorem zgob (n:Str)(c f:V)(m t:Addr):putF "rules" (.ref t) (putF "marks" (.ref m) (putF "force" f (putF "cost" c (putF "name" (.str n) []))))=([("name",.str n),("cost",c),("force",f),("marks",.ref m),("rules",.ref t)]:List (Str×V)):=by
 repeat (first|rw[zrp]|rw[zzj (by decide +kernel)])
theorem znp {K:yda}{H:Hp}:∀xs:List Str,DVs K H (xs.map V.str) (xs.map .str)
 | []=>.nil
 | x::r=>.cons (.str x) (znp r)
theorem zdgb:∀xs:List Str,yaf (xs.map .str) (xs.map .str)=true
 | []=>by simp[yaf]
 | x::r=>by simp[yaf,yig,zdgb r]
theorem zwqb (T:Tx K mg):FnOk P w K mg base CX0 2 T.zuc.f T.zuc.d zmi (zsgb T.zid):=by
 refine T.zuc.ok zpr ?_;rintro f c A o s H vs Q E hr ⟨x,dx,m,t,n,c,f,rfl,hx,q⟩ X;refine⟨_,  (zca (zmm (pv 0) (pv 1) rfl)
  (zca (zmm (pv 0) (pv 2) rfl)
  (zca (zmm (pv 0) (pv 3) rfl)
  (zca (zmm (pv 0) (pv 4) rfl)
  (zea (zmm (pv 0) (pv 5) rfl)))))),?_⟩
 refine⟨_,rfl,_,rfl,x,_,dx,_,rfl,hx,T.zgk,T.zbk,(by show 0<1000;decide),?_⟩;refine⟨_,rfl,_,rfl,x,_,dx,_,rfl,zia,T.zgk,T.zck,(by show 1<1000;decide),?_⟩;refine⟨_,rfl,_,rfl,x,_,dx,_,rfl,zia,T.zgk,T.zyi,(by show 2<1000;decide),?_⟩;refine⟨_,rfl,_,rfl,x,_,dx,_,rfl,zia,T.zgk,T.zpf,(by show 3<1000;decide),?_⟩;refine⟨_,rfl,_,rfl,x,_,dx,_,rfl,zia,T.zgk,T.zdh,(by show 4<1000;decide),?_⟩;show Q .non _
 rw[zvk,zvk,zvk,zvk,zgob];exact q
theorem zrfb {n:Str}(h:zud n):ydf (.str n)=true:=by
 rw[ydf];unfold PyData.strOk;rw[← Array.all_toList,yvf];intro c hc;have:=(h.2.2 c hc).2;simp;omega
theorem zqx:∀xs:List Str,(∀x∈xs,ydf (.str x)=true)->yqg (xs.map .str)=true
 | [],_=>by simp[yqg]
 | x::r,h=>by
  have h1:=h x yra;have h2:=zqx r λy hy=>h y (yta _ hy);rw[yib,yqg,h1,h2];rfl
theorem zey:∀xs:List Str,yoh (xs.map .str)=0
 | []=>by simp[yoh]
 | x::r=>by simp[yoh,ypi,zey r]
theorem zrq {ms:List Str}(h:∀m∈ms,zud m):yke (.list (ms.map .str))=true:=by
 unfold yke;rw[ydf,zqx ms (λx hx=>zrfb (h x hx)),ypi,zey];rfl
theorem zix (T:Tx K mg):FnOk P w K mg base CX0 3 T.zbe.f T.zbe.d zrl zvpb:=by
 refine T.zbe.ok zko ?_;rintro f c A o s H vs Q E hr ⟨ms,rfl,hm,q⟩ X;refine⟨_,  (zca (zvb (zna zne (pv 0) zma (zgb _))
   (zea (zta (ztb zba)))
   zva)
  (zca (zoa (i:=1) zko.nd rfl (.inl rfl) (zdi yhc yej yfj zpx (pv 0) (zaa zma zba)))
  (zca (zvb (zal (zkm (zza (zoy rfl) rfl T.zlgb boot_all (zaa (zwc (own:=["mark"]) (cap:=[]) rfl (zsb.chk rfl rfl) .nil (zag (pv 1)) (λ_ _ _ _=>(zeb (i:=0) (show yyc (["mark"]:List Str) by decide +kernel) rfl (.inl rfl))) (λ_ _ _ _=>zle) (λ_ _ _ _=>by exact (zga (zwv T) hr rfl T.zuf.m T.zuf.F.kp (zybb T) .nil zpa (zaa (pv 0) zba)))) zba))))
   (zea zxd)
   zva)
  (zca (zvb (zna (zro hr.units) (pv 1) (zza (zml rfl) rfl T.zvh ycl (zaa (zya (zly rfl) rfl T.zcib boot_set (zaa (pv 1) zba)) zba)) (zgb _))
   (zea zxd)
   zva)
  (zea (zta (zya zrb rfl T.zkd yqe (zaa (pv 1) zba)))))))),?_⟩
 refine⟨_,rfl,rfl,_,rfl,?_⟩
 by_cases hne:ms=[]
 ·subst hne;exact iteT ⟨sz0,λa ha=>q a _ (zcb ha _) zia⟩
 refine ite2 (λc=>?_) (λ_=>?_)
 ·exfalso;have c':=of_decide_eq_true c;injection c' with c'
  exact zwjb hm hne c'
 have ml:=zam hm;have es:yjf (zfi ms) "," = ms:=zfdb hm hne;refine⟨_,rfl,rfl,_,_,rfl,rfl,(by decide +kernel),(ymb (ykk ml.2 2) (by decide)),λl hl=>?_⟩;rw[es];have S1:=zcb hl (.lst (ms.map V.str));have e1:upd H l (.lst (ms.map V.str)) l=some (.lst (ms.map V.str)):=zia;generalize upd H l (.lst (ms.map V.str))=H1 at *;refine⟨_,rfl,l,rfl,⟨_,SqL.of e1⟩,?_⟩;refine ztd (xs:=ms.map V.str) (λi ys H'=>Same H1 H'∧i≤ms.length∧ys=((ms.take i).map isName).map V.bl) (λi ys H' z=>SqL.of (z.1 _ _ e1)) ⟨Same.refl _,yqb _,rfl⟩ ?_ ?_ ?_
 ·rintro i ys H' ⟨_,_,rfl⟩;rw[yba,yba,ygb];have:=hm.le;exact small (by omega)
 ·rintro i x ys H' hx ⟨S3,hi,rfl⟩;obtain⟨m,hmm,rfl⟩:∃m,ms[i]?=some m∧V.str m=x:=by
   rw[yqa] at hx;cases z:ms[i]? with
   | none=>rw[z] at hx;cases hx
   | some m=>rw[z] at hx;cases hx;exact⟨m,rfl,rfl⟩
  have hmem:=ybb hmm;refine⟨rfl,_,rfl,m,rfl,(ymb (hm.ok m hmem).2.1 (by decide)),λH4 S4=>⟨S3.trans S4,?_,?_⟩⟩
  ·exact (ysa.mp hmm).1
  ·rw[ydb,hmm,yxa,yxa];rfl
 ·rintro ys H2 ⟨S2,_,rfl⟩ b hb;rw[yba,yhn];have S3:=zcb hb (.lst ((ms.map isName).map V.bl));refine⟨b,_,rfl,SqL.of zia,_,rfl,?_⟩;have al:(ms.map isName).all id=true:=by
   rw[yvf];intro x hx;obtain⟨m,hmm,rfl⟩:=ycc.mp hx;exact zpt (hm.ok m hmm)
  rw[al];refine iteF ?_;have e3:=S3 _ _ (S2 _ _ e1);generalize upd H2 b (.lst ((ms.map isName).map V.bl))=H3 at *;have ml2:=hm.le;refine⟨_,rfl,_,rfl,l,ms,rfl,SqL.of e3,(by omega),λp hp=>?_⟩;have S4:∀o,Same H3 (upd H3 p o):=λo=>zcb hp o;refine⟨p,_,rfl,zia,(by rw[zfgb hm.nd];omega),λp2 ys hp2 py so=>?_⟩;have ey:=hm.same py so;subst ey;have S5:=zcb hp2 (.lst (ys.map V.str));refine⟨.list (ys.map .str),.list (ys.map .str),.lst (SqL.of (S5 _ _ (S4 _ _ _ e3))) (znp _),.lst (SqL.of zia) (znp _),zrq hm.ok,zrq hm.ok,_,rfl,?_⟩;have ev:(!PyData.eqv (.list (ys.map .str)) (.list (ys.map .str)))=false:=by
   rw[yig,zdgb];rfl
  rw[ev];refine iteF ?_;refine⟨_,rfl,l,_,rfl,.inl ⟨SqL.of (S5 _ _ (S4 _ _ _ e3)),λt ht=>?_⟩⟩;exact q t _ (λc o e=>zcb ht _ _ _ (S5 _ _ (S4 _ _ _ (S3 _ _ (S2 _ _ (S1 _ _ e)))))) zia
theorem zmpb {c:Crd}(h:c.ok):c.text.length≤2000:=by
 have a:=zdk SL (yya " " c.head::c.rules.map zdg);have b:=Crd.zwx h;have s:=zeo (l:=(c.rules.map zdg).map (·.length)) (k:=450) (λx hx=>by
  obtain⟨t,ht,rfl⟩:=ycc.mp hx;obtain⟨r,hr,rfl⟩:=ycc.mp ht;exact zct (h.rules r hr))
 have e:SL.length=3:=rfl;have f:=h.few;rw[yib,yae,yja,e] at a;rw[yba,yba] at s;rw[yba] at a;show (yya SL (yya " " c.head::c.rules.map zdg)).length≤2000
 have:c.rules.length*450≤3*450:=Nat.mul_le_mul_right _ f;omega
theorem zdab (T:Tx K mg)(kb:K.In base):FnOk P w K mg base CX0 9 T.zaf.f T.zaf.d znn (zrgb T.zid T.zed):=by
 refine T.zaf.ok zje ?_;rintro f c A o s H vs Q E hr ⟨c,rfl,ok,q⟩ X;refine⟨_,  (zca (zvb (zal (zkm (zza zen rfl T.zof ymo (zaa (pv 0) (zaa (zzcb (v:=.ty "str") rfl T.zow ypp rfl) zba)))))
   (zea zxd)
   zva)
  (zca (zoa (i:=1) zje.nd rfl (.inl rfl) (zdi yhc yej yfj zpx (pv 0) (zaa zma zba)))
  (zca (zvb (zna zkt (zza zwa rfl T.zre yjb (zaa (pv 1) zba)) (zqb zbh zfa (znb (v:=.int 3) rfl T.zdj ⟨_,rfl⟩)) (zgb _))
   (zea zxd)
   zva)
  (zca (zoa (i:=2) zje.nd rfl (.inl rfl) (zcx T.zfc.M (zofb T).up hr rfl T.zidb (zsk T) .nil zpa (zaa (zbb znc (pv 1) zfa (λ_ _=>rfl)) zba)))
  (zca (zoa (i:=3) zje.nd rfl (.inl rfl) (zvc (pv 2) T.zib T.zpb.M (zyd T).up hr (zoe T) .nil zpa))
  (zca (zoa (i:=4) zje.nd rfl (.inl rfl) (zvc (pv 2) T.zib T.zxa.M (zwb T).up hr (zbc T) .nil zpa))
  (zca (zoa (i:=5) zje.nd rfl (.inl rfl) (zvc (pv 2) T.zib T.zxa.M (zwb T).up hr (zbc T) .nil zpa))
  (zca (zoa (i:=6) zje.nd rfl (.inl rfl) (zga (zix T).up hr rfl T.zbe.m T.zbe.F.kp (zvbb T) .nil zpa (zaa (zvc (pv 2) T.zib T.zmc.M (zbg T).up hr (zkh T) .nil zpa) zba)))
  (zca (zme (zvc (pv 2) T.zib T.zrc.M (zcl T).up hr (zrm T) .nil zpa))
  (zea (zta (zcx T.zuc.M (zwqb T).up hr rfl T.zrob (zgu T) .nil zpa (zaa (pv 3) (zaa (pv 4) (zaa (pv 5) (zaa (pv 6) (zaa (zya zrb rfl T.zkd yqe (zaa (zwc (own:=["rule"]) (cap:=[]) rfl (zsb.chk rfl rfl) .nil (zag (zcd ztcb (pv 1) (zpe zfa) zqe)) (λ_ _ _ _=>(zeb (i:=0) (show yyc (["rule"]:List Str) by decide +kernel) rfl (.inl rfl))) (λ_ _ _ _=>zle) (λ_ _ _ _=>by exact (zga (zcab T kb) hr rfl T.zze.m T.zze.F.kp (ztdb T) .nil zpa (zaa (pv 0) zba)))) zba)) zba))))))))))))))))),?_⟩
 have tl:=zmpb ok;refine⟨_,rfl,_,_,.type "str",true,rfl,TyOf.str _,.inl ⟨"str",rfl,rfl⟩,true,rfl,?_⟩;refine iteF ?_;have es:yjf c.text " / " = yya " " c.head::c.rules.map zdg:=Crd.split ok;refine⟨_,rfl,rfl,_,_,rfl,rfl,(by decide +kernel),(ymb (ykk tl 2) (by decide)),λl hl=>?_⟩;rw[es];have S1:=zcb hl (.lst ((yya " " c.head::c.rules.map zdg).map V.str));have e1:upd H l (.lst ((yya " " c.head::c.rules.map zdg).map V.str)) l=some (.lst ((yya " " c.head::c.rules.map zdg).map V.str)):=zia;generalize upd H l (.lst ((yya " " c.head::c.rules.map zdg).map V.str))=H1 at *;refine⟨_,rfl,l,_,rfl,.inl (SqL.of e1),_,_,rfl,rfl,_,_,rfl,rfl,_,rfl,?_⟩;refine ite2 (λz=>?_) (λ_=>?_)
 ·exfalso;have z':=of_decide_eq_true z;rw[yba,yja,yba] at z';have:=ok.few;omega
 refine⟨_,rfl,l,_,_,_,rfl,rfl,SqL.of e1,zra (j:=0) rfl,?_⟩;intro x dx nx ndx nex;have hl2:=Crd.zwx ok;refine⟨x,dx,_,rfl,zia,(by omega),λH2 W2 B2=>⟨rfl,?_⟩⟩;rw[show yjf (yya " " c.head) " " = c.head from Crd.zmhb ok] at W2;have S2:Same H1 H2:=λb o e=>B2 b o (zka e nx) (by rw[zdb (zka e nx),zdb (zka e ndx)];exact e);obtain⟨dx2,l2,at2,_⟩:=id W2;refine⟨_,rfl,x,dx2,_,rfl,at2,zcc _ _ (by decide +kernel) (by decide +kernel),x,c.head,0,c.name,rfl,W2,rfl,ok.name,λH3 W3 B3=>?_⟩;obtain⟨dx3,l3,at3,_⟩:=id W3;refine⟨_,rfl,x,dx3,_,rfl,at3,zcc _ _ (by decide +kernel) (by decide +kernel),x,c.head,1,c.cost,rfl,W3,rfl,ok.cost,λH4 W4 B4=>?_⟩;obtain⟨dx4,l4,at4,_⟩:=id W4;refine⟨_,rfl,x,dx4,_,rfl,at4,zcc _ _ (by decide +kernel) (by decide +kernel),x,c.head,2,c.force,rfl,W4,rfl,ok.force,λH5 W5 B5=>?_⟩;obtain⟨dx5,l5,at5,_⟩:=id W5;refine⟨_,rfl,x,dx5,_,rfl,at5,zcc _ _ (by decide +kernel) (by decide +kernel),x,c.head,3,zfi c.marks,rfl,W5,rfl,λH6 W6 B6=>?_⟩;refine⟨c.marks,rfl,ok.marks,λm H7 S7 em=>?_⟩;have W7:=W6.at S7;obtain⟨dx7,l7,at7,_⟩:=id W7;refine⟨_,rfl,x,dx7,_,rfl,at7,zcc _ _ (by decide +kernel) (by decide +kernel),x,c.head,rfl,W7,?_⟩;have S37:Same H H7:=λb o e=>by
  have n:=zka (S1 _ _ e) nx;exact S7 _ _ (B6 _ _ n (B5 _ _ n (B4 _ _ n (B3 _ _ n (S2 _ _ (S1 _ _ e))))))
 have nlx:=zka e1 nx;have e7:H7 l=some (.lst ((yya " " c.head::c.rules.map zdg).map V.str)):=S7 _ _ (B6 _ _ nlx (B5 _ _ nlx (B4 _ _ nlx (B3 _ _ nlx (S2 _ _ e1)))));clear W2 W3 W4 W5 W6 at2 at3 at4 at5;refine⟨_,rfl,_,rfl,_,rfl,_,rfl,_,rfl,_,rfl,l,_,rfl,SqL.of e7,λs1 hs1=>?_⟩;have ct:cutV ((yya " " c.head::c.rules.map zdg).map V.str) (some (1:Int)) none=(c.rules.map zdg).map V.str:=by
  have:=zjl ((yya " " c.head::c.rules.map zdg).map V.str) 1;exact this
 rw[ct];have S8:=zcb hs1 (.lst ((c.rules.map zdg).map V.str));have e8:upd H7 s1 (.lst ((c.rules.map zdg).map V.str)) s1=some (.lst ((c.rules.map zdg).map V.str)):=zia;generalize upd H7 s1 (.lst ((c.rules.map zdg).map V.str))=H8 at *;refine⟨s1,rfl,⟨_,SqL.of e8⟩,?_⟩;refine ztd (xs:=(c.rules.map zdg).map V.str) (λi ys H'=>Same H8 H'∧i≤c.rules.length∧IsRules T.zed H' ys (c.rules.take i)) (λi ys H' z=>SqL.of (z.1 _ _ e8)) ⟨Same.refl _,yqb _,.nil⟩ ?_ ?_ ?_
 ·rintro i ys H' ⟨_,_,R⟩;rw[R.length,ygb];have:=ok.few;exact small (by omega)
 ·rintro i v ys H' hx ⟨S3,hi,R⟩;obtain⟨r,hrr,rfl⟩:∃r,c.rules[i]?=some r∧V.str (zdg r)=v:=by
   rw[yqa,yqa] at hx;cases z:c.rules[i]? with
   | none=>rw[z] at hx;cases hx
   | some m=>rw[z] at hx;cases hx;exact⟨m,rfl,rfl⟩
  refine⟨rfl,_,rfl,r,rfl,ok.rules r (ybb hrr),λu H9 S9 IR=>⟨S3.trans S9,?_,?_⟩⟩
  ·exact (ysa.mp hrr).1
  ·rw[ydb,hrr];exact IsRules.snoc IR (R.same S9)
 ·rintro ys H9 ⟨S9,_,R⟩ b hb;rw[yba,yba,yhn] at R;refine⟨b,_,rfl,.inl ⟨SqL.of zia,λt ht=>?_⟩⟩;have S10:=zcb hb (.lst ys);generalize upd H9 b (.lst ys)=H10 at *;have S11:=zcb ht (.tup ys);have e11:upd H10 t (.tup ys) t=some (.tup ys):=zia;have Sall:Same H (upd H10 t (.tup ys)):=λb o e=>S11 _ _ (S10 _ _ (S9 _ _ (S8 _ _ (S37 _ _ e))));have em11:=S11 _ _ (S10 _ _ (S9 _ _ (S8 _ _ em)));have R11:=R.same (S10.trans S11);generalize upd H10 t (.tup ys)=H11 at *;intro y dy ny ndy ney;have S12:∀o,Same H11 (upd (upd (upd H11 dy (.own y)) y (.ins T.zid dy [])) y o):=λo b u e=>by
   rw[zvk,zdb (zka e ny),zdb (zka e ndy)];exact e
  refine⟨y,dy,m,t,c.name,c.cost,c.force,rfl,zia,rfl,?_⟩;exact q _ _ (Sall.trans (S12 _)) ⟨y,dy,m,t,ys,rfl,zia,S12 _ _ _ em11,S12 _ _ _ e11,R11.same (S12 _)⟩
theorem zui {H H':Hp}{p:Addr}(S:Same H H')(h:H p=none)(o:HO):Same H (upd H' p o):=λb u q=>by rw[zdb (zka q h)];exact S b u q
theorem none_of {H H':Hp}{p:Addr}(S:Same H H')(h:H' p=none):H p=none:=by
 cases e:H p with
 | none=>rfl
 | some o =>
  have z:=S _ _ e;rw[z] at h;cases h
@[elab_as_elim] theorem laid {H:Hp} {l:Addr} {o:HO} {motive:Hp->Prop} (hl:H l=none) (h:∀H1,Same H H1->H1 l=some o->motive H1):motive (upd H l o):=h _ (zcb hl o) zia
theorem zfpb {ns:List Int}{i:Int}(h0:0≤i)(h:i<(ns.length:Int)):∃z,atI (ns.map V.int) i=some (.int z)∧z∈ns:=by
 obtain⟨v,hv,hm⟩:=zbcb (xs:=ns.map V.int) h0 (by rw[yba];exact h);obtain⟨z,hz,rfl⟩:=ycc.mp hm;exact⟨z,hv,hz⟩
theorem zol {ss:List Str}{r:Int}(h0:0≤r)(h1:r<(ss.length:Int)):∃u,atI (ss.map V.str) r=some (.str u)∧u∈ss:=by
 obtain⟨v,hv,hm⟩:=zbcb (xs:=ss.map V.str) h0 (by rw[yba];exact h1);obtain⟨u,hu,rfl⟩:=ycc.mp hm;exact⟨u,hv,hu⟩
theorem zrt (x:Int){m:Int}(h:0<m):0≤x % m∧x % m<m:=⟨ydl x (by omega),yzi x h⟩
def ltr (r:Int):Nat:=(LL.cps.toList[r.toNat]?).getD 0
theorem zjdb:∀n:Nat,n<26->LL.cps.toList[n]?=some (97+n):=by decide +kernel
theorem ztfb {r:Int}(h0:0≤r)(h1:r<26):(ltr r:Int)=97+r:=by
 unfold ltr;rw[zjdb r.toNat (by omega)];show ((97+r.toNat:Nat):Int)=97+r
 omega
theorem zsob {r:Int}(h0:0≤r)(h1:r<26):atI LL.cps.toList r=some (ltr r):=by
 have q:=zra (zjdb r.toNat (by omega));rw[show ((r.toNat:Nat):Int)=r by omega] at q;rw[q];unfold ltr;rw[zjdb r.toNat (by omega)];rfl
theorem zutb (x:Int):97≤ltr (x % 26)∧ltr (x % 26)≤122:=by
 have m:=zrt x (m:=26) (by decide);have:=ztfb m.1 m.2;omega
def sgn (c:Nat):Str:=⟨#[c]⟩
theorem zzv:∀cs:List Nat,(yya "" (cs.map sgn)).cps.toList=cs
 | []=>rfl
 | [c]=>rfl
 | c::d::r=>by
  have ih:=zzv (d::r);have e:yya "" ((c::d::r).map sgn)=sgn c ++ "" ++ yya "" ((d::r).map sgn):=rfl;rw[e];show ((#[c]++("":Str).cps)++(yya "" ((d::r).map sgn)).cps).toList=_
  rw[ylf,ih];rfl
theorem zdz:∀cs:List Nat,((cs.map sgn).map (·.length)).sum=cs.length
 | []=>rfl
 | c::r=>by
  rw[yib,yib,yae,zdz r,yja];show 1+r.length=r.length+1
  omega
theorem zwnb (n L:Nat)(h:n≤L):ynf none (some (n:Int)) 1 L=ypb n:=by
 unfold ynf;dsimp only;have e:(if (1:Int)>0 then max 0 (min (if (n:Int)<0 then (n:Int)+(L:Int) else (n:Int)) (L:Int)) else max (-1) (min (if (n:Int)<0 then (n:Int)+(L:Int) else (n:Int)) ((L:Int)-1)))=(n:Int):=by
  rw[if_pos (by decide),if_neg (by omega)];omega
 rw[e,if_pos (by decide)];have z:=yto 0 n;rw[ylo] at z;rw[show ((0:Int))=((0:Nat):Int) from rfl,z];simp
theorem zft {x:Array Nat}:∀n:Nat,n≤x.size->(ypb n).filterMap (λj=>x[j]?)=x.toList.take n
 | 0,_=>rfl
 | n+1,h=>by
  rw[yrg,List.filterMap_append,zft n (by omega),ydb];have e:x.toList[n]?=x[n]?:=by rw[yob]
  have hn:n<x.size:=by omega
  have e2:x[n]?=some x[n]:=yyb hn;rw[e,ygi,e2,List.filterMap_nil];rfl
theorem zwgb (x:Str)(n:Nat)(h:n≤x.length):yyn x none (some (n:Int))=⟨(x.cps.toList.take n).toArray⟩:=by
 unfold yyn;rw[zwnb n x.length h,yrb]
 by_cases e:n=x.length
 ·subst e;rw[if_pos (by simp)];have:x.cps.toList.take x.length=x.cps.toList:=yla (by simp[yfr]);rw[this,ynd]
 ·rw[if_neg (by simp[e])];rw[show (λj=>x.cps[j]?)=(λj=>x.cps[j]?) from rfl];have z:=zft (x:=x.cps) n h;rw[← z]
def zxsb (K:yda):Sp:=λvs H Q _=>Ex3 λa (ns:List Int) (k:Int)=>vs=[.ref a,.int k]∧SqL K H a (ns.map V.int)∧ns.length≤63∧0≤k∧k≤10000000∧∀z:Int,Q (.int z) H
theorem zlab (T:Tx K mg):FnOk P w K mg base CX0 2 T.zgf.f T.zgf.d zun (zxsb K):=by
 refine T.zgf.ok zsi ?_;rintro f c A o s H vs Q E hr ⟨a,ns,k,rfl,hS,h63,k0,k9,q⟩ X;refine⟨_,  (zca (zvb (zna zenb (pv 1) (zza zwa rfl T.zre yjb (zaa (pv 0) zba)) (zgb _))
   (zea (zta (zbb znc (pv 0) (pv 1) (λ_ _=>rfl))))
   zva)
  (zca (zoa (i:=2) zsi.nd rfl (.inl rfl) (zqb zbh zfa (pv 1)))
  (zca (zvb (zna zkt (zza zwa rfl T.zre yjb (zaa (pv 0) zba)) zfa (zgb _))
   (zea (zoa (i:=2) zsi.nd rfl (.inl rfl) (zqb zbh (pv 2) (zqb zxz (zqb zom (zbb znc (pv 0) (zqb zom (zqb zbh (zqb zxz zfa (pv 1)) zfa) (zza zwa rfl T.zre yjb (zaa (pv 0) zba))) (λ_ _=>rfl)) zfa) (zqb zbh (zqb zom (pv 1) zfa) zfa)))))
   zva)
  (zca (zoa (i:=3) zsi.nd rfl (.inl rfl) (zqb zom (zqb zxz (pv 2) zfa) zfa))
  (zea (zta (zqb zom (zqb zxz (pv 3) (pv 3)) zfa))))))),?_⟩
 have hl:(ns.map V.int).length=ns.length:=yba _;refine⟨_,rfl,_,rfl,a,_,rfl,.inl hS,_,_,rfl,rfl,_,rfl,?_⟩;refine ite2 (λc=>?_) (λc=>?_)
 ·have c':k<(((ns.map V.int).length:Nat):Int):=of_decide_eq_true c;obtain⟨z,hz⟩:=zslb (ns:=ns) k0 (by omega);exact⟨_,rfl,_,rfl,a,_,_,_,rfl,rfl,hS,hz,q z⟩
 ·have big:∀c:Int,0≤c % 2147483629∧c % 2147483629<2147483629:=λc=>⟨ydl c (by omega),yzi c (by omega)⟩;have fin:∀z:Int,CMul (z*48271 % 2147483629) (z*48271 % 2147483629):=λz=>.inl ⟨by have:=big (z*48271);omega,by have:=big (z*48271);omega⟩;refine⟨_,rfl,_,_,rfl,rfl,?_⟩;refine⟨_,rfl,a,_,rfl,.inl hS,_,_,rfl,rfl,_,rfl,?_⟩;refine ite2 (λc=>?_) (λc=>?_)
  ·have c':(0:Int)<(((ns.map V.int).length:Nat):Int):=of_decide_eq_true c;have n0:0≤(3*k+1) % (((ns.map V.int).length:Nat):Int):=ydl _ (by omega);have n1:(3*k+1) % (((ns.map V.int).length:Nat):Int)<(((ns.map V.int).length:Nat):Int):=yzi _ c';obtain⟨z,hz⟩:=zslb (ns:=ns) n0 (by omega);refine⟨_,rfl,_,rfl,_,rfl,_,_,rfl,rfl,.inl ⟨by decide,by decide⟩,_,_,rfl,rfl,_,rfl,a,_,rfl,.inl hS,_,_,rfl,rfl,c',a,_,_,_,rfl,rfl,hS,hz,_,_,rfl,rfl,(by show (0:Int)<1000003;decide),_,rfl,_,_,rfl,rfl,(by show (0:Int)<97;decide),_,_,rfl,rfl,_,_,rfl,rfl,.inr ⟨by have:=zrt k (m:=97) (by decide);omega,by have:=zrt k (m:=97) (by decide);omega⟩,_,_,rfl,rfl,?_⟩;exact⟨_,rfl,_,_,rfl,rfl,.inr ⟨by decide,by decide⟩,_,_,rfl,rfl,(by show (0:Int)<2147483629;decide),_,rfl,_,rfl,_,_,rfl,rfl,fin _,_,_,rfl,rfl,(by show (0:Int)<2147483629;decide),q _⟩
  ·exact⟨_,rfl,_,_,rfl,rfl,.inr ⟨by decide,by decide⟩,_,_,rfl,rfl,(by show (0:Int)<2147483629;decide),_,rfl,_,rfl,_,_,rfl,rfl,fin _,_,_,rfl,rfl,(by show (0:Int)<2147483629;decide),q _⟩
theorem zla (T:Tx K mg):FnOk P w K mg base CX0 3 T.zda.f T.zda.d zqn (zssb K):=by
 refine T.zda.ok ztq ?_;rintro f c A o s H vs Q E hr ⟨p,k,m,rfl,TT,hk,hm,q⟩ X;refine⟨_,  (zca (zoa (i:=2) ztq.nd rfl (.inl rfl) (zqb zom (zga (zlab T) hr rfl T.zgf.m T.zgf.F.kp (zaeb T) .nil zpa (zaa (zbb znc (pv 0) zfa (λ_ _=>rfl)) (zaa (zbb znc (pv 0) zfa (λ_ _=>rfl)) zba))) (pv 1)))
  (zca (znm (zqb zbh (zbb znc (pv 0) zfa (λ_ _=>rfl)) zfa) (zuz (pv 0) zfa set_list))
  (zea (zta (pv 2))))),?_⟩
 obtain⟨⟨a,ns,h1,h2,h3⟩,lo⟩:=TT;have S0:SqL K H a (ns.map V.int):=h2.sq;refine⟨_,rfl,p,_,_,_,rfl,rfl,SqL.of h1,rfl,_,rfl,p,_,_,_,rfl,rfl,SqL.of h1,rfl,a,ns,k,rfl,S0,h3,lo,by omega,λz=>⟨_,rfl,_,_,rfl,rfl,hm,?_⟩⟩;refine⟨_,rfl,p,_,_,_,rfl,rfl,SqL.of h1,rfl,_,_,rfl,rfl,_,rfl,p,_,_,_,rfl,rfl,h1,rfl,?_⟩;have B:But p H (upd H p (.lst [.ref a,.int (k+1)])):=But.put;have T1:Tk K (upd H p (.lst [.ref a,.int (k+1)])) p (k+1):=⟨⟨a,ns,zia,h2.keep λo u z=>by rw[zdb (zdl z h1 (by intro y;cases y))];exact z,h3⟩,by omega⟩;have big:0≤z % m∧z % m<m:=⟨ydl z (by omega),yzi z hm⟩;exact⟨_,rfl,q _ _ big.1 big.2 B T1⟩
def znmb (K:yda):Sp:=λvs H Q _=>Ex2 λp (k:Int)=>vs=[.ref p]∧Tk K H p k∧k≤900000∧∀(r:Nat) (k':Int) H',r<1000->But p H H'->Tk K H' p k'->k'≤k+2->Q (.int (r:Int)) H'
theorem zjj (T:Tx K mg):FnOk P w K mg base CX0 4 T.zec.f T.zec.d zmk (znmb K):=by
 refine T.zec.ok zvu ?_;rintro f c A o s H vs Q E hr ⟨p,k,rfl,TT,hk,q⟩ X;refine⟨_,  (zca (zvb (zna zne (zga (zla T) hr rfl T.zda.m T.zda.F.kp (zsa T) .nil zpa (zaa (pv 0) (zaa zfa zba))) zfa (zgb _))
   (zea (zta (zga (zla T) hr rfl T.zda.m T.zda.F.kp (zsa T) .nil zpa (zaa (pv 0) (zaa zfa zba)))))
   zva)
  (zea (zta (zga (zla T) hr rfl T.zda.m T.zda.F.kp (zsa T) .nil zpa (zaa (pv 0) (zaa zfa zba)))))),?_⟩
 refine⟨_,rfl,p,k,4,rfl,TT,by omega,by decide,λr H1 r0 r1 B1 T1=>⟨rfl,_,rfl,?_⟩⟩;refine ite2 (λc=>?_) (λc=>?_)
 ·refine⟨_,rfl,p,k+1,1000,rfl,T1,by omega,by decide,λr2 H2 a b B2 T2=>?_⟩;obtain⟨n,rfl⟩:∃n:Nat,r2=(n:Int):=⟨r2.toNat,by omega⟩;exact q n _ H2 (by omega) (B1.trans B2) T2 (by omega)
 ·refine⟨_,rfl,p,k+1,5,rfl,T1,by omega,by decide,λr2 H2 a b B2 T2=>?_⟩;obtain⟨n,rfl⟩:∃n:Nat,r2=(n:Int):=⟨r2.toNat,by omega⟩;exact q n _ H2 (by omega) (B1.trans B2) T2 (by omega)
theorem zvnb (n L:Nat)(h:n≤L):ynf (some (n:Int)) none 1 L=(ypb (L-n)).map (n+·):=by
 unfold ynf;dsimp only;have e:(if (1:Int)>0 then max 0 (min (if (n:Int)<0 then (n:Int)+(L:Int) else (n:Int)) (L:Int)) else max (-1) (min (if (n:Int)<0 then (n:Int)+(L:Int) else (n:Int)) ((L:Int)-1)))=(n:Int):=by
  rw[if_pos (by decide),if_neg (by omega)];omega
 rw[e,if_pos (by decide)];exact yto n L
theorem zvgb (x:Str)(n:Nat)(h:n≤x.length):yyn x (some (n:Int)) none=⟨(x.cps.toList.drop n).toArray⟩:=by
 have hl:x.cps.size=x.length:=rfl;unfold yyn;rw[zvnb n x.length h]
 by_cases e:n=0
 ·subst e;rw[if_pos (by simp)];rw[ysj,ynd]
 ·rw[if_neg (by simp;omega)];have z:=zft (x:=(x.cps.toList.drop n).toArray) (x.length-n) (by simp[hl]);rw[yla (by simp[hl])] at z;rw[yip]
  congr 1
  rw[show (x.cps.toList.drop n)=(x.cps.toList.drop n).toArray.toList by simp,← z]
  congr 1
  congr 1
  funext j
  show x.cps[n+j]?=(List.drop n x.cps.toList).toArray[j]?
  rw[← yob (xs:=(List.drop n x.cps.toList).toArray),yzo,yxe,yob]
structure N4 (H:Hp)(nl:Addr)(ns:List Str):Prop where
 at_:H nl=some (.lst (ns.map V.str))
 len:ns.length=4
 ok:∀n∈ns,zud n
 nd:ns.Nodup
def nmIn (cs:List Nat)(a c:Nat):Str:=⟨(cs.take a).toArray⟩++sgn c++⟨(cs.drop a).toArray⟩
theorem zqab (cs:List Nat)(a c:Nat):(nmIn cs a c).cps.toList=cs.take a++c::cs.drop a:=by
 show ((cs.take a).toArray++#[c]++(cs.drop a).toArray).toList=_
 simp
theorem zzqb {cs:List Nat}{a c:Nat}(h8:cs.length<8)(hc:97≤c∧c≤122)(hs:∀x∈cs,97≤x∧x≤122):zud (nmIn cs a c):=by
 have e:=zqab cs a c;have el:(nmIn cs a c).length=cs.length+1:=by
  have q:=congrArg yvg e;rw[ypa,yea,yja,ygb,yje] at q;have q':(nmIn cs a c).length=min a cs.length+(cs.length-a+1):=q;omega
 refine⟨by omega,by omega,?_⟩;rw[e];intro x hx
 rcases ydc.mp hx with z|z
 ·exact hs x (List.mem_of_mem_take z)
 ·rcases yka.mp z with z|z
  ·rw[z];exact hc
  ·exact hs x (List.mem_of_mem_drop z)
theorem zlnb {cs:List Nat}{a c d:Nat}(h:nmIn cs a c=nmIn cs a d):c=d:=by
 have e:=congrArg (λz:Str=>z.cps.toList) h;simp only[zqab] at e;have f:=List.append_cancel_left e;injection f
def ztib (K:yda):Sp:=λvs H Q _=>Ex2 λp (k:Int)=>vs=[.ref p]∧Tk K H p k∧k≤900000∧∀nl (ns:List Str) (k':Int) H',But p H H'->Tk K H' p k'->k'≤k+11->H nl=none->N4 H' nl ns->Q (.ref nl) H'
theorem zlx (T:Tx K mg):FnOk P w K mg base CX0 4 T.zee.f T.zee.d zul (ztib K):=by
 refine T.zee.ok zxf ?_;rintro f c A o s H vs Q E hr ⟨p,k,rfl,TT,hk,q⟩ X;refine⟨_,  (zca (zoa (i:=1) zxf.nd rfl (.inr rfl) zma)
  (zca (zoa (i:=2) zxf.nd rfl (.inr rfl) (zdi yhc yqd yrd zym zma (zaa (zwc (own:=["_law_k"]) (cap:=["_law_letters","_law_pen"]) rfl (zsb.chk rfl rfl) (.cons (j:=1) rfl (.inl rfl) (.inl rfl) (.cons (j:=0) rfl (.inl rfl) (.inl rfl) .nil)) (zzf rfl T.zfg (zaa (zga (zla T) hr rfl T.zda.m T.zda.F.kp (zsa T) .nil zpa (zaa (pv 0) (zaa zfa zba))) zba)) (λ_ _ _ _=>(zeb (i:=0) (show yyc (["_law_k","_law_letters","_law_pen"]:List Str) by decide +kernel) rfl (.inl rfl))) (λ_ _ _ _=>zle) (λ_ _ _ _=>by exact (zbb zfkb (pv 1) (zga (zla T) hr rfl T.zda.m T.zda.F.kp (zsa T) .nil zpa (zaa (pv 2) (zaa zfa zba))) (λ_ _=>rfl)))) zba)))
  (zca (zoa (i:=3) zxf.nd rfl (.inr rfl) (zga (zla T) hr rfl T.zda.m T.zda.F.kp (zsa T) .nil zpa (zaa (pv 0) (zaa (zqb zbh (zza znl rfl T.zre yjb (zaa (pv 2) zba)) zfa) zba))))
  (zca (zoa (i:=4) zxf.nd rfl (.inr rfl) (zga (zla T) hr rfl T.zda.m T.zda.F.kp (zsa T) .nil zpa (zaa (pv 0) (zaa zfa zba))))
  (zea (zta (zwc (own:=["_law_k"]) (cap:=["_law_base","_law_letters","_law_at","_law_first"]) rfl (zsb.chk rfl rfl) (.cons (j:=2) rfl (.inl rfl) (.inl rfl) (.cons (j:=1) rfl (.inl rfl) (.inl rfl) (.cons (j:=3) rfl (.inl rfl) (.inl rfl) (.cons (j:=4) rfl (.inl rfl) (.inl rfl) .nil)))) (zzf rfl T.zfg (zaa zfa zba)) (λ_ _ _ _=>(zeb (i:=0) (show yyc (["_law_k","_law_base","_law_letters","_law_at","_law_first"]:List Str) by decide +kernel) rfl (.inl rfl))) (λ_ _ _ _=>zle) (λ_ _ _ _=>by exact (zqb ztj (zqb ztj (zcd zoob (pv 1) zqe (zpe (pv 3))) (zbb zfkb (pv 2) (zqb zom (zqb zbh (pv 4) (zqb zxz zfa (pv 0))) zfa) (λ_ _=>rfl))) (zcd zoob (pv 1) (zpe (pv 3)) zqe)))))))))),?_⟩
 refine⟨rfl,_,rfl,p,k,8,rfl,TT,by omega,by decide,λm0 H1 m1 m2 B1 T1=>?_⟩;obtain⟨m,rfl⟩:∃m:Nat,m0=(m:Int):=⟨m0.toNat,by omega⟩;refine⟨_,rfl,by omega,by omega,?_⟩;rw[yxb];refine zdm (λj ys Hx=>Ex2 λ(cs:List Nat) (k':Int)=>But p H Hx∧Tk K Hx p k'∧k'≤k+1+(j:Int)∧j≤m∧cs.length=j∧(∀c∈cs,97≤c∧c≤122)∧ys=(cs.map sgn).map V.str) ⟨[],_,B1,T1,by omega,yqb _,rfl,by simp,rfl⟩ ?_ ?_ ?_
 ·rintro j ys Hx ⟨cs,k',_,_,_,hj,hl,_,rfl⟩;rw[yba,yba,hl];exact small (by omega)
 ·rintro j ys Hx hj ⟨cs,k',B,T2,hk',_,hl,hc,rfl⟩;refine⟨rfl,_,rfl,_,rfl,p,k',26,rfl,T2,by omega,by decide,λr H2 r0 r1 B2 T3=>?_⟩;refine⟨LL,_,_,rfl,rfl,(by decide +kernel),zsob r0 r1,cs++[ltr r],_,B.trans B2,T3,by omega,hj,by rw[yea,hl];rfl,?_,?_⟩
  ·intro c z
   rcases ydc.mp z with y|y
   ·exact hc c y
   ·rw[yia.mp y];have:=ztfb r0 r1;omega
  ·rw[yxa,yxa];rfl
 ·rintro ys Hx ⟨cs,k',B,T2,hk',_,hl,hc,rfl⟩ sl hsl;refine laid hsl λH3 S3 e3=>?_;have B3:But p H H3:=B.trans (But.same S3);have T3:=T2.same S3;have nsl:p≠sl:=T2.ne hsl;refine⟨"",sl,cs.map sgn,rfl,rfl,SqL.of e3,?_,?_⟩
  ·rw[zdz,hl];have z0:("":Str).length=0:=rfl;rw[z0];omega
  have hx:=zzv cs;generalize yya "" (cs.map sgn)=x at hx ⊢;have xl:x.length=m:=by
   have z:=congrArg yvg hx;rw[ypa,hl] at z;exact z
  have s1000:∀{n:Nat},n≤1000->n≤ywa:=λ{n} h=>yde (zse h);refine⟨_,rfl,_,rfl,x,rfl,s1000 (by omega),_,_,rfl,rfl,p,k',(m:Int)+1,(by rw[xl];rfl),T3,by omega,by omega,λa0 H4 a1 a2 B4 T4=>?_⟩;obtain⟨a,rfl⟩:∃a:Nat,a0=(a:Int):=⟨a0.toNat,by omega⟩;refine⟨_,rfl,p,_,26,rfl,T4,by omega,by decide,λf0 H5 f1 f2 B5 T5=>?_⟩;have B05:=B3.trans (B4.trans B5);refine⟨4,rfl,by decide,by decide,?_⟩;refine zdm (λj ys Hx=>Hx=H5∧j≤4∧∃ns:List Str,ys=ns.map V.str∧ns.length=j∧(∀n∈ns,zud n)∧ns.Nodup∧∀n∈ns,∃i:Nat,i<j∧n=nmIn cs a (ltr ((f0+7*(0+(i:Int))) % 26))) ⟨rfl,yqb _,[],rfl,rfl,by simp,.nil,by simp⟩ ?_ ?_ ?_
  ·rintro j ys Hx ⟨_,hj,ns,rfl,hl2,_⟩;rw[yba,hl2];exact small (by omega)
  ·rintro j ys Hx hj ⟨rfl,_,ns,rfl,hl2,ok,nd,wh⟩;have hj4:j<4:=hj;have r26:=zrt (f0+7*(0+(j:Int))) (m:=26) (by decide);refine⟨rfl,_,rfl,_,rfl,_,rfl,x,rfl,s1000 (by omega),λt1 e1 l1=>?_⟩;refine⟨_,rfl,_,rfl,_,rfl,_,_,rfl,rfl,.inl ⟨by decide,by decide⟩,_,_,rfl,rfl,_,_,rfl,rfl,(by show (0:Int)<26;decide),LL,_,_,rfl,rfl,(by decide +kernel),zsob r26.1 r26.2,?_⟩;rw[zwgb x a (by omega),hx] at e1;subst e1;refine⟨_,_,rfl,rfl,s1000 (by show _+1≤1000;omega),_,rfl,_,rfl,_,rfl,x,rfl,s1000 (by omega),λt2 e2 l2=>?_⟩;rw[zvgb x a (by omega),hx] at e2;subst e2;refine⟨_,_,rfl,rfl,?_,rfl,hj,ns++[nmIn cs a (ltr ((f0+7*(0+(j:Int))) % 26))],?_,?_,?_,?_,?_⟩
   ·refine s1000 ?_;have t1:((cs.take a).toArray++#[ltr ((f0+7*(0+(j:Int))) % 26)]).size≤8:=by
     rw[yqj,yoa,ygb];show _+1≤8
     omega
    have t2:((cs.drop a).toArray).size≤8:=by
     rw[yoa,yje];omega
    exact ymb (Nat.add_le_add t1 t2) (by decide)
   ·rw[yxa];rfl
   ·rw[yea,hl2];rfl
   ·intro n z
    rcases ydc.mp z with y|y
    ·exact ok n y
    ·rw[yia.mp y];exact zzqb (by omega) (zutb _) hc
   ·rw[ymd];refine⟨nd,ybn _ _,λy hy n hn z=>?_⟩;rw[yia.mp hn] at z;obtain⟨i,hi,rfl⟩:=wh y hy;have ed:=zlnb z;have e1:=ztfb (zrt (f0+7*(0+(i:Int))) (m:=26) (by decide)).1 (zrt (f0+7*(0+(i:Int))) (m:=26) (by decide)).2;have e2:=ztfb r26.1 r26.2;omega
   ·intro n z
    rcases ydc.mp z with y|y
    ·obtain⟨i,hi,e⟩:=wh n y;exact⟨i,by omega,e⟩
    ·exact⟨j,by omega,yia.mp y⟩
  ·rintro ys Hx ⟨rfl,_,ns,rfl,hl2,ok,nd,wh⟩ nl hnl;refine laid hnl λH6 S6 e6=>?_;refine q nl ns _ H6 (B05.trans (But.same S6)) (T5.same S6) (by omega) ?_ ⟨e6,hl2,ok,nd⟩;cases z:H nl with
   | none=>rfl
   | some o =>
    by_cases ep:nl=p
    ·rw[ep] at hnl;exact absurd rfl (T5.ne hnl)
    ·rw[B05 _ _ ep z] at hnl;cases hnl
def whT (y:Wh):Str:=yya " " y.words
inductive WT (H:Hp):V->Wh->Prop where
 | all {a:Addr}:H a=some (.tup [.str "all"])->WT H (.ref a) .all
 | self {a:Addr}:H a=some (.tup [.str "self"])->WT H (.ref a) .self
 | mine {a:Addr}:H a=some (.tup [.str "mine"])->WT H (.ref a) .mine
 | mark {a:Addr} {n:Str}:H a=some (.tup [.str "mark",.str n])->WT H (.ref a) (.mark n)
 | force {a:Addr} {i:Nat}:H a=some (.tup [.str "force",.int (i:Int)])->WT H (.ref a) (.force i)
 | not {a:Addr} {x:V} {y:Wh}:H a=some (.tup [.str "not",x])->WT H x y->WT H (.ref a) (.not y)
 | both {a:Addr} {x x':V} {y y':Wh}:H a=some (.tup [.str "both",x,x'])->WT H x y->WT H x' y'->WT H (.ref a) (.both y y')
 | any {a:Addr} {x x':V} {y y':Wh}:H a=some (.tup [.str "any",x,x'])->WT H x y->WT H x' y'->WT H (.ref a) (.any y y')
theorem WT.same {H H':Hp}(s:Same H H'):∀{v:V} {y:Wh},WT H v y->WT H' v y
 | _,_,.all h=>.all (s _ _ h)
 | _,_,.self h=>.self (s _ _ h)
 | _,_,.mine h=>.mine (s _ _ h)
 | _,_,.mark h=>.mark (s _ _ h)
 | _,_,.force h=>.force (s _ _ h)
 | _,_,.not h t=>.not (s _ _ h) (t.same s)
 | _,_,.both h t u=>.both (s _ _ h) (t.same s) (u.same s)
 | _,_,.any h t u=>.any (s _ _ h) (t.same s) (u.same s)
theorem WT.tup {H:Hp}{v:V}{y:Wh}(h:WT H v y):Ex2 λa xs=>v = .ref a∧H a=some (.tup xs):=by
 cases h<;>exact⟨_,_,rfl,by assumption⟩
def dep:Wh->Nat
 | .not a=>dep a+1
 | .both a b=>max (dep a) (dep b)+1
 | .any a b=>max (dep a) (dep b)+1
 | _=>0
theorem zymb {r:Int}{x y:Str}(h0:0≤r)(h1:r<2):∃u:Str,atI [V.str x,V.str y] r=some (.str u)∧(u=x∨u=y):=by
 obtain⟨v,hv,hm⟩:=zbcb (xs:=[V.str x,V.str y]) h0 h1;simp only[yka,ybe,or_false] at hm
 rcases hm with e|e<;>subst e
 ·exact⟨_,hv,.inl rfl⟩
 ·exact⟨_,hv,.inr rfl⟩
theorem Tk.two {K:yda}{H:Hp}{p:Addr}{k:Int}(t:Tk K H p k):∃a,H p=some (.lst [.ref a,.int k]):=by
 obtain⟨⟨a,ns,h,_⟩,_⟩:=t;exact⟨a,h⟩
theorem N4.ne {K:yda}{H:Hp}{p nl:Addr}{k:Int}{ns:List Str}(h:N4 H nl ns)(t:Tk K H p k):nl≠p:=λz=>by
 obtain⟨a,e⟩:=t.two;have e2:=h.at_;rw[z,e] at e2;injection e2 with e2
 injection e2 with e2
 have l:=congrArg yvg e2;rw[yba,h.len] at l;cases l
theorem N4.but {K:yda}{H H':Hp}{p nl:Addr}{k:Int}{ns:List Str}(h:N4 H nl ns)(t:Tk K H p k)(b:But p H H'):N4 H' nl ns:=⟨b _ _ (h.ne t) h.at_,h.len,h.ok,h.nd⟩
theorem N4.same {H H':Hp}{nl:Addr}{ns:List Str}(h:N4 H nl ns)(s:Same H H'):N4 H' nl ns:=⟨s _ _ h.at_,h.len,h.ok,h.nd⟩
theorem WT.but {K:yda}{H H':Hp}{p:Addr}{k:Int}(t:Tk K H p k)(b:But p H H'){v:V}{y:Wh}(z:WT H v y):WT H' v y:=by
 obtain⟨c,ep⟩:=t.two;have s:∀{a:Addr} {xs:List V},H a=some (.tup xs)->H' a=some (.tup xs):=λh=>b _ _ (zdl h ep (by intro z;cases z)) h
 induction z with
 | all h=>exact .all (s h)
 | self h=>exact .self (s h)
 | mine h=>exact .mine (s h)
 | mark h=>exact .mark (s h)
 | force h=>exact .force (s h)
 | not h _ i=>exact .not (s h) i
 | both h _ _ i j=>exact .both (s h) i j
 | any h _ _ i j=>exact .any (s h) i j
def zfo (K:yda)(n:Nat):Sp:=λvs H Q _=>Ex5 λp nl (k:Int) (ns:List Str) (d:Nat)=>vs=[.ref p,.ref nl,.int (d:Int)]∧Tk K H p k∧k+4*(d:Int)≤900000∧N4 H nl ns∧1≤d∧d≤n∧∀v (y:Wh) (k':Int) H',But p H H'->Tk K H' p k'->k'≤k+4*(d:Int)->WT H' v y->y.ok->y.size≤d->Q v H'
theorem zfib (T:Tx K mg){n:Nat}(zzn:FnOk P w K mg base CX0 (n+5) T.zmb.f T.zmb.d zmg (zfo K n)):FnOk P w K mg base CX0 (n+6) T.zmb.f T.zmb.d zmg (zfo K (n+1)):=by
 refine T.zmb.ok zpi ?_;rintro f c A o s H vs Q E hr ⟨p,nl,k,ns,d,rfl,TT,hk,N0,d1,dn,q⟩ X;refine⟨_,  (zca (zoa (i:=3) zpi.nd rfl (.inl rfl) (zga (zla T).up hr rfl T.zda.m T.zda.F.kp (zsa T) .nil zpa (zaa (pv 0) (zaa zfa zba))))
  (zca (zvb (PW.pt (zrv (zna zkt (pv 2) zfa (zgb _)) (zqp (zna zne (pv 3) zfa (zgb _)))))
   (zea (zta (ztb (zaa zma (zaa (zga zzn hr rfl T.zmb.m T.zmb.F.kp (zki T) .nil zpa (zaa (pv 0) (zaa (pv 1) (zaa (zqb zah (pv 2) zfa) zba)))) zba)))))
   zva)
  (zca (zvb (PW.pt (zrv (zna zkt (pv 2) zfa (zgb _)) (zqp (zna zkt (pv 3) zfa (zgb _)))))
   (zca (zoa (i:=4) zpi.nd rfl (.inl rfl) (zqb ztqb (zqb zah (pv 2) zfa) zfa))
   (zca (zoa (i:=5) zpi.nd rfl (.inl rfl) (zga zzn hr rfl T.zmb.m T.zmb.F.kp (zki T) .nil zpa (zaa (pv 0) (zaa (pv 1) (zaa (pv 4) zba)))))
   (zea (zta (ztb (zaa (zbb znc (zgd (zaa zma (zaa zma zba))) (zqb zah (pv 3) zfa) (λ_ _=>rfl)) (zaa (pv 5) (zaa (zga zzn hr rfl T.zmb.m T.zmb.F.kp (zki T) .nil zpa (zaa (pv 0) (zaa (pv 1) (zaa (zqb zah (zqb zah (pv 2) zfa) (pv 4)) zba)))) zba))))))))
   zva)
  (zca (zvb (zna zne (zqb zom (pv 3) zfa) zfa (zgb _))
   (zea (zta (ztb (zaa zma (zaa (zbb znc (pv 1) (zga (zla T).up hr rfl T.zda.m T.zda.F.kp (zsa T) .nil zpa (zaa (pv 0) (zaa zfa zba))) (λ_ _=>rfl)) zba)))))
   zva)
  (zca (zvb (zna zne (zqb zom (pv 3) zfa) zfa (zgb _))
   (zea (zta (ztb (zaa zma (zaa (zga (zjj T).up hr rfl T.zec.m T.zec.F.kp (zik T) .nil zpa (zaa (pv 0) zba)) zba)))))
   zva)
  (zea (zta (ztb (zaa (zbb znc (zgd (zaa zma (zaa zma (zaa zma zba)))) (zqb zom (pv 3) zfa) (λ_ _=>rfl)) zba))))))))),?_⟩
 refine⟨_,rfl,p,k,8,rfl,TT,by omega,by decide,λway H1 w0 w1 B1 T1=>?_⟩;have N1:=N0.but TT B1;refine⟨_,rfl,_,_,rfl,rfl,_,rfl,ite2 (λc1=>⟨_,rfl,rfl,_,rfl,ite2 (λc2=>?A) (λc2=>?S1)⟩) (λc1=>iteF ?S2)⟩
 case' S1=>refine⟨_,rfl,_,_,rfl,rfl,_,rfl,ite2 (λc3=>⟨_,rfl,_,_,rfl,rfl,_,rfl,ite2 (λc4=>?B1) (λc4=>?L1)⟩) (λc3=>iteF ?L2)⟩
 case' S2=>refine⟨_,rfl,_,_,rfl,rfl,_,rfl,ite2 (λc3=>absurd (decide_eq_true (Int.lt_trans (by decide:(1:Int)<2) (of_decide_eq_true c3))) c1) (λc3=>iteF ?L3)⟩
 case A =>
  have d0:(1:Int)<(d:Int):=of_decide_eq_true c1;obtain⟨e,rfl⟩:∃e,d=e+1:=⟨d-1,by omega⟩;refine⟨_,rfl,_,rfl,_,rfl,_,_,rfl,rfl,p,nl,k+1,ns,e,?_,T1,by omega,N1,by omega,by omega,λv y k2 H2 B2 T2 hk2 W2 ok2 yz2=>⟨sz2,λt ht=>?_⟩⟩
  ·show [V.ref p,V.ref nl,V.int (((e+1:Nat):Int)-1)]=_;rw[show (((e+1:Nat):Int)-1)=(e:Int) by omega]
  ·refine laid ht λH3 S3 e3=>?_;exact q _ (.not y) k2 H3 (B1.trans (B2.trans (But.same S3))) (T2.same S3) (by omega) (.not e3 (W2.same S3)) ok2 (by show y.size+1≤e+1;omega)
 case B1 =>
  have d0:(2:Int)<(d:Int):=of_decide_eq_true c3;have w5:(5:Int)<way:=of_decide_eq_true c4;refine⟨_,rfl,_,_,rfl,rfl,_,_,rfl,rfl,⟨by decide,by decide⟩,?_⟩;obtain⟨f,hf⟩:∃f:Nat,((d:Int)-1) / 2=(f:Int):=⟨(((d:Int)-1) / 2).toNat,by omega⟩;dsimp only;rw[hf];refine⟨_,rfl,_,rfl,_,rfl,p,nl,k+1,ns,f,rfl,T1,by omega,N1,by omega,by omega,λv y k2 H2 B2 T2 hk2 W2 ok2 yz2=>?_⟩;have N2:=N1.but T1 B2;refine⟨sz2,λt2 ht2=>?_⟩;refine laid ht2 λH3 S3 e3=>?_;obtain⟨u,hu,hu2⟩:=zymb (r:=way-6) (x:="both") (y:="any") (by omega) (by omega);refine⟨_,rfl,_,_,rfl,rfl,t2,_,_,_,rfl,rfl,SqL.of e3,hu,?_⟩;have T3:=T2.same S3;refine⟨_,rfl,_,rfl,_,rfl,_,rfl,_,_,rfl,rfl,_,rfl,_,_,rfl,rfl,p,nl,k2,ns,d-1-f,?_,T3,by omega,N2.same S3,by omega,by omega,λv' y' k4 H4 B4 T4 hk4 W4 ok4 yz4=>⟨sz3,λt ht=>?_⟩⟩
  ·show [V.ref p,V.ref nl,V.int ((d:Int)-1-(f:Int))]=_;rw[show (d:Int)-1-(f:Int)=((d-1-f:Nat):Int) by omega]
  ·refine laid ht λH5 S5 e5=>?_;have Ba:=B1.trans (B2.trans ((But.same S3).trans (B4.trans (But.same S5))));have wa:WT H5 v y:=((W2.same S3).but T3 B4).same S5
   rcases hu2 with rfl|rfl
   ·exact q _ (.both y y') k4 H5 Ba (T4.same S5) (by omega) (.both e5 wa (W4.same S5)) ⟨ok2,ok4⟩ (by show y.size+y'.size+1≤d;omega)
   ·exact q _ (.any y y') k4 H5 Ba (T4.same S5) (by omega) (.any e5 wa (W4.same S5)) ⟨ok2,ok4⟩ (by show y.size+y'.size+1≤d;omega)
 all_goals
  have m5:=zrt way (m:=5) (by decide);refine⟨_,rfl,_,_,rfl,rfl,(by show (0:Int)<5;decide),rfl,_,rfl,ite2 (λc6=>?_) (λc6=>?_)⟩
  ·refine⟨_,rfl,_,rfl,p,k+1,4,rfl,T1,by omega,by decide,λr H2 r0 r1 B2 T2=>?_⟩;have N2:=N1.but T1 B2;obtain⟨u,hu,hm⟩:=zol (ss:=ns) r0 (by rw[N0.len];exact r1);refine⟨nl,_,_,_,rfl,rfl,SqL.of N2.at_,hu,sz2,λt ht=>?_⟩;refine laid ht λH3 S3 e3=>?_;exact q _ (.mark u) _ H3 (B1.trans (B2.trans (But.same S3))) (T2.same S3) (by omega) (.mark e3) (N0.ok u hm) (by show 1≤d;omega)
  have w3:¬ way % 5=3:=λz=>c6 (decide_eq_true (by show V.int (way % 5)=_;rw[z]));refine⟨_,rfl,_,_,rfl,rfl,(by show (0:Int)<5;decide),rfl,_,rfl,ite2 (λc8=>?_) (λc8=>?_)⟩
  ·refine⟨_,rfl,p,k+1,rfl,T1,by omega,λr k2 H2 r1 B2 T2 hk2=>⟨sz2,λt ht=>?_⟩⟩;refine laid ht λH3 S3 e3=>?_;exact q _ (.force r) _ H3 (B1.trans (B2.trans (But.same S3))) (T2.same S3) (by omega) (.force e3) r1 (by show 1≤d;omega)
  have w4:¬ way % 5=4:=λz=>c8 (decide_eq_true (by show V.int (way % 5)=_;rw[z]));refine⟨sz3,λt2 ht2=>?_⟩;refine laid ht2 λH2 S2 e2=>?_;obtain⟨v,hv,hm⟩:=zbcb (xs:=[V.str "all",V.str "self",V.str "mine"]) (i:=way % 5) m5.1 (by show way % 5<3;omega);refine⟨_,rfl,_,_,rfl,rfl,(by show (0:Int)<5;decide),t2,_,_,_,rfl,rfl,SqL.of e2,hv,sz1,λt ht=>?_⟩;refine laid ht λH3 S3 e3=>?_;have Ba:=B1.trans (But.same (S2.trans S3));have Ta:=T1.same (S2.trans S3);simp only[yka,ybe,or_false] at hm
  rcases hm with rfl|rfl|rfl
  ·exact q _ .all _ H3 Ba Ta (by omega) (.all e3) trivial (by show 1≤d;omega)
  ·exact q _ .self _ H3 Ba Ta (by omega) (.self e3) trivial (by show 1≤d;omega)
  ·exact q _ .mine _ H3 Ba Ta (by omega) (.mine e3) trivial (by show 1≤d;omega)
theorem zgib (T:Tx K mg):FnOk P w K mg base CX0 5 T.zmb.f T.zmb.d zmg (zfo K 0):=by
 have no:∀vs H Q E,¬ zfo K 0 vs H Q E:=λvs H Q E h=>by
  obtain⟨p,nl,k,ns,d,_,_,_,_,h1,h2,_⟩:=h;omega
 exact⟨λvs H Q E h=>absurd h (no vs H Q E),λA outer s H args us vs Q E _ _ _ _ h=>absurd h (no vs H Q E)⟩
theorem zpw (T:Tx K mg):∀n:Nat,FnOk P w K mg base CX0 (n+5) T.zmb.f T.zmb.d zmg (zfo K n)
 | 0=>zgib T
 | n+1=>zfib T (zpw T n)
inductive All2 {α β:Type}(R:α->β->Prop):List α->List β->Prop where
 | nil:All2 R [] []
 | cons {a:α} {b:β} {as:List α} {bs:List β}:R a b->All2 R as bs->All2 R (a::as) (b::bs)
theorem All2.imp {α β:Type}{R S:α->β->Prop}(f:∀{a b},R a b->S a b){as:List α}{bs:List β}(z:All2 R as bs):All2 S as bs:=by
 induction z with
 | nil=>exact .nil
 | cons h _ ih=>exact .cons (f h) ih
theorem All2.snoc {α β:Type}{R:α->β->Prop}{a:α}{b:β}(h:R a b){as:List α}{bs:List β}(z:All2 R as bs):All2 R (as++[a]) (bs++[b]):=by
 induction z with
 | nil=>exact .cons h .nil
 | cons g _ ih=>exact .cons g ih
theorem All2.len {α β:Type}{R:α->β->Prop}{as:List α}{bs:List β}(z:All2 R as bs):as.length=bs.length:=by
 induction z with
 | nil=>rfl
 | cons _ _ ih=>rw[yja,yja,ih]
theorem All2.get {α β:Type}{R:α->β->Prop}:∀{as:List α} {bs:List β} {i:Nat} {a:α},All2 R as bs->as[i]?=some a->∃b,bs[i]?=some b∧R a b
 | _,_,_,_,.nil,e=>by simp at e
 | _,_,0,_,.cons h t,e=>by
  rw[yhe] at e;cases e;exact⟨_,rfl,h⟩
 | _,_,i+1,_,.cons h t,e=>by
  rw[ytb] at e;obtain⟨u,h1,h2⟩:=t.get e;exact⟨u,by rw[ytb];exact h1,h2⟩
theorem All2.mem {α β:Type}{R:α->β->Prop}{as:List α}{bs:List β}(h:All2 R as bs){a:α}(ha:a∈as):∃b∈bs,R a b:=by
 induction h with
 | nil=>cases ha
 | cons r t ih =>
  rcases yka.mp ha with rfl|z
  ·exact⟨_,yra,r⟩
  ·obtain⟨b,hb,rb⟩:=ih z;exact⟨b,yta _ hb,rb⟩
theorem All2.mem2 {α β:Type}{R:α->β->Prop}{as:List α}{bs:List β}(z:All2 R as bs){b:β}(hb:b∈bs):∃a∈as,R a b:=by
 induction z with
 | nil=>cases hb
 | cons h _ ih =>
  rcases yka.mp hb with z|z
  ·rw[z];exact⟨_,yra,h⟩
  ·obtain⟨a,ha,r⟩:=ih z;exact⟨a,yta _ ha,r⟩
theorem zztb (K:yda):yrc K (.type "str") (.type "tuple")=some false:=by kernel_rfl
theorem zaub (K:yda):yrc K (.type "int") (.type "tuple")=some false:=by kernel_rfl
theorem zeeb {x:V}{u:Str}(hv:(x = .str u)∨∃i:Nat,i<1000∧x = .int i∧u=(toString (i:Int):Str))(H0:Hp)(Q':VK)(z:Q' (.str u) H0):rStrAny [x] H0 Q':=by
 unfold rStrAny
 rcases hv with e|⟨i,hi,e,rfl⟩
 ·exact .inl ⟨u,by rw[e],z⟩
 ·exact .inr ⟨i,by rw[e],(by rw[ypl];exact ztt i hi),z⟩
inductive PT (n:Nat)(H:Hp):V->Str->Prop where
 | w {x:V} {y:Wh}:WT H x y->y.ok->dep y<n->y.size≤9->PT n H x (whT y)
 | s {u:Str}:zud u->PT n H (.str u) u
 | i {i:Nat}:i<1000->PT n H (.int (i:Int)) (toString (i:Int):Str)
theorem PT.len {n:Nat}{H:Hp}{x:V}{u:Str}(h:PT n H x u):u.length≤200:=by
 cases h with
 | w _ o _ d=>exact zrw o d
 | s o=>exact ymb o.2.1 (by decide)
 | i hi=>exact ymb (zzd hi).2.2 (by decide)
theorem PT.same {n:Nat}{H H':Hp}(s:Same H H'){x:V}{u:Str}(h:PT n H x u):PT n H' x u:=by
 cases h with
 | w a b c d=>exact .w (a.same s) b c d
 | s a=>exact .s a
 | i a=>exact .i a
theorem zpd (y:Wh):y.words≠[]:=y.zpd
theorem WT.open {n:Nat}{H:Hp}{v:V}{y:Wh}(h:WT H v y)(ok:y.ok)(hn:dep y<n+1)(h2:y.size≤9):Ex3 λa xs us=>v = .ref a∧H a=some (.tup (.str y.word::xs))∧xs.length≤2∧All2 (PT n H) xs us∧yya " " (y.word::us)=whT y:=by
 cases h with
 | all h=>exact⟨_,[],[],rfl,h,by simp,.nil,rfl⟩
 | self h=>exact⟨_,[],[],rfl,h,by simp,.nil,rfl⟩
 | mine h=>exact⟨_,[],[],rfl,h,by simp,.nil,rfl⟩
 | mark h=>exact⟨_,_,_,rfl,h,by simp,.cons (.s ok) .nil,rfl⟩
 | force h=>exact⟨_,_,_,rfl,h,by simp,.cons (.i ok) .nil,rfl⟩
 | @not a x y h t =>
  have m1:dep y+1<n+1:=hn;have m2:y.size+1≤9:=h2;refine⟨_,_,_,rfl,h,by simp,.cons (.w t ok (by omega) (by omega)) .nil,?_⟩;show yya " " ["not",yya " " y.words]=yya " " ("not" :: y.words)
  rw[join_cons " " "not" (zpd y),join_cons " " "not" (yhb _ _)];rfl
 | @both a x x' y y' h t t' =>
  have m1:max (dep y) (dep y')+1<n+1:=hn;have m2:y.size+y'.size+1≤9:=h2;refine⟨_,_,_,rfl,h,by simp,.cons (.w t ok.1 (by omega) (by omega)) (.cons (.w t' ok.2 (by omega) (by omega)) .nil),?_⟩;show yya " " ["both",yya " " y.words,yya " " y'.words]=yya " " ("both" :: (y.words++y'.words))
  rw[join_cons " " "both" (yhb _ _),join_cons " " (yya " " y.words) (yhb _ _),join_cons " " "both" (λz=>zpd y (ydj.mp z).1),zbm " " (zpd y) (zpd y')];rfl
 | @any a x x' y y' h t t' =>
  have m1:max (dep y) (dep y')+1<n+1:=hn;have m2:y.size+y'.size+1≤9:=h2;refine⟨_,_,_,rfl,h,by simp,.cons (.w t ok.1 (by omega) (by omega)) (.cons (.w t' ok.2 (by omega) (by omega)) .nil),?_⟩;show yya " " ["any",yya " " y.words,yya " " y'.words]=yya " " ("any" :: (y.words++y'.words))
  rw[join_cons " " "any" (yhb _ _),join_cons " " (yya " " y.words) (yhb _ _),join_cons " " "any" (λz=>zpd y (ydj.mp z).1),zbm " " (zpd y) (zpd y')];rfl
def zxk (n:Nat):Sp:=λvs H Q _=>Ex2 λv (y:Wh)=>vs=[v]∧WT H v y∧y.ok∧dep y<n∧y.size≤9∧∀H',Same H H'->Q (.str (whT y)) H'
theorem zeo {us:List Str}{m:Nat}(h:∀u∈us,u.length≤m):(us.map (·.length)).sum≤m*us.length:=by
 induction us with
 | nil=>exact yqb _
 | cons u r ih =>
  rw[yib,yae,yja,Nat.mul_succ];have:=h u yra;have:=ih λv hv=>h v (yta _ hv);omega
theorem zmgb (T:Tx K mg){n:Nat}(zmcb:FnOk P w K mg base CX0 (n+2) T.zkb.f T.zkb.d zqf (zxk n)):FnOk P w K mg base CX0 (n+3) T.zkb.f T.zkb.d zqf (zxk (n+1)):=by
 refine T.zkb.ok zyj ?_;rintro f c A o s H vs Q E hr ⟨v,y,rfl,wt,ok,hn,h2,q⟩ X;obtain⟨a,xs,us,rfl,ea,hl,ps,eg⟩:=wt.open (n:=n) ok hn h2;refine⟨_,  (zca (zoa (i:=1) zyj.nd rfl (.inl rfl) (zgd (zaa (zbb zab (pv 0) zfa (λ_ _=>rfl)) zba)))
  (zca (zlm yzd rfl (ztz (zcd zqq (pv 0) (zpe zfa) zqe)) (zeb (i:=2) zyj.nd rfl (.inl rfl))
   (zea (zvb (zkm (zza zen rfl T.zof ymo (zaa (pv 2) (zaa (zzcb (v:=.ty "tuple") rfl T.zkd yqe rfl) zba))))
    (zea (zme (zdi yac yed yfd zeh (pv 1) (zaa (zga zmcb hr rfl T.zkb.m T.zkb.F.kp (zjh T) .nil zpa (zaa (pv 2) zba)) zba))))
    (zea (zme (zdi yac yed yfd zeh (pv 1) (zaa (zya zll rfl T.zow ypp (zaa (pv 2) zba)) zba)))))))
  (zea (zta (zdi yhc yqd yrd zym zma (zaa (pv 1) zba)))))),?_⟩
 refine⟨_,rfl,a,_,_,_,rfl,rfl,SqT.of ea,zra (j:=0) rfl,sz1,λwl hwl=>?_⟩;refine laid hwl λH0 S0 e0=>?_;refine⟨_,rfl,_,rfl,a,_,rfl,SqT.of (S0 _ _ ea),?_,λb hb=>?_⟩
 ·rintro⟨z,_⟩;rw[show (1:Int)=((1:Nat):Int) from rfl,HT.zbt,yja] at z;omega
 have ec:cutV (V.str y.word::xs) (some 1) none=xs:=by
  rw[show (1:Int)=((1:Nat):Int) from rfl,zjl];rfl
 rw[ec];refine laid hb λH1 S1 eb=>?_;have nbw:b≠wl:=ywc (zka e0 hb);have S01:=S0.trans S1;refine⟨b,rfl,⟨_,SqT.of eb⟩,?_⟩;have wdl:y.word.length≤8:=(y.zxj).2.2;have psl:=ps.len;refine zjrb (xs:=xs) (λi σ H'=>∃o,σ=[some (.ref a),some (.ref wl),o]∧H' wl=some (.lst ((y.word::us.take i).map V.str))∧H' b=some (.tup xs)∧Same H H') ⟨_,rfl,S1 _ _ e0,eb,S01⟩ ?_ ?_ ?_
 ·rintro i σ H' _ ⟨o,rfl,_,e,S⟩;exact SqT.of e
 ·rintro i x σ H' hx ⟨o,rfl,ew,eb',S⟩;obtain⟨u,eu,pu⟩:=ps.get hx;have i2:i<xs.length:=(ysa.mp hx).1;have eg2:(y.word::us.take (i+1)).map V.str=(y.word::us.take i).map V.str++[V.str u]:=by
   rw[ydb,eu,yub,yib,yxa];rfl
  have sz:((y.word::us.take i).map V.str).length≤1000:=by
   rw[yba,yja,ygb];omega
  cases pu.same S with
  | @w x y' wt' ok' dn d2 =>
   obtain⟨a',xs',rfl,ea'⟩:=wt'.tup;refine⟨_,rfl,_,_,_,true,rfl,TyOf.tup ea',.inl ⟨"tuple",rfl,rfl⟩,_,rfl,iteT ?_⟩;refine⟨_,rfl,.inl ⟨rfl,_,SqL.of ew⟩,_,rfl,_,y',rfl,wt',ok',dn,d2,λH2 S2=>⟨wl,_,_,rfl,rfl,S2 _ _ ew,zse sz,?_⟩⟩;exact⟨_,rfl,by rw[eg2];exact zia,by rw[zdb nbw];exact S2 _ _ eb',zui (S.trans S2) hwl _⟩
  | s _ =>
   refine⟨_,rfl,_,_,_,false,rfl,TyOf.str _,.inl ⟨"tuple",rfl,zztb _⟩,_,rfl,iteF ?_⟩;refine⟨_,rfl,.inl ⟨rfl,_,SqL.of ew⟩,_,rfl,zeeb (.inl rfl) _ _ ⟨wl,_,_,rfl,rfl,ew,zse sz,?_⟩⟩;exact⟨_,rfl,by rw[eg2];exact zia,by rw[zdb nbw];exact eb',zui S hwl _⟩
  | i hi =>
   refine⟨_,rfl,_,_,_,false,rfl,TyOf.int _,.inl ⟨"tuple",rfl,zaub _⟩,_,rfl,iteF ?_⟩;refine⟨_,rfl,.inl ⟨rfl,_,SqL.of ew⟩,_,rfl,zeeb (.inr ⟨_,hi,rfl,rfl⟩) _ _ ⟨wl,_,_,rfl,rfl,ew,zse sz,?_⟩⟩;exact⟨_,rfl,by rw[eg2];exact zia,by rw[zdb nbw];exact eb',zui S hwl _⟩
 ·rintro σ H' ⟨o,rfl,ew,_,S⟩;rw[yla (by omega)] at ew;refine⟨rfl,_,rfl," ",wl,y.word::us,rfl,rfl,SqL.of ew,?_,?_⟩
  ·have z:=zeo (us:=y.word::us) (m:=200) λu hu=>by
    rcases yka.mp hu with z|z
    ·rw[z];omega
    ·obtain⟨x,_,pu⟩:=ps.mem2 z;exact pu.len
   rw[yja] at z ⊢;have e1:(" ":Str).length=1:=rfl;rw[e1];omega
  ·rw[eg];exact q H' S
theorem zngb (T:Tx K mg):FnOk P w K mg base CX0 2 T.zkb.f T.zkb.d zqf (zxk 0):=by
 have no:∀vs H Q E,¬ zxk 0 vs H Q E:=λvs H Q E h=>by
  obtain⟨v,y,_,_,_,hd,_⟩:=h;omega
 exact⟨λvs H Q E h=>absurd h (no vs H Q E),λA outer s H args us vs Q E _ _ _ _ h=>absurd h (no vs H Q E)⟩
theorem ztk (T:Tx K mg):∀n:Nat,FnOk P w K mg base CX0 (n+2) T.zkb.f T.zkb.d zqf (zxk n)
 | 0=>zngb T
 | n+1=>zmgb T (ztk T n)
def Kp (H H':Hp):Prop:=∀a o,(∀xs,o≠HO.lst xs)->H a=some o->H' a=some o
theorem Kp.same {H H':Hp}(s:Same H H'):Kp H H':=λ_ _ _ h=>s _ _ h
theorem Kp.trans {H H1 H2:Hp}(a:Kp H H1)(b:Kp H1 H2):Kp H H2:=λc o n h=>b c o n (a c o n h)
theorem Kp.but {K:yda}{H H':Hp}{p:Addr}{k:Int}(t:Tk K H p k)(b:But p H H'):Kp H H':=λa o n h=>by
 obtain⟨c,ep⟩:=t.two;refine b a o (λz=>?_) h;rw[z,ep] at h;injection h with h
 exact n _ h.symm
theorem Kp.put {H:Hp}{l:Addr}{us vs:List V}(e:H l=some (.lst us)):Kp H (upd H l (.lst vs)):=λa o n h=>by
 rw[zdb λz=>?_]
 ·exact h
 ·rw[z,e] at h;injection h with h
  exact n _ h.symm
theorem Kp.t {H H':Hp}(s:Kp H H'){a:Addr}{xs:List V}(h:H a=some (.tup xs)):H' a=some (.tup xs):=s _ _ (λ_ z=>by cases z) h
theorem WT.kp {H H':Hp}(s:Kp H H'){v:V}{y:Wh}(z:WT H v y):WT H' v y:=by
 induction z with
 | all h=>exact .all (s.t h)
 | self h=>exact .self (s.t h)
 | mine h=>exact .mine (s.t h)
 | mark h=>exact .mark (s.t h)
 | force h=>exact .force (s.t h)
 | not h _ i=>exact .not (s.t h) i
 | both h _ _ i j=>exact .both (s.t h) i j
 | any h _ _ i j=>exact .any (s.t h) i j
theorem Tk.strs {K:yda}{H:Hp}{p l:Addr}{k:Int}{ss:List Str}(t:Tk K H p k)(h:H l=some (.lst (ss.map V.str))):l≠p:=λz=>by
 obtain⟨a,e⟩:=t.two;rw[z,e] at h;injection h with h
 injection h with h
 cases ss with
 | nil=>cases h
 | cons x r=>injection h with h;cases h
theorem zbpb (y:Wh):dep y<y.size:=by
 induction y with
 | not a i=>exact Nat.succ_lt_succ i
 | both a b i j =>
  show max (dep a) (dep b)+1<a.size+b.size+1
  omega
 | any a b i j =>
  show max (dep a) (dep b)+1<a.size+b.size+1
  omega
 | _=>exact Nat.zero_lt_one
structure Tab where
 pts:List Int
 scs:List Int
 gone:List Bool
 decks:List (List Int)
 hands:List (List Int)
 lying:List Int
 heap:List Int
 marks:List (List Str)
 wnds:List Int
def T1 (H:Hp)(v:V)(xs:List V):Prop:=∃b,v = .ref b∧H b=some (.tup xs)
def T2 (H:Hp)(v:V)(xss:List (List V)):Prop:=Ex2 λb us=>v = .ref b∧H b=some (.tup us)∧All2 (T1 H) us xss
theorem T1.kp {H H':Hp}(s:Kp H H'){v:V}{xs:List V}(h:T1 H v xs):T1 H' v xs:=by
 obtain⟨b,e,h⟩:=h;exact⟨b,e,s.t h⟩
theorem T2.kp {H H':Hp}(s:Kp H H'){v:V}{xss:List (List V)}(h:T2 H v xss):T2 H' v xss:=by
 obtain⟨b,us,e,h,al⟩:=h;exact⟨b,us,e,s.t h,al.imp λz=>z.kp s⟩
def iM (xs:List Int):List V:=xs.map V.int
def sM (xs:List Str):List V:=xs.map V.str
structure TabP (H:Hp)(t:Tab)(v0 v1 v2 v3 v4 v5 v6 v7 v8:V):Prop where
 p0:T1 H v0 (iM t.pts)
 p1:T1 H v1 (iM t.scs)
 p2:T1 H v2 (t.gone.map V.bl)
 p3:T2 H v3 (t.decks.map iM)
 p4:T2 H v4 (t.hands.map iM)
 p5:T1 H v5 (iM t.lying)
 p6:T1 H v6 (iM t.heap)
 p7:T2 H v7 (t.marks.map sM)
 p8:T1 H v8 (iM t.wnds)
theorem TabP.kp {H H':Hp}(s:Kp H H'){t:Tab}{v0 v1 v2 v3 v4 v5 v6 v7 v8:V}(h:TabP H t v0 v1 v2 v3 v4 v5 v6 v7 v8):TabP H' t v0 v1 v2 v3 v4 v5 v6 v7 v8:=⟨h.p0.kp s,h.p1.kp s,h.p2.kp s,h.p3.kp s,h.p4.kp s,h.p5.kp s,h.p6.kp s,h.p7.kp s,h.p8.kp s⟩
def TabT (H:Hp)(v:V)(t:Tab):Prop:=Ex10 λa v0 v1 v2 v3 v4 v5 v6 v7 v8=>v = .ref a∧H a=some (.tup [v0,v1,v2,v3,v4,v5,v6,v7,v8])∧TabP H t v0 v1 v2 v3 v4 v5 v6 v7 v8
theorem TabT.kp {H H':Hp}(s:Kp H H'){v:V}{t:Tab}(h:TabT H v t):TabT H' v t:=by
 obtain⟨a,v0,v1,v2,v3,v4,v5,v6,v7,v8,e,h,p⟩:=h;exact⟨a,v0,v1,v2,v3,v4,v5,v6,v7,v8,e,s.t h,p.kp s⟩
theorem All2.set {α β:Type}{R:α->β->Prop}{as:List α}{bs:List β}(z:All2 R as bs){a:α}{b:β}(h:R a b):∀n:Nat,All2 R (as.set n a) (bs.set n b):=by
 induction z with
 | nil=>intro n;rw[List.set_nil,List.set_nil];exact .nil
 | cons g t ih =>
  intro n;cases n with
  | zero=>exact .cons h t
  | succ n=>exact .cons g (ih n)
theorem zrrb {α:Type}{xs:List α}{i:Nat}(h:i<xs.length)(x:α):xs.take i++[x]++xs.drop (i+1)=xs.set i x:=by
 rw[List.set_eq_take_append_cons_drop,if_pos h,ydd];rfl
theorem zas {G:Prop}{Kx pre:Addr->Hp->Prop}(g:(∀b Hs,pre b Hs->Kx b Hs)->G)(k:∀b Hs,pre b Hs->Kx b Hs):G:=g k
def zkv:Sp:=λvs H Q _=>Ex4 λa xs (i:Nat) x=>vs=[.ref a,.int (i:Int),x]∧H a=some (.tup xs)∧i<xs.length∧xs.length≤1000∧∀b H',Same H H'->H' b=some (.tup (xs.set i x))->Q (.ref b) H'
def zqib:Sp:=λvs H Q _=>Ex7 λa q ps xs (k i:Nat) x=>vs=[.ref a,.int (k:Int),.int (i:Int),x]∧H a=some (.tup ps)∧ps.length≤1000∧ps[k]?=some (.ref q)∧H q=some (.tup xs)∧i<xs.length∧xs.length≤1000∧∀b q' H',Same H H'->H' q'=some (.tup (xs.set i x))->H' b=some (.tup (ps.set k (.ref q')))->Q (.ref b) H'
theorem zei (T:Tx K mg):FnOk P w K mg base CX0 2 T.zic.f T.zic.d ziq zkv:=by
 refine T.zic.ok zucb ?_;rintro f c A o s H vs Q E hr ⟨a,xs,i,x,rfl,ea,hi,hl,q⟩ X;refine⟨_,  (zea (zta (zqb zvm (zqb zfx (zcd zqq (pv 0) zqe (zpe (pv 1))) (ztb (zaa (pv 2) zba))) (zcd zqq (pv 0) (zpe (zqb zbh (pv 1) zfa)) zqe)))),?_⟩;refine⟨_,rfl,_,rfl,_,rfl,a,_,rfl,SqT.of ea,?_,λb1 hb1=>?_⟩
 ·rintro⟨_,z⟩;rw[HT.zbt] at z;omega
 rw[zbu];refine laid hb1 λH1 S1 e1=>?_;refine⟨_,rfl,sz1,λb2 hb2=>?_⟩;refine laid hb2 λH2 S2 e2=>?_;refine' zas (pre:=λb H3=>Same H H3∧H3 b=some (.tup (xs.take i++[x]))) (λkk=>?gg) ?kn
 case gg =>
  refine⟨b1,b2,_,_,rfl,rfl,SqT.of (S2 _ _ e1),SqT.of e2,by simp,(by rw[ygb];exact small (by show min i xs.length+1≤1000;omega)),λz=>?_,λz b3 hb3=>?_⟩
  ·have e2':H2 b2=some (.tup (xs.take i++[x])):=by rw[z];exact e2
   obtain⟨c,hc⟩:∃c,c=b2:=⟨_,rfl⟩;obtain⟨Hz,hz⟩:∃h,h=H2:=⟨_,rfl⟩;rw[← hc,← hz];exact kk c Hz (by rw[hc,hz];exact⟨S1.trans S2,e2'⟩)
  ·refine laid hb3 λH3 S3 e3=>?_;exact kk b3 H3 ⟨S1.trans (S2.trans S3),e3⟩
 case kn =>
 rintro b3 H3 ⟨S3,e3⟩;refine⟨_,rfl,_,rfl,_,_,rfl,rfl,_,rfl,a,_,rfl,SqT.of (S3 _ _ ea),?_,λb4 hb4=>?_⟩
 ·rintro⟨z,_⟩;rw[show (i:Int)+1=((i+1:Nat):Int) by omega,HT.zbt] at z;omega
 dsimp only;rw[show (i:Int)+1=((i+1:Nat):Int) by omega,zjl];refine laid hb4 λH4 S4 e4=>?_;have cp:=zrrb hi x;refine⟨b3,b4,_,_,rfl,rfl,SqT.of (S4 _ _ e3),SqT.of e4,by simp,(by rw[yea,ygb,yje];exact small (by show min i xs.length+1+(xs.length-(i+1))≤1000;omega)),λz=>?_,λz b5 hb5=>?_⟩
 ·refine q b3 H4 (S3.trans S4) ?_;rw[z,yfc] at cp;rw[← cp];exact S4 _ _ e3
 ·refine laid hb5 λH5 S5 e5=>?_;rw[cp] at e5;exact q b5 H5 (S3.trans (S4.trans S5)) e5
theorem zxc (T:Tx K mg):FnOk P w K mg base CX0 3 T.zjb.f T.zjb.d zpl zqib:=by
 refine T.zjb.ok zvw ?_;rintro f c A o s H vs Q E hr ⟨a,qa,ps,xs,k,i,x,rfl,ea,pl,ek,eq,hi,hl,q⟩ X;refine⟨_,  (zea (zta (zga (zei T) hr rfl T.zic.m T.zic.F.kp (zuj T) .nil zpa (zaa (pv 0) (zaa (pv 1) (zaa (zga (zei T) hr rfl T.zic.m T.zic.F.kp (zuj T) .nil zpa (zaa (zbb zab (pv 0) (pv 1) (λ_ _=>rfl)) (zaa (pv 2) (zaa (pv 3) zba)))) zba)))))),?_⟩;refine⟨_,rfl,_,rfl,_,rfl,_,rfl,a,_,_,_,rfl,rfl,SqT.of ea,zra ek,_,rfl,_,rfl,qa,xs,i,x,rfl,eq,hi,hl,λq' H1 S1 e1=>?_⟩;refine⟨a,ps,k,.ref q',rfl,S1 _ _ ea,(ysa.mp ek).1,pl,λb H2 S2 e2=>?_⟩;exact q b q' H2 (S1.trans S2) (S2 _ _ e1) e2
def zkmb:Sp:=λvs H Q _=>Ex2 λm x=>vs=[.ref m,x]∧((Ex2 λ(ms:List Str) (n:Str)=>x = .str n∧H m=some (.tup (sM ms))∧ms.length≤60∧∀p (zs:List Str) H',Same H H'->H' p=some (.tup (sM zs))->zs.Perm (SSet.dd (ms++[n]))->yyk zs=true->Q (.ref p) H') ∨
 Ex2 λ(ns:List Int) (n:Int)=>x = .int n∧H m=some (.tup (iM ns))∧ns.length≤60∧∀p (zs:List Int) H',Same H H'->H' p=some (.tup (iM zs))->zs.Perm (ISet.dd (ns++[n]))->zs.Pairwise (· ≤ ·)->Q (.ref p) H')
def zpsb:Sp:=λvs H Q _=>Ex3 λm xs x=>vs=[.ref m,x]∧H m=some (.tup xs)∧(∀v∈xs,scal v x=true)∧xs.length≤60∧∀p H',Same H H'->H' p=some (.tup (xs.filter λv=>!decide (v=x)))->Q (.ref p) H'
theorem zdpb (xs:List Str):(SSet.dd xs).length≤xs.length:=by
 have z:=SSet.zodb xs.length xs;rw[yla (yga _)] at z;exact z
theorem zsub (xs:List Int):(ISet.dd xs).length≤xs.length:=by
 have z:=ISet.zodb xs.length xs;rw[yla (yga _)] at z;exact z
theorem zeab (T:Tx K mg):FnOk P w K mg base CX0 2 T.zwh.f T.zwh.d zvy zkmb:=by
 refine T.zwh.ok zajb ?_;rintro f c A o s H vs Q E hr ⟨m,x,rfl,h⟩ X;refine⟨_,  (zea (zta (zya zrb rfl T.zkd yqe (zaa (zza (zdu rfl) rfl T.zvh ycl (zaa (zya (zmbb rfl) rfl T.zcib boot_set (zaa (zqb zfx (pv 0) (ztb (zaa (pv 1) zba))) zba)) zba)) zba)))),?_⟩;refine⟨_,rfl,_,rfl,sz1,λt1 ht1=>?_⟩;refine laid ht1 λH1 S1 e1=>?_
 rcases h with⟨ms,n,rfl,em,le,q⟩|⟨ns,n,rfl,em,le,q⟩
 ·refine⟨m,t1,_,_,rfl,rfl,SqT.of (S1 _ _ em),SqT.of e1,by simp,(by unfold sM;rw[yba];exact small (by show ms.length+1≤1000;omega)),λz=>?g1,λz t2 ht2=>?g2⟩
  case' g1 =>
   have z':ms=[]:=ych.mp z;have e2:H1 t1=some (.tup ((ms++[n]).map V.str)):=(by rw[e1,z'];rfl);have S2:=S1
  case' g2 =>
   refine laid ht2 λH2 S2' e2'=>?_;have e2:H2 t2=some (.tup ((ms++[n]).map V.str)):=(by rw[e2',yxa];rfl);have S2:=S1.trans S2'
  all_goals
   have gl:=zdpb (ms++[n]);rw[yea,yvc] at gl;refine .inl ⟨_,ms++[n],rfl,SqT.of e2,(by rw[yea];show ms.length+1≤1000;omega),λl hl=>?_⟩;refine laid hl λH3 S3 e3=>?_;refine .inl ⟨l,_,rfl,e3,(by omega),λp ys hp py sy=>?_⟩;refine laid hp λH4 S4 e4=>?_;refine⟨p,_,rfl,.inl ⟨SqL.of e4,λtm htm=>?_⟩⟩;refine laid htm λH5 S5 e5=>?_;exact q tm ys H5 (S2.trans (S3.trans (S4.trans S5))) e5 py sy
 ·refine⟨m,t1,_,_,rfl,rfl,SqT.of (S1 _ _ em),SqT.of e1,by simp,(by unfold iM;rw[yba];exact small (by show ns.length+1≤1000;omega)),λz=>?g3,λz t2 ht2=>?g4⟩
  case' g3 =>
   have z':ns=[]:=ych.mp z;have e2:H1 t1=some (.tup ((ns++[n]).map V.int)):=(by rw[e1,z'];rfl);have S2:=S1
  case' g4 =>
   refine laid ht2 λH2 S2' e2'=>?_;have e2:H2 t2=some (.tup ((ns++[n]).map V.int)):=(by rw[e2',yxa];rfl);have S2:=S1.trans S2'
  all_goals
   have gl:=zsub (ns++[n]);rw[yea,yvc] at gl;refine .inr ⟨_,ns++[n],rfl,SqT.of e2,(by rw[yea];show ns.length+1≤1000;omega),λl hl=>?_⟩;refine laid hl λH3 S3 e3=>?_;refine .inr ⟨l,_,rfl,e3,(by omega),λp ys hp py sy=>?_⟩;refine laid hp λH4 S4 e4=>?_;refine⟨p,_,rfl,.inl ⟨SqL.of e4,λtm htm=>?_⟩⟩;refine laid htm λH5 S5 e5=>?_;exact q tm ys H5 (S2.trans (S3.trans (S4.trans S5))) e5 py sy
theorem zuv (T:Tx K mg):FnOk P w K mg base CX0 2 T.zsf.f T.zsf.d znu zpsb:=by
 refine T.zsf.ok zygb ?_;rintro f c A o s H vs Q E hr ⟨m,xs,x,rfl,em,sc,le,q⟩ X;refine⟨_,  (zea (zta (zya zrb rfl T.zkd yqe (zaa (zwc (own:=["value"]) (cap:=["one"]) rfl (zsb.chk rfl rfl) (.cons (j:=1) rfl (.inl rfl) (.inl rfl) .nil) (ztz (pv 0)) (λ_ _ _ _=>(zeb (i:=0) (show yyc (["value","one"]:List Str) by decide +kernel) rfl (.inl rfl))) (λ_ _ _ _=>zsp (zna zqjb (pv 0) (pv 1) (zgb _))) (λ_ _ _ _=>by exact (pv 0))) zba)))),?_⟩;refine⟨_,rfl,m,rfl,⟨_,SqT.of em⟩,?_⟩;refine zcs (xs:=xs) (λj ys H'=>H'=H∧ys=(xs.take j).filter λv=>!decide (v=x)) (λj ys H' z=>by rw[z.1];exact SqT.of em) ⟨rfl,rfl⟩ ?_ ?_ ?_
 ·rintro j ys H' ⟨_,rfl⟩;have h1:=yph (λv=>!decide (v=x)) (xs.take j);rw[ygb] at h1;exact small (by omega)
 ·rintro j v ys H' hv ⟨rfl,rfl⟩;refine⟨rfl,_,rfl,_,rfl,sc v (ybb hv),_,rfl,?_⟩;rw[ydb,hv,yub,yql];refine ite2 (λc=>?_) (λc=>?_)
  ·exact⟨_,rfl,rfl,by rw[ydh (p:=λv=>!decide (v=x)) c];rfl⟩
  ·exact⟨rfl,by rw[yeh (p:=λv=>!decide (v=x)) c];simp⟩
 ·rintro ys H' ⟨rfl,rfl⟩ l1 hl1;rw[yla (yga _)];refine laid hl1 λHa Sa ea=>?_;refine⟨l1,_,rfl,.inl ⟨SqL.of ea,λtm htm=>?_⟩⟩;refine laid htm λHb Sb eb=>?_;exact q tm Hb (Sa.trans Sb) eb
def CmT (B:Addr)(H:Hp)(v:V)(ms:List Str):Prop:=Ex7 λa dx m tt (nm:Str) (c f:Nat)=>v = .ref a∧H a=some (.ins B dx (cfs nm c f m tt))∧H m=some (.tup (sM ms))
theorem CmT.kp {B:Addr}{H H':Hp}(s:Kp H H'){v:V}{ms:List Str}(h:CmT B H v ms):CmT B H' v ms:=by
 obtain⟨a,dx,m,tt,nm,c,f,e,h1,h2⟩:=h;exact⟨a,dx,m,tt,nm,c,f,e,s _ _ (λ_ z=>by cases z) h1,s.t h2⟩
theorem zjbb (n:Str)(c f:Nat)(m t:Addr):(cfs n c f m t).lookup ("marks":Str)=some (.ref m):=(zue (by decide +kernel)).trans ((zue (by decide +kernel)).trans ((zue (by decide +kernel)).trans zbs))
structure TOk (np nc:Nat)(t:Tab):Prop where
 pts:t.pts.length=np
 scs:t.scs.length=np
 gone:t.gone.length=np
 decks:t.decks.length=np
 hands:t.hands.length=np
 marks:t.marks.length=nc
 wnds:t.wnds.length=nc
 ly:t.lying.length≤16
 hp:t.heap.length≤16
 ms:∀m∈t.marks,m.length≤40
 ds:∀d∈t.decks,d.length≤16
 hs:∀d∈t.hands,d.length≤16
 np4:np≤4
 nc16:nc≤16
def hpM (t:Tab)(kd:Str)(th:Int):Bool:=if th<0 then !(t.gone.getD (-1-th).toNat false) else (decide (kd = "come")||decide (th∈t.lying))
inductive PlR (t:Tab)(p:Nat)(z:Int):Str->Tab->Prop where
 | lose {x:Int}:t.pts[p]?=some x->PlR t p z "lose" { t with pts:=t.pts.set p (x-z) }
 | score {x:Int}:t.scs[p]?=some x->PlR t p z "score" { t with scs:=t.scs.set p (x+z) }
 | draw {d h hand:List Int}:t.decks[p]?=some d->t.hands[p]?=some h->hand.Perm (h++d.take z.toNat)->hand.Pairwise (· ≤ ·)->PlR t p z "draw" { t with hands:=t.hands.set p hand,decks:=t.decks.set p (d.drop z.toNat) }
inductive CrR (cms:List (List Str))(t:Tab)(n:Nat):V->Str->Tab->Prop where
 | come {av:V} {ms:List Str}:cms[n]?=some ms->CrR cms t n av "come" { t with marks:=t.marks.set n ms,wnds:=t.wnds.set n 0,lying:=t.lying++[(n:Int)] }
 | leave {av:V} {ms:List Str} {heap:List Int}:cms[n]?=some ms->heap.Perm (ISet.dd (t.heap++[(n:Int)]))->heap.Pairwise (· ≤ ·)->CrR cms t n av "leave" { t with marks:=t.marks.set n ms,wnds:=t.wnds.set n 0,lying:=t.lying.filter λx=>!decide (x=(n:Int)),heap:=heap }
 | hurt {x z:Int}:t.wnds[n]?=some x->CrR cms t n (.int z) "hurt" { t with wnds:=t.wnds.set n (x+z) }
 | gain {ms zs:List Str} {u:Str}:t.marks[n]?=some ms->zs.Perm (SSet.dd (ms++[u]))->yyk zs=true->CrR cms t n (.str u) "gain" { t with marks:=t.marks.set n zs }
 | lack {ms:List Str} {u:Str}:t.marks[n]?=some ms->CrR cms t n (.str u) "lack" { t with marks:=t.marks.set n (ms.filter λx=>!decide (x=u)) }
def zuib:Sp:=λvs H Q _=>Ex8 λtv ha (t:Tab) (np nc:Nat) (kd:Str) (th:Int) av=>vs=[tv,.ref ha]∧TabT H tv t∧TOk np nc t∧H ha=some (.tup [.str kd,.int th,av]) ∧ -(np:Int)≤th∧∀H',Same H H'->Q (.bl (hpM t kd th)) H'
theorem inI (n:Int)(ns:List Int):inV (.int n) (iM ns)=decide (n∈ns):=by
 unfold inV iM
 induction ns with
 | nil=>rfl
 | cons x r ih =>
  rw[yib,yjp,ih]
  by_cases e:x=n
  ·subst e;rw[decide_eq_true yra];have:eqV (V.int x) (V.int x)=true:=by simp[eqV]
   rw[this,yko]
  ·have h1:eqV (V.int x) (V.int n)=false:=by simp[eqV,e]
   rw[h1,yzm];refine decide_eq_decide.mpr ⟨λz=>yta _ z,λz=>?_⟩
   rcases yka.mp z with y|y
   ·exact absurd y.symm e
   ·exact y
theorem zebb (ns:List Int):(iM ns).all zzu=true:=by
 rw[yvf];intro v hv;obtain⟨x,_,rfl⟩:=ycc.mp hv;rfl
theorem zfhb (T:Tx K mg):FnOk P w K mg base CX0 2 T.zyh.f T.zyh.d zqu zuib:=by
 refine T.zyh.ok zyl ?_;rintro f c A o s H vs Q E hr ⟨tv,ha,t,np,nc,kd,th,av,rfl,TT,TO,eh,hth,q⟩ X;obtain⟨a,v0,v1,v2,v3,v4,v5,v6,v7,v8,rfl,ea,TP⟩:=TT;refine⟨_,  (zca (znm (pv 1) (zer (n:=3) rfl (zlc (zeb (i:=2) zyl.nd rfl (.inl rfl)) (zlc (zeb (i:=3) zyl.nd rfl (.inl rfl)) (zlc (zeb (i:=4) zyl.nd rfl (.inl rfl)) zbl)))))
  (zca (zvb (zna zenb (pv 3) zfa (zgb _))
   (zea (zta (zitb (zbb zab (zbb zab (pv 0) (znb (v:=.int 2) rfl T.zbgb ⟨_,rfl⟩) (λ_ _=>rfl)) (zqb zah (zbx zdo zfa) (pv 3)) (λ_ _=>rfl)))))
   zva)
  (zea (zta (zgtb (ztp zne (pv 2) zma (zgb _)) (zpjb (ztp zte (pv 3) (zbb zab (pv 0) (znb (v:=.int 5) rfl T.zgl ⟨_,rfl⟩) (λ_ _=>rfl)) rfl))))))),?_⟩
 refine⟨_,rfl,ha,_,rfl,SqT.of eh,rfl,_,_,rfl,_,_,rfl,_,_,rfl,rfl,?_⟩;refine⟨_,rfl,_,_,rfl,rfl,_,rfl,ite2 (λc=>?_) (λc=>?_)⟩
 ·have c':th<0:=of_decide_eq_true c;obtain⟨b,rfl,eb⟩:=TP.p2;obtain⟨p,hp⟩:∃p:Nat,-1-th=(p:Int):=⟨(-1-th).toNat,by omega⟩;have pl:p<t.gone.length:=by rw[TO.gone];omega
  have eg:(t.gone.map V.bl)[p]?=some (.bl t.gone[p]):=by rw[yqa,yma pl];rfl
  refine⟨_,rfl,a,_,_,_,rfl,rfl,SqT.of ea,zra (j:=2) rfl,_,rfl,_,rfl,_,_,rfl,rfl,?_⟩;dsimp only;rw[hp];refine⟨b,_,_,_,rfl,rfl,SqT.of eb,zra eg,_,rfl,?_⟩;have z:=q H (Same.refl _);have e:hpM t kd th = !t.gone[p]:=by
   unfold hpM;rw[if_pos c',hp,yxb,yza,yma pl];rfl
  rw[e] at z;exact z
 ·have c':¬ th<0:=λz=>c (decide_eq_true z);obtain⟨b,rfl,eb⟩:=TP.p5;have e:hpM t kd th=(decide (kd = "come")||decide (th∈t.lying)):=if_neg c';have ek:decide (V.str kd=V.str "come")=decide (kd = "come"):=decide_eq_decide.mpr ⟨λz=>by injection z,λz=>by rw[z]⟩;refine⟨_,rfl,rfl,_,rfl,?_⟩;have z:=q H (Same.refl _);rw[e] at z;refine ite2 (λc1=>?_) (λc1=>?_)
  ·rw[← ek,c1,yko] at z;exact z
  ·rw[← ek,ypg.mpr c1,yzm] at z;refine⟨_,rfl,_,rfl,a,_,_,_,rfl,rfl,SqT.of ea,zra (j:=5) rfl,b,_,rfl,.inr (SqT.of eb),rfl,zebb _,?_⟩;show Q (.bl (inV (.int th) (iM t.lying))) H
   rw[inI];exact z
def zmvb:Sp:=λvs H Q _=>Ex8 λtv ha (t:Tab) (np nc p:Nat) (kd:Str) (z:Int)=>vs=[tv,.ref ha]∧TabT H tv t∧TOk np nc t∧H ha=some (.tup [.str kd,.int (-1-(p:Int)),.int z])∧p<np∧kd∈zqc∧0≤z∧∀v' (t':Tab) H',Same H H'->TabT H' v' t'->PlR t p z kd t'->Q v' H'
theorem getx {α:Type}{xs:List α}{i:Nat}(h:i<xs.length):∃x,xs[i]?=some x:=⟨_,yma h⟩
theorem All2.get2 {α β:Type}{R:α->β->Prop}{as:List α}{bs:List β}(z:All2 R as bs){i:Nat}{b:β}(h:bs[i]?=some b):∃a,as[i]?=some a∧R a b:=by
 induction z generalizing i with
 | nil=>simp at h
 | cons r _ ih =>
  cases i with
  | zero =>
   rw[yhe] at h;cases h;exact⟨_,rfl,r⟩
  | succ i =>
   rw[ytb] at h;obtain⟨a,e,q⟩:=ih h;exact⟨a,by rw[ytb];exact e,q⟩
theorem ziu {α:Type}{f:α->V}{xs:List α}{i:Nat}{x:α}(h:xs[i]?=some x):atI (xs.map f) (i:Int)=some (f x):=zra (by rw[yqa,h];rfl)
theorem zelb {xs:List V}{z:Int}(h:0≤z):cutV xs none (some z)=xs.take z.toNat:=by
 have e:z=((z.toNat:Nat):Int):=by omega
 rw[e,zbu,yxb]
theorem zclb {xs:List V}{z:Int}(h:0≤z):cutV xs (some z) none=xs.drop z.toNat:=by
 have e:z=((z.toNat:Nat):Int):=by omega
 rw[e,zjl,yxb]
theorem zfy {xs:List V}{lo hi:Option Int}(h:HT.sIx xs.length 0 lo=0∧HT.sIx xs.length xs.length hi=xs.length):cutV xs lo hi=xs:=by
 unfold cutV;rw[h.1,h.2,ysj,ylo,yla (yga _)]
theorem zwm (T:Tx K mg):FnOk P w K mg base CX0 4 T.zdc.f T.zdc.d zcg zmvb:=by
 refine T.zdc.ok zac ?_;rintro f c A o s H vs Q E hr ⟨tv,ha,t,np,nc,p,kd,z,rfl,TT,TO,eh,hp,hk,z0,q⟩ X;obtain⟨a,v0,v1,v2,v3,v4,v5,v6,v7,v8,rfl,ea,TP⟩:=TT;have np4:=TO.np4;refine⟨_,  (zca (znm (pv 1) (zer (n:=3) rfl (zlc (zeb (i:=2) zac.nd rfl (.inl rfl)) (zlc (zeb (i:=3) zac.nd rfl (.inl rfl)) (zlc (zeb (i:=4) zac.nd rfl (.inl rfl)) zbl)))))
  (zca (zoa (i:=5) zac.nd rfl (.inl rfl) (zqb zah (zbx zdo zfa) (pv 3)))
  (zca (zvb (zna zne (pv 2) zma (zgb _))
   (zea (zta (zga (zxc T) hr rfl T.zjb.m T.zjb.F.kp (zjd T) .nil zpa (zaa (pv 0) (zaa (znb (v:=.int 0) rfl T.zzo ⟨_,rfl⟩) (zaa (pv 5) (zaa (zqb zah (zbb zab (zbb zab (pv 0) (znb (v:=.int 0) rfl T.zzo ⟨_,rfl⟩) (λ_ _=>rfl)) (pv 5) (λ_ _=>rfl)) (pv 4)) zba)))))))
   zva)
  (zca (zvb (zna zne (pv 2) zma (zgb _))
   (zea (zta (zga (zxc T) hr rfl T.zjb.m T.zjb.F.kp (zjd T) .nil zpa (zaa (pv 0) (zaa (znb (v:=.int 1) rfl T.zyo ⟨_,rfl⟩) (zaa (pv 5) (zaa (zqb zbh (zbb zab (zbb zab (pv 0) (znb (v:=.int 1) rfl T.zyo ⟨_,rfl⟩) (λ_ _=>rfl)) (pv 5) (λ_ _=>rfl)) (pv 4)) zba)))))))
   zva)
  (zca (zoa (i:=6) zac.nd rfl (.inl rfl) (zbb zab (zbb zab (pv 0) (znb (v:=.int 3) rfl T.zyt ⟨_,rfl⟩) (λ_ _=>rfl)) (pv 5) (λ_ _=>rfl)))
  (zca (zoa (i:=7) zac.nd rfl (.inl rfl) (zya zrb rfl T.zkd yqe (zaa (zza zph rfl T.zvh ycl (zaa (zqb zuqb (zbb zab (zbb zab (pv 0) (znb (v:=.int 4) rfl T.zxt ⟨_,rfl⟩) (λ_ _=>rfl)) (pv 5) (λ_ _=>rfl)) (zcd zscb (pv 6) zqe (zpe (pv 4)))) zba)) zba)))
  (zea (zta (zga (zxc T) hr rfl T.zjb.m T.zjb.F.kp (zjd T) .nil zpa (zaa (zga (zxc T) hr rfl T.zjb.m T.zjb.F.kp (zjd T) .nil zpa (zaa (pv 0) (zaa (znb (v:=.int 4) rfl T.zxt ⟨_,rfl⟩) (zaa (pv 5) (zaa (pv 7) zba))))) (zaa (znb (v:=.int 3) rfl T.zyt ⟨_,rfl⟩) (zaa (pv 5) (zaa (zcd zscb (pv 6) (zpe (pv 4)) zqe) zba))))))))))))),?_⟩
 refine⟨_,rfl,ha,_,rfl,SqT.of eh,rfl,_,_,rfl,_,_,rfl,_,_,rfl,rfl,?_⟩;refine⟨_,rfl,_,rfl,_,_,rfl,rfl,?_⟩;have ep:(-1:Int)-(-1-(p:Int))=(p:Int):=by omega
 dsimp only;rw[show (-(1:Int)-(-1-(p:Int)))=(p:Int) from ep];simp only[zqc,yka,ybe,or_false] at hk
 rcases hk with rfl|rfl|rfl
 ·obtain⟨b,rfl,eb⟩:=TP.p0;obtain⟨x,hx⟩:=getx (xs:=t.pts) (by rw[TO.pts];exact hp);refine⟨_,rfl,rfl,_,rfl,iteT ?_⟩;refine⟨_,rfl,_,rfl,_,rfl,a,_,_,_,rfl,rfl,SqT.of ea,zra (j:=0) rfl,_,rfl,b,_,_,_,rfl,rfl,SqT.of eb,ziu hx,_,rfl,_,_,rfl,rfl,?_⟩;refine⟨a,b,_,_,0,p,_,rfl,ea,(by show 9≤1000;decide),rfl,eb,by unfold iM;rw[yba,TO.pts];exact hp,by unfold iM;rw[yba,TO.pts];omega,λc b' H1 S1 e1 e2=>?_⟩;have TP1:=TP.kp (Kp.same S1);refine q (.ref c) _ H1 S1 ⟨c,_,v1,v2,v3,v4,v5,v6,v7,v8,rfl,e2,?_⟩ (.lose hx);exact { TP1 with p0:=⟨b',rfl,by rw[e1];unfold iM;rw[ywe]⟩ }
 ·obtain⟨b,rfl,eb⟩:=TP.p1;obtain⟨x,hx⟩:=getx (xs:=t.scs) (by rw[TO.scs];exact hp);refine⟨_,rfl,rfl,_,rfl,iteF ⟨_,rfl,rfl,_,rfl,iteT ?_⟩⟩;refine⟨_,rfl,_,rfl,_,rfl,a,_,_,_,rfl,rfl,SqT.of ea,zra (j:=1) rfl,_,rfl,b,_,_,_,rfl,rfl,SqT.of eb,ziu hx,_,rfl,_,_,rfl,rfl,?_⟩;refine⟨a,b,_,_,1,p,_,rfl,ea,(by show 9≤1000;decide),rfl,eb,by unfold iM;rw[yba,TO.scs];exact hp,by unfold iM;rw[yba,TO.scs];omega,λc b' H1 S1 e1 e2=>?_⟩;have TP1:=TP.kp (Kp.same S1);refine q (.ref c) _ H1 S1 ⟨c,v0,_,v2,v3,v4,v5,v6,v7,v8,rfl,e2,?_⟩ (.score hx);exact { TP1 with p1:=⟨b',rfl,by rw[e1];unfold iM;rw[ywe]⟩ }
 ·obtain⟨b3,u3,rfl,e3,al3⟩:=TP.p3;obtain⟨b4,u4,rfl,e4,al4⟩:=TP.p4;obtain⟨d,hd⟩:=getx (xs:=t.decks) (by rw[TO.decks];exact hp);obtain⟨h,hh⟩:=getx (xs:=t.hands) (by rw[TO.hands];exact hp);obtain⟨_,edv,db,rfl,edb⟩:=al3.get2 (b:=iM d) (by rw[yqa,hd];rfl);obtain⟨_,ehv,hb,rfl,ehb⟩:=al4.get2 (b:=iM h) (by rw[yqa,hh];rfl);have dl:=TO.ds d (ybb hd);have hl:=TO.hs h (ybb hh);refine⟨_,rfl,rfl,_,rfl,iteF ⟨_,rfl,rfl,_,rfl,iteF ?_⟩⟩;refine⟨_,rfl,a,_,_,_,rfl,rfl,SqT.of ea,zra (j:=3) rfl,_,rfl,b3,_,_,_,rfl,rfl,SqT.of e3,zra edv,?_⟩;refine⟨_,rfl,a,_,_,_,rfl,rfl,SqT.of ea,zra (j:=4) rfl,_,rfl,b4,_,_,_,rfl,rfl,SqT.of e4,zra ehv,_,rfl,_,rfl,_,rfl,?_⟩;refine' zas (pre:=λc H1=>Same H H1∧H1 c=some (.tup (iM (d.take z.toNat)))) (λkk=>?ga) ?ka
  case ga =>
   refine⟨db,_,rfl,SqT.of edb,λwh=>?w1,λ_ c hc=>?f1⟩
   case f1 =>
    rw[zelb z0];refine laid hc λH1 S1 e1=>?_;exact kk c H1 ⟨S1,by rw[e1];unfold iM;rw[yqp]⟩
   case w1 =>
    have ew:=zfy wh;rw[zelb z0] at ew;have ez:H db=some (.tup (iM (d.take z.toNat))):=by
     rw[edb];unfold iM at ew ⊢;rw[yqp,ew]
    exact kk db H ⟨Same.refl _,ez⟩
  case ka =>
  rintro c1 H1 ⟨S1,e1⟩;refine' zas (pre:=λc H2=>Same H H2∧H2 c=some (.tup (iM (h++d.take z.toNat)))) (λkk=>?gb) ?kb
  case gb =>
   have ehb1:=S1 _ _ ehb;refine⟨hb,c1,_,_,rfl,rfl,SqT.of ehb1,SqT.of e1,?s2,λx0=>?a2,λx0 y0=>?b2,λx0 y0 c hc=>?f2⟩
   case f2 =>
    refine laid hc λH2 S2 e2=>?_;exact kk c H2 ⟨S1.trans S2,by rw[e2];unfold iM;rw[yxa]⟩
   case s2 =>
    unfold iM;rw[yba,yba,ygb];exact small (by omega)
   case a2 =>
    have h0:h=[]:=ych.mp x0;have ez:H1 c1=some (.tup (iM (h++d.take z.toNat))):=(by rw[h0];exact e1);exact kk c1 H1 ⟨S1,ez⟩
   case b2 =>
    have d0:d.take z.toNat=[]:=ych.mp y0;have ez:H1 hb=some (.tup (iM (h++d.take z.toNat))):=(by rw[d0,yfc];exact ehb1);exact kk hb H1 ⟨S1,ez⟩
  case kb =>
  rintro c2 H2 ⟨S2,e2⟩;refine⟨c2,_,rfl,.inr (SqT.of e2),(by rw[yea,ygb];omega),λl ys hl' py sy=>?_⟩;refine laid hl' λH3 S3 e3'=>?_;refine⟨l,_,rfl,.inl ⟨SqL.of e3',λtm htm=>?_⟩⟩;refine laid htm λH4 S4 e4'=>?_;have S04:=S2.trans (S3.trans S4);have l4:=al4.len;have l3:=al3.len;rw[yba,TO.hands] at l4;rw[yba,TO.decks] at l3;refine⟨_,rfl,_,rfl,_,rfl,a,b4,_,u4,4,p,.ref tm,rfl,S04 _ _ ea,(by show 9≤1000;decide),rfl,S04 _ _ e4,by omega,by omega,λta b4' H5 S5 e5 e5'=>?_⟩;have S05:=S04.trans S5;refine⟨_,rfl,_,rfl,_,rfl,_,rfl,?_⟩;refine' zas (pre:=λc H6=>Same H5 H6∧H6 c=some (.tup (iM (d.drop z.toNat)))) (λkk=>?gc) ?kc
  case gc =>
   have edb5:=S05 _ _ edb;refine⟨db,_,rfl,SqT.of edb5,λwh=>?w3,λ_ c hc=>?f3⟩
   case f3 =>
    rw[zclb z0];refine laid hc λH6 S6 e6=>?_;exact kk c H6 ⟨S6,by rw[e6];unfold iM;rw[yrp]⟩
   case w3 =>
    have ew:=zfy wh;rw[zclb z0] at ew;have ez:H5 db=some (.tup (iM (d.drop z.toNat))):=by
     rw[edb5];unfold iM at ew ⊢;rw[yrp,ew]
    exact kk db H5 ⟨Same.refl _,ez⟩
  case kc =>
  rintro c3 H6 ⟨S6,e6⟩;have S06:=S05.trans S6;refine⟨ta,b3,_,u3,3,p,.ref c3,rfl,S6 _ _ e5',(by show 9≤1000;decide),rfl,S06 _ _ e3,by omega,by omega,λtb b3' H7 S7 e7 e7'=>?_⟩;have S07:=S06.trans S7;have TP7:=TP.kp (Kp.same S07);have k7:=Kp.same S07;refine q (.ref tb) _ H7 S07 ⟨tb,v0,v1,v2,.ref b3',.ref b4',v5,v6,v7,v8,rfl,e7',?_⟩ (.draw hd hh py sy);refine { TP7 with p3:=⟨b3',_,rfl,e7,?_⟩,p4:=⟨b4',_,rfl,(S6.trans S7) _ _ e5,?_⟩ }
  ·rw[ywe];exact (al3.imp λz=>z.kp k7).set ⟨c3,rfl,S7 _ _ e6⟩ p
  ·rw[ywe];exact (al4.imp λz=>z.kp k7).set ⟨tm,rfl,(S5.trans (S6.trans S7)) _ _ e4'⟩ p
def CdsT (B:Addr)(H:Hp)(ca:Addr)(cms:List (List Str)):Prop:=∃cvs,H ca=some (.lst cvs)∧All2 (CmT B H) cvs cms
theorem CdsT.same {B:Addr}{H H':Hp}(s:Same H H'){ca:Addr}{cms:List (List Str)}(h:CdsT B H ca cms):CdsT B H' ca cms:=by
 obtain⟨cvs,e,al⟩:=h;exact⟨cvs,s _ _ e,al.imp λz=>z.kp (Kp.same s)⟩
def zjvb (B:Addr):Sp:=λvs H Q _=>Ex8 λca tv (t:Tab) (np nc n:Nat) (cms:List (List Str)) (ms:List Str)=>vs=[.ref ca,tv,.int (n:Int)]∧CdsT B H ca cms∧TabT H tv t∧TOk np nc t∧n<nc∧cms[n]?=some ms∧∀v' H',Same H H'->TabT H' v' { t with marks:=t.marks.set n ms,wnds:=t.wnds.set n 0 }->Q v' H'
def zkvb (B:Addr):Sp:=λvs H Q _=>Ex7 λca tv (t:Tab) (np nc n:Nat) (cms:List (List Str))=>vs=[.ref ca,tv,.int (n:Int)]∧CdsT B H ca cms∧TabT H tv t∧TOk np nc t∧n<nc∧cms.length=nc∧∀v' (t':Tab) H',Same H H'->TabT H' v' t'->CrR cms t n .non "leave" t'->Q v' H'
def znvb (B:Addr):Sp:=λvs H Q _=>Ex10 λca tv ha (t:Tab) (np nc n:Nat) (cms:List (List Str)) (kd:Str) av=>vs=[.ref ca,tv,.ref ha]∧CdsT B H ca cms∧TabT H tv t∧TOk np nc t∧H ha=some (.tup [.str kd,.int (n:Int),av])∧n<nc∧cms.length=nc∧(kd = "come" ∨ kd = "leave" ∨ (kd = "hurt" ∧ ∃z:Int,av = .int z)∨((kd = "gain" ∨ kd = "lack")∧∃u:Str,av = .str u))∧∀v' (t':Tab) H',Same H H'->TabT H' v' t'->CrR cms t n av kd t'->Q v' H'
theorem zvv (T:Tx K mg):FnOk P w K mg base CX0 4 T.ztf.f T.ztf.d zou (zjvb T.zid):=by
 refine T.ztf.ok zzgb ?_;rintro f c A o s H vs Q E hr ⟨ca,tv,t,np,nc,n,cms,ms,rfl,CD,TT,TO,hn,em,q⟩ X;obtain⟨a,v0,v1,v2,v3,v4,v5,v6,v7,v8,rfl,ea,TP⟩:=TT;have nc16:=TO.nc16;obtain⟨cvs,ec,al⟩:=CD;obtain⟨_,ecv,cd,dx,m,tt,nm,c,f,rfl,ecd,emm⟩:=al.get2 em;obtain⟨b7,u7,rfl,e7,al7⟩:=TP.p7;have l7:=al7.len;rw[yba,TO.marks] at l7;refine⟨_,  (zea (zta (zga (zxc T) hr rfl T.zjb.m T.zjb.F.kp (zjd T) .nil zpa (zaa (zga (zxc T) hr rfl T.zjb.m T.zjb.F.kp (zjd T) .nil zpa (zaa (pv 1) (zaa (znb (v:=.int 7) rfl T.zbq ⟨_,rfl⟩) (zaa (pv 2) (zaa (zqo (zbb znc (pv 0) (pv 2) (λ_ _=>rfl)) rfl) zba))))) (zaa (znb (v:=.int 8) rfl T.zcm ⟨_,rfl⟩) (zaa (pv 2) (zaa zfa zba))))))),?_⟩;refine⟨_,rfl,_,rfl,_,rfl,?_⟩;refine⟨_,rfl,ca,_,_,_,rfl,rfl,SqL.of ec,zra ecv,cd,_,dx,_,_,rfl,ecd,T.zgk,T.zpf,zjbb _ _ _ _ _,?_⟩;refine⟨a,b7,_,u7,7,n,.ref m,rfl,ea,(by show 9≤1000;decide),rfl,e7,by omega,by omega,λa1 b7' H1 S1 e1 e1'=>?_⟩;obtain⟨b8,rfl,e8⟩:=TP.p8;refine⟨_,rfl,a1,b8,_,_,8,n,.int 0,rfl,e1',(by show 9≤1000;decide),rfl,S1 _ _ e8,by unfold iM;rw[yba,TO.wnds];exact hn,by unfold iM;rw[yba,TO.wnds];omega,λa2 b8' H2 S2 e2 e2'=>?_⟩;have S12:=S1.trans S2;have k2:=Kp.same S12;have TP2:=TP.kp k2;refine q (.ref a2) H2 S12 ⟨a2,v0,v1,v2,v3,v4,v5,v6,.ref b7',.ref b8',rfl,e2',?_⟩;refine { TP2 with p7:=⟨b7',_,rfl,S2 _ _ e1,?_⟩,p8:=⟨b8',rfl,by rw[e2];unfold iM;rw[ywe]⟩ };rw[ywe];exact (al7.imp λz=>z.kp k2).set ⟨m,rfl,S12 _ _ emm⟩ n
theorem zcdb (T:Tx K mg):FnOk P w K mg base CX0 5 T.zig.f T.zig.d zjq (zkvb T.zid):=by
 refine T.zig.ok zum ?_;rintro f c A o s H vs Q E hr ⟨ca,tv,t,np,nc,n,cms,rfl,CD,TT,TO,hn,hc,q⟩ X;obtain⟨ms,em⟩:=getx (xs:=cms) (by rw[hc];exact hn);refine⟨_,  (zca (zoa (i:=1) zum.nd rfl (.inl rfl) (zga (zvv T) hr rfl T.ztf.m T.ztf.F.kp (zubb T) .nil zpa (zaa (pv 0) (zaa (pv 1) (zaa (pv 2) zba)))))
  (zca (zoa (i:=1) zum.nd rfl (.inl rfl) (zga (zei T).up hr rfl T.zic.m T.zic.F.kp (zuj T) .nil zpa (zaa (pv 1) (zaa (znb (v:=.int 5) rfl T.zgl ⟨_,rfl⟩) (zaa (zga (zuv T).up hr rfl T.zsf.m T.zsf.F.kp (zsbb T) .nil zpa (zaa (zbb zab (pv 1) (znb (v:=.int 5) rfl T.zgl ⟨_,rfl⟩) (λ_ _=>rfl)) (zaa (pv 2) zba))) zba)))))
  (zea (zta (zga (zei T).up hr rfl T.zic.m T.zic.F.kp (zuj T) .nil zpa (zaa (pv 1) (zaa (znb (v:=.int 6) rfl T.zbbb ⟨_,rfl⟩) (zaa (zga (zeab T).up hr rfl T.zwh.m T.zwh.F.kp (zkgb T) .nil zpa (zaa (zbb zab (pv 1) (znb (v:=.int 6) rfl T.zbbb ⟨_,rfl⟩) (λ_ _=>rfl)) (zaa (pv 2) zba))) zba)))))))),?_⟩
 refine⟨_,rfl,_,rfl,_,rfl,ca,tv,t,np,nc,n,cms,ms,rfl,CD,TT,TO,hn,em,λt1 H1 S1 TT1=>?_⟩;obtain⟨a,v0,v1,v2,v3,v4,v5,v6,v7,v8,rfl,ea,TP⟩:=TT1;obtain⟨b5,rfl,e5⟩:=TP.p5;obtain⟨b6,rfl,e6⟩:=TP.p6;have ly:=TO.ly;have hpl:=TO.hp;refine⟨_,rfl,_,rfl,a,_,_,_,rfl,rfl,SqT.of ea,zra (j:=5) rfl,_,rfl,b5,_,.int (n:Int),rfl,e5,?_,by unfold iM;rw[yba];show t.lying.length≤60;omega,λp5 H2 S2 e2=>?_⟩
 ·intro v hv;obtain⟨y,_,rfl⟩:=ycc.mp hv;rfl
 refine⟨a,_,5,.ref p5,rfl,S2 _ _ ea,(by show 5<9;decide),(by show 9≤1000;decide),λa2 H3 S3 e3=>?_⟩;have S23:=S2.trans S3;refine⟨_,rfl,_,rfl,a2,_,_,_,rfl,rfl,SqT.of e3,zra (j:=6) rfl,_,rfl,b6,.int (n:Int),rfl,.inr ⟨t.heap,(n:Int),rfl,S23 _ _ e6,by omega,λp6 zs H4 S4 e4 pz sz=>?_⟩⟩;refine⟨a2,_,6,.ref p6,rfl,S4 _ _ e3,(by show 6<9;decide),(by show 9≤1000;decide),λa3 H5 S5 e5'=>?_⟩;have S45:=S4.trans S5;have S25:=S23.trans S45;have S15:=S1.trans S25;have TP5:=TP.kp (Kp.same S25);refine q (.ref a3) _ H5 S15 ⟨a3,v0,v1,v2,v3,v4,.ref p5,.ref p6,v7,v8,rfl,e5',?_⟩ (.leave em pz sz);refine { TP5 with p5:=⟨p5,rfl,?_⟩,p6:=⟨p6,rfl,S5 _ _ e4⟩ };rw[(S3.trans S45) _ _ e2];unfold iM;rw[List.filter_map]
 congr 3
 refine yfq λx _=>?_;show (!decide (V.int x=V.int n)) = !decide (x=(n:Int))
 rw[decide_eq_decide.mpr ⟨λz=>by injection z,λz=>by rw[z]⟩]
theorem zup (T:Tx K mg):FnOk P w K mg base CX0 6 T.zoc.f T.zoc.d zqh (znvb T.zid):=by
 refine T.zoc.ok zdd ?_;rintro f c A o s H vs Q E hr ⟨ca,tv,ha,t,np,nc,n,cms,kd,av,rfl,CD,TT,TO,eh,hn,hc,hk,q⟩ X;obtain⟨ms,em⟩:=getx (xs:=cms) (by rw[hc];exact hn);have nc16:=TO.nc16;refine⟨_,  (zca (znm (pv 2) (zer (n:=3) rfl (zlc (zeb (i:=3) zdd.nd rfl (.inl rfl)) (zlc (zeb (i:=4) zdd.nd rfl (.inl rfl)) (zlc (zeb (i:=5) zdd.nd rfl (.inl rfl)) zbl)))))
  (zca (zvb (zna zne (pv 3) zma (zgb _))
   (zea (zta (zga (zei T).up hr rfl T.zic.m T.zic.F.kp (zuj T) .nil zpa (zaa (zga (zvv T).up hr rfl T.ztf.m T.ztf.F.kp (zubb T) .nil zpa (zaa (pv 0) (zaa (pv 1) (zaa (pv 4) zba)))) (zaa (znb (v:=.int 5) rfl T.zgl ⟨_,rfl⟩) (zaa (zqb zfx (zbb zab (pv 1) (znb (v:=.int 5) rfl T.zgl ⟨_,rfl⟩) (λ_ _=>rfl)) (ztb (zaa (pv 4) zba))) zba))))))
   zva)
  (zca (zvb (zna zne (pv 3) zma (zgb _))
   (zea (zta (zga (zcdb T) hr rfl T.zig.m T.zig.F.kp (zuhb T) .nil zpa (zaa (pv 0) (zaa (pv 1) (zaa (pv 4) zba))))))
   zva)
  (zca (zvb (zna zne (pv 3) zma (zgb _))
   (zea (zta (zga (zxc T).up hr rfl T.zjb.m T.zjb.F.kp (zjd T) .nil zpa (zaa (pv 1) (zaa (znb (v:=.int 8) rfl T.zcm ⟨_,rfl⟩) (zaa (pv 4) (zaa (zqb zbh (zbb zab (zbb zab (pv 1) (znb (v:=.int 8) rfl T.zcm ⟨_,rfl⟩) (λ_ _=>rfl)) (pv 4) (λ_ _=>rfl)) (pv 5)) zba)))))))
   zva)
  (zca (zoa (i:=6) zdd.nd rfl (.inl rfl) (zbb zab (zbb zab (pv 1) (znb (v:=.int 7) rfl T.zbq ⟨_,rfl⟩) (λ_ _=>rfl)) (pv 4) (λ_ _=>rfl)))
  (zea (zta (zga (zxc T).up hr rfl T.zjb.m T.zjb.F.kp (zjd T) .nil zpa (zaa (pv 1) (zaa (znb (v:=.int 7) rfl T.zbq ⟨_,rfl⟩) (zaa (pv 4) (zaa (zcnb (zna zne (pv 3) zma (zgb _)) (zga (zeab T).up hr rfl T.zwh.m T.zwh.F.kp (zkgb T) .nil zpa (zaa (pv 6) (zaa (pv 5) zba))) (zga (zuv T).up hr rfl T.zsf.m T.zsf.F.kp (zsbb T) .nil zpa (zaa (pv 6) (zaa (pv 5) zba)))) zba)))))))))))),?_⟩
 refine⟨_,rfl,ha,_,rfl,SqT.of eh,rfl,_,_,rfl,_,_,rfl,_,_,rfl,rfl,?_⟩
 rcases hk with rfl|rfl|⟨rfl,z,rfl⟩|⟨hk,u,rfl⟩
 ·refine⟨_,rfl,rfl,_,rfl,iteT ?_⟩;refine⟨_,rfl,_,rfl,_,rfl,ca,tv,t,np,nc,n,cms,ms,rfl,CD,TT,TO,hn,em,λt1 H1 S1 TT1=>?_⟩;obtain⟨a,v0,v1,v2,v3,v4,v5,v6,v7,v8,rfl,ea,TP⟩:=TT;obtain⟨a1,w0,w1,w2,w3,w4,w5,w6,w7,w8,rfl,ea1,TP1⟩:=TT1;obtain⟨b5,rfl,e5⟩:=TP.p5;have fin:∀c5 H2,Same H1 H2->H2 c5=some (.tup (iM (t.lying++[(n:Int)])))->zkv [.ref a1,.int ((5:Nat):Int),.ref c5] H2 Q E0:=by
   intro c5 H2 S2 e2;refine⟨a1,_,5,.ref c5,rfl,S2 _ _ ea1,(by show 5<9;decide),(by show 9≤1000;decide),λa3 H3 S3 e3=>?_⟩;have S13:=S2.trans S3;have TP3:=TP1.kp (Kp.same S13);refine q (.ref a3) _ H3 (S1.trans S13) ⟨a3,w0,w1,w2,w3,w4,.ref c5,w6,w7,w8,rfl,e3,?_⟩ (.come em);exact { TP3 with p5:=⟨c5,rfl,S3 _ _ e2⟩ }
  refine⟨_,rfl,a,_,_,_,rfl,rfl,SqT.of (S1 _ _ ea),zra (j:=5) rfl,_,rfl,sz1,λt1 ht1=>?_⟩;refine laid ht1 λH2 S2 e2=>?_;have ly:=TO.ly;have e5':=(S1.trans S2) _ _ e5;refine⟨b5,t1,_,_,rfl,rfl,SqT.of e5',SqT.of e2,by simp,(by unfold iM;rw[yba];exact small (by show t.lying.length+1≤1000;omega)),λz=>?g1,λz t2 ht2=>?g2⟩
  case g2 =>
   refine laid ht2 λH3 S3 e3=>?_;exact fin t2 H3 (S2.trans S3) (by rw[e3];unfold iM;rw[yxa];rfl)
  case g1 =>
   have z':t.lying=[]:=ych.mp z;exact fin t1 H2 S2 (by rw[e2,z'];rfl)
 ·refine⟨_,rfl,rfl,_,rfl,iteF ⟨_,rfl,rfl,_,rfl,iteT ?_⟩⟩;refine⟨_,rfl,_,rfl,_,rfl,ca,tv,t,np,nc,n,cms,rfl,CD,TT,TO,hn,hc,λt1 t' H1 S1 TT1 cr=>?_⟩;refine q t1 t' H1 S1 TT1 ?_;cases cr with
  | leave e1 p1 s1=>exact .leave e1 p1 s1
 ·refine⟨_,rfl,rfl,_,rfl,iteF ⟨_,rfl,rfl,_,rfl,iteF ⟨_,rfl,rfl,_,rfl,iteT ?_⟩⟩⟩;obtain⟨a,v0,v1,v2,v3,v4,v5,v6,v7,v8,rfl,ea,TP⟩:=TT;obtain⟨b,rfl,eb⟩:=TP.p8;obtain⟨x,hx⟩:=getx (xs:=t.wnds) (by rw[TO.wnds];exact hn);refine⟨_,rfl,_,rfl,_,rfl,a,_,_,_,rfl,rfl,SqT.of ea,zra (j:=8) rfl,_,rfl,b,_,_,_,rfl,rfl,SqT.of eb,ziu hx,_,rfl,_,_,rfl,rfl,?_⟩;refine⟨a,b,_,_,8,n,_,rfl,ea,(by show 9≤1000;decide),rfl,eb,by unfold iM;rw[yba,TO.wnds];exact hn,by unfold iM;rw[yba,TO.wnds];omega,λc b' H1 S1 e1 e2=>?_⟩;have TP1:=TP.kp (Kp.same S1);refine q (.ref c) _ H1 S1 ⟨c,v0,v1,v2,v3,v4,v5,v6,v7,_,rfl,e2,?_⟩ (.hurt hx);exact { TP1 with p8:=⟨b',rfl,by rw[e1];unfold iM;rw[ywe]⟩ }
 ·have k1:kd ≠ "come":=by rintro rfl;rcases hk with z|z<;>exact absurd z (by decide +kernel)
  have k2:kd ≠ "leave":=by rintro rfl;rcases hk with z|z<;>exact absurd z (by decide +kernel)
  have k3:kd ≠ "hurt":=by rintro rfl;rcases hk with z|z<;>exact absurd z (by decide +kernel)
  have kf:∀{u:Str},kd≠u->decide (V.str kd=V.str u)=false:=λh=>decide_eq_false (by intro z;injection z with z;exact h z);refine⟨_,rfl,rfl,_,rfl,ite2 (λz=>absurd z (by rw[kf k1];decide)) (λ_=>?_)⟩;refine⟨_,rfl,rfl,_,rfl,ite2 (λz=>absurd z (by rw[kf k2];decide)) (λ_=>?_)⟩;refine⟨_,rfl,rfl,_,rfl,ite2 (λz=>absurd z (by rw[kf k3];decide)) (λ_=>?_)⟩;obtain⟨a,v0,v1,v2,v3,v4,v5,v6,v7,v8,rfl,ea,TP⟩:=TT;obtain⟨b,u7,rfl,eb,al⟩:=TP.p7;have l7:=al.len;rw[yba,TO.marks] at l7;obtain⟨mm,hm⟩:=getx (xs:=t.marks) (by rw[TO.marks];exact hn);obtain⟨_,emv,mb,rfl,emb⟩:=al.get2 (b:=sM mm) (by rw[yqa,hm];rfl);have ml:=TO.ms mm (ybb hm);refine⟨_,rfl,a,_,_,_,rfl,rfl,SqT.of ea,zra (j:=7) rfl,_,rfl,b,_,_,_,rfl,rfl,SqT.of eb,zra emv,?_⟩;have fin:∀c7 (zs:List Str) H2,Same H H2->H2 c7=some (.tup (sM zs))->CrR cms t n (.str u) kd { t with marks:=t.marks.set n zs }->zqib [.ref a,.int ((7:Nat):Int),.int (n:Int),.ref c7] H2 Q E0:=by
   intro c7 zs H2 S2 e2 cr;refine⟨a,b,_,u7,7,n,.ref c7,rfl,S2 _ _ ea,(by show 9≤1000;decide),rfl,S2 _ _ eb,by omega,by omega,λc b' H3 S3 e3 e3'=>?_⟩;have k3:=Kp.same (S2.trans S3);have TP3:=TP.kp k3;refine q (.ref c) _ H3 (S2.trans S3) ⟨c,v0,v1,v2,v3,v4,v5,v6,_,v8,rfl,e3',?_⟩ cr;refine { TP3 with p7:=⟨b',_,rfl,e3,?_⟩ };rw[ywe];exact (al.imp λz=>z.kp k3).set ⟨c7,rfl,S3 _ _ e2⟩ n
  refine⟨_,rfl,_,rfl,_,rfl,rfl,_,rfl,?_⟩
  rcases hk with rfl|rfl
  ·refine iteT ?_;refine⟨_,rfl,_,rfl,mb,.str u,rfl,.inl ⟨mm,u,rfl,emb,by omega,λp zs H2 S2 e2 pz sz=>?_⟩⟩;exact fin p zs H2 S2 e2 (.gain hm pz sz)
  ·refine iteF ?_;refine⟨_,rfl,_,rfl,mb,_,.str u,rfl,emb,?_,by unfold sM;rw[yba];omega,λp H2 S2 e2=>?_⟩
   ·intro v hv;obtain⟨y,_,rfl⟩:=ycc.mp hv;rfl
   ·refine fin p _ H2 S2 ?_ (.lack hm);rw[e2];unfold sM;rw[List.filter_map]
    congr 3
    refine yfq λx _=>?_;show (!decide (V.str x=V.str u)) = !decide (x=u)
    rw[decide_eq_decide.mpr ⟨λz=>by injection z,λz=>by rw[z]⟩]
def CrK (kd:Str)(av:V):Prop:=kd = "come" ∨ kd = "leave" ∨ (kd = "hurt" ∧ ∃z:Int,av = .int z)∨((kd = "gain" ∨ kd = "lack")∧∃u:Str,av = .str u)
inductive HpR (cms:List (List Str))(t:Tab):Str->Int->V->Tab->Prop where
 | no {kd:Str} {th:Int} {av:V}:hpM t kd th=false->HpR cms t kd th av t
 | pl {kd:Str} {p:Nat} {z:Int} {t':Tab}:t.gone[p]?=some false->PlR t p z kd t'->HpR cms t kd (-1-(p:Int)) (.int z) t'
 | cr {kd:Str} {n:Nat} {av:V} {t':Tab}:(kd = "come" ∨ (n:Int)∈t.lying)->CrR cms t n av kd t'->HpR cms t kd (n:Int) av t'
def zlmb (B:Addr):Sp:=λvs H Q _=>Ex10 λca tv ha (t:Tab) (np nc:Nat) (th:Int) (cms:List (List Str)) (kd:Str) av=>vs=[.ref ca,tv,.ref ha]∧CdsT B H ca cms∧TabT H tv t∧TOk np nc t∧H ha=some (.tup [.str kd,.int th,av]) ∧ -(np:Int)≤th∧th<nc∧cms.length=nc∧(th<0->kd∈zqc∧∃z:Int,av = .int z∧0≤z)∧(0≤th->CrK kd av)∧∀v' (t':Tab) H',Same H H'->TabT H' v' t'->HpR cms t kd th av t'->Q v' H'
theorem zrjb (T:Tx K mg):FnOk P w K mg base CX0 7 T.zwj.f T.zwj.d zwy (zlmb T.zid):=by
 refine T.zwj.ok zbjb ?_;rintro f c A o s H vs Q E hr ⟨ca,tv,ha,t,np,nc,th,cms,kd,av,rfl,CD,TT,TO,eh,h1,h2,hc,kp,kc,q⟩ X;refine⟨_,  (zca (zvb (zal (zkm (zga (zfhb T).up hr rfl T.zyh.m T.zyh.F.kp (zrlb T) .nil zpa (zaa (pv 1) (zaa (pv 2) zba)))))
   (zea (zta (pv 1)))
   zva)
  (zca (zvb (zna zenb (zbb zab (pv 2) zfa (λ_ _=>rfl)) zfa (zgb _))
   (zea (zta (zga (zwm T).up hr rfl T.zdc.m T.zdc.F.kp (zgp T) .nil zpa (zaa (pv 1) (zaa (pv 2) zba)))))
   zva)
  (zea (zta (zga (zup T) hr rfl T.zoc.m T.zoc.F.kp (zur T) .nil zpa (zaa (pv 0) (zaa (pv 1) (zaa (pv 2) zba)))))))),?_⟩
 refine⟨_,rfl,_,rfl,tv,ha,t,np,nc,kd,th,av,rfl,TT,TO,eh,h1,λH1 S1=>?_⟩;have eh1:=S1 _ _ eh;have TT1:=TT.kp (Kp.same S1);refine⟨_,rfl,ite2 (λc=>?_) (λc=>?_)⟩
 ·have c':hpM t kd th=false:=by simpa using c
  exact⟨_,rfl,q tv t H1 S1 TT1 (.no c')⟩
 have c':hpM t kd th=true:=by simpa using c
 refine⟨_,rfl,ha,_,_,_,rfl,rfl,SqT.of eh1,zra (j:=1) rfl,_,_,rfl,rfl,_,rfl,ite2 (λd=>?_) (λd=>?_)⟩
 ·have d':th<0:=of_decide_eq_true d;obtain⟨hk,z,rfl,z0⟩:=kp d';obtain⟨p,rfl⟩:∃p:Nat,th = -1-(p:Int):=⟨(-1-th).toNat,by omega⟩;have pn:p<np:=by omega
  obtain⟨g,hg⟩:=getx (xs:=t.gone) (by rw[TO.gone];exact pn);have g0:g=false:=by
   unfold hpM at c';rw[if_pos d',show (-1-(-1-(p:Int))).toNat=p by omega,yza,hg] at c'
   simpa using c'
  refine⟨_,rfl,_,rfl,tv,ha,t,np,nc,p,kd,z,rfl,TT1,TO,eh1,pn,hk,z0,λv' t' H' S' TT' pr=>?_⟩;exact q v' t' H' (S1.trans S') TT' (.pl (by rw[hg,g0]) pr)
 ·have d':¬ th<0:=λz=>d (decide_eq_true z);obtain⟨n,rfl⟩:∃n:Nat,th=(n:Int):=⟨th.toNat,by omega⟩;have nn:n<nc:=by omega
  have hm:kd = "come" ∨ (n:Int)∈t.lying:=by
   unfold hpM at c';rw[if_neg d'] at c'
   rcases yap.mp c' with z|z
   ·exact .inl (of_decide_eq_true z)
   ·exact .inr (of_decide_eq_true z)
  refine⟨_,rfl,_,rfl,_,rfl,ca,tv,ha,t,np,nc,n,cms,kd,av,rfl,CD.same S1,TT1,TO,eh1,nn,hc,kc (by omega),λv' t' H' S' TT' cr=>?_⟩;exact q v' t' H' (S1.trans S') TT' (.cr hm cr)
theorem zwk {G:Prop}{Kx pre:V->Hp->Prop}(g:(∀v Hs,pre v Hs->Kx v Hs)->G)(k:∀v Hs,pre v Hs->Kx v Hs):G:=g k
inductive AmtV:Str->V->Wv->Prop where
 | leave:AmtV "leave" (.int 0) .non
 | gain {n:Str}:zud n->AmtV "gain" (.str n) (.name n)
 | lack {n:Str}:zud n->AmtV "lack" (.str n) (.name n)
 | hurt {i:Nat}:i<1000->AmtV "hurt" (.int (i:Int)) (.num i)
 | lose {i:Nat}:i<1000->AmtV "lose" (.int (i:Int)) (.num i)
 | score {i:Nat}:i<1000->AmtV "score" (.int (i:Int)) (.num i)
 | draw {i:Nat}:i<1000->AmtV "draw" (.int (i:Int)) (.num i)
theorem AmtV.ok {k:Str}{v:V}{z:Wv}(h:AmtV k v z):zmp k z:=by
 cases h with
 | leave=>exact .leave
 | gain h=>exact .gain h
 | lack h=>exact .lack h
 | hurt h=>exact .hurt h
 | lose h=>exact .lose h
 | score h=>exact .score h
 | draw h=>exact .draw h
def DT (H:Hp)(v:V)(d:Deed):Prop:=Ex3 λa av x=>v = .ref a∧H a=some (.tup [.str d.each,.str d.kind,av,x])∧WT H x d.whom∧AmtV d.kind av d.amt∧d.ok
theorem DT.kp {H H':Hp}(s:Kp H H'){v:V}{d:Deed}(h:DT H v d):DT H' v d:=by
 obtain⟨a,av,x,e,h1,h2,h3,h4⟩:=h;exact⟨a,av,x,e,s.t h1,h2.kp s,h3,h4⟩
theorem zgub:∀kd∈zzc,inV (.str kd) [.str "gain",.str "lack"]=decide (kd∈(["gain","lack"]:List Str)):=by decide +kernel
theorem zwub {kd u:Str}(h:kd∈(["gain","lack"]:List Str))(hu:zud u):AmtV kd (.str u) (.name u):=by
 simp only[yka,ybe,or_false] at h
 rcases h with rfl|rfl
 ·exact .gain hu
 ·exact .lack hu
theorem zvub {kd:Str}{v:V}{f:Nat}(h:kd∈zzc)(hg:kd∉(["gain","lack"]:List Str))(hv:(kd = "leave" ∧ v = .int 0)∨(kd ≠ "leave" ∧ v = .int (f:Int)))(hf:f<1000):∃z,AmtV kd v z:=by
 rcases hv with⟨rfl,rfl⟩|⟨n,rfl⟩
 ·exact⟨_,.leave⟩
 simp only[zzc,yka,ybe,or_false] at h
 rcases h with rfl|rfl|rfl|rfl|rfl|rfl|rfl
 ·exact absurd rfl n
 ·exact⟨_,.hurt hf⟩
 ·exact absurd (by decide +kernel) hg
 ·exact absurd (by decide +kernel) hg
 ·exact⟨_,.lose hf⟩
 ·exact⟨_,.score hf⟩
 ·exact⟨_,.draw hf⟩
def zomb (K:yda):Sp:=λvs H Q _=>Ex4 λp nl (k:Int) (ns:List Str)=>vs=[.ref p,.ref nl]∧Tk K H p k∧k≤700000∧N4 H nl ns∧∀v (d:Deed) (k':Int) H',But p H H'->Tk K H' p k'->k'≤k+26->DT H' v d->Q v H'
theorem zkab (T:Tx K mg):FnOk P w K mg base CX0 11 T.zff.f T.zff.d ztn (zomb K):=by
 refine T.zff.ok zzg ?_;rintro f c A o s H vs Q E hr ⟨p,nl,k,ns,rfl,TT,hk,N0,q⟩ X;refine⟨_,  (zca (zoa (i:=2) zzg.nd rfl (.inl rfl) (zbb znc (zgd (zaa zma (zaa zma (zaa zma (zaa zma (zaa zma (zaa zma (zaa zma zba)))))))) (zga (zla T).up hr rfl T.zda.m T.zda.F.kp (zsa T) .nil zpa (zaa (pv 0) (zaa zfa zba))) (λ_ _=>rfl)))
  (zca (zoa (i:=3) zzg.nd rfl (.inl rfl) (zga (zjj T).up hr rfl T.zec.m T.zec.F.kp (zik T) .nil zpa (zaa (pv 0) zba)))
  (zca (zvb (zna zne (pv 2) zma (zgb _))
   (zea (zoa (i:=3) zzg.nd rfl (.inl rfl) zfa))
   zva)
  (zca (zvb (zna zte (pv 2) (ztb (zaa zma (zaa zma zba))) rfl)
   (zea (zoa (i:=3) zzg.nd rfl (.inl rfl) (zbb znc (pv 1) (zga (zla T).up hr rfl T.zda.m T.zda.F.kp (zsa T) .nil zpa (zaa (pv 0) (zaa zfa zba))) (λ_ _=>rfl))))
   zva)
  (zea (zta (ztb (zaa (zbb znc (zgd (zaa zma (zaa zma zba))) (zga (zla T).up hr rfl T.zda.m T.zda.F.kp (zsa T) .nil zpa (zaa (pv 0) (zaa zfa zba))) (λ_ _=>rfl)) (zaa (pv 2) (zaa (pv 3) (zaa (zga (zpw T 5) hr rfl T.zmb.m T.zmb.F.kp (zki T) .nil zpa (zaa (pv 0) (zaa (pv 1) (zaa (zqb zbh zfa (zga (zla T).up hr rfl T.zda.m T.zda.F.kp (zsa T) .nil zpa (zaa (pv 0) (zaa zfa zba)))) zba)))) zba))))))))))),?_⟩
 refine⟨sz7,λl1 hl1=>?_⟩;refine laid hl1 λH1 S1 e1=>?_;have T1:=TT.same S1;have n1:l1≠p:=ywc (TT.ne hl1);refine⟨_,rfl,p,k,7,rfl,T1,by omega,by decide,λr H2 r0 r1 B2 T2=>?_⟩;obtain⟨kd,hkd,hm⟩:=zol (ss:=zzc) r0 r1;refine⟨l1,_,_,_,rfl,rfl,SqL.of (B2 _ _ n1 e1),hkd,?_⟩;have B02:But p H H2:=(But.same S1).trans B2;refine⟨_,rfl,p,k+1,rfl,T2,by omega,λf k3 H3 f1 B3 T3 hk3=>?_⟩;have B03:=B02.trans B3;refine⟨_,rfl,rfl,_,rfl,?_⟩;refine' zwk (pre:=λv Hs=>Hs=H3∧((kd = "leave" ∧ v = .int 0)∨(kd ≠ "leave" ∧ v = .int (f:Int)))) (λkk=>?g1) ?k1
 case g1 =>
  refine ite2 (λc=>?a) (λc=>?b)
  case b =>
   obtain⟨v4,hv4⟩:∃x,x=V.int (f:Int):=⟨_,rfl⟩;obtain⟨Hz,hz⟩:∃h,h=H3:=⟨_,rfl⟩;rw[← hv4,← hz];exact kk v4 Hz ⟨hz,.inr ⟨λz=>c (decide_eq_true (by rw[z])),hv4⟩⟩
  case a =>
   have c':=of_decide_eq_true c;injection c' with c'
   exact kk (.int 0) H3 ⟨rfl,.inl ⟨c',rfl⟩⟩
 case k1 =>
 rintro v _ ⟨rfl,hv⟩;refine⟨_,rfl,sz2,λq2 hq2=>?_⟩;refine laid hq2 λH5 S5 e5=>?_;refine⟨q2,_,rfl,.inr (SqT.of e5),rfl,rfl,_,rfl,?_⟩;rw[zgub kd hm];have T5:=T3.same S5;have B05:=B03.trans (But.same S5);refine' zwk (pre:=λv' Hs=>But p H Hs∧(∃z,AmtV kd v' z)∧∃k',Tk K Hs p k'∧k'≤k+4) (λkk=>?g2) ?k2
 case g2 =>
  refine ite2 (λc=>?_) (λc=>?_)
  ·have c':=of_decide_eq_true c;refine⟨_,rfl,_,rfl,p,k3,4,rfl,T5,by omega,by decide,λt0 H6 t1 t2 B6 T6=>?_⟩;have N6:=N0.but TT (B05.trans B6);obtain⟨u,hu,hmu⟩:=zol (ss:=ns) t1 (by rw[N0.len];exact t2);refine⟨nl,_,_,_,rfl,rfl,SqL.of N6.at_,hu,?_⟩;obtain⟨v4,hv4⟩:∃v,v=V.str u:=⟨_,rfl⟩;rw[← hv4];exact kk v4 H6 ⟨B05.trans B6,⟨_,by rw[hv4];exact zwub c' (N0.ok u hmu)⟩,_,T6,by omega⟩
  ·exact kk v H5 ⟨B05,zvub hm (λy=>c (decide_eq_true y)) hv f1,_,T5,by omega⟩
 case k2 =>
 rintro av Hs ⟨Bs,⟨z,am⟩,k',Ts,hk'⟩;refine⟨sz2,λl2 hl2=>?_⟩;refine laid hl2 λH6 S6 e6=>?_;have n2:l2≠p:=ywc (Ts.ne hl2);refine⟨_,rfl,p,k',2,rfl,Ts.same S6,by omega,by decide,λr2 H7 a0 a1 B7 T7=>?_⟩;obtain⟨ea,hea,mea⟩:=zol (ss:=zfw) a0 a1;have B07:=Bs.trans ((But.same S6).trans B7);refine⟨l2,_,_,_,rfl,rfl,SqL.of (B7 _ _ n2 e6),hea,_,rfl,_,rfl,_,rfl,_,rfl,_,rfl,p,k'+1,5,rfl,T7,by omega,by decide,λd0 H8 d1 d2 B8 T8=>⟨_,_,rfl,rfl,?_⟩⟩;obtain⟨d,hd0⟩:∃d:Nat,1+d0=(d:Int):=⟨(1+d0).toNat,by omega⟩;have B08:=B07.trans B8;refine⟨p,nl,_,ns,d,(by show [V.ref p,V.ref nl,V.int (1+d0)]=_;rw[hd0]),T8,by omega,N0.but TT B08,by omega,by omega,λwv y k9 H9 B9 T9 hk9 W9 ok9 y9=>⟨sz4,λa ha=>?_⟩⟩;refine laid ha λH10 S10 e10=>?_;exact q (.ref a) ⟨ea,kd,z,y⟩ k9 H10 (B08.trans (B9.trans (But.same S10))) (T9.same S10) (by omega) ⟨a,av,wv,rfl,e10,W9.same S10,am,⟨mea,am.ok,ok9,by show y.size≤9;omega⟩⟩
def zgbb (d:Deed):Str:=yya " " d.words
theorem zzrb {k:Str}{av:V}{z:Wv}(h:AmtV k av z):∃u:Str,((av = .str u)∨∃i:Nat,i<1000∧av = .int i∧u=(toString (i:Int):Str))∧u.length≤8∧((k = "leave" ∧ z = .non)∨(k ≠ "leave" ∧ z.words=[u])):=by
 cases h with
 | leave=>exact⟨_,.inr ⟨0,by decide,rfl,rfl⟩,(zzd (by decide:0<1000)).2.2,.inl ⟨rfl,rfl⟩⟩
 | gain h=>exact⟨_,.inl rfl,h.2.1,.inr ⟨by decide +kernel,rfl⟩⟩
 | lack h=>exact⟨_,.inl rfl,h.2.1,.inr ⟨by decide +kernel,rfl⟩⟩
 | hurt h=>exact⟨_,.inr ⟨_,h,rfl,rfl⟩,(zzd h).2.2,.inr ⟨by decide +kernel,rfl⟩⟩
 | lose h=>exact⟨_,.inr ⟨_,h,rfl,rfl⟩,(zzd h).2.2,.inr ⟨by decide +kernel,rfl⟩⟩
 | score h=>exact⟨_,.inr ⟨_,h,rfl,rfl⟩,(zzd h).2.2,.inr ⟨by decide +kernel,rfl⟩⟩
 | draw h=>exact⟨_,.inr ⟨_,h,rfl,rfl⟩,(zzd h).2.2,.inr ⟨by decide +kernel,rfl⟩⟩
theorem zau (ea kd:Str)(z:Wv)(y:Wh):yya " " (ea::kd::(z.words++[whT y]))=zgbb ⟨ea,kd,z,y⟩:=by
 have e:=zbm " " (xs:=ea::kd::z.words) (ys:=[whT y]) (yhb _ _) (yhb _ _);have e2:=zbm " " (xs:=ea::kd::z.words) (ys:=y.words) (yhb _ _) (zpd y);rw[yfh,yfh] at e e2;rw[e];exact e2.symm
theorem zykb {d:Deed}(h:d.ok):(zgbb d).length≤250:=by
 obtain⟨ea,kd,z,y⟩:=d;have a:=zdk " " (ea::kd::(z.words++[whT y]));rw[zau] at a;have l1:(" ":Str).length=1:=rfl;have w1:(whT y).length≤200:=zrw h.whom.1 h.whom.2;have e8:ea.length≤8:=(zxo (l:=zfw) (by decide +kernel) h.each).1.2.2;have k8:kd.length≤8:=(zxo (l:=zzc) (by decide +kernel) h.amt.kind).1.2.2;have zz:z.words.length≤1∧(z.words.map (·.length)).sum≤8:=by
  have:=h.amt;cases this with
  | leave=>exact⟨by decide,by decide⟩
  | gain g=>exact⟨yga _,by show _+0≤8;exact g.2.1⟩
  | lack g=>exact⟨yga _,by show _+0≤8;exact g.2.1⟩
  | hurt g=>exact⟨yga _,by show _+0≤8;exact (zzd g).2.2⟩
  | lose g=>exact⟨yga _,by show _+0≤8;exact (zzd g).2.2⟩
  | score g=>exact⟨yga _,by show _+0≤8;exact (zzd g).2.2⟩
  | draw g=>exact⟨yga _,by show _+0≤8;exact (zzd g).2.2⟩
 simp only[yib,yxa,ycf,yae,List.sum_append,yzj,yja,yea,ymf] at a;rw[l1] at a;omega
def zypb:Sp:=λvs H Q _=>Ex2 λv (d:Deed)=>vs=[v]∧DT H v d∧∀H',Same H H'->Q (.str (zgbb d)) H'
theorem zuo (T:Tx K mg):FnOk P w K mg base CX0 12 T.zkc.f T.zkc.d zog zypb:=by
 refine T.zkc.ok zri ?_;rintro f c A o s H vs Q E hr ⟨v,⟨ea,kd,z,y⟩,rfl,⟨a,av,x,rfl,eA,W,am,ok⟩,q⟩ X;obtain⟨u,hv,u8,hz⟩:=zzrb am;have w1:(whT y).length≤200:=zrw ok.whom.1 ok.whom.2;have y9:y.size≤9:=ok.whom.2;have e8:ea.length≤8:=(zxo (l:=zfw) (by decide +kernel) ok.each).1.2.2;have k8:kd.length≤8:=(zxo (l:=zzc) (by decide +kernel) ok.amt.kind).1.2.2;have l1:(" ":Str).length=1:=rfl;refine⟨_,  (zca (zoa (i:=1) zri.nd rfl (.inl rfl) (zgd (zaa (zbb zab (pv 0) zfa (λ_ _=>rfl)) (zaa (zbb zab (pv 0) zfa (λ_ _=>rfl)) (zaa (zya zll rfl T.zow ypp (zaa (zbb zab (pv 0) zfa (λ_ _=>rfl)) zba)) (zaa (zga (ztk T 9) hr rfl T.zkb.m T.zkb.F.kp (zjh T) .nil zpa (zaa (zbb zab (pv 0) zfa (λ_ _=>rfl)) zba)) zba))))))
  (zca (zvb (zna zne (zbb zab (pv 0) zfa (λ_ _=>rfl)) zma (zgb _))
   (zea (zme (zdi yac yno yoo zsfb (pv 1) (zaa zfa zba))))
   zva)
  (zea (zta (zdi yhc yqd yrd zym zma (zaa (pv 1) zba)))))),?_⟩
 refine⟨_,rfl,a,_,_,_,rfl,rfl,SqT.of eA,zra (j:=0) rfl,_,rfl,a,_,_,_,rfl,rfl,SqT.of eA,zra (j:=1) rfl,_,rfl,a,_,_,_,rfl,rfl,SqT.of eA,zra (j:=2) rfl,zeeb hv _ _ ?_⟩;refine⟨_,rfl,a,_,_,_,rfl,rfl,SqT.of eA,zra (j:=3) rfl,x,y,rfl,W,ok.whom.1,yua (zbpb y) y9,y9,λH1 S1=>⟨sz4,λl hl=>?_⟩⟩;have hl0:H l=none:=none_of S1 hl;refine laid hl λH2 S2 e2=>?_;have S02:=S1.trans S2;refine⟨_,rfl,a,_,_,_,rfl,rfl,SqT.of (S02 _ _ eA),zra (j:=1) rfl,rfl,_,rfl,ite2 (λc=>?_) (λc=>?_)⟩
 ·have c':=of_decide_eq_true c;injection c' with c'
  have c2:kd = "leave":=c';have zn:z = .non:=by
   rcases hz with⟨_,h⟩|⟨h,_⟩
   ·exact h
   ·exact absurd c2 h
  subst zn;refine⟨_,rfl,.inl ⟨rfl,_,SqL.of e2⟩,l,_,2,2,_,rfl,rfl,e2,by decide,by decide,rfl,rfl,?_⟩;refine⟨rfl,_,rfl," ",l,[ea,kd,whT y],rfl,rfl,SqL.of zia,?_,?_⟩
  ·simp only[yib,ycf,yae,yzj,yja,ymf];omega
  ·have et:=zau ea kd .non y;have et':yya " " [ea,kd,whT y]=zgbb ⟨ea,kd,.non,y⟩:=et;rw[et'];exact q _ (zui S02 hl0 _)
 ·have c2:kd ≠ "leave":=λh=>c (decide_eq_true (by show V.str kd=_;rw[h]));have zw:z.words=[u]:=by
   rcases hz with⟨h,_⟩|⟨_,h⟩
   ·exact absurd h c2
   ·exact h
  refine⟨rfl,_,rfl," ",l,[ea,kd,u,whT y],rfl,rfl,SqL.of e2,?_,?_⟩
  ·simp only[yib,ycf,yae,yzj,yja,ymf];omega
  ·have et:=zau ea kd z y;rw[zw] at et;have et':yya " " [ea,kd,u,whT y]=zgbb ⟨ea,kd,z,y⟩:=et;rw[et'];exact q _ S02
def R28 (H:Hp)(v:V)(r:Rule):Prop:=Ex6 λa (kd:Str) x dv (y:Wh) (d:Deed)=>v = .ref a∧r = .wen kd y d∧H a=some (.tup [.str "when",.str kd,x,dv])∧WT H x y∧DT H dv d∧kd∈zge∧plain y
theorem R28.kp {H H':Hp}(s:Kp H H'){v:V}{r:Rule}(h:R28 H v r):R28 H' v r:=by
 obtain⟨a,kd,x,dv,y,d,e,e2,h1,h2,h3,h4,h5⟩:=h;exact⟨a,kd,x,dv,y,d,e,e2,s.t h1,h2.kp s,h3.kp s,h4,h5⟩
theorem R28.ok {H:Hp}{v:V}{r:Rule}(h:R28 H v r):r.ok:=by
 obtain⟨a,kd,x,dv,y,d,e,rfl,h1,h2,⟨_,_,_,_,_,_,_,dok⟩,h4,h5⟩:=h;exact⟨h4,h5,dok⟩
theorem R28.zotb {H:Hp}{v:V}{r:Rule}(h:R28 H v r):Ex3 λkd y d=>r = .wen kd y d:=by
 obtain⟨a,kd,x,dv,y,d,e,rfl,_⟩:=h;exact⟨kd,y,d,rfl⟩
theorem zbmb (kd:Str)(y:Wh)(d:Deed):yya " " ["when",kd,whT y,"do",zgbb d]=zdg (.wen kd y d):=by
 have dn:d.words≠[]:=yhb _ _;have e:=zxab " " (xss:=([["when"],[kd],y.words,["do"],d.words]:List (List Str))) (λxs hx=>by
  simp only[yka,ybe,or_false] at hx
  rcases hx with rfl|rfl|rfl|rfl|rfl
  ·exact yhb _ _
  ·exact yhb _ _
  ·exact zpd y
  ·exact yhb _ _
  ·exact dn)
 refine Eq.trans e ?_;show _=yya " " ("when" :: kd::(y.words++("do":Str)::d.words))
 congr 1
 simp
def zemb (K:yda):Sp:=λvs H Q _=>Ex6 λp nl kl (k:Int) (ns ks:List Str)=>vs=[.ref p,.ref nl,.ref kl]∧Tk K H p k∧k≤600000∧N4 H nl ns∧H kl=some (.lst (ks.map V.str))∧1≤ks.length∧(∀x∈ks,x∈zge)∧∀v (r:Rule) (k':Int) H',But p H H'->Tk K H' p k'->k'≤k+48->R28 H' v r->Q v H'
def ztpb:Sp:=λvs H Q _=>Ex2 λv (r:Rule)=>vs=[v]∧R28 H v r∧∀H',Same H H'->Q (.str (zdg r)) H'
theorem zgab (T:Tx K mg):FnOk P w K mg base CX0 12 T.zcf.f T.zcf.d zpn (zemb K):=by
 refine T.zcf.ok zsq ?_;rintro f c A o s H vs Q E hr ⟨p,nl,kl,k,ns,ks,rfl,TT,hk,N0,ek,k1,kw,q⟩ X;have nk:kl≠p:=TT.strs ek;have kle:((ks.map V.str).length:Int)=(ks.length:Int):=by rw[yba]
 refine⟨_,  (zca (zoa (i:=3) zsq.nd rfl (.inl rfl) (zbb znc (pv 2) (zga (zla T).up hr rfl T.zda.m T.zda.F.kp (zsa T) .nil zpa (zaa (pv 0) (zaa (zza zwa rfl T.zre yjb (zaa (pv 2) zba)) zba))) (λ_ _=>rfl)))
  (zea (zta (ztb (zaa zma (zaa (pv 3) (zaa (zga (zpw T 5).up hr rfl T.zmb.m T.zmb.F.kp (zki T) .nil zpa (zaa (pv 0) (zaa (pv 1) (zaa (zqb zbh zfa (zga (zla T).up hr rfl T.zda.m T.zda.F.kp (zsa T) .nil zpa (zaa (pv 0) (zaa zfa zba)))) zba)))) (zaa (zga (zkab T) hr rfl T.zff.m T.zff.F.kp (zzdb T) .nil zpa (zaa (pv 0) (zaa (pv 1) zba))) zba)))))))),?_⟩
 refine⟨_,rfl,_,rfl,_,rfl,kl,_,rfl,.inl (SqL.of ek),p,k,(ks.length:Int),(by rw[← kle];rfl),TT,by omega,by omega,λr H1 r0 r1 B1 T1=>?_⟩;obtain⟨kd,hkd,hm⟩:=zol (ss:=ks) r0 r1;refine⟨kl,_,_,_,rfl,rfl,SqL.of (B1 _ _ nk ek),hkd,?_⟩;refine⟨_,rfl,_,rfl,_,rfl,_,rfl,p,k+1,5,rfl,T1,by omega,by decide,λd0 H2 d1 d2 B2 T2=>⟨_,_,rfl,rfl,?_⟩⟩;obtain⟨d,hd0⟩:∃d:Nat,1+d0=(d:Int):=⟨(1+d0).toNat,by omega⟩;have B02:=B1.trans B2;refine⟨p,nl,_,ns,d,(by show [V.ref p,V.ref nl,V.int (1+d0)]=_;rw[hd0]),T2,by omega,N0.but TT B02,by omega,by omega,λwv y k3 H3 B3 T3 hk3 W3 ok3 y3=>?_⟩;have B03:=B02.trans B3;refine⟨_,rfl,_,rfl,p,nl,k3,ns,rfl,T3,by omega,N0.but TT B03,λdv dd k4 H4 B4 T4 hk4 D4=>⟨sz4,λa ha=>?_⟩⟩;refine laid ha λH5 S5 e5=>?_;exact q (.ref a) (.wen kd y dd) k4 H5 (B03.trans (B4.trans (But.same S5))) (T4.same S5) (by omega) ⟨a,kd,wv,dv,y,dd,rfl,rfl,e5,(W3.but T3 B4).same S5,D4.kp (Kp.same S5),kw kd hm,ok3,by omega⟩
theorem zto (T:Tx K mg):FnOk P w K mg base CX0 13 T.zjc.f T.zjc.d zng ztpb:=by
 refine T.zjc.ok zqi ?_;rintro f c A o s H vs Q E hr ⟨v,r,rfl,⟨a,kd,x,dv,y,d,rfl,rfl,eA,W,D,hkd,py⟩,q⟩ X;refine⟨_,  (zca (zvb (zna zne (zbb zab (pv 0) zfa (λ_ _=>rfl)) zma (zgb _))
   (zea (zta (zdi yhc yqd yrd zym zma (zaa (zgd (zaa zma (zaa (zbb zab (pv 0) zfa (λ_ _=>rfl)) (zaa (zga (ztk T 9).up hr rfl T.zkb.m T.zkb.F.kp (zjh T) .nil zpa (zaa (zbb zab (pv 0) zfa (λ_ _=>rfl)) zba)) (zaa zma (zaa (zga (zuo T) hr rfl T.zkc.m T.zkc.F.kp (zfq T) .nil zpa (zaa (zbb zab (pv 0) zfa (λ_ _=>rfl)) zba)) zba)))))) zba))))
   zva)
  (zca (zvb (zna zne (zbb zab (pv 0) zfa (λ_ _=>rfl)) zma (zgb _))
   (zea (zta (zqb ztj (zqb ztj (zqb ztj zma (zbb zab (pv 0) zfa (λ_ _=>rfl))) zma) (zga (ztk T 9).up hr rfl T.zkb.m T.zkb.F.kp (zjh T) .nil zpa (zaa (zbb zab (pv 0) zfa (λ_ _=>rfl)) zba)))))
   zva)
  (zca (zoa (i:=1) zqi.nd rfl (.inl rfl) (zgd (zaa zma (zaa (zbb zab (pv 0) zfa (λ_ _=>rfl)) (zaa (zga (ztk T 9).up hr rfl T.zkb.m T.zkb.F.kp (zjh T) .nil zpa (zaa (zbb zab (pv 0) zfa (λ_ _=>rfl)) zba)) (zaa zma (zaa (zbb zab (pv 0) zfa (λ_ _=>rfl)) zba)))))))
  (zca (zvb (zna zsqb (zbb zab (pv 0) zfa (λ_ _=>rfl)) zmfb (zgb _))
   (zea (zme (zdi yac yed yfd zeh (pv 1) (zaa (zya zll rfl T.zow ypp (zaa (zbb zab (pv 0) zfa (λ_ _=>rfl)) zba)) zba))))
   zva)
  (zea (zta (zdi yhc yqd yrd zym zma (zaa (pv 1) zba)))))))),?_⟩
 have w1:(whT y).length≤200:=zrw py.1 py.2;have k8:kd.length≤8:=(zxo (l:=zge) (by decide +kernel) hkd).1.2.2;have dl:(zgbb d).length≤250:=by
  obtain⟨_,_,_,_,_,_,_,dok⟩:=D;exact zykb dok
 have l1:(" ":Str).length=1:=rfl;have lw:("when":Str).length=4:=by decide
 have ld:("do":Str).length=2:=by decide
 refine⟨_,rfl,a,_,_,_,rfl,rfl,SqT.of eA,zra (j:=0) rfl,rfl,_,rfl,iteT ?_⟩;refine⟨rfl,_,rfl,a,_,_,_,rfl,rfl,SqT.of eA,zra (j:=1) rfl,_,rfl,a,_,_,_,rfl,rfl,SqT.of eA,zra (j:=2) rfl,x,y,rfl,W,py.1,yua (zbpb y) py.2,py.2,λH1 S1=>?_⟩;refine⟨_,rfl,a,_,_,_,rfl,rfl,SqT.of (S1 _ _ eA),zra (j:=3) rfl,dv,d,rfl,D.kp (Kp.same S1),λH2 S2=>⟨sz5,λl hl=>?_⟩⟩;refine laid hl λH3 S3 e3=>?_;refine⟨" ",l,["when",kd,whT y,"do",zgbb d],rfl,rfl,SqL.of e3,?_,?_⟩
 ·simp only[yib,ycf,yae,yzj,yja,ymf];omega
 ·rw[zbmb];exact q H3 (S1.trans (S2.trans S3))
theorem znnb {ns ms zs:List Str}(hs:ms.Sublist ns)(hl:ns.length=4)(hok:∀n∈ns,zud n)(hnd:ns.Nodup)(hp:zs.Perm ms)(so:yyk zs=true):Marks zs where
 ok:=λm hm=>hok m (hs.subset (hp.mem_iff.mp hm))
 nd:=hp.nodup_iff.mpr (hs.nodup hnd)
 so:=so
 le:=by
  have a:=hs.length_le;have b:=hp.length_eq;omega
theorem zio {ms:List Str}(h:∀m∈ms,zud m):yke (.tuple (ms.map .str))=true:=by
 unfold yke;rw[ydf,zqx ms (λx hx=>zrfb (h x hx)),ypi,zey];rfl
theorem zeob (zs:List Str):yig (.tuple (zs.map .str)) (.tuple [])=decide (zs=[]):=by
 cases zs with
 | nil=>simp[yig,yaf]
 | cons x r=>simp[yig,yaf]
def zqmb (K:yda):Sp:=λvs H Q _=>Ex7 λp nl rl (k:Int) (ns:List Str) us (rs:List Rule)=>vs=[.ref p,.ref nl,.ref rl]∧Tk K H p k∧k≤600000∧N4 H nl ns∧H rl=some (.lst us)∧rl≠p∧All2 (R28 H) us rs∧rs.length≤3∧∀l m (c:Crd) (k':Int) H',But p H H'->Tk K H' p k'->k'≤k+8->H l=none->H' l=some (.lst [.str c.text,.ref m,.int (c.force:Int),.ref rl,.int (c.cost:Int)])->H' m=some (.tup (sM c.marks))->c.ok->c.rules=rs->c.marks.length≤4->Q (.ref l) H'
theorem zmab (T:Tx K mg):FnOk P w K mg base CX0 14 T.zif.f T.zif.d zvn (zqmb K):=by
 refine T.zif.ok zfd ?_;rintro f c A o s H vs Q E hr ⟨p,nl,rl,k,ns,us,rs,rfl,TT,hk,N0,er,nrp,al,r3,q⟩ X;refine⟨_,  (zca (zoa (i:=3) zfd.nd rfl (.inl rfl) (zya zrb rfl T.zkd yqe (zaa (zza zsr rfl T.zvh ycl (zaa (zwc (own:=["_law_name"]) (cap:=["_law_pen"]) rfl (zsb.chk rfl rfl) (.cons (j:=0) rfl (.inl rfl) (.inl rfl) .nil) (zag (pv 1)) (λ_ _ _ _=>(zeb (i:=0) (show yyc (["_law_name","_law_pen"]:List Str) by decide +kernel) rfl (.inl rfl))) (λ_ _ _ _=>zsp (zna zne (zga (zla T).up hr rfl T.zda.m T.zda.F.kp (zsa T) .nil zpa (zaa (pv 1) (zaa zfa zba))) zfa (zgb _))) (λ_ _ _ _=>by exact (pv 0))) zba)) zba)))
  (zca (zoa (i:=4) zfd.nd rfl (.inl rfl) (zga (zjj T).up hr rfl T.zec.m T.zec.F.kp (zik T) .nil zpa (zaa (pv 0) zba)))
  (zca (zoa (i:=5) zfd.nd rfl (.inl rfl) (zga (zla T).up hr rfl T.zda.m T.zda.F.kp (zsa T) .nil zpa (zaa (pv 0) (zaa zfa zba))))
  (zca (zoa (i:=6) zfd.nd rfl (.inl rfl) (zdi yhc yqd yrd zmnb zma (zaa (pv 3) zba)))
  (zca (zvb (zna (zmtb hr.units) (pv 3) (ztb zba) (zgb _))
   (zea (zoa (i:=6) zfd.nd rfl (.inl rfl) zma))
   zva)
  (zca (zoa (i:=7) zfd.nd rfl (.inl rfl) (zdi yhc yqd yrd zym zma (zaa (zgd (zaa (zbb znc (pv 1) (zga (zla T).up hr rfl T.zda.m T.zda.F.kp (zsa T) .nil zpa (zaa (pv 0) (zaa zfa zba))) (λ_ _=>rfl)) (zaa (zya zkl rfl T.zow ypp (zaa (pv 4) zba)) (zaa (zya zkl rfl T.zow ypp (zaa (pv 5) zba)) (zaa (pv 6) zba))))) zba)))
  (zca (zoa (i:=8) zfd.nd rfl (.inl rfl) (zdi yhc yqd yrd zym zma (zaa (zqb zlt (zgd (zaa (pv 7) zba)) (zwc (own:=["_law_rule"]) (cap:=[]) rfl (zsb.chk rfl rfl) .nil (zag (pv 2)) (λ_ _ _ _=>(zeb (i:=0) (show yyc (["_law_rule"]:List Str) by decide +kernel) rfl (.inl rfl))) (λ_ _ _ _=>zle) (λ_ _ _ _=>by exact (zga (zto T) hr rfl T.zjc.m T.zjc.F.kp (zeq T) .nil zpa (zaa (pv 0) zba))))) zba)))
  (zea (zta (zgd (zaa (pv 8) (zaa (pv 3) (zaa (pv 5) (zaa (pv 2) (zaa (pv 4) zba))))))))))))))),?_⟩
 refine⟨_,rfl,nl,rfl,⟨_,SqL.of N0.at_⟩,?_⟩;refine ztd (xs:=ns.map V.str) (λi ys H'=>Ex2 λ(ms:List Str) (k':Int)=>ys=ms.map V.str∧ms.Sublist (ns.take i)∧But p H H'∧Tk K H' p k'∧k'≤k+i∧i≤4) (λi ys H' ⟨ms,k',_,_,B,_⟩=>SqL.of (N0.but TT B).at_) ⟨[],k,rfl,List.nil_sublist _,But.refl p H,TT,by omega,by omega⟩ ?_ ?_ ?_
 ·rintro i ys H' ⟨ms,k',rfl,hs,_,_,_,hi⟩;rw[yba];have:=hs.length_le;rw[ygb] at this;exact small (by omega)
 ·rintro i v ys H' hv ⟨ms,k',rfl,hs,B',T',hk',_⟩;rw[yqa] at hv;obtain⟨u,hu,rfl⟩:=ywd.mp hv;have hi4:i<4:=by rw[← N0.len];exact (ysa.mp hu).1
  refine⟨rfl,_,rfl,p,k',3,rfl,T',by omega,by decide,λr H5 a5 b5 B5 T5=>⟨rfl,_,rfl,?_⟩⟩;refine ite2 (λ_=>?_) (λ_=>?_)
  ·refine⟨_,rfl,ms++[u],k'+1,by rw[yxa];rfl,?_,B'.trans B5,T5,by omega,by omega⟩;rw[ydb,hu];exact hs.append (List.Sublist.refl _)
  ·refine⟨ms,k'+1,rfl,?_,B'.trans B5,T5,by omega,by omega⟩;rw[ydb,hu];exact hs.trans (List.sublist_append_left _ _)
 rintro ys H1 ⟨ms,k1,rfl,hs,B1,T1,hk1,_⟩ b hb;rw[yba,N0.len] at hk1;have ml4:=hs.length_le;rw[yba,yla (yga _)] at hs;refine laid hb λH2 S2 e2=>?_;have ml:=hs.length_le;rw[N0.len] at ml;refine⟨b,ms,rfl,SqL.of e2,by omega,λso zs hso pz sz=>?_⟩;refine laid hso λH3 S3 e3=>?_;have MK:=znnb hs N0.len N0.ok N0.nd pz sz;have zl:zs.length≤4:=by rw[pz.length_eq];exact ml
 refine⟨so,_,rfl,.inl ⟨SqL.of e3,λtm htm=>?_⟩⟩;refine laid htm λH4 S4 e4=>?_;have S14:=S2.trans (S3.trans S4);have T4:=T1.same S14;have B4:=B1.trans (But.same S14);refine⟨_,rfl,p,k1,rfl,T4,by omega,λco k5 H5 hco B5 T5 hk5=>?_⟩;refine⟨_,rfl,p,k5,5,rfl,T5,by omega,by decide,λfo0 H6 f0 f1 B6 T6=>?_⟩;obtain⟨fo,rfl⟩:∃f:Nat,fo0=(f:Int):=⟨fo0.toNat,by omega⟩;have hfo:fo<1000:=by omega
 have B46:=B5.trans B6;have e6:=(Kp.but T4 B46).t e4;have zz:(zs.map (·.length)).sum+zs.length*(",":Str).length≤16777216:=by
  have z:=zeo (us:=zs) (m:=8) λu hu=>(MK.ok u hu).2.1;have l1:(",":Str).length=1:=rfl;rw[l1];omega
 refine⟨rfl,_,rfl,",",tm,zs,rfl,rfl,SqT.of e6,zz,?_⟩;refine⟨_,rfl,sz0,λem hem=>?_⟩;refine laid hem λH7 S7 e7=>?_;refine⟨.tuple (zs.map .str),.tuple [],.tup (SqT.of (S7 _ _ e6)) (znp _),.tup (SqT.of e7) .nil,zio MK.ok,(by unfold yke;rw[ydf,yqg,ypi,yoh];rfl),_,rfl,?_⟩;rw[zeob];refine' zwk (pre:=λv Hs=>Hs=H7∧v=V.str (zfi zs)) (λkk=>?g1) ?k1
 case g1 =>
  refine ite2 (λc=>?a) (λc=>?b)
  case b =>
   have zn:yya "," zs=zfi zs:=by
    cases zs with
    | nil=>exact absurd (decide_eq_true rfl) c
    | cons x r=>rfl
   obtain⟨v4,hv4⟩:∃x,x=V.str (yya "," zs):=⟨_,rfl⟩;obtain⟨Hz,hz⟩:∃h,h=H7:=⟨_,rfl⟩;rw[← hv4,← hz];exact kk v4 Hz ⟨hz,by rw[hv4,zn]⟩
  case a =>
   have z0:zs=[]:=of_decide_eq_true c;exact kk (.str "-") H7 ⟨rfl,by rw[z0];rfl⟩
 case k1 =>
 rintro _ _ ⟨rfl,rfl⟩;have T7:=T6.same S7;have B07:=B4.trans (B46.trans (But.same S7));refine⟨rfl,_,rfl,_,rfl,p,_,4,rfl,T7,by omega,by decide,λr H8 r0 r1 B8 T8=>?_⟩;have B08:=B07.trans B8;have N8:=N0.but TT B08;obtain⟨nm,hnm,hm⟩:=zol (ss:=ns) r0 (by rw[N0.len];exact r1);have nok:=N0.ok nm hm;refine⟨nl,_,_,_,rfl,rfl,SqL.of N8.at_,hnm,_,rfl,_,rfl,(by rw[ypl];exact ztt _ hco),_,rfl,_,rfl,(by rw[ypl];exact ztt _ hfo),_,rfl,sz4,λl9 hl9=>?_⟩;refine laid hl9 λH9 S9 e9=>?_;have mt:=(zam MK).2;have n8:=nok.2.1;have c8:=(zzd hco).2.2;have f8:=(zzd hfo).2.2;have l1:(" ":Str).length=1:=rfl;refine⟨" ",l9,(Crd.mk nm co fo zs rs).head,rfl,rfl,SqL.of e9,?_,?_⟩
 ·show ([nm,(toString (co:Int):Str),(toString (fo:Int):Str),zfi zs].map (·.length)).sum+4*_≤_;simp only[yib,ycf,yae,yzj];omega
 have cok:(Crd.mk nm co fo zs rs).ok:=⟨nok,hco,hfo,MK,(λr hr=>by
  obtain⟨v,_,z⟩:=al.mem2 hr;exact z.ok),r3⟩
 refine⟨rfl,_,rfl,sz1,λl10 hl10=>?_⟩;refine laid hl10 λH10 S10 e10=>?_;have S810:=S9.trans S10;have B010:=B08.trans (But.same S810);have er10:=B010 _ _ nrp er;have al10:All2 (R28 H10) us rs:=al.imp λz=>z.kp (Kp.but TT B010);have ul:=al.len;refine⟨_,rfl,rl,rfl,⟨_,SqL.of er10⟩,?_⟩;refine ztd (xs:=us) (λi ys H'=>Same H10 H'∧ys=(rs.take i).map λr=>V.str (zdg r)) (λi ys H' z=>SqL.of (z.1 _ _ er10)) ⟨Same.refl _,rfl⟩ ?_ ?_ ?_
 ·rintro i ys H' ⟨_,rfl⟩;rw[yba,ygb];exact small (by omega)
 ·rintro i v ys H' hv ⟨S,rfl⟩;obtain⟨r,hr,z⟩:=al10.get hv;refine⟨rfl,_,rfl,v,r,rfl,z.kp (Kp.same S),λH'' S''=>⟨S.trans S'',?_⟩⟩;rw[ydb,hr,yub,yxa];rfl
 rintro ys H11 ⟨S11,rfl⟩ l12 hl12;rw[ul,yla (yga _)];refine laid hl12 λH12 S12 e12=>?_;refine⟨l10,l12,_,_,rfl,rfl,(S11.trans S12) _ _ e10,e12,?_,λl13 hl13=>?_⟩
 ·rw[yba];exact small (by show 1+rs.length≤1000;omega)
 refine laid hl13 λH13 S13 e13=>?_;have e13':H13 l13=some (.lst ((yya " " (Crd.mk nm co fo zs rs).head::rs.map zdg).map V.str)):=by
  rw[e13,yib,yyj];rfl
 have hh:=Crd.zwx cok;refine⟨" / ",l13,_,rfl,rfl,SqL.of e13',?_,?_⟩
 ·have z:=zeo (us:=yya " " (Crd.mk nm co fo zs rs).head::rs.map zdg) (m:=450) λu hu=>by
   rcases yka.mp hu with z|z
   ·rw[z];omega
   ·obtain⟨r,hr,rfl⟩:=ycc.mp z;exact zct (cok.rules r hr)
  have l3:(" / ":Str).length=3:=by decide
  rw[yja,yba] at z;rw[yja,yba,l3];omega
 have S813:=S810.trans (S11.trans (S12.trans S13));refine⟨_,rfl,_,rfl,_,rfl,_,rfl,_,rfl,sz5,λl14 hl14=>?_⟩;have B013:=B08.trans (But.same S813);have hl0:H l14=none:=by
  cases e:H l14 with
  | none=>rfl
  | some o =>
   by_cases z:l14=p
   ·have T13:=T8.same S813;rw[z] at hl14;obtain⟨a,e2⟩:=T13.two;rw[e2] at hl14;cases hl14
   ·have:=B013 _ _ z e;rw[this] at hl14;cases hl14
 refine laid hl14 λH14 S14' e14=>?_;have S814:=S813.trans S14';refine q l14 tm (Crd.mk nm co fo zs rs) _ H14 (B08.trans (But.same S814)) (T8.same S814) (by omega) hl0 e14 ?_ cok rfl zl;exact S814 _ _ ((Kp.but T7 B8).t (S7 _ _ e6))
def CT (H:Hp)(v:V)(c:Crd):Prop:=Ex5 λl m x2 x3 x4=>v = .ref l∧H l=some (.lst [.str c.text,.ref m,x2,x3,x4])∧H m=some (.tup (sM c.marks))∧c.ok∧c.marks.length≤4∧∀r∈c.rules,Ex3 λkd y d=>r=Rule.wen kd y d
theorem CT.ref {H:Hp}{v:V}{c:Crd}(h:CT H v c):∃l,v = .ref l:=by
 obtain⟨l,_,_,_,_,e,_⟩:=h;exact⟨l,e⟩
theorem CT.same {H H':Hp}(s:Same H H'){v:V}{c:Crd}(h:CT H v c):CT H' v c:=by
 obtain⟨l,m,x2,x3,x4,e,h1,h2,h3⟩:=h;exact⟨l,m,x2,x3,x4,e,s _ _ h1,s _ _ h2,h3⟩
theorem CT.but {K:yda}{H H':Hp}{p:Addr}{k:Int}(t:Tk K H p k)(b:But p H H'){v:V}{c:Crd}(h:CT H v c):CT H' v c:=by
 obtain⟨l,m,x2,x3,x4,e,h1,h2,h3⟩:=h;refine⟨l,m,x2,x3,x4,e,b _ _ (λz=>?_) h1,(Kp.but t b).t h2,h3⟩;obtain⟨a,ep⟩:=t.two;rw[z,ep] at h1;injection h1 with h1
 injection h1 with h1
 cases h1
theorem CT.put {H:Hp}{d:Addr}{us ws:List V}(e:H d=some (.lst us))(hr:∀u∈us,∃l,u=V.ref l){v:V}{c:Crd}(h:CT H v c):CT (upd H d (.lst ws)) v c:=by
 obtain⟨l,m,x2,x3,x4,e1,h1,h2,h3⟩:=h;refine⟨l,m,x2,x3,x4,e1,?_,(Kp.put e).t h2,h3⟩;rw[zdb λz=>?_]
 ·exact h1
 ·rw[z,e] at h1;injection h1 with h1
  injection h1 with h1
  obtain⟨y,hy⟩:=hr (.str c.text) (by rw[h1];exact yra);cases hy
theorem CTs.ref {H:Hp}{vs:List V}{cs:List Crd}(h:All2 (CT H) vs cs):∀u∈vs,∃l,u=V.ref l:=λu hu=>by
 obtain⟨c,_,z⟩:=h.mem hu;exact z.ref
def DkT (H:Hp)(v:V)(cs:List Crd):Prop:=Ex2 λd vs=>v = .ref d∧H d=some (.lst vs)∧All2 (CT H) vs cs∧1≤cs.length∧cs.length≤4
theorem DkT.same {H H':Hp}(s:Same H H'){v:V}{cs:List Crd}(h:DkT H v cs):DkT H' v cs:=by
 obtain⟨d,vs,e,h1,h2,h3⟩:=h;exact⟨d,vs,e,s _ _ h1,h2.imp λz=>z.same s,h3⟩
theorem DkT.but {K:yda}{H H':Hp}{p:Addr}{k:Int}(t:Tk K H p k)(b:But p H H'){v:V}{cs:List Crd}(h:DkT H v cs):DkT H' v cs:=by
 obtain⟨d,vs,e,h1,h2,h3⟩:=h;refine⟨d,vs,e,b _ _ (λz=>?_) h1,h2.imp λz=>z.but t b,h3⟩;obtain⟨a,ep⟩:=t.two;rw[z,ep] at h1;injection h1 with h1
 injection h1 with h1
 obtain⟨l,hl⟩:=CTs.ref h2 (.int k) (by rw[← h1];simp);cases hl
theorem DkT.put {H:Hp}{dl:Addr}{us ws:List V}(e:H dl=some (.lst us))(hr:∀u∈us,∃l,u=V.ref l){v:V}{cs:List Crd}(hv:v ≠ .ref dl)(h:DkT H v cs):DkT (upd H dl (.lst ws)) v cs:=by
 obtain⟨d,vs,rfl,h1,h2,h3⟩:=h;exact⟨d,vs,rfl,by rw[zdb λz=>hv (by rw[z])];exact h1,h2.imp λz=>z.put e hr,h3⟩
def zvib (K:yda):Sp:=λvs H Q _=>Ex4 λp nl (k:Int) (ns:List Str)=>vs=[.ref p,.ref nl]∧Tk K H p k∧k≤500000∧N4 H nl ns∧∀dl ds (dss:List (List Crd)) (k':Int) H',But p H H'->Tk K H' p k'->k'≤k+2001->H dl=none->H' dl=some (.lst ds)->All2 (DkT H') ds dss->2≤dss.length->dss.length≤4->Q (.ref dl) H'
theorem zjib {H Hx:Hp}{p l:Addr}{us:List V}(e:H l=none)(B:But p H Hx):But p H (upd Hx l (.lst us)):=λb o nb hb=>by
 rw[zdb (zka hb e)];exact B b o nb hb
theorem zmx (T:Tx K mg):FnOk P w K mg base CX0 15 T.zfe.f T.zfe.d zvl (zvib K):=by
 refine T.zfe.ok zqd ?_;rintro f c A o s H vs Q E hr ⟨p,nl,k,ns,rfl,TT,hk,N0,q⟩ X;refine⟨_,  (zca (zoa (i:=2) zqd.nd rfl (.inl rfl) (zgd zba))
  (zca (zlm yzd rfl (zzf rfl T.zfg (zaa (zqb zbh zfa (zga (zla T).up hr rfl T.zda.m T.zda.F.kp (zsa T) .nil zpa (zaa (pv 0) (zaa zfa zba)))) zba)) (zeb (i:=3) zqd.nd rfl (.inl rfl))
   (zca (zoa (i:=4) zqd.nd rfl (.inl rfl) (zgd zba))
   (zca (zlm yzd rfl (zzf rfl T.zfg (zaa (zqb zbh zfa (zga (zla T).up hr rfl T.zda.m T.zda.F.kp (zsa T) .nil zpa (zaa (pv 0) (zaa zfa zba)))) zba)) (zeb (i:=5) zqd.nd rfl (.inl rfl))
    (zca (zoa (i:=6) zqd.nd rfl (.inl rfl) (zgd zba))
    (zca (zlm yzd rfl (zzf rfl T.zfg (zaa (zga (zla T).up hr rfl T.zda.m T.zda.F.kp (zsa T) .nil zpa (zaa (pv 0) (zaa zfa zba))) zba)) (zeb (i:=7) zqd.nd rfl (.inl rfl))
     (zea (zme (zdi yac yed yfd zeh (pv 6) (zaa (zga (zgab T).up hr rfl T.zcf.m T.zcf.F.kp (zwdb T) .nil zpa (zaa (pv 0) (zaa (pv 1) (zaa (zgd (zaa zma (zaa zma zba))) zba)))) zba)))))
    (zea (zme (zdi yac yed yfd zeh (pv 4) (zaa (zga (zmab T) hr rfl T.zif.m T.zif.F.kp (zbeb T) .nil zpa (zaa (pv 0) (zaa (pv 1) (zaa (pv 6) zba)))) zba)))))))
   (zea (zme (zdi yac yed yfd zeh (pv 2) (zaa (pv 4) zba)))))))
  (zea (zta (pv 2))))),?_⟩
 refine⟨sz0,λdl hdl=>?_⟩;refine laid hdl λH1 S1 e1=>?_;have T1:=TT.same S1;have ndl:dl≠p:=ywc (TT.ne hdl);refine⟨_,rfl,p,k,3,rfl,T1,by omega,by decide,λm0 H2 m1 m2 B2 T2=>⟨_,_,rfl,rfl,?_⟩⟩;obtain⟨m,hm⟩:∃m:Nat,2+m0=(m:Int):=⟨(2+m0).toNat,by omega⟩;refine⟨(m:Int),(by show [V.int (2+m0)]=_;rw[hm]),by omega,by omega,?_⟩;rw[yxb];have B02:But p H H2:=(But.same S1).trans B2;refine zil (lo:=0) (n:=m) (λi σ Hx=>Ex8 λds (dss:List (List Crd)) (k':Int) o3 o4 o5 o6 o7=>σ=[some (.ref p),some (.ref nl),some (.ref dl),o3,o4,o5,o6,o7]∧Hx dl=some (.lst ds)∧All2 (DkT Hx) ds dss∧(∀d∈ds,d≠V.ref dl)∧dss.length=i∧i≤m∧But p H Hx∧Tk K Hx p k'∧k'≤k+1+500*(i:Int)) ⟨[],[],_,_,_,_,_,_,rfl,B2 _ _ ndl e1,.nil,(λ_ h=>nomatch h),rfl,yqb _,B02,T2,by omega⟩ ?_ ?_
 ·rintro i σ Hx hi ⟨ds,dss,k',o3,o4,o5,o6,o7,rfl,ed,al,nd,dl',_,B,TK,hk'⟩;refine⟨sz0,λd hd=>?_⟩;refine laid hd λH3 S3 e3=>?_;have T3:=TK.same S3;have ndp:d≠p:=ywc (TK.ne hd);refine⟨_,rfl,p,k',4,rfl,T3,by omega,by decide,λj0 H4 j1 j2 B4 T4=>⟨_,_,rfl,rfl,?_⟩⟩;obtain⟨j,hj⟩:∃j:Nat,1+j0=(j:Int):=⟨(1+j0).toNat,by omega⟩;refine⟨(j:Int),(by show [V.int (1+j0)]=_;rw[hj]),by omega,by omega,?_⟩;rw[yxb];have B34:But p Hx H4:=(But.same S3).trans B4;have e4:H4 d=some (.lst []):=B4 _ _ ndp e3;refine zil (lo:=0) (n:=j) (λi2 σ Hy=>Ex6 λvs (cs:List Crd) (k2:Int) o5 o6 o7=>σ=[some (.ref p),some (.ref nl),some (.ref dl),some (.int (0+(i:Int))),some (.ref d),o5,o6,o7]∧Hy d=some (.lst vs)∧All2 (CT Hy) vs cs∧cs.length=i2∧i2≤j∧But p Hx Hy∧Tk K Hy p k2∧k2≤k'+1+105*(i2:Int)) ⟨[],[],_,_,_,_,rfl,e4,.nil,rfl,yqb _,B34,T4,by omega⟩ ?_ ?_
  ·rintro i2 σ Hy hi2 ⟨vs,cs,k2,o5,o6,o7,rfl,ev,alv,cl,_,By,Ty,hk2⟩;refine⟨sz0,λrl hrl=>?_⟩;refine laid hrl λH5 S5 e5=>?_;have T5:=Ty.same S5;have nrp:rl≠p:=ywc (Ty.ne hrl);refine⟨_,rfl,p,k2,3,rfl,T5,by omega,by decide,λr0 H6 r1 r2 B6 T6=>?_⟩;obtain⟨r,rfl⟩:∃r:Nat,r0=(r:Int):=⟨r0.toNat,by omega⟩;refine⟨_,rfl,by omega,by omega,?_⟩;rw[yxb];have B56:But p Hy H6:=(But.same S5).trans B6;refine zil (lo:=0) (n:=r) (λi3 σ Hz=>Ex4 λus (rs:List Rule) (k3:Int) o7=>σ=[some (.ref p),some (.ref nl),some (.ref dl),some (.int (0+(i:Int))),some (.ref d),some (.int (0+(i2:Int))),some (.ref rl),o7]∧Hz rl=some (.lst us)∧All2 (R28 Hz) us rs∧rs.length=i3∧i3≤r∧But p Hy Hz∧Tk K Hz p k3∧k3≤k2+1+48*(i3:Int)) ⟨[],[],_,_,rfl,B6 _ _ nrp e5,.nil,rfl,yqb _,B56,T6,by omega⟩ ?_ ?_
   ·rintro i3 σ Hz hi3 ⟨us,rs,k3,o7,rfl,eu,alu,rll,_,Bz,Tz,hk3⟩;refine⟨_,rfl,.inl ⟨rfl,_,SqL.of eu⟩,_,rfl,_,rfl,sz2,λkl hkl=>?_⟩;refine laid hkl λH7 S7 e7=>?_;have T7:=Tz.same S7;have B07:=B.trans (By.trans (Bz.trans (But.same S7)));refine⟨p,nl,kl,k3,ns,["come","hurt"],rfl,T7,by omega,N0.but TT B07,e7,by decide,by decide +kernel,λv rr k4 H8 B8 T8 hk4 R8=>?_⟩;have B78:=(But.same (p:=p) S7).trans B8;have eu8:=B78 _ _ nrp eu;have ul:=alu.len;refine⟨rl,_,_,rfl,rfl,eu8,zse (by omega),?_⟩;have kpp:Kp H8 (upd H8 rl (.lst (us++[v]))):=Kp.put eu8;exact⟨us++[v],rs++[rr],k4,_,rfl,zia,All2.snoc (R8.kp kpp) (alu.imp λz=>z.kp ((Kp.but Tz B78).trans kpp)),by rw[yea,rll];rfl,hi3,zjib hrl (Bz.trans B78),T8.other eu8 (ywc nrp),by omega⟩
   ·rintro σ Hz ⟨us,rs,k3,o7,rfl,eu,alu,rll,_,Bz,Tz,hk3⟩;have ez:=Bz _ _ ndp ev;have B0z:=B.trans (By.trans Bz);refine⟨_,rfl,.inl ⟨rfl,_,SqL.of ez⟩,_,rfl,_,rfl,_,rfl,p,nl,rl,k3,ns,us,rs,rfl,Tz,by omega,N0.but TT B0z,eu,nrp,alu,by omega,λl mm c k4 H8 B8 T8 hk4 hl8 e8 em8 cok crs cm4=>?_⟩;have e8':=B8 _ _ ndp ez;have vl:=alv.len;refine⟨d,_,_,rfl,rfl,e8',zse (by omega),?_⟩;have Ca:All2 (CT H8) vs cs:=alv.imp λz=>z.but Ty (Bz.trans B8);have hrf:=CTs.ref Ca;have Cn:CT H8 (.ref l) c:=⟨l,mm,_,_,_,rfl,e8,em8,cok,cm4,λrr hrr=>by
     rw[crs] at hrr;obtain⟨u,_,z⟩:=alu.mem2 hrr;exact z.zotb⟩
    exact⟨vs++[.ref l],cs++[c],k4,_,_,_,rfl,zia,All2.snoc (Cn.put e8' hrf) (Ca.imp λz=>z.put e8' hrf),by rw[yea,cl];rfl,hi2,zjib hd (By.trans (Bz.trans B8)),T8.other e8' (ywc ndp),by omega⟩
  ·rintro σ Hy ⟨vs,cs,k2,o5,o6,o7,rfl,ev,alv,cl,_,By,Ty,hk2⟩;have ey:=By _ _ ndl ed;have dsl:=al.len;refine⟨_,rfl,.inl ⟨rfl,_,SqL.of ey⟩,_,rfl,dl,_,_,rfl,rfl,ey,zse (by omega),?_⟩;have Da:All2 (DkT Hy) ds dss:=al.imp λz=>z.but TK By;have rf:∀u∈ds,∃l,u=V.ref l:=λu hu=>by
    obtain⟨cs,_,⟨d,_,e,_⟩⟩:=Da.mem hu;exact⟨d,e⟩
   have ddl:d≠dl:=λz=>by
    rw[z,ed] at hd;cases hd
   have put:∀{us:List V} {dss:List (List Crd)},All2 (DkT Hy) us dss->(∀u∈us,u≠V.ref dl)->All2 (DkT (upd Hy dl (.lst (ds++[V.ref d])))) us dss:=by
    intro us dss z
    induction z with
    | nil=>intro _;exact .nil
    | cons h t ih=>intro g;exact .cons (h.put ey rf (g _ yra)) (ih λu hu=>g u (yta _ hu))
   have Dn:DkT Hy (.ref d) cs:=⟨d,vs,rfl,ev,alv,by omega,by omega⟩;have nd':∀u∈ds++[V.ref d],u≠V.ref dl:=λu hu=>by
    rcases ydc.mp hu with z|z
    ·exact nd u z
    ·rw[yia.mp z];intro y;injection y with y
     exact ddl y
   exact⟨ds++[.ref d],dss++[cs],k2,_,_,_,_,_,rfl,zia,put (All2.snoc Dn Da) nd',nd',by rw[yea,dl'];rfl,hi,zjib hdl (B.trans By),Ty.other ey (ywc ndl),by omega⟩
 ·rintro σ Hx ⟨ds,dss,k',o3,o4,o5,o6,o7,rfl,ed,al,nd,dl',_,B,TK,hk'⟩;exact⟨_,rfl,q dl ds dss k' Hx B TK (by omega) hdl ed al (by omega) (by omega)⟩
theorem zjlb (n:Str)(c f:Nat)(m t:Addr):(cfs n c f m t).lookup ("rules":Str)=some (.ref t):=(zue (by decide +kernel)).trans ((zue (by decide +kernel)).trans ((zue (by decide +kernel)).trans ((zue (by decide +kernel)).trans zbs)))
def zgpb (c:Crd):Prop:=∀r∈c.rules,Ex3 λkd y d=>r=Rule.wen kd y d
def CkT (B:Addr)(H:Hp)(v:V)(ms:List Str):Prop:=Ex8 λa dx m t (nm:Str) (c f:Nat) vs=>v = .ref a∧H a=some (.ins B dx (cfs nm c f m t))∧H m=some (.tup (sM ms))∧H t=some (.tup vs)∧∀u∈vs,Ex2 λra xs=>u=V.ref ra∧H ra=some (.tup (.str "when" :: xs))
theorem CkT.kp {B:Addr}{H H':Hp}(s:Kp H H'){v:V}{ms:List Str}(h:CkT B H v ms):CkT B H' v ms:=by
 obtain⟨a,dx,m,t,nm,c,f,vs,e,h1,h2,h3,h4⟩:=h;exact⟨a,dx,m,t,nm,c,f,vs,e,s _ _ (λ_ z=>by cases z) h1,s.t h2,s.t h3,λu hu=>by
  obtain⟨ra,xs,e2,h5⟩:=h4 u hu;exact⟨ra,xs,e2,s.t h5⟩⟩
theorem CkT.of {B D:Addr}{H:Hp}{v:V}{c:Crd}(h:zipb B D H v c)(n:zgpb c):CkT B H v c.marks:=by
 obtain⟨a,dx,m,t,vs,e,h1,h2,h3,h4⟩:=h;refine⟨a,dx,m,t,_,_,_,vs,e,h1,h2,h3,λu hu=>?_⟩;obtain⟨i,hi⟩:=yjk hu;obtain⟨r,hr,ir⟩:=h4.get hi;obtain⟨kd,y,d,rfl⟩:=n r (ybb hr);obtain⟨ra,x,w,e2,h5,_⟩:=ir;exact⟨ra,_,e2,h5⟩
theorem CkT.cm {B:Addr}{H:Hp}{v:V}{ms:List Str}(h:CkT B H v ms):CmT B H v ms:=by
 obtain⟨a,dx,m,t,nm,c,f,vs,e,h1,h2,_⟩:=h;exact⟨a,dx,m,t,nm,c,f,e,h1,h2⟩
def zwpb (B:Addr):Sp:=λvs H Q _=>Ex2 λv (ms:List Str)=>vs=[v]∧CkT B H v ms∧∀H',Same H H'->Q (.int 0) H'
def nums (os:List Int)(p:Int)(i:Nat):List Int:=((ypb i).filter λj=>decide (os[j]?=some p)).map λj:Nat=>(j:Int)
def zusb:Sp:=λvs H Q _=>Ex3 λoa (os:List Int) (p:Int)=>vs=[.ref oa,.int p]∧H oa=some (.lst (iM os))∧os.length≤16∧∀b H',Same H H'->H' b=some (.tup (iM (nums os p os.length)))->Q (.ref b) H'
theorem zkx (T:Tx K mg):FnOk P w K mg base CX0 2 T.zde.f T.zde.d ztl (zwpb T.zid):=by
 refine T.zde.ok zyw ?_;rintro f c A o s H vs Q E hr ⟨v,ms,rfl,⟨a,dx,m,t,nm,cc,f,vs,rfl,hcd,_,ht,hrs⟩,q⟩ X;refine⟨_,  (zea (zta (zza zwa rfl T.zre yjb (zaa (zwc (own:=["rule"]) (cap:=[]) rfl (zsb.chk rfl rfl) .nil (ztz (zqo (pv 0) rfl)) (λ_ _ _ _=>(zeb (i:=0) (show yyc (["rule"]:List Str) by decide +kernel) rfl (.inl rfl))) (λ_ _ _ _=>zsp (zna zne (zbb (zldb K) (pv 0) zfa (λ_ _=>rfl)) zma (zgb _))) (λ_ _ _ _=>by exact (pv 0))) zba)))),?_⟩;refine⟨_,rfl,a,_,dx,_,_,rfl,hcd,T.zgk,T.zdh,zjlb _ _ _ _ _,t,rfl,⟨_,SqT.of ht⟩,?_⟩;refine zcs (xs:=vs) (λi ys H'=>H'=H∧ys=[]) (λi ys H' z=>by rw[z.1];exact SqT.of ht) ⟨rfl,rfl⟩ ?_ ?_ ?_
 ·rintro i ys H' ⟨_,rfl⟩;exact yqb _
 ·rintro i v ys H' hv ⟨rfl,rfl⟩;obtain⟨ra,xs,rfl,hra⟩:=hrs v (ybb hv);exact⟨rfl,_,rfl,ra,_,_,_,rfl,rfl,SqT.of hra,zra (j:=0) rfl,rfl,_,rfl,iteF ⟨rfl,rfl⟩⟩
 ·rintro ys H' ⟨rfl,rfl⟩ l hl;refine laid hl λH1 S1 e1=>?_;exact⟨l,[],rfl,.inl (SqL.of e1),q H1 S1⟩
theorem zot (os:List Int)(p:Int)(i:Nat):nums os p (i+1)=nums os p i++(if os[i]?=some p then [(i:Int)] else []):=by
 unfold nums;rw[yrg,yql,yxa]
 congr 1
 by_cases h:os[i]?=some p
 ·rw[if_pos h,ydh (by exact decide_eq_true h)];rfl
 ·rw[if_neg h,yeh (by intro z;exact h (of_decide_eq_true z))];rfl
theorem zjnb (os:List Int)(p:Int)(i:Nat):(nums os p i).length≤i:=by
 unfold nums;rw[yba];have:=yph (λj=>decide (os[j]?=some p)) (ypb i);rw[yrb] at this;exact this
theorem zjx (T:Tx K mg):FnOk P w K mg base CX0 2 T.zce.f T.zce.d zsl zusb:=by
 refine T.zce.ok zxw ?_;rintro f c A o s H vs Q E hr ⟨oa,os,p,rfl,eo,o16,q⟩ X;refine⟨_,  (zea (zta (zya zrb rfl T.zkd yqe (zaa (zwc (own:=["number","owner"]) (cap:=["player"]) rfl (zsb.chk rfl rfl) (.cons (j:=1) rfl (.inl rfl) (.inl rfl) .nil) (zlfb rfl T.zxh (zaa (pv 0) zba)) (λ_ _ _ _=>(znqb K (n:=2) rfl (zlc (zeb (i:=0) (show yyc (["number","owner","player"]:List Str) by decide +kernel) rfl (.inl rfl)) (zlc (zeb (i:=1) (show yyc (["number","owner","player"]:List Str) by decide +kernel) rfl (.inl rfl)) zbl)))) (λ_ _ _ _=>zsp (zna zne (pv 1) (pv 2) (zgb _))) (λ_ _ _ _=>by exact (pv 0))) zba)))),?_⟩;refine⟨_,rfl,oa,_,rfl,SqL.of eo,?_⟩;refine zphb (xs:=iM os) (λi ys H'=>Same H H'∧ys=iM (nums os p i)∧i≤os.length) (λi ys H' z=>SqL.of (z.1 _ _ eo)) ⟨Same.refl _,rfl,yqb _⟩ ?_ ?_ ?_
 ·rintro i ys H' ⟨_,rfl,hi⟩;unfold iM;rw[yba];have:=zjnb os p i;exact small (by omega)
 ·rintro i v ys H' pp hv ⟨S,rfl,_⟩ hp;unfold iM at hv;rw[yqa] at hv;obtain⟨x,hx,rfl⟩:=ywd.mp hv;have hi:i<os.length:=(ysa.mp hx).1;refine laid hp λH1 S1 e1=>?_;refine⟨pp,_,rfl,SqT.of e1,rfl,_,_,rfl,_,_,rfl,rfl,rfl,_,rfl,_,rfl,rfl,_,rfl,?_⟩;refine ite2 (λc=>?_) (λc=>?_)
  ·have c':=of_decide_eq_true c;injection c' with c'
   refine⟨_,rfl,S.trans S1,?_,hi⟩;rw[zot,if_pos (by rw[hx,c'])];unfold iM;rw[yxa];rfl
  ·have c':¬ x=p:=λz=>c (decide_eq_true (by rw[z]));refine⟨S.trans S1,?_,hi⟩;rw[zot,if_neg (by rw[hx];intro z;injection z with z;exact c' z),yfc]
 ·rintro ys H' ⟨S,rfl,_⟩ l hl;refine laid hl λH1 S1 e1=>?_;refine⟨l,_,rfl,.inl ⟨SqL.of e1,λtm htm=>?_⟩⟩;refine laid htm λH2 S2 e2=>?_;refine q tm H2 (S.trans (S1.trans S2)) ?_;rw[e2];unfold iM;rw[yba]
theorem zdfb {X:Cx}(K:yda)(hK:X.K=K:=by rfl):SlR X (rSlA K):=hK▸zscb
def tab0 (os:List Int)(np:Nat)(cms:List (List Str)):Tab :=
 ⟨ylb np 20,ylb np 0,ylb np false,(ypb np).map λp:Nat=>(nums os (p:Int) os.length).drop 3,(ypb np).map λp:Nat=>(nums os (p:Int) os.length).take 3,[],[],cms,ylb cms.length 0⟩
theorem zdob (n:Nat)(x:V):(ylb n [x]).flatten=ylb n x:=by
 induction n with
 | zero=>rfl
 | succ n ih=>rw[yce,ybc,ih,yce];rfl
theorem zflb (xs:List Int):cutV (iM xs) (some 3) none=iM (xs.drop 3):=by
 rw[zclb (by decide)];unfold iM;rw[yrp];rfl
theorem zglb (xs:List Int):cutV (iM xs) none (some 3)=iM (xs.take 3):=by
 rw[zelb (by decide)];unfold iM;rw[yqp];rfl
theorem take_range {α:Type}(f:Nat->α){n i:Nat}(h:i<n):((ypb n).take (i+1)).map f=((ypb n).take i).map f++[f i]:=by
 rw[ydb,yji h,yub,yxa];rfl
def zxpb (B:Addr):Sp:=λvs H Q _=>Ex5 λca oa (np:Nat) (os:List Int) (cms:List (List Str))=>vs=[.ref ca,.ref oa,.int (np:Int)]∧CdsT B H ca cms∧H oa=some (.lst (iM os))∧os.length≤16∧2≤np∧np≤4∧2≤cms.length∧cms.length≤16∧∀v H',Same H H'->TabT H' v (tab0 os np cms)->Q v H'
theorem zxu (T:Tx K mg):FnOk P w K mg base CX0 3 T.znd.f T.znd.d zkk (zxpb T.zid):=by
 refine T.znd.ok zgm ?_;rintro f c A o s H vs Q E hr ⟨ca,oa,np,os,cms,rfl,CD,eo,o16,np2,np4,c2,c16,q⟩ X;refine⟨_,  (zca (zkqb (i:=3) zgm.nd rfl (.inl rfl) (own:=["player"]) (cap:=["owners"]) rfl (zsb.chk rfl rfl) (.cons (j:=1) rfl (.inl rfl) (.inl rfl) .nil) (zzf rfl T.zfg (zaa (pv 2) zba)) (λ_ _ _ _=>(zeb (i:=0) (show yyc (["player","owners"]:List Str) by decide +kernel) rfl (.inl rfl))) (λ_ _ _ _=>zle) (λ_ _ _ _=>by exact (zga (zjx T) hr rfl T.zce.m T.zce.F.kp (zwbb T) .nil zpa (zaa (pv 1) (zaa (pv 0) zba)))))
  (zea (zta (ztb (zaa (zqb zex (ztb (zaa (znb (v:=.int 20) rfl T.zvg ⟨_,rfl⟩) zba)) (pv 2)) (zaa (zqb zex (ztb (zaa zfa zba)) (pv 2)) (zaa (zqb zex (ztb (zaa zjt zba)) (pv 2)) (zaa (zya zrb rfl T.zkd yqe (zaa (zwc (own:=["deck"]) (cap:=[]) rfl (zsb.chk rfl rfl) .nil (zag (pv 3)) (λ_ _ _ _=>(zeb (i:=0) (show yyc (["deck"]:List Str) by decide +kernel) rfl (.inl rfl))) (λ_ _ _ _=>zle) (λ_ _ _ _=>by exact (zcd (zdfb K) (pv 0) (zpe (znb (v:=.int 3) rfl T.zgh ⟨_,rfl⟩)) zqe))) zba)) (zaa (zya zrb rfl T.zkd yqe (zaa (zwc (own:=["deck"]) (cap:=[]) rfl (zsb.chk rfl rfl) .nil (zag (pv 3)) (λ_ _ _ _=>(zeb (i:=0) (show yyc (["deck"]:List Str) by decide +kernel) rfl (.inl rfl))) (λ_ _ _ _=>zle) (λ_ _ _ _=>by exact (zcd (zdfb K) (pv 0) zqe (zpe (znb (v:=.int 3) rfl T.zgh ⟨_,rfl⟩))))) zba)) (zaa (ztb zba) (zaa (ztb zba) (zaa (zya zrb rfl T.zkd yqe (zaa (zwc (own:=["card"]) (cap:=[]) rfl (zsb.chk rfl rfl) .nil (zag (pv 0)) (λ_ _ _ _=>(zeb (i:=0) (show yyc (["card"]:List Str) by decide +kernel) rfl (.inl rfl))) (λ_ _ _ _=>zle) (λ_ _ _ _=>by exact (zqqb K (pv 0) rfl))) zba)) (zaa (zqb zex (ztb (zaa zfa zba)) (zza zwa rfl T.zre yjb (zaa (pv 0) zba))) zba))))))))))))),?_⟩
 refine⟨_,rfl,_,rfl,by omega,by omega,?_⟩;rw[yxb];refine zdm (λi ys H'=>Same H H'∧All2 (T1 H') ys ((ypb i).map λp:Nat=>iM (nums os (p:Int) os.length))∧i≤np) ⟨Same.refl _,.nil,yqb _⟩ ?_ ?_ ?_
 ·rintro i ys H' ⟨_,al,hi⟩;have:=al.len;rw[yba,yrb] at this;exact small (by omega)
 ·rintro i ys H' hi ⟨S,al,_⟩;refine⟨rfl,_,rfl,_,rfl,oa,os,(i:Int),?_,S _ _ eo,o16,λb H2 S2 e2=>⟨S.trans S2,?_,hi⟩⟩
  ·show [V.ref oa,V.int (0+(i:Int))]=_;rw[Int.zero_add]
  ·rw[yrg,yxa];exact All2.snoc ⟨b,rfl,e2⟩ (al.imp λz=>z.kp (Kp.same S2))
 rintro dv H1 ⟨S1,al1,_⟩ dl hdl;refine laid hdl λH2 S2 e2=>?_;have S02:=S1.trans S2;have al2:All2 (T1 H2) dv ((ypb np).map λp:Nat=>iM (nums os (p:Int) os.length)):=al1.imp λz=>z.kp (Kp.same S2);have dvl:=al2.len;rw[yba,yrb] at dvl;have npz:([V.int 20]:List V).length*((np:Int)).toNat≤ywa:=by
  rw[yxb];exact small (by show 1*np≤1000;omega)
 refine⟨sz1,λa1 h1=>?_⟩;refine laid h1 λH3 S3 e3=>?_;refine⟨_,rfl,a1,_,(np:Int),rfl,rfl,SqT.of e3,yhb _ _,by omega,by omega,npz,λp1 hp1=>?_⟩;refine laid hp1 λH4 S4 e4=>?_;refine⟨sz1,λa2 h2=>?_⟩;refine laid h2 λH5 S5 e5=>?_;refine⟨_,rfl,a2,_,(np:Int),rfl,rfl,SqT.of e5,yhb _ _,by omega,by omega,npz,λp2 hp2=>?_⟩;refine laid hp2 λH6 S6 e6=>?_;refine⟨sz1,λa3 h3=>?_⟩;refine laid h3 λH7 S7 e7=>?_;refine⟨_,rfl,a3,_,(np:Int),rfl,rfl,SqT.of e7,yhb _ _,by omega,by omega,npz,λp3 hp3=>?_⟩;refine laid hp3 λH8 S8 e8=>?_;have S28:=S3.trans (S4.trans (S5.trans (S6.trans (S7.trans S8))));have e28:=S28 _ _ e2;refine⟨_,rfl,dl,rfl,⟨_,SqL.of e28⟩,?_⟩;refine ztd (xs:=dv) (λi ys H'=>Same H8 H'∧All2 (T1 H') ys (((ypb np).take i).map λp:Nat=>iM ((nums os (p:Int) os.length).drop 3))) (λi ys H' z=>SqL.of (z.1 _ _ e28)) ⟨Same.refl _,.nil⟩ ?_ ?_ ?_
 ·rintro i ys H' ⟨_,al⟩;have:=al.len;rw[yba,ygb,yrb] at this;exact small (by omega)
 ·rintro i v ys H' hv ⟨S,al⟩;have hi:i<np:=by rw[← dvl];exact (ysa.mp hv).1
  obtain⟨xs,hx,b,rfl,eb⟩:=al2.get hv;rw[yqa,yji hi] at hx;obtain rfl:=yjc hx;have eb':=(S28.trans S) _ _ eb;refine⟨rfl,_,rfl,_,rfl,b,_,rfl,SqT.of eb',λwh=>?_,λ_ c hc=>?_⟩
  ·have ew:=zfy wh;rw[zflb] at ew;rw[← ew] at eb';refine⟨S,?_⟩;rw[take_range _ hi];exact All2.snoc ⟨b,rfl,eb'⟩ al
  ·rw[zflb];refine laid hc λH9 S9 e9=>⟨S.trans S9,?_⟩;rw[take_range _ hi];exact All2.snoc ⟨c,rfl,e9⟩ (al.imp λz=>z.kp (Kp.same S9))
 rintro ds H9 ⟨S9,ald⟩ l9 hl9;rw[dvl,yla (by rw[yrb];exact yga _)] at ald;refine laid hl9 λH10 S10 e10=>?_;refine⟨l9,_,rfl,.inl ⟨SqL.of e10,λt3 ht3=>?_⟩⟩;refine laid ht3 λH11 S11 e11=>?_;have S811:=S9.trans (S10.trans S11);have S211:=S28.trans S811;have e211:=S811 _ _ e28;have ald11:All2 (T1 H11) ds ((ypb np).map λp:Nat=>iM ((nums os (p:Int) os.length).drop 3)):=ald.imp λz=>z.kp (Kp.same (S10.trans S11));refine⟨_,rfl,dl,rfl,⟨_,SqL.of e211⟩,?_⟩;refine ztd (xs:=dv) (λi ys H'=>Same H11 H'∧All2 (T1 H') ys (((ypb np).take i).map λp:Nat=>iM ((nums os (p:Int) os.length).take 3))) (λi ys H' z=>SqL.of (z.1 _ _ e211)) ⟨Same.refl _,.nil⟩ ?_ ?_ ?_
 ·rintro i ys H' ⟨_,al⟩;have:=al.len;rw[yba,ygb,yrb] at this;exact small (by omega)
 ·rintro i v ys H' hv ⟨S,al⟩;have hi:i<np:=by rw[← dvl];exact (ysa.mp hv).1
  obtain⟨xs,hx,b,rfl,eb⟩:=al2.get hv;rw[yqa,yji hi] at hx;obtain rfl:=yjc hx;have eb':=(S211.trans S) _ _ eb;refine⟨rfl,_,rfl,_,rfl,b,_,rfl,SqT.of eb',λwh=>?_,λ_ c hc=>?_⟩
  ·have ew:=zfy wh;rw[zglb] at ew;rw[← ew] at eb';refine⟨S,?_⟩;rw[take_range _ hi];exact All2.snoc ⟨b,rfl,eb'⟩ al
  ·rw[zglb];refine laid hc λH9 S9 e9=>⟨S.trans S9,?_⟩;rw[take_range _ hi];exact All2.snoc ⟨c,rfl,e9⟩ (al.imp λz=>z.kp (Kp.same S9))
 rintro hs H12 ⟨S12,alh⟩ l12 hl12;rw[dvl,yla (by rw[yrb];exact yga _)] at alh;refine laid hl12 λH13 S13 e13=>?_;refine⟨l12,_,rfl,.inl ⟨SqL.of e13,λt4 ht4=>?_⟩⟩;refine laid ht4 λH14 S14 e14=>?_;refine⟨sz0,λt5 ht5=>?_⟩;refine laid ht5 λH15 S15 e15=>?_;refine⟨sz0,λt6 ht6=>?_⟩;refine laid ht6 λH16 S16 e16=>?_;have S1116:=S12.trans (S13.trans (S14.trans (S15.trans S16)));have S16':=S02.trans (S211.trans S1116);have alh16:All2 (T1 H16) hs ((ypb np).map λp:Nat=>iM ((nums os (p:Int) os.length).take 3)):=alh.imp λz=>z.kp (Kp.same (S13.trans (S14.trans (S15.trans S16))));obtain⟨cvs,ec,alc⟩:=CD.same S16';have cl:=alc.len;refine⟨_,rfl,ca,rfl,⟨_,SqL.of ec⟩,?_⟩;refine ztd (xs:=cvs) (λi ys H'=>H'=H16∧All2 (T1 H') ys ((cms.take i).map sM)) (λi ys H' z=>by rw[z.1];exact SqL.of ec) ⟨rfl,.nil⟩ ?_ ?_ ?_
 ·rintro i ys H' ⟨_,al⟩;have:=al.len;rw[yba,ygb] at this;exact small (by omega)
 ·rintro i v ys H' hv ⟨rfl,al⟩;obtain⟨ms,hm,cd,dx,m,tt,nm,c,f,rfl,ecd,em⟩:=alc.get hv;refine⟨rfl,_,rfl,cd,_,dx,_,_,rfl,ecd,T.zgk,T.zpf,zjbb _ _ _ _ _,rfl,?_⟩;rw[ydb,hm,yub,yxa];exact All2.snoc ⟨m,rfl,em⟩ al
 rintro ms H17 ⟨rfl,alm⟩ l17 hl17;rw[cl,yla (yga _)] at alm;refine laid hl17 λH18 S18 e18=>?_;refine⟨l17,_,rfl,.inl ⟨SqL.of e18,λt7 ht7=>?_⟩⟩;refine laid ht7 λH19 S19 e19=>?_;refine⟨sz1,λa8 ha8=>?_⟩;refine laid ha8 λH20 S20 e20=>?_;have S1620:=S18.trans (S19.trans S20);refine⟨_,rfl,ca,_,rfl,.inl (SqL.of (S1620 _ _ ec)),a8,_,(cvs.length:Int),rfl,rfl,SqT.of e20,yhb _ _,by omega,by omega,?_,λt8 ht8=>?_⟩
 ·rw[yxb];exact small (by show 1*cvs.length≤1000;omega)
 refine laid ht8 λH21 S21 e21=>?_;refine⟨(by show 9≤ywa;decide),λt ht=>?_⟩;refine laid ht λH22 S22 e22=>?_;have S2122:=S21.trans S22;have S1622:=S1620.trans S2122;have S1122:=S1116.trans S1622;have S1422:=(S15.trans S16).trans S1622;have S822:=S811.trans S1122;rw[zdob,yxb] at e4 e6 e8 e21;refine q (.ref t) H22 (S16'.trans S1622) ⟨t,.ref p1,.ref p2,.ref p3,.ref t3,.ref t4,.ref t5,.ref t6,.ref t7,.ref t8,rfl,e22,?_⟩;exact {
  p0:=⟨p1,rfl,by rw[(S5.trans (S6.trans (S7.trans (S8.trans S822)))) _ _ e4];unfold iM tab0;rw[yag]⟩
  p1:=⟨p2,rfl,by rw[(S7.trans (S8.trans S822)) _ _ e6];unfold iM tab0;rw[yag]⟩
  p2:=⟨p3,rfl,by rw[S822 _ _ e8];unfold tab0;rw[yag]⟩
  p3:=⟨t3,ds,rfl,S1122 _ _ e11,by unfold tab0;rw[yyj];exact ald11.imp λz=>z.kp (Kp.same S1122)⟩
  p4:=⟨t4,hs,rfl,S1422 _ _ e14,by unfold tab0;rw[yyj];exact alh16.imp λz=>z.kp (Kp.same S1622)⟩
  p5:=⟨t5,rfl,(S16.trans S1622) _ _ e15⟩
  p6:=⟨t6,rfl,S1622 _ _ e16⟩
  p7:=⟨t7,ms,rfl,(S20.trans S2122) _ _ e19,alm.imp λz=>z.kp (Kp.same S1622)⟩
  p8:=⟨t8,rfl,by rw[S22 _ _ e21];unfold iM tab0;rw[yag,cl]⟩ }
theorem All2.app {α β:Type}{R:α->β->Prop}{as cs:List α}{bs ds:List β}(x:All2 R as bs)(y:All2 R cs ds):All2 R (as++cs) (bs++ds):=by
 induction x with
 | nil=>exact y
 | cons h _ ih=>exact .cons h ih
def own (dss:List (List Crd))(i:Nat):List Int:=(ypb i).flatMap λj:Nat=>ylb (dss.getD j []).length (j:Int)
theorem zdx (dss:List (List Crd))(i:Nat):own dss (i+1)=own dss i++ylb (dss.getD i []).length (i:Int):=by
 unfold own;rw[yrg,List.flatMap_append];simp
def cmsF (dss:List (List Crd)):List (List Str):=dss.flatten.map (·.marks)
def DtT (H:Hp)(v:V)(cs:List Crd):Prop:=∃d,v = .ref d∧H d=some (.lst (cs.map λc=>V.str c.text))∧1≤cs.length∧cs.length≤4∧∀c∈cs,c.ok∧zgpb c
def zbqb (B:Addr):Sp:=λvs H Q _=>Ex3 λa ds (dss:List (List Crd))=>vs=[.ref a]∧H a=some (.lst ds)∧All2 (DtT H) ds dss∧2≤dss.length∧dss.length≤4∧∀t ca oa tv H',Same H H'->H' t=some (.tup [.ref ca,.ref oa,tv])->CdsT B H' ca (cmsF dss)->TabT H' tv (tab0 (own dss dss.length) dss.length (cmsF dss))->Q (.ref t) H'
theorem zek {dss:List (List Crd)}(h:∀cs∈dss,1≤cs.length∧cs.length≤4):dss.length≤dss.flatten.length∧dss.flatten.length≤4*dss.length:=by
 induction dss with
 | nil=>exact⟨yga _,yga _⟩
 | cons cs r ih =>
  obtain⟨a,b⟩:=ih λx hx=>h x (yta _ hx);have c:=h cs yra;rw[ybc,yea,yja];omega
theorem zadb (dss:List (List Crd)):(own dss dss.length).length=dss.flatten.length:=by
 have z:∀i,i≤dss.length->(own dss i).length=(dss.take i).flatten.length:=by
  intro i
  induction i with
  | zero=>intro _;rfl
  | succ i ih =>
   intro h;have hi:i<dss.length:=h;rw[zdx,yea,ih (by omega),ygc,ydb,yma hi,yub,yec,yea,yza,yma hi];simp
 rw[z _ (yga _),yla (yga _)]
theorem zinb (T:Tx K mg)(kb:K.In base):FnOk P w K mg base CX0 10 T.ztm.f T.ztm.d zgeb (zbqb T.zid):=by
 refine T.ztm.ok zlo ?_;rintro f c A o s H vs Q E hr ⟨a,ds,dss,rfl,ea,al,d2,d4,q⟩ X;refine⟨_,  (zca (zoa (i:=1) zlo.nd rfl (.inl rfl) (zgd zba))
  (zca (zoa (i:=2) zlo.nd rfl (.inl rfl) (zgd zba))
  (zca (zlm yzd rfl (zlfb rfl T.zxh (zaa (pv 0) zba)) (zer (n:=2) rfl (zlc (zeb (i:=3) zlo.nd rfl (.inr rfl)) (zlc (zeb (i:=4) zlo.nd rfl (.inl rfl)) zbl)))
   (zca (zme (zdi yac ylm ymm zsab (pv 1) (zaa (zwc (own:=["text"]) (cap:=[]) rfl (zsb.chk rfl rfl) .nil (zag (pv 4)) (λ_ _ _ _=>(zeb (i:=0) (show yyc (["text"]:List Str) by decide +kernel) rfl (.inl rfl))) (λ_ _ _ _=>zle) (λ_ _ _ _=>by exact (zga (zdab T kb) hr rfl T.zaf.m T.zaf.F.kp (zudb T) .nil zpa (zaa (pv 0) zba)))) zba)))
   (zea (zme (zdi yac ylm ymm zsab (pv 2) (zaa (zwc (own:=["text"]) (cap:=["player"]) rfl (zsb.chk rfl rfl) (.cons (j:=3) rfl (.inl rfl) (.inl rfl) .nil) (zag (pv 4)) (λ_ _ _ _=>(zeb (i:=0) (show yyc (["text","player"]:List Str) by decide +kernel) rfl (.inl rfl))) (λ_ _ _ _=>zle) (λ_ _ _ _=>by exact (pv 1))) zba))))))
  (zca (zvb (zal (zkfb zehb zehb (znb (v:=.int 2) rfl T.zwe ⟨_,rfl⟩) (zza zwa rfl T.zre yjb (zaa (pv 0) zba)) (znb (v:=.int 4) rfl T.zug ⟨_,rfl⟩)))
   (zea zxd)
   zva)
  (zca (zvb (zna zkt (zza zwa rfl T.zre yjb (zaa (pv 1) zba)) (znb (v:=.int 16) rfl T.zfj ⟨_,rfl⟩) (zgb _))
   (zea zxd)
   zva)
  (zca (zvb (zna zkt (zza (zky rfl) rfl T.zbib boot_sum (zaa (zwc (own:=["card"]) (cap:=[]) rfl (zsb.chk rfl rfl) .nil (zag (pv 1)) (λ_ _ _ _=>(zeb (i:=0) (show yyc (["card"]:List Str) by decide +kernel) rfl (.inl rfl))) (λ_ _ _ _=>zle) (λ_ _ _ _=>by exact (zga (zkx T).up hr rfl T.zde.m T.zde.F.kp (zxbb T) .nil zpa (zaa (pv 0) zba)))) zba)) (znb (v:=.int 8) rfl T.zej ⟨_,rfl⟩) (zgb _))
   (zea zxd)
   zva)
  (zea (zta (ztb (zaa (pv 1) (zaa (pv 2) (zaa (zga (zxu T).up hr rfl T.znd.m T.znd.F.kp (zqy T) .nil zpa (zaa (pv 1) (zaa (pv 2) (zaa (zza zwa rfl T.zre yjb (zaa (pv 0) zba)) zba)))) zba)))))))))))),?_⟩
 have dl:=al.len;have dz:∀cs∈dss,1≤cs.length∧cs.length≤4:=λcs hc=>by
  obtain⟨v,_,⟨d,_,_,h1,h2,_⟩⟩:=al.mem2 hc;exact⟨h1,h2⟩
 have fl:=zek dz;refine⟨sz0,λca hca=>?_⟩;refine laid hca λH1 S1 e1=>?_;refine⟨sz0,λoa hoa=>?_⟩;have nco:ca≠oa:=zka e1 hoa;have hoa0:H oa=none:=none_of S1 hoa;refine laid hoa λH2 S2 e2=>?_;have S02:=S1.trans S2;refine⟨_,rfl,a,_,rfl,SqL.of (S02 _ _ ea),?_⟩;refine zqkb (xs:=ds) (λi σ Hx=>Ex3 λcvs o3 o4=>σ=[some (.ref a),some (.ref ca),some (.ref oa),o3,o4]∧Same H Hx∧Hx ca=some (.lst cvs)∧All2 (CkT T.zid Hx) cvs ((dss.take i).flatten.map (·.marks))∧Hx oa=some (.lst (iM (own dss i)))∧i≤dss.length) ⟨[],_,_,rfl,S02,S2 _ _ e1,.nil,e2,yqb _⟩ (λi σ Hx _ ⟨cvs,o3,o4,_,S,_⟩=>SqL.of (S _ _ ea)) ?_ ?_
 ·rintro i v σ Hx pp hv ⟨cvs,o3,o4,rfl,S,ec,alc,eo,_⟩ hp;obtain⟨cs,hcs,d,rfl,ed,c1,c4,cok⟩:=al.get hv;have hi:i<dss.length:=(ysa.mp hcs).1;refine laid hp λH3 S3 e3=>?_;refine⟨pp,_,rfl,SqT.of e3,rfl,_,_,rfl,_,_,rfl,rfl,?_⟩;have S03:=S.trans S3;have ed3:=S03 _ _ ed;refine⟨_,rfl,.inl ⟨rfl,_,SqL.of (S3 _ _ ec)⟩,_,rfl,d,rfl,⟨_,SqL.of ed3⟩,?_⟩;refine ztd (xs:=cs.map λc=>V.str c.text) (λj ys H'=>Same H3 H'∧All2 (CkT T.zid H') ys ((cs.take j).map (·.marks))) (λj ys H' z=>SqL.of (z.1 _ _ ed3)) ⟨Same.refl _,.nil⟩ ?_ ?_ ?_
  ·rintro j ys H' ⟨_,al'⟩;have:=al'.len;rw[yba,ygb] at this;exact small (by omega)
  ·rintro j u ys H' hu ⟨S',al'⟩;rw[yqa] at hu;obtain⟨c,hc,rfl⟩:=ywd.mp hu;obtain⟨ck,nh⟩:=cok c (ybb hc);refine⟨rfl,_,rfl,c,rfl,ck,λcv H'' S'' ic=>⟨S'.trans S'',?_⟩⟩;rw[ydb,hc,yub,yxa];exact All2.snoc (CkT.of ic nh) (al'.imp λz=>z.kp (Kp.same S''))
  rintro ys H4 ⟨S4,aly⟩ l4 hl4;rw[yba,yla (yga _)] at aly;refine laid hl4 λH5 S5 e5=>?_;have S35:=S4.trans S5;have ec5:=(S3.trans S35) _ _ ec;have yl:=aly.len;rw[yba] at yl;have cl:=alc.len;have tf:(dss.take i).flatten.length≤dss.flatten.length:=by
   have e:dss.flatten=(dss.take i).flatten++(dss.drop i).flatten:=(by rw[← yec,yqh]);rw[e,yea];exact ygn _ _
  rw[yba] at cl;refine⟨ca,l4,_,_,rfl,rfl,ec5,e5,small (by omega),?_⟩;have S05:=S03.trans S35;have ndc:d≠ca:=zka ed hca;have S06:Same H (upd H5 ca (.lst (cvs++ys))):=zui S05 hca _;have ec6:upd H5 ca (.lst (cvs++ys)) ca=some (.lst (cvs++ys)):=zia;have eo6:upd H5 ca (.lst (cvs++ys)) oa=some (.lst (iM (own dss i))):=by
   rw[zdb (ywc nco)];exact (S3.trans S35) _ _ eo
  have kp6:Kp H5 (upd H5 ca (.lst (cvs++ys))):=Kp.put ec5;have alc6:All2 (CkT T.zid (upd H5 ca (.lst (cvs++ys)))) (cvs++ys) ((dss.take (i+1)).flatten.map (·.marks)):=by
   have z1:All2 (CkT T.zid (upd H5 ca (.lst (cvs++ys)))) cvs ((dss.take i).flatten.map (·.marks)):=alc.imp λz=>z.kp ((Kp.same (S3.trans S35)).trans kp6);have z2:All2 (CkT T.zid (upd H5 ca (.lst (cvs++ys)))) ys (cs.map (·.marks)):=aly.imp λz=>z.kp ((Kp.same S5).trans kp6);rw[ydb,hcs,yub,yec,yxa,ybc,yfi,yfc];exact All2.app z1 z2
  generalize upd H5 ca (.lst (cvs++ys))=H6 at *;have ed6:=S06 _ _ ed;refine⟨_,rfl,.inl ⟨rfl,_,SqL.of eo6⟩,_,rfl,d,rfl,⟨_,SqL.of ed6⟩,?_⟩;refine ztd (xs:=cs.map λc=>V.str c.text) (λj ys H'=>H'=H6∧ys=ylb j (V.int (i:Int))∧j≤4) (λj ys H' z=>by rw[z.1];exact SqL.of ed6) ⟨rfl,rfl,by decide⟩ ?_ ?_ ?_
  ·rintro j ys H' ⟨_,rfl,hj⟩;rw[ygc];exact small (by omega)
  ·rintro j u ys H' hu ⟨rfl,rfl,_⟩;have hj:j<cs.length:=by
    have:=(ysa.mp hu).1;rw[yba] at this;exact this
   exact⟨rfl,_,rfl,rfl,by rw[yso],by omega⟩
  rintro zs H7 ⟨rfl,rfl,_⟩ l7 hl7;rw[yba];refine laid hl7 λH8 S8 e8=>?_;have ol:(own dss i).length≤16:=by
   have z:own dss dss.length=own dss i++(own dss dss.length).drop (own dss i).length:=by
    have:∀k,∃r,own dss (i+k)=own dss i++r:=by
     intro k
     induction k with
     | zero=>exact⟨[],by rw[yfc];rfl⟩
     | succ k ih =>
      obtain⟨r,e⟩:=ih;exact⟨r++_,by rw[← Nat.add_assoc,zdx,e,ydd]⟩
    obtain⟨r,e⟩:=this (dss.length-i);rw[show i+(dss.length-i)=dss.length by omega] at e;rw[e,yuj]
   have y:=zadb dss;have:=congrArg yvg z;rw[yea,y] at this;omega
  have eo8:=S8 _ _ eo6;refine⟨oa,l7,_,_,rfl,rfl,eo8,e8,?_,?_⟩
  ·unfold iM;rw[yba,ygc];exact small (by omega)
  have S08:=S06.trans S8;refine⟨cvs++ys,_,_,rfl,zui S08 hoa0 _,by rw[zdb nco];exact S8 _ _ ec6,alc6.imp λz=>z.kp ((Kp.same S8).trans (Kp.put eo8)),?_,hi⟩;rw[zia,zdx,yza,hcs];unfold iM;rw[yxa,yag];rfl
 ·rintro σ Hx ⟨cvs,o3,o4,rfl,S,ec,alc,eo,_⟩;rw[dl,yla (yga _)] at alc;rw[dl] at eo;have cl:=alc.len;rw[yba] at cl;have eax:=S _ _ ea;refine⟨_,rfl,a,_,rfl,.inl (SqL.of eax),_,_,rfl,rfl,_,rfl,ite2 (λ_=>?_) (λc=>absurd (decide_eq_true (by omega)) c)⟩;refine⟨_,_,rfl,rfl,_,rfl,ite2 (λc=>?_) (λ_=>?_)⟩
  ·exfalso;have c':(!decide ((ds.length:Int)≤4))=true:=c;rw[decide_eq_true (by omega)] at c';cases c'
  refine⟨_,rfl,ca,_,rfl,.inl (SqL.of ec),_,_,rfl,rfl,_,rfl,ite2 (λc=>?_) (λ_=>?_)⟩
  ·have c':=of_decide_eq_true c;omega
  refine⟨_,rfl,ca,rfl,⟨_,SqL.of ec⟩,?_⟩;refine ztd (xs:=cvs) (λj ys H'=>Same Hx H'∧ys=ylb j (V.int 0)∧j≤cvs.length) (λj ys H' z=>SqL.of (z.1 _ _ ec)) ⟨Same.refl _,rfl,yqb _⟩ ?_ ?_ ?_
  ·rintro j ys H' ⟨_,rfl,hj⟩;rw[ygc];exact small (by omega)
  ·rintro j v ys H' hv ⟨S',rfl,_⟩;obtain⟨ms,hm,ck⟩:=alc.get hv;refine⟨rfl,_,rfl,v,ms,rfl,ck.kp (Kp.same S'),λH'' S''=>⟨S'.trans S'',by rw[yso],(ysa.mp hv).1⟩⟩
  rintro zs H3 ⟨S3,rfl,_⟩ l3 hl3;refine laid hl3 λH4 S4 e4=>?_;have S34:=S3.trans S4;have e4':H4 l3=some (.lst ((ylb cvs.length (0:Int)).map V.int)):=by rw[e4,yag]
  have s0:∀n:Nat,(ylb n (0:Int)).sum=0:=λn=>by
   induction n with
   | zero=>rfl
   | succ n ih=>rw[yce,yae,ih];rfl
  refine⟨l3,_,rfl,SqL.of e4',_,_,rfl,rfl,_,rfl,ite2 (λc=>?_) (λ_=>?_)⟩
  ·have c':=of_decide_eq_true c;rw[s0] at c';omega
  have CD:CdsT T.zid H4 ca (cmsF dss):=⟨cvs,S34 _ _ ec,alc.imp λz=>(z.kp (Kp.same S34)).cm⟩;have cml:(cmsF dss).length=dss.flatten.length:=by unfold cmsF;rw[yba]
  refine⟨_,rfl,_,rfl,_,rfl,_,rfl,_,rfl,a,_,rfl,.inl (SqL.of (S34 _ _ eax)),ca,oa,dss.length,own dss dss.length,cmsF dss,(by show [V.ref ca,V.ref oa,V.int (ds.length:Int)]=_;rw[dl]),CD,S34 _ _ eo,by rw[zadb];omega,d2,d4,by omega,by omega,λtv H5 S5 TT=>⟨sz3,λt ht=>?_⟩⟩;refine laid ht λH6 S6 e6=>?_;have S56:=S5.trans S6;exact q t ca oa tv H6 (S.trans (S34.trans S56)) e6 (CD.same S56) (TT.kp (Kp.same S6))
theorem zux {n j:Nat}(h:j<n):ixN n (j:Int)=some j:=by
 unfold ixN;rw[if_pos (by omega),if_pos (by omega),yxb]
def zupb:Sp:=λvs H Q _=>Ex5 λtv (t:Tab) (p:Nat) (n:Int) (h:List Int)=>vs=[tv,.int (p:Int),.int n]∧TabT H tv t∧t.hands.length≤4∧t.hands[p]?=some h∧h.length≤16∧∀v' H',Same H H'->TabT H' v' { t with hands:=t.hands.set p (h.filter λx=>!decide (x=n)) }->Q v' H'
def zmmb:Sp:=λvs H Q _=>Ex3 λtv (t:Tab) (p:Nat)=>vs=[tv,.int (p:Int)]∧TabT H tv t∧t.gone.length≤4∧p<t.gone.length∧∀v' H',Same H H'->TabT H' v' { t with gone:=t.gone.set p true }->Q v' H'
theorem zvp (T:Tx K mg):FnOk P w K mg base CX0 2 T.zpc.f T.zpc.d zrh zupb:=by
 refine T.zpc.ok zoj ?_;rintro f c A o s H vs Q E hr ⟨tv,t,p,n,h,rfl,TT,h4,hh,h16,q⟩ X;obtain⟨a,v0,v1,v2,v3,v4,v5,v6,v7,v8,rfl,ea,TP⟩:=TT;obtain⟨b4,u4,rfl,e4,al4⟩:=TP.p4;obtain⟨_,ehv,hb,rfl,ehb⟩:=al4.get2 (b:=iM h) (by rw[yqa,hh];rfl);have ul:=al4.len;rw[yba] at ul;have hp:p<u4.length:=(ysa.mp ehv).1;refine⟨_,  (zca (zoa (i:=3) zoj.nd rfl (.inl rfl) (zya zxb rfl T.zeg yzf (zaa (zbb zab (pv 0) zfa (λ_ _=>rfl)) zba)))
  (zca (znm (zya zrb rfl T.zkd yqe (zaa (zwc (own:=["_law_one"]) (cap:=["_law_number"]) rfl (zsb.chk rfl rfl) (.cons (j:=2) rfl (.inl rfl) (.inl rfl) .nil) (ztz (zbb znc (pv 3) (pv 1) (λ_ _=>rfl))) (λ_ _ _ _=>(zeb (i:=0) (show yyc (["_law_one","_law_number"]:List Str) by decide +kernel) rfl (.inl rfl))) (λ_ _ _ _=>zsp (zna zqjb (pv 0) (pv 1) (zgb _))) (λ_ _ _ _=>by exact (pv 0))) zba)) (zuz (pv 3) (pv 1) set_list))
  (zea (zta (zqb zvm (zqb zvm (zcd zqq (pv 0) zqe (zpe zfa)) (ztb (zaa (zya zrb rfl T.zkd yqe (zaa (pv 3) zba)) zba))) (zcd zqq (pv 0) (zpe zfa) zqe)))))),?_⟩
 refine⟨_,rfl,a,_,_,_,rfl,rfl,SqT.of ea,zra (j:=4) rfl,b4,_,rfl,.inr (SqT.of e4),λl hl=>?_⟩;refine laid hl λH1 S1 e1=>?_;refine⟨_,rfl,_,rfl,l,_,_,_,rfl,rfl,SqL.of e1,zra ehv,hb,rfl,⟨_,SqT.of (S1 _ _ ehb)⟩,?_⟩;refine zcs (xs:=iM h) (λj ys H'=>H'=H1∧ys=iM ((h.take j).filter λx=>!decide (x=n))) (λj ys H' z=>by rw[z.1];exact SqT.of (S1 _ _ ehb)) ⟨rfl,rfl⟩ ?_ ?_ ?_
 ·rintro j ys H' ⟨_,rfl⟩;unfold iM;rw[yba];have h1:=yph (λx=>!decide (x=n)) (h.take j);rw[ygb] at h1;exact small (by omega)
 ·rintro j v ys H' hv ⟨rfl,rfl⟩;unfold iM at hv;rw[yqa] at hv;obtain⟨x,hx,rfl⟩:=ywd.mp hv;have ed:decide (V.int x=V.int n)=decide (x=n):=decide_eq_decide.mpr ⟨λz=>by injection z,λz=>by rw[z]⟩;refine⟨rfl,_,rfl,_,rfl,rfl,_,rfl,?_⟩;rw[ydb,hx,yub,yql];refine ite2 (λc=>?_) (λc=>?_)
  ·have c':(!decide (x=n))=true:=by rw[← ed];exact c
   refine⟨_,rfl,rfl,?_⟩;rw[ydh (p:=λx=>!decide (x=n)) c'];unfold iM;rw[yxa];rfl
  ·have c':¬ (!decide (x=n))=true:=by rw[← ed];exact c
   refine⟨rfl,?_⟩;rw[yeh (p:=λx=>!decide (x=n)) c',List.filter_nil,yfc]
 rintro ys H' ⟨rfl,rfl⟩ l2 hl2;rw[show (iM h).length=h.length by unfold iM;rw[yba],yla (yga _)];refine laid hl2 λH2 S2 e2=>?_;refine⟨l2,_,rfl,.inl ⟨SqL.of e2,λtm htm=>?_⟩⟩;refine laid htm λH3 S3 e3=>?_;have S13:=S2.trans S3;have e13:=S13 _ _ e1;refine⟨_,rfl,_,rfl,l,_,(p:Int),p,rfl,rfl,e13,zux hp,?_⟩;have S04:Same H (upd H3 l (.lst (u4.set p (.ref tm)))):=zui (S1.trans S13) hl _;have el:upd H3 l (.lst (u4.set p (.ref tm))) l=some (.lst (u4.set p (.ref tm))):=zia;have em:upd H3 l (.lst (u4.set p (.ref tm))) tm=some (.tup (iM (h.filter λx=>!decide (x=n)))):=(Kp.put e13).t e3;generalize upd H3 l (.lst (u4.set p (.ref tm)))=H4 at *;have ea4:=S04 _ _ ea;refine⟨_,rfl,_,rfl,a,_,rfl,SqT.of ea4,(by show ¬ (HT.sIx 9 0 none=0∧HT.sIx 9 9 (some 4)=9);decide),λp1 hp1=>?_⟩;refine laid hp1 λH5 S5 e5=>?_;refine⟨_,rfl,l,_,rfl,.inl ⟨SqL.of (S5 _ _ el),λt4 ht4=>?_⟩⟩;refine laid ht4 λH6 S6 e6=>?_;refine⟨sz1,λt5 ht5=>?_⟩;refine laid ht5 λH7 S7 e7=>?_;have e57:H7 p1=some (.tup [v0,v1,v2,v3]):=(S6.trans S7) _ _ e5;refine⟨p1,t5,_,_,rfl,rfl,SqT.of e57,SqT.of e7,yhb _ _,sz5,(λe=>by cases e),λ_ p2 hp2=>?_⟩;refine laid hp2 λH8 S8 e8=>?_;have S48:=S5.trans (S6.trans (S7.trans S8));refine⟨_,rfl,_,rfl,a,_,rfl,SqT.of (S48 _ _ ea4),(by show ¬ (HT.sIx 9 0 (some 5)=0∧HT.sIx 9 9 none=9);decide),λp3 hp3=>?_⟩;refine laid hp3 λH9 S9 e9=>?_;have e9':H9 p3=some (.tup [v5,v6,v7,v8]):=e9;refine⟨p2,p3,_,_,rfl,rfl,SqT.of (S9 _ _ e8),SqT.of e9',yhb _ _,(by show 9≤ywa;decide),(λe=>by cases e),λ_ p4 hp4=>?_⟩;refine laid hp4 λH10 S10 e10=>?_;have S610:=S7.trans (S8.trans (S9.trans S10));have S410:=S48.trans (S9.trans S10);have k10:=Kp.same (S04.trans S410);have TP10:=TP.kp k10;refine q (.ref p4) H10 (S04.trans S410) ⟨p4,v0,v1,v2,v3,.ref t4,v5,v6,v7,v8,rfl,e10,?_⟩;refine { TP10 with p4:=⟨t4,_,rfl,S610 _ _ e6,?_⟩ };rw[ywe];exact (al4.imp λz=>z.kp k10).set ⟨tm,rfl,S410 _ _ em⟩ p
theorem zjab (T:Tx K mg):FnOk P w K mg base CX0 2 T.zef.f T.zef.d zsn zmmb:=by
 refine T.zef.ok zuq ?_;rintro f c A o s H vs Q E hr ⟨tv,t,p,rfl,TT,h4,hp,q⟩ X;obtain⟨a,v0,v1,v2,v3,v4,v5,v6,v7,v8,rfl,ea,TP⟩:=TT;obtain⟨b2,rfl,e2⟩:=TP.p2;refine⟨_,  (zca (zoa (i:=2) zuq.nd rfl (.inl rfl) (zya zxb rfl T.zeg yzf (zaa (zbb zab (pv 0) zfa (λ_ _=>rfl)) zba)))
  (zca (znm zjt (zuz (pv 2) (pv 1) set_list))
  (zea (zta (zqb zvm (zqb zvm (zcd zqq (pv 0) zqe (zpe zfa)) (ztb (zaa (zya zrb rfl T.zkd yqe (zaa (pv 2) zba)) zba))) (zcd zqq (pv 0) (zpe zfa) zqe)))))),?_⟩
 refine⟨_,rfl,a,_,_,_,rfl,rfl,SqT.of ea,zra (j:=2) rfl,b2,_,rfl,.inr (SqT.of e2),λl hl=>?_⟩;refine laid hl λH1 S1 e1=>?_;refine⟨_,rfl,_,rfl,l,_,(p:Int),p,rfl,rfl,e1,zux (by rw[yba];exact hp),?_⟩;have S04:Same H (upd H1 l (.lst ((t.gone.map V.bl).set p (.bl true)))):=zui S1 hl _;have el:upd H1 l (.lst ((t.gone.map V.bl).set p (.bl true))) l=some (.lst ((t.gone.map V.bl).set p (.bl true))):=zia;generalize upd H1 l (.lst ((t.gone.map V.bl).set p (.bl true)))=H4 at *;have ea4:=S04 _ _ ea;refine⟨_,rfl,_,rfl,a,_,rfl,SqT.of ea4,(by show ¬ (HT.sIx 9 0 none=0∧HT.sIx 9 9 (some 2)=9);decide),λp1 hp1=>?_⟩;refine laid hp1 λH5 S5 e5=>?_;refine⟨_,rfl,l,_,rfl,.inl ⟨SqL.of (S5 _ _ el),λt4 ht4=>?_⟩⟩;refine laid ht4 λH6 S6 e6=>?_;refine⟨sz1,λt5 ht5=>?_⟩;refine laid ht5 λH7 S7 e7=>?_;have e57:H7 p1=some (.tup [v0,v1]):=(S6.trans S7) _ _ e5;refine⟨p1,t5,_,_,rfl,rfl,SqT.of e57,SqT.of e7,yhb _ _,sz3,(λe=>by cases e),λ_ p2 hp2=>?_⟩;refine laid hp2 λH8 S8 e8=>?_;have S48:=S5.trans (S6.trans (S7.trans S8));refine⟨_,rfl,_,rfl,a,_,rfl,SqT.of (S48 _ _ ea4),(by show ¬ (HT.sIx 9 0 (some 3)=0∧HT.sIx 9 9 none=9);decide),λp3 hp3=>?_⟩;refine laid hp3 λH9 S9 e9=>?_;have e9':H9 p3=some (.tup [v3,v4,v5,v6,v7,v8]):=e9;refine⟨p2,p3,_,_,rfl,rfl,SqT.of (S9 _ _ e8),SqT.of e9',yhb _ _,(by show 9≤ywa;decide),(λe=>by cases e),λ_ p4 hp4=>?_⟩;refine laid hp4 λH10 S10 e10=>?_;have S610:=S7.trans (S8.trans (S9.trans S10));have S410:=S48.trans (S9.trans S10);have TP10:=TP.kp (Kp.same (S04.trans S410));refine q (.ref p4) H10 (S04.trans S410) ⟨p4,v0,v1,.ref t4,v3,v4,v5,v6,v7,v8,rfl,e10,?_⟩;exact { TP10 with p2:=⟨t4,rfl,by rw[S610 _ _ e6,ywe]⟩ }
inductive CnR (t:Tab):Str->Int->V->List Int->List Int->Prop where
 | lose {p:Nat} {x z:Int}:t.gone[p]?=some false->t.pts[p]?=some x->CnR t "lose" (-1-(p:Int)) (.int z) (t.pts.set p (x-z)) t.scs
 | score {p:Nat} {x z:Int}:t.gone[p]?=some false->t.scs[p]?=some x->CnR t "score" (-1-(p:Int)) (.int z) t.pts (t.scs.set p (x+z))
 | gone {kd:Str} {p:Nat} {av:V}:t.gone[p]?=some true->CnR t kd (-1-(p:Int)) av t.pts t.scs
 | other {kd:Str} {th:Int} {av:V}:kd ≠ "lose"->kd ≠ "score"->CnR t kd th av t.pts t.scs
theorem zvvb:∀kd∈zge,inV (.str kd) [.str "lose",.str "score"]=decide (kd∈(["lose","score"]:List Str)):=by decide +kernel
def But2 (p q:Addr)(H H':Hp):Prop:=∀a o,a≠p->a≠q->H a=some o->H' a=some o
theorem But2.same {p q:Addr}{H H':Hp}(s:Same H H'):But2 p q H H':=λa o _ _ h=>s a o h
theorem But2.trans {p q:Addr}{H H1 H2:Hp}(x:But2 p q H H1)(y:But2 p q H1 H2):But2 p q H H2:=λa o n m h=>y a o n m (x a o n m h)
def zzpb:Sp:=λvs H Q _=>Ex10 λtv ha pl sl (t:Tab) (np nc:Nat) (kd:Str) (th:Int) av=>vs=[tv,.ref ha,.ref pl,.ref sl]∧TabT H tv t∧TOk np nc t∧H ha=some (.tup [.str kd,.int th,av])∧H pl=some (.lst (iM t.pts))∧H sl=some (.lst (iM t.scs))∧pl≠sl∧kd∈zge∧(kd∈(["lose","score"]:List Str)->Ex2 λ(p:Nat) (z:Int)=>p<np∧th = -1-(p:Int)∧av = .int z)∧∀(ps ss:List Int) H',But2 pl sl H H'->H' pl=some (.lst (iM ps))->H' sl=some (.lst (iM ss))->CnR t kd th av ps ss->Q .non H'
theorem znt (T:Tx K mg):FnOk P w K mg base CX0 2 T.zbd.f T.zbd.d zlj zzpb:=by
 refine T.zbd.ok zyf ?_;rintro f c A o s H vs Q E hr ⟨tv,ha,pl,sl,t,np,nc,kd,th,av,rfl,TT,TO,eh,ep,es,nps,hk,hpl,q⟩ X;obtain⟨a,v0,v1,v2,v3,v4,v5,v6,v7,v8,rfl,ea,TP⟩:=TT;obtain⟨b,rfl,eb⟩:=TP.p2;refine⟨_,  (zca (znm (pv 1) (zer (n:=3) rfl (zlc (zeb (i:=4) zyf.nd rfl (.inl rfl)) (zlc (zeb (i:=5) zyf.nd rfl (.inl rfl)) (zlc (zeb (i:=6) zyf.nd rfl (.inl rfl)) zbl)))))
  (zea (zvb (PW.pt (zrv (zna zte (pv 4) (ztb (zaa zma (zaa zma zba))) rfl) (zqp (zal (zkm (zbb zab (zbb zab (pv 0) zfa (λ_ _=>rfl)) (zqb zah (zbx zdo zfa) (pv 5)) (λ_ _=>rfl)))))))
   (zea (zvb (zna zne (pv 4) zma (zgb _))
    (zea (znm (zqb zah (zbb znc (pv 2) (zqb zah (zbx zdo zfa) (pv 5)) (λ_ _=>rfl)) (pv 6)) (zuz (pv 2) (zqb zah (zbx zdo zfa) (pv 5)) set_list)))
    (zea (znm (zqb zbh (zbb znc (pv 3) (zqb zah (zbx zdo zfa) (pv 5)) (λ_ _=>rfl)) (pv 6)) (zuz (pv 3) (zqb zah (zbx zdo zfa) (pv 5)) set_list)))))
   zva))),?_⟩
 refine⟨_,rfl,ha,_,rfl,SqT.of eh,rfl,_,_,rfl,_,_,rfl,_,_,rfl,rfl,?_⟩;refine⟨_,rfl,sz2,λq1 hq1=>?_⟩;refine laid hq1 λH1 S1 e1=>?_;refine⟨q1,_,rfl,.inr (SqT.of e1),rfl,rfl,_,rfl,?_⟩;rw[zvvb kd hk];refine ite2 (λc=>?_) (λc=>iteF ?_)
 ·have c':=of_decide_eq_true c;obtain⟨p,z,hp,rfl,rfl⟩:=hpl c';have e0:(-(1:Int)-(-1-(p:Int)))=(p:Int):=by omega
  have pg:p<t.gone.length:=by rw[TO.gone];exact hp
  have eg:(t.gone.map V.bl)[p]?=some (.bl t.gone[p]):=by rw[yqa,yma pg];rfl
  refine⟨_,rfl,a,_,_,_,rfl,rfl,SqT.of (S1 _ _ ea),zra (j:=2) rfl,_,rfl,_,rfl,_,_,rfl,rfl,b,_,_,_,rfl,rfl,SqT.of (S1 _ _ eb),(by show atI (t.gone.map V.bl) (-(1:Int)-(-1-(p:Int)))=_;rw[e0];exact zra eg),_,rfl,?_⟩;refine ite2 (λg=>?_) (λg=>?_)
  ·have g0:t.gone[p]?=some false:=by
    rw[yma pg]
    congr 1
    simpa using g
   simp only[yka,ybe,or_false] at c'
   rcases c' with rfl|rfl
   ·obtain⟨x,hx⟩:=getx (xs:=t.pts) (by rw[TO.pts];exact hp);have hpp:p<(iM t.pts).length:=(by unfold iM;rw[yba,TO.pts];exact hp);refine⟨_,rfl,rfl,_,rfl,iteT ?_⟩;refine⟨_,rfl,_,rfl,_,rfl,_,_,rfl,rfl,pl,_,_,_,rfl,rfl,SqL.of (S1 _ _ ep),(by show atI (iM t.pts) (-(1:Int)-(-1-(p:Int)))=_;rw[e0];exact ziu hx),_,rfl,_,_,rfl,rfl,?_⟩;refine⟨_,rfl,_,rfl,_,rfl,_,_,rfl,rfl,pl,_,_,p,rfl,rfl,S1 _ _ ep,(by show ixN (iM t.pts).length (-(1:Int)-(-1-(p:Int)))=_;rw[e0];exact zux hpp),?_⟩;refine q (t.pts.set p (x-z)) t.scs _ (λb o n1 n2 hb=>by rw[zdb n1];exact S1 _ _ hb) ?_ (by rw[zdb (ywc nps)];exact S1 _ _ es) (.lose g0 hx);rw[zia];unfold iM;rw[ywe]
   ·obtain⟨x,hx⟩:=getx (xs:=t.scs) (by rw[TO.scs];exact hp);have hpp:p<(iM t.scs).length:=(by unfold iM;rw[yba,TO.scs];exact hp);refine⟨_,rfl,rfl,_,rfl,iteF ?_⟩;refine⟨_,rfl,_,rfl,_,rfl,_,_,rfl,rfl,sl,_,_,_,rfl,rfl,SqL.of (S1 _ _ es),(by show atI (iM t.scs) (-(1:Int)-(-1-(p:Int)))=_;rw[e0];exact ziu hx),_,rfl,_,_,rfl,rfl,?_⟩;refine⟨_,rfl,_,rfl,_,rfl,_,_,rfl,rfl,sl,_,_,p,rfl,rfl,S1 _ _ es,(by show ixN (iM t.scs).length (-(1:Int)-(-1-(p:Int)))=_;rw[e0];exact zux hpp),?_⟩;refine q t.pts (t.scs.set p (x+z)) _ (λb o n1 n2 hb=>by rw[zdb n2];exact S1 _ _ hb) (by rw[zdb nps];exact S1 _ _ ep) ?_ (.score g0 hx);rw[zia];unfold iM;rw[ywe]
  ·have g1:t.gone[p]?=some true:=by
    rw[yma pg]
    congr 1
    simpa using g
   exact q t.pts t.scs H1 (But2.same S1) (S1 _ _ ep) (S1 _ _ es) (.gone g1)
 ·have c':kd∉(["lose","score"]:List Str):=λz=>c (decide_eq_true z);refine q t.pts t.scs H1 (But2.same S1) (S1 _ _ ep) (S1 _ _ es) (.other (λz=>c' (by rw[z];decide +kernel)) (λz=>c' (by rw[z];decide +kernel)))
theorem zgi {K:yda}{H:Hp}(c:List Int):DVs K H (c.map V.int) (c.map PyData.int):=by
 induction c with
 | nil=>exact .nil
 | cons i r ih=>exact .cons (.int i) ih
def chD (c:List Int):PyData:=.tuple (c.map .int)
theorem lay_ints (c:List Int):yqg (c.map .int)=true∧yoh (c.map .int)=0:=by
 induction c with
 | nil=>exact⟨rfl,rfl⟩
 | cons i r ih=>exact⟨by simp[yqg,ydf,ih.1],by simp[yoh,ypi,ih.2]⟩
theorem zep (c:List Int):yke (chD c)=true:=by
 obtain⟨h1,h2⟩:=lay_ints c;unfold yke chD;rw[ydf,h1,ypi,h2];rfl
theorem zby:∀(c d:List Int),yaf (c.map .int) (d.map .int)=decide (c=d)
 | [],[]=>by simp[yaf]
 | [],_::_=>by simp[yaf]
 | _::_,[]=>by simp[yaf]
 | x::c,y::d=>by
  simp only[yib,yaf,zby c d]
  by_cases e:x=y
  ·by_cases e2:c=d<;>simp[yig,e,e2]
  ·simp[yig,e]
theorem zxob (c d:List Int):yig (chD c) (chD d)=decide (c=d):=by
 unfold chD;rw[yig];exact zby c d
def nine:List Str:=["come","come","leave","hurt","gain","lack","lose","score","draw"]
inductive NxR (np nc:Nat)(os:List Int):Str->Int->V->List Int->Prop where
 | pl {kd:Str} {p:Nat} {z:Int}:kd∈zqc->p<np->0≤z->NxR np nc os kd (-1-(p:Int)) (.int z) os
 | come {i:Nat} {n:Int}:os[i]?=some n->NxR np nc os "come" n (.int 0) (os.eraseIdx i)
 | leave {n:Int}:0≤n->n<nc->NxR np nc os "leave" n (.int 0) os
 | hurt {n z:Int}:0≤n->n<nc->NxR np nc os "hurt" n (.int z) os
 | mark {kd u:Str} {n:Int}:kd∈(["gain","lack"]:List Str)->zud u->0≤n->n<nc->NxR np nc os kd n (.str u) os
theorem n_pl:∀kd∈nine,inV (.str kd) [.str "lose",.str "score",.str "draw"]=decide (kd∈zqc):=by decide +kernel
theorem n_cl:∀kd∈nine,inV (.str kd) [.str "come",.str "leave"]=decide (kd∈(["come","leave"]:List Str)):=by decide +kernel
theorem n_gl:∀kd∈nine,inV (.str kd) [.str "gain",.str "lack"]=decide (kd∈(["gain","lack"]:List Str)):=by decide +kernel
theorem zttb:∀kd∈nine,kd∉zqc->kd∉(["come","leave"]:List Str)->kd∉(["gain","lack"]:List Str)->kd = "hurt":=by decide +kernel
def ilD (c:List Int):PyData:=.list (c.map .int)
theorem zve (c:List Int):yke (ilD c)=true:=by
 obtain⟨h1,h2⟩:=lay_ints c;unfold yke ilD;rw[ydf,h1,ypi,h2];rfl
theorem zfbb (c d:List Int):yig (ilD c) (ilD d)=decide (c=d):=by
 unfold ilD;rw[yig];exact zby c d
theorem sqI {r:Int}{n:Nat}(h0:0≤r)(h1:r<n):yxq r n=some r.toNat:=by
 have e:(if r<0 then r+(n:Int) else r)=r:=if_neg (by omega);show (if (decide (0≤(if r<0 then r+(n:Int) else r))&&decide ((if r<0 then r+(n:Int) else r)<(n:Int)))=true then some (if r<0 then r+(n:Int) else r).toNat else none)=_
 rw[e,if_pos (by rw[ytc,decide_eq_true_iff,decide_eq_true_iff];exact⟨h0,h1⟩)]
theorem ztkb:∀(os:List Int) (i:Nat),(os.map V.int).eraseIdx i=(os.eraseIdx i).map V.int
 | [],_=>rfl
 | _::_,0=>rfl
 | x::r,i+1=>by
  show V.int x::(r.map V.int).eraseIdx i=V.int x::(r.eraseIdx i).map V.int
  rw[ztkb r i]
theorem zqub {G:Prop}{Kx pre:Hp->Prop}(g:(∀Hs,pre Hs->Kx Hs)->G)(k:∀Hs,pre Hs->Kx Hs):G:=g k
def zimb (K:yda):Sp:=λvs H Q _=>Ex10 λp nl ol tv (k:Int) (ns:List Str) (t:Tab) (np nc:Nat) (os:List Int)=>vs=[.ref p,.ref nl,tv,.ref ol]∧Tk K H p k∧k≤700000∧N4 H nl ns∧TabT H tv t∧TOk np nc t∧1≤np∧1≤nc∧H ol=some (.lst (iM os))∧ol≠p∧os.length≤60∧(∀n∈t.lying,0≤n∧n<nc)∧∀ha (kd:Str) (th:Int) av (os':List Int) (k':Int) H',But2 p ol H H'->Tk K H' p k'->k'≤k+8->H' ol=some (.lst (iM os'))->H' ha=some (.tup [.str kd,.int th,av])->NxR np nc os kd th av os'->Q (.ref ha) H'
theorem But2.but {p q:Addr}{H H':Hp}(b:But p H H'):But2 p q H H':=λa o n _ h=>b a o n h
theorem ziab (T:Tx K mg):FnOk P w K mg base CX0 4 T.zdf.f T.zdf.d zrn (zimb K):=by
 refine T.zdf.ok zke ?_;rintro f c A o s H vs Q E hr ⟨p,nl,ol,tv,k,ns,t,np,nc,os,rfl,TT,hk,N0,TB,TO,np1,nc1,eo,nop,o60,lyb,q⟩ X;obtain⟨a,v0,v1,v2,v3,v4,v5,v6,v7,v8,rfl,ea,TP⟩:=TB;obtain⟨b0,rfl,e0⟩:=TP.p0;obtain⟨b5,rfl,e5⟩:=TP.p5;obtain⟨b7,u7,rfl,e7,al7⟩:=TP.p7;have l7:=al7.len;rw[yba,TO.marks] at l7;have l0:((iM t.pts).length:Int)=(np:Int):=by unfold iM;rw[yba,TO.pts]
 have np4:=TO.np4;have nc16:=TO.nc16;have ly:=TO.ly;refine⟨_,  (zca (zoa (i:=4) zke.nd rfl (.inl rfl) (zbb znc (zgd (zaa zma (zaa zma (zaa zma (zaa zma (zaa zma (zaa zma (zaa zma (zaa zma (zaa zma zba)))))))))) (zga (zla T) hr rfl T.zda.m T.zda.F.kp (zsa T) .nil zpa (zaa (pv 0) (zaa zfa zba))) (λ_ _=>rfl)))
  (zca (zoa (i:=5) zke.nd rfl (.inl rfl) (zga (zla T) hr rfl T.zda.m T.zda.F.kp (zsa T) .nil zpa (zaa (pv 0) (zaa zfa zba))))
  (zca (zvb (zna zne (zga (zla T) hr rfl T.zda.m T.zda.F.kp (zsa T) .nil zpa (zaa (pv 0) (zaa zfa zba))) zfa (zgb _))
   (zea (zoa (i:=5) zke.nd rfl (.inl rfl) (zqb zbh (zqb zltb zfa zfa) (pv 5))))
   zva)
  (zca (zvb (zna zte (pv 4) (ztb (zaa zma (zaa zma (zaa zma zba)))) rfl)
   (zea (zta (ztb (zaa (pv 4) (zaa (zqb zah (zbx zdo zfa) (zga (zla T) hr rfl T.zda.m T.zda.F.kp (zsa T) .nil zpa (zaa (pv 0) (zaa (zza zwa rfl T.zre yjb (zaa (zbb zab (pv 2) zfa (λ_ _=>rfl)) zba)) zba)))) (zaa (pv 5) zba))))))
   zva)
  (zca (zvb (PW.pt (zrv (zna zne (pv 4) zma (zgb _)) (zqp (zna (zro hr.units) (pv 3) (zgd zba) (zgb _)))))
   (zea (zta (ztb (zaa (pv 4) (zaa (zdi yac yno yoo zsfb (pv 3) (zaa (zga (zla T) hr rfl T.zda.m T.zda.F.kp (zsa T) .nil zpa (zaa (pv 0) (zaa (zza zwa rfl T.zre yjb (zaa (pv 3) zba)) zba))) zba)) (zaa zfa zba))))))
   zva)
  (zca (zoa (i:=6) zke.nd rfl (.inl rfl) (zga (zla T) hr rfl T.zda.m T.zda.F.kp (zsa T) .nil zpa (zaa (pv 0) (zaa (zza zwa rfl T.zre yjb (zaa (zbb zab (pv 2) zfa (λ_ _=>rfl)) zba)) zba))))
  (zca (zvb (PW.pt (zrv (zna (zro hr.units) (zbb zab (pv 2) zfa (λ_ _=>rfl)) (ztb zba) (zgb _)) (zqp (zna zkt (zga (zla T) hr rfl T.zda.m T.zda.F.kp (zsa T) .nil zpa (zaa (pv 0) (zaa zfa zba))) zfa (zgb _)))))
   (zea (zoa (i:=6) zke.nd rfl (.inl rfl) (zbb zab (zbb zab (pv 2) zfa (λ_ _=>rfl)) (zga (zla T) hr rfl T.zda.m T.zda.F.kp (zsa T) .nil zpa (zaa (pv 0) (zaa (zza zwa rfl T.zre yjb (zaa (zbb zab (pv 2) zfa (λ_ _=>rfl)) zba)) zba))) (λ_ _=>rfl))))
   zva)
  (zca (zvb (zna zte (pv 4) (ztb (zaa zma (zaa zma zba))) rfl)
   (zea (zta (ztb (zaa zma (zaa (pv 6) (zaa zfa zba))))))
   zva)
  (zca (zvb (zna zte (pv 4) (ztb (zaa zma (zaa zma zba))) rfl)
   (zea (zoa (i:=5) zke.nd rfl (.inl rfl) (zbb znc (pv 1) (zga (zla T) hr rfl T.zda.m T.zda.F.kp (zsa T) .nil zpa (zaa (pv 0) (zaa zfa zba))) (λ_ _=>rfl))))
   zva)
  (zea (zta (ztb (zaa (pv 4) (zaa (pv 6) (zaa (pv 5) zba))))))))))))))),?_⟩
 refine⟨(by show 9≤ywa;decide),λl1 hl1=>?_⟩;refine laid hl1 λH1 S1 e1=>?_;have n1:l1≠p:=ywc (TT.ne hl1);refine⟨_,rfl,p,k,9,rfl,TT.same S1,by omega,by decide,λr H2 r0 r1 B2 T2=>?_⟩;obtain⟨kd,hkd,hm⟩:=zol (ss:=nine) r0 r1;refine⟨l1,_,_,_,rfl,rfl,SqL.of (B2 _ _ n1 e1),hkd,?_⟩;have B02:But p H H2:=(But.same S1).trans B2;refine⟨_,rfl,p,k+1,5,rfl,T2,by omega,by decide,λa0 H3 a1 a2 B3 T3=>?_⟩;refine⟨_,rfl,p,k+1+1,6,rfl,T3,by omega,by decide,λs0 H4 s1 s2 B4 T4=>⟨rfl,_,rfl,?_⟩⟩;have B04:=B02.trans (B3.trans B4);refine' zwk (pre:=λv Hs=>Hs=H4∧∃z:Int,v=V.int z∧0≤z) (λkk=>?g1) ?k1
 case g1 =>
  refine ite2 (λc=>?_) (λc=>?_)
  ·refine⟨_,_,rfl,rfl,⟨by decide,by decide,by decide⟩,_,rfl,_,_,rfl,rfl,?_⟩;have p50:(0:Int)≤10 ^ (50:Int).toNat:=(by decide);dsimp only;generalize (10:Int) ^ (50:Int).toNat=t50 at p50 ⊢;obtain⟨v4,hv4⟩:∃v,v=V.int (t50+a0):=⟨_,rfl⟩;obtain⟨Hz,hz⟩:∃h,h=H4:=⟨_,rfl⟩;rw[← hv4,← hz];exact kk v4 Hz ⟨hz,_,hv4,by omega⟩
  ·exact kk (.int a0) H4 ⟨rfl,a0,rfl,a1⟩
 case k1 =>
 rintro _ _ ⟨rfl,z,rfl,z0⟩;refine⟨_,rfl,sz3,λq1 hq1=>?_⟩;refine laid hq1 λH5 S5 e5'=>?_;refine⟨q1,_,rfl,.inr (SqT.of e5'),rfl,rfl,_,rfl,?_⟩;rw[n_pl kd hm];have T5:=T4.same S5;have B05:=B04.trans (But.same S5);have K05:=Kp.but TT B05;refine ite2 (λc=>?_) (λc=>?_)
 ·have c':=of_decide_eq_true c;refine⟨_,rfl,_,rfl,_,rfl,_,rfl,a,_,_,_,rfl,rfl,SqT.of (K05.t ea),zra (j:=0) rfl,b0,_,rfl,.inr (SqT.of (K05.t e0)),p,k+1+1+1,(np:Int),(by rw[← l0];rfl),T5,by omega,by omega,λt0 H6 t1 t2 B6 T6=>⟨_,_,rfl,rfl,_,rfl,sz3,λha hha=>?_⟩⟩;refine laid hha λH7 S7 e7'=>?_;obtain⟨pp,rfl⟩:∃pp:Nat,t0=(pp:Int):=⟨t0.toNat,by omega⟩;have B07:=B05.trans (B6.trans (But.same S7));exact q ha kd (-1-(pp:Int)) (.int z) os _ H7 (But2.but B07) (T6.same S7) (by omega) (B07 _ _ nop eo) e7' (.pl c' (by omega) z0)
 have np':kd∉zqc:=λz=>c (decide_eq_true z);have lo:((iM os).length:Int)=(os.length:Int):=by unfold iM;rw[yba]
 refine⟨_,rfl,rfl,_,rfl,?_⟩;refine' zqub (pre:=λHs=>Same H5 Hs) (λkk=>?g2) ?k2
 case g2 =>
  refine ite2 (λc1=>?_) (λc1=>iteF (kk H5 (Same.refl _)));have c1':=of_decide_eq_true c1;injection c1' with c1'
  refine⟨_,rfl,sz0,λem hem=>?_⟩;refine laid hem λH6 S6 e6=>?_;have B06:=B05.trans (But.same S6);have T6:=T5.same S6;have eo6:=B06 _ _ nop eo;refine⟨ilD os,ilD [],.lst (SqL.of eo6) (zgi _),.lst (SqL.of e6) .nil,zve _,zve _,_,rfl,?_⟩;rw[zfbb];refine ite2 (λc2=>?ret) (λc2=>?cont)
  case cont=>exact kk H6 S6
  case ret =>
   have on:os≠[]:=by
    intro z;rw[z] at c2;cases c2
   have ol1:1≤os.length:=yki.mpr on;refine⟨_,rfl,_,rfl,.inl ⟨rfl,_,SqL.of eo6⟩,_,rfl,_,rfl,ol,_,rfl,.inl (SqL.of eo6),p,_,(os.length:Int),(by rw[← lo];rfl),T6,by omega,by omega,λr H7 r0 r1 B7 T7=>?_⟩;obtain⟨n,hn⟩:=getx (xs:=os) (i:=r.toNat) (by omega);have eo7:=B7 _ _ nop eo6;refine⟨ol,_,r,r.toNat,.int n,rfl,rfl,eo7,by omega,by omega,sqI r0 (by rw[lo];exact r1),(by unfold iM;rw[yqa,hn];rfl),?_⟩;have T8:=T7.other (vs:=(iM os).eraseIdx r.toNat) eo7 (ywc nop);have B8:But2 p ol H (upd H7 ol (.lst ((iM os).eraseIdx r.toNat))):=λb o n1 n2 hb=>by
    rw[zdb n2];exact B7 _ _ n1 (B06 _ _ n1 hb)
   have eo8:upd H7 ol (.lst ((iM os).eraseIdx r.toNat)) ol=some (.lst (iM (os.eraseIdx r.toNat))):=by
    rw[zia];unfold iM;rw[ztkb]
   refine⟨sz3,λha hha=>?_⟩;refine laid hha λH9 S9 e9=>?_;exact q ha kd n (.int 0) (os.eraseIdx r.toNat) _ H9 (B8.trans (But2.same S9)) (T8.same S9) (by omega) (S9 _ _ eo8) e9 (by rw[c1'];exact .come hn)
 case k2 =>
 rintro H6 S6;have T6:=T5.same S6;have B06:=B05.trans (But.same S6);have K06:=Kp.but TT B06;refine⟨_,rfl,_,rfl,a,_,_,_,rfl,rfl,SqT.of (K06.t ea),zra (j:=7) rfl,b7,_,rfl,.inr (SqT.of (K06.t e7)),p,_,(nc:Int),(by rw[← l7];rfl),T6,by omega,by omega,λth0 H7 h0 h1 B7 T7=>?_⟩;have B07:=B06.trans B7;have K07:=Kp.but TT B07;refine⟨_,rfl,a,_,_,_,rfl,rfl,SqT.of (K07.t ea),zra (j:=5) rfl,sz0,λem hem=>?_⟩;refine laid hem λH8 S8 e8=>?_;have B08:=B07.trans (But.same S8);have K08:=Kp.but TT B08;have T8:=T7.same S8;refine⟨chD t.lying,chD [],.tup (SqT.of (K08.t e5)) (zgi _),.tup (SqT.of e8) .nil,zep _,zep _,_,rfl,?_⟩;rw[zxob];have lly:((iM t.lying).length:Int)=(t.lying.length:Int):=by unfold iM;rw[yba]
 refine' zwk (pre:=λv Hs=>But p H Hs∧(∃k',Tk K Hs p k'∧k'≤k+6)∧∃n:Int,v = .int n∧0≤n∧n<nc) (λkk=>?g3) ?k3
 case g3 =>
  refine ite2 (λc1=>?_) (λc1=>?b1)
  ·refine⟨_,rfl,p,_,5,rfl,T8,by omega,by decide,λw0 H9 w1 w2 B9 T9=>⟨_,_,rfl,rfl,_,rfl,ite2 (λc2=>?a2) (λc2=>?b2)⟩⟩
   case a2 =>
    have on:t.lying≠[]:=by
     intro z;rw[z] at c1;cases c1
    have ol1:1≤t.lying.length:=yki.mpr on;have B09:=B08.trans B9;have K09:=Kp.but TT B09;refine⟨_,rfl,a,_,_,_,rfl,rfl,SqT.of (K09.t ea),zra (j:=5) rfl,_,rfl,_,rfl,a,_,_,_,rfl,rfl,SqT.of (K09.t ea),zra (j:=5) rfl,b5,_,rfl,.inr (SqT.of (K09.t e5)),p,_,(t.lying.length:Int),(by rw[← lly];rfl),T9,by omega,by omega,λr2 H10 x0 x1 B10 T10=>?_⟩;obtain⟨n,hn,hmn⟩:=zfpb (ns:=t.lying) x0 x1;have B010:=B09.trans B10;refine⟨b5,_,_,_,rfl,rfl,SqT.of ((Kp.but TT B010).t e5),hn,?_⟩;obtain⟨v4,hv4⟩:∃v,v=V.int n:=⟨_,rfl⟩;rw[← hv4];exact kk v4 H10 ⟨B010,⟨_,T10,by omega⟩,n,hv4,(lyb n hmn).1,(lyb n hmn).2⟩
   case b2=>exact kk (.int th0) H9 ⟨B08.trans B9,⟨_,T9,by omega⟩,th0,rfl,h0,h1⟩
  case b1=>exact iteF (kk (.int th0) H8 ⟨B08,⟨_,T8,by omega⟩,th0,rfl,h0,h1⟩)
 case k3 =>
 rintro _ H9 ⟨B09,⟨k9,T9,hk9⟩,n,rfl,n0,n1'⟩;refine⟨_,rfl,sz2,λq2 hq2=>?_⟩;refine laid hq2 λH10 S10 e10=>?_;refine⟨q2,_,rfl,.inr (SqT.of e10),rfl,rfl,_,rfl,?_⟩;rw[n_cl kd hm];have B010:=B09.trans (But.same S10);have T10:=T9.same S10;refine ite2 (λc2=>?_) (λc2=>?_)
 ·refine⟨_,rfl,sz3,λha hha=>?_⟩;refine laid hha λH11 S11 e11=>?_;have B011:=B010.trans (But.same S11);exact q ha "leave" n (.int 0) os _ H11 (But2.but B011) (T10.same S11) (by omega) (B011 _ _ nop eo) e11 (.leave n0 n1')
 have ncl:kd∉(["come","leave"]:List Str):=λz=>c2 (decide_eq_true z);refine⟨_,rfl,sz2,λq3 hq3=>?_⟩;refine laid hq3 λH11 S11 e11=>?_;refine⟨q3,_,rfl,.inr (SqT.of e11),rfl,rfl,_,rfl,?_⟩;rw[n_gl kd hm];have B011:=B010.trans (But.same S11);have T11:=T10.same S11;refine' zwk (pre:=λv Hs=>But p H Hs∧(∃k',Tk K Hs p k'∧k'≤k+7)∧NxR np nc os kd n v os) (λkk=>?g4) ?k4
 case g4 =>
  refine ite2 (λc3=>?_) (λc3=>?_)
  ·have c3':=of_decide_eq_true c3;refine⟨_,rfl,_,rfl,p,_,4,rfl,T11,by omega,by decide,λt0 H12 t1 t2 B12 T12=>?_⟩;have B012:=B011.trans B12;have N12:=N0.but TT B012;obtain⟨u,hu,hmu⟩:=zol (ss:=ns) t1 (by rw[N0.len];exact t2);refine⟨nl,_,_,_,rfl,rfl,SqL.of N12.at_,hu,?_⟩;obtain⟨v4,hv4⟩:∃v,v=V.str u:=⟨_,rfl⟩;rw[← hv4];exact kk v4 H12 ⟨B012,⟨_,T12,by omega⟩,by rw[hv4];exact .mark c3' (N0.ok u hmu) n0 n1'⟩
  ·have e:=zttb kd hm np' ncl (λz=>c3 (decide_eq_true z));exact kk (.int z) H11 ⟨B011,⟨_,T11,by omega⟩,by rw[e];exact .hurt n0 n1'⟩
 case k4 =>
 rintro av H12 ⟨B012,⟨k12,T12,hk12⟩,nx⟩;refine⟨_,rfl,_,rfl,_,rfl,sz3,λha hha=>?_⟩;refine laid hha λH13 S13 e13=>?_;have B013:=B012.trans (But.same S13);exact q ha kd n av os k12 H13 (But2.but B013) (T12.same S13) (by omega) (B013 _ _ nop eo) e13 nx
def zwd (n:Nat):List Int:=(ypb n).map λi:Nat=>(i:Int)
structure StOk (t:Tab)(nc:Nat)(os:List Int)(cms:List (List Str)):Prop where
 perm:(os++t.lying++t.heap++(t.decks++t.hands).flatten).Perm (zwd nc)
 off:∀n:Nat,n<nc->(n:Int)∉t.lying->t.marks[n]?=cms[n]?∧t.wnds[n]?=some 0
 hr:∀h∈t.hands,h.Pairwise (· ≤ ·)
 pr:t.heap.Pairwise (· ≤ ·)
def zfmb:Sp:=λvs H Q _=>Ex9 λtv cl ol (t:Tab) (np nc:Nat) (os:List Int) cvs (cs:List Crd)=>vs=[tv,.ref cl,.ref ol]∧TabT H tv t∧TOk np nc t∧H cl=some (.lst cvs)∧All2 (CT H) cvs cs∧cs.length=nc∧H ol=some (.lst (iM os))∧StOk t nc os (cs.map (·.marks))∧∀H',Same H H'->Q (.bl true) H'
theorem zzfb (xs ys:List Int):iM xs++iM ys=iM (xs++ys):=by unfold iM;rw[yxa]
theorem zfl (xs:List Int):(iM xs).length=xs.length:=by unfold iM;rw[yba]
theorem zwcb (n:Nat):(zwd n).Pairwise (· ≤ ·):=by
 unfold zwd;rw[ynm];exact (yrf (n:=n)).imp λh=>by omega
theorem zifb {xs ys:List Int}(h1:xs.Pairwise (· ≤ ·))(h2:ys.Pairwise (· ≤ ·))(p:xs.Perm ys):xs=ys :=
 ykm (le:=λa b:Int=>a≤b) (λa b _ _ x y=>Int.le_antisymm x y) h1 h2 p
theorem zyu (T:Tx K mg):FnOk P w K mg base CX0 2 T.zod.f T.zod.d zlk zfmb:=by
 refine T.zod.ok zvd ?_;rintro f c A o s H vs Q E hr ⟨tv,cl,ol,t,np,nc,os,cvs,cs,rfl,TB,TO,ec,alc,csl,eo,SO,q⟩ X;obtain⟨a,v0,v1,v2,v3,v4,v5,v6,v7,v8,rfl,ea,TP⟩:=TB;obtain⟨b3,u3,rfl,e3,al3⟩:=TP.p3;obtain⟨b4,u4,rfl,e4,al4⟩:=TP.p4;obtain⟨b5,rfl,e5⟩:=TP.p5;obtain⟨b6,rfl,e6⟩:=TP.p6;obtain⟨b7,u7,rfl,e7,al7⟩:=TP.p7;obtain⟨b8,rfl,e8⟩:=TP.p8;have nc16:=TO.nc16;have np4:=TO.np4;have pl:=SO.perm.length_eq;have rl:(zwd nc).length=nc:=by unfold zwd;rw[yba,yrb]
 rw[rl,yea,yea,yea] at pl;have cvl:=alc.len;have l3:=al3.len;have l4:=al4.len;rw[yba,TO.decks] at l3;rw[yba,TO.hands] at l4;have alp:All2 (T1 H) (u3++u4) ((t.decks++t.hands).map iM):=by rw[yxa];exact All2.app al3 al4
 refine⟨_,  (zca (zoa (i:=3) zvd.nd rfl (.inl rfl) (zqb zlt (zqb zlt (zya zxb rfl T.zeg yzf (zaa (pv 2) zba)) (zya zxb rfl T.zeg yzf (zaa (zbb zab (pv 0) zfa (λ_ _=>rfl)) zba))) (zya zxb rfl T.zeg yzf (zaa (zbb zab (pv 0) zfa (λ_ _=>rfl)) zba))))
  (zca (zlm yzd rfl (zag (zqb zlt (zya zxb rfl T.zeg yzf (zaa (zbb zab (pv 0) zfa (λ_ _=>rfl)) zba)) (zya zxb rfl T.zeg yzf (zaa (zbb zab (pv 0) zfa (λ_ _=>rfl)) zba)))) (zeb (i:=4) zvd.nd rfl (.inl rfl))
   (zea (zoa (i:=3) zvd.nd rfl (.inl rfl) (zqb zlt (pv 3) (zya zxb rfl T.zeg yzf (zaa (pv 4) zba))))))
  (zca (zvb (zna (zro hr.units) (zza zph rfl T.zvh ycl (zaa (pv 3) zba)) (zvz rfl rfl T.zeg rfl T.zfg (zaa (zza zwa rfl T.zre yjb (zaa (pv 1) zba)) zba)) (zgb _))
   (zea (zta zjt))
   zva)
  (zca (zlm yzd rfl (zzf rfl T.zfg (zaa (zza zwa rfl T.zre yjb (zaa (pv 1) zba)) zba)) (zeb (i:=5) zvd.nd rfl (.inl rfl))
   (zea (zvb (zna zfr (pv 5) (zbb zab (pv 0) zfa (λ_ _=>rfl)) rfl)
    (zea (zvb (PW.pt (zjjb (zna (zro hr.units) (zbb zab (zbb zab (pv 0) zfa (λ_ _=>rfl)) (pv 5) (λ_ _=>rfl)) (zbb znc (zbb znc (pv 1) (pv 5) (λ_ _=>rfl)) zfa (λ_ _=>rfl)) (zgb _)) (zjfb (zna zqjb (zbb zab (zbb zab (pv 0) zfa (λ_ _=>rfl)) (pv 5) (λ_ _=>rfl)) zfa (zgb _)))))
     (zea (zta zjt))
     zva))
    zva)))
  (zca (zlm yzd rfl (zag (zqb zlt (zya zxb rfl T.zeg yzf (zaa (zbb zab (pv 0) zfa (λ_ _=>rfl)) zba)) (zgd (zaa (zbb zab (pv 0) zfa (λ_ _=>rfl)) zba)))) (zeb (i:=4) zvd.nd rfl (.inl rfl))
   (zea (zvb (zna (zro hr.units) (zya zxb rfl T.zeg yzf (zaa (pv 4) zba)) (zza zph rfl T.zvh ycl (zaa (pv 4) zba)) (zgb _))
    (zea (zta zjt))
    zva)))
  (zea (zta zjt))))))),?_⟩
 refine⟨_,rfl,ol,_,rfl,.inl (SqL.of eo),λl1 hl1=>?_⟩;refine laid hl1 λH1 S1 f1=>?_;refine⟨_,rfl,a,_,_,_,rfl,rfl,SqT.of (S1 _ _ ea),zra (j:=5) rfl,b5,_,rfl,.inr (SqT.of (S1 _ _ e5)),λl2 hl2=>?_⟩;refine laid hl2 λH2 S2 f2=>?_;refine⟨l1,l2,_,_,rfl,rfl,S2 _ _ f1,f2,(by rw[zfl,zfl];exact small (by omega)),λl3' hl3=>?_⟩;rw[zzfb];refine laid hl3 λH3 S3 f3=>?_;have S03:=S1.trans (S2.trans S3);refine⟨_,rfl,a,_,_,_,rfl,rfl,SqT.of (S03 _ _ ea),zra (j:=6) rfl,b6,_,rfl,.inr (SqT.of (S03 _ _ e6)),λl4' hl4=>?_⟩;refine laid hl4 λH4 S4 f4=>?_;refine⟨l3',l4',_,_,rfl,rfl,S4 _ _ f3,f4,(by rw[zfl,zfl,yea];exact small (by omega)),λl5 hl5=>?_⟩;rw[zzfb];refine laid hl5 λH5 S5 f5=>?_;have S05:=S03.trans (S4.trans S5);refine⟨_,rfl,a,_,_,_,rfl,rfl,SqT.of (S05 _ _ ea),zra (j:=3) rfl,b3,_,rfl,.inr (SqT.of (S05 _ _ e3)),λl6 hl6=>?_⟩;refine laid hl6 λH6 S6 f6=>?_;have S06:=S05.trans S6;refine⟨_,rfl,a,_,_,_,rfl,rfl,SqT.of (S06 _ _ ea),zra (j:=4) rfl,b4,_,rfl,.inr (SqT.of (S06 _ _ e4)),λl7' hl7=>?_⟩;refine laid hl7 λH7 S7 f7=>?_;refine⟨l6,l7',_,_,rfl,rfl,S7 _ _ f6,f7,small (by omega),λl8' hl8=>?_⟩;refine laid hl8 λH8 S8 f8=>?_;have S58:=S6.trans (S7.trans S8);have S08:=S05.trans S58;refine⟨l8',rfl,⟨_,SqL.of f8⟩,?_⟩;have ll:=alp.len;refine zcgb (xs:=u3++u4) (λi σ H'=>Ex3 λlm o4 o5=>σ=[some (.ref a),some (.ref cl),some (.ref ol),some (.ref lm),o4,o5]∧Same H8 H'∧H' lm=some (.lst (iM (os++t.lying++t.heap++((t.decks++t.hands).take i).flatten)))) ⟨l5,_,_,rfl,Same.refl _,by rw[S58 _ _ f5,ywl,yfi,yfc]⟩ (λi σ H' _ ⟨_,_,_,_,S,_⟩=>SqL.of (S _ _ f8)) ?_ ?_
 ·rintro i v σ H' hv ⟨lm,o4,o5,rfl,S,em⟩;obtain⟨xs,hx,b,rfl,eb⟩:=alp.get hv;rw[yqa] at hx;obtain⟨ds,hds,rfl⟩:=ywd.mp hx;have tf:((t.decks++t.hands).take (i+1)).flatten.length≤(t.decks++t.hands).flatten.length:=by
   have e:(t.decks++t.hands).flatten=((t.decks++t.hands).take (i+1)).flatten++((t.decks++t.hands).drop (i+1)).flatten:=(by rw[← yec,yqh]);rw[e,yea];exact ygn _ _
  have tk:((t.decks++t.hands).take (i+1)).flatten=((t.decks++t.hands).take i).flatten++ds:=by
   rw[ydb,hds,yub,yec,ybc,yfi,yfc]
  rw[tk,yea] at tf;refine⟨_,rfl,_,rfl,b,_,rfl,.inr (SqT.of ((S08.trans S) _ _ eb)),λl hl=>?_⟩;refine laid hl λH9 S9 f9=>?_;refine⟨lm,l,_,_,rfl,rfl,S9 _ _ em,f9,(by rw[zfl,zfl,yea,yea,yea];exact small (by omega)),λl' hl'=>?_⟩;rw[zzfb];refine laid hl' λH10 S10 f10=>?_;exact⟨l',_,_,rfl,S.trans (S9.trans S10),by rw[f10,tk,ydd (os++t.lying++t.heap)]⟩
 rintro σ H9 ⟨lm,o4,o5,rfl,S9,em⟩;rw[ll,yba,yla (yga _)] at em;have S09:=S08.trans S9;refine⟨_,rfl,lm,_,rfl,.inl (SqL.of em),?_,λsl ys hsl py sy=>?_⟩
 ·rw[SO.perm.length_eq,rl];omega
 refine laid hsl λH10 S10 f10=>?_;have S010:=S09.trans S10;refine⟨_,rfl,cl,_,rfl,.inl (SqL.of (S010 _ _ ec)),cvs.length,rfl,by omega,λrg hrg=>?_⟩;refine laid hrg λH11 S11 f11=>?_;have f11':H11 rg=some (.lst (iM (zwd nc))):=by
  rw[f11,cvl,csl];unfold iM zwd;rw[yyj];rfl
 have ye:ys=zwd nc:=zifb sy (zwcb nc) (py.trans SO.perm);refine⟨ilD ys,ilD (zwd nc),.lst (SqL.of (S11 _ _ f10)) (zgi _),.lst (SqL.of f11') (zgi _),zve _,zve _,_,rfl,?_⟩;rw[zfbb,decide_eq_true ye];refine iteF ?_;have S011:=S010.trans S11;refine⟨_,rfl,cl,_,rfl,.inl (SqL.of (S011 _ _ ec)),_,rfl,by omega,by omega,?_⟩;rw[yxb];refine zil (lo:=0) (n:=cvs.length) (λi σ H'=>Ex2 λo4 o5=>σ=[some (.ref a),some (.ref cl),some (.ref ol),some (.ref lm),o4,o5]∧Same H11 H') ⟨_,_,rfl,Same.refl _⟩ ?_ ?_
 ·rintro i σ H' hi ⟨o4,o5,rfl,S⟩;have S0:=S011.trans S;have zi:(0:Int)+(i:Int)=(i:Int):=by omega
  refine⟨_,rfl,_,rfl,a,_,_,_,rfl,rfl,SqT.of (S0 _ _ ea),zra (j:=5) rfl,b5,_,rfl,.inr (SqT.of (S0 _ _ e5)),rfl,zebb _,_,rfl,?_⟩;refine ite2 (λc=>?_) (λc=>⟨_,_,rfl,S⟩);have c':(i:Int)∉t.lying:=by
   have c0:(!inV (.int (0+(i:Int))) (iM t.lying))=true:=c;rw[zi,inI] at c0;intro z;rw[decide_eq_true z] at c0;cases c0
  have inc:i<nc:=by omega
  obtain⟨om,ow⟩:=SO.off i inc c';obtain⟨cc,hcc⟩:=getx (xs:=cs) (by rw[csl];exact inc);obtain⟨cv,hcv,ct⟩:=alc.get2 hcc;obtain⟨lc,m,x2,x3,x4,rfl,elc,em',cok,_,_⟩:=ct;rw[yqa,hcc] at om;have om':t.marks[i]?=some cc.marks:=om;obtain⟨_,emv,mb,rfl,emb⟩:=al7.get2 (b:=sM cc.marks) (by rw[yqa,om'];rfl);refine⟨_,rfl,a,_,_,_,rfl,rfl,SqT.of (S0 _ _ ea),zra (j:=7) rfl,_,rfl,b7,_,_,_,rfl,rfl,SqT.of (S0 _ _ e7),(by show atI u7 (0+(i:Int))=_;rw[zi];exact zra emv),_,rfl,_,rfl,cl,_,_,_,rfl,rfl,SqL.of (S0 _ _ ec),(by show atI cvs (0+(i:Int))=_;rw[zi];exact zra hcv),lc,_,_,_,rfl,rfl,SqL.of (S0 _ _ elc),zra (j:=1) rfl,?_⟩;have sh:=zio cok.marks.ok;refine⟨.tuple (cc.marks.map .str),.tuple (cc.marks.map .str),.tup (SqT.of (S0 _ _ emb)) (znp _),.tup (SqT.of (S0 _ _ em')) (znp _),sh,sh,_,rfl,?_⟩;rw[SeqAt.eqv_refl _ (SeqAt.canLay_of_shaped sh)];refine iteF ?_;refine⟨_,rfl,a,_,_,_,rfl,rfl,SqT.of (S0 _ _ ea),zra (j:=8) rfl,_,rfl,b8,_,_,_,rfl,rfl,SqT.of (S0 _ _ e8),(by show atI (iM t.wnds) (0+(i:Int))=_;rw[zi];exact ziu ow),rfl,_,rfl,ite2 (λc2=>?_) (λ_=>⟨_,_,rfl,S⟩)⟩;have c3:(!decide (V.int 0=V.int 0))=true:=c2;rw[decide_eq_true rfl] at c3;cases c3
 rintro σ H12 ⟨o4,o5,rfl,S12⟩;have S012:=S011.trans S12;refine⟨_,rfl,a,_,_,_,rfl,rfl,SqT.of (S012 _ _ ea),zra (j:=4) rfl,b4,_,rfl,.inr (SqT.of (S012 _ _ e4)),λl13 hl13=>?_⟩;refine laid hl13 λH13 S13 f13=>?_;have S013:=S012.trans S13;refine⟨_,rfl,a,_,_,_,rfl,rfl,SqT.of (S013 _ _ ea),zra (j:=6) rfl,sz1,λl14 hl14=>?_⟩;refine laid hl14 λH14 S14 f14=>?_;refine⟨l13,l14,_,_,rfl,rfl,S14 _ _ f13,f14,small (by show u4.length+1≤1000;omega),λl15 hl15=>?_⟩;refine laid hl15 λH15 S15 f15=>?_;have S015:=S013.trans (S14.trans S15);have alq:All2 (T1 H) (u4++[V.ref b6]) ((t.hands++[t.heap]).map iM):=by rw[yxa];exact All2.snoc ⟨b6,rfl,e6⟩ al4
 refine⟨l15,rfl,⟨_,SqL.of f15⟩,?_⟩;refine zcgb (xs:=u4++[V.ref b6]) (λi σ H'=>Ex2 λo4 o5=>σ=[some (.ref a),some (.ref cl),some (.ref ol),some (.ref lm),o4,o5]∧Same H15 H') ⟨_,_,rfl,Same.refl _⟩ (λi σ H' _ ⟨_,_,_,S⟩=>SqL.of (S _ _ f15)) ?_ ?_
 ·rintro i v σ H' hv ⟨o4,o5,rfl,S⟩;obtain⟨xs,hx,b,rfl,eb⟩:=alq.get hv;rw[yqa] at hx;obtain⟨ds,hds,rfl⟩:=ywd.mp hx;have hd:=ybb hds;have dp:ds.Pairwise (· ≤ ·)∧ds.length≤16:=by
   rcases ydc.mp hd with z|z
   ·exact⟨SO.hr ds z,TO.hs ds z⟩
   ·rw[yia.mp z];exact⟨SO.pr,TO.hp⟩
  have S0:=S015.trans S;refine⟨_,rfl,b,_,rfl,.inr (SqT.of (S0 _ _ eb)),λl hl=>?_⟩;refine laid hl λH16 S16 f16=>?_;refine⟨_,rfl,b,ds,rfl,.inr (SqT.of ((S0.trans S16) _ _ eb)),by have:=dp.2;omega,λsp zs hsp pz sz=>?_⟩;refine laid hsp λH17 S17 f17=>?_;refine⟨ilD ds,ilD zs,.lst (SqL.of (S17 _ _ f16)) (zgi _),.lst (SqL.of f17) (zgi _),zve _,zve _,_,rfl,?_⟩;rw[zfbb,decide_eq_true (zifb dp.1 sz pz.symm)];exact iteF ⟨_,_,rfl,S.trans (S16.trans S17)⟩
 rintro σ H16 ⟨o4,o5,rfl,S16⟩;exact q H16 (S015.trans S16)
theorem zzt {α:Type}:∀{xs:List (List α)} {p:Nat} {d:List α},xs[p]?=some d->xs.flatten.Perm (d++(xs.eraseIdx p).flatten)
 | x::r,0,d,h=>by
  obtain rfl:x=d:=by simpa using h
  exact .refl _
 | x::r,p+1,d,h=>by
  have ih:=zzt (xs:=r) (p:=p) (d:=d) (by simpa using h);show (x++r.flatten).Perm (d++(x++(r.eraseIdx p).flatten))
  refine (ih.append_left x).trans ?_;rw[← ydd,← ydd];exact ypo.append_right _
theorem zkz {α:Type}:∀(xs:List α) (p:Nat) (d:α),(xs.set p d).eraseIdx p=xs.eraseIdx p
 | [],_,_=>rfl
 | _::_,0,_=>rfl
 | x::r,p+1,d=>by
  show x::(r.set p d).eraseIdx p=x::r.eraseIdx p
  rw[zkz r p d]
theorem zzx {α:Type}{xs:List (List α)}{p:Nat}{d e:List α}(h:xs[p]?=some d):(xs.set p e).flatten.Perm (e++(xs.eraseIdx p).flatten):=by
 have hp:p<xs.length:=(ysa.mp h).1;have z:=zzt (xs:=xs.set p e) (p:=p) (d:=e) (by rw[yme hp]);rw[zkz] at z;exact z
theorem zxkb {xs ys:List (List Int)}{p:Nat}{d h hand:List Int}{n:Nat}(hx:xs[p]?=some d)(hy:ys[p]?=some h)(hp:hand.Perm (h++d.take n)):(xs.set p (d.drop n)++ys.set p hand).flatten.Perm (xs++ys).flatten:=by
 rw[yec,yec];have a1:=zzt hx;have a2:=zzx (e:=d.drop n) hx;have b1:=zzt hy;have b2:=zzx (e:=hand) hy;refine (a2.append b2).trans (yxi.trans ?_ (a1.append b1).symm);refine yxi.trans (ywj _ (hp.append_right _)) ?_;have e:d.Perm (d.drop n++d.take n):=by
  have z:=(ypo (l₁:=d.take n) (l₂:=d.drop n));rw[yqh] at z;exact z
 refine yxi.trans ?_ ((e.append_right _).append_right _).symm;rw[yof];intro x;simp only[yff];omega
theorem nodup_range (n:Nat):(zwd n).Nodup:=by
 unfold zwd yyc;rw[ynm];exact (yrf (n:=n)).imp λh=>by omega
theorem mem_range {n:Nat}{x:Int}:x∈zwd n↔0≤x∧x<n:=by
 unfold zwd;rw[ycc]
 constructor
 ·rintro⟨i,hi,rfl⟩;have:=ywh.mp hi;omega
 ·rintro⟨h0,h1⟩;exact⟨x.toNat,ywh.mpr (by omega),by omega⟩
theorem zohb {os:List Int}{i:Nat}{n:Int}(h:os[i]?=some n):os.Perm (n::os.eraseIdx i):=by
 induction os generalizing i with
 | nil=>simp at h
 | cons x r ih =>
  cases i with
  | zero =>
   obtain rfl:x=n:=by simpa using h
   exact .refl _
  | succ i =>
   have z:=ih (i:=i) (by simpa using h);exact (z.cons x).trans (.swap _ _ _)
theorem zew {xs:List Int}{n:Int}(nd:xs.Nodup)(h:n∈xs):xs.Perm (n::xs.filter λx=>!decide (x=n)):=by
 induction xs with
 | nil=>cases h
 | cons x r ih =>
  obtain⟨n1,n2⟩:=ysi.mp nd
  by_cases e:x=n
  ·subst e;rw[yeh (by simp)];have z:(r.filter λy=>!decide (y=x))=r:=by
    rw[List.filter_eq_self];intro y hy;have:y≠x:=λw=>n1 (w▸hy);simp[this]
   rw[z]
  ·rw[ydh (by simp[e])];have hr:n∈r:=by
    rcases yka.mp h with w|w
    ·exact absurd w.symm e
    ·exact w
   exact ((ih n2 hr).cons x).trans (.swap _ _ _)
structure Sz (np nc:Nat)(t:Tab):Prop where
 pts:t.pts.length=np
 scs:t.scs.length=np
 gone:t.gone.length=np
 decks:t.decks.length=np
 hands:t.hands.length=np
 marks:t.marks.length=nc
 wnds:t.wnds.length=nc
 np4:np≤4
 nc16:nc≤16
theorem Sz.ok {np nc:Nat}{t:Tab}{os:List Int}{cms:List (List Str)}(h:Sz np nc t)(so:StOk t nc os cms)(hm:∀m∈t.marks,m.length≤40):TOk np nc t:=by
 have pl:=so.perm.length_eq;have rl:(zwd nc).length=nc:=by unfold zwd;rw[yba,yrb]
 rw[rl,yea,yea,yea,yec,yea] at pl;have n16:=h.nc16;exact⟨h.pts,h.scs,h.gone,h.decks,h.hands,h.marks,h.wnds,by omega,by omega,hm,(λd hd=>by
  have:=(yrh hd).length_le;omega),(λd hd=>by
  have:=(yrh hd).length_le;omega),h.np4,h.nc16⟩
theorem NxR.facts {np nc:Nat}{os os':List Int}{kd:Str}{th:Int}{av:V}(h:NxR np nc os kd th av os')(ho:∀n∈os,0≤n) :
  (th<0∧os'=os)∨(0≤th∧kd ≠ "come" ∧ os'=os)∨(0≤th∧kd = "come" ∧ ∃i,os[i]?=some th∧os'=os.eraseIdx i):=by
 cases h with
 | pl _ _ _=>exact .inl ⟨by omega,rfl⟩
 | come h=>exact .inr (.inr ⟨ho _ (ybb h),rfl,_,h,rfl⟩)
 | leave a b=>exact .inr (.inl ⟨a,by decide +kernel,rfl⟩)
 | hurt a b=>exact .inr (.inl ⟨a,by decide +kernel,rfl⟩)
 | mark k _ a b =>
  refine .inr (.inl ⟨a,?_,rfl⟩);rintro rfl;exact absurd k (by decide +kernel)
theorem StOk.out {t:Tab}{nc:Nat}{os:List Int}{cms:List (List Str)}(so:StOk t nc os cms):∀n∈os,0≤n:=λn hn =>
 (mem_range.mp (so.perm.mem_iff.mp (yzc _ (yzc _ (yzc _ hn))))).1
theorem zarb {t t':Tab}{np nc p:Nat}{z:Int}{kd:Str}{os:List Int}{cms:List (List Str)}(sz:Sz np nc t)(so:StOk t nc os cms)(h:PlR t p z kd t'):Sz np nc t'∧StOk t' nc os cms∧t'.marks=t.marks∧∀j,((t'.decks.getD j []).length≤(t.decks.getD j []).length):=by
 cases h with
 | lose h=>exact⟨{ sz with pts:=by show (t.pts.set p _).length=np;rw[yue];exact sz.pts },⟨so.perm,so.off,so.hr,so.pr⟩,rfl,λ_=>yga _⟩
 | score h=>exact⟨{ sz with scs:=by show (t.scs.set p _).length=np;rw[yue];exact sz.scs },⟨so.perm,so.off,so.hr,so.pr⟩,rfl,λ_=>yga _⟩
 | @draw d h hand hd hh py sy =>
  refine⟨{ sz with decks:=by show (t.decks.set p _).length=np;rw[yue];exact sz.decks,hands:=by show (t.hands.set p _).length=np;rw[yue];exact sz.hands },⟨?_,so.off,λx hx=>?_,so.pr⟩,rfl,λj=>?_⟩
  ·exact (ywj _ (zxkb hd hh py)).trans so.perm
  ·rcases ybi hx with w|w
   ·exact so.hr x w
   ·rw[w];exact sy
  ·show ((t.decks.set p (d.drop z.toNat)).getD j []).length≤_;rw[yza,yza]
   by_cases e:p=j
   ·subst e;rw[yme (ysa.mp hd).1,hd];simp
   ·rw[yud e];exact yga _
theorem zsjb {t:Tab}{nc n:Nat}{cms:List (List Str)}{ms:List Str}{x:Int}{m:Nat}(hne:n≠m)(h:t.marks[m]?=cms[m]?∧t.wnds[m]?=some 0):(t.marks.set n ms)[m]?=cms[m]?∧(t.wnds.set n x)[m]?=some 0:=by
 rw[yud hne,yud hne];exact h
theorem zbrb {t t':Tab}{np nc n:Nat}{kd:Str}{av:V}{os os':List Int}{cms:List (List Str)}(sz:Sz np nc t)(so:StOk t nc os cms)(hn:n<nc)(hm:kd = "come" ∨ (n:Int)∈t.lying)
  (fx:(kd ≠ "come" ∧ os'=os)∨(kd = "come" ∧ ∃i,os[i]?=some (n:Int)∧os'=os.eraseIdx i)) (dd:∀xs:List Int,xs.Nodup->(ISet.dd xs).Perm xs) (h:CrR cms t n av kd t'):Sz np nc t'∧StOk t' nc os' cms∧t'.decks=t.decks∧t'.pts=t.pts∧t'.scs=t.scs:=by
 have szm:∀ms:List Str,(t.marks.set n ms).length=nc:=λms=>by rw[yue];exact sz.marks
 have szw:∀x:Int,(t.wnds.set n x).length=nc:=λx=>by rw[yue];exact sz.wnds
 have nd:(os++t.lying++t.heap++(t.decks++t.hands).flatten).Nodup:=so.perm.nodup_iff.mpr (nodup_range nc);cases h with
 | @come av ms em =>
  obtain⟨i,hi,rfl⟩:∃i,os[i]?=some (n:Int)∧os'=os.eraseIdx i:=by
   rcases fx with⟨a,_⟩|⟨_,a⟩
   ·exact absurd rfl a
   ·exact a
  refine⟨{ sz with marks:=szm _,wnds:=szw _ },⟨?_,λm hm' hl=>?_,so.hr,so.pr⟩,rfl,rfl,rfl⟩
  ·refine yxi.trans ?_ so.perm;have z:=zohb hi;rw[yof] at z ⊢;intro x;have:=z x;simp only[yff,yqo,yci] at this ⊢;omega
  ·have hl':(m:Int)∉t.lying++[(n:Int)]:=hl;have n1:n≠m:=λw=>hl' (ywb _ (by rw[w];exact yia.mpr rfl));exact zsjb (nc:=nc) n1 (so.off m hm' λw=>hl' (yzc _ w))
 | @leave av ms heap em ph sh =>
  obtain rfl:os'=os:=by
   rcases fx with⟨_,a⟩|⟨a,_⟩
   ·exact a
   ·exact absurd a (by decide +kernel)
  have nl:(n:Int)∈t.lying:=by
   rcases hm with w|w
   ·exact absurd w (by decide +kernel)
   ·exact w
  have ndl:t.lying.Nodup:=(ymd.mp (ymd.mp (ymd.mp nd).1).1).2.1;have nhp:(n:Int)∉t.heap:=λw=>(ymd.mp (ymd.mp nd).1).2.2 _ (ywb _ nl) _ w rfl;have ndh:(t.heap++[(n:Int)]).Nodup:=by
   rw[ymd];refine⟨(ymd.mp (ymd.mp nd).1).2.1,by simp,λx hx y hy=>?_⟩;rw[yia.mp hy];rintro rfl;exact nhp hx
  refine⟨{ sz with marks:=szm _,wnds:=szw _ },⟨?_,λm hm' hl=>?_,so.hr,sh⟩,rfl,rfl,rfl⟩
  ·refine yxi.trans ?_ so.perm;have z:=zew ndl nl;have y:=ph.trans (dd _ ndh);rw[yof] at z y ⊢;intro x;have a:=z x;have b:=y x;simp only[yff,yqo,yci] at a b ⊢;omega
  ·by_cases e:n=m
   ·subst e;show (t.marks.set n ms)[n]?=cms[n]?∧(t.wnds.set n 0)[n]?=some 0
    rw[yme (by rw[sz.marks];exact hm'),yme (by rw[sz.wnds];exact hm'),em];exact⟨rfl,rfl⟩
   ·refine zsjb (nc:=nc) e (so.off m hm' λw=>hl ?_);show (m:Int)∈t.lying.filter λx=>!decide (x=(n:Int))
    rw[ymn];refine⟨w,?_⟩;have:¬ (m:Int)=(n:Int):=λq=>e (by omega);simp[this]
 | @hurt x z hx =>
  obtain⟨rfl,nl⟩:os'=os∧(n:Int)∈t.lying:=by
   refine⟨?_,?_⟩
   ·rcases fx with⟨_,a⟩|⟨a,_⟩
    ·exact a
    ·exact absurd a (by decide +kernel)
   ·rcases hm with w|w
    ·exact absurd w (by decide +kernel)
    ·exact w
  refine⟨{ sz with wnds:=szw _ },⟨so.perm,λm hm' hl=>?_,so.hr,so.pr⟩,rfl,rfl,rfl⟩;have e:n≠m:=λw=>hl (by rw[← w];exact nl);have o:=so.off m hm' hl;exact⟨o.1,by show (t.wnds.set n _)[m]?=_;rw[yud e];exact o.2⟩
 | @gain ms zs u hx pz sz' =>
  obtain⟨rfl,nl⟩:os'=os∧(n:Int)∈t.lying:=by
   refine⟨?_,?_⟩
   ·rcases fx with⟨_,a⟩|⟨a,_⟩
    ·exact a
    ·exact absurd a (by decide +kernel)
   ·rcases hm with w|w
    ·exact absurd w (by decide +kernel)
    ·exact w
  refine⟨{ sz with marks:=szm _ },⟨so.perm,λm hm' hl=>?_,so.hr,so.pr⟩,rfl,rfl,rfl⟩;have e:n≠m:=λw=>hl (by rw[← w];exact nl);have o:=so.off m hm' hl;exact⟨by show (t.marks.set n _)[m]?=_;rw[yud e];exact o.1,o.2⟩
 | @lack ms u hx =>
  obtain⟨rfl,nl⟩:os'=os∧(n:Int)∈t.lying:=by
   refine⟨?_,?_⟩
   ·rcases fx with⟨_,a⟩|⟨a,_⟩
    ·exact a
    ·exact absurd a (by decide +kernel)
   ·rcases hm with w|w
    ·exact absurd w (by decide +kernel)
    ·exact w
  refine⟨{ sz with marks:=szm _ },⟨so.perm,λm hm' hl=>?_,so.hr,so.pr⟩,rfl,rfl,rfl⟩;have e:n≠m:=λw=>hl (by rw[← w];exact nl);have o:=so.off m hm' hl;exact⟨by show (t.marks.set n _)[m]?=_;rw[yud e];exact o.1,o.2⟩
theorem zqrb {xs:List Int}(h:xs.Nodup):ISet.dd xs=xs:=by
 have z:∀n,n≤xs.length->ISet.dd (xs.take n)=xs.take n:=by
  intro n
  induction n with
  | zero=>intro _;rw[ywl];rfl
  | succ n ih =>
   intro hn;have e:xs.take (n+1)=xs.take n++[xs[n]]:=(by rw[ydb,yma hn];rfl);have hd:(xs.take n++[xs[n]]).Nodup:=(by rw[← e];exact (ykj _ _).nodup h);have hne:xs[n]∉xs.take n:=λw=>(ymd.mp hd).2.2 _ w _ (yia.mpr rfl) rfl;rw[e,ISet.zdn,ih (by omega),if_neg hne]
 have y:=z xs.length (yga _);rw[yla (yga _)] at y;exact y
theorem keep {t t':Tab}{np nc:Nat}{kd:Str}{th:Int}{av:V}{os os':List Int}{cms:List (List Str)}(sz:Sz np nc t)(so:StOk t nc os cms)(hth:th<nc)(nx:NxR np nc os kd th av os')(h:HpR cms t kd th av t') :
  Sz np nc t'∧StOk t' nc os' cms∧∀j,(t'.decks.getD j []).length≤(t.decks.getD j []).length:=by
 have fx:=nx.facts so.out;cases h with
 | no h0 =>
  rcases fx with⟨_,rfl⟩|⟨_,_,rfl⟩|⟨h1,rfl,_⟩
  ·exact⟨sz,so,λ_=>yga _⟩
  ·exact⟨sz,so,λ_=>yga _⟩
  ·exfalso;unfold hpM at h0;rw[if_neg (by omega),decide_eq_true rfl,yko] at h0;cases h0
 | pl g pr =>
  rcases fx with⟨_,rfl⟩|⟨h1,_⟩|⟨h1,_⟩
  ·obtain⟨a,b,_,c⟩:=zarb sz so pr;exact⟨a,b,c⟩
  ·omega
  ·omega
 | cr g cr =>
  rename_i n;have fx':(kd ≠ "come" ∧ os'=os)∨(kd = "come" ∧ ∃i:Nat,os[i]?=some (n:Int)∧os'=os.eraseIdx i):=by
   rcases fx with⟨h1,_⟩|⟨_,a,b⟩|⟨_,a,b⟩
   ·omega
   ·exact .inl ⟨a,b⟩
   ·exact .inr ⟨a,b⟩
  obtain⟨a,b,c,_⟩:=zbrb sz so (by omega) g fx' (λxs hx=>by rw[zqrb hx]) cr;exact⟨a,b,λj=>by rw[c];exact yga _⟩
theorem counts {t t':Tab}{kd:Str}{th:Int}{av:V}{ps ss:List Int}{cms:List (List Str)}{np:Nat}(hg:t.gone.length=np)(hth:-(np:Int)≤th)(hk:0≤th->kd ≠ "lose" ∧ kd ≠ "score")(c:CnR t kd th av ps ss)(h:HpR cms t kd th av t'):t'.pts=ps∧t'.scs=ss:=by
 cases h with
 | no h0 =>
  cases c with
  | @lose p x z g hx =>
   exfalso;unfold hpM at h0;rw[if_pos (by omega),show (-1-(-1-(p:Int))).toNat=p by omega,yza,g] at h0;cases h0
  | @score p x z g hx =>
   exfalso;unfold hpM at h0;rw[if_pos (by omega),show (-1-(-1-(p:Int))).toNat=p by omega,yza,g] at h0;cases h0
  | gone _=>exact⟨rfl,rfl⟩
  | other _ _=>exact⟨rfl,rfl⟩
 | pl g pr =>
  rename_i p z;generalize hq:-1-(p:Int)=q at c;generalize hv:V.int z=v at c;cases c with
  | @lose p2 x z2 g2 hx =>
   obtain rfl:p=p2:=by omega
   injection hv with hv
   subst hv;cases pr with
   | lose hx'=>rw[hx] at hx';cases hx';exact⟨rfl,rfl⟩
  | @score p2 x z2 g2 hx =>
   obtain rfl:p=p2:=by omega
   injection hv with hv
   subst hv;cases pr with
   | score hx'=>rw[hx] at hx';cases hx';exact⟨rfl,rfl⟩
  | @gone _ p2 _ g2 =>
   obtain rfl:p=p2:=by omega
   rw[g] at g2;cases g2
  | other n1 n2 =>
   cases pr with
   | lose _=>exact absurd rfl n1
   | score _=>exact absurd rfl n2
   | draw _ _ _ _=>exact⟨rfl,rfl⟩
 | cr g cr =>
  rename_i n;obtain⟨k1,k2⟩:=hk (by omega);have e:ps=t.pts∧ss=t.scs:=by
   generalize hq:(n:Int)=q at c;cases c with
   | lose _ _=>exact absurd rfl k1
   | score _ _=>exact absurd rfl k2
   | gone _=>exact⟨rfl,rfl⟩
   | other _ _=>exact⟨rfl,rfl⟩
  rw[e.1,e.2];cases cr<;>exact⟨rfl,rfl⟩
theorem zvjb {t t':Tab}{kd:Str}{th:Int}{av:V}{cms:List (List Str)}{b:Nat}(hb:∀m∈t.marks,m.length≤b)(hc:∀m∈cms,m.length≤b+1)(h:HpR cms t kd th av t'):∀m∈t'.marks,m.length≤b+1:=by
 have old:∀m∈t.marks,m.length≤b+1:=λm hm=>yom (hb m hm);have put:∀(n:Nat) (ms:List Str),ms.length≤b+1->∀m∈t.marks.set n ms,m.length≤b+1:=λn ms hl m hm=>by
  rcases ybi hm with w|w
  ·exact old m w
  ·rw[w];exact hl
 cases h with
 | no _=>exact old
 | pl g pr =>
  cases pr with
  | lose _=>exact old
  | score _=>exact old
  | draw _ _ _ _=>exact old
 | cr g cr =>
  cases cr with
  | come em=>exact put _ _ (hc _ (ybb em))
  | leave em _ _=>exact put _ _ (hc _ (ybb em))
  | hurt _=>exact old
  | @gain ms zs u hx pz sz =>
   refine put _ _ ?_;have a:=zdpb (ms++[u]);have c:=hb ms (ybb hx);rw[yea,yvc] at a;rw[pz.length_eq];omega
  | @lack ms u hx =>
   refine put _ _ ?_;have a:=yph (λx=>!decide (x=u)) ms;have c:=hb ms (ybb hx);omega
theorem ztv (f:Nat->List Int)(k:Nat):∀n:Nat,((ypb n).map (λp=>(f p).drop k)++(ypb n).map λp=>(f p).take k).flatten.Perm ((ypb n).map f).flatten
 | 0=>.refl _
 | n+1=>by
  have ih:=ztv f k n;simp only[yrg,yxa,yib,ycf,yec,ybc,yfi,yfc] at ih ⊢;rw[yof] at ih ⊢;intro x;have a:=ih x;have e:(f n).count x=((f n).take k).count x+((f n).drop k).count x:=by
   rw[← yff,yqh]
  simp only[yff] at a ⊢;omega
theorem zghb (os:List Int)(p:Int)(i:Nat):(nums os p i).Pairwise (· ≤ ·):=by
 unfold nums;rw[ynm];exact ((yrf (n:=i)).filter _).imp λh=>by omega
theorem znab (os:List Int)(np:Nat)(h:∀o∈os,0≤o∧o<np):∀i,i≤os.length->((ypb np).map λp:Nat=>nums os (p:Int) i).flatten.Perm (zwd i)
 | 0,_=>by
  have e:∀n:Nat,((ypb n).map λp:Nat=>nums os (p:Int) 0).flatten=[]:=λn=>by
   rw[List.flatten_eq_nil_iff];intro l hl;obtain⟨p,_,rfl⟩:=ycc.mp hl;rfl
  rw[e];exact .refl _
 | i+1,hi=>by
  have ih:=znab os np h i (by omega);have hlt:i<os.length:=hi;obtain⟨o0,o1⟩:=h os[i] (yck hlt);have st:∀n:Nat,((ypb n).map λp:Nat=>nums os (p:Int) (i+1)).flatten.Perm (((ypb n).map λp:Nat=>nums os (p:Int) i).flatten++if os[i]<(n:Int) then [(i:Int)] else []):=by
   intro n
   induction n with
   | zero =>
    rw[if_neg (by omega)];exact .refl _
   | succ n ih2 =>
    simp only[yrg,yxa,yib,ycf,yec,ybc,yfi,yfc];rw[zot,yma hlt];rw[yof] at ih2 ⊢;intro x;have a:=ih2 x;simp only[yff] at a ⊢
    by_cases c1:os[i]<(n:Int)
    ·rw[if_pos c1] at a;rw[if_neg (by intro z;injection z with z;omega),if_pos (by omega)];simp only[yci] at a ⊢;omega
    ·rw[if_neg c1] at a
     by_cases c2:os[i]=(n:Int)
     ·rw[if_pos (by rw[c2]),if_pos (by omega)];simp only[yci] at a ⊢;omega
     ·rw[if_neg (by intro z;injection z with z;exact c2 z),if_neg (by omega)];simp only[yci] at a ⊢;omega
  have z:=st np;rw[if_pos o1] at z;refine z.trans ?_;have e:zwd (i+1)=zwd i++[(i:Int)]:=by
   unfold zwd;rw[yrg,yxa];rfl
  rw[e];exact ih.append_right _
theorem zktb (dss:List (List Crd))(n:Nat):∀o∈own dss n,0≤o∧o<n:=by
 intro o ho;unfold own at ho;obtain⟨j,hj,h⟩:=List.mem_flatMap.mp ho;have:=ywh.mp hj;rw[(List.mem_replicate.mp h).2];omega
theorem zzub {os:List Int}{np:Nat}{cms:List (List Str)}(n4:np≤4)(c16:cms.length≤16):Sz np cms.length (tab0 os np cms) where
 pts:=by unfold tab0;exact ygc
 scs:=by unfold tab0;exact ygc
 gone:=by unfold tab0;exact ygc
 decks:=by unfold tab0;rw[yba,yrb]
 hands:=by unfold tab0;rw[yba,yrb]
 marks:=rfl
 wnds:=by unfold tab0;exact ygc
 np4:=n4
 nc16:=c16
theorem st0 {os:List Int}{np:Nat}{cms:List (List Str)}(hl:os.length=cms.length)(h:∀o∈os,0≤o∧o<np):StOk (tab0 os np cms) cms.length [] cms where
 perm:=by
  show ([]++[]++[]++((ypb np).map (λp:Nat=>(nums os (p:Int) os.length).drop 3)++(ypb np).map λp:Nat=>(nums os (p:Int) os.length).take 3).flatten).Perm (zwd cms.length)
  rw[← hl];exact (ztv (λp:Nat=>nums os (p:Int) os.length) 3 np).trans (znab os np h os.length (yga _))
 off:=λn hn _=>⟨rfl,by show (ylb cms.length (0:Int))[n]?=some 0;rw[yti,if_pos hn]⟩
 hr:=λx hx=>by
  have hx':x∈(ypb np).map λp:Nat=>(nums os (p:Int) os.length).take 3:=hx;obtain⟨p,_,rfl⟩:=ycc.mp hx';exact (zghb os p os.length).sublist (ykj _ _)
 pr:=.nil
theorem taken {t:Tab}{nc p:Nat}{n:Int}{h os:List Int}{cms:List (List Str)}(so:StOk t nc os cms)(hh:t.hands[p]?=some h)(hn:n∈h):StOk { t with hands:=t.hands.set p (h.filter λx=>!decide (x=n)) } nc (os++[n]) cms where
 perm:=by
  refine yxi.trans ?_ so.perm;have nd:(os++t.lying++t.heap++(t.decks++t.hands).flatten).Nodup:=so.perm.nodup_iff.mpr (nodup_range nc);have ndh:h.Nodup:=by
   have s:h.Sublist (t.decks++t.hands).flatten:=yrh (ywb _ (ybb hh));exact s.nodup (ymd.mp nd).2.1
  have z:=zew ndh hn;have a:=zzt hh;have b:=zzx (e:=h.filter λx=>!decide (x=n)) hh;show (os++[n]++t.lying++t.heap++(t.decks++t.hands.set p (h.filter λx=>!decide (x=n))).flatten).Perm _
  rw[yec,yec];rw[yof] at z a b ⊢;intro x;have z':=z x;have a':=a x;have b':=b x;simp only[yff,yqo,yci] at z' a' b' ⊢;omega
 off:=so.off
 hr:=λx hx=>by
  rcases ybi hx with w|w
  ·exact so.hr x w
  ·rw[w];exact (so.hr h (ybb hh)).sublist List.filter_sublist
 pr:=so.pr
theorem zanb {X:Cx}{tg l:Expr}{tl:TE}(K:yda)(hl:PE X l tl)(hK:X.K=K:=by rfl):PI X tg l (zoub K tl):=hK▸zag hl
theorem CT.keep {H H':Hp}(f:∀a x xs,H a=some (.lst (.str x::xs))->H' a=some (.lst (.str x::xs)))(g:∀a xs,H a=some (.tup xs)->H' a=some (.tup xs)){v:V}{c:Crd}(h:CT H v c):CT H' v c:=by
 obtain⟨l,m,x2,x3,x4,e,h1,h2,h3⟩:=h;exact⟨l,m,x2,x3,x4,e,f _ _ _ h1,g _ _ h2,h3⟩
theorem zmdb {H:Hp}{d a:Addr}{us:List Int}{x:Str}{xs:List V}(e:H d=some (.lst (iM us)))(h:H a=some (.lst (.str x::xs))):a≠d:=λz=>by
 rw[z,e] at h;injection h with h
 injection h with h
 cases us with
 | nil=>cases h
 | cons y r=>injection h with h;cases h
theorem zetb {K:yda}{H:Hp}{p a:Addr}{k:Int}{x:Str}{xs:List V}(t:Tk K H p k)(h:H a=some (.lst (.str x::xs))):a≠p:=λz=>by
 obtain⟨b,e⟩:=t.two;rw[z,e] at h;injection h with h
 injection h with h
 cases h
def But4 (p ol pl sl:Addr)(H H':Hp):Prop:=∀a o,a≠p->a≠ol->a≠pl->a≠sl->H a=some o->H' a=some o
structure Ne4 (p ol pl sl:Addr):Prop where
 op:ol≠p
 pp:pl≠p
 sp:sl≠p
 po:pl≠ol
 so:sl≠ol
 ps:pl≠sl
structure LI (K:yda)(p ol pl sl:Addr)(H0 Hx:Hp)(tv:V)(t:Tab)(os ps ss:List Int)(k:Int):Prop where
 b:But4 p ol pl sl H0 Hx
 tt:TabT Hx tv t
 eo:Hx ol=some (.lst (iM os))
 ep:Hx pl=some (.lst (iM ps))
 es:Hx sl=some (.lst (iM ss))
 tk:Tk K Hx p k
section
variable {K:yda}{p ol pl sl:Addr}{H0 Hx Hy:Hp}{tv:V}{t:Tab}{os ps ss:List Int}{k:Int}
theorem Kp.two {x y:Addr}{us ws:List V}(e1:Hx x=some (.lst us))(e2:Hx y=some (.lst ws))(b:But2 x y Hx Hy):Kp Hx Hy:=λa o n h=>b a o (λz=>by rw[z,e1] at h;injection h with h;exact n _ h.symm) (λz=>by rw[z,e2] at h;injection h with h;exact n _ h.symm) h
theorem LI.same (h:LI K p ol pl sl H0 Hx tv t os ps ss k)(s:Same Hx Hy):LI K p ol pl sl H0 Hy tv t os ps ss k :=
 ⟨λa o n1 n2 n3 n4 z=>s _ _ (h.b a o n1 n2 n3 n4 z),h.tt.kp (Kp.same s),s _ _ h.eo,s _ _ h.ep,s _ _ h.es,h.tk.same s⟩
theorem LI.tab (h:LI K p ol pl sl H0 Hx tv t os ps ss k){v':V}{t':Tab}(s:Same Hx Hy)(z:TabT Hy v' t'):LI K p ol pl sl H0 Hy v' t' os ps ss k:={ h.same s with tt:=z }
theorem LI.but (n:Ne4 p ol pl sl)(h:LI K p ol pl sl H0 Hx tv t os ps ss k){k':Int}(b:But p Hx Hy)(T:Tk K Hy p k'):LI K p ol pl sl H0 Hy tv t os ps ss k' :=
 ⟨λa o n1 n2 n3 n4 z=>b _ _ n1 (h.b a o n1 n2 n3 n4 z),h.tt.kp (Kp.but h.tk b),b _ _ n.op h.eo,b _ _ n.pp h.ep,b _ _ n.sp h.es,T⟩
theorem LI.put (n:Ne4 p ol pl sl)(h:LI K p ol pl sl H0 Hx tv t os ps ss k)(os':List Int):LI K p ol pl sl H0 (upd Hx ol (.lst (iM os'))) tv t os' ps ss k :=
 ⟨λa o n1 n2 n3 n4 z=>by rw[zdb n2];exact h.b a o n1 n2 n3 n4 z,h.tt.kp (Kp.put h.eo),zia,by rw[zdb n.po];exact h.ep,by rw[zdb n.so];exact h.es,h.tk.other h.eo (ywc n.op)⟩
theorem LI.next (n:Ne4 p ol pl sl)(h:LI K p ol pl sl H0 Hx tv t os ps ss k){k':Int}{os':List Int}(b:But2 p ol Hx Hy)(T:Tk K Hy p k')(eo:Hy ol=some (.lst (iM os'))):LI K p ol pl sl H0 Hy tv t os' ps ss k':=by
 obtain⟨c,ep⟩:=h.tk.two;exact⟨λa o n1 n2 n3 n4 z=>b _ _ n1 n2 (h.b a o n1 n2 n3 n4 z),h.tt.kp (Kp.two ep h.eo b),eo,b _ _ n.pp n.po h.ep,b _ _ n.sp n.so h.es,T⟩
theorem LI.cnt (n:Ne4 p ol pl sl)(h:LI K p ol pl sl H0 Hx tv t os ps ss k){ps' ss':List Int}(b:But2 pl sl Hx Hy)(e1:Hy pl=some (.lst (iM ps')))(e2:Hy sl=some (.lst (iM ss'))):LI K p ol pl sl H0 Hy tv t os ps' ss' k:=by
 refine⟨λa o n1 n2 n3 n4 z=>b _ _ n3 n4 (h.b a o n1 n2 n3 n4 z),h.tt.kp (Kp.two h.ep h.es b),b _ _ (ywc n.po) (ywc n.so) h.eo,e1,e2,?_⟩;obtain⟨⟨a,ns,h1,h2,h3⟩,lo⟩:=h.tk;exact⟨⟨a,ns,b _ _ (ywc n.pp) (ywc n.sp) h1,h2.keep λo u z=>b _ _ (zdl z h.ep (by intro y;cases y)) (zdl z h.es (by intro y;cases y)) z,h3⟩,lo⟩
theorem Kp.four {k:Int}{us ps ss:List Int}(T:Tk K H0 p k)(eo:H0 ol=some (.lst (iM us)))(ep:H0 pl=some (.lst (iM ps)))(es:H0 sl=some (.lst (iM ss)))(b:But4 p ol pl sl H0 Hx):Kp H0 Hx:=λa o n h=>by
 obtain⟨c,e⟩:=T.two;refine b a o (λz=>?_) (λz=>?_) (λz=>?_) (λz=>?_) h
 ·rw[z,e] at h;injection h with h;exact n _ h.symm
 ·rw[z,eo] at h;injection h with h;exact n _ h.symm
 ·rw[z,ep] at h;injection h with h;exact n _ h.symm
 ·rw[z,es] at h;injection h with h;exact n _ h.symm
theorem CT.four {k:Int}{us ps ss:List Int}(T:Tk K H0 p k)(eo:H0 ol=some (.lst (iM us)))(ep:H0 pl=some (.lst (iM ps)))(es:H0 sl=some (.lst (iM ss)))(b:But4 p ol pl sl H0 Hx){v:V}{c:Crd}(h:CT H0 v c):CT Hx v c :=
 h.keep (λa x xs z=>b _ _ (zetb T z) (zmdb eo z) (zmdb ep z) (zmdb es z) z) λa xs z=>(Kp.four T eo ep es b).t z
end
theorem zsnb (n:Nat):ixN (n+1) (-1)=some n:=by
 unfold ixN;rw[if_neg (by omega)];simp;omega
theorem zwrb (os:List Int)(n:Int):atI (iM (os++[n])) (-1)=some (.int n):=by
 unfold atI;rw[zfl,yea,yvc,zsnb];show (iM (os++[n]))[os.length]?=some (.int n)
 unfold iM;rw[yqa,yic (yga _),yak];rfl
theorem NxR.more {np nc:Nat}{os os':List Int}{kd:Str}{th:Int}{av:V}(h:NxR np nc os kd th av os')(ho:∀n∈os,0≤n∧n<nc) :
  kd∈zge∧(kd∈(["lose","score"]:List Str)->Ex2 λ(p:Nat) (z:Int)=>p<np∧th = -1-(p:Int)∧av = .int z) ∧ -(np:Int)≤th∧th<nc∧(th<0->kd∈zqc∧∃z:Int,av = .int z∧0≤z)∧(0≤th->CrK kd av)∧(0≤th->kd ≠ "lose" ∧ kd ≠ "score"):=by
 have n1:("come":Str)∉(["lose","score"]:List Str):=by decide +kernel
 have n2:("leave":Str)∉(["lose","score"]:List Str):=by decide +kernel
 have n3:("hurt":Str)∉(["lose","score"]:List Str):=by decide +kernel
 cases h with
 | @pl kd p z hk hp hz =>
  have w:∀kd∈zqc,kd∈zge:=by decide +kernel
  exact⟨w kd hk,λ_=>⟨p,z,hp,rfl,rfl⟩,by omega,by omega,λ_=>⟨hk,z,rfl,hz⟩,λz=>by omega,λz=>by omega⟩
 | come h =>
  have g:=ho _ (ybb h);exact⟨by decide +kernel,λz=>absurd z n1,by omega,g.2,λz=>by omega,λ_=>.inl rfl,λ_=>by decide +kernel⟩
 | leave a b=>exact⟨by decide +kernel,λz=>absurd z n2,by omega,b,λz=>by omega,λ_=>.inr (.inl rfl),λ_=>by decide +kernel⟩
 | hurt a b=>exact⟨by decide +kernel,λz=>absurd z n3,by omega,b,λz=>by omega,λ_=>.inr (.inr (.inl ⟨rfl,_,rfl⟩)),λ_=>by decide +kernel⟩
 | @mark kd u n hk _ a b =>
  have w:∀kd∈(["gain","lack"]:List Str),kd∈zge∧kd∉(["lose","score"]:List Str)∧kd ≠ "lose" ∧ kd ≠ "score":=by decide +kernel
  obtain⟨w1,w2,w3⟩:=w kd hk;refine⟨w1,λz=>absurd z w2,by omega,b,λz=>by omega,λ_=>.inr (.inr (.inr ⟨?_,u,rfl⟩)),λ_=>w3⟩
  simpa using hk
theorem zprb {H:Hp}{ds:List V}{dss:List (List Crd)}(h:All2 (DkT H) ds dss):Ex2 λ(bs:List Addr) (yss:List (List V))=>ds=bs.map V.ref∧bs.length=yss.length∧(∀(i:Nat) b ys,bs[i]?=some b->yss[i]?=some ys->H b=some (.lst ys))∧All2 (CT H) yss.flatten dss.flatten:=by
 induction h with
 | nil=>exact⟨[],[],rfl,rfl,λi b ys hb=>by simp at hb,.nil⟩
 | cons r _ ih =>
  obtain⟨bs,yss,e,hl,hr,al⟩:=ih;obtain⟨d,vs,rfl,ed,alv,_⟩:=r;refine⟨d::bs,vs::yss,by rw[e];rfl,by rw[yja,yja,hl],λi b ys hb hy=>?_,?_⟩
  ·cases i with
   | zero =>
    rw[yhe] at hb hy;cases hb;cases hy;exact ed
   | succ i =>
    rw[ytb] at hb hy;exact hr i b ys hb hy
  ·rw[ybc,ybc];exact All2.app alv al
theorem zntb (T:Tx K mg)(kb:K.In base):FnOk P w K mg base CX0 16 T.zdib.f T.zdib.d zyub (zjmb K):=by
 refine T.zdib.ok zwf ?_;rintro f c A o s H vs Q E hr ⟨sa,sc,rfl,hS,h63,q⟩ X;refine⟨_,  (zca (zoa (i:=1) zwf.nd rfl (.inl rfl) (zgd (zaa (pv 0) (zaa zfa zba))))
  (zca (zoa (i:=2) zwf.nd rfl (.inl rfl) (zga (zlx T).up hr rfl T.zee.m T.zee.F.kp (zzbb T) .nil zpa (zaa (pv 1) zba)))
  (zca (zoa (i:=3) zwf.nd rfl (.inl rfl) (zga (zmx T) hr rfl T.zfe.m T.zfe.F.kp (zacb T) .nil zpa (zaa (pv 1) (zaa (pv 2) zba))))
  (zca (zoa (i:=4) zwf.nd rfl (.inl rfl) (zza (zav rfl) rfl T.zbib boot_sum (zaa (pv 3) (zaa (zgd zba) zba))))
  (zca (znm (zga (zinb T kb).up hr rfl T.ztm.m T.ztm.F.kp (zurb T) .nil zpa (zaa (zwc (own:=["_law_deck"]) (cap:=[]) rfl (zsb.chk rfl rfl) .nil (zag (pv 3)) (λ_ _ _ _=>(zeb (i:=0) (show yyc (["_law_deck"]:List Str) by decide +kernel) rfl (.inl rfl))) (λ_ _ _ _=>zle) (λ_ _ _ _=>by exact (zwc (own:=["_law_card_here"]) (cap:=[]) rfl (zsb.chk rfl rfl) .nil (zanb K (pv 0)) (λ_ _ _ _=>(zeb (i:=0) (show yyc (["_law_card_here"]:List Str) by decide +kernel) rfl (.inl rfl))) (λ_ _ _ _=>zle) (λ_ _ _ _=>by exact (zbb (zyfb K) (pv 0) zfa (λ_ _=>rfl)))))) zba)) (zer (n:=3) rfl (zlc (zeb (i:=5) zwf.nd rfl (.inl rfl)) (zlc (zeb (i:=6) zwf.nd rfl (.inl rfl)) (zlc (zeb (i:=7) zwf.nd rfl (.inr rfl)) zbl)))))
  (zca (zoa (i:=8) zwf.nd rfl (.inl rfl) (zya zxb rfl T.zeg yzf (zaa (zbb zab (pv 7) zfa (λ_ _=>rfl)) zba)))
  (zca (zoa (i:=9) zwf.nd rfl (.inl rfl) (zya zxb rfl T.zeg yzf (zaa (zbb zab (pv 7) zfa (λ_ _=>rfl)) zba)))
  (zca (zoa (i:=10) zwf.nd rfl (.inl rfl) (zgd zba))
  (zca (zoa (i:=11) zwf.nd rfl (.inl rfl) (zga (zla T).up hr rfl T.zda.m T.zda.F.kp (zsa T) .nil zpa (zaa (pv 1) (zaa zfa zba))))
  (zca (zlm yzd rfl (zzf rfl T.zfg (zaa zfa zba)) (zeb (i:=12) zwf.nd rfl (.inl rfl))
   (zca (zoa (i:=13) zwf.nd rfl (.inl rfl) (zga (zla T).up hr rfl T.zda.m T.zda.F.kp (zsa T) .nil zpa (zaa (pv 1) (zaa (zza zwa rfl T.zre yjb (zaa (pv 3) zba)) zba))))
   (zca (zvb (PW.pt (zrv (zna (zro hr.units) (zbb zab (zbb zab (pv 7) zfa (λ_ _=>rfl)) (pv 13) (λ_ _=>rfl)) (ztb zba) (zgb _)) (zqp (zna zne (zga (zla T).up hr rfl T.zda.m T.zda.F.kp (zsa T) .nil zpa (zaa (pv 1) (zaa zfa zba))) zfa (zgb _)))))
    (zca (zme (zdi yac yed yfd zeh (pv 10) (zaa (zbb zab (zbb zab (zbb zab (pv 7) zfa (λ_ _=>rfl)) (pv 13) (λ_ _=>rfl)) (zga (zla T).up hr rfl T.zda.m T.zda.F.kp (zsa T) .nil zpa (zaa (pv 1) (zaa (zza zwa rfl T.zre yjb (zaa (zbb zab (zbb zab (pv 7) zfa (λ_ _=>rfl)) (pv 13) (λ_ _=>rfl)) zba)) zba))) (λ_ _=>rfl)) zba)))
    (zea (zoa (i:=7) zwf.nd rfl (.inr rfl) (zga (zvp T).up hr rfl T.zpc.m T.zpc.F.kp (zvr T) .nil zpa (zaa (pv 7) (zaa (pv 13) (zaa (zbb znc (pv 10) (zbx zdo zfa) (λ_ _=>rfl)) zba)))))))
    zva)
   (zca (zvb (zna zne (pv 12) (pv 11) (zgb _))
    (zea (zoa (i:=7) zwf.nd rfl (.inr rfl) (zga (zjab T).up hr rfl T.zef.m T.zef.F.kp (zydb T) .nil zpa (zaa (pv 7) (zaa (pv 13) zba)))))
    zva)
   (zca (zoa (i:=14) zwf.nd rfl (.inl rfl) (zga (ziab T).up hr rfl T.zdf.m T.zdf.F.kp (zxdb T) .nil zpa (zaa (pv 1) (zaa (pv 2) (zaa (pv 7) (zaa (pv 10) zba))))))
   (zca (zme (zga (znt T).up hr rfl T.zbd.m T.zbd.F.kp (zcv T) .nil zpa (zaa (pv 7) (zaa (pv 14) (zaa (pv 8) (zaa (pv 9) zba))))))
   (zca (zoa (i:=15) zwf.nd rfl (.inr rfl) (zwc (own:=["_law_deck"]) (cap:=[]) rfl (zsb.chk rfl rfl) .nil (ztz (zbb zab (pv 7) zfa (λ_ _=>rfl))) (λ_ _ _ _=>(zeb (i:=0) (show yyc (["_law_deck"]:List Str) by decide +kernel) rfl (.inl rfl))) (λ_ _ _ _=>zle) (λ_ _ _ _=>by exact (zza (zfp K) rfl T.zre yjb (zaa (pv 0) zba)))))
   (zca (zoa (i:=7) zwf.nd rfl (.inr rfl) (zga (zrjb T).up hr rfl T.zwj.m T.zwj.F.kp (ziob T) .nil zpa (zaa (pv 5) (zaa (pv 7) (zaa (pv 14) zba)))))
   (zca (zvb (PW.pt (zjjb (zal (zkm (zza zen rfl T.zof ymo (zaa (pv 7) (zaa (zzcb (v:=.ty "tuple") rfl T.zkd yqe rfl) zba))))) (zjjb (zna zqjb (zza zwa rfl T.zre yjb (zaa (pv 7) zba)) zfa (zgb _)) (zjfb (zal (zkm (zga (zyu T).up hr rfl T.zod.m T.zod.F.kp (zry T) .nil zpa (zaa (pv 7) (zaa (pv 4) (zaa (pv 10) zba))))))))))
    (zea (zta zjt))
    zva)
   (zca (zvb (PW.pt (zjjb (zna (zro hr.units) (zya zxb rfl T.zeg yzf (zaa (zbb zab (pv 7) zfa (λ_ _=>rfl)) zba)) (pv 8) (zgb _)) (zjfb (zna (zro hr.units) (zya zxb rfl T.zeg yzf (zaa (zbb zab (pv 7) zfa (λ_ _=>rfl)) zba)) (pv 9) (zgb _)))))
    (zea (zta zjt))
    zva)
   (zea (zvb (zna zkt (zza zwa rfl T.zre yjb (zaa (zwc (own:=["_law_j"]) (cap:=["_law_decks_before","_law_table"]) rfl (zsb.chk rfl rfl) (.cons (j:=15) rfl (.inl rfl) (.inl rfl) (.cons (j:=7) rfl (.inl rfl) (.inl rfl) .nil)) (zzf rfl T.zfg (zaa (zza zwa rfl T.zre yjb (zaa (pv 3) zba)) zba)) (λ_ _ _ _=>(zeb (i:=0) (show yyc (["_law_j","_law_decks_before","_law_table"]:List Str) by decide +kernel) rfl (.inl rfl))) (λ_ _ _ _=>zsp (zna zkt (zza (zfp K) rfl T.zre yjb (zaa (zbb (zldb K) (zbb (zldb K) (pv 2) zfa (λ_ _=>rfl)) (pv 0) (λ_ _=>rfl)) zba)) (zbb (zyfb K) (pv 1) (pv 0) (λ_ _=>rfl)) (zgb _))) (λ_ _ _ _=>by exact (pv 0))) zba)) zfa (zgb _))
    (zea (zta zjt))
    zva))))))))))))
  (zea (zta zjt)))))))))))),?_⟩
 refine⟨_,rfl,sz2,λp hp=>?_⟩;have T1:=Tk.begin hp hS h63;generalize upd H p (.lst [.ref sa,.int 0])=H1 at T1 ⊢;refine⟨_,rfl,p,0,rfl,T1,by decide,λnl ns k2 H2 B2 T2 hk2 _ N2=>?_⟩;refine⟨_,rfl,_,rfl,p,nl,k2,ns,rfl,T2,by omega,N2,λdl ds dss k3 H3 B3 T3 hk3 hdl ed al d2 d4=>?_⟩;have N3:=N2.but T2 B3;obtain⟨bs,yss,rfl,hbl,hrw,alf⟩:=zprb al;have dz:∀cs∈dss,1≤cs.length∧cs.length≤4:=λcs hc=>by
  obtain⟨v,_,⟨d,_,_,_,_,h1,h2⟩⟩:=al.mem2 hc;exact⟨h1,h2⟩
 have fl:=zek dz;have bl2:bs.length=dss.length:=by
  have:=al.len;rw[yba] at this;exact this
 have fl2:=alf.len;refine⟨_,rfl,sz0,λem hem=>?_⟩;refine laid hem λH4 S4 e4=>?_;refine⟨dl,em,bs,yss,rfl,S4 _ _ ed,e4,hbl,λi b ys hb hy=>S4 _ _ (hrw i b ys hb hy),(λz=>by rw[z] at bl2;simp at bl2;omega),small (by omega),λcl hcl=>?_⟩;refine laid hcl λH5 S5 e5=>?_;have S35:=S4.trans S5;have ed5:=S35 _ _ ed;have al5:All2 (DkT H5) (bs.map V.ref) dss:=al.imp λz=>z.same S35;refine⟨_,rfl,dl,rfl,⟨_,SqL.of ed5⟩,?_⟩;refine ztd (xs:=bs.map V.ref) (λi ys H'=>Same H5 H'∧All2 (DtT H') ys (dss.take i)) (λi ys H' z=>SqL.of (z.1 _ _ ed5)) ⟨Same.refl _,.nil⟩ ?_ ?_ ?_
 ·rintro i ys H' ⟨_,al'⟩;have:=al'.len;rw[ygb] at this;exact small (by omega)
 ·rintro i v ys H' hv ⟨S,al'⟩;obtain⟨cs,hcs,d,vs,rfl,edv,alv,c1,c4⟩:=al5.get hv;refine⟨rfl,_,rfl,d,rfl,⟨_,SqL.of (S _ _ edv)⟩,?_⟩;refine ztd (xs:=vs) (λj zs H''=>H''=H'∧zs=(cs.take j).map λc=>V.str c.text) (λj zs H'' z=>by rw[z.1];exact SqL.of (S _ _ edv)) ⟨rfl,rfl⟩ ?_ ?_ ?_
  ·rintro j zs H'' ⟨_,rfl⟩;rw[yba,ygb];exact small (by omega)
  ·rintro j u zs H'' hu ⟨rfl,rfl⟩;obtain⟨cc,hcc,l,m,x2,x3,x4,rfl,el,_⟩:=alv.get hu;refine⟨rfl,_,rfl,l,_,_,_,rfl,rfl,SqL.of (S _ _ el),zra (j:=0) rfl,rfl,?_⟩;rw[ydb,hcc,yub,yxa];rfl
  ·rintro zs H'' ⟨rfl,rfl⟩ l hl;rw[alv.len,yla (yga _)];refine laid hl λH6 S6 e6=>⟨S.trans S6,?_⟩;rw[ydb,hcs,yub];refine All2.snoc ⟨l,rfl,e6,c1,c4,λc hc=>?_⟩ (al'.imp λz=>?_)
   ·obtain⟨d,e,h1,h2⟩:=z;exact⟨d,e,S6 _ _ h1,h2⟩
   ·obtain⟨u,_,⟨_,_,_,_,_,_,_,_,ck,_,nh⟩⟩:=alv.mem2 hc;exact⟨ck,nh⟩
 rintro ys H6 ⟨S6,al6⟩ l6 hl6;rw[yba,bl2,yla (yga _)] at al6;refine laid hl6 λH7 S7 e7=>?_;have al7:All2 (DtT H7) ys dss:=al6.imp λz=>by
  obtain⟨d,e,h1,h2⟩:=z;exact⟨d,e,S7 _ _ h1,h2⟩
 refine⟨l6,ys,dss,rfl,e7,al7,d2,d4,λt ca oa tv H8 S8 et CD TT=>?_⟩;refine⟨t,_,rfl,SqT.of et,rfl,_,_,rfl,_,_,rfl,_,_,rfl,rfl,?_⟩;obtain⟨a,v0,v1,v2,v3,v4,v5,v6,v7,v8,rfl,ea,TP⟩:=id TT;obtain⟨b0,rfl,e0⟩:=TP.p0;obtain⟨b1,rfl,e1⟩:=TP.p1;refine⟨_,rfl,a,_,_,_,rfl,rfl,SqT.of ea,zra (j:=0) rfl,b0,_,rfl,.inr (SqT.of e0),λpl hpl=>?_⟩;refine laid hpl λH9 S9 e9=>?_;refine⟨_,rfl,a,_,_,_,rfl,rfl,SqT.of (S9 _ _ ea),zra (j:=1) rfl,b1,_,rfl,.inr (SqT.of (S9 _ _ e1)),λsl hsl=>?_⟩;refine laid hsl λH10 S10 e10=>?_;refine⟨sz0,λol hol=>?_⟩;refine laid hol λH11 S11 e11=>?_;have S311:=S35.trans (S6.trans (S7.trans (S8.trans (S9.trans (S10.trans S11)))));have T11:=T3.same S311;refine⟨_,rfl,p,k3,80,rfl,T11,by omega,by decide,λlost H12 x0 x1 B12 T12=>?_⟩;refine⟨20,rfl,by decide,by decide,?_⟩;have S38:=S35.trans (S6.trans (S7.trans S8));have T8:=T3.same S38;have T9:=T8.same S9;have ne:Ne4 p ol pl sl:=⟨ywc ((T9.same S10).ne hol),ywc (T8.ne hpl),ywc (T9.ne hsl),zka (S10 _ _ e9) hol,zka e10 hol,zka e9 hsl⟩;have S811:=S9.trans (S10.trans S11);have st:∀{x:Addr} {o:HO} {Hx:Hp},H8 x=some o->x≠p->But4 p ol pl sl H12 Hx->Hx x=some o:=λhx np b =>
  b _ _ np (zka ((S9.trans S10) _ _ hx) hol) (zka hx hpl) (zka (S9 _ _ hx) hsl) (B12 _ _ np (S811 _ _ hx))
 have eo12:H12 ol=some (.lst (iM [])):=B12 _ _ ne.op e11;have ep12:=B12 _ _ ne.pp ((S10.trans S11) _ _ e9);have es12:=B12 _ _ ne.sp (S11 _ _ e10);have k812:Kp H8 H12:=(Kp.same S811).trans (Kp.but T11 B12);have LI0:LI K p ol pl sl H12 H12 (.ref a) (tab0 (own dss dss.length) dss.length (cmsF dss)) [] (tab0 (own dss dss.length) dss.length (cmsF dss)).pts (tab0 (own dss dss.length) dss.length (cmsF dss)).scs (k3+1):=⟨λ_ _ _ _ _ _ h=>h,TT.kp k812,eo12,ep12,es12,T12⟩;have ndl:dl≠p:=ywc (T2.ne hdl);have ncl:cl≠p:=ywc ((T3.same S4).ne hcl);obtain⟨cvs,ecv,alc⟩:=CD;have nca:ca≠p:=λz=>by
  obtain⟨c,e⟩:=T8.two;rw[z,e] at ecv;injection ecv with ecv
  injection ecv with ecv
  obtain⟨ms,_,h⟩:=alc.mem (a:=V.int k3) (by rw[← ecv];simp);obtain⟨_,_,_,_,_,_,_,h,_⟩:=h;cases h
 have nnl:=N3.ne T3;have fd:∀{Hx:Hp},But4 p ol pl sl H12 Hx->Hx dl=some (.lst (bs.map V.ref)):=λb=>st (S38 _ _ ed) ndl b;have fc:∀{Hx:Hp},But4 p ol pl sl H12 Hx->Hx cl=some (.lst yss.flatten):=λb=>st ((S6.trans (S7.trans S8)) _ _ e5) ncl b;have fa:∀{Hx:Hp},But4 p ol pl sl H12 Hx->CdsT T.zid Hx ca (cmsF dss):=λb=>⟨cvs,st ecv nca b,alc.imp λz=>z.kp (k812.trans (Kp.four T12 eo12 ep12 es12 b))⟩;have fn:∀{Hx:Hp},But4 p ol pl sl H12 Hx->N4 Hx nl ns:=λb=>⟨st (S38 _ _ N3.at_) nnl b,N3.len,N3.ok,N3.nd⟩;have fk:∀{Hx:Hp},But4 p ol pl sl H12 Hx->All2 (CT Hx) yss.flatten dss.flatten:=λb=>alf.imp λz=>((z.same S311).but T11 B12).four T12 eo12 ep12 es12 b;have cml:(cmsF dss).length=dss.flatten.length:=yba _;have c16:(cmsF dss).length≤16:=by omega
 have SZ0:=zzub (os:=own dss dss.length) d4 c16;have SO0:StOk (tab0 (own dss dss.length) dss.length (cmsF dss)) (cmsF dss).length [] (cmsF dss):=st0 (by rw[cml];exact zadb dss) (zktb dss _);have cm4:∀m∈cmsF dss,m.length≤4:=λm hm=>by
  obtain⟨c,hc,rfl⟩:=ycc.mp hm;obtain⟨_,_,⟨_,_,_,_,_,_,_,_,_,h,_⟩⟩:=alf.mem2 hc;exact h
 refine zil (lo:=0) (n:=20) (λi σ Hx=>Ex8 λtv (t:Tab) (os:List Int) (k:Int) o12 o13 o14 o15=>σ=[some (.ref sa),some (.ref p),some (.ref nl),some (.ref dl),some (.ref cl),some (.ref ca),some (.ref oa),some tv,some (.ref pl),some (.ref sl),some (.ref ol),some (.int lost),o12,o13,o14,o15]∧LI K p ol pl sl H12 Hx tv t os t.pts t.scs k∧Sz dss.length (cmsF dss).length t∧StOk t (cmsF dss).length os (cmsF dss)∧(∀m∈t.marks,m.length≤4+i)∧k≤k3+1+20*(i:Int)) ⟨_,_,_,_,_,_,_,_,rfl,LI0,SZ0,SO0,cm4,by omega⟩ ?_ ?_
 ·rintro i σ Hx hi ⟨tv,t,os,k,o12,o13,o14,o15,rfl,L,SZ,SO,MK,hk⟩;have n2:2≤(cmsF dss).length:=by omega
  refine⟨_,rfl,_,rfl,dl,_,rfl,.inl (SqL.of (fd L.b)),p,k,(dss.length:Int),(by rw[← bl2,← yba (as:=bs) V.ref];rfl),L.tk,by omega,by omega,λr Ha r0 r1 Ba Ta=>?_⟩;have La:=L.but ne Ba Ta;obtain⟨pn,rfl⟩:∃pn:Nat,r=(pn:Int):=⟨r.toNat,by omega⟩;obtain⟨h,hh⟩:=getx (xs:=t.hands) (i:=pn) (by rw[SZ.hands];omega);clear L;have TOf:∀{t:Tab} {os:List Int},Sz dss.length (cmsF dss).length t->StOk t (cmsF dss).length os (cmsF dss)->(∀m∈t.marks,m.length≤4+i+1)->TOk dss.length (cmsF dss).length t:=λz so mk=>z.ok so λm hm=>by
   have:=mk m hm;omega
  have MK':∀m∈t.marks,m.length≤4+i+1:=λm hm=>yom (MK m hm);have TO:=TOf SZ SO MK';have hl:=TO.hs h (ybb hh);obtain⟨a,v0,v1,v2,v3,v4,v5,v6,v7,v8,rfl,ea,TP⟩:=id La.tt;obtain⟨b4,u4,rfl,e4,al4⟩:=TP.p4;obtain⟨_,ehv,hb,rfl,ehb⟩:=al4.get2 (b:=iM h) (by rw[yqa,hh];rfl);refine' zwk (pre:=λv Hs=>Ex3 λ(t':Tab) (os':List Int) (k':Int)=>LI K p ol pl sl H12 Hs v t' os' t.pts t.scs k'∧Sz dss.length (cmsF dss).length t'∧StOk t' (cmsF dss).length os' (cmsF dss)∧t'.marks=t.marks∧t'.pts=t.pts∧t'.scs=t.scs∧k'≤k+3) (λkk=>?g1) ?k1
  case g1 =>
   refine⟨_,rfl,a,_,_,_,rfl,rfl,SqT.of ea,zra (j:=4) rfl,_,rfl,b4,_,_,_,rfl,rfl,SqT.of e4,zra ehv,sz0,λem hem=>?_⟩;refine laid hem λHb Sb eb=>?_;have Lb:=La.same Sb;refine⟨chD h,chD [],.tup (SqT.of (Sb _ _ ehb)) (zgi _),.tup (SqT.of eb) .nil,zep _,zep _,_,rfl,?_⟩;rw[zxob];refine ite2 (λc=>?_) (λc=>?b1)
   ·refine⟨_,rfl,p,_,3,rfl,Lb.tk,by omega,by decide,λw0 Hc w1 w2 Bc Tc=>⟨rfl,_,rfl,ite2 (λc2=>?a2) (λc2=>?b2)⟩⟩
    case a2 =>
     have hn:h≠[]:=by
      intro z;rw[z] at c;cases c
     have hl1:1≤h.length:=yki.mpr hn;have Lc:=Lb.but ne Bc Tc;have kbc:=(Kp.same Sb).trans (Kp.but Lb.tk Bc);refine⟨_,rfl,.inl ⟨rfl,_,SqL.of Lc.eo⟩,_,rfl,a,_,_,_,rfl,rfl,SqT.of (kbc.t ea),zra (j:=4) rfl,_,rfl,b4,_,_,_,rfl,rfl,SqT.of (kbc.t e4),zra ehv,_,rfl,_,rfl,a,_,_,_,rfl,rfl,SqT.of (kbc.t ea),zra (j:=4) rfl,_,rfl,b4,_,_,_,rfl,rfl,SqT.of (kbc.t e4),zra ehv,hb,_,rfl,.inr (SqT.of (kbc.t ehb)),p,_,(h.length:Int),(by rw[← zfl h];rfl),Lc.tk,by omega,by omega,λx Hd x0 x1 Bd Td=>?_⟩;obtain⟨n,en,hmn⟩:=zfpb (ns:=h) x0 x1;have Ld:=Lc.but ne Bd Td;have kbd:=kbc.trans (Kp.but Lc.tk Bd);have osl:os.length≤16:=by
      have pl:=SO.perm.length_eq;have rl:(zwd (cmsF dss).length).length=(cmsF dss).length:=(by unfold zwd;rw[yba,yrb]);rw[rl,yea,yea,yea] at pl;omega
     refine⟨hb,_,_,_,rfl,rfl,SqT.of (kbd.t ehb),en,ol,_,_,rfl,rfl,Ld.eo,zse (by rw[zfl];omega),?_⟩;rw[show iM os++[V.int n]=iM (os++[n]) from zzfb os [n]];have Le:=Ld.put ne (os++[n]);generalize upd Hd ol (.lst (iM (os++[n])))=He at Le ⊢;refine⟨_,rfl,_,rfl,_,rfl,_,rfl,ol,_,_,_,rfl,rfl,SqL.of Le.eo,zwrb os n,.ref a,t,pn,n,h,rfl,Le.tt,by rw[SZ.hands];exact d4,hh,hl,λv' Hf Sf TT'=>?_⟩;exact kk v' Hf ⟨_,os++[n],_,Le.tab Sf TT',{ SZ with hands:=by show (t.hands.set pn _).length=_;rw[yue];exact SZ.hands },taken SO hh hmn,rfl,rfl,rfl,by omega⟩
    case b2=>exact kk (.ref a) Hc ⟨t,os,_,Lb.but ne Bc Tc,SZ,SO,rfl,rfl,rfl,by omega⟩
   case b1=>exact iteF (kk (.ref a) Hb ⟨t,os,_,Lb,SZ,SO,rfl,rfl,rfl,by omega⟩)
  case k1 =>
  rintro tv1 Hb ⟨t1,os1,k1,L1,SZ1,SO1,em1,ep1,es1,hk1⟩;refine⟨_,rfl,_,rfl,rfl,_,rfl,?_⟩;refine' zwk (pre:=λv Hs=>∃t':Tab,LI K p ol pl sl H12 Hs v t' os1 t.pts t.scs k1∧Sz dss.length (cmsF dss).length t'∧StOk t' (cmsF dss).length os1 (cmsF dss)∧t'.marks=t.marks∧t'.pts=t.pts∧t'.scs=t.scs) (λkk=>?g2) ?k2
  case g2 =>
   refine ite2 (λc=>?_) (λc=>?b3)
   ·refine⟨_,rfl,_,rfl,tv1,t1,pn,rfl,L1.tt,by rw[SZ1.gone];exact d4,by rw[SZ1.gone];omega,λv' Hf Sf TT'=>?_⟩;exact kk v' Hf ⟨_,L1.tab Sf TT',{ SZ1 with gone:=by show (t1.gone.set pn _).length=_;rw[yue];exact SZ1.gone },⟨SO1.perm,SO1.off,SO1.hr,SO1.pr⟩,em1,ep1,es1⟩
   case b3=>exact kk tv1 Hb ⟨t1,L1,SZ1,SO1,em1,ep1,es1⟩
  case k2 =>
  rintro tv2 Hc ⟨t2,L2,SZ2,SO2,em2,ep2,es2⟩;clear L1 SZ1 SO1 em1 ep1 es1 La SZ SO TO TP al4 ea e4 hh ehv;have MK2:∀m∈t2.marks,m.length≤4+i:=by rw[em2];exact MK
  have TO2:=TOf SZ2 SO2 λm hm=>yom (MK2 m hm);have mem2:∀n,n∈os1++t2.lying->0≤n∧n<(cmsF dss).length:=λn hn=>mem_range.mp (SO2.perm.mem_iff.mp (yzc _ (yzc _ hn)));have os60:os1.length≤60:=by
   have pl:=SO2.perm.length_eq;have rl:(zwd (cmsF dss).length).length=(cmsF dss).length:=(by unfold zwd;rw[yba,yrb]);rw[rl,yea,yea,yea] at pl;omega
  refine⟨_,rfl,_,rfl,_,rfl,_,rfl,p,nl,ol,tv2,k1,ns,t2,dss.length,(cmsF dss).length,os1,rfl,L2.tk,by omega,fn L2.b,L2.tt,TO2,by omega,by omega,L2.eo,ne.op,os60,λn hn=>mem2 n (ywb _ hn),λha kd th av os' k' Hd Bd Td hk' eo eh NX=>?_⟩;have L3:=L2.next ne Bd Td eo;obtain⟨kw,kls,th1,th2,kpl,kcr,kno⟩:=NX.more λn hn=>mem2 n (yzc _ hn);refine⟨_,rfl,_,rfl,_,rfl,_,rfl,tv2,ha,pl,sl,t2,dss.length,(cmsF dss).length,kd,th,av,rfl,L3.tt,TO2,eh,(by rw[ep2];exact L3.ep),(by rw[es2];exact L3.es),ne.ps,kw,kls,λps ss He Be e1' e2' CN=>?_⟩;have L4:=L3.cnt ne Be e1' e2';have eh4:=(Kp.two L3.ep L3.es Be).t eh;obtain⟨a2,w0,w1,w2,w3,w4,w5,w6,w7,w8,rfl,ea2,TP2⟩:=id L4.tt;obtain⟨b3,u3,rfl,e3,al3⟩:=TP2.p3;refine⟨_,rfl,a2,_,_,_,rfl,rfl,SqT.of ea2,zra (j:=3) rfl,b3,rfl,⟨_,SqT.of e3⟩,?_⟩;refine zcs (xs:=u3) (λj ys H'=>H'=He∧ys=(t2.decks.take j).map λd=>V.int (d.length:Int)) (λj ys H' z=>by rw[z.1];exact SqT.of e3) ⟨rfl,rfl⟩ ?_ ?_ ?_
  ·rintro j ys H' ⟨_,rfl⟩;rw[yba,ygb,SZ2.decks];exact small (by omega)
  ·rintro j v ys H' hv ⟨rfl,rfl⟩;obtain⟨xs,hx,b,rfl,eb⟩:=al3.get hv;rw[yqa] at hx;obtain⟨ds,hds,rfl⟩:=ywd.mp hx;refine⟨rfl,_,rfl,b,_,rfl,.inr (SqT.of eb),rfl,?_⟩;rw[ydb,hds,yub,yxa];show _++[V.int ((iM ds).length:Int)]=_
   rw[zfl];rfl
  rintro ys Hf ⟨rfl,rfl⟩ db hdb;have u3l:=al3.len;rw[yba] at u3l;rw[u3l,yla (yga _)];refine laid hdb λHg Sg edb=>?_;have L5:=L4.same Sg;refine⟨_,rfl,_,rfl,_,rfl,ca,.ref a2,ha,t2,dss.length,(cmsF dss).length,th,cmsF dss,kd,av,rfl,fa L5.b,L5.tt,TO2,Sg _ _ eh4,th1,th2,rfl,kpl,kcr,λv' t' Hh Sh TT' HR=>?_⟩;obtain⟨SZ3,SO3,dk3⟩:=keep SZ2 SO2 th2 NX HR;obtain⟨pt3,sc3⟩:=counts SZ2.gone th1 kno CN HR;have MK3:=zvjb MK2 (λm hm=>by have:=cm4 m hm;omega) HR;have TO3:=TOf SZ3 SO3 MK3;have L6:=L5.tab Sh TT';have edh:=Sh _ _ edb;obtain⟨a3,y0,y1,y2,y3,y4,y5,y6,y7,y8,rfl,ea3,TP3⟩:=id TT';obtain⟨c0,rfl,g0⟩:=TP3.p0;obtain⟨c1,rfl,g1⟩:=TP3.p1;obtain⟨c3,q3,rfl,g3,al3'⟩:=TP3.p3;refine⟨_,rfl,_,_,_,true,rfl,TyOf.tup ea3,.inl ⟨"tuple",rfl,rfl⟩,_,rfl,iteF ?_⟩;refine⟨_,rfl,a3,_,rfl,.inr (SqT.of ea3),rfl,_,rfl,iteF ?_⟩;refine⟨_,rfl,_,rfl,_,rfl,.ref a3,cl,ol,t',dss.length,(cmsF dss).length,os',_,dss.flatten,rfl,L6.tt,TO3,fc L6.b,fk L6.b,cml.symm,L6.eo,SO3,λHi Si=>⟨_,rfl,iteF ?_⟩⟩;have L7:=L6.same Si;refine⟨_,rfl,a3,_,_,_,rfl,rfl,SqT.of (Si _ _ ea3),zra (j:=0) rfl,c0,_,rfl,.inr (SqT.of (Si _ _ g0)),λl1 hl1=>?_⟩;refine laid hl1 λHj Sj f1=>?_;have L8:=L7.same Sj;refine⟨_,rfl,ilD t'.pts,ilD ps,.lst (SqL.of f1) (zgi _),.lst (SqL.of L8.ep) (zgi _),zve _,zve _,_,rfl,?_⟩;rw[zfbb,decide_eq_true pt3];refine iteF ?_;have S2:=Si.trans Sj;refine⟨_,rfl,a3,_,_,_,rfl,rfl,SqT.of (S2 _ _ ea3),zra (j:=1) rfl,c1,_,rfl,.inr (SqT.of (S2 _ _ g1)),λl2 hl2=>?_⟩;refine laid hl2 λHk Sk f2=>?_;have L9:=L8.same Sk;refine⟨_,rfl,ilD t'.scs,ilD ss,.lst (SqL.of f2) (zgi _),.lst (SqL.of L9.es) (zgi _),zve _,zve _,_,rfl,?_⟩;rw[zfbb,decide_eq_true sc3];refine iteF ?_;have S3:=S2.trans Sk;have ea4:=S3 _ _ ea3;have g4:=S3 _ _ g3;have ed4:=S3 _ _ edh;refine⟨_,rfl,dl,_,rfl,.inl (SqL.of (fd L9.b)),(dss.length:Int),(by rw[← bl2,← yba (as:=bs) V.ref]),by omega,by omega,?_⟩;rw[yxb];refine zdm (λj ys H'=>H'=Hk∧ys=[]) ⟨rfl,rfl⟩ ?_ ?_ ?_
  ·rintro j ys H' ⟨_,rfl⟩;exact yqb _
  ·rintro j ys H' hj ⟨rfl,rfl⟩;have zj:(0:Int)+(j:Int)=(j:Int):=(by omega);obtain⟨d',hd'⟩:=getx (xs:=t'.decks) (i:=j) (by rw[SZ3.decks];exact hj);obtain⟨d,hd⟩:=getx (xs:=t2.decks) (i:=j) (by rw[SZ2.decks];exact hj);obtain⟨_,edv,dd,rfl,edd⟩:=al3'.get2 (b:=iM d') (by rw[yqa,hd'];rfl);have le:=dk3 j;rw[yza,yza,hd',hd] at le;have le':d'.length≤d.length:=le;refine⟨rfl,_,rfl,a3,_,_,_,rfl,rfl,SqT.of ea4,zra (j:=3) rfl,_,rfl,c3,_,_,_,rfl,rfl,SqT.of g4,(by show atI q3 (0+(j:Int))=_;rw[zj];exact zra edv),dd,_,rfl,.inr (SqT.of (S3 _ _ edd)),_,rfl,_,rfl,db,_,_,_,rfl,rfl,SqL.of ed4,(by show atI (t2.decks.map λd=>V.int (d.length:Int)) (0+(j:Int))=_;rw[zj];exact ziu hd),_,_,rfl,rfl,_,rfl,?_⟩;refine ite2 (λc=>?_) (λ_=>⟨rfl,rfl⟩);exfalso;have c':=of_decide_eq_true c;rw[zfl] at c';omega
  rintro ys Hl ⟨rfl,rfl⟩ lz hlz;refine laid hlz λHm Sm fm=>?_;refine⟨lz,_,rfl,.inl (SqL.of fm),_,_,rfl,rfl,_,rfl,iteF ?_⟩;refine⟨.ref a3,t',os',k',_,_,_,_,rfl,?_,SZ3,SO3,MK3,by omega⟩;rw[pt3,sc3];exact L9.same Sm
 ·rintro σ Hx _;exact q _
end
def mkT {K:yda}{h:Heap}{mg:Str->Option Value}(X:K.In h)(G:h.Ns yab mg){C_Words:Addr}{C_Whom:Addr}{C_Card:Addr}{t_LETTERS:Tok}{t_FIGURES:Tok}{t_MOST_WORDS:Tok}{A_PARTS:Addr}{t_MOST_RULES:Tok}{A_SORTS:Addr}{A_CHANGES:Addr}{A_WHEN_KINDS:Addr}{A_DEED_KINDS:Addr}{A_PLAYER_KINDS:Addr}{A_TURNS:Addr}{t_FEWEST_PLAYERS:Tok}{t_MOST_PLAYERS:Tok}{t_MOST_CARDS:Tok}{t_MOST_HOLDS:Tok}{t_FIRST_POINTS:Tok}{t_FIRST_HAND:Tok}{t_POINTS:Tok}{t_SCORES:Tok}{t_GONE:Tok}{t_DECKS:Tok}{t_HANDS:Tok}{t_LYING:Tok}{t_HEAP:Tok}{t_MARKS:Tok}{t_WOUNDS:Tok}(tf:Tf K mg)
  (zjob:ycb K yab "Words" = some (some (.ref C_Words)))
  (zbnb:yuf K C_Words yvq=true)
  (zznb:yfg K C_Words=true)
  (zxmb:yth K C_Words=true)
  (zrmb:ykb K (.ref C_Words) "__setattr__" = some (some (.builtin "object.__setattr__")))
  (y_Words___init__:If K C_Words "__init__" "Words.__init__" zoh)
  (y_Words_take:Mf K C_Words "take" "Words.take" zzk)
  (y_Words_take_one_of:Mf K C_Words "take_one_of" "Words.take_one_of" zjf)
  (y_Words_take_name:Mf K C_Words "take_name" "Words.take_name" zkg)
  (y_Words_take_number:Mf K C_Words "take_number" "Words.take_number" zkf)
  (y_Words_finish:Mf K C_Words "finish" "Words.finish" zij)
  (zrd:ykb K (.ref C_Words) "words" = some none)
  (zyc:ykb K (.ref C_Words) "place" = some none)
  (zbsb:ycb K yab "Whom" = some (some (.ref C_Whom)))
  (zoqb:yuf K C_Whom yvq=true)
  (zerb:yfg K C_Whom=true)
  (zlqb:yth K C_Whom=true)
  (zdqb:ykb K (.ref C_Whom) "__setattr__" = some (some (.builtin "object.__setattr__")))
  (y_Whom___init__:If K C_Whom "__init__" "Whom.__init__" zai)
  (zak:ykb K (.ref C_Whom) "word" = some none)
  (zwi:ykb K (.ref C_Whom) "value" = some none)
  (zxi:ykb K (.ref C_Whom) "parts" = some none)
  (q1_Whom:ykb K (.ref C_Whom) "__class__" = some (some (.builtin "object.__class__")))
  (q2_Whom:yjj K (.builtin "object.__class__") "__get__" = some (some (.builtin "getset_descriptor.__get__")))
  (q3_Whom:ysn K (.builtin "object.__class__")=some true)
  (q4_Whom:ygp K C_Whom (.type "object")=some true)
  (q5_Whom:yrc K (.ref C_Whom) (.type "str")=some false)
  (q6_Whom:yrc K (.ref C_Whom) (.type "int")=some false)
  (q7_Whom:yrc K (.ref C_Whom) (.type "tuple")=some false)
  (q8_Whom:yrc K (.ref C_Whom) (.type "list")=some false)
  (q9_Whom:yrc K (.type "str") (.ref C_Whom)=some false)
  (q10_Whom:yrc K (.type "int") (.ref C_Whom)=some false)
  (zcsb:ycb K yab "Card" = some (some (.ref C_Card)))
  (zpqb:yuf K C_Card yvq=true)
  (zfrb:yfg K C_Card=true)
  (zmqb:yth K C_Card=true)
  (zeqb:ykb K (.ref C_Card) "__setattr__" = some (some (.builtin "object.__setattr__")))
  (y_Card___init__:If K C_Card "__init__" "Card.__init__" zbi)
  (zbk:ykb K (.ref C_Card) "name" = some none)
  (zck:ykb K (.ref C_Card) "cost" = some none)
  (zyi:ykb K (.ref C_Card) "force" = some none)
  (zpf:ykb K (.ref C_Card) "marks" = some none)
  (zdh:ykb K (.ref C_Card) "rules" = some none)
  (zlgb:ycb K yab "all" = some none)
  (zxh:ycb K yab "enumerate" = some none)
  (zylb:ycb K yab "int" = some none)
  (zof:ycb K yab "isinstance" = some none)
  (zre:ycb K yab "len" = some none)
  (zeg:ycb K yab "list" = some none)
  (zfg:ycb K yab "range" = some none)
  (zxl:ycb K yab "reversed" = some none)
  (zcib:ycb K yab "set" = some none)
  (zvh:ycb K yab "sorted" = some none)
  (zow:ycb K yab "str" = some none)
  (zbib:ycb K yab "sum" = some none)
  (zkd:ycb K yab "tuple" = some none)
  (zap:ycb K yab "LETTERS" = some (some (.str zlu t_LETTERS)))
  (zbp:ycb K yab "FIGURES" = some (some (.str zmu t_FIGURES)))
  (zcj:ycb K yab "MOST_WORDS" = some (some (.int 9 t_MOST_WORDS)))
  (zaq:ycb K yab "PARTS" = some (some (.ref A_PARTS)))
  (ztx:ydr (yoi λb=>K.lookup b) (λb=>K.lookup b) A_PARTS ztu=true)
  (zdj:ycb K yab "MOST_RULES" = some (some (.int 3 t_MOST_RULES)))
  (zyx:ycb K yab "SORTS" = some (some (.ref A_SORTS)))
  (zsx:TupK K A_SORTS ["hold","when","instead","may"])
  (zcp:ycb K yab "CHANGES" = some (some (.ref A_CHANGES)))
  (zwo:TupK K A_CHANGES ["mute","steal","gain","lack","be","more","less","per"])
  (zbj:ycb K yab "WHEN_KINDS" = some (some (.ref A_WHEN_KINDS)))
  (zzi:TupK K A_WHEN_KINDS ["come","leave","hurt","gain","lack","lose","score","draw"])
  (zih:ycb K yab "DEED_KINDS" = some (some (.ref A_DEED_KINDS)))
  (zfh:TupK K A_DEED_KINDS ["leave","hurt","gain","lack","lose","score","draw"])
  (ztg:ycb K yab "PLAYER_KINDS" = some (some (.ref A_PLAYER_KINDS)))
  (zrg:TupK K A_PLAYER_KINDS ["lose","score","draw"])
  (zxx:ycb K yab "TURNS" = some (some (.ref A_TURNS)))
  (zrx:TabK K A_TURNS zxeb)
  (zwe:ycb K yab "FEWEST_PLAYERS" = some (some (.int 2 t_FEWEST_PLAYERS)))
  (zug:ycb K yab "MOST_PLAYERS" = some (some (.int 4 t_MOST_PLAYERS)))
  (zfj:ycb K yab "MOST_CARDS" = some (some (.int 16 t_MOST_CARDS)))
  (zej:ycb K yab "MOST_HOLDS" = some (some (.int 8 t_MOST_HOLDS)))
  (zvg:ycb K yab "FIRST_POINTS" = some (some (.int 20 t_FIRST_POINTS)))
  (zgh:ycb K yab "FIRST_HAND" = some (some (.int 3 t_FIRST_HAND)))
  (zzo:ycb K yab "POINTS" = some (some (.int 0 t_POINTS)))
  (zyo:ycb K yab "SCORES" = some (some (.int 1 t_SCORES)))
  (zbgb:ycb K yab "GONE" = some (some (.int 2 t_GONE)))
  (zyt:ycb K yab "DECKS" = some (some (.int 3 t_DECKS)))
  (zxt:ycb K yab "HANDS" = some (some (.int 4 t_HANDS)))
  (zgl:ycb K yab "LYING" = some (some (.int 5 t_LYING)))
  (zbbb:ycb K yab "HEAP" = some (some (.int 6 t_HEAP)))
  (zbq:ycb K yab "MARKS" = some (some (.int 7 t_MARKS)))
  (zcm:ycb K yab "WOUNDS" = some (some (.int 8 t_WOUNDS))):Tx K mg :=
 { tf with zob:=C_Words,zidb:=ynb X G zjob,zib:=⟨zbnb,zznb,zxmb,zrmb⟩,zfc:=y_Words___init__,zmc:=y_Words_take,zqa:=y_Words_take_one_of,zpb:=y_Words_take_name,zxa:=y_Words_take_number,zrc:=y_Words_finish,zrd:=zrd,zyc:=zyc,zed:=C_Whom,zqob:=ynb X G zbsb,zjy:=⟨zoqb,zerb,zlqb,zdqb⟩,ztc:=y_Whom___init__,zak:=zak,zwi:=zwi,zxi:=zxi,znub:=⟨q1_Whom,q2_Whom,q3_Whom,q4_Whom,q5_Whom,q6_Whom,q7_Whom,q8_Whom,q9_Whom,q10_Whom⟩,zid:=C_Card,zrob:=ynb X G zcsb,zgk:=⟨zpqb,zfrb,zmqb,zeqb⟩,zuc:=y_Card___init__,zbk:=zbk,zck:=zck,zyi:=zyi,zpf:=zpf,zdh:=zdh,zlgb:=ypc X G zlgb,zxh:=ypc X G zxh,zylb:=ypc X G zylb,zof:=ypc X G zof,zre:=ypc X G zre,zeg:=ypc X G zeg,zfg:=ypc X G zfg,zxl:=ypc X G zxl,zcib:=ypc X G zcib,zvh:=ypc X G zvh,zow:=ypc X G zow,zbib:=ypc X G zbib,zkd:=ypc X G zkd,zvab:=t_LETTERS,zap:=ynb X G zap,zwab:=t_FIGURES,zbp:=ynb X G zbp,zjr:=t_MOST_WORDS,zcj:=ynb X G zcj,zgn:=A_PARTS,zaq:=ynb X G zaq,ztx:=ztx,zkr:=t_MOST_RULES,zdj:=ynb X G zdj,zty:=A_SORTS,zyx:=ynb X G zyx,zsx:=zsx,zjp:=A_CHANGES,zcp:=ynb X G zcp,zwo:=zwo,zgj:=A_WHEN_KINDS,zbj:=ynb X G zbj,zzi:=zzi,zlh:=A_DEED_KINDS,zih:=ynb X G zih,zfh:=zfh,zwg:=A_PLAYER_KINDS,ztg:=ynb X G ztg,zrg:=zrg,zsy:=A_TURNS,zxx:=ynb X G zxx,zrx:=zrx,zrk:=t_FEWEST_PLAYERS,zwe:=ynb X G zwe,zpm:=t_MOST_PLAYERS,zug:=ynb X G zug,zmr:=t_MOST_CARDS,zfj:=ynb X G zfj,zlr:=t_MOST_HOLDS,zej:=ynb X G zej,zqm:=t_FIRST_POINTS,zvg:=ynb X G zvg,znr:=t_FIRST_HAND,zgh:=ynb X G zgh,zxfb:=t_POINTS,zzo:=ynb X G zzo,zwfb:=t_SCORES,zyo:=ynb X G zyo,zuob:=t_GONE,zbgb:=ynb X G zbgb,zekb:=t_DECKS,zyt:=ynb X G zyt,zdkb:=t_HANDS,zxt:=ynb X G zxt,zckb:=t_LYING,zgl:=ynb X G zgl,ztob:=t_HEAP,zbbb:=ynb X G zbbb,zbkb:=t_MARKS,zbq:=ynb X G zbq,zvfb:=t_WOUNDS,zcm:=ynb X G zcm }
theorem all_mk {l:yxn}{w:World}{K:yda}{mg:Str->Option Value}{fa:Addr}(hfa:mg "law" = some (.ref fa))(T:Tx K mg) :
  ∃fd:ypf,(∀(s:Shared) (v:Value),yvp s fd ⟨[v],[]⟩ [("_law_script",v)])∧∀base:Heap,K.In base->base.Ns yab mg->FnOk l.prog w K mg base CX0 16 fa fd ["_law_script"] (zjmb K):=by
 cases zytb T.zdib hfa;refine⟨_,(λs v=>?_),λbase kb _=>zntb T kb⟩;obtain⟨oc,od,kV,doc,pm,an,cdv,ct,osl,e,lk,hcd⟩:=T.zdib.F.ex;rw[e];exact .of_eq rfl
theorem walk {l:yxn}{q:yvb}{loose:List Str}{XP:(Str->Option Value)->Heap->Prop}{YP:World->Heap->Prop}{d:DefRec}{K:Params->yda}(hn:l.most=some 63)(hdf:d.params.defaults=[])
  (hY:∀(w:World) (h:Heap),YP w h->(K w.params).In h)
  (F:∀(w:World) (mg:Str->Option Value) fa (h:Heap),(K w.params).In h->h.Ns yab mg->mg d.name=some (.ref fa) →
   ∃fd:ypf,(∀(s:Shared) (u:Value),yvp s fd ⟨[u],[]⟩ [("_law_script",u)])∧∀base:Heap,(K w.params).In base->base.Ns yab mg->FnOk l.prog w (K w.params) mg base CX0 16 fa fd ["_law_script"] (zjmb (K w.params))) :
  yhr q loose XP YP l.row.toRowW d [] (λf vs=>ygr f vs) :=
 L2.zkpb (n:=63) (k:=16) (x:="_law_script") (CX:=λ_=>CX0) (sp:=λw=>zjmb (K w.params)) hn (by decide) hdf ⟨rfl,by decide,by decide⟩ hY F (λ_ _ a ns hl hO hS=>⟨a,ns,rfl,SqF.of hO hS,hl,λ_=>rfl⟩) λ_ _ _ _ _ z=>z
end K28
namespace PySem.W.Fast
def tw6380731460542051797:=()
def tw17491157271374848239:=()
def tw1111700478468484734:=()
def tw18103620339484894985:=()
def tw12628261667045308522:=()
def tw1951458531708233490:=()
def tw3171965417222179617:=()
def tw14187592648983538393:=()
def tw4000198775098609681:=()
def tw14144915763818928034:=()
def tw1126129315533168956:=()
def tw18241844939110363809:=()
def tw14472895226054181118:=()
def tw14624706664274703079:=()
def tw9689336061871264477:=()
def tw11177024044953003950:=()
def tw9226278669678058524:=()
def tw12980301432880453586:=()
def tw5485015439577941121:=()
def tw6467736181313989375:=()
def tw13386810006161634445:=()
def tw8015616133728579412:=()
def tw1796272716055405855:=()
def tw9213400663399656850:=()
def tw12344116571022247101:=()
def tw14004320186278771188:=()
def tw1140155765155885503:=()
def tw12104919069984107183:=()
def tw16275161677797531554:=()
def tw10389311426634709197:=()
def tw8631085064937142205:=()
def tw2135100429174818994:=()
def tw10367874095875691765:=()
def tw1795610739497541951:=()
def tw2190956514252604374:=()
def tw8545435226590920213:=()
def tw7296464404369070417:=()
def tw8593987289116413856:=()
def tw16429617255894710263:=()
def tw8412407096362147658:=()
def tw11946958075277361680:=()
def tw6964610461340330029:=()
def tw15181476732457891422:=()
def tw17554630294561014848:=()
def tw10099734461747096954:=()
def tw17370874867120726783:=()
def tw10486740584853182980:=()
def tw6685504367801420300:=()
def tw15033719004123521840:=()
def tw4091555906002485371:=()
def tw3228617584380685101:=()
def tw9852773970437068138:=()
def tw5435979905268900868:=()
def tw14638370932549562796:=()
def tw10128885161330798799:=()
def tw13699492215829147241:=()
def tw4789292551880443917:=()
def tw10251981620441415297:=()
def tw7453476762254364338:=()
def tw8317938618448327459:=()
def tw3134407236181220730:=()
def tw14605148488874450286:=()
def tw7600077063509037027:=()
def tw18315158173978664743:=()
def tw4366685570383760098:=()
def tw3565013645065525156:=()
def tw851112154678219289:=()
def tw15705947702714064281:=()
def tw10583400831688109352:=()
def tw8782900184960848649:=()
def tw6108707268973265465:=()
def tw12025704462556609405:=()
def tw7428680370011747809:=()
def tw7291321064436207784:=()
def tw4509433830142006160:=()
def tw12798219201080498293:=()
def tw10974402625065762460:=()
def tw6601203262865230445:=()
def tw12996544465502046192:=()
def tw12368408962202630939:=()
def tw9075946353311110787:=()
def tw465520287072242359:=()
def tw10413208406839886900:=()
def tw10312272668378319627:=()
def tw9430741146369712446:=()
def tw6709695171029131560:=()
def tw907091269699110673:=()
def tw16002375546102955889:=()
def tw11819155756717085587:=()
def tw16657465358116718251:=()
def tw5630072613342080351:=()
def tw8759355235385181896:=()
def tw4003842883701393516:=()
def tw5417460239984206459:=()
def tw12688309889535485905:=()
def tw1716572378652825853:=()
def tw936322049276200931:=()
def tw14839870575867912895:=()
def tw12962573911645211730:=()
def tw16521737161932219619:=()
def tw6848050580169084974:=()
def tw7921013567171496466:=()
def tw15075792774723811116:=()
def tw822633540021896491:=()
def tw9699317688859270687:=()
def tw6015164377986099370:=()
def tw12245240464894124963:=()
def tw9119419606833387878:=()
def tw13334421463079473718:=()
def tw2550864973895010755:=()
def tw6662122493043252246:=()
def tw17084098179256375770:=()
def tw9467401078552338907:=()
def tw14858911842971536671:=()
def tw3711310947612201838:=()
def tw4300914588897302090:=()
def tw8795225542227810043:=()
def tw10275208535816623198:=()
def tw4774803568425722420:=()
def tw17396975402975576091:=()
def tw16928938523304764248:=()
def tw14551490035751172212:=()
def tw6913673199887568474:=()
def tw2836879397051208772:=()
def tw9590912974400513961:=()
def tw13210015150241817803:=()
def tw16335457145170455764:=()
def tw5634749384846591397:=()
def tw1908013021302389631:=()
def tw4749855826363572083:=()
def tw4165797464544391771:=()
def tw2198654655543880499:=()
def tw17266837011377006852:=()
def tw15936191233375394198:=()
def tw13137494839140198023:=()
def tw3767333719725730200:=()
def tw14110421857264011578:=()
def tw9768520036202444667:=()
def tw10969950731456597260:=()
def tw69162730232122450:=()
def tw16721938892133610653:=()
def tw17739347816949417274:=()
def tw10789786528713295232:=()
def tw10151401526592743656:=()
def tw9767127805084395433:=()
def tw6022936409905273429:=()
def tw10341201032468599162:=()
def tw17685191955080574874:=()
def tw17857327407558939100:=()
def tw1948540680546817871:=()
def tw416720834449373802:=()
def tw12786888621043060054:=()
def tw6158695433787372029:=()
def tw1872991401953542588:=()
def tw5641849103207288411:=()
def tw9184552581050944204:=()
def tw4701107478875637312:=()
def tw13601061434020572722:=()
def tw9966004192662775437:=()
def tw11269719180520604483:=()
def tw15887793370759482818:=()
def tw8964804823792878422:=()
def tw13940405295492244280:=()
def tw14066541212807475684:=()
def tw767082302801065890:=()
def tw11412309233008313944:=()
def tw78385885481037404:=()
def tw5721789814359365754:=()
def tw7038345373150262017:=()
def tw16378755515677765109:=()
def tw2217851781470168571:=()
def tw11529421128151833059:=()
def tw4324259493311291404:=()
def tw9242869202236328073:=()
def tw18303620848596617544:=()
def tw16231401486430500956:=()
def tw9183128066332555143:=()
def tw17248055923238797415:=()
def tw18034888369193492073:=()
def tw10489595935147939475:=()
def tw3294873988043555695:=()
def tw18327616557760251473:=()
def tw11462821950160989061:=()
def tw13169075126203580801:=()
def tw14401708450272752169:=()
def tw2989375788028376586:=()
def tw1348948337830674679:=()
def tw2562651539264502458:=()
def tw4027985083436024988:=()
def tw4736349812395185853:=()
def tw15085764088047449434:=()
def tw5918336830772841940:=()
def tw6364229689187875241:=()
def tw2045894757109800110:=()
def tw1856095562182571819:=()
def tw12930900439347888042:=()
def tw14665938633162386531:=()
def tw16985850088150655770:=()
def tw5507459313487785609:=()
def tw7395367098788359690:=()
def tw17320097071894608037:=()
def tw3010895185702238709:=()
def tw16355219150503289182:=()
def tw10416591497974967605:=()
def tw7443499923397881428:=()
def tw7228228889551638322:=()
def tw5349384323935944564:=()
def tw17808335958482486881:=()
def tw9310061802465047110:=()
def tw6290874636605690590:=()
def tw110850869513409092:=()
def tw10633186263547474148:=()
def tw6793667528139450983:=()
def tw12641213659309488015:=()
def tw11267364625976862765:=()
def tw9088584429683650715:=()
def tw7218217728815437027:=()
def tw17927044174648806258:=()
def tw2142268673574185855:=()
def tw16014996050160159823:=()
def tw12634292762386073816:=()
def tw501199686937045583:=()
def tw4605982434500503130:=()
def tw2618985862478992206:=()
def tw8596228214105145690:=()
def tw11624236642090498423:=()
def tw9908444031243980200:=()
def tw12821613642821303253:=()
def tw10229339908687325247:=()
def tw1948014196942139701:=()
def tw18036172626878679026:=()
def tw17318607815799938697:=()
def tw9244560200933229218:=()
def tw1896261013266264335:=()
def tw12925260904350960068:=()
def tw2908874339843266654:=()
def tw579619132792591577:=()
def tw4300520547094354394:=()
def tw15134362203422639663:=()
def tw3175026558223778097:=()
def tw11312065127265458954:=()
def tw3214074566041239923:=()
def tw17790333423958610777:=()
def tw16701142837248330585:=()
def tw15295382485258214005:=()
def tw788474406119460226:=()
def tw11338143895056645371:=()
def tw6990606055137069527:=()
def tw17968528263428122654:=()
def tw14144954944162044167:=()
def tw2367295803773155184:=()
def tw11734556619072731557:=()
def tw15568069997012508139:=()
def tw12790553249652218:=()
def tw5966891634874906965:=()
def tw2196890901720243306:=()
def tw7474804385839441481:=()
def tw9278007614907144174:=()
def tw11919770912852182180:=()
def tw6288234429875904449:=()
def tw11442132786208215769:=()
def tw560933052652844793:=()
def tw15061584534660509120:=()
def tw10858661377096412085:=()
def tw10861723840875078347:=()
def tw14138847884052085591:=()
def tw4187636897981682980:=()
def tw481945721375884136:=()
def tw16693445259880000331:=()
def tw279218405987706162:=()
def tw11312067981552044815:=()
def tw6475403889106527971:=()
def tw4575598936989311119:=()
def tw13767554752398091893:=()
def tw3741035518560476108:=()
def tw4343324462823885308:=()
def tw7887964405860419362:=()
def tw3158262953392593934:=()
def tw18355653800729100527:=()
def tw16707437406922170828:=()
def tw4456536768718122350:=()
def tw11433886044845439607:=()
def tw1873120120812349700:=()
def tw18245922761696093826:=()
def tw14399452438150864299:=()
def tw1754128596764543354:=()
def tw2754302752704355711:=()
def tw17518099227250220413:=()
def tw8443211000879633995:=()
def tw4450871432952096547:=()
def tw15941197517566372899:=()
def tw8299863015629083000:=()
def tw8587540089868789950:=()
def tw17981392180903817064:=()
def tw6447810220705237410:=()
def tw6699088414605294948:=()
def tw10623934704369750030:=()
def tw244032131842770025:=()
def tw9692151790409295154:=()
def tw1821748404448844474:=()
def tw11480888385919695781:=()
def tw12860825766293441012:=()
def tw9163298053769651933:=()
def tw14172089565986393432:=()
def tw5545744401664659143:=()
def tw12746818250461983385:=()
def tw8872011222176064105:=()
def tw9016469480957625878:=()
def tw10403996130329937467:=()
def tw13531164152169428603:=()
def tw13130013893186184796:=()
def tw9154269782460857424:=()
def tw826820849651540596:=()
def tw4529437572892269613:=()
def tw12064073565512099584:=()
def tw4294506445460218962:=()
def tw11199896159214809911:=()
def tw9869232906496912485:=()
def tw13647372906131103360:=()
def tw13410055302395234:=()
def tw11973697343463379922:=()
def tw9655623696671625268:=()
def tw16514718745236662899:=()
def tw3185683125216487404:=()
def tw10610114070536585125:=()
def tw7996651286585697416:=()
def tw2593515110251381879:=()
def tw17220759051668258600:=()
def tw12756704562011136841:=()
def tw7074063570045936881:=()
def tw8976823204326853329:=()
def tw10539550763952559930:=()
def tw8546224808625200229:=()
def tw16254406132844432551:=()
def tw13204917954492444449:=()
end PySem.W.Fast
open PySem PySem.W PyProof.Rows
set_option maxRecDepth 100000 in
set_option maxHeartbeats 0 in
theorem PySem.Challenge.cw_turnstack_k28_whole_no_card_is_lost_holds : PySem.Challenge.rw_turnstack_k28_whole_no_card_is_lost.Holds := by
  w_on; o_law; k_head; (case hw => w_witness2)
  k_fill
  refine K28.walk (l := PySem.Challenge.rw_turnstack_k28_whole_no_card_is_lost) rfl rfl (fun w h Y => PySem.W.kIn_of Y) ?F
  case F =>
    intro w mg fa h KX G hmg
    refine' K28.all_mk hmg (K28.mkT KX G ⟨L2.gf_of KX G ?qda ?qea ?qfa ?qga, L2.gf_of KX G ?qha ?qia ?qja ?qka, L2.gf_of KX G ?qla ?qma ?qna ?qoa, L2.gf_of KX G ?qyb ?qzb ?qac ?qbc, L2.gf_of KX G ?qcc ?qdc ?qec ?qfc, L2.gf_of KX G ?qgc ?qhc ?qic ?qjc, L2.gf_of KX G ?qpc ?qqc ?qrc ?qsc, L2.gf_of KX G ?qtc ?quc ?qvc ?qwc, L2.gf_of KX G ?qxc ?qyc ?qzc ?qad, L2.gf_of KX G ?qbd ?qcd ?qdd ?qed, L2.gf_of KX G ?qfd ?qgd ?qhd ?qid, L2.gf_of KX G ?qjd ?qkd ?qld ?qmd, L2.gf_of KX G ?qnd ?qod ?qpd ?qqd, L2.gf_of KX G ?qrd ?qsd ?qtd ?qud, L2.gf_of KX G ?qvd ?qwd ?qxd ?qyd, L2.gf_of KX G ?qzd ?qae ?qbe ?qce, L2.gf_of KX G ?qde ?qee ?qfe ?qge, L2.gf_of KX G ?qhe ?qie ?qje ?qke, L2.gf_of KX G ?qle ?qme ?qne ?qoe, L2.gf_of KX G ?qpe ?qqe ?qre ?qse, L2.gf_of KX G ?qte ?que ?qve ?qwe, L2.gf_of KX G ?qxe ?qye ?qze ?qaf, L2.gf_of KX G ?qbf ?qcf ?qdf ?qef, L2.gf_of KX G ?qff ?qgf ?qhf ?qif, L2.gf_of KX G ?qjf ?qkf ?qlf ?qmf, L2.gf_of KX G ?qnf ?qof ?qpf ?qqf, L2.gf_of KX G ?qrf ?qsf ?qtf ?quf, L2.gf_of KX G ?qvf ?qwf ?qxf ?qyf, L2.gf_of KX G ?qzf ?qag ?qbg ?qcg, L2.gf_of KX G ?qdg ?qeg ?qfg ?qgg, L2.gf_of KX G ?qhg ?qig ?qjg ?qkg, L2.gf_of KX G ?qlg ?qmg ?qng ?qog, L2.gf_of KX G ?qpg ?qqg ?qrg ?qsg, L2.gf_of KX G ?qtg ?qug ?qvg ?qwg, L2.gf_of KX G ?qxg ?qyg ?qzg ?qah, L2.gf_of KX G ?qbh ?qch ?qdh ?qeh, L2.gf_of KX G ?qfh ?qgh ?qhh ?qih, L2.gf_of KX G ?qjh ?qkh ?qlh ?qmh, L2.gf_of KX G ?qnh ?qoh ?qph ?qqh, L2.gf_of KX G ?qrh ?qsh ?qth ?quh, L2.gf_of KX G ?qvh ?qwh ?qxh ?qyh, L2.gf_of KX G ?qzh ?qai ?qbi ?qci, L2.gf_of KX G ?qdi ?qei ?qfi ?qgi, L2.gf_of KX G ?qhi ?qii ?qji ?qki, L2.gf_of KX G ?qli ?qmi ?qni ?qoi, L2.gf_of KX G ?qpi ?qqi ?qri ?qsi, L2.gf_of KX G ?qti ?qui ?qvi ?qwi, L2.gf_of KX G ?qxi ?qyi ?qzi ?qaj, L2.gf_of KX G ?qbj ?qcj ?qdj ?qej⟩ ?qaa ?qfj ?qgj ?qhj ?qij (L2.if_of ?qpa ?qqa ?qra ?qsa ?qta ?qjj ?qkj) (L2.mf_of ?qua ?qva ?qwa ?qxa ?qya) (L2.mf_of ?qza ?qab ?qbb ?qcb ?qdb) (L2.mf_of ?qeb ?qfb ?qgb ?qhb ?qib) (L2.mf_of ?qjb ?qkb ?qlb ?qmb ?qnb) (L2.mf_of ?qob ?qpb ?qqb ?qrb ?qsb) ?qlj ?qmj ?qba ?qnj ?qoj ?qpj ?qqj (L2.if_of ?qtb ?qub ?qvb ?qwb ?qxb ?qrj ?qsj) ?qtj ?quj ?qvj ?qwj ?qxj ?qyj ?qzj ?qak ?qbk ?qck ?qdk ?qek ?qfk ?qca ?qgk ?qhk ?qik ?qjk (L2.if_of ?qkc ?qlc ?qmc ?qnc ?qoc ?qkk ?qlk) ?qmk ?qnk ?qok ?qpk ?qqk ?qrk ?qsk ?qtk ?quk ?qvk ?qwk ?qxk ?qyk ?qzk ?qal ?qbl ?qcl ?qdl ?qel ?qfl ?qgl ?qhl ?qil ?qjl ?qkl ?qll ?qml ?qnl ?qol ?qpl ?qql ?qrl ?qsl ?qtl ?qul ?qvl ?qwl ?qxl ?qyl ?qzl ?qam ?qbm ?qcm ?qdm ?qem ?qfm ?qgm ?qhm ?qim ?qjm ?qkm)
    case qaa | qba | qca | qda | qea | qfa | qga | qha | qia | qja | qka | qla | qma | qna | qoa | qpa | qqa | qra | qsa | qta | qua | qva | qwa | qxa | qya | qza | qab | qbb | qcb | qdb | qeb | qfb | qgb | qhb | qib | qjb | qkb | qlb | qmb | qnb | qob | qpb | qqb | qrb | qsb | qtb | qub | qvb | qwb | qxb | qyb | qzb | qac | qbc | qcc | qdc | qec | qfc | qgc | qhc | qic | qjc | qkc | qlc | qmc | qnc | qoc | qpc | qqc | qrc | qsc | qtc | quc | qvc | qwc | qxc | qyc | qzc | qad | qbd | qcd | qdd | qed | qfd | qgd | qhd | qid | qjd | qkd | qld | qmd | qnd | qod | qpd | qqd | qrd | qsd | qtd | qud | qvd | qwd | qxd | qyd | qzd | qae | qbe | qce | qde | qee | qfe | qge | qhe | qie | qje | qke | qle | qme | qne | qoe | qpe | qqe | qre | qse | qte | que | qve | qwe | qxe | qye | qze | qaf | qbf | qcf | qdf | qef | qff | qgf | qhf | qif | qjf | qkf | qlf | qmf | qnf | qof | qpf | qqf | qrf | qsf | qtf | quf | qvf | qwf | qxf | qyf | qzf | qag | qbg | qcg | qdg | qeg | qfg | qgg | qhg | qig | qjg | qkg | qlg | qmg | qng | qog | qpg | qqg | qrg | qsg | qtg | qug | qvg | qwg | qxg | qyg | qzg | qah | qbh | qch | qdh | qeh | qfh | qgh | qhh | qih | qjh | qkh | qlh | qmh | qnh | qoh | qph | qqh | qrh | qsh | qth | quh | qvh | qwh | qxh | qyh | qzh | qai | qbi | qci | qdi | qei | qfi | qgi | qhi | qii | qji | qki | qli | qmi | qni | qoi | qpi | qqi | qri | qsi | qti | qui | qvi | qwi | qxi | qyi | qzi | qaj | qbj | qcj | qdj | qej | qfj | qgj | qhj | qij | qjj | qkj | qlj | qmj | qnj | qoj | qpj | qqj | qrj | qsj | qtj | quj | qvj => k_is
    case qwj | qxj | qyj | qzj | qak | qbk | qck | qdk | qek | qfk => first | k_is | kit_is | kernel_rfl
    case qgk | qhk | qik | qjk | qkk | qlk | qmk | qnk | qok | qpk | qqk | qrk | qsk | qtk | quk | qvk | qwk | qxk | qyk | qzk | qal | qbl | qcl | qdl | qel | qfl | qgl | qhl => k_is
    case qil => first | kernel_rfl | (unfold L2.TupK; kernel_rfl)
    case qjl | qkl => k_is
    case qll => first | kernel_rfl | (unfold L2.TupK; kernel_rfl)
    case qml => k_is
    case qnl => first | kernel_rfl | (unfold L2.TupK; kernel_rfl)
    case qol => k_is
    case qpl => first | kernel_rfl | (unfold L2.TupK; kernel_rfl)
    case qql => k_is
    case qrl => first | kernel_rfl | (unfold L2.TupK; kernel_rfl)
    case qsl => k_is
    case qtl => first | kernel_rfl | (unfold L2.TupK; kernel_rfl)
    case qul => k_is
    case qvl => first | kernel_rfl | (unfold L2.TupK; kernel_rfl)
    case qwl | qxl | qyl | qzl | qam | qbm | qcm | qdm | qem | qfm | qgm | qhm | qim | qjm | qkm => k_is
