import PyProof.Rows.All
import Wide.All
import OpenK.AllK
import Wide.FinOn
import Lean
import PyProof.EqAt
import PyProof.EqKinds
import PyProof.TupleCall
import PyProof.StrLawsTight
import PyProof.StrLawsChain
import KE.KSortTup
import PyProof.EnumIter
import PyProof.EnumMake
import PyProof.EnumFor
import KE.KDictOf
import PyProof.AttrMissHeap
import PyProof.Walks
import PyProof.WalksMore
import PyProof.P3In
import PyProof.DictIter
import PySem.Challenge.RW_turnstack_k22_whole_it_ends
set_option Elab.async false
set_option linter.all false
set_option maxRecDepth 100000
inductive Ex2 {A1 A2 : Type} (p : A1 → A2 → Prop) : Prop
  | mk (a1 : A1) (a2 : A2) (h : p a1 a2) : Ex2 p
inductive Ex3 {A1 A2 A3 : Type} (p : A1 → A2 → A3 → Prop) : Prop
  | mk (a1 : A1) (a2 : A2) (a3 : A3) (h : p a1 a2 a3) : Ex3 p
inductive Ex4 {A1 A2 A3 A4 : Type} (p : A1 → A2 → A3 → A4 → Prop) : Prop
  | mk (a1 : A1) (a2 : A2) (a3 : A3) (a4 : A4) (h : p a1 a2 a3 a4) : Ex4 p
inductive Ex5 {A1 A2 A3 A4 A5 : Type} (p : A1 → A2 → A3 → A4 → A5 → Prop) : Prop
  | mk (a1 : A1) (a2 : A2) (a3 : A3) (a4 : A4) (a5 : A5) (h : p a1 a2 a3 a4 a5) : Ex5 p
inductive Ex6 {A1 A2 A3 A4 A5 A6 : Type} (p : A1 → A2 → A3 → A4 → A5 → A6 → Prop) : Prop
  | mk (a1 : A1) (a2 : A2) (a3 : A3) (a4 : A4) (a5 : A5) (a6 : A6) (h : p a1 a2 a3 a4 a5 a6) : Ex6 p
inductive Ex7 {A1 A2 A3 A4 A5 A6 A7 : Type} (p : A1 → A2 → A3 → A4 → A5 → A6 → A7 → Prop) : Prop
  | mk (a1 : A1) (a2 : A2) (a3 : A3) (a4 : A4) (a5 : A5) (a6 : A6) (a7 : A7) (h : p a1 a2 a3 a4 a5 a6 a7) : Ex7 p
inductive Ex8 {A1 A2 A3 A4 A5 A6 A7 A8 : Type} (p : A1 → A2 → A3 → A4 → A5 → A6 → A7 → A8 → Prop) : Prop
  | mk (a1 : A1) (a2 : A2) (a3 : A3) (a4 : A4) (a5 : A5) (a6 : A6) (a7 : A7) (a8 : A8) (h : p a1 a2 a3 a4 a5 a6 a7 a8) : Ex8 p
inductive Ex9 {A1 A2 A3 A4 A5 A6 A7 A8 A9 : Type} (p : A1 → A2 → A3 → A4 → A5 → A6 → A7 → A8 → A9 → Prop) : Prop
  | mk (a1 : A1) (a2 : A2) (a3 : A3) (a4 : A4) (a5 : A5) (a6 : A6) (a7 : A7) (a8 : A8) (a9 : A9) (h : p a1 a2 a3 a4 a5 a6 a7 a8 a9) : Ex9 p
inductive Ex10 {A1 A2 A3 A4 A5 A6 A7 A8 A9 A10 : Type} (p : A1 → A2 → A3 → A4 → A5 → A6 → A7 → A8 → A9 → A10 → Prop) : Prop
  | mk (a1 : A1) (a2 : A2) (a3 : A3) (a4 : A4) (a5 : A5) (a6 : A6) (a7 : A7) (a8 : A8) (a9 : A9) (a10 : A10) (h : p a1 a2 a3 a4 a5 a6 a7 a8 a9 a10) : Ex10 p
inductive Ex11 {A1 A2 A3 A4 A5 A6 A7 A8 A9 A10 A11 : Type} (p : A1 → A2 → A3 → A4 → A5 → A6 → A7 → A8 → A9 → A10 → A11 → Prop) : Prop
  | mk (a1 : A1) (a2 : A2) (a3 : A3) (a4 : A4) (a5 : A5) (a6 : A6) (a7 : A7) (a8 : A8) (a9 : A9) (a10 : A10) (a11 : A11) (h : p a1 a2 a3 a4 a5 a6 a7 a8 a9 a10 a11) : Ex11 p
inductive Ex12 {A1 A2 A3 A4 A5 A6 A7 A8 A9 A10 A11 A12 : Type} (p : A1 → A2 → A3 → A4 → A5 → A6 → A7 → A8 → A9 → A10 → A11 → A12 → Prop) : Prop
  | mk (a1 : A1) (a2 : A2) (a3 : A3) (a4 : A4) (a5 : A5) (a6 : A6) (a7 : A7) (a8 : A8) (a9 : A9) (a10 : A10) (a11 : A11) (a12 : A12) (h : p a1 a2 a3 a4 a5 a6 a7 a8 a9 a10 a11 a12) : Ex12 p
inductive Ex13 {A1 A2 A3 A4 A5 A6 A7 A8 A9 A10 A11 A12 A13 : Type} (p : A1 → A2 → A3 → A4 → A5 → A6 → A7 → A8 → A9 → A10 → A11 → A12 → A13 → Prop) : Prop
  | mk (a1 : A1) (a2 : A2) (a3 : A3) (a4 : A4) (a5 : A5) (a6 : A6) (a7 : A7) (a8 : A8) (a9 : A9) (a10 : A10) (a11 : A11) (a12 : A12) (a13 : A13) (h : p a1 a2 a3 a4 a5 a6 a7 a8 a9 a10 a11 a12 a13) : Ex13 p
inductive Ex14 {A1 A2 A3 A4 A5 A6 A7 A8 A9 A10 A11 A12 A13 A14 : Type} (p : A1 → A2 → A3 → A4 → A5 → A6 → A7 → A8 → A9 → A10 → A11 → A12 → A13 → A14 → Prop) : Prop
  | mk (a1 : A1) (a2 : A2) (a3 : A3) (a4 : A4) (a5 : A5) (a6 : A6) (a7 : A7) (a8 : A8) (a9 : A9) (a10 : A10) (a11 : A11) (a12 : A12) (a13 : A13) (a14 : A14) (h : p a1 a2 a3 a4 a5 a6 a7 a8 a9 a10 a11 a12 a13 a14) : Ex14 p
set_option maxHeartbeats 0
noncomputable section
open PySem renaming wpAny_bind→yaa,wpAny_pure→yga,sizeLine→yta,mainGlobals→yab,boot_len→ymb,Program→ypb,wpAny_holding→ybc,starEach→ylc,NameKind→ymc,wpAny_setField_rec→yoc,wpAny_callSpecial?_slot→yqc,strKind→yrc,wpAny_call_entry→ysc,wpAny_newObj_type→yuc,compareOp→yzc,wpAny_truthy_bool→ydd,wpAny_mono→ytd,wpAny_field→yce,wpAny_setState_of→ype,FuncData→yxe,SetTable→ylf,wpAny_passesOwn→ynf,slot_dict_getitem→ysf,Builtin→yyf,mem_of_lookup→ybg,wpAny_getItem_str_slice→ydg,sysModules→ygg,bootBuiltins→ykg,codeAny_builtin→yng,assignEach→ysg,wpAny_askSetting→ych,wpAny_pyIter_tuple→ylh,binaryOp→ymh,attributeBase→ynh,wpAny_Call_Name_kw→yoh,wpAny_ite_split→yqh,wpAny_pyIter_list→yyh,sliceBounds→yai,codeAny_mono→yhi,plainId_quiet→ypi,wpAny_rule→ysi,wpAny_execs_nil→yui,letOwnedTupleGo→yvi,codeAny→yyi,post_val_or_str→yzi,pickOrder→yaj,firstArgMember→ysj,foldedSetIterable→yxj,wpAny_sequenceKey→ybk,typeIs_str→yck,call_meets→ydk,wpAny_comprehension_free→yek,scanBound→yhk,fits_of_scanBound→yik,seqItems?→ykk,wpAny_standAt→yrk,behindInMarks→ysk,keywordEach→ytk,setField→yxk,wpAny_attempt→yyk,wpAny_isInstance→ygl,wpAny_pyNext_list_item→yjl,tupleKind→yql,Within→yrl,wpAny_pyNext_list_end→ysl,builtinLookup_eq_fast→ygm,setNext→yhm,relayAll→ypm,setsByText→yqm,sliceRange_one→yxm,isSubtype_type→yym,wpAny_newTuple→yzm,holding→ycn,swapsWith→ymn,wpAny_newList→ysn,wpAny_load→ywn,BindsTo→yao,Keyword→ybo,getItem→yco,callerA→ydo,relabel→yeo,ElemsOf→yfo,isInstance→yho,wpAny_typeOf→ymo,Operator→ywo,backToKw→yxo,raiseNew→yyo,getMethod→yzo,notedBy→ybp,putSet_of→ydp,valueAt→ylp,call→yqp
open PySem.W renaming Frag→yba,findIn→ygb,nsIn→yob,mg_none_of→yac,kitOne→ycc,mg_of→yxc,kia_one→ynd,emptyDict→yod,keepIn→yme,instObj→yqe,plainGet→yaf,hasDictIn→yof,fnOf→yuf,plainOver→ytg,codeIn→ywg,specialIn→yzh,plainGet_of→yxi,isFn→ymj,callWith_K→ynj,lookIn→yqj,methodObj→ywj,cellsFrom_some→ykl,takerIn→ytl,makesIn→yul,takesIn→ywl,methodCall_KW→yxl,OpenLaw→ybm,mroIn→yon,kitx_list→yxn,kitx_dict→yyn,handedIn→yro,WalkO→yrp
open PySem.Heap renaming get?_push_of_some→yca,get?_push_size→yla,lt_size→yra,SameBut→ywc,get?_update_other→yvd,get?_update_self→yae,size_push→yif,ExtBut→yjp
open List renaming length_map→yda,length_append→yea,getElem?_eq_some_iff→yfa,length_cons→yha,mem_singleton→yia,mem_cons→yja,mem_cons_self→yka,mem_cons_of_mem→yna,size_toArray→ypa,getElem?_eq_getElem→yqa,take_of_length_le→yua,map_cons→yva,mem_map→ydb,mem_append→yeb,map_append→yfb,length_take→yib,take_add_one→yjb,mem_of_getElem?→ykb,cons_ne_nil→yqb,append_nil→ytb,getElem?_map→yub,length_filter_le→yvb,getElem?_append_right→ywb,getElem?_cons_succ→yyb,mem_append_right→ygc,filter_cons_of_pos→yic,filter_cons_of_neg→yjc,replicate→ytc,length_singleton→yad,cons_lt_cons_iff→ybd,not_mem_nil→ycd,append_assoc→yed,Nodup→yfd,getD_eq_getElem?_getD→yhd,filter_append→yjd,flatten_cons→ypd,length_drop→yud,lookup→yxd,getElem?_append_left→yzd,lookup_cons→yde,getElem_map→yee,getElem?_cons_zero→yge,length_eq_zero_iff→yhe,pairwise_singleton→yje,range→yoe,nodup_cons→yse,find?_cons→yve,all_eq_true→ycf,map_nil→yef,getElem?_drop→yff,sum_cons→yhf,length_range→ytf,map_map→ywf,length→yag,replicate_succ→ycg,mem_filter→yjg,length_replicate→ylg,getElem?_eq_none→yog,mem_of_mem_take→yvg,pairwise_iff_getElem→yzg,drop_eq_getElem_cons→yah,cons_append→ydh,mem_flatMap→yeh,filterMap_cons→yfh,any_cons→yph,length_nil→yrh,append_eq_nil_iff→yvh,nodup_append→yci,drop_zero→yei,drop_drop→yfi,map→ygi,take_append_drop→yji,mem_append_left→yni,lt_trans→yqi,map_congr_left→ydj,flatten_append→yhj,length_eraseIdx_of_lt→ylj,drop_left→yvj,getElem?_take_of_lt→yzj,flatMap_cons→yok,pairwise_map→ypk,getElem?_replicate→yuk,take_length→yhl,getElem?_set_self→yil,drop_eq_nil_of_le→ypl,of_mem_zip→yyl,nil_append→yam,Perm→yem,getElem?_toArray→yim,contains_iff_mem→ynm,filter_nil→yom,getElem?_set_ne→ytm,getElem?_of_mem→yvm,mem_range→ywm,flatMap_append→yin,mem_filterMap→ynn,filterMap_map→yqn,pairwise_cons→yvn,sum_nil→yoo,getElem_inj→yqo,getElem_mem→yto,le_antisymm→yuo,map_fst_zip→yvo,not_lt→yhp,drop→ykp,filter→ymp,foldl→ypp
open Nat renaming le_refl→yma,lt_of_lt_of_le→yoa,le_trans→yxa,ne_of_lt→yhb,zero_le→ylb,lt_irrefl→yrd,le_of_lt→yle,lt_or_ge→ygf,le_succ→yzf,lt_succ_self→yfg,ne_of_gt→yih,lt_succ_of_lt→ybi,sub_self→yli,add_le_add_right→yoi,add_sub_cancel_left→ydl,min_le_right→yel,le_of_eq→yvl,sub_zero→ylm
open PySem.Str renaming join→ysa,ofString→yvf,length_append→yjo,empty→yap,length→yop
open Bool renaming false_ne_true→ywa,and_eq_true→yec,true_and→ygd,false_and→ymd,eq_false_iff→yqd,false_eq_true→ybe,and_false→ydi,eq_iff_iff→ywi,false_or→yal,true_or→ymm
open PySem.F renaming slot_list_append→yya,type_list_append→yza,plainAttrs_list→ycb,plainAttrs_str→ykd,called_set→ysd,slot_tuple_iterator_next→yye,slot_enumerate_next→ypg,slot_str_join→yqg,type_str_join→yrg,slot_str_split→ywh,type_str_split→yxh,slot_dict_get→yki,args_tuple_iterator_next_1→yri,entry_tuple_iterator_next→yfj,args_str_split_2→yoj,plain_extend_loop→ytj,args_tuple_add_2→yak,entry_str_split→yfk,entry_tuple_add→yvk,plain_list_iadd→yzk,args_dict_get_2→ybl,args_enumerate_next_1→ycl,slot_str_split→yfl,slot_tuple_add→yll,entry_dict_get→ynl,entry_enumerate_next→yol,plain_set_new→yfm,slot_set_iter→yjm
open Array renaming length_toList→ybb,getElem?_eq_getElem→ynb,getElem?_toList→yhc,toArray_toList→yfe,toList_append→yeg,getD_eq_getD_getElem?→ymg,perm_iff_toList_perm→yug,getElem?_eq_none→yuh,toList_inj→ymi,size_append→ynk,append_assoc→yln,toList_push→ygo
open PySem.PyData renaming canLay0→yrb,depthAll→ykc,canLayAll0→yvc,depth→yid,eqvAll→yke,eqv→ydf
open Ne renaming symm→ysb
open PySem.PassesOwn renaming never→yxb
open PySem.SeqAt renaming shaped→yzb,canLay_of_shaped→ywd,EqAt→yyd
open Int renaming toNat_natCast→ydc,emod_lt_of_pos→ysh,emod_nonneg→yij,le_refl→ygn,zero_add→ypo
open Option.some renaming inj→yfc
open Option renaming toList_some→ync,map_some→yej,isSome_iff_exists→yyj,getD_none→yso
open PySem.Builtin.Str renaming occurrences→ypc,strSliceIndices→ywe,partsBetween→yrf,strKind→ygh
open PyProof.Rows renaming wpS_bind→yyc,wpS_pure→yie,callWith_type1→yre,slot_tuple_getitem→ypf,subscriptTail_builtinR→yth,wpS_forRange→yii,pairsOf_size→ypj,StrsAre→ywk,IntsAre→yzl,pendingOf→ykm,SortKind→yrm,boot_tuple→ysm,pairsOf_toList→yan,AllBare→ybn,sortedS→yen,pairsOf→yfn,boot_sorted→yhn,listUpdate_at→ytn,mem_zip_self→yno,sortedAll→yfp,wpS_get→ygp,boot_list→ynp
open PyProof.Rows.F renaming plain_set_update_loop→yne,entry_set_update_loop→yyg
open PySem.Txt renaming split→yte,slice→ycm,slice_le→ydm
open PySem.Heap.SameBut renaming update→yue,refl→ygk
open False renaming elim→yze
open PySem.Obj renaming mapSeq→ybf,putSet→yjk,data_mapFields→yun
open PySem.Builtin.Slice renaming slicePlaces→yjf,sliceAdjust→yxg,sliceApplied→ykj
open PySem.Builtin.SmallTypes renaming nextOf→ykf,ownedTupleHandOut→ybh,ownedTupleIsFree→yhh
open PySem.Around renaming under_plainId→ymf,under→yko
open PySem.Builtin.Tuple renaming tupleExact→yqf
open PySem.Value renaming isStrOf→yxf,isStrOf_shape→yti
open PySem.SetTable renaming grown→yhg,below→yig
open PySem.Builtin.List renaming listTooLong→yjh,listLengthHint→ybj,listExtendWith→ycj,listSameRef→ylk
open PyProof.Rows.KTD renaming datLooks→ykh,datumAt→ydn,TextTab→ycp,tabLook→yep,Dat→ysp
open List.cons renaming injEq→ygj
open PySem.Calls renaming Name_function_global→yjj,call_function_entry→yuj,callWith_builtin→yml,evalArgs_plain→yum,spliced_cons→ypn,spliced_nil→yzn
open List.Perm renaming refl→yrj,eq_of_pairwise→ymk
open PySem.Paired renaming length→yqk
open PySem.SeqAt.EqAt renaming int_str→yjn,str_int→ykn
open PySem.Shared renaming TypeIs→yrn
open PySem.SetTable.below renaming go→yio
open PySem.Code renaming isFrame→ylo
open Array.Perm renaming refl→yip
open PyProof.Rows.IsTup renaming new→ytp
open PySem.pickOrder renaming go→yup
namespace L2
open PySem PySem.Spec PyProof.Rows
abbrev Key:=Sum Int Str
def zvfb:Key->Value->Bool
 | .inl k,v=>Value.isInt k v
 | .inr x,v=>yxf x v
def keyH (w:World):Key->Int
 | .inl k=>hashInt k
 | .inr x=>hashStr w x
theorem zxd:∀{k:Key} {v:Value},zvfb k v=true->(Ex2 λi t=>k=Sum.inl i∧v=Value.int i t)∨(Ex2 λx t=>k=Sum.inr x∧v=Value.str x t)
 | .inl i,v,h=>by
  obtain⟨t,e⟩:=Value.isInt_shape (k:=i) (v:=v) h;exact .inl ⟨i,t,rfl,e⟩
 | .inr x,v,h=>by
  obtain⟨t,e⟩:=yti (x:=x) (v:=v) h;exact .inr ⟨x,t,rfl,e⟩
theorem znib (i:Int)(t:Tok):zvfb (.inl i) (.int i t)=true:=by simp[zvfb,Value.isInt]
theorem zmib (x:Str)(t:Tok):zvfb (.inr x) (.str x t)=true:=by simp[zvfb,yxf]
theorem zctb (a b:Int):decide ((Sum.inl a:Key)=Sum.inl b)=(a==b):=by
 by_cases e:a=b
 ·subst e;simp
 ·have h:¬ (Sum.inl a:Key)=Sum.inl b:=λq=>e (Sum.inl.inj q);rw[decide_eq_false h];exact (beq_eq_false_iff_ne.mpr e).symm
theorem zzsb (a b:Str):decide ((Sum.inr a:Key)=Sum.inr b)=decide (a=b):=by
 by_cases e:a=b
 ·subst e;simp
 ·have h:¬ (Sum.inr a:Key)=Sum.inr b:=λq=>e (Sum.inr.inj q);rw[decide_eq_false h,decide_eq_false e]
theorem zbtb (a:Int)(b:Str):decide ((Sum.inl a:Key)=Sum.inr b)=false:=decide_eq_false (λq=>nomatch q)
theorem zatb (a:Str)(b:Int):decide ((Sum.inr a:Key)=Sum.inl b)=false:=decide_eq_false (λq=>nomatch q)
def zue (prog:ypb)(w:World):PySem.KeyKind prog w Key where
 is:=zvfb
 hash:=keyH w
 inj:=λv a b ha hb=>by
  rcases zxd ha with⟨i,t,rfl,rfl⟩|⟨x,t,rfl,rfl⟩
  ·rcases zxd hb with⟨j,u,rfl,e⟩|⟨y,u,rfl,e⟩
   ·injection e with e1 _;rw[e1]
   ·exact nomatch e
  ·rcases zxd hb with⟨j,u,rfl,e⟩|⟨y,u,rfl,e⟩
   ·exact nomatch e
   ·injection e with e1 _;rw[e1]
 byValue:=λk v h=>by
  rcases zxd h with⟨i,t,rfl,rfl⟩|⟨x,t,rfl,rfl⟩<;>rfl
 pyHash:=λhv h=>by
  rcases zxd hv with⟨i,t,rfl,rfl⟩|⟨x,t,rfl,rfl⟩
  ·exact wpAny_pyHash_int h
  ·exact wpAny_pyHash_str h
 eqBool:=λhu hv h=>by
  rcases zxd hu with⟨i,t,rfl,rfl⟩|⟨x,t,rfl,rfl⟩
  ·rcases zxd hv with⟨j,u,rfl,rfl⟩|⟨y,u,rfl,rfl⟩
   ·rw[zctb] at h;exact wpAny_eqBool_int h
   ·rw[zbtb] at h;exact yjn i t y u _ _ _ _ h
  ·rcases zxd hv with⟨j,u,rfl,rfl⟩|⟨y,u,rfl,rfl⟩
   ·rw[zatb] at h;exact ykn x t j u _ _ _ _ h
   ·rw[zzsb] at h;exact wpAny_eqBool_str h
 «strs»:=λk x t v h=>by
  rcases zxd h with⟨i,u,rfl,e⟩|⟨y,u,rfl,e⟩
  ·exact nomatch e
  ·injection e with e1 _
   subst e1;cases v<;>rfl
theorem zibb (prog:ypb)(w:World)(i:Int)(t:Tok):(zue prog w).is (.inl i) (.int i t)=true:=znib i t
theorem zgbb (prog:ypb)(w:World)(x:Str)(t:Tok):(zue prog w).is (.inr x) (.str x t)=true:=zmib x t
end L2
namespace L2
open PySem PySem.Spec PyProof.Rows
inductive V where
 | non|bl (b:Bool)|int (i:Int)|str (x:Str)|byt (b:Array UInt8)|flt (b:UInt64)|ref (a:Addr)|ty (n:String)
 deriving DecidableEq
def RelV:V->Value->Prop
 | .non,u=>u=Value.none
 | .bl b,u=>u=Value.bool b
 | .int i,u=>∃t,u=Value.int i t
 | .str x,u=>∃t,u=Value.str x t
 | .byt b,u=>∃t,u=Value.bytes b t
 | .flt b,u=>∃t,u=Value.float b t
 | .ref a,u=>u=Value.ref a
 | .ty n,u=>u=Value.type n
abbrev Vals:List V->List Value->Prop:=Paired RelV
theorem Vals.length {xs:List V}{us:List Value}(r:Vals xs us):xs.length=us.length:=yqk r
theorem Vals.get:∀{xs:List V} {us:List Value} {i:Nat} {x:V},Vals xs us->xs[i]?=some x->∃u,us[i]?=some u∧RelV x u
 | _,_,_,_,.nil,e=>by simp at e
 | _,_,0,_,.cons r _,e=>by simp at e;subst e;exact⟨_,rfl,r⟩
 | _,_,i+1,x,.cons _ t,e=>by
  obtain⟨u,h1,h2⟩:=Vals.get (i:=i) (x:=x) t (by simpa using e);exact⟨u,by simpa using h1,h2⟩
theorem Vals.set {x:V}{u:Value}(r:RelV x u):∀{xs:List V} {us:List Value} (i:Nat),Vals xs us->Vals (xs.set i x) (us.set i u)
 | _,_,_,.nil=>.nil
 | _,_,0,.cons _ t=>.cons r t
 | _,_,i+1,.cons q t=>.cons q (Vals.set r i t)
theorem Vals.append:∀{xs ys:List V} {us ws:List Value},Vals xs us->Vals ys ws->Vals (xs++ys) (us++ws)
 | _,_,_,_,.nil,s=>s
 | _,_,_,_,.cons r t,s=>.cons r (Vals.append t s)
theorem Vals.take:∀{xs:List V} {us:List Value} (n:Nat),Vals xs us->Vals (xs.take n) (us.take n)
 | _,_,0,_=>.nil
 | _,_,_+1,.nil=>.nil
 | _,_,n+1,.cons r t=>.cons r (Vals.take n t)
theorem Vals.drop:∀{xs:List V} {us:List Value} (n:Nat),Vals xs us->Vals (xs.drop n) (us.drop n)
 | _,_,0,r=>r
 | _,_,_+1,.nil=>.nil
 | _,_,n+1,.cons _ t=>Vals.drop n t
def RelO:Option V->Option Value->Prop
 | some v,some u=>RelV v u
 | none,none=>True
 | _,_=>False
def KV {κ:Type}:List (κ×V)->List (κ×Value)->Prop:=Paired λ(p:κ×V) (q:κ×Value)=>p.1=q.1∧RelV p.2 q.2
def kV:Key->V
 | .inl i=>.int i
 | .inr x=>.str x
inductive HO where
 | lst (xs:List V)
 | tup (xs:List V)
 | dK (kvs:List (Key×V))|dT (kvs:List (List Key×V))
 | set (S:Int->Bool) (n:Nat)
 | ins (C dx:Addr) (fs:List (Str×V))
 | own (x:Addr)
 | xd (fs:List (Str×V))
 | met (f x:Addr)
 | rng (lo hi:Int)
 | frz (o:Obj) (u:HO)
 | tbl (ps:Array Value)
 | ext (φ:Heap->Prop)
abbrev Hp:=Addr->Option HO
def upd (H:Hp)(a:Addr)(o:HO):Hp:=λb=>if b=a then some o else H b
theorem zga {H:Hp}{a:Addr}{o:HO}:upd H a o a=some o:=by unfold upd;rw[if_pos rfl]
theorem zza {H:Hp}{a b:Addr}{o:HO}(h:b≠a):upd H a o b=H b:=by unfold upd;rw[if_neg h]
theorem zuk {H:Hp}{a:Addr}{o u:HO}:upd (upd H a o) a u=upd H a u:=by
 funext b;unfold upd;split<;>rfl
theorem zel {H:Hp}{a b:Addr}{o u:HO}(h:H a=some o)(h':H b=some u)(d:o≠u):a≠b:=by
 intro e;subst e;rw[h] at h';exact d (yfc h')
theorem zka {H:Hp}{a b:Addr}{o:HO}(h:H a=some o)(h':H b=none):a≠b:=by
 intro e;subst e;rw[h] at h';cases h'
section
variable (P:ypb)(w:World)
def zrg (H:Hp)(h:Heap)(a:Addr):HO->Prop
 | .lst xs=>xs.length≤yta∧Ex2 λ(its:List Value) (n:Nat)=>Vals xs its∧h.get? a=some { cls:=.type "list",data:=.seq its.toArray n }
 | .tup xs=>xs.length≤yta∧∃its:List Value,Vals xs its∧IsTup h a its.toArray
 | .dK kvs=>kvs.length≤yta∧(a==ygg)=false∧∃vs,KV kvs vs∧h.DictOf (zue P w) a vs
 | .dT kvs=>kvs.length≤yta∧(a==ygg)=false∧∃xs:List (List Key×Addr×Value),
   Paired (λ(p:List Key×V) (q:List Key×Addr×Value)=>p.1=q.1∧H q.2.1=some (.tup (p.1.map kV))∧RelV p.2 q.2.2) kvs xs ∧
   Ex3 λo es ep=>h.get? a=some o∧o.ExactDict∧o.data = .dict es ep∧es.toList=xs.map (entryOfKey (yql (zue P w)))∧(xs.map (·.1)).Nodup
 | .set S n=>h.SetOf (intKind P w) a S n
 | .ins C dx fs=>H dx=some (.own a)∧fs.length≤1000∧dx≠a∧h.get? a=some (yqe C dx) ∧
   ∃mA,h.Ns1 dx mA∧(∀f,RelO (fs.lookup f) (mA f))∧yrl mA (fs.map (·.1))
 | .own _=>∃o,h.get? a=some o
 | .xd fs=>∃mA,h.Ns1 a mA∧∀f,RelO (fs.lookup f) (mA f)
 | .rng lo hi=>Ex3 λt u v=>h.get? a=some { cls:=.type "range",data:=.fields #[.int lo t,.int hi u,.int 1 v] }
 | .frz o u=>h.get? a=some o∧zrg H h a u
 | .tbl ps=>h.get? a=some { cls:=.none,data:=.fields ps }
 | .met f x=>h.get? a=some (ywj (.ref f) (.ref x))
 | .ext φ=>φ h∧(∃o,h.get? a=some o)∧∀h1 h2:Heap,φ h1->(∀o,h1.get? a=some o->h2.get? a=some o)->φ h2
def HOk (H:Hp)(h:Heap):Prop:=∀a o,H a=some o->zrg P w H h a o
end
section
variable {P:ypb}{w:World}{H H':Hp}{h h':Heap}{a:Addr}{o:HO}
theorem zrg.lt (x:zrg P w H h a o):a<h.objs.size:=by
 cases o with
 | lst xs=>obtain⟨_,_,_,_,e⟩:=x;exact yra e
 | tup xs=>obtain⟨_,_,_,p⟩:=x;exact p.lt
 | dK kvs=>obtain⟨_,_,_,_,o,_,_,e,_⟩:=x;exact yra e
 | dT kvs=>obtain⟨_,_,_,_,o,_,_,e,_⟩:=x;exact yra e
 | set S n=>obtain⟨o,_,_,_,e,_⟩:=x;exact yra e
 | ins C dx fs=>obtain⟨_,_,_,e,_⟩:=x;exact yra e
 | own y=>obtain⟨_,e⟩:=x;exact yra e
 | xd fs=>obtain⟨_,⟨_,_,_,e,_⟩,_⟩:=x;exact yra e
 | rng lo hi=>obtain⟨_,_,_,e⟩:=x;exact yra e
 | frz ob u=>obtain⟨e,_⟩:=x;exact yra e
 | tbl ps=>exact yra (show h.get? a=some _ from x)
 | met f y=>exact yra (show h.get? a=some _ from x)
 | ext φ=>obtain⟨_,⟨_,e⟩,_⟩:=x;exact yra e
theorem Paired.mapP {α β:Type}{F G:α->β->Prop}:∀{l₁:List α} {l₂:List β},Paired F l₁ l₂->(∀a b,F a b->G a b)->Paired G l₁ l₂
 | _,_,.nil,_=>.nil
 | _,_,.cons r t,f=>.cons (f _ _ r) (Paired.mapP t f)
theorem zrg.stay (x:zrg P w H h a o)(k:∀b u,(b=a∨H b=some (.own a))->h.get? b=some u->h'.get? b=some u)
  (ho:∀b,H b=some (.own a)->H' b=some (.own a)) (ht:∀b xs,H b=some (.tup xs)->H' b=some (.tup xs)):zrg P w H' h' a o:=by
 induction o with
 | lst xs=>obtain⟨z,its,n,r,e⟩:=x;exact⟨z,its,n,r,k _ _ (.inl rfl) e⟩
 | tup xs=>obtain⟨z,its,r,ob,e,c⟩:=x;exact⟨z,its,r,ob,k _ _ (.inl rfl) e,c⟩
 | dK kvs=>obtain⟨z,y,vs,r,ob,es,ep,e,c⟩:=x;exact⟨z,y,vs,r,ob,es,ep,k _ _ (.inl rfl) e,c⟩
 | dT kvs =>
  obtain⟨z,y,xs,r,ob,es,ep,e,c⟩:=x;exact⟨z,y,xs,Paired.mapP r λp q z=>⟨z.1,ht _ _ z.2.1,z.2.2⟩,ob,es,ep,k _ _ (.inl rfl) e,c⟩
 | set S n=>obtain⟨ob,es,ep,t,e,c⟩:=x;exact⟨ob,es,ep,t,k _ _ (.inl rfl) e,c⟩
 | ins C dx fs =>
  obtain⟨d,z,ne,e,mA,⟨od,es,ep,e2,c⟩,r⟩:=x;exact⟨ho _ d,z,ne,k _ _ (.inl rfl) e,mA,⟨od,es,ep,k _ _ (.inr d) e2,c⟩,r⟩
 | own y=>obtain⟨ob,e⟩:=x;exact⟨ob,k _ _ (.inl rfl) e⟩
 | xd fs=>obtain⟨mA,⟨od,es,ep,e,c⟩,r⟩:=x;exact⟨mA,⟨od,es,ep,k _ _ (.inl rfl) e,c⟩,r⟩
 | rng lo hi=>obtain⟨t,u,v,e⟩:=x;exact⟨t,u,v,k _ _ (.inl rfl) e⟩
 | frz ob u ih=>obtain⟨e,q⟩:=x;exact⟨k _ _ (.inl rfl) e,ih q⟩
 | tbl ps =>
  have e:h.get? a=some { cls:=.none,data:=.fields ps }:=x;show h'.get? a=some { cls:=.none,data:=.fields ps }
  exact k a _ (.inl rfl) e
 | met f y =>
  have e:h.get? a=some (ywj (.ref f) (.ref y)):=x;show h'.get? a=some (ywj (.ref f) (.ref y))
  exact k a _ (.inl rfl) e
 | ext φ=>obtain⟨p,⟨o,e⟩,st⟩:=x;exact⟨st _ _ p λo q=>k _ _ (.inl rfl) q,⟨o,k _ _ (.inl rfl) e⟩,st⟩
theorem HOk.lt (x:HOk P w H h)(e:H a=some o):a<h.objs.size:=(x a o e).lt
theorem HOk.fresh (x:HOk P w H h)(e:h.objs.size≤a):H a=none:=by
 cases q:H a with
 | none=>rfl
 | some u=>exact absurd (yoa (x.lt q) e) (yrd _)
theorem HOk.kept (x:HOk P w H h)(k:∀b u,h.get? b=some u->h'.get? b=some u):HOk P w H h':=λa o e =>
 (x a o e).stay (λb u _ q=>k b u q) (λ_ q=>q) λ_ _ q=>q
theorem HOk.laid (x:HOk P w H h)(k:∀b u,h.get? b=some u->h'.get? b=some u)(hp:h.objs.size≤a)(new:zrg P w (upd H a o) h' a o):HOk P w (upd H a o) h':=λb u e=>by
 have hn:=x.fresh hp
 by_cases hb:b=a
 ·subst hb;rw[zga] at e;cases e;exact new
 ·rw[zza hb] at e;exact (x b u e).stay (λc v _ q=>k c v q) (λc q=>by rw[zza (zka q hn)];exact q) λc xs q=>by rw[zza (zka q hn)];exact q
end
def Rd (H:Hp)(a:Addr)(u:HO):Prop:=H a=some u∨∃o,H a=some (.frz o u)
theorem Rd.ok {P:ypb}{w:World}{H:Hp}{h:Heap}{a:Addr}{u:HO}(r:Rd H a u)(x:HOk P w H h):zrg P w H h a u:=by
 rcases r with r|⟨o,r⟩
 ·exact x a u r
 ·obtain⟨_,q⟩:=x a _ r;exact q
def Mut:Option HO->Prop
 | some (.lst _)=>True
 | some (.dK _)=>True
 | some (.dT _)=>True
 | some (.set _ _)=>True
 | some (.ins _ _ _)=>True
 | some (.ext _)=>True
 | _=>False
section
variable {P:ypb}{w:World}{H:Hp}{h h':Heap}{x e:Addr}{o':HO}
theorem HOk.write (ok:HOk P w H h)(mu:Mut (H x))(he:e=x∨H e=some (.own x))(k:∀b u,b≠e->h.get? b=some u->h'.get? b=some u)(heo:∃u,h'.get? e=some u)
  (new:zrg P w (upd H x o') h' x o'):HOk P w (upd H x o') h':=λb u q=>by
 have nown:∀c y,H c=some (.own y)->c≠x:=λc y r z=>by subst z;rw[r] at mu;exact mu
 have ntup:∀c xs,H c=some (.tup xs)->c≠x:=λc xs r z=>by subst z;rw[r] at mu;exact mu
 by_cases hb:b=x
 ·subst hb;rw[zga] at q;cases q;exact new
 ·rw[zza hb] at q
  by_cases hbe:b=e
  ·have q':H b=some (.own x):=by
    rcases he with z|z
    ·exact absurd (hbe.trans z) hb
    ·rw[hbe];exact z
   rw[q] at q';cases q';obtain⟨v,hv⟩:=heo;exact⟨v,by rw[hbe];exact hv⟩
  ·refine (ok b u q).stay (λc v hc r=>k c v ?_ r) (λc r=>by rw[zza (nown c b r)];exact r) λc xs r=>by rw[zza (ntup c xs r)];exact r
   rcases hc with rfl|hc
   ·exact hbe
   ·rintro rfl
    rcases he with z|z
    ·exact nown c b hc z
    ·rw[hc] at z;cases z;exact hb rfl
end
structure Un (fs ex:List Addr)(H H':Hp)(h h':Heap):Prop where
 keep:∀b o,h.get? b=some o->H b=none->b∉fs->b∉ex->h'.get? b=some o
 slot:∀b o,h.get? b=some o->H b=none->b∈fs->b∉ex->∃sl,h'.get? b=some { o with slots:=sl }
 free:∀b o,h.get? b=some o->H b=none->b∉ex->H' b=none
 there:∀b o,h.get? b=some o->b∉ex->∃o',h'.get? b=some o'
 tups:∀b xs,H b=some (.tup xs)->H' b=some (.tup xs)
 frzs:∀b o u,H b=some (.frz o u)->H' b=some (.frz o u)
 tbls:∀b ps,H b=some (.tbl ps)->∃more,H' b=some (.tbl (ps++more))
section
variable {fs fs' ex ex':List Addr}{H H1 H2:Hp}{h h1 h2 h':Heap}{a x e:Addr}{o:HO}
theorem Un.any (u:Un fs ex H H1 h h1){b:Addr}{ob:Obj}(q:h.get? b=some ob)(n:H b=none)(hx:b∉ex):∃sl,h1.get? b=some { ob with slots:=sl }:=by
 by_cases hb:b∈fs
 ·exact u.slot b ob q n hb hx
 ·exact⟨ob.slots,u.keep b ob q n hb hx⟩
theorem Un.kept (k:∀b u,h.get? b=some u->h'.get? b=some u):Un fs ex H H h h' :=
 ⟨λb ob q _ _ _=>k b ob q,λb ob q _ _ _=>⟨ob.slots,k b ob q⟩,λ_ _ _ n _=>n,λb ob q _=>⟨ob,k b ob q⟩,λ_ _ q=>q,λ_ _ _ q=>q,λ_ ps q=>⟨#[],by rw[q];simp⟩⟩
theorem Un.refl:Un fs ex H H h h:=Un.kept λ_ _ q=>q
theorem Un.laid (k:∀b u,h.get? b=some u->h'.get? b=some u)(hp:h.objs.size≤a)(hn:H a=none):Un fs ex H (upd H a o) h h' where
 keep:=λb u q _ _ _=>k b u q
 slot:=λb u q _ _ _=>⟨u.slots,k b u q⟩
 free:=λb u q n _=>by rw[zza (yhb (yoa (yra q) hp))];exact n
 there:=λb u q _=>⟨u,k b u q⟩
 tups:=λb xs q=>by rw[zza (zka q hn)];exact q
 frzs:=λb u xs q=>by rw[zza (zka q hn)];exact q
 tbls:=λb ps q=>⟨#[],by rw[zza (zka q hn),q];simp⟩
theorem Un.write (mu:Mut (H x))(he:e=x∨H e=some (.own x))(k:∀b u,b≠e->h.get? b=some u->h'.get? b=some u)(heo:∃u,h'.get? e=some u):Un fs ex H (upd H x o) h h':=by
 have hx:∀b,H b=none->b≠x:=λb n z=>by subst z;rw[n] at mu;exact mu
 have hb:∀b,H b=none->b≠e:=λb n z=>by
  subst z
  rcases he with r|r
  ·exact hx b n r
  ·rw[n] at r;cases r
 have hm:∀b u,H b=some u->¬ Mut (some u)->b≠x:=λb u q nm z=>by subst z;rw[q] at mu;exact nm mu
 refine⟨λb u q n _ _=>k b u (hb b n) q,λb u q n _ _=>⟨u.slots,k b u (hb b n) q⟩,λb u q n _=>by rw[zza (hx b n)];exact n,λb u q _=>?_,
  λb xs q=>by rw[zza (hm b _ q λz=>z)];exact q,λb u xs q=>by rw[zza (hm b _ q λz=>z)];exact q,λb ps q=>⟨#[],by rw[zza (hm b _ q λz=>z),q];simp⟩⟩
 by_cases hbe:b=e
 ·subst hbe;exact heo
 ·exact⟨u,k b u hbe q⟩
end
def trk (h:Heap)(H:Hp):List Addr:=(yoe h.objs.size).filter λa=>(H a).isSome
def hidT (h:Heap)(H:Hp):Heap:=PySem.W.hideAll h (trk h H)
theorem zuib (h:Heap)(H:Hp):(hidT h H).objs.size=h.objs.size:=PySem.W.hideAll_size _ _
theorem zfmb {h:Heap}{H:Hp}{b:Addr}{o:Obj}(e:h.get? b=some o)(n:H b=none):(hidT h H).get? b=some o :=
 PySem.W.hideAll_get _ e λhm=>by
  have q:(H b).isSome=true:=(yjg.mp hm).2;rw[n] at q;simp at q
theorem zkpb {h:Heap}{H:Hp}{b:Addr}{o:Obj}(e:(hidT h H).get? b=some o):h.get? b=some o∧H b=none:=by
 have e':h.get? b=some o:=PySem.W.of_hideAll (trk h H) e;refine⟨e',?_⟩;cases q:H b with
 | none=>rfl
 | some x =>
  have hm:b∈trk h H:=yjg.mpr ⟨ywm.mpr (yra e'),by simp[q]⟩;have z:(hidT h H).get? b=none:=PySem.W.hideAll_none (trk h H) hm;rw[z] at e;cases e
def zpqb (g h:Heap)(L:Addr):List (Addr×Obj):=(yoe h.objs.size).filterMap λa=>if a=L∨(g.get? a).isSome=true then none else (h.get? a).map λo=>(a,o)
def rest (g h:Heap)(L d:Addr):List (Addr×Obj):=(zpqb g h L).filter λp=>decide (p.1≠d)
end L2
namespace L2
open PySem PySem.Spec PyProof.Rows
structure Mod (K:yba)(mg:Str->Option Value)(base:Heap):Prop where
 kin:K.In base
 glob:base.Ns yab mg
 blt:∃mb,base.Ns builtinsNs mb∧∀x:Str,x ≠ "__name__"->mb x=ykg x
 nolimit:base.NoLimit
structure Cx where
 prog:ypb
 w:World
 K:yba
 mg:Str->Option Value
 base:Heap
 A:Around
 N:List Str
 s₀:Shared
 H₀:Hp
 env:Env
 outer:List Env
 stack:List Env
 ex:List Addr
 fn:Str->Bool
 calm:Bool
 pn:List (Addr×Obj)
 xe:Value->Shared->Prop
def frs (l:List Env):List Addr:=l.filterMap (·.frame)
abbrev Cx.fs (X:Cx):List Addr:=frs X.outer
def Vis (sc:Scope)(x:Str):Prop:=sc.names.lookup x=some .local∨sc.names.lookup x=some .cell∨sc.names.lookup x=some .free
def Loc (sc:Scope)(x:Str):Prop:=sc.names.lookup x=some .local∨sc.names.lookup x=some .cell
def Look (env:Env)(h:Heap)(m:Str->Option Value)(x:Str)(u:Value):Prop :=
 (env.kindOf x=some .local∧m x=some u)∨((env.kindOf x=some .cell∨env.kindOf x=some .free)∧∃c,env.cells.lookup x=some c∧h.IsCell c (some u))
structure Cx.Ok (X:Cx):Prop where
 mod:Mod X.K X.mg X.base
 kind:X.env.scope.kind = .function
 glob:X.env.globals=yab
 blt:X.env.builtins=builtinsNs
 above:X.s₀.heap.objs.size≤X.env.locals
 inj:∀x y c,X.env.cells.lookup x=some c->X.env.cells.lookup y=some c->x=y
 has:∀x,(X.env.kindOf x=some .cell∨X.env.kindOf x=some .free)->∃c,X.env.cells.lookup x=some c
 cab:∀x c,X.fn x=true->X.env.cells.lookup x=some c->X.s₀.heap.objs.size≤c
 hd:X.calm=true->X.A.handled=none
 frames:X.A.frames=some X.stack
 stk:X.stack=X.outer∨(X.stack=X.env::X.outer∧X.env.frame=some X.env.locals)
 exf:∀b∈X.ex,b≠X.env.locals∧∀x c,X.env.cells.lookup x=some c->c≠b
 bs:∀b o,X.base.get? b=some o->X.s₀.heap.get? b=some o∧X.H₀ b=none
 bsz:X.base.objs.size≤X.s₀.heap.objs.size
 noex:∀b o,X.base.get? b=some o->b∉X.ex
 exfs:∀b∈X.ex,b∉X.fs
 funs:X.s₀.heap.FunFrames X.base X.outer
 frf:∀b∈X.fs,X.H₀ b=none
structure Inv (X:Cx)(pins:List (Addr×Obj))(σ:List (Option V))(H:Hp)(s:Shared):Prop where
 ok:X.Ok
 os:s.os=X.s₀.os
 bare:ybn s.gens
 base:Un X.fs X.ex X.H₀ H X.s₀.heap s.heap
 loc:∃m,s.heap.Ns X.env.locals m∧∀(i:Nat) (x:Str) (v:V),X.N[i]?=some x->σ[i]?=some (some v)->Vis X.env.scope x->∃u,RelV v u∧Look X.env s.heap m x u
 cell:∀x c,X.env.cells.lookup x=some c->∃v,s.heap.IsCell c v
 free:H X.env.locals=none
 freeC:∀x c,X.env.cells.lookup x=some c->H c=none
 pin:∀p∈X.pn++pins,s.heap.get? p.1=some p.2∧H p.1=none∧p.1≠X.env.locals∧p.1∉X.fs∧∀v,p.2.data ≠ .cell v
 hok:HOk X.prog X.w H s.heap
 len:σ.length=X.N.length
section
variable {X:Cx}{pins:List (Addr×Obj)}{σ:List (Option V)}{H H':Hp}{s:Shared}{h':Heap}
theorem Cx.Ok.nofr (ok:X.Ok){b:Addr}{o:Obj}(e:X.base.get? b=some o):b∉X.fs:=λhb=>by
 have:=(ok.funs.mem hb).1;rw[e] at this;cases this
theorem Inv.bs (I:Inv X pins σ H s):∀b o,X.base.get? b=some o->s.heap.get? b=some o∧H b=none:=λb o e =>
 ⟨I.base.keep b o (I.ok.bs b o e).1 (I.ok.bs b o e).2 (I.ok.nofr e) (I.ok.noex b o e),I.base.free b o (I.ok.bs b o e).1 (I.ok.bs b o e).2 (I.ok.noex b o e)⟩
theorem Inv.bk (I:Inv X pins σ H s):∀b o,X.base.get? b=some o->s.heap.get? b=some o:=λb o e=>(I.bs b o e).1
theorem Inv.mod (I:Inv X pins σ H s):Mod X.K X.mg X.base:=I.ok.mod
theorem Inv.kIn (I:Inv X pins σ H s):X.K.In s.heap:=I.ok.mod.kin.keeps I.bk
theorem Inv.fr (I:Inv X pins σ H s):∃m,Fr X.base X.env.locals s.heap m :=
 let ⟨m,hn,_⟩:=I.loc
 ⟨m,hn,I.bk,yxa I.ok.bsz I.ok.above⟩
theorem Inv.lt (I:Inv X pins σ H s):X.env.locals<s.heap.objs.size:=let ⟨_,hn,_⟩:=I.loc;hn.lt
theorem Inv.sz (I:Inv X pins σ H s):X.s₀.heap.objs.size≤s.heap.objs.size:=yxa I.ok.above (yle I.lt)
theorem Inv.nofs (I:Inv X pins σ H s){a:Addr}(h:s.heap.objs.size≤a):a∉X.fs:=λhb=>by
 obtain⟨_,o,ho,_⟩:=I.ok.funs.mem hb;exact absurd (yoa (yra ho) (yxa I.sz h)) (yrd _)
theorem Inv.cne (I:Inv X pins σ H s):∀x c,X.env.cells.lookup x=some c->c≠X.env.locals:=λx c e z=>by
 obtain⟨v,o,ho,hd⟩:=I.cell x c e;obtain⟨m,⟨o',es,ep,ho',hd',_⟩,_⟩:=I.loc;rw[z,ho'] at ho;cases ho;rw[hd'] at hd;cases hd
theorem Inv.funs (I:Inv X pins σ H s):s.heap.FunFrames X.base X.outer:=by
 have all:∀(l:List Env),(∀b∈frs l,b∈X.fs)->X.s₀.heap.FunFrames X.base l->s.heap.FunFrames X.base l:=by
  intro l
  induction l with
  | nil=>intro _ _;trivial
  | cons env r ih =>
   intro hs hl;obtain⟨hk,⟨L,o,hf,hn,ho,hd⟩,hr⟩:=hl;have hL:L∈X.fs:=hs L (by unfold frs;rw[yfh,hf];exact yka);obtain⟨sl,e⟩:=I.base.slot L o ho (I.ok.frf L hL) hL λz=>I.ok.exfs L z hL;exact⟨hk,⟨L,_,hf,hn,e,hd⟩,ih (λb hb=>hs b (by unfold frs;rw[yfh,hf];exact yna _ hb)) hr⟩
 exact all X.outer (λ_ hb=>hb) I.ok.funs
theorem Inv.stack (I:Inv X pins σ H s):s.heap.FunFrames X.base X.stack:=by
 rcases I.ok.stk with e|⟨e,hf⟩
 ·rw[e];exact I.funs
 ·rw[e];obtain⟨m,hn,_⟩:=I.loc;refine .cons (by rw[I.ok.kind];decide) hf hn ?_ I.funs;exact Heap.get?_none_of_le (yxa I.ok.bsz I.ok.above)
theorem Inv.zkdb (I:Inv X pins σ H s):∀b∈frs X.stack,b∈X.env.locals::X.fs:=λb hb=>by
 rcases I.ok.stk with e|⟨e,hf⟩
 ·rw[e] at hb;exact yna _ hb
 ·rw[e] at hb;unfold frs at hb;rw[yfh,hf] at hb;exact hb
theorem Inv.zugb (I:Inv X pins σ H s):∀b∈frs X.stack,H b=none:=λb hb=>by
 rcases yja.mp (I.zkdb b hb) with e|hb
 ·rw[e];exact I.free
 ·obtain⟨_,o,ho,_⟩:=I.ok.funs.mem hb;exact I.base.free b o ho (I.ok.frf b hb) λz=>I.ok.exfs b z hb
theorem Inv.step {g':Array GenState}{t':Nat}{d':Drawn}{ch:List Addr}(I:Inv X pins σ H s)
  (hch:∀b∈ch,(b∈X.ex∨X.s₀.heap.objs.size≤b)∧b≠X.env.locals∧(∀x c,X.env.cells.lookup x=some c->c≠b)∧∀p∈X.pn++pins,p.1≠b)
  (keep:∀b o,b≠X.env.locals->b∉X.fs->b∉ch->s.heap.get? b=some o->H b=none->h'.get? b=some o)
  (slot:∀b o,b≠X.env.locals->b∈X.fs->b∉ch->s.heap.get? b=some o->H b=none->∃sl,h'.get? b=some { o with slots:=sl }) (free:∀b o,b∉ch->s.heap.get? b=some o->H b=none->H' b=none)
  (there:∀b o,b∉ch->s.heap.get? b=some o->∃o',h'.get? b=some o')
  (tups:∀b xs,H b=some (.tup xs)->H' b=some (.tup xs)) (frzs:∀b o u,H b=some (.frz o u)->H' b=some (.frz o u)) (tbls:∀b ps,H b=some (.tbl ps)->∃more,H' b=some (.tbl (ps++more)))
  (ns:∀m,s.heap.Ns X.env.locals m->h'.Ns X.env.locals m) (hok:HOk X.prog X.w H' h') (hg:ybn g') :
  Inv X pins σ H' { s with heap:=h',gens:=g',drawn:=d',toks:=t' }:=by
 have neL:∀b o,X.s₀.heap.get? b=some o->b≠X.env.locals:=λb o e=>yhb (yoa (yra e) I.ok.above);have neC:∀b o,X.s₀.heap.get? b=some o->b∉X.ex->b∉ch:=λb o e hx hb=>by
  rcases (hch b hb).1 with z|z
  ·exact hx z
  ·exact absurd (yoa (yra e) z) (yrd _)
 have cellK:∀x c,X.env.cells.lookup x=some c->∀v,s.heap.IsCell c v->h'.IsCell c v:=λx c e v ⟨o,ho,hd⟩=>by
  have nch:c∉ch:=λz=>(hch c z).2.2.1 x c e rfl
  by_cases hc:c∈X.fs
  ·obtain⟨sl,q⟩:=slot c o (I.cne x c e) hc nch ho (I.freeC x c e);exact⟨_,q,hd⟩
  ·exact⟨o,keep c o (I.cne x c e) hc nch ho (I.freeC x c e),hd⟩
 refine⟨I.ok,I.os,hg,⟨λb o e n hb hx=>?_,λb o e n hb hx=>?_,λb o e n hx=>?_,λb o e hx=>?_,λb xs e=>tups b xs (I.base.tups b xs e),λb o xs e=>frzs b o xs (I.base.frzs b o xs e),λb ps e=>?_⟩,?_,λx c e=>?_,?_,λx c e=>?_,λp hp=>?_,hok,I.len⟩
 ·exact keep b o (neL b o e) hb (neC b o e hx) (I.base.keep b o e n hb hx) (I.base.free b o e n hx)
 ·obtain⟨sl,e1⟩:=I.base.slot b o e n hb hx;obtain⟨sl',e2⟩:=slot b _ (neL b o e) hb (neC b o e hx) e1 (I.base.free b o e n hx);exact⟨sl',e2⟩
 ·obtain⟨o',e1⟩:=I.base.there b o e hx;exact free b o' (neC b o e hx) e1 (I.base.free b o e n hx)
 ·obtain⟨o',e1⟩:=I.base.there b o e hx;exact there b o' (neC b o e hx) e1
 ·obtain⟨m1,e1⟩:=I.base.tbls b ps e;obtain⟨m2,e2⟩:=tbls b _ e1;exact⟨m1++m2,by rw[e2,yln]⟩
 ·obtain⟨m,hn,hl⟩:=I.loc;refine⟨m,ns m hn,λi x v e1 e2 e3=>?_⟩;obtain⟨u,r,l⟩:=hl i x v e1 e2 e3;refine⟨u,r,?_⟩
  rcases l with l|⟨k,c,e,z⟩
  ·exact .inl l
  ·exact .inr ⟨k,c,e,cellK x c e _ z⟩
 ·obtain⟨v,z⟩:=I.cell x c e;exact⟨v,cellK x c e v z⟩
 ·obtain⟨m,⟨o,_,_,ho,_⟩,_⟩:=I.loc;exact free _ o (λz=>(hch _ z).2.1 rfl) ho I.free
 ·obtain⟨v,o,ho,hd⟩:=I.cell x c e;exact free c o (λz=>(hch c z).2.2.1 x c e rfl) ho (I.freeC x c e)
 ·obtain⟨e,n,ne,nf,d⟩:=I.pin p hp;have nch:p.1∉ch:=λz=>(hch p.1 z).2.2.2 p hp rfl;exact⟨keep p.1 p.2 ne nf nch e n,free p.1 p.2 nch e n,ne,nf,d⟩
theorem Inv.un {t':Nat}(I:Inv X pins σ H s)(u:Un X.fs [] H H' s.heap h')(hok:HOk X.prog X.w H' h'):Inv X pins σ H' { s with heap:=h',toks:=t' }:=by
 obtain⟨m,⟨o,es,ep,ho,r⟩,_⟩:=id I.loc;obtain⟨sl,hL⟩:=u.any ho I.free (by simp);exact I.step (g':=s.gens) (d':=s.drawn) (ch:=[]) (λ_ z=>nomatch z) (λb o _ hb _ e n=>u.keep b o e n hb (by simp)) (λb o _ hb _ e n=>u.slot b o e n hb (by simp)) (λb o _ e n=>u.free b o e n (by simp)) (λb o _ e=>u.there b o e (by simp)) u.tups u.frzs u.tbls (λm' hm=>by
  obtain⟨o',es',ep',ho',r'⟩:=hm;rw[ho] at ho';cases ho';exact⟨_,es',ep',hL,r'⟩) hok I.bare
theorem Inv.call {g':Array GenState}{t':Nat}{d':Drawn}{ch:List Addr}(I:Inv X pins σ H s)(u:Un (frs X.stack) ch H H' s.heap h')(hok:HOk X.prog X.w H' h')(hg:ybn g')
  (hch:∀b∈ch,(b∈X.ex∨X.s₀.heap.objs.size≤b)∧b≠X.env.locals∧(∀x c,X.env.cells.lookup x=some c->c≠b)∧∀p∈X.pn++pins,p.1≠b) :
  Inv X pins σ H' { s with heap:=h',gens:=g',drawn:=d',toks:=t' }:=by
 obtain⟨m,⟨o,es,ep,ho,r⟩,_⟩:=id I.loc;obtain⟨sl,hL⟩:=u.any ho I.free λz=>(hch _ z).2.1 rfl;exact I.step (ch:=ch) hch (λb o hL hb hc e n=>u.keep b o e n (λz=>(yja.mp (I.zkdb b z)).elim hL hb) hc) (λb o _ _ hc e n=>u.any e n hc) (λb o hc e n=>u.free b o e n hc) (λb o hc e=>u.there b o e hc) u.tups u.frzs u.tbls (λm' hm=>by
  obtain⟨o',es',ep',ho',r'⟩:=hm;rw[ho] at ho';cases ho';exact⟨_,es',ep',hL,r'⟩) hok hg
theorem Inv.turned {t':Nat}{it:Addr}(I:Inv X pins σ H s)(k:∀b o,b≠it->s.heap.get? b=some o->h'.get? b=some o)(hn:H it=none)(hL:it≠X.env.locals)
  (h1:it∈X.ex∨X.s₀.heap.objs.size≤it) (h2:∀x c,X.env.cells.lookup x=some c->c≠it) (h3:∀p∈X.pn++pins,p.1≠it):Inv X pins σ H { s with heap:=h',toks:=t' }:=by
 have nit:∀b u,H b=some u->b≠it:=λb u e z=>by rw[z,hn] at e;cases e
 refine I.step (g':=s.gens) (d':=s.drawn) (ch:=[it]) (λb hb=>?_) (λb o _ _ hc e _=>k b o (λz=>hc (by simp[z])) e) (λb o _ _ hc e _=>⟨o.slots,k b o (λz=>hc (by simp[z])) e⟩) (λ_ _ _ _ n=>n)
  (λb o hc e=>⟨o,k b o (λz=>hc (by simp[z])) e⟩) (λ_ _ e=>e) (λ_ _ _ e=>e) (λb ps e=>⟨#[],by rw[e];simp⟩) (λm hm=>?_) (λb u e=>?_) I.bare
 ·have e:b=it:=by simpa using hb
  subst e;exact⟨h1,hL,h2,h3⟩
 ·obtain⟨o,es,ep,ho,r⟩:=hm;exact⟨o,es,ep,k _ o (ysb hL) ho,r⟩
 ·refine (I.hok b u e).stay (λc v hc q=>k c v ?_ q) (λ_ q=>q) λ_ _ q=>q
  rcases hc with z|z
  ·rw[z];exact nit b u e
  ·exact nit c _ z
theorem Inv.tok (I:Inv X pins σ H s)(t:Nat):Inv X pins σ H { s with toks:=t }:=I.un (h':=s.heap) (t':=t) Un.refl I.hok
theorem Inv.kept {t':Nat}(I:Inv X pins σ H s)(k:∀b u,s.heap.get? b=some u->h'.get? b=some u):Inv X pins σ H { s with heap:=h',toks:=t' }:=I.un (Un.kept k) (I.hok.kept k)
theorem Inv.laid {a:Addr}{o:HO}{t':Nat}(I:Inv X pins σ H s)(k:∀b u,s.heap.get? b=some u->h'.get? b=some u)(hp:s.heap.objs.size≤a)(new:zrg X.prog X.w (upd H a o) h' a o) :
  Inv X pins σ (upd H a o) { s with heap:=h',toks:=t' }:=I.un (Un.laid k hp (I.hok.fresh hp)) (I.hok.laid k hp new)
theorem Inv.write {x e:Addr}{o:HO}{t':Nat}(I:Inv X pins σ H s)(mu:Mut (H x))(he:e=x∨H e=some (.own x))(k:∀b u,b≠e->s.heap.get? b=some u->h'.get? b=some u)(heo:∃u,h'.get? e=some u)
  (new:zrg X.prog X.w (upd H x o) h' x o):Inv X pins σ (upd H x o) { s with heap:=h',toks:=t' }:=I.un (Un.write mu he k heo) (I.hok.write mu he k heo new)
theorem Inv.weak {σ':List (Option V)}(I:Inv X pins σ H s)(hl:σ'.length=σ.length)(w:∀(i:Nat) v,σ'[i]?=some (some v)->σ[i]?=some (some v)):Inv X pins σ' H s :=
 ⟨I.ok,I.os,I.bare,I.base,let ⟨m,hn,hl'⟩:=I.loc;⟨m,hn,λi x v e1 e2 e3=>hl' i x v e1 (w i v e2) e3⟩,I.cell,I.free,I.freeC,I.pin,I.hok,hl.trans I.len⟩
theorem Inv.zcs {pins':List (Addr×Obj)}(I:Inv X pins σ H s)(h:∀p∈pins',s.heap.get? p.1=some p.2∧H p.1=none∧p.1≠X.env.locals∧p.1∉X.fs∧∀v,p.2.data ≠ .cell v):Inv X pins' σ H s :=
 ⟨I.ok,I.os,I.bare,I.base,I.loc,I.cell,I.free,I.freeC,λp hp=>(yeb.mp hp).elim (λz=>I.pin p (yni _ z)) (h p),I.hok,I.len⟩
theorem zwdb {N:List Str}(hN:N.Nodup){i j:Nat}{x:Str}(a:N[i]?=some x)(b:N[j]?=some x):i=j:=by
 obtain⟨h1,e1⟩:=yfa.mp a;obtain⟨h2,e2⟩:=yfa.mp b;exact (yqo hN).mp (e1.trans e2.symm)
theorem zsx {M:Model}{A:Around}{E:Value->Shared->Prop}{i:Nat}{x:Str}{v:V}{u:Value}{Q:Unit->Shared->Prop}(I:Inv X pins σ H s)(hN:X.N.Nodup)(hi:X.N[i]?=some x)(hx:Loc X.env.scope x)(r:RelV v u)
  (h:∀s',Inv X pins (σ.set i (some v)) H s'->(∃a,ywc a s.heap s'.heap∧(a=X.env.locals∨X.env.cells.lookup x=some a))->Q () s') (hf:X.fn x=true∨X.env.scope.names.lookup x=some .local:=by first|exact .inl rfl|exact .inr rfl|assumption):wpAny M A (storeName X.env x u) Q E s:=by
 obtain⟨m,hn,hl⟩:=id I.loc;have hcls:(X.env.scope.kind == .class||(X.env.scope.kind == .module&&X.env.locals != X.env.globals))=false:=by rw[I.ok.kind];rfl
 have hiσ:i<σ.length:=by rw[I.len];exact (yfa.mp hi).1
 have cne:=I.cne;have tracked:∀{a:Addr} {h':Heap},(∃o,s.heap.get? a=some o∧H a=none)->ywc a s.heap h'->HOk X.prog X.w H h':=λ{a h'} ha hs b ob e=>by
  obtain⟨_,_,hfree⟩:=ha;refine (I.hok b ob e).stay (λc w' hc q=>(hs.2 c ?_).trans q) (λ_ q=>q) λ_ _ q=>q;rintro rfl
  rcases hc with rfl|hc
  ·rw[hfree] at e;cases e
  ·rw[hfree] at hc;cases hc
 rcases hx with hk|hk
 ·refine wpAny_storeName_local hk hn (λh' hn' hs=>?_) hcls;obtain⟨oL,_,_,hoL,_⟩:=id hn;refine h _ ⟨I.ok,I.os,I.bare,⟨λb o e n hb hx=>?_,λb o e n hb hx=>?_,I.base.free,λb o e hx=>?_,I.base.tups,I.base.frzs,I.base.tbls⟩,⟨_,hn',λj y v' e1 e2 e3=>?_⟩,λy c e=>?_,I.free,I.freeC,λp hp=>?_,tracked ⟨oL,hoL,I.free⟩ hs,by simpa using I.len⟩ ⟨_,hs,.inl rfl⟩
  ·exact (hs.2 b (yhb (yoa (yra e) I.ok.above))).trans (I.base.keep b o e n hb hx)
  ·obtain⟨sl,e1⟩:=I.base.slot b o e n hb hx;exact⟨sl,(hs.2 b (yhb (yoa (yra e) I.ok.above))).trans e1⟩
  ·obtain⟨o',e1⟩:=I.base.there b o e hx;exact⟨o',(hs.2 b (yhb (yoa (yra e) I.ok.above))).trans e1⟩
  ·by_cases hj:j=i
   ·subst hj;rw[hi] at e1;cases e1;rw[yil hiσ] at e2;cases e2;exact⟨u,r,.inl ⟨hk,by simp⟩⟩
   ·rw[ytm (ysb hj)] at e2;obtain⟨u',r',q⟩:=hl j y v' e1 e2 e3;refine⟨u',r',?_⟩
    rcases q with⟨k,e⟩|⟨k,c,e,z⟩
    ·refine .inl ⟨k,?_⟩;have:y≠x:=λe=>hj (zwdb hN e1 (e▸hi));simp[this,e]
    ·exact .inr ⟨k,c,e,z.sameBut hs (cne y c e)⟩
  ·obtain⟨w',z⟩:=I.cell y c e;exact⟨w',z.sameBut hs (cne y c e)⟩
  ·obtain⟨e,n,ne,nf,d⟩:=I.pin p hp;exact⟨(hs.2 p.1 ne).trans e,n,ne,nf,d⟩
 ·have hfn:X.fn x=true:=by
   rcases hf with z|z
   ·exact z
   ·rw[z] at hk;cases hk
  obtain⟨c,hc⟩:=I.ok.has x (.inl hk);obtain⟨w',z⟩:=I.cell x c hc;refine wpAny_storeName_cell I.ok.kind hk hc z (λh' hc' hs=>?_);obtain⟨oc,hoc,hocd⟩:=id z;refine h { s with heap:=h' } ⟨I.ok,I.os,I.bare,⟨λb o e n hb hx=>?_,λb o e n hb hx=>?_,I.base.free,λb o e hx=>?_,I.base.tups,I.base.frzs,I.base.tbls⟩,⟨m,hn.sameBut hs (ysb (cne x c hc)),λj y v' e1 e2 e3=>?_⟩,λy c' e=>?_,I.free,I.freeC,λp hp=>?_,tracked ⟨oc,hoc,I.freeC x c hc⟩ hs,by simpa using I.len⟩ ⟨c,hs,.inr hc⟩
  ·exact (hs.2 b (yhb (yoa (yra e) (I.ok.cab x c hfn hc)))).trans (I.base.keep b o e n hb hx)
  ·obtain⟨sl,e1⟩:=I.base.slot b o e n hb hx;exact⟨sl,(hs.2 b (yhb (yoa (yra e) (I.ok.cab x c hfn hc)))).trans e1⟩
  ·obtain⟨o',e1⟩:=I.base.there b o e hx;exact⟨o',(hs.2 b (yhb (yoa (yra e) (I.ok.cab x c hfn hc)))).trans e1⟩
  ·by_cases hj:j=i
   ·subst hj;rw[hi] at e1;cases e1;rw[yil hiσ] at e2;cases e2;exact⟨u,r,.inr ⟨.inl hk,c,hc,hc'⟩⟩
   ·rw[ytm (ysb hj)] at e2;obtain⟨u',r',q⟩:=hl j y v' e1 e2 e3;refine⟨u',r',?_⟩
    rcases q with q|⟨k,c',e,z'⟩
    ·exact .inl q
    ·refine .inr ⟨k,c',e,z'.sameBut hs ?_⟩;rintro rfl;exact hj (zwdb hN e1 (I.ok.inj _ _ _ e hc▸hi))
  ·by_cases hcc:c'=c
   ·subst hcc;exact⟨_,hc'⟩
   ·obtain⟨w2,z2⟩:=I.cell y c' e;exact⟨w2,z2.sameBut hs hcc⟩
  ·obtain⟨e,n,ne,nf,d⟩:=I.pin p hp;refine⟨(hs.2 p.1 ?_).trans e,n,ne,nf,d⟩;intro q;rw[q,hoc] at e;have q':oc=p.2:=yfc e;exact d w' (by rw[← q'];exact hocd)
theorem ziv {M:Model}{A:Around}{E:Value->Shared->Prop}{i:Nat}{x:Str}{v:V}{u:Value}{Q:Unit->Shared->Prop}(I:Inv X pins σ H s)(hN:X.N.Nodup)(hi:X.N[i]?=some x)(hx:Loc X.env.scope x)(r:RelV v u)
  (h:∀s',Inv X pins (σ.set i (some v)) H s'->Q () s') (hf:X.fn x=true∨X.env.scope.names.lookup x=some .local:=by first|exact .inl rfl|exact .inr rfl|assumption):wpAny M A (storeName X.env x u) Q E s :=
 zsx I hN hi hx r (λs' I' _=>h s' I') hf
end
abbrev XK:=Value->Option Addr->Hp->Prop
abbrev St:=List (Option V)
abbrev VK:=V->Hp->Prop
abbrev TE:=St->Hp->VK->Prop
abbrev TT:=St->Hp->(Bool->Hp->Prop)->Prop
abbrev TA:=St->Hp->(List V->Hp->Prop)->Prop
structure Ends where
 nx:St->Hp->Prop
 rt:VK
 bk:St->Hp->Prop:=λ_ _=>False
 ct:St->Hp->Prop:=λ_ _=>False
abbrev TS:=Ends->St->Hp->Prop
def EP (X:Cx)(pins:List (Addr×Obj))(σ:St)(Q:VK)(u:Value)(s':Shared):Prop:=Ex2 λv H'=>Inv X pins σ H' s'∧RelV v u∧Q v H'
def TP (X:Cx)(pins:List (Addr×Obj))(σ:St)(Q:Bool->Hp->Prop)(b:Bool)(s':Shared):Prop:=∃H',Inv X pins σ H' s'∧Q b H'
def AP (X:Cx)(pins:List (Addr×Obj))(σ:St)(Q:List V->Hp->Prop)(us:List Value)(s':Shared):Prop:=Ex2 λvs H'=>Inv X pins σ H' s'∧Vals vs us∧Q vs H'
def SP (X:Cx)(pins:List (Addr×Obj))(D:Ends)(f:Flow)(s':Shared):Prop :=
 match f with
 | .next=>∃ σ' H',Inv X pins σ' H' s'∧D.nx σ' H'
 | .brk=>∃ σ' H',Inv X pins σ' H' s'∧D.bk σ' H'
 | .cont=>∃ σ' H',Inv X pins σ' H' s'∧D.ct σ' H'
 | .ret u=>∃v σ' H',Inv X pins σ' H' s'∧RelV v u∧D.rt v H'
def PE (X:Cx)(e:Expr)(t:TE):Prop :=
 ∀(pins:List (Addr×Obj)) (s:Shared) (σ:St) (H:Hp) (Q:VK),Inv X pins σ H s->t σ H Q->wpAny (model X.prog X.w) X.A (eval e X.env) (EP X pins σ Q) X.xe s
def PT (X:Cx)(e:Expr)(t:TT):Prop :=
 ∀(pins:List (Addr×Obj)) (s:Shared) (σ:St) (H:Hp) (Q:Bool->Hp->Prop),Inv X pins σ H s->t σ H Q->wpAny (model X.prog X.w) X.A (isTrue e X.env (eval e X.env)) (TP X pins σ Q) X.xe s
def PW (X:Cx)(e:Expr)(t:TT):Prop :=
 ∀(whole:Sem Value) (pins:List (Addr×Obj)) (s:Shared) (σ:St) (H:Hp) (Q:Bool->Hp->Prop),Inv X pins σ H s->t σ H Q->wpAny (model X.prog X.w) X.A (isTrue e X.env whole) (TP X pins σ Q) X.xe s
theorem PW.pt {X:Cx}{e:Expr}{t:TT}(h:PW X e t):PT X e t:=h _
def PA (X:Cx)(es:List Expr)(t:TA):Prop :=
 ∀(pos:Pos) (pins:List (Addr×Obj)) (s:Shared) (σ:St) (H:Hp) (Q:List V->Hp->Prop),Inv X pins σ H s->t σ H Q->wpAny (model X.prog X.w) X.A (spliced (backTo pos (ylc es X.env))) (AP X pins σ Q) X.xe s
def PS (X:Cx)(st:Stmt)(t:TS):Prop :=
 ∀(pins:List (Addr×Obj)) (s:Shared) (σ:St) (H:Hp) (D:Ends),Inv X pins σ H s->t D σ H->wpAny (model X.prog X.w) X.A (exec st X.env) (SP X pins D) X.xe s
def PSs (X:Cx)(st:List Stmt)(t:TS):Prop :=
 ∀(pins:List (Addr×Obj)) (s:Shared) (σ:St) (H:Hp) (D:Ends),Inv X pins σ H s->t D σ H->wpAny (model X.prog X.w) X.A (execs st X.env) (SP X pins D) X.xe s
theorem thn {α:Type}{t:Sem α}{Q Q':α->Shared->Prop}{M:Model}{A:Around}{E:Value->Shared->Prop}{s:Shared}(h:wpAny M A t Q E s)(hQ:∀a s,Q a s->Q' a s):wpAny M A t Q' E s:=ytd h hQ λ_ _ x=>x
end L2
namespace L2
open PySem PySem.Spec PyProof.Rows
section
variable {X:Cx}
def tVar (i:Nat):TE:=fun σ H Q=>∃v,σ[i]?=some (some v)∧Q v H
def tC (v:V):TE:=λ_ H Q=>Q v H
theorem zcsb {i:Nat}{x:Str}{pos:Pos}(hN:X.N[i]?=some x)(hv:Vis X.env.scope x)(hd:(x==("__debug__":Str))=false:=by decide)(hcd:(x==("__classdict__":Str))=false:=by decide):PE X (.Name x pos) (tVar i):=by
 intro pins s σ H Q I h;obtain⟨v,e,h⟩:=h;obtain⟨m,hn,hl⟩:=I.loc;obtain⟨u,r,l⟩:=hl i x v hN e hv;have fin:EP X pins σ Q u s:=⟨v,H,I,r,h⟩
 rcases l with⟨hk,hm⟩|⟨hk,c,hc,hcell⟩
 ·exact wpAny_Name (wpAny_loadName_local I.ok.kind hk hn hm fin) hd
 ·rcases hk with hk|hk
  ·exact wpAny_Name (wpAny_loadName_cell I.ok.kind hk hc hcell fin) hd
  ·exact wpAny_Name (wpAny_loadName_free I.ok.kind hk hc hcell fin hcd) hd
theorem zfa {i j pos}:PE X (.Constant (.int i) j pos) (tC (.int i)):=λ_ _ _ H _ I h=>wpAny_Constant_int ⟨.int i,H,I.tok _,⟨_,rfl⟩,h⟩
theorem zkfb {b j pos}:PE X (.Constant (.bool b) j pos) (tC (.bl b)):=λ_ _ _ H _ I h=>Constant_bool ⟨.bl b,H,I,rfl,h⟩
theorem zcg {j pos}:PE X (.Constant .none j pos) (tC .non):=λ_ _ _ H _ I h=>Constant_none ⟨.non,H,I,rfl,h⟩
theorem zna {x j pos}:PE X (.Constant (.str x) j pos) (tC (.str x)):=λ_ _ _ H _ I h=>Calls.Constant_str ⟨.str x,H,I.tok _,⟨_,rfl⟩,h⟩
def Gl (X:Cx)(x:Str):Prop:=X.env.kindOf x=some .globalImplicit
theorem zpbb {E:Value->Shared->Prop}{pins:List (Addr×Obj)}{s:Shared}{σ:St}{H:Hp}{x:Str}{u:Value}{pos:Pos}{Q:Value->Shared->Prop}(I:Inv X pins σ H s)(hg:Gl X x)(hm:X.mg x=some u)(h:Q u s)
  (hd:(x==("__debug__":Str))=false:=by decide):wpAny (model X.prog X.w) X.A (eval (.Name x pos) X.env) Q E s :=
 yjj I.ok.kind hg (Calls.loadGlobal_global (by rw[I.ok.glob];exact I.mod.glob.keeps I.bk) hm h) hd
theorem zru {E:Value->Shared->Prop}{pins:List (Addr×Obj)}{s:Shared}{σ:St}{H:Hp}{x:Str}{u:Value}{pos:Pos}{Q:Value->Shared->Prop}(I:Inv X pins σ H s)(hg:Gl X x)(hm:X.mg x=none)(hv:ykg x=some u)(h:Q u s)
  (hn:x ≠ "__name__":=by decide) (hd:(x==("__debug__":Str))=false:=by decide):wpAny (model X.prog X.w) X.A (eval (.Name x pos) X.env) Q E s:=by
 obtain⟨mb,h1,h2⟩:=I.mod.blt;exact yjj I.ok.kind hg (Calls.loadGlobal_builtin (by rw[I.ok.glob];exact I.mod.glob.keeps I.bk) hm (by rw[I.ok.blt];exact h1.keeps I.bk) ((h2 x hn).trans hv) h) hd
theorem zdg {x:Str}{v:V}{u:Value}{pos:Pos}(hg:Gl X x)(hm:X.mg x=some u)(r:RelV v u)(hd:(x==("__debug__":Str))=false:=by decide):PE X (.Name x pos) (tC v) :=
 λ_ _ _ H _ I h=>zpbb I hg hm ⟨v,H,I,r,h⟩ hd
theorem zuhb {x:Str}{v:V}{u:Value}{pos:Pos}(hg:Gl X x)(hm:X.mg x=none)(hv:ykg x=some u)(r:RelV v u)(hn:x ≠ "__name__":=by decide)(hd:(x==("__debug__":Str))=false:=by decide):PE X (.Name x pos) (tC v) :=
 λ_ _ _ H _ I h=>zru I hg hm hv ⟨v,H,I,r,h⟩ hn hd
variable {a b:Expr}{ta tb:TE}{pos:Pos}
def tB (t:TE):TT:=fun σ H Q=>t σ H λx H1=>∃c,x = .bl c∧Q c H1
theorem zfq {e:Expr}{t:TE}(h:PE X e t)(he:∀whole,isTrue e X.env whole=(do let v ← whole;standAt e.pos;ycn [v] (truthy v)):=by intro _;rfl):PT X e (tB t):=by
 intro pins s σ H Q I hw;refine isTrue_plain (thn (h pins s σ H _ I hw) λv s1 ⟨x,H1,I1,r1,q1⟩=>?_) (he _);obtain⟨d,rfl,q⟩:=q1;cases r1;exact ydd ⟨H1,I1,q⟩
variable {tA tB':TT}{rest:List Expr}
def tAnd (t u:TT):TT:=fun σ H Q=>t σ H λc H1=>if c=true then u σ H1 Q else Q false H1
def tOr (t u:TT):TT:=fun σ H Q=>t σ H λc H1=>if c=true then Q true H1 else u σ H1 Q
def tNot (t:TT):TT:=fun σ H Q=>t σ H λc H1=>Q (!c) H1
theorem zto (ha:PT X a tA):PW X (.BoolOp .And [a] pos) tA:=by
 intro wh pins s σ H Q I h;refine isTrue_and (thn (ha pins s σ H Q I h) λc s1 e=>?_);cases c with
 | true=>exact isTrue_and_nil e
 | false=>exact e
theorem zdy (ha:PT X a tA):PW X (.BoolOp .Or [a] pos) tA:=by
 intro wh pins s σ H Q I h;refine isTrue_or (thn (ha pins s σ H Q I h) λc s1 e=>?_);cases c with
 | false=>exact isTrue_or_nil e
 | true=>exact e
theorem zeq (ha:PT X a tA)(hb:PW X (.BoolOp .And (b::rest) pos) tB'):PW X (.BoolOp .And (a::b::rest) pos) (tAnd tA tB'):=by
 intro wh pins s σ H Q I h;refine isTrue_and (thn (ha pins s σ H _ I h) λc s1 ⟨H1,I1,q1⟩=>?_);cases c with
 | true=>exact hb wh pins s1 σ H1 Q I1 q1
 | false=>exact⟨H1,I1,q1⟩
theorem zzab (ha:PT X a tA)(hb:PW X (.BoolOp .Or (b::rest) pos) tB'):PW X (.BoolOp .Or (a::b::rest) pos) (tOr tA tB'):=by
 intro wh pins s σ H Q I h;refine isTrue_or (thn (ha pins s σ H _ I h) λc s1 ⟨H1,I1,q1⟩=>?_);cases c with
 | true=>exact⟨H1,I1,q1⟩
 | false=>exact hb wh pins s1 σ H1 Q I1 q1
theorem zas (ha:PT X a tA):PT X (.UnaryOp .Not a pos) (tNot tA):=by
 intro pins s σ H Q I h;exact isTrue_not (ha pins s σ H (λc H1=>Q (!c) H1) I h)
def zfub (ta tb:TE):TE:=fun σ H Q=>ta σ H λx H1=>∃c,x = .bl c∧if c=true then tb σ H1 Q else Q (.bl false) H1
def tOrV (ta tb:TE):TE:=fun σ H Q=>ta σ H λx H1=>∃c,x = .bl c∧if c=true then Q (.bl true) H1 else tb σ H1 Q
def zztb (ta:TE):TE:=fun σ H Q=>ta σ H λx H1=>∃c,x = .bl c∧Q (.bl (!c)) H1
theorem zgq {op}{t:TE}(h:PE X a t):PE X (.BoolOp op [a] pos) t:=λpins s σ H Q I hw=>BoolOp_one (h pins s σ H Q I hw)
theorem ztdb (ha:PE X a ta)(hb:PE X (.BoolOp .And (b::rest) pos) tb):PE X (.BoolOp .And (a::b::rest) pos) (zfub ta tb):=by
 intro pins s σ H Q I h;refine BoolOp_and (thn (ha pins s σ H _ I h) λv s1 ⟨x,H1,I1,r1,q1⟩=>?_);obtain⟨c,rfl,q1⟩:=q1;cases r1;refine ydd ?_;cases c with
 | true=>exact hb pins s1 σ H1 Q I1 q1
 | false=>exact⟨.bl false,H1,I1,rfl,q1⟩
theorem zelb (ha:PE X a ta)(hb:PE X (.BoolOp .Or (b::rest) pos) tb):PE X (.BoolOp .Or (a::b::rest) pos) (tOrV ta tb):=by
 intro pins s σ H Q I h;refine BoolOp_or (thn (ha pins s σ H _ I h) λv s1 ⟨x,H1,I1,r1,q1⟩=>?_);obtain⟨c,rfl,q1⟩:=q1;cases r1;refine ydd ?_;cases c with
 | false=>exact hb pins s1 σ H1 Q I1 q1
 | true=>exact⟨.bl true,H1,I1,rfl,q1⟩
theorem zenb (ha:PE X a ta):PE X (.UnaryOp .Not a pos) (zztb ta):=by
 intro pins s σ H Q I h;refine UnaryOp_ (thn (ha pins s σ H _ I h) λv s1 ⟨x,H1,I1,r1,q1⟩=>?_);obtain⟨c,rfl,q1⟩:=q1;cases r1;exact not_of (ydd ⟨.bl (!c),H1,I1,rfl,q1⟩)
def tIf (t:TT)(ta tb:TE):TE:=fun σ H Q=>t σ H λc H1=>if c=true then ta σ H1 Q else tb σ H1 Q
theorem zflb {c:Expr}(hc:PT X c tA)(ha:PE X a ta)(hb:PE X b tb):PE X (.IfExp c a b pos) (tIf tA ta tb):=by
 intro pins s σ H Q I h;refine wpAny_IfExp (thn (hc pins s σ H _ I h) λd s1 ⟨H1,I1,q1⟩=>?_);cases d with
 | true=>exact ha pins s1 σ H1 Q I1 q1
 | false=>exact hb pins s1 σ H1 Q I1 q1
end
end L2
namespace L2
open PySem PySem.Spec PyProof.Rows
def SqL (K:yba)(H:Hp)(a:Addr)(xs:List V):Prop :=
 Rd H a (.lst xs) ∨
  Ex3 λ(o:Obj) (its:Array Value) (n:Nat)=>K.lookup a=some o∧o.cls = .type "list" ∧ o.dict=none∧o.data = .seq its n∧its.size≤yta∧Vals xs its.toList
def SqT (K:yba)(H:Hp)(a:Addr)(xs:List V):Prop :=
 Rd H a (.tup xs) ∨
  Ex3 λ(o:Obj) (its:Array Value) (n:Nat)=>K.lookup a=some o∧o.cls = .type "tuple" ∧ o.data = .seq its n∧its.size≤yta∧Vals xs its.toList
def absV:Value->Option V
 | .none=>some .non
 | .bool b=>some (.bl b)
 | .int i _=>some (.int i)
 | .str x _=>some (.str x)
 | .bytes b _=>some (.byt b)
 | .float b _=>some (.flt b)
 | .ref a=>some (.ref a)
 | .type n=>some (.ty n)
 | _=>none
theorem RelV.abs {x:V}{u:Value}(r:RelV x u):absV u=some x:=by
 cases x with
 | non=>cases r;rfl
 | bl _=>cases r;rfl
 | int _=>obtain⟨t,rfl⟩:=r;rfl
 | str _=>obtain⟨t,rfl⟩:=r;rfl
 | byt _=>obtain⟨t,rfl⟩:=r;rfl
 | flt _=>obtain⟨t,rfl⟩:=r;rfl
 | ref _=>cases r;rfl
 | ty _=>cases r;rfl
theorem RelV.inj {x y:V}{u:Value}(r:RelV x u)(q:RelV y u):x=y:=yfc (r.abs.symm.trans q.abs)
theorem Vals.inj:∀{xs ys:List V} {us:List Value},Vals xs us->Vals ys us->xs=ys
 | _,_,_,.nil,.nil=>rfl
 | _,_,_,.cons r t,.cons r' t'=>by rw[r.inj r',Vals.inj t t']
section
variable {X:Cx}{pins:List (Addr×Obj)}{σ:St}{H:Hp}{s:Shared}{a:Addr}{xs ys:List V}
theorem SqL.of {K:yba}(h:H a=some (.lst xs)):SqL K H a xs:=.inl (.inl h)
theorem SqT.of {K:yba}(h:H a=some (.tup xs)):SqT K H a xs:=.inl (.inl h)
theorem Inv.list (I:Inv X pins σ H s)(h:SqL X.K H a xs):∃its:List Value,Vals xs its∧PlainL s.heap a its.toArray∧xs.length≤yta:=by
 rcases h with h|⟨o,its,n,hk,hc,hd,hs,hz,r⟩
 ·obtain⟨z,its,n,r,e⟩:=h.ok I.hok;exact⟨its,r,⟨_,n,e,rfl,rfl,rfl⟩,z⟩
 ·refine⟨its.toList,r,⟨o,n,I.kIn a o hk,hc,hd,by simpa using hs⟩,?_⟩;have e:=r.length;simp only[ybb] at e;omega
theorem Inv.tuple (I:Inv X pins σ H s)(h:SqT X.K H a xs):∃its:List Value,Vals xs its∧IsTup s.heap a its.toArray∧xs.length≤yta:=by
 rcases h with h|⟨o,its,n,hk,hc,hs,hz,r⟩
 ·obtain⟨z,its,r,p⟩:=h.ok I.hok;exact⟨its,r,p,z⟩
 ·refine⟨its.toList,r,⟨o,I.kIn a o hk,hc,n,by simpa using hs⟩,?_⟩;have e:=r.length;simp only[ybb] at e;omega
theorem Inv.zwlb (I:Inv X pins σ H s)(h:SqL X.K H a xs)(h':SqL X.K H a ys):xs=ys:=by
 obtain⟨its,r,⟨o,n,e,_,_,d⟩,_⟩:=I.list h;obtain⟨its',r',⟨o',n',e',_,_,d'⟩,_⟩:=I.list h';rw[e] at e';cases e';rw[d] at d';injection d' with d1 _
 have:its=its':=by simpa using congrArg Array.toList d1
 subst this;exact r.inj r'
theorem Inv.zpx (I:Inv X pins σ H s)(h:SqT X.K H a xs)(h':SqT X.K H a ys):xs=ys:=by
 obtain⟨its,r,⟨o,e,_,n,d⟩,_⟩:=I.tuple h;obtain⟨its',r',⟨o',e',_,n',d'⟩,_⟩:=I.tuple h';rw[e] at e';cases e';rw[d] at d';injection d' with d1 _
 have:its=its':=by simpa using congrArg Array.toList d1
 subst this;exact r.inj r'
end
abbrev Cx.wish (X:Cx)(E:Value->Shared->Prop):Cx:={ X with xe:=E }
abbrev Cx.nox (X:Cx):Cx:=X.wish λ_ _=>False
theorem Cx.Ok.wish {X:Cx}(ok:X.Ok)(E:Value->Shared->Prop):(X.wish E).Ok :=
 ⟨ok.mod,ok.kind,ok.glob,ok.blt,ok.above,ok.inj,ok.has,ok.cab,ok.hd,ok.frames,ok.stk,ok.exf,ok.bs,ok.bsz,ok.noex,ok.exfs,ok.funs,ok.frf⟩
theorem Cx.Ok.zrp {X:Cx}{E:Value->Shared->Prop}(ok:(X.wish E).Ok):X.Ok :=
 ⟨ok.mod,ok.kind,ok.glob,ok.blt,ok.above,ok.inj,ok.has,ok.cab,ok.hd,ok.frames,ok.stk,ok.exf,ok.bs,ok.bsz,ok.noex,ok.exfs,ok.funs,ok.frf⟩
section
variable {X:Cx}{pins:List (Addr×Obj)}{σ:St}{H:Hp}{s:Shared}{E:Value->Shared->Prop}
theorem Inv.wish (I:Inv X pins σ H s)(E:Value->Shared->Prop):Inv (X.wish E) pins σ H s:=⟨I.ok.wish E,I.os,I.bare,I.base,I.loc,I.cell,I.free,I.freeC,I.pin,I.hok,I.len⟩
theorem Inv.zrp (I:Inv (X.wish E) pins σ H s):Inv X pins σ H s:=⟨I.ok.zrp,I.os,I.bare,I.base,I.loc,I.cell,I.free,I.freeC,I.pin,I.hok,I.len⟩
theorem SP.zrp {D:Ends}{f:Flow}{s':Shared}(h:SP (X.wish E) pins D f s'):SP X pins D f s':=by
 cases f with
 | next=>obtain⟨σ',H',I,q⟩:=h;exact⟨σ',H',I.zrp,q⟩
 | brk=>obtain⟨σ',H',I,q⟩:=h;exact⟨σ',H',I.zrp,q⟩
 | cont=>obtain⟨σ',H',I,q⟩:=h;exact⟨σ',H',I.zrp,q⟩
 | ret u=>obtain⟨v,σ',H',I,r,q⟩:=h;exact⟨v,σ',H',I.zrp,r,q⟩
theorem PSs.nox {st:List Stmt}{t:TS}(h:PSs X.nox st t):PSs X st t:=λpins s σ H D I hw =>
 ytd (h pins s σ H D (I.wish _) hw) (λ_ _ q=>q.zrp) λ_ _ z=>yze z
end
section
variable {X:Cx}{st:Stmt}{rest:List Stmt}{t u:TS}{e:Expr}{te:TE}{pos:Pos}
def zaub:TS:=λD σ H=>D.nx σ H
def tSeq (t u:TS):TS:=λD σ H=>t { D with nx:=u D } σ H
theorem zsa:PSs X [] zaub:=λ_ _ σ H _ I h=>yui ⟨σ,H,I,h⟩
theorem zba (h1:PS X st t)(h2:PSs X rest u):PSs X (st::rest) (tSeq t u):=by
 intro pins s σ H D I h;refine wpAny_execs_cons (thn (h1 pins s σ H { D with nx:=u D } I h) λf s1 q=>?_);cases f with
 | next =>
  obtain⟨σ',H',I',q⟩:=q;exact h2 pins s1 σ' H' D I' q
 | ret v=>exact q
 | brk=>exact q
 | cont=>exact q
theorem zda (h1:PS X st t):PSs X [st] t:=by
 intro pins s σ H D I h;refine wpAny_execs_cons (thn (h1 pins s σ H D I h) λf s1 q=>?_);cases f with
 | next=>exact yui q
 | ret v=>exact q
 | brk=>exact q
 | cont=>exact q
theorem Inv.quiet {pins:List (Addr×Obj)}{σ:St}{H:Hp}{s:Shared}(I:Inv X pins σ H s):interactive X.env=false:=by simp[interactive,I.ok.kind]
def zcub (te:TE):TS:=λD σ H=>te σ H λ_ H1=>D.nx σ H1
theorem zod (he:PE X e te)(hs:ymn e none pos.line X.env=pure false:=by rfl):PS X (.Expr e pos) (zcub te):=by
 intro pins s σ H D I h;exact wpAny_Expr_any (thn (he pins s σ H _ I h) λv s1 ⟨x,H1,I1,r1,q1⟩=>⟨σ,H1,I1,q1⟩) I.quiet hs
def tRet (te:TE):TS:=λD σ H=>te σ H D.rt
theorem zqa (he:PE X e te):PS X (.Return (some e) pos) (tRet te):=by
 intro pins s σ H D I h;exact wpAny_Return_some (thn (he pins s σ H _ I h) λv s1 ⟨x,H1,I1,r1,q1⟩=>⟨x,σ,H1,I1,r1,q1⟩)
def tIfS (c:TT)(t u:TS):TS:=λD σ H=>c σ H λb H1=>if b=true then t D σ H1 else u D σ H1
theorem zwb {c:Expr}{a b:List Stmt}{tc:TT}(hc:PT X c tc)(ha:PSs X a t)(hb:PSs X b u):PS X (.If c a b pos) (tIfS tc t u):=by
 intro pins s σ H D I h;refine wpAny_If (thn (hc pins s σ H _ I h) λd s1 ⟨H1,I1,q1⟩=>?_);cases d with
 | true=>exact ha pins s1 σ H1 D I1 q1
 | false=>exact hb pins s1 σ H1 D I1 q1
def zdrb:TS:=λ_ _ _=>False
theorem zag:PS X st zdrb:=λ_ _ _ _ _ _ h=>h.elim
end
abbrev TG:=V->St->Hp->(St->Hp->Prop)->Prop
abbrev TGs:=List V->St->Hp->(St->Hp->Prop)->Prop
def PG (X:Cx)(target:Expr)(t:TG):Prop :=
 ∀(pins:List (Addr×Obj)) (s:Shared) (σ:St) (H:Hp) (v:V) (u:Value) (Q:St->Hp->Prop),Inv X pins σ H s->RelV v u->t v σ H Q →
  wpAny (model X.prog X.w) X.A (assign target X.env u) (λ_ s'=>∃ σ' H',Inv X pins σ' H' s'∧Q σ' H') X.xe s
def PGs (X:Cx)(ts:List Expr)(t:TGs):Prop :=
 ∀(pins:List (Addr×Obj)) (s:Shared) (σ:St) (H:Hp) (vs:List V) (us:List Value) (Q:St->Hp->Prop),Inv X pins σ H s->Vals vs us->t vs σ H Q →
  wpAny (model X.prog X.w) X.A (assignInOrder ((ysg ts X.env).map (·.2)) us) (λ_ s'=>∃ σ' H',Inv X pins σ' H' s'∧Q σ' H') X.xe s
abbrev TSet:=V->V->V->Hp->(Hp->Prop)->Prop
def PSet (X:Cx)(t:TSet):Prop :=
 ∀(pins:List (Addr×Obj)) (s:Shared) (σ:St) (H:Hp) (o i v:V) (ov iv u:Value) (Q:Hp->Prop),Inv X pins σ H s->RelV o ov->RelV i iv->RelV v u->t o i v H Q →
  wpAny (model X.prog X.w) X.A (setItem ov iv u) (λ_ s'=>∃H',Inv X pins σ H' s'∧Q H') X.xe s
abbrev TIp:=V->V->Hp->VK->Prop
def PIp (X:Cx)(op:ywo)(t:TIp):Prop :=
 ∀(pins:List (Addr×Obj)) (s:Shared) (σ:St) (H:Hp) (x y:V) (v u:Value) (Q:VK),Inv X pins σ H s->RelV x v->RelV y u->t x y H Q →
  wpAny (model X.prog X.w) X.A (inplaceOp op v u) (EP X pins σ Q) X.xe s
section
variable {X:Cx}{pos:Pos}
def zkmb (i:Nat):TG:=λv σ H Q=>Q (σ.set i (some v)) H
theorem zua {i:Nat}{x:Str}(hN:X.N.Nodup)(hi:X.N[i]?=some x)(hx:Loc X.env.scope x)(hf:X.fn x=true∨X.env.scope.names.lookup x=some .local:=by first|exact .inl rfl|exact .inr rfl|assumption):PG X (.Name x pos) (zkmb i):=by
 intro pins s σ H v u Q I r h;exact wpAny_assign_Name (ziv I hN hi hx r (λs' I'=>⟨_,H,I',h⟩) hf)
def gNil:TGs:=λvs σ H Q=>vs=[]∧Q σ H
def zxub (t:TG)(u:TGs):TGs:=λvs σ H Q=>Ex2 λv r=>vs=v::r∧t v σ H fun σ' H'=>u r σ' H' Q
theorem zbg:PGs X [] gNil:=by
 intro pins s σ H vs us Q I r h;obtain⟨e,h⟩:=h;subst e;cases r;exact assignInOrder_nil ⟨σ,H,I,h⟩
theorem zab {e:Expr}{es:List Expr}{t:TG}{u:TGs}(h1:PG X e t)(h2:PGs X es u)
  (hs:(ysg (e::es) X.env).map (·.2)=assign e X.env::(ysg es X.env).map (·.2):=by rfl):PGs X (e::es) (zxub t u):=by
 intro pins s σ H vs us Q I r h;obtain⟨v,vr,e1,h⟩:=h;subst e1;cases r with
 | cons r rr =>
  rw[hs];refine assignInOrder_cons (thn (h1 pins s σ H _ _ _ I r h) λ_ s1 ⟨σ1,H1,I1,q1⟩=>?_);exact h2 pins s1 σ1 H1 _ _ Q I1 rr q1
def gTup (K:yba)(n:Nat)(t:TGs):TG:=λv σ H Q=>Ex2 λa xs=>v = .ref a∧SqT K H a xs∧xs.length=n∧t xs σ H Q
theorem znj {es:List Expr}{k:Nat}{t:TGs}{n:Nat}(hc:X.calm=true)(h:PGs X es t)
  (hn:(ysg es X.env).length=n:=by rfl) (hst:(ysg es X.env).findIdx? (·.1)=none:=by rfl):PG X (.Tuple es k pos) (gTup X.K n t):=by
 intro pins s σ H v u Q I r hw;obtain⟨a,xs,e1,hq,hl,hw⟩:=hw;subst e1;cases r;obtain⟨its,rv,ht,hz⟩:=I.tuple hq;refine assign_Tuple_tuple (I.ok.hd hc) ht (by simp[hn,← hl,rv.length]) hst λh' hx=>?_;have I1:Inv X pins σ H { s with heap:=h' }:=I.kept (t':=s.toks) λb o e=>hx b o (yhb (yra e)) e;exact h pins _ σ H xs _ Q I1 (by simpa using rv) hw
def gSub (to ti:TE)(t:TSet):TG:=λv σ H Q=>to σ H λo H1=>ti σ H1 λi H2=>t o i v H2 λH3=>Q σ H3
theorem zasb {o i:Expr}{to ti:TE}{t:TSet}(ho:PE X o to)(hi:PE X i ti)(hs:PSet X t)
  (ha:∀v,assign (.Subscript o i pos) X.env v=(do
   let ov ← ycn [v] (eval o X.env)
   let iv ← ycn [v,ov] (eval i X.env)
   standAt pos
   ycn [v,ov,iv] (setItem ov iv v)
   release [v,ov,iv] []):=by intro _;rfl):PG X (.Subscript o i pos) (gSub to ti t):=by
 intro pins s σ H v u Q I r h;rw[ha];refine yaa (ybc (thn (ho pins s σ H _ I h) λov s1 ⟨x,H1,I1,r1,q1⟩=>?_));refine yaa (ybc (thn (hi pins s1 σ H1 _ I1 q1) λiv s2 ⟨y,H2,I2,r2,q2⟩=>?_));refine yaa (yrk (yaa (ybc (thn (hs pins s2 σ H2 x y v ov iv u _ I2 r1 r2 r q2) λ_ s3 ⟨H3,I3,q3⟩=>?_))));exact wpAny_release ⟨σ,H3,I3,q3⟩
def tAsg (te:TE)(g:TG):TS:=λD σ H=>te σ H λx H1=>g x σ H1 D.nx
theorem zbs {tg e:Expr}{te:TE}{g:TG}(he:PE X e te)(hg:PG X tg g)(hs:swapsWithSole [tg] e pos.line X.env=pure false:=by rfl)(hw:swappedStores [tg] e X.env=pure none:=by rfl)
  (h1:(ysg [tg] X.env).map (·.2)=[assign tg X.env]:=by rfl):PS X (.Assign [tg] e pos) (tAsg te g):=by
 intro pins s σ H D I h;refine wpAny_Assign_stores (thn (he pins s σ H _ I h) λv s1 ⟨x,H1,I1,r1,q1⟩=>?_) hs hw;rw[h1];exact thn (hg pins s1 σ H1 x v _ I1 r1 q1) λ_ s2 q=>q
theorem zoa {i:Nat}{x:Str}{e:Expr}{te:TE}{pos':Pos}(hN:X.N.Nodup)(hi:X.N[i]?=some x)(hx:Loc X.env.scope x)(he:PE X e te)(hs:ymn e (some (.Name x pos')) pos.line X.env=pure false:=by rfl)(hf:X.fn x=true∨X.env.scope.names.lookup x=some .local:=by first|exact .inl rfl|exact .inr rfl|assumption) :
  PS X (.Assign [.Name x pos'] e pos) (tAsg te (zkmb i)):=by
 intro pins s σ H D I h;refine wpAny_Assign_Name (thn (he pins s σ H _ I h) λv s1 ⟨y,H1,I1,r1,q1⟩=>?_) hs;exact ziv I1 hN hi hx r1 (λs2 I2=>⟨_,H1,I2,q1⟩) hf
def tAug (i:Nat)(te:TE)(ti:TIp):TS:=λD σ H=>∃x,σ[i]?=some (some x)∧te σ H λy H1=>ti x y H1 λz H2=>D.nx (σ.set i (some z)) H2
theorem zyrb {i:Nat}{x:Str}{e:Expr}{te:TE}{op:ywo}{ti:TIp}{pos':Pos}(hN:X.N.Nodup)(hi:X.N[i]?=some x)(hx:Loc X.env.scope x)(he:PE X e te)(ho:PIp X op ti)(hf:X.fn x=true∨X.env.scope.names.lookup x=some .local:=by first|exact .inl rfl|exact .inr rfl|assumption) :
  PS X (.AugAssign (.Name x pos') op e pos) (tAug i te ti):=by
 intro pins s σ H D I h;obtain⟨v,e1,h⟩:=h;obtain⟨m,hn,hl⟩:=I.loc;have vis:Vis X.env.scope x:=by rcases hx with k|k;exact .inl k;exact .inr (.inl k)
 obtain⟨u,r,l⟩:=hl i x v hi e1 vis;refine wpAny_AugAssign_Name ?_;have go:wpAny (model X.prog X.w) X.A (eval e X.env) (λw s₂=>wpAny (model X.prog X.w) X.A (inplaceOp op u w) (λr s₃=>wpAny (model X.prog X.w) X.A (storeName X.env x r) (λ_=>SP X pins D .next) X.xe s₃) X.xe s₂) X.xe s:=by
  refine thn (he pins s σ H _ I h) λw s1 ⟨y,H1,I1,r1,q1⟩=>?_;refine thn (ho pins s1 σ H1 v y u w _ I1 r r1 q1) λz s2 ⟨zv,H2,I2,r2,q2⟩=>?_;exact ziv I2 hN hi hx r2 (λs3 I3=>⟨_,H2,I3,q2⟩) hf
 rcases l with⟨hk,hm⟩|⟨hk,c,hc,hcell⟩
 ·exact wpAny_loadName_local I.ok.kind hk hn hm go
 ·rcases hk with hk|hk
  ·exact wpAny_loadName_cell I.ok.kind hk hc hcell go
  ·rcases hx with k|k
   ·have:X.env.scope.names.lookup x=some .free:=hk;rw[k] at this;cases this
   ·have:X.env.scope.names.lookup x=some .free:=hk;rw[k] at this;cases this
def ipI (f:Int->Int->Int):TIp:=λx y H Q=>Ex2 λi j=>x = .int i∧y = .int j∧Q (.int (f i j)) H
theorem zgtb:PIp X .Add (ipI λi j=>i+j):=by
 intro pins s σ H x y v u Q I r1 r2 h;obtain⟨i,j,e1,e2,q⟩:=h;subst e1;subst e2;obtain⟨t,rfl⟩:=r1;obtain⟨t',rfl⟩:=r2;exact iadd_int ⟨.int _,H,I.tok _,⟨_,rfl⟩,q⟩
end
section
variable {X:Cx}{pos:Pos}
def zarb (c:TT)(tb:TS):TS:=λD σ H=>∃W:Nat->St->Hp->Prop,(∃m,W m σ H)∧∀m σ H,W m σ H →
 c σ H λb H1=>if b=true then ∃N:St->Hp->Prop,(∀ σ' H',N σ' H'->∃m',m'<m∧W m' σ' H')∧tb { D with nx:=N,ct:=N,bk:=D.nx } σ H1 else D.nx σ H1
theorem zrdb {c:Expr}{body:List Stmt}{tc:TT}{tb:TS}(hp:PassesOwn (model X.prog X.w) X.A X.env X.xe)(hc:PT X c tc)(hb:PSs X body tb):PS X (.While c body [] pos) (zarb tc tb):=by
 intro pins s σ H D I h;obtain⟨W,⟨m0,w0⟩,turn⟩:=h;refine wpAny_While (codeAny_whileLoop (λn s'=>∃ σ' H',Inv X pins σ' H' s'∧W n σ' H') ?_ m0 ⟨σ,H,I,w0⟩);rintro n s1 ⟨σ1,H1,I1,w1⟩;refine ynf hp (thn (hc pins s1 σ1 H1 _ I1 (turn n σ1 H1 w1)) λb s2 ⟨H2,I2,q2⟩=>?_);cases b with
 | true =>
  obtain⟨N,hN,q2⟩:=q2;rw[if_pos rfl];refine ynf hp (thn (hb pins s2 σ1 H2 _ I2 q2) λf s3 q3=>?_);cases f with
  | next =>
   obtain⟨σ3,H3,I3,n3⟩:=q3;obtain⟨m',hm,w3⟩:=hN σ3 H3 n3;exact⟨m',hm,σ3,H3,I3,w3⟩
  | cont =>
   obtain⟨σ3,H3,I3,n3⟩:=q3;obtain⟨m',hm,w3⟩:=hN σ3 H3 n3;exact⟨m',hm,σ3,H3,I3,w3⟩
  | brk=>exact q3
  | ret v=>exact q3
 | false =>
  rw[if_neg ywa];exact yui ⟨σ1,H2,I2,q2⟩
end
structure It where
 go:Nat->Hp->Prop
 yld:Nat->Hp->V->Hp->Prop
 stop:Nat->Hp->Prop
def FpOk (X:Cx)(pins:List (Addr×Obj))(H:Hp)(b:Addr):Prop :=
 H b=none∧b≠X.env.locals∧b∉X.fs∧(b∈X.ex∨X.s₀.heap.objs.size≤b)∧(∀x c,X.env.cells.lookup x=some c->c≠b)∧∀p∈X.pn++pins,p.1≠b
theorem Inv.fpOk {X:Cx}{pins:List (Addr×Obj)}{σ:St}{H H':Hp}{s:Shared}{b:Addr}(I:Inv X pins σ H s)(hb:s.heap.objs.size≤b)(hn:H' b=none):FpOk X pins H' b:=by
 refine⟨hn,yih (yoa I.lt hb),I.nofs hb,.inr (yxa I.sz hb),λx c e z=>?_,λp hp z=>?_⟩
 ·obtain⟨v,q⟩:=I.cell x c e;exact absurd (yoa q.lt (by rw[z];exact hb)) (yrd _)
 ·exact absurd (yoa (yra (I.pin p hp).1) (by rw[z];exact hb)) (yrd _)
structure Turn (P:ypb)(w:World)(K:yba)(tg:Expr)(J:It)(fp:List Addr)(it:Addr)(tn:Nat->Heap->Prop):Prop where
 mem:it∈fp
 obj:∀i h,tn i h->∀b∈fp,∃o,h.get? b=some o∧∀v,o.data ≠ .cell v
 keep:∀i h h',tn i h->(∀b∈fp,∀o,h.get? b=some o->h'.get? b=some o)->tn i h'
 item:∀(X:Cx),X.prog=P->X.w=w->X.K=K->X.calm=true->∀(i:Nat) (pins:List (Addr×Obj)) (s:Shared) (σ:St) (H:Hp) (E:Value->Shared->Prop),Inv X pins σ H s->(∀b∈fp,FpOk X pins H b)->tn i s.heap->J.go i H →
  wpAny (model P w) X.A (pyNext (.ref it)) (λr s1=>∃u,r=some u ∧
   wpAny (model P w) X.A (yvi tg (.ref it) u) (λ_ s2=>Ex2 λx H'=>Inv X pins σ H' s2∧RelV x u∧J.yld i H x H'∧tn (i+1) s2.heap∧∀b∈fp,H' b=none) E s1) E s
 done:∀(X:Cx),X.prog=P->X.w=w->X.K=K->X.calm=true->∀(i:Nat) (pins:List (Addr×Obj)) (s:Shared) (σ:St) (H:Hp) (E:Value->Shared->Prop),Inv X pins σ H s->(∀b∈fp,FpOk X pins H b)->tn i s.heap->J.stop i H →
  wpAny (model P w) X.A (pyNext (.ref it)) (λr s1=>r=none∧Inv X pins σ H s1) E s
 self:∀(A:Around) (i:Nat) (s:Shared) (Q:Value->Shared->Prop) (E:Value->Shared->Prop),tn i s.heap->Q (.ref it) s->wpAny (model P w) A (pyIter (.ref it)) Q E s
abbrev TI:=St->Hp->(It->Hp->Prop)->Prop
def PIE (X:Cx)(pins:List (Addr×Obj))(σ:St)(tg:Expr)(R:It->Hp->Prop)(itv:Value)(s2:Shared):Prop :=
 Ex5 λ(it:Addr) (fp:List Addr) (tn:Nat->Heap->Prop) (J:It) (H':Hp)=>itv = .ref it∧Inv X pins σ H' s2∧Turn X.prog X.w X.K tg J fp it tn∧tn 0 s2.heap∧(∀b∈fp,FpOk X pins H' b)∧R J H'
def PI (X:Cx)(tg iter:Expr)(wi:TI):Prop :=
 ∀(pins:List (Addr×Obj)) (s:Shared) (σ:St) (H:Hp) (R:It->Hp->Prop),Inv X pins σ H s->wi σ H R →
  wpAny (model X.prog X.w) X.A (eval iter X.env) (λv s1=>wpAny (model X.prog X.w) X.A (pyIter v) (PIE X pins σ tg R) X.xe s1) X.xe s
theorem zxib {M:Model}{A:Around}{E:Value->Shared->Prop}{s:Shared}{tg:Expr}{it:Addr}{u:Value}{o:Obj}{n:String}{vs:Array Value}{Q:Unit->Shared->Prop}(ho:s.heap.get? it=some o)(hc:o.cls = .type n)(hd:o.data = .fields vs)
  (hn:["enumerate","zip","dict_itemiterator","dict_reverseitemiterator","odict_iterator","itertools.zip_longest","itertools.pairwise"].contains n=false) (hQ:Q () s):wpAny M A (yvi tg (.ref it) u) Q E s:=by
 unfold yvi;cases tg<;>first
  | exact yga hQ
  | (cases u<;>first
    | exact yga hQ
    | (refine yaa (ywn ho ?_)
       rw[hc,hd];show wpAny M A (if (["enumerate","zip","dict_itemiterator","dict_reverseitemiterator","odict_iterator","itertools.zip_longest","itertools.pairwise"].contains n&&vs[0]?==some (rawInt _))=true then _ else _) Q E s
       rw[if_neg (by intro h;rw[hn,ymd] at h;cases h)];exact yga hQ))
def Itl (K:yba)(a:Addr):It :=
 ⟨λi H=>Ex2 λxs x=>SqL K H a xs∧xs[i]?=some x,λi H x H'=>H'=H∧∀xs,SqL K H a xs->xs[i]?=some x,λi H=>∃xs,SqL K H a xs∧xs.length≤i⟩
def Itt (K:yba)(a:Addr):It :=
 ⟨λi H=>Ex2 λxs x=>SqT K H a xs∧xs[i]?=some x,λi H x H'=>H'=H∧∀xs,SqT K H a xs->xs[i]?=some x,λi H=>∃xs,SqT K H a xs∧xs.length≤i⟩
def Itr (lo:Int)(n:Nat):It:=⟨λi _=>i<n,λi H x H'=>H'=H∧x = .int (lo+i),λi _=>n≤i⟩
theorem zrgb {P:ypb}{w:World}{K:yba}{tg:Expr}(a it:Addr):Turn P w K tg (Itl K a) [it] it (λi h=>h.IsListIter it a i) where
 mem:=by simp
 obj:=λi h st b hb=>by
  have e:b=it:=by simpa using hb
  subst e;obtain⟨o,e,c,d⟩:=st;exact⟨o,e,λv z=>by rw[d] at z;cases z⟩
 keep:=λi h h' st k=>st.at λo e=>k it (by simp) o e
 item:=by
  intro X hP hw hK hc i pins s σ H E I hf st hg;subst hP hw hK;obtain⟨xs,x,hq,hx⟩:=hg;obtain⟨its,rv,p,hz⟩:=I.list hq;obtain⟨u,hu,ru⟩:=rv.get hx;obtain⟨f0,f1,f2,f3,f4,f5⟩:=hf it (by simp);refine yjl st p.isList (x:=u) (by simpa using hu) λh' st' sb=>?_;have I1:Inv X pins σ H { s with heap:=h' }:=I.turned (t':=s.toks) (λb o hb e=>(sb.2 b hb).trans e) f0 f1 f3 f4 f5;obtain⟨o,e,c,d⟩:=id st';exact⟨u,rfl,zxib (s:={ s with heap:=h' }) e c d (by decide) ⟨x,H,I1,ru,⟨rfl,λys hy=>by rw[I.zwlb hy hq];exact hx⟩,st',λb hb=>(hf b hb).1⟩⟩
 done:=by
  intro X hP hw hK hc i pins s σ H E I hf st hg;subst hP hw hK;obtain⟨xs,hq,hx⟩:=hg;obtain⟨its,rv,p,hz⟩:=I.list hq;obtain⟨f0,f1,f2,f3,f4,f5⟩:=hf it (by simp);have hl:=rv.length;exact ysl (I.ok.hd hc) st p.isList (by simp;omega) λh' eb=>⟨rfl,I.turned (t':=s.toks) (λb o hb e=>eb b o hb e) f0 f1 f3 f4 f5⟩
 self:=λ_ _ _ _ _ st h=>wpAny_pyIter_listiter st h
theorem zueb {P:ypb}{w:World}{K:yba}{tg:Expr}(a it:Addr):Turn P w K tg (Itt K a) [it] it (λi h=>h.IsTupleIter it a i) where
 mem:=by simp
 obj:=λi h st b hb=>by
  have e:b=it:=by simpa using hb
  subst e;obtain⟨o,e,c,d⟩:=st;exact⟨o,e,λv z=>by rw[d] at z;cases z⟩
 keep:=λi h h' st k=>st.at λo e=>k it (by simp) o e
 item:=by
  intro X hP hw hK hc i pins s σ H E I hf st hg;subst hP hw hK;obtain⟨xs,x,hq,hx⟩:=hg;obtain⟨its,rv,p,hz⟩:=I.tuple hq;obtain⟨u,hu,ru⟩:=rv.get hx;obtain⟨f0,f1,f2,f3,f4,f5⟩:=hf it (by simp);refine wpAny_pyNext_tuple_item st (show s.heap.IsTuple a its.toArray from p) (x:=u) (by simpa using hu) λh' st' sb=>?_;have I1:Inv X pins σ H { s with heap:=h' }:=I.turned (t':=s.toks) (λb o hb e=>(sb.2 b hb).trans e) f0 f1 f3 f4 f5;obtain⟨o,e,c,d⟩:=id st';exact⟨u,rfl,zxib (s:={ s with heap:=h' }) e c d (by decide) ⟨x,H,I1,ru,⟨rfl,λys hy=>by rw[I.zpx hy hq];exact hx⟩,st',λb hb=>(hf b hb).1⟩⟩
 done:=by
  intro X hP hw hK hc i pins s σ H E I hf st hg;subst hP hw hK;obtain⟨xs,hq,hx⟩:=hg;obtain⟨its,rv,p,hz⟩:=I.tuple hq;obtain⟨f0,f1,f2,f3,f4,f5⟩:=hf it (by simp);have hl:=rv.length;exact wpAny_pyNext_tuple_end (I.ok.hd hc) st (show s.heap.IsTuple a its.toArray from p) (by simp;omega) λh' eb=>⟨rfl,I.turned (t':=s.toks) (λb o hb e=>eb b o hb e) f0 f1 f3 f4 f5⟩
 self:=λ_ _ _ _ _ st h=>wpAny_pyIter_tupleiter st h
theorem zveb {P:ypb}{w:World}{K:yba}{tg:Expr}(it:Addr)(lo:Int)(n:Nat):Turn P w K tg (Itr lo n) [it] it (λi h=>IsRangeIter h it (lo+(i:Nat)*1) ((n:Int)-(i:Nat)) 1) where
 mem:=by simp
 obj:=λi h st b hb=>by
  have e:b=it:=by simpa using hb
  subst e;exact⟨_,st,λv z=>by
   have z':Data.fields _=Data.cell v:=z;cases z'⟩
 keep:=λi h h' st k=>k it (by simp) _ st
 item:=by
  intro X hP hw hK hc i pins s σ H E I hf st hg;subst hP hw hK;obtain⟨f0,f1,f2,f3,f4,f5⟩:=hf it (by simp);have W:=Walks.range (prog:=X.prog) (w:=X.w) (I.ok.hd hc) it lo 1 n;refine W.item i s _ _ hg st λv h' tk hv st' kk=>?_;obtain⟨t,rfl⟩:=hv;have I1:Inv X pins σ H { s with heap:=h',toks:=tk }:=I.turned (λb o hb e=>kk b o (by simpa using hb) e) f0 f1 f3 f4 f5;refine⟨_,rfl,zxib (s:={ s with heap:=h',toks:=tk }) (n:="range_iterator") st' rfl rfl (by decide) ⟨.int (lo+i),H,I1,⟨t,?_⟩,⟨rfl,rfl⟩,st',λb hb=>(hf b hb).1⟩⟩;rw[Int.mul_one]
 done:=by
  intro X hP hw hK hc i pins s σ H E I hf st hg;subst hP hw hK;obtain⟨f0,f1,f2,f3,f4,f5⟩:=hf it (by simp);exact wpAny_pyNext_range_end (I.ok.hd hc) st (by have:n≤i:=hg;omega) λh' eb=>⟨rfl,I.turned (t':=s.toks) (λb o hb e=>eb b o hb e) f0 f1 f3 f4 f5⟩
 self:=λ_ _ _ _ _ st h=>wpAny_pyIter_rangeiter st h
end L2
namespace L2
open PySem PySem.Spec PyProof.Rows
section
variable {X:Cx}{tg:Expr}
def zwub (K:yba)(tl:TE):TI:=fun σ H R=>tl σ H λx H1=>∃a,x = .ref a∧(∃xs,SqL K H1 a xs)∧R (Itl K a) H1
def iTup (K:yba)(tl:TE):TI:=fun σ H R=>tl σ H λx H1=>∃a,x = .ref a∧(∃xs,SqT K H1 a xs)∧R (Itt K a) H1
theorem zzd {l:Expr}{tl:TE}(hl:PE X l tl):PI X tg l (zwub X.K tl):=by
 intro pins s σ H R I h;refine thn (hl pins s σ H _ I h) λv s1 ⟨x,H1,I1,r1,q1⟩=>?_;obtain⟨a,e,⟨xs,hq⟩,q⟩:=q1;subst e;cases r1;obtain⟨its,rv,p,hz⟩:=I1.list hq;refine yyh p.isList ?_;refine⟨s1.heap.objs.size,[s1.heap.objs.size],_,_,H1,rfl,I1.kept (t':=s1.toks) λb o e=>yca _ e,zrgb a _,⟨_,yla _ rfl,rfl,rfl⟩,λb hb=>?_,q⟩;have e:b=s1.heap.objs.size:=by simpa using hb
 subst e;exact I1.fpOk (yma _) (I1.hok.fresh (yma _))
theorem zzrb {l:Expr}{tl:TE}(hl:PE X l tl):PI X tg l (iTup X.K tl):=by
 intro pins s σ H R I h;refine thn (hl pins s σ H _ I h) λv s1 ⟨x,H1,I1,r1,q1⟩=>?_;obtain⟨a,e,⟨xs,hq⟩,q⟩:=q1;subst e;cases r1;obtain⟨its,rv,p,hz⟩:=I1.tuple hq;refine ylh (show s1.heap.IsTuple a its.toArray from p) ?_;refine⟨s1.heap.objs.size,[s1.heap.objs.size],_,_,H1,rfl,I1.kept (t':=s1.toks) λb o e=>yca _ e,zueb a _,⟨_,yla _ rfl,rfl,rfl⟩,λb hb=>?_,q⟩;have e:b=s1.heap.objs.size:=by simpa using hb
 subst e;exact I1.fpOk (yma _) (I1.hok.fresh (yma _))
theorem zwkb {pins:List (Addr×Obj)}{σ:St}{H:Hp}{s:Shared}{R:It->Hp->Prop}{E:Value->Shared->Prop}{lo hi:Int}{t u v:Tok}{tk:Nat}(I:Inv X pins σ H s)(h1:-(2 ^ 62)≤lo)(h2:lo<2 ^ 62)(h3:-(2 ^ 62)≤hi)(h4:hi<2 ^ 62)
  (q:R (Itr lo (hi-lo).toNat) H):wpAny (model X.prog X.w) X.A (pyIter (.ref s.heap.objs.size)) (PIE X pins σ tg R) E { s with heap:=s.heap.push { cls:=.type "range",data:=.fields #[.int lo t,.int hi u,.int 1 v] },toks:=tk }:=by
 refine wpAny_pyIter_range (IsRange.new ..) (small_one h1 h2 h3 h4) ?_;have I1:Inv X pins σ H { s with heap:=s.heap.push { cls:=.type "range",data:=.fields #[.int lo t,.int hi u,.int 1 v] },toks:=tk }:=I.kept λb o e=>yca _ e;refine⟨(s.heap.push { cls:=.type "range",data:=.fields #[.int lo t,.int hi u,.int 1 v] }).objs.size,[(s.heap.push { cls:=.type "range",data:=.fields #[.int lo t,.int hi u,.int 1 v] }).objs.size],_,_,H,rfl,
  I1.kept (t':=tk) λb o e=>yca _ e,zveb _ lo (hi-lo).toNat,?_,λb hb=>?_,q⟩
 ·have e1:lo+((0:Nat):Int)*1=lo:=by simp
  have e2:(((hi-lo).toNat:Nat):Int)-((0:Nat):Int)=yyf.Range.rangeSize lo hi 1:=by rw[rangeSize_one];split<;>omega
  show IsRangeIter _ _ (lo+((0:Nat):Int)*1) ((((hi-lo).toNat:Nat):Int)-((0:Nat):Int)) 1
  rw[e1,e2];exact yla _ rfl
 ·have e:b=(s.heap.push { cls:=.type "range",data:=.fields #[.int lo t,.int hi u,.int 1 v] }).objs.size:=by simpa using hb
  subst e;exact I1.fpOk (yma _) (I1.hok.fresh (yma _))
def zvub (ta:TA):TI:=fun σ H R=>ta σ H λvs H1=>∃j:Int,vs=[.int j] ∧ -(2 ^ 62)≤j∧j<2 ^ 62∧R (Itr 0 j.toNat) H1
theorem zah {a:Expr}{ta:TA}{p pos:Pos}(hg:Gl X "range")(hm:X.mg "range" = none)(ha:PA X [a] ta)(hs:ylc [a] X.env=[(false,eval a X.env)]:=by rfl):PI X tg (.Call (.Name "range" p) [a] [] pos) (zvub ta):=by
 intro pins s σ H R I h;refine Call_ (zru I hg hm boot_range (yre (thn (ha pos pins s σ H _ I h) λus s1 ⟨vs,H1,I1,r1,q1⟩=>?_) hs rfl));obtain⟨j,e,q1,q2,q⟩:=q1;subst e;cases r1 with
 | cons r rr =>
  cases rr;obtain⟨t,rfl⟩:=r;exact call_range_1 (zwkb I1 (by omega) (by omega) q1 q2 (by simpa using q))
def tFor (wi:TI)(g:TG)(tb:TS):TS:=λD σ H=>wi σ H λJ H1=>∃W:Nat->Nat->St->Hp->Prop,(∃m,W 0 m σ H1)∧∀i m σ H,W i m σ H →
 (J.stop i H∧D.nx σ H)∨(J.go i H∧∃N:St->Hp->Prop,(∀ σ' H',N σ' H'->∃m',m'<m∧W (i+1) m' σ' H')∧∀x H',J.yld i H x H'->g x σ H' fun σ2 H2=>tb { D with nx:=N,ct:=N,bk:=D.nx } σ2 H2)
def znu (fp:List Addr)(h:Heap):List (Addr×Obj):=fp.filterMap λb=>(h.get? b).map λo=>(b,o)
theorem zyo {fp:List Addr}{h:Heap}{b:Addr}{o:Obj}(hb:b∈fp)(e:h.get? b=some o):(b,o)∈znu fp h:=ynn.mpr ⟨b,hb,by rw[e];rfl⟩
theorem zyhb {fp:List Addr}{h:Heap}{p:Addr×Obj}(hp:p∈znu fp h):p.1∈fp∧h.get? p.1=some p.2:=by
 obtain⟨b,hb,e⟩:=ynn.mp hp;cases q:h.get? b with
 | none=>rw[q] at e;cases e
 | some o =>
  rw[q] at e;have e':(b,o)=p:=yfc e;subst e';exact⟨hb,q⟩
theorem Inv.pinned {pins:List (Addr×Obj)}{σ:St}{H:Hp}{s:Shared}{fp:List Addr}(I:Inv X pins σ H s)(hf:∀b∈fp,FpOk X pins H b)(ho:∀b∈fp,∃o,s.heap.get? b=some o∧∀v,o.data ≠ .cell v):Inv X (pins++znu fp s.heap) σ H s :=
 I.zcs λp hp=>(yeb.mp hp).elim (λz=>I.pin p (ygc _ z)) λz=>by
  obtain⟨hb,e⟩:=zyhb z;obtain⟨f0,f1,f2,_⟩:=hf p.1 hb;obtain⟨o,e',d⟩:=ho p.1 hb;rw[e] at e';cases e';exact⟨e,f0,f1,f2,d⟩
theorem Inv.zgv {pins pl:List (Addr×Obj)}{σ:St}{H:Hp}{s:Shared}(I:Inv X (pins++pl) σ H s):Inv X pins σ H s:=I.zcs λp hp=>I.pin p (ygc _ (yni _ hp))
theorem zzh {iter:Expr}{body:List Stmt}{wi:TI}{g:TG}{tb:TS}{pos:Pos}(hp:PassesOwn (model X.prog X.w) X.A X.env X.xe)(hc:X.calm=true)(hi:PI X tg iter wi)(hg:PG X tg g)(hb:PSs X body tb)
  (hs:∀x,yxj iter X.env x=pure x:=by intro _;rfl):PS X (.For tg iter body [] pos) (tFor wi g tb):=by
 intro pins s σ H D I h;refine wpAny_For (thn (hi pins s σ H _ I h) λv s1 h1=>thn h1 λitv s2 h2=>?_) hs;obtain⟨it,fp,tn,J,H2,e,I2,T,st2,f2,W,⟨m0,w0⟩,turn⟩:=h2;subst e;have stat:∀{H':Hp},(∀b∈fp,H' b=none)->∀b∈fp,FpOk X pins H' b:=λhn b hb=>⟨hn b hb,(f2 b hb).2⟩;refine codeAny_forLoop_any (λn s'=>∃i σ' H',Inv X pins σ' H' s'∧tn i s'.heap∧(∀b∈fp,H' b=none)∧W i n σ' H') ?_ m0 ⟨0,σ,H2,I2,st2,λb hb=>(f2 b hb).1,w0⟩;rintro n s3 ⟨i,σ3,H3,I3,st3,fr3,w3⟩
 rcases turn i n σ3 H3 w3 with⟨stop,qn⟩|⟨go,N,hN,step⟩
 ·refine ynf hp (thn (T.done X rfl rfl rfl hc i pins s3 σ3 H3 X.xe I3 (stat fr3) st3 stop) λr s4 ⟨hr,I4⟩=>?_);subst hr;exact yui ⟨σ3,H3,I4,qn⟩
 ·refine ynf hp (thn (T.item X rfl rfl rfl hc i pins s3 σ3 H3 X.xe I3 (stat fr3) st3 go) λr s4 ⟨u,hr,h4⟩=>?_);subst hr;refine ynf hp (thn h4 λ_ s5 ⟨x,H5,I5,r5,y5,st5,fr5⟩=>?_);have I5':=I5.pinned (stat fr5) (T.obj _ _ st5);refine ynf hp (thn (hg _ s5 σ3 H5 x u _ I5' r5 (step x H5 y5)) λ_ s6 ⟨σ6,H6,I6,q6⟩=>?_);refine ynf hp (thn (hb _ s6 σ6 H6 _ I6 q6) λf s7 q7=>?_);have again:∀{σ7:St} {H7:Hp},Inv X (pins++znu fp s5.heap) σ7 H7 s7->N σ7 H7->∃m,m<n∧∃i σ' H',Inv X pins σ' H' s7∧tn i s7.heap∧(∀b∈fp,H' b=none)∧W i m σ' H':=λ{σ7 H7} I7 n7=>by
   obtain⟨m',hm,w7⟩:=hN σ7 H7 n7;refine⟨m',hm,i+1,σ7,H7,I7.zgv,T.keep _ _ _ st5 λb hb o e=>(I7.pin (b,o) (ygc _ (ygc _ (zyo hb e)))).1,λb hb=>?_,w7⟩;obtain⟨o,e,d⟩:=T.obj _ _ st5 b hb;exact (I7.pin (b,o) (ygc _ (ygc _ (zyo hb e)))).2.1
  cases f with
  | next=>obtain⟨σ7,H7,I7,n7⟩:=q7;exact again I7 n7
  | cont=>obtain⟨σ7,H7,I7,n7⟩:=q7;exact again I7 n7
  | brk=>obtain⟨σ7,H7,I7,q7⟩:=q7;exact⟨σ7,H7,I7.zgv,q7⟩
  | ret v=>obtain⟨x7,σ7,H7,I7,r7,q7⟩:=q7;exact⟨x7,σ7,H7,I7.zgv,r7,q7⟩
end
theorem zdk {K:yba}{a:Addr}{xs:List V}{g:TG}{tb:TS}{D:Ends}{σ:St}{H:Hp}(Pv:Nat->St->Hp->Prop)(h0:Pv 0 σ H)(hl:∀i σ H,i≤xs.length->Pv i σ H->SqL K H a xs)
  (hs:∀i x σ H,xs[i]?=some x->Pv i σ H->g x σ H fun σ2 H2=>tb { D with nx:=Pv (i+1),ct:=Pv (i+1),bk:=D.nx } σ2 H2) (hd:∀ σ H,Pv xs.length σ H->D.nx σ H) :
  ∃W:Nat->Nat->St->Hp->Prop,(∃m,W 0 m σ H)∧∀i m σ H,W i m σ H →
   ((Itl K a).stop i H∧D.nx σ H)∨((Itl K a).go i H∧∃N:St->Hp->Prop,(∀ σ' H',N σ' H'->∃m',m'<m∧W (i+1) m' σ' H')∧∀x H',(Itl K a).yld i H x H'->g x σ H' fun σ2 H2=>tb { D with nx:=N,ct:=N,bk:=D.nx } σ2 H2):=by
 refine⟨λi m σ H=>m=xs.length-i∧i≤xs.length∧Pv i σ H,⟨xs.length,by simp,ylb _,h0⟩,?_⟩;rintro i m σ H ⟨rfl,hi,p⟩;have q:=hl i σ H hi p
 by_cases hlt:i<xs.length
 ·refine .inr ⟨⟨xs,xs[i],q,by simp[hlt]⟩,Pv (i+1),fun σ' H' p'=>⟨xs.length-(i+1),by omega,rfl,hlt,p'⟩,λx H' y=>?_⟩;obtain⟨e,y⟩:=y;subst e;exact hs i x σ _ (y xs q) p
 ·have e:i=xs.length:=by omega
  subst e;exact .inl ⟨⟨xs,q,yma _⟩,hd σ H p⟩
theorem zypb {K:yba}{a:Addr}{xs:List V}{g:TG}{tb:TS}{D:Ends}{σ:St}{H:Hp}(Pv:Nat->St->Hp->Prop)(h0:Pv 0 σ H)(hl:∀i σ H,i≤xs.length->Pv i σ H->SqT K H a xs)
  (hs:∀i x σ H,xs[i]?=some x->Pv i σ H->g x σ H fun σ2 H2=>tb { D with nx:=Pv (i+1),ct:=Pv (i+1),bk:=D.nx } σ2 H2) (hd:∀ σ H,Pv xs.length σ H->D.nx σ H) :
  ∃W:Nat->Nat->St->Hp->Prop,(∃m,W 0 m σ H)∧∀i m σ H,W i m σ H →
   ((Itt K a).stop i H∧D.nx σ H)∨((Itt K a).go i H∧∃N:St->Hp->Prop,(∀ σ' H',N σ' H'->∃m',m'<m∧W (i+1) m' σ' H')∧∀x H',(Itt K a).yld i H x H'->g x σ H' fun σ2 H2=>tb { D with nx:=N,ct:=N,bk:=D.nx } σ2 H2):=by
 refine⟨λi m σ H=>m=xs.length-i∧i≤xs.length∧Pv i σ H,⟨xs.length,by simp,ylb _,h0⟩,?_⟩;rintro i m σ H ⟨rfl,hi,p⟩;have q:=hl i σ H hi p
 by_cases hlt:i<xs.length
 ·refine .inr ⟨⟨xs,xs[i],q,by simp[hlt]⟩,Pv (i+1),fun σ' H' p'=>⟨xs.length-(i+1),by omega,rfl,hlt,p'⟩,λx H' y=>?_⟩;obtain⟨e,y⟩:=y;subst e;exact hs i x σ _ (y xs q) p
 ·have e:i=xs.length:=by omega
  subst e;exact .inl ⟨⟨xs,q,yma _⟩,hd σ H p⟩
theorem zgl {lo:Int}{n:Nat}{g:TG}{tb:TS}{D:Ends}{σ:St}{H:Hp}(Pv:Nat->St->Hp->Prop)(h0:Pv 0 σ H)
  (hs:∀i σ H,i<n->Pv i σ H->g (.int (lo+i)) σ H fun σ2 H2=>tb { D with nx:=Pv (i+1),ct:=Pv (i+1),bk:=D.nx } σ2 H2) (hd:∀ σ H,Pv n σ H->D.nx σ H) :
  ∃W:Nat->Nat->St->Hp->Prop,(∃m,W 0 m σ H)∧∀i m σ H,W i m σ H →
   ((Itr lo n).stop i H∧D.nx σ H)∨((Itr lo n).go i H∧∃N:St->Hp->Prop,(∀ σ' H',N σ' H'->∃m',m'<m∧W (i+1) m' σ' H')∧∀x H',(Itr lo n).yld i H x H'->g x σ H' fun σ2 H2=>tb { D with nx:=N,ct:=N,bk:=D.nx } σ2 H2):=by
 refine⟨λi m σ H=>m=n-i∧i≤n∧Pv i σ H,⟨n,by simp,ylb _,h0⟩,?_⟩;rintro i m σ H ⟨rfl,hi,p⟩
 by_cases hlt:i<n
 ·refine .inr ⟨hlt,Pv (i+1),fun σ' H' p'=>⟨n-(i+1),by omega,rfl,hlt,p'⟩,λx H' y=>?_⟩;obtain⟨e,y⟩:=y;subst e y;exact hs i σ _ hlt p
 ·have e:i=n:=by omega
  subst e;exact .inl ⟨yma _,hd σ H p⟩
end L2
namespace L2
open PySem PySem.Spec PyProof.Rows
abbrev R2:=V->V->Hp->VK->Prop
def OpR (X:Cx)(f:Value->Value->Sem Value)(r:R2):Prop :=
 ∀(pins:List (Addr×Obj)) (s:Shared) (σ:St) (H:Hp) (x y:V) (v u:Value) (Q:VK),Inv X pins σ H s->RelV x v->RelV y u->r x y H Q →
  wpAny (model X.prog X.w) X.A (f v u) (EP X pins σ Q) X.xe s
def UnR (X:Cx)(f:Value->Sem Value)(r:V->Hp->VK->Prop):Prop :=
 ∀(pins:List (Addr×Obj)) (s:Shared) (σ:St) (H:Hp) (x:V) (v:Value) (Q:VK),Inv X pins σ H s->RelV x v->r x H Q →
  wpAny (model X.prog X.w) X.A (f v) (EP X pins σ Q) X.xe s
def ztl (X:Cx)(f:Value)(r:List V->Hp->VK->Prop):Prop :=
 ∀(pins:List (Addr×Obj)) (s:Shared) (σ:St) (H:Hp) (xs:List V) (us:List Value) (Q:VK),Inv X pins σ H s->Vals xs us->r xs H Q →
  wpAny (model X.prog X.w) X.A (call f us) (EP X pins σ Q) X.xe s
def TruR (X:Cx)(r:V->Hp->(Bool->Hp->Prop)->Prop):Prop :=
 ∀(pins:List (Addr×Obj)) (s:Shared) (σ:St) (H:Hp) (x:V) (v:Value) (Q:Bool->Hp->Prop),Inv X pins σ H s->RelV x v->r x H Q →
  wpAny (model X.prog X.w) X.A (truthy v) (TP X pins σ Q) X.xe s
def tOp (r:R2)(ta tb:TE):TE:=fun σ H Q=>ta σ H λx H1=>tb σ H1 λy H2=>r x y H2 Q
def tUn (r:V->Hp->VK->Prop)(ta:TE):TE:=fun σ H Q=>ta σ H λx H1=>r x H1 Q
def rI (C:Int->Int->Prop)(g:Int->Int->V):R2:=λx y H Q=>Ex2 λi j=>x = .int i∧y = .int j∧C i j∧Q (g i j) H
def rI0 (g:Int->Int->V):R2:=λx y H Q=>Ex2 λi j=>x = .int i∧y = .int j∧Q (g i j) H
def rU (g:Int->V):V->Hp->VK->Prop:=λx H Q=>∃i,x = .int i∧Q (g i) H
section
variable {X:Cx}{a b c:Expr}{ta tb tc:TE}{pos:Pos}
theorem binT (ha:PE X a ta)(hb:PE X b tb){pins:List (Addr×Obj)}{s:Shared}{σ:St}{H:Hp}{R:V->V->Hp->Prop}(I:Inv X pins σ H s)
  (h:ta σ H λx H1=>tb σ H1 λy H2=>R x y H2) {Q:Value->Shared->Prop} {f:Value->Value->Sem Value}
  (hf:∀v u s2 x y H2,Inv X pins σ H2 s2->RelV x v->RelV y u->R x y H2->wpAny (model X.prog X.w) X.A (f v u) Q X.xe s2) :
  wpAny (model X.prog X.w) X.A (eval a X.env) (λv s₁=>wpAny (model X.prog X.w) X.A (eval b X.env) (λu s₂=>wpAny (model X.prog X.w) X.A (f v u) Q X.xe s₂) X.xe s₁) X.xe s:=by
 refine thn (ha pins s σ H _ I h) λv s1 ⟨x,H1,I1,r1,q1⟩=>?_;refine thn (hb pins s1 σ H1 _ I1 q1) λu s2 ⟨y,H2,I2,r2,q2⟩=>?_;exact hf v u s2 x y H2 I2 r1 r2 q2
theorem zcc {op:ywo}{r:R2}(ho:OpR X (ymh op) r)(ha:PE X a ta)(hb:PE X b tb):PE X (.BinOp a op b pos) (tOp r ta tb):=by
 intro pins s σ H Q I h;exact wpAny_BinOp (binT ha hb I h λv u s2 x y H2 I2 rx ry q=>ho pins s2 σ H2 x y v u Q I2 rx ry q)
theorem zdlb {op:UnaryOp}{r:V->Hp->VK->Prop}(ho:UnR X (unaryOp op) r)(ha:PE X a ta):PE X (.UnaryOp op a pos) (tUn r ta):=by
 intro pins s σ H Q I h;exact UnaryOp_ (thn (ha pins s σ H _ I h) λv s1 ⟨x,H1,I1,r1,q1⟩=>ho pins s1 σ H1 x v Q I1 r1 q1)
theorem opI {f:Value->Value->Sem Value}{C:Int->Int->Prop}{g:Int->Int->Int}
  (rule:∀(i j:Int) (t u:Tok) (s:Shared) (Q:Value->Shared->Prop) (E:Value->Shared->Prop),C i j->Q (.int (g i j) s.toks) { s with toks:=s.toks+1 }->wpAny (model X.prog X.w) X.A (f (.int i t) (.int j u)) Q E s) :
  OpR X f (rI C λi j=>.int (g i j)):=by
 intro pins s σ H x y v u Q I rx ry h;obtain⟨i,j,rfl,rfl,hc,q⟩:=h;obtain⟨t,rfl⟩:=rx;obtain⟨t',rfl⟩:=ry;exact rule i j t t' s _ _ hc ⟨.int (g i j),H,I.tok _,⟨_,rfl⟩,q⟩
theorem opI0 {f:Value->Value->Sem Value}{g:Int->Int->Int}
  (rule:∀(i j:Int) (t u:Tok) (s:Shared) (Q:Value->Shared->Prop) (E:Value->Shared->Prop),Q (.int (g i j) s.toks) { s with toks:=s.toks+1 }->wpAny (model X.prog X.w) X.A (f (.int i t) (.int j u)) Q E s) :
  OpR X f (rI0 λi j=>.int (g i j)):=by
 intro pins s σ H x y v u Q I rx ry h;obtain⟨i,j,rfl,rfl,q⟩:=h;obtain⟨t,rfl⟩:=rx;obtain⟨t',rfl⟩:=ry;exact rule i j t t' s _ _ ⟨.int (g i j),H,I.tok _,⟨_,rfl⟩,q⟩
theorem opB0 {f:Value->Value->Sem Value}{g:Int->Int->Bool}
  (rule:∀(i j:Int) (t u:Tok) (s:Shared) (Q:Value->Shared->Prop) (E:Value->Shared->Prop),Q (.bool (g i j)) s->wpAny (model X.prog X.w) X.A (f (.int i t) (.int j u)) Q E s) :
  OpR X f (rI0 λi j=>.bl (g i j)):=by
 intro pins s σ H x y v u Q I rx ry h;obtain⟨i,j,rfl,rfl,q⟩:=h;obtain⟨t,rfl⟩:=rx;obtain⟨t',rfl⟩:=ry;exact rule i j t t' s _ _ ⟨.bl (g i j),H,I,rfl,q⟩
def CDiv (i j:Int):Prop:=0<j∧j<1073741824
def CPow (i j:Int):Prop:=0≤j∧j≤1000000∧i.natAbs<2 ^ 64
def CMul (i j:Int):Prop:=(-(2 ^ 64)<i∧i<2 ^ 64)∨(-(2 ^ 64)<j∧j<2 ^ 64)
theorem CMul.ok {i j:Int}(h:CMul i j):IntMulOk i j:=by
 rcases h with⟨h1,h2⟩|⟨h1,h2⟩
 ·exact .of_left (intBits_le_64 h1 h2)
 ·exact .of_right (intBits_le_64 h1 h2)
theorem zbh:OpR X (ymh .Add) (rI0 λi j=>.int (i+j)):=opI0 λ_ _ _ _ _ _ _ q=>add_int q
theorem zbi:OpR X (ymh .Sub) (rI0 λi j=>.int (i-j)):=opI0 λ_ _ _ _ _ _ _ q=>sub_int q
theorem zis:OpR X (ymh .Mult) (rI CMul λi j=>.int (i*j)):=opI λ_ _ _ _ _ _ _ hc q=>mul_int q hc.ok
theorem zdpb:OpR X (ymh .FloorDiv) (rI CDiv λi j=>.int (i / j)):=opI λi j _ _ _ _ _ hc q=>by
 have h1:(0:Int)<j:=hc.1;have h2:j<1073741824:=hc.2;exact floordiv_int (by omega) (by rw[Int.fdiv_eq_ediv_of_nonneg i (by omega)];exact q) (.inl (PyProof.noPylong_small (by omega)))
theorem zci:OpR X (ymh .Mod) (rI (λ_ j=>0<j) λi j=>.int (i % j)):=opI λi j _ _ _ _ _ hc q=>by
 have h1:(0:Int)<j:=hc;exact mod_int' (by omega) (by rw[Int.fmod_eq_emod_of_nonneg i (by omega)];exact q)
theorem zesb:OpR X (ymh .Pow) (rI CPow λi j=>.int (i ^ j.toNat)):=opI λ_ _ _ _ _ _ _ hc q=>pow_int_small hc.1 hc.2.1 hc.2.2 q
theorem unI {f:Value->Sem Value}{g:Int->Int}
  (rule:∀(i:Int) (t:Tok) (s:Shared) (Q:Value->Shared->Prop) (E:Value->Shared->Prop),Q (.int (g i) s.toks) { s with toks:=s.toks+1 }->wpAny (model X.prog X.w) X.A (f (.int i t)) Q E s) :
  UnR X f (rU λi=>.int (g i)):=by
 intro pins s σ H x v Q I rx h;obtain⟨i,rfl,q⟩:=h;obtain⟨t,rfl⟩:=rx;exact rule i t s _ _ ⟨.int (g i),H,I.tok _,⟨_,rfl⟩,q⟩
theorem zidb:UnR X (unaryOp .USub) (rU λi=>.int (-i)):=unI λ_ _ _ _ _ q=>neg_int q
end
def scal:V->V->Bool
 | .non,.non=>true|.non,.int _=>true|.int _,.non=>true|.non,.bl _=>true|.bl _,.non=>true|.non,.str _=>true|.str _,.non=>true
 | .int _,.int _=>true|.bl _,.bl _=>true|.str _,.str _=>true|.byt _,.byt _=>true
 | .int _,.str _=>true|.str _,.int _=>true|.bl _,.str _=>true|.str _,.bl _=>true
 | _,_=>false
def rEq:R2:=λx y H Q=>scal x y=true∧Q (.bl (decide (x=y))) H
def rNe:R2:=λx y H Q=>scal x y=true∧Q (.bl (!decide (x=y))) H
theorem zijb {i j:Int}:decide (V.int i=V.int j)=(i==j):=by
 rw[ywi];simp
theorem zonb {i j:Bool}:decide (V.bl i=V.bl j)=(i==j):=by
 rw[ywi];simp
theorem zgjb {i j:Str}:decide (V.str i=V.str j)=(i==j):=by
 rw[ywi];simp
theorem zjjb {i j:Array UInt8}:decide (V.byt i=V.byt j)=(i.toList==j.toList):=by
 rw[ywi];cases i;cases j;simp
section
variable {X:Cx}{a b c:Expr}{ta tb tc:TE}{pos:Pos}
theorem zad {pins:List (Addr×Obj)}{σ:St}{H:Hp}{s:Shared}{Q:VK}{k k':Bool}(I:Inv X pins σ H s)(q:Q (.bl k) H)(e:k=k'):EP X pins σ Q (.bool k') s:=by
 subst e;exact⟨.bl k,H,I,rfl,q⟩
theorem zqc:OpR X (yzc .Eq) rEq:=by
 intro pins s σ H x y v u Q I rx ry h;obtain⟨hs,q⟩:=h;cases x with
 | non =>
  cases rx;cases y with
  | non=>cases ry;exact PySem.EqNone.eq_none_none (zad I q (by simp))
  | bl j=>cases ry;exact PySem.EqNone.eq_none_bool (zad I q (by simp))
  | int j=>obtain⟨t',rfl⟩:=ry;exact PySem.EqNone.eq_none_int (zad I q (by simp))
  | str j=>obtain⟨t',rfl⟩:=ry;exact PySem.EqNone.eq_none_str (zad I q (by simp))
  | _=>exact absurd (show false=true from hs) ywa
 | bl i =>
  cases rx;cases y with
  | non=>cases ry;exact PySem.EqNone.eq_bool_none (zad I q (by simp))
  | bl j=>cases ry;exact eq_bool (zad I q zonb)
  | str j=>obtain⟨t',rfl⟩:=ry;exact PySem.EqMixed.eq_bool_str (zad I q (by simp))
  | _=>exact absurd (show false=true from hs) ywa
 | int i =>
  obtain⟨t,rfl⟩:=rx;cases y with
  | non=>cases ry;exact PySem.EqNone.eq_int_none (zad I q (by simp))
  | int j=>obtain⟨t',rfl⟩:=ry;exact eq_int (zad I q zijb)
  | str j=>obtain⟨t',rfl⟩:=ry;exact PySem.EqMixed.eq_int_str (zad I q (by simp))
  | _=>exact absurd (show false=true from hs) ywa
 | str i =>
  obtain⟨t,rfl⟩:=rx;cases y with
  | non=>cases ry;exact PySem.EqNone.eq_str_none (zad I q (by simp))
  | bl j=>cases ry;exact PySem.EqMixed.eq_str_bool (zad I q (by simp))
  | int j=>obtain⟨t',rfl⟩:=ry;exact PySem.EqMixed.eq_str_int (zad I q (by simp))
  | str j=>obtain⟨t',rfl⟩:=ry;exact eq_str (zad I q zgjb)
  | _=>exact absurd (show false=true from hs) ywa
 | byt i =>
  obtain⟨t,rfl⟩:=rx;cases y with
  | byt j=>obtain⟨t',rfl⟩:=ry;exact PySem.W.eq_bytes (zad I q zjjb)
  | _=>exact absurd (show false=true from hs) ywa
 | _=>cases y<;>exact absurd (show false=true from hs) ywa
theorem zfsb:OpR X (yzc .NotEq) rNe:=by
 intro pins s σ H x y v u Q I rx ry h;obtain⟨hs,q⟩:=h;cases x with
 | non =>
  cases rx;cases y with
  | non=>cases ry;exact PySem.EqNone.ne_none_none (zad I q (by simp))
  | bl j=>cases ry;exact PySem.EqNone.ne_none_bool (zad I q (by simp))
  | int j=>obtain⟨t',rfl⟩:=ry;exact PySem.EqNone.ne_none_int (zad I q (by simp))
  | str j=>obtain⟨t',rfl⟩:=ry;exact PySem.EqNone.ne_none_str (zad I q (by simp))
  | _=>exact absurd (show false=true from hs) ywa
 | bl i =>
  cases rx;cases y with
  | non=>cases ry;exact PySem.EqNone.ne_bool_none (zad I q (by simp))
  | bl j=>cases ry;exact ne_bool (zad I q (congrArg not zonb))
  | str j=>obtain⟨t',rfl⟩:=ry;exact PySem.EqMixed.ne_bool_str (zad I q (by simp))
  | _=>exact absurd (show false=true from hs) ywa
 | int i =>
  obtain⟨t,rfl⟩:=rx;cases y with
  | non=>cases ry;exact PySem.EqNone.ne_int_none (zad I q (by simp))
  | int j=>obtain⟨t',rfl⟩:=ry;exact ne_int (zad I q (congrArg not zijb))
  | str j=>obtain⟨t',rfl⟩:=ry;exact PySem.EqMixed.ne_int_str (zad I q (by simp))
  | _=>exact absurd (show false=true from hs) ywa
 | str i =>
  obtain⟨t,rfl⟩:=rx;cases y with
  | non=>cases ry;exact PySem.EqNone.ne_str_none (zad I q (by simp))
  | bl j=>cases ry;exact PySem.EqMixed.ne_str_bool (zad I q (by simp))
  | int j=>obtain⟨t',rfl⟩:=ry;exact PySem.EqMixed.ne_str_int (zad I q (by simp))
  | str j=>obtain⟨t',rfl⟩:=ry;exact ne_str (zad I q (congrArg not zgjb))
  | _=>exact absurd (show false=true from hs) ywa
 | byt i =>
  obtain⟨t,rfl⟩:=rx;cases y with
  | byt j=>obtain⟨t',rfl⟩:=ry;exact PySem.W.ne_bytes (zad I q (congrArg not zjjb))
  | _=>exact absurd (show false=true from hs) ywa
 | _=>cases y<;>exact absurd (show false=true from hs) ywa
theorem zklb:OpR X (yzc .Lt) (rI0 λi j=>.bl (decide (i<j))):=opB0 λ_ _ _ _ _ _ _ q=>lt_int q
theorem zllb:OpR X (yzc .LtE) (rI0 λi j=>.bl (decide (i≤j))):=opB0 λ_ _ _ _ _ _ _ q=>le_int q
theorem zut:OpR X (yzc .Gt) (rI0 λi j=>.bl (decide (j<i))):=opB0 λ_ _ _ _ _ _ _ q=>gt_int q
theorem zisb:OpR X (yzc .GtE) (rI0 λi j=>.bl (decide (j≤i))):=opB0 λ_ _ _ _ _ _ _ q=>ge_int q
theorem zky:OpR X (yzc .In) (λx y H Q=>Ex2 λi j=>x = .str i∧y = .str j∧Q (.bl (!(ypc j i 0 j.length 1).isEmpty)) H):=by
 intro pins s σ H x y v u Q I rx ry h;obtain⟨i,j,rfl,rfl,q⟩:=h;obtain⟨t,rfl⟩:=rx;obtain⟨t',rfl⟩:=ry;exact in_str (zad I q rfl)
theorem zjy:OpR X (yzc .Is) (λx y H Q=>y = .non∧Q (.bl (decide (x = .non))) H):=by
 intro pins s σ H x y v u Q I rx ry h;obtain⟨rfl,q⟩:=h;cases ry;refine is_none_gen (zad I q ?_);cases x<;>first
  | (cases rx;rfl)
  | (obtain⟨t,rfl⟩:=rx;rfl)
theorem zvhb:OpR X (yzc .IsNot) (λx y H Q=>y = .non∧Q (.bl (!decide (x = .non))) H):=by
 intro pins s σ H x y v u Q I rx ry h;obtain⟨rfl,q⟩:=h;cases ry;refine isnot_none_gen (zad I q ?_);cases x<;>first
  | (cases rx;rfl)
  | (obtain⟨t,rfl⟩:=rx;rfl)
theorem zwa (b:Expr){op:CmpOp}(h:op ≠ .In:=by decide)(h2:op ≠ .NotIn:=by decide):ysk op b=false:=by
 have e1:(op==CmpOp.In)=false:=by cases op<;>first|rfl|exact absurd rfl h
 have e2:(op==CmpOp.NotIn)=false:=by cases op<;>first|rfl|exact absurd rfl h2
 cases b<;>simp[ysk,e1,e2]
theorem zte {op:CmpOp}{r:R2}(ho:OpR X (yzc op) r)(ha:PE X a ta)(hb:PE X b tb)(hm:ysk op b=false):PE X (.Compare a [op] [b] pos) (tOp r ta tb):=by
 intro pins s σ H Q I h;exact wpAny_Compare1 (binT ha hb I h λv u s2 x y H2 I2 rx ry q=>ho pins s2 σ H2 x y v u Q I2 rx ry q) hm
def zcrb (t:TE):TT:=fun σ H Q=>t σ H λx H'=>∃k,x = .bl k∧Q k H'
theorem zma {op:CmpOp}{r:R2}(ho:OpR X (yzc op) r)(ha:PE X a ta)(hb:PE X b tb)(hm:ysk op b=false):PT X (.Compare a [op] [b] pos) (zcrb (tOp r ta tb)):=by
 intro pins s σ H Q I h;refine wpAny_isTrue_Compare1 (thn (ha pins s σ H _ I h) λv s1 ⟨x,H1,I1,r1,q1⟩=>thn (hb pins s1 σ H1 _ I1 q1) λu s2 ⟨y,H2,I2,r2,q2⟩ =>
  thn (ho pins s2 σ H2 x y v u _ I2 r1 r2 q2) λc s3 ⟨z,H3,I3,r3,k,e,q3⟩=>?_) hm
 subst e;cases r3;exact ydd ⟨H3,I3,q3⟩
def zanb (r r':R2)(ta tb tc:TE):TE:=fun σ H Q=>ta σ H λx H1=>tb σ H1 λy H2=>r x y H2 λz H3=>∃k,z = .bl k ∧
 (if k=true then tc σ H3 λw' H4=>r' y w' H4 Q else Q (.bl false) H3)
theorem zjlb {op op':CmpOp}{r r':R2}(ho:OpR X (yzc op) r)(ho':OpR X (yzc op') r')(ha:PE X a ta)(hb:PE X b tb)(hc:PE X c tc)
  (hm:lastMarks [op,op'] [b,c]=false:=by with_unfolding_all rfl):PE X (.Compare a [op,op'] [b,c] pos) (zanb r r' ta tb tc):=by
 intro pins s σ H Q I h;refine Compare_chain (thn (ha pins s σ H _ I h) λv s1 ⟨x,H1,I1,r1,q1⟩=>chain_link (thn (hb pins s1 σ H1 _ I1 q1) λu s2 ⟨y,H2,I2,r2,q2⟩ =>
  thn (ho pins s2 σ H2 x y v u _ I2 r1 r2 q2) λd s3 ⟨z,H3,I3,r3,k,e,q3⟩=>?_)) hm
 subst e;cases r3;refine ydd ?_;cases k with
 | false=>exact ite_ff ⟨.bl false,H3,I3,rfl,q3⟩
 | true=>exact ite_tt (chain_last (thn (hc pins s3 σ H3 _ I3 q3) λw' s4 ⟨z',H4,I4,r4,q4⟩=>ho' pins s4 σ H4 y z' u w' Q I4 r2 r4 q4))
theorem zxkb {op op':CmpOp}{r r':R2}(ho:OpR X (yzc op) r)(ho':OpR X (yzc op') r')(ha:PE X a ta)(hb:PE X b tb)(hc:PE X c tc)
  (hm:lastMarks [op,op'] [b,c]=false:=by with_unfolding_all rfl):PT X (.Compare a [op,op'] [b,c] pos) (zcrb (zanb r r' ta tb tc)):=by
 intro pins s σ H Q I h;refine isTrue_chain (thn (ha pins s σ H _ I h) λv s1 ⟨x,H1,I1,r1,q1⟩=>test_link (thn (hb pins s1 σ H1 _ I1 q1) λu s2 ⟨y,H2,I2,r2,q2⟩ =>
  thn (ho pins s2 σ H2 x y v u _ I2 r1 r2 q2) λd s3 ⟨z,H3,I3,r3,k,e,q3⟩=>?_)) hm
 subst e;cases r3;refine ydd ?_;cases k with
 | false =>
  obtain⟨k',e',q'⟩:=q3;cases e';exact ite_ff ⟨H3,I3,q'⟩
 | true =>
  refine ite_tt (test_last (thn (hc pins s3 σ H3 _ I3 q3) λw' s4 ⟨z',H4,I4,r4,q4⟩=>thn (ho' pins s4 σ H4 y z' u w' _ I4 r2 r4 q4) λd' s5 ⟨z2,H5,I5,r5,k2,e2,q5⟩=>?_));subst e2;cases r5;exact ydd ⟨H5,I5,q5⟩
def TruV (K:yba)(x:V)(H:Hp)(k:Bool):Prop :=
 match x with
 | .non=>k=false
 | .bl b=>k=b
 | .int i=>k=(i != 0)
 | .str y=>y.length≤yta∧k=((y.length:Int) != 0)
 | .byt y=>y.size≤yta∧k=((y.size:Int) != 0)
 | .ref p=>(∃xs,SqL K H p xs∧k = !xs.isEmpty)∨(∃xs,SqT K H p xs∧k = !xs.isEmpty)∨∃kvs,H p=some (.dK kvs)∧k = !kvs.isEmpty
 | _=>False
theorem zwfb {κ:Type}{kvs:List (κ×V)}{vs:List (κ×Value)}(r:KV kvs vs):(!vs.isEmpty) = !kvs.isEmpty:=by
 cases r<;>rfl
theorem ztu {xs:List V}{its:List Value}(r:Vals xs its):(!its.toArray.isEmpty) = !xs.isEmpty:=by
 cases r<;>simp
theorem zqs:(yta:Nat)<2 ^ 63:=by rw[sizeLine_eq];decide
theorem zyqb:TruR X (λx H Q=>∃k,TruV X.K x H k∧Q k H):=by
 intro pins s σ H x v Q I rx h;obtain⟨k,e,q⟩:=h;have hl:=zqs;have hs:yta=16777216:=sizeLine_eq;cases x with
 | non =>
  cases rx;have e':k=false:=e;subst e';exact truthy_none ⟨H,I,q⟩
 | bl b =>
  cases rx;have e':k=b:=e;subst e';exact ydd ⟨H,I,q⟩
 | int i =>
  obtain⟨t,rfl⟩:=rx;have e':k=(i != 0):=e;subst e';exact PySem.P.truthy_int ⟨H,I,q⟩
 | str y =>
  obtain⟨t,rfl⟩:=rx;obtain⟨hy,e'⟩:y.length≤yta∧k=((y.length:Int) != 0):=e;subst e';exact PySem.P.truthy_str (by omega) ⟨H,I.tok _,q⟩
 | byt y =>
  obtain⟨t,rfl⟩:=rx;obtain⟨hy,e'⟩:y.size≤yta∧k=((y.size:Int) != 0):=e;subst e';exact PySem.W.truthy_bytes (by omega) ⟨H,I.tok _,q⟩
 | ref p =>
  cases rx;have e':(∃xs,SqL X.K H p xs∧k = !xs.isEmpty)∨(∃xs,SqT X.K H p xs∧k = !xs.isEmpty)∨∃kvs,H p=some (.dK kvs)∧k = !kvs.isEmpty:=e
  rcases e' with⟨xs,hx,e'⟩|⟨xs,hx,e'⟩|⟨kvs,hx,e'⟩
  ·subst e';obtain⟨its,r,pl,hz⟩:=I.list hx;have hlen:=r.length;exact wpAny_truthy_list pl.isList (by simp only[ypa];omega) ⟨H,I.tok _,by rw[ztu r];exact q⟩
  ·subst e';obtain⟨its,r,pl,hz⟩:=I.tuple hx;have hlen:=r.length;exact truthy_tuple pl (by simp only[ypa];omega) ⟨H,I.tok _,by rw[ztu r];exact q⟩
  ·subst e';obtain⟨hz,hS,vs,r,m⟩:kvs.length≤yta∧(p==ygg)=false∧∃vs,KV kvs vs∧s.heap.DictOf (zue X.prog X.w) p vs:=I.hok p _ hx;have hlen:kvs.length=vs.length:=yqk r;exact wpAny_truthy_dict hS m (by omega) ⟨H,I.tok _,by rw[zwfb r];exact q⟩
 | _=>exact (show False from e).elim
theorem zpv (ha:PE X a ta)(he:∀whole,isTrue a X.env whole=(do let v ← whole;standAt a.pos;ycn [v] (truthy v))) :
  PT X a (fun σ H Q=>ta σ H λx H'=>∃k,TruV X.K x H' k∧Q k H'):=by
 intro pins s σ H Q I h;exact isTrue_plain (thn (ha pins s σ H _ I h) λv s1 ⟨x,H1,I1,r1,q1⟩=>zyqb pins s1 σ H1 x v Q I1 r1 q1) (he _)
theorem zwl:OpR X (ymh .Add) (λx y H Q=>Ex2 λi j=>x = .str i∧y = .str j∧i.length+j.length≤yta∧Q (.str (i++j)) H):=by
 intro pins s σ H x y v u Q I rx ry h;obtain⟨i,j,rfl,rfl,hz,q⟩:=h;obtain⟨t,rfl⟩:=rx;obtain⟨t',rfl⟩:=ry;exact add_str (λt' tk=>⟨.str (i++j),H,I.tok _,⟨_,rfl⟩,q⟩) hz
theorem vals1 {x:V}{us:List Value}(r:Vals [x] us):∃u,us=[u]∧RelV x u:=by
 cases r with
 | cons r1 r2=>cases r2;exact⟨_,rfl,r1⟩
theorem vals2 {x y:V}{us:List Value}(r:Vals [x,y] us):Ex2 λu w'=>us=[u,w']∧RelV x u∧RelV y w':=by
 cases r with
 | cons r1 r2 =>
  cases r2 with
  | cons r3 r4=>cases r4;exact⟨_,_,rfl,r1,r3⟩
theorem zojb (hc:X.calm=true):ztl X (.builtin "max") (λxs H Q=>Ex2 λi j=>xs=[.int i,.int j]∧Q (.int (if j>i then j else i)) H):=by
 intro pins s σ H xs us Q I r h;obtain⟨i,j,rfl,q⟩:=h;obtain⟨u,w',rfl,⟨t,rfl⟩,⟨t',rfl⟩⟩:=vals2 r;refine max_two_ints (I.ok.hd hc) λh' tk k=>⟨_,H,I.kept k,?_,q⟩
 by_cases hj:j>i
 ·rw[if_pos hj,if_pos hj];exact⟨_,rfl⟩
 ·rw[if_neg hj,if_neg hj];exact⟨_,rfl⟩
theorem zrz:ztl X (.type "str") (λxs H Q=>∃i,xs=[.int i]∧i.natAbs.log2<1920∧Q (.str (toString i)) H):=by
 intro pins s σ H xs us Q I r h;obtain⟨i,rfl,hz,q⟩:=h;obtain⟨u,rfl,t,rfl⟩:=vals1 r;exact PySem.P.str_of_int hz ⟨.str _,H,I.tok _,⟨_,rfl⟩,q⟩
end
end L2
namespace L2
open PySem PySem.Spec PyProof.Rows
structure ObjM (h:Heap)(x dx C:Addr)(mA:Str->Option Value):Prop where
 obj:h.get? x=some (yqe C dx)
 ns:h.Ns1 dx mA
 ne:dx≠x
theorem zcib {h:Heap}{dx:Addr}{mA:Str->Option Value}(n:h.Ns1 dx mA):∃od,h.get? dx=some od∧∀name,yqj name od=some (mA name):=by
 obtain⟨o,es,ep,ho,hd,hk,_,hm⟩:=n;refine⟨o,ho,λname=>?_⟩;have e:=hm name;unfold nsFind findBy at e;rw[← Array.find?_toList] at e;unfold yqj;rw[hd];dsimp only
 split
 ·rename_i y q;rw[q] at e;exact congrArg some e
 ·rename_i q;rw[q] at e;have a:es.toList.any (·.refKey)=false:=by
   rw[List.any_eq_false];intro y hy;obtain⟨z,t,hkey⟩:=hk y (Array.mem_toList_iff.mp hy);simp[DictEntry.refKey,hkey]
  have a':¬ es.toList.any (·.refKey)=true:=by rw[a];exact ywa
  rw[if_neg a'];exact congrArg some e
theorem ObjM.look {h:Heap}{x dx C:Addr}{mA:Str->Option Value}(I:ObjM h x dx C mA):∃od,PySem.W.InstAt h x (yqe C dx) C (some od)∧∀name,yqj name od=some (mA name) :=
 let ⟨od,ho,hl⟩:=zcib I.ns
 ⟨od,⟨I.obj,rfl,rfl,ho⟩,hl⟩
section
variable {prog:ypb}{w:World}{A:Around}{E:Value->Shared->Prop}{s:Shared}{K:yba}{x dx C f:Addr}{mA:Str->Option Value}{name:Str}{v:Value}
theorem get_map {expr:Bool}{Q:Value->Shared->Prop}(X:K.In s.heap)(I:ObjM s.heap x dx C mA)(hg:yaf K C name=true)(hh:yof K C=true)
  (ha:ygb K (.ref C) name=some none) (hv:mA name=some v) (hv':yro v=true) (h:Q v { s with toks:=s.toks+1 }) :
  wpAny (model prog w) A (getAttr (.ref x) name expr) Q E s:=by
 obtain⟨od,J,hl⟩:=I.look;exact PySem.W.get_value X J (yxi hg).1 (PySem.W.findObj_own hh ha rfl (by rw[hl,hv])) hv' h
theorem zjmb {pl:Sem Bool}{Q:Value×List Value->Shared->Prop}(X:K.In s.heap)(I:ObjM s.heap x dx C mA)(hg:yaf K C name=true)
  (hf:ygb K (.ref C) name=some (some (.ref f))) (ht:ymj K (.ref f)=true) (hv:mA name=none) (h:Q (.ref f,[.ref x]) s) :
  wpAny (model prog w) A (yzo (.ref x) name pl) Q E s:=by
 obtain⟨od,J,hl⟩:=I.look;exact PySem.W.method_fn X J (yxi hg).1 (yxi hg).2 hf (beq_iff_eq.mp ht) (by show (yqj name od).map (·.isSome)=some false;rw[hl,hv];rfl) h
theorem zlob {ns:List Str}{Q:Unit->Shared->Prop}(X:K.In s.heap)(I:ObjM s.heap x dx C mA)
  (hs:ygb K (.ref C) "__setattr__" = some (some (.builtin "object.__setattr__"))) (hp:ytg K C=true) (ht:ytl K C name=some none) (hh:yof K C=true)
  (hw:yrl mA ns) (hsz:ns.length≤yta)
  (h:∀h',ObjM h' x dx C (λy=>if y=name then some v else mA y)->ywc dx s.heap h'->Q () { s with heap:=h',toks:=s.toks+2 }) :
  wpAny (model prog w) A (setAttr (.ref x) name v) Q E s:=by
 obtain⟨od,J,hl⟩:=I.look;refine PySem.W.set_plain X J hs (PySem.W.osa_open (s:={ s with toks:=s.toks+1 }) (r:=none) X J hp ht λb=>?_);obtain⟨cd,hc,hd'⟩:=PySem.W.any_some hh;have hx:s.heap.get? x=some ⟨.ref C,some dx,.plain,#[]⟩:=I.obj;refine yaa (yga (yaa (yaa (wpAny_loadPart hx (yaa (PySem.W.Looks.here (s:={ s with toks:=s.toks+1 }) (PySem.W.looks_clsIn X hc) ?_))))));rw[hd'];refine yga (a:=some dx) (yaa (yga (yaa ?_)));refine wpAny_nsSet1 (s:={ s with toks:=s.toks+1 }) I.ns λh' hn2 hs2=>?_;obtain⟨oD,esD,epD,hoD,hdD,hcD⟩:=hn2.count (yrl.cons name v hw);refine yaa (wpAny_lookBehind hoD (by rw[hdD];exact pastItsLine_dict (yxa hcD (by rw[yha];omega))) ?_);exact yga (h _ ⟨(hs2.2 _ (ysb I.ne)).trans I.obj,hn2,I.ne⟩ hs2)
theorem zulb {R:Result->Shared->Prop}{vs:List Value}{kw:List (Str×Value)}(X:K.In s.heap)(hm:yul K C=true)
  (hi:ygb K (.ref C) "__init__" = some (some (.ref f))) (hf:PySem.W.typeIn K (.ref f)=some (.type "function"))
  (h:yyi (model prog w) (A.under (.builtin "type.__call__" ⟨.ref C::vs,kw⟩)) (.call (.ref f) ⟨.ref (s.heap.objs.size+1)::vs,kw⟩) (PySem.W.InitBack (s.heap.objs.size+1) R)
   { s with heap:=(s.heap.push yod).push (yqe C s.heap.objs.size) }) :
  yyi (model prog w) A (.call (.ref C) ⟨vs,kw⟩) R s:=by
 obtain⟨hh,g,d,t,os⟩:=s;exact PySem.W.make_core (PySem.W.makes_of X hm) (PySem.W.looks_findIn X hi) (λself=>PySem.W.bind_fn X self hf) (.inl rfl) h
end
def putF (f:Str)(v:V):List (Str×V)->List (Str×V)
 | []=>[(f,v)]
 | (g,x)::r=>if g=f then (g,v)::r else (g,x)::putF f v r
theorem zps (f g:Str)(v:V):∀fs:List (Str×V),(putF f v fs).lookup g=if g=f then some v else fs.lookup g
 | []=>by
  show yxd g [(f,v)]=_
  by_cases h:g=f
  ·have hb:(g==f)=true:=beq_iff_eq.mpr h;simp only[yxd,hb,if_pos h]
  ·have hb:(g==f)=false:=beq_eq_false_iff_ne.mpr h;simp only[yxd,hb,if_neg h]
 | (k,x)::r=>by
  have ih:=zps f g v r;rw[show putF f v ((k,x)::r)=(if k=f then (k,v)::r else (k,x)::putF f v r) from rfl]
  by_cases hk:k=f
  ·rw[if_pos hk]
   by_cases h:g=k
   ·have hb:(g==k)=true:=beq_iff_eq.mpr h;simp only[yxd,hb,if_pos (h.trans hk)]
   ·have hb:(g==k)=false:=beq_eq_false_iff_ne.mpr h;simp only[yxd,hb,if_neg (λe:g=f=>h (e.trans hk.symm))]
  ·rw[if_neg hk]
   by_cases h:g=k
   ·have hb:(g==k)=true:=beq_iff_eq.mpr h;simp only[yxd,hb,if_neg (λe:g=f=>hk (h.symm.trans e))]
   ·have hb:(g==k)=false:=beq_eq_false_iff_ne.mpr h;simp only[yxd,hb];exact ih
theorem zss (f:Str)(v:V):∀fs:List (Str×V),f∈(putF f v fs).map (·.1)∧∀g,g∈fs.map (·.1)->g∈(putF f v fs).map (·.1)
 | []=>⟨by simp[putF],λg h=>by simp at h⟩
 | (k,x)::r=>by
  obtain⟨i1,i2⟩:=zss f v r;rw[show putF f v ((k,x)::r)=(if k=f then (k,v)::r else (k,x)::putF f v r) from rfl]
  by_cases hk:k=f
  ·rw[if_pos hk];subst hk;exact⟨by simp,λg h=>by simpa using h⟩
  ·rw[if_neg hk];refine⟨?_,λg h=>?_⟩
   ·rw[yva];exact yna _ i1
   ·rw[yva] at h ⊢
    rcases yja.mp h with e|e
    ·exact yja.mpr (.inl e)
    ·exact yna _ (i2 g e)
theorem zrs (f:Str)(v:V):∀fs:List (Str×V),(putF f v fs).length≤fs.length+1
 | []=>by simp[putF]
 | (k,x)::r=>by
  have ih:=zrs f v r;rw[show putF f v ((k,x)::r)=(if k=f then (k,v)::r else (k,x)::putF f v r) from rfl]
  by_cases hk:k=f
  ·rw[if_pos hk,yha,yha];omega
  ·rw[if_neg hk,yha,yha];omega
theorem RelO.some_of {v:V}{o:Option Value}(r:RelO (some v) o):∃u,o=some u∧RelV v u:=by
 cases o with
 | none=>exact (show False from r).elim
 | some u=>exact⟨u,rfl,r⟩
theorem RelO.none_of {o:Option Value}(r:RelO none o):o=none:=by
 cases o with
 | none=>rfl
 | some u=>exact (show False from r).elim
theorem zwib {v:V}{u:Value}(r:RelV v u):yro u=true:=by
 cases v with
 | non=>cases (show u=Value.none from r);rfl
 | bl b=>cases (show u=Value.bool b from r);rfl
 | int i=>obtain⟨t,e⟩:=(show ∃t,u=Value.int i t from r);cases e;rfl
 | str x=>obtain⟨t,e⟩:=(show ∃t,u=Value.str x t from r);cases e;rfl
 | byt b=>obtain⟨t,e⟩:=(show ∃t,u=Value.bytes b t from r);cases e;rfl
 | flt b=>obtain⟨t,e⟩:=(show ∃t,u=Value.float b t from r);cases e;rfl
 | ref a=>cases (show u=Value.ref a from r);rfl
 | ty n=>cases (show u=Value.type n from r);rfl
section
variable {P:ypb}{w:World}{H H':Hp}{h h':Heap}{a C dx:Addr}{fs fs':List (Str×V)}
theorem zfw (hok:HOk P w H h)(e:H a=some (.ins C dx fs)):∃mA,ObjM h a dx C mA∧(∀f,RelO (fs.lookup f) (mA f))∧yrl mA (fs.map (·.1))∧fs.length≤1000∧H dx=some (.own a):=by
 obtain⟨d,z,ne,ob,mA,n,r,q⟩:=(show zrg P w H h a (.ins C dx fs) from hok a _ e);exact⟨mA,⟨ob,n,ne⟩,r,q,z,d⟩
end
structure Cls (K:yba)(C:Addr):Prop where
 pg:yaf K C yap=true
 hd:yof K C=true
 po:ytg K C=true
 sa:ygb K (.ref C) "__setattr__" = some (some (.builtin "object.__setattr__"))
theorem Cls.get {K:yba}{C:Addr}(c:Cls K C)(f:Str):yaf K C f=true:=c.pg
def zjh (K:yba)(C:Addr)(f:Str):Prop:=ygb K (.ref C) f=some none
theorem zjh.taker {K:yba}{C:Addr}{f:Str}(n:zjh K C f):ytl K C f=some none:=by
 unfold ytl;rw[show ygb K (.ref C) f=some none from n];rfl
structure Con (K:yba)(C:Addr)(f:Str)(v:V)(u:Value):Prop where
 at_:ygb K (.ref C) f=some (some u)
 rel:RelV v u
 get:yzh K u "__get__" = some none
 cp:PySem.W.copiedNames.contains f=false
structure Meth (K:yba)(C:Addr)(m:Str)(f:Addr):Prop where
 at_:ygb K (.ref C) m=some (some (.ref f))
 fn:ymj K (.ref f)=true
 kp:yme K (.ref f)=true
section
variable {X:Cx}{pins:List (Addr×Obj)}{σ:St}{H:Hp}{s:Shared}{a C dx:Addr}{fs:List (Str×V)}{f:Str}{v:V}{A:Around}{E:Value->Shared->Prop}
theorem zvu {b:Bool}{Q:Value->Shared->Prop}(I:Inv X pins σ H s)(e:H a=some (.ins C dx fs))(c:Cls X.K C)(n:zjh X.K C f)(l:fs.lookup f=some v)
  (h:∀u s',Inv X pins σ H s'->RelV v u->Q u s'):wpAny (model X.prog X.w) A (getAttr (.ref a) f b) Q E s:=by
 obtain⟨mA,O,r,_,_,_⟩:=zfw I.hok e;obtain⟨u,hu,ru⟩:=RelO.some_of (v:=v) (o:=mA f) (by rw[← l];exact r f);exact get_map I.kIn O (c.get f) c.hd n hu (zwib ru) (h u _ (I.tok _) ru)
theorem zuu {m:Str}{g:Addr}{pl:Sem Bool}{Q:Value×List Value->Shared->Prop}(I:Inv X pins σ H s)(e:H a=some (.ins C dx fs))(c:Cls X.K C)(k:Meth X.K C m g)(l:fs.lookup m=none)
  (h:Q (.ref g,[.ref a]) s):wpAny (model X.prog X.w) A (yzo (.ref a) m pl) Q E s:=by
 obtain⟨mA,O,r,_,_,_⟩:=zfw I.hok e;have hn:mA m=none:=RelO.none_of (by rw[← l];exact r m);exact zjmb I.kIn O (c.get m) k.at_ k.fn hn h
theorem zgu {y:V}{u:Value}{Q:Unit->Shared->Prop}(I:Inv X pins σ H s)(e:H a=some (.ins C dx fs))(c:Cls X.K C)(n:zjh X.K C f)(hl:fs.length<1000)(ry:RelV y u)
  (h:∀s',Inv X pins σ (upd H a (.ins C dx (putF f y fs))) s'->Q () s'):wpAny (model X.prog X.w) A (setAttr (.ref a) f u) Q E s:=by
 obtain⟨mA,O,r,wi,_,ho⟩:=zfw I.hok e;have hz:(fs.map (·.1)).length≤yta:=by rw[yda,sizeLine_eq];omega
 refine zlob I.kIn O c.sa c.po n.taker c.hd wi hz λh' O' sb=>h _ ?_;have hd:∃o,h'.get? dx=some o:=let ⟨o,_,_,e',_⟩:=O'.ns;⟨o,e'⟩;refine I.write (x:=a) (e:=dx) (by rw[e];exact True.intro) (.inr ho) (λb q hb z=>(sb.2 b hb).trans z) hd ?_;refine⟨by rw[zza O.ne];exact ho,?_,O.ne,O'.obj,_,O'.ns,λg=>?_,λg hg=>?_⟩
 ·have:=zrs f y fs;omega
 ·show RelO ((putF f y fs).lookup g) (if g=f then some u else mA g);rw[zps]
  by_cases q:g=f
  ·rw[if_pos q,if_pos q];exact ry
  ·rw[if_neg q,if_neg q];exact r g
 ·by_cases q:g=f
  ·rw[q];exact (zss f y fs).1
  ·refine (zss f y fs).2 g (wi g λz=>hg ?_);show (if g=f then some u else mA g)=none
   rw[if_neg q];exact z
theorem Inv.made (I:Inv X pins σ H s):Inv X pins σ (upd (upd H s.heap.objs.size (.own (s.heap.objs.size+1))) (s.heap.objs.size+1) (.ins C s.heap.objs.size []))
  { s with heap:=(s.heap.push yod).push (yqe C s.heap.objs.size) }:=by
 have e1:(s.heap.push yod).get? s.heap.objs.size=some yod:=yla s.heap rfl;have e2:((s.heap.push yod).push (yqe C s.heap.objs.size)).get? (s.heap.objs.size+1)=some (yqe C s.heap.objs.size):=by
  have:=yla (s.heap.push yod) (o:=yqe C s.heap.objs.size) rfl
  rwa [yif] at this
 have e3:(s.heap.push yod).Ns s.heap.objs.size (λ_=>none):=⟨yod,#[],_,e1,rfl,(λe he=>absurd he (by simp)),λ_=>rfl⟩;have I1:=I.laid (a:=s.heap.objs.size) (o:=.own (s.heap.objs.size+1)) (h':=s.heap.push yod) (t':=s.toks) (λb u q=>yca _ q) (yma _) ⟨_,e1⟩;refine I1.laid (a:=s.heap.objs.size+1) (o:=.ins C s.heap.objs.size []) (t':=s.toks) (λb u q=>yca _ q) (yvl (yif _ _)) ?_;have ne:s.heap.objs.size≠s.heap.objs.size+1:=yhb (yfg _);refine⟨by rw[zza ne,zga],ylb _,ne,e2,λ_=>none,(Heap.Ns1.of_empty e3).at λo q=>yca _ q,λ_=>True.intro,λy hy=>absurd rfl hy⟩
theorem zmqb {prog:ypb}{w:World}{env:Env}{e:Expr}{f:Str}{pos:Pos}{s:Shared}{Q:Value->Shared->Prop}(hb:ynh e f env (eval e env)=eval e env)
  (h:wpAny (model prog w) A (eval e env) (λo s₁=>wpAny (model prog w) A (getAttr o f true) Q E s₁) E s):wpAny (model prog w) A (eval (.Attribute e f pos) env) Q E s :=
 Attribute_any_ h (by rw[arm_eval_Attribute,hb])
end
def tFld (K:yba)(ta:TE)(f:Str):TE:=fun σ H Q=>ta σ H λx H1=>Ex5 λa C dx fs v=>x = .ref a∧H1 a=some (.ins C dx fs)∧Cls K C∧zjh K C f∧fs.lookup f=some v∧Q v H1
def sFld (K:yba)(ta tv:TE)(f:Str):TS:=λD σ H=>tv σ H λy H1=>ta σ H1 λx H2=>Ex4 λa C dx fs=>x = .ref a∧H2 a=some (.ins C dx fs)∧Cls K C∧zjh K C f∧fs.length<1000 ∧
 D.nx σ (upd H2 a (.ins C dx (putF f y fs)))
def InOp (X:Cx)(op:ywo)(rd:V->V->Hp->VK->Prop):Prop :=
 ∀(pins:List (Addr×Obj)) (s:Shared) (σ:St) (H:Hp) (x y:V) (u v:Value) (Q:VK),Inv X pins σ H s->RelV x u->RelV y v->rd x y H Q->wpAny (model X.prog X.w) X.A (inplaceOp op u v) (EP X pins σ Q) X.xe s
def zoob (K:yba)(ta tv:TE)(rd:V->V->Hp->VK->Prop)(f:Str):TS:=λD σ H=>ta σ H λx H1=>Ex5 λa C dx fs v=>x = .ref a∧H1 a=some (.ins C dx fs)∧Cls K C∧zjh K C f∧fs.lookup f=some v ∧
 tv σ H1 λy H2=>rd v y H2 λz H3=>Ex2 λdx' fs'=>H3 a=some (.ins C dx' fs')∧fs'.length<1000∧D.nx σ (upd H3 a (.ins C dx' (putF f z fs')))
section
variable {X:Cx}{o e value:Expr}{f:Str}{pos pos' tpos:Pos}{ta tv:TE}
theorem zwe (he:PE X e ta)(hb:ynh e f X.env (eval e X.env)=eval e X.env):PE X (.Attribute e f pos) (tFld X.K ta f):=by
 intro pins s σ H Q I h;refine zmqb hb (thn (he pins s σ H _ I h) λu s1 ⟨x,H1,I1,rx,a,C,dx,fs,v,ex,ea,c,n,l,q⟩=>?_);subst ex;obtain rfl:u=Value.ref a:=rx;exact zvu I1 ea c n l λu' s2 I2 ru=>⟨v,H1,I2,ru,q⟩
theorem zem (ha:PE X o ta)(hv:PE X value tv)(hs:ymn value (some (.Attribute o f pos')) pos.line X.env=pure false):PS X (.Assign [.Attribute o f pos'] value pos) (sFld X.K ta tv f):=by
 intro pins s σ H D I h;refine plainObj_wpAny_Assign_Attribute (thn (hv pins s σ H _ I h) λu s1 ⟨y,H1,I1,ry,q⟩=>thn (ha pins s1 σ H1 _ I1 q) λov s2 ⟨x,H2,I2,rx,a,C,dx,fs,ex,ea,c,n,l,q2⟩=>?_) hs;subst ex;obtain rfl:ov=Value.ref a:=rx;exact zgu I2 ea c n l ry λs3 I3=>⟨σ,_,I3,q2⟩
theorem zohb {op:ywo}{rd:V->V->Hp->VK->Prop}(ha:PE X o ta)(hv:PE X value tv)(hop:InOp X op rd):PS X (.AugAssign (.Attribute o f tpos) op value pos) (zoob X.K ta tv rd f):=by
 intro pins s σ H D I h;refine wpAny_AugAssign_AttributeAny (thn (ha pins s σ H _ I h) λov s1 ⟨x,H1,I1,rx,a,C,dx,fs,v,ex,ea,c,n,l,q⟩=>?_);subst ex;obtain rfl:ov=Value.ref a:=rx;refine zvu I1 ea c n l λu s2 I2 ru=>thn (hv pins s2 σ H1 _ I2 q) λw3 s3 ⟨y,H2,I3,ry,q3⟩=>thn (hop pins s3 σ H2 v y u w3 _ I3 ru ry q3) λw4 s4 ⟨z,H3,I4,rz,dx',fs',ea',l',q4⟩=>?_;exact zgu I4 ea' c n l' rz λs5 I5=>⟨σ,_,I5,q4⟩
def rAdd:V->V->Hp->VK->Prop:=λx y H Q=>Ex2 λi j=>x = .int i∧y = .int j∧Q (.int (i+j)) H
theorem zitb:InOp X .Add rAdd:=by
 rintro pins s σ H x y u v Q I rx ry ⟨i,j,rfl,rfl,q⟩;obtain⟨t,rfl⟩:=(show ∃t,u=Value.int i t from rx);obtain⟨t',rfl⟩:=(show ∃t',v=Value.int j t' from ry);exact PyProof.Rows.iadd_int ⟨.int (i+j),H,I.tok _,⟨_,rfl⟩,q⟩
end
section
variable {X:Cx}{pins:List (Addr×Obj)}{σ:St}{H:Hp}{s:Shared}{A:Around}{E:Value->Shared->Prop}{Q:Value->Shared->Prop}{c:Value}{b:Bool}
inductive TyOf (K:yba)(H:Hp):V->Value->Prop where
 | non:TyOf K H .non (.type "NoneType")
 | bl (x:Bool):TyOf K H (.bl x) (.type "bool")
 | int (i:Int):TyOf K H (.int i) (.type "int")
 | str (x:Str):TyOf K H (.str x) (.type "str")
 | flt (x:UInt64):TyOf K H (.flt x) (.type "float")
 | lst {a:Addr} {xs:List V} (e:H a=some (.lst xs)):TyOf K H (.ref a) (.type "list")
 | frz {a:Addr} {o:Obj} {xs:List V} (e:H a=some (.frz o (.lst xs))):TyOf K H (.ref a) (.type "list")
 | tup {a:Addr} {xs:List V} (e:H a=some (.tup xs)):TyOf K H (.ref a) (.type "tuple")
 | dK {a:Addr} {kvs:List (Key×V)} (e:H a=some (.dK kvs)):TyOf K H (.ref a) (.type "dict")
 | dT {a:Addr} {kvs:List (List Key×V)} (e:H a=some (.dT kvs)):TyOf K H (.ref a) (.type "dict")
 | ins {a C dx:Addr} {fs:List (Str×V)} (e:H a=some (.ins C dx fs)) (cl:Cls K C) (ha:ygb K (.ref C) "__class__" = some (some (.builtin "object.__class__")))
   (hn:yzh K (.builtin "object.__class__") "__get__" = some (some (.builtin "getset_descriptor.__get__"))) (htk:ywl K (.builtin "object.__class__")=some true)
   (hm:yon K C (.type "object")=some true):TyOf K H (.ref a) (.ref C)
theorem ziz {x:V}{u t:Value}(I:Inv X pins σ H s)(rx:RelV x u)(ty:TyOf X.K H x t)(e:ycc X.K t c=some b)(h:∀tk,Q (.bool b) { s with toks:=tk }) :
  wpAny (model X.prog X.w) A (call (.builtin "isinstance") [u,c]) Q E s:=by
 cases ty with
 | non=>cases (show u=Value.none from rx);exact ynd PySem.W.kitx_none I.kIn True.intro e (λz=>nomatch z) h
 | bl y=>cases (show u=Value.bool y from rx);exact ynd PySem.W.kitx_bool I.kIn True.intro e (λz=>nomatch z) h
 | int i=>obtain⟨t,q⟩:=(show ∃t,u=Value.int i t from rx);cases q;exact ynd PySem.W.kitx_int I.kIn True.intro e (λz=>nomatch z) h
 | str y=>obtain⟨t,q⟩:=(show ∃t,u=Value.str y t from rx);cases q;exact ynd PySem.W.kitx_str I.kIn True.intro e (λz=>nomatch z) h
 | flt y=>obtain⟨t,q⟩:=(show ∃t,u=Value.float y t from rx);cases q;exact ynd PySem.W.kitx_float I.kIn True.intro e (λz=>nomatch z) h
 | @lst a xs ea =>
  cases (show u=Value.ref a from rx);obtain⟨_,_,n,_,h1⟩:=(show zrg X.prog X.w H s.heap a (.lst xs) from I.hok a _ ea);exact ynd yxn I.kIn ⟨_,h1,rfl⟩ e (λz=>nomatch z) h
 | @frz a ob xs ea =>
  cases (show u=Value.ref a from rx);obtain⟨_,_,_,n,_,h1⟩:=(show zrg X.prog X.w H s.heap a (.frz ob (.lst xs)) from I.hok a _ ea);exact ynd yxn I.kIn ⟨_,h1,rfl⟩ e (λz=>nomatch z) h
 | @tup a xs ea =>
  cases (show u=Value.ref a from rx);obtain⟨_,_,_,p⟩:=(show zrg X.prog X.w H s.heap a (.tup xs) from I.hok a _ ea);obtain⟨o,h1,h2,_⟩:=p;exact ynd PySem.W.kitx_tuple I.kIn ⟨o,h1,h2⟩ e (λz=>nomatch z) h
 | @dK a kvs ea =>
  cases (show u=Value.ref a from rx);obtain⟨_,_,vs,_,p⟩:=(show zrg X.prog X.w H s.heap a (.dK kvs) from I.hok a _ ea);obtain⟨o,es,ep,h1,h2,_⟩:=p;exact ynd yyn I.kIn ⟨o,h1,h2.1⟩ e (λz=>nomatch z) h
 | @dT a kvs ea =>
  cases (show u=Value.ref a from rx);obtain⟨_,_,xs,_,o,es,ep,h1,h2,_⟩:=(show zrg X.prog X.w H s.heap a (.dT kvs) from I.hok a _ ea);exact ynd yyn I.kIn ⟨o,h1,h2.1⟩ e (λz=>nomatch z) h
 | @ins a C dx fs ea cl ha hn htk hm =>
  cases (show u=Value.ref a from rx);obtain⟨mA,O,_⟩:=zfw I.hok ea;obtain⟨od,J,_⟩:=O.look;exact ynd (PySem.W.kitx_own (cl.get _) cl.hd ha hn htk hm) I.kIn J e (λz=>nomatch z) h
end
end L2
namespace L2
open PySem PySem.Spec PyProof.Rows
structure Room (k:Nat)(A:Around):Prop where
 hd:A.handled=none
 dp:A.depth+3*k+5<recursionLimit
 un:A.units+16*k+200<cLine
theorem Room.mono {j k:Nat}{A:Around}(r:Room k A)(h:j≤k):Room j A:=⟨r.hd,by have:=r.dp;omega,by have:=r.un;omega⟩
theorem Room.deeper {k:Nat}{A:Around}(r:Room (k+1) A)(env:Env):Room k (A.deeper env) :=
 ⟨r.hd,by have:=r.dp;show A.depth+1+3*k+5<_;omega,by have:=r.un;show A.units+3+16*k+200<_;omega⟩
theorem zsfb {A:Around}{C:Addr}{us:List Value}{kw:List (Str×Value)}:(A.under (.builtin "type.__call__" ⟨.ref C::us,kw⟩)).depth=A.depth+1:=by
 first|rfl|simp[yko,Code.weight,Code.isCreation,Code.isGuard,Code.isCaller,Code.frames,ylo,guardIds]
theorem zrfb {A:Around}{C:Addr}{us:List Value}{kw:List (Str×Value)}:(A.under (.builtin "type.__call__" ⟨.ref C::us,kw⟩)).units=A.units+1:=by
 first|rfl|simp[yko,Code.cUnits,Code.frames,ylo]
theorem Room.make {k:Nat}{A:Around}(r:Room (k+1) A)(C:Addr)(us:List Value)(kw:List (Str×Value)):Room k (A.under (.builtin "type.__call__" ⟨.ref C::us,kw⟩)) :=
 ⟨r.hd,by have:=r.dp;rw[zsfb];omega,by have:=r.un;rw[zrfb];omega⟩
theorem Room.depth {k:Nat}{A:Around}(r:Room k A):A.depth<recursionLimit:=by have:=r.dp;omega
theorem Room.units {k:Nat}{A:Around}(r:Room k A):A.units+64<cLine:=by have:=r.un;omega
def tNil:TA:=λ_ H Q=>Q [] H
def zdub (ta:TE)(tr:TA):TA:=fun σ H Q=>ta σ H λx H1=>tr σ H1 λxs H2=>Q (x::xs) H2
section
variable {X:Cx}{e:Expr}{es:List Expr}{te:TE}{t:TA}{pos:Pos}
theorem zca:PA X [] tNil:=λ_ _ _ _ H Q I h=>yzn ⟨[],H,I,.nil,h⟩
theorem zaa (ha:PE X e te)(hr:PA X es t)(hs:ylc (e::es) X.env=(false,eval e X.env)::ylc es X.env:=by rfl):PA X (e::es) (zdub te t):=by
 intro pos pins s σ H Q I h;rw[hs];show wpAny _ _ (spliced ((false,eval e X.env)::backTo pos (ylc es X.env))) _ _ s
 refine ypn (thn (ha pins s σ H _ I h) λu s1 ⟨x,H1,I1,r1,q1⟩=>?_);exact thn (hr pos pins s1 σ H1 _ I1 q1) λus s2 ⟨xs,H2,I2,r2,q2⟩=>⟨x::xs,H2,I2,.cons r1 r2,q2⟩
def tTup (t:TA):TE:=fun σ H Q=>t σ H λxs H1=>xs.length≤yta∧∀p,H1 p=none->Q (.ref p) (upd H1 p (.tup xs))
def tLst (t:TA):TE:=fun σ H Q=>t σ H λxs H1=>xs.length≤yta∧∀p,H1 p=none->Q (.ref p) (upd H1 p (.lst xs))
theorem zlb {x1}(h:PA X es t):PE X (.Tuple es x1 pos) (tTup t):=by
 intro pins s σ H Q I hq;refine wpAny_Tuple_spliced (thn (h pos pins s σ H _ I hq) λus s1 ⟨xs,H1,I1,r,z,q⟩=>⟨by rw[← r.length];exact z,?_⟩);have hf:H1 s1.heap.objs.size=none:=I1.hok.fresh (yma _);refine⟨.ref s1.heap.objs.size,upd H1 s1.heap.objs.size (.tup xs),I1.laid (t':=s1.toks) (λb u e=>yca _ e) (yma _) ?_,rfl,q _ hf⟩;exact⟨z,us,r,⟨_,yla _ rfl,rfl,_,rfl⟩⟩
theorem zuc (h:PA X es t):PE X (.List es pos) (tLst t):=by
 intro pins s σ H Q I hq;refine wpAny_List_spliced (thn (h pos pins s σ H _ I hq) λus s1 ⟨xs,H1,I1,r,z,q⟩=>⟨by rw[← r.length];exact z,?_⟩);have hf:H1 s1.heap.objs.size=none:=I1.hok.fresh (yma _);refine⟨.ref s1.heap.objs.size,upd H1 s1.heap.objs.size (.lst xs),I1.laid (t':=s1.toks) (λb u e=>yca _ e) (yma _) ?_,rfl,q _ hf⟩;exact⟨z,us,0,r,yla _ rfl⟩
end
abbrev Sp:=List V->Hp->VK->XK->Prop
abbrev CXT:=List Env->Hp->Shared->XK->Value->Shared->Prop
structure Env0 (P:ypb)(w:World)(K:yba)(mg:Str->Option Value)(base:Heap)(A:Around)(outer:List Env)(s:Shared)(H:Hp):Prop where
 frames:A.frames=some outer
 mod:Mod K mg base
 bs:∀b o,base.get? b=some o->s.heap.get? b=some o∧H b=none
 bsz:base.objs.size≤s.heap.objs.size
 funs:s.heap.FunFrames base outer
 frf:∀b∈frs outer,H b=none
 hok:HOk P w H s.heap
 bare:ybn s.gens
def CE (outer:List Env)(P:ypb)(w:World)(H:Hp)(s:Shared)(Q:VK)(u:Value)(s':Shared):Prop :=
 Ex2 λv H'=>s'.os=s.os∧ybn s'.gens∧Un (frs outer) [] H H' s.heap s'.heap∧HOk P w H' s'.heap∧RelV v u∧Q v H'
def CR (CX:CXT)(outer:List Env)(P:ypb)(w:World)(H:Hp)(s:Shared)(Q:VK)(E:XK)(r:Result)(s':Shared):Prop :=
 match r with
 | .ok (.ret u)=>CE outer P w H s Q u s'
 | .ok _=>False
 | .error e=>CX outer H s E e s'
structure FnOk (P:ypb)(w:World)(K:yba)(mg:Str->Option Value)(base:Heap)(CX:CXT)(k:Nat)(f:Addr)(fd:yxe)(ps:List Str)(sp:Sp):Prop where
 len:∀vs H Q E,sp vs H Q E->vs.length=ps.length
 run:∀(A:Around) (outer:List Env) (s:Shared) (H:Hp) (args:Args) (us:List Value) (vs:List V) (Q:VK) (E:XK),Room k A->Env0 P w K mg base A outer s H->yao s fd args (ps.zip us)->Vals vs us->sp vs H Q E →
  yyi (model P w) A (.call (.ref f) args) (CR CX outer P w H s Q E) s
theorem FnOk.mono {P:ypb}{w:World}{K:yba}{mg:Str->Option Value}{base:Heap}{CX:CXT}{j k:Nat}{f:Addr}{fd:yxe}{ps:List Str}{sp:Sp}(F:FnOk P w K mg base CX j f fd ps sp)(h:j≤k) :
  FnOk P w K mg base CX k f fd ps sp:=⟨F.len,λA outer s H args us vs Q E hr=>F.run A outer s H args us vs Q E (hr.mono h)⟩
theorem Env0.make {P:ypb}{w:World}{K:yba}{mg:Str->Option Value}{base:Heap}{A:Around}{outer:List Env}{s:Shared}{H:Hp}(e:Env0 P w K mg base A outer s H)(C:Addr)(us:List Value)(kw:List (Str×Value)) :
  Env0 P w K mg base (A.under (.builtin "type.__call__" ⟨.ref C::us,kw⟩)) outer s H:=⟨by first|exact e.frames|(simpa [yko,Code.envs,ylo,pushEnvs] using e.frames),e.mod,e.bs,e.bsz,e.funs,e.frf,e.hok,e.bare⟩
section
variable {X:Cx}{pins:List (Addr×Obj)}{σ:St}{H:Hp}{s s':Shared}
theorem Inv.env0 (I:Inv X pins σ H s):Env0 X.prog X.w X.K X.mg X.base X.A X.stack s H :=
 ⟨I.ok.frames,I.ok.mod,I.bs,yxa I.ok.bsz I.sz,I.stack,I.zugb,I.hok,I.bare⟩
theorem Inv.after {Q:VK}{u:Value}(I:Inv X pins σ H s)(h:CE X.stack X.prog X.w H s Q u s'):EP X pins σ Q u s':=by
 obtain⟨v,H',os,bare,un,hok,r,q⟩:=h;obtain⟨hh,g,d,t,os'⟩:=s';obtain rfl:os'=s.os:=os;exact⟨v,H',I.call (h':=hh) (g':=g) (d':=d) (t':=t) (ch:=[]) un hok bare (λb z=>absurd z (by simp)),r,q⟩
end
def zeub (sp:Sp)(dvs:List V)(E:XK)(t:TA):TE:=fun σ H Q=>t σ H λvs H1=>sp (vs++dvs) H1 Q E
def zerb (C:Addr)(m:Str)(sp:Sp)(dvs:List V)(E:XK)(ta:TE)(t:TA):TE:=fun σ H Q=>ta σ H λx H1=>Ex3 λa dx fs=>x = .ref a∧H1 a=some (.ins C dx fs)∧fs.lookup m=none ∧
 t σ H1 λvs H2=>sp (x::(vs++dvs)) H2 Q E
def zbub (C:Addr)(sp:Sp)(dvs:List V)(E:XK)(t:TA):TE:=fun σ H Q=>t σ H λvs H1=>∀x dx,H1 x=none->H1 dx=none->dx≠x →
 sp (.ref x::(vs++dvs)) (upd (upd H1 dx (.own x)) x (.ins C dx [])) (λv H2=>v = .non∧Q (.ref x) H2) E
def Binds (K:yba)(fd:yxe)(ps:List Str)(ds:List Value):Prop :=
 ∀(s:Shared) (us:List Value),K.In s.heap->(us++ds).length=ps.length->yao s fd ⟨us,[]⟩ (ps.zip (us++ds))
theorem Binds.all {K:yba}{fd:yxe}{ps:List Str}(h:∀us:List Value,us.length=ps.length->bindArgs fd ⟨us,[]⟩=pure (ps.zip us)):Binds K fd ps []:=λs us _ hl=>by
 rw[ytb] at hl ⊢;exact .of_eq (h us hl)
def Passes (CX:CXT)(X:Cx)(E:XK):Prop:=∀(pins:List (Addr×Obj)) (σ:St) (H:Hp) (s:Shared) (e:Value) (s':Shared),Inv X pins σ H s->CX X.stack H s E e s'->X.xe e s'
section
variable {X:Cx}{CX:CXT}{k:Nat}{f C:Addr}{fd:yxe}{ps:List Str}{sp:Sp}{dvs:List V}{ds:List Value}{E:XK}{x m:Str}{p pos apos:Pos}{e o:Expr}{es:List Expr}{ta:TE}{t:TA}
theorem zjhb {pins:List (Addr×Obj)}{σ:St}{H:Hp}{s:Shared}{Q:VK}{us:List Value}{vs:List V}(F:FnOk X.prog X.w X.K X.mg X.base CX k f fd ps sp)(hr:Room k X.A)(hb:Binds X.K fd ps ds)(hd:Vals dvs ds)(hx:Passes CX X E)
  (I:Inv X pins σ H s) (r:Vals vs us) (h:sp (vs++dvs) H Q E):wpAny (model X.prog X.w) X.A (call (.ref f) us) (EP X pins σ Q) X.xe s:=by
 have r2:Vals (vs++dvs) (us++ds):=r.append hd;have hl:(us++ds).length=ps.length:=by rw[← r2.length];exact F.len _ _ _ _ h
 refine wpAny_call (yhi (F.run X.A X.stack s H ⟨us,[]⟩ (us++ds) (vs++dvs) Q E hr I.env0 (hb s us I.kIn hl) r2 h) λr s' hq=>?_);cases r with
 | error e=>exact hx pins σ H s e s' I hq
 | ok fl =>
  cases fl with
  | ret u=>exact I.after hq
  | next=>exact yze hq
  | brk=>exact yze hq
  | cont=>exact yze hq
theorem zja (F:FnOk X.prog X.w X.K X.mg X.base CX k f fd ps sp)(hr:Room k X.A)(hg:Gl X x)(hm:X.mg x=some (.ref f))(hk:yme X.K (.ref f)=true)(hb:Binds X.K fd ps ds)(hd:Vals dvs ds)(hx:Passes CX X E)
  (ha:PA X (e::es) t) (hdb:(x==("__debug__":Str))=false:=by decide) (he:ylc (e::es) X.env=(false,eval e X.env)::ylc es X.env:=by rfl) (hpl:(backTo pos (ylc es X.env)).any (·.1)=false:=by rfl) :
  PE X (.Call (.Name x p) (e::es) [] pos) (zeub sp dvs E t):=by
 intro pins s σ H Q I h;refine yoh (zpbb I hg hm ?_ hdb);refine ynj (h₀:=X.base) I.ok.mod.kin hk (thn (ha pos pins s σ H _ I h) λus s1 ⟨vs,H1,I1,r,q⟩=>⟨I1.kIn,?_⟩) he hpl;exact zjhb F hr hb hd hx I1 r q
theorem zle {pl:Sem Bool}(he:PE X o ta)(c:Cls X.K C)(hm:Meth X.K C m f)(F:FnOk X.prog X.w X.K X.mg X.base CX k f fd ps sp)(hr:Room k X.A)(hb:Binds X.K fd ps ds)(hd:Vals dvs ds)(hx:Passes CX X E)(ha:PA X (e::es) t)
  (hst:ylc (e::es) X.env=(false,eval e X.env)::ylc es X.env:=by rfl) (hpl:(backTo pos (ylc es X.env)).any (·.1)=false:=by rfl)
  (ht:eval (.Call (.Attribute o m apos) (e::es) [] pos) X.env=(do
   let ov ← eval o X.env
   standAt apos.atName
   let (f,first) ← ycn [ov] (yzo ov m pl)
   callWith pos f first (backTo pos (ylc (e::es) X.env)) (yxo pos (ytk [] X.env))):=by rfl) :
  PE X (.Call (.Attribute o m apos) (e::es) [] pos) (zerb C m sp dvs E ta t):=by
 intro pins s σ H Q I h;refine yxl (pl:=pl) (thn (he pins s σ H _ I h) λu s1 ⟨x,H1,I1,rx,a,dx,fs,ex,ea,l,q⟩=>?_) ht;subst ex;obtain rfl:u=Value.ref a:=rx;refine zuu I1 ea c hm l ?_;refine ynj (first:=[.ref a]) (h₀:=X.base) I.ok.mod.kin hm.kp (thn (ha pos pins s1 σ H1 _ I1 q) λus s2 ⟨vs,H2,I2,r,q2⟩=>⟨I2.kIn,?_⟩) hst hpl;exact zjhb (us:=.ref a::us) (vs:=.ref a::vs) F hr hb hd hx I2 (.cons rfl r) q2
theorem zjd {pl:Sem Bool}(he:PE X o ta)(c:Cls X.K C)(hm:Meth X.K C m f)(F:FnOk X.prog X.w X.K X.mg X.base CX k f fd ps sp)(hr:Room k X.A)(hb:Binds X.K fd ps ds)(hd:Vals dvs ds)(hx:Passes CX X E)
  (ht:eval (.Call (.Attribute o m apos) [] [] pos) X.env=(do
   let ov ← eval o X.env
   standAt apos.atName
   let (f,first) ← ycn [ov] (yzo ov m pl)
   callWith pos f first (backTo pos (ylc [] X.env)) (yxo pos (ytk [] X.env))):=by rfl) :
  PE X (.Call (.Attribute o m apos) [] [] pos) (zerb C m sp dvs E ta tNil):=by
 intro pins s σ H Q I h;refine yxl (pl:=pl) (thn (he pins s σ H _ I h) λu s1 ⟨x,H1,I1,rx,a,dx,fs,ex,ea,l,q⟩=>?_) ht;subst ex;obtain rfl:u=Value.ref a:=rx;refine zuu I1 ea c hm l ?_;exact PySem.W.callWith_K0 (first:=[.ref a]) I1.kIn hm.kp (zjhb (us:=[.ref a]) (vs:=[.ref a]) F hr hb hd hx I1 (.cons rfl .nil) q)
structure Mk (K:yba)(C f:Addr):Prop where
 makes:yul K C=true
 init:ygb K (.ref C) "__init__" = some (some (.ref f))
 fn:ymj K (.ref f)=true
 kp:yme K (.ref C)=true
theorem zukb {pins:List (Addr×Obj)}{σ:St}{H:Hp}{s:Shared}{Q:VK}{us:List Value}{vs:List V}(M:Mk X.K C f)(F:FnOk X.prog X.w X.K X.mg X.base CX k f fd ps sp)(hr:Room (k+1) X.A)(hb:Binds X.K fd ps ds)(hd:Vals dvs ds)
  (hx:Passes CX X E) (I:Inv X pins σ H s) (r:Vals vs us)
  (h:∀x dx,H x=none->H dx=none->dx≠x->sp (.ref x::(vs++dvs)) (upd (upd H dx (.own x)) x (.ins C dx [])) (λv H2=>v = .non∧Q (.ref x) H2) E) :
  wpAny (model X.prog X.w) X.A (call (.ref C) us) (EP X pins σ Q) X.xe s:=by
 have hq:=h (s.heap.objs.size+1) s.heap.objs.size (I.hok.fresh (yzf _)) (I.hok.fresh (yma _)) (yhb (yfg _));have I2:=Inv.made (C:=C) I;have r2:Vals (V.ref (s.heap.objs.size+1)::(vs++dvs)) (Value.ref (s.heap.objs.size+1)::(us++ds)):=.cons rfl (r.append hd);have hl:(Value.ref (s.heap.objs.size+1)::us++ds).length=ps.length:=by
  have e:=r2.length;rw[F.len _ _ _ _ hq] at e;exact e.symm
 refine wpAny_call (zulb (f:=f) I.kIn M.makes M.init (beq_iff_eq.mp M.fn) (yhi (F.run _ X.stack _ _ ⟨Value.ref (s.heap.objs.size+1)::us,[]⟩ (Value.ref (s.heap.objs.size+1)::(us++ds)) _ _ E (hr.make C us [])
  (I2.env0.make C us []) (hb _ (Value.ref (s.heap.objs.size+1)::us) I2.kIn hl) r2 hq) λr s' hq'=>?_))
 cases r with
 | error e=>exact hx pins σ _ _ e s' I2 hq'
 | ok fl =>
  cases fl with
  | ret u =>
   obtain⟨v,H',I3,rv,ev,q3⟩:=I2.after hq';subst ev;exact⟨rv,⟨V.ref (s.heap.objs.size+1),H',I3,rfl,q3⟩⟩
  | next=>exact yze hq'
  | brk=>exact yze hq'
  | cont=>exact yze hq'
theorem zrv (M:Mk X.K C f)(F:FnOk X.prog X.w X.K X.mg X.base CX k f fd ps sp)(hr:Room (k+1) X.A)(hg:Gl X x)(hm:X.mg x=some (.ref C))(hb:Binds X.K fd ps ds)(hd:Vals dvs ds)(hx:Passes CX X E)
  (ha:PA X (e::es) t) (hdb:(x==("__debug__":Str))=false:=by decide) (he:ylc (e::es) X.env=(false,eval e X.env)::ylc es X.env:=by rfl) (hpl:(backTo pos (ylc es X.env)).any (·.1)=false:=by rfl) :
  PE X (.Call (.Name x p) (e::es) [] pos) (zbub C sp dvs E t):=by
 intro pins s σ H Q I h;refine yoh (zpbb I hg hm ?_ hdb);refine ynj (h₀:=X.base) I.ok.mod.kin M.kp (thn (ha pos pins s σ H _ I h) λus s1 ⟨vs,H1,I1,r,q⟩=>⟨I1.kIn,?_⟩) he hpl;exact zukb M F hr hb hd hx I1 r q
end
section
variable {X:Cx}{CX:CXT}{k:Nat}{f C:Addr}{fd:yxe}{ps ks:List Str}{sp:Sp}{E:XK}{x m:Str}{p pos apos kpos:Pos}{e o:Expr}{es:List Expr}{kws:List ybo}{te ta:TE}{t tk:TA}{nm:Option Str}
structure zcvb (K:yba)(fd:yxe)(ps ks:List Str)(g:List Value->List Value->List Value)(gV:List V->List V->List V):Prop where
 to:∀(s:Shared) (us ws:List Value),K.In s.heap->(g us ws).length=ps.length->yao s fd ⟨us,ks.zip ws⟩ (ps.zip (g us ws))
 rel:∀{vs:List V} {us:List Value} {zs:List V} {ws:List Value},Vals vs us->Vals zs ws->Vals (gV vs zs) (g us ws)
variable {g:List Value->List Value->List Value}{gV:List V->List V->List V}
end
structure zya (N P:List Str)(sc:Scope):Prop where
 kind:sc.kind = .function
 co:sc.isCoroutine=false
 gen:sc.isGenerator=false
 nd:N.Nodup
 pre:N.take P.length=P
 par:∀x∈P,sc.names.lookup x=some .local∨sc.names.lookup x=some .cell
 nofree:∀y∈sc.names,y.2 ≠ .free
theorem ztz {kindOf:Str->Option ymc}{x:Str}:∀{binds:List (Str×Value)} {m:Str->Option Value},(∀v,(x,v)∉binds)->bindL kindOf binds m x=m x
 | [],_,_=>rfl
 | (n,v)::r,m,h=>by
  unfold bindL;rw[ztz λw hw=>h w (yna _ hw)]
  split
  ·have:x≠n:=by rintro rfl;exact h v yka
   simp[this]
  ·rfl
theorem zvz {kindOf:Str->Option ymc}{x:Str}:∀{binds:List (Str×Value)} {m:Str->Option Value},(∀v,(x,v)∉binds)->bindC kindOf binds m x=m x
 | [],_,_=>rfl
 | (n,v)::r,m,h=>by
  unfold bindC;rw[zvz λw hw=>h w (yna _ hw)]
  split
  ·rfl
  ·have:x≠n:=by rintro rfl;exact h v yka
   simp[this]
theorem zuz {kindOf:Str->Option ymc}{x:Str}{v:Value}:∀{P:List Str} {vs:List Value} {i:Nat} {m:Str->Option Value},P.Nodup->P[i]?=some x->vs[i]?=some v->kindOf x=some .local →
  bindL kindOf (P.zip vs) m x=some v
 | [],_,_,_,_,h,_,_=>by simp at h
 | _::_,[],_,_,_,_,h,_=>by simp at h
 | p::P,w::vs,0,m,nd,h1,h2,hk=>by
  simp at h1 h2;subst h1;subst h2;show bindL kindOf ((p,w)::P.zip vs) m p=_
  unfold bindL;rw[ztz λv hv=>(yse.mp nd).1 (yyl hv).1,if_pos hk];simp
 | p::P,w::vs,i+1,m,nd,h1,h2,hk=>by
  show bindL kindOf ((p,w)::P.zip vs) m x=_
  unfold bindL;exact zuz (i:=i) (yse.mp nd).2 (by simpa using h1) (by simpa using h2) hk
theorem zwz {kindOf:Str->Option ymc}{x:Str}{v:Value}:∀{P:List Str} {vs:List Value} {i:Nat} {m:Str->Option Value},P.Nodup->P[i]?=some x->vs[i]?=some v->kindOf x≠some .local →
  bindC kindOf (P.zip vs) m x=some v
 | [],_,_,_,_,h,_,_=>by simp at h
 | _::_,[],_,_,_,_,h,_=>by simp at h
 | p::P,w::vs,0,m,nd,h1,h2,hk=>by
  simp at h1 h2;subst h1;subst h2;show bindC kindOf ((p,w)::P.zip vs) m p=_
  unfold bindC;rw[zvz λv hv=>(yse.mp nd).1 (yyl hv).1,if_neg hk];simp
 | p::P,w::vs,i+1,m,nd,h1,h2,hk=>by
  show bindC kindOf ((p,w)::P.zip vs) m x=_
  unfold bindC;exact zwz (i:=i) (yse.mp nd).2 (by simpa using h1) (by simpa using h2) hk
def start (N:List Str)(vs:List V):St:=vs.map some++ytc (N.length-vs.length) none
def cxOf (CX:CXT)(P:ypb)(w:World)(K:yba)(mg:Str->Option Value)(base:Heap)(N:List Str)(qual:Str)(scope:Scope)(f:Addr)(cd:Value)(A:Around)(outer:List Env)(s:Shared)(H:Hp)(E:XK):Cx where
 prog:=P
 w:=w
 K:=K
 mg:=mg
 base:=base
 A:=A.deeper (envOfC qual scope s.heap.objs.size f cd)
 N:=N
 s₀:=s
 H₀:=H
 env:=envOfC qual scope s.heap.objs.size f cd
 outer:=outer
 stack:=envOfC qual scope s.heap.objs.size f cd::outer
 ex:=[]
 calm:=true
 fn:=λ_=>true
 pn:=[]
 xe:=λe s'=>wpAny (model P w) (A.deeper (envOfC qual scope s.heap.objs.size f cd)) (leaving (envOfC qual scope s.heap.objs.size f cd) e) (λ_ s''=>CX outer H s E e s'') (λe' s''=>CX outer H s E e' s'') s'
theorem zneb {sc:Scope}{n:Nat}{x:Str}(h:sc.names.lookup x=some .cell):∃c,(cellsFrom n sc.names []).lookup x=some c:=by
 have q:=ykl sc.names n [] (.inl h);exact yyj.mp q
theorem zsib {CX:CXT}{P:ypb}{w:World}{K:yba}{mg:Str->Option Value}{base:Heap}{N ps:List Str}{qual:Str}{scope:Scope}{f:Addr}{cd:Value}{A:Around}{outer:List Env}{s s1:Shared}{H:Hp}{E:XK}{us:List Value}{vs:List V}
  (S:zya N ps scope) (hd:A.handled=none) (e0:Env0 P w K mg base A outer s H) (hl:vs.length=ps.length) (r:Vals vs us)
  (x:InCallC s s.heap.objs.size (bindL (envOfC qual scope s.heap.objs.size f cd).kindOf (ps.zip us) λ_=>none) (cellsFrom (s.heap.objs.size+1) scope.names []) (bindC (envOfC qual scope s.heap.objs.size f cd).kindOf (ps.zip us) λ_=>none) s1) :
  Inv (cxOf CX P w K mg base N qual scope f cd A outer s H E) [] (start N vs) H s1:=by
 have hpl:ps.length≤N.length:=by have:=congrArg yag S.pre;rw[yib] at this;omega
 obtain⟨h1,tk,rfl,hk⟩:=x.done;have noA:∀b:Addr,b∉(cxOf CX P w K mg base N qual scope f cd A outer s H E).ex:=λb z=>absurd (show b∈([]:List Addr) from z) (by simp);refine⟨⟨e0.mod,S.kind,rfl,rfl,yma _,λy z c h1 h2=>?_,λy hy=>?_,λy c _ h=>?_,λ_=>hd,Around.frames_deeper e0.frames,.inr ⟨rfl,rfl⟩,λb z=>absurd z (noA b),e0.bs,e0.bsz,λb _ _=>noA b,λb z=>absurd z (noA b),e0.funs,e0.frf⟩,
  rfl,e0.bare,Un.kept hk,⟨_,x.toInCall.ns,λi y v h1 h2 h3=>?_⟩,λy c h=>⟨_,x.cell y c h⟩,e0.hok.fresh (yma _),λy c h=>?_,λp hp=>absurd (show p∈([]:List (Addr×Obj)) from hp) (by simp),e0.hok.kept hk,?_⟩
 ·exact name_of_addr x.apart (ybg h1) (ybg h2)
 ·have hy:scope.names.lookup y=some .cell∨scope.names.lookup y=some .free:=hy
  rcases hy with hy|hy
  ·exact zneb hy
  ·exact absurd rfl (S.nofree _ (ybg hy))
 ·exact yle (x.above y c (ybg h))
 ·have hi:i<vs.length:=by
   unfold start at h2
   by_cases hi:i<vs.length
   ·exact hi
   ·rw[ywb (by simpa using hi)] at h2;rw[yuk] at h2
    split at h2<;>cases h2
  have ha:vs[i]?=some v:=by
   unfold start at h2;rw[yzd (by simpa using hi),yub] at h2;cases e:vs[i]? with
   | none=>rw[e] at h2;cases h2
   | some a=>rw[e] at h2;cases h2;rfl
  obtain⟨u,hu,rv⟩:=r.get ha;have hp:ps[i]?=some y:=by
   rw[← S.pre,yzj (by omega)];exact h1
  have ndP:ps.Nodup:=by rw[← S.pre];exact S.nd.sublist (List.take_sublist _ _)
  refine⟨u,rv,?_⟩
  rcases S.par y (ykb hp) with k|k
  ·exact .inl ⟨k,zuz ndP hp hu k⟩
  ·obtain⟨c,e⟩:=zneb (n:=s.heap.objs.size+1) k;refine .inr ⟨.inl k,c,e,?_⟩;have q:=x.cell y c e;rw[zwz ndP hp hu (by show scope.names.lookup y≠_;rw[k];decide)] at q;exact q
 ·exact e0.hok.fresh (yle (x.above y c (ybg h)))
 ·unfold start;show _=N.length
  rw[yea,yda,ylg];omega
theorem zyub {CX:CXT}{P:ypb}{w:World}{K:yba}{mg:Str->Option Value}{base:Heap}{k:Nat}{f:Addr}{name qual:Str}{params:Arguments}{body:List Stmt}{scope:Scope}{dV kV doc pm cdv ct oc:Value}{an od:Option Addr}
  {osl:Array (Option Value)} {N ps:List Str} {sp:Sp} (lk:K.lookup f=some ⟨oc,od,.func (yuf name qual params body scope dV kV doc pm an cdv ct),osl⟩) (hcd:ywg K cdv qual=true) (S:zya N ps scope)
  (len:∀vs H Q E,sp vs H Q E->vs.length=ps.length)
  (hbody:∀(A:Around) (outer:List Env) (s:Shared) (H:Hp) (vs:List V) (Q:VK) (E:XK),Room k (A.deeper (envOfC qual scope s.heap.objs.size f cdv))->sp vs H Q E →
   ∃t,PSs (cxOf CX P w K mg base N qual scope f cdv A outer s H E) body t∧t { nx:=λ_ H'=>Q .non H',rt:=Q } (start N vs) H) :
  FnOk P w K mg base CX (k+1) f (yuf name qual params body scope dV kV doc pm an cdv ct) ps sp:=by
 refine⟨len,λA outer s H args us vs Q E hr e0 hb r hsp=>?_⟩;have hl:=len _ _ _ _ hsp;have KX:K.In s.heap:=e0.mod.kin.keeps λb o e=>(e0.bs b o e).1;have lim:s.heap.NoLimit:=e0.mod.nolimit.keeps λb o e=>(e0.bs b o e).1;have hkind:∀y∈ps.zip us,scope.names.lookup y.1=some .local∨(scope.names.lookup y.1=some .cell∧((cellsFrom (s.heap.objs.size+1) scope.names []).lookup y.1).isSome=true):=λ⟨n,v⟩ hy=>by
  rcases S.par n (yyl hy).1 with q|q
  ·exact .inl q
  ·exact .inr ⟨q,ykl _ _ _ (.inl q)⟩
 refine codeAny_call_function hr.depth (KX _ _ lk) rfl S.co S.gen rfl (PySem.W.codeRec_of KX hcd) (hb _ _ _ _ ?_);refine wpAny_newFunctionEnv_cells S.kind hkind λenv he s1 x=>?_;subst he;refine⟨lim.keeps x.toInCall.keep,codeAny_func ?_⟩;obtain⟨t,ht,hq⟩:=hbody A outer s H vs Q E (hr.deeper _) hsp;have I:Inv (cxOf CX P w K mg base N qual scope f cdv A outer s H E) [] (start N vs) H s1:=zsib S hr.hd e0 hl r x;refine ytd (ht [] s1 (start N vs) H _ I hq) (λfl s' hs=>?_) λe s' hs=>hs;have fin:∀{σ':St} {H':Hp} {v:V} {u:Value},Inv (cxOf CX P w K mg base N qual scope f cdv A outer s H E) [] σ' H' s'->RelV v u->Q v H'->CE outer P w H s Q u s' :=
  λ{σ' H' v u} J rv q=>⟨v,H',J.os,J.bare,J.base,J.hok,rv,q⟩
 cases fl with
 | ret u =>
  obtain⟨v,σ',H',J,rv,q⟩:=hs;exact fin J rv q
 | next =>
  obtain⟨σ',H',J,q⟩:=hs;exact fin (v:=V.non) (u:=Value.none) J rfl q
 | brk =>
  obtain⟨_,_,_,q⟩:=hs;exact yze q
 | cont =>
  obtain⟨_,_,_,q⟩:=hs;exact yze q
end L2
namespace L2
open PySem PySem.Spec PyProof.Rows
section
variable {X:Cx}{x:Str}{p pos:Pos}{e:Expr}{es:List Expr}{t:TA}{id T:String}{r:List V->Hp->VK->Prop}
def tCB (r:List V->Hp->VK->Prop)(t:TA):TE:=fun σ H Q=>t σ H λvs H1=>r vs H1 Q
theorem zkb (hc:ztl X (.builtin id) r)(hg:Gl X x)(hm:X.mg x=none)(hv:ykg x=some (.builtin id))(ha:PA X (e::es) t)(hn:x ≠ "__name__":=by decide)(hdb:(x==("__debug__":Str))=false:=by decide)
  (he:ylc (e::es) X.env=(false,eval e X.env)::ylc es X.env:=by rfl) (hpl:(backTo pos (ylc es X.env)).any (·.1)=false:=by rfl):PE X (.Call (.Name x p) (e::es) [] pos) (tCB r t):=by
 intro pins s σ H Q I h;refine yoh (zru I hg hm hv ?_ hn hdb);exact PyProof.Rows.callWith_builtin1 (thn (ha pos pins s σ H _ I h) λus s1 ⟨vs,H1,I1,r1,q1⟩=>hc pins s1 σ H1 vs us Q I1 r1 q1) he hpl
theorem zyd (hc:ztl X (.type T) r)(hg:Gl X x)(hm:X.mg x=none)(hv:ykg x=some (.type T))(ha:PA X (e::es) t)(hn:x ≠ "__name__":=by decide)(hdb:(x==("__debug__":Str))=false:=by decide)
  (he:ylc (e::es) X.env=(false,eval e X.env)::ylc es X.env:=by rfl) (hpl:(backTo pos (ylc es X.env)).any (·.1)=false:=by rfl):PE X (.Call (.Name x p) (e::es) [] pos) (tCB r t):=by
 intro pins s σ H Q I h;refine yoh (zru I hg hm hv ?_ hn hdb);exact yre (thn (ha pos pins s σ H _ I h) λus s1 ⟨vs,H1,I1,r1,q1⟩=>hc pins s1 σ H1 vs us Q I1 r1 q1) he hpl
end
end L2
namespace HT
open PySem PyProof.Rows
section
open PySem.SeqAt
open PySem.AutoSeq1 (wpAny_loadPart')
open PySem.MeetsSeq PySem.MeetsSeq2 PySem.MeetsSeq3
end
section
variable {prog:ypb}{w:World}{A:Around}{E:Value->Shared->Prop}{s:Shared}
theorem zjqb {t b:Addr}{vs ws:List Value}{Q:Value->Shared->Prop}(ht:IsTup s.heap t vs.toArray)(hb:IsTup s.heap b ws.toArray)(hv:vs≠[])
  (h1:ws=[]->Q (.ref t) s) (h2:ws≠[]->Q (.ref s.heap.objs.size) { s with heap:=s.heap.push { cls:=.type "tuple",data:=.seq (vs++ws).toArray } })
  (hsz:vs.length+ws.length≤yta):wpAny (model prog w) A (ymh .Add (.ref t) (.ref b)) Q E s:=by
 obtain⟨⟨cls,dd,data,sl⟩,ho,hc,n,hd⟩:=id ht;obtain⟨⟨cls2,dd2,data2,sl2⟩,ho2,hc2,n2,hd2⟩:=id hb;simp only at hc hd hc2 hd2;subst hc hd hc2 hd2;have e:vs.toArray++ws.toArray=(vs++ws).toArray:=by simp
 by_cases hw:ws=[]
 ·exact concat_meets ⟨_,ho,rfl⟩ ⟨_,ho2,rfl⟩ noFill_tuple_add seq_tuple_add yll yvk (yak _ _)
   (tuple_addW1 t b vs.toArray ws.toArray n n2 dd dd2 sl sl2 (by simpa using hv) (by simp[hw])) ⟨ho,ho2,h1 hw⟩
 ·refine concat_meets ⟨_,ho,rfl⟩ ⟨_,ho2,rfl⟩ noFill_tuple_add seq_tuple_add yll yvk (yak _ _)
   (tuple_addW2 t b vs.toArray ws.toArray n n2 dd dd2 sl sl2 (by simpa using hv) (by simpa using hw) (by rw[ypa,ypa];exact hsz)) ⟨ho,ho2,?_⟩
  rw[e];exact h2 hw
def sIx (n d:Nat):Option Int->Nat
 | none=>d
 | some v=>if v<0 then (v+(n:Int)).toNat else min v.toNat n
theorem zodb (n d:Nat):sIx n d none=d:=rfl
theorem zyab (n d k:Nat):sIx n d (some (k:Int))=min k n:=by
 show (if (k:Int)<0 then ((k:Int)+(n:Int)).toNat else min (k:Int).toNat n)=min k n
 rw[if_neg (by omega),ydc]
theorem zvrb (n d:Nat)(hd:d≤n)(o:Option Int):sIx n d o≤n:=by
 cases o with
 | none=>exact hd
 | some v =>
  show (if v<0 then (v+(n:Int)).toNat else min v.toNat n)≤n
  by_cases hv:v<0
  ·rw[if_pos hv];omega
  ·rw[if_neg hv];exact yel _ _
theorem znjb (v:Int)(n d:Nat):(if v<0 then max (v+(n:Int)) 0 else min v (n:Int))=((sIx n d (some v):Nat):Int):=by
 show (if v<0 then max (v+(n:Int)) 0 else min v (n:Int))=(((if v<0 then (v+(n:Int)).toNat else min v.toNat n):Nat):Int)
 by_cases hv:v<0
 ·simp only[if_pos hv];omega
 ·simp only[if_neg hv];omega
theorem zfgb (lo hi:Option Int)(n:Nat):yxg lo hi 1 (n:Int)=(((sIx n 0 lo:Nat):Int),((sIx n n hi:Nat):Int)):=by
 have h1:¬ ((1:Int)<0):=by omega
 unfold yxg;simp only[h1,if_false];refine Prod.ext ?_ ?_
 ·cases lo with
  | none=>rfl
  | some v=>exact znjb v n 0
 ·cases hi with
  | none=>rfl
  | some v=>exact znjb v n n
theorem zjfb (i j:Nat):yjf (i:Int) (j:Int) 1=j-i:=by
 unfold yjf;have h1:(1:Int)>0:=by omega
 simp only[h1,if_true,Int.ediv_one]
 split<;>omega
theorem zfu {v:Value}{o:Option Int}{Q:Option Int->Shared->Prop}(p:IsPart v o)(h:Q o s):wpAny (model prog w) A (yyf.Slice.slicePartIndex v) Q E s:=by
 cases p with
 | none=>exact slicePart_none h
 | int i t=>exact slicePart_int h
theorem znq {sl:Addr}{vl vu:Value}{lo hi:Option Int}{n:Nat}{Q:Int×Int×Nat->Shared->Prop}(hs:s.heap.IsSliceOf sl vl vu .none)(pl:IsPart vl lo)(pu:IsPart vu hi)
  (h:Q (((sIx n 0 lo:Nat):Int),1,sIx n n hi-sIx n 0 lo) s):wpAny (model prog w) A (ykj (.ref sl) (pure (n:Int))) Q E s:=by
 obtain⟨os,hos,hcs,hds⟩:=id hs;unfold ykj yyf.Slice.sliceFields;refine yaa (yaa (yce hos hds (x:=vl) rfl (yaa (yce hos hds (x:=vu) rfl (yaa (yce hos hds (x:=.none) rfl (yga ?_)))))));refine yaa (slicePart_none ?_);show wpAny _ _ (if ((1:Int)==0)=true then _ else _) _ _ s
 rw[if_neg (by decide)];refine yaa (zfu pl (yaa (zfu pu (yaa (yga ?_)))));show wpAny _ _ (match yxg lo hi 1 (n:Int) with|(lo,hi)=>pure (lo,(1:Int),yjf lo hi 1)) _ _ s
 rw[zfgb lo hi n];show wpAny _ _ (pure (((sIx n 0 lo:Nat):Int),(1:Int),yjf ((sIx n 0 lo:Nat):Int) ((sIx n n hi:Nat):Int) 1)) _ _ s
 rw[zjfb];exact yga h
theorem zalb (xs:Array Value)(i k:Nat):((yoe k).filterMap λ(m:Nat)=>xs[((i:Int)+(m:Int)*1).toNat]?).toArray=((xs.toList.drop i).take k).toArray:=by
 have e:(λ(m:Nat)=>xs[((i:Int)+(m:Int)*1).toNat]?)=λm=>xs[i+m]?:=by
  funext m
  have:((i:Int)+(m:Int)*1).toNat=i+m:=by omega
  rw[this]
 rw[e];have:=pick_run xs i k;rw[yqn] at this;have e2:((λx=>xs[x]?)∘λx=>i+x)=λm=>xs[i+m]?:=rfl;rw[e2] at this;rw[this]
theorem zcp {t sl:Addr}{items:Array Value}{vl vu:Value}{lo hi:Option Int}{Q:Value->Shared->Prop}(ht:IsTup s.heap t items)(hs:s.heap.IsSliceOf sl vl vu .none)(pl:IsPart vl lo)(pu:IsPart vu hi)
  (hw:¬ (sIx items.size 0 lo=0∧sIx items.size items.size hi=items.size))
  (h:Q (.ref s.heap.objs.size) { s with heap:=s.heap.push { cls:=.type "tuple",data:=.seq ((items.toList.drop (sIx items.size 0 lo)).take (sIx items.size items.size hi-sIx items.size 0 lo)).toArray } })
  (hsz:items.size≤yta):wpAny (model prog w) A (yco (.ref t) (.ref sl)) Q E s:=by
 have htake:sizeOk (.seq ((items.toList.drop (sIx items.size 0 lo)).take (sIx items.size items.size hi-sIx items.size 0 lo)).toArray):=by
  show ((items.toList.drop (sIx items.size 0 lo)).take (sIx items.size items.size hi-sIx items.size 0 lo)).toArray.size≤yta
  rw[ypa,yib,yud,ybb];omega
 have hj:sIx items.size items.size hi≤items.size:=zvrb _ _ (yma _) hi;obtain⟨os,hos,hcs,hds⟩:=id hs;have hTs:s.TypeIs (.ref sl) "slice":=⟨os,hos,hcs⟩;unfold yco
 try with_reducible refine ybc ?_
 first|refine yaa (yga ?_)|skip
 refine yaa (ybk ht.typeIs (by decide) ?_);refine yaa (yqc (name:=yvf "__getitem__") ht.typeIs ypf
  (ysc ypf ht.typeIs entry_tuple_getitem ?_ (args_tuple_getitem _ _)))
 show wpAny _ _ (yyf.Tuple.tupleItemsOf (.ref t) >>= _) _ _ s
 refine yaa (tupleItemsOf_ ht ?_);refine yaa (ymo hTs ?_);rw[if_pos (by decide)];refine yaa (znq hs pl pu ?_);have hno:¬ ((((sIx items.size 0 lo:Nat):Int)==0&&(1:Int)==1&&(sIx items.size items.size hi-sIx items.size 0 lo)==items.size)=true):=by
  intro q;rw[yec,yec] at q;have q1:((sIx items.size 0 lo:Nat):Int)=0:=eq_of_beq q.1.1;have q2:sIx items.size items.size hi-sIx items.size 0 lo=items.size:=eq_of_beq q.2;exact hw ⟨by omega,by omega⟩
 show wpAny _ _ (if (((sIx items.size 0 lo:Nat):Int)==0&&(1:Int)==1&&(sIx items.size items.size hi-sIx items.size 0 lo)==items.size)=true then _ else _) _ _ s
 rw[if_neg hno,zalb]
 first
  | exact yaa (m:=yqf _) (yuc (yga ⟨_,rfl,yga h⟩) htake)
  | exact yaa (m:=yqf _) (yuc (yaa (yga (yga ⟨_,rfl,yga h⟩))) htake)
  | exact yaa (yaa (m:=yqf _) (yuc (yga (yga ⟨_,rfl,yga h⟩)) htake))
  | exact yaa (yaa (m:=yqf _) (yuc (yga ⟨_,rfl,yga h⟩) htake))
end
end HT
namespace L2
open PySem PySem.Spec PyProof.Rows
abbrev TO:=St->Hp->(Option Int->Hp->Prop)->Prop
def PO (X:Cx)(e:Option Expr)(t:TO):Prop :=
 ∀(pins:List (Addr×Obj)) (s:Shared) (σ:St) (H:Hp) (Q:Option Int->Hp->Prop),Inv X pins σ H s->t σ H Q →
  wpAny (model X.prog X.w) X.A (evalPart e X.env) (λu s'=>Ex2 λo H'=>Inv X pins σ H' s'∧IsPart u o∧Q o H') X.xe s
def zxnb:TO:=λ_ H Q=>Q none H
def zytb (t:TE):TO:=fun σ H Q=>t σ H λx H1=>∃i,x = .int i∧Q (some i) H1
theorem intsAre_of {ns:List Int}:∀{us:List Value},Vals (ns.map V.int) us->yzl us ns:=by
 induction ns with
 | nil=>intro us r;rw[yef] at r;cases r;exact .nil
 | cons n ns ih =>
  intro us r;rw[yva] at r;cases r with
  | cons r1 r2 =>
   obtain⟨t,e⟩:=r1;subst e;exact .cons n t (ih r2)
section
variable {X:Cx}{e:Expr}{te:TE}{lo hi:Option Expr}{tl th:TO}{pos p2:Pos}
theorem zfj:PO X none zxnb:=by
 intro pins s σ H Q I h;rw[evalPart_none];exact yga ⟨none,H,I,.none,h⟩
theorem zej (h:PE X e te):PO X (some e) (zytb te):=by
 intro pins s σ H Q I hw;rw[evalPart_some];refine thn (h pins s σ H _ I hw) λu s1 ⟨x,H1,I1,r1,q1⟩=>?_;obtain⟨i,rfl,q⟩:=q1;obtain⟨t,rfl⟩:=r1;exact⟨some i,H1,I1,.int i t,q⟩
def SlR (X:Cx)(r:V->Option Int->Option Int->Hp->VK->Prop):Prop :=
 ∀(pins:List (Addr×Obj)) (s:Shared) (σ:St) (H:Hp) (x:V) (v vl vu:Value) (lo hi:Option Int) (sl:Addr) (Q:VK),Inv X pins σ H s->RelV x v->s.heap.IsSliceOf sl vl vu .none->IsPart vl lo->IsPart vu hi->r x lo hi H Q →
  Ex2 λT id=>typeLookup (.type T) "__getitem__" = pure (some (.builtin id))∧s.TypeIs v T∧wpAny (model X.prog X.w) X.A (yco v (.ref sl)) (EP X pins σ Q) X.xe s
def tSl (r:V->Option Int->Option Int->Hp->VK->Prop)(te:TE)(tl th:TO):TE:=fun σ H Q=>te σ H λx H1=>tl σ H1 λl H2=>th σ H2 λu H3=>r x l u H3 Q
theorem zsg {r:V->Option Int->Option Int->Hp->VK->Prop}(hr:SlR X r)(he:PE X e te)(hl:PO X lo tl)(hu:PO X hi th):PE X (.Subscript e (.Slice lo hi none p2) pos) (tSl r te tl th):=by
 intro pins s σ H Q I h;refine Subscript_ (thn (he pins s σ H _ I h) λv s1 ⟨x,H1,I1,r1,q1⟩=>?_);refine wpAny_Slice (thn (hl pins s1 σ H1 _ I1 q1) λvl s2 ⟨l,H2,I2,pl,q2⟩=>thn (hu pins s2 σ H2 _ I2 q2) λvu s3 ⟨u,H3,I3,pu,q3⟩=>?_);rw[evalPart_none];refine yga ?_;have I4:Inv X pins σ H3 { s3 with heap:=s3.heap.push { cls:=.type "slice",data:=.fields #[vl,vu,.none] } }:=I3.kept (t':=s3.toks) λb ob q=>yca _ q;obtain⟨T,id,hT,ht,hg⟩:=hr pins { s3 with heap:=s3.heap.push { cls:=.type "slice",data:=.fields #[vl,vu,.none] } } σ H3 x v vl vu l u s3.heap.objs.size Q I4 r1 (Heap.IsSliceOf.new ..) pl pu q3;show wpAny (model X.prog X.w) X.A (subscriptTail e (.Slice lo hi none p2) v (.ref s3.heap.objs.size)) (EP X pins σ Q) X.xe { s3 with heap:=s3.heap.push { cls:=.type "slice",data:=.fields #[vl,vu,.none] } }
 exact tail_any (ops:=[.ref s3.heap.objs.size,v]) ht hT hg (by with_unfolding_all rfl)
def cutV (xs:List V)(lo hi:Option Int):List V:=(xs.drop (HT.sIx xs.length 0 lo)).take (HT.sIx xs.length xs.length hi-HT.sIx xs.length 0 lo)
theorem zvs (xs:List V)(lo hi:Option Int):(cutV xs lo hi).length≤xs.length:=by
 unfold cutV;rw[yib,yud];omega
def rSlT (K:yba):V->Option Int->Option Int->Hp->VK->Prop:=λx lo hi H Q=>Ex2 λa xs=>x = .ref a∧SqT K H a xs ∧
 ¬ (HT.sIx xs.length 0 lo=0∧HT.sIx xs.length xs.length hi=xs.length)∧∀p,H p=none->Q (.ref p) (upd H p (.tup (cutV xs lo hi)))
theorem ztrb:SlR X (rSlT X.K):=by
 intro pins s σ H x v vl vu lo hi sl Q I rx hs pl pu h;obtain⟨a,xs,rfl,hx,hw,q⟩:=h;cases rx;obtain⟨its,r,ht,hz⟩:=I.tuple hx;have hlen:its.toArray.size=xs.length:=by rw[ypa];exact r.length.symm
 refine⟨"tuple",_,ypf.lookup,ht.typeIs,?_⟩;refine HT.zcp ht hs pl pu (by rw[hlen];exact hw) ?_ (by rw[hlen];exact hz);rw[hlen];refine⟨.ref s.heap.objs.size,_,I.laid (t':=s.toks) (o:=.tup (cutV xs lo hi)) (λb ob q=>yca _ q) (yma _) ?_,rfl,q _ (I.hok.fresh (yma _))⟩;exact⟨yxa (zvs xs lo hi) hz,_,(r.drop (HT.sIx xs.length 0 lo)).take (HT.sIx xs.length xs.length hi-HT.sIx xs.length 0 lo),ytp _ _⟩
def zmub (K:yba):R2:=λx y H Q=>Ex4 λa b xs ys=>x = .ref a∧y = .ref b∧SqT K H a xs∧SqT K H b ys∧xs≠[]∧xs.length+ys.length≤yta ∧
 (ys=[]->Q (.ref a) H)∧(ys≠[]->∀p,H p=none->Q (.ref p) (upd H p (.tup (xs++ys))))
theorem Vals.zfbb {xs:List V}{us:List Value}(r:Vals xs us):us=[]↔xs=[]:=by
 cases r with
 | nil=>simp
 | cons _ _=>simp
theorem zepb:OpR X (ymh .Add) (zmub X.K):=by
 intro pins s σ H x y v u Q I rx ry h;obtain⟨a,b,xs,ys,rfl,rfl,ha,hb,hx,hz,q1,q2⟩:=h;cases rx;cases ry;obtain⟨its,r1,p1,_⟩:=I.tuple ha;obtain⟨its2,r2,p2,_⟩:=I.tuple hb;refine HT.zjqb p1 p2 (λz=>hx (r1.zfbb.mp z)) (λz=>⟨.ref a,H,I,rfl,q1 (r2.zfbb.mp z)⟩) (λz=>?_) (by rw[← r1.length,← r2.length];exact hz);refine⟨.ref s.heap.objs.size,_,I.laid (t':=s.toks) (o:=.tup (xs++ys)) (λb ob q=>yca _ q) (yma _) ?_,rfl,q2 (λw=>z (r2.zfbb.mpr w)) _ (I.hok.fresh (yma _))⟩;exact⟨by rw[yea];exact hz,_,r1.append r2,ytp _ _⟩
end
end L2
namespace L2
open PySem PySem.Spec PyProof.Rows
def ixN (n:Nat)(i:Int):Option Nat:=if 0≤i then (if i<n then some i.toNat else none) else if -(n:Int)≤i then some (i+n).toNat else none
def atI {α:Type}(xs:List α)(i:Int):Option α:=(ixN xs.length i).bind λj=>xs[j]?
theorem zpib {n:Nat}{i:Int}{j:Nat}(h:ixN n i=some j):seqIndex? i n=some j∧j<n ∧ -(n:Int)≤i∧i<n:=by
 unfold ixN at h
 by_cases h0:0≤i
 ·rw[if_pos h0] at h
  by_cases h1:i<n
  ·rw[if_pos h1] at h;have e:i.toNat=j:=yfc h;exact⟨by rw[seqIndex_of h0 h1,e],by omega,by omega,h1⟩
  ·rw[if_neg h1] at h;cases h
 ·rw[if_neg h0] at h
  by_cases h1:-(n:Int)≤i
  ·rw[if_pos h1] at h;have e:(i+n).toNat=j:=yfc h;exact⟨by rw[seqIndex_neg (by omega) h1,e],by omega,h1,by omega⟩
  ·rw[if_neg h1] at h;cases h
theorem zjcb {α:Type}{xs:List α}{i:Int}{v:α}(h:atI xs i=some v):∃j,seqIndex? i xs.length=some j∧xs[j]?=some v∧j<xs.length ∧ -(xs.length:Int)≤i∧i<xs.length:=by
 unfold atI at h;cases e:ixN xs.length i with
 | none=>rw[e] at h;cases h
 | some j =>
  rw[e] at h;obtain⟨h1,h2,h3,h4⟩:=zpib e;exact⟨j,h1,h,h2,h3,h4⟩
theorem zia {α:Type}{xs:List α}{j:Nat}{v:α}(h:xs[j]?=some v):atI xs (j:Int)=some v:=by
 have hj:j<xs.length:=(yfa.mp h).1;have e:ixN xs.length (j:Int)=some j:=by
  unfold ixN;rw[if_pos (by omega),if_pos (by omega)];simp
 unfold atI;rw[e];exact h
def zsqb (b:Expr):Prop:=∀o i,subscripted b false o i=operate [o,i] (yco o i)
def IxR (X:Cx)(r:R2):Prop :=
 ∀(value slice:Expr) (pins:List (Addr×Obj)) (s:Shared) (σ:St) (H:Hp) (x y:V) (v u:Value) (Q:VK),Inv X pins σ H s->RelV x v->RelV y u->r x y H Q →
  subscripted slice false v u=operate [v,u] (yco v u)->wpAny (model X.prog X.w) X.A (subscriptTail value slice v u) (EP X pins σ Q) X.xe s
def MtR (X:Cx)(id:String)(r:V->List V->Hp->VK->Prop):Prop :=
 ∀(pins:List (Addr×Obj)) (s:Shared) (σ:St) (H:Hp) (x:V) (xs:List V) (v:Value) (us:List Value) (Q:VK),Inv X pins σ H s->RelV x v->Vals xs us->r x xs H Q →
  wpAny (model X.prog X.w) X.A (call (.builtin id) (v::us)) (EP X pins σ Q) X.xe s
section
variable {X:Cx}{a b:Expr}{ta tb:TE}{pos:Pos}
theorem zjb {r:R2}(hr:IxR X r)(ha:PE X a ta)(hb:PE X b tb)(hs:zsqb b):PE X (.Subscript a b pos) (tOp r ta tb):=by
 intro pins s σ H Q I h;exact Subscript_ (binT ha hb I h λv u s2 x y H2 I2 rx ry q=>hr a b pins s2 σ H2 x y v u Q I2 rx ry q (hs _ _))
def rIxL (K:yba):R2:=λx y H Q=>Ex4 λp xs i v=>x = .ref p∧y = .int i∧SqL K H p xs∧atI xs i=some v∧Q v H
def rIxT (K:yba):R2:=λx y H Q=>Ex4 λp xs i v=>x = .ref p∧y = .int i∧SqT K H p xs∧atI xs i=some v∧Q v H
def rIxS:R2:=λx y H Q=>Ex3 λz i c=>x = .str z∧y = .int i∧z.length≤yta∧atI z.cps.toList i=some c∧Q (.str ⟨#[c]⟩) H
theorem zkc:IxR X (rIxL X.K):=by
 intro value slice pins s σ H x y v u Q I rx ry h hs;obtain⟨p,xs,i,z,rfl,rfl,hq,he,q⟩:=h;cases rx;obtain⟨t,rfl⟩:=ry;obtain⟨its,r,pl,hz⟩:=I.list hq;obtain⟨j,h1,h2,h3,h4,h5⟩:=zjcb he;obtain⟨w,ew,rw'⟩:=r.get h2;have hl:=r.length;have hn:=zqs;have fin:EP X pins σ Q w s:=⟨z,H,I,rw',q⟩
 by_cases h0:0≤i
 ·have hj:i.toNat=j:=by
   rw[seqIndex_of h0 h5] at h1;exact yfc h1
  exact item_listR pl.isList h0 (by omega) (by rw[hj];simpa using ew) fin hs
 ·have hj:(i+(its.toArray.size:Int)).toNat=j:=by
   rw[seqIndex_neg (by omega) h4] at h1;rw[ypa,← hl];exact yfc h1
  exact yth (x:=w) pl.isList.typeIs slot_list_getitem.lookup
   (wpAny_getItem_list_neg (Q:=λr s'=>r=w∧EP X pins σ Q r s') pl.isList (by omega) (by rw[ypa]<;>omega) (by omega) (by rw[hj];simpa using ew) ⟨rfl,fin⟩) hs
theorem zyb:IxR X (rIxT X.K):=by
 intro value slice pins s σ H x y v u Q I rx ry h hs;obtain⟨p,xs,i,z,rfl,rfl,hq,he,q⟩:=h;cases rx;obtain⟨t,rfl⟩:=ry;obtain⟨its,r,pl,hz⟩:=I.tuple hq;obtain⟨j,h1,h2,h3,h4,h5⟩:=zjcb he;obtain⟨w,ew,rw'⟩:=r.get h2;have hl:=r.length;have hn:=zqs;have fin:EP X pins σ Q w s:=⟨z,H,I,rw',q⟩;exact yth (x:=w) pl.typeIs slot_tuple_getitem.lookup
  (getItem_tuple (j:=j) (Q:=λr s'=>r=w∧EP X pins σ Q r s') pl (by omega) (by omega) (by rw[ypa,← hl];exact h1) (by simpa using ew) ⟨rfl,fin⟩) hs
theorem zoib:IxR X rIxS:=by
 intro value slice pins s σ H x y v u Q I rx ry h hs;obtain⟨z,i,c,rfl,rfl,hz,he,q⟩:=h;obtain⟨t,rfl⟩:=rx;obtain⟨t',rfl⟩:=ry;obtain⟨j,h1,h2,h3,h4,h5⟩:=zjcb he;have hl:z.cps.toList.length=z.length:=by simp[yop]
 rw[hl] at h1 h4 h5;have hn:=zqs;exact tail_any (yck s z t) slot_str_getitem.lookup (getItem_str (c:=c) (by
  have e1:decide (i < -(2 ^ 63:Int))=false:=decide_eq_false (by omega);have e2:decide (i≥2 ^ 63)=false:=decide_eq_false (by omega);rw[e1,e2,Bool.or_false]) (by rw[h1];simpa using h2) ⟨.str ⟨#[c]⟩,H,I.tok _,⟨_,rfl⟩,q⟩) hs
theorem zqfb (its:List Value)(n j:Nat)(u:Value):ybf (·.setIfInBounds j u) { cls:=.type "list",data:=.seq its.toArray n }={ cls:=.type "list",data:=.seq (its.set j u).toArray n }:=by
 simp[ybf]
theorem Inv.lst {pins:List (Addr×Obj)}{σ:St}{H:Hp}{s:Shared}{p:Addr}{xs:List V}(I:Inv X pins σ H s)(h:H p=some (.lst xs)) :
  Ex2 λ(its:List Value) (n:Nat)=>Vals xs its∧s.heap.get? p=some { cls:=.type "list",data:=.seq its.toArray n }∧xs.length≤yta:=by
 obtain⟨z,its,n,r,e⟩:=I.hok p _ h;exact⟨its,n,r,e,z⟩
theorem Inv.ztsb {pins:List (Addr×Obj)}{σ:St}{H:Hp}{s:Shared}{p:Addr}{xs ys:List V}{its its':List Value}{n n':Nat}{f:Obj->Obj}(I:Inv X pins σ H s)(h:H p=some (.lst xs))
  (ho:s.heap.get? p=some { cls:=.type "list",data:=.seq its.toArray n }) (hf:f { cls:=.type "list",data:=.seq its.toArray n }={ cls:=.type "list",data:=.seq its'.toArray n' }) (r:Vals ys its') (hz:ys.length≤yta) (t:Nat) :
  Inv X pins σ (upd H p (.lst ys)) { s with heap:=s.heap.update p f,toks:=t }:=by
 have e:(s.heap.update p f).get? p=some { cls:=.type "list",data:=.seq its'.toArray n' }:=by
  rw[yae f ho (by rw[hf]<;>rfl),hf]
 refine I.write (x:=p) (e:=p) (by rw[h];trivial) (.inl rfl) (λb u hb q=>(yvd _ _ (ysb hb)).trans q) ⟨_,e⟩ ?_;exact⟨hz,its',n',r,e⟩
def zlub:V->V->V->Hp->(Hp->Prop)->Prop:=λo i v H Q=>Ex4 λp xs k j=>o = .ref p∧i = .int k∧H p=some (.lst xs)∧ixN xs.length k=some j∧Q (upd H p (.lst (xs.set j v)))
theorem set_list:PSet X zlub:=by
 intro pins s σ H o i v ov iv u Q I ro ri rv h;obtain⟨p,xs,k,j,rfl,rfl,hp,hj,q⟩:=h;cases ro;obtain⟨t,rfl⟩:=ri;obtain⟨its,n,r,ho,hz⟩:=I.lst hp;obtain⟨h1,h2,h3,h4⟩:=zpib hj;have hl:=r.length;have hn:=zqs;have I':Inv X pins σ (upd H p (.lst (xs.set j v))) { s with heap:=s.heap.update p (ybf (·.setIfInBounds j u)) } :=
  I.ztsb hp ho (zqfb its n j u) (r.set rv j) (by rw[List.length_set];exact hz) s.toks
 by_cases h0:0≤k
 ·have hk:k.toNat=j:=by
   rw[seqIndex_of h0 h4] at h1;exact yfc h1
  exact PySem.W.ki_setAt ho h0 (by omega) (by rw[ypa,← hl];exact h4) (by rw[hk];exact⟨_,I',q⟩)
 ·have hk:(k+(its.toArray.size:Int)).toNat=j:=by
   rw[seqIndex_neg (by omega) h3] at h1;rw[ypa,← hl];exact yfc h1
  exact PySem.W.ki_setBack ho (by omega) (by rw[ypa,← hl];exact h3) (by omega) (by rw[hk];exact⟨_,I',q⟩)
theorem zvx (lo hi:Option Int)(n:Nat):(yai lo hi none n).1=((HT.sIx n 0 lo:Nat):Int)∧(yai lo hi none n).2.1=((HT.sIx n n hi:Nat):Int)∧(yai lo hi none n).2.2=1:=by
 refine⟨?_,?_,rfl⟩
 ·cases lo with
  | none=>simp[yai,HT.sIx]
  | some i =>
   simp only[yai,HT.sIx,yso,show (1:Int)>0 by decide,if_true]
   by_cases h:i<0
   ·simp only[h,if_true]<;>omega
   ·simp only[h,if_false]<;>omega
 ·cases hi with
  | none=>simp[yai,HT.sIx]
  | some i =>
   simp only[yai,HT.sIx,yso,show (1:Int)>0 by decide,if_true]
   by_cases h:i<0
   ·simp only[h,if_true]<;>omega
   ·simp only[h,if_false]<;>omega
theorem zkv (its:List Value)(lo hi:Option Int):slicePick its.toArray lo hi none=((its.drop (HT.sIx its.length 0 lo)).take (HT.sIx its.length its.length hi-HT.sIx its.length 0 lo)).toArray:=by
 obtain⟨h1,h2,h3⟩:=zvx lo hi its.toArray.size;unfold slicePick;rw[h1,h2,h3];simp only[yxm,pick_run,ypa]<;>rfl
def rSlL (K:yba):V->Option Int->Option Int->Hp->VK->Prop:=λx lo hi H Q=>Ex2 λa xs=>x = .ref a∧SqL K H a xs∧∀p,H p=none->Q (.ref p) (upd H p (.lst (cutV xs lo hi)))
theorem zkm:SlR X (rSlL X.K):=by
 intro pins s σ H x v vl vu lo hi sl Q I rx hs pl pu h;obtain⟨a,xs,rfl,hx,q⟩:=h;cases rx;obtain⟨its,r,ht,hz⟩:=I.list hx;have hlen:=r.length;refine⟨"list",_,slot_list_getitem.lookup,ht.isList.typeIs,?_⟩;refine wpAny_getItem_list_slice ht.isList hs pl pu .none (by simp) ?_ (by rw[ypa]<;>omega);rw[zkv,← hlen];refine⟨.ref s.heap.objs.size,_,I.laid (t':=s.toks) (o:=.lst (cutV xs lo hi)) (λb ob q=>yca _ q) (yma _) ?_,rfl,q _ (I.hok.fresh (yma _))⟩;exact⟨yxa (zvs xs lo hi) hz,_,0,(r.drop (HT.sIx xs.length 0 lo)).take (HT.sIx xs.length xs.length hi-HT.sIx xs.length 0 lo),yla _ rfl⟩
def zyt:V->Bool
 | .non=>true
 | .bl _=>true
 | .int _=>true
 | .str _=>true
 | _=>false
def eqV:V->V->Bool
 | .non,.non=>true
 | .bl a,.bl b=>a==b
 | .bl a,.int b=>(if a then 1 else 0)==b
 | .int a,.bl b=>a==(if b then 1 else 0)
 | .int a,.int b=>a==b
 | .str a,.str b=>a==b
 | _,_=>false
theorem zntb {A:Around}{s:Shared}{y x:V}{u v:Value}(ry:RelV y u)(rx:RelV x v)(fy:zyt y=true)(fx:zyt x=true):yyd A s u v (eqV y x):=by
 cases y with
 | non =>
  cases ry;cases x with
  | non=>cases rx;exact yyd.same _
  | bl b=>cases rx;exact yyd.none_bool b
  | int b=>obtain⟨t,rfl⟩:=rx;exact yyd.none_int b t
  | str b=>obtain⟨t,rfl⟩:=rx;exact yyd.none_str b t
  | _=>exact absurd (show false=true from fx) ywa
 | bl a =>
  cases ry;cases x with
  | non=>cases rx;exact yyd.bool_none a
  | bl b=>cases rx;exact yyd.bool_bool a b
  | int b=>obtain⟨t,rfl⟩:=rx;exact yyd.bool_int a b t
  | str b=>obtain⟨t,rfl⟩:=rx;exact yyd.bool_str a b t
  | _=>exact absurd (show false=true from fx) ywa
 | int a =>
  obtain⟨t',rfl⟩:=ry;cases x with
  | non=>cases rx;exact yyd.int_none a t'
  | bl b=>cases rx;exact yyd.int_bool a t' b
  | int b=>obtain⟨t,rfl⟩:=rx;exact yyd.int_int a t' b t
  | str b=>obtain⟨t,rfl⟩:=rx;exact yjn a t' b t
  | _=>exact absurd (show false=true from fx) ywa
 | str a =>
  obtain⟨t',rfl⟩:=ry;cases x with
  | non=>cases rx;exact yyd.str_none a t'
  | bl b=>cases rx;exact yyd.str_bool a t' b
  | int b=>obtain⟨t,rfl⟩:=rx;exact ykn a t' b t
  | str b=>obtain⟨t,rfl⟩:=rx;exact yyd.str_str a t' b t
  | _=>exact absurd (show false=true from fx) ywa
 | _=>exact absurd (show false=true from fy) ywa
def eqU (x:V)(u:Value):Bool:=match u with
 | .none=>eqV .non x
 | .bool b=>eqV (.bl b) x
 | .int i _=>eqV (.int i) x
 | .str z _=>eqV (.str z) x
 | _=>false
theorem zmnb {x y:V}{u:Value}(r:RelV y u)(f:zyt y=true):eqU x u=eqV y x:=by
 cases y with
 | non=>cases r;rfl
 | bl b=>cases r;rfl
 | int i=>obtain⟨t,rfl⟩:=r;rfl
 | str z=>obtain⟨t,rfl⟩:=r;rfl
 | _=>exact absurd (show false=true from f) ywa
theorem zet {x:V}:∀{xs:List V} {us:List Value},Vals xs us->xs.all zyt=true->us.any (eqU x)=xs.any λy=>eqV y x
 | _,_,.nil,_=>rfl
 | y::xs,u::us,.cons r t,f=>by
  rw[List.all_cons,yec] at f;rw[yph,yph,zmnb r f.1,zet t f.2]
theorem zeo {A:Around}{s:Shared}{x:V}{v:Value}(rx:RelV x v)(fx:zyt x=true):∀{xs:List V} {us:List Value},Vals xs us->xs.all zyt=true->∀u∈us,yyd A s u v (eqU x u)
 | _,_,.nil,_=>λu hu=>by cases hu
 | y::xs,u::us,.cons r t,f=>λu' hu=>by
  rw[List.all_cons,yec] at f
  rcases yja.mp hu with rfl|hu
  ·rw[zmnb r f.1];exact zntb r rx f.1 fx
  ·exact zeo rx fx t f.2 u' hu
def inV (x:V)(xs:List V):Bool:=xs.any λy=>eqV y x
def rIn (K:yba)(neg:Bool):R2:=λx y H Q=>Ex2 λp xs=>y = .ref p∧(SqL K H p xs∨SqT K H p xs)∧zyt x=true∧xs.all zyt=true∧Q (.bl (if neg then !inV x xs else inV x xs)) H
theorem zme:OpR X (yzc .In) (rIn X.K false):=by
 intro pins s σ H x y v u Q I rx ry h;obtain⟨p,xs,rfl,hq,fx,fs,q⟩:=h;cases ry
 rcases hq with hq|hq
 ·obtain⟨its,r,pl,hz⟩:=I.list hq;refine SeqAt.in_listAt (eqU x) pl.isList (λw hw=>zeo rx fx r fs w (by simpa using hw)) ⟨.bl _,H,I,rfl,?_⟩;rw[show its.toArray.any (eqU x)=its.any (eqU x) by simp,zet r fs];exact q
 ·obtain⟨its,r,pl,hz⟩:=I.tuple hq;refine SeqAt.in_tupleAt (eqU x) pl (λw hw=>zeo rx fx r fs w (by simpa using hw)) ⟨.bl _,H,I,rfl,?_⟩;rw[show its.toArray.any (eqU x)=its.any (eqU x) by simp,zet r fs];exact q
theorem zgy:OpR X (yzc .NotIn) (rIn X.K true):=by
 intro pins s σ H x y v u Q I rx ry h;obtain⟨p,xs,rfl,hq,fx,fs,q⟩:=h;cases ry
 rcases hq with hq|hq
 ·obtain⟨its,r,pl,hz⟩:=I.list hq;refine SeqAt.notIn_listAt (eqU x) pl.isList (λw hw=>zeo rx fx r fs w (by simpa using hw)) ⟨.bl _,H,I,rfl,?_⟩;rw[show its.toArray.any (eqU x)=its.any (eqU x) by simp,zet r fs];exact q
 ·obtain⟨its,r,pl,hz⟩:=I.tuple hq;refine SeqAt.notIn_tupleAt (eqU x) pl (λw hw=>zeo rx fx r fs w (by simpa using hw)) ⟨.bl _,H,I,rfl,?_⟩;rw[show its.toArray.any (eqU x)=its.any (eqU x) by simp,zet r fs];exact q
theorem zdb:ztl X (.builtin "len") (λxs H Q=>Ex2 λp ys=>xs=[.ref p]∧(SqL X.K H p ys∨SqT X.K H p ys)∧Q (.int ys.length) H):=by
 intro pins s σ H xs us Q I r h;obtain⟨p,ys,rfl,hq,q⟩:=h;obtain⟨u,rfl,rx⟩:=vals1 r;cases rx;have hn:=zqs
 rcases hq with hq|hq
 ·obtain⟨its,r',pl,hz⟩:=I.list hq;have hlen:=r'.length;exact Calls.call_len_list pl.isList (by simp only[ypa]<;>omega) ⟨.int ys.length,H,I.tok _,⟨s.toks+1,by rw[ypa,hlen]⟩,q⟩
 ·obtain⟨its,r',pl,hz⟩:=I.tuple hq;have hlen:=r'.length;exact len_tuple pl (by simp only[ypa]<;>omega) ⟨.int ys.length,H,I.tok _,⟨s.toks+1,by rw[ypa,hlen]⟩,q⟩
theorem zjl:ztl X (.builtin "len") (λxs H Q=>∃z,xs=[.str z]∧z.length≤yta∧Q (.int z.length) H):=by
 intro pins s σ H xs us Q I r h;obtain⟨z,rfl,hz,q⟩:=h;obtain⟨u,rfl,t,rfl⟩:=vals1 r;have hn:=zqs;exact len_str (by omega) ⟨.int z.length,H,I.tok _,⟨_,rfl⟩,q⟩
theorem zbj:ztl X (.type "list") (λxs H Q=>Ex2 λp ys=>xs=[.ref p]∧(SqL X.K H p ys∨SqT X.K H p ys)∧∀l,H l=none->Q (.ref l) (upd H l (.lst ys))):=by
 intro pins s σ H xs us Q I r h;obtain⟨p,ys,rfl,hq,q⟩:=h;obtain⟨u,rfl,rx⟩:=vals1 r;cases rx;have fin:∀(its:List Value),Vals ys its->ys.length≤yta->∀(h':Heap) (c':Nat),(∀b o',s.heap.get? b=some o'->h'.get? b=some o') →
   h'.get? s.heap.objs.size=some { cls:=.type "list",dict:=none,data:=.seq its.toArray c',slots:=#[] }->EP X pins σ Q (.ref s.heap.objs.size) { s with heap:=h' }:=λits r' hz h' c' kp e =>
  ⟨.ref s.heap.objs.size,_,I.laid (t':=s.toks) kp (yma _) (show zrg X.prog X.w _ h' _ (.lst ys) from⟨hz,its,c',r',e⟩),rfl,q _ (I.hok.fresh (yma _))⟩
 rcases hq with hq|hq
 ·obtain⟨its,r',pl,hz⟩:=I.list hq;have hlen:=r'.length;obtain⟨o,ho,hc,n,hd⟩:=pl.isList;exact call_list_seq p (.inl rfl) ho hc hd (λh' c' kp e=>fin its r' hz h' c' kp e) (by simp only[ypa]<;>omega)
 ·obtain⟨its,r',pl,hz⟩:=I.tuple hq;have hlen:=r'.length;obtain⟨o,ho,hc,n,hd⟩:=pl;exact call_list_seq p (.inr rfl) ho hc hd (λh' c' kp e=>fin its r' hz h' c' kp e) (by simp only[ypa]<;>omega)
theorem zsh:ztl X (.type "tuple") (λxs H Q=>Ex2 λp ys=>xs=[.ref p]∧((SqL X.K H p ys∧∀l,H l=none->Q (.ref l) (upd H l (.tup ys)))∨(SqT X.K H p ys∧Q (.ref p) H))):=by
 intro pins s σ H xs us Q I r h;obtain⟨p,ys,rfl,h⟩:=h;obtain⟨u,rfl,rx⟩:=vals1 r;cases rx
 rcases h with⟨hq,q⟩|⟨hq,q⟩
 ·obtain⟨its,r',pl,hz⟩:=I.list hq;have hlen:=r'.length;refine call_tuple_list pl.isList (λh' kp=>?_) (by simp only[ypa]<;>omega);have I1:Inv X pins σ H { s with heap:=h' }:=I.kept (t':=s.toks) kp;have I2:Inv X pins σ (upd H h'.objs.size (.tup ys)) { s with heap:=h'.push { cls:=.type "tuple",data:=.seq its.toArray } } :=
   I1.laid (t':=s.toks) (λb o e=>yca _ e) (yma _) (show zrg X.prog X.w _ _ _ (.tup ys) from⟨hz,its,r',ytp _ _⟩)
  exact⟨.ref h'.objs.size,_,I2,rfl,q _ (I1.hok.fresh (yma _))⟩
 ·obtain⟨its,r',pl,hz⟩:=I.tuple hq;exact call_tuple_same pl ⟨.ref p,H,I,rfl,q⟩
def tyV (K:yba)(T:String)(x:V)(H:Hp):Prop:=match x with
 | .str _=>T = "str"
 | .int _=>T = "int"
 | .ref p=>(T = "list" ∧ ∃xs,SqL K H p xs)∨(T = "tuple" ∧ ∃o,K.lookup p=some o∧o.cls = .type "tuple" ∧ o.dict=none) ∨
   (T = "dict" ∧ ((∃kvs,H p=some (.dK kvs))∨∃kvs,H p=some (.dT kvs)))∨(T = "set" ∧ Ex2 λS n=>H p=some (.set S n))
 | _=>False
theorem zxqb {pins:List (Addr×Obj)}{σ:St}{H:Hp}{s:Shared}{T:String}{x:V}{v:Value}(I:Inv X pins σ H s)(r:RelV x v)(ty:tyV X.K T x H) :
  s.TypeIs v T∧∀a,v = .ref a->∃ob,s.heap.get? a=some ob∧ob.dict=none:=by
 cases x with
 | str z =>
  obtain⟨t,rfl⟩:=r;cases (show T = "str" from ty);exact⟨yck s z t,λ_ e=>nomatch e⟩
 | int i =>
  obtain⟨t,rfl⟩:=r;cases (show T = "int" from ty);exact⟨typeIs_int s i t,λ_ e=>nomatch e⟩
 | ref p =>
  cases r
  rcases ty with⟨rfl,xs,hq⟩|⟨rfl,o,hk,hc,hd⟩|⟨rfl,hk⟩|⟨rfl,S,n,hk⟩
  ·obtain⟨its,_,pl,_⟩:=I.list hq;refine⟨pl.isList.typeIs,λa e=>?_⟩;cases e;obtain⟨o,n,e,c,hd,_⟩:=pl;exact⟨o,e,hd⟩
  ·refine⟨⟨o,I.kIn p o hk,hc⟩,λa e=>?_⟩;cases e;exact⟨o,I.kIn _ o hk,hd⟩
  ·have z:∃o,s.heap.get? p=some o∧o.ExactDict:=by
    rcases hk with⟨kvs,hk⟩|⟨kvs,hk⟩
    ·obtain⟨_,_,_,_,o,_,_,e,ex,_⟩:=I.hok p _ hk;exact⟨o,e,ex⟩
    ·obtain⟨_,_,_,_,o,_,_,e,ex,_⟩:=I.hok p _ hk;exact⟨o,e,ex⟩
   obtain⟨o,e,ex⟩:=z;refine⟨⟨o,e,ex.1⟩,λa e2=>?_⟩;cases e2;exact⟨o,e,ex.2.1⟩
  ·obtain⟨o,_,_,_,e,ex,_⟩:=I.hok p _ hk;refine⟨⟨o,e,ex.1⟩,λa e2=>?_⟩;cases e2;exact⟨o,e,ex.2.1⟩
 | _=>exact yze ty
def tBM (K:yba)(T:String)(r:V->List V->Hp->VK->Prop)(to:TE)(t:TA):TE:=fun σ H Q=>to σ H λx H1=>tyV K T x H1∧t σ H1 λxs H2=>r x xs H2 Q
variable {o e:Expr}{es:List Expr}{to:TE}{t:TA}{name:Str}{apos cpos:Pos}{T id:String}{r:V->List V->Hp->VK->Prop}
theorem zai (pa:PlainAttrs T)(slot:Slot T name id)(hty:typeOf (.builtin id)=pure (.type "method_descriptor"))(hm:MtR X id r)(ho:PE X o to)(ha:PA X (e::es) t)
  (hbase:ynh o name X.env (eval o X.env)=eval o X.env:=by rfl)
  (hfew:((backTo cpos (ylc (e::es) X.env)).all (λx=>!x.1)&&(yxo cpos (ytk [] X.env)).all (λx=>x.1.isSome)
   && decide ((e::es).length+([]:List ybo).length+(if ([]:List ybo).isEmpty then 0 else 1)<30))=true:=by rfl)
  (hline:(apos.endLine==cpos.line)=true:=by rfl) (hs:ylc (e::es) X.env=(false,eval e X.env)::ylc es X.env:=by rfl) (hplain:(backTo cpos (ylc es X.env)).any (·.1)=false:=by rfl) :
  PE X (.Call (.Attribute o name apos) (e::es) [] cpos) (tBM X.K T r to t):=by
 intro pins s σ H Q I h;refine wpAny_Call_method_late hbase hfew hline rfl (thn (ho pins s σ H _ I h) λv s1 ⟨x,H1,I1,r1,ty,q1⟩=>?_);obtain⟨h1,h2⟩:=zxqb I1 r1 ty;refine⟨T,id,pa,slot,hty,h1,h2,?_⟩;have hA:=ha cpos pins s1 σ H1 _ I1 q1;rw[hs] at hA ⊢;refine yml (by show (false||(backTo cpos (ylc es X.env)).any (·.1))=false;rw[hplain]<;>rfl) (yum ?_);exact thn hA λus s2 ⟨vs,H2,I2,r2,q2⟩=>hm pins s2 σ H2 x vs v us Q I2 r1 r2 q2
end
end L2
namespace L2
open PySem PySem.Spec PyProof.Rows
def MtM (X:Cx)(id:String)(r:V->List V->Hp->VK->Prop):Prop :=
 ∀(pins:List (Addr×Obj)) (s:Shared) (σ:St) (H:Hp) (x:V) (xs:List V) (v:Value) (us:List Value) (Q:VK),Inv X pins σ H s->RelV x v->Vals xs us->r x xs H Q →
  wpAny (model X.prog X.w) X.A (call (.builtin id) (v::us)) (EP X pins σ Q) X.xe s
theorem Vals.one:∀{x:V} {us:List Value},Vals [x] us->∃u,us=[u]∧RelV x u
 | _,_,.cons r .nil=>⟨_,rfl,r⟩
theorem Vals.rep {xs:List V}{us:List Value}(h:Vals xs us):∀k:Nat,Vals (ytc k xs).flatten (ytc k us).flatten
 | 0=>.nil
 | k+1=>by
  rw[ycg,ycg,ypd,ypd];exact Vals.append h (Vals.rep h k)
theorem foldl_rep (its:List Value):∀(k:Nat) (acc:List Value),
  ypp (λx1 x2=>x1++x2) acc.toArray (ytc k its.toArray)=(acc++(ytc k its).flatten).toArray
 | 0,acc=>by simp
 | k+1,acc=>by
  have e:acc.toArray++its.toArray=(acc++its).toArray:=by simp
  have e2:(acc++its)++(ytc k its).flatten=acc++(ytc (k+1) its).flatten:=by
   rw[ycg,ypd,yed]
  rw[← e2,← foldl_rep its k (acc++its),← e,ycg,List.foldl_cons]
section
variable {X:Cx}{pins:List (Addr×Obj)}{σ:St}{H:Hp}{s:Shared}{l b:Addr}{xs ys zs:List V}
theorem Inv.lset {its its':List Value}{n:Nat}{f:Array Value->Array Value}{t':Nat}(I:Inv X pins σ H s)(hH:H l=some (.lst xs))
  (e:s.heap.get? l=some { cls:=.type "list",data:=.seq its.toArray n }) (hf:f its.toArray=its'.toArray) (hv:Vals ys its') (hz:ys.length≤yta) :
  Inv X pins σ (upd H l (.lst ys)) { s with heap:=s.heap.update l (ybf f),toks:=t' }:=by
 have q:=PySem.IsL.update e f;rw[hf] at q;refine I.write (x:=l) (e:=l) (by rw[hH];exact trivial) (.inl rfl) (λb' u hb hu=>(yvd s.heap (ybf f) (ysb hb)).trans hu) ⟨_,q⟩ ?_;exact⟨hz,its',_,hv,q⟩
theorem Inv.lnew {its:List Value}{t':Nat}(I:Inv X pins σ H s)(hv:Vals ys its)(hz:ys.length≤yta) :
  Inv X pins σ (upd H s.heap.objs.size (.lst ys)) { s with heap:=s.heap.push { cls:=.type "list",data:=.seq its.toArray },toks:=t' } :=
 I.laid (λ_ _ q=>yca _ q) (yma _) ⟨hz,its,0,hv,yla _ rfl⟩
theorem Inv.fresh (I:Inv X pins σ H s):H s.heap.objs.size=none:=I.hok.fresh (yma _)
theorem Inv.lstM (I:Inv X pins σ H s)(hH:H l=some (.lst xs)):xs.length≤yta∧Ex2 λ(its:List Value) (n:Nat)=>Vals xs its∧xs.length=its.length∧s.heap.get? l=some { cls:=.type "list",data:=.seq its.toArray n }:=by
 obtain⟨z,its,n,r,e⟩:=I.hok l _ hH;exact⟨z,its,n,r,r.length,e⟩
theorem zplb {n:Nat}(h:n≤yta):yjh n=false:=by
 unfold yjh;exact decide_eq_false (by omega)
end
section
variable {X:Cx}
def zqob:V->List V->Hp->VK->Prop:=λx vs H Q=>Ex3 λl xs y=>x = .ref l∧vs=[y]∧H l=some (.lst xs)∧xs.length<yta∧Q .non (upd H l (.lst (xs++[y])))
theorem zzc:MtM X "list.append" zqob:=by
 intro pins s σ H x vs v us Q I rx rv h;obtain⟨l,xs,y,rfl,rfl,hH,hz,q⟩:=h;cases rx;obtain⟨u,rfl,ru⟩:=rv.one;obtain⟨z,its,n,r,hl,e⟩:=I.lstM hH;refine ydk F.slot_list_append ⟨_,e,rfl⟩ F.entry_list_append (F.args_list_append_2 _ _) (PySem.list_append l its.toArray n u (by rw[ypa];omega)) ⟨e,?_⟩;refine⟨.non,_,I.lset (its':=its++[u]) hH e (by simp) (r.append (.cons ru .nil)) ?_,rfl,q⟩;rw[yea,yad];omega
def rCat:R2:=λx y H Q=>Ex4 λl b xs zs=>x = .ref l∧y = .ref b∧H l=some (.lst xs)∧H b=some (.lst zs)∧xs.length+zs.length≤yta∧∀p,H p=none->Q (.ref p) (upd H p (.lst (xs++zs)))
theorem zou:OpR X (ymh .Add) rCat:=by
 intro pins s σ H x y v u Q I rx ry h;obtain⟨l,b,xs,zs,rfl,rfl,hH,hB,hz,q⟩:=h;cases rx;cases ry;obtain⟨z,its,n,r,hl,e⟩:=I.lstM hH;obtain⟨z2,its2,n2,r2,hl2,e2⟩:=I.lstM hB;refine PySem.P.add_list e e2 ?_ (by rw[ypa,ypa];omega);have ea:its.toArray++its2.toArray=(its++its2).toArray:=by simp
 rw[ea];exact⟨.ref _,_,I.lnew (t':=s.toks) (r.append r2) (by rw[yea];omega),rfl,q _ I.fresh⟩
def rRep:R2:=λx y H Q=>Ex3 λl k xs=>x = .ref l∧y = .int k∧H l=some (.lst xs) ∧ -(2 ^ 63)≤k∧k<2 ^ 63∧xs.length*k.toNat≤yta ∧
 ∀p,H p=none->Q (.ref p) (upd H p (.lst (ytc k.toNat xs).flatten))
theorem len_rep {α:Type}(xs:List α)(k:Nat):(ytc k xs).flatten.length=k*xs.length:=by
 induction k with
 | zero=>simp
 | succ k ih=>rw[ycg,ypd,yea,ih,Nat.succ_mul,Nat.add_comm]
theorem zdsb:OpR X (ymh .Mult) rRep:=by
 intro pins s σ H x y v u Q I rx ry h;obtain⟨l,k,xs,rfl,rfl,hH,h1,h2,hz,q⟩:=h;cases rx;obtain⟨t,rfl⟩:=ry;obtain⟨z,its,n,r,hl,e⟩:=I.lstM hH;have hlen:its.toArray.size*k.toNat≤yta:=by rw[ypa,← hl];exact hz
 have hcap:¬ its.toArray.size*k.toNat>(2 ^ 63-1) / 8:=by
  have:(yta:Nat)≤(2 ^ 63-1) / 8:=by decide
  omega
 have hfit:¬ (!Builtin.List.listFitsIndex k)=true:=by
  rw[fitsIndex_both h1 h2];exact ywa
 have hlong:¬ yjh (its.toArray.size*k.toNat)=true:=by
  rw[zplb hlen];exact ywa
 have hnew:ypp (λx1 x2=>x1++x2) #[] (ytc (if its.toArray.isEmpty=true then 0 else k.toNat) its.toArray)=(ytc k.toNat its).flatten.toArray:=by
  have f0:∀m:Nat,ypp (λx1 x2=>x1++x2) #[] (ytc m its.toArray)=(ytc m its).flatten.toArray:=λm=>by
   have:=foldl_rep its m [];rw[yam] at this;exact this
  rw[f0];cases its with
  | nil=>simp
  | cons a r'=>rw[if_neg (by simp)]
 refine wpAny_binaryOp_repeat_ref (T:="list") (U:="int") (by decide) ⟨_,e,rfl⟩ (λs'=>typeIs_int s' k t) noFill_list_mul F.fills_int_mul F.slot_int_rmul repeat_list F.slot_int_index.lookup
  (ydk F.slot_int_rmul (typeIs_int s k t) F.entry_int_rmul (F.args_int_rmul_2 _ _) (int___rmul___int_list k t l its.toArray n)
   ⟨e,rfl,⟨_,e,rfl⟩,ydk F.slot_list_mul ⟨_,e,rfl⟩ F.entry_list_mul (F.args_list_mul_2 _ _) (AutoListH.list___mul___list_int_3 l its.toArray n k t hfit hcap hlong) ⟨e,?_⟩⟩)
 rw[hnew];exact⟨.ref _,_,I.lnew (t':=s.toks) (r.rep k.toNat) (by rw[len_rep,Nat.mul_comm];exact hz),rfl,q _ I.fresh⟩
end
section
variable {prog:ypb}{w:World}{A:Around}{E:Value->Shared->Prop}{s:Shared}
end
section
variable {X:Cx}
end
end L2
namespace Att
open PySem PySem.W PySem.Calls PyProof.Rows
theorem zts {P:Params}{h:Heap}:∀(ns:List Int) (vs:List Value),WellAll P h vs (ns.map WData.int)->yzl vs ns:=by
 intro ns
 induction ns with
 | nil =>
  intro vs w;rw[yef] at w;cases w;exact .nil
 | cons n ns ih =>
  intro vs w;rw[yva] at w;cases w with
  | cons a b =>
   cases a;exact .cons _ _ (ih _ b)
theorem zfhb {l:OpenLaw}{n:Nat}(hn:l.most=some n){P:Params}{h:Heap}{args:List WData}{vals:List Value}
  (hpre:l.row.toRowW.claim.pre args=true) (hwl:WellAll P h vals args) :
  Ex3 λa vs ns=>vals=[Value.ref a]∧args=[WData.list (ns.map WData.int)]∧h.get? a=some { cls:=.type "list",data:=.seq vs.toArray }∧yzl vs ns∧ns.length≤n:=by
 have hsh:WShape.hasAll [] args [.list .int]=true:=(pre_splitW hpre).1;have hc:l.pre.holds [] { args:=args }=true:=(pre_splitW hpre).2;obtain⟨d,r,rfl,h1,h2⟩:=hasAllW_cons hsh;obtain rfl:=hasAllW_nil h2;obtain⟨xs,rfl,h3⟩:=hasW_list h1;obtain⟨ns,rfl⟩:=items_int h3;have hlen:ns.length≤n:=by
  unfold OpenLaw.pre at hc;have h4:(WTm.not (.lt (.lit (.int (n:Int))) (.len (.arg 0)))).holds [] { args:=[.list (ns.map .int)] }=true:=by
   have h4:=(holds_andW hc).1;rw[hn] at h4;exact h4
  have h5:=condW_of h4 (w_not (w_lt w_lit (w_len_list (w_arg rfl))));rw[yda] at h5;refine Nat.le_of_not_lt λq=>?_;have q':(n:Int)<((ns.length:Nat):Int):=by omega
  first
   | (rw[decide_eq_true q'] at h5;exact absurd h5 (by decide))
   | (simp at h5;omega)
 cases hwl with
 | cons w1 w2 =>
  cases w2;cases w1 with
  | list ho hall=>exact⟨_,_,ns,rfl,rfl,ho,zts ns _ hall,hlen⟩
theorem zphb (l:OpenLaw)(args:List WData):l.row.toRowW.claim.post args (.bool true) args=true :=
 postW_of (r:=l.row.toRowW) (X:=(true==true))
  (show WShape.has [] (.bool true) .bool=true by first|rfl|decide|simp[WShape.has,WShape.arms,WShape.armsAll])
  (show (WTm.eq .res (.lit (.bool true))).value [] { args:=args,res:=some (.bool true),after:=args }=some (.bool (true==true)) from w_eq_bool (w_res rfl) w_lit) rfl
theorem zicb {l:OpenLaw}{n:Nat}{q:ypb}{loose:List Str}{XP:(Str->Option Value)->Heap->Prop}{YP:World->Heap->Prop}{d:DefRec}
  (hn:l.most=some n) (hdf:d.params.defaults=[])
  (call:∀(w:World) (s₀ s₁:Shared) (mg mb:Str->Option Value) (fa:Addr) (o:Obj) (pm cd doc:Value) (a:Addr) (vs:List Value) (ns:List Int),
   Ground q loose [] XP w s₀ mg mb s₁.heap->YP w s₁.heap →
   s₁.heap.get? fa=some o->o.data = .func (docDef d.name d.params d.body d.scope pm cd doc)->s₁.heap.CodeRec cd d.name->mg d.name=some (.ref fa) →
   s₁.heap.get? a=some { cls:=.type "list",data:=.seq vs.toArray }->yzl vs ns->ns.length≤n->s₁.gens=#[] →
   yyi (model l.prog w) ydo (.call (.ref fa) ⟨[.ref a],[]⟩) (λr s'=>r = .ok (.ret (.bool true))∧OldK s₁.heap s'.heap∧s'.os=s₁.os∧ybn s'.gens) s₁) :
  WalkO q loose XP YP l.row.toRowW d [] (λf vs=>yqp f vs):=by
 intro w s₀ s₁ mg mb G Y fa o pm cd doc dV kV ho hd hcd hD hmg hg args vals as hpre hlay hrd hwl hlo;obtain rfl:dV = .none:=Dflts.none hD hdf;obtain rfl:kV = .none:=Dflts.noKw hD;obtain⟨a,vs,ns,rfl,rfl,hobj,hints,hlen⟩:=zfhb hn hpre hwl;refine enter_call (yhi (call w s₀ s₁ mg mb fa o pm cd doc a vs ns G Y ho (fd_plain hd) hcd hmg hobj hints hlen hg) λr s' hq=>?_);obtain⟨rfl,h2,h3,h4⟩:=hq;exact⟨.inl ⟨.bool true,.bool true,[],rfl,λ_=>rfl,.bool true,zphb l _,λ_=>⟨List.Pairwise.nil,λ_ hm=>(nomatch hm)⟩⟩,h2,h3,h4⟩
section
variable {prog:ypb}{w:World}{A:Around}{E:Value->Shared->Prop}{s:Shared}{K:Frag}
end
end Att
namespace L2
open PySem PySem.Spec PyProof.Rows
theorem zmx:∀{vs:List Value} {ns:List Int},yzl vs ns->Vals (ns.map V.int) vs
 | _,_,.nil=>.nil
 | _,_,.cons n t h=>.cons ⟨t,rfl⟩ (zmx h)
def Only (H:Hp):Prop:=∀b,H b=none∨Ex2 λo xs=>H b=some (.frz o (.lst xs))
theorem zzlb {P:ypb}{w:World}{K:yba}{mg mb:Str->Option Value}{CX:CXT}{k:Nat}{fa a:Addr}{fd:yxe}{x:Str}{sp:Sp}{s₁:Shared}{vs:List Value}{ns:List Int}
  (KX:K.In s₁.heap) (hns:s₁.heap.Ns yab mg) (hb:s₁.heap.Ns builtinsNs mb) (hbb:∀x:Str,x ≠ "__name__"->mb x=ykg x) (hlim:s₁.heap.NoLimit) (hg:s₁.gens=#[])
  (ha:s₁.heap.get? a=some { cls:=.type "list",data:=.seq vs.toArray }) (hi:yzl vs ns) (hl:ns.length≤yta) (hr:Room k ydo)
  (F:∀base:Heap,K.In base->base.Ns yab mg->FnOk P w K mg base CX k fa fd [x] sp) (hbind:∀(s:Shared) (u:Value),yao s fd ⟨[u],[]⟩ [(x,u)])
  (hsp:∀H:Hp,Only H->SqL K H a (ns.map V.int)->sp [.ref a] H (λv _=>v = .bl true) λ_ _ _=>False)
  (hCX:∀H e s',CX [] H s₁ (λ_ _ _=>False) e s'->False) :
  yyi (model P w) ydo (.call (.ref fa) ⟨[.ref a],[]⟩) (λr s'=>r = .ok (.ret (.bool true))∧OldK s₁.heap s'.heap∧s'.os=s₁.os∧ybn s'.gens) s₁:=by
 have rv:=zmx hi;have lenV:=hi.length;have core:∀H:Hp,Only H->SqL K H a (ns.map V.int)->HOk P w H s₁.heap->(∀b,H b≠none->b=a)->(H a≠none->K.lookup a=none) →
   yyi (model P w) ydo (.call (.ref fa) ⟨[.ref a],[]⟩) (λr s'=>r = .ok (.ret (.bool true))∧OldK s₁.heap s'.heap∧s'.os=s₁.os∧ybn s'.gens) s₁:=by
  intro H hO hS hok hA hK;have base_of:∀{b:Addr} {o:Obj},s₁.heap.get? b=some o->H b=none->(hidT s₁.heap H).get? b=some o:=λe n=>zfmb e n;have noA:∀{b:Addr} {o:Obj} {es:Array DictEntry} {ep:Nat},s₁.heap.get? b=some o->o.data = .dict es ep->H b=none:=λ{b o es ep} e d=>by
   cases q:H b with
   | none=>rfl
   | some u =>
    have e':b=a:=hA b (by rw[q];simp);subst e';rw[ha] at e;cases e;have d':Data.seq vs.toArray _=Data.dict es ep:=d;cases d'
  have nsK:∀{b:Addr} {m:Str->Option Value},s₁.heap.Ns b m->(hidT s₁.heap H).Ns b m:=λ{b m} ⟨o,es,ep,e,d,r⟩=>⟨o,es,ep,base_of e (noA e d),d,r⟩;have hKb:K.In (hidT s₁.heap H):=λb o e=>base_of (KX b o e) (by
   cases q:H b with
   | none=>rfl
   | some u =>
    have e':b=a:=hA b (by rw[q];simp);subst e';rw[hK (by rw[q];simp)] at e;cases e)
  have hM:Mod K mg (hidT s₁.heap H):=⟨hKb,nsK hns,⟨mb,nsK hb,hbb⟩,let ⟨mc,h1,h2⟩:=hlim;⟨mc,nsK h1,h2⟩⟩;have e0:Env0 P w K mg (hidT s₁.heap H) ydo [] s₁ H:=⟨rfl,hM,λb o e=>zkpb e,yvl (zuib _ _),trivial,λb hb=>absurd (show b∈([]:List Addr) from hb) (by simp),hok,.of_eq hg⟩;refine yhi ((F _ hKb (nsK hns)).run ydo [] s₁ H ⟨[.ref a],[]⟩ [.ref a] [.ref a] _ _ hr e0 (hbind s₁ (.ref a)) (.cons rfl .nil) (hsp H hO hS)) λr s' h=>?_;cases r with
  | error e=>exact (hCX H e s' h).elim
  | ok fl =>
   cases fl with
   | next=>exact yze h
   | brk=>exact yze h
   | cont=>exact yze h
   | ret u =>
    obtain⟨v,H',os,bare,un,hok',r',q⟩:=h;have q':v = .bl true:=q;subst q';obtain rfl:u=Value.bool true:=r';refine⟨rfl,OldK.of_keep λb o e=>?_,os,bare⟩;cases q:H b with
    | none=>exact un.keep b o e q (by intro z;exact absurd (show b∈([]:List Addr) from z) (by simp)) (by simp)
    | some u =>
     rcases hO b with z|⟨ob,xs,z⟩
     ·rw[q] at z;cases z
     ·have z2:=un.frzs b ob _ z;obtain⟨e1,_⟩:=hok b _ z;obtain⟨e2,_⟩:=hok' b _ z2;rw[e] at e1;cases e1;exact e2
 cases hk:K.lookup a with
 | some o =>
  have e:=KX a o hk;rw[ha] at e;cases e;refine core (λ_=>none) (λ_=>.inl rfl) (.inr ⟨_,vs.toArray,_,hk,rfl,rfl,rfl,by rw[ypa,lenV];exact hl,by simpa using rv⟩) (λb u z=>by have z':(none:Option HO)=some u:=z;cases z') (λb z=>absurd rfl z) λz=>absurd rfl z
 | none =>
  refine core (λb=>if b=a then some (.frz { cls:=.type "list",data:=.seq vs.toArray } (.lst (ns.map V.int))) else none) (λb=>?_) (.inl (.inr ⟨{ cls:=.type "list",data:=.seq vs.toArray },if_pos rfl⟩)) (λb u z=>?_) (λb z=>?_) λ_=>hk
  ·by_cases hb:b=a
   ·exact .inr ⟨_,_,if_pos hb⟩
   ·exact .inl (if_neg hb)
  ·by_cases hb:b=a
   ·have z':=(if_pos hb).symm.trans z;cases z';subst hb;exact⟨ha,by rw[yda];exact hl,vs,_,rv,ha⟩
   ·have z':=(if_neg hb).symm.trans z;cases z'
  ·by_cases hb:b=a
   ·exact hb
   ·exact absurd (if_neg hb) z
end L2
namespace L2
open PySem PySem.Spec PyProof.Rows
abbrev KOf {K:yba}{h:Heap}(_:K.In h):yba:=K
theorem zrnb {l:ybm}{n k:Nat}{q:ypb}{loose:List Str}{XP:(Str->Option Value)->Heap->Prop}{YP:World->Heap->Prop}{d:DefRec}{K:Params->yba}{CX:World->CXT}{sp:World->Sp}{x:Str}
  (hn:l.most=some n) (hn2:n≤yta) (hdf:d.params.defaults=[]) (hr:Room k ydo)
  (hY:∀(w:World) (h:Heap),YP w h->(K w.params).In h)
  (F:∀(w:World) (mg:Str->Option Value) (fa:Addr) (h:Heap),(K w.params).In h->h.Ns yab mg->mg d.name=some (.ref fa) →
   ∃fd:yxe,(∀(s:Shared) (u:Value),yao s fd ⟨[u],[]⟩ [(x,u)]) ∧
    ∀base:Heap,(K w.params).In base->base.Ns yab mg->FnOk l.prog w (K w.params) mg base (CX w) k fa fd [x] (sp w))
  (hsp:∀(w:World) (H:Hp) (a:Addr) (ns:List Int),ns.length≤n->Only H->SqL (K w.params) H a (ns.map V.int)->sp w [.ref a] H (λv _=>v = .bl true) λ_ _ _=>False)
  (hCX:∀(w:World) (H:Hp) (s:Shared) (e:Value) (s':Shared),CX w [] H s (λ_ _ _=>False) e s'->False) :
  yrp q loose XP YP l.row.toRowW d [] (λf vs=>yqp f vs):=by
 refine Att.zicb hn hdf λw s₀ s₁ mg mb fa o pm cd doc a vs ns G Y ho hd hcd hmg hobj hints hlen hg=>?_;have KX:=hY w _ Y;obtain⟨fd,hb,hF⟩:=F w mg fa _ KX G.T.g hmg;exact zzlb KX G.T.g G.T.b G.T.builtins G.T.nolimit hg hobj hints (yxa hlen hn2) hr hF hb (λH hO hS=>hsp w H a ns hlen hO hS) λH e s'=>hCX w H s₁ e s'
end L2
namespace L2
open PySem PySem.Spec PyProof.Rows
def inClass (s:Stmt)(j:Nat):Stmt:=match s with
 | .ClassDef _ _ _ body _ _ _ _ _ _ _=>body.getD j (.Pass ⟨0,0,0,0⟩)
 | _=>.Pass ⟨0,0,0,0⟩
def zqm (s:Stmt):Arguments:=match s with
 | .FunctionDef _ a _ _ _ _ _ _ _ _=>a
 | _=>{ posonlyargs:=[],args:=[],vararg:=none,kwonlyargs:=[],kw_defaults:=[],kwarg:=none,defaults:=[] }
def zdi (s:Stmt):List Stmt:=match s with
 | .FunctionDef _ _ b _ _ _ _ _ _ _=>b
 | _=>[]
def zla (s:Stmt):Scope:=match s with
 | .FunctionDef _ _ _ _ _ _ sc _ _ _=>sc
 | _=>{ kind:=.function,names:=[],isGenerator:=false,isCoroutine:=false }
abbrev CX0:CXT:=λ_ _ _ _ _ _=>False
abbrev E0:XK:=λ_ _ _=>False
theorem zva {X:Cx}:Passes CX0 X E0:=λ_ _ _ _ _ _ _ h=>h.elim
structure Fun (K:yba)(x qual:Str)(st:Stmt)(f:Addr)(fd:yxe):Prop where
 ex:Ex9 λ(oc:Value) (od:Option Addr) (kV doc pm:Value) (an:Option Addr) (cdv ct:Value) (osl:Array (Option Value)) =>
  fd=yuf x qual (zqm st) (zdi st) (zla st) .none kV doc pm an cdv ct∧K.lookup f=some ⟨oc,od,.func fd,osl⟩∧ywg K cdv qual=true
 kp:yme K (.ref f)=true
section
variable {P:ypb}{w:World}{K:yba}{mg:Str->Option Value}{base:Heap}
theorem Fun.ok {x qual:Str}{st:Stmt}{f:Addr}{fd:yxe}{N ps:List Str}{k:Nat}{sp:Sp}(F:Fun K x qual st f fd)(S:zya N ps (zla st))(len:∀vs H Q E,sp vs H Q E->vs.length=ps.length)
  (hbody:∀(cdv:Value) (A:Around) (outer:List Env) (s:Shared) (H:Hp) (vs:List V) (Q:VK) (E:XK),Room k (A.deeper (envOfC qual (zla st) s.heap.objs.size f cdv))->sp vs H Q E →
   ∃t,PSs (cxOf CX0 P w K mg base N qual (zla st) f cdv A outer s H E).nox (zdi st) t∧t { nx:=λ_ H'=>Q .non H',rt:=Q } (start N vs) H):FnOk P w K mg base CX0 (k+1) f fd ps sp:=by
 obtain⟨oc,od,kV,doc,pm,an,cdv,ct,osl,rfl,lk,hcd⟩:=F.ex;refine zyub lk hcd S len λA outer s H vs Q E hr hsp=>?_;obtain⟨t,h,q⟩:=hbody cdv A outer s H vs Q E hr hsp;exact⟨t,h.nox,q⟩
theorem Fun.binds {x qual:Str}{st:Stmt}{f:Addr}{fd:yxe}{ps:List Str}(F:Fun K x qual st f fd)
  (h:∀(kV doc pm:Value) (an:Option Addr) (cdv ct:Value) (us:List Value),us.length=ps.length->bindArgs (yuf x qual (zqm st) (zdi st) (zla st) .none kV doc pm an cdv ct) ⟨us,[]⟩=pure (ps.zip us)):Binds K fd ps []:=by
 obtain⟨oc,od,kV,doc,pm,an,cdv,ct,osl,rfl,lk,hcd⟩:=F.ex;exact .all (h kV doc pm an cdv ct)
theorem zyib {x qual:Str}{st:Stmt}{f:Addr}{oc:Value}{od an:Option Addr}{osl:Array (Option Value)}{kV doc pm cdv ct:Value}(l:K.lookup f=some ⟨oc,od,.func (yuf x qual (zqm st) (zdi st) (zla st) .none kV doc pm an cdv ct),osl⟩)
  (c:ywg K cdv qual=true) (k:yme K (.ref f)=true):Fun K x qual st f (yuf x qual (zqm st) (zdi st) (zla st) .none kV doc pm an cdv ct):=⟨⟨oc,od,kV,doc,pm,an,cdv,ct,osl,rfl,l,c⟩,k⟩
end
theorem zjc {n:Nat}(h:n≤1000):n<yta:=Nat.lt_of_le_of_lt h (by decide)
section
variable {X:Cx}
theorem pv (i:Nat){x:Str}{pos:Pos}(hN:X.N[i]?=some x:=by rfl)(hv:Vis X.env.scope x:=by first|exact Or.inl rfl|exact Or.inr (Or.inl rfl)|exact Or.inr (Or.inr rfl))(hd:(x==("__debug__":Str))=false:=by decide)
  (hcd:(x==("__classdict__":Str))=false:=by decide):PE X (.Name x pos) (tVar i):=zcsb hN hv hd hcd
end
theorem iteF {A B:Prop}(h:B):if false=true then A else B:=by
 rw[if_neg ywa];exact h
theorem iteT {A B:Prop}(h:A):if true=true then A else B:=by
 rw[if_pos rfl];exact h
theorem ite2 {c A B:Prop}[Decidable c](h1:c->A)(h2:¬ c->B):if c then A else B:=by
 by_cases h:c
 ·rw[if_pos h];exact h1 h
 ·rw[if_neg h];exact h2 h
def Same (H H':Hp):Prop:=∀b o,H b=some o->H' b=some o
theorem Same.refl (H:Hp):Same H H:=λ_ _ h=>h
theorem Same.trans {H H1 H2:Hp}(a:Same H H1)(b:Same H1 H2):Same H H2:=λc o h=>b c o (a c o h)
end L2
namespace L2
open PySem PySem.Spec PyProof.Rows
def clGo (cells:List (Str×Addr)):List (Str×ymc)->List (Str×Addr)->List (Str×Addr)
 | [],cs=>cs
 | (n,k)::r,cs=>clGo cells r (if k == .free then (match cells.lookup n with|some c=>(n,c)::cs|none=>cs) else cs)
def clOf (sc:Scope)(cells:List (Str×Addr)):List (Str×Addr):=clGo cells sc.names []
theorem zav {sc:Scope}{env:Env}(h:∀y∈sc.names,y.2 = .free->∃c,env.cells.lookup y.1=some c):closureFor sc env=pure (clOf sc env.cells):=by
 have go:∀(l:List (Str×ymc)) (cs:List (Str×Addr)),(∀y∈l,y.2 = .free->∃c,env.cells.lookup y.1=some c) →
   (forIn l cs (λ(x:Str×ymc) (r:List (Str×Addr))=>(match x with|(name,kind)=>if kind==ymc.free then (do let c ← cellOf env name;pure (ForInStep.yield ((name,c)::r))) else pure (ForInStep.yield r):Sem (ForInStep (List (Str×Addr))))))=pure (clGo env.cells l cs):=by
  intro l
  induction l with
  | nil=>intro cs _;rfl
  | cons y r ih =>
   intro cs h;obtain⟨n,k⟩:=y;have hr:∀y∈r,y.2 = .free->∃c,env.cells.lookup y.1=some c:=λy hy=>h y (yna _ hy);rw[List.forIn_cons]
   by_cases hk:k = .free
   ·subst hk;obtain⟨c,e⟩:=h (n,.free) yka rfl;have e':env.cells.lookup n=some c:=e;simp only[beq_self_eq_true,if_true,cellOf,e',pure_bind,clGo];exact ih _ hr
   ·have hb:(k==ymc.free)=false:=by simpa using hk
    simp only[hb,ybe,if_false,pure_bind,clGo];exact ih _ hr
 unfold closureFor clOf;refine Eq.trans (bind_pure _) ?_;exact go sc.names [] h
theorem zar {cells:List (Str×Addr)}:∀(l:List (Str×ymc)) (cs:List (Str×Addr)),(∀x c,cs.lookup x=some c->cells.lookup x=some c)->∀x c,(clGo cells l cs).lookup x=some c->cells.lookup x=some c
 | [],_,h,x,c,e=>h x c e
 | (n,k)::r,cs,h,x,c,e=>by
  refine zar r _ (λy d z=>?_) x c e
  by_cases hk:(k==ymc.free)=true
  ·rw[if_pos hk] at z;cases q:cells.lookup n with
   | none=>rw[q] at z;exact h y d z
   | some a =>
    rw[q] at z;have z':yxd y ((n,a)::cs)=some d:=z;rw[yde] at z';cases hy:y==n with
    | true =>
     rw[hy] at z';have ey:y=n:=(by simpa using hy);rw[ey,q];exact z'
    | false =>
     rw[hy] at z';exact h y d z'
  ·rw[if_neg hk] at z;exact h y d z
theorem zmeb {cells:List (Str×Addr)}:∀(l:List (Str×ymc)) (cs:List (Str×Addr)) (x:Str),((x,ymc.free)∈l∧(∃c,cells.lookup x=some c))∨(∃c,cs.lookup x=some c)->∃c,(clGo cells l cs).lookup x=some c
 | [],cs,x,h=>by
  rcases h with⟨h,_⟩|h
  ·cases h
  ·exact h
 | (n,k)::r,cs,x,h=>by
  refine zmeb r _ x ?_;have put:(∃c,cs.lookup x=some c)->∃c,(if (k==ymc.free)=true then (match cells.lookup n with|some c=>(n,c)::cs|none=>cs) else cs).lookup x=some c:=λ⟨c,e⟩=>by
   by_cases hk:(k==ymc.free)=true
   ·rw[if_pos hk];cases q:cells.lookup n with
    | none=>exact⟨c,e⟩
    | some a =>
     show ∃c,yxd x ((n,a)::cs)=some c
     rw[yde];cases hy:x==n with
     | true=>exact⟨a,rfl⟩
     | false=>exact⟨c,e⟩
   ·rw[if_neg hk];exact⟨c,e⟩
  rcases h with⟨h,c,e⟩|h
  ·rcases yja.mp h with z|z
   ·injection z with z1 z2
    subst z1;subst z2;refine .inr ⟨c,?_⟩;show yxd x (match cells.lookup x with|some c=>(x,c)::cs|none=>cs)=some c
    rw[e];show yxd x ((x,c)::cs)=some c
    rw[yde,beq_self_eq_true]
   ·exact .inl ⟨z,c,e⟩
  ·exact .inr (put h)
theorem zdq {env:Env}:∀{l:List (Str×ymc)} {x:Str},(∀y∈l,y.2≠ymc.cell) →
  ((l.map λ(n,k)=>if (k==ymc.free&&env.scope.kind == .function&&env.kindOf n==some .cell) then (n,ymc.cell) else (n,k)).lookup x=some .cell ∨
   (l.map λ(n,k)=>if (k==ymc.free&&env.scope.kind == .function&&env.kindOf n==some .cell) then (n,ymc.cell) else (n,k)).lookup x=some .free)->(x,ymc.free)∈l
 | [],x,_,h=>by rcases h with h|h<;>simp at h
 | (n,k)::r,x,hc,h=>by
  rw[yva] at h;have nk:k≠ymc.cell:=hc (n,k) yka
  by_cases hx:x=n
  ·subst hx;have kf:k = .free:=by
    by_cases q:(k==ymc.free&&env.scope.kind == .function&&env.kindOf x==some .cell)=true
    ·rw[yec,yec] at q
     simpa using q.1.1
    ·have e:(match (x,k) with|(n,k)=>if (k==ymc.free&&env.scope.kind == .function&&env.kindOf n==some .cell)=true then (n,ymc.cell) else (n,k))=(x,k):=if_neg q;rw[e,yde,beq_self_eq_true] at h
     rcases h with h|h
     ·exact absurd (yfc h) nk
     ·exact yfc h
   subst kf;exact yka
  ·refine yna _ (zdq (env:=env) (λy hy=>hc y (yna _ hy)) ?_);have hb:(x==n)=false:=by simpa using hx
   by_cases q:(k==ymc.free&&env.scope.kind == .function&&env.kindOf n==some .cell)=true
   ·have e:(match (n,k) with|(n,k)=>if (k==ymc.free&&env.scope.kind == .function&&env.kindOf n==some .cell)=true then (n,ymc.cell) else (n,k))=(n,ymc.cell):=if_pos q;rw[e,yde,hb] at h;exact h
   ·have e:(match (n,k) with|(n,k)=>if (k==ymc.free&&env.scope.kind == .function&&env.kindOf n==some .cell)=true then (n,ymc.cell) else (n,k))=(n,k):=if_neg q;rw[e,yde,hb] at h;exact h
def blk (X:Cx)(N':List Str)(sc:Scope)(fp:List Addr)(s:Shared)(H:Hp)(C:Addr):Cx where
 prog:=X.prog
 w:=X.w
 K:=X.K
 mg:=X.mg
 base:=X.base
 A:=X.A
 N:=N'
 s₀:=s
 H₀:=H
 env:=compEnvC sc (clOf sc X.env.cells) C X.env
 outer:=X.stack
 stack:=X.stack
 ex:=fp
 fn:=λ_=>false
 calm:=X.calm
 pn:=[]
 xe:=λ_ _=>False
inductive Caps (X:Cx)(sc:Scope):List Str->List Nat->Prop where
 | nil:Caps X sc [] []
 | cons {x:Str} {j:Nat} {cap:List Str} {js:List Nat} (hj:X.N[j]?=some x) (hk:X.env.kindOf x=some .cell∨X.env.kindOf x=some .free)
   (hr:(yeo sc X.env).names.lookup x=some .cell∨(yeo sc X.env).names.lookup x=some .free):Caps X sc cap js->Caps X sc (x::cap) (j::js)
structure zpc (X:Cx)(sc:Scope):Prop where
 kind:sc.kind = .function
 cell:∀y∈sc.names,y.2 ≠ .cell
 names:∀y∈sc.names,y.2 = .local->sc.names.lookup y.1=some .local
 free:∀y∈sc.names,y.2 = .free->X.env.kindOf y.1=some .cell∨X.env.kindOf y.1=some .free
def zutb (sc:Scope)(nm:List (Str×ymc)):Bool:=sc.names.all λy=>y.2 != .cell&&(y.2 != .local||sc.names.lookup y.1==some .local)&&(y.2 != .free||(nm.lookup y.1==some .cell||nm.lookup y.1==some .free))
theorem zpc.chk {X:Cx}{sc:Scope}(hk:sc.kind = .function)(h:zutb sc X.env.scope.names=true):zpc X sc:=by
 have a:=ycf.mp h;refine⟨hk,λy hy e=>?_,λy hy e=>?_,λy hy e=>?_⟩
 ·have q:=a y hy;rw[e] at q;simp at q
 ·have q:=a y hy;rw[e] at q
  simpa using q
 ·have q:=a y hy;rw[e] at q;have q':X.env.scope.names.lookup y.1=some .cell∨X.env.scope.names.lookup y.1=some .free:=by simpa using q
  exact q'
def zfh (n:Nat)(js:List Nat)(σ:St):St:=ytc n none++js.map λj=>(σ[j]?).join
theorem Caps.len {X:Cx}{sc:Scope}:∀{cap:List Str} {js:List Nat},Caps X sc cap js->cap.length=js.length
 | _,_,.nil=>rfl
 | _,_,.cons _ _ _ c=>by rw[yha,yha,c.len]
theorem Caps.get {X:Cx}{sc:Scope}:∀{cap:List Str} {js:List Nat},Caps X sc cap js->∀{i:Nat} {x:Str},cap[i]?=some x →
  ∃j,js[i]?=some j∧X.N[j]?=some x∧(X.env.kindOf x=some .cell∨X.env.kindOf x=some .free)∧((yeo sc X.env).names.lookup x=some .cell∨(yeo sc X.env).names.lookup x=some .free)
 | _,_,.nil,i,x,e=>by simp at e
 | _,_,.cons hj hk hr c,0,x,e=>by
  rw[yge] at e;cases e;exact⟨_,rfl,hj,hk,hr⟩
 | _,_,.cons hj hk hr c,i+1,x,e=>by
  rw[yyb] at e;obtain⟨j,h1,h2⟩:=c.get e;exact⟨j,by rw[yyb];exact h1,h2⟩
theorem ztjb {X:Cx}{sc:Scope}{own cap:List Str}{js:List Nat}{σ:St}(C:Caps X sc cap js):(zfh own.length js σ).length=(own++cap).length:=by
 unfold zfh;rw[yea,ylg,yda,yea,C.len]
theorem zsz {n:Nat}{js:List Nat}{σ:St}{i:Nat}{v:V}(e:(zfh n js σ)[i]?=some (some v)):n≤i∧∃j,js[i-n]?=some j∧σ[j]?=some (some v):=by
 unfold zfh at e
 by_cases h:i<n
 ·rw[yzd (by simpa using h),yuk,if_pos h] at e;cases e
 ·refine⟨by omega,?_⟩;rw[ywb (by rw[ylg];omega),ylg,yub] at e;cases q:js[i-n]? with
  | none=>rw[q] at e;cases e
  | some j =>
   rw[q] at e;have e':(σ[j]?).join=some v:=yfc e;refine⟨j,rfl,?_⟩;cases z:σ[j]? with
   | none=>rw[z] at e';cases e'
   | some o =>
    rw[z] at e';have e2:o=some v:=e';rw[e2]
theorem zdv {n:Nat}{js:List Nat}{σ σ2:St}(hd:σ2.drop n=(zfh n js σ).drop n){i:Nat}{v:V}(e:(zfh n js σ)[i]?=some (some v)):σ2[i]?=some (some v):=by
 have h:=(zsz e).1;have q:(σ2.drop n)[i-n]?=((zfh n js σ).drop n)[i-n]?:=by rw[hd]
 rw[yff,yff,show n+(i-n)=i by omega] at q;rw[q];exact e
def PTs (X:Cx)(ifs:List Expr)(t:TT):Prop :=
 ∀(pins:List (Addr×Obj)) (s:Shared) (σ:St) (H:Hp) (Q:Bool->Hp->Prop),Inv X pins σ H s->t σ H Q →
  wpAny (model X.prog X.w) X.A (forIn ifs true λc r=>if r=true then do let ok ← isTrue c X.env (eval c X.env);pure (ForInStep.yield ok) else pure (ForInStep.yield r)) (TP X pins σ Q) X.xe s
def zbrb:TT:=λ_ H Q=>Q true H
theorem zcl {X:Cx}:PTs X [] zbrb:=λ_ _ _ H _ I h=>wpAny_tests_nil ⟨H,I,h⟩
theorem zbl {X:Cx}{c:Expr}{t:TT}(hc:PT X c t):PTs X [c] t:=λpins s σ H Q I h=>wpAny_tests_one (hc pins s σ H Q I h)
theorem zpz {prog:ypb}{w:World}{A:Around}{R:Result->Shared->Prop}{s:Shared}{elt tg iter:Expr}{ifs:List Expr}{scope:Scope}{pos:Pos}{it acc:Value}{env:Env}(I:Nat->Shared->Prop)
  (turn:∀n s,I n s->wpAny (model prog w) A (pyNext it) (λr s₁=>match r with
   | none=>R (.ok .next) s₁
   | some v=>wpAny (model prog w) A (yvi tg it v) (λ_ s₀=>wpAny (model prog w) A (assign tg env v) (λ_ s₂ =>
     wpAny (model prog w) A (forIn ifs true λc r=>if r=true then do let ok ← isTrue c env (eval c env);pure (ForInStep.yield ok) else pure (ForInStep.yield r)) (λok s₃ =>
      if ok=true then wpAny (model prog w) A (eval elt env) (λx s₄ =>
       wpAny (model prog w) A (call (.builtin "list.append") [acc,x]) (λ_ s₅=>∃m,m<n∧I m s₅) (ybp (model prog w) A env λe s'=>R (.error e) s') s₄) (ybp (model prog w) A env λe s'=>R (.error e) s') s₃
      else ∃m,m<n∧I m s₃) (ybp (model prog w) A env λe s'=>R (.error e) s') s₂) (ybp (model prog w) A env λe s'=>R (.error e) s') s₀) (ybp (model prog w) A env λe s'=>R (.error e) s') s₁)
    (ybp (model prog w) A env λe s'=>R (.error e) s') s)
  (n:Nat) (h:I n s) :
  yyi (model prog w) A (.compLoop (.ListComp elt [⟨tg,iter,ifs,0⟩] scope pos) 0 it acc env) R s:=by
 refine codeAny_loop rfl I (λn s hI=>?_) n h;show wpAny _ A ((compTurn (.ListComp elt [⟨tg,iter,ifs,0⟩] scope pos) 0 it acc env).onRaise (λx=>do noteFrame x env;theTreesLotGoes x)) _ _ s
 refine wpAny_noted ?_;rw[compTurn_list];refine yaa (yrk (yaa (ytd (turn n s hI) (λr s₁ h₁=>?_) λ_ _ h'=>h')));cases r with
 | none=>exact yga h₁
 | some v =>
  refine yaa (ytd h₁ (λ_ s₀ h₀=>?_) λ_ _ h'=>h');refine yaa (ytd h₀ (λ_ s₂ h₂=>yaa (ytd h₂ (λok s₃ h₃=>?_) λ_ _ h'=>h')) λ_ _ h'=>h');cases ok with
  | false=>exact yga ⟨rfl,h₃⟩
  | true =>
   exact yaa (yaa (ytd h₃ (λx s₄ h₄=>yaa (ytd h₄ (λ_ s₅ h₅=>yga (yga ⟨rfl,h₅⟩)) λ_ _ h'=>h')) λ_ _ h'=>h'))
def zjgb (J:It)(H1:Hp)(g:TG)(tt:TT)(te:TE)(n:Nat)(js:List Nat)(σ:St)(Q:VK):Prop:=∃W:Nat->Nat->List V->Hp->Prop,(∃m,W 0 m [] H1)∧∀i m ys H,W i m ys H →
 (J.stop i H∧ys.length≤yta∧∀p,H p=none->Q (.ref p) (upd H p (.lst ys))) ∨
 (J.go i H∧ys.length≤yta∧∃N:List V->Hp->Prop,(∀ys' H',N ys' H'->∃m',m'<m∧W (i+1) m' ys' H')∧∀x H',J.yld i H x H'->g x (zfh n js σ) H' fun σ2 H2=>σ2.drop n=(zfh n js σ).drop n∧tt σ2 H2 λb H3 =>
  if b=true then te σ2 H3 λy H4=>N (ys++[y]) H4 else N ys H3)
def zirb (wi:TI)(g:TG)(tt:TT)(te:TE)(n:Nat)(js:List Nat):TE:=fun σ H Q=>wi σ H λJ H1=>zjgb J H1 g tt te n js σ Q
section
variable {X:Cx}
theorem Vals.snoc {xs:List V}{us:List Value}{x:V}{u:Value}(r:Vals xs us)(q:RelV x u):Vals (xs++[x]) (us++[u]):=r.append (.cons q .nil)
theorem zqjb {pins:List (Addr×Obj)}{σ:St}{H:Hp}{s s3:Shared}{sc:Scope}{own cap:List Str}{js:List Nat}{fp:List Addr}{C:Addr}{tn:Nat->Heap->Prop}{h₁:Heap}{tk:Nat}{m:Str->Option Value}(I:Inv X pins σ H s)(S:zpc X sc)(cp:Caps X sc cap js)
  (hob:∀b∈fp,∃o,s.heap.get? b=some o∧∀v,o.data ≠ .cell v) (hf:∀b∈fp,FpOk X pins H b) (hC:s.heap.objs.size≤C) (hn:h₁.Ns C m) (old:∀b o,s.heap.get? b=some o->h₁.get? b=some o) :
  Inv (blk X (own++cap) sc fp s H C) [] (zfh own.length js σ) H { s with heap:=h₁,toks:=tk }:=by
 have sub:∀x c,(clOf sc X.env.cells).lookup x=some c->X.env.cells.lookup x=some c:=zar sc.names [] (λx c e=>by simp at e);have has:∀x,((yeo sc X.env).names.lookup x=some .cell∨(yeo sc X.env).names.lookup x=some .free)->∃c,(clOf sc X.env.cells).lookup x=some c:=λx hx=>by
  have hm:=zdq (env:=X.env) (l:=sc.names) (x:=x) S.cell hx;exact zmeb sc.names [] x (.inl ⟨hm,I.ok.has x (S.free _ hm rfl)⟩)
 refine⟨⟨I.ok.mod,S.kind,I.ok.glob,I.ok.blt,hC,λx y c e1 e2=>I.ok.inj x y c (sub x c e1) (sub y c e2),has,(λx c e=>by cases e),I.ok.hd,I.ok.frames,.inl rfl,λb hb=>?_,I.bs,yxa I.ok.bsz I.sz,λb o e hb=>?_,λb hb z=>?_,I.stack,I.zugb⟩,
  rfl,I.bare,Un.kept old,⟨m,hn,λi x v h1 h2 h3=>?_⟩,λx c e=>?_,I.hok.fresh hC,λx c e=>I.freeC x c (sub x c e),λp hp=>absurd (show p∈([]:List (Addr×Obj)) from hp) (by simp),I.hok.kept old,ztjb cp⟩
 ·obtain⟨o,e,_⟩:=hob b hb;refine⟨yhb (yoa (yra e) hC),λx c e=>?_⟩;exact (hf b hb).2.2.2.2.1 x c (sub x c e)
 ·obtain⟨_,_,_,h4,_,_⟩:=hf b hb
  rcases h4 with z|z
  ·exact I.ok.noex b o e z
  ·exact absurd (yoa (yra e) (yxa I.ok.bsz z)) (yrd _)
 ·obtain⟨_,h2,h3,_⟩:=hf b hb
  rcases yja.mp (I.zkdb b z) with q|q
  ·exact h2 q
  ·exact h3 q
 ·obtain⟨hni,j,hj,hv⟩:=zsz h2;have h1':(own++cap)[i]?=some x:=h1;rw[ywb hni] at h1';obtain⟨j',e1,e2,e3,e4⟩:=cp.get h1';rw[hj] at e1;cases e1;obtain⟨m0,hn0,hl0⟩:=I.loc;have vis:Vis X.env.scope x:=.inr e3;obtain⟨u,ru,lk⟩:=hl0 j x v e2 hv vis;refine⟨u,ru,?_⟩
  rcases lk with⟨k,_⟩|⟨k,c,ec,hc⟩
  ·exfalso
   rcases e3 with q|q
   ·rw[q] at k;cases k
   ·rw[q] at k;cases k
  ·obtain⟨c',ec'⟩:=has x e4;have q:=sub x c' ec';rw[ec] at q;cases q;exact .inr ⟨e4,c,ec',hc.keeps old⟩
 ·obtain⟨v,z⟩:=I.cell x c (sub x c e);exact⟨v,z.keeps old⟩
theorem zsjb {pins pn:List (Addr×Obj)}{σ σ':St}{H H':Hp}{s s':Shared}{sc:Scope}{N':List Str}{fp:List Addr}{C D:Addr}{h':Heap}{ys:List V}{its:List Value}{nn:Nat}(I:Inv X pins σ H s)(J:Inv (blk X N' sc fp s H C) pn σ' H' s')
  (hf:∀b∈fp,FpOk X pins H b) (hC:s.heap.objs.size≤C) (hD:s.heap.objs.size≤D) (hDC:D≠C) (hn:H' D=none) (ho:s'.heap.get? D=some { cls:=.type "list",data:=.seq its.toArray nn }) (hz:ys.length≤yta) (rv:Vals ys its)
  (hs:ywc C s'.heap h'):Inv X pins σ (upd H' D (.lst ys)) { s' with heap:=h' }:=by
 have u:Un (frs X.stack) fp H H' s.heap s'.heap:=J.base;have low:∀b o,s.heap.get? b=some o->b≠C∧b≠D:=λb o e=>⟨yhb (yoa (yra e) hC),yhb (yoa (yra e) hD)⟩;have kp:∀b o,b≠C->s'.heap.get? b=some o->h'.get? b=some o:=λb o hb e=>(hs.2 b hb).trans e;have u2:Un (frs X.stack) fp H (upd H' D (.lst ys)) s.heap h':=by
  refine⟨λb o e n hb hx=>kp b o (low b o e).1 (u.keep b o e n hb hx),λb o e n hb hx=>?_,λb o e n hx=>?_,λb o e hx=>?_,λb xs e=>?_,λb o xs e=>?_,λb ps e=>?_⟩
  ·obtain⟨sl,q⟩:=u.slot b o e n hb hx;exact⟨sl,kp b _ (low b o e).1 q⟩
  ·rw[zza (low b o e).2];exact u.free b o e n hx
  ·obtain⟨o',q⟩:=u.there b o e hx;exact⟨o',kp b _ (low b o e).1 q⟩
  ·have q:=u.tups b xs e;rw[zza (zka q hn)];exact q
  ·have q:=u.frzs b o xs e;rw[zza (zka q hn)];exact q
  ·obtain⟨more,q⟩:=u.tbls b ps e;exact⟨more,by rw[zza (zka q hn)];exact q⟩
 have nC:H' C=none:=J.free;have hok:HOk X.prog X.w (upd H' D (.lst ys)) h':=λb o e=>by
  by_cases hb:b=D
  ·subst hb;rw[zga] at e;cases e;exact⟨hz,its,nn,rv,kp b _ hDC ho⟩
  ·rw[zza hb] at e;refine (J.hok b o e).stay (λc v hc q=>kp c v ?_ q) (λc q=>?_) λc xs q=>?_
   ·rintro rfl
    rcases hc with z|z
    ·rw[← z,nC] at e;cases e
    ·rw[nC] at z;cases z
   ·rw[zza (zka q hn)];exact q
   ·rw[zza (zka q hn)];exact q
 have os:=J.os;have bare:=J.bare;obtain⟨hh,g,d,t,os'⟩:=s';obtain rfl:os'=s.os:=os;have z:=I.call (h':=h') (g':=g) (d':=d) (t':=t) (ch:=fp) u2 hok bare λb hb=>⟨(hf b hb).2.2.2.1,(hf b hb).2.1,(hf b hb).2.2.2.2.1,(hf b hb).2.2.2.2.2⟩;exact z
theorem zrjb {elt iter tg:Expr}{ifs:List Expr}{sc:Scope}{pos:Pos}{own cap:List Str}{js:List Nat}{g:TG}{tt:TT}{te:TE}{Qf:List V->Hp->Prop}{RR:Value->Addr->Result->Shared->Prop}{E:Value->Shared->Prop}
  {pins:List (Addr×Obj)} {σ:St} {H2:Hp} {s2:Shared} {it:Addr} {fp:List Addr} {tn:Nat->Heap->Prop} {J:It} {W:Nat->Nat->List V->Hp->Prop} {m0:Nat}
  (hc:X.calm=true) (S:zpc X sc) (cp:Caps X sc cap js)
  (hg:∀fp s H C,PG (blk X (own++cap) sc fp s H C) tg g) (ht:∀fp s H C,PTs (blk X (own++cap) sc fp s H C) ifs tt) (he:∀fp s H C,PE (blk X (own++cap) sc fp s H C) elt te)
  (I2:Inv X pins σ H2 s2) (T:Turn X.prog X.w X.K tg J fp it tn) (st2:tn 0 s2.heap) (f2:∀b∈fp,FpOk X pins H2 b) (w0:W 0 m0 [] H2)
  (turn:∀i m ys H,W i m ys H->(J.stop i H∧ys.length≤yta∧Qf ys H) ∨
   (J.go i H∧ys.length≤yta∧∃N:List V->Hp->Prop,(∀ys' H',N ys' H'->∃m',m'<m∧W (i+1) m' ys' H')∧∀x H',J.yld i H x H'->g x (zfh own.length js σ) H' fun σ2 H2=>σ2.drop own.length=(zfh own.length js σ).drop own.length∧tt σ2 H2 λb H3 =>
    if b=true then te σ2 H3 λy H4=>N (ys++[y]) H4 else N ys H3))
  (hRR:∀D C H4 s4 pn ys its nn,s2.heap.objs.size≤D->s2.heap.objs.size≤C->D≠C->Inv (blk X (own++cap) sc fp s2 H2 C) pn (zfh own.length js σ) H4 s4->H4 D=none->s4.heap.get? D=some { cls:=.type "list",data:=.seq its.toArray nn } →
   ys.length≤yta->Vals ys its->Qf ys H4->RR (.ref D) C (.ok .next) s4) :
  wpAny (model X.prog X.w) X.A (newList []) (λacc s₃=>wpAny (model X.prog X.w) X.A (newFunctionEnv sc X.env.globals (clOf sc X.env.cells) [] X.env.qual none .none (some X.env)) (λcenv s₄ =>
   yyi (model X.prog X.w) X.A (.compStart (.ListComp elt [⟨tg,iter,ifs,0⟩] sc pos) 0 (.ref it) acc { cenv with scope:=yeo sc X.env }) (RR acc cenv.locals) s₄) E s₃) E s2:=by
 refine yuc (wpAny_newFunctionEnv S.cell (by intro y hy;simp at hy) (λh₁ hns₁ hsb₁=>?_) S.kind);dsimp only at hns₁ hsb₁ ⊢;generalize hH2:s2.heap.push { cls:=.type "list",dict:=none,data:=.seq ([]:List Value).toArray }=HH at hns₁ hsb₁ ⊢;generalize hDd:s2.heap.objs.size=D at hns₁ hsb₁ ⊢;generalize hCc:HH.objs.size=C at hns₁ hsb₁ ⊢;have hC:C=D+1:=by rw[← hCc,← hH2,yif,hDd]
 have hDC:D≠C:=by rw[hC];exact yhb (yfg _)
 have hCle:s2.heap.objs.size≤C:=by rw[hDd,hC];exact yzf _
 have hDle:s2.heap.objs.size≤D:=yvl hDd;have below:∀b,b<s2.heap.objs.size->b≠C∧b≠D:=λb hb=>⟨yhb (yoa hb hCle),yhb (yoa hb hDle)⟩;have old:∀b o,s2.heap.get? b=some o->h₁.get? b=some o:=λb o e=>hsb₁.extBut b o (below b (yra e)).1 (yca _ (hH2▸yca _ e));have q0:HH.get? D=some { cls:=.type "list",data:=.seq ([]:List Value).toArray 0 }:=by
  rw[← hH2,← hDd];exact yla _ rfl
 have hacc:h₁.get? D=some { cls:=.type "list",data:=.seq ([]:List Value).toArray 0 }:=hsb₁.extBut _ _ hDC (yca _ q0);have fpo:=T.obj 0 _ st2;have fplt:∀b∈fp,b<s2.heap.objs.size:=λb hb=>by obtain⟨o,e,_⟩:=fpo b hb;exact yra e
 have st3:tn 0 h₁:=T.keep 0 _ _ st2 λb hb o e=>old b o e;have I3:∀tk,Inv (blk X (own++cap) sc fp s2 H2 C) [] (zfh own.length js σ) H2 { s2 with heap:=h₁,toks:=tk }:=λtk=>zqjb (s3:=s2) (tn:=tn) I2 S cp fpo f2 hCle hns₁ old;have stkD:∀b,s2.heap.objs.size≤b->b∉frs X.stack:=λb hb hm=>by
  obtain⟨_,o,e,_⟩:=I2.stack.mem hm;exact absurd (yoa (yra e) hb) (yrd _)
 have nD:H2 D=none:=I2.hok.fresh hDle;have stat:∀{pn:List (Addr×Obj)} {H':Hp},(∀p∈pn,p.1=D)->(∀b∈fp,H' b=none)->∀b∈fp,FpOk (blk X (own++cap) sc fp s2 H2 C) pn H' b:=λ{pn H'} hp hn b hb=>by
  refine⟨hn b hb,(below b (fplt b hb)).1,λz=>?_,.inl hb,λx c e=>?_,λp hp' z=>?_⟩
  ·obtain⟨_,h2,h3,_⟩:=f2 b hb
   rcases yja.mp (I2.zkdb b z) with q|q
   ·exact h2 q
   ·exact h3 q
  ·exact (f2 b hb).2.2.2.2.1 x c (zar sc.names [] (λx c e=>by simp at e) x c e)
  ·have e:=hp p (by simpa [blk] using hp');rw[e] at z;exact (below b (fplt b hb)).2 z.symm
 have pinD:∀{H':Hp} {s':Shared} {o:Obj},Inv (blk X (own++cap) sc fp s2 H2 C) [] (zfh own.length js σ) H' s'->H' D=none->s'.heap.get? D=some o->(∀v,o.data ≠ .cell v)->Inv (blk X (own++cap) sc fp s2 H2 C) [(D,o)] (zfh own.length js σ) H' s':=λ{H' s' o} I' n e d =>
  I'.zcs λp hp=>by
   have q:p=(D,o):=(by simpa using hp);subst q;exact⟨e,n,hDC,stkD D hDle,d⟩
 have loop:∀s₃:Shared,s₃={ s2 with heap:=h₁,toks:=s2.toks+([]:List (Str×Value)).length } →
   yyi (model X.prog X.w) X.A (.compLoop (.ListComp elt [⟨tg,iter,ifs,0⟩] sc pos) 0 (.ref it) (.ref D) (compEnvC sc (clOf sc X.env.cells) C X.env)) (RR (.ref D) C) s₃:=by
  rintro s₃ rfl;refine zpz (λk s'=>Ex5 λi ys its nn H'=>Inv (blk X (own++cap) sc fp s2 H2 C) [] (zfh own.length js σ) H' s'∧tn i s'.heap∧(∀b∈fp,H' b=none)∧H' D=none ∧
   s'.heap.get? D=some { cls:=.type "list",data:=.seq its.toArray nn }∧Vals ys its∧W i k ys H') ?_ m0 ⟨0,[],[],0,H2,I3 _,st3,λb hb=>(f2 b hb).1,nD,hacc,.nil,w0⟩
  rintro k s3 ⟨i,ys,its,nn,H3,I3,st3,fr3,d3,o3,rv3,w3⟩;have I3':=pinD I3 d3 o3 (λv z=>by cases z);have only:∀p∈[(D,({ cls:=.type "list",data:=.seq its.toArray nn }:Obj))],p.1=D:=λp hp=>by
   rw[yia.mp hp]
  rcases turn i k ys H3 w3 with⟨stop,hz,qn⟩|⟨go,hz,N,hN,step⟩
  ·refine ytd (T.done (blk X (own++cap) sc fp s2 H2 C) rfl rfl rfl hc i _ s3 _ H3 (λ_ _=>False) I3' (stat only fr3) st3 stop) (λr s4 ⟨hr,I4⟩=>?_) λ_ _ z=>z.elim;subst hr;have o4:=(I4.pin (D,_) (ygc _ (yia.mpr rfl))).1;exact hRR D C H3 s4 _ ys its nn hDle hCle hDC I4 d3 o4 hz rv3 qn
  ·refine ytd (T.item (blk X (own++cap) sc fp s2 H2 C) rfl rfl rfl hc i _ s3 _ H3 (λ_ _=>False) I3' (stat only fr3) st3 go) (λr s4 ⟨u,hr,h4⟩=>?_) λ_ _ z=>z.elim;subst hr;refine ytd h4 (λ_ s5 ⟨x,H5,I5,r5,y5,st5,fr5⟩=>?_) λ_ _ z=>z.elim;have I5':=I5.pinned (stat only fr5) (T.obj _ _ st5);refine ytd (hg fp s2 H2 C _ s5 _ H5 x u _ I5' r5 (step x H5 y5)) (λ_ s6 ⟨σ6,H6,I6,d6,q6⟩=>?_) λ_ _ z=>z.elim;refine ytd (ht fp s2 H2 C _ s6 σ6 H6 _ I6 q6) (λok s7 ⟨H7,I7,q7⟩=>?_) λ_ _ z=>z.elim;have memD:∀{o:Obj},(D,o)∈(blk X (own++cap) sc fp s2 H2 C).pn++([(D,o)]++znu fp s5.heap):=ygc _ (yni _ (yia.mpr rfl));have memF:∀{b:Addr} {o o':Obj},b∈fp->s5.heap.get? b=some o->(b,o)∈(blk X (own++cap) sc fp s2 H2 C).pn++([(D,o')]++znu fp s5.heap):=λhb e=>ygc _ (ygc _ (zyo hb e));have σlen:(zfh own.length js σ).length=σ6.length:=by
    have a:=I6.len;have b:=I5.len;exact b.trans a.symm
   cases ok with
   | false =>
    have q7':N ys H7:=q7;obtain⟨m',hm,w7⟩:=hN _ _ q7';refine⟨m',hm,i+1,ys,its,nn,H7,(I7.zcs λp hp=>absurd hp (by simp)).weak σlen (λj v e=>zdv d6 e),T.keep _ _ _ st5 λb hb o e=>(I7.pin (b,o) (memF hb e)).1,λb hb=>?_,(I7.pin (D,_) memD).2.1,(I7.pin (D,_) memD).1,rv3,w7⟩;obtain⟨o,e,_⟩:=T.obj _ _ st5 b hb;exact (I7.pin (b,o) (memF hb e)).2.1
   | true =>
    have q7':te σ6 H7 λy H4=>N (ys++[y]) H4:=q7;refine ytd (he fp s2 H2 C _ s7 σ6 H7 _ I7 q7') (λyv s8 ⟨y,H8,I8,r8,n8'⟩=>?_) λ_ _ z=>z.elim;obtain⟨m',hm,w8⟩:=hN _ _ n8';have o8:=(I8.pin (D,_) memD).1;have n8:=(I8.pin (D,_) memD).2.1;refine append_at (hsz:=by rw[ypa,← rv3.length];exact hz) o8 λh9 hs9 hD9=>?_;have I8':=(I8.zcs (pins':=[]) λp hp=>absurd hp (by simp)).weak σlen (λj v e=>zdv d6 e);have I9:=I8'.turned (h':=h9) (t':=s8.toks) (it:=D) (λb o hb e=>(hs9.2 b hb).trans e) n8 hDC (.inr hDle) (λx c e z=>by
     obtain⟨v,q⟩:=I2.cell x c (zar sc.names [] (λx c e=>by simp at e) x c e);exact absurd (yoa q.lt (by rw[z];exact hDle)) (yrd _)) (λp hp=>absurd (show p∈([]:List (Addr×Obj)) from hp) (by simp))
    refine⟨m',hm,i+1,ys++[y],its++[yv],nn+1,H8,I9,T.keep _ _ _ st5 λb hb o e=>(hs9.2 b (below b (fplt b hb)).2).trans (I8.pin (b,o) (memF hb e)).1,λb hb=>?_,n8,?_,rv3.snoc r8,w8⟩
    ·obtain⟨o,e,_⟩:=T.obj _ _ st5 b hb;exact (I8.pin (b,o) (memF hb e)).2.1
    ·rw[hD9,List.push_toArray]
 exact codeAny_compStart_list (loop _ rfl) (T.self X.A 0 _ _ _ st3 (loop _ rfl))
theorem zeg {elt iter tg:Expr}{ifs:List Expr}{sc:Scope}{pos:Pos}{own cap:List Str}{js:List Nat}{wi:TI}{g:TG}{tt:TT}{te:TE}(hc:X.calm=true)(S:zpc X sc)(cp:Caps X sc cap js)(hi:PI X tg iter wi)
  (hg:∀fp s H C,PG (blk X (own++cap) sc fp s H C) tg g) (ht:∀fp s H C,PTs (blk X (own++cap) sc fp s H C) ifs tt) (he:∀fp s H C,PE (blk X (own++cap) sc fp s H C) elt te)
  (hs:∀x,yxj iter X.env x=pure x:=by intro _;rfl):PE X (.ListComp elt [⟨tg,iter,ifs,0⟩] sc pos) (zirb wi g tt te own.length js):=by
 intro pins s σ H Q I h;rw[eval_ListComp];refine yek (use:=none) rfl hs (zav λy hy hf=>I.ok.has y.1 (S.free y hy hf)) S.kind S.names (thn (hi pins s σ H _ I h) λv s1 h1=>thn h1 λitv s2 h2=>?_);obtain⟨it,fp,tn,J,H2,e,I2,T,st2,f2,W,⟨m0,w0⟩,turn⟩:=h2;subst e;refine zrjb (RR:=λacc C=>compPost (model X.prog X.w) X.A X.xe none (EP X pins σ Q) acc C) (Qf:=λys H=>∀p,H p=none->Q (.ref p) (upd H p (.lst ys))) hc S cp hg ht he I2 T st2 f2 w0 turn ?_;intro D C H4 s4 pn ys its nn hD hC hDC I4 n4 o4 hz rv q;obtain⟨m,hn,_⟩:=I4.loc;exact⟨m,hn,λh' hs'=>⟨.ref D,upd H4 D (.lst ys),zsjb I2 I4 f2 hC hD hDC n4 o4 hz rv hs',rfl,q D n4⟩⟩
end
def Its (x:Str):It:=⟨λi _=>i<x.cps.size,λi H v H'=>H'=H∧∃c,x.cps[i]?=some c∧v = .str ⟨#[c]⟩,λi _=>i=x.cps.size⟩
section
variable {X:Cx}{tg:Expr}
def iStr (tl:TE):TI:=fun σ H R=>tl σ H λv H1=>∃x,v = .str x∧R (Its x) H1
theorem zfr {P:ypb}{w:World}{K:yba}{tg:Expr}{ty:String}(x:Str)(t:Tok)(it:Addr)(hty:["enumerate","zip","dict_itemiterator","dict_reverseitemiterator","odict_iterator","itertools.zip_longest","itertools.pairwise"].contains ty=false)
  (W:∀A:Around,A.handled=none->Walks P w A it [it] [it] x.cps.size (SignAt x) (λi h=>h.IsStrIter it ty x t i))
  (hself:∀(A:Around) (i:Nat) (s:Shared) (Q:Value->Shared->Prop) (E:Value->Shared->Prop),s.heap.IsStrIter it ty x t i->Q (.ref it) s->wpAny (model P w) A (pyIter (.ref it)) Q E s) :
  Turn P w K tg (Its x) [it] it (λi h=>h.IsStrIter it ty x t i) where
 mem:=by simp
 obj:=λi h st b hb=>by
  have e:b=it:=by simpa using hb
  subst e;obtain⟨o,e,c,d⟩:=st;exact⟨o,e,λv z=>by rw[d] at z;cases z⟩
 keep:=λi h h' st k=>by
  obtain⟨o,e,r⟩:=st;exact⟨o,k it (by simp) o e,r⟩
 item:=by
  intro X hP hw hK hc i pins s σ H E I hf st hg;subst hP hw hK;obtain⟨f0,f1,f2,f3,f4,f5⟩:=hf it (by simp);refine (W X.A (I.ok.hd hc)).item i s _ _ hg st λv h' tk hv st' kk=>?_;obtain⟨c,u,hcx,rfl⟩:=hv;have I1:Inv X pins σ H { s with heap:=h',toks:=tk }:=I.turned (λb o hb e=>kk b o (by simpa using hb) e) f0 f1 f3 f4 f5;obtain⟨o,e,c',d⟩:=id st';exact⟨_,rfl,zxib (s:={ s with heap:=h',toks:=tk }) e c' d hty ⟨.str ⟨#[c]⟩,H,I1,⟨u,rfl⟩,⟨rfl,c,hcx,rfl⟩,st',λb hb=>(hf b hb).1⟩⟩
 done:=by
  intro X hP hw hK hc i pins s σ H E I hf st hg;subst hP hw hK;obtain⟨f0,f1,f2,f3,f4,f5⟩:=hf it (by simp);have le:i=x.cps.size:=hg;subst le;exact (W X.A (I.ok.hd hc)).done s _ _ st λh' tk kk=>⟨rfl,I.turned (λb o hb e=>kk b o (by simpa using hb) e) f0 f1 f3 f4 f5⟩
 self:=hself
theorem zdnb {l:Expr}{tl:TE}(hl:PE X l tl):PI X tg l (iStr tl):=by
 intro pins s σ H R I h;refine thn (hl pins s σ H _ I h) λv s1 ⟨y,H1,I1,r1,q1⟩=>?_;obtain⟨x,e,q⟩:=q1;subst e;obtain⟨t,rfl⟩:=r1;have fp:∀b∈[s1.heap.objs.size],FpOk X pins H1 b:=λb hb=>by
  have e:b=s1.heap.objs.size:=by simpa using hb
  subst e;exact I1.fpOk (yma _) (I1.hok.fresh (yma _))
 cases ha:x.cps.all (· < 128)
 ·refine wpAny_pyIter_wide ha ?_;exact⟨s1.heap.objs.size,[s1.heap.objs.size],_,Its x,H1,rfl,I1.kept (t':=s1.toks) λb o e=>yca _ e,zfr x t _ (by decide) (λA hA=>Walks.strWide hA _ x t) (λA i s Q E st h=>wpAny_pyIter_striter_wide st h),⟨_,yla _ rfl,rfl,rfl⟩,fp,q⟩
 ·refine wpAny_pyIter_ascii ha ?_;exact⟨s1.heap.objs.size,[s1.heap.objs.size],_,Its x,H1,rfl,I1.kept (t':=s1.toks) λb o e=>yca _ e,zfr x t _ (by decide) (λA hA=>Walks.strAscii hA _ x t) (λA i s Q E st h=>wpAny_pyIter_striter_ascii st h),⟨_,yla _ rfl,rfl,rfl⟩,fp,q⟩
end
theorem zvbb {J:It}{len:Nat}{x:Nat->V}{H1:Hp}{g:TG}{tt:TT}{te:TE}{n:Nat}{js:List Nat}{σ:St}{Q:VK}(Pv:Nat->List V->Hp->Prop)(hgo:∀i ys H,Pv i ys H->i<len->J.go i H)(hst:∀ys H,Pv len ys H->J.stop len H)
  (hy:∀i ys H v H',Pv i ys H->i<len->J.yld i H v H'->H'=H∧v=x i) (h0:Pv 0 [] H1) (hz:∀i ys H,Pv i ys H->ys.length≤yta)
  (hs:∀i ys H,i<len->Pv i ys H->g (x i) (zfh n js σ) H fun σ2 H2=>σ2.drop n=(zfh n js σ).drop n∧tt σ2 H2 λb H3=>if b=true then te σ2 H3 λy H4=>Pv (i+1) (ys++[y]) H4 else Pv (i+1) ys H3)
  (hd:∀ys H,Pv len ys H->∀p,H p=none->Q (.ref p) (upd H p (.lst ys))):zjgb J H1 g tt te n js σ Q:=by
 refine⟨λi m ys H=>m=len-i∧i≤len∧Pv i ys H,⟨len,by simp,ylb _,h0⟩,?_⟩;rintro i m ys H ⟨rfl,hi,p⟩
 by_cases hlt:i<len
 ·refine .inr ⟨hgo i ys H p hlt,hz i ys H p,Pv (i+1),λys' H' p'=>⟨len-(i+1),by omega,rfl,hlt,p'⟩,λv H' y=>?_⟩;obtain⟨e,ev⟩:=hy i ys H v H' p hlt y;subst e ev;exact hs i ys _ hlt p
 ·have e:i=len:=by omega
  subst e;exact .inl ⟨hst ys H p,hz _ ys H p,hd ys H p⟩
theorem zpmb {t:Str}{H1:Hp}{g:TG}{tt:TT}{te:TE}{n:Nat}{js:List Nat}{σ:St}{Q:VK}(Pv:Nat->List V->Hp->Prop)(h0:Pv 0 [] H1)(hz:∀i ys H,Pv i ys H->ys.length≤yta)
  (hs:∀i c ys H,t.cps[i]?=some c->Pv i ys H->g (.str ⟨#[c]⟩) (zfh n js σ) H fun σ2 H2=>σ2.drop n=(zfh n js σ).drop n∧tt σ2 H2 λb H3=>if b=true then te σ2 H3 λy H4=>Pv (i+1) (ys++[y]) H4 else Pv (i+1) ys H3)
  (hd:∀ys H,Pv t.cps.size ys H->∀p,H p=none->Q (.ref p) (upd H p (.lst ys))):zjgb (Its t) H1 g tt te n js σ Q:=by
 refine zvbb (len:=t.cps.size) (x:=λi=>.str ⟨#[t.cps.getD i 0]⟩) Pv (λi ys H _ h=>h) (λys H _=>rfl) (λi ys H v H' _ hlt y=>?_) h0 hz (λi ys H hlt p=>?_) hd
 ·obtain⟨e,c,hc,ev⟩:=y;refine⟨e,?_⟩;rw[ev,ymg,hc];rfl
 ·have hc:t.cps[i]?=some (t.cps.getD i 0):=by
   rw[ymg,ynb hlt];rfl
  exact hs i _ ys H hc p
theorem zne {K:yba}{a:Addr}{xs:List V}{H1:Hp}{g:TG}{tt:TT}{te:TE}{n:Nat}{js:List Nat}{σ:St}{Q:VK}(Pv:Nat->List V->Hp->Prop)(hl:∀i ys H,Pv i ys H->SqL K H a xs)(h0:Pv 0 [] H1)(hz:∀i ys H,Pv i ys H->ys.length≤yta)
  (hs:∀i x ys H,xs[i]?=some x->Pv i ys H->g x (zfh n js σ) H fun σ2 H2=>σ2.drop n=(zfh n js σ).drop n∧tt σ2 H2 λb H3=>if b=true then te σ2 H3 λy H4=>Pv (i+1) (ys++[y]) H4 else Pv (i+1) ys H3)
  (hd:∀ys H,Pv xs.length ys H->∀p,H p=none->Q (.ref p) (upd H p (.lst ys))):zjgb (Itl K a) H1 g tt te n js σ Q:=by
 refine zvbb (len:=xs.length) (x:=λi=>xs.getD i .non) Pv (λi ys H p hlt=>⟨xs,xs[i],hl i ys H p,by simp[hlt]⟩) (λys H p=>⟨xs,hl _ ys H p,yma _⟩) (λi ys H v H' p hlt y=>?_) h0 hz (λi ys H hlt p=>?_) hd
 ·obtain⟨e,y⟩:=y;refine⟨e,?_⟩;rw[yhd,y xs (hl i ys H p)];rfl
 ·refine hs i _ ys H ?_ p;rw[yhd,yqa hlt];rfl
theorem zfp {lo:Int}{len:Nat}{H1:Hp}{g:TG}{tt:TT}{te:TE}{n:Nat}{js:List Nat}{σ:St}{Q:VK}(Pv:Nat->List V->Hp->Prop)(h0:Pv 0 [] H1)(hz:∀i ys H,Pv i ys H->ys.length≤yta)
  (hs:∀i ys H,i<len->Pv i ys H->g (.int (lo+i)) (zfh n js σ) H fun σ2 H2=>σ2.drop n=(zfh n js σ).drop n∧tt σ2 H2 λb H3=>if b=true then te σ2 H3 λy H4=>Pv (i+1) (ys++[y]) H4 else Pv (i+1) ys H3)
  (hd:∀ys H,Pv len ys H->∀p,H p=none->Q (.ref p) (upd H p (.lst ys))):zjgb (Itr lo len) H1 g tt te n js σ Q :=
 zvbb (len:=len) (x:=λi=>.int (lo+i)) Pv (λi ys H _ h=>h) (λys H _=>yma _) (λi ys H v H' _ hlt y=>y) h0 hz (λi ys H hlt p=>hs i ys H hlt p) hd
section
variable {X:Cx}
def rSlS:V->Option Int->Option Int->Hp->VK->Prop:=λx lo hi H Q=>∃t,x = .str t∧t.length≤yta∧∀t',t'=ycm t lo hi->t'.length≤t.length->Q (.str t') H
theorem zcnb:SlR X rSlS:=by
 intro pins s σ H x v vl vu lo hi sl Q I rx hs pl pu h;obtain⟨t,rfl,hz,q⟩:=h;obtain⟨tk,rfl⟩:=rx;have fin:∀{l u:Option (Int×Tok)},l.map (·.1)=lo->u.map (·.1)=hi->(∀k t',EP X pins σ Q (.str (ycm t (l.map (·.1)) (u.map (·.1))) t') { s with toks:=k }):=λ{l u} e1 e2 k t' =>
  ⟨.str _,H,I.tok k,⟨t',rfl⟩,by rw[e1,e2];exact q _ rfl (PyProof.Txt.length_slice_le t _ _)⟩
 refine⟨"str",_,F.slot_str_getitem.lookup,yck _ _ _,?_⟩;cases pl with
 | none =>
  cases pu with
  | none=>exact ydg (l:=none) (u:=none) (st:=none) hs rfl (yzi ⟨yxa (ydm t _ _) hz,λt' k=>fin (l:=none) (u:=none) rfl rfl k t'⟩)
  | int j tj=>exact ydg (l:=none) (u:=some (j,tj)) (st:=none) hs rfl (yzi ⟨yxa (ydm t _ _) hz,λt' k=>fin (l:=none) (u:=some (j,tj)) rfl rfl k t'⟩)
 | int i ti =>
  cases pu with
  | none=>exact ydg (l:=some (i,ti)) (u:=none) (st:=none) hs rfl (yzi ⟨yxa (ydm t _ _) hz,λt' k=>fin (l:=some (i,ti)) (u:=none) rfl rfl k t'⟩)
  | int j tj=>exact ydg (l:=some (i,ti)) (u:=some (j,tj)) (st:=none) hs rfl (yzi ⟨yxa (ydm t _ _) hz,λt' k=>fin (l:=some (i,ti)) (u:=some (j,tj)) rfl rfl k t'⟩)
theorem zogb:∀{bs:List Bool} {us:List Value},Vals (bs.map V.bl) us->us=bs.map Value.bool
 | [],us,r=>by rw[yef] at r;cases r;rfl
 | b::bs,us,r=>by
  rw[yva] at r;cases r with
  | cons r1 r2=>rw[yva,zogb r2,show _=Value.bool b from r1]
theorem zrw (hc:X.calm=true):ztl X (.builtin "all") (λxs H Q=>Ex2 λ(a:Addr) (bs:List Bool)=>xs=[.ref a]∧SqL X.K H a (bs.map V.bl)∧Q (.bl (bs.all id)) H):=by
 intro pins s σ H xs us Q I r h;obtain⟨a,bs,rfl,hq,q⟩:=h;obtain⟨u,rfl,ru⟩:=vals1 r;cases ru;obtain⟨its,rv,p,hz⟩:=I.list hq;have e:=zogb rv;have hlt:a<s.heap.objs.size:=by obtain⟨o,n,e,_⟩:=p;exact yra e
 refine call_all_walk (yyh p.isList ?_);refine⟨s.heap.objs.size,_,_,_,_,_,λi=>bs.getD i true,rfl,Walks.list (show X.A.in1.handled=none from I.ok.hd hc) s.heap.objs.size a (yhb hlt) its.toArray,⟨⟨_,yla _ rfl,rfl,rfl⟩,p.isList.push _⟩,?_,?_⟩
 ·intro i v s' Q' E' hP hQ;have hP':its[i]?=some v:=by simpa using hP
  rw[e,yub] at hP';cases z:bs[i]? with
  | none=>rw[z] at hP';cases hP'
  | some b =>
   rw[z] at hP';have ev:Value.bool b=v:=yfc hP';subst ev;have hQ':Q' (bs.getD i true) s':=hQ;rw[yhd,z] at hQ';exact ydd hQ'
 ·intro h' tk kk;refine⟨.bl _,H,I.kept (t':=tk) λb o e=>kk b o (λz=>?_) (yca _ e),?_,q⟩
  ·have z':b=s.heap.objs.size:=by simpa using z
   exact absurd (yra e) (by rw[z'];exact yrd _)
  ·show Value.bool _=Value.bool _
   congr 1
   rw[ypa,e,yda];have go:∀l:List Bool,(yoe l.length).all (λi=>l.getD i true)=l.all id:=λl=>by
    have q:=range_getD l true;have e2:((yoe l.length).map λj=>l.getD j true).all id=(yoe l.length).all λi=>l.getD i true:=by
     rw[List.all_map];rfl
    rw[← e2,q]
   exact go bs
theorem zxs:ztl X (.builtin "isinstance") (λxs H Q=>Ex4 λx c t b=>xs=[x,c]∧TyOf X.K H x t∧((∃n,c = .ty n∧ycc X.K t (.type n)=some b)∨(∃a,c = .ref a∧ycc X.K t (.ref a)=some b))∧Q (.bl b) H):=by
 intro pins s σ H xs us Q I r h;obtain⟨x,c,t,b,rfl,ty,hc,q⟩:=h;obtain⟨u,u',rfl,r1,r2⟩:=vals2 r
 rcases hc with⟨n,rfl,e⟩|⟨a,rfl,e⟩
 ·cases (show u'=Value.type n from r2);exact ziz I r1 ty e λtk=>⟨.bl b,H,I.tok tk,rfl,q⟩
 ·cases (show u'=Value.ref a from r2);exact ziz I r1 ty e λtk=>⟨.bl b,H,I.tok tk,rfl,q⟩
mutual
inductive DV (K:yba)(H:Hp):V->PyData->Prop where
 | non:DV K H .non .none
 | bl (b:Bool):DV K H (.bl b) (.bool b)
 | int (i:Int):DV K H (.int i) (.int i)
 | str (x:Str):DV K H (.str x) (.str x)
 | lst {a:Addr} {xs:List V} {ds:List PyData}:SqL K H a xs->DVs K H xs ds->DV K H (.ref a) (.list ds)
 | tup {a:Addr} {xs:List V} {ds:List PyData}:SqT K H a xs->DVs K H xs ds->DV K H (.ref a) (.tuple ds)
inductive DVs (K:yba)(H:Hp):List V->List PyData->Prop where
 | nil:DVs K H [] []
 | cons {x:V} {d:PyData} {xs:List V} {ds:List PyData}:DV K H x d->DVs K H xs ds->DVs K H (x::xs) (d::ds)
end
mutual
theorem DV.reads {pins:List (Addr×Obj)}{σ:St}{H:Hp}{s:Shared}(I:Inv X pins σ H s):∀{x:V} {d:PyData} {u:Value},DV X.K H x d->RelV x u->∃as,Reads s.heap u d as
 | _,_,_,.non,r=>by cases r;exact⟨_,.none⟩
 | _,_,_,.bl b,r=>by cases r;exact⟨_,.bool b⟩
 | _,_,_,.int i,r=>by obtain⟨t,rfl⟩:=r;exact⟨_,.int i t⟩
 | _,_,_,.str x,r=>by obtain⟨t,rfl⟩:=r;exact⟨_,.str x t⟩
 | _,_,_,.lst hq hs,r=>by
  cases r;obtain⟨its,rv,⟨o,n,e,c,_,d⟩,_⟩:=I.list hq;obtain⟨as,q⟩:=hs.reads I rv;exact⟨_,.list e c d (by simpa using q)⟩
 | _,_,_,.tup hq hs,r=>by
  cases r;obtain⟨its,rv,⟨o,e,c,n,d⟩,_⟩:=I.tuple hq;obtain⟨as,q⟩:=hs.reads I rv;exact⟨_,.tuple e c d (by simpa using q)⟩
theorem DVs.reads {pins:List (Addr×Obj)}{σ:St}{H:Hp}{s:Shared}(I:Inv X pins σ H s):∀{xs:List V} {ds:List PyData} {us:List Value},DVs X.K H xs ds->Vals xs us->∃as,ReadsAll s.heap us ds as
 | _,_,_,.nil,.nil=>⟨_,.nil⟩
 | _,_,_,.cons h hs,.cons r rs=>by
  obtain⟨as,q⟩:=h.reads I r;obtain⟨bs,p⟩:=hs.reads I rs;exact⟨_,.cons q p⟩
end
theorem zjsb (hu:X.A.units+64<cLine):OpR X (yzc .Eq) (λx y H Q=>Ex2 λd e=>DV X.K H x d∧DV X.K H y e∧yzb d=true∧yzb e=true∧Q (.bl (ydf d e)) H):=by
 intro pins s σ H x y v u Q I rx ry h;obtain⟨d,e,hd,he,s1,s2,q⟩:=h;obtain⟨as,r1⟩:=hd.reads I rx;obtain⟨bs,r2⟩:=he.reads I ry;exact eq_dataH r1 r2 s1 s2 hu ⟨.bl _,H,I,rfl,q⟩
theorem ziy (hu:X.A.units+64<cLine):OpR X (yzc .NotEq) (λx y H Q=>Ex2 λd e=>DV X.K H x d∧DV X.K H y e∧yzb d=true∧yzb e=true∧Q (.bl (!PyData.eqv d e)) H):=by
 intro pins s σ H x y v u Q I rx ry h;obtain⟨d,e,hd,he,s1,s2,q⟩:=h;obtain⟨as,r1⟩:=hd.reads I rx;obtain⟨bs,r2⟩:=he.reads I ry;exact ne_dataH r1 r2 s1 s2 hu ⟨.bl _,H,I,rfl,q⟩
end
end L2
namespace L2
open PySem PyProof.Rows
set_option genInjectivity false in
structure Gf (K:yba)(mg:Str->Option Value)(x q:Str)(st:Stmt) where
 f:Addr
 d:yxe
 F:Fun K x q st f d
 m:mg x=some (.ref f)
set_option genInjectivity false in
structure Mf (K:yba)(C:Addr)(x q:Str)(st:Stmt) where
 f:Addr
 d:yxe
 F:Fun K x q st f d
 M:Meth K C x f
set_option genInjectivity false in
structure If (K:yba)(C:Addr)(x q:Str)(st:Stmt) where
 f:Addr
 d:yxe
 F:Fun K x q st f d
 M:Mk K C f
section
variable {K:yba}{mg:Str->Option Value}{h:Heap}{C f:Addr}{x q:Str}{st:Stmt}{oc:Value}{od an:Option Addr}{sl:Array (Option Value)}{kV dc pm cd ct:Value}
def gf_of (X:K.In h)(G:h.Ns yab mg)(a:yob K yab x=some (some (.ref f)))
  (l:K.lookup f=some ⟨oc,od,.func (yuf x q (zqm st) (zdi st) (zla st) .none kV dc pm an cd ct),sl⟩) (c:ywg K cd q=true) (k:yme K (.ref f)=true):Gf K mg x q st :=
 ⟨f,_,zyib l c k,yxc X G a⟩
def mf_of (a:ygb K (.ref C) x=some (some (.ref f)))(i:ymj K (.ref f)=true)
  (l:K.lookup f=some ⟨oc,od,.func (yuf x q (zqm st) (zdi st) (zla st) .none kV dc pm an cd ct),sl⟩) (c:ywg K cd q=true) (k:yme K (.ref f)=true):Mf K C x q st :=
 ⟨f,_,zyib l c k,⟨a,i,k⟩⟩
def if_of (a:ygb K (.ref C) "__init__" = some (some (.ref f)))(i:ymj K (.ref f)=true)
  (l:K.lookup f=some ⟨oc,od,.func (yuf x q (zqm st) (zdi st) (zla st) .none kV dc pm an cd ct),sl⟩) (c:ywg K cd q=true) (k:yme K (.ref f)=true)
  (mk:yul K C=true) (kc:yme K (.ref C)=true):If K C x q st :=
 ⟨f,_,zyib l c k,⟨mk,a,i,kc⟩⟩
theorem zwsb {fa:Addr}(g:Gf K mg x q st)(e:mg x=some (.ref fa)):g.f=fa:=by
 have z:=g.m.symm.trans e;injection z with z
 injection z
end
section
variable {P:ypb}{w:World}{K:yba}{mg:Str->Option Value}{base:Heap}{C:Addr}{x q:Str}{st:Stmt}{N ps:List Str}{k:Nat}{sp:Sp}
theorem Gf.ok (g:Gf K mg x q st)(S:zya N ps (zla st))
  (hb:∀(f:Addr) (cdv:Value) (A:Around) (outer:List Env) (s:Shared) (H:Hp) (vs:List V) (Q:VK) (E:XK),Room k (A.deeper (envOfC q (zla st) s.heap.objs.size f cdv))->sp vs H Q E->let X:=(cxOf CX0 P w K mg base N q (zla st) f cdv A outer s H E).nox;∃t,PSs X (zdi st) t∧t { nx:=λ_ H'=>Q .non H',rt:=Q } (start N vs) H)
  (len:∀vs H Q E,sp vs H Q E->vs.length=ps.length:=by intro _ _ _ _ h;cases h;rename_i h;rw[h.1];rfl):FnOk P w K mg base CX0 (k+1) g.f g.d ps sp:=g.F.ok S len (hb g.f)
theorem Mf.ok (g:Mf K C x q st)(S:zya N ps (zla st))
  (hb:∀(f:Addr) (cdv:Value) (A:Around) (outer:List Env) (s:Shared) (H:Hp) (vs:List V) (Q:VK) (E:XK),Room k (A.deeper (envOfC q (zla st) s.heap.objs.size f cdv))->sp vs H Q E->let X:=(cxOf CX0 P w K mg base N q (zla st) f cdv A outer s H E).nox;∃t,PSs X (zdi st) t∧t { nx:=λ_ H'=>Q .non H',rt:=Q } (start N vs) H)
  (len:∀vs H Q E,sp vs H Q E->vs.length=ps.length:=by intro _ _ _ _ h;cases h;rename_i h;rw[h.1];rfl):FnOk P w K mg base CX0 (k+1) g.f g.d ps sp:=g.F.ok S len (hb g.f)
theorem If.ok (g:If K C x q st)(S:zya N ps (zla st))
  (hb:∀(f:Addr) (cdv:Value) (A:Around) (outer:List Env) (s:Shared) (H:Hp) (vs:List V) (Q:VK) (E:XK),Room k (A.deeper (envOfC q (zla st) s.heap.objs.size f cdv))->sp vs H Q E->let X:=(cxOf CX0 P w K mg base N q (zla st) f cdv A outer s H E).nox;∃t,PSs X (zdi st) t∧t { nx:=λ_ H'=>Q .non H',rt:=Q } (start N vs) H)
  (len:∀vs H Q E,sp vs H Q E->vs.length=ps.length:=by intro _ _ _ _ h;cases h;rename_i h;rw[h.1];rfl):FnOk P w K mg base CX0 (k+1) g.f g.d ps sp:=g.F.ok S len (hb g.f)
theorem FnOk.up {f:Addr}{d:yxe}{m:Nat}(h:FnOk P w K mg base CX0 k f d ps sp)(le:k≤m:=by first|decide|omega):FnOk P w K mg base CX0 m f d ps sp:=h.mono le
end
theorem sz0:0≤yta:=by decide
theorem sz1:1≤yta:=by decide
theorem sz2:2≤yta:=by decide
theorem sz3:3≤yta:=by decide
theorem sz4:4≤yta:=by decide
theorem sz5:5≤yta:=by decide
def scB (N P:List Str)(sc:Scope):Bool :=
 decide (sc.kind = .function)&&(!sc.isCoroutine&&(!sc.isGenerator&&(decide N.Nodup&&(decide (N.take P.length=P) &&
  (P.all (λx=>decide (sc.names.lookup x=some .local∨sc.names.lookup x=some .cell))&&sc.names.all λy=>decide (y.2 ≠ .free))))))
theorem scOf {N P:List Str}{sc:Scope}(h:scB N P sc=true):zya N P sc:=by
 unfold scB at h;simp only[yec,Bool.not_eq_true',decide_eq_true_eq,ycf] at h;obtain⟨a,b,c,d,e,f,g⟩:=h;exact⟨a,b,c,d,e,f,g⟩
end L2
namespace L2
open PySem PySem.Spec PyProof.Rows
section
variable {X:Cx}
theorem zon:∀{ys:List Str} {us:List Value},Vals (ys.map V.str) us->ywk us ys
 | [],us,r=>by rw[yef] at r;cases r;exact .nil
 | y::ys,us,r=>by
  rw[yva] at r;cases r with
  | cons r1 r2 =>
   obtain⟨t,e⟩:=r1;subst e;exact .cons y t (zon r2)
theorem zrx:∀l:List (Str×Tok),Vals ((l.map (·.1)).map V.str) (strValues l)
 | []=>.nil
 | (x,t)::r=>.cons ⟨t,rfl⟩ (zrx r)
theorem zaw:MtR X "str.join" (λx xs H Q=>Ex3 λsep a ys=>x = .str sep∧xs=[.ref a]∧SqL X.K H a (ys.map V.str)∧(ys.map (·.length)).sum+ys.length*sep.length≤16777216∧Q (.str (ysa sep ys)) H):=by
 intro pins s σ H x xs v us Q I rx rs h;obtain⟨sep,a,ys,rfl,rfl,hq,hz,q⟩:=h;obtain⟨t,rfl⟩:=rx;obtain⟨u,rfl,ru⟩:=vals1 rs;cases ru;obtain⟨its,rv,p,_⟩:=I.list hq;refine join_list (items:=its.toArray) (ys:=ys) p.isList (by simpa using zon rv) hz λt' k=>⟨.str _,H,I.tok k,⟨t',rfl⟩,?_⟩;have e:Txt.join sep ys=ysa sep ys:=by first|rfl|exact StrLaws.glued_eq_join sep ys
 rw[e];exact q
theorem zzv:MtR X "str.split" (λx xs H Q=>Ex2 λt y=>x = .str t∧xs=[.str y]∧(y.length==0)=false∧t.length+2≤yta∧∀l,H l=none->Q (.ref l) (upd H l (.lst ((yte t y).map V.str)))):=by
 intro pins s σ H x xs v us Q I rx rs h;obtain⟨x,y,rfl,rfl,hy,hsz,q⟩:=h;obtain⟨t,rfl⟩:=rx;obtain⟨u,rfl,ru⟩:=vals1 rs;obtain⟨tu,rfl⟩:=ru;have hn:(yrf x (ypc x y 0 x.length (x.length+1)) y.length).length≤yta:=by
  have e1:=StrLaws.occ_length_le x y 0 x.length (x.length+1);rw[length_partsBetween];omega
 have fin:∀(l:List (Str×Tok)) (k:Nat),l.map (·.1)=yte x y->l.length≤yta->EP X pins σ Q (.ref s.heap.objs.size) { s with heap:=s.heap.push { cls:=.type "list",data:=.seq (strValues l).toArray },toks:=k }:=λl k e hl=>by
  refine⟨.ref s.heap.objs.size,upd H s.heap.objs.size (.lst ((yte x y).map V.str)),I.laid (t':=k) (λb o e=>yca _ e) (yma _) ⟨?_,strValues l,_,?_,yla _ rfl⟩,rfl,q _ (I.hok.fresh (yma _))⟩
  ·rw[← e,yda,yda];exact hl
  ·rw[← e];exact zrx l
 cases h1:(decide (x.length<y.length)||decide (ygh x<ygh y))
 ·cases hf:(ypc x y 0 x.length (x.length+1)).isEmpty
  ·refine ydk yfl (yck _ _ _) yfk (yoj _ _) (meets_str_split_sep x y t tu h1 hy hf (by omega) hn) ?_;show wants _ _ _ { s with toks:=_,heap:=s.heap.push { cls:=.type "list",data:=.seq (strsFrom s.toks (yrf x (ypc x y 0 x.length (x.length+1)) y.length)).toArray } }
   rw[strsFrom_eq];refine fin (numbered s.toks _) _ ((numbered_texts _ _).trans ((if_neg (ne_true_of_eq_false h1)).trans (if_neg (ne_true_of_eq_false hf))).symm) ?_;have e:=congrArg yag (numbered_texts s.toks (yrf x (ypc x y 0 x.length (x.length+1)) y.length));rw[yda] at e;omega
  ·exact ydk yfl (yck _ _ _) yfk (yoj _ _) (meets_str_split_not_found x y t tu h1 hy hf)
    (fin [(x,t)] s.toks ((if_neg (ne_true_of_eq_false h1)).trans (if_pos hf)).symm (by show 1≤yta;decide))
 ·exact ydk yfl (yck _ _ _) yfk (yoj _ _) (meets_str_split_cannot_occur x y t tu h1)
   (fin [(x,t)] s.toks (if_pos h1).symm (by show 1≤yta;decide))
theorem zqz:ztl X (.type "str") (λxs H Q=>∃x,xs=[.str x]∧Q (.str x) H):=by
 intro pins s σ H xs us Q I r h;obtain⟨x,rfl,q⟩:=h;obtain⟨u,rfl,t,rfl⟩:=vals1 r;exact PySem.P.str_of_str ⟨.str x,H,I,⟨t,rfl⟩,q⟩
theorem zqw:ztl X (.type "int") (λxs H Q=>Ex2 λx n=>xs=[.str x]∧PySem.intText? x=some n∧x.length≤640∧Q (.int n) H):=by
 intro pins s σ H xs us Q I r h;obtain⟨x,n,rfl,hn,hl,q⟩:=h;obtain⟨u,rfl,t,rfl⟩:=vals1 r;exact PySem.W.KIN.call_text hn hl ⟨.int n,H,I.tok _,⟨_,rfl⟩,q⟩
theorem znhb {i:Nat}{x:Str}{elt iter tg:Expr}{ifs:List Expr}{sc:Scope}{pos spos pos':Pos}{own cap:List Str}{js:List Nat}{wi:TI}{g:TG}{tt:TT}{te:TE}(hN:X.N.Nodup)(hix:X.N[i]?=some x)(hx:Loc X.env.scope x)
  (hc:X.calm=true) (S:zpc X sc) (cp:Caps X sc cap js) (hi:PI X tg iter wi)
  (hg:∀fp s H C,PG (blk X (own++cap) sc fp s H C) tg g) (ht:∀fp s H C,PTs (blk X (own++cap) sc fp s H C) ifs tt) (he:∀fp s H C,PE (blk X (own++cap) sc fp s H C) elt te)
  (hsw:ymn (.ListComp elt [⟨tg,iter,ifs,0⟩] sc pos) (some (.Name x pos')) spos.line X.env=pure true:=by rfl) (hs:∀x,yxj iter X.env x=pure x:=by intro _;rfl)
  (hf:X.fn x=true∨X.env.scope.names.lookup x=some .local:=by first|exact .inl rfl|exact .inr rfl|assumption) :
  PS X (.Assign [.Name x pos'] (.ListComp elt [⟨tg,iter,ifs,0⟩] sc pos) spos) (tAsg (zirb wi g tt te own.length js) (zkmb i)):=by
 intro pins s σ H D I h;rw[exec_Assign_Name_used _ _ _ _ hsw];refine yaa (yrk (yaa ?_));show wpAny _ X.A (do let _ ← comprehension (.ListComp elt [⟨tg,iter,ifs,0⟩] sc pos) sc X.env _ (newList []) false (eval iter X.env) (some (assign (.Name x pos') X.env))) _ _ s
 refine yaa (ytd (yek (use:=some (assign (.Name x pos') X.env)) (Q:=λ_ s'=>SP X pins D .next s') rfl hs (zav λy hy hf=>I.ok.has y.1 (S.free y hy hf)) S.kind S.names
  (thn (hi pins s σ H _ I h) λv s1 h1=>thn h1 λitv s2 h2=>?_)) (λ_ s' hq=>yga (yga hq)) λ_ _ e=>e)
 obtain⟨it,fp,tn,J,H2,e,I2,T,st2,f2,W,⟨m0,w0⟩,turn⟩:=h2;subst e;refine zrjb (RR:=λacc C=>compPost (model X.prog X.w) X.A X.xe (some (assign (.Name x pos') X.env)) (λ_ s'=>SP X pins D .next s') acc C) (Qf:=λys H=>∀p,H p=none->D.nx (σ.set i (some (.ref p))) (upd H p (.lst ys))) hc S cp hg ht he I2 T st2 f2 w0 turn ?_;intro DD C H4 s4 pn ys its nn hD hC hDC I4 n4 o4 hz rv q;have I5:Inv X pins σ (upd H4 DD (.lst ys)) s4:=zsjb (h':=s4.heap) I2 I4 f2 hC hD hDC n4 o4 hz rv (ygk ..);obtain⟨m,hn,_⟩:=I4.loc;have hn':s4.heap.Ns C m:=hn;show wpAny _ X.A (assign (.Name x pos') X.env (.ref DD)) _ _ s4
 refine wpAny_assign_Name (zsx I5 hN hix hx (v:=.ref DD) (u:=.ref DD) rfl (λs6 I6 ⟨a,hsb,ha⟩=>?_) hf);have lt2:X.env.locals<s2.heap.objs.size:=I2.lt;have cellC:∀y c,X.env.cells.lookup y=some c->c≠C:=λy c e=>by
  obtain⟨v,z⟩:=I2.cell y c e;exact yhb (yoa z.lt hC)
 have aC:C≠a:=by
  rcases ha with rfl|ha
  ·exact yih (yoa lt2 hC)
  ·exact ysb (cellC _ _ ha)
 refine⟨m,hn'.sameBut hsb aC,λh' hs'=>?_⟩;have nC:(upd H4 DD (.lst ys)) C=none:=by rw[zza (ysb hDC)];exact I4.free
 have I7:=I6.turned (h':=h') (t':=s6.toks) (it:=C) (λb o hb e=>(hs'.2 b hb).trans e) nC (yih (yoa lt2 hC)) (.inr (yxa I2.sz hC)) cellC (λp hp=>by
  exact yhb (yoa (yra (I2.pin p hp).1) hC))
 exact⟨_,_,I7,q DD n4⟩
def Itv (K:yba)(a:Addr)(xs:List V):It :=
 ⟨λi H=>SqL K H a xs∧i<xs.length,λi H x H'=>H'=H∧xs[xs.length-1-i]?=some x,λi H=>SqL K H a xs∧i=xs.length⟩
def iRev (K:yba)(ta:TA):TI:=fun σ H R=>ta σ H λvs H1=>Ex2 λa xs=>vs=[.ref a]∧SqL K H1 a xs∧R (Itv K a xs) H1
theorem zfkb {P:ypb}{w:World}{K:yba}{tg:Expr}(a it:Addr)(xs:List V):Turn P w K tg (Itv K a xs) [it] it (λi h=>i≤xs.length∧h.IsRevIter it a ((xs.length:Int)-1-(i:Int))) where
 mem:=by simp
 obj:=λi h st b hb=>by
  have e:b=it:=by simpa using hb
  subst e;obtain⟨_,o,e,c,d⟩:=st;exact⟨o,e,λv z=>by rw[d] at z;cases z⟩
 keep:=λi h h' st k=>⟨st.1,st.2.at λo e=>k it (by simp) o e⟩
 item:=by
  intro X hP hw hK hc i pins s σ H E I hf st hg;subst hP hw hK;obtain⟨hq,hlt⟩:=hg;obtain⟨f0,f1,f2,f3,f4,f5⟩:=hf it (by simp);obtain⟨its,rv,p,hz⟩:=I.list hq;have hl:=rv.length;have hx:xs[xs.length-1-i]?=some (xs[xs.length-1-i]'(by omega)):=yqa (by omega);obtain⟨u,hu,ru⟩:=rv.get hx;have hit:=st.2;rw[show (xs.length:Int)-1-(i:Int)=((xs.length-1-i:Nat):Int) by omega] at hit;refine wpAny_pyNext_rev_item hit p.isList (x:=u) (by simpa using hu) λh' hit' hs'=>?_;rw[show ((xs.length-1-i:Nat):Int)-1=(xs.length:Int)-1-((i+1:Nat):Int) by omega] at hit';have I1:Inv X pins σ H { s with heap:=h' }:=I.turned (t':=s.toks) (λb o hb e=>(hs'.2 b hb).trans e) f0 f1 f3 f4 f5;obtain⟨o,e,c',d⟩:=id hit';exact⟨u,rfl,zxib (s:={ s with heap:=h' }) e c' d (by decide) ⟨_,H,I1,ru,⟨rfl,hx⟩,⟨hlt,hit'⟩,λb hb=>(hf b hb).1⟩⟩
 done:=by
  intro X hP hw hK hc i pins s σ H E I hf st hg;subst hP hw hK;obtain⟨hq,e⟩:=hg;obtain⟨f0,f1,f2,f3,f4,f5⟩:=hf it (by simp);have hit:=st.2;rw[show (xs.length:Int)-1-(i:Int) = -1 by omega] at hit;exact wpAny_pyNext_rev_end (I.ok.hd hc) hit λh' he'=>⟨rfl,I.turned (t':=s.toks) (λb o hb e=>he' b o hb e) f0 f1 f3 f4 f5⟩
 self:=λ_ _ _ _ _ st h=>wpAny_pyIter_revIter st.2 h
theorem boot_reversed:ykg "reversed" = some (.type "reversed"):=by decide +kernel
theorem zbbb {tg a:Expr}{ta:TA}{p pos:Pos}(hg:Gl X "reversed")(hm:X.mg "reversed" = none)(ha:PA X [a] ta)(hs:ylc [a] X.env=[(false,eval a X.env)]:=by rfl):PI X tg (.Call (.Name "reversed" p) [a] [] pos) (iRev X.K ta):=by
 intro pins s σ H R I h;refine Call_ (zru I hg hm boot_reversed (yre (thn (ha pos pins s σ H _ I h) λus s1 ⟨vs,H1,I1,r1,q1⟩=>?_) hs rfl));obtain⟨b,xs,e,hq,q⟩:=q1;subst e;obtain⟨u,rfl,ru⟩:=vals1 r1;cases ru;obtain⟨its,rv,pl,hz⟩:=I1.list hq;have hl:=rv.length;refine call_reversed_list pl.isList ?_;have hit:(s1.heap.push (revObj b ((its.toArray.size:Int)-1))).IsRevIter s1.heap.objs.size b ((xs.length:Int)-1-((0:Nat):Int)):=by
  refine⟨_,yla _ rfl,rfl,?_⟩;show Data.fields #[.ref b,rawInt _]=Data.fields #[.ref b,rawInt _]
  rw[ypa,← hl,show (xs.length:Int)-1-((0:Nat):Int)=(xs.length:Int)-1 by omega]
 refine wpAny_pyIter_revIter (s:={ s1 with heap:=s1.heap.push (revObj b ((its.toArray.size:Int)-1)) }) hit ?_;refine⟨s1.heap.objs.size,[s1.heap.objs.size],_,_,H1,rfl,I1.kept (t':=s1.toks) λb o e=>yca _ e,zfkb b _ xs,⟨ylb _,hit⟩,λc hc=>?_,q⟩;have e:c=s1.heap.objs.size:=by simpa using hc
 subst e;exact I1.fpOk (yma _) (I1.hok.fresh (yma _))
end
theorem zzpb {K:yba}{a:Addr}{xs:List V}{g:TG}{tb:TS}{D:Ends}{σ:St}{H:Hp}(Pv:Nat->St->Hp->Prop)(h0:Pv 0 σ H)(hl:∀i σ H,i≤xs.length->Pv i σ H->SqL K H a xs)
  (hs:∀i x σ H,i<xs.length->xs[xs.length-1-i]?=some x->Pv i σ H->g x σ H fun σ2 H2=>tb { D with nx:=Pv (i+1),ct:=Pv (i+1),bk:=D.nx } σ2 H2) (hd:∀ σ H,Pv xs.length σ H->D.nx σ H) :
  ∃W:Nat->Nat->St->Hp->Prop,(∃m,W 0 m σ H)∧∀i m σ H,W i m σ H →
   ((Itv K a xs).stop i H∧D.nx σ H)∨((Itv K a xs).go i H∧∃N:St->Hp->Prop,(∀ σ' H',N σ' H'->∃m',m'<m∧W (i+1) m' σ' H')∧∀x H',(Itv K a xs).yld i H x H'->g x σ H' fun σ2 H2=>tb { D with nx:=N,ct:=N,bk:=D.nx } σ2 H2):=by
 refine⟨λi m σ H=>m=xs.length-i∧i≤xs.length∧Pv i σ H,⟨xs.length,by simp,ylb _,h0⟩,?_⟩;rintro i m σ H ⟨rfl,hi,p⟩;have q:=hl i σ H hi p
 by_cases hlt:i<xs.length
 ·refine .inr ⟨⟨q,hlt⟩,Pv (i+1),fun σ' H' p'=>⟨xs.length-(i+1),by omega,rfl,hlt,p'⟩,λx H' y=>?_⟩;obtain⟨e,y⟩:=y;subst e;exact hs i x σ _ hlt y p
 ·have e:i=xs.length:=by omega
  subst e;exact .inl ⟨⟨q,rfl⟩,hd σ H p⟩
end L2
namespace L2
open PySem PySem.Spec PyProof.Rows
section
variable {X:Cx}{a:Addr}{D:List (Str×ysp)}
theorem zfy (T:ycp X.base a D):OpR X (yzc .NotIn) (λx y H Q=>∃k,x = .str k∧y = .ref a∧Q (.bl (!KTD.inKeys k D)) H):=by
 intro pins s σ H x y v u Q I rx ry h;obtain⟨k,rfl,rfl,q⟩:=h;obtain⟨t,rfl⟩:=rx;cases ry;exact KTD.notin_text ⟨T,I.bk⟩ ⟨.bl _,H,I.tok _,rfl,q⟩
theorem zknb (T:ycp X.base a D):IxR X (λx y H Q=>Ex2 λk i=>x = .ref a∧y = .str k∧ydn k D=some (.flat (.int i))∧Q (.int i) H):=by
 intro value slice pins s σ H x y v u Q I rx ry h hs;obtain⟨k,i,rfl,rfl,hd,q⟩:=h;cases rx;obtain⟨tk,rfl⟩:=ry;have T':KTD.Here X.base s.heap a D:=⟨T,I.bk⟩;refine subscriptTail_builtin_flat T'.typeIs ysf.lookup ?_ hs;unfold yco
 try with_reducible refine ybc ?_
 refine yaa (ybk T'.typeIs (by decide) ?_);refine yaa (yqc (name:=yvf "__getitem__") T'.typeIs ysf
  (ysc ysf T'.typeIs entry_dict_getitem ?_ (args_dict_getitem _ _)))
 show wpAny _ _ (dictGet a (.str k tk) >>= _) _ _ s
 refine yaa (KTD.dictGet_text T' (λd v ha hv=>?_) λhn=>?_)
 ·rw[hd] at ha;cases ha;have hv':Reads s.heap v (.int i) []:=hv s.heap;obtain⟨t,rfl⟩:∃t,v=Value.int i t:=by
   cases hv' with
   | int _ t=>exact⟨t,rfl⟩
  have fin:EP X pins σ Q (.int i t) { s with toks:=s.toks+1 }:=⟨.int i,H,I.tok _,⟨t,rfl⟩,q⟩;exact yga ⟨Value.int i t,rfl,yga ⟨λb z=>(nomatch z),fin⟩⟩
 ·rw[hd] at hn;cases hn
end
end L2
namespace L2
open PySem PySem.Spec PyProof.Rows
section
variable {X:Cx}
@[irreducible] def rStrAny:List V->Hp->VK->Prop:=λxs H Q=>(∃x,xs=[.str x]∧Q (.str x) H)∨∃i:Int,xs=[.int i]∧i.natAbs.log2<1920∧Q (.str (toString i)) H
theorem zmq:ztl X (.type "str") rStrAny:=by
 intro pins s σ H xs us Q I r h;unfold rStrAny at h
 rcases h with h|h
 ·exact zqz pins s σ H xs us Q I r h
 ·exact zrz pins s σ H xs us Q I r h
end
end L2
namespace L2
open PySem PySem.Spec PyProof.Rows
section
variable (K:yba){X:Cx}{a b o e:Expr}{es:List Expr}{ta tb to te:TE}{t:TA}{name f:Str}{apos cpos pos:Pos}{T id:String}{r:V->List V->Hp->VK->Prop}
theorem zmh (hK:X.K=K:=by rfl):IxR X (rIxT K):=hK▸zyb
theorem zmfb (hK:X.K=K:=by rfl):OpR X (yzc .In) (rIn K false):=hK▸zme
theorem zbpb (he:PE X e ta)(hb:ynh e f X.env (eval e X.env)=eval e X.env)(hK:X.K=K:=by rfl):PE X (.Attribute e f pos) (tFld K ta f):=hK▸zwe he hb
end
end L2
namespace SSet
open PySem PySem.Spec PyProof.Rows
theorem zusb (t:ylf)(n:Nat):(t.orStandIn n).led=t.led∧(t.plain=false->(t.orStandIn n).plain=false):=by
 unfold ylf.orStandIn
 split
 ·exact⟨rfl,id⟩
 ·exact⟨rfl,λ_=>rfl⟩
theorem zopb (t:ylf)(es:Array (Int×Value))(h:Int)(x:Value):(layNew t es h x).2.1.led=t.led:=by
 unfold layNew
 split
 ·exact (zusb _ _).1
 ·rfl
theorem zeib (t:ylf)(es:Array (Int×Value))(k:Nat):(ypm t es k).2.1.led=t.led∧(t.plain=false->(ypm t es k).2.1.plain=false):=by
 unfold ypm
 split
 ·rename_i u order e;have q:u.led=t.led∧u.plain=t.plain:=by
   unfold ylf.relaid ylf.laid at e;simp only[bind,Option.bind,pure] at e
   split at e
   ·cases e
   ·injection e with e
    injection e with e _
    rw[← e];exact⟨rfl,rfl⟩
  dsimp only
  split
  ·exact⟨q.1,λz=>q.2.trans z⟩
  ·exact⟨rfl,λ_=>rfl⟩
 ·exact⟨rfl,λ_=>rfl⟩
def SS (prog:ypb)(w:World)(h:Heap)(a:Addr)(D:List Str)(b:Bool):Prop :=
 ∃o es ep t,h.get? a=some o∧o.ExactSet∧o.data = .set es ep t∧yfo (yrc prog w) es.toList∧(es.toList.map λe=>strOf e.2).Perm D∧es.size<yhk∧t.fits es.size=true∧t.led=b∧(es.size=0∨t.plain=false)
section
variable {prog:ypb}{w:World}{A:Around}{E:Value->Shared->Prop}{s:Shared}
theorem SS.keep {h h':Heap}{a:Addr}{D:List Str}{b:Bool}(x:SS prog w h a D b)(k:∀o,h.get? a=some o->h'.get? a=some o):SS prog w h' a D b:=by
 obtain⟨o,es,ep,t,ho,r⟩:=x;exact⟨o,es,ep,t,k _ ho,r⟩
theorem znnb {es:List (Int×Value)}(h:yfo (yrc prog w) es){e:Int×Value}(he:e∈es):∃x t,e.2 = .str x t∧e.1=(yrc prog w).hash x:=by
 obtain⟨⟨k,hk,hh⟩,_⟩:=h e he;obtain⟨t,et⟩:=yti (x:=k) (v:=e.2) hk;exact⟨k,t,et,hh⟩
theorem zjbb {es:List (Int×Value)}{D:List Str}{x:Str}(hel:yfo (yrc prog w) es)(hp:(es.map λe=>strOf e.2).Perm D) :
  x∈D↔∃e∈es,(yrc prog w).is x e.2=true:=by
 rw[← hp.mem_iff,ydb]
 constructor
 ·rintro⟨e,he,rfl⟩;obtain⟨y,t,e1,_⟩:=znnb hel he;refine⟨e,he,?_⟩;rw[e1];show yxf y (.str y t)=true
  simp[yxf]
 ·rintro⟨e,he,hi⟩;obtain⟨t,e1⟩:=yti (x:=x) (v:=e.2) hi;exact⟨e,he,by rw[e1];rfl⟩
theorem zjdb {g:Bool->Sem Unit}(hg:∀(b:Bool) (s₁:Shared) (Q':Unit->Shared->Prop),Q' () s₁->wpAny (model prog w) A (g b) Q' E s₁)
  {a:Addr} {o:Obj} {es:Array (Int×Value)} {ep:Nat} {t:ylf} (ho:s.heap.get? a=some o) (hex:o.ExactSet) (hd:o.data = .set es ep t)
  {fs:Array (Int×Value)} {u:ylf} {D:List Str} {b:Bool} (hel:yfo (yrc prog w) fs.toList) (hp:(fs.toList.map λe=>strOf e.2).Perm D) (hb:fs.size<yhk) (hf:u.fits fs.size=true) (hl:u.led=b) (hpl:u.plain=false)
  {dm:Bool} {R:Option Bool->Shared->Prop} (h:∀h',ywc a s.heap h'->SS prog w h' a D b->R (some true) { s with heap:=h' }) :
  wpAny (model prog w) A (do
    storeSet a fs u
    if (!dm&&u.tooFull)=true then do
        g (ypm u fs (yhg fs.size)).2.2
        storeSet a (ypm u fs (yhg fs.size)).1 (ypm u fs (yhg fs.size)).2.1
        pure (some true)
     else pure (some true)) R E s:=by
 have lim:∀{n:Nat},n<yhk->n≤yta:=λz=>yik z;refine yaa (wpAny_storeSet_of ho hd ?_ (lim hb));have k1:(s.heap.update a (yjk fs u)).get? a=some { o with data:=.set fs (ep+1) u }:=by
  have z:=yae (yjk fs u) ho (by rw[ydp fs u hd];rfl);rw[ydp fs u hd] at z;exact z
 have b1:=yue s.heap a (yjk fs u)
 split
 ·have p2:=relayAll_perm u fs (yhg fs.size);have f2:=relayAll_fits u fs (yhg fs.size);obtain⟨l2,q2⟩:=zeib u fs (yhg fs.size);generalize ypm u fs (yhg fs.size)=R2 at p2 f2 l2 q2 ⊢;obtain⟨fs2,u2,gv⟩:=R2;dsimp only at p2 f2 l2 q2 ⊢;have z2:fs2.size=fs.size:=by rw[← ybb,p2.length_eq,ybb]
  refine yaa (hg _ _ _ ?_);refine yaa (wpAny_storeSet_of k1 rfl ?_ (lim (by rw[z2];exact hb)));have k2:((s.heap.update a (yjk fs u)).update a (yjk fs2 u2)).get? a=some { o with data:=.set fs2 (ep+1+1) u2 }:=by
   have z:=yae (yjk fs2 u2) k1 (by rw[ydp fs2 u2 rfl];rfl);rw[ydp fs2 u2 rfl] at z;exact z
  exact yga (h _ (b1.trans (yue _ a _)) ⟨_,fs2,_,u2,k2,hex,rfl,yfo.perm hel p2,(p2.map _).trans hp,by rw[z2];exact hb,f2,l2.trans hl,.inr (q2 hpl)⟩)
 ·exact yga (h _ b1 ⟨_,fs,_,u,k1,hex,rfl,hel,hp,hb,hf,hl,.inr hpl⟩)
theorem add_str {a:Addr}{D:List Str}{b:Bool}{x:Str}{tk:Tok}{Q:Bool->Shared->Prop}(hS:SS prog w s.heap a D b)(hroom:D.length+1<yhk)
  (h:∀h' r,ywc a s.heap h'->SS prog w h' a (if x∈D then D else D++[x]) b->Q r { s with heap:=h' }) :
  wpAny (model prog w) A (setAddHashed a (.str x tk) ((yrc prog w).hash x)) Q E s:=by
 obtain⟨o,es,ep,t,ho,hex,hd,hel,hp,hb,hf,hl,hpl⟩:=hS;have key:(yrc prog w).is x (.str x tk)=true:=by
  show yxf x (.str x tk)=true
  simp[yxf]
 have hz:es.size=D.length:=by rw[← hp.length_eq,yda,ybb]
 unfold setAddHashed setAddHashedIn;refine ybc (yaa (ype ho hd hf ?_));dsimp only;rw[byScan_of (x:=.str x tk) rfl hb hel];simp only[↓reduceIte];unfold setAddByScan;refine yaa (yaa (ysi (yaa (wpAny_setScan_of key ho hd hf hel ?_))));have mi:=zjbb (x:=x) hel hp;cases hr:List.findIdx? (λe=>(yrc prog w).is x e.2) es.toList with
 | some j =>
  obtain⟨hj,hpj,_⟩:=List.findIdx?_eq_some_iff_getElem.mp hr;have hin:x∈D:=mi.mpr ⟨_,yto hj,hpj⟩;dsimp only;refine yga (yga ?_);have z:=h s.heap false (ygk a s.heap);rw[if_pos hin] at z;exact z ⟨o,es,ep,t,ho,hex,hd,hel,hp,hb,hf,hl,hpl⟩
 | none =>
  have hno:¬ x∈D:=λhin=>by
   obtain⟨e,he,hi⟩:=mi.mp hin;have z:=List.findIdx?_eq_none_iff.mp hr e he;rw[hi] at z;cases z
  simp only[if_neg hno] at h;dsimp only;have p1:=layNew_perm t es ((yrc prog w).hash x) (.str x tk);have f1:=layNew_fits t es ((yrc prog w).hash x) (.str x tk);have l1:=zopb t es ((yrc prog w).hash x) (.str x tk);generalize layNew t es ((yrc prog w).hash x) (.str x tk)=L at p1 f1 l1 ⊢;obtain⟨fs,u,dm,gave⟩:=L;dsimp only at p1 f1 l1 ⊢;rw[ygo] at p1;have el1:yfo (yrc prog w) fs.toList:=(hel.push key rfl).perm p1;have pp:(fs.toList.map λe=>strOf e.2).Perm (D++[x]):=by
   refine (p1.map _).trans ?_;rw[yfb];exact yem.append hp (yrj _)
  have z1:fs.size=D.length+1:=by rw[← ybb,p1.length_eq,yea,ybb,hz];rfl
  have give:∀(c:Bool) (s₁:Shared) (Q':Unit->Shared->Prop),Q' () s₁->wpAny (model prog w) A (match c with|true=>rule "set.scan.the-table-gave-way"|false=>pure ()) Q' E s₁:=λc s₁ Q' q=>by
   cases c
   ·exact yga q
   ·exact ysi q
  refine yaa (give _ _ _ ?_)
  split
  ·refine yaa ?_;rw[hashByValue_scannable 8 (x:=.str x tk) rfl];refine yga ?_;refine zjdb (b:=b) (D:=D++[x]) give ho hex hd el1 pp (by omega) (ylf.fits_plain_off f1) (l1.trans hl) rfl ?_;intro h' sb S';exact yga (h h' _ sb S')
  ·rename_i np;refine yaa (yga ?_);simp only[↓reduceIte];refine zjdb (b:=b) (D:=D++[x]) give ho hex hd el1 pp (by omega) f1 (l1.trans hl) (by simpa using np) ?_;intro h' sb S';exact yga (h h' _ sb S')
def dd (xs:List Str):List Str:=xs.foldl (λD x=>if x∈D then D else D++[x]) []
theorem zubb (xs:List Str)(x:Str):dd (xs++[x])=if x∈dd xs then dd xs else dd xs++[x]:=by
 unfold dd;rw[List.foldl_append];rfl
theorem zrtb:∀n (xs:List Str),(dd (xs.take n)).length≤n
 | 0,xs=>yma 0
 | n+1,xs=>by
  have ih:=zrtb n xs;rw[yjb];cases e:xs[n]? with
  | none =>
   rw[Option.toList_none,ytb];omega
  | some x =>
   rw[ync,zubb]
   split
   ·omega
   ·rw[yea,yad];omega
theorem zekb {R:Result->Shared->Prop}{I S:Addr}{fp wr:List Addr}{n:Nat}{P:Nat->Value->Prop}{St:Nat->Heap->Prop}{b:Bool}(W:Walks prog w A.in1 I fp wr n P St)(hSf:S∉fp)(xs:List Str)
  (hval:∀i v,P i v->∃x t,xs[i]?=some x∧v = .str x t) (hn:n+1<yhk) :
  ∀(k i:Nat) (s:Shared),n-i=k->i≤n->St i s.heap->SS prog w s.heap S (dd (xs.take i)) b →
   (∀h' tk,SS prog w h' S (dd (xs.take n)) b->(∀c o,c∉S::wr->s.heap.get? c=some o->h'.get? c=some o)->R (.ok (.ret .none)) { s with heap:=h',toks:=tk }) →
   yyi (model prog w) A (.builtin "set.update.loop" ⟨[.ref S,.ref I],[]⟩) R s:=by
 have nw:S∉wr:=λz=>hSf (W.sub _ z);intro k
 induction k with
 | zero =>
  intro i s hk hi st hS hR;obtain rfl:i=n:=by omega
  refine yng yyg ?_;rw[ymf yne _];show wpAny _ A.in1 (pyNext (.ref I) >>= _) _ _ s
  refine yaa (W.done s _ _ st λh' tk keep=>?_);show wpAny _ A.in1 (ret Value.none) _ _ _
  exact yga (hR h' tk (hS.keep λo e=>keep S o nw e) λc o hc e=>keep c o (λz=>hc (yna _ z)) e)
 | succ k ih =>
  intro i s hk hi st hS hR;have hlt:i<n:=by omega
  refine yng yyg ?_;rw[ymf yne _];show wpAny _ A.in1 (pyNext (.ref I) >>= _) _ _ s
  refine yaa (W.item i s _ _ hlt st λv h1 tk hP st1 keep=>?_);obtain⟨x,t,hx,rfl⟩:=hval i v hP;have hS1:SS prog w h1 S (dd (xs.take i)) b:=hS.keep λo e=>keep S o nw e;show wpAny _ A.in1 (ycn [Value.str x t] (setAdd S (.str x t)) >>= _) _ _ _
  refine yaa (ybc ?_);unfold setAdd;refine ybc (yaa ((yrc prog w).pyHash (k:=x) (by show yxf x (.str x t)=true;simp[yxf]) ?_));have hle:=zrtb i xs;refine add_str (b:=b) (D:=dd (xs.take i)) (s:={ s with heap:=h1,toks:=tk+1 }) hS1 (by omega) λh2 r sb S2=>?_;have e2:(if x∈dd (xs.take i) then dd (xs.take i) else dd (xs.take i)++[x])=dd (xs.take (i+1)):=by
   rw[yjb,hx,ync,zubb]
  rw[e2] at S2;refine yga ⟨ypi yne _,ih (i+1) _ (by omega) hlt (W.frame _ h1 _ st1 λc hc o e=>?_) S2 λh3 tk3 S3 keep3=>?_⟩
  ·rw[sb.2 c (λz:c=S=>hSf (by rw[← z];exact hc))];exact e
  ·refine hR h3 tk3 S3 λc o hc e=>keep3 c o hc ?_;show h2.get? c=some o
   rw[sb.2 c (λz:c=S=>hc (by rw[z];exact yka))];exact keep c o (λz=>hc (yna _ z)) e
abbrev empt (w:World):Obj:={ cls:=.type "set",dict:=none,data:=.set #[] 0 (.fresh 0 0 (!w.params.followText "set-order")) }
theorem znpb (v:Value){Q1:Value->Shared->Prop}(h:Q1 (.ref s.heap.objs.size) { s with heap:=s.heap.push (empt w) }) :
  yyi (model prog w) A (.call (.builtin "set.__new__") ⟨[.type "set",v],[]⟩) (wants Q1 E) s:=by
 refine codeAny_of_tree ?_;have sb:=sub_set_self;show wpAny _ A.in1 (checkBuiltinCall "set.__new__" ⟨[.type "set",v],[]⟩ >>= λ_=>again (.builtin "set.__new__" ⟨[.type "set",v],[]⟩)) _ _ s
 refine yaa (wpAny_of_eq (PySem.F.newCall_set_1 v) (yga ⟨ypi yfm _,yng PySem.F.entry_set_new ?_⟩));rw[ymf yfm _];obtain⟨hp,gn,dr,tk,os⟩:=s;unfold yyf.«set.__new__»;unfold yyf.Frozenset.newClass;dsimp only
 wp_walk
 refine ych (yga ?_);dsimp only[newObj];refine yaa (wpAny_alloc (yga (yga ?_)));exact h
theorem ztgb:∀{us:List Value} {xs:List Str},ywk us xs->∀(i:Nat) (v:Value),us[i]?=some v->∃x t,xs[i]?=some x∧v = .str x t
 | _,_,.nil,i,v,e=>by simp at e
 | _,_,.cons x t r,0,v,e=>by
  rw[yge] at e;cases e;exact⟨x,t,rfl,rfl⟩
 | _,_,.cons x t r,i+1,v,e=>by
  rw[yyb] at e;obtain⟨y,u,h1,h2⟩:=ztgb r i v e;exact⟨y,u,by rw[yyb];exact h1,h2⟩
theorem zfqb (h:Heap):SS prog w (h.push (empt w)) h.objs.size [] (!w.params.followText "set-order") :=
 ⟨_,#[],0,_,yla _ rfl,⟨rfl,rfl,rfl⟩,rfl,λe he=>by simp at he,.nil,by decide,by rfl,rfl,.inl rfl⟩
theorem set_list {l:Addr}{its:Array Value}{xs:List Str}{Q:Value->Shared->Prop}(hh:A.handled=none)(hl:s.heap.IsList l its)(hi:ywk its.toList xs)(hb:its.size+1<yhk)
  (h:∀(h':Heap) (tk:Nat),SS prog w h' s.heap.objs.size (dd xs) (!w.params.followText "set-order")->(∀c o,s.heap.get? c=some o->h'.get? c=some o)->Q (.ref s.heap.objs.size) { s with heap:=h',toks:=tk }) :
  wpAny (model prog w) A (call (.type "set") [.ref l]) Q E s:=by
 obtain⟨cM,tM,mro⟩:=ysd.mro;have made:=ysd.made;have subs:=ysd.sub;have notT:=ysd.notType;have canC:=ysd.canCreate;have chk:=PySem.F.typeCall_set_1 (.ref l);refine wpAny_call (codeAny_of_tree ?_);show wpAny _ _ (callAny (.type "set") ⟨[.ref l],[]⟩) _ _ _
 refine yga ⟨Code.quiet_builtin _ (by decide +kernel),yng PySem.F.entry_type_call ?_⟩;rw[Around.under_plain (weight_type_call_type "set" [Value.ref l] []) rfl]
 repeat (any_goals (first|assumption|wp_step))
 refine yhi (znpb (.ref l) (E:=E) (Q1:=λob s1=>ob = .ref s.heap.objs.size∧s1={ s with heap:=s.heap.push (empt w) }) ⟨rfl,rfl⟩) λr s1 hr=>?_;cases r with
 | error e=>exact hr
 | ok fl =>
  cases fl with
  | ret ob =>
   obtain⟨rfl,rfl⟩:=hr;have g0:(s.heap.push (empt w)).get? s.heap.objs.size=some (empt w):=yla _ rfl;have ty0:yrn { s with heap:=s.heap.push (empt w) } (.ref s.heap.objs.size) "set":=⟨_,g0,rfl⟩;have lk:=ysd.init.lookup;have bd:=ysd.init.bind (.ref s.heap.objs.size)
   repeat (any_goals (first|assumption|wp_step))
   refine yhi (codeAny_call_builtin (R:=wants (λr s2=>r = .none∧∃h' tk,s2={ s with heap:=h',toks:=tk }∧SS prog w h' s.heap.objs.size (dd xs) (!w.params.followText "set-order") ∧
     (∀c o,s.heap.get? c=some o->h'.get? c=some o)) E) ysd.init.plain PySem.F.entry_set_init (check_set_init_1 ty0 ?_)) λr2 s2 hr2=>?_
   ·obtain⟨ol,e1,e2,nl,e3⟩:=hl;obtain⟨oc,od,oD,osl⟩:=ol;dsimp only at e2 e3;subst e2 e3;have e1':(s.heap.push (empt w)).get? l=some { cls:=.type "list",dict:=od,data:=.seq its nl,slots:=osl }:=yca _ e1;have q1:=PySem.F.sub_list_set;have q2:=PySem.F.sub_list_frozenset;have q3:(Value.type "list" == Value.type "dict")=false:=by decide
    have L1:(s.heap.push (empt w)).IsList l its:=⟨_,e1',rfl,nl,rfl⟩;have lt:l<s.heap.objs.size:=yra e1;unfold yyf.«set.__init__» noKeywords yyf.Frozenset.updateFrom;generalize hPI:pyIter=PI
    wp_walk
    subst hPI;refine yyh L1 (yaa (wpAny_runValue ?_));have ne:l≠(s.heap.push (empt w)).objs.size:=by
     rw[yif];exact yhb (ybi lt)
    have nf:s.heap.objs.size∉[(s.heap.push (empt w)).objs.size,l]:=by
     rw[yif];intro z
     rcases yja.mp z with z|z
     ·exact absurd z (yhb (yfg _))
     ·exact absurd (yia.mp z) (yih lt)
    have hv:∀(i:Nat) (v:Value),its[i]?=some v->∃x t,xs[i]?=some x∧v = .str x t:=λi v e=>ztgb hi i v (by rw[yhc];exact e);have hx:xs.take its.size=xs:=yua (by rw[← ybb,hi.length];exact yma _);refine zekb (b:=!w.params.followText "set-order") (Walks.list (by simp[hh]) _ l ne its) nf xs hv hb (its.size-0) 0 _ (by omega) (ylb _) ⟨⟨_,yla _ rfl,rfl,rfl⟩,L1.push _⟩ ?S0 ?R0
    case S0=>exact (zfqb s.heap).keep λo e=>yca _ e
    case R0 =>
     intro h' tk S' keep;rw[hx] at S';show wpAny _ _ _ _ _ _
     refine yga ?_;show wpAny _ _ (ret Value.none) _ _ _
     refine yga ⟨rfl,h',tk,rfl,S',λc o e=>?_⟩;have clt:=yra e;refine keep c o ?_ (yca _ (yca _ e));rw[yif];intro z
     rcases yja.mp z with z|z
     ·exact absurd z (yhb clt)
     ·exact absurd (yia.mp z) (yhb (ybi clt))
   ·cases r2 with
    | error e=>exact hr2
    | ok fl2 =>
     cases fl2 with
     | ret r =>
      obtain⟨rfl,h',tk,rfl,S',keep⟩:=hr2
      repeat (any_goals (first|assumption|wp_step))
      exact h _ _ S' keep
     | next=>exact hr2.elim
     | brk=>exact hr2.elim
     | cont=>exact hr2.elim
  | next=>exact hr.elim
  | brk=>exact hr.elim
  | cont=>exact hr.elim
end
end SSet
namespace SSet
open PySem PySem.Spec PyProof.Rows
theorem zlv:Slot "set_iterator" "__next__" "set_iterator.__next__":=.of (owner:="set_iterator") (n:="__next__") (by rw[typeLookup_type,ygm];kernel_rfl) (by decide +kernel) (by decide +kernel) (by decide +kernel) (by first|exact .inl (by decide +kernel)|exact .inr (by decide +kernel)) (by rw[yym];kernel_rfl)
theorem zcqb:entryFor table "set_iterator.__next__" = some yyf.«set_iterator.__next__»:=entryFor_of_fast (by kernel_rfl)
theorem zoqb (v:Value):argsOk "set_iterator.__next__" ⟨[v],[]⟩:=by unfold argsOk;kernel_rfl
theorem zdqb:entryFor table "set.__iter__" = some yyf.«frozenset.__iter__»:=entryFor_alias (id':="frozenset.__iter__") (by kernel_rfl) rfl (by decide +kernel) (by kernel_rfl)
theorem zdhb:Slot "set_iterator" "__iter__" "set_iterator.__iter__":=.of (owner:="set_iterator") (n:="__iter__") (by rw[typeLookup_type,ygm];kernel_rfl) (by decide +kernel) (by decide +kernel) (by decide +kernel) (by first|exact .inl (by decide +kernel)|exact .inr (by decide +kernel)) (by rw[yym];kernel_rfl)
theorem zbqb:entryFor table "set_iterator.__iter__" = some yyf.«dict_keyiterator.__iter__»:=entryFor_alias (id':="dict_keyiterator.__iter__") (by kernel_rfl) rfl (by decide +kernel) (by kernel_rfl)
theorem znqb (v:Value):argsOk "set_iterator.__iter__" ⟨[v],[]⟩:=by unfold argsOk;kernel_rfl
def zyw (h:Heap)(it a:Addr)(first:Value)(i n ep:Nat):Prop:=h.get? it=some { cls:=.type "set_iterator",dict:=none,data:=.fields #[first,rawInt i,.ref a,rawInt n,rawInt ep],slots:=#[] }
def SObj (h:Heap)(a:Addr)(es:Array (Int×Value))(ep:Nat)(t:ylf):Prop:=∃o,h.get? a=some o∧o.cls = .type "set" ∧ o.data = .set es ep t∧t.fits es.size=true
theorem SObj.keep {h h':Heap}{a:Addr}{es:Array (Int×Value)}{ep:Nat}{t:ylf}(x:SObj h a es ep t)(k:∀o,h.get? a=some o->h'.get? a=some o):SObj h' a es ep t:=by
 obtain⟨o,ho,r⟩:=x;exact⟨o,k _ ho,r⟩
section
variable {prog:ypb}{w:World}{A:Around}{E:Value->Shared->Prop}{s:Shared}
theorem zyw.typeIs {it a:Addr}{f:Value}{i n ep:Nat}(h:zyw s.heap it a f i n ep):s.TypeIs (.ref it) "set_iterator":=⟨_,h,rfl⟩
theorem ztx {Q:Option Value->Shared->Prop}{F:Fin->Shared->Prop}(hh:A.handled=none)(hQ:∀h',(∀b o,s.heap.get? b=some o->h'.get? b=some o)->Q none { s with heap:=h' }) :
  wpAny (model prog w) A.in1 (newExc (.type "StopIteration") [] >>= λx=>yyo x) F (λe s'=>wpAny (model prog w) A (do
     let b ← yho e (Value.type "StopIteration")
     if b=true then pure none else throw e) Q E s') s:=by
 refine yaa ?_;simp only[newExc,newTuple];refine yaa (yuc ?_ (by size_fits));refine yaa (m:=ysj _ _) (wpAny_of_eq (a:=Value.none) (by first|rfl|(simp only[ysj];rfl)) (yuc ?_ (by size_fits)));simp only[yyo];refine yaa (wpAny_handled ?_);rw[show A.in1.handled=none from hh];refine yaa (yga (wpAny_throw ?_));refine yaa (ygl (b:=true) (T:="StopIteration") ⟨_,yla _ rfl,rfl⟩ isSubtype_stop ?_);exact yga (hQ _ λb o e=>yca _ (yca _ e))
theorem zyv {it a:Addr}{f:Value}{i n ep:Nat}{es:Array (Int×Value)}{t:ylf}{Q:Option Value->Shared->Prop}(hit:zyw s.heap it a f i n ep)(hs:SObj s.heap a es ep t)(hn:es.size=n)
  (h:wpAny (model prog w) A.in1 (match f with
      | Value.int slot tok=>do
       let r ← yhm a slot.toNat i ep
       match r with
        | some (x,nx)=>do
         yxk (Value.ref it) 0 (rawInt nx)
         yxk (Value.ref it) 1 (rawInt ((i:Int)+1))
         ret x
        | none=>do
         yxk (Value.ref it) 2 Value.none
         let y ← newExc (Value.type "StopIteration") []
         yyo y
      | x=>do
       let r ← ykk f
       match r with
        | some places =>
         match places[i]? with
         | some (Value.int place tok)=>do
          let x ← setNextDrawn a place.toNat ep
          yxk (Value.ref it) 1 (rawInt ((i:Int)+1))
          ret x
         | some val=>unsupported "internal:set_iterator"
         | none=>do
          yxk (Value.ref it) 0 (rawInt 0)
          yxk (Value.ref it) 2 Value.none
          let y ← newExc (Value.type "StopIteration") []
          yyo y
        | x=>unsupported "internal:set_iterator")
   (λfin s'=>∃v,fin=Fin.done (Flow.ret v)∧wpAny (model prog w) A (pure (some v)) Q E s')
   (λe s'=>wpAny (model prog w) A (do
     let b ← yho e (Value.type "StopIteration")
     if b=true then pure none else throw e) Q E s') s):wpAny (model prog w) A (pyNext (.ref it)) Q E s:=by
 obtain⟨oS,hoS,hcS,hdS,hf⟩:=id hs;unfold pyNext;refine yaa (yyk (yqc (name:=yvf "__next__") hit.typeIs zlv (ysc zlv hit.typeIs zcqb ?_ (zoqb _))));unfold yyf.«set_iterator.__next__»;refine yaa (yga ?_);refine yaa (wpAny_fieldsOf hit rfl ?_);show wpAny _ _ (setEntries a >>= _) _ _ _
 refine yaa (wpAny_setEntries_of hoS hdS hf ?_);rw[if_neg (by rw[hn];simp[rawInt])];exact h
theorem zpfb {it a tp:Addr}{i n ep:Nat}{es:Array (Int×Value)}{t:ylf}{pl:Array Value}{j:Nat}{tk:Tok}{e:Int×Value}{Q:Option Value->Shared->Prop}
  (hit:zyw s.heap it a (.ref tp) i n ep) (hs:SObj s.heap a es ep t) (hn:es.size=n) (htp:IsTup s.heap tp pl) (hpl:pl[i]?=some (.int j tk)) (he:es[j]?=some e)
  (hQ:∀h',zyw h' it a (.ref tp) (i+1) n ep->ywc it s.heap h'->Q (some e.2) { s with heap:=h' }):wpAny (model prog w) A (pyNext (.ref it)) Q E s:=by
 obtain⟨oS,hoS,hcS,hdS,hf⟩:=id hs;refine zyv hit hs hn ?_;dsimp only;obtain⟨oT,hoT,hcT,nT,hdT⟩:=htp;have sq:∀{Q':Option (Array Value)->Shared->Prop},Q' (some pl) s->wpAny (model prog w) A.in1 (ykk (.ref tp)) Q' (λe s'=>wpAny (model prog w) A (do
     let b ← yho e (Value.type "StopIteration")
     if b=true then pure none else throw e) Q E s') s:=λq=>by
  unfold ykk;refine yaa (ywn hoT ?_);rw[hdT];exact yga q
 refine yaa (sq ?_);dsimp only;rw[hpl];dsimp only;rw[ydc];unfold setNextDrawn;refine yaa (yaa (ype hoS hdS hf ?_));dsimp only;rw[if_neg (by simp),he];refine yga ?_;refine yaa (yoc hit (by simp) λh' g sb=>?_);refine yga ⟨_,rfl,yga (hQ h' ?_ sb)⟩;exact g
theorem zcjb {it a tp:Addr}{i n ep:Nat}{es:Array (Int×Value)}{t:ylf}{pl:Array Value}{Q:Option Value->Shared->Prop}(hh:A.handled=none)
  (hit:zyw s.heap it a (.ref tp) i n ep) (hs:SObj s.heap a es ep t) (hn:es.size=n) (htp:IsTup s.heap tp pl) (hpl:pl[i]?=none)
  (hQ:∀h',(∀b o,b≠it->s.heap.get? b=some o->h'.get? b=some o)->Q none { s with heap:=h' }):wpAny (model prog w) A (pyNext (.ref it)) Q E s:=by
 refine zyv hit hs hn ?_;dsimp only;obtain⟨oT,hoT,hcT,nT,hdT⟩:=htp;have sq:∀{Q':Option (Array Value)->Shared->Prop},Q' (some pl) s->wpAny (model prog w) A.in1 (ykk (.ref tp)) Q' (λe s'=>wpAny (model prog w) A (do
     let b ← yho e (Value.type "StopIteration")
     if b=true then pure none else throw e) Q E s') s:=λq=>by
  unfold ykk;refine yaa (ywn hoT ?_);rw[hdT];exact yga q
 refine yaa (sq ?_);dsimp only;rw[hpl];dsimp only;refine yaa (yoc hit (by simp) λh1 g1 sb1=>?_);refine yaa (yoc g1 (by simp) λh2 g2 sb2=>?_);refine ztx hh λh' k=>hQ h' λb o nb e=>k b o ?_;show h2.get? b=some o
 rw[sb2.2 b nb,sb1.2 b nb];exact e
end
end SSet
namespace SSet
open PySem PySem.Spec PyProof.Rows
theorem pull {α:Type}:∀{l:List α} {i:Nat} (h:i<l.length),(l[i]::l.eraseIdx i).Perm l
 | [],i,h=>by simp at h
 | x::r,0,h=>yrj _
 | x::r,i+1,h=>by
  have ih:=pull (l:=r) (i:=i) (by simpa using h);exact (yem.swap x _ _).trans (yem.cons x ih)
theorem zrhb {α:Type}(nx:Nat->Nat):∀(k j:Nat) (left:List α) (out:Array α),left.length=k->(yup nx k j left out).toList.Perm (out.toList++left)
 | 0,j,left,out,h=>by
  have e:left=[]:=yhe.mp h;subst e;rw[ytb];exact yrj _
 | k+1,j,left,out,h=>by
  have hlt:nx j % left.length<left.length:=Nat.mod_lt _ (by omega);unfold yup;rw[yqa hlt];dsimp only;refine (zrhb nx k (j+1) _ _ (by rw[ylj hlt];omega)).trans ?_;rw[ygo,yed];exact yem.append_left _ (pull hlt)
theorem zqhb {α:Type}(nx:Nat->Nat)(xs:Array α):(yaj nx xs).toList.Perm xs.toList:=by
 have q:=zrhb nx xs.size 0 xs.toList #[] (by simp);unfold yaj
 simpa using q
section
variable {prog:ypb}{w:World}{A:Around}{E:Value->Shared->Prop}{s:Shared}
theorem zbgb {src:Source}{n:Nat}{Q:Nat->Shared->Prop}(hn:n≠0)(h:∀i d,i<n->Q i { s with drawn:=d }):wpAny (model prog w) A (choose src n) Q E s:=fun Γ p hΓ=>by
 unfold choose;show Sem.wp _ _ (.choose src n .pure) _ _ _ _
 rw[Sem.wp_choose];exact⟨hn,h _ _ (Nat.mod_lt _ (by omega))⟩
theorem zfeb {α:Type}:∀(n:Nat) (xs:List α) (s:Shared) (Q:List α->Shared->Prop),xs.length=n->(∀ys d,ys.Perm xs->Q ys { s with drawn:=d })->wpAny (model prog w) A (drawOrder n xs) Q E s
 | 0,xs,s,Q,hl,h=>by
  have e:xs=[]:=yhe.mp hl;subst e;exact yga (h [] s.drawn (yrj _))
 | n+1,[],s,Q,hl,h=>by cases hl
 | n+1,x::r,s,Q,hl,h=>by
  unfold drawOrder;refine yaa (zbgb (by simp) λi d hi=>?_);rw[yqa hi];dsimp only;refine yaa (zfeb n _ _ _ (by rw[ylj hi];omega) λys d2 hp=>?_);exact yga (h _ d2 ((yem.cons _ hp).trans (pull hi)))
theorem zez {it a:Addr}{f:Value}{i n ep:Nat}{Q:Value->Shared->Prop}(hit:zyw s.heap it a f i n ep)(h:Q (.ref it) s):wpAny (model prog w) A (pyIter (.ref it)) Q E s:=by
 refine wpAny_pyIter_slot hit.typeIs zdhb (ysc zdhb hit.typeIs zbqb ?_ (znqb _));show wpAny _ _ (ret (Value.ref it)) _ _ s
 exact yga ⟨_,rfl,"set_iterator",_,hit.typeIs,zlv.lookup,h⟩
theorem zrab (hh:A.handled=none){it a tp:Addr}(h1:a≠it)(h2:tp≠it)(es:Array (Int×Value))(ep:Nat)(t:ylf)(js:List Nat)(hl:js.length=es.size)(hj:∀j∈js,j<es.size) :
  Walks prog w A it [it,a,tp] [it] es.size (λi v=>∃j e,js[i]?=some j∧es[j]?=some e∧v=e.2) (λi h=>zyw h it a (.ref tp) i es.size ep∧SObj h a es ep t∧IsTup h tp (js.map λ(j:Nat)=>rawInt j).toArray) where
 sub:=λb hb=>by
  have e:b=it:=by simpa using hb
  rw[e];exact yka
 frame:=λi h h' st k=>⟨k it (by simp) _ st.1,st.2.1.keep λo e=>k a (by simp) o e,let ⟨o,e,r⟩:=st.2.2;⟨o,k tp (by simp) o e,r⟩⟩
 item:=λi s Q E hi st hQ=>by
  have hi':i<js.length:=by omega
  have ej:js[i]?=some js[i]:=yqa hi';have hlt:js[i]<es.size:=hj _ (yto hi');have ee:es[js[i]]?=some es[js[i]]:=ynb hlt;refine zpfb (j:=js[i]) (tk:=0) (e:=es[js[i]]) st.1 st.2.1 rfl st.2.2 ?_ ee λh' g sb=>?_
  ·rw[yim,yub,ej];rfl
  ·exact hQ _ h' s.toks ⟨_,_,ej,ee,rfl⟩ ⟨g,st.2.1.keep λo e=>(sb.2 a h1).trans e,let ⟨o,e,r⟩:=st.2.2;⟨o,(sb.2 tp h2).trans e,r⟩⟩ λb o hb e=>(sb.2 b λz=>hb (by rw[z];exact yka)).trans e
 done:=λs Q E st hQ=>by
  refine zcjb hh st.1 st.2.1 rfl st.2.2 ?_ λh' k=>hQ h' s.toks λb o hb e=>k b o (λz=>hb (by rw[z];exact yka)) e;rw[yim,yub,yog (by omega)];rfl
 self:=λi s Q E st h=>zez st.1 h
theorem zkx (hh:A.handled=none){it a:Addr}(h1:a≠it)(es:Array (Int×Value))(ep:Nat)(t:ylf)(ord:List Value)(R:Nat->Nat->Prop)
  (hs:∀(A:Around) (E:Value->Shared->Prop) (i slot:Nat) (s:Shared) (Q:Option (Value×Nat)->Shared->Prop),i<es.size->R slot i->SObj s.heap a es ep t->(∀x nx,ord[i]?=some x->R nx (i+1)->Q (some (x,nx)) s)->wpAny (model prog w) A (yhm a slot i ep) Q E s)
  (he:∀(A:Around) (E:Value->Shared->Prop) (slot:Nat) (s:Shared) (Q:Option (Value×Nat)->Shared->Prop),R slot es.size->SObj s.heap a es ep t->Q none s->wpAny (model prog w) A (yhm a slot es.size ep) Q E s) :
  Walks prog w A it [it,a] [it] es.size (λi v=>ord[i]?=some v) (λi h=>(∃slot:Nat,zyw h it a (rawInt slot) i es.size ep∧R slot i)∧SObj h a es ep t) where
 sub:=λb hb=>by
  have e:b=it:=by simpa using hb
  rw[e];exact yka
 frame:=λi h h' ⟨⟨slot,g,r⟩,so⟩ k=>⟨⟨slot,k it (by simp) _ g,r⟩,so.keep λo e=>k a (by simp) o e⟩
 item:=λi s Q E hi st hQ=>by
  obtain⟨⟨slot,g,r⟩,so⟩:=st;refine zyv g so rfl ?_;show wpAny _ _ (yhm a ((slot:Int).toNat) i ep >>= _) _ _ _
  rw[ydc];refine yaa (hs _ _ i slot s _ hi r so λx nx hx r'=>?_);dsimp only;refine yaa (yoc g (by simp) λh2 g2 sb2=>?_);refine yaa (yoc g2 (by simp) λh3 g3 sb3=>?_);have sb:∀b,b≠it->h3.get? b=s.heap.get? b:=λb nb=>(sb3.2 b nb).trans (sb2.2 b nb);refine yga ⟨_,rfl,yga (hQ _ h3 s.toks hx ⟨⟨nx,g3,r'⟩,so.keep λo e=>(sb a h1).trans e⟩ λb o hb e=>(sb b λz=>hb (by rw[z];exact yka)).trans e)⟩
 done:=λs Q E st hQ=>by
  obtain⟨⟨slot,g,r⟩,so⟩:=st;refine zyv g so rfl ?_;show wpAny _ _ (yhm a ((slot:Int).toNat) es.size ep >>= _) _ _ _
  rw[ydc];refine yaa (he _ _ slot s _ r so ?_);dsimp only;refine yaa (yoc g (by simp) λh2 g2 sb2=>?_);refine ztx hh λh' k=>hQ h' s.toks λb o hb e=>k b o ?_;exact (sb2.2 b λz=>hb (by rw[z];exact yka)).trans e
 self:=λi s Q E ⟨⟨slot,g,_⟩,_⟩ h=>zez g h
end
end SSet
namespace SSet
open PySem PySem.Spec PyProof.Rows
theorem zun {α:Type}{vs ord:List α}(hl:vs.length=ord.length)(h:∀(i:Nat) v,vs[i]?=some v->ord[i]?=some v):vs=ord:=by
 refine List.ext_getElem? λi=>?_
 by_cases hi:i<vs.length
 ·rw[yqa hi];exact (h i _ (yqa hi)).symm
 ·rw[yog (by omega),yog (by omega)]
section
variable {prog:ypb}{w:World}{A:Around}{E:Value->Shared->Prop}{s:Shared}
theorem zmw {es:List (Int×Value)}{D:List Str}{vs:List Value}(hel:yfo (yrc prog w) es)(hp:(es.map λe=>strOf e.2).Perm D)(hv:vs.Perm (es.map (·.2))):∃ys,ywk vs ys∧ys.Perm D:=by
 refine⟨vs.map strOf,strsAre_map vs λv hm=>?_,?_⟩
 ·obtain⟨e,he,rfl⟩:=ydb.mp (hv.mem_iff.mp hm);obtain⟨x,t,e1,_⟩:=znnb hel he;exact⟨x,t,e1⟩
 ·refine (hv.map strOf).trans ?_;rw[ywf];exact hp
theorem zagb {es:Array (Int×Value)}{js:List Nat}(hj:js.Perm (yoe es.size)){vs:List Value}(hl:vs.length=es.size)(h:∀(i:Nat) v,vs[i]?=some v->∃j e,js[i]?=some j∧es[j]?=some e∧v=e.2):vs.Perm (es.toList.map (·.2)):=by
 have ev:vs=js.map λj=>(es.toList.getD j (0,.none)).2:=by
  refine zun (by rw[yda,hj.length_eq,ytf,hl]) λi v hv=>?_;obtain⟨j,e,h1,h2,rfl⟩:=h i v hv;rw[yub,h1];show some (es.toList.getD j (0,.none)).2=some e.2
  rw[yhd,yhc,h2];rfl
 rw[ev];refine (hj.map _).trans (yem.of_eq ?_);refine zun (by simp) λi v hv=>?_;rw[yub] at hv
 by_cases hi:i<es.size
 ·rw[List.getElem?_range hi] at hv;have hv':(es.toList.getD i (0,.none)).2=v:=yfc hv;rw[yub,← hv',yhd,yqa (by simpa using hi)];rfl
 ·rw[yog (by simp;omega)] at hv;cases hv
theorem zbmb {a:Addr}{D:List Str}{Q:Value->Shared->Prop}(hh:A.handled=none)(hS:SS prog w s.heap a D (!w.params.followText "set-order"))
  (h:∀(h':Heap) (d':Drawn) (I:Addr) (n:Nat) (fp:List Addr) (P:Nat->Value->Prop) (St:Nat->Heap->Prop),(∀b o,s.heap.get? b=some o->h'.get? b=some o)->s.heap.objs.size≤I->(∀b∈fp,b=a∨s.heap.objs.size≤b) →
   Walks prog w A I fp [I] n P St->St 0 h'->n=D.length->(∀vs:List Value,vs.length=n->(∀(i:Nat) v,vs[i]?=some v->P i v)->∃ys,ywk vs ys∧ys.Perm D)->Q (.ref I) { s with heap:=h',drawn:=d' }) :
  wpAny (model prog w) A (pyIter (.ref a)) Q E s:=by
 obtain⟨o,es,ep,t,ho,hex,hd,hel,hp,hb,hf,hl,hpl⟩:=hS;have hT:s.TypeIs (.ref a) "set":=⟨o,ho,hex.1⟩;have so:SObj s.heap a es ep t:=⟨o,ho,hex.1,hd,hf⟩;have hz:es.size=D.length:=by rw[← hp.length_eq,yda,ybb]
 have alt:a<s.heap.objs.size:=yra ho;refine wpAny_pyIter_slot hT yjm (ysc yjm hT zdqb ?_ (PySem.F.args_set_iter_1 _));unfold yyf.«frozenset.__iter__»;refine yaa (m:=yyf.Frozenset.slot0 "__iter__" _) (yga ?_);refine yaa (m:=yyf.Frozenset.sizeOf a) (yaa (wpAny_setEntries_of ho hd hf (yga ?_)));refine yaa (m:=setDrawn a) (yaa (ype ho hd hf (yaa (m:=yqm) (yaa (ych (yga (yga ?_)))))));dsimp only;have jp:∀{first:Value} {h1:Heap} {d1:Drawn},SObj h1 a es ep t->Q (.ref h1.objs.size) { s with heap:=h1.push { cls:=.type "set_iterator",dict:=none,data:=.fields #[first,rawInt (0:Nat),.ref a,rawInt es.size,rawInt ep],slots:=#[] },drawn:=d1 } →
   wpAny (model prog w) A.in1 (do
    let e ← setEpoch a
    let v ← newFields "set_iterator" [first,rawInt 0,Value.ref a,rawInt es.size,rawInt e]
    ret v) (λfin s'=>∃v,fin=Fin.done (Flow.ret v)∧∃T' r,s'.TypeIs v T'∧typeLookup (Value.type T') (yvf "__next__")=pure (some r)∧Q v s') E { s with heap:=h1,drawn:=d1 }:=by
  intro first h1 d1 ⟨o1,e1,e2,e3,e4⟩ q
  refine yaa (m:=setEpoch a) (yaa (ype e1 e3 e4 (yga ?_)));refine yaa (m:=newFields _ _) (yuc (yga ⟨_,rfl,"set_iterator",_,⟨_,yla _ rfl,rfl⟩,zlv.lookup,?_⟩));exact q
 split
 ·rename_i hc;have hc':(!w.params.followText "set-order" && (!t.plain&&decide (es.size>1)))=true:=hc;refine yaa (zfeb es.size (yoe es.size) s _ (by simp) λjs d1 pj=>?_);refine yaa (yzm ?_ (by rw[yda,pj.length_eq,ytf];exact yik hb));have jl:js.length=es.size:=by rw[pj.length_eq,ytf]
  have jm:∀j∈js,j<es.size:=λj hj=>ywm.mp (pj.mem_iff.mp hj);refine jp (so.keep λo e=>yca _ e) ?_;have sz:(s.heap.push { cls:=.type "tuple",data:=.seq (js.map λ(j:Nat)=>rawInt j).toArray }).objs.size=s.heap.objs.size+1:=yif _ _;refine h _ d1 _ es.size _ _ _ (λb o e=>yca _ (yca _ e)) (by rw[sz];exact yzf _) ?_ (zrab (a:=a) (tp:=s.heap.objs.size) hh ?_ ?_ es ep t js jl jm) ⟨?_,?_,?_⟩ hz λvs hv hP=>zmw hel hp (zagb pj hv hP)
  ·intro b hb';rw[sz] at hb'
   rcases yja.mp hb' with z|z
   ·exact .inr (by rw[z];exact yzf _)
   ·rcases yja.mp z with z|z
    ·exact .inl z
    ·exact .inr (by rw[yia.mp z];exact yma _)
  ·rw[sz];exact yhb (ybi alt)
  ·rw[sz];exact yhb (yfg _)
  ·exact yla _ rfl
  ·exact so.keep λo e=>yca _ (yca _ e)
  ·exact⟨_,yca _ (yla _ rfl),rfl,_,rfl⟩
 ·rename_i hc;have hc':¬ (!w.params.followText "set-order" && (!t.plain&&decide (es.size>1)))=true:=hc;refine yaa (yga (jp (h1:=s.heap) (d1:=s.drawn) so ?_));have fpk:∀b∈[s.heap.objs.size,a],b=a∨s.heap.objs.size≤b:=λb hb'=>by
   rcases yja.mp hb' with z|z
   ·exact .inr (by rw[z];exact yma _)
   ·exact .inl (yia.mp z)
  have ne:a≠s.heap.objs.size:=yhb alt;cases ft:w.params.followText "set-order" with
  | true =>
   have bt:∀{A':Around} {E':Value->Shared->Prop} {s':Shared} {Q':Bool->Shared->Prop},Q' true s'->wpAny (model prog w) A' yqm Q' E' s':=λ{A' E' s' Q'} q=>by
    unfold yqm;refine yaa (ych (yga ?_));show Q' (w.params.followText "set-order") s'
    rw[ft];exact q
   have stp:∀(A:Around) (E:Value->Shared->Prop) (i slot:Nat) (s:Shared) (Q:Option (Value×Nat)->Shared->Prop),SObj s.heap a es ep t->Q (((yaj (w.params.setOrder a ep) es)[i]?).map λe=>(e.2,slot)) s->wpAny (model prog w) A (yhm a slot i ep) Q E s:=by
    intro A E i slot s Q ⟨o1,e1,e2,e3,e4⟩ q;unfold yhm;refine yaa (ype e1 e3 e4 ?_);dsimp only;refine yaa (bt ?_);rw[if_pos rfl,if_neg (by simp)];unfold setWalk;refine yaa (yaa (ype e1 e3 e4 (yaa (bt ?_))));rw[if_pos rfl];exact yaa (ych (yga (yga q)))
   have po:=zqhb (w.params.setOrder a ep) es;have pz:(yaj (w.params.setOrder a ep) es).size=es.size:=(by rw[← ybb,po.length_eq,ybb]);refine h _ s.drawn _ es.size _ _ _ (λb o e=>yca _ e) (yma _) fpk (zkx (a:=a) hh ne es ep t ((yaj (w.params.setOrder a ep) es).toList.map (·.2)) (λslot _=>slot=0) ?_ ?_) ⟨⟨0,yla _ rfl,rfl⟩,so.keep λo e=>yca _ e⟩ hz λvs hv hP=>?_
   ·intro A E i slot s Q hi r so' q;have e1:(yaj (w.params.setOrder a ep) es)[i]?=some (yaj (w.params.setOrder a ep) es)[i]:=ynb (by omega);refine stp A E i slot s Q so' ?_;rw[e1];exact q _ _ (by rw[yub,yhc,e1];rfl) r
   ·intro A E slot s Q r so' q;refine stp A E _ slot s Q so' ?_;rw[yuh (by omega)];exact q
   ·refine zmw hel hp ?_;have e1:vs=(yaj (w.params.setOrder a ep) es).toList.map (·.2):=zun (by rw[hv,yda,ybb,pz]) hP;rw[e1];exact po.map _
  | false =>
   rw[ft] at hc' hl;have sm:es.size≤1:=by
    rcases hpl with z|z
    ·omega
    ·rw[z] at hc';simp at hc';exact hc'
   have bt:∀{A':Around} {E':Value->Shared->Prop} {s':Shared} {Q':Bool->Shared->Prop},Q' false s'->wpAny (model prog w) A' yqm Q' E' s':=λ{A' E' s' Q'} q=>by
    unfold yqm;refine yaa (ych (yga ?_));show Q' (w.params.followText "set-order") s'
    rw[ft];exact q
   have stp:∀(A:Around) (E:Value->Shared->Prop) (i slot:Nat) (s:Shared) (Q:Option (Value×Nat)->Shared->Prop),SObj s.heap a es ep t->Q (match es[yig t.place slot]?,t.place[yig t.place slot]? with|some (_,x),some j=>some (x,j+1)|_,_=>none) s->wpAny (model prog w) A (yhm a slot i ep) Q E s:=by
    intro A E i slot s Q ⟨o1,e1,e2,e3,e4⟩ q;unfold yhm;refine yaa (ype e1 e3 e4 ?_);dsimp only;refine yaa (bt ?_);rw[if_neg (by simp)];have nd:¬ (!t.plain&&decide (es.size>1))=true:=by
     rw[decide_eq_false (by omega),ydi];exact ywa
    refine yqh (λz=>absurd z nd) (λ_=>?_);have nl:¬ (!t.led && !es.isEmpty)=true:=by
     rw[hl];simp
    refine yaa (yqh (λz=>absurd z nl) (λ_=>yga ?_));exact yga q
   have ps:t.place.size=es.size:=by
    have z:=hf;unfold ylf.fits at z;simp at z;exact z.1
   refine h _ s.drawn _ es.size _ _ _ (λb o e=>yca _ e) (yma _) fpk (zkx (a:=a) hh ne es ep t (es.toList.map (·.2)) (λslot i=>(i=0∧slot=0)∨(i=1∧∃j,t.place=#[j]∧slot=j+1)) ?_ ?_) ⟨⟨0,yla _ rfl,.inl ⟨rfl,rfl⟩⟩,so.keep λo e=>yca _ e⟩ hz λvs hv hP=>?_
   ·intro A E i slot s Q hi r so' q;have i0:i=0:=(by omega);subst i0;have s0:slot=0:=by
     rcases r with⟨_,z⟩|⟨z,_⟩
     ·exact z
     ·cases z
    subst s0;obtain⟨j,ej⟩:∃j,t.place=#[j]:=by
     rcases Array.size_eq_one_iff.mp (show t.place.size=1 by omega) with⟨j,z⟩
     exact⟨j,z⟩
    have e1:es[0]?=some es[0]:=ynb hi;refine stp A E 0 0 s Q so' ?_;have bl:yig t.place 0=0:=by
     rw[ej];simp[yig,yio]
    rw[bl,e1,ej];exact q _ _ (by rw[yub,yhc,e1];rfl) (.inr ⟨rfl,j,ej,rfl⟩)
   ·intro A E slot s Q r so' q;refine stp A E _ slot s Q so' ?_;have en:es[yig t.place slot]?=none:=by
     rcases r with⟨z,y⟩|⟨z,j,ej,y⟩
     ·exact yuh (by omega)
     ·have bl:yig t.place slot=1:=by
       rw[ej,y];simp[yig,yio]
      rw[bl];exact yuh (by omega)
    rw[en];exact q
   ·refine zmw hel hp ?_;have e1:vs=es.toList.map (·.2):=zun (by rw[hv,yda,ybb]) hP;rw[e1]
end
end SSet
namespace SSet
open PySem PySem.Spec PyProof.Rows PySem.W
section
variable {prog:ypb}{w:World}{A:Around}{E:Value->Shared->Prop}{s:Shared}
theorem zemb {r:Addr}{Q:Bool->Shared->Prop}(ty:s.TypeIs (.ref r) "set")(q:Q false s):wpAny (model prog w) A (ybj (.ref r)) Q E s:=by
 unfold ybj;refine yaa (wpAny_specialOf ty PySem.F.slot_set_len.lookup ?_);generalize hx:("set.__len__":String)=nm
 wp_delta
 rw[show splitId nm=some ("set","__len__") from by subst hx;decide +kernel];subst hx;refine yaa (ygl (b:=true) (T:="set") ty (by rw[yym];kernel_rfl) ?_);refine yqh (λz=>absurd z (by decide)) (λ_=>?_);refine yqh (λ_=>?_) (λz=>absurd (by decide +kernel) z);exact yaa (ymo ty (yga q))
theorem zwbb {a:Addr}{D:List Str}{R:List Value->Shared->Prop}(hh:A.handled=none)(hS:SS prog w s.heap a D (!w.params.followText "set-order"))
  (h:∀(h':Heap) (d':Drawn) (tk:Nat) (vs:List Value) (ys:List Str),(∀b o,s.heap.get? b=some o->h'.get? b=some o)->s.heap.objs.size<h'.objs.size->ywk vs ys->ys.Perm D->R vs { s with heap:=h',drawn:=d',toks:=tk }) :
  wpAny (model prog w) A (collect (.ref a)) R E s:=by
 obtain⟨oA,hoA⟩:∃o,s.heap.get? a=some o:=let ⟨o,_,_,_,e,_⟩:=hS;⟨o,e⟩;have alt:a<s.heap.objs.size:=yra hoA;have dz:D.length≤yta:=by
  obtain⟨o,es,ep,t,_,_,_,_,hp,hb,_⟩:=hS;rw[← hp.length_eq,yda,ybb];exact yik hb
 have nSa:s.heap.objs.size≠a:=yih alt;unfold collect;refine yaa (wpAny_runValue (yng entry_proto_collect' ?_));rw[ymf PySem.F.plain_proto_collect _];show wpAny _ A.in1 (newList [] >>= λl=>again (.builtin "list.__iadd__" ⟨[l,.ref a],[]⟩)) _ _ s
 refine yaa (yuc (yga ⟨ypi yzk _,yng entry_list_iadd' ?_⟩));rw[ymf yzk _];show wpAny _ A.in1 (ycj (.ref s.heap.objs.size) (.ref a) (.ref s.heap.objs.size)) _ _ _
 unfold ycj;have S1:SS prog w (s.heap.push { cls:=.type "list",data:=.seq ([]:List Value).toArray }) a D (!w.params.followText "set-order"):=hS.keep λo e=>yca _ e;have g1:(s.heap.push { cls:=.type "list",data:=.seq ([]:List Value).toArray }).get? s.heap.objs.size=some { cls:=.type "list",dict:=none,data:=.seq #[] 0,slots:=#[] }:=yla _ rfl;have k1:∀b o,s.heap.get? b=some o->(s.heap.push { cls:=.type "list",data:=.seq ([]:List Value).toArray }).get? b=some o:=λb o e=>yca _ e;generalize s.heap.push { cls:=.type "list",data:=.seq ([]:List Value).toArray }=h1 at S1 g1 k1 ⊢;have ty1:yrn { s with heap:=h1 } (.ref a) "set":=by
  obtain⟨o,es,ep,t,ho,hex,_⟩:=S1;exact⟨o,ho,hex.1⟩
 refine yaa (ymo (T:="set") ty1 ?_);have ns:ylk (.ref s.heap.objs.size) (.ref a)=false:=by simp[ylk,nSa]
 simp only[ns,show (Value.type "set" == Value.type "list")=false by decide,show (Value.type "set" == Value.type "tuple")=false by decide,Bool.or_false,ybe,if_false];refine yaa (zbmb (s:={ s with heap:=h1 }) (A:=A.in1) hh S1 λh2 d2 I n fp P St k2 hI hfp W st hn hv=>?_);have ty2:yrn { s with heap:=h2,drawn:=d2 } (.ref a) "set":=by
  obtain⟨o,e,c⟩:=ty1;exact⟨o,k2 _ _ e,c⟩
 have slt:s.heap.objs.size<h1.objs.size:=yra g1;have nf:s.heap.objs.size∉fp:=λz=>by
  rcases hfp _ z with z|z
  ·exact nSa z
  ·exact absurd (yoa slt z) (yrd _)
 have key:∀(R':Result->Shared->Prop) (h3:Heap) (c:Nat),St 0 h3->(∀b o,b≠s.heap.objs.size->h2.get? b=some o->h3.get? b=some o)->h3.get? s.heap.objs.size=some { cls:=.type "list",dict:=none,data:=.seq #[] c,slots:=#[] } →
   (∀(h4:Heap) (tk:Nat) (vs:List Value) (ys:List Str) (c':Nat),(∀b o,s.heap.get? b=some o->h4.get? b=some o)->ywk vs ys->ys.Perm D->h4.get? s.heap.objs.size=some { cls:=.type "list",dict:=none,data:=.seq vs.toArray c',slots:=#[] }->R' (.ok (.ret (.ref s.heap.objs.size))) { s with heap:=h4,drawn:=d2,toks:=tk }) →
   yyi (model prog w) A (.builtin "list.extend.loop" ⟨[.ref s.heap.objs.size,.ref I,.ref s.heap.objs.size],[]⟩) R' { s with heap:=h3,drawn:=d2 }:=by
  intro R' h3 c st3 k3 g3 hR;refine codeAny_extend_loopS W.toS (by omega) s.heap.objs.size nf _ n 0 _ #[] c rfl (ylb _) st3 g3 (ItemsOf.nil _) λs' acc c' mv g' ia=>?_;rw[Moved.eq_with mv];obtain⟨ys,sy,py⟩:=hv acc.toList (by rw[ybb];exact ia.1) λi v e=>ia.2 i v (by rw[← yhc];exact e);refine hR s'.heap s'.toks acc.toList ys c' (λb o e=>?_) sy py (by rw[yfe];exact g');have nb:b≠s.heap.objs.size:=yhb (yra e);refine mv.heap b o (λz=>?_) (k3 b o nb (k2 b o (k1 b o e)))
  rcases yja.mp z with z|z
  ·exact nb z
  ·have bi:b=I:=yia.mp z;have:=yra (k1 b o e);rw[bi] at this;exact absurd (yoa this hI) (yrd _)
 have g2:=k2 _ _ g1;have fin:∀(h4:Heap) (tk:Nat) (vs:List Value) (ys:List Str) (c':Nat),(∀b o,s.heap.get? b=some o->h4.get? b=some o)->ywk vs ys->ys.Perm D->h4.get? s.heap.objs.size=some { cls:=.type "list",dict:=none,data:=.seq vs.toArray c',slots:=#[] } →
   wpAny (model prog w) A (load s.heap.objs.size >>= λo=>match o.data with
    | .seq xs _=>pure xs.toList
    | _=>unsupported "internal:collect") R E { s with heap:=h4,drawn:=d2,toks:=tk }:=λh4 tk vs ys c' k4 sy py g4=>by
  refine yaa (ywn g4 ?_);show wpAny _ _ (pure vs.toArray.toList) _ _ _
  exact yga (h h4 d2 tk vs ys k4 (yra g4) sy py)
 refine yaa (ybc (zemb ty2 ?_));refine yqh (λ_=>?_) (λ_=>yga ⟨ypi ytj _,key _ h2 0 st (λb o _ e=>e) g2 fin⟩);refine yaa (ysi (yaa ?_));show wpAny _ _ (updateSeq s.heap.objs.size (·.push .none) >>= λ_=>updateSeq s.heap.objs.size (·.pop)) _ _ _
 refine yaa (wpAny_updateSeq g2 rfl ?_);have g3:=yae (ybf (·.push Value.none)) g2 rfl;refine wpAny_updateSeq (hz:=by seq_fits) g3 rfl ?_;have g4:=yae (ybf (·.pop)) g3 rfl;refine yga ⟨ypi ytj _,key _ _ _ ?_ (λb o nb e=>?_) g4 fin⟩
 ·refine W.frame 0 _ _ st λb hb o e=>?_;have nb:s.heap.objs.size≠b:=λz=>nf (z▸hb);exact (yvd _ _ nb).trans ((yvd _ _ nb).trans e)
 ·exact (yvd _ _ (ysb nb)).trans ((yvd _ _ (ysb nb)).trans e)
theorem zcfb {a:Addr}{D:List Str}{Q:Value->Shared->Prop}(hh:A.handled=none)(hS:SS prog w s.heap a D (!w.params.followText "set-order"))(h64:D.length<64)
  (h:∀(h':Heap) (d':Drawn) (tk:Nat) (p:Addr) (vs:List Value) (ys:List Str) (n:Nat),(∀b o,s.heap.get? b=some o->h'.get? b=some o)->s.heap.objs.size≤p->h'.get? p=some { cls:=.type "list",data:=.seq vs.toArray n }->ywk vs ys->ys.Perm D->yen ys=true →
   Q (.ref p) { s with heap:=h',drawn:=d',toks:=tk }):wpAny (model prog w) A (call (.builtin "sorted") [.ref a]) Q E s:=by
 refine yuj kind_sorted plain_sorted entry_sorted (args_sorted1 _) ?_;unfold yyf.«sorted»;refine yaa (m:=checkCount "sorted" 1 1 _) (yga (yaa (zwbb (A:=A.in1) hh hS λh1 d1 tk vs ys k1 lt1 sy py=>?_)));have vl:vs.length<64:=by rw[sy.length,py.length_eq];exact h64
 refine yaa (ysn ?_ (yxa (yle vl) (by decide)));have g1:(h1.push (seqObj "list" vs.toArray 0)).get? h1.objs.size=some (seqObj "list" vs.toArray 0):=yla _ rfl;refine yaa (ybc (ysc slot_list_sort ⟨_,g1,rfl⟩ entry_list_sort (list_sort_treeK strKind_oneLt g1 sy.keysOf (λv1 v2 rest e=>keyKind_strs (by rw[← e];exact sy)) vl λst' a1 a2=>⟨_,rfl,?_⟩) (args_list_sort _)));obtain⟨zs,z1,z2,z3⟩:=sorted_out_str sy a1 a2;obtain⟨e,he⟩:=sortedHeap_at (vs:=vs) (out:=(arrOf st').map (·.2)) g1;refine yga ⟨_,rfl,h _ d1 tk h1.objs.size ((arrOf st').map (·.2)).toList zs e (λb o q=>?_) (yle lt1) ?_ z1 (z2.trans py) z3⟩
 ·have q1:=k1 b o q;have bl:=yra q1;rw[sortedHeap_old (yhb bl) (by rw[size_push'];exact ybi bl)];exact yca _ q1
 ·rw[yfe];exact he
end
end SSet
namespace L2
open PySem PySem.Spec PyProof.Rows
theorem strs_vals':∀{vs:List Value} {ys:List Str},ywk vs ys->Vals (ys.map V.str) vs
 | _,_,.nil=>.nil
 | _,_,.cons x t r=>.cons ⟨t,rfl⟩ (strs_vals' r)
def setO (X:Cx)(l:Addr)(D:List Str):HO:=.ext λh=>SSet.SS X.prog X.w h l D (!X.w.params.followText "set-order")
section
variable {X:Cx}
theorem Inv.zpob {pins:List (Addr×Obj)}{σ:St}{H:Hp}{s:Shared}(I:Inv X pins σ H s)(d:Drawn):Inv X pins σ H { s with drawn:=d } :=
 I.call (h':=s.heap) (g':=s.gens) (d':=d) (t':=s.toks) (ch:=[]) (Un.kept λb o e=>e) I.hok I.bare (λb z=>absurd z (by simp))
theorem zpw (hc:X.calm=true):ztl X (.type "set") (λxs H Q=>Ex2 λp ys=>xs=[.ref p]∧SqL X.K H p (ys.map V.str)∧ys.length≤1000∧∀l,H l=none->Q (.ref l) (upd H l (setO X l (SSet.dd ys)))):=by
 intro pins s σ H xs us Q I r h;obtain⟨p,ys,rfl,hq,hy,q⟩:=h;obtain⟨u,rfl,ru⟩:=vals1 r;cases ru;obtain⟨its,rv,pl,hz⟩:=I.list hq;have sy:=zon rv;have il:its.length=ys.length:=sy.length;refine SSet.set_list (xs:=ys) (I.ok.hd hc) pl.isList (by simpa using sy) (by rw[ypa,il];have:yhk=4096:=rfl;omega) λh' tk S k=>?_;have I1:Inv X pins σ (upd H s.heap.objs.size (setO X s.heap.objs.size (SSet.dd ys))) { s with heap:=h',toks:=tk }:=I.laid (t':=tk) (λb o e=>k b o e) (yma _) ⟨S,let ⟨o,_,_,_,e,_⟩:=S;⟨o,e⟩,λh1 h2 x y=>x.keep y⟩;exact⟨.ref s.heap.objs.size,_,I1,rfl,q _ (I.hok.fresh (yma _))⟩
theorem zws (hc:X.calm=true):ztl X (.builtin "sorted") (λxs H Q=>Ex2 λl D=>xs=[.ref l]∧H l=some (setO X l D)∧D.length<64∧∀p ys,H p=none->ys.Perm D->yen ys=true->Q (.ref p) (upd H p (.lst (ys.map V.str)))):=by
 intro pins s σ H xs us Q I r h;obtain⟨l,D,rfl,hl,h64,q⟩:=h;obtain⟨u,rfl,ru⟩:=vals1 r;cases ru;obtain⟨S,_,_⟩:=I.hok l _ hl;refine SSet.zcfb (I.ok.hd hc) S h64 λh' d' tk p vs ys n k hp g sy py so=>?_;have I0:=I.zpob d';have vl:vs.length≤yta:=by
  rw[sy.length,py.length_eq];exact yxa (yle h64) (by decide)
 have I1:Inv X pins σ (upd H p (.lst (ys.map V.str))) { s with heap:=h',drawn:=d',toks:=tk }:=I0.laid (t':=tk) (λb o e=>k b o e) hp ⟨by rw[yda,← sy.length];exact vl,vs,n,strs_vals' sy,g⟩;exact⟨.ref p,_,I1,rfl,q p ys (I.hok.fresh hp) py so⟩
end
end L2
namespace L2
open PySem PySem.Spec PyProof.Rows
theorem zlmb {x:Str}:∀{v:Value},KTD.flatLooks (.str x) v=true->RelV (.str x) v
 | .str y t,h=>⟨t,by rw[show x=y from beq_iff_eq.mp h]⟩
theorem zwu:∀{ss:List Str} {vs:List Value},KTD.flatsLook (ss.map PyData.str) vs=true->Vals (ss.map V.str) vs
 | [],[],_=>.nil
 | x::ss,v::vs,h=>by
  rw[yva] at h;have h':(KTD.flatLooks (.str x) v&&KTD.flatsLook (ss.map PyData.str) vs)=true:=h;rw[yec] at h';exact .cons (zlmb h'.1) (zwu h'.2)
def TupK (K:yba)(a:Addr)(ss:List Str):Prop:=ykh (λb=>K.lookup b) (.tup (ss.map PyData.str)) (.ref a)=true
theorem TupK.sq {K:yba}{a:Addr}{ss:List Str}(h:TupK K a ss)(hz:ss.length≤1000)(H:Hp):SqT K H a (ss.map V.str):=by
 unfold TupK ykh at h;simp only at h
 split at h
 ·rename_i o ho;rw[yec] at h;obtain⟨e1,e2⟩:=h
  split at e2
  ·rename_i vs n hd;have V:=zwu e2;have hl:=V.length;refine .inr ⟨o,vs,n,ho,beq_iff_eq.mp e1,hd,?_,V⟩;rw[yda] at hl;have:vs.size=ss.length:=by simpa using hl.symm
   rw[this];exact yxa hz (by decide)
  ·cases e2
 ·cases h
theorem zvlb {K:yba}{ss:List Str}:∀{v:Value},ykh (λb=>K.lookup b) (.tup (ss.map PyData.str)) v=true->∃b,v = .ref b∧TupK K b ss
 | .ref b,h=>⟨b,rfl,h⟩
section
variable {X:Cx}{a:Addr}{D:List (Str×ysp)}
abbrev TabK (K:yba)(a:Addr)(D:List (Str×ysp)):Prop:=yep (ykh λb=>K.lookup b) (λb=>K.lookup b) a D=true
theorem zupb {K:yba}(hK:X.K=K)(l:TabK K a D):IxR X (λx y H Q=>Ex2 λk ss=>x = .ref a∧y = .str k∧ydn k D=some (.tup (ss.map PyData.str))∧∀b,TupK K b ss->Q (.ref b) H):=by
 subst hK;intro value slice pins s σ H x y v u Q I rx ry h hs;obtain⟨k,ss,rfl,rfl,hat,q⟩:=h;cases rx;obtain⟨tk,rfl⟩:=ry;obtain⟨_,o,es,ep,ho,hc,hd,hr⟩:=KTD.tab_of_look (R:=λd v=>ykh (λb=>X.K.lookup b) d v=true) (λ_ _ z=>z) (h:=s.heap) (λb o z=>I.kIn b o z) l;obtain⟨z,hz,hl⟩:=hr.find_some hat
 obtain⟨b,rfl,hb⟩:=zvlb hl;have ty:s.TypeIs (.ref a) "dict":=⟨o,ho,hc.1⟩;refine yth (x:=.ref b) ty ysf.lookup ?_ hs;unfold yco
 try with_reducible refine ybc ?_
 refine yaa (ybk ty (by decide) ?_);refine yaa (yqc (name:=yvf "__getitem__") ty ysf
  (ysc ysf ty entry_dict_getitem ?_ (args_dict_getitem _ _)))
 have fin:∀k',EP X pins σ Q (.ref b) { s with toks:=k' }:=λk'=>⟨.ref b,H,I.tok _,rfl,q b hb⟩;have fnd:findBy (λk v=>v.isStr k) es k=some (.ref b):=by
  rw[← hz];obtain⟨l⟩:=es;simp[findBy]
 show wpAny _ _ (dictGet a (.str k tk) >>= _) _ _ s
 refine yaa ?_;unfold dictGet
 try with_reducible refine ybc ?_
 refine yaa (wpAny_pyHash_str (yaa (KTD.kt_dictFind_strs (s:={ s with toks:=s.toks+1 }) ho hd (by obtain⟨l⟩:=es;simpa using hr.exact) ?_)));rw[findBy_of_findIdx?] at fnd;cases hi:es.findIdx? λe=>e.key.isStr k with
 | none=>rw[hi] at fnd;cases fnd
 | some i =>
  rw[hi] at fnd;refine yaa (wpAny_dictEntries (s:={ s with toks:=s.toks+1 }) ho hd (yga ?_));rw[show es[i]?.map (·.val)=some (.ref b) from fnd];exact yga ⟨_,rfl,yga ⟨rfl,fin _⟩⟩
end
structure Isi (K:yba)(C:Addr):Prop where
 ha:ygb K (.ref C) "__class__" = some (some (.builtin "object.__class__"))
 hn:yzh K (.builtin "object.__class__") "__get__" = some (some (.builtin "getset_descriptor.__get__"))
 ht:ywl K (.builtin "object.__class__")=some true
 hm:yon K C (.type "object")=some true
 oStr:ycc K (.ref C) (.type "str")=some false
 oInt:ycc K (.ref C) (.type "int")=some false
 oTup:ycc K (.ref C) (.type "tuple")=some false
 oLst:ycc K (.ref C) (.type "list")=some false
 sO:ycc K (.type "str") (.ref C)=some false
 iO:ycc K (.type "int") (.ref C)=some false
end L2
namespace L2
open PySem PySem.Spec PyProof.Rows
section
variable {X:Cx}
theorem ztq:ztl X (.builtin "sorted") (λxs H Q=>Ex2 λl zs=>xs=[.ref l]∧SqL X.K H l (zs.map V.str)∧zs.length<64∧∀p ys,H p=none->ys.Perm zs->yen ys=true->Q (.ref p) (upd H p (.lst (ys.map V.str)))):=by
 intro pins s σ H xs us Q I r h;obtain⟨l,zs,rfl,hl,h64,q⟩:=h;obtain⟨u,rfl,ru⟩:=vals1 r;cases ru;obtain⟨its,rv,pl,_⟩:=I.list hl;have sy:=zon rv;refine sorted_strs (vs:=its) (ss:=zs) pl.isList sy (by rw[sy.length];exact h64) λout ys a1 a2 a3=>?_;obtain⟨e,he⟩:=sortedAll_at s.heap its out;have vl:out.toList.length≤yta:=by
  rw[a1.length,a2.length_eq];exact yxa (yle h64) (by decide)
 have I1:Inv X pins σ (upd H (s.heap.objs.size+1) (.lst (ys.map V.str))) { s with heap:=yfp s.heap its out }:=I.laid (t':=s.toks) (λb o e=>sortedAll_old e) (yzf _) ⟨by rw[yda,← a1.length];exact vl,out.toList,e,strs_vals' a1,by rw[yfe];exact he⟩;exact⟨.ref (s.heap.objs.size+1),_,I1,rfl,q _ ys (I.hok.fresh (yzf _)) a2 a3⟩
end
end L2
namespace TSort
open PySem PyProof.Rows
abbrev IL:=List Int
section keys
variable (k:Value->IL)
def ka (xs:Array Keyed)(i:Nat):IL:=((xs[i]?).map λp=>k p.1).getD []
def Up (xs:Array Keyed)(n:Nat):Prop:=∀i j,i<j->j<n->ka k xs i<ka k xs j
def Dn (xs:Array Keyed)(n:Nat):Prop:=∀i j,i<j->j<n->ka k xs j<ka k xs i
variable {k}
theorem zamb {xs ys:Array Keyed}{i j:Nat}(e:xs[i]?=ys[j]?):ka k xs i=ka k ys j:=by
 unfold ka;rw[e]
theorem Up.more {xs:Array Keyed}{n:Nat}(h:Up k xs n)(h1:1≤n)(e:ka k xs (n-1)<ka k xs n):Up k xs (n+1):=by
 intro i j a b
 rcases ygf j n with c|c
 ·exact h i j a c
 ·obtain rfl:j=n:=by omega
  rcases ygf i (j-1) with d|d
  ·exact yqi (h i (j-1) d (by omega)) e
  ·obtain rfl:i=j-1:=by omega
   exact e
theorem Dn.more {xs:Array Keyed}{n:Nat}(h:Dn k xs n)(h1:1≤n)(e:ka k xs n<ka k xs (n-1)):Dn k xs (n+1):=by
 intro i j a b
 rcases ygf j n with c|c
 ·exact h i j a c
 ·obtain rfl:j=n:=by omega
  rcases ygf i (j-1) with d|d
  ·exact yqi e (h i (j-1) d (by omega))
  ·obtain rfl:i=j-1:=by omega
   exact e
theorem Dn.turn {xs:Array Keyed}{n:Nat}(h:Dn k xs n)(hn:n≤xs.size):Up k (mirror xs 0 n ((n-0) / 2)) n:=by
 intro i j a b;have e:∀m,m<n->ka k (mirror xs 0 n ((n-0) / 2)) m=ka k xs (0+n-1-m):=λm hm=>by
  have z:=getElem?_mirror_all (i:=0) hn m;rw[if_pos ⟨ylb _,hm⟩] at z;exact zamb z
 rw[e i (by omega),e j b];exact h _ _ (by omega) (by omega)
end keys
structure Ok (a0:Array Keyed)(kd:yrm)(st:SortSt):Prop where
 perm:(arrOf st).Perm a0
 kind:kindOf st=kd
 none:failedOf st=none
 pend:ykm st=#[]
theorem Ok.size {a0:Array Keyed}{kd:yrm}{st:SortSt}(h:Ok a0 kd st):(arrOf st).size=a0.size:=h.perm.size_eq
theorem Ok.put {a0:Array Keyed}{kd:yrm}{st:SortSt}(h:Ok a0 kd st){xs:Array Keyed}(p:xs.Perm (arrOf st)):Ok a0 kd (setArr st xs):=⟨p.trans h.perm,h.kind,h.none,h.pend⟩
section
variable {pr:ypb}{wo:World}{Ar:Around}{Ex:Value->Shared->Prop}{sh:Shared}{k:Value->IL}{a0:Array Keyed}{kd:yrm}
structure Cmp (pr:ypb)(wo:World)(Ar:Around)(Ex:Value->Shared->Prop)(sh:Shared)(k:Value->IL)(a0:Array Keyed)(kd:yrm):Prop where
 lt:∀(x y:Keyed) (st:SortSt) (R:Option Bool->SortSt->Prop),kindOf st=kd->x∈a0.toList->y∈a0.toList->k x.1≠k y.1->R (some (decide (k x.1<k y.1))) st->wpS (model pr wo) Ar Ex sh (lt' x y) R st
 un:(a0.toList.map λp=>k p.1).Nodup
theorem Cmp.apart (C:Cmp pr wo Ar Ex sh k a0 kd){st:SortSt}(G:Ok a0 kd st){i j:Nat}(hi:i<a0.size)(hj:j<a0.size)(n:i≠j):ka k (arrOf st) i≠ka k (arrOf st) j:=by
 have p:=(yug.mp G.perm).map λq:Keyed=>k q.1;have u:((arrOf st).toList.map λq:Keyed=>k q.1).Nodup:=p.symm.nodup C.un;have zi:i<(arrOf st).size:=by rw[G.size];exact hi
 have zj:j<(arrOf st).size:=by rw[G.size];exact hj
 have g:=yzg.mp u;have ei:ka k (arrOf st) i=k (arrOf st)[i].1:=by unfold ka;rw[ynb zi];rfl
 have ej:ka k (arrOf st) j=k (arrOf st)[j].1:=by unfold ka;rw[ynb zj];rfl
 rw[ei,ej]
 rcases Nat.lt_or_gt_of_ne n with c|c
 ·have z:=g i j (by simpa using zi) (by simpa using zj) c;rw[yee,yee] at z;exact z
 ·have z:=g j i (by simpa using zj) (by simpa using zi) c;rw[yee,yee] at z;exact λe=>z e.symm
theorem Cmp.at (C:Cmp pr wo Ar Ex sh k a0 kd){st:SortSt}(G:Ok a0 kd st){i j:Nat}(hi:i<a0.size)(hj:j<a0.size)(n:i≠j){R:Option Bool->SortSt->Prop}
  (h:R (some (decide (ka k (arrOf st) i<ka k (arrOf st) j))) st):wpS (model pr wo) Ar Ex sh (ltAt' i j) R st:=by
 have ap:=C.apart G hi hj n;have zi:i<(arrOf st).size:=by rw[G.size];exact hi
 have zj:j<(arrOf st).size:=by rw[G.size];exact hj
 have ei:(arrOf st)[i]?=some (arrOf st)[i]:=ynb zi;have ej:(arrOf st)[j]?=some (arrOf st)[j]:=ynb zj;have m:∀q:Keyed,q∈(arrOf st).toList->q∈a0.toList:=λq hq=>(yug.mp G.perm).mem_iff.mp hq;rw[ltAt'_eq];refine yyc (ygp ?_);show wpS (model pr wo) Ar Ex sh (elem' (arrOf st) i >>= λx=>elem' (arrOf st) j >>= λy=>lt' x y) R st
 rw[elem'_eq,elem'_eq,ei,ej];refine yyc (yie (yyc (yie ?_)));have ki:ka k (arrOf st) i=k (arrOf st)[i].1:=by unfold ka;rw[ei];rfl
 have kj:ka k (arrOf st) j=k (arrOf st)[j].1:=by unfold ka;rw[ej];rfl
 rw[ki,kj] at h ap;exact C.lt _ _ st R G.kind (m _ (by simp)) (m _ (by simp)) ap h
theorem not_lt {a b:IL}(n:a≠b)(h:¬ a<b):b<a:=by
 rcases Decidable.em (b<a) with c|c
 ·exact c
 ·exact absurd (yuo (yhp.mp c) (yhp.mp h)) n
theorem Cmp.asc (C:Cmp pr wo Ar Ex sh k a0 kd){st:SortSt}(G:Ok a0 kd st){a m:Nat}(hm:m≤a0.size)(h1:1≤a)(h2:a≤m)(u:Up k (arrOf st) a){R:AscSt->SortSt->Prop}
  (q:∀n,a≤n->n≤m->Up k (arrOf st) n->(n=m∨ka k (arrOf st) n<ka k (arrOf st) (n-1))->R (none,n) st):wpS (model pr wo) Ar Ex sh (ascLoop a m) R st:=by
 unfold ascLoop;refine yii (I:=λx c z=>z=st∧c=(none,x)∧Up k (arrOf st) x) (λx c z ax xm I=>?_) (λc z I=>?_) ⟨rfl,rfl,u⟩
 ·obtain⟨rfl,rfl,v⟩:=I;dsimp only;refine yyc (C.at G (by omega) (by omega) (by omega) ?_);have ap:=C.apart G (i:=x) (j:=x-1) (by omega) (by omega) (by omega)
  by_cases c:ka k (arrOf z) x<ka k (arrOf z) (x-1)
  ·rw[decide_eq_true c];exact yie (q x ax (by omega) v (.inr c))
  ·rw[decide_eq_false c];exact yie ⟨rfl,rfl,v.more (by omega) (not_lt ap c)⟩
 ·obtain⟨rfl,rfl,v⟩:=I;rw[show max a m=m by omega] at v ⊢;exact q m h2 (yma _) v (.inl rfl)
theorem Cmp.last (C:Cmp pr wo Ar Ex sh k a0 kd){st:SortSt}(G:Ok a0 kd st){n m:Nat}(hm:m≤a0.size)(h1:1≤n)(h2:n≤m)(d:Dn k (arrOf st) n){R:Option Nat->SortSt->Prop}
  (q:∀l z,Ok a0 kd z->1≤l->l≤m->Up k (arrOf z) l->R (some l) z):wpS (model pr wo) Ar Ex sh (tail3 n m) R st:=by
 unfold tail3;refine yyc (wpS_reverse ?_);have G':Ok a0 kd (setArr st (mirror (arrOf st) 0 n ((n-0) / 2))):=G.put (mirror_perm _ _ _ _);exact yyc (C.asc G' hm h1 h2 (d.turn (by rw[G.size];omega)) λl a b c _=>yie (q l _ G' (by omega) b c))
theorem Cmp.desc (C:Cmp pr wo Ar Ex sh k a0 kd){st:SortSt}(G:Ok a0 kd st){n m:Nat}(hm:m≤a0.size)(h1:1≤n)(h2:n≤m)(d:Dn k (arrOf st) n){R:DescSt->SortSt->Prop}
  (q:∀l,n≤l->l≤m->Dn k (arrOf st) l->R (none,l,0) st):wpS (model pr wo) Ar Ex sh (descLoop n m) R st:=by
 unfold descLoop;refine yii (I:=λx c z=>z=st∧c=(none,x,0)∧Dn k (arrOf st) x) (λx c z ax xm I=>?_) (λc z I=>?_) ⟨rfl,rfl,d⟩
 ·obtain⟨rfl,rfl,v⟩:=I;dsimp only;refine yyc (C.at G (by omega) (by omega) (by omega) ?_);have ap:=C.apart G (i:=x) (j:=x-1) (by omega) (by omega) (by omega)
  by_cases c:ka k (arrOf z) x<ka k (arrOf z) (x-1)
  ·rw[decide_eq_true c];exact yie ⟨rfl,rfl,v.more (by omega) c⟩
  ·rw[decide_eq_false c];refine yyc (C.at G (by omega) (by omega) (by omega) ?_);rw[decide_eq_true (not_lt ap c)];exact yie (q x ax (by omega) v)
 ·obtain⟨rfl,rfl,v⟩:=I;rw[show max n m=m by omega] at v ⊢;exact q m h2 (yma _) v
theorem Cmp.part (C:Cmp pr wo Ar Ex sh k a0 kd){st:SortSt}(G:Ok a0 kd st){n m:Nat}(hm:m≤a0.size)(h2:n+1≤m)(d:Dn k (arrOf st) (n+1)){R:Option Nat->SortSt->Prop}
  (q:∀l z,Ok a0 kd z->1≤l->l≤m->Up k (arrOf z) l->R (some l) z):wpS (model pr wo) Ar Ex sh (descPart n m) R st:=by
 unfold descPart;refine yyc (wpS_lift (ysi ⟨rfl,?_⟩));refine yyc (C.desc G hm (by omega) h2 d λl a b c=>?_);exact C.last G hm (by omega) b c q
theorem Cmp.run (C:Cmp pr wo Ar Ex sh k a0 kd){st:SortSt}(G:Ok a0 kd st){m:Nat}(hm:m≤a0.size)(h1:1≤m){R:Option Nat->SortSt->Prop}
  (q:∀l z,Ok a0 kd z->1≤l->l≤m->Up k (arrOf z) l->R (some l) z):wpS (model pr wo) Ar Ex sh (countRun' 0 m) R st:=by
 rw[countRun0_eq];refine yyc (C.asc G hm (yma 1) h1 (λi j a b=>by omega) λn a b c d=>?_);dsimp only
 by_cases e:n=m
 ·rw[if_pos (by simpa using e)];exact yie (q n st G a b c)
 ·rw[if_neg (by simpa using e)];have lt:=d.resolve_left e
  by_cases g:n>1
  ·rw[if_pos g];refine yyc (C.at G (by omega) (by omega) (by omega) ?_);rw[decide_eq_true (c 0 (n-1) (by omega) (by omega))];exact yie (q n st G a b c)
  ·rw[if_neg g];obtain rfl:n=1:=by omega
   refine C.part G hm (by omega) (λi j x y=>?_) q;obtain rfl:i=0:=by omega
   obtain rfl:j=1:=by omega
   exact lt
end
end TSort
namespace TSort
open PySem PyProof.Rows
theorem zzy {k:Value->IL}{xs:Array Keyed}{c l:Nat}(hc:c<xs.size)(hl:l≤c)(m:Nat) :
  ka k (bubble xs c (c-l)) m=if m=l then ka k xs c else if l<m∧m≤c then ka k xs (m-1) else ka k xs m:=by
 have z:=getElem?_bubble hc (c-l) (by omega) m;rw[show c-(c-l)=l by omega] at z
 by_cases a:m=l
 ·rw[if_pos a] at z ⊢;exact zamb z
 ·rw[if_neg a] at z ⊢
  by_cases b:l<m∧m≤c
  ·rw[if_pos b] at z ⊢;exact zamb z
  ·rw[if_neg b] at z ⊢;exact zamb z
theorem Up.put {k:Value->IL}{xs:Array Keyed}{c l:Nat}(h:Up k xs c)(hc:c<xs.size)(hl:l≤c)(lo:∀i,i<l->ka k xs i<ka k xs c)(hi:∀i,l≤i->i<c->ka k xs c<ka k xs i):Up k (bubble xs c (c-l)) (c+1):=by
 intro i j a b;rw[zzy hc hl,zzy hc hl]
 by_cases i1:i=l
 ·rw[if_pos i1,if_neg (by omega),if_pos (by omega)];exact hi _ (by omega) (by omega)
 ·rw[if_neg i1]
  by_cases j1:j=l
  ·rw[if_pos j1,if_neg (by omega)];exact lo i (by omega)
  ·rw[if_neg j1]
   by_cases i2:l<i∧i≤c
   ·rw[if_pos i2,if_pos (by omega)];exact h _ _ (by omega) (by omega)
   ·rw[if_neg i2]
    by_cases j2:l<j∧j≤c
    ·rw[if_pos j2];exact h _ _ (by omega) (by omega)
    ·rw[if_neg j2];exact h _ _ a (by omega)
section
variable {pr:ypb}{wo:World}{Ar:Around}{Ex:Value->Shared->Prop}{sh:Shared}{k:Value->IL}{a0:Array Keyed}{kd:yrm}
theorem Cmp.ins (C:Cmp pr wo Ar Ex sh k a0 kd){st:SortSt}(G:Ok a0 kd st){n m:Nat}(hn:n≤a0.size)(hm:m≤n)(u:Up k (arrOf st) m){R:Bool->SortSt->Prop}
  (q:∀z,Ok a0 kd z->Up k (arrOf z) n->R true z):wpS (model pr wo) Ar Ex sh (binarySort' 0 n m) R st:=by
 rw[binarySort'_eq];simp only[Nat.zero_add];refine yyc (wpS_mono (yii (I:=λc o z=>o=(none,())∧Ok a0 kd z∧Up k (arrOf z) (min c n)) (Q:=λo z=>o=(none,())∧Ok a0 kd z∧Up k (arrOf z) n) (λc o z mc cn I=>?_) (λo z I=>?_) ⟨rfl,G,λi j a b=>?_⟩) λo z I=>?_)
 ·obtain⟨rfl,G',v⟩:=I;rw[show min c n=c by omega] at v;have sz:c<(arrOf z).size:=by rw[G'.size];omega
  refine yyc (wpS_mono (yii (I:=λx o y=>y=z∧Ex2 λl r=>o=(none,l,r)∧l≤r∧r≤c∧r-l≤c-x∧(∀i,i<l->ka k (arrOf z) i<ka k (arrOf z) c)∧∀i,r≤i->i<c->ka k (arrOf z) c<ka k (arrOf z) i)
   (Q:=λo y=>y=z∧Ex2 λl r=>o=(none,l,r)∧l≤c∧(∀i,i<l->ka k (arrOf z) i<ka k (arrOf z) c)∧∀i,l≤i->i<c->ka k (arrOf z) c<ka k (arrOf z) i) (λx o y _ xc J=>?_) (λo y J=>?_) ⟨rfl,0,c,rfl,by omega,by omega,by omega,λi h=>by omega,λi h1 h2=>by omega⟩) λo y J=>?_)
  ·obtain⟨rfl,l,r,rfl,lr,rc,w,lo,hi⟩:=J;dsimp only
   by_cases g:l≥r
   ·rw[if_pos g];obtain rfl:l=r:=by omega
    exact yie ⟨rfl,l,l,rfl,rc,lo,hi⟩
   ·rw[if_neg g];refine yyc (C.at G' (by omega) (by omega) (by omega) ?_);have ap:=C.apart G' (i:=c) (j:=(l+r) / 2) (by omega) (by omega) (by omega)
    by_cases d:ka k (arrOf y) c<ka k (arrOf y) ((l+r) / 2)
    ·rw[decide_eq_true d];refine yie ⟨rfl,l,(l+r) / 2,rfl,by omega,by omega,by omega,lo,λi h1 h2=>?_⟩
     rcases ygf ((l+r) / 2) i with e|e
     ·exact yqi d (v _ _ e h2)
     ·obtain rfl:i=(l+r) / 2:=by omega
      exact d
    ·rw[decide_eq_false d];have d':=not_lt ap d;refine yie ⟨rfl,(l+r) / 2+1,r,rfl,by omega,by omega,by omega,λi h1=>?_,hi⟩
     rcases ygf i ((l+r) / 2) with e|e
     ·exact yqi (v _ _ e (by omega)) d'
     ·obtain rfl:i=(l+r) / 2:=by omega
      exact d'
  ·obtain⟨rfl,l,r,rfl,lr,rc,w,lo,hi⟩:=J;obtain rfl:l=r:=by omega
   exact⟨rfl,l,l,rfl,rc,lo,hi⟩
  ·obtain⟨rfl,l,r,rfl,lc,lo,hi⟩:=J;refine yyc (m:=moveDown' c l) ?_;rw[moveDown'_eq];refine wpS_modify (yie ⟨rfl,G'.put (bubble_perm _ _ _),?_⟩);rw[show min (c+1) n=c+1 by omega];exact v.put sz lc lo hi
 ·obtain⟨rfl,G',v⟩:=I;rw[show min (max (max m 1) n) n=n by omega] at v;exact⟨rfl,G',v⟩
 ·exact u i j a (by omega)
 ·obtain⟨rfl,G',v⟩:=I;exact yie (q z G' v)
structure Fin (k:Value->IL)(a0:Array Keyed)(st:SortSt):Prop where
 perm:(arrOf st).Perm a0
 none:failedOf st=none
 pend:ykm st=#[(0,a0.size,0)]
 up:Up k (arrOf st) a0.size
theorem Ok.fin {st:SortSt}(G:Ok a0 kd st)(u:Up k (arrOf st) a0.size):Fin k a0 (setPending st ((ykm st).push (0,a0.size,0))) :=
 ⟨G.perm,G.none,by show (ykm st).push (0,a0.size,0)=#[(0,a0.size,0)];rw[G.pend];rfl,u⟩
theorem Cmp.all (C:Cmp pr wo Ar Ex sh k a0 kd){st:SortSt}(G:Ok a0 kd st)(h2:2≤a0.size)(h64:a0.size<64){R:Unit->SortSt->Prop}
  (q:∀z,(arrOf z).Perm a0->failedOf z=none->Up k (arrOf z) a0.size->R () z):wpS (model pr wo) Ar Ex sh sortRuns' R st:=by
 rw[sortRuns'_eq];refine yyc (ygp ?_);dsimp only;have mr:minRun' a0.size a0.size 0=a0.size:=by
  obtain⟨f,hf⟩:∃f,a0.size=f+1:=⟨a0.size-1,by omega⟩;have z:minRun' (f+1) a0.size 0=a0.size:=by
   rw[minRun'_succ,if_pos h64,Nat.add_zero]
  rw[← hf] at z;exact z
 simp only[G.size,mr];refine yyc (wpS_mono (yii (I:=λx o z=>(x=0∧o=(none,0)∧Ok a0 kd z)∨(1≤x∧o=(none,a0.size)∧Fin k a0 z)) (Q:=λo z=>o=(none,a0.size)∧Fin k a0 z) (λx o z _ hx I=>?_) (λo z I=>?_) (.inl ⟨rfl,rfl,G⟩)) λo z I=>?_)
 ·rcases I with⟨rfl,rfl,G'⟩|⟨x1,rfl,D⟩
  ·dsimp only;rw[if_neg (by omega)];simp only[ylm,Nat.min_self,Nat.zero_add];refine yyc (C.run G' (yma _) (by omega) λl y Gy l1 l2 uy=>?_);dsimp only
   by_cases lt:l<a0.size
   ·rw[if_pos lt];refine yyc (wpS_lift (ysi ⟨rfl,?_⟩));refine yyc (C.ins Gy (yma _) l2 uy λv Gv uv=>?_);simp only[Bool.not_true,ybe,if_false];refine yyc (ygp ?_);rw[show (ykm v).back?=none by rw[Gv.pend];rfl];exact yyc (wpS_modify (yie (.inr ⟨by omega,rfl,Gv.fin uv⟩)))
   ·rw[if_neg lt];obtain rfl:l=a0.size:=by omega
    refine yyc (ygp ?_);rw[show (ykm y).back?=none by rw[Gy.pend];rfl];exact yyc (wpS_modify (yie (.inr ⟨by omega,rfl,Gy.fin uy⟩)))
  ·dsimp only;rw[if_pos (yma _)];exact yie ⟨rfl,D⟩
 ·rcases I with⟨hx,_,_⟩|⟨_,ho,D⟩
  ·omega
  ·exact⟨ho,D⟩
 ·obtain⟨rfl,D⟩:=I;dsimp only;refine yyc (wpS_mono (yii (I:=λ_ o y=>y=z∧o=(none,())) (Q:=λo y=>y=z∧o=(none,())) (λx o y _ _ J=>?_) (λ_ _ J=>J) ⟨rfl,rfl⟩) λo y J=>?_)
  ·obtain⟨rfl,rfl⟩:=J;refine yyc (ygp ?_);rw[if_pos (by rw[D.pend];exact yma 1)];exact yie ⟨rfl,rfl⟩
  ·obtain⟨rfl,rfl⟩:=J;exact yie (q _ D.perm D.none D.up)
end
end TSort
namespace TSort
open PySem PyProof.Rows
def TupI (h:Heap)(a:Addr)(ks:IL):Prop:=Ex5 λ(o:Obj) (its:Array Value) (n:Nat) (us rest:List Value)=>h.get? a=some o∧o.cls = .type "tuple" ∧ o.data = .seq its n∧its.toList=us++rest∧yzl us ks
theorem TupI.keep {h h':Heap}{a:Addr}{ks:IL}(t:TupI h a ks)(e:∀o,h.get? a=some o->h'.get? a=some o):TupI h' a ks:=by
 obtain⟨o,its,n,us,rest,h1,h2⟩:=t;exact⟨o,its,n,us,rest,e _ h1,h2⟩
def kf (f:Addr->IL):Value->IL
 | .ref a=>f a
 | _=>[]
section
variable {pr:ypb}{wo:World}{Ar:Around}{Ex:Value->Shared->Prop}{sh:Shared}
theorem lex {b fin:Bool}{R:Bool->Shared->Prop}:∀{us vs:List Value} {xs ys:IL} {r1 r2:List Value} {i:Nat},yzl us xs->yzl vs ys->xs.length=ys.length->xs≠ys->R (decide (xs<ys)) sh->W.KatLex pr wo Ar b fin R ((us++r1).zip (vs++r2)) i sh
 | _,_,_,_,_,_,_,.nil,.nil,_,n,_=>absurd rfl n
 | _,_,_,_,_,_,_,.nil,.cons _ _ _,l,_,_=>by simp at l
 | _,_,_,_,_,_,_,.cons _ _ _,.nil,l,_,_=>by simp at l
 | _,_,_,_,r1,r2,i,.cons x t hx (vs:=us) (ns:=xs),.cons y u hy (vs:=vs) (ns:=ys),l,n,q=>by
  refine W.kat_cons (wpAny_eqBool_int ?_)
  by_cases e:x=y
  ·subst e;rw[show (x==x)=true by simp];refine W.kat_yes (lex hx hy (by simpa using l) (λz=>n (by rw[z])) ?_);have z:decide (x::xs<x::ys)=decide (xs<ys):=by
    apply decide_eq_decide.mpr;rw[ybd]
    constructor
    ·rintro (c|⟨_,c⟩)
     ·exact absurd c (Int.lt_irrefl x)
     ·exact c
    ·exact λc=>.inr ⟨rfl,c⟩
   rw[z] at q;exact q
  ·rw[show (x==y)=false by simpa using e];have z:decide (x::xs<y::ys)=decide (x<y):=by
    apply decide_eq_decide.mpr;rw[ybd]
    constructor
    ·rintro (c|⟨c,_⟩)
     ·exact c
     ·exact absurd c e
    ·exact λc=>.inl c
   rw[z] at q;refine W.kat_no ?_;cases (b&&i==0) with
   | true=>exact oneLt_int q
   | false=>exact W.kat_one _ _ (lt_int q)
theorem zqmb {f:Addr->IL}{vs:List Value}{m:Nat}{b:Bool}(hv:∀v∈vs,∃a,v = .ref a∧TupI sh.heap a (f a)∧(f a).length=m)(un:(vs.map (kf f)).Nodup):Cmp pr wo Ar Ex sh (kf f) (yfn vs) (tuples' b):=by
 refine⟨λx y st R hk mx my n q=>?_,?_⟩
 ·rw[yan] at mx my;obtain⟨a,ea,⟨o1,i1,n1,u1,r1,g1,_,d1,l1,t1⟩,m1⟩:=hv _ (yno mx).2;obtain⟨c,ec,⟨o2,i2,n2,u2,r2,g2,_,d2,l2,t2⟩,m2⟩:=hv _ (yno my).2;rw[ea,ec] at n q;rw[lt'_eq];refine yyc (ygp ?_);rw[hk,ea,ec];refine yyc (wpS_lift (yyk (W.kat_lt g1 d1 g2 d2 ?_)));rw[l1,l2];exact lex t1 t2 (by rw[m1,m2]) n ⟨rfl,yie q⟩
 ·rw[yan];have e:(vs.zip vs).map (λp=>kf f p.1)=vs.map (kf f):=by
   rw[show (λp:Keyed=>kf f p.1)=kf f∘Prod.fst from rfl,← ywf,yvo (yma _)]
  rw[e];exact un
theorem zjib {f:Addr->IL}{vs:List Value}{m:Nat}{R:yrm->Shared->Prop}(hm:0<m)(h0:0<vs.length)(hv:∀v∈vs,∃a,v = .ref a∧TupI sh.heap a (f a)∧(f a).length=m)(q:R (tuples' true) sh):wpAny (model pr wo) Ar (keyKind' vs.toArray) R Ex sh:=by
 have all:∀vs:List Value,(∀v∈vs,∃a,v = .ref a∧TupI sh.heap a (f a)∧(f a).length=m)->∃fs,W.KatTups sh.heap vs fs∧fs.length=vs.length∧∀v∈fs,Ex2 λx t=>v = .int x t:=by
  intro vs
  induction vs with
  | nil=>exact λ_=>⟨[],.nil,rfl,by simp⟩
  | cons v r ih =>
   intro h;obtain⟨fs,a1,a2,a3⟩:=ih λz hz=>h z (yna _ hz);obtain⟨a,rfl,⟨o,its,n,us,rest,g,c,d,l,t⟩,hl⟩:=h v yka;generalize f a=ks at t hl;cases t with
   | nil=>simp at hl;omega
   | cons x tk h' =>
    refine⟨.int x tk::fs,.cons g c d (by rw[← yhc,l];rfl) a1,by rw[yha,yha,a2],?_⟩;intro z hz
    rcases yja.mp hz with e|e
    ·exact⟨x,tk,e⟩
    ·exact a3 z e
 obtain⟨fs,a1,a2,a3⟩:=all vs hv;refine W.kat_kind (T:=.type "int") a1 (by omega) (λv h=>?_) rfl q;obtain⟨x,t,rfl⟩:=a3 v h;exact .now
end
end TSort
namespace TSort
open PySem PyProof.Rows
section
variable {pr:ypb}{wo:World}{Ar:Around}{Ex:Value->Shared->Prop}{sh:Shared}
theorem le64:64≤yta:=by decide
theorem zzmb {f:Addr->IL}{vs:List Value}{xs:Array Keyed}(p:xs.Perm (yfn vs))(u:Up (kf f) xs (yfn vs).size):(xs.map (·.2)).toList.Perm vs∧((xs.map (·.2)).toList.map (kf f)).Pairwise (· < ·):=by
 have pl:xs.toList.Perm (vs.zip vs):=by
  rw[← yan];exact yug.mp p
 have same:∀q∈xs.toList,q.1=q.2:=λq hq=>(yno (pl.mem_iff.mp hq)).1;have e:(xs.map (·.2)).toList=xs.toList.map (·.1):=by
  rw[Array.toList_map];exact ydj λq hq=>(same q hq).symm
 refine⟨?_,?_⟩
 ·rw[e];have z:=pl.map Prod.fst;rw[yvo (yma _)] at z;exact z
 ·rw[e,ywf,yzg];intro i j hi hj ij;have hi':i<xs.size:=by simpa using hi
  have hj':j<xs.size:=by simpa using hj
  have z:=u i j ij (by rw[← p.size_eq];exact hj');unfold ka at z;rw[ynb hi',ynb hj'] at z;rw[yee,yee];exact z
theorem zkob {f:Addr->IL}{a:Addr}{vs:List Value}{m n:Nat}{R:PySem.Fin->Shared->Prop}(ho:sh.heap.get? a=some (seqObj "list" vs.toArray n))(hm:0<m)(hv:∀v∈vs,∃b,v = .ref b∧TupI sh.heap b (f b)∧(f b).length=m)(un:(vs.map (kf f)).Nodup)(h64:vs.length<64)
  (q:∀out:Array Value,out.toList.Perm vs->(out.toList.map (kf f)).Pairwise (· < ·)->R (.done (.ret .none)) { sh with heap:=sortedHeap sh.heap a vs out }) :
  wpAny (model pr wo) Ar (yyf.«list.sort» ⟨[.ref a],[]⟩) R Ex sh:=by
 have lt:a<sh.heap.objs.size:=yra ho;have len:vs.toArray.size=vs.length:=ypa ..;rw[list_sort_plain];refine yaa (listItems_at ho rfl (yaa (ytn ho rfl ?_)));obtain⟨ep,h1⟩:∃ep,(sh.heap.update a (ybf λ_=>#[])).get? a=some (seqObj "list" #[] ep):=⟨_,get?_update_seq ho λ_=>#[]⟩;refine yaa (seqEpoch_at h1 rfl (yaa (yzm (yaa (ysn (ybc ?_))))));show wpAny (model pr wo) Ar _ R Ex { sh with heap:=((sh.heap.update a (ybf λ_=>#[])).push (seqObj "tuple" vs.toArray 0)).push (seqObj "list" #[] 0) }
 generalize hH:((sh.heap.update a (ybf λ_=>#[])).push (seqObj "tuple" vs.toArray 0)).push (seqObj "list" #[] 0)=H;have h6:H.get? a=some (seqObj "list" #[] ep):=by
  rw[← hH];exact yca _ (yca _ h1)
 have hb:∀v∈vs,∃b,v = .ref b∧TupI H b (f b)∧(f b).length=m:=λv z=>by
  obtain⟨b,e,t,l⟩:=hv v z;refine⟨b,e,t.keep λo g=>?_,l⟩;have nb:b≠a:=by
   rintro rfl;obtain⟨o',_,_,_,_,g',c',_⟩:=t;rw[g'] at ho;cases ho;have z:Value.type "list" = Value.type "tuple":=c';injection z with z
   exact absurd z (by decide)
  rw[← hH];exact yca _ (yca _ ((yue ..).extBut b o nb g))
 have done:∀out:Array Value,H.update a (ybf λ_=>out)=sortedHeap sh.heap a vs out:=λout=>by rw[← hH];rfl
 dsimp only
 by_cases two:vs.toArray.size<2
 ·rw[if_pos two,if_pos two];refine yaa (yga ?_);rw[StateT.run_pure];refine yaa (yga ?_);dsimp only;refine yaa (seqEpoch_at h6 rfl (yaa (ytn h6 rfl ?_ (hsz2:=?_))))
  ·simp only[bne_self_eq_false,ybe,if_false];obtain⟨a1,a2⟩:=zzmb (f:=f) (vs:=vs) (xs:=yfn vs) (yip _) (λi j ij hj=>by rw[ypj] at hj;omega);refine yga ?_;have z:=q _ a1 a2;rw[← done] at z;exact z
  ·rw[Array.size_map];show (yfn vs).size≤yta+1
   rw[ypj];have:64≤yta:=by decide
   omega
 ·rw[if_neg two,if_neg two];refine yaa (zjib hm (by omega) hb ?_);have two':2≤(yfn vs).size:=by
   rw[ypj];omega
  refine yaa (ytd ((zqmb (pr:=pr) (wo:=wo) (Ar:=Ar) (Ex:=Ex) (b:=true) hb un).all (st:=SortSt.mk' (tuples' true) (vs.toArray.zip vs.toArray) #[] 7 none) ⟨yip _,rfl,rfl,rfl⟩ two' (by rw[ypj];exact h64) (R:=λ_ z=>(arrOf z).Perm (yfn vs)∧failedOf z=none∧Up (kf f) (arrOf z) (yfn vs).size) λz b1 b2 b3=>⟨b1,b2,b3⟩) ?_ λ_ _ e=>e);rintro⟨⟨⟩,z⟩ s' ⟨rfl,b1,b2,b3⟩;dsimp only;refine yaa (seqEpoch_at h6 rfl (yaa (ytn h6 rfl ?_ (hsz2:=?_))))
  ·rw[b2];simp only[bne_self_eq_false,ybe,if_false];obtain⟨a1,a2⟩:=zzmb b1 b3;refine yga ?_;have y:=q _ a1 a2;rw[← done] at y;exact y
  ·refine yxa (yvl ((Array.size_map ..).trans (b1.size_eq.trans (ypj _)))) ?_;have:64≤yta:=by decide
   omega
theorem zwab {f:Addr->IL}{l:Addr}{vs:List Value}{m:Nat}{R:Value->Shared->Prop}(hl:sh.heap.IsList l vs.toArray)(hm:0<m)(hv:∀v∈vs,∃b,v = .ref b∧TupI sh.heap b (f b)∧(f b).length=m)(un:(vs.map (kf f)).Nodup)(h64:vs.length<64)
  (q:∀out:Array Value,out.toList.Perm vs->(out.toList.map (kf f)).Pairwise (· < ·)->R (.ref (sh.heap.objs.size+1)) { sh with heap:=yfp sh.heap vs out }) :
  wpAny (model pr wo) Ar (call (.builtin "sorted") [.ref l]) R Ex sh:=by
 refine yuj kind_sorted plain_sorted entry_sorted (args_sorted1 _) ?_;unfold yyf.«sorted»;refine yaa (m:=checkCount "sorted" 1 1 _) (yga (yaa (collect_list hl (yaa (ysn ?_)) (yxa (yle h64) le64))));show wpAny (model pr wo) _ _ _ Ex { sh with heap:=((sh.heap.push (seqObj "list" #[] 0)).update sh.heap.objs.size (ybf (· ++ vs.toArray))).push (seqObj "list" vs.toArray 0) }
 generalize hG:(sh.heap.push (seqObj "list" #[] 0)).update sh.heap.objs.size (ybf (· ++ vs.toArray))=G;have sz:G.objs.size=sh.heap.objs.size+1:=by
  rw[← hG,Heap.size_update,size_push']
 have kp:∀b o,sh.heap.get? b=some o->G.get? b=some o:=λb o g=>by
  rw[← hG];exact (yue ..).extBut b o (yhb (yra g)) (yca _ g)
 have at1:(G.push (seqObj "list" vs.toArray 0)).get? (sh.heap.objs.size+1)=some (seqObj "list" vs.toArray 0):=by
  rw[← sz];exact yla _ rfl
 rw[sz];refine yaa (ybc (ysc slot_list_sort ⟨_,at1,rfl⟩ entry_list_sort (zkob at1 hm (λv z=>?_) un h64 λout o1 o2=>⟨_,rfl,?_⟩) (args_list_sort _)))
 ·obtain⟨b,e,t,l'⟩:=hv v z;exact⟨b,e,t.keep λo g=>yca _ (kp b o g),l'⟩
 ·refine yga ⟨_,rfl,?_⟩;have y:=q out o1 o2;unfold yfp at y;rw[hG] at y;exact y
end
end TSort
namespace L2
open PySem PyProof.Rows
def refV:Value->V
 | .ref a=>.ref a
 | _=>.non
theorem zlx:∀{us:List V} {its:List Value},Vals us its->(∀u∈us,∃a,u = .ref a)->its.map refV=us∧∀v∈its,∃a,v = .ref a∧V.ref a∈us
 | _,_,.nil,_=>⟨rfl,by simp⟩
 | _,_,.cons r t,h=>by
  obtain⟨a,rfl⟩:=h _ yka;cases r;obtain⟨e1,e2⟩:=zlx t λu hu=>h u (yna _ hu);refine⟨by rw[yva,e1];rfl,?_⟩;intro v hv
  rcases yja.mp hv with z|z
  ·exact⟨a,z,yka⟩
  ·obtain⟨b,e,m⟩:=e2 v z;exact⟨b,e,yna _ m⟩
theorem znx:∀{vs:List Value},(∀v∈vs,∃a,v = .ref a)->Vals (vs.map refV) vs
 | [],_=>.nil
 | v::r,h=>by
  obtain⟨a,rfl⟩:=h v yka;exact .cons rfl (znx λu hu=>h u (yna _ hu))
section
variable {X:Cx}
theorem zqk:ztl X (.builtin "sorted") (λxs H Q=>Ex4 λ(l:Addr) (us:List V) (g:V->List Int) (m:Nat)=>xs=[.ref l]∧SqL X.K H l us∧us.length<64∧0<m∧(∀u∈us,Ex3 λa ys zs=>u = .ref a∧SqT X.K H a (ys.map V.int++zs)∧g u=ys∧ys.length=m)∧(us.map g).Nodup ∧
  ∀p out,H p=none->out.Perm us->(out.map g).Pairwise (· < ·)->Q (.ref p) (upd H p (.lst out))):=by
 intro pins s σ H xs vs Q I r h;obtain⟨l,us,g,m,rfl,hl,h64,hm,ht,un,q⟩:=h;obtain⟨u,rfl,ru⟩:=vals1 r;cases ru;obtain⟨its,rv,pl,_⟩:=I.list hl;obtain⟨e1,e2⟩:=zlx rv λu hu=>by
  obtain⟨a,_,_,e,_⟩:=ht u hu;exact⟨a,e⟩
 have len:its.length=us.length:=rv.length.symm;have kg:∀v∈its,TSort.kf (λa=>g (.ref a)) v=(g∘refV) v:=λv hv=>by
  obtain⟨a,rfl,_⟩:=e2 v hv;rfl
 have hv:∀v∈its,∃b,v = .ref b∧TSort.TupI s.heap b (g (.ref b))∧(g (.ref b)).length=m:=λv hv=>by
  obtain⟨a,rfl,ha⟩:=e2 v hv;obtain⟨a',ys,zs,e,sq,eg,lg⟩:=ht _ ha;cases e;obtain⟨jts,rj,⟨o,g1,g2,n,g3⟩,_⟩:=I.tuple sq;refine⟨a,rfl,?_,by rw[eg];exact lg⟩;have t1:=rj.take (ys.map V.int).length;rw[List.take_left' rfl] at t1;refine⟨o,jts.toArray,n,jts.take (ys.map V.int).length,jts.drop (ys.map V.int).length,g1,g2,g3,by rw[yji],?_⟩;rw[eg];exact intsAre_of t1
 have un':(its.map (TSort.kf λa=>g (.ref a))).Nodup:=by
  rw[ydj kg,← ywf,e1];exact un
 refine TSort.zwab (vs:=its) (f:=λa=>g (.ref a)) (m:=m) pl.isList hm hv un' (by rw[len];exact h64) λout o1 o2=>?_;obtain⟨e,he⟩:=sortedAll_at s.heap its out;have mem:∀v∈out.toList,v∈its:=λv hv=>o1.mem_iff.mp hv;have rout:Vals (out.toList.map refV) out.toList:=znx λv hv=>by
  obtain⟨a,e,_⟩:=e2 v (mem v hv);exact⟨a,e⟩
 have pm:(out.toList.map refV).Perm us:=by
  have z:=o1.map refV;rw[e1] at z;exact z
 have I1:Inv X pins σ (upd H (s.heap.objs.size+1) (.lst (out.toList.map refV))) { s with heap:=yfp s.heap its out }:=I.laid (t':=s.toks) (λb o e=>sortedAll_old e) (yzf _) ⟨by rw[pm.length_eq];exact yxa (yle h64) TSort.le64,out.toList,e,rout,by rw[yfe];exact he⟩;refine⟨.ref (s.heap.objs.size+1),_,I1,rfl,q _ _ (I.hok.fresh (yzf _)) pm ?_⟩;rw[ydj λv hv=>kg v (mem v hv),← ywf] at o2;exact o2
end
end L2
namespace L2
open PySem PyProof.Rows
section
variable {pr:ypb}{wo:World}{Ar:Around}{Ex:Value->Shared->Prop}
theorem zeeb {it b:Addr}{vs:Array Value}(ne:b≠it):∀(n i:Nat) (sh:Shared) (R:List Value->Shared->Prop),sh.heap.IsListIter it b i->sh.heap.IsList b vs->i+n≤vs.size →
  (∀h2,h2.IsListIter it b (i+n)->ywc it sh.heap h2->R ((vs.toList.drop i).take n) { sh with heap:=h2 })->wpAny (model pr wo) Ar (draw (.ref it) n) R Ex sh
 | 0,i,sh,R,h1,_,_,k=>by
  refine (show wpAny (model pr wo) Ar (pure []) R Ex sh from yga ?_)
  simpa using k sh.heap h1 (ygk ..)
 | n+1,i,sh,R,h1,h2,le,k=>by
  have lt:i<vs.size:=by omega
  refine (show wpAny (model pr wo) Ar (pyNext (.ref it) >>= _) R Ex sh from yaa (yjl h1 h2 (x:=vs[i]) (by simp[lt]) λg1 a1 b1=>?_));refine yaa (ybc (zeeb ne n (i+1) _ _ a1 (h2.extBut b1.extBut ne) (by omega) λg2 a2 b2=>yga ?_));have e:vs.toList.drop i=vs[i]::vs.toList.drop (i+1):=by simp[yah,lt]
  have z:=k g2 (by rw[show i+(n+1)=i+1+n by omega];exact a2) (b1.trans b2);rw[e,List.take_succ_cons] at z;exact z
theorem zteb {sh:Shared}{b:Addr}{vs:Array Value}{tg:List (Bool×(Value->Sem Unit))}{R:Unit->Shared->Prop}(hd:Ar.handled=none)(hl:sh.heap.IsList b vs)(hn:tg.length=vs.size)(hs:tg.findIdx? (·.1)=none)
  (k:∀h2,yjp sh.heap.objs.size sh.heap h2->wpAny (model pr wo) Ar (assignInOrder (tg.map (·.2)) vs.toList) R Ex { sh with heap:=h2 }) :
  wpAny (model pr wo) Ar (unpack (.ref b) tg) R Ex sh:=by
 have ne:b≠sh.heap.objs.size:=by
  obtain⟨o,ho,_⟩:=hl;exact yhb (yra ho)
 unfold unpack;rw[hn,hs];refine yaa (ybc ?_);unfold unpackItems;refine yaa ?_;unfold notIterableAtAll;refine yaa (wpAny_specialOf hl.typeIs slot_list_iter.lookup (yga ?_));simp only[ybe,if_false];refine yaa (ybc (yyh hl ?_));refine yaa (ybc (zeeb ne vs.size 0 _ _ ⟨_,yla _ rfl,rfl,rfl⟩ (hl.push _) (by omega) λg1 a1 b1=>?_));have e:List.take vs.size (ykp 0 vs.toList)=vs.toList:=by
  rw[yei,yua (by simp)]
 rw[e,if_neg (by simp)];refine yaa (ybc (ysl hd a1 ((hl.push _).extBut b1.extBut ne) (by simp) λg2 c2=>?_));simp only[Option.isSome_none,ybe,if_false];exact yga (k g2 λx o hx z=>c2 x o hx (b1.extBut x o hx (yca _ z)))
end
section
variable {X:Cx}
def gLst (K:yba)(n:Nat)(t:TGs):TG:=λv σ H Q=>Ex2 λa xs=>v = .ref a∧SqL K H a xs∧xs.length=n∧t xs σ H Q
theorem zbsb {es:List Expr}{k:Nat}{t:TGs}{n:Nat}{pos:Pos}(hc:X.calm=true)(h:PGs X es t)
  (hn:(ysg es X.env).length=n:=by rfl) (hst:(ysg es X.env).findIdx? (·.1)=none:=by rfl):PG X (.Tuple es k pos) (gLst X.K n t):=by
 intro pins s σ H v u Q I r hw;obtain⟨a,xs,rfl,hq,hl,hw⟩:=hw;cases r;obtain⟨its,rv,pl,hz⟩:=I.list hq;rw[assign_Tuple];refine yaa (yrk (zteb (I.ok.hd hc) pl.isList (by simp[hn,← hl,rv.length]) hst λh2 hx=>?_));have I1:Inv X pins σ H { s with heap:=h2 }:=I.kept (t':=s.toks) λb o e=>hx b o (yhb (yra e)) e;exact h pins _ σ H xs _ Q I1 (by simpa using rv) hw
theorem zyob (K:yba){es:List Expr}{k:Nat}{t:TGs}{n:Nat}{pos:Pos}(hc:X.calm=true)(h:PGs X es t)
  (hn:(ysg es X.env).length=n:=by rfl) (hst:(ysg es X.env).findIdx? (·.1)=none:=by rfl) (hK:X.K=K:=by rfl):PG X (.Tuple es k pos) (gTup K n t):=hK▸znj hc h hn hst
end
end L2
namespace L2
open PySem PyProof.Rows
section
variable {X:Cx}
inductive TyB (K:yba)(H:Hp):V->Value->Prop where
 | non:TyB K H .non (.type "NoneType")
 | bl (x:Bool):TyB K H (.bl x) (.type "bool")
 | int (i:Int):TyB K H (.int i) (.type "int")
 | str (x:Str):TyB K H (.str x) (.type "str")
 | lst {a:Addr} {xs:List V} (e:SqL K H a xs):TyB K H (.ref a) (.type "list")
 | tup {a:Addr} {xs:List V} (e:SqT K H a xs):TyB K H (.ref a) (.type "tuple")
end
end L2
namespace L2
open PySem PySem.Spec PyProof.Rows
section
variable {κ:Type}[DecidableEq κ]
def valV (kvs:List (κ×V))(k:κ):Option V:=(kvs.find? λkv=>decide (kv.1=k)).map (·.2)
def putK (kvs:List (κ×V))(k:κ)(v:V):List (κ×V) :=
 if (kvs.any λkv=>decide (kv.1=k))=true then kvs.map (λkv=>if kv.1=k then (kv.1,v) else kv) else kvs++[(k,v)]
theorem zvf {p:κ×V}{r:List (κ×V)}{k:κ}(e:p.1=k):valV (p::r) k=some p.2:=by simp[valV,yve,e]
theorem zwf {p:κ×V}{r:List (κ×V)}{k:κ}(e:¬ p.1=k):valV (p::r) k=valV r k:=by simp[valV,yve,e]
theorem zzq (k:κ):∀kvs:List (κ×V),(kvs.any λkv=>decide (kv.1=k))=(valV kvs k).isSome
 | []=>rfl
 | p::r=>by
  rw[yph]
  by_cases e:p.1=k
  ·simp only[zvf e,decide_eq_true e,ymm,Option.isSome_some]
  ·rw[zwf e,decide_eq_false e,yal];exact zzq k r
theorem zgdb (k j:κ)(y:V):∀kvs:List (κ×V),valV (kvs.map λkv=>if kv.1=k then (kv.1,y) else kv) j=(valV kvs j).map λx=>if j=k then y else x
 | []=>rfl
 | p::r=>by
  have ih:=zgdb k j y r;rw[yva]
  by_cases h:p.1=k
  ·rw[if_pos h]
   by_cases e:p.1=j
   ·rw[zvf (p:=(p.1,y)) e,zvf e,yej,if_pos (e.symm.trans h)]
   ·rw[zwf (p:=(p.1,y)) e,zwf e,ih]
  ·rw[if_neg h]
   by_cases e:p.1=j
   ·rw[zvf (p:=p) e,zvf e,yej,if_neg (λz=>h (e.trans z))]
   ·rw[zwf (p:=p) e,zwf e,ih]
theorem zox (k j:κ)(y:V):∀kvs:List (κ×V),valV kvs k=none->valV (kvs++[(k,y)]) j=if j=k then some y else valV kvs j
 | [],_=>by
  by_cases e:k=j
  ·rw[if_pos e.symm];exact zvf (p:=(k,y)) e
  ·rw[if_neg (λz=>e z.symm)];exact zwf (p:=(k,y)) e
 | p::r,hn=>by
  rw[ydh];have hk:¬ p.1=k:=λz=>by rw[zvf z] at hn;cases hn
  rw[zwf hk] at hn;have ih:=zox k j y r hn
  by_cases e:p.1=j
  ·rw[zvf e,zvf e,if_neg (λz=>hk (e.trans z))]
  ·rw[zwf e,zwf e,ih]
theorem zfdb (kvs:List (κ×V))(k j:κ)(y:V):valV (putK kvs k y) j=if j=k then some y else valV kvs j:=by
 unfold putK
 by_cases a:(kvs.any λkv=>decide (kv.1=k))=true
 ·rw[if_pos a,zgdb];rw[zzq] at a
  by_cases e:j=k
  ·obtain⟨x,hx⟩:=yyj.mp a;rw[if_pos e,e,hx,yej,if_pos rfl]
  ·rw[if_neg e];cases valV kvs j with
   | none=>rfl
   | some x=>rw[yej,if_neg e]
 ·rw[if_neg a];refine zox k j y kvs ?_;rw[zzq] at a;cases q:valV kvs k with
  | none=>rfl
  | some x=>rw[q] at a;exact (a rfl).elim
theorem znm (kvs:List (κ×V))(k:κ)(v:V):(putK kvs k v).length≤kvs.length+1:=by
 unfold putK
 split
 ·rw[yda];omega
 ·rw[yea,yha,yrh];omega
theorem RelO.zqib {o:Option V}{u:Option Value}(r:RelO o u):o.isSome=u.isSome:=by
 cases o with
 | none=>cases u with
  | none=>rfl
  | some _=>exact (show False from r).elim
 | some _=>cases u with
  | none=>exact (show False from r).elim
  | some _=>rfl
theorem RelO.getD {o:Option V}{u:Option Value}{d:V}{d':Value}(r:RelO o u)(rd:RelV d d'):RelV (o.getD d) (u.getD d'):=by
 cases o with
 | none=>cases u with
  | none=>exact rd
  | some _=>exact (show False from r).elim
 | some _=>cases u with
  | none=>exact (show False from r).elim
  | some _=>exact r
theorem KV.val {kvs:List (κ×V)}{vs:List (κ×Value)}(r:KV kvs vs)(k:κ):RelO (valV kvs k) (ylp vs k):=by
 unfold KV at r
 induction r with
 | nil=>exact True.intro
 | @cons p q ps qs h t ih =>
  obtain⟨h1,h2⟩:=h
  by_cases e:p.1=k
  ·have e':q.1=k:=h1.symm.trans e;have b:ylp (q::qs) k=some q.2:=(by simp[ylp,yve,e']);rw[zvf e,b];exact h2
  ·have e':¬ q.1=k:=λz=>e (h1.trans z);have b:ylp (q::qs) k=ylp qs k:=(by simp[ylp,yve,e']);rw[zwf e,b];exact ih
theorem KV.any {kvs:List (κ×V)}{vs:List (κ×Value)}(r:KV kvs vs)(k:κ):(kvs.any λkv=>decide (kv.1=k))=vs.any λkv=>decide (kv.1=k):=by
 unfold KV at r
 induction r with
 | nil=>rfl
 | cons h t ih=>rw[yph,yph,ih,h.1]
theorem KV.repl {kvs:List (κ×V)}{vs:List (κ×Value)}(r:KV kvs vs)(k:κ){y:V}{u:Value}(ry:RelV y u) :
  KV (kvs.map λkv=>if kv.1=k then (kv.1,y) else kv) (vs.map λkv=>if kv.1=k then (kv.1,u) else kv):=by
 unfold KV at r ⊢
 induction r with
 | nil=>exact .nil
 | @cons p q ps qs h t ih =>
  rw[yva,yva];refine .cons ?_ ih;obtain⟨h1,h2⟩:=h
  by_cases e:p.1=k
  ·rw[if_pos e,if_pos (h1.symm.trans e)];exact⟨h1,ry⟩
  ·rw[if_neg e,if_neg (λz=>e (h1.trans z))];exact⟨h1,h2⟩
theorem KV.put {kvs:List (κ×V)}{vs:List (κ×Value)}(r:KV kvs vs)(k:κ){y:V}{u:Value}(ry:RelV y u):KV (putK kvs k y) (stored vs k u):=by
 unfold putK stored;rw[r.any k]
 by_cases e:(vs.any λkv=>decide (kv.1=k))=true
 ·rw[if_pos e,if_pos e];exact r.repl k ry
 ·rw[if_neg e,if_neg e];exact Paired.snoc r ⟨rfl,ry⟩
theorem KV.length {kvs:List (κ×V)}{vs:List (κ×Value)}(r:KV kvs vs):kvs.length=vs.length:=yqk r
end
theorem ztpb {P:ypb}{w:World}{k:Key}{u:Value}(r:RelV (kV k) u):(zue P w).is k u=true:=by
 cases k with
 | inl i=>obtain⟨t,e⟩:=(show ∃t,u=Value.int i t from r);subst e;exact zibb P w i t
 | inr x=>obtain⟨t,e⟩:=(show ∃t,u=Value.str x t from r);subst e;exact zgbb P w x t
theorem zgz {P:ypb}{w:World}:∀{ks:List Key} {us:List Value},Vals (ks.map kV) us->ItemsAre (zue P w) ks us
 | [],_,r=>by rw[yef] at r;cases r;exact .nil
 | k::ks,_,r=>by
  rw[yva] at r;cases r with
  | cons h t=>exact .cons (ztpb h) (zgz t)
abbrev KT (H:Hp):List (List Key×V)->List (List Key×Addr×Value)->Prop:=Paired λp q=>p.1=q.1∧H q.2.1=some (.tup (p.1.map kV))∧RelV p.2 q.2.2
theorem KT.val {H:Hp}{kvs:List (List Key×V)}{xs:List (List Key×Addr×Value)}(r:KT H kvs xs)(k:List Key):RelO (valV kvs k) ((atKey xs k).map (·.2)):=by
 induction r with
 | nil=>exact True.intro
 | @cons p q ps qs h t ih =>
  obtain⟨h1,_,h2⟩:=h
  by_cases e:p.1=k
  ·have e':q.1=k:=h1.symm.trans e;have b:atKey (q::qs) k=some q.2:=(by simp[atKey,yve,e']);rw[zvf e,b];exact h2
  ·have e':¬ q.1=k:=λz=>e (h1.trans z);have b:atKey (q::qs) k=atKey qs k:=(by simp[atKey,yve,e']);rw[zwf e,b];exact ih
theorem KT.repl {H:Hp}{kvs:List (List Key×V)}{xs:List (List Key×Addr×Value)}(r:KT H kvs xs)(k:List Key){y:V}{u:Value}(ry:RelV y u) :
  KT H (kvs.map λkv=>if kv.1=k then (kv.1,y) else kv) (xs.map (putAt k u)):=by
 induction r with
 | nil=>exact .nil
 | @cons p q ps qs h t ih =>
  rw[yva,yva];refine .cons ?_ ih;obtain⟨h1,h2,h3⟩:=h;unfold putAt
  by_cases e:p.1=k
  ·rw[if_pos e,if_pos (h1.symm.trans e)];exact⟨h1,h2,ry⟩
  ·rw[if_neg e,if_neg (λz=>e (h1.trans z))];exact⟨h1,h2,h3⟩
theorem KT.put {H:Hp}{kvs:List (List Key×V)}{xs:List (List Key×Addr×Value)}(r:KT H kvs xs)(k:List Key){b:Addr}{y:V}{u:Value}(hb:H b=some (.tup (k.map kV)))(ry:RelV y u) :
  KT H (putK kvs k y) (storedH xs k b u):=by
 have e:(kvs.any λkv=>decide (kv.1=k))=(atKey xs k).isSome:=by
  rw[zzq,(r.val k).zqib,Option.isSome_map]
 unfold putK storedH;rw[e]
 by_cases q:(atKey xs k).isSome=true
 ·rw[if_pos q,if_pos q];exact r.repl k ry
 ·rw[if_neg q,if_neg q];exact Paired.snoc r ⟨rfl,hb,ry⟩
theorem KT.keeps {H H':Hp}{kvs:List (List Key×V)}{xs:List (List Key×Addr×Value)}(r:KT H kvs xs)(ht:∀b ys,H b=some (.tup ys)->H' b=some (.tup ys)):KT H' kvs xs :=
 Paired.mapP r λ_ _ z=>⟨z.1,ht _ _ z.2.1,z.2.2⟩
section
variable {P:ypb}{w:World}{H:Hp}{h:Heap}{a:Addr}
theorem zwrb {u:HO}(ok:HOk P w H h)(e:Rd H a u):zrg P w H h a u:=e.ok ok
theorem ziqb {kvs:List (Key×V)}(ok:HOk P w H h)(e:Rd H a (.dK kvs)):kvs.length≤yta∧(a==ygg)=false∧∃vs,KV kvs vs∧h.DictOf (zue P w) a vs :=
 show zrg P w H h a (.dK kvs) from zwrb ok e
theorem zavb {kvs:List (Key×V)}(ok:HOk P w H h)(e:H a=some (.dK kvs)):kvs.length≤yta∧(a==ygg)=false∧∃vs,KV kvs vs∧h.DictOf (zue P w) a vs:=ziqb ok (.inl e)
theorem zkib {ks:List Key}(ok:HOk P w H h)(e:H a=some (.tup (ks.map kV))):(yql (zue P w)).is h ks a:=by
 obtain⟨_,its,r,o,h1,h2,n,h3⟩:=(show zrg P w H h a (.tup (ks.map kV)) from ok a _ e);exact⟨o,its.toArray,n,h1,h2,h3,by simpa using zgz r⟩
theorem zgqb {kvs:List (List Key×V)}(ok:HOk P w H h)(e:Rd H a (.dT kvs)):kvs.length≤yta∧(a==ygg)=false ∧
  ∃xs,KT H kvs xs∧h.DictOfH (yql (zue P w)) a xs:=by
 obtain⟨z,y,xs,r,o,es,ep,h1,h2,h3,h4,h5⟩:=(show zrg P w H h a (.dT kvs) from zwrb ok e);refine⟨z,y,xs,r,o,es,ep,h1,h2,h3,h4,λx hx=>?_,h5⟩;have all:∀{l:List (List Key×V)} {m:List (List Key×Addr×Value)},KT H l m->∀x∈m,(yql (zue P w)).is h x.1 x.2.1:=by
  intro l m q
  induction q with
  | nil=>intro x hx;exact nomatch hx
  | @cons p q ps qs hq t ih =>
   intro x hx
   rcases yja.mp hx with e|hx
   ·subst e;exact zkib ok (by rw[← hq.1];exact hq.2.1)
   ·exact ih x hx
 exact all r x hx
theorem zzub {kvs:List (List Key×V)}(ok:HOk P w H h)(e:H a=some (.dT kvs)):kvs.length≤yta∧(a==ygg)=false ∧
  ∃xs,KT H kvs xs∧h.DictOfH (yql (zue P w)) a xs:=zgqb ok (.inl e)
end
def DGet (H:Hp)(a:Addr)(y:V)(r:Option V):Prop :=
 (Ex2 λkvs k=>Rd H a (.dK kvs)∧y=kV k∧r=valV kvs k)∨Ex3 λkvs k b=>Rd H a (.dT kvs)∧y = .ref b∧H b=some (.tup (k.map kV))∧r=valV kvs k
def DPut (H:Hp)(a:Addr)(y v:V)(H':Hp):Prop :=
 (Ex2 λkvs k=>H a=some (.dK kvs)∧y=kV k∧kvs.length<yta∧H'=upd H a (.dK (putK kvs k v))) ∨
 Ex3 λkvs k b=>H a=some (.dT kvs)∧y = .ref b∧H b=some (.tup (k.map kV))∧kvs.length<yta∧H'=upd H a (.dT (putK kvs k v))
theorem DGet.t {H:Hp}{a b:Addr}{kvs:List (List Key×V)}{k:List Key}(e:H a=some (.dT kvs))(eb:H b=some (.tup (k.map kV))):DGet H a (.ref b) (valV kvs k):=.inr ⟨kvs,k,b,.inl e,rfl,eb,rfl⟩
theorem DPut.t {H:Hp}{a b:Addr}{kvs:List (List Key×V)}{k:List Key}{v:V}(e:H a=some (.dT kvs))(eb:H b=some (.tup (k.map kV)))(hl:kvs.length<yta) :
  DPut H a (.ref b) v (upd H a (.dT (putK kvs k v))):=.inr ⟨kvs,k,b,e,rfl,eb,hl,rfl⟩
section
variable {X:Cx}{pins:List (Addr×Obj)}{σ:St}{H:Hp}{s:Shared}{a:Addr}{y v:V}{u r:Value}{o:Option V}{A:Around}{E:Value->Shared->Prop}
theorem Inv.big (I:Inv X pins σ H s):ygg<s.heap.objs.size:=by
 have h:yab<s.heap.objs.size:=(I.mod.glob.keeps I.bk).lt;exact Nat.lt_trans (by decide) h
theorem zkjb {h':Heap}{t':Nat}{ob:HO}(I:Inv X pins σ H s)(mu:Mut (H a))(hs:ywc a s.heap h')(he:∃q,h'.get? a=some q)(new:zrg X.prog X.w (upd H a ob) h' a ob) :
  Inv X pins σ (upd H a ob) { s with heap:=h',toks:=t' } :=
 I.write (x:=a) (e:=a) mu (.inl rfl) (λb q hb z=>(hs.2 b hb).trans z) he new
theorem zqtb {P:ypb}{w:World}{H':Hp}{h':Heap}{kvs:List (Key×V)}{vs:List (Key×Value)}(z:kvs.length≤yta)(hd:(a==ygg)=false)(rel:KV kvs vs)(dd:h'.DictOf (zue P w) a vs) :
  zrg P w H' h' a (.dK kvs):=⟨z,hd,vs,rel,dd⟩
theorem zljb {H':Hp}{Q:Unit->Shared->Prop}(hu:A.units+1<cLine)(I:Inv X pins σ H s)(g:DPut H a y v H')(ry:RelV y u)(rv:RelV v r)(h:∀s',Inv X pins σ H' s'->Q () s') :
  wpAny (model X.prog X.w) A (setItem (.ref a) u r) Q E s:=by
 rcases g with⟨kvs,k,e,ey,l,eH⟩|⟨kvs,k,b,e,ey,eb,l,eH⟩
 ·subst ey eH;obtain⟨z,hd,vs,rel,dd⟩:=zavb I.hok e;have hz:vs.length≤yta:=by rw[← rel.length];exact z
  have hl:(putK kvs k v).length≤yta:=by have:=znm kvs k v;omega
  refine wpAny_setItem_pairs (hsz:=hz) (ztpb ry) dd λh' dd' hs=>h _ ?_;have he:∃q,h'.get? a=some q:=let ⟨q,_,_,hq,_⟩:=dd';⟨q,hq⟩;exact zkjb I (by rw[e];exact True.intro) hs he (zqtb hl hd (rel.put k rv) dd')
 ·subst ey eH;cases (show u=Value.ref b from ry);obtain⟨z,hd,xs,rel,dd⟩:=zzub I.hok e;have hz:xs.length≤yta:=by rw[← yqk rel];exact z
  have hl:(putK kvs k v).length≤yta:=by have:=znm kvs k v;omega
  refine wpAny_setItem_heap (hsz:=hz) (tupleKind_room_in1 hu) (zkib I.hok eb) dd λh' dd' hs=>h _ ?_;obtain⟨q,es,ep,hq,h2,h3,h4,_,h5⟩:=dd';refine zkjb I (by rw[e];exact True.intro) hs ⟨q,hq⟩ ⟨hl,hd,_,(rel.put k eb rv).keeps λc ys ec=>?_,q,es,ep,hq,h2,h3,h4,h5⟩;rw[zza (zel ec e (λz=>nomatch z))];exact ec
end
section
variable {X:Cx}{pins:List (Addr×Obj)}{σ:St}{H:Hp}{s:Shared}{a:Addr}{kvs:List (Key×V)}{k:Key}{u:Value}{A:Around}{E:Value->Shared->Prop}
end
def zkub (td ty tv:TE):TS:=λD σ H=>tv σ H λv H1=>td σ H1 λx H2=>ty σ H2 λy H3=>Ex2 λa H4=>x = .ref a∧DPut H3 a y v H4∧D.nx σ H4
section
variable {X:Cx}{o i e value:Expr}{pos pos' tpos:Pos}{td ty tv:TE}
theorem zsob (hu:X.A.units+1<cLine)(ho:PE X o td)(hi:PE X i ty)(hv:PE X value tv)(hs:ymn value (some (.Subscript o i pos')) pos.line X.env=pure false) :
  PS X (.Assign [.Subscript o i pos'] value pos) (zkub td ty tv):=by
 intro pins s σ H D I h;refine wpAny_Assign_Subscript (thn (hv pins s σ H _ I h) λr s1 ⟨v,H1,I1,rv,q1⟩=>thn (ho pins s1 σ H1 _ I1 q1) λu s2 ⟨x,H2,I2,rx,q2⟩=>thn (hi pins s2 σ H2 _ I2 q2) λiv s3 ⟨y,H3,I3,ry,a,H4,ex,g,q3⟩=>?_) hs;subst ex;obtain rfl:u=Value.ref a:=rx;exact zljb hu I3 g ry rv λs4 I4=>⟨σ,H4,I4,q3⟩
end
theorem znmb {P:ypb}{w:World}{H:Hp}(h:Heap)(hb:ygg<h.objs.size):zrg P w H (h.push { cls:=.type "dict",data:=.dict #[] }) h.objs.size (.dT []) :=
 ⟨ylb _,beq_eq_false_iff_ne.mpr (ysb (yhb hb)),[],.nil,_,#[],0,yla _ rfl,⟨rfl,rfl,rfl⟩,rfl,rfl,List.nodup_nil⟩
def zfrb:TE:=λ_ H Q=>∀p,H p=none->Q (.ref p) (upd H p (.dT []))
section
variable {X:Cx}{pos:Pos}
theorem zglb:PE X (.Dict [] [] pos) zfrb:=λpins s σ H Q I h =>
 wpAny_Dict_empty ⟨.ref s.heap.objs.size,_,I.laid (a:=s.heap.objs.size) (o:=.dT []) (t':=s.toks) (λ_ _ q=>yca _ q) (yma _) (znmb s.heap I.big),rfl,h _ (I.hok.fresh (yma _))⟩
end
structure M1 (X:Cx)(o:Expr)(m:Str)(apos:Pos)(e:Expr)(cpos:Pos):Prop where
 base:ynh o m X.env (eval o X.env)=eval o X.env
 few:((backTo cpos (ylc [e] X.env)).all (λx=>!x.1)&&(yxo cpos (ytk [] X.env)).all (λx=>x.1.isSome)
  && decide (([e]:List Expr).length+([]:List ybo).length+(if ([]:List ybo).isEmpty then 0 else 1)<30))=true
 line:(apos.endLine==cpos.line)=true
 trees:backTo cpos (ylc [e] X.env)=[(false,eval e X.env)]
structure M2 (X:Cx)(o:Expr)(m:Str)(apos:Pos)(e f:Expr)(cpos:Pos):Prop where
 base:ynh o m X.env (eval o X.env)=eval o X.env
 few:((backTo cpos (ylc [e,f] X.env)).all (λx=>!x.1)&&(yxo cpos (ytk [] X.env)).all (λx=>x.1.isSome)
  && decide (([e,f]:List Expr).length+([]:List ybo).length+(if ([]:List ybo).isEmpty then 0 else 1)<30))=true
 line:(apos.endLine==cpos.line)=true
 trees:backTo cpos (ylc [e,f] X.env)=[(false,eval e X.env),(false,eval f X.env)]
def IsD (H:Hp)(a:Addr):Prop:=(∃kvs,Rd H a (.dK kvs))∨∃kvs,Rd H a (.dT kvs)
theorem zftb {X:Cx}{pins:List (Addr×Obj)}{σ:St}{H:Hp}{s:Shared}{a:Addr}(I:Inv X pins σ H s)(d:IsD H a) :
  s.TypeIs (.ref a) "dict" ∧ (∀b,Value.ref a = .ref b->∃ob,s.heap.get? b=some ob∧ob.dict=none)∧(a==ygg)=false:=by
 rcases d with⟨kvs,e⟩|⟨kvs,e⟩
 ·obtain⟨_,hd,vs,_,dd⟩:=ziqb I.hok e;refine⟨dd.typeIs,λb q=>?_,hd⟩;cases q;obtain⟨ob,_,_,h1,h2,_⟩:=dd;exact⟨ob,h1,h2.2.1⟩
 ·obtain⟨_,hd,xs,_,dd⟩:=zgqb I.hok e;refine⟨dd.typeIs,λb q=>?_,hd⟩;cases q;obtain⟨ob,_,_,h1,h2,_⟩:=dd;exact⟨ob,h1,h2.2.1⟩
section
variable {X:Cx}{pins:List (Addr×Obj)}{σ:St}{H:Hp}{s:Shared}{a:Addr}{y d:V}{u r:Value}{o:Option V}{A:Around}{E:Value->Shared->Prop}
theorem zstb {Q:Value->Shared->Prop}(hu:A.units+1<cLine)(I:Inv X pins σ H s)(g:DGet H a y o)(ry:RelV y u)(h:∀w' s',Inv X pins σ H s'->RelV (o.getD .non) w'->Q w' s') :
  wpAny (model X.prog X.w) A (call (.builtin "dict.get") [.ref a,u]) Q E s:=by
 rcases g with⟨kvs,k,e,ey,l⟩|⟨kvs,k,b,e,ey,eb,l⟩
 ·subst ey;obtain⟨z,hd,vs,rel,dd⟩:=ziqb I.hok e;refine call_meetsIn yki dd.typeIs ynl (ybl _ _) (meets_dict_get (zue X.prog X.w) a (ztpb ry) hd) ⟨_,dd.mapOf,h _ _ (I.tok _) ?_⟩;rw[l];exact (rel.val k).getD rfl
 ·subst ey;cases (show u=Value.ref b from ry);obtain⟨z,hd,xs,rel,dd⟩:=zgqb I.hok e;refine call_meetsIn yki dd.typeIs ynl (ybl _ _) (meetsH_dict_get (yql (zue X.prog X.w)) a b hd) ⟨tupleKind_room_in1 hu,k,xs,zkib I.hok eb,dd,h _ _ (I.tok _) ?_⟩;rw[l];exact (rel.val k).getD rfl
end
def zgrb (td ty:TE):TE:=fun σ H Q=>td σ H λx H1=>∃a,x = .ref a∧IsD H1 a∧ty σ H1 λy H2=>∃o,DGet H2 a y o∧Q (o.getD .non) H2
section
variable {X:Cx}{o e f:Expr}{apos cpos:Pos}{td ty tx:TE}
theorem zilb (hu:X.A.units+1<cLine)(ho:PE X o td)(he:PE X e ty)(m:M1 X o "get" apos e cpos):PE X (.Call (.Attribute o "get" apos) [e] [] cpos) (zgrb td ty):=by
 intro pins s σ H Q I h;refine wpAny_Call_method m.base m.few m.line PySem.F.plainAttrs_dict yki PySem.F.type_dict_get (thn (ho pins s σ H _ I h) λu s1 ⟨x,H1,I1,rx,a,ex,d,q1⟩=>?_);subst ex;obtain rfl:u=Value.ref a:=rx;obtain⟨t1,t2,_⟩:=zftb I1 d;refine⟨t1,t2,?_⟩;rw[m.trees];refine yml rfl (yum (ypn (thn (he pins s1 σ H1 _ I1 q1) λiv s2 ⟨y,H2,I2,ry,ov,g,q2⟩=>yzn ?_)));exact zstb hu I2 g ry λw' s3 I3 rw'=>⟨_,H2,I3,rw',q2⟩
end
section
variable {X:Cx}{pins:List (Addr×Obj)}{σ:St}{H:Hp}{s:Shared}{a:Addr}{kvs:List (Key×V)}{A:Around}{E:Value->Shared->Prop}
end
section
variable {X:Cx}{pins:List (Addr×Obj)}{σ:St}{H:Hp}{s:Shared}{a:Addr}{y:V}{u:Value}{A:Around}{E:Value->Shared->Prop}
end
end L2
namespace L2
open PySem PyProof.Rows
section
variable {pr:ypb}{wo:World}{Ar:Around}{Ex:Value->Shared->Prop}{sh:Shared}
theorem zqdb (a:Addr):¬ ((Value.ref a==Value.none)=true):=ywa
theorem zvnb {it t:Addr}{i:Nat}{ys:Array Value}{v:Value}{R:PySem.Fin->Shared->Prop}(h1:sh.heap.IsTupleIter it t i)(h2:sh.heap.IsTuple t ys)(h3:ys[i]?=some v)
  (q:∀g,g.IsTupleIter it t (i+1)->ywc it sh.heap g->R (.done (.ret v)) { sh with heap:=g }):wpAny (model pr wo) Ar (yyf.«tuple_iterator.__next__» ⟨[.ref it],[]⟩) R Ex sh:=by
 obtain⟨ob,a1,a2,a3⟩:=id h1;obtain⟨ot,b1,_,nn,b3⟩:=h2;refine (show wpAny (model pr wo) Ar (field (.ref it) 0 >>= _) R Ex sh from yaa (yce a1 a3 (x:=.ref t) rfl ?_));rw[if_neg (zqdb t)];refine (show wpAny (model pr wo) Ar (field (.ref it) 1 >>= _) R Ex sh from yaa (yce a1 a3 (x:=.int i 0) rfl ?_));refine (show wpAny (model pr wo) Ar (ykk (.ref t) >>= _) R Ex sh from yaa (wpAny_seqItems b1 b3 ?_));simp only[ydc,h3];refine yaa (wpAny_setField a1 a3 (by simp) (yga (q _ ⟨_,yae _ a1 (Obj.isFreed_of_fields (yun a3 _)),(Obj.cls_mapFields ..).trans a2,?_⟩ (yue ..))));rw[yun a3];simp[rawInt]
theorem zrlb {it t:Addr}{i:Nat}{ys:Array Value}{v:Value}{R:Value->Shared->Prop}(h1:sh.heap.IsTupleIter it t i)(h2:sh.heap.IsTuple t ys)(h3:ys[i]?=some v)
  (q:∀g,g.IsTupleIter it t (i+1)->ywc it sh.heap g->R v { sh with heap:=g }):wpAny (model pr wo) Ar (ykf (.ref it)) R Ex sh:=by
 unfold ykf;exact yaa (yqc (name:=yvf "__next__") h1.typeIs yye (ysc yye h1.typeIs yfj (zvnb h1 h2 h3 λg a b=>⟨v,rfl,yga (q g a b)⟩) (yri _)))
theorem zgkb {it t:Addr}{i:Nat}{ys:Array Value}{R:Value->Shared->Prop}(hd:Ar.handled=none)(h1:sh.heap.IsTupleIter it t i)(h2:sh.heap.IsTuple t ys)(h3:ys[i]?=none)
  (q:∀g e,yjp it sh.heap g->(∃o,g.get? e=some o∧o.cls = .type "StopIteration")->Ex (.ref e) { sh with heap:=g }):wpAny (model pr wo) Ar (ykf (.ref it)) R Ex sh:=by
 obtain⟨ob,a1,a2,a3⟩:=id h1;obtain⟨ot,b1,_,nn,b3⟩:=h2;unfold ykf;refine yaa (yqc (name:=yvf "__next__") h1.typeIs yye (ysc yye h1.typeIs yfj ?_ (yri _)));refine (show wpAny (model pr wo) Ar.in1 (field (.ref it) 0 >>= _) _ Ex sh from yaa (yce a1 a3 (x:=.ref t) rfl ?_));rw[if_neg (zqdb t)];refine (show wpAny (model pr wo) Ar.in1 (field (.ref it) 1 >>= _) _ Ex sh from yaa (yce a1 a3 (x:=.int i 0) rfl ?_));refine (show wpAny (model pr wo) Ar.in1 (ykk (.ref t) >>= _) _ Ex sh from yaa (wpAny_seqItems b1 b3 ?_));simp only[ydc,h3];refine yaa (ysi (yaa (wpAny_setField a1 a3 (by simp) ?_)));refine (show wpAny (model pr wo) Ar.in1 (newExc (.type "StopIteration") [] >>= _) _ Ex _ from yaa ?_);simp only[newExc,newTuple];refine yaa (yuc ?_ (by size_fits));refine yaa (m:=ysj _ _) (wpAny_of_eq (a:=Value.none) (by first|rfl|(simp only[ysj];rfl)) (yuc ?_ (by size_fits)));simp only[yyo];refine yaa (wpAny_handled ?_)
 first|rw[show Ar.in1.handled=none from hd]|rw[hd]
 exact yaa (yga (wpAny_throw (q _ _ (((yue ..).extBut.push _).push _) ⟨_,yla _ rfl,rfl⟩)))
def En (h:Heap)(e it t:Addr)(i:Nat):Prop:=(∃old,IsEnum h e it (i:Int) old)∧h.IsTupleIter it t i∧e≠it
theorem zeqb {e it t:Addr}{i:Nat}{ys:Array Value}{v:Value}{R:Option Value->Shared->Prop}(hE:En sh.heap e it t i)(h2:sh.heap.IsTuple t ys)(h3:ys[i]?=some v)
  (q:∀g,IsEnumOut g e it ((i:Int)+1) v sh.heap.objs.size->g.IsTupleIter it t (i+1)->g.get? sh.heap.objs.size=some { cls:=.type "tuple",data:=.seq #[.int i sh.toks,v] } →
   (∀b o,b≠e->b≠it->sh.heap.get? b=some o->g.get? b=some o)->R (some (.ref sh.heap.objs.size)) { sh with heap:=g,toks:=sh.toks+1 }):wpAny (model pr wo) Ar (pyNext (.ref e)) R Ex sh:=by
 obtain⟨⟨old,he⟩,h1,ne⟩:=hE;have ty:sh.TypeIs (.ref e) "enumerate":=⟨_,he,rfl⟩;obtain⟨hp,gn,dr,tk,os⟩:=sh;unfold pyNext;refine yaa (yyk (yqc (name:=yvf "__next__") ty ypg (ysc ypg ty yol ?_ (ycl _))));refine (show wpAny (model pr wo) Ar.in1 (field (.ref e) 2 >>= _) _ _ ⟨hp,gn,dr,tk,os⟩ from yaa (yce he rfl (x:=.ref it) rfl ?_));refine yaa (zrlb h1 h2 h3 λg1 i1 s1=>?_);have s1':ywc it hp g1:=s1;have e1:IsEnum g1 e it (i:Int) old:=(s1'.2 e ne).trans he;refine (show wpAny (model pr wo) Ar.in1 (field (.ref e) 3 >>= _) _ _ ⟨g1,gn,dr,tk,os⟩ from yaa (yce e1 rfl (x:=rawInt i) rfl ?_));refine (show wpAny (model pr wo) Ar.in1 (field (.ref e) 4 >>= _) _ _ ⟨g1,gn,dr,tk,os⟩ from yaa (yce e1 rfl (x:=.none) rfl ?_));refine (show wpAny (model pr wo) Ar.in1 (mkInt i >>= _) _ _ ⟨g1,gn,dr,tk,os⟩ from yaa (wpAny_mkInt ?_));refine (show wpAny (model pr wo) Ar.in1 (yxk (.ref e) 3 (rawInt ((i:Int)+1)) >>= _) _ _ ⟨g1,gn,dr,tk+1,os⟩ from yaa (yoc e1 (by simp) λg2 e2 s2=>?_));have s2':ywc e g1 g2:=s2;have e2':IsEnum g2 e it ((i:Int)+1) old:=e2;refine (show wpAny (model pr wo) Ar.in1 (yxk (.ref e) 4 .none >>= _) _ _ ⟨g2,gn,dr,tk+1,os⟩ from yaa (yoc e2' (by simp) λg3 e3 s3=>?_));have s3':ywc e g2 g3:=s3;have e3':IsEnum g3 e it ((i:Int)+1) old:=e3;refine (show wpAny (model pr wo) Ar.in1 (newTuple [.int i tk,v] >>= _) _ _ ⟨g3,gn,dr,tk+1,os⟩ from yaa (yzm ?_));have sz:g3.objs.size=hp.objs.size:=by rw[s3'.1,s2'.1,s1'.1]
 have lt:e<hp.objs.size:=yra he;obtain⟨g4,hg4⟩:∃g4,g4=g3.push { cls:=.type "tuple",data:=.seq #[.int i tk,v] }:=⟨_,rfl⟩;have e4:IsEnum g4 e it ((i:Int)+1) old:=by rw[hg4];exact yca _ e3'
 have t4:g4.get? hp.objs.size=some { cls:=.type "tuple",data:=.seq #[.int i tk,v] }:=by rw[hg4,← sz];exact yla _ rfl
 have k4:∀b o,b≠e->b≠it->hp.get? b=some o->g4.get? b=some o:=λb o n1 n2 z=>by
  rw[hg4];exact yca _ (s3'.extBut b o n1 (s2'.extBut b o n1 (s1'.extBut b o n2 z)))
 have i4:g4.IsTupleIter it t (i+1):=by
  obtain⟨o,z,r⟩:=(i1.extBut s2'.extBut (ysb ne)).extBut s3'.extBut (ysb ne);exact⟨o,by rw[hg4];exact yca _ z,r⟩
 refine (show wpAny (model pr wo) Ar.in1 (yhh (.ref e) >>= _) _ _ ⟨g3.push { cls:=.type "tuple",data:=.seq #[.int i tk,v] },gn,dr,tk+1,os⟩ from ?_);rw[← hg4,sz];refine yaa ?_;unfold yhh;refine yaa (yce e4 rfl (x:=.none) rfl (yga ?_));simp only[if_true];refine yaa (ysi (yaa (yce e4 rfl (x:=old) rfl (yaa (yoc e4 (by simp) λg5 e5 s5=>?_)))));have s5':ywc e g4 g5:=s5;have e5':IsEnum g5 e it ((i:Int)+1) v:=e5;refine (show wpAny (model pr wo) Ar.in1 (ybh (.ref e) (.ref hp.objs.size) >>= _) _ _ ⟨g5,gn,dr,tk+1,os⟩ from yaa ?_);unfold ybh;refine yaa (yoc e5' (by simp) λg6 e6 s6=>?_);have s6':ywc e g5 g6:=s6;have e6':IsEnumOut g6 e it ((i:Int)+1) v hp.objs.size:=e6;refine yoc e6' (by simp) λg7 e7 s7=>?_;have s7':ywc e g6 g7:=s7;have up:∀b o,b≠e->g4.get? b=some o->g7.get? b=some o:=λb o n z=>s7'.extBut b o n (s6'.extBut b o n (s5'.extBut b o n z));refine yaa (wpAny_letGo (yga ⟨_,rfl,yga (q g7 e7 ?_ (up _ _ (yih lt) t4) λb o n1 n2 z=>up b o n1 (k4 b o n1 n2 z))⟩));obtain⟨o,z,r⟩:=i4;exact⟨o,up _ _ (ysb ne) z,r⟩
theorem zotb {e it t:Addr}{i:Nat}{ys:Array Value}{R:Option Value->Shared->Prop}(hd:Ar.handled=none)(hE:En sh.heap e it t i)(h2:sh.heap.IsTuple t ys)(h3:ys[i]?=none)
  (q:∀g,yjp it sh.heap g->R none { sh with heap:=g }):wpAny (model pr wo) Ar (pyNext (.ref e)) R Ex sh:=by
 obtain⟨⟨old,he⟩,h1,ne⟩:=hE;have ty:sh.TypeIs (.ref e) "enumerate":=⟨_,he,rfl⟩;unfold pyNext;refine yaa (yyk (yqc (name:=yvf "__next__") ty ypg (ysc ypg ty yol ?_ (ycl _))));refine (show wpAny (model pr wo) Ar.in1 (field (.ref e) 2 >>= _) _ _ sh from yaa (yce he rfl (x:=.ref it) rfl ?_));refine yaa (zgkb hd h1 h2 h3 λg x b z=>?_);obtain⟨o,z1,z2⟩:=z;exact yaa (ygl (T:="StopIteration") (b:=true) ⟨o,z1,z2⟩ isSubtype_stop (yga (q _ b)))
open AutoSeq1 (wpAny_loadPart') in
theorem zzhb (t:Addr)(ys:Array Value)(n:Nat)(dct:Option Addr)(sl:Array (Option Value)):Meets (yyf.«enumerate.__new__» ⟨[.type "enumerate",.ref t],[]⟩) (λ_ R s=>s.heap.get? t=some { cls:=.type "tuple",dict:=dct,data:=.seq ys n,slots:=sl } ∧
   R (.ok (.ret (.ref (s.heap.push { cls:=.type "tuple_iterator",data:=.fields #[.ref t,.int 0 0] }).objs.size)))
    { s with heap:=(s.heap.push { cls:=.type "tuple_iterator",data:=.fields #[.ref t,.int 0 0] }).push { cls:=.type "enumerate",data:=.fields #[.none,.bool false,.ref s.heap.objs.size,rawInt 0,.none,.none] } }) :=
 .of_wp λprog w A R s h=>by
  obtain⟨hp,g,d,tk,os⟩:=s;obtain⟨ht,h⟩:=h;have hsub:=sub_enumerate;have hT:Heap.IsTuple (Shared.heap ⟨hp,g,d,tk,os⟩) t ys:=⟨_,ht,rfl,n,rfl⟩
  wp_walk using wpAny_loadPart' ht
  refine wpAny_stack_any λst=>yga ?_
  split
  ·rename_i c _ _ _ _ _;cases (c==Value.type "enumerate")
   ·wp_walk using wpAny_loadPart' ht,ylh hT
    exact⟨_,rfl,h⟩
   ·wp_walk using wpAny_loadPart' ht,ylh hT
    exact⟨_,rfl,h⟩
  ·wp_walk using wpAny_loadPart' ht,ylh hT
   exact⟨_,rfl,h⟩
theorem zcgb {t:Addr}{ys:Array Value}{R:Value->Shared->Prop}(hT:sh.heap.IsTuple t ys)
  (q:∀g,En g (sh.heap.objs.size+1) sh.heap.objs.size t 0->(∀b o,sh.heap.get? b=some o->g.get? b=some o)->R (.ref (sh.heap.objs.size+1)) { sh with heap:=g }) :
  wpAny (model pr wo) Ar (call (.type "enumerate") [.ref t]) R Ex sh:=by
 obtain⟨⟨c,dct,dt,sl⟩,ht,hc,n,hd⟩:=hT;have hc':c = .type "tuple":=hc;have hd':dt = .seq ys n:=hd;subst hc' hd';refine callType_new F.called_enumerate (by decide) (F.typeCall_enumerate_1 _) (F.newCall_enumerate_1 _) (λobj=>F.args_object_init_2 obj _) F.entry_enumerate_new (zzhb t ys n dct sl) ⟨ht,?_⟩;obtain⟨g1,hg1⟩:∃g1,g1=sh.heap.push { cls:=.type "tuple_iterator",data:=.fields #[.ref t,.int 0 0] }:=⟨_,rfl⟩;have sz:g1.objs.size=sh.heap.objs.size+1:=by rw[hg1];exact yif ..
 show _∧_
 rw[← hg1,sz];have he:IsEnum (g1.push { cls:=.type "enumerate",data:=.fields #[.none,.bool false,.ref sh.heap.objs.size,rawInt 0,.none,.none] }) (sh.heap.objs.size+1) sh.heap.objs.size ((0:Nat):Int) .none:=by
  have z:=yla g1 (o:={ cls:=.type "enumerate",data:=.fields #[.none,.bool false,.ref sh.heap.objs.size,rawInt 0,.none,.none] }) rfl;rw[sz] at z;exact z
 refine⟨⟨_,he,rfl⟩,q _ ⟨⟨_,he⟩,⟨_,yca _ (by rw[hg1];exact yla _ rfl),rfl,rfl⟩,Nat.succ_ne_self _⟩ λb o x=>yca _ (by rw[hg1];exact yca _ x)⟩
theorem zfz {e it t:Addr}{i:Nat}{R:Value->Shared->Prop}(h:En sh.heap e it t i)(q:R (.ref e) sh):wpAny (model pr wo) Ar (pyIter (.ref e)) R Ex sh:=by
 obtain⟨⟨old,he⟩,_,_⟩:=h;exact wpAny_pyIter_enum he q
end
section
variable {X:Cx}{pins:List (Addr×Obj)}{σ:St}{H:Hp}{s:Shared}{h':Heap}
theorem Inv.zsnb {t':Nat}{p q:Addr}(I:Inv X pins σ H s)(k:∀b o,b≠p->b≠q->s.heap.get? b=some o->h'.get? b=some o)(fp:FpOk X pins H p)(fq:FpOk X pins H q):Inv X pins σ H { s with heap:=h',toks:=t' }:=by
 have o1:∀b u,H b=some u->b≠p:=λb u e z=>by
  rw[z,fp.1] at e;cases e
 have o2:∀b u,H b=some u->b≠q:=λb u e z=>by
  rw[z,fq.1] at e;cases e
 have kk:∀b o,b∉[p,q]->s.heap.get? b=some o->h'.get? b=some o:=λb o hb e=>k b o (λz=>hb (by simp[z])) (λz=>hb (by simp[z])) e;refine I.step (g':=s.gens) (d':=s.drawn) (ch:=[p,q]) (λb hb=>?_) (λb o _ _ hc e _=>kk b o hc e) (λb o _ _ hc e _=>⟨o.slots,kk b o hc e⟩) (λ_ _ _ _ n=>n)
  (λb o hc e=>⟨o,kk b o hc e⟩) (λ_ _ e=>e) (λ_ _ _ e=>e) (λb ps e=>⟨#[],by rw[e];simp⟩) (λm hm=>?_) (λb u e=>?_) I.bare
 ·have e:b=p∨b=q:=by simpa using hb
  rcases e with e|e
  ·rw[e];exact⟨fp.2.2.2.1,fp.2.1,fp.2.2.2.2.1,fp.2.2.2.2.2⟩
  ·rw[e];exact⟨fq.2.2.2.1,fq.2.1,fq.2.2.2.2.1,fq.2.2.2.2.2⟩
 ·obtain⟨o,es,ep,ho,r⟩:=hm;exact⟨o,es,ep,k _ o (ysb fp.2.1) (ysb fq.2.1) ho,r⟩
 ·refine (I.hok b u e).stay (λc v hc z=>?_) (λ_ z=>z) λ_ _ z=>z
  rcases hc with y|y
  ·rw[y];rw[y] at z;exact k b v (o1 b u e) (o2 b u e) z
  ·exact k c v (o1 c _ y) (o2 c _ y) z
end
def Ite (K:yba)(a:Addr):It :=
 ⟨λi H=>Ex2 λxs x=>SqT K H a xs∧xs[i]?=some x,λi H x H'=>Ex2 λp v=>H p=none∧x = .ref p∧H'=upd H p (.tup [.int (i:Int),v])∧∀xs,SqT K H a xs->xs[i]?=some v,λi H=>∃xs,SqT K H a xs∧xs.length≤i⟩
theorem zweb {P:ypb}{w:World}{K:yba}{es:List Expr}{k1:Nat}{pos:Pos}(a e it:Addr):Turn P w K (.Tuple es k1 pos) (Ite K a) [e,it] e (λi h=>En h e it a i) where
 mem:=by simp
 obj:=λi h st b hb=>by
  have z:b=e∨b=it:=by simpa using hb
  obtain⟨⟨old,he⟩,⟨o,g1,g2,g3⟩,_⟩:=st
  rcases z with rfl|rfl
  ·exact⟨_,he,λv y=>by cases y⟩
  ·exact⟨o,g1,λv y=>by rw[g3] at y;cases y⟩
 keep:=λi h h' st k=>by
  obtain⟨⟨old,he⟩,⟨o,g1,g2⟩,n⟩:=st;exact⟨⟨old,k e (by simp) _ he⟩,⟨o,k it (by simp) _ g1,g2⟩,n⟩
 item:=by
  intro X hP hw hK hc i pins s σ H E I hf st hg;subst hP hw hK;obtain⟨xs,x,hq,hx⟩:=hg;obtain⟨its,rv,p,hz⟩:=I.tuple hq;obtain⟨u,hu,ru⟩:=rv.get hx;have fe:=hf e (by simp);have fi:=hf it (by simp);have ne:=st.2.2;refine zeqb st (show s.heap.IsTuple a its.toArray from p) (v:=u) (by simpa using hu) λg e1 i1 t1 k1=>?_;refine⟨_,rfl,wpAny_letOwnedTupleGo_enum e1 λg2 e2 s2=>?_⟩;have lt1:e<s.heap.objs.size:=by
   obtain⟨⟨old,he⟩,_⟩:=st;exact yra he
  have lt2:it<s.heap.objs.size:=by
   obtain⟨_,⟨o,g1,_⟩,_⟩:=st;exact yra g1
  have kk:∀b o,b≠e->b≠it->s.heap.get? b=some o->g2.get? b=some o:=λb o n1 n2 z=>s2.extBut b o n1 (k1 b o n1 n2 z);have tt:g2.get? s.heap.objs.size=some { cls:=.type "tuple",data:=.seq #[.int i s.toks,u] }:=s2.extBut _ _ (yih lt1) t1;have na:∀b,b<s.heap.objs.size->b≠s.heap.objs.size:=λb h=>yhb h;have I1:Inv X pins σ (upd H s.heap.objs.size (.tup [.int (i:Int),x])) { s with heap:=s.heap.push { cls:=.type "tuple",data:=.seq #[.int i s.toks,u] },toks:=s.toks+1 } :=
   I.laid (t':=s.toks+1) (λb o z=>yca _ z) (yma _) ⟨by show 2≤yta;decide,[.int i s.toks,u],.cons ⟨_,rfl⟩ (.cons ru .nil),⟨_,yla _ rfl,rfl,_,rfl⟩⟩
  have fo:∀b,b<s.heap.objs.size->FpOk X pins H b->FpOk X pins (upd H s.heap.objs.size (.tup [.int (i:Int),x])) b:=λb h f=>⟨by rw[zza (na b h)];exact f.1,f.2⟩;have I2:=I1.zsnb (h':=g2) (t':=s.toks+1) (p:=e) (q:=it) (λb o n1 n2 z=>by
   by_cases hb:b=s.heap.objs.size
   ·rw[hb] at z ⊢;rw[yla _ rfl] at z;cases z;exact tt
   ·rw[Heap.get?_push_ne _ _ _ hb] at z;exact kk b o n1 n2 z) (fo e lt1 fe) (fo it lt2 fi)
  refine⟨.ref s.heap.objs.size,_,I2,rfl,⟨s.heap.objs.size,x,I.hok.fresh (yma _),rfl,rfl,λys hy=>by rw[I.zpx hy hq];exact hx⟩,⟨⟨u,e2⟩,?_,ne⟩,λb hb=>?_⟩
  ·obtain⟨o,z,r⟩:=i1;exact⟨o,s2.extBut _ _ (ysb ne) z,r⟩
  ·have z:b=e∨b=it:=by simpa using hb
   rcases z with rfl|rfl
   ·exact (fo _ lt1 fe).1
   ·exact (fo _ lt2 fi).1
 done:=by
  intro X hP hw hK hc i pins s σ H E I hf st hg;subst hP hw hK;obtain⟨xs,hq,hx⟩:=hg;obtain⟨its,rv,p,hz⟩:=I.tuple hq;obtain⟨f0,f1,f2,f3,f4,f5⟩:=hf it (by simp);have hl:=rv.length;exact zotb (I.ok.hd hc) st (show s.heap.IsTuple a its.toArray from p) (by simp;omega) λg eb=>⟨rfl,I.turned (t':=s.toks) (λb o hb z=>eb b o hb z) f0 f1 f3 f4 f5⟩
 self:=λ_ _ _ _ _ st h=>zfz st h
section
variable {X:Cx}
theorem zpjb:ykg "enumerate" = some (.type "enumerate"):=by decide +kernel
def iEnT (K:yba)(ta:TA):TI:=fun σ H R=>ta σ H λvs H1=>Ex2 λa xs=>vs=[.ref a]∧SqT K H1 a xs∧R (Ite K a) H1
theorem zblb {es:List Expr}{k1:Nat}{tp:Pos}{a:Expr}{ta:TA}{p pos:Pos}(hg:Gl X "enumerate")(hm:X.mg "enumerate" = none)(ha:PA X [a] ta)(hs:ylc [a] X.env=[(false,eval a X.env)]:=by rfl):PI X (.Tuple es k1 tp) (.Call (.Name "enumerate" p) [a] [] pos) (iEnT X.K ta):=by
 intro pins s σ H R I h;refine Call_ (zru I hg hm zpjb (yre (thn (ha pos pins s σ H _ I h) λus s1 ⟨vs,H1,I1,r1,q1⟩=>?_) hs rfl));obtain⟨b,xs,e,hq,q⟩:=q1;subst e;obtain⟨u,rfl,ru⟩:=vals1 r1;cases ru;obtain⟨its,rv,pl,hz⟩:=I1.tuple hq;refine zcgb (show s1.heap.IsTuple b its.toArray from pl) λg en kp=>?_;refine zfz (sh:={ s1 with heap:=g }) en ?_;refine⟨s1.heap.objs.size+1,[s1.heap.objs.size+1,s1.heap.objs.size],_,_,H1,rfl,I1.kept (t':=s1.toks) kp,zweb b _ _,en,λc hc=>?_,q⟩;have z:c=s1.heap.objs.size+1∨c=s1.heap.objs.size:=by simpa using hc
 rcases z with rfl|rfl
 ·exact I1.fpOk (yzf _) (I1.hok.fresh (yzf _))
 ·exact I1.fpOk (yma _) (I1.hok.fresh (yma _))
end
theorem zzib {K:yba}{a:Addr}{xs:List V}{g:TG}{tb:TS}{D:Ends}{σ:St}{H:Hp}(Pv:Nat->St->Hp->Prop)(h0:Pv 0 σ H)(hl:∀i σ H,i≤xs.length->Pv i σ H->SqT K H a xs)
  (hs:∀i x σ H p,xs[i]?=some x->Pv i σ H->H p=none->g (.ref p) σ (upd H p (.tup [.int (i:Int),x])) fun σ2 H2=>tb { D with nx:=Pv (i+1),ct:=Pv (i+1),bk:=D.nx } σ2 H2) (hd:∀ σ H,Pv xs.length σ H->D.nx σ H) :
  ∃W:Nat->Nat->St->Hp->Prop,(∃m,W 0 m σ H)∧∀i m σ H,W i m σ H →
   ((Ite K a).stop i H∧D.nx σ H)∨((Ite K a).go i H∧∃N:St->Hp->Prop,(∀ σ' H',N σ' H'->∃m',m'<m∧W (i+1) m' σ' H')∧∀x H',(Ite K a).yld i H x H'->g x σ H' fun σ2 H2=>tb { D with nx:=N,ct:=N,bk:=D.nx } σ2 H2):=by
 refine⟨λi m σ H=>m=xs.length-i∧i≤xs.length∧Pv i σ H,⟨xs.length,rfl,ylb _,h0⟩,?_⟩;rintro i m σ H ⟨rfl,hi,pv⟩;have sq:=hl i σ H hi pv
 by_cases lt:i<xs.length
 ·have ex:xs[i]?=some xs[i]:=yqa lt;refine .inr ⟨⟨xs,xs[i],sq,ex⟩,Pv (i+1),fun σ' H' z=>⟨xs.length-(i+1),by omega,rfl,lt,z⟩,λx H' y=>?_⟩;obtain⟨p,v,hp,rfl,rfl,hv⟩:=y;exact hs i v σ H p (hv xs sq) pv hp
 ·obtain rfl:i=xs.length:=by omega
  exact .inl ⟨⟨xs,sq,yma _⟩,hd σ H pv⟩
end L2
namespace L2
open PySem PyProof.Rows
section
variable {X:Cx}{e st:Expr}{te ts:TE}{p2 pos:Pos}
end
end L2
namespace DL
open PySem PySem.Spec PyProof.Rows
section
variable {prog:ypb}{w:World}{A:Around}{E:Value->Shared->Prop}{s:Shared}
section
variable {κ:Type}[DecidableEq κ]{knd:KeyKind prog w κ}
end
end
end DL
namespace L2
open PySem PyProof.Rows
section
variable {X:Cx}
end
end L2
namespace SSet
open PySem PySem.Spec PyProof.Rows
section
variable {prog:ypb}{w:World}{A:Around}{E:Value->Shared->Prop}{s:Shared}
end
end SSet
namespace L2
open PySem PyProof.Rows
section
variable {X:Cx}
end
end L2
namespace L2
open PySem PySem.Spec PyProof.Rows PySem.MeetsSeq
section
variable {X:Cx}
end
end L2
namespace L2
open PySem PyProof.Rows
section
variable {X:Cx}
theorem zgsb (hu:X.A.units+64<cLine):OpR X (yzc .In) (λx y H Q=>Ex2 λd ds=>DV X.K H x d∧DV X.K H y (.list ds)∧yzb d=true∧yzb (.list ds)=true∧d.depth≤8∧Q (.bl (ds.any λe=>ydf e d)) H):=by
 intro pins s σ H x y v u Q I rx ry h;obtain⟨d,ds,hd,he,s1,s2,dp,q⟩:=h;obtain⟨as,r1⟩:=hd.reads I rx;obtain⟨bs,r2⟩:=he.reads I ry;have c2:=ywd s2;rw[yrb] at c2;exact SeqAt.in_list_reads r2 r1 c2 (ywd s1) (by have:=yel (ykc ds) d.depth;omega) ⟨.bl _,H,I,rfl,q⟩
end
end L2
namespace DK
open PySem PySem.Spec PyProof.Rows
section
variable {prog:ypb}{w:World}{A:Around}{E:Value->Shared->Prop}{s:Shared}
end
end DK
namespace L2
open PySem PyProof.Rows
section
variable {X:Cx}{pins:List (Addr×Obj)}{σ:St}{H:Hp}{s:Shared}
end
section
variable {X:Cx}
end
end L2
namespace L2
open PySem PyProof.Rows
section
variable {X:Cx}
theorem zgs (hu:X.A.units+64<cLine):OpR X (yzc .NotIn) (λx y H Q=>Ex2 λd ds=>DV X.K H x d∧DV X.K H y (.list ds)∧yzb d=true∧yzb (.list ds)=true∧d.depth≤8∧Q (.bl (!ds.any λe=>ydf e d)) H):=by
 intro pins s σ H x y v u Q I rx ry h;obtain⟨d,ds,hd,he,s1,s2,dp,q⟩:=h;obtain⟨as,r1⟩:=hd.reads I rx;obtain⟨bs,r2⟩:=he.reads I ry;have c2:=ywd s2;rw[yrb] at c2;exact SeqAt.notIn_list_reads r2 r1 c2 (ywd s1) (by have:=yel (ykc ds) d.depth;omega) ⟨.bl _,H,I,rfl,q⟩
theorem zlfb (K:yba)(hu:X.A.units+64<cLine)(hK:X.K=K:=by rfl):OpR X (yzc .NotIn) (λx y H Q=>Ex2 λd ds=>DV K H x d∧DV K H y (.list ds)∧yzb d=true∧yzb (.list ds)=true∧d.depth≤8∧Q (.bl (!ds.any λe=>ydf e d)) H):=hK▸zgs hu
end
end L2
namespace L2
open PySem PyProof.Rows
section
open PySem.SeqAt PySem.MeetsSeq
open AutoSeq1 (wpAny_loadPart')
end
section
variable {X:Cx}
end
section
open TSort
end
section
variable {pr:ypb}{wo:World}{A:Around}{R:Result->Shared->Prop}{I S:Addr}{fp wr:List Addr}{n:Nat}{P:Nat->Value->Prop}{St:Nat->Heap->Prop}{h0:Heap}
end
section
variable {pr:ypb}{wo:World}{A:Around}{E:Value->Shared->Prop}{s:Shared}
end
section
variable {X:Cx}
end
end L2
namespace L2
open PySem PyProof.Rows
section
variable {X:Cx}
end
end L2
namespace Wm
open PySem
theorem zmjb {c:Nat}:∀{x y a b:List Nat},c∉x->c∉y->x++c::a=y++c::b->x=y∧a=b
 | [],[],a,b,_,_,h=>⟨rfl,by simpa using h⟩
 | [],y::ys,a,b,_,hy,h=>by
  exfalso;simp only[yam,ydh,ygj] at h;exact hy (by rw[← h.1];exact yka)
 | x::xs,[],a,b,hx,_,h=>by
  exfalso;simp only[yam,ydh,ygj] at h;exact hx (by rw[h.1];exact yka)
 | x::xs,y::ys,a,b,hx,hy,h=>by
  simp only[ydh,ygj] at h;obtain⟨h1,h2⟩:=h;obtain⟨e1,e2⟩:=zmjb (λz=>hx (yna _ z)) (λz=>hy (yna _ z)) h2;exact⟨by rw[h1,e1],e2⟩
def jl (c:Nat):List (List Nat)->List Nat
 | []=>[]
 | [x]=>x
 | x::y::r=>x++c::jl c (y::r)
theorem zjnb {c:Nat}:∀{xs ys:List (List Nat)},xs≠[]->ys≠[]->(∀x∈xs,c∉x)->(∀y∈ys,c∉y)->jl c xs=jl c ys->xs=ys
 | [],_,h,_,_,_,_=>absurd rfl h
 | _,[],_,h,_,_,_=>absurd rfl h
 | [x],[y],_,_,_,_,h=>by
  have h':x=y:=h;rw[h']
 | [x],y::z::r,_,_,hx,_,h=>by
  exfalso;have h':x=y++c::jl c (z::r):=h;exact hx x yka (by rw[h'];simp)
 | x::z::r,[y],_,_,_,hy,h=>by
  exfalso;have h':x++c::jl c (z::r)=y:=h;exact hy y yka (by rw[← h'];simp)
 | x::z::r,y::z'::r',_,_,hx,hy,h=>by
  have h':x++c::jl c (z::r)=y++c::jl c (z'::r'):=h;obtain⟨e1,e2⟩:=zmjb (hx x yka) (hy y yka) h';rw[e1,zjnb (by simp) (by simp) (λq hq=>hx q (yna _ hq)) (λq hq=>hy q (yna _ hq)) e2]
theorem zom (c:Nat):∀ws:List Str,(ysa ⟨#[c]⟩ ws).cps.toList=jl c (ws.map λw=>w.cps.toList)
 | []=>rfl
 | [x]=>rfl
 | x::y::r=>by
  have ih:=zom c (y::r);show (x++(⟨#[c]⟩:Str)++ysa ⟨#[c]⟩ (y::r)).cps.toList=x.cps.toList++c::jl c ((y::r).map λw=>w.cps.toList)
  rw[← ih];show ((x.cps++#[c])++(ysa ⟨#[c]⟩ (y::r)).cps).toList=_
  simp
theorem toList_inj {xs ys:List Str}(h:(xs.map λw=>w.cps.toList)=(ys.map λw=>w.cps.toList)):xs=ys:=by
 induction xs generalizing ys with
 | nil=>cases ys with
  | nil=>rfl
  | cons y r=>simp at h
 | cons x r ih=>cases ys with
  | nil=>simp at h
  | cons y s =>
   simp only[yva,ygj] at h;have e:x=y:=by
    obtain⟨a⟩:=x;obtain⟨b⟩:=y;have h1:a.toList=b.toList:=h.1;rw[ymi.mp h1]
   rw[e,ih h.2]
theorem zikb (x y:Str):yte x y≠[]:=by
 unfold yte
 split
 ·simp
 ·split
  ·simp
  ·unfold yrf;cases ypc x y 0 x.length (x.length+1)<;>simp
theorem zro {c:Nat}{ws:List Str}(hne:ws≠[])(hf:∀w∈ws,c∉w.cps.toList):yte (ysa ⟨#[c]⟩ ws) ⟨#[c]⟩=ws:=by
 refine toList_inj (zjnb (c:=c) (by simpa using zikb _ _) (by simpa using hne) (λx hx=>?_) (λx hx=>?_) ?_)
 ·obtain⟨w,hw,rfl⟩:=ydb.mp hx;exact StrLaws.split_free _ c w hw
 ·obtain⟨w,hw,rfl⟩:=ydb.mp hx;exact hf w hw
 ·rw[← zom,← zom,StrLaws.join_split]
theorem zyl (s:Str):∀ws:List Str,(ysa s ws).length≤(ws.map (·.length)).sum+ws.length*s.length
 | []=>ylb _
 | [x]=>by
  show x.length≤_
  simp only[yva,yef,yhf,yoo,yad];omega
 | x::y::r=>by
  have ih:=zyl s (y::r);show (x++s++ysa s (y::r)).length≤_
  rw[yjo,yjo];simp only[yva,yhf,yha,Nat.add_mul,Nat.one_mul] at ih ⊢;omega
theorem join_cons (s x:Str){r:List Str}(h:r≠[]):ysa s (x::r)=x++s++ysa s r:=by
 cases r with
 | nil=>exact absurd rfl h
 | cons y r=>rfl
theorem zgo (s:Str):∀{xs ys:List Str},xs≠[]->ys≠[]->ysa s (xs++ys)=ysa s xs++s++ysa s ys
 | [],_,h,_=>absurd rfl h
 | [x],ys,_,h=>by rw[List.singleton_append,join_cons s x h];rfl
 | x::y::r,ys,_,h=>by
  have ih:=zgo s (xs:=y::r) (by simp) h;rw[ydh,join_cons s x (by simp),ih,join_cons s x (by simp)];simp only[Str.append_assoc]
theorem zcz (s:Str):∀{xss:List (List Str)},(∀xs∈xss,xs≠[])->ysa s (xss.map (ysa s))=ysa s xss.flatten
 | [],_=>rfl
 | [xs],_=>by simp[ysa]
 | xs::ys::r,h=>by
  have ih:=zcz s (xss:=ys::r) (λq hq=>h q (yna _ hq));have hx:=h xs yka;have hy:=h ys (yna _ yka);have ne:(ys::r).flatten≠[]:=by
   rw[ypd];intro z;exact hy (yvh.mp z).1
  rw[yva,join_cons s _ (by simp),ih,ypd (l:=xs),zgo s hx ne]
inductive Wh where
 | all|self|mine|mark (n:Str)|force (i:Nat)|not (a:Wh)|both (a b:Wh)|any (a b:Wh)
def Wh.word:Wh->Str
 | .all=>"all"
 | .self=>"self"
 | .mine=>"mine"
 | .mark _=>"mark"
 | .force _=>"force"
 | .not _=>"not"
 | .both _ _=>"both"
 | .any _ _=>"any"
inductive Wv where
 | non|name (n:Str)|num (i:Nat)
def Wh.val:Wh->Wv
 | .mark n=>.name n
 | .force i=>.num i
 | _=>.non
def Wh.parts:Wh->List Wh
 | .not a=>[a]
 | .both a b=>[a,b]
 | .any a b=>[a,b]
 | _=>[]
def Wv.words:Wv->List Str
 | .non=>[]
 | .name n=>[n]
 | .num i=>[toString (i:Int)]
def Wh.words:Wh->List Str
 | .all=>["all"]
 | .self=>["self"]
 | .mine=>["mine"]
 | .mark n=>["mark",n]
 | .force i=>["force",toString (i:Int)]
 | .not a=>"not" :: a.words
 | .both a b=>"both" :: (a.words++b.words)
 | .any a b=>"any" :: (a.words++b.words)
def Wh.size:Wh->Nat
 | .not a=>a.size+1
 | .both a b=>a.size+b.size+1
 | .any a b=>a.size+b.size+1
 | _=>1
theorem Wh.zddb (w:Wh):w.words=w.word::(w.val.words++(w.parts.map Wh.words).flatten):=by
 cases w<;>simp[Wh.words,Wh.word,Wh.val,Wv.words,Wh.parts]
theorem Wh.zvd (w:Wh):w.words≠[]:=by
 rw[w.zddb];simp
theorem Wh.size_eq (w:Wh):w.size=1+(w.parts.map Wh.size).sum:=by
 cases w<;>simp[Wh.size,Wh.parts]<;>omega
theorem Wh.size_pos (w:Wh):0<w.size:=by
 rw[w.size_eq];omega
def Wh.flat:Wh->List (Str×Wv)
 | .not a=>("not",.non)::a.flat
 | .both a b=>("both",.non)::(a.flat++b.flat)
 | .any a b=>("any",.non)::(a.flat++b.flat)
 | w=>[(w.word,w.val)]
theorem Wh.zaqb (w:Wh):w.flat=(w.word,w.val)::(w.parts.map Wh.flat).flatten:=by
 cases w<;>simp[Wh.flat,Wh.word,Wh.val,Wh.parts]
theorem Wh.zqe (w:Wh):w.flat.length=w.size:=by
 induction w<;>simp[Wh.flat,Wh.size, *]
def zsq (ws:List Wh):List (Str×Wv):=(ws.map Wh.flat).flatten
def ztk (ws:List Wh):List Str:=(ws.map Wh.words).flatten
def zqn (ws:List Wh):Nat:=(ws.map Wh.size).sum
theorem zyu (w:Wh)(ws:List Wh):zsq (w::ws)=(w.word,w.val)::zsq (w.parts++ws):=by
 unfold zsq;rw[yva,ypd,w.zaqb,yfb,yhj];rfl
theorem zqab (w:Wh)(ws:List Wh):ztk (w::ws)=w.word::(w.val.words++ztk (w.parts++ws)):=by
 unfold ztk;rw[yva,ypd,w.zddb,yfb,yhj];simp
theorem zffb (w:Wh)(ws:List Wh):zqn (w::ws)=1+zqn (w.parts++ws):=by
 unfold zqn;rw[yva,yhf,w.size_eq,yfb,List.sum_append];omega
theorem zehb {ws:List Wh}(h:ws≠[]):0<zqn ws:=by
 cases ws with
 | nil=>exact absurd rfl h
 | cons w r=>rw[zffb];omega
def zoe (n:Str):Prop:=1≤n.length∧n.length≤8∧∀c∈n.cps.toList,97≤c∧c≤122
def Wh.ok:Wh->Prop
 | .mark n=>zoe n
 | .force i=>i<1000
 | .not a=>a.ok
 | .both a b=>a.ok∧b.ok
 | .any a b=>a.ok∧b.ok
 | _=>True
theorem Wh.zmlb {w:Wh}(h:w.ok):∀p∈w.parts,p.ok:=by
 cases w with
 | not a =>
  intro p hp;have e:p=a:=by simpa [Wh.parts] using hp
  rw[e];exact h
 | both a b =>
  intro p hp;have e:p=a∨p=b:=by simpa [Wh.parts] using hp
  rcases e with e|e<;>rw[e]
  ·exact h.1
  ·exact h.2
 | any a b =>
  intro p hp;have e:p=a∨p=b:=by simpa [Wh.parts] using hp
  rcases e with e|e<;>rw[e]
  ·exact h.1
  ·exact h.2
 | _=>intro p hp;simp[Wh.parts] at hp
theorem zuy:∀i:Nat,i<1000->∀c∈(toString (i:Int):Str).cps.toList,48≤c∧c≤57:=by decide +kernel
theorem zxo:∀i:Nat,i<1000->1≤(toString (i:Int):Str).length∧(toString (i:Int):Str).length≤3:=by decide +kernel
def zfv (u:Str):Prop:=32∉u.cps.toList∧1≤u.length∧u.length≤8
theorem zxy {n:Str}(h:zoe n):zfv n:=⟨λz=>absurd (h.2.2 32 z).1 (by decide),h.1,h.2.1⟩
theorem zco {i:Nat}(h:i<1000):zfv (toString (i:Int):Str):=by
 have q:=zxo i h;exact⟨λz=>absurd (zuy i h 32 z).1 (by decide),q.1,by omega⟩
theorem Wh.zxj (w:Wh):zfv w.word:=by
 have h:∀u∈(["all","self","mine","mark","force","not","both","any"]:List Str),32∉u.cps.toList∧1≤u.length∧u.length≤8:=by decide +kernel
 refine h _ ?_;cases w<;>simp[Wh.word]
theorem Wh.zckb {w:Wh}(h:w.ok):∀u∈w.words,zfv u:=by
 induction w with
 | not a ih =>
  intro u hu
  rcases yja.mp hu with e|e
  ·rw[e];exact Wh.zxj (.not a)
  ·exact ih h u e
 | both a b iha ihb =>
  intro u hu
  rcases yja.mp hu with e|e
  ·rw[e];exact Wh.zxj (.both a b)
  ·rcases yeb.mp e with e|e
   ·exact iha h.1 u e
   ·exact ihb h.2 u e
 | any a b iha ihb =>
  intro u hu
  rcases yja.mp hu with e|e
  ·rw[e];exact Wh.zxj (.any a b)
  ·rcases yeb.mp e with e|e
   ·exact iha h.1 u e
   ·exact ihb h.2 u e
 | mark n =>
  intro u hu;have e:u = "mark" ∨ u=n:=by simpa [Wh.words] using hu
  rcases e with e|e<;>rw[e]
  ·exact Wh.zxj (.mark n)
  ·exact zxy h
 | force i =>
  intro u hu;have e:u = "force" ∨ u=toString (i:Int):=by simpa [Wh.words] using hu
  rcases e with e|e<;>rw[e]
  ·exact Wh.zxj (.force i)
  ·exact zco h
 | all=>intro u hu;have e:u = "all":=by simpa [Wh.words] using hu
        rw[e];exact Wh.zxj .all
 | self=>intro u hu;have e:u = "self":=by simpa [Wh.words] using hu
         rw[e];exact Wh.zxj .self
 | mine=>intro u hu;have e:u = "mine":=by simpa [Wh.words] using hu
         rw[e];exact Wh.zxj .mine
theorem Wh.zix (w:Wh):w.words.length≤2*w.size:=by
 induction w<;>simp[Wh.words,Wh.size]<;>omega
theorem zsp {l:List Nat}{k:Nat}(h:∀x∈l,x≤k):l.sum≤l.length*k:=by
 induction l with
 | nil=>simp
 | cons x r ih =>
  have a:=h x yka;have b:=ih λy hy=>h y (yna _ hy);rw[yhf,yha,Nat.add_mul,Nat.one_mul];omega
def step:List Wh->List Wh
 | []=>[]
 | h::t=>h.parts++t
def pend (w:Wh):Nat->List Wh
 | 0=>[w]
 | j+1=>step (pend w j)
theorem zbjb (w:Wh):zsq [w]=w.flat:=by simp[zsq]
theorem zeu (w:Wh):ztk [w]=w.words:=by simp[ztk]
theorem zfs (w:Wh):∀j,zsq (pend w j)=w.flat.drop j
 | 0=>by rw[yei];exact zbjb w
 | j+1=>by
  have ih:=zfs w j;show zsq (step (pend w j))=_
  cases e:pend w j with
  | nil =>
   rw[e] at ih;have z:w.flat.drop j=[]:=ih.symm;rw[← yfi (i:=1),z];rfl
  | cons h t =>
   rw[e,zyu] at ih;show zsq (h.parts++t)=_
   have z:=congrArg (ykp 1) ih;rw[yfi] at z
   simpa using z
theorem zes (w:Wh)(j:Nat):zqn (pend w j)=w.size-j:=by
 have a:∀ws:List Wh,(zsq ws).length=zqn ws:=by
  intro ws
  induction ws with
  | nil=>rfl
  | cons x r ih =>
   have e1:zsq (x::r)=x.flat++zsq r:=(by simp[zsq]);have e2:zqn (x::r)=x.size+zqn r:=(by simp[zqn]);rw[e1,e2,yea,x.zqe,ih]
 rw[← a,zfs,yud,w.zqe]
theorem zcbb {w:Wh}{j:Nat}(h:j<w.size):Ex2 λx t=>pend w j=x::t:=by
 cases e:pend w j with
 | nil =>
  have z:=zes w j;rw[e] at z;have z':0=w.size-j:=z;omega
 | cons x t=>exact⟨x,t,rfl⟩
theorem zqv (w:Wh):pend w w.size=[]:=by
 cases e:pend w w.size with
 | nil=>rfl
 | cons x t =>
  have z:=zes w w.size;rw[e] at z;have p:=zehb (ws:=x::t) (by simp);omega
theorem zthb {w x:Wh}{t:List Wh}{j:Nat}(e:pend w j=x::t):w.flat[j]?=some (x.word,x.val):=by
 have z:=zfs w j;rw[e,zyu] at z;have q:(w.flat.drop j)[0]?=some (x.word,x.val):=by rw[← z];rfl
 rw[yff] at q
 simpa using q
theorem zshb {w:Wh}(h:w.ok):∀j,∀x∈pend w j,x.ok
 | 0=>λx hx=>by
  have e:x=w:=by simpa [pend] using hx
  rw[e];exact h
 | j+1=>λx hx=>by
  have ih:=zshb h j;cases e:pend w j with
  | nil =>
   have hx':x∈step (pend w j):=hx;rw[e] at hx';simp[step] at hx'
  | cons y t =>
   have hx':x∈step (pend w j):=hx;rw[e] at hx' ih
   rcases yeb.mp hx' with q|q
   ·exact Wh.zmlb (ih y yka) x q
   ·exact ih x (yna _ q)
def Wh.depth:Wh->Nat
 | .not a=>a.depth+1
 | .both a b=>max a.depth b.depth+1
 | .any a b=>max a.depth b.depth+1
 | _=>1
theorem Wh.zomb (w:Wh):w.depth≤w.size:=by
 induction w<;>simp[Wh.depth,Wh.size]<;>omega
theorem Wh.ztbb (w:Wh):∀p∈w.parts,p.depth+1≤w.depth:=by
 cases w<;>simp[Wh.parts,Wh.depth]<;>omega
theorem zmmb {α:Type}(l:List α):(l.map λx=>[x]).flatten=l:=by
 induction l with
 | nil=>rfl
 | cons x r ih=>rw[yva,ypd,ih];rfl
end Wm
namespace Wm
open PySem
def plain (w:Wh):Prop:=w.ok∧w.size≤9
structure Deed where
 each:Str
 kind:Str
 amt:Wv
 whom:Wh
def zdjb:List Str:=["each","one"]
def zqb:List Str:=["leave","hurt","gain","lack","lose","score","draw"]
def zdr:List Str:=["come","leave","hurt","gain","lack","lose","score","draw"]
def ztc:List Str:=["lose","score","draw"]
def changes:List Str:=["mute","steal","gain","lack","be","more","less","per"]
def sorts:List Str:=["hold","when","instead","may"]
inductive zqp:Str->Wv->Prop
 | leave:zqp "leave" .non
 | gain {n:Str}:zoe n->zqp "gain" (.name n)
 | lack {n:Str}:zoe n->zqp "lack" (.name n)
 | hurt {i:Nat}:i<1000->zqp "hurt" (.num i)
 | lose {i:Nat}:i<1000->zqp "lose" (.num i)
 | score {i:Nat}:i<1000->zqp "score" (.num i)
 | draw {i:Nat}:i<1000->zqp "draw" (.num i)
structure Deed.ok (d:Deed):Prop where
 each:d.each∈zdjb
 amt:zqp d.kind d.amt
 whom:plain d.whom
def Deed.words (d:Deed):List Str:=d.each::d.kind::(d.amt.words++d.whom.words)
inductive Hv where
 | v (x:Wv)|w (y:Wh)
def Hv.words:Hv->List Str
 | .v x=>x.words
 | .w y=>y.words
inductive zji:Str->Hv->Prop
 | mute:zji "mute" (.v .non)
 | steal:zji "steal" (.v .non)
 | gain {n:Str}:zoe n->zji "gain" (.v (.name n))
 | lack {n:Str}:zoe n->zji "lack" (.v (.name n))
 | be {i:Nat}:i<1000->zji "be" (.v (.num i))
 | more {i:Nat}:i<1000->zji "more" (.v (.num i))
 | less {i:Nat}:i<1000->zji "less" (.v (.num i))
 | per {y:Wh}:plain y->zji "per" (.w y)
inductive TurnOk:Str->Wv->Prop
 | none:TurnOk "none" .non
 | here:TurnOk "here" .non
 | less {i:Nat}:i<1000->TurnOk "less" (.num i)
 | more {i:Nat}:i<1000->TurnOk "more" (.num i)
 | as {n:Str}:n∈ztc->TurnOk "as" (.name n)
def turns:Str->List Str:=λk =>
 if k = "leave" then ["none","here"] else if k = "hurt" then ["none","here","less","more"] else if k = "gain" then ["none","here"] else if k = "lack" then ["none","here"]
 else ["none","less","more","as"]
inductive Rule where
 | hold (word:Str) (val:Hv) (whom:Wh)
 | wen (kind:Str) (whom:Wh) (deed:Deed)
 | instead (kind:Str) (whom:Wh) (word:Str) (val:Wv)
 | may (cost:Nat) (deed:Deed)
def Rule.ok:Rule->Prop
 | .hold w v y=>zji w v∧plain y
 | .wen k y d=>k∈zdr∧plain y∧d.ok
 | .instead k y w v=>k∈zqb∧plain y∧w∈turns k∧TurnOk w v
 | .may c d=>c<1000∧d.ok
def Rule.words:Rule->List Str
 | .hold w v y=>"hold" :: w::(v.words++y.words)
 | .wen k y d=>"when" :: k::(y.words++("do":Str)::d.words)
 | .instead k y w v=>"instead" :: k::(y.words++("do":Str)::w::v.words)
 | .may c d=>"may" :: toString (c:Int) :: "do" :: d.words
theorem zqp.kind {k:Str}{v:Wv}(h:zqp k v):k∈zqb:=by cases h<;>decide
theorem zji.word {k:Str}{v:Hv}(h:zji k v):k∈changes:=by cases h<;>decide
theorem Rule.zvd (r:Rule):r.words≠[]:=by cases r<;>exact yqb _ _
def zft (u:Str):Prop:=zfv u∧47∉u.cps.toList
theorem zns {n:Str}(h:zoe n):zft n:=⟨zxy h,λz=>absurd (h.2.2 47 z).1 (by decide)⟩
theorem zmm {i:Nat}(h:i<1000):zft (toString (i:Int):Str):=⟨zco h,λz=>absurd (zuy i h 47 z).1 (by decide)⟩
def goodW (u:Str):Bool:=!u.cps.toList.contains 32 && !u.cps.toList.contains 47&&decide (1≤u.length)&&decide (u.length≤8)
theorem zxi {u:Str}(h:goodW u=true):zft u:=by
 unfold goodW at h;rw[yec,yec,yec] at h;obtain⟨⟨⟨a,b⟩,c⟩,d⟩:=h;refine⟨⟨λz=>?_,of_decide_eq_true c,of_decide_eq_true d⟩,λz=>?_⟩
 ·rw[ynm.mpr z] at a;cases a
 ·rw[ynm.mpr z] at b;cases b
theorem zus {l:List Str}(h:l.all goodW=true){u:Str}(hu:u∈l):zft u:=zxi (ycf.mp h u hu)
theorem Wh.zkh {w:Wh}(h:w.ok):∀u∈w.words,zft u:=by
 induction w with
 | all=>intro u hu;exact zus (l:=["all"]) (by decide +kernel) hu
 | self=>intro u hu;exact zus (l:=["self"]) (by decide +kernel) hu
 | mine=>intro u hu;exact zus (l:=["mine"]) (by decide +kernel) hu
 | mark n =>
  intro u hu
  rcases yja.mp hu with rfl|hu
  ·exact zxi (by decide +kernel)
  ·rw[yia.mp hu];exact zns h
 | force i =>
  intro u hu
  rcases yja.mp hu with rfl|hu
  ·exact zxi (by decide +kernel)
  ·rw[yia.mp hu];exact zmm h
 | not a ih =>
  intro u hu
  rcases yja.mp hu with rfl|hu
  ·exact zxi (by decide +kernel)
  ·exact ih h u hu
 | both a b ia ib =>
  intro u hu
  rcases yja.mp hu with rfl|hu
  ·exact zxi (by decide +kernel)
  ·rcases yeb.mp hu with hu|hu
   ·exact ia h.1 u hu
   ·exact ib h.2 u hu
 | any a b ia ib =>
  intro u hu
  rcases yja.mp hu with rfl|hu
  ·exact zxi (by decide +kernel)
  ·rcases yeb.mp hu with hu|hu
   ·exact ia h.1 u hu
   ·exact ib h.2 u hu
theorem zqp.words {k:Str}{v:Wv}(h:zqp k v):∀u∈v.words,zft u:=by
 intro u hu;cases h with
 | leave=>cases hu
 | gain h=>rw[yia.mp hu];exact zns h
 | lack h=>rw[yia.mp hu];exact zns h
 | hurt h=>rw[yia.mp hu];exact zmm h
 | lose h=>rw[yia.mp hu];exact zmm h
 | score h=>rw[yia.mp hu];exact zmm h
 | draw h=>rw[yia.mp hu];exact zmm h
theorem TurnOk.words {k:Str}{v:Wv}(h:TurnOk k v):∀u∈v.words,zft u:=by
 intro u hu;cases h with
 | none=>cases hu
 | here=>cases hu
 | less h=>rw[yia.mp hu];exact zmm h
 | more h=>rw[yia.mp hu];exact zmm h
 | as h=>rw[yia.mp hu];exact zus (l:=ztc) (by decide +kernel) h
theorem TurnOk.word {k:Str}{v:Wv}(h:TurnOk k v):zft k:=by cases h<;>exact zxi (by decide +kernel)
theorem zji.words {k:Str}{v:Hv}(h:zji k v):∀u∈v.words,zft u:=by
 intro u hu;cases h with
 | mute=>cases hu
 | steal=>cases hu
 | gain h=>rw[yia.mp hu];exact zns h
 | lack h=>rw[yia.mp hu];exact zns h
 | be h=>rw[yia.mp hu];exact zmm h
 | more h=>rw[yia.mp hu];exact zmm h
 | less h=>rw[yia.mp hu];exact zmm h
 | per h=>exact Wh.zkh h.1 u hu
theorem Deed.zkh {d:Deed}(h:d.ok):∀u∈d.words,zft u:=by
 intro u hu
 rcases yja.mp hu with rfl|hu
 ·exact zus (l:=zdjb) (by decide +kernel) h.each
 rcases yja.mp hu with rfl|hu
 ·exact zus (l:=zqb) (by decide +kernel) h.amt.kind
 rcases yeb.mp hu with hu|hu
 ·exact h.amt.words u hu
 ·exact Wh.zkh h.whom.1 u hu
theorem Rule.zkh {r:Rule}(h:r.ok):∀u∈r.words,zft u:=by
 intro u hu;cases r with
 | hold w v y =>
  rcases yja.mp hu with rfl|hu
  ·exact zxi (by decide +kernel)
  rcases yja.mp hu with rfl|hu
  ·exact zus (l:=changes) (by decide +kernel) h.1.word
  rcases yeb.mp hu with hu|hu
  ·exact h.1.words u hu
  ·exact Wh.zkh h.2.1 u hu
 | wen k y d =>
  rcases yja.mp hu with rfl|hu
  ·exact zxi (by decide +kernel)
  rcases yja.mp hu with rfl|hu
  ·exact zus (l:=zdr) (by decide +kernel) h.1
  rcases yeb.mp hu with hu|hu
  ·exact Wh.zkh h.2.1.1 u hu
  rcases yja.mp hu with rfl|hu
  ·exact zxi (by decide +kernel)
  ·exact Deed.zkh h.2.2 u hu
 | instead k y w v =>
  rcases yja.mp hu with rfl|hu
  ·exact zxi (by decide +kernel)
  rcases yja.mp hu with rfl|hu
  ·exact zus (l:=zqb) (by decide +kernel) h.1
  rcases yeb.mp hu with hu|hu
  ·exact Wh.zkh h.2.1.1 u hu
  rcases yja.mp hu with rfl|hu
  ·exact zxi (by decide +kernel)
  rcases yja.mp hu with rfl|hu
  ·exact h.2.2.2.word
  ·exact h.2.2.2.words u hu
 | may c d =>
  rcases yja.mp hu with rfl|hu
  ·exact zxi (by decide +kernel)
  rcases yja.mp hu with rfl|hu
  ·exact zmm h.1
  rcases yja.mp hu with rfl|hu
  ·exact zxi (by decide +kernel)
  ·exact Deed.zkh h.2 u hu
end Wm
namespace Wm
open PySem PySem.StrLaws PySem.Builtin.Str
def SL:Str:=⟨#[32,47,32]⟩
theorem zbv {s sub:Str}{hi:Nat}:∀{cuts cuts':List Nat} {a f f':Nat},ChainG s sub hi a cuts f->(∀k,f≤k->¬ At s sub hi k)->ChainG s sub hi a cuts' f'->(∀k,f'≤k->¬ At s sub hi k)->cuts=cuts'
 | [],[],_,_,_,_,_,_,_=>rfl
 | [],c::r,a,f,f',h,n,h',n'=>by
  have e:f=a:=h;subst e;exact absurd h'.2.1 (n c h'.1)
 | c::r,[],a,f,f',h,n,h',n'=>by
  have e:f'=a:=h';subst e;exact absurd h.2.1 (n' c h.1)
 | c::r,c'::r',a,f,f',h,n,h',n'=>by
  rcases Nat.lt_trichotomy c c' with z|z|z
  ·exact absurd h.2.1 (h'.2.2.1 c h.1 z)
  ·subst z;rw[zbv h.2.2.2 n h'.2.2.2 n']
  ·exact absurd h'.2.1 (h.2.2.1 c' h'.1 z)
theorem znw (x:Str)(a b:Nat):(x.cps.extract a b).toList=(x.cps.toList.drop a).take (b-a):=by
 rw[Array.toList_extract,List.extract_eq_take_drop]
theorem zpnb {x:Str}{hi k:Nat}(h:At x SL hi k):x.cps.toList[k+1]?=some 47:=by
 have e:x.cps.extract k (k+3)=#[32,47,32]:=by
  have:=h.2;unfold subAt at this;exact beq_iff_eq.mp this
 have q:=congrArg (λz=>z.toList[1]?) e;simp only[znw] at q;rw[yzj (by omega),yff] at q;exact q
theorem at_of {x:Str}{pre r:List Nat}(e:x.cps.toList=pre++32::47::32::r):At x SL x.length pre.length:=by
 have hl:=congrArg yag e;rw[yea] at hl;simp only[yha,ybb] at hl;refine⟨?_,?_⟩
 ·show pre.length+3≤x.cps.size;omega
 ·unfold subAt;rw[beq_iff_eq];apply ymi.mp;rw[znw,e,yvj];show ((32::47::32::r:List Nat).take (pre.length+3-pre.length))=[32,47,32]
  rw[ydl];rfl
def jl3:List (List Nat)->List Nat
 | []=>[]
 | [p]=>p
 | p::q::r=>p++32::47::32::jl3 (q::r)
def cutsOf:Nat->List (List Nat)->List Nat
 | a,p::q::r=>(a+p.length)::cutsOf (a+p.length+3) (q::r)
 | _,_=>[]
def lastOf:Nat->List (List Nat)->Nat
 | a,p::q::r=>lastOf (a+p.length+3) (q::r)
 | a,_=>a
theorem zdtb:∀ws:List Str,(ysa SL ws).cps.toList=jl3 (ws.map λw=>w.cps.toList)
 | []=>rfl
 | [x]=>rfl
 | x::y::r=>by
  have e:ysa SL (x::y::r)=x++SL++ysa SL (y::r):=rfl;rw[e];show ((x.cps++SL.cps)++(ysa SL (y::r)).cps).toList=_
  rw[yeg,yeg,zdtb (y::r),yed];rfl
theorem zbnb {x:Str}{pre p r:List Nat}{b:Nat}(e:x.cps.toList=pre++(p++r))(hb:b=pre.length+p.length)(q:Str)(hq:q.cps.toList=p):strSub x pre.length b=q:=by
 obtain⟨c⟩:=q;have z:x.cps.extract pre.length b=c:=by
  apply ymi.mp;rw[znw,e,yvj,hb,ydl,List.take_left];exact hq.symm
 show (⟨x.cps.extract pre.length b⟩:Str)=⟨c⟩
 rw[z]
theorem zkeb {x:Str}:∀{ps:List Str} {pre:List Nat},ps≠[]->(∀p∈ps,47∉p.cps.toList)->x.cps.toList=pre++jl3 (ps.map λw=>w.cps.toList) →
  ChainG x SL x.length pre.length (cutsOf pre.length (ps.map λw=>w.cps.toList)) (lastOf pre.length (ps.map λw=>w.cps.toList))∧(∀k,lastOf pre.length (ps.map λw=>w.cps.toList)≤k->¬ At x SL x.length k)∧partsFrom x 3 pre.length (cutsOf pre.length (ps.map λw=>w.cps.toList))=ps
 | [],_,h,_,_=>absurd rfl h
 | [p],pre,_,hf,e=>by
  have e':x.cps.toList=pre++p.cps.toList:=e;refine⟨rfl,λk hk hA=>?_,?_⟩
  ·have hk':pre.length≤k:=hk;have m:=zpnb hA;rw[e',ywb (by omega)] at m;exact hf p (yia.mpr rfl) (ykb m)
  ·show [strSub x pre.length x.length]=[p];rw[zbnb (r:=[]) (by rw[ytb];exact e') ?_ p rfl];have hl:=congrArg yag e';rw[yea,ybb] at hl;exact hl
 | p::q::r,pre,_,hf,e=>by
  have e':x.cps.toList=pre++(p.cps.toList++32::47::32::jl3 ((q::r).map λw=>w.cps.toList)):=e;have e1:x.cps.toList=(pre++p.cps.toList)++32::47::32::jl3 ((q::r).map λw=>w.cps.toList):=by rw[e',yed]
  have e2:x.cps.toList=(pre++p.cps.toList++[32,47,32])++jl3 ((q::r).map λw=>w.cps.toList):=by rw[e1,yed (pre++p.cps.toList)];rfl
  obtain⟨c1,c2,c3⟩:=zkeb (ps:=q::r) (pre:=pre++p.cps.toList++[32,47,32]) (yqb _ _) (λy hy=>hf y (yna _ hy)) e2;have el:(pre++p.cps.toList++[32,47,32]).length=pre.length+p.cps.toList.length+3:=by
   rw[yea,yea];rfl
  rw[el] at c1 c2 c3;have eA:=at_of e1;rw[yea] at eA;refine⟨⟨Nat.le_add_right _ _,eA,λk h1 h2 hA=>?_,c1⟩,c2,?_⟩
  ·have m:=zpnb hA
   rcases ygf (k+1) (pre.length+p.cps.toList.length) with z|z
   ·rw[e',ywb (by omega),yzd (by omega)] at m;exact hf p yka (ykb m)
   ·have h2':k<pre.length+p.cps.toList.length:=h2;have ek:k+1=(pre++p.cps.toList).length:=(by rw[yea];omega);rw[e1,ek,ywb (yma _),yli] at m;exact absurd m (by simp)
  ·show strSub x pre.length (pre.length+p.cps.toList.length)::partsFrom x 3 (pre.length+p.cps.toList.length+3) (cutsOf (pre.length+p.cps.toList.length+3) ((q::r).map λw=>w.cps.toList))=p::q::r;rw[c3,zbnb e' rfl p rfl]
theorem zjrb {ps:List Str}(hne:ps≠[])(hf:∀p∈ps,47∉p.cps.toList):yte (ysa SL ps) SL=ps:=by
 obtain⟨f,hG,hn⟩:=occ_tight (ysa SL ps) SL (by decide);obtain⟨c1,c2,c3⟩:=zkeb (x:=ysa SL ps) (ps:=ps) (pre:=[]) hne hf (zdtb ps);have u:=zbv hG hn c1 c2;unfold yte;rw[u];have one:cutsOf ([]:List Nat).length (ps.map λw=>w.cps.toList)=[]->[ysa SL ps]=ps:=λz=>by
  cases ps with
  | nil=>exact absurd rfl hne
  | cons p r =>
   cases r with
   | nil=>rfl
   | cons q r=>cases z
 split
 ·rename_i hc;rw[Bool.or_eq_true,decide_eq_true_eq,decide_eq_true_eq] at hc;apply one
  rcases hc with h|h
  ·cases hcut:cutsOf ([]:List Nat).length (ps.map λw=>w.cps.toList) with
   | nil=>rfl
   | cons c r =>
    rw[hcut] at c1;have:=c1.2.1.1;omega
  ·exfalso;have ek:ygh SL=1:=(by decide +kernel);rw[ek] at h;unfold ygh at h
   split at h
   ·omega
   ·split at h
    ·omega
    ·omega
 ·split
  ·rename_i he;exact one (List.isEmpty_iff.mp he)
  ·rw[partsBetween_eq];exact c3
end Wm
namespace Wm
open PySem PySem.Spec PyProof.Rows
def leS (a b:Str):Prop:=a.cps.toList≤b.cps.toList
theorem zvsb {a b:Str}(h:ltCps b.cps.toList a.cps.toList=false):leS a b:=by
 rw[ltCps_eq] at h;exact yhp.mp (of_decide_eq_false h)
theorem zfib {a b c:Str}(h:leS a b)(g:leS b c):leS a c:=List.le_trans h g
theorem zxlb {a b:Str}(h:leS a b)(g:leS b a):a=b:=by
 have e:=yuo h g;obtain⟨x⟩:=a;obtain⟨y⟩:=b;rw[show x=y from ymi.mp e]
theorem zcy:∀(p:Str) (l:List Str),risingS p l=true->(p::l).Pairwise leS
 | p,[],_=>yje _ _
 | p,x::r,h=>by
  have h':(!ltCps x.cps.toList p.cps.toList&&risingS x r)=true:=h;rw[yec] at h';have h1:leS p x:=zvsb (by have:=h'.1;revert this;cases ltCps x.cps.toList p.cps.toList<;>simp);have h2:=zcy x r h'.2;rw[yvn];refine⟨λb hb=>?_,h2⟩
  rcases yja.mp hb with rfl|hb
  ·exact h1
  ·exact zfib h1 ((yvn.mp h2).1 b hb)
theorem zux:∀{l:List Str},yen l=true->l.Pairwise leS
 | [],_=>.nil
 | x::r,h=>zcy x r h
theorem zvab {xs ys:List Str}(hp:xs.Perm ys)(hx:yen xs=true)(hy:yen ys=true):xs=ys :=
 ymk (le:=leS) (λ_ _ _ _ h g=>zxlb h g) (zux hx) (zux hy) hp
theorem zjeb {xs:List Str}(h:xs.Nodup):SSet.dd xs=xs:=by
 have key:∀n,n≤xs.length->SSet.dd (xs.take n)=xs.take n:=by
  intro n
  induction n with
  | zero=>intro _;rfl
  | succ n ih =>
   intro hn;have hlt:n<xs.length:=hn;rw[yjb,yqa hlt];show SSet.dd (xs.take n++[xs[n]])=xs.take n++[xs[n]]
   rw[SSet.zubb,ih (by omega),if_neg];intro hm;obtain⟨i,hi,e⟩:=List.getElem_of_mem hm;rw[yib] at hi;rw[List.getElem_take] at e;exact (yzg.mp h) i n (by omega) hlt (by omega) e
 have:=key xs.length (yma _)
 rwa [yhl] at this
structure Marks (ms:List Str):Prop where
 ok:∀m∈ms,zoe m
 nd:ms.Nodup
 so:yen ms=true
 le:ms.length≤20
theorem Marks.same {ms ys:List Str}(h:Marks ms)(hp:ys.Perm (SSet.dd ms))(hs:yen ys=true):ys=ms:=by
 rw[zjeb h.nd] at hp;exact zvab hp hs h.so
def CM:Str:=⟨#[44]⟩
def zvi:List Str->Str
 | []=>"-"
 | m::r=>ysa CM (m::r)
theorem zap {c:Nat}:∀{ws:List Str} {d:Nat},d∈(ysa ⟨#[c]⟩ ws).cps.toList->d=c∨∃w∈ws,d∈w.cps.toList
 | [],d,h=>by cases h
 | [x],d,h=>.inr ⟨x,yia.mpr rfl,h⟩
 | x::y::r,d,h=>by
  have e:ysa ⟨#[c]⟩ (x::y::r)=x++⟨#[c]⟩++ysa ⟨#[c]⟩ (y::r):=rfl;rw[e] at h;have h':d∈((x.cps++#[c])++(ysa ⟨#[c]⟩ (y::r)).cps).toList:=h;rw[yeg,yeg] at h'
  rcases yeb.mp h' with h'|h'
  ·rcases yeb.mp h' with h'|h'
   ·exact .inr ⟨x,yka,h'⟩
   ·exact .inl (yia.mp h')
  ·rcases zap h' with z|⟨w,hw,z⟩
   ·exact .inl z
   ·exact .inr ⟨w,yna _ hw,z⟩
theorem zfl {ms:List Str}(h:Marks ms)(hne:ms≠[]):∀d∈(zvi ms).cps.toList,d=44∨(97≤d∧d≤122):=by
 cases ms with
 | nil=>exact absurd rfl hne
 | cons m r =>
  intro d hd
  rcases zap (c:=44) hd with z|⟨w,hw,z⟩
  ·exact .inl z
  ·exact .inr ((h.ok w hw).2.2 d z)
theorem zbib {ms:List Str}(h:Marks ms)(hne:ms≠[]):zvi ms ≠ "-":=by
 intro z;have:=zfl h hne 45 (by rw[z];decide +kernel);omega
theorem zzo {ms:List Str}(h:Marks ms):1≤(zvi ms).length∧(zvi ms).length≤180:=by
 cases ms with
 | nil=>exact⟨by decide,by decide⟩
 | cons m r =>
  have a:=zyl CM (m::r);have c:=zsp (l:=(m::r).map (·.length)) (k:=8) (λx hx=>by
   obtain⟨u,hu,rfl⟩:=ydb.mp hx;exact (h.ok u hu).2.1)
  rw[yda] at c;have e:CM.length=1:=rfl;rw[e] at a;have l:=h.le;refine⟨?_,?_⟩
  ·have m1:=(h.ok m yka).1;cases r with
   | nil=>exact m1
   | cons y r =>
    have e2:ysa CM (m::y::r)=m++CM++ysa CM (y::r):=rfl;show 1≤(ysa CM (m::y::r)).length
    rw[e2];show 1≤((m.cps++CM.cps)++(ysa CM (y::r)).cps).size
    rw[ynk,ynk];have:m.length=m.cps.size:=rfl;omega
  ·show (ysa CM (m::r)).length≤180;omega
theorem zlbb {ms:List Str}(h:Marks ms)(hne:ms≠[]):yte (zvi ms) CM=ms:=by
 cases ms with
 | nil=>exact absurd rfl hne
 | cons m r=>exact zro (c:=44) (yqb _ _) (λw hw z=>absurd ((h.ok w hw).2.2 44 z).1 (by decide))
structure Crd where
 name:Str
 cost:Nat
 force:Nat
 marks:List Str
 rules:List Rule
structure Crd.ok (c:Crd):Prop where
 name:zoe c.name
 cost:c.cost<1000
 force:c.force<1000
 marks:Marks c.marks
 rules:∀r∈c.rules,r.ok
 few:c.rules.length≤3
def Crd.head (c:Crd):List Str:=[c.name,toString (c.cost:Int),toString (c.force:Int),zvi c.marks]
def zve (r:Rule):Str:=ysa " " r.words
def Crd.text (c:Crd):Str:=ysa SL (ysa " " c.head::c.rules.map zve)
theorem zlz {c d:Nat}{ws:List Str}(h:∀w∈ws,d∉w.cps.toList)(n:d≠c):d∉(ysa ⟨#[c]⟩ ws).cps.toList:=λz=>by
 rcases zap z with e|⟨w,hw,z⟩
 ·exact n e
 ·exact h w hw z
theorem zmbb {ms:List Str}(h:Marks ms):32∉(zvi ms).cps.toList∧47∉(zvi ms).cps.toList:=by
 by_cases e:ms=[]
 ·subst e;exact⟨by decide,by decide⟩
 ·exact⟨λz=>by have:=zfl h e 32 z;omega,λz=>by have:=zfl h e 47 z;omega⟩
theorem Crd.zkz {c:Crd}(h:c.ok):∀u∈c.head,32∉u.cps.toList∧47∉u.cps.toList:=by
 intro u hu;simp only[Crd.head,yja,ycd,or_false] at hu
 rcases hu with rfl|rfl|rfl|rfl
 ·exact⟨(zns h.name).1.1,(zns h.name).2⟩
 ·exact⟨(zmm h.cost).1.1,(zmm h.cost).2⟩
 ·exact⟨(zmm h.force).1.1,(zmm h.force).2⟩
 ·exact zmbb h.marks
theorem Crd.zxfb {c:Crd}(h:c.ok):yte (ysa " " c.head) " " = c.head:=zro (c:=32) (yqb _ _) (λu hu=>(Crd.zkz h u hu).1)
theorem Crd.zgw {c:Crd}(h:c.ok):(ysa " " c.head).length≤300:=by
 have a:=zyl " " c.head;have c':=zsp (l:=c.head.map (·.length)) (k:=180) (λx hx=>by
  obtain⟨u,hu,rfl⟩:=ydb.mp hx;simp only[Crd.head,yja,ycd,or_false] at hu
  rcases hu with rfl|rfl|rfl|rfl
  ·have:=h.name.2.1;omega
  ·have:=(zxo _ h.cost).2;omega
  ·have:=(zxo _ h.force).2;omega
  ·exact (zzo h.marks).2)
 have e:(" ":Str).length=1:=rfl;rw[e] at a;have s:(c.head.map (·.length)).sum=c.name.length+((toString (c.cost:Int):Str).length+((toString (c.force:Int):Str).length+((zvi c.marks).length+0))):=rfl;have hl:c.head.length=4:=rfl;rw[s,hl] at a;have b1:=h.name.2.1;have b2:=(zxo _ h.cost).2;have b3:=(zxo _ h.force).2;have b4:=(zzo h.marks).2;omega
theorem Crd.split {c:Crd}(h:c.ok):yte c.text SL=ysa " " c.head::c.rules.map zve:=by
 refine zjrb (yqb _ _) λp hp=>?_
 rcases yja.mp hp with rfl|hp
 ·exact zlz (λu hu=>(Crd.zkz h u hu).2) (by decide)
 ·obtain⟨r,hr,rfl⟩:=ydb.mp hp;exact zlz (λu hu=>(Rule.zkh (h.rules r hr) u hu).2) (by decide)
end Wm
namespace Wm
open PySem PySem.Spec PyProof.Rows
end Wm
namespace K22
open PySem L2 PyProof.Rows Wm
variable {P:ypb}{w:World}{K:yba}{mg:Str->Option Value}{base:Heap}
def top (i:Nat):Stmt:=PySem.Challenge.pw_turnstack_k22_whole_it_ends.main.body.getD i (.Pass ⟨0,0,0,0⟩)
abbrev zby:Stmt:=top 8
abbrev zyjb:List Str:=["word"]
abbrev zkt:List Str:=["word"]
theorem zgfb:zya zyjb zkt (zla zby):=scOf (by decide +kernel)
abbrev ztr:Stmt:=top 9
abbrev zucb:List Str:=["word"]
abbrev zcn:List Str:=["word"]
theorem zyx:zya zucb zcn (zla ztr):=scOf (by decide +kernel)
abbrev zku:Stmt:=top 10
abbrev zigb:List Str:=["word","most"]
abbrev zlp:List Str:=["word","most"]
theorem zxab:zya zigb zlp (zla zku):=scOf (by decide +kernel)
abbrev zlh:Stmt:=inClass (top 11) 0
abbrev zyq:List Str:=["self","text"]
abbrev zph:List Str:=["self","text"]
theorem zso:zya zyq zph (zla zlh):=scOf (by decide +kernel)
abbrev zal:Stmt:=inClass (top 11) 1
abbrev znab:List Str:=["self"]
abbrev zsl:List Str:=["self"]
theorem znv:zya znab zsl (zla zal):=scOf (by decide +kernel)
abbrev zif:Stmt:=inClass (top 11) 2
abbrev zkn:List Str:=["self","known","word"]
abbrev zlf:List Str:=["self","known"]
theorem zqh:zya zkn zlf (zla zif):=scOf (by decide +kernel)
abbrev zkg:Stmt:=inClass (top 11) 3
abbrev znp:List Str:=["self","word"]
abbrev zqg:List Str:=["self"]
theorem zqi:zya znp zqg (zla zkg):=scOf (by decide +kernel)
abbrev zjf:Stmt:=inClass (top 11) 4
abbrev zln:List Str:=["self","word"]
abbrev zmf:List Str:=["self"]
theorem zrh:zya zln zmf (zla zjf):=scOf (by decide +kernel)
abbrev zdj:Stmt:=inClass (top 11) 5
abbrev zdu:List Str:=["self"]
abbrev zkj:List Str:=["self"]
theorem zkr:zya zdu zkj (zla zdj):=scOf (by decide +kernel)
abbrev zxh:Stmt:=inClass (top 12) 0
abbrev znt:List Str:=["self","word","value","parts"]
abbrev zgi:List Str:=["self","word","value","parts"]
theorem zpq:zya znt zgi (zla zxh):=scOf (by decide +kernel)
abbrev zlm:Stmt:=inClass (top 12) 2
abbrev zbdb:List Str:=["self","sight","number","keeper","thing"]
abbrev zin:List Str:=["self","sight","number","keeper","thing"]
theorem zzx:zya zbdb zin (zla zlm):=scOf (by decide +kernel)
abbrev zwh:Stmt:=inClass (top 12) 3
abbrev zmt:List Str:=["self","row","number","keeper","thing"]
abbrev zqd:List Str:=["self","row","number","keeper","thing"]
theorem zoq:zya zmt zqd (zla zwh):=scOf (by decide +kernel)
abbrev zlg:Stmt:=inClass (top 12) 4
abbrev zop:List Str:=["self","row","number","keeper","thing","first"]
abbrev zse:List Str:=["self","row","number","keeper","thing"]
theorem zri:zya zop zse (zla zlg):=scOf (by decide +kernel)
abbrev zmdb:Stmt:=top 13
abbrev zxmb:List Str:=["sight","thing","row"]
abbrev zax:List Str:=["sight","thing"]
theorem zwx:zya zxmb zax (zla zmdb):=scOf (by decide +kernel)
abbrev zlr:Stmt:=top 14
abbrev zmcb:List Str:=["words","taken","missing","word"]
abbrev zum:List Str:=["words"]
theorem zxg:zya zmcb zum (zla zlr):=scOf (by decide +kernel)
abbrev zwp:Stmt:=top 15
abbrev zfab:List Str:=["words","word"]
abbrev zml:List Str:=["words","word"]
theorem zmv:zya zfab zml (zla zwp):=scOf (by decide +kernel)
abbrev zihb:Stmt:=top 16
abbrev ztqb:List Str:=["taken","whoms","word","value","many"]
abbrev zlcb:List Str:=["taken"]
theorem zvl:zya ztqb zlcb (zla zihb):=scOf (by decide +kernel)
abbrev zay:Stmt:=top 18
abbrev zxjb:List Str:=["lying","number","place","rules"]
abbrev zjt:List Str:=["lying","number","place"]
theorem ziu:zya zxjb zjt (zla zay):=scOf (by decide +kernel)
abbrev zndb:Stmt:=top 20
abbrev zymb:List Str:=["ways","choices"]
abbrev zbx:List Str:=["ways","choices"]
theorem zghb:zya zymb zbx (zla zndb):=scOf (by decide +kernel)
abbrev zwn:Stmt:=top 21
abbrev zdx:List Str:=["lying","sight","sort","happening","kind","thing","amount","found","number","card","owner","came","marks","keeper","place","rule"]
abbrev zjk:List Str:=["lying","sight","sort","happening"]
theorem zvb:zya zdx zjk (zla zwn):=scOf (by decide +kernel)
abbrev zpr:Stmt:=top 22
abbrev zqcb:List Str:=["lying","sight","happening","used","meant"]
abbrev zym:List Str:=["lying","sight","happening","used"]
theorem zup:zya zqcb zym (zla zpr):=scOf (by decide +kernel)
abbrev zldb:Stmt:=top 23
abbrev zwmb:List Str:=["happening","word","value","number","kind","thing","amount"]
abbrev zzw:List Str:=["happening","word","value","number"]
theorem zrn:zya zwmb zzw (zla zldb):=scOf (by decide +kernel)
abbrev zsr:Stmt:=top 24
abbrev ztcb:List Str:=["sight","thing"]
abbrev zbn:List Str:=["sight","thing"]
theorem zxx:zya ztcb zbn (zla zsr):=scOf (by decide +kernel)
abbrev zdm:Stmt:=top 25
abbrev zcu:List Str:=["lying","sight","happening","choices","trail","used","left","rules","player","way","came","number","place","rule"]
abbrev zjj:List Str:=["lying","sight","happening","choices"]
theorem zmb:zya zcu zjj (zla zdm):=scOf (by decide +kernel)
abbrev zyh:Stmt:=inClass (top 34) 0
abbrev zot:List Str:=["self","name","cost","force","marks","rules"]
abbrev zii:List Str:=["self","name","cost","force","marks","rules"]
theorem zqq:zya zot zii (zla zyh):=scOf (by decide +kernel)
abbrev zrr:Stmt:=top 35
abbrev zscb:List Str:=["text","texts","words","name","cost","force","marks"]
abbrev zan:List Str:=["text"]
theorem zke:zya zscb zan (zla zrr):=scOf (by decide +kernel)
abbrev zxp:Stmt:=top 36
abbrev zgab:List Str:=["word","marks"]
abbrev znl:List Str:=["word"]
theorem ztn:zya zgab znl (zla zxp):=scOf (by decide +kernel)
abbrev zqr:Stmt:=top 37
abbrev zrcb:List Str:=["text","words","first","rule"]
abbrev zzm:List Str:=["text"]
theorem zje:zya zrcb zzm (zla zqr):=scOf (by decide +kernel)
abbrev znr:Stmt:=top 38
abbrev zocb:List Str:=["words","word","value","whom"]
abbrev zwm:List Str:=["words"]
theorem zli:zya zocb zwm (zla znr):=scOf (by decide +kernel)
abbrev zvh:Stmt:=top 39
abbrev zjn:List Str:=["words","word"]
abbrev zkf:List Str:=["words","word"]
theorem zzl:zya zjn zkf (zla zvh):=scOf (by decide +kernel)
abbrev zmr:Stmt:=top 40
abbrev zncb:List Str:=["words","kind","whom"]
abbrev zvm:List Str:=["words"]
theorem zyk:zya zncb zvm (zla zmr):=scOf (by decide +kernel)
abbrev zcm:Stmt:=top 41
abbrev zbu:List Str:=["words","kind","whom","word"]
abbrev zij:List Str:=["words"]
theorem zxf:zya zbu zij (zla zcm):=scOf (by decide +kernel)
abbrev zmj:Stmt:=top 42
abbrev zmp:List Str:=["words","word"]
abbrev zng:List Str:=["words","word"]
theorem zsn:zya zmp zng (zla zmj):=scOf (by decide +kernel)
abbrev zju:Stmt:=top 43
abbrev zggb:List Str:=["words","cost"]
abbrev zkp:List Str:=["words"]
theorem zjr:zya zggb zkp (zla zju):=scOf (by decide +kernel)
abbrev zor:Stmt:=top 44
abbrev zpcb:List Str:=["words","each","kind","amount","whom"]
abbrev zxm:List Str:=["words"]
theorem zyg:zya zpcb zxm (zla zor):=scOf (by decide +kernel)
abbrev zvn:Stmt:=top 45
abbrev zcx:List Str:=["words","kind"]
abbrev zik:List Str:=["words","kind"]
theorem zrt:zya zcx zik (zla zvn):=scOf (by decide +kernel)
abbrev zzr:Stmt:=top 52
abbrev zadb:List Str:=["_law_script","_law_k","_law_seed","_law_mixed"]
abbrev zgn:List Str:=["_law_script","_law_k"]
theorem zpi:zya zadb zgn (zla zzr):=scOf (by decide +kernel)
abbrev zxr:Stmt:=top 53
abbrev zycb:List Str:=["_law_pen","_law_most","_law_cell_here"]
abbrev zfn:List Str:=["_law_pen","_law_most"]
theorem zvp:zya zycb zfn (zla zxr):=scOf (by decide +kernel)
abbrev zbq:Stmt:=top 54
abbrev zlab:List Str:=["_law_pen","_law_letters","_law_base","_law_at","_law_first"]
abbrev zql:List Str:=["_law_pen"]
theorem zzf:zya zlab zql (zla zbq):=scOf (by decide +kernel)
abbrev zzn:Stmt:=top 55
abbrev zgx:List Str:=["_law_pen"]
abbrev zmk:List Str:=["_law_pen"]
theorem ztt:zya zgx zmk (zla zzn):=scOf (by decide +kernel)
abbrev zur:Stmt:=top 56
abbrev zvcb:List Str:=["_law_pen","_law_names_here","_law_left","_law_way","_law_half","_law_one"]
abbrev zog:List Str:=["_law_pen","_law_names_here","_law_left"]
theorem zmi:zya zvcb zog (zla zur):=scOf (by decide +kernel)
abbrev zyp:Stmt:=top 57
abbrev ziab:List Str:=["_law_whom_here","_law_words_here","_law_part"]
abbrev zqf:List Str:=["_law_whom_here"]
theorem zyj:zya ziab zqf (zla zyp):=scOf (by decide +kernel)
abbrev zyr:Stmt:=top 58
abbrev zzcb:List Str:=["_law_whom_here","_law_sight","_law_number","_law_keeper_here","_law_thing","_law_rows","_law_one","_law_other"]
abbrev zpg:List Str:=["_law_whom_here","_law_sight","_law_number","_law_keeper_here","_law_thing"]
theorem zoi:zya zzcb zpg (zla zyr):=scOf (by decide +kernel)
abbrev zvr:Stmt:=top 59
abbrev zwcb:List Str:=["_law_pen","_law_kind","_law_some"]
abbrev zdn:List Str:=["_law_pen","_law_kind"]
theorem zzg:zya zwcb zdn (zla zvr):=scOf (by decide +kernel)
abbrev zaq:Stmt:=top 60
abbrev zkab:List Str:=["_law_pen","_law_names_here","_law_kinds","_law_rules_here","_law_k","_law_kind","_law_whom_here"]
abbrev zpl:List Str:=["_law_pen","_law_names_here","_law_kinds"]
theorem zyf:zya zkab zpl (zla zaq):=scOf (by decide +kernel)
abbrev zwr:Stmt:=top 61
abbrev zxcb:List Str:=["_law_name","_law_rules_here","_law_parts","_law_rule","_law_words_here"]
abbrev zen:List Str:=["_law_name","_law_rules_here"]
theorem zni:zya zxcb zen (zla zwr):=scOf (by decide +kernel)
abbrev zzp:Stmt:=top 62
abbrev zjab:List Str:=["_law_pen","_law_names_here","_law_kinds","_law_cards","_law_sight","_law_number","_law_first","_law_k","_law_rules_here","_law_marks","_law_came","_law_keeper_here","_law_force"]
abbrev zol:List Str:=["_law_pen","_law_names_here","_law_kinds"]
theorem zec:zya zjab zol (zla zzp):=scOf (by decide +kernel)
abbrev zcq:Stmt:=top 63
abbrev zmab:List Str:=["_law_cards","_law_name","_law_turn_here","_law_rows","_law_number","_law_rules_here","_law_came","_law_marks"]
abbrev zrl:List Str:=["_law_cards","_law_name","_law_turn_here"]
theorem zpe:zya zmab zrl (zla zcq):=scOf (by decide +kernel)
abbrev znk:Stmt:=top 64
abbrev zwq:List Str:=["_law_pen","_law_kinds","_law_cards","_law_names_here","_law_kind","_law_amount"]
abbrev znh:List Str:=["_law_pen","_law_kinds","_law_cards","_law_names_here"]
theorem zed:zya zwq znh (zla znk):=scOf (by decide +kernel)
abbrev zyn:Stmt:=top 65
abbrev zfx:List Str:=["_law_sight","_law_number"]
abbrev zlk:List Str:=["_law_sight","_law_number"]
theorem zst:zya zfx zlk (zla zyn):=scOf (by decide +kernel)
abbrev zpk:Stmt:=top 66
abbrev zxq:List Str:=["_law_cards","_law_sight","_law_happening_here","_law_used","_law_found","_law_number","_law_rules_here","_law_came","_law_marks","_law_keeper_here","_law_place","_law_rule"]
abbrev zoh:List Str:=["_law_cards","_law_sight","_law_happening_here","_law_used"]
theorem zbc:zya zxq zoh (zla zpk):=scOf (by decide +kernel)
abbrev zzk:Stmt:=top 67
abbrev zlt:List Str:=["_law_cards","_law_kinds_of_here","_law_number","_law_rules_here","_law_came","_law_marks","_law_place"]
abbrev zfi:List Str:=["_law_cards"]
theorem zyc:zya zlt zfi (zla zzk):=scOf (by decide +kernel)
abbrev zxn:Stmt:=top 68
abbrev zex:List Str:=["_law_lying_here","_law_sight","_law_cards","_law_happening_here","_law_choices","_law_trail","_law_last","_law_left","_law_kinds_of_here","_law_used","_law_now","_law_taken","_law_player","_law_number","_law_place","_law_behind_it","_law_some"]
abbrev zkk:List Str:=["_law_lying_here","_law_sight","_law_cards","_law_happening_here","_law_choices"]
theorem znb:zya zex zkk (zla zxn):=scOf (by decide +kernel)
abbrev zurb:Stmt:=top 69
abbrev zbvb:List Str:=["_law_script","_law_pen","_law_names_here","_law_kinds","_law_cards","_law_sight","_law_lying_here","_law_happening_here","_law_first","_law_k","_law_choices","_law_trail"]
abbrev zwtb:List Str:=["_law_script"]
theorem zlj:zya zbvb zwtb (zla zurb):=scOf (by decide +kernel)
abbrev zgt:Str:="abcdefghijklmnopqrstuvwxyz"
abbrev zit:Str:="0123456789"
abbrev zqt:List (Str×ysp):=[("all",.flat (.int 0)),("self",.flat (.int 0)),("mine",.flat (.int 0)),("mark",.flat (.int 0)),("force",.flat (.int 0)),("not",.flat (.int 1)),("both",.flat (.int 2)),("any",.flat (.int 2))]
abbrev zcdb:List (Str×ysp):=[("leave",.tup ((["none","here"]:List Str).map PyData.str)),("hurt",.tup ((["none","here","less","more"]:List Str).map PyData.str)),("gain",.tup ((["none","here"]:List Str).map PyData.str)),("lack",.tup ((["none","here"]:List Str).map PyData.str)),("lose",.tup ((["none","less","more","as"]:List Str).map PyData.str)),("score",.tup ((["none","less","more","as"]:List Str).map PyData.str)),("draw",.tup ((["none","less","more","as"]:List Str).map PyData.str))]
theorem onlZ {m:List Value->Prop}(h:m [])(us:List Value)(hl:us.length=0):m us:=by rw[yhe.mp hl];exact h
theorem onlS {m:List Value->Prop}{k:Nat}(h:∀a,∀us,us.length=k->m (a::us))(us:List Value)(hl:us.length=k+1):m us:=by
 obtain⟨a,t,rfl⟩:=List.exists_cons_of_length_eq_add_one hl;exact h a t (Nat.succ.inj hl)
@[elab_as_elim] theorem onl1 {m:List Value->Prop} (h:∀a,m [a]) (us:List Value) (hl:us.length=1):m us:=(onlS (m:=λt=>m (t)) λa=>onlZ (h a)) us hl
@[elab_as_elim] theorem onl2 {m:List Value->Prop} (h:∀a b,m [a,b]) (us:List Value) (hl:us.length=2):m us:=(onlS (m:=λt=>m (t)) λa=>onlS (m:=λt=>m (a::t)) λb=>onlZ (h a b)) us hl
@[elab_as_elim] theorem onl3 {m:List Value->Prop} (h:∀a b c,m [a,b,c]) (us:List Value) (hl:us.length=3):m us:=(onlS (m:=λt=>m (t)) λa=>onlS (m:=λt=>m (a::t)) λb=>onlS (m:=λt=>m (a::b::t)) λc=>onlZ (h a b c)) us hl
@[elab_as_elim] theorem onl4 {m:List Value->Prop} (h:∀a b c d,m [a,b,c,d]) (us:List Value) (hl:us.length=4):m us:=(onlS (m:=λt=>m (t)) λa=>onlS (m:=λt=>m (a::t)) λb=>onlS (m:=λt=>m (a::b::t)) λc=>onlS (m:=λt=>m (a::b::c::t)) λd=>onlZ (h a b c d)) us hl
@[elab_as_elim] theorem onl5 {m:List Value->Prop} (h:∀a b c d e,m [a,b,c,d,e]) (us:List Value) (hl:us.length=5):m us:=(onlS (m:=λt=>m (t)) λa=>onlS (m:=λt=>m (a::t)) λb=>onlS (m:=λt=>m (a::b::t)) λc=>onlS (m:=λt=>m (a::b::c::t)) λd=>onlS (m:=λt=>m (a::b::c::d::t)) λe=>onlZ (h a b c d e)) us hl
@[elab_as_elim] theorem onl6 {m:List Value->Prop} (h:∀a b c d e f,m [a,b,c,d,e,f]) (us:List Value) (hl:us.length=6):m us:=(onlS (m:=λt=>m (t)) λa=>onlS (m:=λt=>m (a::t)) λb=>onlS (m:=λt=>m (a::b::t)) λc=>onlS (m:=λt=>m (a::b::c::t)) λd=>onlS (m:=λt=>m (a::b::c::d::t)) λe=>onlS (m:=λt=>m (a::b::c::d::e::t)) λf=>onlZ (h a b c d e f)) us hl
set_option genInjectivity false in
set_option genSizeOf false in
structure Tf (K:yba)(mg:Str->Option Value) where
 zuf:Gf K mg "is_name" "is_name" zby
 zcf:Gf K mg "is_number" "is_number" ztr
 zjg:Gf K mg "is_whole" "is_whole" zku
 ztf:Gf K mg "row_of" "row_of" zmdb
 zfc:Gf K mg "take_whom" "take_whom" zlr
 zce:Gf K mg "take_value" "take_value" zwp
 zim:Gf K mg "built" "built" zihb
 zuh:Gf K mg "rule_of" "rule_of" zay
 zwj:Gf K mg "chosen" "chosen" zndb
 ztd:Gf K mg "rules_meant" "rules_meant" zwn
 zsc:Gf K mg "rules_for" "rules_for" zpr
 zvj:Gf K mg "turned" "turned" zldb
 zbf:Gf K mg "player_of" "player_of" zsr
 znd:Gf K mg "put_in_place" "put_in_place" zdm
 zaf:Gf K mg "read_card" "read_card" zrr
 zde:Gf K mg "read_marks" "read_marks" zxp
 zze:Gf K mg "read_rule" "read_rule" zqr
 zye:Gf K mg "take_hold" "take_hold" znr
 zgc:Gf K mg "take_change_value" "take_change_value" zvh
 zxe:Gf K mg "take_when" "take_when" zmr
 zmd:Gf K mg "take_instead" "take_instead" zcm
 zrc:Gf K mg "take_turn_value" "take_turn_value" zmj
 zig:Gf K mg "take_may" "take_may" zju
 zrd:Gf K mg "take_deed" "take_deed" zor
 zsd:Gf K mg "take_amount" "take_amount" zvn
 zff:Gf K mg "_law_cell" "_law_cell" zzr
 zea:Gf K mg "_law_take" "_law_take" zxr
 zge:Gf K mg "_law_names" "_law_names" zbq
 zmc:Gf K mg "_law_figure" "_law_figure" zzn
 zrb:Gf K mg "_law_whom" "_law_whom" zur
 zpb:Gf K mg "_law_words" "_law_words" zyp
 zxb:Gf K mg "_law_fits" "_law_fits" zyr
 zdf:Gf K mg "_law_turn" "_law_turn" zvr
 zfe:Gf K mg "_law_rules" "_law_rules" zaq
 zef:Gf K mg "_law_text" "_law_text" zwr
 zee:Gf K mg "_law_table" "_law_table" zzp
 zie:Gf K mg "_law_lying" "_law_lying" zcq
 zwc:Gf K mg "_law_happening" "_law_happening" znk
 zud:Gf K mg "_law_keeper" "_law_keeper" zyn
 zxc:Gf K mg "_law_due_rules" "_law_due_rules" zpk
 zfd:Gf K mg "_law_kinds_of" "_law_kinds_of" zzk
 zbd:Gf K mg "_law_walked" "_law_walked" zxn
 zkgb:Gf K mg "law" "law" zurb
set_option genInjectivity false in
set_option genSizeOf false in
structure Tx (K:yba)(mg:Str->Option Value) extends Tf K mg where
 zsb:Addr
 zgb:Cls K zsb
 znbb:mg "Words" = some (.ref zsb)
 znc:If K zsb "__init__" "Words.__init__" zlh
 zvc:Mf K zsb "take" "Words.take" zal
 zra:Mf K zsb "take_one_of" "Words.take_one_of" zif
 zub:Mf K zsb "take_name" "Words.take_name" zkg
 zbb:Mf K zsb "take_number" "Words.take_number" zjf
 zcd:Mf K zsb "finish" "Words.finish" zdj
 zwd:zjh K zsb "words"
 zld:zjh K zsb "place"
 ztb:Addr
 zob:Cls K ztb
 zfnb:mg "Whom" = some (.ref ztb)
 zgd:If K ztb "__init__" "Whom.__init__" zxh
 zgf:Mf K ztb "fits" "Whom.fits" zlm
 zeb:Mf K ztb "fits_row" "Whom.fits_row" zwh
 zac:Mf K ztb "fits_parts" "Whom.fits_parts" zlg
 zcb:zjh K ztb "word"
 znf:zjh K ztb "value"
 zdd:zjh K ztb "parts"
 zktb:Isi K ztb
 zpf:Addr
 zil:Cls K zpf
 zgnb:mg "Card" = some (.ref zpf)
 zid:If K zpf "__init__" "Card.__init__" zyh
 zbk:zjh K zpf "name"
 zck:zjh K zpf "cost"
 zui:zjh K zpf "force"
 zti:zjh K zpf "marks"
 zof:zjh K zpf "rules"
 zqeb:mg "all" = none
 zuj:mg "enumerate" = none
 zbkb:mg "int" = none
 zwg:mg "isinstance" = none
 zsf:mg "len" = none
 zbr:mg "list" = none
 zakb:mg "max" = none
 zth:mg "range" = none
 zul:mg "reversed" = none
 zzjb:mg "set" = none
 ztj:mg "sorted" = none
 zpeb:mg "str" = none
 zsk:mg "tuple" = none
 zaz:Tok
 zio:mg "LETTERS" = some (.str zgt zaz)
 zbz:Tok
 zjo:mg "FIGURES" = some (.str zit zbz)
 zjq:Tok
 zzi:mg "MOST_WORDS" = some (.int 9 zjq)
 ztm:Addr
 zdp:mg "PARTS" = some (.ref ztm)
 zdw:yep (ykh λb=>K.lookup b) (λb=>K.lookup b) ztm zqt=true
 zkq:Tok
 zaj:mg "MOST_RULES" = some (.int 3 zkq)
 zxw:Addr
 zjw:mg "SORTS" = some (.ref zxw)
 zcw:TupK K zxw ["hold","when","instead","may"]
 zpo:Addr
 zko:mg "CHANGES" = some (.ref zpo)
 zfo:TupK K zpo ["mute","steal","gain","lack","be","more","less","per"]
 zcj:Addr
 zyi:mg "WHEN_KINDS" = some (.ref zcj)
 zwi:TupK K zcj ["come","leave","hurt","gain","lack","lose","score","draw"]
 zih:Addr
 zeh:mg "DEED_KINDS" = some (.ref zih)
 zdh:TupK K zih ["leave","hurt","gain","lack","lose","score","draw"]
 zvg:Addr
 zug:mg "PLAYER_KINDS" = some (.ref zvg)
 ztg:TupK K zvg ["lose","score","draw"]
 zww:Addr
 ziw:mg "TURNS" = some (.ref zww)
 zbw:TabK K zww zcdb
theorem zaab (T:Tx K mg):Binds K T.zuf.d zkt []:=T.zuf.F.binds λ_ _ _ _ _ _ us hl=>onl1 (λ_=>rfl) us hl
theorem zccb (T:Tx K mg):Binds K T.zcf.d zcn []:=T.zcf.F.binds λ_ _ _ _ _ _ us hl=>onl1 (λ_=>rfl) us hl
theorem zegb (T:Tx K mg):Binds K T.zjg.d zlp []:=T.zjg.F.binds λ_ _ _ _ _ _ us hl=>onl2 (λ_ _=>rfl) us hl
theorem zrk (T:Tx K mg):Binds K T.znc.d zph []:=T.znc.F.binds λ_ _ _ _ _ _ us hl=>onl2 (λ_ _=>rfl) us hl
theorem zgh (T:Tx K mg):Binds K T.zvc.d zsl []:=T.zvc.F.binds λ_ _ _ _ _ _ us hl=>onl1 (λ_=>rfl) us hl
theorem zib (T:Tx K mg):Binds K T.zra.d zlf []:=T.zra.F.binds λ_ _ _ _ _ _ us hl=>onl2 (λ_ _=>rfl) us hl
theorem zre (T:Tx K mg):Binds K T.zub.d zqg []:=T.zub.F.binds λ_ _ _ _ _ _ us hl=>onl1 (λ_=>rfl) us hl
theorem zic (T:Tx K mg):Binds K T.zbb.d zmf []:=T.zbb.F.binds λ_ _ _ _ _ _ us hl=>onl1 (λ_=>rfl) us hl
theorem zgm (T:Tx K mg):Binds K T.zcd.d zkj []:=T.zcd.F.binds λ_ _ _ _ _ _ us hl=>onl1 (λ_=>rfl) us hl
theorem zat (T:Tx K mg):Binds K T.zgd.d zgi []:=T.zgd.F.binds λ_ _ _ _ _ _ us hl=>onl4 (λ_ _ _ _=>rfl) us hl
theorem zgcb (T:Tx K mg):Binds K T.zgf.d zin []:=T.zgf.F.binds λ_ _ _ _ _ _ us hl=>onl5 (λ_ _ _ _ _=>rfl) us hl
theorem zgg (T:Tx K mg):Binds K T.zeb.d zqd []:=T.zeb.F.binds λ_ _ _ _ _ _ us hl=>onl5 (λ_ _ _ _ _=>rfl) us hl
theorem zjp (T:Tx K mg):Binds K T.zac.d zse []:=T.zac.F.binds λ_ _ _ _ _ _ us hl=>onl5 (λ_ _ _ _ _=>rfl) us hl
theorem zuw (T:Tx K mg):Binds K T.ztf.d zax []:=T.ztf.F.binds λ_ _ _ _ _ _ us hl=>onl2 (λ_ _=>rfl) us hl
theorem zei (T:Tx K mg):Binds K T.zfc.d zum []:=T.zfc.F.binds λ_ _ _ _ _ _ us hl=>onl1 (λ_=>rfl) us hl
theorem zxz (T:Tx K mg):Binds K T.zce.d zml []:=T.zce.F.binds λ_ _ _ _ _ _ us hl=>onl2 (λ_ _=>rfl) us hl
theorem zlqb (T:Tx K mg):Binds K T.zim.d zlcb []:=T.zim.F.binds λ_ _ _ _ _ _ us hl=>onl1 (λ_=>rfl) us hl
theorem zujb (T:Tx K mg):Binds K T.zuh.d zjt []:=T.zuh.F.binds λ_ _ _ _ _ _ us hl=>onl3 (λ_ _ _=>rfl) us hl
theorem ztmb (T:Tx K mg):Binds K T.zwj.d zbx []:=T.zwj.F.binds λ_ _ _ _ _ _ us hl=>onl2 (λ_ _=>rfl) us hl
theorem ztw (T:Tx K mg):Binds K T.ztd.d zjk []:=T.ztd.F.binds λ_ _ _ _ _ _ us hl=>onl4 (λ_ _ _ _=>rfl) us hl
theorem zek (T:Tx K mg):Binds K T.zsc.d zym []:=T.zsc.F.binds λ_ _ _ _ _ _ us hl=>onl4 (λ_ _ _ _=>rfl) us hl
theorem zsmb (T:Tx K mg):Binds K T.zvj.d zzw []:=T.zvj.F.binds λ_ _ _ _ _ _ us hl=>onl4 (λ_ _ _ _=>rfl) us hl
theorem zbcb (T:Tx K mg):Binds K T.zbf.d zbn []:=T.zbf.F.binds λ_ _ _ _ _ _ us hl=>onl2 (λ_ _=>rfl) us hl
theorem zau (T:Tx K mg):Binds K T.znd.d zjj []:=T.znd.F.binds λ_ _ _ _ _ _ us hl=>onl4 (λ_ _ _ _=>rfl) us hl
theorem zbt (T:Tx K mg):Binds K T.zid.d zii []:=T.zid.F.binds λ_ _ _ _ _ _ us hl=>onl6 (λ_ _ _ _ _ _=>rfl) us hl
theorem zacb (T:Tx K mg):Binds K T.zaf.d zan []:=T.zaf.F.binds λ_ _ _ _ _ _ us hl=>onl1 (λ_=>rfl) us hl
theorem zyz (T:Tx K mg):Binds K T.zde.d znl []:=T.zde.F.binds λ_ _ _ _ _ _ us hl=>onl1 (λ_=>rfl) us hl
theorem zzbb (T:Tx K mg):Binds K T.zze.d zzm []:=T.zze.F.binds λ_ _ _ _ _ _ us hl=>onl1 (λ_=>rfl) us hl
theorem zybb (T:Tx K mg):Binds K T.zye.d zwm []:=T.zye.F.binds λ_ _ _ _ _ _ us hl=>onl1 (λ_=>rfl) us hl
theorem zrm (T:Tx K mg):Binds K T.zgc.d zkf []:=T.zgc.F.binds λ_ _ _ _ _ _ us hl=>onl2 (λ_ _=>rfl) us hl
theorem zxbb (T:Tx K mg):Binds K T.zxe.d zvm []:=T.zxe.F.binds λ_ _ _ _ _ _ us hl=>onl1 (λ_=>rfl) us hl
theorem zzt (T:Tx K mg):Binds K T.zmd.d zij []:=T.zmd.F.binds λ_ _ _ _ _ _ us hl=>onl1 (λ_=>rfl) us hl
theorem zgp (T:Tx K mg):Binds K T.zrc.d zng []:=T.zrc.F.binds λ_ _ _ _ _ _ us hl=>onl2 (λ_ _=>rfl) us hl
theorem zdgb (T:Tx K mg):Binds K T.zig.d zkp []:=T.zig.F.binds λ_ _ _ _ _ _ us hl=>onl1 (λ_=>rfl) us hl
theorem zys (T:Tx K mg):Binds K T.zrd.d zxm []:=T.zrd.F.binds λ_ _ _ _ _ _ us hl=>onl1 (λ_=>rfl) us hl
theorem zsw (T:Tx K mg):Binds K T.zsd.d zik []:=T.zsd.F.binds λ_ _ _ _ _ _ us hl=>onl2 (λ_ _=>rfl) us hl
theorem zfcb (T:Tx K mg):Binds K T.zff.d zgn []:=T.zff.F.binds λ_ _ _ _ _ _ us hl=>onl2 (λ_ _=>rfl) us hl
theorem zta (T:Tx K mg):Binds K T.zea.d zfn []:=T.zea.F.binds λ_ _ _ _ _ _ us hl=>onl2 (λ_ _=>rfl) us hl
theorem zdab (T:Tx K mg):Binds K T.zge.d zql []:=T.zge.F.binds λ_ _ _ _ _ _ us hl=>onl1 (λ_=>rfl) us hl
theorem zgk (T:Tx K mg):Binds K T.zmc.d zmk []:=T.zmc.F.binds λ_ _ _ _ _ _ us hl=>onl1 (λ_=>rfl) us hl
theorem zfk (T:Tx K mg):Binds K T.zrb.d zog []:=T.zrb.F.binds λ_ _ _ _ _ _ us hl=>onl3 (λ_ _ _=>rfl) us hl
theorem zkl (T:Tx K mg):Binds K T.zpb.d zqf []:=T.zpb.F.binds λ_ _ _ _ _ _ us hl=>onl1 (λ_=>rfl) us hl
theorem zsm (T:Tx K mg):Binds K T.zxb.d zpg []:=T.zxb.F.binds λ_ _ _ _ _ _ us hl=>onl5 (λ_ _ _ _ _=>rfl) us hl
theorem zdcb (T:Tx K mg):Binds K T.zdf.d zdn []:=T.zdf.F.binds λ_ _ _ _ _ _ us hl=>onl2 (λ_ _=>rfl) us hl
theorem zcab (T:Tx K mg):Binds K T.zfe.d zpl []:=T.zfe.F.binds λ_ _ _ _ _ _ us hl=>onl3 (λ_ _ _=>rfl) us hl
theorem zecb (T:Tx K mg):Binds K T.zef.d zen []:=T.zef.F.binds λ_ _ _ _ _ _ us hl=>onl2 (λ_ _=>rfl) us hl
theorem zbab (T:Tx K mg):Binds K T.zee.d zol []:=T.zee.F.binds λ_ _ _ _ _ _ us hl=>onl3 (λ_ _ _=>rfl) us hl
theorem zeab (T:Tx K mg):Binds K T.zie.d zrl []:=T.zie.F.binds λ_ _ _ _ _ _ us hl=>onl3 (λ_ _ _=>rfl) us hl
theorem zuq (T:Tx K mg):Binds K T.zwc.d znh []:=T.zwc.F.binds λ_ _ _ _ _ _ us hl=>onl4 (λ_ _ _ _=>rfl) us hl
theorem zvw (T:Tx K mg):Binds K T.zud.d zlk []:=T.zud.F.binds λ_ _ _ _ _ _ us hl=>onl2 (λ_ _=>rfl) us hl
theorem zvq (T:Tx K mg):Binds K T.zxc.d zoh []:=T.zxc.F.binds λ_ _ _ _ _ _ us hl=>onl4 (λ_ _ _ _=>rfl) us hl
theorem zzs (T:Tx K mg):Binds K T.zfd.d zfi []:=T.zfd.F.binds λ_ _ _ _ _ _ us hl=>onl1 (λ_=>rfl) us hl
theorem zno (T:Tx K mg):Binds K T.zbd.d zkk []:=T.zbd.F.binds λ_ _ _ _ _ _ us hl=>onl5 (λ_ _ _ _ _=>rfl) us hl
theorem zgr (T:Tx K mg)(kb:K.In base):ycp base T.ztm zqt:=KTD.text_of_look (λb o q=>kb b o q) T.zdw
abbrev LL:Str:="abcdefghijklmnopqrstuvwxyz"
abbrev FF:Str:="0123456789"
def inS (c:Nat)(u:Str):Bool:=!(ypc u ⟨#[c]⟩ 0 u.length 1).isEmpty
def allIn (t u:Str):Bool:=(t.cps.toList.map λc=>inS c u).all id
def zqu (t:Str):Bool:=decide (V.str t=V.str "0")||(!decide (V.str ⟨#[t.cps.getD 0 0]⟩=V.str "0"))
def short (t:Str)(n:Int):Bool:=decide ((1:Int)≤((t.length:Nat):Int))&&decide (((t.length:Nat):Int)≤n)
def isName (t:Str):Bool:=short t 8&&allIn t LL
def isWhole (t:Str)(n:Int):Bool:=short t n&&(allIn t FF&&zqu t)
def isNumber (t:Str):Bool:=isWhole t 3
theorem small {n:Nat}(h:n≤1000):n≤yta:=yle (zjc h)
theorem zyfb {t:Str}(h:(1:Int)≤((t.length:Nat):Int)):atI t.cps.toList 0=some (t.cps.getD 0 0):=by
 have hl:0<t.cps.size:=by
  have e:t.length=t.cps.size:=rfl;omega
 have e:t.cps.toList[0]?=some (t.cps.getD 0 0):=by
  rw[yhc,ymg,ynb hl];rfl
 exact zia (j:=0) e
theorem zoo {α:Type}{xs:List α}{i:Int}(h0:0≤i)(h:i<(xs.length:Int)):∃v,atI xs i=some v∧v∈xs:=by
 have hk:i.toNat<xs.length:=by omega
 have e:xs[i.toNat]?=some xs[i.toNat]:=yqa hk;have q:=zia e;rw[show ((i.toNat:Nat):Int)=i by omega] at q;exact⟨_,q,ykb e⟩
theorem zvjb {ns:List Int}{i:Int}(h0:0≤i)(h:i<(ns.length:Int)):∃z,atI (ns.map V.int) i=some (.int z):=by
 obtain⟨v,hv,hm⟩:=zoo (xs:=ns.map V.int) h0 (by rw[yda];exact h);obtain⟨z,_,rfl⟩:=ydb.mp hm;exact⟨z,hv⟩
def But (p:Addr)(H H':Hp):Prop:=∀b o,b≠p->H b=some o->H' b=some o
theorem But.refl (p:Addr)(H:Hp):But p H H:=λ_ _ _ h=>h
theorem But.trans {p:Addr}{H H1 H2:Hp}(a:But p H H1)(b:But p H1 H2):But p H H2:=λc o n h=>b c o n (a c o n h)
theorem But.laid {p q:Addr}{H:Hp}{o:HO}(h:H q=none):But p H (upd H q o):=λb u n e=>by rw[zza (zka e h)];exact e
theorem But.put {p:Addr}{H:Hp}{o:HO}:But p H (upd H p o):=λb u n e=>by rw[zza n];exact e
theorem But.same {p:Addr}{H H':Hp}(h:Same H H'):But p H H':=λb o _ e=>h b o e
theorem zxa {H:Hp}{p:Addr}(h:H p=none)(o:HO):Same H (upd H p o):=λb u q=>by rw[zza (zka q h)];exact q
def SqF (K:yba)(H:Hp)(a:Addr)(xs:List V):Prop :=
 (∃o,H a=some (.frz o (.lst xs)))∨Ex3 λ(o:Obj) (its:Array Value) (n:Nat)=>K.lookup a=some o∧o.cls = .type "list" ∧ o.dict=none∧o.data = .seq its n∧its.size≤yta∧Vals xs its.toList
theorem SqF.sq {K:yba}{H:Hp}{a:Addr}{xs:List V}(h:SqF K H a xs):SqL K H a xs:=by
 rcases h with⟨o,h⟩|h
 ·exact .inl (.inr ⟨o,h⟩)
 ·exact .inr h
theorem SqF.of {K:yba}{H:Hp}{a:Addr}{xs:List V}(O:Only H)(h:SqL K H a xs):SqF K H a xs:=by
 rcases h with (h|⟨o,h⟩)|h
 ·rcases O a with z|⟨o,ys,z⟩
  ·rw[z] at h;cases h
  ·rw[z] at h;cases h
 ·exact .inl ⟨o,h⟩
 ·exact .inr h
theorem SqF.keep {K:yba}{H H':Hp}{a:Addr}{xs:List V}(h:SqF K H a xs)(k:∀o u,H a=some (.frz o u)->H' a=some (.frz o u)):SqF K H' a xs:=by
 rcases h with⟨o,h⟩|h
 ·exact .inl ⟨o,k _ _ h⟩
 ·exact .inr h
structure Tk (K:yba)(H:Hp)(p:Addr)(k:Int):Prop where
 ex:Ex2 λa (ns:List Int)=>H p=some (.lst [.ref a,.int k])∧SqF K H a (ns.map V.int)∧ns.length≤63
 lo:0≤k
theorem Tk.ne {K:yba}{H:Hp}{p q:Addr}{k:Int}(T:Tk K H p k)(h:H q=none):p≠q:=by
 obtain⟨⟨a,ns,h1,_⟩,_⟩:=T;exact zka h1 h
theorem Tk.same {K:yba}{H H':Hp}{p:Addr}{k:Int}(T:Tk K H p k)(h:Same H H'):Tk K H' p k:=by
 obtain⟨⟨a,ns,h1,h2,h3⟩,lo⟩:=T;exact⟨⟨a,ns,h p _ h1,h2.keep λo u z=>h _ _ z,h3⟩,lo⟩
theorem Tk.other {K:yba}{H:Hp}{p q:Addr}{k:Int}{us vs:List V}(T:Tk K H p k)(hq:H q=some (.lst us))(n:p≠q):Tk K (upd H q (.lst vs)) p k:=by
 obtain⟨⟨a,ns,h1,h2,h3⟩,lo⟩:=T;exact⟨⟨a,ns,by rw[zza n];exact h1,h2.keep λo u z=>by rw[zza (zel z hq (by intro y;cases y))];exact z,h3⟩,lo⟩
theorem Tk.begin {K:yba}{H:Hp}{p a:Addr}{ns:List Int}(hp:H p=none)(hS:SqF K H a (ns.map V.int))(h63:ns.length≤63):Tk K (upd H p (.lst [.ref a,.int 0])) p 0 :=
 ⟨⟨a,ns,zga,hS.keep λo u z=>by rw[zza (zka z hp)];exact z,h63⟩,ygn 0⟩
def zmrb (K:yba):Sp:=λvs H Q _=>Ex3 λp (k m:Int)=>vs=[.ref p,.int m]∧Tk K H p k∧k≤1000000∧0<m∧∀(r:Int) H',0≤r->r<m->But p H H'->Tk K H' p (k+1)->Q (.int r) H'
def zorb:Sp:=λvs H Q _=>∃t:Str,vs=[.str t]∧t.length≤1000∧∀H',Same H H'->Q (.bl (isName t)) H'
def zokb:Sp:=λvs H Q _=>∃t:Str,vs=[.str t]∧t.length≤1000∧∀H',Same H H'->Q (.bl (isNumber t)) H'
def zaob:Sp:=λvs H Q _=>Ex2 λ(t:Str) (n:Int)=>vs=[.str t,.int n]∧t.length≤1000∧∀H',Same H H'->Q (.bl (isWhole t n)) H'
def zpkb (K:yba):Sp:=λvs H Q _=>Ex2 λa (ns:List Int)=>vs=[.ref a]∧SqF K H a (ns.map V.int)∧ns.length≤63∧∀H',Q (.bl true) H'
abbrev zxrb:R2:=λx y H Q=>Ex2 λi j=>x = .str i∧y = .str j∧Q (.bl (!(ypc j i 0 j.length 1).isEmpty)) H
theorem zzu {t L:Str}{σ:L2.St}{H:Hp}{Q:VK}(hz:t.length≤yta)(q:∀p,H p=none->Q (.ref p) (upd H p (.lst ((t.cps.toList.map λc=>inS c L).map V.bl)))) :
  zjgb (Its t) H (zkmb 0) zbrb (tOp zxrb (tVar 0) (tC (.str L))) 1 [] σ Q:=by
 refine zpmb (λi ys H'=>H'=H∧i≤t.cps.size∧ys=((t.cps.toList.take i).map λc=>inS c L).map V.bl) ⟨rfl,ylb _,rfl⟩ ?_ ?_ ?_
 ·rintro i ys H' ⟨_,hi,rfl⟩;rw[yda,yda,yib];have e:t.length=t.cps.toList.length:=by simp[yop]
  omega
 ·rintro i c ys H' hc ⟨rfl,hi,rfl⟩;refine⟨rfl,_,rfl,_,_,rfl,rfl,rfl,?_,?_⟩
  ·have hlt:i<t.cps.size:=(Array.getElem?_eq_some_iff.mp hc).1;exact hlt
  ·have e:t.cps.toList[i]?=some c:=by simpa using hc
   rw[yjb,e,yfb,yfb];rfl
 ·rintro ys H' ⟨rfl,_,rfl⟩ p hp;have q':=q p hp;rw[yua (by simp)];exact q'
section
variable {P:ypb}{w:World}{K:yba}{mg:Str->Option Value}{base:Heap}{f:Addr}{fd:yxe}
theorem zpu (T:Tx K mg):FnOk P w K mg base CX0 2 T.zuf.f T.zuf.d zkt zorb:=by
 refine T.zuf.ok zgfb ?_;rintro f c A o s H vs Q E hr ⟨t,rfl,hz,q⟩ X;have hz':=small hz;refine⟨_,  (zda (zqa (ztdb (zjlb zllb zllb zfa (zkb zjl rfl T.zsf ymb (zaa (pv 0) zca)) zfa) (zgq (zkb (zrw rfl) rfl T.zqeb boot_all (zaa (zeg (own:=["sign"]) (cap:=[]) rfl (zpc.chk rfl rfl) .nil (zdnb (pv 0)) (λ_ _ _ _=>(zua (i:=0) (show yfd (["sign"]:List Str) by decide +kernel) rfl (.inl rfl))) (λ_ _ _ _=>zcl) (λ_ _ _ _=>by exact (zte zky (pv 0) (zdg (v:=.str zgt) rfl T.zio ⟨_,rfl⟩) rfl))) zca)))))),?_⟩;refine⟨_,rfl,t,rfl,hz',_,_,rfl,rfl,_,rfl,?_⟩;refine ite2 (λc1=>?_) (λc1=>?_)
 ·refine⟨_,_,rfl,rfl,_,rfl,?_⟩;refine ite2 (λc2=>?_) (λc2=>?_)
  ·refine⟨_,rfl,t,rfl,?_⟩;refine zzu hz' λp hp=>?_;refine⟨p,_,rfl,SqL.of zga,?_⟩;have q':=q (upd H p (.lst ((t.cps.toList.map λc=>inS c LL).map V.bl))) (zxa hp _);have e:isName t=allIn t LL:=by
    unfold isName short;rw[c1,c2,ygd,ygd]
   rw[e] at q';exact q'
  ·have q':=q H (Same.refl H);have e:isName t=false:=by
    unfold isName short;rw[yqd.mpr c2,ydi,ymd]
   rw[e] at q';exact q'
 ·refine⟨_,rfl,iteF ?_⟩;have q':=q H (Same.refl H);have e:isName t=false:=by
   unfold isName short;rw[yqd.mpr c1,ymd,ymd]
  rw[e] at q';exact q'
theorem zebb (T:Tx K mg):FnOk P w K mg base CX0 1 T.zjg.f T.zjg.d zlp zaob:=by
 refine T.zjg.ok zxab ?_;rintro f c A o s H vs Q E hr ⟨t,n,rfl,hz,q⟩ X;have hz':=small hz;refine⟨_,  (zba (zwb (PW.pt (zzab (zas (zxkb zllb zllb zfa (zkb zjl rfl T.zsf ymb (zaa (pv 0) zca)) (pv 1))) (zdy (zas (zfq (zkb (zrw rfl) rfl T.zqeb boot_all (zaa (zeg (own:=["sign"]) (cap:=[]) rfl (zpc.chk rfl rfl) .nil (zdnb (pv 0)) (λ_ _ _ _=>(zua (i:=0) (show yfd (["sign"]:List Str) by decide +kernel) rfl (.inl rfl))) (λ_ _ _ _=>zcl) (λ_ _ _ _=>by exact (zte zky (pv 0) (zdg (v:=.str zit) rfl T.zjo ⟨_,rfl⟩) rfl))) zca)))))))
   (zda (zqa zkfb))
   zsa)
  (zda (zqa (zelb (zte zqc (pv 0) zna (zwa _)) (zgq (zte zfsb (zjb zoib (pv 0) zfa (λ_ _=>rfl)) zna (zwa _))))))),?_⟩
 refine⟨_,rfl,t,rfl,hz',_,_,rfl,rfl,_,rfl,?_⟩;refine ite2 (λc1=>?_) (λc1=>?_)
 ·refine⟨_,rfl,_,_,rfl,rfl,_,rfl,?_⟩;refine ite2 (λc2=>?_) (λc2=>?_)
  ·refine iteT ?_;have q':=q H (Same.refl H);have c2':decide (((t.length:Nat):Int)≤n)=false:=(by simpa using c2);have e:isWhole t n=false:=by
    unfold isWhole short;rw[c2',ydi,ymd]
   rw[e] at q';exact q'
  ·have c2':decide (((t.length:Nat):Int)≤n)=true:=by simpa using c2
   refine⟨_,rfl,t,rfl,?_⟩;refine zzu hz' λp hp=>?_;refine⟨p,_,rfl,SqL.of zga,_,rfl,?_⟩;have S1:=zxa hp (.lst ((t.cps.toList.map λc=>inS c FF).map V.bl));have q':=q _ S1;have e0:isWhole t n=(allIn t FF&&zqu t):=by
    unfold isWhole short;rw[c1,c2',ygd,ygd]
   rw[e0] at q';refine ite2 (λc3=>?_) (λc3=>?_)
   ·have c3':allIn t FF=false:=by simpa [allIn] using c3
    rw[c3',ymd] at q';exact q'
   ·have c3':allIn t FF=true:=by simpa [allIn] using c3
    rw[c3',ygd] at q';refine⟨_,rfl,rfl,_,rfl,?_⟩;refine ite2 (λc4=>?_) (λc4=>?_)
    ·have e:zqu t=true:=by
      unfold zqu;rw[c4,ymm]
     rw[e] at q';exact q'
    ·refine⟨_,rfl,t,_,_,rfl,rfl,hz',zyfb (of_decide_eq_true c1),rfl,?_⟩;have e:zqu t=(!decide (V.str ⟨#[t.cps.getD 0 0]⟩=V.str "0")):=by
      unfold zqu;rw[yqd.mpr c4,yal]
     rw[e] at q';exact q'
 ·refine⟨_,rfl,iteT (iteT ?_)⟩;have q':=q H (Same.refl H);have e:isWhole t n=false:=by
   unfold isWhole short;rw[yqd.mpr c1,ymd,ymd]
  rw[e] at q';exact q'
theorem zqy (T:Tx K mg):FnOk P w K mg base CX0 2 T.zcf.f T.zcf.d zcn zokb:=by
 refine T.zcf.ok zyx ?_;rintro f c A o s H vs Q E hr ⟨t,rfl,hz,q⟩ X;refine⟨_,  (zda (zqa (zja (zebb T) hr rfl T.zjg.m T.zjg.F.kp (zegb T) .nil zva (zaa (pv 0) (zaa zfa zca))))),?_⟩;exact⟨_,rfl,t,3,rfl,hz,q⟩
end
section
seal PySem.wpAny
theorem zjtb:∀c:Nat,c<123->97≤c->inS c LL=true:=by decide +kernel
theorem zms {n:Str}(h:zoe n):isName n=true:=by
 unfold isName short allIn;obtain⟨h1,h2,h3⟩:=h;rw[decide_eq_true (by omega),decide_eq_true (by omega),ygd,ygd,ycf];intro b hb;obtain⟨c,hc,rfl⟩:=ydb.mp hb;exact zjtb c (by have:=h3 c hc;omega) (h3 c hc).1
theorem zvy:∀i:Nat,i<1000->isNumber (toString (i:Int):Str)=true:=by decide +kernel
theorem zlpb:∀i:Nat,i<1000->PySem.intText? (toString (i:Int):Str)=some (i:Int):=by decide +kernel
theorem zxl {f:Str}{v:V}{r:List (Str×V)}:yxd f ((f,v)::r)=some v:=by rw[yde,beq_self_eq_true]
theorem zpd {f g:Str}{v:V}{r:List (Str×V)}(h:¬ f=g):yxd f ((g,v)::r)=yxd f r:=by
 have e:(f==g)=false:=by simpa using h
 rw[yde,e]
theorem zuo {f:Str}{v:V}:putF f v []=[(f,v)]:=rfl
theorem zrob {f:Str}{v u:V}{r:List (Str×V)}:putF f v ((f,u)::r)=(f,v)::r:=by
 show (if f=f then (f,v)::r else (f,u)::putF f v r)=_
 rw[if_pos rfl]
theorem zzj {f g:Str}{v u:V}{r:List (Str×V)}(h:¬ g=f):putF f v ((g,u)::r)=(g,u)::putF f v r:=by
 show (if g=f then (g,v)::r else (g,u)::putF f v r)=_
 rw[if_neg h]
def wfs (l:Addr)(k:Int):List (Str×V):=[("words",.ref l),("place",.int k)]
theorem zosb:¬ (("words":Str) = "place"):=by decide +kernel
theorem zoub:¬ (("place":Str) = "words"):=by decide +kernel
theorem zer (l:Addr)(k:Int):(wfs l k).lookup ("words":Str)=some (.ref l):=zxl
theorem znn (l:Addr)(k:Int):(wfs l k).lookup ("place":Str)=some (.int k):=(zpd zoub).trans zxl
theorem zqnb (l:Addr)(k j:Int):putF "place" (.int j) (wfs l k)=wfs l j:=(zzj zosb).trans (congrArg _ zrob)
theorem zdkb (l:Addr)(j:Int):putF "place" (.int j) (putF "words" (.ref l) [])=wfs l j:=(zzj zosb).trans rfl
theorem zlc (l:Addr)(k:Int){m:Str}(h1:¬ m = "words")(h2:¬ m = "place"):(wfs l k).lookup m=none:=(zpd h1).trans ((zpd h2).trans rfl)
def WAt (C:Addr)(H:Hp)(p:Addr)(ws:List Str)(k:Nat):Prop:=Ex2 λdx l=>H p=some (.ins C dx (wfs l (k:Int)))∧H l=some (.lst (ws.map V.str))
theorem WAt.at {C:Addr}{H H':Hp}{p:Addr}{ws:List Str}{k:Nat}(h:WAt C H p ws k)(s:Same H H'):WAt C H' p ws k:=by
 obtain⟨dx,l,h1,h2⟩:=h;exact⟨dx,l,s _ _ h1,s _ _ h2⟩
theorem WAt.go {C:Addr}{H:Hp}{p dx l:Addr}{ws:List Str}{k j:Nat}(h1:H p=some (.ins C dx (wfs l (k:Int))))(h2:H l=some (.lst (ws.map V.str))):WAt C (upd H p (.ins C dx (wfs l (j:Int)))) p ws j:=by
 have n:l≠p:=zel h2 h1 (by intro z;cases z);exact⟨dx,l,zga,by rw[zza n];exact h2⟩
theorem But.of_same {p:Addr}{H H1 H2:Hp}(a:But p H H1)(b:Same H1 H2):But p H H2:=a.trans (But.same b)
theorem zvtb {ws:List Str}{k:Nat}{u:Str}(h:ws[k]?=some u):atI (ws.map V.str) (k:Int)=some (.str u):=zia (by rw[yub,h];rfl)
def zznb (C:Addr):Sp:=λvs H Q _=>Ex3 λp dx (t:Str)=>vs=[.ref p,.str t]∧H p=some (.ins C dx [])∧t.length≤1000∧∀H',WAt C H' p (yte t " ") 0->But p H H'->Q .non H'
def zbob (C:Addr):Sp:=λvs H Q _=>Ex4 λp (ws:List Str) (k:Nat) (u:Str)=>vs=[.ref p]∧WAt C H p ws k∧ws[k]?=some u∧∀H',WAt C H' p ws (k+1)->But p H H'->Q (.str u) H'
def zcob (C:Addr):Sp:=λvs H Q _=>Ex4 λp (ws:List Str) (k:Nat) (u:Str)=>vs=[.ref p]∧WAt C H p ws k∧ws[k]?=some u∧zoe u∧∀H',WAt C H' p ws (k+1)->But p H H'->Q (.str u) H'
def zvgb (C:Addr):Sp:=λvs H Q _=>Ex4 λp (ws:List Str) (k i:Nat)=>vs=[.ref p]∧WAt C H p ws k∧ws[k]?=some (toString (i:Int):Str)∧i<1000∧∀H',WAt C H' p ws (k+1)->But p H H'->Q (.int i) H'
def zwgb (C:Addr):Sp:=λvs H Q _=>Ex2 λp (ws:List Str)=>vs=[.ref p]∧WAt C H p ws ws.length∧Q .non H
theorem zvdb (T:Tx K mg):FnOk P w K mg base CX0 2 T.znc.f T.znc.d zph (zznb T.zsb):=by
 refine T.znc.ok zso ?_;rintro f c A o s H vs Q E hr ⟨p,dx,t,rfl,hp,ht,q⟩ X;refine⟨_,  (zba (zem (pv 0) (zai ykd ywh yxh zzv (pv 1) (zaa zna zca)) rfl)
  (zda (zem (pv 0) zfa rfl))),?_⟩
 refine⟨_,rfl,rfl,t,_,rfl,rfl,(by decide +kernel),(yxa (yoi ht 2) (by decide)),λl hl=>?_⟩;have npl:p≠l:=zka hp hl;refine⟨_,rfl,p,_,dx,_,rfl,(by rw[zza npl];exact hp),T.zgb,T.zwd,(by show 0<1000;decide),?_⟩;refine⟨_,rfl,p,_,dx,_,rfl,zga,T.zgb,T.zld,(by show 1<1000;decide),?_⟩;refine q _ ⟨dx,l,?_,?_⟩ ?_
 ·rw[zga,zdkb];rfl
 ·rw[zza npl.symm,zza npl.symm,zga]
 ·exact (But.laid hl).trans (But.put.trans But.put)
theorem zfg (T:Tx K mg):FnOk P w K mg base CX0 2 T.zvc.f T.zvc.d zsl (zbob T.zsb):=by
 refine T.zvc.ok znv ?_;rintro f c A o s H vs Q E hr ⟨p,ws,k,u,rfl,⟨dx,l,h1,h2⟩,hu,q⟩ X;refine⟨_,  (zba (zwb (zma zqc (zwe (pv 0) rfl) (zkb zdb rfl T.zsf ymb (zaa (zwe (pv 0) rfl) zca)) (zwa _))
   (zda zag)
   zsa)
  (zba (zohb (pv 0) zfa zitb)
  (zda (zqa (zjb zkc (zwe (pv 0) rfl) (zcc zbi (zwe (pv 0) rfl) zfa) (λ_ _=>rfl)))))),?_⟩
 have hk:k<ws.length:=(yfa.mp hu).1;have n:l≠p:=zel h2 h1 (by intro z;cases z);refine⟨_,rfl,p,_,dx,_,_,rfl,h1,T.zgb,T.zld,znn _ _,_,rfl,p,_,dx,_,_,rfl,h1,T.zgb,T.zwd,zer _ _,l,_,rfl,.inl (SqL.of h2),rfl,_,rfl,?_⟩;refine ite2 (λc=>?_) (λc=>?_)
 ·exfalso;have c':=of_decide_eq_true c;injection c' with c'
  rw[yda] at c';omega
 ·refine⟨_,rfl,p,_,dx,_,_,rfl,h1,T.zgb,T.zld,znn _ _,_,_,rfl,rfl,dx,_,h1,(by show 2<1000;decide),?_⟩;rw[zqnb];refine⟨_,rfl,p,_,dx,_,_,rfl,zga,T.zgb,T.zwd,zer _ _,_,rfl,p,_,dx,_,_,rfl,zga,T.zgb,T.zld,znn _ _,_,_,rfl,rfl,l,_,_,_,rfl,rfl,SqL.of (by rw[zza n];exact h2),(by rw[Int.add_sub_cancel];exact zvtb hu),?_⟩;exact q _ (WAt.go (j:=k+1) h1 h2) But.put
theorem zdl (T:Tx K mg):FnOk P w K mg base CX0 2 T.zcd.f T.zcd.d zkj (zwgb T.zsb):=by
 refine T.zcd.ok zkr ?_;rintro f c A o s H vs Q E hr ⟨p,ws,rfl,⟨dx,l,h1,h2⟩,q⟩ X;refine⟨_,  (zda (zwb (zma zklb (zwe (pv 0) rfl) (zkb zdb rfl T.zsf ymb (zaa (zwe (pv 0) rfl) zca)) (zwa _))
   (zda zag)
   zsa)),?_⟩
 refine⟨_,rfl,p,_,dx,_,_,rfl,h1,T.zgb,T.zld,znn _ _,_,rfl,p,_,dx,_,_,rfl,h1,T.zgb,T.zwd,zer _ _,l,_,rfl,.inl (SqL.of h2),_,_,rfl,rfl,_,rfl,?_⟩;refine ite2 (λc=>?_) (λc=>?_)
 ·exfalso;have c':=of_decide_eq_true c;rw[yda] at c';omega
 ·exact q
theorem zbe (T:Tx K mg):FnOk P w K mg base CX0 3 T.zub.f T.zub.d zqg (zcob T.zsb):=by
 refine T.zub.ok zqi ?_;rintro f c A o s H vs Q E hr ⟨p,ws,k,u,rfl,W,hu,hn,q⟩ X;refine⟨_,  (zba (zoa (i:=1) zqi.nd rfl (.inl rfl) (zjd (pv 0) T.zgb T.zvc.M (zfg T) hr (zgh T) .nil zva))
  (zba (zwb (zas (zfq (zja (zpu T) hr rfl T.zuf.m T.zuf.F.kp (zaab T) .nil zva (zaa (pv 1) zca))))
   (zda zag)
   zsa)
  (zda (zqa (pv 1))))),?_⟩
 obtain⟨dx,l,h1,h2⟩:=id W;refine⟨_,rfl,p,dx,_,rfl,h1,zlc _ _ (by decide +kernel) (by decide +kernel),p,ws,k,u,rfl,W,hu,λH1 W1 B1=>?_⟩;refine⟨_,rfl,u,rfl,(yxa hn.2.1 (by decide)),λH2 S2=>?_⟩;rw[zms hn];refine⟨_,rfl,iteF ?_⟩;exact⟨_,rfl,q H2 (W1.at S2) (B1.of_same S2)⟩
theorem zdc (T:Tx K mg):FnOk P w K mg base CX0 3 T.zbb.f T.zbb.d zmf (zvgb T.zsb):=by
 refine T.zbb.ok zrh ?_;rintro f c A o s H vs Q E hr ⟨p,ws,k,i,rfl,W,hu,hi,q⟩ X;refine⟨_,  (zba (zoa (i:=1) zrh.nd rfl (.inl rfl) (zjd (pv 0) T.zgb T.zvc.M (zfg T) hr (zgh T) .nil zva))
  (zba (zwb (zas (zfq (zja (zqy T) hr rfl T.zcf.m T.zcf.F.kp (zccb T) .nil zva (zaa (pv 1) zca))))
   (zda zag)
   zsa)
  (zda (zqa (zyd zqw rfl T.zbkb boot_int (zaa (pv 1) zca)))))),?_⟩
 obtain⟨dx,l,h1,h2⟩:=id W;refine⟨_,rfl,p,dx,_,rfl,h1,zlc _ _ (by decide +kernel) (by decide +kernel),p,ws,k,_,rfl,W,hu,λH1 W1 B1=>?_⟩;have hl:=zxo i hi;refine⟨_,rfl,_,rfl,(by omega),λH2 S2=>?_⟩;rw[zvy i hi];refine⟨_,rfl,iteF ?_⟩;exact⟨_,rfl,_,_,rfl,zlpb i hi,(by omega),q H2 (W1.at S2) (B1.of_same S2)⟩
def valV:Wv->V
 | .non=>.non
 | .name n=>.str n
 | .num i=>.int i
def hfs (w:Str)(v:V)(t:Addr):List (Str×V):=[("word",.str w),("value",v),("parts",.ref t)]
theorem znub:¬ (("value":Str) = "word"):=by decide +kernel
theorem zmsb:¬ (("word":Str) = "value"):=by decide +kernel
theorem zqsb:¬ (("parts":Str) = "word"):=by decide +kernel
theorem znsb:¬ (("word":Str) = "parts"):=by decide +kernel
theorem zrsb:¬ (("parts":Str) = "value"):=by decide +kernel
theorem zpsb:¬ (("value":Str) = "parts"):=by decide +kernel
theorem zoc (w:Str)(v:V)(t:Addr):(hfs w v t).lookup ("word":Str)=some (.str w):=zxl
theorem zjz (w:Str)(v:V)(t:Addr):(hfs w v t).lookup ("value":Str)=some v:=(zpd znub).trans zxl
theorem zpj (w:Str)(v:V)(t:Addr):(hfs w v t).lookup ("parts":Str)=some (.ref t):=(zpd zqsb).trans ((zpd zrsb).trans zxl)
theorem zgmb (w:Str)(v:V)(t:Addr):putF "parts" (.ref t) (putF "value" v (putF "word" (.str w) []))=hfs w v t:=by
 rw[zuo,zzj zmsb,zuo,zzj znsb,zzj zpsb,zuo];rfl
theorem zaeb (w:Str)(v:V)(t:Addr){m:Str}(h1:¬ m = "word")(h2:¬ m = "value")(h3:¬ m = "parts"):(hfs w v t).lookup m=none:=(zpd h1).trans ((zpd h2).trans ((zpd h3).trans rfl))
theorem zvpb {C D dx dy t l:Addr}{w:Str}{v:V}{k:Int}:HO.ins D dx (hfs w v t)≠HO.ins C dy (wfs l k):=by
 intro z;injection z with _ _ z
 exact absurd (congrArg yag z) (by show ¬ (3=2);decide)
mutual
inductive IsW (D:Addr)(H:Hp):V->Wh->Prop where
 | mk {a dx t:Addr} {vs:List V} {w:Wh} (h1:H a=some (.ins D dx (hfs w.word (valV w.val) t))) (h2:H t=some (.tup vs)) (h3:IsWs D H vs w.parts):IsW D H (.ref a) w
inductive IsWs (D:Addr)(H:Hp):List V->List Wh->Prop where
 | nil:IsWs D H [] []
 | cons {v:V} {w:Wh} {vs:List V} {ws:List Wh}:IsW D H v w->IsWs D H vs ws->IsWs D H (v::vs) (w::ws)
end
mutual
theorem IsW.same {D:Addr}{H H':Hp}(s:Same H H'):∀{v:V} {w:Wh},IsW D H v w->IsW D H' v w
 | _,_,.mk h1 h2 h3=>.mk (s _ _ h1) (s _ _ h2) (h3.same s)
theorem IsWs.same {D:Addr}{H H':Hp}(s:Same H H'):∀{vs:List V} {ws:List Wh},IsWs D H vs ws->IsWs D H' vs ws
 | _,_,.nil=>.nil
 | _,_,.cons h t=>.cons (h.same s) (t.same s)
end
mutual
theorem IsW.but {D C p dy l:Addr}{k:Int}{H H':Hp}(b:But p H H')(hp:H p=some (.ins C dy (wfs l k))):∀{v:V} {w:Wh},IsW D H v w->IsW D H' v w
 | _,_,.mk h1 h2 h3=>.mk (b _ _ (zel h1 hp zvpb) h1) (b _ _ (zel h2 hp (by intro z;cases z)) h2) (h3.but b hp)
theorem IsWs.but {D C p dy l:Addr}{k:Int}{H H':Hp}(b:But p H H')(hp:H p=some (.ins C dy (wfs l k))):∀{vs:List V} {ws:List Wh},IsWs D H vs ws->IsWs D H' vs ws
 | _,_,.nil=>.nil
 | _,_,.cons h t=>.cons (h.but b hp) (t.but b hp)
end
theorem IsWs.length {D:Addr}{H:Hp}:∀{vs:List V} {ws:List Wh},IsWs D H vs ws->vs.length=ws.length
 | _,_,.nil=>rfl
 | _,_,.cons _ t=>by rw[yha,yha,t.length]
theorem IsWs.split {D:Addr}{H:Hp}:∀{xs:List Wh} {vs:List V} {ys:List Wh},IsWs D H vs (xs++ys)->IsWs D H (vs.take xs.length) xs∧IsWs D H (vs.drop xs.length) ys
 | [],vs,ys,h=>⟨by rw[yrh,List.take_zero];exact .nil,by rw[yrh,yei];exact h⟩
 | x::xs,_,ys,.cons h t=>by
  obtain⟨a,b⟩:=IsWs.split (xs:=xs) t;exact⟨.cons h a,b⟩
theorem IsWs.get {D:Addr}{H:Hp}:∀{vs:List V} {ws:List Wh} {i:Nat} {v:V},IsWs D H vs ws->vs[i]?=some v->∃w,ws[i]?=some w∧IsW D H v w
 | _,_,_,_,.nil,e=>by simp at e
 | _,_,0,_,.cons h t,e=>by
  rw[yge] at e;cases e;exact⟨_,rfl,h⟩
 | _,_,i+1,_,.cons h t,e=>by
  rw[yyb] at e;obtain⟨w,h1,h2⟩:=t.get e;exact⟨w,by rw[yyb];exact h1,h2⟩
theorem zoz (xs:List V)(n:Nat):cutV xs none (some (n:Int))=xs.take n:=by
 unfold cutV;rw[HT.zodb,HT.zyab,yei,ylm]
 by_cases h:n≤xs.length
 ·rw[Nat.min_eq_left h]
 ·rw[Nat.min_eq_right (by omega),yua (yma _),yua (by omega)]
theorem zqj (xs:List V)(n:Nat):cutV xs (some (n:Int)) none=xs.drop n:=by
 unfold cutV;rw[HT.zodb,HT.zyab]
 by_cases h:n≤xs.length
 ·rw[Nat.min_eq_left h,yua (by rw[yud];exact yma _)]
 ·rw[Nat.min_eq_right (by omega),yli,List.take_zero,ypl (by omega)]
theorem zsab {w:Wh}(h:w.ok)(hs:w.size≤9):(ysa " " w.words).length≤200:=by
 have a:=zyl " " w.words;have b:=w.zix;have c:=zsp (l:=w.words.map (·.length)) (k:=8) (λx hx=>by
  obtain⟨u,hu,rfl⟩:=ydb.mp hx;exact (Wh.zckb h u hu).2.2)
 rw[yda] at c;have e:(" ":Str).length=1:=rfl;rw[e] at a;omega
theorem zdib:∀i:Nat,i<1000->i.log2<1920:=by decide +kernel
theorem zudb (w:Wh):ydn w.word zqt=some (.flat (.int (w.parts.length:Nat))):=by
 cases w<;>rfl
theorem zcpb (w:Wh):KTD.inKeys w.word zqt=true:=by
 cases w<;>rfl
def zkrb (D:Addr):Sp:=λvs H Q _=>Ex5 λx dx t (u:Str) v=>vs=[.ref x,.str u,v,.ref t]∧H x=some (.ins D dx [])∧Q .non (upd H x (.ins D dx (hfs u v t)))
theorem zgpb (T:Tx K mg):FnOk P w K mg base CX0 2 T.zgd.f T.zgd.d zgi (zkrb T.ztb):=by
 refine T.zgd.ok zpq ?_;rintro f c A o s H vs Q E hr ⟨x,dx,t,u,v,rfl,hx,q⟩ X;refine⟨_,  (zba (zem (pv 0) (pv 1) rfl)
  (zba (zem (pv 0) (pv 2) rfl)
  (zda (zem (pv 0) (pv 3) rfl)))),?_⟩
 refine⟨_,rfl,_,rfl,x,_,dx,_,rfl,hx,T.zob,T.zcb,(by show 0<1000;decide),?_⟩;refine⟨_,rfl,_,rfl,x,_,dx,_,rfl,zga,T.zob,T.znf,(by show 1<1000;decide),?_⟩;refine⟨_,rfl,_,rfl,x,_,dx,_,rfl,zga,T.zob,T.zdd,(by rw[zuo,zzj zmsb,zuo];show 2<1000;decide),?_⟩;show Q .non _
 rw[zuk,zuk,zgmb];exact q
def TkAt (H:Hp)(l:Addr)(fl:List (Str×Wv)):Prop:=∃as:List Addr,H l=some (.lst (as.map V.ref))∧as.length=fl.length∧∀(i:Nat) a (x:Str×Wv),as[i]?=some a->fl[i]?=some x->H a=some (.tup [.str x.1,valV x.2])
theorem TkAt.same {H H':Hp}{l:Addr}{fl:List (Str×Wv)}(h:TkAt H l fl)(s:Same H H'):TkAt H' l fl:=by
 obtain⟨as,h1,h2,h3⟩:=h;exact⟨as,s _ _ h1,h2,λi a x e1 e2=>s _ _ (h3 i a x e1 e2)⟩
theorem TkAt.but {H H':Hp}{l p C dy wl:Addr}{k:Int}{fl:List (Str×Wv)}(h:TkAt H l fl)(b:But p H H')(hp:H p=some (.ins C dy (wfs wl k))):TkAt H' l fl:=by
 obtain⟨as,h1,h2,h3⟩:=h;exact⟨as,b _ _ (zel h1 hp (by intro z;cases z)) h1,h2,λi a x e1 e2=>b _ _ (zel (h3 i a x e1 e2) hp (by intro z;cases z)) (h3 i a x e1 e2)⟩
theorem TkAt.snoc {H:Hp}{l a:Addr}{fl:List (Str×Wv)}{x:Str×Wv}(h:TkAt H l fl)(ha:H a=some (.tup [.str x.1,valV x.2])){as:List Addr}(hl:H l=some (.lst (as.map V.ref))):TkAt (upd H l (.lst (as.map V.ref++[.ref a]))) l (fl++[x]):=by
 obtain⟨as',h1,h2,h3⟩:=h;have e:as'=as:=by
  rw[h1] at hl;injection hl with hl
  injection hl with hl
  exact List.map_inj_right (λx y z=>by injection z) |>.mp hl
 subst e;refine⟨as'++[a],?_,?_,λi b y e1 e2=>?_⟩
 ·rw[zga,yfb];rfl
 ·rw[yea,yea,h2];rfl
 ·by_cases hi:i<as'.length
  ·rw[yzd hi] at e1;rw[yzd (by omega)] at e2;have z:=h3 i b y e1 e2;rw[zza (zel z h1 (by intro z;cases z))];exact z
  ·have hi2:i<(as'++[a]).length:=(yfa.mp e1).1;rw[yea,yad] at hi2;have ei:i=as'.length:=(by omega);rw[ywb (by omega),ei,yli] at e1;rw[ywb (by omega),ei,h2,yli] at e2;cases e1;cases e2;rw[zza (zel ha h1 (by intro z;cases z))];exact ha
def zjob (D:Addr):Sp:=λvs H Q _=>Ex2 λl (y:Wh)=>vs=[.ref l]∧TkAt H l y.flat∧y.size≤9∧∀v H',Same H H'->IsW D H' v y->Q v H'
def spTV (C:Addr):Sp:=λvs H Q _=>Ex5 λp (ws rest:List Str) (k:Nat) (y:Wh)=>vs=[.ref p,.str y.word]∧WAt C H p ws k∧y.ok∧ws.drop k=y.val.words++rest∧∀H',WAt C H' p ws (k+y.val.words.length)->But p H H'->Q (valV y.val) H'
def spTW (C D:Addr):Sp:=λvs H Q _=>Ex5 λp (ws rest:List Str) (k:Nat) (y:Wh)=>vs=[.ref p]∧WAt C H p ws k∧y.ok∧y.size≤9∧ws.drop k=y.words++rest∧∀v H',WAt C H' p ws (k+y.words.length)->But p H H'->IsW D H' v y->Q v H'
theorem zzb {ws rest:List Str}{k:Nat}{u:Str}(h:ws.drop k=u::rest):ws[k]?=some u∧ws.drop (k+1)=rest:=by
 constructor
 ·have e:(ws.drop k)[0]?=some u:=by rw[h];rfl
  rw[yff] at e
  simpa using e
 ·rw[← yfi,h];rfl
theorem zsv (T:Tx K mg):FnOk P w K mg base CX0 4 T.zce.f T.zce.d zml (spTV T.zsb):=by
 refine T.zce.ok zmv ?_;rintro f c A o s H vs Q E hr ⟨p,ws,rest,k,y,rfl,W,ok,hd,q⟩ X;refine⟨_,  (zba (zwb (zma zqc (pv 1) zna (zwa _))
   (zda (zqa (zjd (pv 0) T.zgb T.zub.M (zbe T) hr (zre T) .nil zva)))
   zsa)
  (zba (zwb (zma zqc (pv 1) zna (zwa _))
   (zda (zqa (zjd (pv 0) T.zgb T.zbb.M (zdc T) hr (zic T) .nil zva)))
   zsa)
  (zda (zqa zcg)))),?_⟩
 obtain⟨dx,l,h1,h2⟩:=id W;refine⟨_,rfl,rfl,_,rfl,?_⟩;cases y with
 | mark n =>
  refine iteT ?_;refine⟨_,rfl,p,dx,_,rfl,h1,zlc _ _ (by decide +kernel) (by decide +kernel),p,ws,k,n,rfl,W,(zzb hd).1,ok,λH1 W1 B1=>?_⟩;exact q H1 W1 B1
 | force i =>
  refine iteF ?_;refine⟨_,rfl,rfl,_,rfl,iteT ?_⟩;refine⟨_,rfl,p,dx,_,rfl,h1,zlc _ _ (by decide +kernel) (by decide +kernel),p,ws,k,i,rfl,W,(zzb hd).1,ok,λH1 W1 B1=>?_⟩;exact q H1 W1 B1
 | _=>exact iteF ⟨_,rfl,rfl,_,rfl,iteF (q H W (But.refl p H))⟩
theorem znlb (T:Tx K mg)(kb:K.In base):FnOk P w K mg base CX0 4 T.zim.f T.zim.d zlcb (zjob T.ztb):=by
 refine T.zim.ok zvl ?_;rintro f c A o s H vs Q E hr ⟨l,y,rfl,⟨as,h1,h2,h3⟩,hs,q⟩ X;refine⟨_,  (zba (zoa (i:=1) zvl.nd rfl (.inl rfl) (zuc zca))
  (zba (zzh yxb rfl (zbbb rfl T.zul (zaa (pv 0) zca)) (znj (n:=2) rfl (zab (zua (i:=2) zvl.nd rfl (.inl rfl)) (zab (zua (i:=3) zvl.nd rfl (.inl rfl)) zbg)))
   (zba (zoa (i:=4) zvl.nd rfl (.inl rfl) (zjb (zknb (zgr T kb)) (zdg (v:=.ref T.ztm) rfl T.zdp rfl) (pv 2) (λ_ _=>rfl)))
   (zda (zoa (i:=1) zvl.nd rfl (.inl rfl) (zcc zou (zuc (zaa (zrv T.zgd.M (zgpb T) hr rfl T.zfnb (zat T) .nil zva (zaa (pv 2) (zaa (pv 3) (zaa (zyd zsh rfl T.zsk ysm (zaa (zsg zkm (pv 1) zfj (zej (pv 4))) zca)) zca)))) zca)) (zsg zkm (pv 1) (zej (pv 4)) zfj))))))
  (zda (zqa (zjb zkc (pv 1) zfa (λ_ _=>rfl)))))),?_⟩
 refine⟨sz0,λw0 hw0=>?_⟩;have S0:Same H (upd H w0 (.lst [])):=zxa hw0 _;have fl:=y.zqe;have len:(as.map V.ref).length=y.size:=by rw[yda,h2,fl]
 refine⟨_,rfl,l,as.map V.ref,rfl,SqL.of (S0 _ _ h1),?_⟩;refine zzpb (xs:=as.map V.ref) (λi σ H'=>Ex5 λwl vs o2 o3 o4=>σ=[some (.ref l),some (.ref wl),o2,o3,o4]∧Same H H'∧H' wl=some (.lst vs)∧IsWs T.ztb H' vs (pend y (y.size-i))) ⟨w0,[],_,_,_,rfl,S0,zga,by rw[ylm,zqv];exact .nil⟩ (λi σ H' _ ⟨_,_,_,_,_,_,S',_⟩=>SqL.of (S' _ _ h1)) ?_ ?_
 ·rintro i x σ H' hi hx ⟨wl,vs,o2,o3,o4,rfl,S1,e1,W1⟩;rw[len] at hi hx;have hj:y.size-1-i<y.size:=by omega
  obtain⟨z,t,ez⟩:=zcbb hj;have ef:=zthb ez;rw[yub] at hx;cases ea:as[y.size-1-i]? with
  | none =>
   rw[ea] at hx;cases hx
  | some a =>
  rw[ea] at hx;cases hx;have ha:=S1 _ _ (h3 _ _ _ ea ef);have ep:pend y (y.size-i)=z.parts++t:=by
   rw[show y.size-i=(y.size-1-i)+1 by omega];show step (pend y (y.size-1-i))=_
   rw[ez];rfl
  rw[ep] at W1;obtain⟨Wp,Wt⟩:=W1.split;have vl:=W1.length;rw[yea] at vl;have szp:=zes y (y.size-i);have lez:(z.parts++t).length≤zqn (z.parts++t):=by
   have go:∀l:List Wh,l.length≤zqn l:=by
    intro l
    induction l with
    | nil=>exact ylb _
    | cons x r ih =>
     have e2:zqn (x::r)=x.size+zqn r:=(by simp[zqn]);have:=x.size_pos;rw[e2,yha];omega
   exact go _
  rw[ep] at szp;rw[yea] at lez;refine⟨a,_,rfl,SqT.of ha,rfl,_,_,rfl,_,_,rfl,rfl,?_⟩;refine⟨_,rfl,_,_,rfl,rfl,zudb z,?_⟩;refine⟨_,rfl,_,rfl,_,rfl,_,rfl,_,rfl,wl,vs,rfl,SqL.of e1,λs1 hs1=>?_⟩;have S2:=zxa hs1 (.lst (cutV vs none (some ((z.parts.length:Nat):Int))));refine⟨s1,_,rfl,.inl ⟨SqL.of zga,λtp htp=>?_⟩⟩;have S3:=zxa htp (.tup (cutV vs none (some ((z.parts.length:Nat):Int))));intro x dx nx ndx nex;refine⟨x,dx,tp,z.word,valV z.val,rfl,zga,rfl,?_⟩;rw[zuk];have etp:=zka (b:=x) (zga (H:=upd H' s1 (.lst (cutV vs none (some ((z.parts.length:Nat):Int))))) (a:=tp) (o:=.tup (cutV vs none (some ((z.parts.length:Nat):Int))))) nx;have etd:=zka (b:=dx) (zga (H:=upd H' s1 (.lst (cutV vs none (some ((z.parts.length:Nat):Int))))) (a:=tp) (o:=.tup (cutV vs none (some ((z.parts.length:Nat):Int))))) ndx;generalize hH3:upd (upd H' s1 (.lst (cutV vs none (some ((z.parts.length:Nat):Int))))) tp (.tup (cutV vs none (some ((z.parts.length:Nat):Int))))=H3 at *;have e3:H3 tp=some (.tup (vs.take z.parts.length)):=by rw[← hH3,zga,zoz]
  have S4:Same H3 (upd (upd H3 dx (.own x)) x (.ins T.ztb dx (hfs z.word (valV z.val) tp))):=λb o e=>by
   rw[zza (zka e nx),zza (zka e ndx)];exact e
  have e4:upd (upd H3 dx (.own x)) x (.ins T.ztb dx (hfs z.word (valV z.val) tp)) x=some (.ins T.ztb dx (hfs z.word (valV z.val) tp)):=zga;generalize upd (upd H3 dx (.own x)) x (.ins T.ztb dx (hfs z.word (valV z.val) tp))=H4 at *;have S14:Same H' H4:=S2.trans (S3.trans S4);refine⟨sz1,λq1 hq1=>?_⟩;have S5:=zxa hq1 (.lst [.ref x]);refine⟨_,rfl,_,rfl,_,rfl,wl,vs,rfl,SqL.of (S5 _ _ (S14 _ _ e1)),λs2 hs2=>?_⟩;have e5:upd H4 q1 (.lst [.ref x]) q1=some (.lst [.ref x]):=zga;generalize upd H4 q1 (.lst [.ref x])=H5 at *;have S6:=zxa hs2 (.lst (cutV vs (some ((z.parts.length:Nat):Int)) none));have e6:upd H5 s2 (.lst (cutV vs (some ((z.parts.length:Nat):Int)) none)) s2=some (.lst (vs.drop z.parts.length)):=by rw[zga,zqj]
  generalize upd H5 s2 (.lst (cutV vs (some ((z.parts.length:Nat):Int)) none))=H6 at *;refine⟨q1,s2,_,_,rfl,rfl,S6 _ _ e5,e6,?_,λr hr'=>?_⟩
  ·rw[yud,yad];exact small (by omega)
  have S7:=zxa hr' (.lst ([.ref x]++vs.drop z.parts.length));have S37:Same H3 (upd H6 r (.lst ([.ref x]++vs.drop z.parts.length))):=S4.trans (S5.trans (S6.trans S7));have S17:Same H' (upd H6 r (.lst ([.ref x]++vs.drop z.parts.length))):=S14.trans (S5.trans (S6.trans S7));refine⟨r,_,_,_,_,rfl,S1.trans S17,zga,?_⟩;rw[show y.size-(i+1)=y.size-1-i by omega,ez];exact .cons (.mk ((S5.trans (S6.trans S7)) _ _ e4) (S37 _ _ e3) (Wp.same S17)) (Wt.same S17)
 ·rintro σ H' ⟨wl,vs,o2,o3,o4,rfl,S1,e1,W1⟩;rw[len,yli] at W1;have W1':IsWs T.ztb H' vs [y]:=W1;cases W1' with
  | cons hv ht =>
  cases ht;exact⟨_,rfl,wl,_,_,_,rfl,rfl,SqL.of e1,rfl,q _ H' S1 hv⟩
theorem zynb {y z:Wh}{t:List Wh}{j:Nat}(e:pend y j=z::t):pend y (j+1)=z.parts++t:=by
 show step (pend y j)=_
 rw[e];rfl
theorem zajb {y:Wh}{j:Nat}{x:Str×Wv}(h:y.flat[j]?=some x):y.flat.take j++[x]=y.flat.take (j+1):=by
 rw[yjb,h];rfl
theorem zch (T:Tx K mg)(kb:K.In base):FnOk P w K mg base CX0 5 T.zfc.f T.zfc.d zum (spTW T.zsb T.ztb):=by
 refine T.zfc.ok zxg ?_;rintro f c A o s H vs Q E hr ⟨p,ws,rest,k,y,rfl,W,ok,hs,hd,q⟩ X;refine⟨_,  (zba (zoa (i:=1) zxg.nd rfl (.inl rfl) (zuc zca))
  (zba (zoa (i:=2) zxg.nd rfl (.inl rfl) zfa)
  (zba (zrdb yxb (zma zut (pv 2) zfa (zwa _))
   (zba (zwb (zma zqc (zkb zdb rfl T.zsf ymb (zaa (pv 1) zca)) (zdg (v:=.int 9) rfl T.zzi ⟨_,rfl⟩) (zwa _))
    (zda zag)
    zsa)
   (zba (zoa (i:=3) zxg.nd rfl (.inl rfl) (zjd (pv 0) T.zgb T.zvc.M (zfg T).up hr (zgh T) .nil zva))
   (zba (zwb (zma (zfy (zgr T kb)) (pv 3) (zdg (v:=.ref T.ztm) rfl T.zdp rfl) rfl)
    (zda zag)
    zsa)
   (zba (zod (zai ycb yya yza zzc (pv 1) (zaa (zlb (zaa (pv 3) (zaa (zja (zsv T) hr rfl T.zce.m T.zce.F.kp (zxz T) .nil zva (zaa (pv 0) (zaa (pv 3) zca))) zca))) zca)))
   (zda (zyrb (i:=2) zxg.nd rfl (.inl rfl) (zcc zbi (zjb (zknb (zgr T kb)) (zdg (v:=.ref T.ztm) rfl T.zdp rfl) (pv 3) (λ_ _=>rfl)) zfa) zgtb)))))))
  (zda (zqa (zja (znlb T kb) hr rfl T.zim.m T.zim.F.kp (zlqb T) .nil zva (zaa (pv 1) zca))))))),?_⟩
 refine⟨sz0,λl hl=>?_⟩;have fl:=y.zqe;refine⟨λm σ H'=>Ex3 λ(j k':Nat) o=>m=y.size-j∧σ=[some (.ref p),some (.ref l),some (.int ((pend y j).length:Nat)),o]∧j≤y.size∧But p H H'∧WAt T.zsb H' p ws k'∧ws.drop k'=ztk (pend y j)++rest∧k'+(ztk (pend y j)).length=k+y.words.length∧TkAt H' l (y.flat.take j),⟨_,0,k,none,rfl,rfl,ylb _,But.laid hl,W.at (zxa hl _),?_,?_,[],zga,rfl,?_⟩,?_⟩
 ·show _=ztk [y]++rest;rw[zeu];exact hd
 ·show _+(ztk [y]).length=_;rw[zeu]
 ·intro i a x e;simp at e
 rintro m σ H' ⟨j,k',o,rfl,rfl,hj,B,W',hd',hk',TA⟩;refine⟨_,rfl,_,_,rfl,rfl,_,rfl,?_⟩;obtain⟨as,t1,t2,t3⟩:=id TA;rw[yib] at t2;refine ite2 (λc=>?_) (λc=>?_)
 ·have c':(0:Int)<(((pend y j).length:Nat):Int):=of_decide_eq_true c;have hjl:j<y.size:=by
   rcases ygf j y.size with z|z
   ·exact z
   ·have e:j=y.size:=by omega
    rw[e,zqv] at c';exact absurd c' (by simp)
  obtain⟨z,t,ez⟩:=zcbb hjl;have zok:z.ok:=zshb ok j z (by rw[ez];exact yka);have ef:=zthb ez;rw[ez,zqab] at hd' hk';have es:=zynb ez;obtain⟨u1,u2⟩:=zzb (rest:=(z.val.words++ztk (z.parts++t))++rest) hd';have u2':ws.drop (k'+1)=z.val.words++(ztk (z.parts++t)++rest):=by rw[u2,yed]
  have kws:k'<ws.length:=(yfa.mp u1).1;refine⟨_,fun σ' H' n=>n,?_⟩;refine⟨_,rfl,l,_,rfl,.inl (SqL.of t1),rfl,_,rfl,?_⟩;refine ite2 (λc1=>?_) (λc1=>?_)
  ·exfalso;have c1':=of_decide_eq_true c1;injection c1' with c1'
   rw[yda] at c1';omega
  obtain⟨dx,wl,w1,w2⟩:=id W';refine⟨_,rfl,p,dx,_,rfl,w1,zlc _ _ (by decide +kernel) (by decide +kernel),p,ws,k',z.word,rfl,W',u1,λH1 W1 B1=>?_⟩;refine⟨_,rfl,_,rfl,rfl,_,rfl,?_⟩;rw[zcpb];refine iteF ?_;have TA1:=TA.but B1 w1;obtain⟨dx1,wl1,w11,w12⟩:=id W1;have t11:=B1 _ _ (zel t1 w1 (by intro z;cases z)) t1;refine⟨_,rfl,.inl ⟨rfl,_,SqL.of t11⟩,_,rfl,_,rfl,_,rfl,p,ws,_,k'+1,z,rfl,W1,zok,u2',λH2 W2 B2=>?_⟩;have TA2:=TA1.but B2 w11;have t12:=B2 _ _ (zel t11 w11 (by intro z;cases z)) t11;refine⟨sz2,λa ha=>?_⟩;have S3:=zxa ha (.tup [.str z.word,valV z.val]);have TA3:=TA2.same S3;have t13:=S3 _ _ t12;have e3:upd H2 a (.tup [.str z.word,valV z.val]) a=some (.tup [.str z.word,valV z.val]):=zga;generalize upd H2 a (.tup [.str z.word,valV z.val])=H3 at *;have W3:=W2.at S3;obtain⟨dx3,wl3,w31,w32⟩:=id W3;have npl:p≠l:=zel w31 t13 (by intro z;cases z);have nwl:wl3≠l:=by
   intro z;rw[z,t13] at w32;injection w32 with w32
   injection w32 with w32
   cases ws with
   | nil=>exact absurd kws (by simp)
   | cons u r =>
    cases as with
    | nil=>simp at w32
    | cons b r'=>simp at w32
  refine⟨l,_,_,rfl,rfl,t13,?_,?_⟩
  ·rw[yda];exact zjc (by omega)
  have TA4:=TA3.snoc (x:=(z.word,z.val)) e3 t13;rw[zajb ef] at TA4;have W4:WAt T.zsb (upd H3 l (.lst (as.map V.ref++[.ref a]))) p ws (k'+1+z.val.words.length):=⟨dx3,wl3,by rw[zza npl];exact w31,by rw[zza nwl];exact w32⟩;have B4:But p H (upd H3 l (.lst (as.map V.ref++[.ref a]))):=λb o n e=>by
   rw[zza (zka e hl)];exact S3 _ _ (B2 _ _ n (B1 _ _ n (B _ _ n e)))
  have em:(((pend y j).length:Nat):Int)+(((z.parts.length:Nat):Int)-1)=(((pend y (j+1)).length:Nat):Int):=by
   rw[ez,es,yha,yea];omega
  refine⟨_,rfl,_,rfl,_,_,rfl,rfl,zudb z,_,_,rfl,rfl,_,_,rfl,rfl,?_⟩;refine⟨y.size-(j+1),by omega,j+1,k'+1+z.val.words.length,_,rfl,(by rw[← em];rfl),hjl,B4,W4,?_,?_,TA4⟩
  ·rw[es,← yfi,u2',yvj]
  ·rw[es];rw[yha,yea] at hk';omega
 ·have c':¬ (0:Int)<(((pend y j).length:Nat):Int):=of_decide_eq_false (yqd.mpr c);have ej:j=y.size:=by
   rcases ygf j y.size with z|z
   ·obtain⟨z,t,ez⟩:=zcbb z;rw[ez,yha] at c';omega
   ·omega
  subst ej;rw[zqv] at hk';rw[yua (by omega)] at TA;have hk2:k'=k+y.words.length:=hk';subst hk2;refine⟨_,rfl,l,y,rfl,TA,hs,λv H2 S2 IW=>?_⟩;exact q v H2 (W'.at S2) (B.of_same S2) IW
theorem ztib {u:Str}:∀{ss:List Str},u∈ss->inV (.str u) (ss.map V.str)=true
 | x::ss,h=>by
  show (eqV (.str x) (.str u)||inV (.str u) (ss.map V.str))=true
  rcases yja.mp h with rfl|h
  ·have e:eqV (.str u) (.str u)=true:=by show (u==u)=true;simp
   rw[e];rfl
  ·rw[ztib h,Bool.or_true]
theorem zmz:∀ss:List Str,(ss.map V.str).all zyt=true
 | []=>rfl
 | _::ss=>zmz ss
def Kn (K:yba)(H:Hp)(t:Addr)(ss:List Str):Prop:=TupK K t ss∨H t=some (.tup (ss.map V.str))
theorem Kn.sq {K:yba}{H H':Hp}{t p C dx l:Addr}{k:Int}{ss:List Str}(h:Kn K H t ss)(hz:ss.length≤1000)(hp:H p=some (.ins C dx (wfs l k)))(b:But p H H'):SqT K H' t (ss.map V.str):=by
 rcases h with h|h
 ·exact h.sq hz H'
 ·exact SqT.of (b _ _ (zel h hp (by intro z;cases z)) h)
theorem zow {ws xs:List Str}{k:Nat}(h:ws.drop k=xs)(hx:xs≠[]):k+xs.length=ws.length:=by
 have e:=congrArg yag h;rw[yud] at e;have:xs.length≠0:=λz=>hx (List.eq_nil_of_length_eq_zero z);omega
theorem zlo {ws xs ys:List Str}{k:Nat}(h:ws.drop k=xs++ys):ws.drop (k+xs.length)=ys:=by
 rw[← yfi,h,yvj]
def amtV:Wv->V
 | .non=>.int 0
 | .name n=>.str n
 | .num i=>.int i
def HvAt (D:Addr)(H:Hp)(x:V):Hv->Prop
 | .v y=>x=valV y
 | .w y=>IsW D H x y
def zqo (D:Addr)(H:Hp)(v:V)(d:Deed):Prop:=Ex2 λa x=>v = .ref a∧H a=some (.tup [.str d.each,.str d.kind,amtV d.amt,x])∧IsW D H x d.whom
def zsj (D:Addr)(H:Hp)(v:V):Rule->Prop
 | .hold w y z=>Ex3 λa x u=>v = .ref a∧H a=some (.tup [.str "hold",.str w,x,u])∧HvAt D H x y∧IsW D H u z
 | .wen k y d=>Ex3 λa x u=>v = .ref a∧H a=some (.tup [.str "when",.str k,x,u])∧IsW D H x y∧zqo D H u d
 | .instead k y w z=>Ex2 λa x=>v = .ref a∧H a=some (.tup [.str "instead",.str k,x,.str w,valV z])∧IsW D H x y
 | .may c d=>Ex2 λa u=>v = .ref a∧H a=some (.tup [.str "may",.int c,u])∧zqo D H u d
theorem HvAt.same {D:Addr}{H H':Hp}(s:Same H H'){x:V}:∀{y:Hv},HvAt D H x y->HvAt D H' x y
 | .v _,h=>h
 | .w _,h=>IsW.same s h
theorem HvAt.but {D C p dy l:Addr}{k:Int}{H H':Hp}(b:But p H H')(hp:H p=some (.ins C dy (wfs l k))){x:V}:∀{y:Hv},HvAt D H x y->HvAt D H' x y
 | .v _,h=>h
 | .w _,h=>IsW.but b hp h
theorem zqo.same {D:Addr}{H H':Hp}(s:Same H H'){v:V}{d:Deed}(h:zqo D H v d):zqo D H' v d:=by
 obtain⟨a,x,e,h1,h2⟩:=h;exact⟨a,x,e,s _ _ h1,h2.same s⟩
theorem zsj.same {D:Addr}{H H':Hp}(s:Same H H'){v:V}:∀{r:Rule},zsj D H v r->zsj D H' v r
 | .hold w y z,⟨a,x,u,e,h,p,q⟩=>⟨a,x,u,e,s _ _ h,p.same s,q.same s⟩
 | .wen k y d,⟨a,x,u,e,h,p,q⟩=>⟨a,x,u,e,s _ _ h,p.same s,q.same s⟩
 | .instead k y w z,⟨a,x,e,h,p⟩=>⟨a,x,e,s _ _ h,p.same s⟩
 | .may c d,⟨a,u,e,h,p⟩=>⟨a,u,e,s _ _ h,p.same s⟩
theorem zqgb {k:Str}(h:k∈zqb):ydn k zcdb=some (.tup ((turns k).map PyData.str)):=by
 simp only[zqb,yja,ycd,or_false] at h
 rcases h with rfl|rfl|rfl|rfl|rfl|rfl|rfl<;>rfl
theorem zpgb (k:Str):(turns k).length≤1000:=by
 unfold turns
 repeat' split
 all_goals decide
def ziub (K:yba)(C:Addr):Sp:=λvs H Q _=>Ex6 λp t (ws:List Str) (k:Nat) (u:Str) (ss:List Str)=>vs=[.ref p,.ref t]∧WAt C H p ws k∧ws[k]?=some u∧u∈ss∧ss.length≤1000∧Kn K H t ss∧∀H',WAt C H' p ws (k+1)->But p H H'->Q (.str u) H'
def zjub (C:Addr):Sp:=λvs H Q _=>Ex6 λp (ws rest:List Str) (k:Nat) (u:Str) (v:Wv)=>vs=[.ref p,.str u]∧WAt C H p ws k∧zqp u v∧ws.drop k=v.words++rest∧∀H',WAt C H' p ws (k+v.words.length)->But p H H'->Q (amtV v) H'
def zlrb (C:Addr):Sp:=λvs H Q _=>Ex5 λp (ws:List Str) (k:Nat) (u:Str) (v:Wv)=>vs=[.ref p,.str u]∧WAt C H p ws k∧TurnOk u v∧ws.drop k=v.words∧∀H',WAt C H' p ws (k+v.words.length)->But p H H'->Q (valV v) H'
def zskb (C D:Addr):Sp:=λvs H Q _=>Ex6 λp (ws rest:List Str) (k:Nat) (u:Str) (v:Hv)=>vs=[.ref p,.str u]∧WAt C H p ws k∧zji u v∧ws.drop k=v.words++rest∧∀x H',WAt C H' p ws (k+v.words.length)->But p H H'->HvAt D H' x v->Q x H'
def zrrb (C D:Addr):Sp:=λvs H Q _=>Ex4 λp (ws:List Str) (k:Nat) (d:Deed)=>vs=[.ref p]∧WAt C H p ws k∧d.ok∧ws.drop k=d.words∧∀v H',WAt C H' p ws ws.length->But p H H'->zqo D H' v d->Q v H'
def zjv (C D:Addr)(f:Rule->Prop):Sp:=λvs H Q _=>Ex4 λp (ws:List Str) (k:Nat) (r:Rule)=>vs=[.ref p]∧f r∧WAt C H p ws k∧r.ok∧ws.drop k=r.words.drop 1∧∀v H',WAt C H' p ws ws.length->But p H H'->zsj D H' v r->Q v H'
theorem zfb (T:Tx K mg):FnOk P w K mg base CX0 3 T.zra.f T.zra.d zlf (ziub K T.zsb):=by
 refine T.zra.ok zqh ?_;rintro f c A o s H vs Q E hr ⟨p,t,ws,k,u,ss,rfl,W,hu,hm,hz,hk,q⟩ X;refine⟨_,  (zba (zoa (i:=2) zqh.nd rfl (.inl rfl) (zjd (pv 0) T.zgb T.zvc.M (zfg T) hr (zgh T) .nil zva))
  (zba (zwb (zma zgy (pv 2) (pv 1) rfl)
   (zda zag)
   zsa)
  (zda (zqa (pv 2))))),?_⟩
 obtain⟨dx,l,h1,h2⟩:=id W;refine⟨_,rfl,p,dx,_,rfl,h1,zlc _ _ (by decide +kernel) (by decide +kernel),p,ws,k,u,rfl,W,hu,λH1 W1 B1=>?_⟩;refine⟨_,rfl,_,rfl,t,_,rfl,.inr (hk.sq hz h1 B1),rfl,zmz ss,_,rfl,?_⟩;have e:(if true=true then !inV (.str u) (ss.map V.str) else inV (.str u) (ss.map V.str))=false:=by rw[ztib hm];rfl
 refine ite2 (λc=>absurd (e.symm.trans c) ywa) (λ_=>?_);exact⟨_,rfl,q H1 W1 B1⟩
theorem zvt (T:Tx K mg):FnOk P w K mg base CX0 4 T.zsd.f T.zsd.d zik (zjub T.zsb):=by
 refine T.zsd.ok zrt ?_;rintro f c A o s H vs Q E hr ⟨p,ws,rest,k,u,v,rfl,W,ok,hd,q⟩ X;refine⟨_,  (zba (zwb (zma zqc (pv 1) zna (zwa _))
   (zda (zqa zfa))
   zsa)
  (zba (zwb (zma zme (pv 1) (zlb (zaa zna (zaa zna zca))) rfl)
   (zda (zqa (zjd (pv 0) T.zgb T.zub.M (zbe T) hr (zre T) .nil zva)))
   zsa)
  (zda (zqa (zjd (pv 0) T.zgb T.zbb.M (zdc T) hr (zic T) .nil zva))))),?_⟩
 obtain⟨dx,l,h1,h2⟩:=id W;have nam:∀{n:Str},zoe n->ws.drop k=n::rest->∀{a:Addr} {o:HO},H a=none->(∀H',WAt T.zsb H' p ws (k+1)->But p H H'->Q (.str n) H')->Ex4 λp' (ws':List Str) (k':Nat) (u':Str)=>[V.ref p]=[.ref p']∧WAt T.zsb (upd H a o) p' ws' k'∧ws'[k']?=some u'∧zoe u'∧∀H',WAt T.zsb H' p' ws' (k'+1)->But p' (upd H a o) H'->Q (.str u') H' :=
  λ{_} hn e {a o} ha q=>⟨p,ws,k,_,rfl,W.at (zxa ha o),(zzb e).1,hn,λH1 W1 B1=>q H1 W1 ((But.laid ha).trans B1)⟩
 have num:∀{i:Nat},i<1000->ws.drop k=(toString (i:Int):Str)::rest->∀{a:Addr} {o:HO},H a=none->(∀H',WAt T.zsb H' p ws (k+1)->But p H H'->Q (.int i) H')->Ex4 λp' (ws':List Str) (k' i':Nat)=>[V.ref p]=[.ref p']∧WAt T.zsb (upd H a o) p' ws' k'∧ws'[k']?=some (toString (i':Int):Str)∧i'<1000∧∀H',WAt T.zsb H' p' ws' (k'+1)->But p' (upd H a o) H'->Q (.int i') H' :=
  λ{_} hn e {a o} ha q=>⟨p,ws,k,_,rfl,W.at (zxa ha o),(zzb e).1,hn,λH1 W1 B1=>q H1 W1 ((But.laid ha).trans B1)⟩
 have at1:∀{a:Addr} {o:HO},H a=none->upd H a o p=some (.ins T.zsb dx (wfs l (k:Int))):=λ{a o} ha=>by rw[zza (zka h1 ha)];exact h1
 refine⟨_,rfl,rfl,_,rfl,?_⟩;cases ok with
 | leave=>exact iteT (q H W (But.refl p H))
 | gain hn =>
  refine iteF ⟨_,rfl,sz2,λa ha=>⟨a,_,rfl,.inr (SqT.of zga),rfl,rfl,_,rfl,iteT ?_⟩⟩;exact⟨_,rfl,p,dx,_,rfl,at1 ha,zlc _ _ (by decide +kernel) (by decide +kernel),nam hn hd ha q⟩
 | lack hn =>
  refine iteF ⟨_,rfl,sz2,λa ha=>⟨a,_,rfl,.inr (SqT.of zga),rfl,rfl,_,rfl,iteT ?_⟩⟩;exact⟨_,rfl,p,dx,_,rfl,at1 ha,zlc _ _ (by decide +kernel) (by decide +kernel),nam hn hd ha q⟩
 | hurt hn =>
  refine iteF ⟨_,rfl,sz2,λa ha=>⟨a,_,rfl,.inr (SqT.of zga),rfl,rfl,_,rfl,iteF ?_⟩⟩;exact⟨_,rfl,p,dx,_,rfl,at1 ha,zlc _ _ (by decide +kernel) (by decide +kernel),num hn hd ha q⟩
 | lose hn =>
  refine iteF ⟨_,rfl,sz2,λa ha=>⟨a,_,rfl,.inr (SqT.of zga),rfl,rfl,_,rfl,iteF ?_⟩⟩;exact⟨_,rfl,p,dx,_,rfl,at1 ha,zlc _ _ (by decide +kernel) (by decide +kernel),num hn hd ha q⟩
 | score hn =>
  refine iteF ⟨_,rfl,sz2,λa ha=>⟨a,_,rfl,.inr (SqT.of zga),rfl,rfl,_,rfl,iteF ?_⟩⟩;exact⟨_,rfl,p,dx,_,rfl,at1 ha,zlc _ _ (by decide +kernel) (by decide +kernel),num hn hd ha q⟩
 | draw hn =>
  refine iteF ⟨_,rfl,sz2,λa ha=>⟨a,_,rfl,.inr (SqT.of zga),rfl,rfl,_,rfl,iteF ?_⟩⟩;exact⟨_,rfl,p,dx,_,rfl,at1 ha,zlc _ _ (by decide +kernel) (by decide +kernel),num hn hd ha q⟩
theorem zbo (T:Tx K mg):FnOk P w K mg base CX0 4 T.zrc.f T.zrc.d zng (zlrb T.zsb):=by
 refine T.zrc.ok zsn ?_;rintro f c A o s H vs Q E hr ⟨p,ws,k,u,v,rfl,W,ok,hd,q⟩ X;refine⟨_,  (zba (zwb (zma zme (pv 1) (zlb (zaa zna (zaa zna zca))) rfl)
   (zda (zqa (zjd (pv 0) T.zgb T.zbb.M (zdc T) hr (zic T) .nil zva)))
   zsa)
  (zba (zwb (zma zqc (pv 1) zna (zwa _))
   (zda (zqa (zle (pv 0) T.zgb T.zra.M (zfb T) hr (zib T) .nil zva (zaa (zdg (v:=.ref T.zvg) rfl T.zug rfl) zca))))
   zsa)
  (zda (zqa zcg)))),?_⟩
 obtain⟨dx,l,h1,h2⟩:=id W;refine⟨_,rfl,sz2,λa ha=>⟨a,_,rfl,.inr (SqT.of zga),rfl,rfl,_,rfl,?_⟩⟩;have S:=zxa ha (.tup [.str "less",.str "more"]);have W1:=W.at S;have at1:upd H a (.tup [.str "less",.str "more"]) p=some (.ins T.zsb dx (wfs l (k:Int))):=by rw[zza (zka h1 ha)];exact h1
 have B:But p H (upd H a (.tup [.str "less",.str "more"])):=But.laid ha;cases ok with
 | none=>exact iteF ⟨_,rfl,rfl,_,rfl,iteF (q _ W1 B)⟩
 | here=>exact iteF ⟨_,rfl,rfl,_,rfl,iteF (q _ W1 B)⟩
 | less hn =>
  refine iteT ?_;exact⟨_,rfl,p,dx,_,rfl,at1,zlc _ _ (by decide +kernel) (by decide +kernel),p,ws,k,_,rfl,W1,(zzb hd).1,hn,λH2 W2 B2=>q H2 W2 (B.trans B2)⟩
 | more hn =>
  refine iteT ?_;exact⟨_,rfl,p,dx,_,rfl,at1,zlc _ _ (by decide +kernel) (by decide +kernel),p,ws,k,_,rfl,W1,(zzb hd).1,hn,λH2 W2 B2=>q H2 W2 (B.trans B2)⟩
 | as hn =>
  refine iteF ⟨_,rfl,rfl,_,rfl,iteT ?_⟩;exact⟨_,rfl,p,dx,_,rfl,at1,zlc _ _ (by decide +kernel) (by decide +kernel),p,_,ws,k,_,ztc,rfl,W1,(zzb hd).1,hn,(by decide),.inl T.ztg,λH2 W2 B2=>q H2 W2 (B.trans B2)⟩
theorem zam (T:Tx K mg)(kb:K.In base):FnOk P w K mg base CX0 6 T.zgc.f T.zgc.d zkf (zskb T.zsb T.ztb):=by
 refine T.zgc.ok zzl ?_;rintro f c A o s H vs Q E hr ⟨p,ws,rest,k,u,v,rfl,W,ok,hd,q⟩ X;refine⟨_,  (zba (zwb (zma zme (pv 1) (zlb (zaa zna (zaa zna zca))) rfl)
   (zda (zqa (zjd (pv 0) T.zgb T.zub.M (zbe T).up hr (zre T) .nil zva)))
   zsa)
  (zba (zwb (zma zme (pv 1) (zlb (zaa zna (zaa zna (zaa zna zca)))) rfl)
   (zda (zqa (zjd (pv 0) T.zgb T.zbb.M (zdc T).up hr (zic T) .nil zva)))
   zsa)
  (zba (zwb (zma zqc (pv 1) zna (zwa _))
   (zda (zqa (zja (zch T kb) hr rfl T.zfc.m T.zfc.F.kp (zei T) .nil zva (zaa (pv 0) zca))))
   zsa)
  (zda (zqa zcg))))),?_⟩
 obtain⟨dx,l,h1,h2⟩:=id W;refine⟨_,rfl,sz2,λa ha=>⟨a,_,rfl,.inr (SqT.of zga),rfl,rfl,_,rfl,?_⟩⟩;have S:=zxa ha (.tup [.str "gain",.str "lack"]);have W1:=W.at S;have B:But p H (upd H a (.tup [.str "gain",.str "lack"])):=But.laid ha;generalize upd H a (.tup [.str "gain",.str "lack"])=H0 at *;obtain⟨dx1,l1,at1,_⟩:=id W1;have two:∀{b:Addr},H0 b=none->WAt T.zsb (upd H0 b (.tup [.str "be",.str "more",.str "less"])) p ws k∧But p H (upd H0 b (.tup [.str "be",.str "more",.str "less"])):=λ{b} hb=>⟨W1.at (zxa hb _),B.trans (But.laid hb)⟩;cases ok with
 | gain hn =>
  exact iteT ⟨_,rfl,p,dx1,_,rfl,at1,zlc _ _ (by decide +kernel) (by decide +kernel),p,ws,k,_,rfl,W1,(zzb hd).1,hn,λH2 W2 B2=>q _ H2 W2 (B.trans B2) rfl⟩
 | lack hn =>
  exact iteT ⟨_,rfl,p,dx1,_,rfl,at1,zlc _ _ (by decide +kernel) (by decide +kernel),p,ws,k,_,rfl,W1,(zzb hd).1,hn,λH2 W2 B2=>q _ H2 W2 (B.trans B2) rfl⟩
 | be hn =>
  refine iteF ⟨_,rfl,sz3,λb hb=>⟨b,_,rfl,.inr (SqT.of zga),rfl,rfl,_,rfl,iteT ?_⟩⟩;obtain⟨W3,B3⟩:=two hb;obtain⟨dx3,l3,at3,_⟩:=id W3;exact⟨_,rfl,p,dx3,_,rfl,at3,zlc _ _ (by decide +kernel) (by decide +kernel),p,ws,k,_,rfl,W3,(zzb hd).1,hn,λH2 W2 B2=>q _ H2 W2 (B3.trans B2) rfl⟩
 | more hn =>
  refine iteF ⟨_,rfl,sz3,λb hb=>⟨b,_,rfl,.inr (SqT.of zga),rfl,rfl,_,rfl,iteT ?_⟩⟩;obtain⟨W3,B3⟩:=two hb;obtain⟨dx3,l3,at3,_⟩:=id W3;exact⟨_,rfl,p,dx3,_,rfl,at3,zlc _ _ (by decide +kernel) (by decide +kernel),p,ws,k,_,rfl,W3,(zzb hd).1,hn,λH2 W2 B2=>q _ H2 W2 (B3.trans B2) rfl⟩
 | less hn =>
  refine iteF ⟨_,rfl,sz3,λb hb=>⟨b,_,rfl,.inr (SqT.of zga),rfl,rfl,_,rfl,iteT ?_⟩⟩;obtain⟨W3,B3⟩:=two hb;obtain⟨dx3,l3,at3,_⟩:=id W3;exact⟨_,rfl,p,dx3,_,rfl,at3,zlc _ _ (by decide +kernel) (by decide +kernel),p,ws,k,_,rfl,W3,(zzb hd).1,hn,λH2 W2 B2=>q _ H2 W2 (B3.trans B2) rfl⟩
 | per hn =>
  refine iteF ⟨_,rfl,sz3,λb hb=>⟨b,_,rfl,.inr (SqT.of zga),rfl,rfl,_,rfl,iteF ?_⟩⟩;obtain⟨W3,B3⟩:=two hb;exact⟨_,rfl,rfl,_,rfl,iteT ⟨_,rfl,p,ws,rest,k,_,rfl,W3,hn.1,hn.2,hd,λx H2 W2 B2 IW=>q x H2 W2 (B3.trans B2) IW⟩⟩
 | mute =>
  refine iteF ⟨_,rfl,sz3,λb hb=>⟨b,_,rfl,.inr (SqT.of zga),rfl,rfl,_,rfl,iteF ?_⟩⟩;obtain⟨W3,B3⟩:=two hb;exact⟨_,rfl,rfl,_,rfl,iteF (q _ _ W3 B3 rfl)⟩
 | steal =>
  refine iteF ⟨_,rfl,sz3,λb hb=>⟨b,_,rfl,.inr (SqT.of zga),rfl,rfl,_,rfl,iteF ?_⟩⟩;obtain⟨W3,B3⟩:=two hb;exact⟨_,rfl,rfl,_,rfl,iteF (q _ _ W3 B3 rfl)⟩
theorem ziq (T:Tx K mg)(kb:K.In base):FnOk P w K mg base CX0 6 T.zrd.f T.zrd.d zxm (zrrb T.zsb T.ztb):=by
 refine T.zrd.ok zyg ?_;rintro f c A o s H vs Q E hr ⟨p,ws,k,d,rfl,W,ok,hd,q⟩ X;refine⟨_,  (zba (zoa (i:=1) zyg.nd rfl (.inl rfl) (zle (pv 0) T.zgb T.zra.M (zfb T).up hr (zib T) .nil zva (zaa (zlb (zaa zna (zaa zna zca))) zca)))
  (zba (zoa (i:=2) zyg.nd rfl (.inl rfl) (zle (pv 0) T.zgb T.zra.M (zfb T).up hr (zib T) .nil zva (zaa (zdg (v:=.ref T.zih) rfl T.zeh rfl) zca)))
  (zba (zoa (i:=3) zyg.nd rfl (.inl rfl) (zja (zvt T).up hr rfl T.zsd.m T.zsd.F.kp (zsw T) .nil zva (zaa (pv 0) (zaa (pv 2) zca))))
  (zba (zoa (i:=4) zyg.nd rfl (.inl rfl) (zja (zch T kb) hr rfl T.zfc.m T.zfc.F.kp (zei T) .nil zva (zaa (pv 0) zca)))
  (zda (zqa (zlb (zaa (pv 1) (zaa (pv 2) (zaa (pv 3) (zaa (pv 4) zca))))))))))),?_⟩
 obtain⟨dx,l,h1,h2⟩:=id W;obtain⟨u1,hd1⟩:=zzb (show ws.drop k=d.each::(d.kind::(d.amt.words++d.whom.words)) from hd);obtain⟨u2,hd2⟩:=zzb hd1;have hd3:=zlo hd2;refine⟨_,rfl,p,dx,_,rfl,h1,zlc _ _ (by decide +kernel) (by decide +kernel),sz2,λa ha=>?_⟩;refine⟨p,a,ws,k,_,zdjb,rfl,W.at (zxa ha _),u1,ok.each,(by decide),.inr zga,λH1 W1 B1=>?_⟩;have B1':But p H H1:=(But.laid ha).trans B1;obtain⟨dx1,l1,at1,_⟩:=id W1;refine⟨_,rfl,p,dx1,_,rfl,at1,zlc _ _ (by decide +kernel) (by decide +kernel),p,_,ws,k+1,_,zqb,rfl,W1,u2,ok.amt.kind,(by decide),.inl T.zdh,λH2 W2 B2=>?_⟩;refine⟨_,rfl,_,rfl,p,ws,_,k+1+1,_,d.amt,rfl,W2,ok.amt,hd2,λH3 W3 B3=>?_⟩;refine⟨_,rfl,p,ws,[],_,d.whom,rfl,W3,ok.whom.1,ok.whom.2,(by rw[ytb];exact hd3),λv H4 W4 B4 IW=>?_⟩;refine⟨_,rfl,_,rfl,_,rfl,_,rfl,sz4,λb hb=>?_⟩;have en:=zow hd3 d.whom.zvd;rw[en] at W4;exact q _ _ (W4.at (zxa hb _)) ((B1'.trans (B2.trans (B3.trans B4))).trans (But.laid hb)) ⟨b,v,rfl,zga,IW.same (zxa hb _)⟩
def zetb:Rule->Prop
 | .hold _ _ _=>True
 | _=>False
def ztub:Rule->Prop
 | .wen _ _ _=>True
 | _=>False
def zrib:Rule->Prop
 | .instead _ _ _ _=>True
 | _=>False
def zuub:Rule->Prop
 | .may _ _=>True
 | _=>False
theorem zmy (T:Tx K mg)(kb:K.In base):FnOk P w K mg base CX0 7 T.zye.f T.zye.d zwm (zjv T.zsb T.ztb zetb):=by
 refine T.zye.ok zli ?_;rintro f c A o s H vs Q E hr ⟨p,ws,k,r,rfl,is,W,ok,hd,q⟩ X;refine⟨_,  (zba (zoa (i:=1) zli.nd rfl (.inl rfl) (zle (pv 0) T.zgb T.zra.M (zfb T).up hr (zib T) .nil zva (zaa (zdg (v:=.ref T.zpo) rfl T.zko rfl) zca)))
  (zba (zoa (i:=2) zli.nd rfl (.inl rfl) (zja (zam T kb) hr rfl T.zgc.m T.zgc.F.kp (zrm T) .nil zva (zaa (pv 0) (zaa (pv 1) zca))))
  (zba (zoa (i:=3) zli.nd rfl (.inl rfl) (zja (zch T kb).up hr rfl T.zfc.m T.zfc.F.kp (zei T) .nil zva (zaa (pv 0) zca)))
  (zda (zqa (zlb (zaa zna (zaa (pv 1) (zaa (pv 2) (zaa (pv 3) zca)))))))))),?_⟩
 cases r with
 | hold u v y =>
  obtain⟨dx,l,h1,h2⟩:=id W;obtain⟨ok1,ok2⟩:=ok;obtain⟨u1,hd1⟩:=zzb (show ws.drop k=u::(v.words++y.words) from hd);have hd2:=zlo hd1;refine⟨_,rfl,p,dx,_,rfl,h1,zlc _ _ (by decide +kernel) (by decide +kernel),p,_,ws,k,_,changes,rfl,W,u1,ok1.word,(by decide),.inl T.zfo,λH1 W1 B1=>?_⟩;refine⟨_,rfl,_,rfl,p,ws,y.words,k+1,_,v,rfl,W1,ok1,hd1,λx H2 W2 B2 HV=>?_⟩;obtain⟨dx2,l2,at2,_⟩:=id W2;refine⟨_,rfl,p,ws,[],_,y,rfl,W2,ok2.1,ok2.2,(by rw[ytb];exact hd2),λz H3 W3 B3 IW=>?_⟩;refine⟨_,rfl,_,rfl,_,rfl,sz4,λb hb=>?_⟩;rw[zow hd2 y.zvd] at W3;exact q _ _ (W3.at (zxa hb _)) ((B1.trans (B2.trans B3)).trans (But.laid hb)) ⟨b,x,z,rfl,zga,(HV.but B3 at2).same (zxa hb _),IW.same (zxa hb _)⟩
 | wen=>exact is.elim
 | instead=>exact is.elim
 | may=>exact is.elim
theorem zly (T:Tx K mg)(kb:K.In base):FnOk P w K mg base CX0 7 T.zxe.f T.zxe.d zvm (zjv T.zsb T.ztb ztub):=by
 refine T.zxe.ok zyk ?_;rintro f c A o s H vs Q E hr ⟨p,ws,k,r,rfl,is,W,ok,hd,q⟩ X;refine⟨_,  (zba (zoa (i:=1) zyk.nd rfl (.inl rfl) (zle (pv 0) T.zgb T.zra.M (zfb T).up hr (zib T) .nil zva (zaa (zdg (v:=.ref T.zcj) rfl T.zyi rfl) zca)))
  (zba (zoa (i:=2) zyk.nd rfl (.inl rfl) (zja (zch T kb).up hr rfl T.zfc.m T.zfc.F.kp (zei T) .nil zva (zaa (pv 0) zca)))
  (zba (zod (zle (pv 0) T.zgb T.zra.M (zfb T).up hr (zib T) .nil zva (zaa (zlb (zaa zna zca)) zca)))
  (zda (zqa (zlb (zaa zna (zaa (pv 1) (zaa (pv 2) (zaa (zja (ziq T kb) hr rfl T.zrd.m T.zrd.F.kp (zys T) .nil zva (zaa (pv 0) zca)) zca)))))))))),?_⟩
 cases r with
 | wen u y d =>
  obtain⟨dx,l,h1,h2⟩:=id W;obtain⟨ok1,ok2,ok3⟩:=ok;obtain⟨u1,hd1⟩:=zzb (show ws.drop k=u::(y.words++("do":Str)::d.words) from hd);have hd2:=zlo hd1;obtain⟨u3,hd3⟩:=zzb hd2;refine⟨_,rfl,p,dx,_,rfl,h1,zlc _ _ (by decide +kernel) (by decide +kernel),p,_,ws,k,_,zdr,rfl,W,u1,ok1,(by decide),.inl T.zwi,λH1 W1 B1=>?_⟩;refine⟨_,rfl,p,ws,_,k+1,y,rfl,W1,ok2.1,ok2.2,hd1,λx H2 W2 B2 IW=>?_⟩;obtain⟨dx2,l2,at2,_⟩:=id W2;refine⟨_,rfl,p,dx2,_,rfl,at2,zlc _ _ (by decide +kernel) (by decide +kernel),sz1,λa ha=>?_⟩;refine⟨p,a,ws,_,_,["do"],rfl,W2.at (zxa ha _),u3,yia.mpr rfl,(by decide),.inr zga,λH3 W3 B3=>?_⟩;have B3':But p H2 H3:=(But.laid ha).trans B3;obtain⟨dx3,l3,at3,_⟩:=id W3;refine⟨_,rfl,_,rfl,_,rfl,p,ws,_,d,rfl,W3,ok3,hd3,λz H4 W4 B4 ID=>?_⟩;refine⟨sz4,λb hb=>?_⟩;exact q _ _ (W4.at (zxa hb _)) ((B1.trans (B2.trans (B3'.trans B4))).trans (But.laid hb)) ⟨b,x,z,rfl,zga,((IW.but B3' at2).but B4 at3).same (zxa hb _),ID.same (zxa hb _)⟩
 | hold=>exact is.elim
 | instead=>exact is.elim
 | may=>exact is.elim
theorem zjs (T:Tx K mg)(kb:K.In base):FnOk P w K mg base CX0 6 T.zmd.f T.zmd.d zij (zjv T.zsb T.ztb zrib):=by
 refine T.zmd.ok zxf ?_;rintro f c A o s H vs Q E hr ⟨p,ws,k,r,rfl,is,W,ok,hd,q⟩ X;refine⟨_,  (zba (zoa (i:=1) zxf.nd rfl (.inl rfl) (zle (pv 0) T.zgb T.zra.M (zfb T).up hr (zib T) .nil zva (zaa (zdg (v:=.ref T.zih) rfl T.zeh rfl) zca)))
  (zba (zoa (i:=2) zxf.nd rfl (.inl rfl) (zja (zch T kb) hr rfl T.zfc.m T.zfc.F.kp (zei T) .nil zva (zaa (pv 0) zca)))
  (zba (zod (zle (pv 0) T.zgb T.zra.M (zfb T).up hr (zib T) .nil zva (zaa (zlb (zaa zna zca)) zca)))
  (zba (zoa (i:=3) zxf.nd rfl (.inl rfl) (zle (pv 0) T.zgb T.zra.M (zfb T).up hr (zib T) .nil zva (zaa (zjb (zupb rfl T.zbw) (zdg (v:=.ref T.zww) rfl T.ziw rfl) (pv 1) (λ_ _=>rfl)) zca)))
  (zda (zqa (zlb (zaa zna (zaa (pv 1) (zaa (pv 2) (zaa (pv 3) (zaa (zja (zbo T).up hr rfl T.zrc.m T.zrc.F.kp (zgp T) .nil zva (zaa (pv 0) (zaa (pv 3) zca))) zca)))))))))))),?_⟩
 cases r with
 | instead u y t v =>
  obtain⟨dx,l,h1,h2⟩:=id W;obtain⟨ok1,ok2,ok3,ok4⟩:=ok;obtain⟨u1,hd1⟩:=zzb (show ws.drop k=u::(y.words++("do":Str)::t::v.words) from hd);have hd2:=zlo hd1;obtain⟨u3,hd3⟩:=zzb hd2;obtain⟨u4,hd4⟩:=zzb hd3;refine⟨_,rfl,p,dx,_,rfl,h1,zlc _ _ (by decide +kernel) (by decide +kernel),p,_,ws,k,_,zqb,rfl,W,u1,ok1,(by decide),.inl T.zdh,λH1 W1 B1=>?_⟩;refine⟨_,rfl,p,ws,_,k+1,y,rfl,W1,ok2.1,ok2.2,hd1,λx H2 W2 B2 IW=>?_⟩;obtain⟨dx2,l2,at2,_⟩:=id W2;refine⟨_,rfl,p,dx2,_,rfl,at2,zlc _ _ (by decide +kernel) (by decide +kernel),sz1,λa ha=>?_⟩;refine⟨p,a,ws,_,_,["do"],rfl,W2.at (zxa ha _),u3,yia.mpr rfl,(by decide),.inr zga,λH3 W3 B3=>?_⟩;have B3':But p H2 H3:=(But.laid ha).trans B3;obtain⟨dx3,l3,at3,_⟩:=id W3;refine⟨_,rfl,p,dx3,_,rfl,at3,zlc _ _ (by decide +kernel) (by decide +kernel),_,rfl,_,_,rfl,rfl,zqgb ok1,λb hb=>?_⟩;refine⟨p,b,ws,_,_,turns u,rfl,W3,u4,ok3,zpgb u,.inl hb,λH4 W4 B4=>?_⟩;obtain⟨dx4,l4,at4,_⟩:=id W4;refine⟨_,rfl,_,rfl,_,rfl,_,rfl,_,rfl,p,ws,_,_,v,rfl,W4,ok4,hd4,λH5 W5 B5=>?_⟩;refine⟨sz5,λb hb=>?_⟩;have en:k+1+y.words.length+1+1+v.words.length=ws.length:=by
   have:=zow hd3 (yqb _ _);rw[yha] at this;omega
  rw[en] at W5;exact q _ _ (W5.at (zxa hb _)) ((B1.trans (B2.trans (B3'.trans (B4.trans B5)))).trans (But.laid hb)) ⟨b,x,rfl,zga,(((IW.but B3' at2).but B4 at3).but B5 at4).same (zxa hb _)⟩
 | hold=>exact is.elim
 | wen=>exact is.elim
 | may=>exact is.elim
theorem zdbb (T:Tx K mg)(kb:K.In base):FnOk P w K mg base CX0 7 T.zig.f T.zig.d zkp (zjv T.zsb T.ztb zuub):=by
 refine T.zig.ok zjr ?_;rintro f c A o s H vs Q E hr ⟨p,ws,k,r,rfl,is,W,ok,hd,q⟩ X;refine⟨_,  (zba (zoa (i:=1) zjr.nd rfl (.inl rfl) (zjd (pv 0) T.zgb T.zbb.M (zdc T).up hr (zic T) .nil zva))
  (zba (zod (zle (pv 0) T.zgb T.zra.M (zfb T).up hr (zib T) .nil zva (zaa (zlb (zaa zna zca)) zca)))
  (zda (zqa (zlb (zaa zna (zaa (pv 1) (zaa (zja (ziq T kb) hr rfl T.zrd.m T.zrd.F.kp (zys T) .nil zva (zaa (pv 0) zca)) zca)))))))),?_⟩
 cases r with
 | may c d =>
  obtain⟨dx,l,h1,h2⟩:=id W;obtain⟨ok1,ok2⟩:=ok;obtain⟨u1,hd1⟩:=zzb (show ws.drop k=(toString (c:Int):Str)::("do":Str)::d.words from hd);obtain⟨u3,hd3⟩:=zzb hd1;refine⟨_,rfl,p,dx,_,rfl,h1,zlc _ _ (by decide +kernel) (by decide +kernel),p,ws,k,c,rfl,W,u1,ok1,λH2 W2 B2=>?_⟩;obtain⟨dx2,l2,at2,_⟩:=id W2;refine⟨_,rfl,p,dx2,_,rfl,at2,zlc _ _ (by decide +kernel) (by decide +kernel),sz1,λa ha=>?_⟩;refine⟨p,a,ws,_,_,["do"],rfl,W2.at (zxa ha _),u3,yia.mpr rfl,(by decide),.inr zga,λH3 W3 B3=>?_⟩;have B3':But p H2 H3:=(But.laid ha).trans B3;refine⟨_,rfl,_,rfl,p,ws,_,d,rfl,W3,ok2,hd3,λz H4 W4 B4 ID=>?_⟩;refine⟨sz3,λb hb=>?_⟩;exact q _ _ (W4.at (zxa hb _)) ((B2.trans (B3'.trans B4)).trans (But.laid hb)) ⟨b,z,rfl,zga,ID.same (zxa hb _)⟩
 | hold=>exact is.elim
 | wen=>exact is.elim
 | instead=>exact is.elim
def zchb:Rule->Str
 | .hold _ _ _=>"hold"
 | .wen _ _ _=>"when"
 | .instead _ _ _ _=>"instead"
 | .may _ _=>"may"
theorem zlhb (r:Rule):r.words=(zchb r)::r.words.drop 1:=by cases r<;>rfl
theorem zkhb (r:Rule):(zchb r)∈sorts:=by
 cases r with
 | hold=>exact (by decide:("hold":Str)∈sorts)
 | wen=>exact (by decide:("when":Str)∈sorts)
 | instead=>exact (by decide:("instead":Str)∈sorts)
 | may=>exact (by decide:("may":Str)∈sorts)
theorem zlgb (v:Wv):v.words.length≤1:=by cases v<;>simp[Wv.words]
theorem zjx {y:Wh}(h:plain y):y.words.length≤18:=by
 have a:=y.zix;have b:=h.2;omega
theorem zltb {u:Str}{v:Hv}(h:zji u v):v.words.length≤18:=by
 cases v with
 | v x=>exact yxa (zlgb x) (by decide)
 | w y =>
  cases h with
  | per h=>exact zjx h
theorem zieb {d:Deed}(h:d.ok):d.words.length≤21:=by
 have a:=zjx h.whom;have b:=zlgb d.amt;have e:d.words.length=d.amt.words.length+d.whom.words.length+1+1:=by
  show (d.each::d.kind::(d.amt.words++d.whom.words)).length=_
  rw[yha,yha,yea]
 omega
theorem zvkb {r:Rule}(h:r.ok):r.words.length≤50:=by
 cases r with
 | hold u v y =>
  have a:=zjx h.2;have b:=zltb h.1;show (("hold":Str)::u::(v.words++y.words)).length≤50
  rw[yha,yha,yea];omega
 | wen u y d =>
  have a:=zjx h.2.1;have b:=zieb h.2.2;show (("when":Str)::u::(y.words++("do":Str)::d.words)).length≤50
  rw[yha,yha,yea,yha];omega
 | instead u y t v =>
  have a:=zjx h.2.1;have b:=zlgb v;show (("instead":Str)::u::(y.words++("do":Str)::t::v.words)).length≤50
  rw[yha,yha,yea,yha,yha];omega
 | may c d =>
  have b:=zieb h.2;show (("may":Str)::(toString (c:Int):Str)::("do":Str)::d.words).length≤50
  rw[yha,yha,yha];omega
theorem text_len {ws:List Str}(h:∀u∈ws,zfv u):(ysa " " ws).length≤9*ws.length:=by
 have a:=zyl " " ws;have c:=zsp (l:=ws.map (·.length)) (k:=8) (λx hx=>by
  obtain⟨u,hu,rfl⟩:=ydb.mp hx;exact (h u hu).2.2)
 rw[yda] at c;have e:(" ":Str).length=1:=rfl;rw[e] at a;omega
theorem zao {r:Rule}(h:r.ok):(zve r).length≤450:=by
 have a:=text_len (ws:=r.words) (λu hu=>(Rule.zkh h u hu).1);have b:=zvkb h;show (ysa " " r.words).length≤450
 omega
def znrb (D:Addr):Sp:=λvs H Q _=>∃r:Rule,vs=[.str (zve r)]∧r.ok∧∀v H',Same H H'->zsj D H' v r->Q v H'
theorem zny (T:Tx K mg)(kb:K.In base):FnOk P w K mg base CX0 8 T.zze.f T.zze.d zzm (znrb T.ztb):=by
 refine T.zze.ok zje ?_;rintro f c A o s H vs Q E hr ⟨r,rfl,ok,q⟩ X;refine⟨_,  (zba (zoa (i:=1) zje.nd rfl (.inl rfl) (zrv T.znc.M (zvdb T).up hr rfl T.znbb (zrk T) .nil zva (zaa (pv 0) zca)))
  (zba (zoa (i:=2) zje.nd rfl (.inl rfl) (zle (pv 1) T.zgb T.zra.M (zfb T).up hr (zib T) .nil zva (zaa (zdg (v:=.ref T.zxw) rfl T.zjw rfl) zca)))
  (zba (zwb (zma zqc (pv 2) zna (zwa _))
   (zda (zoa (i:=3) zje.nd rfl (.inl rfl) (zja (zmy T kb) hr rfl T.zye.m T.zye.F.kp (zybb T) .nil zva (zaa (pv 1) zca))))
   (zda (zwb (zma zqc (pv 2) zna (zwa _))
    (zda (zoa (i:=3) zje.nd rfl (.inl rfl) (zja (zly T kb) hr rfl T.zxe.m T.zxe.F.kp (zxbb T) .nil zva (zaa (pv 1) zca))))
    (zda (zwb (zma zqc (pv 2) zna (zwa _))
     (zda (zoa (i:=3) zje.nd rfl (.inl rfl) (zja (zjs T kb).up hr rfl T.zmd.m T.zmd.F.kp (zzt T) .nil zva (zaa (pv 1) zca))))
     (zda (zoa (i:=3) zje.nd rfl (.inl rfl) (zja (zdbb T kb) hr rfl T.zig.m T.zig.F.kp (zdgb T) .nil zva (zaa (pv 1) zca)))))))))
  (zba (zod (zjd (pv 1) T.zgb T.zcd.M (zdl T).up hr (zgm T) .nil zva))
  (zda (zqa (pv 3))))))),?_⟩
 have tl:=zao ok;refine⟨_,rfl,?_⟩;intro x dx nx ndx nex;refine⟨x,dx,_,rfl,zga,(by omega),λH1 W1 B1=>⟨rfl,?_⟩⟩;have es:yte (zve r) " " = r.words:=zro (c:=32) r.zvd (λu hu=>(Rule.zkh ok u hu).1.1);rw[es] at W1;have S1:Same H H1:=λb o e=>B1 b o (zka e nx) (by rw[zza (zka e nx),zza (zka e ndx)];exact e);obtain⟨dx1,l1,at1,_⟩:=id W1;refine⟨_,rfl,x,dx1,_,rfl,at1,zlc _ _ (by decide +kernel) (by decide +kernel),x,_,r.words,0,(zchb r),sorts,rfl,W1,(by rw[zlhb r];rfl),zkhb r,(by decide),.inl T.zcw,λH2 W2 B2=>?_⟩;have fin:∀{v:V} {H3:Hp},WAt T.zsb H3 x r.words r.words.length->But x H2 H3->zsj T.ztb H3 v r->Q v H3:=λ{v H3} W3 B3 IR =>
  q v H3 (λb o e=>B3 b o (zka e nx) (B2 b o (zka e nx) (S1 b o e))) IR
 refine⟨_,rfl,rfl,_,rfl,?_⟩;cases r with
 | hold u v y =>
  refine iteT ⟨_,rfl,x,_,1,.hold u v y,rfl,trivial,W2,ok,rfl,λz H3 W3 B3 IR=>?_⟩;obtain⟨dx3,l3,at3,_⟩:=id W3;exact⟨_,rfl,x,dx3,_,rfl,at3,zlc _ _ (by decide +kernel) (by decide +kernel),x,_,rfl,W3,⟨_,rfl,fin W3 B3 IR⟩⟩
 | wen u y d =>
  refine iteF ⟨_,rfl,rfl,_,rfl,iteT ⟨_,rfl,x,_,1,.wen u y d,rfl,trivial,W2,ok,rfl,λz H3 W3 B3 IR=>?_⟩⟩;obtain⟨dx3,l3,at3,_⟩:=id W3;exact⟨_,rfl,x,dx3,_,rfl,at3,zlc _ _ (by decide +kernel) (by decide +kernel),x,_,rfl,W3,⟨_,rfl,fin W3 B3 IR⟩⟩
 | instead u y t v =>
  refine iteF ⟨_,rfl,rfl,_,rfl,iteF ⟨_,rfl,rfl,_,rfl,iteT ⟨_,rfl,x,_,1,.instead u y t v,rfl,trivial,W2,ok,rfl,λz H3 W3 B3 IR=>?_⟩⟩⟩;obtain⟨dx3,l3,at3,_⟩:=id W3;exact⟨_,rfl,x,dx3,_,rfl,at3,zlc _ _ (by decide +kernel) (by decide +kernel),x,_,rfl,W3,⟨_,rfl,fin W3 B3 IR⟩⟩
 | may c d =>
  refine iteF ⟨_,rfl,rfl,_,rfl,iteF ⟨_,rfl,rfl,_,rfl,iteF ⟨_,rfl,x,_,1,.may c d,rfl,trivial,W2,ok,rfl,λz H3 W3 B3 IR=>?_⟩⟩⟩;obtain⟨dx3,l3,at3,_⟩:=id W3;exact⟨_,rfl,x,dx3,_,rfl,at3,zlc _ _ (by decide +kernel) (by decide +kernel),x,_,rfl,W3,⟨_,rfl,fin W3 B3 IR⟩⟩
def cfs (n:Str)(c f:Nat)(m t:Addr):List (Str×V):=[("name",.str n),("cost",.int c),("force",.int f),("marks",.ref m),("rules",.ref t)]
inductive IsRules (D:Addr)(H:Hp):List V->List Rule->Prop where
 | nil:IsRules D H [] []
 | cons {v:V} {r:Rule} {vs:List V} {rs:List Rule}:zsj D H v r->IsRules D H vs rs->IsRules D H (v::vs) (r::rs)
theorem IsRules.same {D:Addr}{H H':Hp}(s:Same H H'):∀{vs:List V} {rs:List Rule},IsRules D H vs rs->IsRules D H' vs rs
 | _,_,.nil=>.nil
 | _,_,.cons h t=>.cons (h.same s) (t.same s)
theorem IsRules.snoc {D:Addr}{H:Hp}{v:V}{r:Rule}(h:zsj D H v r):∀{vs:List V} {rs:List Rule},IsRules D H vs rs->IsRules D H (vs++[v]) (rs++[r])
 | _,_,.nil=>.cons h .nil
 | _,_,.cons h' t=>.cons h' (IsRules.snoc h t)
theorem IsRules.length {D:Addr}{H:Hp}:∀{vs:List V} {rs:List Rule},IsRules D H vs rs->vs.length=rs.length
 | _,_,.nil=>rfl
 | _,_,.cons _ t=>congrArg (· + 1) t.length
theorem IsRules.get {D:Addr}{H:Hp}:∀{vs:List V} {rs:List Rule} {i:Nat} {v:V},IsRules D H vs rs->vs[i]?=some v->∃r,rs[i]?=some r∧zsj D H v r
 | _,_,0,_,.cons h _,e=>by cases e;exact⟨_,rfl,h⟩
 | _,_,i+1,_,.cons _ t,e=>t.get (i:=i) e
def zoab (B D:Addr)(H:Hp)(v:V)(c:Crd):Prop:=Ex5 λa dx m t vs=>v = .ref a∧H a=some (.ins B dx (cfs c.name c.cost c.force m t))∧H m=some (.tup (c.marks.map V.str))∧H t=some (.tup vs)∧IsRules D H vs c.rules
def zeob:Sp:=λvs H Q _=>∃ms:List Str,vs=[.str (zvi ms)]∧Marks ms∧∀m H',Same H H'->H' m=some (.tup (ms.map V.str))->Q (.ref m) H'
def zbfb (B:Addr):Sp:=λvs H Q _=>Ex7 λx dx m t (n:Str) (c f:Nat)=>vs=[.ref x,.str n,.int c,.int f,.ref m,.ref t]∧H x=some (.ins B dx [])∧Q .non (upd H x (.ins B dx (cfs n c f m t)))
def zafb (B D:Addr):Sp:=λvs H Q _=>∃c:Crd,vs=[.str c.text]∧c.ok∧∀v H',Same H H'->zoab B D H' v c->Q v H'
theorem zrmb (n:Str)(c f:V)(m t:Addr):putF "rules" (.ref t) (putF "marks" (.ref m) (putF "force" f (putF "cost" c (putF "name" (.str n) []))))=([("name",.str n),("cost",c),("force",f),("marks",.ref m),("rules",.ref t)]:List (Str×V)):=by
 repeat (first|rw[zuo]|rw[zzj (by decide +kernel)])
theorem zuab {K:yba}{H:Hp}:∀xs:List Str,DVs K H (xs.map V.str) (xs.map .str)
 | []=>.nil
 | x::r=>.cons (.str x) (zuab r)
theorem zbeb:∀xs:List Str,yke (xs.map .str) (xs.map .str)=true
 | []=>by simp[yke]
 | x::r=>by simp[yke,ydf,zbeb r]
theorem zipb (T:Tx K mg):FnOk P w K mg base CX0 2 T.zid.f T.zid.d zii (zbfb T.zpf):=by
 refine T.zid.ok zqq ?_;rintro f c A o s H vs Q E hr ⟨x,dx,m,t,n,c,f,rfl,hx,q⟩ X;refine⟨_,  (zba (zem (pv 0) (pv 1) rfl)
  (zba (zem (pv 0) (pv 2) rfl)
  (zba (zem (pv 0) (pv 3) rfl)
  (zba (zem (pv 0) (pv 4) rfl)
  (zda (zem (pv 0) (pv 5) rfl)))))),?_⟩
 refine⟨_,rfl,_,rfl,x,_,dx,_,rfl,hx,T.zil,T.zbk,(by show 0<1000;decide),?_⟩;refine⟨_,rfl,_,rfl,x,_,dx,_,rfl,zga,T.zil,T.zck,(by show 1<1000;decide),?_⟩;refine⟨_,rfl,_,rfl,x,_,dx,_,rfl,zga,T.zil,T.zui,(by show 2<1000;decide),?_⟩;refine⟨_,rfl,_,rfl,x,_,dx,_,rfl,zga,T.zil,T.zti,(by show 3<1000;decide),?_⟩;refine⟨_,rfl,_,rfl,x,_,dx,_,rfl,zga,T.zil,T.zof,(by show 4<1000;decide),?_⟩;show Q .non _
 rw[zuk,zuk,zuk,zuk,zrmb];exact q
theorem zslb {n:Str}(h:zoe n):yrb (.str n)=true:=by
 rw[yrb];unfold PyData.strOk;rw[← Array.all_toList,ycf];intro c hc;have:=(h.2.2 c hc).2;simp;omega
theorem zydb:∀xs:List Str,(∀x∈xs,yrb (.str x)=true)->yvc (xs.map .str)=true
 | [],_=>by simp[yvc]
 | x::r,h=>by
  have h1:=h x yka;have h2:=zydb r λy hy=>h y (yna _ hy);rw[yva,yvc,h1,h2];rfl
theorem zgeb:∀xs:List Str,ykc (xs.map .str)=0
 | []=>by simp[ykc]
 | x::r=>by simp[ykc,yid,zgeb r]
theorem ztp {ms:List Str}(h:∀m∈ms,zoe m):yzb (.list (ms.map .str))=true:=by
 unfold yzb;rw[yrb,zydb ms (λx hx=>zslb (h x hx)),yid,zgeb];rfl
theorem ztv (T:Tx K mg):FnOk P w K mg base CX0 3 T.zde.f T.zde.d znl zeob:=by
 refine T.zde.ok ztn ?_;rintro f c A o s H vs Q E hr ⟨ms,rfl,hm,q⟩ X;refine⟨_,  (zba (zwb (zma zqc (pv 0) zna (zwa _))
   (zda (zqa (zlb zca)))
   zsa)
  (zba (zoa (i:=1) ztn.nd rfl (.inl rfl) (zai ykd ywh yxh zzv (pv 0) (zaa zna zca)))
  (zba (zwb (zas (zfq (zkb (zrw rfl) rfl T.zqeb boot_all (zaa (zeg (own:=["mark"]) (cap:=[]) rfl (zpc.chk rfl rfl) .nil (zzd (pv 1)) (λ_ _ _ _=>(zua (i:=0) (show yfd (["mark"]:List Str) by decide +kernel) rfl (.inl rfl))) (λ_ _ _ _=>zcl) (λ_ _ _ _=>by exact (zja (zpu T) hr rfl T.zuf.m T.zuf.F.kp (zaab T) .nil zva (zaa (pv 0) zca)))) zca))))
   (zda zag)
   zsa)
  (zba (zwb (zma (ziy hr.units) (pv 1) (zkb (zws rfl) rfl T.ztj yhn (zaa (zyd (zpw rfl) rfl T.zzjb boot_set (zaa (pv 1) zca)) zca)) (zwa _))
   (zda zag)
   zsa)
  (zda (zqa (zyd zsh rfl T.zsk ysm (zaa (pv 1) zca)))))))),?_⟩
 refine⟨_,rfl,rfl,_,rfl,?_⟩
 by_cases hne:ms=[]
 ·subst hne;exact iteT ⟨sz0,λa ha=>q a _ (zxa ha _) zga⟩
 refine ite2 (λc=>?_) (λ_=>?_)
 ·exfalso;have c':=of_decide_eq_true c;injection c' with c'
  exact zbib hm hne c'
 have ml:=zzo hm;have es:yte (zvi ms) "," = ms:=zlbb hm hne;refine⟨_,rfl,rfl,_,_,rfl,rfl,(by decide +kernel),(yxa (yoi ml.2 2) (by decide)),λl hl=>?_⟩;rw[es];have S1:=zxa hl (.lst (ms.map V.str));have e1:upd H l (.lst (ms.map V.str)) l=some (.lst (ms.map V.str)):=zga;generalize upd H l (.lst (ms.map V.str))=H1 at *;refine⟨_,rfl,l,rfl,⟨_,SqL.of e1⟩,?_⟩;refine zne (xs:=ms.map V.str) (λi ys H'=>Same H1 H'∧i≤ms.length∧ys=((ms.take i).map isName).map V.bl) (λi ys H' z=>SqL.of (z.1 _ _ e1)) ⟨Same.refl _,ylb _,rfl⟩ ?_ ?_ ?_
 ·rintro i ys H' ⟨_,_,rfl⟩;rw[yda,yda,yib];have:=hm.le;exact small (by omega)
 ·rintro i x ys H' hx ⟨S3,hi,rfl⟩;obtain⟨m,hmm,rfl⟩:∃m,ms[i]?=some m∧V.str m=x:=by
   rw[yub] at hx;cases z:ms[i]? with
   | none=>rw[z] at hx;cases hx
   | some m=>rw[z] at hx;cases hx;exact⟨m,rfl,rfl⟩
  have hmem:=ykb hmm;refine⟨rfl,_,rfl,m,rfl,(yxa (hm.ok m hmem).2.1 (by decide)),λH4 S4=>⟨S3.trans S4,?_,?_⟩⟩
  ·exact (yfa.mp hmm).1
  ·rw[yjb,hmm,yfb,yfb];rfl
 ·rintro ys H2 ⟨S2,_,rfl⟩ b hb;rw[yda,yhl];have S3:=zxa hb (.lst ((ms.map isName).map V.bl));refine⟨b,_,rfl,SqL.of zga,_,rfl,?_⟩;have al:(ms.map isName).all id=true:=by
   rw[ycf];intro x hx;obtain⟨m,hmm,rfl⟩:=ydb.mp hx;exact zms (hm.ok m hmm)
  rw[al];refine iteF ?_;have e3:=S3 _ _ (S2 _ _ e1);generalize upd H2 b (.lst ((ms.map isName).map V.bl))=H3 at *;have ml2:=hm.le;refine⟨_,rfl,_,rfl,l,ms,rfl,SqL.of e3,(by omega),λp hp=>?_⟩;have S4:∀o,Same H3 (upd H3 p o):=λo=>zxa hp o;refine⟨p,_,rfl,zga,(by rw[zjeb hm.nd];omega),λp2 ys hp2 py so=>?_⟩;have ey:=hm.same py so;subst ey;have S5:=zxa hp2 (.lst (ys.map V.str));refine⟨.list (ys.map .str),.list (ys.map .str),.lst (SqL.of (S5 _ _ (S4 _ _ _ e3))) (zuab _),.lst (SqL.of zga) (zuab _),ztp hm.ok,ztp hm.ok,_,rfl,?_⟩;have ev:(!PyData.eqv (.list (ys.map .str)) (.list (ys.map .str)))=false:=by
   rw[ydf,zbeb];rfl
  rw[ev];refine iteF ?_;refine⟨_,rfl,l,_,rfl,.inl ⟨SqL.of (S5 _ _ (S4 _ _ _ e3)),λt ht=>?_⟩⟩;exact q t _ (λc o e=>zxa ht _ _ _ (S5 _ _ (S4 _ _ _ (S3 _ _ (S2 _ _ (S1 _ _ e)))))) zga
theorem zwnb {c:Crd}(h:c.ok):c.text.length≤2000:=by
 have a:=zyl SL (ysa " " c.head::c.rules.map zve);have b:=Crd.zgw h;have s:=zsp (l:=(c.rules.map zve).map (·.length)) (k:=450) (λx hx=>by
  obtain⟨t,ht,rfl⟩:=ydb.mp hx;obtain⟨r,hr,rfl⟩:=ydb.mp ht;exact zao (h.rules r hr))
 have e:SL.length=3:=rfl;have f:=h.few;rw[yva,yhf,yha,e] at a;rw[yda,yda] at s;rw[yda] at a;show (ysa SL (ysa " " c.head::c.rules.map zve)).length≤2000
 have:c.rules.length*450≤3*450:=Nat.mul_le_mul_right _ f;omega
theorem zoy (T:Tx K mg)(kb:K.In base):FnOk P w K mg base CX0 9 T.zaf.f T.zaf.d zan (zafb T.zpf T.ztb):=by
 refine T.zaf.ok zke ?_;rintro f c A o s H vs Q E hr ⟨c,rfl,ok,q⟩ X;refine⟨_,  (zba (zwb (zas (zfq (zkb zxs rfl T.zwg boot_isinstance (zaa (pv 0) (zaa (zuhb (v:=.ty "str") rfl T.zpeb boot_str rfl) zca)))))
   (zda zag)
   zsa)
  (zba (zoa (i:=1) zke.nd rfl (.inl rfl) (zai ykd ywh yxh zzv (pv 0) (zaa zna zca)))
  (zba (zwb (zma zut (zkb zdb rfl T.zsf ymb (zaa (pv 1) zca)) (zcc zbh zfa (zdg (v:=.int 3) rfl T.zaj ⟨_,rfl⟩)) (zwa _))
   (zda zag)
   zsa)
  (zba (zoa (i:=2) zke.nd rfl (.inl rfl) (zrv T.znc.M (zvdb T).up hr rfl T.znbb (zrk T) .nil zva (zaa (zjb zkc (pv 1) zfa (λ_ _=>rfl)) zca)))
  (zba (zoa (i:=3) zke.nd rfl (.inl rfl) (zjd (pv 2) T.zgb T.zub.M (zbe T).up hr (zre T) .nil zva))
  (zba (zoa (i:=4) zke.nd rfl (.inl rfl) (zjd (pv 2) T.zgb T.zbb.M (zdc T).up hr (zic T) .nil zva))
  (zba (zoa (i:=5) zke.nd rfl (.inl rfl) (zjd (pv 2) T.zgb T.zbb.M (zdc T).up hr (zic T) .nil zva))
  (zba (zoa (i:=6) zke.nd rfl (.inl rfl) (zja (ztv T).up hr rfl T.zde.m T.zde.F.kp (zyz T) .nil zva (zaa (zjd (pv 2) T.zgb T.zvc.M (zfg T).up hr (zgh T) .nil zva) zca)))
  (zba (zod (zjd (pv 2) T.zgb T.zcd.M (zdl T).up hr (zgm T) .nil zva))
  (zda (zqa (zrv T.zid.M (zipb T).up hr rfl T.zgnb (zbt T) .nil zva (zaa (pv 3) (zaa (pv 4) (zaa (pv 5) (zaa (pv 6) (zaa (zyd zsh rfl T.zsk ysm (zaa (zeg (own:=["rule"]) (cap:=[]) rfl (zpc.chk rfl rfl) .nil (zzd (zsg zkm (pv 1) (zej zfa) zfj)) (λ_ _ _ _=>(zua (i:=0) (show yfd (["rule"]:List Str) by decide +kernel) rfl (.inl rfl))) (λ_ _ _ _=>zcl) (λ_ _ _ _=>by exact (zja (zny T kb) hr rfl T.zze.m T.zze.F.kp (zzbb T) .nil zva (zaa (pv 0) zca)))) zca)) zca))))))))))))))))),?_⟩
 have tl:=zwnb ok;refine⟨_,rfl,_,_,.type "str",true,rfl,TyOf.str _,.inl ⟨"str",rfl,rfl⟩,true,rfl,?_⟩;refine iteF ?_;have es:yte c.text " / " = ysa " " c.head::c.rules.map zve:=Crd.split ok;refine⟨_,rfl,rfl,_,_,rfl,rfl,(by decide +kernel),(yxa (yoi tl 2) (by decide)),λl hl=>?_⟩;rw[es];have S1:=zxa hl (.lst ((ysa " " c.head::c.rules.map zve).map V.str));have e1:upd H l (.lst ((ysa " " c.head::c.rules.map zve).map V.str)) l=some (.lst ((ysa " " c.head::c.rules.map zve).map V.str)):=zga;generalize upd H l (.lst ((ysa " " c.head::c.rules.map zve).map V.str))=H1 at *;refine⟨_,rfl,l,_,rfl,.inl (SqL.of e1),_,_,rfl,rfl,_,_,rfl,rfl,_,rfl,?_⟩;refine ite2 (λz=>?_) (λ_=>?_)
 ·exfalso;have z':=of_decide_eq_true z;rw[yda,yha,yda] at z';have:=ok.few;omega
 refine⟨_,rfl,l,_,_,_,rfl,rfl,SqL.of e1,zia (j:=0) rfl,?_⟩;intro x dx nx ndx nex;have hl2:=Crd.zgw ok;refine⟨x,dx,_,rfl,zga,(by omega),λH2 W2 B2=>⟨rfl,?_⟩⟩;rw[show yte (ysa " " c.head) " " = c.head from Crd.zxfb ok] at W2;have S2:Same H1 H2:=λb o e=>B2 b o (zka e nx) (by rw[zza (zka e nx),zza (zka e ndx)];exact e);obtain⟨dx2,l2,at2,_⟩:=id W2;refine⟨_,rfl,x,dx2,_,rfl,at2,zlc _ _ (by decide +kernel) (by decide +kernel),x,c.head,0,c.name,rfl,W2,rfl,ok.name,λH3 W3 B3=>?_⟩;obtain⟨dx3,l3,at3,_⟩:=id W3;refine⟨_,rfl,x,dx3,_,rfl,at3,zlc _ _ (by decide +kernel) (by decide +kernel),x,c.head,1,c.cost,rfl,W3,rfl,ok.cost,λH4 W4 B4=>?_⟩;obtain⟨dx4,l4,at4,_⟩:=id W4;refine⟨_,rfl,x,dx4,_,rfl,at4,zlc _ _ (by decide +kernel) (by decide +kernel),x,c.head,2,c.force,rfl,W4,rfl,ok.force,λH5 W5 B5=>?_⟩;obtain⟨dx5,l5,at5,_⟩:=id W5;refine⟨_,rfl,x,dx5,_,rfl,at5,zlc _ _ (by decide +kernel) (by decide +kernel),x,c.head,3,zvi c.marks,rfl,W5,rfl,λH6 W6 B6=>?_⟩;refine⟨c.marks,rfl,ok.marks,λm H7 S7 em=>?_⟩;have W7:=W6.at S7;obtain⟨dx7,l7,at7,_⟩:=id W7;refine⟨_,rfl,x,dx7,_,rfl,at7,zlc _ _ (by decide +kernel) (by decide +kernel),x,c.head,rfl,W7,?_⟩;have S37:Same H H7:=λb o e=>by
  have n:=zka (S1 _ _ e) nx;exact S7 _ _ (B6 _ _ n (B5 _ _ n (B4 _ _ n (B3 _ _ n (S2 _ _ (S1 _ _ e))))))
 have nlx:=zka e1 nx;have e7:H7 l=some (.lst ((ysa " " c.head::c.rules.map zve).map V.str)):=S7 _ _ (B6 _ _ nlx (B5 _ _ nlx (B4 _ _ nlx (B3 _ _ nlx (S2 _ _ e1)))));clear W2 W3 W4 W5 W6 at2 at3 at4 at5;refine⟨_,rfl,_,rfl,_,rfl,_,rfl,_,rfl,_,rfl,l,_,rfl,SqL.of e7,λs1 hs1=>?_⟩;have ct:cutV ((ysa " " c.head::c.rules.map zve).map V.str) (some (1:Int)) none=(c.rules.map zve).map V.str:=by
  have:=zqj ((ysa " " c.head::c.rules.map zve).map V.str) 1;exact this
 rw[ct];have S8:=zxa hs1 (.lst ((c.rules.map zve).map V.str));have e8:upd H7 s1 (.lst ((c.rules.map zve).map V.str)) s1=some (.lst ((c.rules.map zve).map V.str)):=zga;generalize upd H7 s1 (.lst ((c.rules.map zve).map V.str))=H8 at *;refine⟨s1,rfl,⟨_,SqL.of e8⟩,?_⟩;refine zne (xs:=(c.rules.map zve).map V.str) (λi ys H'=>Same H8 H'∧i≤c.rules.length∧IsRules T.ztb H' ys (c.rules.take i)) (λi ys H' z=>SqL.of (z.1 _ _ e8)) ⟨Same.refl _,ylb _,.nil⟩ ?_ ?_ ?_
 ·rintro i ys H' ⟨_,_,R⟩;rw[R.length,yib];have:=ok.few;exact small (by omega)
 ·rintro i v ys H' hx ⟨S3,hi,R⟩;obtain⟨r,hrr,rfl⟩:∃r,c.rules[i]?=some r∧V.str (zve r)=v:=by
   rw[yub,yub] at hx;cases z:c.rules[i]? with
   | none=>rw[z] at hx;cases hx
   | some m=>rw[z] at hx;cases hx;exact⟨m,rfl,rfl⟩
  refine⟨rfl,_,rfl,r,rfl,ok.rules r (ykb hrr),λu H9 S9 IR=>⟨S3.trans S9,?_,?_⟩⟩
  ·exact (yfa.mp hrr).1
  ·rw[yjb,hrr];exact IsRules.snoc IR (R.same S9)
 ·rintro ys H9 ⟨S9,_,R⟩ b hb;rw[yda,yda,yhl] at R;refine⟨b,_,rfl,.inl ⟨SqL.of zga,λt ht=>?_⟩⟩;have S10:=zxa hb (.lst ys);generalize upd H9 b (.lst ys)=H10 at *;have S11:=zxa ht (.tup ys);have e11:upd H10 t (.tup ys) t=some (.tup ys):=zga;have Sall:Same H (upd H10 t (.tup ys)):=λb o e=>S11 _ _ (S10 _ _ (S9 _ _ (S8 _ _ (S37 _ _ e))));have em11:=S11 _ _ (S10 _ _ (S9 _ _ (S8 _ _ em)));have R11:=R.same (S10.trans S11);generalize upd H10 t (.tup ys)=H11 at *;intro y dy ny ndy ney;have S12:∀o,Same H11 (upd (upd (upd H11 dy (.own y)) y (.ins T.zpf dy [])) y o):=λo b u e=>by
   rw[zuk,zza (zka e ny),zza (zka e ndy)];exact e
  refine⟨y,dy,m,t,c.name,c.cost,c.force,rfl,zga,rfl,?_⟩;exact q _ _ (Sall.trans (S12 _)) ⟨y,dy,m,t,ys,rfl,zga,S12 _ _ _ em11,S12 _ _ _ e11,R11.same (S12 _)⟩
structure Row where
 num:Int
 keeper:Int
 marks:List Str
 force:Int
 mute:Bool
def zll (H:Hp)(v:V)(r:Row):Prop:=Ex2 λa m=>v = .ref a∧H a=some (.tup [.int r.num,.int r.keeper,.ref m,.int r.force,.bl r.mute])∧H m=some (.tup (r.marks.map V.str))
theorem zll.same {H H':Hp}{v:V}{r:Row}(h:zll H v r)(s:Same H H'):zll H' v r:=by
 obtain⟨a,m,e,h1,h2⟩:=h;exact⟨a,m,e,s _ _ h1,s _ _ h2⟩
inductive zkd (H:Hp):List V->List Row->Prop where
 | nil:zkd H [] []
 | cons {v:V} {r:Row} {vs:List V} {rs:List Row}:zll H v r->zkd H vs rs->zkd H (v::vs) (r::rs)
theorem zkd.map {H H':Hp}(f:∀v r,zll H v r->zll H' v r):∀{vs:List V} {rs:List Row},zkd H vs rs->zkd H' vs rs
 | _,_,.nil=>.nil
 | _,_,.cons h t=>.cons (f _ _ h) (zkd.map f t)
theorem zkd.length {H:Hp}:∀{vs:List V} {rs:List Row},zkd H vs rs->vs.length=rs.length
 | _,_,.nil=>rfl
 | _,_,.cons _ t=>by rw[yha,yha,t.length]
theorem zkd.get {H:Hp}:∀{vs:List V} {rs:List Row} {i:Nat} {v:V},zkd H vs rs->vs[i]?=some v->∃r,rs[i]?=some r∧zll H v r
 | _,_,_,_,.nil,e=>by simp at e
 | _,_,0,_,.cons h t,e=>by
  rw[yge] at e;cases e;exact⟨_,rfl,h⟩
 | _,_,i+1,_,.cons h t,e=>by
  rw[yyb] at e;obtain⟨w,h1,h2⟩:=t.get e;exact⟨w,by rw[yyb];exact h1,h2⟩
theorem zkd.snoc {H:Hp}:∀{vs:List V} {rs:List Row} {v:V} {r:Row},zkd H vs rs->zll H v r->zkd H (vs++[v]) (rs++[r])
 | _,_,_,_,.nil,h=>.cons h .nil
 | _,_,_,_,.cons g t,h=>.cons g (t.snoc h)
def zwjb (H:Hp)(v:V):Option Row->Prop
 | none=>v = .non
 | some r=>zll H v r
def rowOf (rs:List Row)(thing:Int):Option Row:=rs.find? λr=>decide (r.num=thing)
theorem zlu {rs:List Row}{i:Nat}{t:Int}(h:∀j r,j<i->rs[j]?=some r->¬ r.num=t):(rs.take i).find? (λr=>decide (r.num=t))=none:=by
 rw[List.find?_eq_none];intro r hr;obtain⟨j,hj⟩:=yvm hr;rw[List.getElem?_take] at hj
 split at hj
 ·rename_i hlt
  simpa using h j r hlt hj
 ·cases hj
theorem zmhb {rs:List Row}{i:Nat}{t:Int}{r:Row}(h:∀j r,j<i->rs[j]?=some r->¬ r.num=t)(hr:rs[i]?=some r)(e:r.num=t):rowOf rs t=some r:=by
 have q:rs=rs.take i++rs.drop i:=(yji i rs).symm;have d:rs.drop i=r::rs.drop (i+1):=by
  obtain⟨hi,hv⟩:=yfa.mp hr;rw[yah hi,hv]
 unfold rowOf;rw[q,List.find?_append,zlu h,d,List.find?_cons_of_pos (by simpa using e)];rfl
theorem zifb {rs:List Row}{t:Int}(h:∀j r,j<rs.length->rs[j]?=some r->¬ r.num=t):rowOf rs t=none:=by
 have q:=zlu (i:=rs.length) h;rw[yua (yma _)] at q;exact q
def zrf (row:Option Row)(number keeper thing:Int):Wh->Bool
 | .all=>true
 | .self=>decide (thing=number)
 | .mine=>match row with
  | none=>decide (thing = -1-keeper)
  | some r=>decide (r.keeper=keeper)
 | .mark n=>match row with
  | none=>false
  | some r=>inV (.str n) (r.marks.map V.str)
 | .force i=>match row with
  | none=>false
  | some r=>decide ((i:Int)≤r.force)
 | .not a=>!zrf row number keeper thing a
 | .both a b=>zrf row number keeper thing a&&zrf row number keeper thing b
 | .any a b=>zrf row number keeper thing a||zrf row number keeper thing b
theorem znz (xs:List Str):(xs.map V.str).all zyt=true:=by
 rw[ycf];intro v hv;obtain⟨x,_,rfl⟩:=ydb.mp hv;rfl
def zdob (K:yba):Sp:=λvs H Q _=>Ex4 λsl us rs (t:Int)=>vs=[.ref sl,.int t]∧H sl=some (.lst us)∧zkd H us rs∧∀v,zwjb H v (rowOf rs t)->Q v H
def zxk (D:Addr)(n:Nat):Sp:=λvs H Q _=>Ex7 λv rv (row:Option Row) (number keeper thing:Int) (y:Wh)=>vs=[v,rv,.int number,.int keeper,.int thing]∧IsW D H v y∧zwjb H rv row∧y.depth≤n∧Q (.bl (zrf row number keeper thing y)) H
def zir (D:Addr)(n:Nat):Sp:=λvs H Q _=>Ex7 λv rv (row:Option Row) (number keeper thing:Int) (y:Wh)=>vs=[v,rv,.int number,.int keeper,.int thing]∧IsW D H v y∧zwjb H rv row∧y.depth≤n∧y.parts≠[]∧Q (.bl (zrf row number keeper thing y)) H
def zqrb (D:Addr):Sp:=λvs H Q _=>Ex8 λv sl us rs (number keeper thing:Int) (y:Wh)=>vs=[v,.ref sl,.int number,.int keeper,.int thing]∧IsW D H v y∧H sl=some (.lst us)∧zkd H us rs∧y.size≤9∧Q (.bl (zrf (rowOf rs thing) number keeper thing y)) H
theorem zks (T:Tx K mg):FnOk P w K mg base CX0 2 T.ztf.f T.ztf.d zax (zdob K):=by
 refine T.ztf.ok zwx ?_;rintro f c A o s H vs Q E hr ⟨sl,us,rs,t,rfl,hsl,R,q⟩ X;refine⟨_,  (zba (zzh yxb rfl (zzd (pv 0)) (zua (i:=2) zwx.nd rfl (.inl rfl))
   (zda (zwb (zma zqc (zjb zyb (pv 2) zfa (λ_ _=>rfl)) (pv 1) (zwa _))
    (zda (zqa (pv 2)))
    zsa)))
  (zda (zqa zcg))),?_⟩
 have rl:=R.length;refine⟨_,rfl,sl,rfl,⟨_,SqL.of hsl⟩,zdk (xs:=us) (λi σ H'=>H'=H∧(∃o,σ=[some (.ref sl),some (.int t),o])∧∀j r,j<i->rs[j]?=some r->¬ r.num=t) ⟨rfl,⟨_,rfl⟩,λj r h=>absurd h (Nat.not_lt_zero _)⟩ (λi σ H' _ z=>by rw[z.1];exact SqL.of hsl) ?_ ?_⟩
 ·rintro i x σ H' hx ⟨rfl,⟨o,rfl⟩,hm⟩;obtain⟨r,hr,⟨a,m,rfl,h1,h2⟩⟩:=R.get hx;refine⟨_,rfl,a,_,_,_,rfl,rfl,SqT.of h1,rfl,_,rfl,rfl,_,rfl,?_⟩;refine ite2 (λc=>?_) (λc=>?_)
  ·have c':=of_decide_eq_true c;injection c' with c'
   have e:=zmhb hm hr c';exact⟨_,rfl,q _ (by rw[e];exact⟨a,m,rfl,h1,h2⟩)⟩
  ·refine⟨rfl,⟨_,rfl⟩,λj r' hj hr'=>?_⟩
   rcases ygf j i with z|z
   ·exact hm j r' z hr'
   ·have ej:j=i:=by omega
    subst ej;rw[hr] at hr';cases hr';intro z;exact c (decide_eq_true (by rw[z]))
 ·rintro σ H' ⟨rfl,⟨o,rfl⟩,hm⟩;rw[rl] at hm;exact q .non (by rw[zifb hm];rfl)
theorem zlw (T:Tx K mg){n k:Nat}(zki:FnOk P w K mg base CX0 k T.zeb.f T.zeb.d zqd (zxk T.ztb n)):FnOk P w K mg base CX0 (k+1) T.zac.f T.zac.d zse (zir T.ztb (n+1)):=by
 refine T.zac.ok zri ?_;rintro f c A o s H vs Q E hr ⟨v,rv,row,number,keeper,thing,y,rfl,W,R,hd,hne,q⟩ X;refine⟨_,  (zba (zoa (i:=5) zri.nd rfl (.inl rfl) (zle (zjb zyb (zwe (pv 0) rfl) zfa (λ_ _=>rfl)) T.zob T.zeb.M zki hr (zgg T) .nil zva (zaa (pv 1) (zaa (pv 2) (zaa (pv 3) (zaa (pv 4) zca))))))
  (zba (zwb (zma zqc (zwe (pv 0) rfl) zna (zwa _))
   (zda (zqa (zenb (pv 5))))
   zsa)
  (zba (zwb (zma zqc (zwe (pv 0) rfl) zna (zwa _))
   (zda (zqa (ztdb (pv 5) (zgq (zle (zjb zyb (zwe (pv 0) rfl) zfa (λ_ _=>rfl)) T.zob T.zeb.M zki hr (zgg T) .nil zva (zaa (pv 1) (zaa (pv 2) (zaa (pv 3) (zaa (pv 4) zca)))))))))
   zsa)
  (zda (zqa (zelb (pv 5) (zgq (zle (zjb zyb (zwe (pv 0) rfl) zfa (λ_ _=>rfl)) T.zob T.zeb.M zki hr (zgg T) .nil zva (zaa (pv 1) (zaa (pv 2) (zaa (pv 3) (zaa (pv 4) zca)))))))))))),?_⟩
 cases W with
 | @mk a dx t ps _ h1 h2 h3 =>
 have dp:=y.ztbb;have rd:∀{x:V},IsW T.ztb H x y->True:=λ_=>trivial;have part:∀(i:Nat) (p:Wh),y.parts[i]?=some p->Ex3 λai dxi fsi=>ps[i]?=some (.ref ai)∧H ai=some (.ins T.ztb dxi fsi)∧fsi.lookup ("fits_row":Str)=none∧IsW T.ztb H (.ref ai) p∧p.depth≤n:=by
  intro i p hp;have hi:i<ps.length:=by rw[h3.length];exact (yfa.mp hp).1
  obtain⟨p',hp',hw⟩:=h3.get (yqa hi);rw[hp] at hp';cases hp';have hm:p∈y.parts:=ykb hp;have:=dp p hm;have hw':=hw
  revert hw'
  cases hq:ps[i] with
  | ref ai =>
   intro hw';have hw2:=hw';cases hw2 with
   | @mk a' dx' t' ps' _ k1 k2 k3=>exact⟨ai,dx',_,by rw[yqa hi,hq],k1,zaeb _ _ _ (by decide +kernel) (by decide +kernel) (by decide +kernel),hw',by omega⟩
  | _=>intro hw';cases hw'
 have go:∀(i:Nat) (p:Wh),y.parts[i]?=some p->atI ps (i:Int)=some (ps.getD i .non):=λi p hp=>by
  obtain⟨ai,_,_,e,_⟩:=part i p hp;rw[zia e,yhd,e];rfl
 cases y with
 | not p =>
  obtain⟨a0,d0,f0,e0,g0,l0,w0,dd0⟩:=part 0 p rfl;refine⟨_,rfl,a,_,dx,_,_,rfl,h1,T.zob,T.zdd,zpj _ _ _,t,_,_,_,rfl,rfl,SqT.of h2,zia e0,a0,d0,_,rfl,g0,l0,_,rfl,_,rfl,_,rfl,_,rfl,_,rv,row,number,keeper,thing,p,rfl,w0,R,dd0,?_⟩;refine⟨_,rfl,a,_,dx,_,_,rfl,h1,T.zob,T.zcb,zoc _ _ _,rfl,_,rfl,iteT ?_⟩;exact⟨_,rfl,_,rfl,q⟩
 | both p p' =>
  obtain⟨a0,d0,f0,e0,g0,l0,w0,dd0⟩:=part 0 p rfl;obtain⟨a1,d1,f1,e1,g1,l1,w1,dd1⟩:=part 1 p' rfl;refine⟨_,rfl,a,_,dx,_,_,rfl,h1,T.zob,T.zdd,zpj _ _ _,t,_,_,_,rfl,rfl,SqT.of h2,zia e0,a0,d0,_,rfl,g0,l0,_,rfl,_,rfl,_,rfl,_,rfl,_,rv,row,number,keeper,thing,p,rfl,w0,R,dd0,?_⟩;refine⟨_,rfl,a,_,dx,_,_,rfl,h1,T.zob,T.zcb,zoc _ _ _,rfl,_,rfl,iteF ?_⟩;refine⟨_,rfl,a,_,dx,_,_,rfl,h1,T.zob,T.zcb,zoc _ _ _,rfl,_,rfl,iteT ?_⟩;refine⟨_,rfl,_,rfl,?_⟩;have q':Q (.bl (zrf row number keeper thing p&&zrf row number keeper thing p')) H:=q;cases e:zrf row number keeper thing p with
  | true =>
   rw[e,ygd] at q';refine iteT ?_;exact⟨_,rfl,a,_,dx,_,_,rfl,h1,T.zob,T.zdd,zpj _ _ _,t,_,_,_,rfl,rfl,SqT.of h2,zia e1,a1,d1,_,rfl,g1,l1,_,rfl,_,rfl,_,rfl,_,rfl,_,rv,row,number,keeper,thing,p',rfl,w1,R,dd1,q'⟩
  | false =>
   rw[e,ymd] at q';exact iteF q'
 | any p p' =>
  obtain⟨a0,d0,f0,e0,g0,l0,w0,dd0⟩:=part 0 p rfl;obtain⟨a1,d1,f1,e1,g1,l1,w1,dd1⟩:=part 1 p' rfl;refine⟨_,rfl,a,_,dx,_,_,rfl,h1,T.zob,T.zdd,zpj _ _ _,t,_,_,_,rfl,rfl,SqT.of h2,zia e0,a0,d0,_,rfl,g0,l0,_,rfl,_,rfl,_,rfl,_,rfl,_,rv,row,number,keeper,thing,p,rfl,w0,R,dd0,?_⟩;refine⟨_,rfl,a,_,dx,_,_,rfl,h1,T.zob,T.zcb,zoc _ _ _,rfl,_,rfl,iteF ?_⟩;refine⟨_,rfl,a,_,dx,_,_,rfl,h1,T.zob,T.zcb,zoc _ _ _,rfl,_,rfl,iteF ?_⟩;refine⟨_,rfl,_,rfl,?_⟩;have q':Q (.bl (zrf row number keeper thing p||zrf row number keeper thing p')) H:=q;cases e:zrf row number keeper thing p with
  | true =>
   rw[e,ymm] at q';exact iteT q'
  | false =>
   rw[e,yal] at q';refine iteF ?_;exact⟨_,rfl,a,_,dx,_,_,rfl,h1,T.zob,T.zdd,zpj _ _ _,t,_,_,_,rfl,rfl,SqT.of h2,zia e1,a1,d1,_,rfl,g1,l1,_,rfl,_,rfl,_,rfl,_,rfl,_,rv,row,number,keeper,thing,p',rfl,w1,R,dd1,q'⟩
 | _=>exact absurd rfl hne
theorem zsbb (T:Tx K mg){n k:Nat}(zpp:FnOk P w K mg base CX0 k T.zac.f T.zac.d zse (zir T.ztb n)):FnOk P w K mg base CX0 (k+1) T.zeb.f T.zeb.d zqd (zxk T.ztb n):=by
 refine T.zeb.ok zoq ?_;rintro f c A o s H vs Q E hr ⟨v,rv,row,number,keeper,thing,y,rfl,W,R,hd,q⟩ X;refine⟨_,  (zba (zwb (zpv (zwe (pv 0) rfl) (λ_=>rfl))
   (zda (zqa (zle (pv 0) T.zob T.zac.M zpp hr (zjp T) .nil zva (zaa (pv 1) (zaa (pv 2) (zaa (pv 3) (zaa (pv 4) zca)))))))
   zsa)
  (zba (zwb (zma zqc (zwe (pv 0) rfl) zna (zwa _))
   (zda (zqa zkfb))
   zsa)
  (zba (zwb (zma zqc (zwe (pv 0) rfl) zna (zwa _))
   (zda (zqa (zte zqc (pv 4) (pv 2) (zwa _))))
   zsa)
  (zba (zwb (zma zjy (pv 1) zcg (zwa _))
   (zda (zqa (ztdb (zte zqc (zwe (pv 0) rfl) zna (zwa _)) (zgq (zte zqc (pv 4) (zcc zbi (zdlb zidb zfa) (pv 3)) (zwa _))))))
   zsa)
  (zba (zwb (zma zqc (zwe (pv 0) rfl) zna (zwa _))
   (zda (zqa (zte zqc (zjb zyb (pv 1) zfa (λ_ _=>rfl)) (pv 3) (zwa _))))
   zsa)
  (zba (zwb (zma zqc (zwe (pv 0) rfl) zna (zwa _))
   (zda (zqa (zte zme (zwe (pv 0) rfl) (zjb zyb (pv 1) zfa (λ_ _=>rfl)) rfl)))
   zsa)
  (zda (zqa (zte zisb (zjb zyb (pv 1) zfa (λ_ _=>rfl)) (zwe (pv 0) rfl) (zwa _)))))))))),?_⟩
 have W0:=W;cases W with
 | @mk a dx t ps _ h1 h2 h3 =>
 have pe:(!ps.isEmpty) = !y.parts.isEmpty:=by
  have z:=h3.length;cases ps with
  | nil=>cases hp:y.parts with
   | nil=>rfl
   | cons p r=>rw[hp] at z;cases z
  | cons v r=>cases hp:y.parts with
   | nil=>rw[hp] at z;cases z
   | cons p r=>rfl
 refine⟨_,rfl,a,_,dx,_,_,rfl,h1,T.zob,T.zdd,zpj _ _ _,_,.inr (.inl ⟨_,SqT.of h2,rfl⟩),?_⟩;rw[pe];have fld:hfs y.word (valV y.val) t=hfs y.word (valV y.val) t:=rfl;have no:(hfs y.word (valV y.val) t).lookup ("fits_parts":Str)=none:=zaeb _ _ _ (by decide +kernel) (by decide +kernel) (by decide +kernel);have word:∀(A:Prop),A->True:=λ_ _=>trivial;cases y with
 | not p=>exact iteT ⟨_,rfl,a,dx,_,rfl,h1,no,_,rfl,_,rfl,_,rfl,_,rfl,_,rv,row,number,keeper,thing,.not p,rfl,W0,R,hd,by simp[Wh.parts],q⟩
 | both p p'=>exact iteT ⟨_,rfl,a,dx,_,rfl,h1,no,_,rfl,_,rfl,_,rfl,_,rfl,_,rv,row,number,keeper,thing,.both p p',rfl,W0,R,hd,by simp[Wh.parts],q⟩
 | any p p'=>exact iteT ⟨_,rfl,a,dx,_,rfl,h1,no,_,rfl,_,rfl,_,rfl,_,rfl,_,rv,row,number,keeper,thing,.any p p',rfl,W0,R,hd,by simp[Wh.parts],q⟩
 | all =>
  refine iteF ⟨_,rfl,a,_,dx,_,_,rfl,h1,T.zob,T.zcb,zoc _ _ _,rfl,_,rfl,iteT ?_⟩;exact q
 | self =>
  refine iteF ⟨_,rfl,a,_,dx,_,_,rfl,h1,T.zob,T.zcb,zoc _ _ _,rfl,_,rfl,iteF ?_⟩;refine⟨_,rfl,a,_,dx,_,_,rfl,h1,T.zob,T.zcb,zoc _ _ _,rfl,_,rfl,iteT ?_⟩;refine⟨_,rfl,_,rfl,rfl,?_⟩;have e:decide (V.int thing=V.int number)=decide (thing=number):=by simp
  show Q (.bl (decide (V.int thing=V.int number))) H
  rw[e];exact q
 | mine =>
  refine iteF ⟨_,rfl,a,_,dx,_,_,rfl,h1,T.zob,T.zcb,zoc _ _ _,rfl,_,rfl,iteF ?_⟩;refine⟨_,rfl,a,_,dx,_,_,rfl,h1,T.zob,T.zcb,zoc _ _ _,rfl,_,rfl,iteF ?_⟩;refine⟨_,rfl,rfl,_,rfl,?_⟩;cases row with
  | none =>
   cases (show rv = .non from R);refine iteT ?_;refine⟨_,rfl,a,_,dx,_,_,rfl,h1,T.zob,T.zcb,zoc _ _ _,rfl,_,rfl,iteT ?_⟩;refine⟨_,rfl,_,rfl,_,rfl,_,_,rfl,rfl,rfl,?_⟩;have e:decide (V.int thing=V.int (-1-keeper))=decide (thing = -1-keeper):=(by simp);show Q (.bl (decide (V.int thing=V.int (-1-keeper)))) H
   rw[e];exact q
  | some r =>
   obtain⟨b,m,rfl,r1,r2⟩:=(show zll H rv r from R);refine iteF ?_;refine⟨_,rfl,a,_,dx,_,_,rfl,h1,T.zob,T.zcb,zoc _ _ _,rfl,_,rfl,iteT ?_⟩;refine⟨_,rfl,b,_,_,_,rfl,rfl,SqT.of r1,rfl,_,rfl,rfl,?_⟩;have e:decide (V.int r.keeper=V.int keeper)=decide (r.keeper=keeper):=(by simp);show Q (.bl (decide (V.int r.keeper=V.int keeper))) H
   rw[e];exact q
 | mark n =>
  refine iteF ⟨_,rfl,a,_,dx,_,_,rfl,h1,T.zob,T.zcb,zoc _ _ _,rfl,_,rfl,iteF ?_⟩;refine⟨_,rfl,a,_,dx,_,_,rfl,h1,T.zob,T.zcb,zoc _ _ _,rfl,_,rfl,iteF ?_⟩;refine⟨_,rfl,rfl,_,rfl,?_⟩;cases row with
  | none =>
   cases (show rv = .non from R);refine iteT ?_;exact⟨_,rfl,a,_,dx,_,_,rfl,h1,T.zob,T.zcb,zoc _ _ _,rfl,_,rfl,iteF q⟩
  | some r =>
   obtain⟨b,m,rfl,r1,r2⟩:=(show zll H rv r from R);refine iteF ?_;refine⟨_,rfl,a,_,dx,_,_,rfl,h1,T.zob,T.zcb,zoc _ _ _,rfl,_,rfl,iteF ?_⟩;refine⟨_,rfl,a,_,dx,_,_,rfl,h1,T.zob,T.zcb,zoc _ _ _,rfl,_,rfl,iteT ?_⟩;exact⟨_,rfl,a,_,dx,_,_,rfl,h1,T.zob,T.znf,zjz _ _ _,_,rfl,b,_,_,_,rfl,rfl,SqT.of r1,rfl,m,_,rfl,.inr (SqT.of r2),rfl,znz _,q⟩
 | force i =>
  refine iteF ⟨_,rfl,a,_,dx,_,_,rfl,h1,T.zob,T.zcb,zoc _ _ _,rfl,_,rfl,iteF ?_⟩;refine⟨_,rfl,a,_,dx,_,_,rfl,h1,T.zob,T.zcb,zoc _ _ _,rfl,_,rfl,iteF ?_⟩;refine⟨_,rfl,rfl,_,rfl,?_⟩;cases row with
  | none =>
   cases (show rv = .non from R);refine iteT ?_;exact⟨_,rfl,a,_,dx,_,_,rfl,h1,T.zob,T.zcb,zoc _ _ _,rfl,_,rfl,iteF q⟩
  | some r =>
   obtain⟨b,m,rfl,r1,r2⟩:=(show zll H rv r from R);refine iteF ?_;refine⟨_,rfl,a,_,dx,_,_,rfl,h1,T.zob,T.zcb,zoc _ _ _,rfl,_,rfl,iteF ?_⟩;refine⟨_,rfl,a,_,dx,_,_,rfl,h1,T.zob,T.zcb,zoc _ _ _,rfl,_,rfl,iteF ?_⟩;exact⟨_,rfl,b,_,_,_,rfl,rfl,SqT.of r1,rfl,_,rfl,a,_,dx,_,_,rfl,h1,T.zob,T.znf,zjz _ _ _,_,_,rfl,rfl,q⟩
theorem zkw (T:Tx K mg):FnOk P w K mg base CX0 2 T.zeb.f T.zeb.d zqd (zxk T.ztb 0):=by
 have no:∀vs H Q E,¬ zxk T.ztb 0 vs H Q E:=λvs H Q E h=>by
  obtain⟨v,rv,row,number,keeper,thing,y,_,_,_,hd,_⟩:=h;have:1≤y.depth:=by cases y<;>simp[Wh.depth]
  omega
 exact⟨λvs H Q E h=>absurd h (no vs H Q E),λA outer s H args us vs Q E _ _ _ _ h=>absurd h (no vs H Q E)⟩
theorem zlq (T:Tx K mg):∀n:Nat,FnOk P w K mg base CX0 (2*n+2) T.zeb.f T.zeb.d zqd (zxk T.ztb n)
 | 0=>zkw T
 | n+1=>zsbb T (zlw T (zlq T n))
theorem zfpb (T:Tx K mg):FnOk P w K mg base CX0 21 T.zgf.f T.zgf.d zin (zqrb T.ztb):=by
 refine T.zgf.ok zzx ?_;rintro f c A o s H vs Q E hr ⟨v,sl,us,rs,number,keeper,thing,y,rfl,W,hsl,R,hs,q⟩ X;refine⟨_,  (zda (zqa (zle (pv 0) T.zob T.zeb.M (zlq T 9) hr (zgg T) .nil zva (zaa (zja (zks T).up hr rfl T.ztf.m T.ztf.F.kp (zuw T) .nil zva (zaa (pv 1) (zaa (pv 4) zca))) (zaa (pv 2) (zaa (pv 3) (zaa (pv 4) zca))))))),?_⟩;have W0:=W;cases W with
 | @mk a dx t ps _ h1 h2 h3 =>
 refine⟨_,rfl,a,dx,_,rfl,h1,zaeb _ _ _ (by decide +kernel) (by decide +kernel) (by decide +kernel),_,rfl,_,rfl,sl,us,rs,thing,rfl,hsl,R,λv hv=>?_⟩;exact⟨_,rfl,_,rfl,_,rfl,_,v,rowOf rs thing,number,keeper,thing,y,rfl,W0,hv,yxa y.zomb hs,q⟩
theorem zae {H H':Hp}{p:Addr}(S:Same H H')(h:H p=none)(o:HO):Same H (upd H' p o):=λb u q=>by rw[zza (zka q h)];exact S b u q
theorem none_of {H H':Hp}{p:Addr}(S:Same H H')(h:H' p=none):H p=none:=by
 cases e:H p with
 | none=>rfl
 | some o =>
  have z:=S _ _ e;rw[z] at h;cases h
@[elab_as_elim] theorem laid {H:Hp} {l:Addr} {o:HO} {motive:Hp->Prop} (hl:H l=none) (h:∀H1,Same H H1->H1 l=some o->motive H1):motive (upd H l o):=h _ (zxa hl o) zga
theorem zct {ss:List Str}{r:Int}(h0:0≤r)(h1:r<(ss.length:Int)):∃u,atI (ss.map V.str) r=some (.str u)∧u∈ss:=by
 obtain⟨v,hv,hm⟩:=zoo (xs:=ss.map V.str) h0 (by rw[yda];exact h1);obtain⟨u,hu,rfl⟩:=ydb.mp hm;exact⟨u,hv,hu⟩
theorem zdo (x:Int){m:Int}(h:0<m):0≤x % m∧x % m<m:=⟨yij x (by omega),ysh x h⟩
def ltr (r:Int):Nat:=(LL.cps.toList[r.toNat]?).getD 0
theorem zobb:∀n:Nat,n<26->LL.cps.toList[n]?=some (97+n):=by decide +kernel
theorem zxdb {r:Int}(h0:0≤r)(h1:r<26):(ltr r:Int)=97+r:=by
 unfold ltr;rw[zobb r.toNat (by omega)];show ((97+r.toNat:Nat):Int)=97+r
 omega
theorem zinb {r:Int}(h0:0≤r)(h1:r<26):atI LL.cps.toList r=some (ltr r):=by
 have q:=zia (zobb r.toNat (by omega));rw[show ((r.toNat:Nat):Int)=r by omega] at q;rw[q];unfold ltr;rw[zobb r.toNat (by omega)];rfl
theorem zssb (x:Int):97≤ltr (x % 26)∧ltr (x % 26)≤122:=by
 have m:=zdo x (m:=26) (by decide);have:=zxdb m.1 m.2;omega
def sgn (c:Nat):Str:=⟨#[c]⟩
theorem zsu:∀cs:List Nat,(ysa "" (cs.map sgn)).cps.toList=cs
 | []=>rfl
 | [c]=>rfl
 | c::d::r=>by
  have ih:=zsu (d::r);have e:ysa "" ((c::d::r).map sgn)=sgn c ++ "" ++ ysa "" ((d::r).map sgn):=rfl;rw[e];show ((#[c]++("":Str).cps)++(ysa "" ((d::r).map sgn)).cps).toList=_
  rw[yeg,ih];rfl
theorem zqx:∀cs:List Nat,((cs.map sgn).map (·.length)).sum=cs.length
 | []=>rfl
 | c::r=>by
  rw[yva,yva,yhf,zqx r,yha];show 1+r.length=r.length+1
  omega
theorem zdmb (n L:Nat)(h:n≤L):ywe none (some (n:Int)) 1 L=yoe n:=by
 unfold ywe;dsimp only;have e:(if (1:Int)>0 then max 0 (min (if (n:Int)<0 then (n:Int)+(L:Int) else (n:Int)) (L:Int)) else max (-1) (min (if (n:Int)<0 then (n:Int)+(L:Int) else (n:Int)) ((L:Int)-1)))=(n:Int):=by
  rw[if_pos (by decide),if_neg (by omega)];omega
 rw[e,if_pos (by decide)];have z:=yxm 0 n;rw[ylm] at z;rw[show ((0:Int))=((0:Nat):Int) from rfl,z];simp
theorem zds {x:Array Nat}:∀n:Nat,n≤x.size->(yoe n).filterMap (λj=>x[j]?)=x.toList.take n
 | 0,_=>rfl
 | n+1,h=>by
  rw[List.range_succ,List.filterMap_append,zds n (by omega),yjb];have e:x.toList[n]?=x[n]?:=by rw[yhc]
  have hn:n<x.size:=by omega
  have e2:x[n]?=some x[n]:=ynb hn;rw[e,yfh,e2,List.filterMap_nil];rfl
theorem zefb (x:Str)(n:Nat)(h:n≤x.length):ycm x none (some (n:Int))=⟨(x.cps.toList.take n).toArray⟩:=by
 unfold ycm;rw[zdmb n x.length h,ytf]
 by_cases e:n=x.length
 ·subst e;rw[if_pos (by simp)];have:x.cps.toList.take x.length=x.cps.toList:=yua (by simp[yop]);rw[this,yfe]
 ·rw[if_neg (by simp[e])];rw[show (λj=>x.cps[j]?)=(λj=>x.cps[j]?) from rfl];have z:=zds (x:=x.cps) n h;rw[← z]
def zsrb (K:yba):Sp:=λvs H Q _=>Ex3 λa (ns:List Int) (k:Int)=>vs=[.ref a,.int k]∧SqL K H a (ns.map V.int)∧ns.length≤63∧0≤k∧k≤10000000∧∀z:Int,Q (.int z) H
theorem zty (T:Tx K mg):FnOk P w K mg base CX0 2 T.zff.f T.zff.d zgn (zsrb K):=by
 refine T.zff.ok zpi ?_;rintro f c A o s H vs Q E hr ⟨a,ns,k,rfl,hS,h63,k0,k9,q⟩ X;refine⟨_,  (zba (zwb (zma zklb (pv 1) (zkb zdb rfl T.zsf ymb (zaa (pv 0) zca)) (zwa _))
   (zda (zqa (zjb zkc (pv 0) (pv 1) (λ_ _=>rfl))))
   zsa)
  (zba (zoa (i:=2) zpi.nd rfl (.inl rfl) (zcc zbh zfa (pv 1)))
  (zba (zwb (zma zut (zkb zdb rfl T.zsf ymb (zaa (pv 0) zca)) zfa (zwa _))
   (zda (zoa (i:=2) zpi.nd rfl (.inl rfl) (zcc zbh (pv 2) (zcc zis (zcc zci (zjb zkc (pv 0) (zcc zci (zcc zbh (zcc zis zfa (pv 1)) zfa) (zkb zdb rfl T.zsf ymb (zaa (pv 0) zca))) (λ_ _=>rfl)) zfa) (zcc zbh (zcc zci (pv 1) zfa) zfa)))))
   zsa)
  (zba (zoa (i:=3) zpi.nd rfl (.inl rfl) (zcc zci (zcc zis (pv 2) zfa) zfa))
  (zda (zqa (zcc zci (zcc zis (pv 3) (pv 3)) zfa))))))),?_⟩
 have hl:(ns.map V.int).length=ns.length:=yda _;refine⟨_,rfl,_,rfl,a,_,rfl,.inl hS,_,_,rfl,rfl,_,rfl,?_⟩;refine ite2 (λc=>?_) (λc=>?_)
 ·have c':k<(((ns.map V.int).length:Nat):Int):=of_decide_eq_true c;obtain⟨z,hz⟩:=zvjb (ns:=ns) k0 (by omega);exact⟨_,rfl,_,rfl,a,_,_,_,rfl,rfl,hS,hz,q z⟩
 ·have big:∀c:Int,0≤c % 2147483629∧c % 2147483629<2147483629:=λc=>⟨yij c (by omega),ysh c (by omega)⟩;have fin:∀z:Int,CMul (z*48271 % 2147483629) (z*48271 % 2147483629):=λz=>.inl ⟨by have:=big (z*48271);omega,by have:=big (z*48271);omega⟩;refine⟨_,rfl,_,_,rfl,rfl,?_⟩;refine⟨_,rfl,a,_,rfl,.inl hS,_,_,rfl,rfl,_,rfl,?_⟩;refine ite2 (λc=>?_) (λc=>?_)
  ·have c':(0:Int)<(((ns.map V.int).length:Nat):Int):=of_decide_eq_true c;have n0:0≤(3*k+1) % (((ns.map V.int).length:Nat):Int):=yij _ (by omega);have n1:(3*k+1) % (((ns.map V.int).length:Nat):Int)<(((ns.map V.int).length:Nat):Int):=ysh _ c';obtain⟨z,hz⟩:=zvjb (ns:=ns) n0 (by omega);refine⟨_,rfl,_,rfl,_,rfl,_,_,rfl,rfl,.inl ⟨by decide,by decide⟩,_,_,rfl,rfl,_,rfl,a,_,rfl,.inl hS,_,_,rfl,rfl,c',a,_,_,_,rfl,rfl,hS,hz,_,_,rfl,rfl,(by show (0:Int)<1000003;decide),_,rfl,_,_,rfl,rfl,(by show (0:Int)<97;decide),_,_,rfl,rfl,_,_,rfl,rfl,.inr ⟨by have:=zdo k (m:=97) (by decide);omega,by have:=zdo k (m:=97) (by decide);omega⟩,_,_,rfl,rfl,?_⟩;exact⟨_,rfl,_,_,rfl,rfl,.inr ⟨by decide,by decide⟩,_,_,rfl,rfl,(by show (0:Int)<2147483629;decide),_,rfl,_,rfl,_,_,rfl,rfl,fin _,_,_,rfl,rfl,(by show (0:Int)<2147483629;decide),q _⟩
  ·exact⟨_,rfl,_,_,rfl,rfl,.inr ⟨by decide,by decide⟩,_,_,rfl,rfl,(by show (0:Int)<2147483629;decide),_,rfl,_,rfl,_,_,rfl,rfl,fin _,_,_,rfl,rfl,(by show (0:Int)<2147483629;decide),q _⟩
theorem zpa (T:Tx K mg):FnOk P w K mg base CX0 3 T.zea.f T.zea.d zfn (zmrb K):=by
 refine T.zea.ok zvp ?_;rintro f c A o s H vs Q E hr ⟨p,k,m,rfl,TT,hk,hm,q⟩ X;refine⟨_,  (zba (zoa (i:=2) zvp.nd rfl (.inl rfl) (zcc zci (zja (zty T) hr rfl T.zff.m T.zff.F.kp (zfcb T) .nil zva (zaa (zjb zkc (pv 0) zfa (λ_ _=>rfl)) (zaa (zjb zkc (pv 0) zfa (λ_ _=>rfl)) zca))) (pv 1)))
  (zba (zbs (zcc zbh (zjb zkc (pv 0) zfa (λ_ _=>rfl)) zfa) (zasb (pv 0) zfa set_list))
  (zda (zqa (pv 2))))),?_⟩
 obtain⟨⟨a,ns,h1,h2,h3⟩,lo⟩:=TT;have S0:SqL K H a (ns.map V.int):=h2.sq;refine⟨_,rfl,p,_,_,_,rfl,rfl,SqL.of h1,rfl,_,rfl,p,_,_,_,rfl,rfl,SqL.of h1,rfl,a,ns,k,rfl,S0,h3,lo,by omega,λz=>⟨_,rfl,_,_,rfl,rfl,hm,?_⟩⟩;refine⟨_,rfl,p,_,_,_,rfl,rfl,SqL.of h1,rfl,_,_,rfl,rfl,_,rfl,p,_,_,_,rfl,rfl,h1,rfl,?_⟩;have B:But p H (upd H p (.lst [.ref a,.int (k+1)])):=But.put;have T1:Tk K (upd H p (.lst [.ref a,.int (k+1)])) p (k+1):=⟨⟨a,ns,zga,h2.keep λo u z=>by rw[zza (zel z h1 (by intro y;cases y))];exact z,h3⟩,by omega⟩;have big:0≤z % m∧z % m<m:=⟨yij z (by omega),ysh z hm⟩;exact⟨_,rfl,q _ _ big.1 big.2 B T1⟩
def zqkb (K:yba):Sp:=λvs H Q _=>Ex2 λp (k:Int)=>vs=[.ref p]∧Tk K H p k∧k≤900000∧∀(r:Nat) (k':Int) H',r<1000->But p H H'->Tk K H' p k'->k'≤k+2->Q (.int (r:Int)) H'
theorem zgj (T:Tx K mg):FnOk P w K mg base CX0 4 T.zmc.f T.zmc.d zmk (zqkb K):=by
 refine T.zmc.ok ztt ?_;rintro f c A o s H vs Q E hr ⟨p,k,rfl,TT,hk,q⟩ X;refine⟨_,  (zba (zwb (zma zqc (zja (zpa T) hr rfl T.zea.m T.zea.F.kp (zta T) .nil zva (zaa (pv 0) (zaa zfa zca))) zfa (zwa _))
   (zda (zqa (zja (zpa T) hr rfl T.zea.m T.zea.F.kp (zta T) .nil zva (zaa (pv 0) (zaa zfa zca)))))
   zsa)
  (zda (zqa (zja (zpa T) hr rfl T.zea.m T.zea.F.kp (zta T) .nil zva (zaa (pv 0) (zaa zfa zca)))))),?_⟩
 refine⟨_,rfl,p,k,4,rfl,TT,by omega,by decide,λr H1 r0 r1 B1 T1=>⟨rfl,_,rfl,?_⟩⟩;refine ite2 (λc=>?_) (λc=>?_)
 ·refine⟨_,rfl,p,k+1,1000,rfl,T1,by omega,by decide,λr2 H2 a b B2 T2=>?_⟩;obtain⟨n,rfl⟩:∃n:Nat,r2=(n:Int):=⟨r2.toNat,by omega⟩;exact q n _ H2 (by omega) (B1.trans B2) T2 (by omega)
 ·refine⟨_,rfl,p,k+1,5,rfl,T1,by omega,by decide,λr2 H2 a b B2 T2=>?_⟩;obtain⟨n,rfl⟩:∃n:Nat,r2=(n:Int):=⟨r2.toNat,by omega⟩;exact q n _ H2 (by omega) (B1.trans B2) T2 (by omega)
theorem zcmb (n L:Nat)(h:n≤L):ywe (some (n:Int)) none 1 L=(yoe (L-n)).map (n+·):=by
 unfold ywe;dsimp only;have e:(if (1:Int)>0 then max 0 (min (if (n:Int)<0 then (n:Int)+(L:Int) else (n:Int)) (L:Int)) else max (-1) (min (if (n:Int)<0 then (n:Int)+(L:Int) else (n:Int)) ((L:Int)-1)))=(n:Int):=by
  rw[if_pos (by decide),if_neg (by omega)];omega
 rw[e,if_pos (by decide)];exact yxm n L
theorem zdfb (x:Str)(n:Nat)(h:n≤x.length):ycm x (some (n:Int)) none=⟨(x.cps.toList.drop n).toArray⟩:=by
 have hl:x.cps.size=x.length:=rfl;unfold ycm;rw[zcmb n x.length h]
 by_cases e:n=0
 ·subst e;rw[if_pos (by simp)];rw[yei,yfe]
 ·rw[if_neg (by simp;omega)];have z:=zds (x:=(x.cps.toList.drop n).toArray) (x.length-n) (by simp[hl]);rw[yua (by simp[hl])] at z;rw[yqn]
  congr 1
  rw[show (x.cps.toList.drop n)=(x.cps.toList.drop n).toArray.toList by simp,← z]
  congr 1
  congr 1
  funext j
  show x.cps[n+j]?=(ykp n x.cps.toList).toArray[j]?
  rw[← yhc (xs:=(ykp n x.cps.toList).toArray),List.toList_toArray,yff,yhc]
structure N4 (H:Hp)(nl:Addr)(ns:List Str):Prop where
 at_:H nl=some (.lst (ns.map V.str))
 len:ns.length=4
 ok:∀n∈ns,zoe n
 nd:ns.Nodup
def nmIn (cs:List Nat)(a c:Nat):Str:=⟨(cs.take a).toArray⟩++sgn c++⟨(cs.drop a).toArray⟩
theorem zwy (cs:List Nat)(a c:Nat):(nmIn cs a c).cps.toList=cs.take a++c::cs.drop a:=by
 show ((cs.take a).toArray++#[c]++(cs.drop a).toArray).toList=_
 simp
theorem zmpb {cs:List Nat}{a c:Nat}(h8:cs.length<8)(hc:97≤c∧c≤122)(hs:∀x∈cs,97≤x∧x≤122):zoe (nmIn cs a c):=by
 have e:=zwy cs a c;have el:(nmIn cs a c).length=cs.length+1:=by
  have q:=congrArg yag e;rw[ybb,yea,yha,yib,yud] at q;have q':(nmIn cs a c).length=min a cs.length+(cs.length-a+1):=q;omega
 refine⟨by omega,by omega,?_⟩;rw[e];intro x hx
 rcases yeb.mp hx with z|z
 ·exact hs x (yvg z)
 ·rcases yja.mp z with z|z
  ·rw[z];exact hc
  ·exact hs x (List.mem_of_mem_drop z)
theorem zqlb {cs:List Nat}{a c d:Nat}(h:nmIn cs a c=nmIn cs a d):c=d:=by
 have e:=congrArg (λz:Str=>z.cps.toList) h;simp only[zwy] at e;have f:=List.append_cancel_left e;injection f
def zzgb (K:yba):Sp:=λvs H Q _=>Ex2 λp (k:Int)=>vs=[.ref p]∧Tk K H p k∧k≤900000∧∀nl (ns:List Str) (k':Int) H',But p H H'->Tk K H' p k'->k'≤k+11->H nl=none->N4 H' nl ns->Q (.ref nl) H'
theorem zwv (T:Tx K mg):FnOk P w K mg base CX0 4 T.zge.f T.zge.d zql (zzgb K):=by
 refine T.zge.ok zzf ?_;rintro f c A o s H vs Q E hr ⟨p,k,rfl,TT,hk,q⟩ X;refine⟨_,  (zba (zoa (i:=1) zzf.nd rfl (.inr rfl) zna)
  (zba (zoa (i:=2) zzf.nd rfl (.inr rfl) (zai ykd yqg yrg zaw zna (zaa (zeg (own:=["_law_k"]) (cap:=["_law_letters","_law_pen"]) rfl (zpc.chk rfl rfl) (.cons (j:=1) rfl (.inl rfl) (.inl rfl) (.cons (j:=0) rfl (.inl rfl) (.inl rfl) .nil)) (zah rfl T.zth (zaa (zja (zpa T) hr rfl T.zea.m T.zea.F.kp (zta T) .nil zva (zaa (pv 0) (zaa zfa zca))) zca)) (λ_ _ _ _=>(zua (i:=0) (show yfd (["_law_k","_law_letters","_law_pen"]:List Str) by decide +kernel) rfl (.inl rfl))) (λ_ _ _ _=>zcl) (λ_ _ _ _=>by exact (zjb zoib (pv 1) (zja (zpa T) hr rfl T.zea.m T.zea.F.kp (zta T) .nil zva (zaa (pv 2) (zaa zfa zca))) (λ_ _=>rfl)))) zca)))
  (zba (zoa (i:=3) zzf.nd rfl (.inr rfl) (zja (zpa T) hr rfl T.zea.m T.zea.F.kp (zta T) .nil zva (zaa (pv 0) (zaa (zcc zbh (zkb zjl rfl T.zsf ymb (zaa (pv 2) zca)) zfa) zca))))
  (zba (zoa (i:=4) zzf.nd rfl (.inr rfl) (zja (zpa T) hr rfl T.zea.m T.zea.F.kp (zta T) .nil zva (zaa (pv 0) (zaa zfa zca))))
  (zda (zqa (zeg (own:=["_law_k"]) (cap:=["_law_base","_law_letters","_law_at","_law_first"]) rfl (zpc.chk rfl rfl) (.cons (j:=2) rfl (.inl rfl) (.inl rfl) (.cons (j:=1) rfl (.inl rfl) (.inl rfl) (.cons (j:=3) rfl (.inl rfl) (.inl rfl) (.cons (j:=4) rfl (.inl rfl) (.inl rfl) .nil)))) (zah rfl T.zth (zaa zfa zca)) (λ_ _ _ _=>(zua (i:=0) (show yfd (["_law_k","_law_base","_law_letters","_law_at","_law_first"]:List Str) by decide +kernel) rfl (.inl rfl))) (λ_ _ _ _=>zcl) (λ_ _ _ _=>by exact (zcc zwl (zcc zwl (zsg zcnb (pv 1) zfj (zej (pv 3))) (zjb zoib (pv 2) (zcc zci (zcc zbh (pv 4) (zcc zis zfa (pv 0))) zfa) (λ_ _=>rfl))) (zsg zcnb (pv 1) (zej (pv 3)) zfj)))))))))),?_⟩
 refine⟨rfl,_,rfl,p,k,8,rfl,TT,by omega,by decide,λm0 H1 m1 m2 B1 T1=>?_⟩;obtain⟨m,rfl⟩:∃m:Nat,m0=(m:Int):=⟨m0.toNat,by omega⟩;refine⟨_,rfl,by omega,by omega,?_⟩;rw[ydc];refine zfp (λj ys Hx=>Ex2 λ(cs:List Nat) (k':Int)=>But p H Hx∧Tk K Hx p k'∧k'≤k+1+(j:Int)∧j≤m∧cs.length=j∧(∀c∈cs,97≤c∧c≤122)∧ys=(cs.map sgn).map V.str) ⟨[],_,B1,T1,by omega,ylb _,rfl,by simp,rfl⟩ ?_ ?_ ?_
 ·rintro j ys Hx ⟨cs,k',_,_,_,hj,hl,_,rfl⟩;rw[yda,yda,hl];exact small (by omega)
 ·rintro j ys Hx hj ⟨cs,k',B,T2,hk',_,hl,hc,rfl⟩;refine⟨rfl,_,rfl,_,rfl,p,k',26,rfl,T2,by omega,by decide,λr H2 r0 r1 B2 T3=>?_⟩;refine⟨LL,_,_,rfl,rfl,(by decide +kernel),zinb r0 r1,cs++[ltr r],_,B.trans B2,T3,by omega,hj,by rw[yea,hl];rfl,?_,?_⟩
  ·intro c z
   rcases yeb.mp z with y|y
   ·exact hc c y
   ·rw[yia.mp y];have:=zxdb r0 r1;omega
  ·rw[yfb,yfb];rfl
 ·rintro ys Hx ⟨cs,k',B,T2,hk',_,hl,hc,rfl⟩ sl hsl;refine laid hsl λH3 S3 e3=>?_;have B3:But p H H3:=B.trans (But.same S3);have T3:=T2.same S3;have nsl:p≠sl:=T2.ne hsl;refine⟨"",sl,cs.map sgn,rfl,rfl,SqL.of e3,?_,?_⟩
  ·rw[zqx,hl];have z0:("":Str).length=0:=rfl;rw[z0];omega
  have hx:=zsu cs;generalize ysa "" (cs.map sgn)=x at hx ⊢;have xl:x.length=m:=by
   have z:=congrArg yag hx;rw[ybb,hl] at z;exact z
  have s1000:∀{n:Nat},n≤1000->n≤yta:=λ{n} h=>yle (zjc h);refine⟨_,rfl,_,rfl,x,rfl,s1000 (by omega),_,_,rfl,rfl,p,k',(m:Int)+1,(by rw[xl];rfl),T3,by omega,by omega,λa0 H4 a1 a2 B4 T4=>?_⟩;obtain⟨a,rfl⟩:∃a:Nat,a0=(a:Int):=⟨a0.toNat,by omega⟩;refine⟨_,rfl,p,_,26,rfl,T4,by omega,by decide,λf0 H5 f1 f2 B5 T5=>?_⟩;have B05:=B3.trans (B4.trans B5);refine⟨4,rfl,by decide,by decide,?_⟩;refine zfp (λj ys Hx=>Hx=H5∧j≤4∧∃ns:List Str,ys=ns.map V.str∧ns.length=j∧(∀n∈ns,zoe n)∧ns.Nodup∧∀n∈ns,∃i:Nat,i<j∧n=nmIn cs a (ltr ((f0+7*(0+(i:Int))) % 26))) ⟨rfl,ylb _,[],rfl,rfl,by simp,.nil,by simp⟩ ?_ ?_ ?_
  ·rintro j ys Hx ⟨_,hj,ns,rfl,hl2,_⟩;rw[yda,hl2];exact small (by omega)
  ·rintro j ys Hx hj ⟨rfl,_,ns,rfl,hl2,ok,nd,wh⟩;have hj4:j<4:=hj;have r26:=zdo (f0+7*(0+(j:Int))) (m:=26) (by decide);refine⟨rfl,_,rfl,_,rfl,_,rfl,x,rfl,s1000 (by omega),λt1 e1 l1=>?_⟩;refine⟨_,rfl,_,rfl,_,rfl,_,_,rfl,rfl,.inl ⟨by decide,by decide⟩,_,_,rfl,rfl,_,_,rfl,rfl,(by show (0:Int)<26;decide),LL,_,_,rfl,rfl,(by decide +kernel),zinb r26.1 r26.2,?_⟩;rw[zefb x a (by omega),hx] at e1;subst e1;refine⟨_,_,rfl,rfl,s1000 (by show _+1≤1000;omega),_,rfl,_,rfl,_,rfl,x,rfl,s1000 (by omega),λt2 e2 l2=>?_⟩;rw[zdfb x a (by omega),hx] at e2;subst e2;refine⟨_,_,rfl,rfl,?_,rfl,hj,ns++[nmIn cs a (ltr ((f0+7*(0+(j:Int))) % 26))],?_,?_,?_,?_,?_⟩
   ·refine s1000 ?_;have t1:((cs.take a).toArray++#[ltr ((f0+7*(0+(j:Int))) % 26)]).size≤8:=by
     rw[ynk,ypa,yib];show _+1≤8
     omega
    have t2:((cs.drop a).toArray).size≤8:=by
     rw[ypa,yud];omega
    exact yxa (Nat.add_le_add t1 t2) (by decide)
   ·rw[yfb];rfl
   ·rw[yea,hl2];rfl
   ·intro n z
    rcases yeb.mp z with y|y
    ·exact ok n y
    ·rw[yia.mp y];exact zmpb (by omega) (zssb _) hc
   ·rw[yci];refine⟨nd,yje _ _,λy hy n hn z=>?_⟩;rw[yia.mp hn] at z;obtain⟨i,hi,rfl⟩:=wh y hy;have ed:=zqlb z;have e1:=zxdb (zdo (f0+7*(0+(i:Int))) (m:=26) (by decide)).1 (zdo (f0+7*(0+(i:Int))) (m:=26) (by decide)).2;have e2:=zxdb r26.1 r26.2;omega
   ·intro n z
    rcases yeb.mp z with y|y
    ·obtain⟨i,hi,e⟩:=wh n y;exact⟨i,by omega,e⟩
    ·exact⟨j,by omega,yia.mp y⟩
  ·rintro ys Hx ⟨rfl,_,ns,rfl,hl2,ok,nd,wh⟩ nl hnl;refine laid hnl λH6 S6 e6=>?_;refine q nl ns _ H6 (B05.trans (But.same S6)) (T5.same S6) (by omega) ?_ ⟨e6,hl2,ok,nd⟩;cases z:H nl with
   | none=>rfl
   | some o =>
    by_cases ep:nl=p
    ·rw[ep] at hnl;exact absurd rfl (T5.ne hnl)
    ·rw[B05 _ _ ep z] at hnl;cases hnl
def whT (y:Wh):Str:=ysa " " y.words
inductive WT (H:Hp):V->Wh->Prop where
 | all {a:Addr}:H a=some (.tup [.str "all"])->WT H (.ref a) .all
 | self {a:Addr}:H a=some (.tup [.str "self"])->WT H (.ref a) .self
 | mine {a:Addr}:H a=some (.tup [.str "mine"])->WT H (.ref a) .mine
 | mark {a:Addr} {n:Str}:H a=some (.tup [.str "mark",.str n])->WT H (.ref a) (.mark n)
 | force {a:Addr} {i:Nat}:H a=some (.tup [.str "force",.int (i:Int)])->WT H (.ref a) (.force i)
 | not {a:Addr} {x:V} {y:Wh}:H a=some (.tup [.str "not",x])->WT H x y->WT H (.ref a) (.not y)
 | both {a:Addr} {x x':V} {y y':Wh}:H a=some (.tup [.str "both",x,x'])->WT H x y->WT H x' y'->WT H (.ref a) (.both y y')
 | any {a:Addr} {x x':V} {y y':Wh}:H a=some (.tup [.str "any",x,x'])->WT H x y->WT H x' y'->WT H (.ref a) (.any y y')
theorem WT.same {H H':Hp}(s:Same H H'):∀{v:V} {y:Wh},WT H v y->WT H' v y
 | _,_,.all h=>.all (s _ _ h)
 | _,_,.self h=>.self (s _ _ h)
 | _,_,.mine h=>.mine (s _ _ h)
 | _,_,.mark h=>.mark (s _ _ h)
 | _,_,.force h=>.force (s _ _ h)
 | _,_,.not h t=>.not (s _ _ h) (t.same s)
 | _,_,.both h t u=>.both (s _ _ h) (t.same s) (u.same s)
 | _,_,.any h t u=>.any (s _ _ h) (t.same s) (u.same s)
theorem WT.tup {H:Hp}{v:V}{y:Wh}(h:WT H v y):Ex2 λa xs=>v = .ref a∧H a=some (.tup xs):=by
 cases h<;>exact⟨_,_,rfl,by assumption⟩
def dep:Wh->Nat
 | .not a=>dep a+1
 | .both a b=>max (dep a) (dep b)+1
 | .any a b=>max (dep a) (dep b)+1
 | _=>0
theorem zzkb {r:Int}{x y:Str}(h0:0≤r)(h1:r<2):∃u:Str,atI [V.str x,V.str y] r=some (.str u)∧(u=x∨u=y):=by
 obtain⟨v,hv,hm⟩:=zoo (xs:=[V.str x,V.str y]) h0 h1;simp only[yja,ycd,or_false] at hm
 rcases hm with e|e<;>subst e
 ·exact⟨_,hv,.inl rfl⟩
 ·exact⟨_,hv,.inr rfl⟩
theorem Tk.two {K:yba}{H:Hp}{p:Addr}{k:Int}(t:Tk K H p k):∃a,H p=some (.lst [.ref a,.int k]):=by
 obtain⟨⟨a,ns,h,_⟩,_⟩:=t;exact⟨a,h⟩
theorem N4.ne {K:yba}{H:Hp}{p nl:Addr}{k:Int}{ns:List Str}(h:N4 H nl ns)(t:Tk K H p k):nl≠p:=λz=>by
 obtain⟨a,e⟩:=t.two;have e2:=h.at_;rw[z,e] at e2;injection e2 with e2
 injection e2 with e2
 have l:=congrArg yag e2;rw[yda,h.len] at l;cases l
theorem N4.but {K:yba}{H H':Hp}{p nl:Addr}{k:Int}{ns:List Str}(h:N4 H nl ns)(t:Tk K H p k)(b:But p H H'):N4 H' nl ns:=⟨b _ _ (h.ne t) h.at_,h.len,h.ok,h.nd⟩
theorem N4.same {H H':Hp}{nl:Addr}{ns:List Str}(h:N4 H nl ns)(s:Same H H'):N4 H' nl ns:=⟨s _ _ h.at_,h.len,h.ok,h.nd⟩
theorem WT.but {K:yba}{H H':Hp}{p:Addr}{k:Int}(t:Tk K H p k)(b:But p H H'){v:V}{y:Wh}(z:WT H v y):WT H' v y:=by
 obtain⟨c,ep⟩:=t.two;have s:∀{a:Addr} {xs:List V},H a=some (.tup xs)->H' a=some (.tup xs):=λh=>b _ _ (zel h ep (by intro z;cases z)) h
 induction z with
 | all h=>exact .all (s h)
 | self h=>exact .self (s h)
 | mine h=>exact .mine (s h)
 | mark h=>exact .mark (s h)
 | force h=>exact .force (s h)
 | not h _ i=>exact .not (s h) i
 | both h _ _ i j=>exact .both (s h) i j
 | any h _ _ i j=>exact .any (s h) i j
def zpn (K:yba)(n:Nat):Sp:=λvs H Q _=>Ex5 λp nl (k:Int) (ns:List Str) (d:Nat)=>vs=[.ref p,.ref nl,.int (d:Int)]∧Tk K H p k∧k+4*(d:Int)≤900000∧N4 H nl ns∧1≤d∧d≤n∧∀v (y:Wh) (k':Int) H',But p H H'->Tk K H' p k'->k'≤k+4*(d:Int)->WT H' v y->y.ok->y.size≤d->Q v H'
theorem zmgb (T:Tx K mg){n:Nat}(zmn:FnOk P w K mg base CX0 (n+5) T.zrb.f T.zrb.d zog (zpn K n)):FnOk P w K mg base CX0 (n+6) T.zrb.f T.zrb.d zog (zpn K (n+1)):=by
 refine T.zrb.ok zmi ?_;rintro f c A o s H vs Q E hr ⟨p,nl,k,ns,d,rfl,TT,hk,N0,d1,dn,q⟩ X;refine⟨_,  (zba (zoa (i:=3) zmi.nd rfl (.inl rfl) (zja (zpa T).up hr rfl T.zea.m T.zea.F.kp (zta T) .nil zva (zaa (pv 0) (zaa zfa zca))))
  (zba (zwb (PW.pt (zeq (zma zut (pv 2) zfa (zwa _)) (zto (zma zqc (pv 3) zfa (zwa _)))))
   (zda (zqa (zlb (zaa zna (zaa (zja zmn hr rfl T.zrb.m T.zrb.F.kp (zfk T) .nil zva (zaa (pv 0) (zaa (pv 1) (zaa (zcc zbi (pv 2) zfa) zca)))) zca)))))
   zsa)
  (zba (zwb (PW.pt (zeq (zma zut (pv 2) zfa (zwa _)) (zto (zma zut (pv 3) zfa (zwa _)))))
   (zba (zoa (i:=4) zmi.nd rfl (.inl rfl) (zcc zdpb (zcc zbi (pv 2) zfa) zfa))
   (zba (zoa (i:=5) zmi.nd rfl (.inl rfl) (zja zmn hr rfl T.zrb.m T.zrb.F.kp (zfk T) .nil zva (zaa (pv 0) (zaa (pv 1) (zaa (pv 4) zca)))))
   (zda (zqa (zlb (zaa (zjb zkc (zuc (zaa zna (zaa zna zca))) (zcc zbi (pv 3) zfa) (λ_ _=>rfl)) (zaa (pv 5) (zaa (zja zmn hr rfl T.zrb.m T.zrb.F.kp (zfk T) .nil zva (zaa (pv 0) (zaa (pv 1) (zaa (zcc zbi (zcc zbi (pv 2) zfa) (pv 4)) zca)))) zca))))))))
   zsa)
  (zba (zwb (zma zqc (zcc zci (pv 3) zfa) zfa (zwa _))
   (zda (zqa (zlb (zaa zna (zaa (zjb zkc (pv 1) (zja (zpa T).up hr rfl T.zea.m T.zea.F.kp (zta T) .nil zva (zaa (pv 0) (zaa zfa zca))) (λ_ _=>rfl)) zca)))))
   zsa)
  (zba (zwb (zma zqc (zcc zci (pv 3) zfa) zfa (zwa _))
   (zda (zqa (zlb (zaa zna (zaa (zja (zgj T).up hr rfl T.zmc.m T.zmc.F.kp (zgk T) .nil zva (zaa (pv 0) zca)) zca)))))
   zsa)
  (zda (zqa (zlb (zaa (zjb zkc (zuc (zaa zna (zaa zna (zaa zna zca)))) (zcc zci (pv 3) zfa) (λ_ _=>rfl)) zca))))))))),?_⟩
 refine⟨_,rfl,p,k,8,rfl,TT,by omega,by decide,λway H1 w0 w1 B1 T1=>?_⟩;have N1:=N0.but TT B1;refine⟨_,rfl,_,_,rfl,rfl,_,rfl,ite2 (λc1=>⟨_,rfl,rfl,_,rfl,ite2 (λc2=>?A) (λc2=>?S1)⟩) (λc1=>iteF ?S2)⟩
 case' S1=>refine⟨_,rfl,_,_,rfl,rfl,_,rfl,ite2 (λc3=>⟨_,rfl,_,_,rfl,rfl,_,rfl,ite2 (λc4=>?B1) (λc4=>?L1)⟩) (λc3=>iteF ?L2)⟩
 case' S2=>refine⟨_,rfl,_,_,rfl,rfl,_,rfl,ite2 (λc3=>absurd (decide_eq_true (Int.lt_trans (by decide:(1:Int)<2) (of_decide_eq_true c3))) c1) (λc3=>iteF ?L3)⟩
 case A =>
  have d0:(1:Int)<(d:Int):=of_decide_eq_true c1;obtain⟨e,rfl⟩:∃e,d=e+1:=⟨d-1,by omega⟩;refine⟨_,rfl,_,rfl,_,rfl,_,_,rfl,rfl,p,nl,k+1,ns,e,?_,T1,by omega,N1,by omega,by omega,λv y k2 H2 B2 T2 hk2 W2 ok2 yz2=>⟨sz2,λt ht=>?_⟩⟩
  ·show [V.ref p,V.ref nl,V.int (((e+1:Nat):Int)-1)]=_;rw[show (((e+1:Nat):Int)-1)=(e:Int) by omega]
  ·refine laid ht λH3 S3 e3=>?_;exact q _ (.not y) k2 H3 (B1.trans (B2.trans (But.same S3))) (T2.same S3) (by omega) (.not e3 (W2.same S3)) ok2 (by show y.size+1≤e+1;omega)
 case B1 =>
  have d0:(2:Int)<(d:Int):=of_decide_eq_true c3;have w5:(5:Int)<way:=of_decide_eq_true c4;refine⟨_,rfl,_,_,rfl,rfl,_,_,rfl,rfl,⟨by decide,by decide⟩,?_⟩;obtain⟨f,hf⟩:∃f:Nat,((d:Int)-1) / 2=(f:Int):=⟨(((d:Int)-1) / 2).toNat,by omega⟩;dsimp only;rw[hf];refine⟨_,rfl,_,rfl,_,rfl,p,nl,k+1,ns,f,rfl,T1,by omega,N1,by omega,by omega,λv y k2 H2 B2 T2 hk2 W2 ok2 yz2=>?_⟩;have N2:=N1.but T1 B2;refine⟨sz2,λt2 ht2=>?_⟩;refine laid ht2 λH3 S3 e3=>?_;obtain⟨u,hu,hu2⟩:=zzkb (r:=way-6) (x:="both") (y:="any") (by omega) (by omega);refine⟨_,rfl,_,_,rfl,rfl,t2,_,_,_,rfl,rfl,SqL.of e3,hu,?_⟩;have T3:=T2.same S3;refine⟨_,rfl,_,rfl,_,rfl,_,rfl,_,_,rfl,rfl,_,rfl,_,_,rfl,rfl,p,nl,k2,ns,d-1-f,?_,T3,by omega,N2.same S3,by omega,by omega,λv' y' k4 H4 B4 T4 hk4 W4 ok4 yz4=>⟨sz3,λt ht=>?_⟩⟩
  ·show [V.ref p,V.ref nl,V.int ((d:Int)-1-(f:Int))]=_;rw[show (d:Int)-1-(f:Int)=((d-1-f:Nat):Int) by omega]
  ·refine laid ht λH5 S5 e5=>?_;have Ba:=B1.trans (B2.trans ((But.same S3).trans (B4.trans (But.same S5))));have wa:WT H5 v y:=((W2.same S3).but T3 B4).same S5
   rcases hu2 with rfl|rfl
   ·exact q _ (.both y y') k4 H5 Ba (T4.same S5) (by omega) (.both e5 wa (W4.same S5)) ⟨ok2,ok4⟩ (by show y.size+y'.size+1≤d;omega)
   ·exact q _ (.any y y') k4 H5 Ba (T4.same S5) (by omega) (.any e5 wa (W4.same S5)) ⟨ok2,ok4⟩ (by show y.size+y'.size+1≤d;omega)
 all_goals
  have m5:=zdo way (m:=5) (by decide);refine⟨_,rfl,_,_,rfl,rfl,(by show (0:Int)<5;decide),rfl,_,rfl,ite2 (λc6=>?_) (λc6=>?_)⟩
  ·refine⟨_,rfl,_,rfl,p,k+1,4,rfl,T1,by omega,by decide,λr H2 r0 r1 B2 T2=>?_⟩;have N2:=N1.but T1 B2;obtain⟨u,hu,hm⟩:=zct (ss:=ns) r0 (by rw[N0.len];exact r1);refine⟨nl,_,_,_,rfl,rfl,SqL.of N2.at_,hu,sz2,λt ht=>?_⟩;refine laid ht λH3 S3 e3=>?_;exact q _ (.mark u) _ H3 (B1.trans (B2.trans (But.same S3))) (T2.same S3) (by omega) (.mark e3) (N0.ok u hm) (by show 1≤d;omega)
  have w3:¬ way % 5=3:=λz=>c6 (decide_eq_true (by show V.int (way % 5)=_;rw[z]));refine⟨_,rfl,_,_,rfl,rfl,(by show (0:Int)<5;decide),rfl,_,rfl,ite2 (λc8=>?_) (λc8=>?_)⟩
  ·refine⟨_,rfl,p,k+1,rfl,T1,by omega,λr k2 H2 r1 B2 T2 hk2=>⟨sz2,λt ht=>?_⟩⟩;refine laid ht λH3 S3 e3=>?_;exact q _ (.force r) _ H3 (B1.trans (B2.trans (But.same S3))) (T2.same S3) (by omega) (.force e3) r1 (by show 1≤d;omega)
  have w4:¬ way % 5=4:=λz=>c8 (decide_eq_true (by show V.int (way % 5)=_;rw[z]));refine⟨sz3,λt2 ht2=>?_⟩;refine laid ht2 λH2 S2 e2=>?_;obtain⟨v,hv,hm⟩:=zoo (xs:=[V.str "all",V.str "self",V.str "mine"]) (i:=way % 5) m5.1 (by show way % 5<3;omega);refine⟨_,rfl,_,_,rfl,rfl,(by show (0:Int)<5;decide),t2,_,_,_,rfl,rfl,SqL.of e2,hv,sz1,λt ht=>?_⟩;refine laid ht λH3 S3 e3=>?_;have Ba:=B1.trans (But.same (S2.trans S3));have Ta:=T1.same (S2.trans S3);simp only[yja,ycd,or_false] at hm
  rcases hm with rfl|rfl|rfl
  ·exact q _ .all _ H3 Ba Ta (by omega) (.all e3) trivial (by show 1≤d;omega)
  ·exact q _ .self _ H3 Ba Ta (by omega) (.self e3) trivial (by show 1≤d;omega)
  ·exact q _ .mine _ H3 Ba Ta (by omega) (.mine e3) trivial (by show 1≤d;omega)
theorem zngb (T:Tx K mg):FnOk P w K mg base CX0 5 T.zrb.f T.zrb.d zog (zpn K 0):=by
 have no:∀vs H Q E,¬ zpn K 0 vs H Q E:=λvs H Q E h=>by
  obtain⟨p,nl,k,ns,d,_,_,_,_,h1,h2,_⟩:=h;omega
 exact⟨λvs H Q E h=>absurd h (no vs H Q E),λA outer s H args us vs Q E _ _ _ _ h=>absurd h (no vs H Q E)⟩
theorem zedb (T:Tx K mg):∀n:Nat,FnOk P w K mg base CX0 (n+5) T.zrb.f T.zrb.d zog (zpn K n)
 | 0=>zngb T
 | n+1=>zmgb T (zedb T n)
inductive All2 {α β:Type}(R:α->β->Prop):List α->List β->Prop where
 | nil:All2 R [] []
 | cons {a:α} {b:β} {as:List α} {bs:List β}:R a b->All2 R as bs->All2 R (a::as) (b::bs)
theorem All2.imp {α β:Type}{R S:α->β->Prop}(f:∀{a b},R a b->S a b){as:List α}{bs:List β}(z:All2 R as bs):All2 S as bs:=by
 induction z with
 | nil=>exact .nil
 | cons h _ ih=>exact .cons (f h) ih
theorem All2.snoc {α β:Type}{R:α->β->Prop}{a:α}{b:β}(h:R a b){as:List α}{bs:List β}(z:All2 R as bs):All2 R (as++[a]) (bs++[b]):=by
 induction z with
 | nil=>exact .cons h .nil
 | cons g _ ih=>exact .cons g ih
theorem All2.len {α β:Type}{R:α->β->Prop}{as:List α}{bs:List β}(z:All2 R as bs):as.length=bs.length:=by
 induction z with
 | nil=>rfl
 | cons _ _ ih=>rw[yha,yha,ih]
theorem All2.get {α β:Type}{R:α->β->Prop}:∀{as:List α} {bs:List β} {i:Nat} {a:α},All2 R as bs->as[i]?=some a->∃b,bs[i]?=some b∧R a b
 | _,_,_,_,.nil,e=>by simp at e
 | _,_,0,_,.cons h t,e=>by
  rw[yge] at e;cases e;exact⟨_,rfl,h⟩
 | _,_,i+1,_,.cons h t,e=>by
  rw[yyb] at e;obtain⟨u,h1,h2⟩:=t.get e;exact⟨u,by rw[yyb];exact h1,h2⟩
theorem All2.mem {α β:Type}{R:α->β->Prop}{as:List α}{bs:List β}(h:All2 R as bs){a:α}(ha:a∈as):∃b∈bs,R a b:=by
 induction h with
 | nil=>cases ha
 | cons r t ih =>
  rcases yja.mp ha with rfl|z
  ·exact⟨_,yka,r⟩
  ·obtain⟨b,hb,rb⟩:=ih z;exact⟨b,yna _ hb,rb⟩
theorem All2.perm {α β:Type}{R:α->β->Prop}{as cs:List α}(p:cs.Perm as):∀{bs:List β},All2 R as bs->∃ds,All2 R cs ds∧ds.Perm bs:=by
 induction p with
 | nil=>intro bs h;exact⟨bs,h,.refl _⟩
 | cons x p ih =>
  intro bs h;cases h with
  | cons r t =>
   obtain⟨ds,h1,h2⟩:=ih t;exact⟨_::ds,.cons r h1,h2.cons _⟩
 | swap x y l =>
  intro bs h;cases h with
  | cons r t =>
   cases t with
   | cons r' t'=>exact⟨_,.cons r' (.cons r t'),.swap _ _ _⟩
 | trans p1 p2 ih1 ih2 =>
  intro bs h;obtain⟨ds,h1,h2⟩:=ih2 h;obtain⟨es,h3,h4⟩:=ih1 h1;exact⟨es,h3,h4.trans h2⟩
theorem All2.mem2 {α β:Type}{R:α->β->Prop}{as:List α}{bs:List β}(z:All2 R as bs){b:β}(hb:b∈bs):∃a∈as,R a b:=by
 induction z with
 | nil=>cases hb
 | cons h _ ih =>
  rcases yja.mp hb with z|z
  ·rw[z];exact⟨_,yka,h⟩
  ·obtain⟨a,ha,r⟩:=ih z;exact⟨a,yna _ ha,r⟩
theorem zxsb (K:yba):ycc K (.type "str") (.type "tuple")=some false:=by kernel_rfl
theorem zysb (K:yba):ycc K (.type "int") (.type "tuple")=some false:=by kernel_rfl
theorem zkcb {x:V}{u:Str}(hv:(x = .str u)∨∃i:Nat,i<1000∧x = .int i∧u=(toString (i:Int):Str))(H0:Hp)(Q':VK)(z:Q' (.str u) H0):rStrAny [x] H0 Q':=by
 unfold rStrAny
 rcases hv with e|⟨i,hi,e,rfl⟩
 ·exact .inl ⟨u,by rw[e],z⟩
 ·exact .inr ⟨i,by rw[e],(by rw[Int.natAbs_natCast];exact zdib i hi),z⟩
inductive PT (n:Nat)(H:Hp):V->Str->Prop where
 | w {x:V} {y:Wh}:WT H x y->y.ok->dep y<n->y.size≤9->PT n H x (whT y)
 | s {u:Str}:zoe u->PT n H (.str u) u
 | i {i:Nat}:i<1000->PT n H (.int (i:Int)) (toString (i:Int):Str)
theorem PT.len {n:Nat}{H:Hp}{x:V}{u:Str}(h:PT n H x u):u.length≤200:=by
 cases h with
 | w _ o _ d=>exact zsab o d
 | s o=>exact yxa o.2.1 (by decide)
 | i hi=>exact yxa (zco hi).2.2 (by decide)
theorem PT.same {n:Nat}{H H':Hp}(s:Same H H'){x:V}{u:Str}(h:PT n H x u):PT n H' x u:=by
 cases h with
 | w a b c d=>exact .w (a.same s) b c d
 | s a=>exact .s a
 | i a=>exact .i a
theorem zvd (y:Wh):y.words≠[]:=y.zvd
theorem WT.open {n:Nat}{H:Hp}{v:V}{y:Wh}(h:WT H v y)(ok:y.ok)(hn:dep y<n+1)(h2:y.size≤9):Ex3 λa xs us=>v = .ref a∧H a=some (.tup (.str y.word::xs))∧xs.length≤2∧All2 (PT n H) xs us∧ysa " " (y.word::us)=whT y:=by
 cases h with
 | all h=>exact⟨_,[],[],rfl,h,by simp,.nil,rfl⟩
 | self h=>exact⟨_,[],[],rfl,h,by simp,.nil,rfl⟩
 | mine h=>exact⟨_,[],[],rfl,h,by simp,.nil,rfl⟩
 | mark h=>exact⟨_,_,_,rfl,h,by simp,.cons (.s ok) .nil,rfl⟩
 | force h=>exact⟨_,_,_,rfl,h,by simp,.cons (.i ok) .nil,rfl⟩
 | @not a x y h t =>
  have m1:dep y+1<n+1:=hn;have m2:y.size+1≤9:=h2;refine⟨_,_,_,rfl,h,by simp,.cons (.w t ok (by omega) (by omega)) .nil,?_⟩;show ysa " " ["not",ysa " " y.words]=ysa " " ("not" :: y.words)
  rw[join_cons " " "not" (zvd y),join_cons " " "not" (yqb _ _)];rfl
 | @both a x x' y y' h t t' =>
  have m1:max (dep y) (dep y')+1<n+1:=hn;have m2:y.size+y'.size+1≤9:=h2;refine⟨_,_,_,rfl,h,by simp,.cons (.w t ok.1 (by omega) (by omega)) (.cons (.w t' ok.2 (by omega) (by omega)) .nil),?_⟩;show ysa " " ["both",ysa " " y.words,ysa " " y'.words]=ysa " " ("both" :: (y.words++y'.words))
  rw[join_cons " " "both" (yqb _ _),join_cons " " (ysa " " y.words) (yqb _ _),join_cons " " "both" (λz=>zvd y (yvh.mp z).1),zgo " " (zvd y) (zvd y')];rfl
 | @any a x x' y y' h t t' =>
  have m1:max (dep y) (dep y')+1<n+1:=hn;have m2:y.size+y'.size+1≤9:=h2;refine⟨_,_,_,rfl,h,by simp,.cons (.w t ok.1 (by omega) (by omega)) (.cons (.w t' ok.2 (by omega) (by omega)) .nil),?_⟩;show ysa " " ["any",ysa " " y.words,ysa " " y'.words]=ysa " " ("any" :: (y.words++y'.words))
  rw[join_cons " " "any" (yqb _ _),join_cons " " (ysa " " y.words) (yqb _ _),join_cons " " "any" (λz=>zvd y (yvh.mp z).1),zgo " " (zvd y) (zvd y')];rfl
def zvk (n:Nat):Sp:=λvs H Q _=>Ex2 λv (y:Wh)=>vs=[v]∧WT H v y∧y.ok∧dep y<n∧y.size≤9∧∀H',Same H H'->Q (.str (whT y)) H'
theorem zsp {us:List Str}{m:Nat}(h:∀u∈us,u.length≤m):(us.map (·.length)).sum≤m*us.length:=by
 induction us with
 | nil=>exact ylb _
 | cons u r ih =>
  rw[yva,yhf,yha,Nat.mul_succ];have:=h u yka;have:=ih λv hv=>h v (yna _ hv);omega
theorem zreb (T:Tx K mg){n:Nat}(zpab:FnOk P w K mg base CX0 (n+2) T.zpb.f T.zpb.d zqf (zvk n)):FnOk P w K mg base CX0 (n+3) T.zpb.f T.zpb.d zqf (zvk (n+1)):=by
 refine T.zpb.ok zyj ?_;rintro f c A o s H vs Q E hr ⟨v,y,rfl,wt,ok,hn,h2,q⟩ X;obtain⟨a,xs,us,rfl,ea,hl,ps,eg⟩:=wt.open (n:=n) ok hn h2;refine⟨_,  (zba (zoa (i:=1) zyj.nd rfl (.inl rfl) (zuc (zaa (zjb zyb (pv 0) zfa (λ_ _=>rfl)) zca)))
  (zba (zzh yxb rfl (zzrb (zsg ztrb (pv 0) (zej zfa) zfj)) (zua (i:=2) zyj.nd rfl (.inl rfl))
   (zda (zwb (zfq (zkb zxs rfl T.zwg boot_isinstance (zaa (pv 2) (zaa (zuhb (v:=.ty "tuple") rfl T.zsk ysm rfl) zca))))
    (zda (zod (zai ycb yya yza zzc (pv 1) (zaa (zja zpab hr rfl T.zpb.m T.zpb.F.kp (zkl T) .nil zva (zaa (pv 2) zca)) zca))))
    (zda (zod (zai ycb yya yza zzc (pv 1) (zaa (zyd zmq rfl T.zpeb boot_str (zaa (pv 2) zca)) zca)))))))
  (zda (zqa (zai ykd yqg yrg zaw zna (zaa (pv 1) zca)))))),?_⟩
 refine⟨_,rfl,a,_,_,_,rfl,rfl,SqT.of ea,zia (j:=0) rfl,sz1,λwl hwl=>?_⟩;refine laid hwl λH0 S0 e0=>?_;refine⟨_,rfl,_,rfl,a,_,rfl,SqT.of (S0 _ _ ea),?_,λb hb=>?_⟩
 ·rintro⟨z,_⟩;rw[show (1:Int)=((1:Nat):Int) from rfl,HT.zyab,yha] at z;omega
 have ec:cutV (V.str y.word::xs) (some 1) none=xs:=by
  rw[show (1:Int)=((1:Nat):Int) from rfl,zqj];rfl
 rw[ec];refine laid hb λH1 S1 eb=>?_;have nbw:b≠wl:=ysb (zka e0 hb);have S01:=S0.trans S1;refine⟨b,rfl,⟨_,SqT.of eb⟩,?_⟩;have wdl:y.word.length≤8:=(y.zxj).2.2;have psl:=ps.len;refine zypb (xs:=xs) (λi σ H'=>∃o,σ=[some (.ref a),some (.ref wl),o]∧H' wl=some (.lst ((y.word::us.take i).map V.str))∧H' b=some (.tup xs)∧Same H H') ⟨_,rfl,S1 _ _ e0,eb,S01⟩ ?_ ?_ ?_
 ·rintro i σ H' _ ⟨o,rfl,_,e,S⟩;exact SqT.of e
 ·rintro i x σ H' hx ⟨o,rfl,ew,eb',S⟩;obtain⟨u,eu,pu⟩:=ps.get hx;have i2:i<xs.length:=(yfa.mp hx).1;have eg2:(y.word::us.take (i+1)).map V.str=(y.word::us.take i).map V.str++[V.str u]:=by
   rw[yjb,eu,ync,yva,yfb];rfl
  have sz:((y.word::us.take i).map V.str).length≤1000:=by
   rw[yda,yha,yib];omega
  cases pu.same S with
  | @w x y' wt' ok' dn d2 =>
   obtain⟨a',xs',rfl,ea'⟩:=wt'.tup;refine⟨_,rfl,_,_,_,true,rfl,TyOf.tup ea',.inl ⟨"tuple",rfl,rfl⟩,_,rfl,iteT ?_⟩;refine⟨_,rfl,.inl ⟨rfl,_,SqL.of ew⟩,_,rfl,_,y',rfl,wt',ok',dn,d2,λH2 S2=>⟨wl,_,_,rfl,rfl,S2 _ _ ew,zjc sz,?_⟩⟩;exact⟨_,rfl,by rw[eg2];exact zga,by rw[zza nbw];exact S2 _ _ eb',zae (S.trans S2) hwl _⟩
  | s _ =>
   refine⟨_,rfl,_,_,_,false,rfl,TyOf.str _,.inl ⟨"tuple",rfl,zxsb _⟩,_,rfl,iteF ?_⟩;refine⟨_,rfl,.inl ⟨rfl,_,SqL.of ew⟩,_,rfl,zkcb (.inl rfl) _ _ ⟨wl,_,_,rfl,rfl,ew,zjc sz,?_⟩⟩;exact⟨_,rfl,by rw[eg2];exact zga,by rw[zza nbw];exact eb',zae S hwl _⟩
  | i hi =>
   refine⟨_,rfl,_,_,_,false,rfl,TyOf.int _,.inl ⟨"tuple",rfl,zysb _⟩,_,rfl,iteF ?_⟩;refine⟨_,rfl,.inl ⟨rfl,_,SqL.of ew⟩,_,rfl,zkcb (.inr ⟨_,hi,rfl,rfl⟩) _ _ ⟨wl,_,_,rfl,rfl,ew,zjc sz,?_⟩⟩;exact⟨_,rfl,by rw[eg2];exact zga,by rw[zza nbw];exact eb',zae S hwl _⟩
 ·rintro σ H' ⟨o,rfl,ew,_,S⟩;rw[yua (by omega)] at ew;refine⟨rfl,_,rfl," ",wl,y.word::us,rfl,rfl,SqL.of ew,?_,?_⟩
  ·have z:=zsp (us:=y.word::us) (m:=200) λu hu=>by
    rcases yja.mp hu with z|z
    ·rw[z];omega
    ·obtain⟨x,_,pu⟩:=ps.mem2 z;exact pu.len
   rw[yha] at z ⊢;have e1:(" ":Str).length=1:=rfl;rw[e1];omega
  ·rw[eg];exact q H' S
theorem zseb (T:Tx K mg):FnOk P w K mg base CX0 2 T.zpb.f T.zpb.d zqf (zvk 0):=by
 have no:∀vs H Q E,¬ zvk 0 vs H Q E:=λvs H Q E h=>by
  obtain⟨v,y,_,_,_,hd,_⟩:=h;omega
 exact⟨λvs H Q E h=>absurd h (no vs H Q E),λA outer s H args us vs Q E _ _ _ _ h=>absurd h (no vs H Q E)⟩
theorem zcr (T:Tx K mg):∀n:Nat,FnOk P w K mg base CX0 (n+2) T.zpb.f T.zpb.d zqf (zvk n)
 | 0=>zseb T
 | n+1=>zreb T (zcr T n)
theorem zpdb {rs:List Row}{t:Int}(nd:(rs.map (·.num)).Nodup):rs.filter (λr=>decide (V.int r.num=V.int t))=(rowOf rs t).toList:=by
 unfold rowOf
 induction rs with
 | nil=>rfl
 | cons r s ih =>
  rw[yva,yse] at nd;rw[List.filter_cons,yve]
  by_cases e:r.num=t
  ·rw[if_pos (decide_eq_true (by rw[e])),decide_eq_true e];have:s.filter (λr=>decide (V.int r.num=V.int t))=[]:=List.filter_eq_nil_iff.mpr λx hx z=>nd.1 (ydb.mpr ⟨x,hx,by
    have:=of_decide_eq_true z;injection this with this
    rw[this,e]⟩)
   rw[this];rfl
  ·rw[if_neg (λz=>e (by have:=of_decide_eq_true z;injection this)),decide_eq_false e];exact ih nd.2
def zwk (n:Nat):Sp:=λvs H Q _=>Ex8 λv sl us rs (number keeper thing:Int) (y:Wh)=>vs=[v,.ref sl,.int number,.int keeper,.int thing]∧WT H v y∧dep y<n∧H sl=some (.lst us)∧zkd H us rs∧(rs.map (·.num)).Nodup∧rs.length≤16∧0≤keeper∧(∀r∈rs,0≤r.num)∧∀H',Same H H'->Q (.bl (zrf (rowOf rs thing) number keeper thing y)) H'
theorem ztfb (T:Tx K mg){n:Nat}(zpt:FnOk P w K mg base CX0 (n+2) T.zxb.f T.zxb.d zpg (zwk n)):FnOk P w K mg base CX0 (n+3) T.zxb.f T.zxb.d zpg (zwk (n+1)):=by
 refine T.zxb.ok zoi ?_;rintro f c A o s H vs Q E hr ⟨v,sl,us,rs,number,keeper,thing,y,rfl,wt,hn,es,R,nd,h16,k0,n0,q⟩ X;have ul:=R.length;refine⟨_,  (zba (znhb (i:=5) zoi.nd rfl (.inl rfl) (own:=["_law_row"]) (cap:=["_law_thing"]) rfl (zpc.chk rfl rfl) (.cons (j:=4) rfl (.inl rfl) (.inl rfl) .nil) (zzd (pv 1)) (λ_ _ _ _=>(zua (i:=0) (show yfd (["_law_row","_law_thing"]:List Str) by decide +kernel) rfl (.inl rfl))) (λ_ _ _ _=>zbl (zma zqc (zjb (zmh K) (pv 0) zfa (λ_ _=>rfl)) (pv 1) (zwa _))) (λ_ _ _ _=>by exact (pv 0)))
  (zba (zwb (zma zqc (zjb zyb (pv 0) zfa (λ_ _=>rfl)) zna (zwa _))
   (zda (zqa zkfb))
   zsa)
  (zba (zwb (zma zqc (zjb zyb (pv 0) zfa (λ_ _=>rfl)) zna (zwa _))
   (zda (zqa (zte zqc (pv 4) (pv 2) (zwa _))))
   zsa)
  (zba (zwb (zma zqc (zjb zyb (pv 0) zfa (λ_ _=>rfl)) zna (zwa _))
   (zda (zqa (zelb (zte zqc (pv 4) (zcc zbi (zdlb zidb zfa) (pv 3)) (zwa _)) (zgq (zte zut (zkb zdb rfl T.zsf ymb (zaa (zeg (own:=["_law_row"]) (cap:=["_law_keeper_here"]) rfl (zpc.chk rfl rfl) (.cons (j:=3) rfl (.inl rfl) (.inl rfl) .nil) (zzd (pv 5)) (λ_ _ _ _=>(zua (i:=0) (show yfd (["_law_row","_law_keeper_here"]:List Str) by decide +kernel) rfl (.inl rfl))) (λ_ _ _ _=>zbl (zma zqc (zjb (zmh K) (pv 0) zfa (λ_ _=>rfl)) (pv 1) (zwa _))) (λ_ _ _ _=>by exact (pv 0))) zca)) zfa (zwa _))))))
   zsa)
  (zba (zwb (zma zqc (zjb zyb (pv 0) zfa (λ_ _=>rfl)) zna (zwa _))
   (zda (zqa (zte zut (zkb zdb rfl T.zsf ymb (zaa (zeg (own:=["_law_row"]) (cap:=["_law_whom_here"]) rfl (zpc.chk rfl rfl) (.cons (j:=0) rfl (.inl rfl) (.inl rfl) .nil) (zzd (pv 5)) (λ_ _ _ _=>(zua (i:=0) (show yfd (["_law_row","_law_whom_here"]:List Str) by decide +kernel) rfl (.inl rfl))) (λ_ _ _ _=>zbl (zma (zmfb K) (zjb (zmh K) (pv 1) zfa (λ_ _=>rfl)) (zjb (zmh K) (pv 0) zfa (λ_ _=>rfl)) rfl)) (λ_ _ _ _=>by exact (pv 0))) zca)) zfa (zwa _))))
   zsa)
  (zba (zwb (zma zqc (zjb zyb (pv 0) zfa (λ_ _=>rfl)) zna (zwa _))
   (zda (zqa (zte zut (zkb zdb rfl T.zsf ymb (zaa (zeg (own:=["_law_row"]) (cap:=["_law_whom_here"]) rfl (zpc.chk rfl rfl) (.cons (j:=0) rfl (.inl rfl) (.inl rfl) .nil) (zzd (pv 5)) (λ_ _ _ _=>(zua (i:=0) (show yfd (["_law_row","_law_whom_here"]:List Str) by decide +kernel) rfl (.inl rfl))) (λ_ _ _ _=>zbl (zma zisb (zjb (zmh K) (pv 0) zfa (λ_ _=>rfl)) (zjb (zmh K) (pv 1) zfa (λ_ _=>rfl)) (zwa _))) (λ_ _ _ _=>by exact (pv 0))) zca)) zfa (zwa _))))
   zsa)
  (zba (zoa (i:=6) zoi.nd rfl (.inl rfl) (zja zpt hr rfl T.zxb.m T.zxb.F.kp (zsm T) .nil zva (zaa (zjb zyb (pv 0) zfa (λ_ _=>rfl)) (zaa (pv 1) (zaa (pv 2) (zaa (pv 3) (zaa (pv 4) zca)))))))
  (zba (zwb (zma zqc (zjb zyb (pv 0) zfa (λ_ _=>rfl)) zna (zwa _))
   (zda (zqa (zenb (pv 6))))
   zsa)
  (zba (zoa (i:=7) zoi.nd rfl (.inl rfl) (zja zpt hr rfl T.zxb.m T.zxb.F.kp (zsm T) .nil zva (zaa (zjb zyb (pv 0) zfa (λ_ _=>rfl)) (zaa (pv 1) (zaa (pv 2) (zaa (pv 3) (zaa (pv 4) zca)))))))
  (zba (zwb (zma zqc (zjb zyb (pv 0) zfa (λ_ _=>rfl)) zna (zwa _))
   (zda (zqa (ztdb (pv 6) (zgq (pv 7)))))
   zsa)
  (zda (zqa (zelb (pv 6) (zgq (pv 7))))))))))))))),?_⟩
 refine⟨_,rfl,sl,rfl,⟨_,SqL.of es⟩,?_⟩;refine zne (xs:=us) (λi ys H'=>H'=H∧i≤us.length∧zkd H ys ((rs.take i).filter λr=>decide (V.int r.num=V.int thing))) (λi ys H' z=>by rw[z.1];exact SqL.of es) ⟨rfl,ylb _,.nil⟩ ?_ ?_ ?_
 ·rintro i ys H' ⟨_,hi,hy⟩;have l1:=hy.length;have l2:=yvb (λr:Row=>decide (V.int r.num=V.int thing)) (rs.take i);rw[yib] at l2;exact small (by omega)
 ·rintro i u ys H' hu ⟨rfl,_,hy⟩;have hi:i<us.length:=(yfa.mp hu).1;obtain⟨r,er,ra⟩:=R.get hu;obtain⟨a,m,rfl,h1,h2⟩:=id ra;refine⟨rfl,_,rfl,a,_,_,_,rfl,rfl,SqT.of h1,zia (j:=0) rfl,_,rfl,rfl,_,rfl,?_⟩;rw[yjb,er,ync,yjd];refine ite2 (λc=>?_) (λc=>?_)
  ·refine⟨_,rfl,rfl,hi,?_⟩;rw[yic (p:=λr:Row=>decide (V.int r.num=V.int thing)) c];exact hy.snoc ra
  ·refine⟨rfl,hi,?_⟩;rw[yjc (p:=λr:Row=>decide (V.int r.num=V.int thing)) c,yom,ytb];exact hy
 rintro ys H0 ⟨rfl,_,hy⟩ rl hrl;rw[yua (by omega),zpdb nd] at hy;refine laid hrl λH1 S1 e1=>?_;have RO:zkd H1 ys (rowOf rs thing).toList:=hy.map λ_ _ z=>z.same S1;have rnum:∀r,rowOf rs thing=some r->r.num=thing∧r∈rs:=λr hr=>⟨of_decide_eq_true (p:=r.num=thing) (List.find?_some (p:=λr:Row=>decide (r.num=thing)) hr),List.mem_of_find?_eq_some hr⟩;have yl:=RO.length;have yl1:(rowOf rs thing).toList.length≤1:=by cases rowOf rs thing<;>simp
 have len_pos:∀(p:Row->Bool) (zs:(List V)),zs.length=((rowOf rs thing).toList.filter p).length->decide ((0:Int)<(zs.length:Int))=(match rowOf rs thing with|none=>false|some r=>p r):=λp zs e=>by
  rw[e];cases rowOf rs thing with
  | none=>rfl
  | some r =>
   show decide ((0:Int)<(([r].filter p).length:Int))=p r
   cases hp:p r with
   | true=>rw[yic hp];rfl
   | false=>rw[yjc (by rw[hp];simp)];rfl
 have wt1:=wt.same S1;cases wt1 with
 | all h =>
  exact⟨_,rfl,_,_,_,_,rfl,rfl,SqT.of h,zia (j:=0) rfl,rfl,_,rfl,iteT (q H1 S1)⟩
 | self h =>
  refine⟨_,rfl,_,_,_,_,rfl,rfl,SqT.of h,zia (j:=0) rfl,rfl,_,rfl,iteF ?_⟩;refine⟨_,rfl,_,_,_,_,rfl,rfl,SqT.of h,zia (j:=0) rfl,rfl,_,rfl,iteT ?_⟩;refine⟨_,rfl,_,rfl,rfl,?_⟩;have e:decide (V.int thing=V.int number)=decide (thing=number):=decide_eq_decide.mpr ⟨λz=>by injection z,λz=>by rw[z]⟩;rw[e];exact q H1 S1
 | mine h =>
  refine⟨_,rfl,_,_,_,_,rfl,rfl,SqT.of h,zia (j:=0) rfl,rfl,_,rfl,iteF ?_⟩;refine⟨_,rfl,_,_,_,_,rfl,rfl,SqT.of h,zia (j:=0) rfl,rfl,_,rfl,iteF ?_⟩;refine⟨_,rfl,_,_,_,_,rfl,rfl,SqT.of h,zia (j:=0) rfl,rfl,_,rfl,iteT ?_⟩;refine⟨_,rfl,_,rfl,_,rfl,_,_,rfl,rfl,rfl,_,rfl,?_⟩;have e:decide (V.int thing=V.int (-1-keeper))=decide (thing = -1-keeper):=decide_eq_decide.mpr ⟨λz=>by injection z,λz=>by rw[z]⟩;refine ite2 (λc=>?_) (λc=>?_)
  ·have c':thing = -1-keeper:=of_decide_eq_true (e.symm.trans c);have z:=q H1 S1;have no:rowOf rs thing=none:=by
    cases hr:rowOf rs thing with
    | none=>rfl
    | some r =>
     obtain⟨a1,a2⟩:=rnum r hr;have:=n0 r a2;omega
   rw[no] at z;have e2:zrf none number keeper thing .mine=true:=decide_eq_true c';rw[e2] at z;exact z
  ·have c':¬ thing = -1-keeper:=λz=>c (e.trans (decide_eq_true z));refine⟨_,rfl,rl,rfl,⟨_,SqL.of e1⟩,?_⟩;refine zne (xs:=ys) (λi zs H'=>H'=H1∧i≤ys.length∧zs.length=(((rowOf rs thing).toList.take i).filter λr=>decide (V.int r.keeper=V.int keeper)).length) (λi zs H' z=>by rw[z.1];exact SqL.of e1) ⟨rfl,ylb _,rfl⟩ ?_ ?_ ?_
   ·rintro i zs H' ⟨_,hi,hz⟩;have l2:=yvb (λr:Row=>decide (V.int r.keeper=V.int keeper)) ((rowOf rs thing).toList.take i);rw[yib] at l2;exact small (by omega)
   ·rintro i u zs H' hu ⟨rfl,_,hz⟩;have hi:i<ys.length:=(yfa.mp hu).1;obtain⟨r,er,ra⟩:=RO.get hu;obtain⟨a,m,rfl,h1,h2⟩:=id ra;refine⟨rfl,_,rfl,a,_,_,_,rfl,rfl,SqT.of h1,zia (j:=1) rfl,_,rfl,rfl,_,rfl,?_⟩;rw[yjb,er,ync,yjd,yea];refine ite2 (λc=>?_) (λc=>?_)
    ·refine⟨_,rfl,rfl,hi,?_⟩;rw[yic (p:=λr:Row=>decide (V.int r.keeper=V.int keeper)) c,yea,hz];rfl
    ·refine⟨rfl,hi,?_⟩;rw[yjc (p:=λr:Row=>decide (V.int r.keeper=V.int keeper)) c];exact hz
   ·rintro zs H' ⟨rfl,_,hz⟩ p3 hp3;rw[yua (by omega)] at hz;refine laid hp3 λH3 S3 e3=>?_;refine⟨p3,_,rfl,.inl (SqL.of e3),_,_,rfl,rfl,?_⟩;show Q (.bl (decide ((0:Int)<(zs.length:Int)))) H3
    rw[len_pos (λr=>decide (V.int r.keeper=V.int keeper)) zs hz];have z:=q H3 (S1.trans S3);have ek:(match rowOf rs thing with|none=>false|some r=>decide (V.int r.keeper=V.int keeper))=zrf (rowOf rs thing) number keeper thing .mine:=by
     cases rowOf rs thing with
     | none=>exact (decide_eq_false c').symm
     | some r=>exact decide_eq_decide.mpr ⟨λz=>by injection z,λz=>by rw[z]⟩
    rw[ek];exact z
 | @mark wa nm h =>
  refine⟨_,rfl,_,_,_,_,rfl,rfl,SqT.of h,zia (j:=0) rfl,rfl,_,rfl,iteF ?_⟩;refine⟨_,rfl,_,_,_,_,rfl,rfl,SqT.of h,zia (j:=0) rfl,rfl,_,rfl,iteF ?_⟩;refine⟨_,rfl,_,_,_,_,rfl,rfl,SqT.of h,zia (j:=0) rfl,rfl,_,rfl,iteF ?_⟩;refine⟨_,rfl,_,_,_,_,rfl,rfl,SqT.of h,zia (j:=0) rfl,rfl,_,rfl,iteT ?_⟩;refine⟨_,rfl,rl,rfl,⟨_,SqL.of e1⟩,?_⟩;refine zne (xs:=ys) (λi zs H'=>H'=H1∧i≤ys.length∧zs.length=(((rowOf rs thing).toList.take i).filter (λr:Row=>inV (.str nm) (r.marks.map V.str))).length) (λi zs H' z=>by rw[z.1];exact SqL.of e1) ⟨rfl,ylb _,rfl⟩ ?_ ?_ ?_
  ·rintro i zs H' ⟨_,hi,hz⟩;have l2:=yvb (λr:Row=>inV (.str nm) (r.marks.map V.str)) ((rowOf rs thing).toList.take i);rw[yib] at l2;exact small (by omega)
  ·rintro i u zs H' hu ⟨rfl,_,hz⟩;have hi:i<ys.length:=(yfa.mp hu).1;obtain⟨r,er,ra⟩:=RO.get hu;obtain⟨a,m,rfl,h1,h2⟩:=id ra;refine⟨rfl,_,rfl,wa,_,_,_,rfl,rfl,SqT.of h,zia (j:=1) rfl,_,rfl,a,_,_,_,rfl,rfl,SqT.of h1,zia (j:=2) rfl,m,_,rfl,.inr (SqT.of h2),rfl,znz _,_,rfl,?_⟩;rw[yjb,er,ync,yjd,yea];refine ite2 (λc=>?_) (λc=>?_)
   ·refine⟨_,rfl,rfl,hi,?_⟩;rw[yic (p:=(λr:Row=>inV (.str nm) (r.marks.map V.str))) c,yea,hz];rfl
   ·refine⟨rfl,hi,?_⟩;rw[yjc (p:=(λr:Row=>inV (.str nm) (r.marks.map V.str))) c];exact hz
  ·rintro zs H' ⟨rfl,_,hz⟩ p3 hp3;rw[yua (by omega)] at hz;refine laid hp3 λH3 S3 e3=>?_;refine⟨p3,_,rfl,.inl (SqL.of e3),_,_,rfl,rfl,?_⟩;show Q (.bl (decide ((0:Int)<(zs.length:Int)))) H3
   rw[len_pos (λr:Row=>inV (.str nm) (r.marks.map V.str)) zs hz];have z:=q H3 (S1.trans S3);have ek:(match rowOf rs thing with|none=>false|some r=>((λr:Row=>inV (.str nm) (r.marks.map V.str))) r)=zrf (rowOf rs thing) number keeper thing (.mark nm):=by
    cases rowOf rs thing<;>rfl
   rw[ek];exact z
 | @force wa fi h =>
  refine⟨_,rfl,_,_,_,_,rfl,rfl,SqT.of h,zia (j:=0) rfl,rfl,_,rfl,iteF ?_⟩;refine⟨_,rfl,_,_,_,_,rfl,rfl,SqT.of h,zia (j:=0) rfl,rfl,_,rfl,iteF ?_⟩;refine⟨_,rfl,_,_,_,_,rfl,rfl,SqT.of h,zia (j:=0) rfl,rfl,_,rfl,iteF ?_⟩;refine⟨_,rfl,_,_,_,_,rfl,rfl,SqT.of h,zia (j:=0) rfl,rfl,_,rfl,iteF ?_⟩;refine⟨_,rfl,_,_,_,_,rfl,rfl,SqT.of h,zia (j:=0) rfl,rfl,_,rfl,iteT ?_⟩;refine⟨_,rfl,rl,rfl,⟨_,SqL.of e1⟩,?_⟩;refine zne (xs:=ys) (λi zs H'=>H'=H1∧i≤ys.length∧zs.length=(((rowOf rs thing).toList.take i).filter (λr:Row=>decide ((fi:Int)≤r.force))).length) (λi zs H' z=>by rw[z.1];exact SqL.of e1) ⟨rfl,ylb _,rfl⟩ ?_ ?_ ?_
  ·rintro i zs H' ⟨_,hi,hz⟩;have l2:=yvb (λr:Row=>decide ((fi:Int)≤r.force)) ((rowOf rs thing).toList.take i);rw[yib] at l2;exact small (by omega)
  ·rintro i u zs H' hu ⟨rfl,_,hz⟩;have hi:i<ys.length:=(yfa.mp hu).1;obtain⟨r,er,ra⟩:=RO.get hu;obtain⟨a,m,rfl,h1,h2⟩:=id ra;refine⟨rfl,_,rfl,a,_,_,_,rfl,rfl,SqT.of h1,zia (j:=3) rfl,_,rfl,wa,_,_,_,rfl,rfl,SqT.of h,zia (j:=1) rfl,_,_,rfl,rfl,_,rfl,?_⟩;rw[yjb,er,ync,yjd,yea];refine ite2 (λc=>?_) (λc=>?_)
   ·refine⟨_,rfl,rfl,hi,?_⟩;rw[yic (p:=(λr:Row=>decide ((fi:Int)≤r.force))) c,yea,hz];rfl
   ·refine⟨rfl,hi,?_⟩;rw[yjc (p:=(λr:Row=>decide ((fi:Int)≤r.force))) c];exact hz
  ·rintro zs H' ⟨rfl,_,hz⟩ p3 hp3;rw[yua (by omega)] at hz;refine laid hp3 λH3 S3 e3=>?_;refine⟨p3,_,rfl,.inl (SqL.of e3),_,_,rfl,rfl,?_⟩;show Q (.bl (decide ((0:Int)<(zs.length:Int)))) H3
   rw[len_pos (λr:Row=>decide ((fi:Int)≤r.force)) zs hz];have z:=q H3 (S1.trans S3);have ek:(match rowOf rs thing with|none=>false|some r=>((λr:Row=>decide ((fi:Int)≤r.force))) r)=zrf (rowOf rs thing) number keeper thing (.force fi):=by
    cases rowOf rs thing<;>rfl
   rw[ek];exact z
 | @not wa x y' h t =>
  have m1:dep y'+1<n+1:=hn;refine⟨_,rfl,_,_,_,_,rfl,rfl,SqT.of h,zia (j:=0) rfl,rfl,_,rfl,iteF ?_⟩;refine⟨_,rfl,_,_,_,_,rfl,rfl,SqT.of h,zia (j:=0) rfl,rfl,_,rfl,iteF ?_⟩;refine⟨_,rfl,_,_,_,_,rfl,rfl,SqT.of h,zia (j:=0) rfl,rfl,_,rfl,iteF ?_⟩;refine⟨_,rfl,_,_,_,_,rfl,rfl,SqT.of h,zia (j:=0) rfl,rfl,_,rfl,iteF ?_⟩;refine⟨_,rfl,_,_,_,_,rfl,rfl,SqT.of h,zia (j:=0) rfl,rfl,_,rfl,iteF ?_⟩;refine⟨_,rfl,_,_,_,_,rfl,rfl,SqT.of h,zia (j:=1) rfl,_,rfl,_,rfl,_,rfl,_,rfl,_,sl,us,rs,number,keeper,thing,_,rfl,t,by omega,S1 _ _ es,R.map λ_ _ z=>z.same S1,nd,h16,k0,n0,λH3 S3=>?_⟩;have h3:=S3 _ _ h;refine⟨_,rfl,_,_,_,_,rfl,rfl,SqT.of h3,zia (j:=0) rfl,rfl,_,rfl,iteT ?_⟩;exact⟨_,rfl,_,rfl,q H3 (S1.trans S3)⟩
 | @both wa x x' y1 y2 h t t' =>
  have m1:max (dep y1) (dep y2)+1<n+1:=hn;refine⟨_,rfl,_,_,_,_,rfl,rfl,SqT.of h,zia (j:=0) rfl,rfl,_,rfl,iteF ?_⟩;refine⟨_,rfl,_,_,_,_,rfl,rfl,SqT.of h,zia (j:=0) rfl,rfl,_,rfl,iteF ?_⟩;refine⟨_,rfl,_,_,_,_,rfl,rfl,SqT.of h,zia (j:=0) rfl,rfl,_,rfl,iteF ?_⟩;refine⟨_,rfl,_,_,_,_,rfl,rfl,SqT.of h,zia (j:=0) rfl,rfl,_,rfl,iteF ?_⟩;refine⟨_,rfl,_,_,_,_,rfl,rfl,SqT.of h,zia (j:=0) rfl,rfl,_,rfl,iteF ?_⟩;refine⟨_,rfl,_,_,_,_,rfl,rfl,SqT.of h,zia (j:=1) rfl,_,rfl,_,rfl,_,rfl,_,rfl,_,sl,us,rs,number,keeper,thing,_,rfl,t,by omega,S1 _ _ es,R.map λ_ _ z=>z.same S1,nd,h16,k0,n0,λH3 S3=>?_⟩;have h3:=S3 _ _ h;refine⟨_,rfl,_,_,_,_,rfl,rfl,SqT.of h3,zia (j:=0) rfl,rfl,_,rfl,iteF ?_⟩;have S13:=S1.trans S3;refine⟨_,rfl,_,_,_,_,rfl,rfl,SqT.of h3,zia (j:=2) rfl,_,rfl,_,rfl,_,rfl,_,rfl,_,sl,us,rs,number,keeper,thing,_,rfl,t'.same S3,by omega,S13 _ _ es,R.map λ_ _ z=>z.same S13,nd,h16,k0,n0,λH5 S5=>?_⟩;have h5:=S5 _ _ h3;refine⟨_,rfl,_,_,_,_,rfl,rfl,SqT.of h5,zia (j:=0) rfl,rfl,_,rfl,iteT ?_⟩;have z:=q H5 (S1.trans (S3.trans S5));refine⟨_,rfl,_,rfl,?_⟩;refine ite2 (λc=>?_) (λc=>?_)
  ·have e:zrf (rowOf rs thing) number keeper thing (.both y1 y2)=zrf (rowOf rs thing) number keeper thing y2:=by
    show (zrf (rowOf rs thing) number keeper thing y1&&_)=_
    rw[c,ygd]
   rw[e] at z;exact⟨_,rfl,z⟩
  ·have e:zrf (rowOf rs thing) number keeper thing (.both y1 y2)=false:=by
    show (zrf (rowOf rs thing) number keeper thing y1&&_)=_
    rw[yqd.mpr c,ymd]
   rw[e] at z;exact z
 | @any wa x x' y1 y2 h t t' =>
  have m1:max (dep y1) (dep y2)+1<n+1:=hn;refine⟨_,rfl,_,_,_,_,rfl,rfl,SqT.of h,zia (j:=0) rfl,rfl,_,rfl,iteF ?_⟩;refine⟨_,rfl,_,_,_,_,rfl,rfl,SqT.of h,zia (j:=0) rfl,rfl,_,rfl,iteF ?_⟩;refine⟨_,rfl,_,_,_,_,rfl,rfl,SqT.of h,zia (j:=0) rfl,rfl,_,rfl,iteF ?_⟩;refine⟨_,rfl,_,_,_,_,rfl,rfl,SqT.of h,zia (j:=0) rfl,rfl,_,rfl,iteF ?_⟩;refine⟨_,rfl,_,_,_,_,rfl,rfl,SqT.of h,zia (j:=0) rfl,rfl,_,rfl,iteF ?_⟩;refine⟨_,rfl,_,_,_,_,rfl,rfl,SqT.of h,zia (j:=1) rfl,_,rfl,_,rfl,_,rfl,_,rfl,_,sl,us,rs,number,keeper,thing,_,rfl,t,by omega,S1 _ _ es,R.map λ_ _ z=>z.same S1,nd,h16,k0,n0,λH3 S3=>?_⟩;have h3:=S3 _ _ h;refine⟨_,rfl,_,_,_,_,rfl,rfl,SqT.of h3,zia (j:=0) rfl,rfl,_,rfl,iteF ?_⟩;have S13:=S1.trans S3;refine⟨_,rfl,_,_,_,_,rfl,rfl,SqT.of h3,zia (j:=2) rfl,_,rfl,_,rfl,_,rfl,_,rfl,_,sl,us,rs,number,keeper,thing,_,rfl,t'.same S3,by omega,S13 _ _ es,R.map λ_ _ z=>z.same S13,nd,h16,k0,n0,λH5 S5=>?_⟩;have h5:=S5 _ _ h3;refine⟨_,rfl,_,_,_,_,rfl,rfl,SqT.of h5,zia (j:=0) rfl,rfl,_,rfl,iteF ?_⟩;have z:=q H5 (S1.trans (S3.trans S5));refine⟨_,rfl,_,rfl,?_⟩;refine ite2 (λc=>?_) (λc=>?_)
  ·have e:zrf (rowOf rs thing) number keeper thing (.any y1 y2)=true:=by
    show (zrf (rowOf rs thing) number keeper thing y1||_)=_
    rw[c,ymm]
   rw[e] at z;exact z
  ·have e:zrf (rowOf rs thing) number keeper thing (.any y1 y2)=zrf (rowOf rs thing) number keeper thing y2:=by
    show (zrf (rowOf rs thing) number keeper thing y1||_)=_
    rw[yqd.mpr c,yal]
   rw[e] at z;exact⟨_,rfl,z⟩
theorem zufb (T:Tx K mg):FnOk P w K mg base CX0 2 T.zxb.f T.zxb.d zpg (zwk 0):=by
 have no:∀vs H Q E,¬ zwk 0 vs H Q E:=λvs H Q E h=>by
  obtain⟨v,sl,us,rs,number,keeper,thing,y,_,_,hd,_⟩:=h;omega
 exact⟨λvs H Q E h=>absurd h (no vs H Q E),λA outer s H args us vs Q E _ _ _ _ h=>absurd h (no vs H Q E)⟩
theorem zyy (T:Tx K mg):∀n:Nat,FnOk P w K mg base CX0 (n+2) T.zxb.f T.zxb.d zpg (zwk n)
 | 0=>zufb T
 | n+1=>ztfb T (zyy T n)
def GdT (kd:Str)(H:Hp)(v:V):Prop:=Ex3 λa wd z=>v = .ref a∧H a=some (.tup [.str wd,valV z])∧wd∈turns kd∧TurnOk wd z
theorem GdT.same {kd:Str}{H H':Hp}(s:Same H H'){v:V}(h:GdT kd H v):GdT kd H' v:=by
 obtain⟨a,wd,z,e,h1,h2⟩:=h;exact⟨a,wd,z,e,s _ _ h1,h2⟩
theorem GdT.but {kd:Str}{K:yba}{H H':Hp}{p:Addr}{k:Int}(t:Tk K H p k)(b:But p H H'){v:V}(h:GdT kd H v):GdT kd H' v:=by
 obtain⟨c,ep⟩:=t.two;obtain⟨a,wd,z,e,h1,h2⟩:=h;exact⟨a,wd,z,e,b _ _ (zel h1 ep (by intro z;cases z)) h1,h2⟩
theorem zjm {G:Prop}{Kx pre:V->Hp->Prop}(g:(∀v Hs,pre v Hs->Kx v Hs)->G)(k:∀v Hs,pre v Hs->Kx v Hs):G:=g k
def TnS (K:yba)(H:Hp)(p:Addr)(k m:Int)(n:Nat)(kd:Str)(v:V)(Hs:Hp):Prop:=Ex3 λsl L (k':Int)=>v = .ref sl∧Hs sl=some (.lst L)∧sl≠p∧1≤L.length∧L.length≤n∧(∀u∈L,GdT kd Hs u)∧But p H Hs∧Tk K Hs p k'∧k'≤k+m
theorem kd_here:∀kd∈zqb,inV (.str kd) [.str "leave",.str "hurt",.str "gain",.str "lack"]=true->("here":Str)∈turns kd:=by decide +kernel
theorem zspb:∀kd∈zqb,inV (.str kd) [.str "hurt",.str "lose",.str "score",.str "draw"]=true->("less":Str)∈turns kd∧("more":Str)∈turns kd:=by decide +kernel
theorem zsub:∀kd∈zqb,inV (.str kd) [.str "lose",.str "score",.str "draw"]=true->("as":Str)∈turns kd:=by decide +kernel
theorem zrpb:∀kd∈zqb,("none":Str)∈turns kd:=by decide +kernel
def zkkb (K:yba):Sp:=λvs H Q _=>Ex3 λp (k:Int) (kd:Str)=>vs=[.ref p,.str kd]∧Tk K H p k∧k≤800000∧kd∈zqb∧∀v (k':Int) H',But p H H'->Tk K H' p k'->k'≤k+6->GdT kd H' v->Q v H'
theorem zry (T:Tx K mg):FnOk P w K mg base CX0 5 T.zdf.f T.zdf.d zdn (zkkb K):=by
 refine T.zdf.ok zzg ?_;rintro f c A o s H vs Q E hr ⟨p,k,kd,rfl,TT,hk,hd,q⟩ X;refine⟨_,  (zba (zoa (i:=2) zzg.nd rfl (.inl rfl) (zuc (zaa (zlb (zaa zna (zaa zcg zca))) zca)))
  (zba (zwb (zma zme (pv 1) (zlb (zaa zna (zaa zna (zaa zna (zaa zna zca))))) rfl)
   (zda (zoa (i:=2) zzg.nd rfl (.inl rfl) (zcc zou (pv 2) (zuc (zaa (zlb (zaa zna (zaa zcg zca))) (zaa (zlb (zaa zna (zaa zcg zca))) zca))))))
   zsa)
  (zba (zwb (zma zme (pv 1) (zlb (zaa zna (zaa zna (zaa zna (zaa zna zca))))) rfl)
   (zda (zoa (i:=2) zzg.nd rfl (.inl rfl) (zcc zou (pv 2) (zuc (zaa (zlb (zaa zna (zaa (zja (zgj T) hr rfl T.zmc.m T.zmc.F.kp (zgk T) .nil zva (zaa (pv 0) zca)) zca))) (zaa (zlb (zaa zna (zaa (zja (zgj T) hr rfl T.zmc.m T.zmc.F.kp (zgk T) .nil zva (zaa (pv 0) zca)) zca))) zca))))))
   zsa)
  (zba (zwb (zma zme (pv 1) (zlb (zaa zna (zaa zna (zaa zna zca)))) rfl)
   (zda (zoa (i:=2) zzg.nd rfl (.inl rfl) (zcc zou (pv 2) (zcc zdsb (zuc (zaa (zlb (zaa zna (zaa (zjb zkc (zuc (zaa zna (zaa zna (zaa zna zca)))) (zja (zpa T).up hr rfl T.zea.m T.zea.F.kp (zta T) .nil zva (zaa (pv 0) (zaa zfa zca))) (λ_ _=>rfl)) zca))) zca)) zfa))))
   zsa)
  (zda (zqa (zjb zkc (pv 2) (zja (zpa T).up hr rfl T.zea.m T.zea.F.kp (zta T) .nil zva (zaa (pv 0) (zaa (zkb zdb rfl T.zsf ymb (zaa (pv 2) zca)) zca))) (λ_ _=>rfl)))))))),?_⟩
 refine⟨sz2,λt0 ht0=>?_⟩;refine laid ht0 λH1 S1 e1=>?_;refine⟨sz1,λl0 hl0=>?_⟩;refine laid hl0 λH2 S2 e2=>?_;have S02:=S1.trans S2;refine⟨_,rfl,sz4,λq0 hq0=>?_⟩;refine laid hq0 λH3 S3 e3=>?_;refine⟨q0,_,rfl,.inr (SqT.of e3),rfl,rfl,_,rfl,?_⟩;obtain⟨L,eL,nL,l1,l2,gd⟩:∃L:(List V),H2 l0=some (.lst L)∧l0≠p∧1≤L.length∧L.length≤1∧∀u∈L,GdT kd H2 u:=⟨[.ref t0],e2,ysb ((TT.same S1).ne hl0),by simp,by simp,λu hu=>by
  rw[yia.mp hu];exact⟨t0,"none",.non,rfl,S2 _ _ e1,zrpb kd hd,.none⟩⟩
 have B:But p H H2:=But.same S02;have TK:=TT.same S02;have hk1:k≤k+0:=by omega
 refine' zjm (pre:=TnS K H p k 0 3 kd) (λkk=>?g1) ?k1
 case g1 =>
  refine ite2 (λc=>?_) (λc=>?_)
  ·refine⟨_,rfl,sz2,λt1 ht1=>?_⟩;refine laid ht1 λH4 S4 e4=>?_;refine⟨sz2,λt2 ht2=>?_⟩;refine laid ht2 λH5 S5 e5=>?_;refine⟨sz2,λl3 hl3=>?_⟩;refine laid hl3 λH6 S6 e6=>?_;have S36:=S3.trans (S4.trans (S5.trans S6));refine⟨l0,l3,L,_,rfl,rfl,S36 _ _ eL,e6,yxa (show L.length+2≤1000 by omega) (by decide),λl4 hl4=>?_⟩;refine laid hl4 λH7 S7 e7=>?_;have S37:=S36.trans S7;obtain⟨v4,hv4⟩:∃v,v=V.ref l4:=⟨_,rfl⟩;rw[← hv4];exact kk v4 H7 ⟨l4,_,k,hv4,e7,ysb ((TK.same S36).ne hl4),(by rw[yea];omega),(by rw[yea];show L.length+2≤3;omega),λu hu=>by
    rcases yeb.mp hu with z|z
    ·exact (gd u z).same S37
    ·simp only[yja,ycd,or_false] at z
     rcases z with rfl|rfl
     ·exact⟨t1,"here",.non,rfl,(S5.trans (S6.trans S7)) _ _ e4,kd_here kd hd c,.here⟩
     ·exact⟨t2,"here",.non,rfl,(S6.trans S7) _ _ e5,kd_here kd hd c,.here⟩,B.trans (But.same S37),TK.same S37,hk1⟩
  ·exact kk (.ref l0) H3 ⟨l0,L,k,rfl,S3 _ _ eL,nL,l1,by omega,λu hu=>(gd u hu).same S3,B.trans (But.same S3),TK.same S3,hk1⟩
 case k1 =>
 rintro _ H3' ⟨s1,M,k1,rfl,eM,nM,l1m,l2m,gm,Bm,Tm,hk1'⟩;refine⟨_,rfl,sz4,λq1 hq1=>?_⟩;refine laid hq1 λHa Sa ea=>?_;refine⟨q1,_,rfl,.inr (SqT.of ea),rfl,rfl,_,rfl,?_⟩;have eLa:=Sa _ _ eM;have gda:∀u∈M,GdT kd Ha u:=λu hu=>(gm u hu).same Sa;have Ba:=Bm.trans (But.same Sa);have Ta:=Tm.same Sa;refine' zjm (pre:=TnS K H p k 4 5 kd) (λkk=>?g2) ?k2
 case g2 =>
  refine ite2 (λc=>?_) (λc=>?_)
  ·obtain⟨kl,km⟩:=zspb kd hd c;refine⟨_,rfl,_,rfl,p,k1,rfl,Ta,by omega,λr1 k2 Hb lt1 Bb Tb hk2=>⟨sz2,λt1 ht1=>?_⟩⟩;refine laid ht1 λHc Sc ec=>?_;have Tc:=Tb.same Sc;refine⟨_,rfl,p,k2,rfl,Tc,by omega,λr2 k3 Hd lt2 Bd Td hk3=>⟨sz2,λt2 ht2=>?_⟩⟩;refine laid ht2 λHe Se ee=>?_;refine⟨sz2,λl3 hl3=>?_⟩;refine laid hl3 λHf Sf ef=>?_;have eLb:=Bb _ _ nM eLa;have eLf:=Sf _ _ (Se _ _ (Bd _ _ nM (Sc _ _ eLb)));refine⟨s1,l3,M,_,rfl,rfl,eLf,ef,yxa (show M.length+2≤1000 by omega) (by decide),λl4 hl4=>?_⟩;refine laid hl4 λHg Sg eg=>?_;obtain⟨v4,hv4⟩:∃v,v=V.ref l4:=⟨_,rfl⟩;rw[← hv4];have Seg:=Se.trans (Sf.trans Sg);have Tf:=Td.same (Se.trans Sf);have g1:GdT kd Hc (.ref t1):=⟨t1,"less",.num r1,rfl,ec,kl,.less lt1⟩;exact kk v4 Hg ⟨l4,_,k3,hv4,eg,ysb (Tf.ne hl4),(by rw[yea];omega),(by rw[yea];show M.length+2≤5;omega),λu hu=>by
    rcases yeb.mp hu with z|z
    ·exact ((((gda u z).but Ta Bb).same Sc).but Tc Bd).same Seg
    ·simp only[yja,ycd,or_false] at z
     rcases z with rfl|rfl
     ·exact (g1.but Tc Bd).same Seg
     ·exact⟨t2,"more",.num r2,rfl,(Sf.trans Sg) _ _ ee,km,.more lt2⟩,Ba.trans (Bb.trans ((But.same Sc).trans (Bd.trans (But.same Seg)))),Td.same Seg,by omega⟩
  ·exact kk (.ref s1) Ha ⟨s1,M,k1,rfl,eLa,nM,l1m,by omega,gda,Ba,Ta,by omega⟩
 case k2 =>
 rintro _ H4 ⟨s2,M2,k2,rfl,eN,nN,l1n,l2n,gn,Bn,Tn,hk2⟩;refine⟨_,rfl,sz3,λq2 hq2=>?_⟩;refine laid hq2 λIa Sa' ea'=>?_;refine⟨q2,_,rfl,.inr (SqT.of ea'),rfl,rfl,_,rfl,?_⟩;have eNa:=Sa' _ _ eN;have gna:∀u∈M2,GdT kd Ia u:=λu hu=>(gn u hu).same Sa';have Bna:=Bn.trans (But.same Sa');have Tna:=Tn.same Sa';refine' zjm (pre:=TnS K H p k 5 7 kd) (λkk=>?g3) ?k3
 case g3 =>
  refine ite2 (λc=>?_) (λc=>?_)
  ·have ka:=zsub kd hd c;refine⟨_,rfl,sz3,λm3 hm3=>?_⟩;refine laid hm3 λIb Sb eb=>?_;have Tb:=Tna.same Sb;have nm3:m3≠p:=ysb (Tna.ne hm3);refine⟨_,rfl,p,k2,3,rfl,Tb,by omega,by decide,λr Ic r0 r1 Bc Tc=>?_⟩;obtain⟨v,hv,hm⟩:=zoo (xs:=[V.str "lose",V.str "score",V.str "draw"]) (i:=r) r0 r1;obtain⟨n,rfl,hn⟩:∃n,v=V.str n∧n∈ztc:=by
    simp only[yja,ycd,or_false] at hm
    rcases hm with rfl|rfl|rfl
    ·exact⟨_,rfl,by decide⟩
    ·exact⟨_,rfl,by decide⟩
    ·exact⟨_,rfl,by decide⟩
   refine⟨m3,_,_,_,rfl,rfl,SqL.of (Bc _ _ nm3 eb),hv,sz2,λt1 ht1=>?_⟩;refine laid ht1 λId Sd ed=>?_;refine⟨sz1,λl3 hl3=>?_⟩;refine laid hl3 λIe Se ee=>?_;refine⟨l3,2,_,rfl,rfl,ee,by decide,by decide,(by show 1*2≤yta;decide),λl5 hl5=>?_⟩;refine laid hl5 λIf Sf ef=>?_;have Sdf:=Sd.trans (Se.trans Sf);have eNc:=Bc _ _ nN (Sb _ _ eNa);refine⟨s2,l5,M2,_,rfl,rfl,Sdf _ _ eNc,ef,yxa (show M2.length+2≤1000 by omega) (by decide),λl4 hl4=>?_⟩;refine laid hl4 λIg Sg eg=>?_;obtain⟨v4,hv4⟩:∃v,v=V.ref l4:=⟨_,rfl⟩;rw[← hv4];have Sdg:=Sdf.trans Sg;have g1:GdT kd Id (.ref t1):=⟨t1,"as",.name n,rfl,ed,ka,.as hn⟩;exact kk v4 Ig ⟨l4,_,k2+1,hv4,eg,ysb ((Tc.same Sdf).ne hl4),(by rw[yea];omega),(by rw[yea];show M2.length+2≤7;omega),λu hu=>by
    rcases yeb.mp hu with z|z
    ·exact (((gna u z).same Sb).but Tb Bc).same Sdg
    ·have z':u∈[V.ref t1,V.ref t1]:=z;simp only[yja,ycd,or_false,or_self] at z';rw[z'];exact g1.same (Se.trans (Sf.trans Sg)),Bna.trans ((But.same Sb).trans (Bc.trans (But.same Sdg))),Tc.same Sdg,by omega⟩
  ·exact kk (.ref s2) Ia ⟨s2,M2,k2,rfl,eNa,nN,l1n,by omega,gna,Bna,Tna,by omega⟩
 case k3 =>
 rintro _ H5 ⟨s3,M3,k3,rfl,eO,nO,l1o,l2o,go,Bo,To,hk3⟩;refine⟨_,rfl,_,rfl,_,rfl,s3,_,rfl,.inl (SqL.of eO),p,k3,(M3.length:Int),rfl,To,by omega,by omega,λr H6 r0 r1 B6 T6=>?_⟩;obtain⟨v,hv,hm⟩:=zoo (xs:=M3) (i:=r) r0 r1;refine⟨s3,_,_,_,rfl,rfl,SqL.of (B6 _ _ nO eO),hv,?_⟩;exact q v _ H6 (Bo.trans B6) T6 (by omega) ((go v hm).but To B6)
def Kp (H H':Hp):Prop:=∀a o,(∀xs,o≠HO.lst xs)->H a=some o->H' a=some o
theorem Kp.same {H H':Hp}(s:Same H H'):Kp H H':=λ_ _ _ h=>s _ _ h
theorem Kp.trans {H H1 H2:Hp}(a:Kp H H1)(b:Kp H1 H2):Kp H H2:=λc o n h=>b c o n (a c o n h)
theorem Kp.but {K:yba}{H H':Hp}{p:Addr}{k:Int}(t:Tk K H p k)(b:But p H H'):Kp H H':=λa o n h=>by
 obtain⟨c,ep⟩:=t.two;refine b a o (λz=>?_) h;rw[z,ep] at h;injection h with h
 exact n _ h.symm
theorem Kp.put {H:Hp}{l:Addr}{us vs:List V}(e:H l=some (.lst us)):Kp H (upd H l (.lst vs)):=λa o n h=>by
 rw[zza λz=>?_]
 ·exact h
 ·rw[z,e] at h;injection h with h
  exact n _ h.symm
theorem Kp.t {H H':Hp}(s:Kp H H'){a:Addr}{xs:List V}(h:H a=some (.tup xs)):H' a=some (.tup xs):=s _ _ (λ_ z=>by cases z) h
theorem WT.kp {H H':Hp}(s:Kp H H'){v:V}{y:Wh}(z:WT H v y):WT H' v y:=by
 induction z with
 | all h=>exact .all (s.t h)
 | self h=>exact .self (s.t h)
 | mine h=>exact .mine (s.t h)
 | mark h=>exact .mark (s.t h)
 | force h=>exact .force (s.t h)
 | not h _ i=>exact .not (s.t h) i
 | both h _ _ i j=>exact .both (s.t h) i j
 | any h _ _ i j=>exact .any (s.t h) i j
theorem Tk.strs {K:yba}{H:Hp}{p l:Addr}{k:Int}{ss:List Str}(t:Tk K H p k)(h:H l=some (.lst (ss.map V.str))):l≠p:=λz=>by
 obtain⟨a,e⟩:=t.two;rw[z,e] at h;injection h with h
 injection h with h
 cases ss with
 | nil=>cases h
 | cons x r=>injection h with h;cases h
theorem zfjb (y:Wh):dep y<y.size:=by
 induction y with
 | not a i=>exact Nat.succ_lt_succ i
 | both a b i j =>
  show max (dep a) (dep b)+1<a.size+b.size+1
  omega
 | any a b i j =>
  show max (dep a) (dep b)+1<a.size+b.size+1
  omega
 | _=>exact Nat.zero_lt_one
def mayR (y:Wh):Rule:=.may 1 ⟨"each","score",.num 1,y⟩
inductive R20 (H:Hp):V->Rule->Prop where
 | may {a:Addr} {y:Wh}:H a=some (.tup [.str "may",.str (zve (mayR y))])->y.ok->y.size≤9->R20 H (.ref a) (mayR y)
 | ins {a:Addr} {kd wd:Str} {x:V} {y:Wh} {z:Wv}:H a=some (.tup [.str "instead",.str kd,x,.str wd,valV z])->WT H x y->y.ok->y.size≤9->kd∈zqb->wd∈turns kd->TurnOk wd z->R20 H (.ref a) (.instead kd y wd z)
theorem R20.kp {H H':Hp}(s:Kp H H'){v:V}{r:Rule}(h:R20 H v r):R20 H' v r:=by
 cases h with
 | may h a b=>exact .may (s.t h) a b
 | ins h w a b c d e=>exact .ins (s.t h) (w.kp s) a b c d e
theorem R20.ok {H:Hp}{v:V}{r:Rule}(h:R20 H v r):r.ok:=by
 cases h with
 | may h a b=>exact⟨by decide,⟨yka,.score (by decide),a,b⟩⟩
 | ins h w a b c d e=>exact⟨c,⟨a,b⟩,d,e⟩
theorem ztlb (y:Wh):("may 1 do each score 1 ":Str)++whT y=zve (mayR y):=by
 show _=ysa " " ((["may",(toString ((1:Nat):Int):Str),"do","each","score",(toString ((1:Nat):Int):Str)]:List Str)++y.words)
 rw[zgo " " (yqb _ _) (zvd y)];rfl
theorem zzdb (kd wd:Str)(y:Wh)(z:Wv):ysa " " ("instead" :: kd::whT y :: "do" :: wd::z.words)=zve (.instead kd y wd z):=by
 have e:=zcz " " (xss:=([["instead"],[kd],y.words,["do"],[wd]]:List (List Str))++z.words.map λu=>[u]) (λxs hx=>by
  rcases yeb.mp hx with h|h
  ·simp only[yja,ycd,or_false] at h
   rcases h with rfl|rfl|rfl|rfl|rfl
   ·exact yqb _ _
   ·exact yqb _ _
   ·exact zvd y
   ·exact yqb _ _
   ·exact yqb _ _
  ·obtain⟨u,_,rfl⟩:=ydb.mp h;exact yqb _ _)
 rw[yhj,zmmb,yfb,ywf] at e;have e2:z.words.map ((ysa " ")∘λu=>[u])=z.words:=List.map_id _;rw[e2] at e;refine Eq.trans e ?_;show _=ysa " " ("instead" :: kd::(y.words++("do":Str)::wd::z.words))
 congr 1
 simp
structure Kd (H:Hp)(l:Addr)(ks:List Str):Prop where
 at_:H l=some (.lst (ks.map V.str))
 lo:1≤ks.length
 hi:ks.length≤3
 ok:∀k∈ks,k∈zqb
theorem Kd.but {K:yba}{H H':Hp}{p l:Addr}{k:Int}{ks:List Str}(h:Kd H l ks)(t:Tk K H p k)(b:But p H H'):Kd H' l ks:=⟨b _ _ (t.strs h.at_) h.at_,h.lo,h.hi,h.ok⟩
theorem Kd.same {H H':Hp}{l:Addr}{ks:List Str}(h:Kd H l ks)(s:Same H H'):Kd H' l ks:=⟨s _ _ h.at_,h.lo,h.hi,h.ok⟩
def zygb (K:yba):Sp:=λvs H Q _=>Ex6 λp nl kl (k:Int) (ns ks:List Str)=>vs=[.ref p,.ref nl,.ref kl]∧Tk K H p k∧k≤700000∧N4 H nl ns∧Kd H kl ks∧∀l us (rs:List Rule) (k':Int) H',But p H H'->Tk K H' p k'->k'≤k+136->H l=none->H' l=some (.lst us)->All2 (R20 H') us rs->rs.length≤3->Q (.ref l) H'
theorem zvv (T:Tx K mg):FnOk P w K mg base CX0 15 T.zfe.f T.zfe.d zpl (zygb K):=by
 refine T.zfe.ok zyf ?_;rintro f c A o s H vs Q E hr ⟨p,nl,kl,k,ns,ks,rfl,TT,hk,N0,K0,q⟩ X;refine⟨_,  (zba (zoa (i:=3) zyf.nd rfl (.inl rfl) (zuc zca))
  (zba (zzh yxb rfl (zah rfl T.zth (zaa (zja (zpa T).up hr rfl T.zea.m T.zea.F.kp (zta T) .nil zva (zaa (pv 0) (zaa zfa zca))) zca)) (zua (i:=4) zyf.nd rfl (.inl rfl))
   (zba (zoa (i:=5) zyf.nd rfl (.inl rfl) (zjb zkc (pv 2) (zja (zpa T).up hr rfl T.zea.m T.zea.F.kp (zta T) .nil zva (zaa (pv 0) (zaa (zkb zdb rfl T.zsf ymb (zaa (pv 2) zca)) zca))) (λ_ _=>rfl)))
   (zba (zoa (i:=6) zyf.nd rfl (.inl rfl) (zja (zedb T 9) hr rfl T.zrb.m T.zrb.F.kp (zfk T) .nil zva (zaa (pv 0) (zaa (pv 1) (zaa (zcc zbh zfa (zja (zpa T).up hr rfl T.zea.m T.zea.F.kp (zta T) .nil zva (zaa (pv 0) (zaa zfa zca)))) zca)))))
   (zda (zwb (zma zqc (zja (zpa T).up hr rfl T.zea.m T.zea.F.kp (zta T) .nil zva (zaa (pv 0) (zaa zfa zca))) zfa (zwa _))
    (zda (zod (zai ycb yya yza zzc (pv 3) (zaa (zlb (zaa zna (zaa (zcc zwl zna (zja (zcr T 9).up hr rfl T.zpb.m T.zpb.F.kp (zkl T) .nil zva (zaa (pv 6) zca))) zca))) zca))))
    (zda (zod (zai ycb yya yza zzc (pv 3) (zaa (zcc zepb (zlb (zaa zna (zaa (pv 5) (zaa (pv 6) zca)))) (zja (zry T).up hr rfl T.zdf.m T.zdf.F.kp (zdcb T) .nil zva (zaa (pv 0) (zaa (pv 5) zca)))) zca)))))))))
  (zda (zqa (pv 3))))),?_⟩
 refine⟨sz0,λl hl=>?_⟩;refine laid hl λH1 S1 e1=>?_;have T1:=TT.same S1;have nl1:l≠p:=ysb (TT.ne hl);refine⟨_,rfl,p,k,4,rfl,T1,by omega,by decide,λm0 H2 m1 m2 B2 T2=>?_⟩;obtain⟨m,rfl⟩:∃m:Nat,m0=(m:Int):=⟨m0.toNat,by omega⟩;refine⟨_,rfl,by omega,by omega,?_⟩;rw[ydc];have N2:=(N0.same S1).but T1 B2;have K2:=(K0.same S1).but T1 B2;have B02:But p H H2:=(But.same S1).trans B2;have up:∀{Hx:Hp} {us:List V} {v:V},H l=none->But p H Hx->But p H (upd Hx l (.lst (us++[v]))):=λ{Hx us v} e B b o nb hb=>by
  rw[zza (zka hb e)];exact B b o nb hb
 refine zgl (lo:=0) (n:=m) (λi σ Hx=>Ex6 λus (rs:List Rule) (k':Int) o4 o5 o6=>σ=[some (.ref p),some (.ref nl),some (.ref kl),some (.ref l),o4,o5,o6]∧Hx l=some (.lst us)∧All2 (R20 Hx) us rs∧rs.length=i∧i≤m∧But p H Hx∧Tk K Hx p k'∧k'≤k+1+45*(i:Int)∧N4 Hx nl ns∧Kd Hx kl ks∧l≠nl∧l≠kl) ⟨[],[],_,_,_,_,rfl,B2 _ _ nl1 e1,.nil,rfl,ylb _,B02,T2,by omega,N2,K2,ysb (zka N0.at_ hl),ysb (zka K0.at_ hl)⟩ ?_ ?_
 ·rintro i σ Hx hi ⟨us,rs,k',o4,o5,o6,rfl,el,al,rl,_,B,TK,hk',NX,KX,n1,n2⟩;have ul:=al.len;have kle:((ks.map V.str).length:Int)=(ks.length:Int):=by rw[yda]
  refine⟨_,rfl,_,rfl,_,rfl,kl,_,rfl,.inl (SqL.of KX.at_),p,k',(ks.length:Int),(by rw[← kle];rfl),TK,by omega,(by have:=KX.lo;omega),λr Ha r0 r1 Ba Ta=>?_⟩;have Ka:=KX.but TK Ba;obtain⟨kd,hkd,hm⟩:=zct (ss:=ks) r0 r1;have hd:=Ka.ok kd hm;refine⟨kl,_,_,_,rfl,rfl,SqL.of Ka.at_,hkd,?_⟩;have Na:=NX.but TK Ba;refine⟨_,rfl,_,rfl,_,rfl,p,k'+1,9,rfl,Ta,by omega,by decide,λd0 Hb d1 d2 Bb Tb=>⟨_,_,rfl,rfl,?_⟩⟩;have Nb:=Na.but Ta Bb;have Kb:=Ka.but Ta Bb;obtain⟨d,hd0⟩:∃d:Nat,1+d0=(d:Int):=⟨(1+d0).toNat,by omega⟩;refine⟨p,nl,_,ns,d,(by show [V.ref p,V.ref nl,V.int (1+d0)]=_;rw[hd0]),Tb,by omega,Nb,by omega,by omega,λwv y k2 Hc Bc Tc hk2 W2 ok2 y2=>?_⟩;have Nc:=Nb.but Tb Bc;have Kc:=Kb.but Tb Bc;have y9:y.size≤9:=by omega
  have Bac:=Ba.trans (Bb.trans Bc);refine⟨_,rfl,p,k2,7,rfl,Tc,by omega,by decide,λs0 He s1 s2 Be Te=>⟨rfl,_,rfl,?_⟩⟩;have Ne':=Nc.but Tc Be;have Ke':=Kc.but Tc Be;have We:=W2.kp (Kp.but Tc Be);have Bae:=Bac.trans Be;have ele:=Bae _ _ nl1 el;have ale:All2 (R20 He) us rs:=al.imp λz=>z.kp (Kp.but TK Bae);have sz:us.length≤1000:=by omega
  refine ite2 (λc=>?_) (λc=>?_)
  ·refine⟨_,rfl,.inl ⟨rfl,_,SqL.of ele⟩,_,rfl,wv,y,rfl,We,ok2,yoa (zfjb y) y9,y9,λHf Sf=>?_⟩;have yl:(whT y).length≤200:=zsab ok2 y9;have l22:("may 1 do each score 1 ":Str).length=22:=by decide +kernel
   refine⟨_,_,rfl,rfl,small (by omega),sz2,λt ht=>?_⟩;refine laid ht λHg Sg eg=>?_;have Seg:=Sf.trans Sg;have elg:=Seg _ _ ele;rw[ztlb] at eg;refine⟨l,_,_,rfl,rfl,elg,zjc sz,?_⟩;have kpp:Kp Hg (upd Hg l (.lst (us++[V.ref t]))):=Kp.put elg;have Tg:=Te.same Seg;refine⟨us++[V.ref t],rs++[mayR y],k2+1,_,_,_,rfl,zga,All2.snoc (R20.kp kpp (.may eg ok2 y9)) (ale.imp λz=>z.kp ((Kp.same Seg).trans kpp)),by rw[yea,rl];rfl,hi,up hl (B.trans (Bae.trans (But.same Seg))),Tg.other elg (ysb nl1),by omega,⟨by rw[zza (ysb n1)];exact (Ne'.same Seg).at_,Ne'.len,Ne'.ok,Ne'.nd⟩,⟨by rw[zza (ysb n2)];exact (Ke'.same Seg).at_,Ke'.lo,Ke'.hi,Ke'.ok⟩,n1,n2⟩
  ·refine⟨_,rfl,.inl ⟨rfl,_,SqL.of ele⟩,_,rfl,_,rfl,sz3,λt1 ht1=>?_⟩;refine laid ht1 λHf Sf ef=>?_;have Tf:=Te.same Sf;refine⟨_,rfl,_,rfl,p,k2+1,kd,rfl,Tf,by omega,hd,λv k3 Hg Bg Tg hk3 gd=>?_⟩;obtain⟨t2,wd,z,rfl,e2,hw,hz⟩:=gd;have ef':=(Kp.but Tf Bg).t ef;refine⟨t1,t2,_,_,rfl,rfl,SqT.of ef',SqT.of e2,yqb _ _,sz5,(λe=>by cases e),λ_ t ht=>?_⟩;refine laid ht λHh Sh eh=>?_;have Bg2:=(But.same (p:=p) Sf).trans (Bg.trans (But.same Sh));have elg:=Bg2 _ _ nl1 ele;refine⟨l,_,_,rfl,rfl,elg,zjc sz,?_⟩;have kpp:Kp Hh (upd Hh l (.lst (us++[V.ref t]))):=Kp.put elg;have Th:=Tg.same Sh;have kk:=Kp.but Te Bg2;have Nh:=Ne'.but Te Bg2;have Kh:=Ke'.but Te Bg2;refine⟨us++[V.ref t],rs++[.instead kd y wd z],k3,_,_,_,rfl,zga,All2.snoc (R20.kp kpp (.ins eh (We.kp kk) ok2 y9 hd hw hz)) (ale.imp λz=>z.kp (kk.trans kpp)),by rw[yea,rl];rfl,hi,up hl (B.trans (Bae.trans Bg2)),Th.other elg (ysb nl1),by omega,⟨by rw[zza (ysb n1)];exact Nh.at_,Nh.len,Nh.ok,Nh.nd⟩,⟨by rw[zza (ysb n2)];exact Kh.at_,Kh.lo,Kh.hi,Kh.ok⟩,n1,n2⟩
 ·rintro σ Hx ⟨us,rs,k',o4,o5,o6,rfl,el,al,rl,hi,B,TK,hk',NX,KX,n1,n2⟩;exact⟨_,rfl,q l us rs k' Hx B TK (by omega) hl el al (by omega)⟩
def zep (nm:Str)(rs:List Rule):Crd:=⟨nm,1,2,[],rs⟩
theorem zaib:Marks []:=⟨(λ_ h=>nomatch h),.nil,rfl,by decide⟩
theorem zleb {nm:Str}{rs:List Rule}(hn:zoe nm)(ok:∀r∈rs,r.ok)(h3:rs.length≤3):(zep nm rs).ok:=⟨hn,(by show 1<1000;decide),(by show 2<1000;decide),zaib,ok,h3⟩
theorem zmtb (nm:Str)(rs:List Rule):nm ++ " 1 2 -" = ysa " " (zep nm rs).head:=by
 have e1:ysa " " (zep nm rs).head=nm ++ " " ++ ysa " " [(toString ((1:Nat):Int):Str),(toString ((2:Nat):Int):Str),zvi []]:=rfl;have e2:ysa " " [(toString ((1:Nat):Int):Str),(toString ((2:Nat):Int):Str),zvi []] = "1 2 -":=by decide +kernel
 have e3:(" 1 2 -":Str) = " " ++ "1 2 -":=by decide +kernel
 rw[e1,e2,e3];show (⟨nm.cps++((" ":Str).cps++_)⟩:Str)=⟨(nm.cps++(" ":Str).cps)++_⟩
 rw[yln]
def zlkb:Sp:=λvs H Q _=>Ex4 λ(nm:Str) l us (rs:List Rule)=>vs=[.str nm,.ref l]∧zoe nm∧H l=some (.lst us)∧All2 (R20 H) us rs∧rs.length≤3∧∀H',Same H H'->Q (.str (zep nm rs).text) H'
theorem zsy (T:Tx K mg):FnOk P w K mg base CX0 12 T.zef.f T.zef.d zen zlkb:=by
 refine T.zef.ok zni ?_;rintro f c A o s H vs Q E hr ⟨nm,l,us,rs,rfl,hn,el,al,h3,q⟩ X;refine⟨_,  (zba (zoa (i:=2) zni.nd rfl (.inl rfl) (zuc (zaa (zcc zwl (pv 0) zna) zca)))
  (zba (zzh yxb rfl (zzd (pv 1)) (zua (i:=3) zni.nd rfl (.inl rfl))
   (zda (zwb (zma zqc (zjb zyb (pv 3) zfa (λ_ _=>rfl)) zna (zwa _))
    (zda (zod (zai ycb yya yza zzc (pv 2) (zaa (zjb zyb (pv 3) zfa (λ_ _=>rfl)) zca))))
    (zba (zoa (i:=4) zni.nd rfl (.inl rfl) (zuc (zaa zna (zaa (zjb zyb (pv 3) zfa (λ_ _=>rfl)) (zaa (zja (zcr T 9) hr rfl T.zpb.m T.zpb.F.kp (zkl T) .nil zva (zaa (zjb zyb (pv 3) zfa (λ_ _=>rfl)) zca)) (zaa zna (zaa (zjb zyb (pv 3) zfa (λ_ _=>rfl)) zca)))))))
    (zba (zwb (zma zvhb (zjb zyb (pv 3) zfa (λ_ _=>rfl)) zcg (zwa _))
     (zda (zod (zai ycb yya yza zzc (pv 4) (zaa (zyd zmq rfl T.zpeb boot_str (zaa (zjb zyb (pv 3) zfa (λ_ _=>rfl)) zca)) zca))))
     zsa)
    (zda (zod (zai ycb yya yza zzc (pv 2) (zaa (zai ykd yqg yrg zaw zna (zaa (pv 4) zca)) zca)))))))))
  (zda (zqa (zai ykd yqg yrg zaw zna (zaa (pv 2) zca)))))),?_⟩
 have l6:(" 1 2 -":Str).length=6:=by decide
 have n8:=hn.2.1;refine⟨_,rfl,_,_,rfl,rfl,small (by omega),sz1,λpl hpl=>?_⟩;rw[zmtb nm rs];refine laid hpl λH1 S1 e1=>?_;have ul:=al.len;have nlp:l≠pl:=zka el hpl;refine⟨_,rfl,l,rfl,⟨_,SqL.of (S1 _ _ el)⟩,?_⟩;refine zdk (xs:=us) (λi σ H'=>Ex2 λo3 o4=>σ=[some (.str nm),some (.ref l),some (.ref pl),o3,o4]∧H' pl=some (.lst ((ysa " " (zep nm rs).head::(rs.take i).map zve).map V.str))∧Same H H') ⟨_,_,rfl,e1,S1⟩ (λi σ H' _ ⟨_,_,_,_,S⟩=>SqL.of (S _ _ el)) ?_ ?_
 ·rintro i u σ H' hu ⟨o3,o4,rfl,ep,S⟩;obtain⟨r,er,ru0⟩:=al.get hu;have ru:=ru0.kp (Kp.same S);have hi:i<us.length:=(yfa.mp hu).1;have sz:((ysa " " (zep nm rs).head::(rs.take i).map zve).map V.str).length≤1000:=by
   rw[yda,yha,yda,yib];omega
  have eg:∀t:Str,t=zve r->(ysa " " (zep nm rs).head::(rs.take i).map zve).map V.str++[V.str t]=(ysa " " (zep nm rs).head::(rs.take (i+1)).map zve).map V.str:=λt ht=>by
   rw[yjb,er,ync,yfb,ht];simp
  cases ru with
  | @may a y h ok y9 =>
   refine⟨_,rfl,a,_,_,_,rfl,rfl,SqT.of h,zia (j:=0) rfl,rfl,_,rfl,iteT ?_⟩;refine⟨_,rfl,.inl ⟨rfl,_,SqL.of ep⟩,_,rfl,a,_,_,_,rfl,rfl,SqT.of h,zia (j:=1) rfl,pl,_,_,rfl,rfl,ep,zjc sz,?_⟩;exact⟨_,_,rfl,by rw[eg _ rfl];exact zga,zae S hpl _⟩
  | @ins a kd wd x y z h w ok y9 hd hw hz =>
   refine⟨_,rfl,a,_,_,_,rfl,rfl,SqT.of h,zia (j:=0) rfl,rfl,_,rfl,iteF ?_⟩;refine⟨_,rfl,a,_,_,_,rfl,rfl,SqT.of h,zia (j:=1) rfl,_,rfl,a,_,_,_,rfl,rfl,SqT.of h,zia (j:=2) rfl,x,y,rfl,w,ok,yoa (zfjb y) y9,y9,λH2 S2=>?_⟩;have h2:=S2 _ _ h;refine⟨_,rfl,a,_,_,_,rfl,rfl,SqT.of h2,zia (j:=3) rfl,sz5,λwl hwl=>?_⟩;refine laid hwl λH3 S3 e3=>?_;have h3':=S3 _ _ h2;have ep3:=(S2.trans S3) _ _ ep;have npw:pl≠wl:=zka (S2 _ _ ep) hwl;have S03:=S.trans (S2.trans S3);have rl:=zao (r:=.instead kd y wd z) (show Rule.ok _ from⟨hd,⟨ok,y9⟩,hw,hz⟩);have yl:(whT y).length≤200:=zsab ok y9;have kl:kd.length≤8:=(zus (l:=zqb) (by decide +kernel) hd).1.2.2;have wdl:wd.length≤8:=hz.word.1.2.2;refine⟨_,rfl,a,_,_,_,rfl,rfl,SqT.of h3',zia (j:=4) rfl,rfl,_,rfl,?_⟩;have zw:z = .non∨∃u,z.words=[u]∧u.length≤8∧((valV z = .str u)∨∃i:Nat,i<1000∧valV z = .int i∧u=(toString (i:Int):Str)):=by
    cases hz with
    | none=>exact .inl rfl
    | here=>exact .inl rfl
    | less g=>exact .inr ⟨_,rfl,(zco g).2.2,.inr ⟨_,g,rfl,rfl⟩⟩
    | more g=>exact .inr ⟨_,rfl,(zco g).2.2,.inr ⟨_,g,rfl,rfl⟩⟩
    | as g=>exact .inr ⟨_,rfl,(zus (l:=ztc) (by decide +kernel) g).1.2.2,.inl rfl⟩
   have li:("instead":Str).length=7:=by decide
   have ld:("do":Str).length=2:=by decide
   have l1:(" ":Str).length=1:=rfl
   rcases zw with rfl|⟨u,eu,u8,hv⟩
   ·refine iteF ?_;refine⟨_,rfl,.inl ⟨rfl,_,SqL.of ep3⟩,rfl,_,rfl," ",wl,["instead",kd,whT y,"do",wd],rfl,rfl,SqL.of e3,?_,?_⟩
    ·simp only[yva,yef,yhf,yoo,yha,yrh];omega
    refine⟨pl,_,_,rfl,rfl,ep3,zjc sz,?_⟩;exact⟨_,_,rfl,by rw[eg (ysa " " ["instead",kd,whT y,"do",wd]) (zzdb kd wd y .non)];exact zga,zae S03 hpl _⟩
   ·have nn:¬ valV z = .non:=λe=>by
     rcases hv with h|⟨_,_,h,_⟩
     ·rw[h] at e;cases e
     ·rw[h] at e;cases e
    refine ite2 (λc=>?_) (λc=>absurd (by rw[decide_eq_false nn];rfl) c);refine⟨_,rfl,.inl ⟨rfl,_,SqL.of e3⟩,_,rfl,a,_,_,_,rfl,rfl,SqT.of h3',zia (j:=4) rfl,zkcb hv _ _ ⟨wl,_,_,rfl,rfl,e3,(by show 5<yta;decide),?_⟩⟩;have ep4:upd H3 wl (.lst ([V.str "instead",V.str kd,V.str (whT y),V.str "do",V.str wd]++[V.str u])) pl=_:=(zza npw).trans ep3;refine⟨_,rfl,.inl ⟨rfl,_,SqL.of ep4⟩,rfl,_,rfl," ",wl,["instead",kd,whT y,"do",wd,u],rfl,rfl,SqL.of zga,?_,?_⟩
    ·simp only[yva,yef,yhf,yoo,yha,yrh];omega
    refine⟨pl,_,_,rfl,rfl,ep4,zjc sz,?_⟩;have et:=zzdb kd wd y z;rw[eu] at et;exact⟨_,_,rfl,by rw[eg _ et];exact zga,zae (zae S03 (none_of (S.trans S2) hwl) _) hpl _⟩
 ·rintro σ H' ⟨o3,o4,rfl,ep,S⟩;rw[yua (by omega)] at ep;refine⟨rfl,_,rfl," / ",pl,_,rfl,rfl,SqL.of ep,?_,q H' S⟩;have ok:(zep nm rs).ok:=zleb hn (λr hr=>by
   obtain⟨v,_,z⟩:=al.mem2 hr;exact z.ok) h3
  have hh:=Crd.zgw ok;have z:=zsp (us:=ysa " " (zep nm rs).head::rs.map zve) (m:=450) λu hu=>by
   rcases yja.mp hu with z|z
   ·rw[z];omega
   ·obtain⟨r,hr,rfl⟩:=ydb.mp z;exact zao (ok.rules r hr)
  have l3:(" / ":Str).length=3:=by decide
  rw[yha,yda] at z;rw[yha,yda,l3];omega
structure C20 where
 num:Int
 rules:List Rule
 came:Int
 marks:List Str
 keeper:Int
 force:Int
 mute:Bool
def C20.row (c:C20):Row:=⟨c.num,c.keeper,c.marks,c.force,c.mute⟩
def CdT (X:List Addr)(H:Hp)(v:V)(c:C20):Prop:=Ex4 λa tl tm us=>v = .ref a∧H a=some (.tup [.int c.num,.ref tl,.int c.came,.ref tm])∧H tm=some (.tup (c.marks.map V.str))∧H tl=some (.lst us)∧tl∉X∧All2 (R20 H) us c.rules
structure Fm (X:List Addr)(H H':Hp):Prop where
 kp:Kp H H'
 fr:∀a o,a∉X->H a=some o->H' a=some o
theorem Fm.same {X:List Addr}{H H':Hp}(s:Same H H'):Fm X H H':=⟨Kp.same s,λ_ _ _ h=>s _ _ h⟩
theorem Fm.trans {X:List Addr}{H H1 H2:Hp}(a:Fm X H H1)(b:Fm X H1 H2):Fm X H H2:=⟨a.kp.trans b.kp,λc o n h=>b.fr c o n (a.fr c o n h)⟩
theorem Fm.but {X:List Addr}{K:yba}{H H':Hp}{p:Addr}{k:Int}(hp:p∈X)(t:Tk K H p k)(b:But p H H'):Fm X H H':=⟨Kp.but t b,λa o n h=>b a o (λz=>n (z▸hp)) h⟩
theorem Fm.put {X:List Addr}{H:Hp}{l:Addr}{us vs:List V}(hl:l∈X)(e:H l=some (.lst us)):Fm X H (upd H l (.lst vs)):=⟨Kp.put e,λa o n h=>(zza (λz:a=l=>n (by rw[z];exact hl))).trans h⟩
theorem CdT.fm {X:List Addr}{H H':Hp}(f:Fm X H H'){v:V}{c:C20}(h:CdT X H v c):CdT X H' v c:=by
 obtain⟨a,tl,tm,us,rfl,h1,h2,h3,n,al⟩:=h;exact⟨a,tl,tm,us,rfl,f.kp.t h1,f.kp.t h2,f.fr _ _ n h3,n,al.imp λz=>z.kp f.kp⟩
theorem CdT.less {X Y:List Addr}(s:∀a∈Y,a∈X){H:Hp}{v:V}{c:C20}(h:CdT X H v c):CdT Y H v c:=by
 obtain⟨a,tl,tm,us,rfl,h1,h2,h3,n,al⟩:=h;exact⟨a,tl,tm,us,rfl,h1,h2,h3,λz=>n (s _ z),al⟩
theorem zll.kp {H H':Hp}(s:Kp H H'){v:V}{r:Row}(h:zll H v r):zll H' v r:=by
 obtain⟨a,m,e,h1,h2⟩:=h;exact⟨a,m,e,s.t h1,s.t h2⟩
structure C20s (cs:List C20):Prop where
 lo:1≤cs.length
 hi:cs.length≤6
 num:(cs.map (·.num)).Nodup
 came:(cs.map (·.came)).Nodup
 n0:∀c∈cs,0≤c.num
 k0:∀c∈cs,0≤c.keeper
 few:∀c∈cs,c.rules.length≤3
def zxgb (K:yba):Sp:=λvs H Q _=>Ex6 λp nl kl (k:Int) (ns ks:List Str)=>vs=[.ref p,.ref nl,.ref kl]∧Tk K H p k∧k≤600000∧N4 H nl ns∧Kd H kl ks∧∀l cl sl us ws (cs:List C20) (k':Int) H',But p H H'->Tk K H' p k'->k'≤k+900->H cl=none->H sl=none->H' l=some (.lst [.ref cl,.ref sl])->H' cl=some (.lst us)->H' sl=some (.lst ws)->All2 (CdT [p] H') us cs->zkd H' ws (cs.map C20.row)->C20s cs->Q (.ref l) H'
theorem zuv (T:Tx K mg):FnOk P w K mg base CX0 16 T.zee.f T.zee.d zol (zxgb K):=by
 refine T.zee.ok zec ?_;rintro f c A o s H vs Q E hr ⟨p,nl,kl,k,ns,ks,rfl,TT,hk,N0,K0,q⟩ X;refine⟨_,  (zba (zoa (i:=3) zec.nd rfl (.inl rfl) (zuc zca))
  (zba (zoa (i:=4) zec.nd rfl (.inl rfl) (zuc zca))
  (zba (zoa (i:=5) zec.nd rfl (.inl rfl) (zja (zpa T).up hr rfl T.zea.m T.zea.F.kp (zta T) .nil zva (zaa (pv 0) (zaa zfa zca))))
  (zba (zoa (i:=6) zec.nd rfl (.inl rfl) (zja (zpa T).up hr rfl T.zea.m T.zea.F.kp (zta T) .nil zva (zaa (pv 0) (zaa zfa zca))))
  (zba (zzh yxb rfl (zah rfl T.zth (zaa (zcc zbh zfa (zja (zpa T).up hr rfl T.zea.m T.zea.F.kp (zta T) .nil zva (zaa (pv 0) (zaa zfa zca)))) zca)) (zua (i:=7) zec.nd rfl (.inl rfl))
   (zba (zoa (i:=8) zec.nd rfl (.inl rfl) (zja (zvv T) hr rfl T.zfe.m T.zfe.F.kp (zcab T) .nil zva (zaa (pv 0) (zaa (pv 1) (zaa (pv 2) zca)))))
   (zba (zoa (i:=9) zec.nd rfl (.inl rfl) (zyd zsh rfl T.zsk ysm (zaa (zkb ztq rfl T.ztj yhn (zaa (zeg (own:=["_law_name"]) (cap:=["_law_pen"]) rfl (zpc.chk rfl rfl) (.cons (j:=0) rfl (.inl rfl) (.inl rfl) .nil) (zzd (pv 1)) (λ_ _ _ _=>(zua (i:=0) (show yfd (["_law_name","_law_pen"]:List Str) by decide +kernel) rfl (.inl rfl))) (λ_ _ _ _=>zbl (zma zqc (zja (zpa T).up hr rfl T.zea.m T.zea.F.kp (zta T) .nil zva (zaa (pv 1) (zaa zfa zca))) zfa (zwa _))) (λ_ _ _ _=>by exact (pv 0))) zca)) zca)))
   (zba (zoa (i:=10) zec.nd rfl (.inl rfl) (zcc zci (zcc zbh (pv 6) (zcc zis zfa (pv 7))) zfa))
   (zba (zod (zai ycb yya yza zzc (pv 3) (zaa (zlb (zaa (pv 5) (zaa (pv 8) (zaa (pv 10) (zaa (pv 9) zca))))) zca)))
   (zba (zoa (i:=11) zec.nd rfl (.inl rfl) (zja (zpa T).up hr rfl T.zea.m T.zea.F.kp (zta T) .nil zva (zaa (pv 0) (zaa zfa zca))))
   (zba (zoa (i:=12) zec.nd rfl (.inl rfl) (zcc zbi (zja (zpa T).up hr rfl T.zea.m T.zea.F.kp (zta T) .nil zva (zaa (pv 0) (zaa zfa zca))) zfa))
   (zba (zod (zai ycb yya yza zzc (pv 4) (zaa (zlb (zaa (pv 5) (zaa (pv 11) (zaa (pv 9) (zaa (pv 12) (zaa (zte zqc (zja (zpa T).up hr rfl T.zea.m T.zea.F.kp (zta T) .nil zva (zaa (pv 0) (zaa zfa zca))) zfa (zwa _)) zca)))))) zca)))
   (zda (zoa (i:=5) zec.nd rfl (.inl rfl) (zcc zbh (zcc zbh (pv 5) zfa) (zja (zpa T).up hr rfl T.zea.m T.zea.F.kp (zta T) .nil zva (zaa (pv 0) (zaa zfa zca))))))))))))))
  (zda (zqa (zuc (zaa (pv 3) (zaa (pv 4) zca)))))))))),?_⟩
 refine⟨sz0,λcl hcl=>?_⟩;refine laid hcl λH1 S1 e1=>?_;refine⟨sz0,λsl hsl=>?_⟩;have ncs:cl≠sl:=zka e1 hsl;refine laid hsl λH2 S2 e2=>?_;have S02:=S1.trans S2;have T2:=TT.same S02;have ncp:cl≠p:=ysb (TT.ne hcl);have nsp:sl≠p:=ysb ((TT.same S1).ne hsl);have hsl0:=none_of S1 hsl;refine⟨_,rfl,p,k,4,rfl,T2,by omega,by decide,λn0 H3 n1 n2 B3 T3=>?_⟩;refine⟨_,rfl,p,k+1,89,rfl,T3,by omega,by decide,λf0 H4 f1 f2 B4 T4=>?_⟩;refine⟨_,rfl,p,k+1+1,6,rfl,T4,by omega,by decide,λm0 H5 m1 m2 B5 T5=>⟨_,_,rfl,rfl,?_⟩⟩;obtain⟨m,hm⟩:∃m:Nat,1+m0=(m:Int):=⟨(1+m0).toNat,by omega⟩;refine⟨m,(by show [V.int (1+m0)]=_;rw[hm]),by omega,by omega,?_⟩;rw[ydc];have B25:=B3.trans (B4.trans B5);have B05:But p H H5:=(But.same S02).trans B25;have F05:∀{X:List Addr},p∈X->Fm X H2 H5:=λh=>Fm.but h T2 B25;have pX:p∈[p,cl,sl]:=by simp
 have cX:cl∈[p,cl,sl]:=by simp
 have sX:sl∈[p,cl,sl]:=by simp
 refine zgl (lo:=0) (n:=m) (λi σ Hx=>Ex11 λus ws (cs:List C20) (k' num:Int) o7 o8 o9 o10 o11 o12=>σ=[some (.ref p),some (.ref nl),some (.ref kl),some (.ref cl),some (.ref sl),some (.int num),some (.int f0),o7,o8,o9,o10,o11,o12]∧Hx cl=some (.lst us)∧Hx sl=some (.lst ws)∧All2 (CdT [p,cl,sl] Hx) us cs∧zkd Hx ws (cs.map C20.row)∧cs.length=i∧i≤m∧But p H Hx∧Tk K Hx p k'∧k'≤k+3+144*(i:Int)∧N4 Hx nl ns∧Kd Hx kl ks∧0≤num∧(∀c∈cs,0≤c.num∧c.num<num∧0≤c.keeper∧c.rules.length≤3)∧(cs.map (·.num)).Nodup∧(cs.map (·.came)).Nodup∧∀c∈cs,∃j:Nat,j<i∧c.came=(f0+31*(0+(j:Int))) % 89) ⟨[],[],[],_,n0,_,_,_,_,_,_,rfl,B25 _ _ ncp (S2 _ _ e1),B25 _ _ nsp e2,.nil,.nil,rfl,ylb _,B05,T5,by omega,(N0.same S02).but T2 B25,(K0.same S02).but T2 B25,n1,by simp,.nil,.nil,by simp⟩ ?_ ?_
 ·rintro i σ Hx hi ⟨us,ws,cs,k',num,o7,o8,o9,o10,o11,o12,rfl,ec,es,CD,RW,cl',_,B,TK,hk',NX,KX,num0,inv,nd1,nd2,wh⟩;have ul:=CD.len;have wl:=RW.length;rw[yda] at wl;have i6:i<6:=by omega
  refine⟨_,rfl,_,rfl,_,rfl,p,nl,kl,k',ns,ks,rfl,TK,by omega,NX,KX,λtl vs rs k1 Ha Ba Ta hk1 ntl etl R2 r3=>?_⟩;have ntp:tl≠p:=ysb (TK.ne ntl);have ntc:tl≠cl:=ysb (zka ec ntl);have nts:tl≠sl:=ysb (zka es ntl);have ntX:tl∉[p,cl,sl]:=by simp[ntp,ntc,nts]
  have Na:=NX.but TK Ba;have Ka:=KX.but TK Ba;refine⟨_,rfl,nl,rfl,⟨_,SqL.of Na.at_⟩,?_⟩;refine zne (xs:=ns.map V.str) (λj ys Hy=>Ex2 λ(ms:List Str) (k2:Int)=>ys=ms.map V.str∧ms.length≤j∧But p Ha Hy∧Tk K Hy p k2∧k2≤k1+(j:Int)∧j≤4) (λj ys Hy ⟨_,_,_,_,b,_⟩=>SqL.of (Na.but Ta b).at_) ⟨[],_,rfl,yma _,But.refl _ _,Ta,by omega,by omega⟩ ?_ ?_ ?_
  ·rintro j ys Hy ⟨ms,k2,rfl,hl,_,_,_,hj⟩;rw[yda];exact small (by omega)
  ·rintro j v ys Hy hv ⟨ms,k2,rfl,hl,b,Ty,hk2,hj⟩;have hj4:j<4:=by
    have:=(yfa.mp hv).1;rw[yda,Na.len] at this;exact this
   obtain⟨n,rfl⟩:∃n,v=V.str n:=by
    rw[yub] at hv;cases z:ns[j]? with
    | none=>rw[z] at hv;cases hv
    | some n=>rw[z] at hv;cases hv;exact⟨n,rfl⟩
   refine⟨rfl,_,rfl,p,k2,3,rfl,Ty,by omega,by decide,λr Hz r0 r1 bz Tz=>⟨rfl,_,rfl,ite2 (λ_=>?_) (λ_=>?_)⟩⟩
   ·exact⟨_,rfl,ms++[n],_,by rw[yfb];rfl,by rw[yea];show ms.length+1≤j+1;omega,b.trans bz,Tz,by omega,hj4⟩
   ·exact⟨ms,_,rfl,by omega,b.trans bz,Tz,by omega,hj4⟩
  rintro ys Hb ⟨ms,k2,rfl,hl,Bb,Tb,hk2,_⟩ bl hbl;rw[yda,Na.len] at hl hk2;refine laid hbl λHc Sc ec'=>?_;refine⟨bl,ms,rfl,SqL.of ec',by omega,λso zs hso pz sz=>?_⟩;refine laid hso λHd Sd ed=>?_;refine⟨so,_,rfl,.inl ⟨SqL.of ed,λtm htm=>?_⟩⟩;refine laid htm λHe Se ee=>?_;have Sce:=Sc.trans (Sd.trans Se);have Te:=Tb.same Sce;have Bxe:But p Hx He:=Ba.trans (Bb.trans (But.same Sce));have Fxe:Fm [p,cl,sl] Hx He:=Fm.but pX TK Bxe;have Fae:Fm [p,cl,sl] Ha He:=Fm.but pX Ta (Bb.trans (But.same Sce));have ecE:=Bxe _ _ ncp ec;have esE:=Bxe _ _ nsp es;have etlE:=Fae.fr _ _ ntX etl;refine⟨_,rfl,_,rfl,_,_,rfl,rfl,.inl ⟨by decide,by decide⟩,_,_,rfl,rfl,_,_,rfl,rfl,(by show (0:Int)<89;decide),?_⟩;refine⟨_,rfl,.inl ⟨rfl,_,SqL.of ecE⟩,_,rfl,_,rfl,_,rfl,_,rfl,sz4,λca hca=>?_⟩;refine laid hca λHf Sf ef=>?_;have ecF:=Sf _ _ ecE;refine⟨cl,_,_,rfl,rfl,ecF,zjc (by omega),?_⟩;have Fg:Fm [p,cl,sl] Hf (upd Hf cl (.lst (us++[V.ref ca]))):=Fm.put cX ecF;have eg:upd Hf cl (.lst (us++[V.ref ca])) cl=some (.lst (us++[V.ref ca])):=zga;have esG:upd Hf cl (.lst (us++[V.ref ca])) sl=some (.lst ws):=(zza (ysb ncs)).trans (Sf _ _ esE);have TG:Tk K (upd Hf cl (.lst (us++[V.ref ca]))) p k2:=(Te.same Sf).other ecF (ysb ncp);have NG:N4 (upd Hf cl (.lst (us++[V.ref ca]))) nl ns:=⟨by
   rw[zza λz=>by rw[z] at N0;exact absurd N0.at_ (by rw[hcl];exact λy=>by cases y)];exact Sf _ _ ((NX.but TK Bxe).at_),NX.len,NX.ok,NX.nd⟩
  have KG:Kd (upd Hf cl (.lst (us++[V.ref ca]))) kl ks:=⟨by
   rw[zza λz=>by rw[z] at K0;exact absurd K0.at_ (by rw[hcl];exact λy=>by cases y)];exact Sf _ _ ((KX.but TK Bxe).at_),KX.lo,KX.hi,KX.ok⟩
  have BG:But p H (upd Hf cl (.lst (us++[V.ref ca]))):=λb o nb hb=>by
   rw[zza (zka hb hcl)];exact Sf _ _ (Bxe _ _ nb (B b o nb hb))
  have FxG:Fm [p,cl,sl] Hx (upd Hf cl (.lst (us++[V.ref ca]))):=Fxe.trans ((Fm.same Sf).trans Fg);have FaG:Fm [p,cl,sl] Ha (upd Hf cl (.lst (us++[V.ref ca]))):=Fae.trans ((Fm.same Sf).trans Fg);have eeG:=((Kp.same Sf).trans Fg.kp).t ee;have efG:=Fg.kp.t ef;clear Fg ecE esE ecF etlE Te;generalize upd Hf cl (.lst (us++[V.ref ca]))=Hg at *;refine⟨_,rfl,p,k2,4,rfl,TG,by omega,by decide,λkp Hh kp0 kp1 Bh Th=>?_⟩;refine⟨_,rfl,p,k2+1,9,rfl,Th,by omega,by decide,λfo Hi fo0 fo1 Bi Ti=>⟨_,_,rfl,rfl,?_⟩⟩;have BGi:=Bh.trans Bi;have esI:=BGi _ _ nsp esG;have FGi:Fm [p,cl,sl] Hg Hi:=Fm.but pX TG BGi;refine⟨_,rfl,.inl ⟨rfl,_,SqL.of esI⟩,_,rfl,_,rfl,_,rfl,_,rfl,_,rfl,p,k2+1+1,4,rfl,Ti,by omega,by decide,λmu Hj mu0 mu1 Bj Tj=>⟨rfl,sz5,λra hra=>?_⟩⟩;refine laid hra λHk Sk ek=>?_;have FGk:Fm [p,cl,sl] Hg Hk:=FGi.trans ((Fm.but pX Ti Bj).trans (Fm.same Sk));have BGk:But p Hg Hk:=BGi.trans (Bj.trans (But.same Sk));have esK:=BGk _ _ nsp esG;have Tk':=Tj.same Sk;refine⟨sl,_,_,rfl,rfl,esK,zjc (by omega),?_⟩;have Fl:Fm [p,cl,sl] Hk (upd Hk sl (.lst (ws++[V.ref ra]))):=Fm.put sX esK;have el:upd Hk sl (.lst (ws++[V.ref ra])) sl=some (.lst (ws++[V.ref ra])):=zga;have ecL:upd Hk sl (.lst (ws++[V.ref ra])) cl=some (.lst (us++[V.ref ca])):=(zza ncs).trans (BGk _ _ ncp eg);have TL:Tk K (upd Hk sl (.lst (ws++[V.ref ra]))) p (k2+1+1+1):=Tk'.other esK (ysb nsp);have NL:N4 (upd Hk sl (.lst (ws++[V.ref ra]))) nl ns:=⟨by
   rw[zza λz=>by rw[z] at N0;exact absurd N0.at_ (by rw[hsl0];exact λy=>by cases y)];exact (NG.but TG BGk).at_,NX.len,NX.ok,NX.nd⟩
  have KL:Kd (upd Hk sl (.lst (ws++[V.ref ra]))) kl ks:=⟨by
   rw[zza λz=>by rw[z] at K0;exact absurd K0.at_ (by rw[hsl0];exact λy=>by cases y)];exact (KG.but TG BGk).at_,KX.lo,KX.hi,KX.ok⟩
  have BL:But p H (upd Hk sl (.lst (ws++[V.ref ra]))):=λb o nb hb=>by
   rw[zza (zka hb hsl0)];exact BGk _ _ nb (BG b o nb hb)
  have FGl:=FGk.trans Fl;have FxL:=FxG.trans FGl;have FaL:=FaG.trans FGl;have eeL:=FGl.kp.t eeG;have efL:=FGl.kp.t efG;have ekL:=Fl.kp.t ek;clear FGl FGk Fl;generalize upd Hk sl (.lst (ws++[V.ref ra]))=Hl at *;refine⟨_,rfl,_,_,rfl,rfl,_,rfl,p,k2+1+1+1,3,rfl,TL,by omega,by decide,λst Hm st0 st1 Bm Tm=>⟨_,_,rfl,rfl,?_⟩⟩;have FLm:Fm [p,cl,sl] Hl Hm:=Fm.but pX TL Bm;refine⟨us++[V.ref ca],ws++[V.ref ra],cs++[⟨num,rs,(f0+31*(0+(i:Int))) % 89,zs,kp,fo-2,decide (V.int mu=V.int 0)⟩],_,_,_,_,_,_,_,_,rfl,Bm _ _ ncp ecL,Bm _ _ nsp el,?_,?_,by rw[yea,cl'];rfl,hi,BL.trans Bm,Tm,by omega,NL.but TL Bm,KL.but TL Bm,by omega,?_,?_,?_,?_⟩
  ·refine All2.snoc ⟨ca,tl,tm,vs,rfl,FLm.kp.t efL,FLm.kp.t eeL,FLm.fr _ _ ntX (FaL.fr _ _ ntX etl),ntX,R2.imp λz=>z.kp (FaL.kp.trans FLm.kp)⟩ (CD.imp λz=>z.fm (FxL.trans FLm))
  ·rw[yfb];exact zkd.snoc (RW.map λ_ _ z=>z.kp (FxL.kp.trans FLm.kp)) ⟨ra,tm,rfl,FLm.kp.t ekL,FLm.kp.t eeL⟩
  ·intro c hc
   rcases yeb.mp hc with h|h
   ·obtain⟨h1,h2,h3,h4⟩:=inv c h;exact⟨h1,by omega,h3,h4⟩
   ·rw[yia.mp h];exact⟨num0,(by show num<num+1+st;omega),kp0,r3⟩
  ·rw[yfb,yci];refine⟨nd1,yje _ _,λa ha b hb z=>?_⟩;obtain⟨c,hc,rfl⟩:=ydb.mp ha;have hb':b=num:=yia.mp hb;have:=(inv c hc).2.1;omega
  ·rw[yfb,yci];refine⟨nd2,yje _ _,λa ha b hb z=>?_⟩;obtain⟨c,hc,rfl⟩:=ydb.mp ha;have hb':b=(f0+31*(0+(i:Int))) % 89:=yia.mp hb;obtain⟨j,hj,e⟩:=wh c hc;omega
  ·intro c hc
   rcases yeb.mp hc with h|h
   ·obtain⟨j,hj,e⟩:=wh c h;exact⟨j,by omega,e⟩
   ·rw[yia.mp h];exact⟨i,by omega,rfl⟩
 ·rintro σ Hx ⟨us,ws,cs,k',num,o7,o8,o9,o10,o11,o12,rfl,ec,es,CD,RW,cl',_,B,TK,hk',NX,KX,num0,inv,nd1,nd2,wh⟩;refine⟨_,rfl,_,rfl,sz2,λl hl=>?_⟩;refine laid hl λHa Sa ea=>?_;exact q l cl sl us ws cs k' Ha (B.trans (But.same Sa)) (TK.same Sa) (by omega) hcl hsl0 ea (Sa _ _ ec) (Sa _ _ es) (CD.imp λz=>(z.fm (Fm.same Sa)).less (by simp)) (RW.map λ_ _ z=>z.kp (Kp.same Sa)) ⟨by omega,by omega,nd1,nd2,λc hc=>(inv c hc).1,λc hc=>(inv c hc).2.2.1,λc hc=>(inv c hc).2.2.2⟩
theorem All2.app {α β:Type}{R:α->β->Prop}{as:List α}{bs:List β}{cs:List α}{ds:List β}(z:All2 R as bs)(y:All2 R cs ds):All2 R (as++cs) (bs++ds):=by
 induction z with
 | nil=>exact y
 | cons h _ ih=>exact .cons h ih
theorem All2.cut {α β:Type}{R:α->β->Prop}{as:List α}{bs:List β}(z:All2 R as bs):∀n:Nat,All2 R (as.take n) (bs.take n)∧All2 R (as.drop n) (bs.drop n):=by
 induction z with
 | nil=>intro n;rw[List.take_nil,List.take_nil,List.drop_nil,List.drop_nil];exact⟨.nil,.nil⟩
 | cons h t ih =>
  intro n;cases n with
  | zero=>exact⟨.nil,.cons h t⟩
  | succ n=>exact⟨.cons h (ih n).1,(ih n).2⟩
mutual
theorem IsW.kp {D:Addr}{H H':Hp}(s:Kp H H'):∀{v:V} {w:Wh},IsW D H v w->IsW D H' v w
 | _,_,.mk h1 h2 h3=>.mk (s _ _ (λ_ z=>by cases z) h1) (s.t h2) (h3.kp s)
theorem IsWs.kp {D:Addr}{H H':Hp}(s:Kp H H'):∀{vs:List V} {ws:List Wh},IsWs D H vs ws->IsWs D H' vs ws
 | _,_,.nil=>.nil
 | _,_,.cons h t=>.cons (h.kp s) (t.kp s)
end
theorem zqo.kp {D:Addr}{H H':Hp}(s:Kp H H'){v:V}{d:Deed}(h:zqo D H v d):zqo D H' v d:=by
 obtain⟨a,x,e,h1,h2⟩:=h;exact⟨a,x,e,s.t h1,h2.kp s⟩
theorem zsj.kp {D:Addr}{H H':Hp}(s:Kp H H'){v:V}:∀{r:Rule},zsj D H v r->zsj D H' v r
 | .hold w y z,⟨a,x,u,e,h,p,q⟩=>⟨a,x,u,e,s.t h,(match y,p with
  | .v _,p=>p
  | .w _,p=>IsW.kp s p),q.kp s⟩
 | .wen k y d,⟨a,x,u,e,h,p,q⟩=>⟨a,x,u,e,s.t h,p.kp s,q.kp s⟩
 | .instead k y w z,⟨a,x,e,h,p⟩=>⟨a,x,e,s.t h,p.kp s⟩
 | .may c d,⟨a,u,e,h,p⟩=>⟨a,u,e,s.t h,p.kp s⟩
theorem IsRules.kp {D:Addr}{H H':Hp}(s:Kp H H'){vs:List V}{rs:List Rule}(z:IsRules D H vs rs):IsRules D H' vs rs:=by
 induction z with
 | nil=>exact .nil
 | cons h _ ih=>exact .cons (h.kp s) ih
theorem zoab.kp {B D:Addr}{H H':Hp}(s:Kp H H'){v:V}{c:Crd}(h:zoab B D H v c):zoab B D H' v c:=by
 obtain⟨a,dx,m,t,vs,e,h1,h2,h3,h4⟩:=h;exact⟨a,dx,m,t,vs,e,s _ _ (λ_ z=>by cases z) h1,s.t h2,s.t h3,h4.kp s⟩
def LyT (B D:Addr)(nm:Str)(H:Hp)(u:V)(c:C20):Prop:=Ex3 λa tm cv=>u = .ref a∧H a=some (.tup [.int c.num,cv,.int (c.num % 4),.int c.came,.ref tm])∧H tm=some (.tup (c.marks.map V.str))∧zoab B D H cv (zep nm c.rules)
theorem LyT.kp {B D:Addr}{nm:Str}{H H':Hp}(s:Kp H H'){v:V}{r:C20}(h:LyT B D nm H v r):LyT B D nm H' v r:=by
 obtain⟨a,tm,c,rfl,h1,h2,h3⟩:=h;exact⟨a,tm,c,rfl,s.t h1,s.t h2,h3.kp s⟩
def zbhb (B D:Addr):Sp:=λvs H Q _=>Ex6 λcl (nm:Str) (t:Int) (X:List Addr) us (cs:List C20)=>vs=[.ref cl,.str nm,.int t]∧zoe nm∧H cl=some (.lst us)∧All2 (CdT X H) us cs∧C20s cs∧0≤t∧∀l ws (ds:List C20) H',Same H H'->H l=none->H' l=some (.lst ws)->All2 (LyT B D nm H') ws ds->ds.Perm cs->Q (.ref l) H'
theorem zxv (T:Tx K mg)(kb:K.In base):FnOk P w K mg base CX0 13 T.zie.f T.zie.d zrl (zbhb T.zpf T.ztb):=by
 refine T.zie.ok zpe ?_;rintro f c A o s H vs Q E hr ⟨cl,nm,t,Y,us,cs,rfl,hn,ec,CD,CS,t0,q⟩ X;refine⟨_,  (zba (zoa (i:=3) zpe.nd rfl (.inl rfl) (zuc zca))
  (zba (zzh yxb rfl (zzd (pv 0)) (znj (n:=4) rfl (zab (zua (i:=4) zpe.nd rfl (.inl rfl)) (zab (zua (i:=5) zpe.nd rfl (.inl rfl)) (zab (zua (i:=6) zpe.nd rfl (.inl rfl)) (zab (zua (i:=7) zpe.nd rfl (.inl rfl)) zbg)))))
   (zda (zod (zai ycb yya yza zzc (pv 3) (zaa (zlb (zaa (pv 4) (zaa (zja (zoy T kb).up hr rfl T.zaf.m T.zaf.F.kp (zacb T) .nil zva (zaa (zja (zsy T) hr rfl T.zef.m T.zef.F.kp (zecb T) .nil zva (zaa (pv 1) (zaa (pv 5) zca))) zca)) (zaa (zcc zci (pv 4) zfa) (zaa (pv 6) (zaa (pv 7) zca)))))) zca)))))
  (zda (zqa (zcc zou (zsg zkm (pv 3) (zej (zcc zci (pv 2) (zkb zdb rfl T.zsf ymb (zaa (pv 3) zca)))) zfj) (zsg zkm (pv 3) zfj (zej (zcc zci (pv 2) (zkb zdb rfl T.zsf ymb (zaa (pv 3) zca)))))))))),?_⟩
 have ul:=CD.len;have c1:=CS.lo;have c6:=CS.hi;refine⟨sz0,λrl hrl=>?_⟩;refine laid hrl λH1 S1 e1=>?_;refine⟨_,rfl,cl,rfl,⟨_,SqL.of (S1 _ _ ec)⟩,?_⟩;refine zdk (xs:=us) (λi σ H'=>Ex5 λws o4 o5 o6 o7=>σ=[some (.ref cl),some (.str nm),some (.int t),some (.ref rl),o4,o5,o6,o7]∧H' rl=some (.lst ws)∧All2 (LyT T.zpf T.ztb nm H') ws (cs.take i)∧Same H H') ⟨[],_,_,_,_,rfl,e1,.nil,S1⟩ (λi σ H' _ ⟨_,_,_,_,_,_,_,_,S⟩=>SqL.of (S _ _ ec)) ?_ ?_
 ·rintro i u σ H' hu ⟨ws,o4,o5,o6,o7,rfl,er,LY,S⟩;obtain⟨c,eci,cd⟩:=CD.get hu;have hi:i<us.length:=(yfa.mp hu).1;obtain⟨a,tl,tm,vs,rfl,ea,em,et,_,R2⟩:=cd.fm (Fm.same S);refine⟨a,_,rfl,SqT.of ea,rfl,_,_,rfl,_,_,rfl,_,_,rfl,_,_,rfl,rfl,?_⟩;have few:=CS.few c (ykb eci);have cok:(zep nm c.rules).ok:=zleb hn (λr hr=>by
   obtain⟨v,_,z⟩:=R2.mem2 hr;exact z.ok) few
  refine⟨_,rfl,.inl ⟨rfl,_,SqL.of er⟩,_,rfl,_,rfl,_,rfl,nm,tl,vs,c.rules,rfl,hn,et,R2,few,λH2 S2=>⟨zep nm c.rules,rfl,cok,λcv H3 S3 ic=>?_⟩⟩;have S23:=S2.trans S3;refine⟨_,rfl,_,_,rfl,rfl,(by show (0:Int)<4;decide),_,rfl,_,rfl,sz5,λla hla=>?_⟩;refine laid hla λH4 S4 e4=>?_;have S24:=S23.trans S4;have er4:=S24 _ _ er;have wl:=LY.len;rw[yib] at wl;refine⟨rl,_,_,rfl,rfl,er4,zjc (by omega),?_⟩;have kp:Kp H4 (upd H4 rl (.lst (ws++[V.ref la]))):=Kp.put er4;refine⟨_,_,_,_,_,rfl,zga,?_,zae (S.trans S24) hrl _⟩;rw[yjb,eci];exact All2.snoc ⟨la,tm,cv,rfl,kp.t e4,kp.t (S24 _ _ em),ic.kp ((Kp.same S4).trans kp)⟩ (LY.imp λz=>z.kp ((Kp.same S24).trans kp))
 ·rintro σ H' ⟨ws,o4,o5,o6,o7,rfl,er,LY,S⟩;rw[yua (by omega)] at LY;have wl:=LY.len;have md:=zdo t (m:=(ws.length:Int)) (by omega);obtain⟨n,hn'⟩:∃n:Nat,t % (ws.length:Int)=(n:Int):=⟨(t % (ws.length:Int)).toNat,by omega⟩;refine⟨_,rfl,_,rfl,_,rfl,rl,_,rfl,.inl (SqL.of er),_,_,rfl,rfl,(by show (0:Int)<(ws.length:Int);omega),?_⟩;refine⟨_,rfl,rl,_,rfl,SqL.of er,λs1 hs1=>?_⟩;dsimp only;rw[hn',zqj];refine laid hs1 λH2 S2 e2=>?_;have er2:=S2 _ _ er;refine⟨_,rfl,_,rfl,_,rfl,rl,_,rfl,.inl (SqL.of er2),_,_,rfl,rfl,(by show (0:Int)<(ws.length:Int);omega),_,rfl,rl,_,rfl,SqL.of er2,λs2 hs2=>?_⟩;dsimp only;rw[hn',zoz];refine laid hs2 λH3 S3 e3=>?_;refine⟨s1,s2,_,_,rfl,rfl,S3 _ _ e2,e3,?_,λl hl=>?_⟩
  ·rw[yud,yib];exact small (by omega)
  refine laid hl λH4 S4 e4=>?_;have S24:=S2.trans (S3.trans S4);obtain⟨z1,z2⟩:=LY.cut n;refine q l _ (cs.drop n++cs.take n) H4 (S.trans S24) (none_of (S.trans (S2.trans S3)) hl) e4 ((z2.app z1).imp λz=>z.kp (Kp.same S24)) ?_;refine List.perm_append_comm.trans ?_;rw[yji]
def ItT (H:Hp)(u:V)(c:List Int):Prop:=∃a,u = .ref a∧H a=some (.tup (c.map V.int))
theorem ItT.kp {H H':Hp}(s:Kp H H'){u:V}{c:List Int}(h:ItT H u c):ItT H' u c:=by
 obtain⟨a,e,h⟩:=h;exact⟨a,e,s.t h⟩
def intOf:V->Int
 | .int i=>i
 | _=>0
def chG (H:Hp):V->List Int
 | .ref a=>match H a with
  | some (.tup xs)=>xs.map intOf
  | _=>[]
 | _=>[]
theorem ItT.key {H:Hp}{u:V}{c:List Int}(h:ItT H u c):chG H u=c:=by
 obtain⟨a,rfl,e⟩:=h;show (match H a with
  | some (.tup xs)=>xs.map intOf
  | _=>[])=c
 rw[e];show (c.map V.int).map intOf=c
 rw[ywf,show (intOf∘V.int)=id from rfl,List.map_id]
theorem zew {H:Hp}{us:List V}{cs:List (List Int)}(z:All2 (ItT H) us cs):us.map (chG H)=cs:=by
 induction z with
 | nil=>rfl
 | cons h _ ih=>rw[yva,h.key,ih]
theorem zmu {cs ds es:List (List Int)}(h1:cs.Pairwise (· < ·))(h2:ds.Pairwise (· < ·))(p1:cs.Perm es)(p2:ds.Perm es):cs=ds :=
 ymk (le:=λa b:List Int=>a<b) (λa b _ _ x y=>absurd (yqi x y) (List.lt_irrefl _)) h1 h2 (p1.trans p2.symm)
theorem zrbb {K:yba}{H:Hp}(c:List Int):DVs K H (c.map V.int) (c.map PyData.int):=by
 induction c with
 | nil=>exact .nil
 | cons i r ih=>exact .cons (.int i) ih
def chD (c:List Int):PyData:=.tuple (c.map .int)
theorem zqbb {K:yba}{H:Hp}{u:V}{c:List Int}(h:ItT H u c):DV K H u (chD c):=by
 obtain⟨a,rfl,e⟩:=h;exact .tup (SqT.of e) (zrbb _)
theorem zdz {K:yba}{H:Hp}{us:List V}{cs:List (List Int)}(z:All2 (ItT H) us cs):DVs K H us (cs.map chD):=by
 induction z with
 | nil=>exact .nil
 | cons h _ ih=>exact .cons (zqbb h) ih
theorem lay_ints (c:List Int):yvc (c.map .int)=true∧ykc (c.map .int)=0:=by
 induction c with
 | nil=>exact⟨rfl,rfl⟩
 | cons i r ih=>exact⟨by simp[yvc,yrb,ih.1],by simp[ykc,yid,ih.2]⟩
theorem zppb (cs:List (List Int)):yvc (cs.map chD)=true∧ykc (cs.map chD)≤1:=by
 induction cs with
 | nil=>exact⟨rfl,ylb _⟩
 | cons c r ih =>
  obtain⟨h1,h2⟩:=ih;obtain⟨g1,g2⟩:=lay_ints c;refine⟨by simp[yvc,yrb,chD,h1,g1],?_⟩;simp only[yva,ykc,yid,chD,g2];have h2':ykc (ygi chD r)≤1:=h2;unfold chD at h2';omega
theorem zmg (cs:List (List Int)):yzb (.list (cs.map chD))=true:=by
 obtain⟨h1,h2⟩:=zppb cs;unfold yzb;rw[yrb,h1,yid];simp;omega
theorem zrj (c:List Int):yzb (chD c)=true:=by
 obtain⟨h1,h2⟩:=lay_ints c;unfold yzb chD;rw[yrb,h1,yid,h2];rfl
theorem zmo (d:List Int):(chD d).depth≤8:=by
 obtain⟨_,h2⟩:=lay_ints d;unfold chD;rw[yid,h2];decide
theorem zceb:∀(c d:List Int),yke (c.map .int) (d.map .int)=decide (c=d)
 | [],[]=>by simp[yke]
 | [],_::_=>by simp[yke]
 | _::_,[]=>by simp[yke]
 | x::c,y::d=>by
  simp only[yva,yke,zceb c d]
  by_cases e:x=y
  ·by_cases e2:c=d<;>simp[ydf,e,e2]
  ·simp[ydf,e]
theorem zlnb (c d:List Int):ydf (chD c) (chD d)=decide (c=d):=by
 unfold chD;rw[ydf];exact zceb c d
theorem zoeb (ks:List (List Int))(d:List Int):((ks.map chD).any λe=>ydf e (chD d))=decide (d∈ks):=by
 induction ks with
 | nil=>rfl
 | cons k r ih =>
  rw[yva,yph,zlnb,ih]
  by_cases e:k=d
  ·simp[e]
  ·have e':¬ d=k:=λz=>e z.symm;simp[e,e']
def AmV (kd:Str)(v:V):Prop:=(∃n,v = .str n∧zoe n∧kd∈(["gain","lack"]:List Str))∨∃z:Int,v = .int z∧0≤z∧kd∉(["gain","lack"]:List Str)
def ThV (cs:List C20)(kd:Str)(th:Int):Prop:=(kd∈ztc ∧ -4≤th∧th<0)∨(kd∉ztc∧∃c∈cs,th=c.num)
theorem zpub:∀kd∈zqb,inV (.str kd) [.str "lose",.str "score",.str "draw"]=decide (kd∈ztc):=by decide +kernel
theorem zrub:∀kd∈zqb,inV (.str kd) [.str "gain",.str "lack"]=decide (kd∈(["gain","lack"]:List Str)):=by decide +kernel
theorem zqpb:∀kd∈ztc,kd∉(["gain","lack"]:List Str):=by decide +kernel
theorem zqub:("leave":Str)∉(["gain","lack"]:List Str):=by decide +kernel
def zgob (K:yba):Sp:=λvs H Q _=>Ex10 λp kl cl nl (k:Int) (ns ks:List Str) (X:List Addr) us (cs:List C20)=>vs=[.ref p,.ref kl,.ref cl,.ref nl]∧Tk K H p k∧k≤600000∧N4 H nl ns∧Kd H kl ks∧H cl=some (.lst us)∧cl≠p∧All2 (CdT X H) us cs∧C20s cs∧∀a (kd:Str) (th:Int) av (k':Int) H',But p H H'->Tk K H' p k'->k'≤k+5->H' a=some (.tup [.str kd,.int th,av])->kd∈ks->ThV cs kd th->AmV kd av->Q (.ref a) H'
theorem zvo (T:Tx K mg):FnOk P w K mg base CX0 4 T.zwc.f T.zwc.d znh (zgob K):=by
 refine T.zwc.ok zed ?_;rintro f c A o s H vs Q E hr ⟨p,kl,cl,nl,k,ns,ks,Y,us,cs,rfl,TT,hk,N0,K0,ec,ncp,CD,CS,q⟩ X;refine⟨_,  (zba (zoa (i:=4) zed.nd rfl (.inl rfl) (zjb zkc (pv 1) (zja (zpa T) hr rfl T.zea.m T.zea.F.kp (zta T) .nil zva (zaa (pv 0) (zaa (zkb zdb rfl T.zsf ymb (zaa (pv 1) zca)) zca))) (λ_ _=>rfl)))
  (zba (zoa (i:=5) zed.nd rfl (.inl rfl) (zja (zpa T) hr rfl T.zea.m T.zea.F.kp (zta T) .nil zva (zaa (pv 0) (zaa zfa zca))))
  (zba (zwb (zma zqc (zja (zpa T) hr rfl T.zea.m T.zea.F.kp (zta T) .nil zva (zaa (pv 0) (zaa zfa zca))) zfa (zwa _))
   (zda (zoa (i:=5) zed.nd rfl (.inl rfl) (zcc zbh (zcc zesb zfa zfa) (pv 5))))
   zsa)
  (zba (zwb (zma zme (pv 4) (zlb (zaa zna (zaa zna (zaa zna zca)))) rfl)
   (zda (zqa (zlb (zaa (pv 4) (zaa (zcc zbi (zdlb zidb zfa) (zja (zpa T) hr rfl T.zea.m T.zea.F.kp (zta T) .nil zva (zaa (pv 0) (zaa zfa zca)))) (zaa (pv 5) zca))))))
   zsa)
  (zba (zwb (zma zme (pv 4) (zlb (zaa zna (zaa zna zca))) rfl)
   (zda (zoa (i:=5) zed.nd rfl (.inl rfl) (zjb zkc (pv 3) (zja (zpa T) hr rfl T.zea.m T.zea.F.kp (zta T) .nil zva (zaa (pv 0) (zaa zfa zca))) (λ_ _=>rfl))))
   zsa)
  (zba (zwb (zma zqc (pv 4) zna (zwa _))
   (zda (zoa (i:=5) zed.nd rfl (.inl rfl) zfa))
   zsa)
  (zda (zqa (zlb (zaa (pv 4) (zaa (zjb zyb (zjb zkc (pv 2) (zja (zpa T) hr rfl T.zea.m T.zea.F.kp (zta T) .nil zva (zaa (pv 0) (zaa (zkb zdb rfl T.zsf ymb (zaa (pv 2) zca)) zca))) (λ_ _=>rfl)) zfa (λ_ _=>rfl)) (zaa (pv 5) zca)))))))))))),?_⟩
 have kle:((ks.map V.str).length:Int)=(ks.length:Int):=by rw[yda]
 have c1:=CS.lo;have ul:=CD.len;refine⟨_,rfl,_,rfl,_,rfl,kl,_,rfl,.inl (SqL.of K0.at_),p,k,(ks.length:Int),(by rw[← kle];rfl),TT,by omega,(by have:=K0.lo;omega),λr H1 r0 r1 B1 T1=>?_⟩;have K1:=K0.but TT B1;obtain⟨kd,hkd,hm⟩:=zct (ss:=ks) r0 r1;have hd:=K1.ok kd hm;refine⟨kl,_,_,_,rfl,rfl,SqL.of K1.at_,hkd,?_⟩;refine⟨_,rfl,p,k+1,2000,rfl,T1,by omega,by decide,λa0 H2 a1 a2 B2 T2=>?_⟩;refine⟨_,rfl,p,k+1+1,6,rfl,T2,by omega,by decide,λs0 H3 s1 s2 B3 T3=>⟨rfl,_,rfl,?_⟩⟩;have B03:=B1.trans (B2.trans B3);refine' zjm (pre:=λv Hs=>Hs=H3∧∃z:Int,v=V.int z∧0≤z) (λkk=>?g1) ?k1
 case g1 =>
  refine ite2 (λc=>?_) (λc=>?_)
  ·refine⟨_,_,rfl,rfl,⟨by decide,by decide,by decide⟩,_,rfl,_,_,rfl,rfl,?_⟩;have p59:(0:Int)≤10 ^ (59:Int).toNat:=(by decide);dsimp only;generalize (10:Int) ^ (59:Int).toNat=t59 at p59 ⊢;obtain⟨v4,hv4⟩:∃v,v=V.int (t59+a0):=⟨_,rfl⟩;obtain⟨Hz,hz⟩:∃h,h=H3:=⟨_,rfl⟩;rw[← hv4,← hz];exact kk v4 Hz ⟨hz,_,hv4,by omega⟩
  ·exact kk (.int a0) H3 ⟨rfl,a0,rfl,a1⟩
 case k1 =>
 rintro _ _ ⟨rfl,z,rfl,z0⟩;refine⟨_,rfl,sz3,λq1 hq1=>?_⟩;refine laid hq1 λH4 S4 e4=>?_;refine⟨q1,_,rfl,.inr (SqT.of e4),rfl,rfl,_,rfl,?_⟩;rw[zpub kd hd];have T4:=T3.same S4;have B04:=B03.trans (But.same S4);refine ite2 (λc=>?_) (λc=>?_)
 ·have c':=of_decide_eq_true c;refine⟨_,rfl,_,rfl,_,rfl,p,k+1+1+1,4,rfl,T4,by omega,by decide,λt0 H5 t1 t2 B5 T5=>⟨_,_,rfl,rfl,_,rfl,sz3,λa ha=>?_⟩⟩;refine laid ha λH6 S6 e6=>?_;exact q a kd (-1-t0) (.int z) _ H6 (B04.trans (B5.trans (But.same S6))) (T5.same S6) (by omega) e6 hm (.inl ⟨c',by omega,by omega⟩) (.inr ⟨z,rfl,z0,zqpb kd c'⟩)
 have np:kd∉ztc:=λz=>c (decide_eq_true z);refine⟨_,rfl,sz2,λq2 hq2=>?_⟩;refine laid hq2 λH5 S5 e5=>?_;refine⟨q2,_,rfl,.inr (SqT.of e5),rfl,rfl,_,rfl,?_⟩;rw[zrub kd hd];have T5:=T4.same S5;have B05:=B04.trans (But.same S5);refine' zjm (pre:=λv Hs=>AmV kd v∧But p H Hs∧∃k',Tk K Hs p k'∧k'≤k+4) (λkk=>?g2) ?k2
 case g2 =>
  refine ite2 (λc=>?_) (λc=>?_)
  ·have c':=of_decide_eq_true c;refine⟨_,rfl,_,rfl,p,k+1+1+1,4,rfl,T5,by omega,by decide,λt0 H6 t1 t2 B6 T6=>?_⟩;have N6:=N0.but TT (B05.trans B6);obtain⟨u,hu,hmu⟩:=zct (ss:=ns) t1 (by rw[N0.len];exact t2);refine⟨nl,_,_,_,rfl,rfl,SqL.of N6.at_,hu,?_⟩;obtain⟨v4,hv4⟩:∃v,v=V.str u:=⟨_,rfl⟩;rw[← hv4];exact kk v4 H6 ⟨.inl ⟨u,hv4,N0.ok u hmu,c'⟩,B05.trans B6,_,T6,by omega⟩
  ·exact kk (.int z) H5 ⟨.inr ⟨z,rfl,z0,λy=>c (decide_eq_true y)⟩,B05,_,T5,by omega⟩
 case k2 =>
 rintro v Hs ⟨am,Bs,k',Ts,hk'⟩;refine⟨_,rfl,rfl,_,rfl,?_⟩;refine' zjm (pre:=λv' Hs'=>Hs'=Hs∧AmV kd v') (λkk=>?g3) ?k3
 case g3 =>
  refine ite2 (λc=>?a) (λc=>?b)
  case b =>
   obtain⟨v4,hv4⟩:∃x,x=v:=⟨_,rfl⟩;obtain⟨Hz,hz⟩:∃h,h=Hs:=⟨_,rfl⟩;rw[← hv4,← hz];exact kk v4 Hz ⟨hz,by rw[hv4];exact am⟩
  case a =>
   have c':=of_decide_eq_true c;injection c' with c'
   exact kk (.int 0) Hs ⟨rfl,.inr ⟨0,rfl,ygn _,by rw[c'];exact zqub⟩⟩
 case k3 =>
 rintro av _ ⟨rfl,am'⟩;have ecs:=Bs _ _ ncp ec;refine⟨_,rfl,_,rfl,_,rfl,_,rfl,cl,_,rfl,.inl (SqL.of ecs),p,k',(us.length:Int),rfl,Ts,by omega,by omega,λt0 H6 t1 t2 B6 T6=>?_⟩;obtain⟨v',hv,hmv⟩:=zoo (xs:=us) t1 t2;have B06:=Bs.trans B6;obtain⟨c,hc,cd⟩:=CD.mem hmv;obtain⟨a',tl,tm,vs,rfl,ea,_⟩:=cd;have ea6:=(Kp.but TT B06).t ea;refine⟨cl,_,_,_,rfl,rfl,SqL.of (B06 _ _ ncp ec),hv,a',_,_,_,rfl,rfl,SqT.of ea6,zia (j:=0) rfl,_,rfl,sz3,λa ha=>?_⟩;refine laid ha λH7 S7 e7=>?_;exact q a kd c.num av _ H7 (B06.trans (But.same S7)) (T6.same S7) (by omega) e7 hm (.inr ⟨np,c,hc,rfl⟩) am'
def hitR (row:Option Row)(kd:Str)(th:Int)(c:C20):Rule->Bool
 | .instead k y _ _=>decide (k=kd)&&zrf row c.num c.keeper th y
 | _=>false
def plc (f:Rule->Bool)(rs:List Rule)(k:Nat):List Nat:=(yoe k).filter λi=>(rs[i]?.map f).getD false
theorem zsdb {f:Rule->Bool}{rs:List Rule}{k:Nat}{r:Rule}(h:rs[k]?=some r):plc f rs (k+1)=plc f rs k++(if f r=true then [k] else []):=by
 unfold plc;rw[List.range_succ,yjd]
 congr 1
 by_cases e:f r=true
 ·rw[if_pos e,yic (by rw[h];exact e)];rfl
 ·rw[if_neg e,yjc (by rw[h];exact e)];rfl
theorem zey (f:Rule->Bool)(rs:List Rule)(k:Nat):(plc f rs k).Nodup:=List.nodup_range.filter _
theorem zak (f:Rule->Bool)(rs:List Rule)(k:Nat):(plc f rs k).length≤k:=by
 have:=yvb (λi=>(rs[i]?.map f).getD false) (yoe k);rw[ytf] at this;exact this
def mnt (c:C20)(i:Nat):List Int:=[c.came,(i:Int),c.num,c.keeper]
def dut (c:C20)(i:Nat):List Int:=[c.came,c.num,(i:Int)]
def usd (used:List (List Int))(c:C20)(i:Nat):Bool:=!decide ([c.num,(i:Int)]∈used)
def zoj (row:Option Row)(kd:Str)(th:Int)(c:C20):List (List Int):=(plc (hitR row kd th c) c.rules c.rules.length).map (mnt c)
def dueC (row:Option Row)(kd:Str)(th:Int)(used:List (List Int))(c:C20):List (List Int):=((plc (hitR row kd th c) c.rules c.rules.length).filter (usd used c)).map (dut c)
def unm (m:List Int):List Int:=[m.getD 2 0,m.getD 1 0]
def trm (m:List Int):List Int:=[m.getD 0 0,m.getD 2 0,m.getD 1 0]
theorem zptb (row:Option Row)(kd:Str)(th:Int)(used:List (List Int))(cs:List C20):((cs.flatMap (zoj row kd th)).filter λm=>!decide (unm m∈used)).map trm=cs.flatMap (dueC row kd th used):=by
 induction cs with
 | nil=>rfl
 | cons c r ih =>
  rw[yok,yok,yjd,yfb,ih]
  congr 1
  unfold zoj dueC;rw[List.filter_map,ywf];rfl
theorem zqe {α:Type}{f:C20->List α}{cs:List C20}{m:Nat}(h:∀c∈cs,(f c).length≤m):(cs.flatMap f).length≤m*cs.length:=by
 induction cs with
 | nil=>exact ylb _
 | cons c r ih =>
  rw[yok,yea,yha,Nat.mul_succ];have:=h c yka;have:=ih λz hz=>h z (yna _ hz);omega
theorem zkqb {cs:List C20}(nd:(cs.map (·.came)).Nodup){c d:C20}(hc:c∈cs)(hd:d∈cs)(e:c.came=d.came):c=d:=by
 induction cs with
 | nil=>cases hc
 | cons x r ih =>
  rw[yva,yse] at nd
  rcases yja.mp hc with h|h<;>rcases yja.mp hd with g|g
  ·rw[h,g]
  ·exact absurd (ydb.mpr ⟨d,g,by rw[← e,h]⟩) nd.1
  ·exact absurd (ydb.mpr ⟨c,h,by rw[e,g]⟩) nd.1
  ·exact ih nd.2 h g
theorem zos {row:Option Row}{kd:Str}{th:Int}{cs:List C20}{m:List Int}(h:m∈cs.flatMap (zoj row kd th)):∃c∈cs,∃i:Nat,m=mnt c i:=by
 obtain⟨c,hc,hm⟩:=yeh.mp h;obtain⟨i,_,e⟩:=ydb.mp hm;exact⟨c,hc,i,e.symm⟩
theorem zxu {cs:List C20}(f:C20->Nat->List Int)(g:C20->List Nat)(nd:(cs.map (·.came)).Nodup)(gn:∀c,(g c).Nodup)(inj:∀c i d j,f c i=f d j->c.came=d.came∧i=j):(cs.flatMap λc=>(g c).map (f c)).Nodup:=by
 refine List.pairwise_flatMap.mpr ⟨λc _=>?_,?_⟩
 ·exact ypk.mpr ((gn c).imp λ{a b} n z=>n (inj _ _ _ _ z).2)
 ·refine List.Pairwise.imp ?_ (ypk.mp nd);intro a b n x hx y hy z;obtain⟨i,_,rfl⟩:=ydb.mp hx;obtain⟨j,_,rfl⟩:=ydb.mp hy;exact n (inj _ _ _ _ z).1
theorem zkbb {row:Option Row}{kd:Str}{th:Int}{cs:List C20}(nd:(cs.map (·.came)).Nodup):(cs.flatMap (zoj row kd th)).Nodup:=zxu mnt (λc=>plc (hitR row kd th c) c.rules c.rules.length) nd (λc=>zey _ _ _) λc i d j e=>by
 unfold mnt at e;injection e with e1 e
 injection e with e2 e
 exact⟨e1,by omega⟩
theorem zejb {row:Option Row}{kd:Str}{th:Int}{used:List (List Int)}{cs:List C20}(nd:(cs.map (·.came)).Nodup):(cs.flatMap (dueC row kd th used)).Nodup:=zxu dut (λc=>(plc (hitR row kd th c) c.rules c.rules.length).filter (usd used c)) nd (λc=>(zey _ _ _).filter _) λc i d j e=>by
 unfold dut at e;injection e with e1 e
 injection e with e2 e
 injection e with e3 e
 exact⟨e1,by omega⟩
theorem zzfb {row:Option Row}{kd:Str}{th:Int}{used:List (List Int)}{cs:List C20}(nd:(cs.map (·.came)).Nodup){ms:List (List Int)}(hp:ms.Perm (cs.flatMap (zoj row kd th)))(so:ms.Pairwise (· < ·)):((ms.filter λm=>!decide (unm m∈used)).map trm).Pairwise (· < ·):=by
 refine ypk.mpr ?_;refine (so.filter _).imp_of_mem ?_;intro a b ha hb lt;obtain⟨c,hc,i,rfl⟩:=zos (hp.mem_iff.mp (yjg.mp ha).1);obtain⟨d,hd,j,rfl⟩:=zos (hp.mem_iff.mp (yjg.mp hb).1);show [c.came,c.num,(i:Int)]<[d.came,d.num,(j:Int)]
 unfold mnt at lt;rw[ybd] at lt
 rcases lt with lt|⟨e,lt⟩
 ·exact ybd.mpr (.inl lt)
 ·have ec:=zkqb nd hc hd e;subst ec;rw[ybd] at lt
  rcases lt with lt|⟨_,lt⟩
  ·exact ybd.mpr (.inr ⟨rfl,ybd.mpr (.inr ⟨rfl,ybd.mpr (.inl lt)⟩)⟩)
  ·exact absurd lt (List.lt_irrefl _)
theorem zov {cs:List C20}(nd:(cs.map (·.num)).Nodup){c:C20}(hc:c∈cs):rowOf (cs.map C20.row) c.num=some c.row:=by
 unfold rowOf
 induction cs with
 | nil=>cases hc
 | cons d r ih =>
  rw[yva,yse] at nd;rw[yva,yve]
  rcases yja.mp hc with e|h
  ·rw[e];have:decide (d.row.num=d.num)=true:=decide_eq_true rfl;rw[this]
  ·have ne:¬ d.row.num=c.num:=λz=>nd.1 (ydb.mpr ⟨c,h,z.symm⟩);rw[decide_eq_false ne];exact ih nd.2 h
theorem zolb {cs:List C20}:(cs.map C20.row).map (·.num)=cs.map (·.num):=by rw[ywf];rfl
theorem CdT.rules {X:List Addr}{H:Hp}{us:List V}{cs:List C20}(h:All2 (CdT X H) us cs):∀c∈cs,∀r∈c.rules,r.ok:=λc hc r hr=>by
 obtain⟨v,_,a,tl,tm,vs,_,_,_,_,_,al⟩:=h.mem2 hc;obtain⟨u,_,z⟩:=al.mem2 hr;exact z.ok
def zprb:Sp:=λvs H Q _=>Ex5 λsl us rs (n:Int) (r:Row)=>vs=[.ref sl,.int n]∧H sl=some (.lst us)∧zkd H us rs∧rs.length≤16∧(rs.map (·.num)).Nodup∧rowOf rs n=some r∧∀H',Same H H'->Q (.int r.keeper) H'
theorem zxt (T:Tx K mg):FnOk P w K mg base CX0 2 T.zud.f T.zud.d zlk zprb:=by
 refine T.zud.ok zst ?_;rintro f c A o s H vs Q E hr ⟨sl,us,rs,n,r,rfl,es,R,h16,nd,hr',q⟩ X;have ul:=R.length;refine⟨_,  (zda (zqa (zjb zkc (zeg (own:=["_law_row"]) (cap:=["_law_number"]) rfl (zpc.chk rfl rfl) (.cons (j:=1) rfl (.inl rfl) (.inl rfl) .nil) (zzd (pv 0)) (λ_ _ _ _=>(zua (i:=0) (show yfd (["_law_row","_law_number"]:List Str) by decide +kernel) rfl (.inl rfl))) (λ_ _ _ _=>zbl (zma zqc (zjb (zmh K) (pv 0) zfa (λ_ _=>rfl)) (pv 1) (zwa _))) (λ_ _ _ _=>by exact (zjb (zmh K) (pv 0) zfa (λ_ _=>rfl)))) zfa (λ_ _=>rfl)))),?_⟩;refine⟨_,rfl,sl,rfl,⟨_,SqL.of es⟩,?_⟩;refine zne (xs:=us) (λi ys H'=>H'=H∧i≤us.length∧ys=((rs.take i).filter λr=>decide (V.int r.num=V.int n)).map λr=>V.int r.keeper) (λi ys H' z=>by rw[z.1];exact SqL.of es) ⟨rfl,ylb _,rfl⟩ ?_ ?_ ?_
 ·rintro i ys H' ⟨_,hi,rfl⟩;rw[yda];have l2:=yvb (λr:Row=>decide (V.int r.num=V.int n)) (rs.take i);rw[yib] at l2;exact small (by omega)
 ·rintro i u ys H' hu ⟨rfl,_,rfl⟩;have hi:i<us.length:=(yfa.mp hu).1;obtain⟨r2,er,ra⟩:=R.get hu;obtain⟨a,m,rfl,h1,h2⟩:=id ra;refine⟨rfl,_,rfl,a,_,_,_,rfl,rfl,SqT.of h1,zia (j:=0) rfl,_,rfl,rfl,_,rfl,?_⟩;rw[yjb,er,ync,yjd,yfb];refine ite2 (λc=>?_) (λc=>?_)
  ·refine⟨_,rfl,a,_,_,_,rfl,rfl,SqT.of h1,zia (j:=1) rfl,rfl,hi,?_⟩;rw[yic (p:=λr:Row=>decide (V.int r.num=V.int n)) c];rfl
  ·refine⟨rfl,hi,?_⟩;rw[yjc (p:=λr:Row=>decide (V.int r.num=V.int n)) c,yom,yef,ytb]
 ·rintro ys H' ⟨rfl,_,rfl⟩ b hb;rw[yua (by omega),zpdb nd,hr'];refine laid hb λH2 S2 e2=>?_;exact⟨b,_,_,_,rfl,rfl,SqL.of e2,zia (j:=0) rfl,q H2 S2⟩
def ziob:Sp:=λvs H Q _=>Ex13 λcl sl ha ul (X:List Addr) us ss uu (cs:List C20) (kd:Str) (th:Int) av used=>vs=[.ref cl,.ref sl,.ref ha,.ref ul]∧H cl=some (.lst us)∧All2 (CdT X H) us cs∧C20s cs∧H sl=some (.lst ss)∧zkd H ss (cs.map C20.row)∧H ha=some (.tup [.str kd,.int th,av])∧H ul=some (.lst uu)∧All2 (ItT H) uu used∧∀l out ms H',Same H H'->H l=none->H' l=some (.lst out)->All2 (ItT H') out ms->ms.Perm (cs.flatMap (dueC (rowOf (cs.map C20.row) th) kd th used))->ms.Pairwise (· < ·)->Q (.ref l) H'
theorem zwo (T:Tx K mg):FnOk P w K mg base CX0 12 T.zxc.f T.zxc.d zoh ziob:=by
 refine T.zxc.ok zbc ?_;rintro f c A o s H vs Q E hr ⟨cl,sl,ha,ul,Y,us,ss,uu,cs,kd,th,av,used,rfl,ec,CD,CS,es,RW,eh,eu,US,q⟩ X;refine⟨_,  (zba (zoa (i:=4) zbc.nd rfl (.inl rfl) (zuc zca))
  (zba (zzh yxb rfl (zzd (pv 0)) (znj (n:=4) rfl (zab (zua (i:=5) zbc.nd rfl (.inl rfl)) (zab (zua (i:=6) zbc.nd rfl (.inl rfl)) (zab (zua (i:=7) zbc.nd rfl (.inl rfl)) (zab (zua (i:=8) zbc.nd rfl (.inl rfl)) zbg)))))
   (zba (zoa (i:=9) zbc.nd rfl (.inl rfl) (zja (zxt T).up hr rfl T.zud.m T.zud.F.kp (zvw T) .nil zva (zaa (pv 1) (zaa (pv 5) zca))))
   (zda (zzh yxb rfl (zah rfl T.zth (zaa (zkb zdb rfl T.zsf ymb (zaa (pv 6) zca)) zca)) (zua (i:=10) zbc.nd rfl (.inl rfl))
    (zba (zoa (i:=11) zbc.nd rfl (.inl rfl) (zjb zkc (pv 6) (pv 10) (λ_ _=>rfl)))
    (zda (zwb (PW.pt (zeq (zma zqc (zjb zyb (pv 11) zfa (λ_ _=>rfl)) zna (zwa _)) (zeq (zma zqc (zjb zyb (pv 11) zfa (λ_ _=>rfl)) (zjb zyb (pv 2) zfa (λ_ _=>rfl)) (zwa _)) (zto (zma (zgs hr.units) (zlb (zaa (pv 5) (zaa (pv 10) zca))) (pv 3) rfl)))))
     (zda (zwb (zfq (zja (zyy T 9) hr rfl T.zxb.m T.zxb.F.kp (zsm T) .nil zva (zaa (zjb zyb (pv 11) zfa (λ_ _=>rfl)) (zaa (pv 1) (zaa (pv 5) (zaa (pv 9) (zaa (zjb zyb (pv 2) zfa (λ_ _=>rfl)) zca)))))))
      (zda (zod (zai ycb yya yza zzc (pv 4) (zaa (zlb (zaa (pv 7) (zaa (pv 5) (zaa (pv 10) zca)))) zca))))
      zsa))
     zsa)))))))
  (zda (zqa (zkb zqk rfl T.ztj yhn (zaa (pv 4) zca)))))),?_⟩
 have ucl:=CD.len;have c6:=CS.hi;refine⟨sz0,λfl hfl=>?_⟩;refine laid hfl λH1 S1 e1=>?_;generalize hrow:rowOf (cs.map C20.row) th=row at q;have R6:(cs.map C20.row).length≤16:=by rw[yda];omega
 have Rnd:((cs.map C20.row).map (·.num)).Nodup:=by rw[zolb];exact CS.num
 have R0:∀r∈cs.map C20.row,0≤r.num:=λr hr=>by
  obtain⟨c,hc,rfl⟩:=ydb.mp hr;exact CS.n0 c hc
 refine⟨_,rfl,cl,rfl,⟨_,SqL.of (S1 _ _ ec)⟩,?_⟩;refine zdk (xs:=us) (λi σ H'=>Ex8 λws o5 o6 o7 o8 o9 o10 o11=>σ=[some (.ref cl),some (.ref sl),some (.ref ha),some (.ref ul),some (.ref fl),o5,o6,o7,o8,o9,o10,o11]∧H' fl=some (.lst ws)∧All2 (ItT H') ws ((cs.take i).flatMap (dueC row kd th used))∧Same H H') ⟨[],_,_,_,_,_,_,_,rfl,e1,.nil,S1⟩ (λi σ H' _ ⟨_,_,_,_,_,_,_,_,_,_,_,S⟩=>SqL.of (S _ _ ec)) ?_ ?_
 ·rintro i u σ H' hu ⟨ws,o5,o6,o7,o8,o9,o10,o11,rfl,ef,AL,S⟩;obtain⟨c,eci,cd⟩:=CD.get hu;have hc:=ykb eci;have hi:i<us.length:=(yfa.mp hu).1;have few:=CS.few c hc;have tl6:((cs.take i).flatMap (dueC row kd th used)).length≤3*(cs.take i).length:=zqe λd hd=>by
   have f:=CS.few d (yvg hd);have a:=yvb (usd used d) (plc (hitR row kd th d) d.rules d.rules.length);have b:=zak (hitR row kd th d) d.rules d.rules.length;show (ygi _ _).length≤3
   rw[yda];omega
  rw[yib] at tl6;obtain⟨a,tl,tm,vs,rfl,ea,em,et,_,R2⟩:=cd;have vl:=R2.len;refine⟨a,_,rfl,SqT.of (S _ _ ea),rfl,_,_,rfl,_,_,rfl,_,_,rfl,_,_,rfl,rfl,?_⟩;refine⟨_,rfl,_,rfl,sl,ss,cs.map C20.row,c.num,c.row,rfl,S _ _ es,RW.map λ_ _ z=>z.same S,R6,Rnd,zov CS.num hc,λH2 S2=>?_⟩;have S02:=S.trans S2;refine⟨_,rfl,tl,_,rfl,.inl (SqL.of (S02 _ _ et)),_,rfl,by omega,by omega,?_⟩;rw[ydc];refine zgl (lo:=0) (n:=vs.length) (λj σ Hx=>Ex3 λws o10 o11=>σ=[some (.ref cl),some (.ref sl),some (.ref ha),some (.ref ul),some (.ref fl),some (.int c.num),some (.ref tl),some (.int c.came),some (.ref tm),some (.int c.keeper),o10,o11]∧Hx fl=some (.lst ws)∧All2 (ItT Hx) ws ((cs.take i).flatMap (dueC row kd th used)++((plc (hitR row kd th c) c.rules j).filter (usd used c)).map (dut c))∧Same H Hx) ⟨ws,_,_,rfl,S2 _ _ ef,by
   show All2 _ _ (_++[])
   rw[ytb];exact AL.imp λz=>z.kp (Kp.same S2),S02⟩ ?_ ?_
  ·rintro j σ Hx hj ⟨ws2,o10,o11,rfl,ef2,AL2,Sx⟩;obtain⟨r,ejr,r20⟩:=R2.get (yqa hj);have wl:=AL2.len;have few2:=zak (hitR row kd th c) c.rules j;have few3:=yvb (usd used c) (plc (hitR row kd th c) c.rules j);rw[yea,yda] at wl;have ej:atI vs (j:Int)=some vs[j]:=zia (yqa hj);rw[ypo];generalize vs[j]=v at ej r20;refine⟨_,rfl,_,rfl,tl,_,_,_,rfl,rfl,SqL.of (Sx _ _ et),ej,?_⟩;have ehx:=Sx _ _ eh;rw[zsdb ejr,yjd,yfb];have stay:∀{Hy:Hp} {f:Bool},f=false->All2 (ItT Hy) ws2 ((cs.take i).flatMap (dueC row kd th used)++((plc (hitR row kd th c) c.rules j).filter (usd used c)).map (dut c))->All2 (ItT Hy) ws2 ((cs.take i).flatMap (dueC row kd th used)++(((plc (hitR row kd th c) c.rules j).filter (usd used c)).map (dut c)++ygi (dut c) (ymp (usd used c) (if f=true then [j] else [])))):=λe z=>by
    rw[e];show All2 _ _ (_++(_++[]))
    rw[ytb];exact z
   cases r20 with
   | @may b y h ok y9 =>
    refine⟨_,rfl,b,_,_,_,rfl,rfl,SqT.of (Sx _ _ h),zia (j:=0) rfl,rfl,_,rfl,iteF (iteF ?_)⟩;exact⟨ws2,_,_,rfl,ef2,stay rfl AL2,Sx⟩
   | @ins b k wd x y z h wt ok y9 hd hw hz =>
    have hx:=Sx _ _ h;refine⟨_,rfl,b,_,_,_,rfl,rfl,SqT.of hx,zia (j:=0) rfl,rfl,_,rfl,iteT ?_⟩;refine⟨_,rfl,b,_,_,_,rfl,rfl,SqT.of hx,zia (j:=1) rfl,_,rfl,ha,_,_,_,rfl,rfl,SqT.of ehx,zia (j:=0) rfl,rfl,_,rfl,?_⟩;refine ite2 (λc1=>?_) (λc1=>?_)
    ·have ek:k=kd:=by
      have:=of_decide_eq_true c1;injection this
     refine⟨_,rfl,_,rfl,sz2,λt ht=>?_⟩;refine laid ht λHy Sy ey=>?_;have Sxy:=Sx.trans Sy;refine⟨_,rfl,chD [c.num,(j:Int)],used.map chD,zqbb ⟨t,rfl,ey⟩,.lst (SqL.of (Sxy _ _ eu)) (zdz (US.imp λz=>z.kp (Kp.same Sxy))),zrj _,zmg _,zmo _,_,rfl,?_⟩;rw[zoeb];have stayU:∀{Hy:Hp} {f:Bool},¬ usd used c j=true->All2 (ItT Hy) ws2 ((cs.take i).flatMap (dueC row kd th used)++((plc (hitR row kd th c) c.rules j).filter (usd used c)).map (dut c))->All2 (ItT Hy) ws2 ((cs.take i).flatMap (dueC row kd th used)++(((plc (hitR row kd th c) c.rules j).filter (usd used c)).map (dut c)++ygi (dut c) (ymp (usd used c) (if f=true then [j] else [])))):=λ{Hy f} e z=>by
      have e2:ymp (usd used c) (if f=true then [j] else [])=[]:=by
       split
       ·rw[yjc e];rfl
       ·rfl
      rw[e2];show All2 _ _ (_++(_++[]))
      rw[ytb];exact z
     refine ite2 (λc2=>?_) (λc2=>?_)
     ·have hy:=Sy _ _ hx;refine⟨_,rfl,b,_,_,_,rfl,rfl,SqT.of hy,zia (j:=2) rfl,_,rfl,_,rfl,_,rfl,_,rfl,ha,_,_,_,rfl,rfl,SqT.of (Sy _ _ ehx),zia (j:=1) rfl,x,sl,ss,cs.map C20.row,c.num,c.keeper,th,y,rfl,wt.same Sxy,yoa (zfjb y) y9,Sxy _ _ es,RW.map λ_ _ z=>z.same Sxy,Rnd,R6,CS.k0 c hc,R0,λHz Sz=>?_⟩;rw[hrow];have Sxz:=Sxy.trans Sz;have kz:Kp Hx Hz:=Kp.same (Sy.trans Sz);refine⟨_,rfl,ite2 (λc3=>?_) (λc3=>?_)⟩
      ·have efz:=(Sy.trans Sz) _ _ ef2;refine⟨_,rfl,.inl ⟨rfl,_,SqL.of efz⟩,_,rfl,_,rfl,_,rfl,sz3,λn hn=>?_⟩;refine laid hn λHw Sw ew=>?_;have efw:=Sw _ _ efz;refine⟨fl,_,_,rfl,rfl,efw,zjc (by omega),?_⟩;have kp:Kp Hw (upd Hw fl (.lst (ws2++[V.ref n]))):=Kp.put efw;refine⟨_,_,_,rfl,zga,?_,zae (Sxz.trans Sw) hfl _⟩;have eh2:hitR row kd th c (.instead k y wd z)=true:=by
        show (decide (k=kd)&&_)=true
        rw[decide_eq_true ek,ygd];exact c3
       rw[if_pos eh2,yic (by exact c2),← yed];exact All2.snoc (b:=dut c j) (ItT.kp kp ⟨n,rfl,ew⟩) (AL2.imp λz=>z.kp (kz.trans ((Kp.same Sw).trans kp)))
      ·exact⟨ws2,_,_,rfl,(Sy.trans Sz) _ _ ef2,stay (by show (_&&_)=false;rw[yqd.mpr c3,ydi]) (AL2.imp λz=>z.kp kz),Sxz⟩
     ·exact⟨ws2,_,_,rfl,Sy _ _ ef2,stayU c2 (AL2.imp λz=>z.kp (Kp.same Sy)),Sxy⟩
    ·refine iteF ?_;have ek:¬ k=kd:=λz=>c1 (decide_eq_true (by rw[z]));exact⟨ws2,_,_,rfl,ef2,stay (by show (decide (k=kd)&&_)=false;rw[decide_eq_false ek,ymd]) AL2,Sx⟩
  ·rintro σ Hx ⟨ws2,o10,o11,rfl,ef2,AL2,Sx⟩;refine⟨ws2,_,_,_,_,_,_,_,rfl,ef2,?_,Sx⟩;rw[vl] at AL2;rw[yjb,eci,yin];show All2 _ _ (_++(dueC row kd th used c++[]))
   rw[ytb];exact AL2
 ·rintro σ H' ⟨ws,o5,o6,o7,o8,o9,o10,o11,rfl,ef,AL,S⟩;rw[yua (by omega)] at AL;have wl:=AL.len;have tl6:(cs.flatMap (dueC row kd th used)).length≤3*cs.length:=zqe λd hd=>by
   have f:=CS.few d hd;have a:=yvb (usd used d) (plc (hitR row kd th d) d.rules d.rules.length);have b:=zak (hitR row kd th d) d.rules d.rules.length;show (ygi _ _).length≤3
   rw[yda];omega
  refine⟨_,rfl,fl,ws,chG H',3,rfl,SqL.of ef,by omega,by decide,λu hu=>?_,?_,λp out hp po so=>?_⟩
  ·obtain⟨m,hm,it⟩:=AL.mem hu;have ek:=it.key;obtain⟨a,rfl,e⟩:=it;obtain⟨c,_,hm⟩:=yeh.mp hm;obtain⟨i,_,rfl⟩:=ydb.mp hm;exact⟨a,dut c i,[],rfl,by rw[ytb];exact SqT.of e,ek,rfl⟩
  ·rw[zew AL];exact zejb CS.came
  ·obtain⟨ms,h1,h2⟩:=AL.perm po;rw[zew h1] at so;refine laid hp λH4 S4 e4=>?_;exact q p out ms H4 (S.trans S4) (none_of S hp) e4 (h1.imp λz=>z.kp (Kp.same S4)) h2 so
theorem zcv (n:Str)(c f:Nat)(m t:Addr):(cfs n c f m t).lookup ("rules":Str)=some (.ref t):=(zpd (by decide +kernel)).trans ((zpd (by decide +kernel)).trans ((zpd (by decide +kernel)).trans ((zpd (by decide +kernel)).trans zxl)))
structure Lk (B D:Addr)(nm:Str)(H:Hp)(ll:Addr)(ws:List V)(cs ds:List C20):Prop where
 at_:H ll=some (.lst ws)
 al:All2 (LyT B D nm H) ws ds
 perm:ds.Perm cs
def zahb (B D:Addr):Sp:=λvs H Q _=>Ex11 λll sl ha (nm:Str) ws ss (cs ds:List C20) (kd:Str) (th:Int) av=>vs=[.ref ll,.ref sl,.str "instead",.ref ha]∧Lk B D nm H ll ws cs ds∧C20s cs∧(∀c∈cs,∀r∈c.rules,r.ok)∧H sl=some (.lst ss)∧zkd H ss (cs.map C20.row)∧H ha=some (.tup [.str kd,.int th,av])∧∀l out ms H',Same H H'->H l=none->H' l=some (.lst out)->All2 (ItT H') out ms->ms.Perm (ds.flatMap (zoj (rowOf (cs.map C20.row) th) kd th))->ms.Pairwise (· < ·)->Q (.ref l) H'
def zmkb (B D:Addr):Sp:=λvs H Q _=>Ex14 λll sl ha ul (nm:Str) ws ss uu (cs ds:List C20) (kd:Str) (th:Int) av used=>vs=[.ref ll,.ref sl,.ref ha,.ref ul]∧Lk B D nm H ll ws cs ds∧C20s cs∧(∀c∈cs,∀r∈c.rules,r.ok)∧H sl=some (.lst ss)∧zkd H ss (cs.map C20.row)∧H ha=some (.tup [.str kd,.int th,av])∧H ul=some (.lst uu)∧All2 (ItT H) uu used∧∀l out ms H',Same H H'->H l=none->H' l=some (.lst out)->All2 (ItT H') out ms->ms.Perm (cs.flatMap (dueC (rowOf (cs.map C20.row) th) kd th used))->ms.Pairwise (· < ·)->Q (.ref l) H'
theorem zwt (T:Tx K mg):FnOk P w K mg base CX0 22 T.ztd.f T.ztd.d zjk (zahb T.zpf T.ztb):=by
 refine T.ztd.ok zvb ?_;rintro f c A o s H vs Q E hr ⟨ll,sl,ha,nm,us,ss,cs,ds,kd,th,av,rfl,LK,CS,ROK,es,RW,eh,q⟩ X;refine⟨_,  (zba (zbs (pv 3) (znj (n:=3) rfl (zab (zua (i:=4) zvb.nd rfl (.inl rfl)) (zab (zua (i:=5) zvb.nd rfl (.inl rfl)) (zab (zua (i:=6) zvb.nd rfl (.inl rfl)) zbg)))))
  (zba (zoa (i:=7) zvb.nd rfl (.inl rfl) (zuc zca))
  (zba (zzh yxb rfl (zzd (pv 0)) (znj (n:=5) rfl (zab (zua (i:=8) zvb.nd rfl (.inl rfl)) (zab (zua (i:=9) zvb.nd rfl (.inl rfl)) (zab (zua (i:=10) zvb.nd rfl (.inl rfl)) (zab (zua (i:=11) zvb.nd rfl (.inl rfl)) (zab (zua (i:=12) zvb.nd rfl (.inl rfl)) zbg))))))
   (zba (zoa (i:=13) zvb.nd rfl (.inl rfl) (zjb zyb (zja (zks T).up hr rfl T.ztf.m T.ztf.F.kp (zuw T) .nil zva (zaa (pv 1) (zaa (pv 8) zca))) zfa (λ_ _=>rfl)))
   (zda (zzh yxb rfl (zblb rfl T.zuj (zaa (zwe (pv 9) rfl) zca)) (znj (n:=2) rfl (zab (zua (i:=14) zvb.nd rfl (.inl rfl)) (zab (zua (i:=15) zvb.nd rfl (.inl rfl)) zbg)))
    (zda (zwb (PW.pt (zeq (zma zqc (zjb zyb (pv 15) zfa (λ_ _=>rfl)) (pv 2) (zwa _)) (zeq (zma zqc (zjb zyb (pv 15) zfa (λ_ _=>rfl)) (pv 4) (zwa _)) (zto (zfq (zle (zjb zyb (pv 15) zfa (λ_ _=>rfl)) T.zob T.zgf.M (zfpb T) hr (zgcb T) .nil zva (zaa (pv 1) (zaa (pv 8) (zaa (pv 13) (zaa (pv 5) zca))))))))))
     (zda (zod (zai ycb yya yza zzc (pv 7) (zaa (zlb (zaa (pv 11) (zaa (pv 14) (zaa (pv 8) (zaa (pv 13) zca))))) zca))))
     zsa))))))
  (zda (zqa (zkb zqk rfl T.ztj yhn (zaa (pv 7) zca))))))),?_⟩
 have el:=LK.at_;have ul:=LK.al.len;have dl:=LK.perm.length_eq;have c6:=CS.hi;have memc:∀c∈ds,c∈cs:=λc hc=>LK.perm.mem_iff.mp hc;generalize hrow:rowOf (cs.map C20.row) th=row at q;refine⟨_,rfl,ha,_,rfl,SqT.of eh,rfl,_,_,rfl,_,_,rfl,_,_,rfl,rfl,?_⟩;refine⟨sz0,λfl hfl=>?_⟩;refine laid hfl λH1 S1 e1=>?_;refine⟨_,rfl,ll,rfl,⟨_,SqL.of (S1 _ _ el)⟩,?_⟩;refine zdk (xs:=us) (λi σ H'=>Ex9 λws o8 o9 o10 o11 o12 o13 o14 o15=>σ=[some (.ref ll),some (.ref sl),some (.str "instead"),some (.ref ha),some (.str kd),some (.int th),some av,some (.ref fl),o8,o9,o10,o11,o12,o13,o14,o15]∧H' fl=some (.lst ws)∧All2 (ItT H') ws ((ds.take i).flatMap (zoj row kd th))∧Same H H') ⟨[],_,_,_,_,_,_,_,_,rfl,e1,.nil,S1⟩ (λi σ H' _ ⟨_,_,_,_,_,_,_,_,_,_,_,_,S⟩=>SqL.of (S _ _ el)) ?_ ?_
 ·rintro i u σ H' hu ⟨ws,o8,o9,o10,o11,o12,o13,o14,o15,rfl,ef,AL,S⟩;obtain⟨c,eci,ly⟩:=LK.al.get hu;have hc:=memc c (ykb eci);have hi:i<us.length:=(yfa.mp hu).1;have few:=CS.few c hc;have tl6:((ds.take i).flatMap (zoj row kd th)).length≤3*(ds.take i).length:=zqe λd hd=>by
   have f:=CS.few d (memc d (yvg hd));have b:=zak (hitR row kd th d) d.rules d.rules.length;show (ygi _ _).length≤3
   rw[yda];omega
  rw[yib] at tl6;obtain⟨a,tm,cv,rfl,ea,em,ca,dx,mm,tt,vs,rfl,hcd,hm,ht,IR⟩:=ly;have vl:vs.length=c.rules.length:=IR.length;refine⟨a,_,rfl,SqT.of (S _ _ ea),rfl,_,_,rfl,_,_,rfl,_,_,rfl,_,_,rfl,_,_,rfl,rfl,?_⟩;refine⟨_,rfl,_,rfl,sl,ss,cs.map C20.row,c.num,rfl,S _ _ es,RW.map λ_ _ z=>z.same S,λrv hrv=>?_⟩;rw[zov CS.num hc] at hrv;obtain⟨ra,rm,rfl,hra,_⟩:=(show zll H' rv c.row from hrv);refine⟨ra,_,_,_,rfl,rfl,SqT.of hra,zia (j:=1) rfl,?_⟩;refine⟨_,rfl,ca,_,dx,_,_,rfl,S _ _ hcd,T.zil,T.zof,zcv _ _ _ _ _,tt,vs,rfl,SqT.of (S _ _ ht),?_⟩;refine zzib (xs:=vs) (λk σ Hx=>Ex3 λws o14 o15=>σ=[some (.ref ll),some (.ref sl),some (.str "instead"),some (.ref ha),some (.str kd),some (.int th),some av,some (.ref fl),some (.int c.num),some (.ref ca),some (.int (c.num % 4)),some (.int c.came),some (.ref tm),some (.int c.keeper),o14,o15]∧Hx fl=some (.lst ws)∧All2 (ItT Hx) ws ((ds.take i).flatMap (zoj row kd th)++(plc (hitR row kd th c) c.rules k).map (mnt c))∧Same H Hx) ⟨ws,_,_,rfl,ef,by
   show All2 _ _ (_++[])
   rw[ytb];exact AL,S⟩ ?_ ?_ ?_
  ·rintro k σ Hx _ ⟨ws',o14,o15,rfl,_,_,Sx⟩;exact SqT.of (Sx _ _ ht)
  ·rintro k v σ H4 p hv ⟨ws4,o14,o15,rfl,ef4,AL4,S4⟩ hp;obtain⟨r,ekr,ir⟩:=IR.get hv;have ekr':c.rules[k]?=some r:=ekr;have k3:k<vs.length:=(yfa.mp hv).1;refine laid hp λH5 S5 ep=>?_;refine⟨p,_,rfl,SqT.of ep,rfl,_,_,rfl,_,_,rfl,rfl,?_⟩;have S45:=S4.trans S5;have ef5:=S5 _ _ ef4;have AL5:All2 (ItT H5) ws4 _:=AL4.imp λz=>z.kp (Kp.same S5);have wl:=AL4.len;have few2:=zak (hitR row kd th c) c.rules k;rw[yea,yda] at wl;rw[zsdb ekr',yfb];have stay:∀{f:Bool},f=false->All2 (ItT H5) ws4 ((ds.take i).flatMap (zoj row kd th)++((plc (hitR row kd th c) c.rules k).map (mnt c)++ygi (mnt c) (if f=true then [k] else []))):=λe=>by
    rw[e];show All2 _ _ (_++(_++[]))
    rw[ytb];exact AL5
   have ok:=ROK c hc r (ykb ekr');cases r with
   | hold wd hv' y =>
    obtain⟨b,x',u',rfl,eb,_⟩:=ir;refine⟨_,rfl,b,_,_,_,rfl,rfl,SqT.of (S45 _ _ eb),zia (j:=0) rfl,_,rfl,rfl,_,rfl,iteF (iteF ?_)⟩;exact⟨ws4,_,_,rfl,ef5,stay rfl,S45⟩
   | wen k' y d =>
    obtain⟨b,x',u',rfl,eb,_⟩:=ir;refine⟨_,rfl,b,_,_,_,rfl,rfl,SqT.of (S45 _ _ eb),zia (j:=0) rfl,_,rfl,rfl,_,rfl,iteF (iteF ?_)⟩;exact⟨ws4,_,_,rfl,ef5,stay rfl,S45⟩
   | may c' d =>
    obtain⟨b,u',rfl,eb,_⟩:=ir;refine⟨_,rfl,b,_,_,_,rfl,rfl,SqT.of (S45 _ _ eb),zia (j:=0) rfl,_,rfl,rfl,_,rfl,iteF (iteF ?_)⟩;exact⟨ws4,_,_,rfl,ef5,stay rfl,S45⟩
   | instead k' y wd z =>
    obtain⟨b,x',rfl,eb,IW⟩:=ir;have eb5:=S45 _ _ eb;refine⟨_,rfl,b,_,_,_,rfl,rfl,SqT.of eb5,zia (j:=0) rfl,_,rfl,rfl,_,rfl,iteT ?_⟩;refine⟨_,rfl,b,_,_,_,rfl,rfl,SqT.of eb5,zia (j:=1) rfl,_,rfl,rfl,_,rfl,?_⟩;refine ite2 (λc1=>?_) (λc1=>?_)
    ·have ek:k'=kd:=by
      have:=of_decide_eq_true c1;injection this
     have y9:y.size≤9:=ok.2.1.2;have IW5:=IW.same S45;obtain⟨wa,wdx,wt,rfl,w1⟩:Ex3 λwa wdx wt=>x' = .ref wa∧H5 wa=some (.ins T.ztb wdx (hfs y.word (valV y.val) wt)):=by
      cases IW5 with
      | mk w1 _ _=>exact⟨_,_,_,rfl,w1⟩
     refine⟨_,rfl,b,_,_,_,rfl,rfl,SqT.of eb5,zia (j:=2) rfl,wa,wdx,_,rfl,w1,zaeb _ _ _ (by decide +kernel) (by decide +kernel) (by decide +kernel),_,rfl,_,rfl,_,rfl,_,rfl,_,sl,ss,cs.map C20.row,c.num,c.keeper,th,y,rfl,IW5,S45 _ _ es,RW.map λ_ _ z=>z.same S45,y9,?_⟩;rw[hrow];refine⟨_,rfl,ite2 (λc3=>?_) (λc3=>?_)⟩
     ·refine⟨_,rfl,.inl ⟨rfl,_,SqL.of ef5⟩,_,rfl,_,rfl,_,rfl,_,rfl,sz4,λn hn=>?_⟩;refine laid hn λHw Sw ew=>?_;have efw:=Sw _ _ ef5;refine⟨fl,_,_,rfl,rfl,efw,zjc (by omega),?_⟩;have kp:Kp Hw (upd Hw fl (.lst (ws4++[V.ref n]))):=Kp.put efw;refine⟨_,_,_,rfl,zga,?_,zae (S45.trans Sw) hfl _⟩;have eh2:hitR row kd th c (.instead k' y wd z)=true:=by
       show (decide (k'=kd)&&_)=true
       rw[decide_eq_true ek,ygd];exact c3
      rw[if_pos eh2,← yed];exact All2.snoc (b:=mnt c k) (ItT.kp kp ⟨n,rfl,ew⟩) (AL5.imp λz=>z.kp ((Kp.same Sw).trans kp))
     ·exact⟨ws4,_,_,rfl,ef5,stay (by show (_&&_)=false;rw[yqd.mpr c3,ydi]),S45⟩
    ·refine iteF ?_;have ek:¬ k'=kd:=λz=>c1 (decide_eq_true (by rw[z]));exact⟨ws4,_,_,rfl,ef5,stay (by show (decide (k'=kd)&&_)=false;rw[decide_eq_false ek,ymd]),S45⟩
  ·rintro σ Hx ⟨ws2,o14,o15,rfl,ef2,AL2,Sx⟩;refine⟨ws2,_,_,_,_,_,_,_,_,rfl,ef2,?_,Sx⟩;rw[vl] at AL2;rw[yjb,eci,yin];show All2 _ _ (_++(zoj row kd th c++[]))
   rw[ytb];exact AL2
 ·rintro σ H' ⟨ws,o8,o9,o10,o11,o12,o13,o14,o15,rfl,ef,AL,S⟩;rw[yua (by omega)] at AL;have wl:=AL.len;have tl6:(ds.flatMap (zoj row kd th)).length≤3*ds.length:=zqe λd hd=>by
   have f:=CS.few d (memc d hd);have b:=zak (hitR row kd th d) d.rules d.rules.length;show (ygi _ _).length≤3
   rw[yda];omega
  refine⟨_,rfl,fl,ws,chG H',4,rfl,SqL.of ef,by omega,by decide,λu hu=>?_,?_,λp out hp po so=>?_⟩
  ·obtain⟨m,hm,it⟩:=AL.mem hu;have ek:=it.key;obtain⟨a,rfl,e⟩:=it;obtain⟨c,_,hm⟩:=yeh.mp hm;obtain⟨i,_,rfl⟩:=ydb.mp hm;exact⟨a,mnt c i,[],rfl,by rw[ytb];exact SqT.of e,ek,rfl⟩
  ·rw[zew AL];exact zkbb ((LK.perm.map _).nodup_iff.mpr CS.came)
  ·obtain⟨ms,h1,h2⟩:=AL.perm po;rw[zew h1] at so;refine laid hp λH4 S4 e4=>?_;exact q p out ms H4 (S.trans S4) (none_of S hp) e4 (h1.imp λz=>z.kp (Kp.same S4)) h2 so
theorem zsi (T:Tx K mg):FnOk P w K mg base CX0 23 T.zsc.f T.zsc.d zym (zmkb T.zpf T.ztb):=by
 refine T.zsc.ok zup ?_;rintro f c A o s H vs Q E hr ⟨ll,sl,ha,ul,nm,ws,ss,uu,cs,ds,kd,th,av,used,rfl,LK,CS,ROK,es,RW,eh,eu,US,q⟩ X;refine⟨_,  (zba (zoa (i:=4) zup.nd rfl (.inl rfl) (zja (zwt T) hr rfl T.ztd.m T.ztd.F.kp (ztw T) .nil zva (zaa (pv 0) (zaa (pv 1) (zaa zna (zaa (pv 2) zca))))))
  (zda (zqa (zeg (own:=["came","place","number","keeper"]) (cap:=["used"]) rfl (zpc.chk rfl rfl) (.cons (j:=3) rfl (.inl rfl) (.inl rfl) .nil) (zzd (pv 4)) (λ_ _ _ _=>(zyob K (n:=4) rfl (zab (zua (i:=0) (show yfd (["came","place","number","keeper","used"]:List Str) by decide +kernel) rfl (.inl rfl)) (zab (zua (i:=1) (show yfd (["came","place","number","keeper","used"]:List Str) by decide +kernel) rfl (.inl rfl)) (zab (zua (i:=2) (show yfd (["came","place","number","keeper","used"]:List Str) by decide +kernel) rfl (.inl rfl)) (zab (zua (i:=3) (show yfd (["came","place","number","keeper","used"]:List Str) by decide +kernel) rfl (.inl rfl)) zbg)))))) (λ_ _ _ _=>zbl (zma (zlfb K hr.units) (zlb (zaa (pv 2) (zaa (pv 1) zca))) (pv 4) rfl)) (λ_ _ _ _=>by exact (zlb (zaa (pv 0) (zaa (pv 2) (zaa (pv 1) zca))))))))),?_⟩
 refine⟨_,rfl,_,rfl,_,rfl,ll,sl,ha,nm,ws,ss,cs,ds,kd,th,av,rfl,LK,CS,ROK,es,RW,eh,λml out ms H1 S1 hml em AL pm so=>?_⟩;have dnd:(ds.map (·.came)).Nodup:=(LK.perm.map _).nodup_iff.mpr CS.came;have ol:=AL.len;have sz:ms.length≤18:=by
  have a:=pm.length_eq;have b:(ds.flatMap (zoj (rowOf (cs.map C20.row) th) kd th)).length≤3*ds.length:=zqe λd hd=>by
   have f:=CS.few d (LK.perm.mem_iff.mp hd);have b:=zak (hitR (rowOf (cs.map C20.row) th) kd th d) d.rules d.rules.length;show (ygi _ _).length≤3
   rw[yda];omega
  have c:=LK.perm.length_eq;have d:=CS.hi;omega
 refine⟨_,rfl,ml,rfl,⟨_,SqL.of em⟩,?_⟩;refine zne (xs:=out) (λi ys H'=>Same H1 H'∧i≤out.length∧All2 (ItT H') ys (((ms.take i).filter λm=>!decide (unm m∈used)).map trm)) (λi ys H' z=>SqL.of (z.1 _ _ em)) ⟨Same.refl _,ylb _,.nil⟩ ?_ ?_ ?_
 ·rintro i ys H' ⟨_,hi,hy⟩;have:=hy.len;have l2:=yvb (λm:List Int=>!decide (unm m∈used)) (ms.take i);rw[yda] at this;rw[yib] at l2;exact small (by omega)
 ·rintro i u ys H' hu ⟨S,_,hy⟩;have hi:i<out.length:=(yfa.mp hu).1;obtain⟨m,em',it⟩:=AL.get hu;obtain⟨c,hc,j,rfl⟩:=zos (pm.mem_iff.mp (ykb em'));obtain⟨a,rfl,ea⟩:=it.kp (Kp.same S);have S1':=S1.trans S;refine⟨a,_,rfl,SqT.of ea,rfl,_,_,rfl,_,_,rfl,_,_,rfl,_,_,rfl,rfl,rfl,?_⟩;refine⟨_,rfl,_,rfl,sz2,λt ht=>?_⟩;refine laid ht λH2 S2 e2=>?_;have S12:=S1'.trans S2;refine⟨_,rfl,chD (unm (mnt c j)),used.map chD,zqbb ⟨t,rfl,e2⟩,.lst (SqL.of (S12 _ _ eu)) (zdz (US.imp λz=>z.kp (Kp.same S12))),zrj _,zmg _,zmo _,_,rfl,?_⟩;rw[zoeb,yjb,em',ync,yjd,yfb];refine ite2 (λc1=>?_) (λc1=>?_)
  ·refine⟨_,rfl,_,rfl,_,rfl,sz3,λn hn=>?_⟩;refine laid hn λH3 S3 e3=>?_;refine⟨S.trans (S2.trans S3),hi,?_⟩;rw[yic (p:=λm:List Int=>!decide (unm m∈used)) c1];exact All2.snoc (b:=trm (mnt c j)) ⟨n,rfl,e3⟩ (hy.imp λz=>z.kp (Kp.same (S2.trans S3)))
  ·refine⟨S.trans S2,hi,?_⟩;rw[yjc (p:=λm:List Int=>!decide (unm m∈used)) c1,yom,yef,ytb];exact hy.imp λz=>z.kp (Kp.same S2)
 ·rintro ys H' ⟨S,_,hy⟩ p hp;rw[yua (by omega)] at hy;refine laid hp λH2 S2 e2=>?_;refine q p ys _ H2 (S1.trans (S.trans S2)) (none_of (S1.trans S) hp) e2 (hy.imp λz=>z.kp (Kp.same S2)) ?_ (zzfb dnd pm so);have p1:=(pm.filter λm:List Int=>!decide (unm m∈used)).map trm;rw[zptb] at p1;exact p1.trans (LK.perm.flatMap_right _)
def chW (w:Int):List Int->Int
 | []=>0
 | z::_=>if w=1 then 0 else z % w
def chL (w:Int):List Int->List Int
 | []=>[]
 | z::r=>if w=1 then z::r else r
theorem chW1 (zs:List Int):chW 1 zs=0:=by cases zs<;>rfl
theorem chL1 (zs:List Int):chL 1 zs=zs:=by cases zs<;>rfl
def zrkb:Sp:=λvs H Q _=>Ex3 λc (wy:Int) (zs:List Int)=>vs=[.int wy,.ref c]∧0<wy∧H c=some (.lst (zs.map V.int))∧∀t l H',Same H H'->H l=none->H' l=some (.lst ((chL wy zs).map V.int))->H' t=some (.tup [.int (chW wy zs),.ref l])->Q (.ref t) H'
theorem zxhb (T:Tx K mg):FnOk P w K mg base CX0 2 T.zwj.f T.zwj.d zbx zrkb:=by
 refine T.zwj.ok zghb ?_;rintro f c A o s H vs Q E hr ⟨c,wy,zs,rfl,hw,e,q⟩ X;refine⟨_,  (zba (zwb (PW.pt (zzab (zma zqc (pv 0) zfa (zwa _)) (zdy (zas (zpv (pv 1) (λ_=>rfl))))))
   (zda (zqa (zlb (zaa zfa (zaa (zyd zbj rfl T.zbr ynp (zaa (pv 1) zca)) zca)))))
   zsa)
  (zda (zqa (zlb (zaa (zcc zci (zjb zkc (pv 1) zfa (λ_ _=>rfl)) (pv 0)) (zaa (zyd zbj rfl T.zbr ynp (zaa (zsg zkm (pv 1) (zej zfa) zfj) zca)) zca)))))),?_⟩
 refine⟨_,rfl,rfl,_,rfl,?_⟩;have whole:zs.length=zs.length->chL wy zs=zs->chW wy zs=0->∀l,H l=none->∀t,upd H l (.lst (zs.map V.int)) t=none->Q (.ref t) (upd (upd H l (.lst (zs.map V.int))) t (.tup [.int 0,.ref l])):=by
  intro _ e1 e2 l hl t ht;refine q t l _ ((zxa hl _).trans (zxa ht _)) hl ?_ ?_
  ·rw[e1];exact zxa ht _ _ _ zga
  ·rw[e2];exact zga
 by_cases h1:wy=1
 ·subst h1;refine iteT (iteT ⟨_,rfl,c,_,rfl,.inl (SqL.of e),λl hl=>⟨sz2,?_⟩⟩);exact whole rfl (chL1 zs) (chW1 zs) l hl
 ·rw[decide_eq_false (λz=>h1 (by injection z))];refine iteF ⟨_,rfl,_,.inl ⟨_,SqL.of e,rfl⟩,?_⟩;cases zs with
  | nil =>
   refine iteT ⟨_,rfl,c,_,rfl,.inl (SqL.of e),λl hl=>⟨sz2,?_⟩⟩;exact whole rfl rfl rfl l hl
  | cons z r =>
   refine iteF ⟨_,rfl,c,_,_,_,rfl,rfl,SqL.of e,zia (j:=0) rfl,_,rfl,_,_,rfl,rfl,hw,?_⟩;refine⟨_,rfl,_,rfl,c,_,rfl,SqL.of e,λl1 hl1=>?_⟩;have ec:cutV ((z::r).map V.int) (some 1) none=r.map V.int:=by
    rw[show (1:Int)=((1:Nat):Int) from rfl,zqj];rfl
   rw[ec];refine laid hl1 λH1 S1 e1=>?_;refine⟨l1,_,rfl,.inl (SqL.of e1),λl2 hl2=>?_⟩;refine laid hl2 λH2 S2 e2=>?_;refine⟨sz2,λt ht=>?_⟩;refine q t l2 _ (S1.trans (S2.trans (zxa ht _))) (none_of S1 hl2) ?_ ?_
   ·rw[show chL wy (z::r)=r from if_neg h1];exact zxa ht _ _ _ e2
   ·rw[show chW wy (z::r)=z % wy from if_neg h1];exact zga
structure Hap where
 kd:Str
 th:Int
 av:V
def HapT (H:Hp)(v:V)(h:Hap):Prop:=∃a,v = .ref a∧H a=some (.tup [.str h.kd,.int h.th,h.av])
def OHap (H:Hp)(v:V):Option Hap->Prop
 | none=>v = .non
 | some h=>HapT H v h
theorem OHap.kp {H H':Hp}(s:Kp H H'){v:V}{o:Option Hap}(h:OHap H v o):OHap H' v o:=by
 cases o with
 | none=>exact h
 | some x =>
  obtain⟨a,e,h⟩:=h;exact⟨a,e,s.t h⟩
structure zbm (cs:List C20)(h:Hap):Prop where
 kd:h.kd∈zqb
 th:ThV cs h.kd h.th
 av:AmV h.kd h.av
inductive TuR (h:Hap)(num:Int):Str->Wv->Option Hap->Prop where
 | none:TuR h num "none" .non none
 | here:TuR h num "here" .non (some ⟨h.kd,num,h.av⟩)
 | less {m:Int} {i:Nat}:h.av = .int m->TuR h num "less" (.num i) (some ⟨h.kd,h.th,.int (if m-(i:Int)>0 then m-(i:Int) else 0)⟩)
 | more {m:Int} {i:Nat}:h.av = .int m->TuR h num "more" (.num i) (some ⟨h.kd,h.th,.int (m+(i:Int))⟩)
 | as {n:Str}:TuR h num "as" (.name n) (some ⟨n,h.th,h.av⟩)
theorem zsgb:∀kd∈zqb,("less":Str)∈turns kd->kd∉(["gain","lack"]:List Str):=by decide +kernel
theorem ztab:∀kd∈zqb,("more":Str)∈turns kd->kd∉(["gain","lack"]:List Str):=by decide +kernel
theorem zunb:∀kd∈zqb,("here":Str)∈turns kd->kd∉ztc:=by decide +kernel
theorem zxtb:∀kd∈zqb,("as":Str)∈turns kd->kd∈ztc:=by decide +kernel
theorem zvob:∀kd∈ztc,kd∈zqb:=by decide +kernel
theorem AmV.num {kd:Str}{v:V}(h:AmV kd v)(n:kd∉(["gain","lack"]:List Str)):∃z:Int,v = .int z∧0≤z:=by
 rcases h with⟨_,_,_,h⟩|⟨z,e,h,_⟩
 ·exact absurd h n
 ·exact⟨z,e,h⟩
theorem TuR.ok {cs:List C20}{h:Hap}{c:C20}{wd:Str}{z:Wv}{o:Option Hap}(a:TuR h c.num wd z o)(H:zbm cs h)(hc:c∈cs)(hw:wd∈turns h.kd)(ht:TurnOk wd z):∀h',o=some h'->zbm cs h':=by
 intro h' e;cases a with
 | none=>cases e
 | here =>
  cases e;exact⟨H.kd,.inr ⟨zunb _ H.kd hw,c,hc,rfl⟩,H.av⟩
 | less _ =>
  cases e;refine⟨H.kd,H.th,.inr ⟨_,rfl,?_,zsgb _ H.kd hw⟩⟩
  split<;>omega
 | @more m i em =>
  cases e;obtain⟨z,e,z0⟩:=H.av.num (ztab _ H.kd hw);rw[em] at e;injection e with e
  exact⟨H.kd,H.th,.inr ⟨_,rfl,by omega,ztab _ H.kd hw⟩⟩
 | as =>
  cases e;cases ht with
  | as hn =>
   have kp:=zxtb _ H.kd hw;obtain⟨z,e,z0⟩:=H.av.num (zqpb _ kp);refine⟨zvob _ hn,?_,.inr ⟨z,e,z0,zqpb _ hn⟩⟩
   rcases H.th with⟨_,a,b⟩|⟨n,_⟩
   ·exact .inl ⟨hn,a,b⟩
   ·exact absurd kp n
def zyeb:Sp:=λvs H Q _=>Ex5 λv (h:Hap) (wd:Str) (z:Wv) (num:Int)=>vs=[v,.str wd,valV z,.int num]∧HapT H v h∧h.kd∈zqb∧AmV h.kd h.av∧wd∈turns h.kd∧TurnOk wd z∧∀v' (o:Option Hap) H',Same H H'->TuR h num wd z o->OHap H' v' o->Q v' H'
def plM (cs:List C20)(th:Int):Int:=if th<0 then -1-th else ((rowOf (cs.map C20.row) th).map (·.keeper)).getD 0
def znkb:Sp:=λvs H Q _=>Ex5 λsl ss (cs:List C20) (kd:Str) (th:Int)=>vs=[.ref sl,.int th]∧H sl=some (.lst ss)∧zkd H ss (cs.map C20.row)∧C20s cs∧ThV cs kd th∧∀H',Same H H'->Q (.int (plM cs th)) H'
theorem zxob {cs:List C20}{th:Int}(h:th<0):plM cs th = -1-th:=if_pos h
theorem zwob {cs:List C20}(CS:C20s cs){c:C20}(hc:c∈cs):plM cs c.num=c.keeper:=by
 unfold plM;rw[if_neg (by have:=CS.n0 c hc;omega),zov CS.num hc];rfl
theorem ThV.cases {cs:List C20}{kd:Str}{th:Int}(h:ThV cs kd th):th<0∨∃c∈cs,th=c.num:=by
 rcases h with⟨_,_,h⟩|⟨_,h⟩
 ·exact .inl h
 ·exact .inr h
theorem zofb {ds:List C20}(nd:(ds.map (·.num)).Nodup){i j:Nat}{a b:C20}(ha:ds[i]?=some a)(hb:ds[j]?=some b)(e:a.num=b.num):i=j:=by
 obtain⟨hi,ea⟩:=yfa.mp ha;obtain⟨hj,eb⟩:=yfa.mp hb;have hi':i<(ds.map (·.num)).length:=by rw[yda];exact hi
 have hj':j<(ds.map (·.num)).length:=by rw[yda];exact hj
 refine (yqo (h₀:=hi') (h₁:=hj') nd).mp ?_;rw[yee,yee,ea,eb,e]
def zzeb (B D:Addr):Sp:=λvs H Q _=>Ex8 λll (nm:Str) ws (cs ds:List C20) (c:C20) (k:Nat) (q:Rule)=>vs=[.ref ll,.int c.num,.int (k:Int)]∧Lk B D nm H ll ws cs ds∧C20s cs∧c∈cs∧c.rules[k]?=some q∧∀v H',Same H H'->zsj D H' v q->Q v H'
theorem zwhb (T:Tx K mg):FnOk P w K mg base CX0 2 T.zvj.f T.zvj.d zzw zyeb:=by
 refine T.zvj.ok zrn ?_;rintro f c A o s H vs Q E hr ⟨v,h,wd,z,num,rfl,⟨a,rfl,e⟩,hd,hA,hw,hT,q⟩ X;refine⟨_,  (zba (zbs (pv 0) (znj (n:=3) rfl (zab (zua (i:=4) zrn.nd rfl (.inl rfl)) (zab (zua (i:=5) zrn.nd rfl (.inl rfl)) (zab (zua (i:=6) zrn.nd rfl (.inl rfl)) zbg)))))
  (zba (zwb (zma zqc (pv 1) zna (zwa _))
   (zda (zqa zcg))
   zsa)
  (zba (zwb (zma zqc (pv 1) zna (zwa _))
   (zda (zqa (zlb (zaa (pv 4) (zaa (pv 3) (zaa (pv 6) zca))))))
   zsa)
  (zba (zwb (zma zqc (pv 1) zna (zwa _))
   (zda (zqa (zlb (zaa (pv 4) (zaa (pv 5) (zaa (zkb (zojb rfl) rfl T.zakb boot_max (zaa zfa (zaa (zcc zbi (pv 6) (pv 2)) zca))) zca))))))
   zsa)
  (zba (zwb (zma zqc (pv 1) zna (zwa _))
   (zda (zqa (zlb (zaa (pv 4) (zaa (pv 5) (zaa (zcc zbh (pv 6) (pv 2)) zca))))))
   zsa)
  (zda (zqa (zlb (zaa (pv 2) (zaa (pv 5) (zaa (pv 6) zca))))))))))),?_⟩
 refine⟨_,rfl,a,_,rfl,SqT.of e,rfl,_,_,rfl,_,_,rfl,_,_,rfl,rfl,?_⟩;cases hT with
 | none=>exact⟨_,rfl,rfl,_,rfl,iteT (q _ _ H (Same.refl _) .none rfl)⟩
 | here =>
  refine⟨_,rfl,rfl,_,rfl,iteF ⟨_,rfl,rfl,_,rfl,iteT ?_⟩⟩;exact⟨_,rfl,_,rfl,_,rfl,sz3,λt ht=>q _ _ _ (zxa ht _) .here ⟨t,rfl,zga⟩⟩
 | less hk =>
  obtain⟨m,em,_⟩:=hA.num (zsgb _ hd hw);rw[em];refine⟨_,rfl,rfl,_,rfl,iteF ⟨_,rfl,rfl,_,rfl,iteF ⟨_,rfl,rfl,_,rfl,iteT ?_⟩⟩⟩;exact⟨_,rfl,_,rfl,_,rfl,_,rfl,_,_,rfl,rfl,_,_,rfl,sz3,λt ht=>q _ _ _ (zxa ht _) (.less em) ⟨t,rfl,zga⟩⟩
 | more hk =>
  obtain⟨m,em,_⟩:=hA.num (ztab _ hd hw);rw[em];refine⟨_,rfl,rfl,_,rfl,iteF ⟨_,rfl,rfl,_,rfl,iteF ⟨_,rfl,rfl,_,rfl,iteF ⟨_,rfl,rfl,_,rfl,iteT ?_⟩⟩⟩⟩;exact⟨_,rfl,_,rfl,_,rfl,_,rfl,_,_,rfl,rfl,sz3,λt ht=>q _ _ _ (zxa ht _) (.more em) ⟨t,rfl,zga⟩⟩
 | as hu =>
  refine⟨_,rfl,rfl,_,rfl,iteF ⟨_,rfl,rfl,_,rfl,iteF ⟨_,rfl,rfl,_,rfl,iteF ⟨_,rfl,rfl,_,rfl,iteF ?_⟩⟩⟩⟩;exact⟨_,rfl,_,rfl,_,rfl,sz3,λt ht=>q _ _ _ (zxa ht _) .as ⟨t,rfl,zga⟩⟩
theorem zpy (T:Tx K mg):FnOk P w K mg base CX0 3 T.zbf.f T.zbf.d zbn znkb:=by
 refine T.zbf.ok zxx ?_;rintro f c A o s H vs Q E hr ⟨sl,ss,cs,kd,th,rfl,es,RW,CS,hth,q⟩ X;refine⟨_,  (zba (zwb (zma zklb (pv 1) zfa (zwa _))
   (zda (zqa (zcc zbi (zdlb zidb zfa) (pv 1))))
   zsa)
  (zda (zqa (zjb zyb (zja (zks T) hr rfl T.ztf.m T.ztf.F.kp (zuw T) .nil zva (zaa (pv 0) (zaa (pv 1) zca))) zfa (λ_ _=>rfl))))),?_⟩
 refine⟨_,rfl,_,_,rfl,rfl,_,rfl,?_⟩
 rcases hth.cases with n|⟨c,hc,rfl⟩
 ·refine ite2 (λc=>?_) (λc=>absurd (decide_eq_true n) c);refine⟨_,rfl,_,rfl,_,_,rfl,rfl,?_⟩;have z:=q H (Same.refl _);rw[zxob n] at z;exact z
 ·refine ite2 (λc=>absurd (of_decide_eq_true c) (by have:=CS.n0 _ hc;omega)) (λ_=>?_);refine⟨_,rfl,_,rfl,sl,ss,cs.map C20.row,c.num,rfl,es,RW,λrv hrv=>?_⟩;rw[zov CS.num hc] at hrv;obtain⟨ra,rm,rfl,hra,_⟩:=(show zll H rv c.row from hrv);refine⟨ra,_,_,_,rfl,rfl,SqT.of hra,zia (j:=1) rfl,?_⟩;have z:=q H (Same.refl _);rw[zwob CS hc] at z;exact z
theorem znfb (T:Tx K mg):FnOk P w K mg base CX0 2 T.zuh.f T.zuh.d zjt (zzeb T.zpf T.ztb):=by
 refine T.zuh.ok ziu ?_;rintro f c A o s H vs Q E hr ⟨ll,nm,us,cs,ds,r,k,qr,rfl,LK,CS,hc,eq,q⟩ X;have LY:=LK.al;have el:=LK.at_;have nd:(ds.map (·.num)).Nodup:=(LK.perm.map _).nodup_iff.mpr CS.num;obtain⟨i,er⟩:=yvm (LK.perm.mem_iff.mpr hc);have ul:=LY.len;have il:i<us.length:=by
  rw[ul];exact (yfa.mp er).1
 have eu:=yqa il;obtain⟨r',er',a,tm,c,eua,ea,em,ca,dx,mm,tt,vs,rfl,hcd,hm,ht,IR⟩:=LY.get eu;rw[er] at er';cases er';have IR':IsRules T.ztb H vs r.rules:=IR;refine⟨_,  (zba (znhb (i:=3) ziu.nd rfl (.inl rfl) (own:=["row"]) (cap:=["number"]) rfl (zpc.chk rfl rfl) (.cons (j:=1) rfl (.inl rfl) (.inl rfl) .nil) (zzd (pv 0)) (λ_ _ _ _=>(zua (i:=0) (show yfd (["row","number"]:List Str) by decide +kernel) rfl (.inl rfl))) (λ_ _ _ _=>zbl (zma zqc (zjb (zmh K) (pv 0) zfa (λ_ _=>rfl)) (pv 1) (zwa _))) (λ_ _ _ _=>by exact (zbpb K (zjb (zmh K) (pv 0) zfa (λ_ _=>rfl)) rfl)))
  (zda (zqa (zjb zyb (zjb zkc (pv 3) zfa (λ_ _=>rfl)) (pv 2) (λ_ _=>rfl))))),?_⟩
 refine⟨_,rfl,ll,rfl,⟨_,SqL.of el⟩,?_⟩;refine zne (xs:=us) (λj ys H'=>H'=H∧ys=if i<j then [V.ref tt] else []) (λj ys H' z=>by rw[z.1];exact SqL.of el) ⟨rfl,rfl⟩ ?_ ?_ ?_
 ·rintro j ys H' ⟨_,rfl⟩
  split
  ·exact small (by show 1≤1000;decide)
  ·exact small (by show 0≤1000;decide)
 ·rintro j u ys H' hu ⟨rfl,rfl⟩
  by_cases ej:j=i
  ·subst ej;rw[eu] at hu;cases hu;rw[eua];refine⟨rfl,_,rfl,a,_,_,_,rfl,rfl,SqT.of ea,zia (j:=0) rfl,_,rfl,rfl,_,rfl,?_⟩;have t1:decide (V.int r.num=V.int r.num)=true:=decide_eq_true rfl;dsimp only;rw[if_pos t1];refine⟨_,rfl,a,_,_,_,rfl,rfl,SqT.of ea,zia (j:=1) rfl,ca,_,dx,_,_,rfl,hcd,T.zil,T.zof,zcv _ _ _ _ _,rfl,?_⟩;rw[if_neg (yrd _),if_pos (yfg _)];rfl
  ·obtain⟨r2,er2,a2,tm2,c2,rfl,ea2,_⟩:=LY.get hu;refine⟨rfl,_,rfl,a2,_,_,_,rfl,rfl,SqT.of ea2,zia (j:=0) rfl,_,rfl,rfl,_,rfl,?_⟩;dsimp only;rw[if_neg (λz=>ej ?_)]
   ·refine⟨rfl,?_⟩
    by_cases z:i<j
    ·rw[if_pos z,if_pos (by omega)]
    ·rw[if_neg z,if_neg (by omega)]
   ·have z':=of_decide_eq_true z;injection z' with z'
    exact zofb nd er2 er z'
 ·rintro ys H' ⟨rfl,rfl⟩ p hp;rw[if_pos il];refine laid hp λH2 S2 e2=>?_;have kl:k<vs.length:=by
   rw[IR'.length];exact (yfa.mp eq).1
  have ek:=yqa kl;obtain⟨q2,eq2,ir⟩:=IR'.get ek;rw[eq] at eq2;cases eq2;exact⟨_,rfl,p,_,_,_,rfl,rfl,SqL.of e2,zia (j:=0) rfl,_,rfl,tt,_,_,_,rfl,rfl,SqT.of (S2 _ _ ht),zia ek,q _ _ S2 (ir.same S2)⟩
theorem zlsb {cs:List C20}(nd:(cs.map (·.num)).Nodup){c d:C20}(hc:c∈cs)(hd:d∈cs)(e:c.num=d.num):c=d:=by
 induction cs with
 | nil=>cases hc
 | cons x r ih =>
  rw[yva,yse] at nd
  rcases yja.mp hc with h|h<;>rcases yja.mp hd with g|g
  ·rw[h,g]
  ·exact absurd (ydb.mpr ⟨d,g,by rw[← e,h]⟩) nd.1
  ·exact absurd (ydb.mpr ⟨c,h,by rw[e,g]⟩) nd.1
  ·exact ih nd.2 h g
structure S21 where
 hap:Option Hap
 used:List (List Int)
 left:List Int
 trail:List (Int×Int×Int×Option Hap)
def rulD (cs:List C20)(h:Hap)(used:List (List Int)):List (List Int):=cs.flatMap (dueC (rowOf (cs.map C20.row) h.th) h.kd h.th used)
def Ruls (cs:List C20)(o:Option Hap)(used ms:List (List Int)):Prop:=match o with
 | none=>ms=[]
 | some h=>ms.Perm (rulD cs h used)∧ms.Pairwise (· < ·)
inductive Stp (cs:List C20):S21->S21->Prop where
 | mk {h:Hap} {used ms:List (List Int)} {left:List Int} {trail:List (Int×Int×Int×Option Hap)} {c:C20} {i:Nat} {wd:Str} {y:Wh} {z:Wv} {o:Option Hap}:Ruls cs (some h) used ms->ms[(chW (ms.length:Int) left).toNat]?=some (dut c i)->c∈cs->c.rules[i]?=some (.instead h.kd y wd z)->[c.num,(i:Int)]∉used->TuR h c.num wd z o->Stp cs ⟨some h,used,left,trail⟩ ⟨o,used++[[c.num,(i:Int)]],chL (ms.length:Int) left,trail++[(plM cs h.th,c.num,(i:Int),o)]⟩
inductive Run (cs:List C20):S21->S21->Prop where
 | refl (s:S21):Run cs s s
 | head {s t u:S21}:Stp cs s t->Run cs t u->Run cs s u
theorem Run.snoc {cs:List C20}{s t u:S21}(r:Run cs s t)(p:Stp cs t u):Run cs s u:=by
 induction r with
 | refl=>exact .head p (.refl _)
 | head q _ ih=>exact .head q (ih p)
def zuqb (cs:List C20)(s:S21):Prop:=Ruls cs s.hap s.used []
theorem zdeb {cs:List C20}{h:Hap}{used:List (List Int)}{m:List Int}(hm:m∈rulD cs h used):∃c∈cs,Ex4 λ(i:Nat) (y:Wh) (wd:Str) (z:Wv)=>m=dut c i∧c.rules[i]?=some (.instead h.kd y wd z)∧[c.num,(i:Int)]∉used:=by
 obtain⟨c,hc,hm⟩:=yeh.mp hm;obtain⟨i,hi,e⟩:=ydb.mp hm;obtain⟨hp,hu⟩:=yjg.mp hi;obtain⟨_,hh⟩:=yjg.mp hp;cases er:c.rules[i]? with
 | none=>rw[er] at hh;cases hh
 | some r =>
  rw[er] at hh;have hh':hitR (rowOf (cs.map C20.row) h.th) h.kd h.th c r=true:=hh;cases r with
  | instead k y wd z =>
   have e2:(decide (k=h.kd)&&_)=true:=hh';rw[yec] at e2;have ek:=of_decide_eq_true e2.1;refine⟨c,hc,i,y,wd,z,e.symm,by rw[er,ek],λz=>?_⟩;unfold usd at hu;rw[decide_eq_true z] at hu;cases hu
  | _=>cases hh'
def allP (cs:List C20):List (List Int):=cs.flatMap λc=>(yoe c.rules.length).map λi:Nat=>[c.num,(i:Int)]
theorem zumb {cs:List C20}(CS:C20s cs):(allP cs).length≤18:=by
 have a:(allP cs).length≤3*cs.length:=zqe λc hc=>by
  rw[yda,ytf];exact CS.few c hc
 have b:=CS.hi;omega
structure UsOk (cs:List C20)(used:List (List Int)):Prop where
 nd:used.Nodup
 mem:∀x∈used,x∈allP cs
theorem UsOk.len {cs:List C20}(CS:C20s cs){used:List (List Int)}(h:UsOk cs used):used.length≤18:=yxa (yfd.length_le_of_subset h.nd λd hd=>h.mem d hd) (zumb CS)
theorem UsOk.snoc {cs:List C20}{used:List (List Int)}(h:UsOk cs used){c:C20}(hc:c∈cs){i:Nat}{r:Rule}(er:c.rules[i]?=some r)(n:[c.num,(i:Int)]∉used):UsOk cs (used++[[c.num,(i:Int)]]):=by
 refine⟨?_,λx hx=>?_⟩
 ·rw[yci];refine⟨h.nd,yje _ _,λa ha b hb z=>?_⟩;rw[yia.mp hb] at z;rw[z] at ha;exact n ha
 ·rcases yeb.mp hx with z|z
  ·exact h.mem x z
  ·rw[yia.mp z];exact yeh.mpr ⟨c,hc,ydb.mpr ⟨i,ywm.mpr (yfa.mp er).1,rfl⟩⟩
theorem zttb {w:Int}(h:0<w)(zs:List Int):0≤chW w zs∧chW w zs<w:=by
 cases zs with
 | nil=>exact⟨ygn _,h⟩
 | cons z r =>
  show 0≤(if w=1 then 0 else z % w)∧(if w=1 then 0 else z % w)<w
  split
  ·omega
  ·exact zdo z h
structure SOk (cs:List C20)(s:S21):Prop where
 hap:∀h',s.hap=some h'->zbm cs h'
 tr:∀x∈s.trail,∀h',x.2.2.2=some h'->zbm cs h'
 len:s.trail.length≤18
def TrT (H:Hp)(v:V)(x:Int×Int×Int×Option Hap):Prop:=Ex2 λa ov=>v = .ref a∧H a=some (.tup [.int x.1,.int x.2.1,.int x.2.2.1,ov])∧OHap H ov x.2.2.2
theorem TrT.kp {H H':Hp}(s:Kp H H'){v:V}{x:Int×Int×Int×Option Hap}(h:TrT H v x):TrT H' v x:=by
 obtain⟨a,ov,e,h1,h2⟩:=h;exact⟨a,ov,e,s.t h1,h2.kp s⟩
def zgub (B D:Addr):Sp:=λvs H Q _=>Ex11 λll sl ha cl (nm:Str) ws ss (cs ds:List C20) (h:Hap) (zs:List Int)=>vs=[.ref ll,.ref sl,.ref ha,.ref cl]∧Lk B D nm H ll ws cs ds∧C20s cs∧(∀c∈cs,∀r∈c.rules,r.ok)∧H sl=some (.lst ss)∧zkd H ss (cs.map C20.row)∧H ha=some (.tup [.str h.kd,.int h.th,h.av])∧zbm cs h∧H cl=some (.lst (zs.map V.int))∧∀t tl lf ov tv (s:S21) H',Same H H'->H' t=some (.tup [.ref tl,ov,.ref lf])->H tl=none->H lf=none->H' tl=some (.lst tv)->All2 (TrT H') tv s.trail->OHap H' ov s.hap->H' lf=some (.lst (s.left.map V.int))->Run cs ⟨some h,[],zs,[]⟩ s->zuqb cs s->SOk cs s->Q (.ref t) H'
theorem zls (T:Tx K mg):FnOk P w K mg base CX0 24 T.znd.f T.znd.d zjj (zgub T.zpf T.ztb):=by
 refine T.znd.ok zmb ?_;rintro f c A o s H vs Q E hr ⟨ll,sl,ha,cl,nm,ws,ss,cs,ds,h0,zs,rfl,LK,CS,ROK,es,RW,eh,HOK,ec,q⟩ X;refine⟨_,  (zba (zoa (i:=4) zmb.nd rfl (.inl rfl) (zuc zca))
  (zba (zoa (i:=5) zmb.nd rfl (.inl rfl) (zuc zca))
  (zba (zoa (i:=6) zmb.nd rfl (.inl rfl) (zyd zbj rfl T.zbr ynp (zaa (pv 3) zca)))
  (zba (zoa (i:=7) zmb.nd rfl (.inl rfl) (zja (zsi T) hr rfl T.zsc.m T.zsc.F.kp (zek T) .nil zva (zaa (pv 0) (zaa (pv 1) (zaa (pv 2) (zaa (pv 5) zca))))))
  (zba (zrdb yxb (zpv (pv 7) (λ_=>rfl))
   (zba (zoa (i:=8) zmb.nd rfl (.inl rfl) (zja (zpy T).up hr rfl T.zbf.m T.zbf.F.kp (zbcb T) .nil zva (zaa (pv 1) (zaa (zjb zyb (pv 2) zfa (λ_ _=>rfl)) zca))))
   (zba (zbs (zja (zxhb T).up hr rfl T.zwj.m T.zwj.F.kp (ztmb T) .nil zva (zaa (zkb zdb rfl T.zsf ymb (zaa (pv 7) zca)) (zaa (pv 6) zca))) (znj (n:=2) rfl (zab (zua (i:=9) zmb.nd rfl (.inl rfl)) (zab (zua (i:=6) zmb.nd rfl (.inl rfl)) zbg))))
   (zba (zbs (zjb zkc (pv 7) (pv 9) (λ_ _=>rfl)) (znj (n:=3) rfl (zab (zua (i:=10) zmb.nd rfl (.inl rfl)) (zab (zua (i:=11) zmb.nd rfl (.inl rfl)) (zab (zua (i:=12) zmb.nd rfl (.inl rfl)) zbg)))))
   (zba (zoa (i:=13) zmb.nd rfl (.inl rfl) (zja (znfb T).up hr rfl T.zuh.m T.zuh.F.kp (zujb T) .nil zva (zaa (pv 0) (zaa (pv 11) (zaa (pv 12) zca)))))
   (zba (zoa (i:=2) zmb.nd rfl (.inl rfl) (zja (zwhb T).up hr rfl T.zvj.m T.zvj.F.kp (zsmb T) .nil zva (zaa (pv 2) (zaa (zjb zyb (pv 13) zfa (λ_ _=>rfl)) (zaa (zjb zyb (pv 13) zfa (λ_ _=>rfl)) (zaa (pv 11) zca))))))
   (zba (zod (zai ycb yya yza zzc (pv 5) (zaa (zlb (zaa (pv 11) (zaa (pv 12) zca))) zca)))
   (zba (zod (zai ycb yya yza zzc (pv 4) (zaa (zlb (zaa (pv 8) (zaa (pv 11) (zaa (pv 12) (zaa (pv 2) zca))))) zca)))
   (zda (zoa (i:=7) zmb.nd rfl (.inl rfl) (zflb (zma zjy (pv 2) zcg (zwa _)) (zuc zca) (zja (zsi T) hr rfl T.zsc.m T.zsc.F.kp (zek T) .nil zva (zaa (pv 0) (zaa (pv 1) (zaa (pv 2) (zaa (pv 5) zca))))))))))))))))
  (zda (zqa (zlb (zaa (pv 4) (zaa (pv 2) (zaa (pv 6) zca))))))))))),?_⟩
 refine⟨sz0,λtl htl=>?_⟩;refine laid htl λH1 S1 e1=>?_;refine⟨sz0,λul hul=>?_⟩;have ntu:tl≠ul:=zka e1 hul;refine laid hul λH2 S2 e2=>?_;have S02:=S1.trans S2;refine⟨_,rfl,cl,_,rfl,.inl (SqL.of (S02 _ _ ec)),λlf0 hlf0=>?_⟩;have nlt:lf0≠tl:=ysb (zka (S2 _ _ e1) hlf0);have nlu:lf0≠ul:=ysb (zka e2 hlf0);refine laid hlf0 λH3 S3 e3=>?_;have S03:=S02.trans S3;refine⟨_,rfl,_,rfl,_,rfl,_,rfl,ll,sl,ha,ul,nm,ws,ss,[],cs,ds,h0.kd,h0.th,h0.av,[],rfl,⟨S03 _ _ LK.at_,LK.al.imp λz=>z.kp (Kp.same S03),LK.perm⟩,CS,ROK,S03 _ _ es,RW.map λ_ _ z=>z.same S03,S03 _ _ eh,S3 _ _ e2,.nil,λrl0 rv0 ms0 H4 S4 _ er0 RA0 pm0 so0=>?_⟩;have S04:=S03.trans S4;obtain⟨W,hW⟩:∃W:Nat->L2.St->Hp->Prop,W=λm σ H'=>Ex14 λ(s:S21) hv tv uv rv ms lf rl o8 o9 o10 o11 o12 o13=>m=18-s.used.length∧σ=[some (.ref ll),some (.ref sl),some hv,some (.ref cl),some (.ref tl),some (.ref ul),some (.ref lf),some (.ref rl),o8,o9,o10,o11,o12,o13]∧H' tl=some (.lst tv)∧All2 (TrT H') tv s.trail∧H' ul=some (.lst uv)∧All2 (ItT H') uv s.used∧H' lf=some (.lst (s.left.map V.int))∧H' rl=some (.lst rv)∧All2 (ItT H') rv ms∧Ruls cs s.hap s.used ms∧OHap H' hv s.hap∧Run cs ⟨some h0,[],zs,[]⟩ s∧UsOk cs s.used∧(∀h',s.hap=some h'->zbm cs h')∧(∀x∈s.trail,∀h',x.2.2.2=some h'->zbm cs h')∧s.trail.length=s.used.length∧Same H H'∧H lf=none∧lf≠tl∧lf≠ul:=⟨_,rfl⟩;refine⟨W,⟨_,by rw[hW];exact⟨⟨some h0,[],zs,[]⟩,_,[],[],rv0,ms0,lf0,rl0,_,_,_,_,_,_,rfl,rfl,(S2.trans (S3.trans S4)) _ _ e1,.nil,(S3.trans S4) _ _ e2,.nil,S4 _ _ e3,er0,RA0,⟨pm0,so0⟩,⟨ha,rfl,S04 _ _ eh⟩,.refl _,⟨.nil,by simp⟩,λh' e=>by injection e with e;rw[← e];exact HOK,by simp,rfl,S04,none_of S02 hlf0,nlt,nlu⟩⟩,?_⟩;intro m σ H5 hw;rw[hW] at hw;obtain⟨s,hv,tv,uv,rv,ms,lf,rl,o8,o9,o10,o11,o12,o13,rfl,rfl,et,TR,eu,US,el,er,RA,RU,OH,RN,UO,HO,TO,tlen,S5,nlf,nlt',nlu'⟩:=hw;have u18:=UO.len CS;have ral:=RA.len;have tvl:=TR.len;have uvl:=US.len;refine⟨_,rfl,_,.inl ⟨_,SqL.of er,rfl⟩,?_⟩;refine ite2 (λne=>?_) (λne=>?_)
 ·have rne:rv.length≠0:=λz=>by
   rw[yhe.mp z] at ne;cases ne
  obtain⟨h,hh⟩:∃h,s.hap=some h:=by
   cases e:s.hap with
   | none =>
    rw[e] at RU;have:ms=[]:=RU;rw[this] at ral;exact absurd ral rne
   | some h=>exact⟨h,rfl⟩
  rw[hh] at RU OH;obtain⟨hd,rfl,ehd⟩:=id (show HapT H5 hv h from OH);have hok:=HO h hh;refine⟨fun σ' H'=>∃m',m'<18-s.used.length∧W m' σ' H',λ_ _ z=>z,?_⟩;refine⟨_,rfl,_,rfl,hd,_,_,_,rfl,rfl,SqT.of ehd,zia (j:=1) rfl,sl,ss,cs,h.kd,h.th,rfl,S5 _ _ es,RW.map λ_ _ z=>z.same S5,CS,hok.th,λH6 S6=>?_⟩;refine⟨_,rfl,rl,_,rfl,.inl (SqL.of (S6 _ _ er)),_,rfl,lf,(rv.length:Int),s.left,rfl,by omega,S6 _ _ el,λct l2 H7 S7 nl2 el2 ect=>?_⟩;have S57:=S6.trans S7;have nl2t:l2≠tl:=ysb (zka (S6 _ _ et) nl2);have nl2u:l2≠ul:=ysb (zka (S6 _ _ eu) nl2);have nl2H:H l2=none:=none_of (S5.trans S6) nl2;refine⟨ct,_,rfl,SqT.of ect,rfl,_,_,rfl,_,_,rfl,rfl,?_⟩;have wl:=zttb (w:=(rv.length:Int)) (by omega) s.left;obtain⟨v,hav,mv⟩:=zoo (xs:=rv) wl.1 wl.2;obtain⟨n,hn⟩:∃n:Nat,chW (rv.length:Int) s.left=(n:Int):=⟨(chW (rv.length:Int) s.left).toNat,by omega⟩;have hnl:n<rv.length:=by omega
  have ev:rv[n]?=some v:=by
   have e2:=yqa hnl;have e3:=zia e2;rw[← hn,hav] at e3;rw[e2,← e3]
  obtain⟨mm,emm,imm⟩:=RA.get ev;obtain⟨c,hc,i,y,wd,z,rfl,eri,nus⟩:=zdeb (RU.1.mem_iff.mp (ykb emm));obtain⟨ra,rfl,era⟩:=imm;refine⟨_,rfl,_,rfl,rl,_,_,_,rfl,rfl,SqL.of (S57 _ _ er),hav,ra,_,rfl,SqT.of (S57 _ _ era),rfl,_,_,rfl,_,_,rfl,_,_,rfl,rfl,?_⟩;have S07:=S5.trans S57;refine⟨_,rfl,_,rfl,_,rfl,ll,nm,ws,cs,ds,c,i,_,rfl,⟨S07 _ _ LK.at_,LK.al.imp λz=>z.kp (Kp.same S07),LK.perm⟩,CS,hc,eri,λrv' H8 S8 IR=>?_⟩;obtain⟨b,x,rfl,eb,_⟩:=IR;have rok:_∧_∧wd∈turns h.kd∧TurnOk wd z:=ROK c hc _ (ykb eri);have S58:=S57.trans S8;refine⟨_,rfl,_,rfl,b,_,_,_,rfl,rfl,SqT.of eb,zia (j:=3) rfl,_,rfl,b,_,_,_,rfl,rfl,SqT.of eb,zia (j:=4) rfl,_,rfl,.ref hd,h,wd,z,c.num,rfl,⟨hd,rfl,S58 _ _ ehd⟩,hok.kd,hok.av,rok.2.2.1,rok.2.2.2,λv' o H9 S9 tu oh=>?_⟩;have S59:=S58.trans S9;have eu9:=S59 _ _ eu;refine⟨_,rfl,.inl ⟨rfl,_,SqL.of eu9⟩,_,rfl,_,rfl,sz2,λn1 hn1=>?_⟩;refine laid hn1 λHa Sa ea=>?_;have eua:=Sa _ _ eu9;refine⟨ul,_,_,rfl,rfl,eua,zjc (by omega),?_⟩;have kpa:Kp Ha (upd Ha ul (.lst (uv++[V.ref n1]))):=Kp.put eua;have k5b:Kp H5 (upd Ha ul (.lst (uv++[V.ref n1]))):=(Kp.same (S59.trans Sa)).trans kpa;have Sb0:Same H (upd Ha ul (.lst (uv++[V.ref n1]))):=zae (S5.trans (S59.trans Sa)) (none_of S1 hul) _;have eub:upd Ha ul (.lst (uv++[V.ref n1])) ul=some (.lst (uv++[V.ref n1])):=zga;have etb:upd Ha ul (.lst (uv++[V.ref n1])) tl=some (.lst tv):=(zza ntu).trans (Sa _ _ (S59 _ _ et));have elb:upd Ha ul (.lst (uv++[V.ref n1])) l2=some (.lst ((chL (rv.length:Int) s.left).map V.int)):=(zza nl2u).trans ((S8.trans (S9.trans Sa)) _ _ el2);have USb:All2 (ItT (upd Ha ul (.lst (uv++[V.ref n1])))) (uv++[V.ref n1]) (s.used++[[c.num,(i:Int)]]):=All2.snoc (b:=[c.num,(i:Int)]) (ItT.kp kpa ⟨n1,rfl,ea⟩) (US.imp λz=>z.kp k5b);have ohb:OHap (upd Ha ul (.lst (uv++[V.ref n1]))) v' o:=oh.kp ((Kp.same Sa).trans kpa);generalize upd Ha ul (.lst (uv++[V.ref n1]))=Hb at k5b Sb0 eub etb elb USb ohb ⊢;refine⟨_,rfl,.inl ⟨rfl,_,SqL.of etb⟩,_,rfl,_,rfl,_,rfl,_,rfl,sz4,λn2 hn2=>?_⟩;refine laid hn2 λHc Sc ec'=>?_;have etc:=Sc _ _ etb;refine⟨tl,_,_,rfl,rfl,etc,zjc (by omega),?_⟩;have kpc:Kp Hc (upd Hc tl (.lst (tv++[V.ref n2]))):=Kp.put etc;have kbd:Kp Hb (upd Hc tl (.lst (tv++[V.ref n2]))):=(Kp.same Sc).trans kpc;have Sd0:Same H (upd Hc tl (.lst (tv++[V.ref n2]))):=zae (Sb0.trans Sc) htl _;have etd:upd Hc tl (.lst (tv++[V.ref n2])) tl=some (.lst (tv++[V.ref n2])):=zga;have eud:upd Hc tl (.lst (tv++[V.ref n2])) ul=some (.lst (uv++[V.ref n1])):=(zza (ysb ntu)).trans (Sc _ _ eub);have eld:upd Hc tl (.lst (tv++[V.ref n2])) l2=some (.lst ((chL (rv.length:Int) s.left).map V.int)):=(zza nl2t).trans (Sc _ _ elb);have USd:All2 (ItT (upd Hc tl (.lst (tv++[V.ref n2])))) (uv++[V.ref n1]) (s.used++[[c.num,(i:Int)]]):=USb.imp λz=>z.kp kbd;have TRd:All2 (TrT (upd Hc tl (.lst (tv++[V.ref n2])))) (tv++[V.ref n2]) (s.trail++[(plM cs h.th,c.num,(i:Int),o)]):=All2.snoc (TrT.kp kpc ⟨n2,v',rfl,ec',ohb.kp (Kp.same Sc)⟩) (TR.imp λz=>z.kp (k5b.trans kbd));have ohd:OHap (upd Hc tl (.lst (tv++[V.ref n2]))) v' o:=ohb.kp kbd;generalize upd Hc tl (.lst (tv++[V.ref n2]))=Hd at Sd0 etd eud eld USd TRd ohd ⊢;have hls:s=⟨some h,s.used,s.left,s.trail⟩:=by rw[← hh]
  have emc:ms[(chW (ms.length:Int) s.left).toNat]?=some (dut c i):=by
   rw[← ral,hn];exact emm
  have RN':Run cs ⟨some h0,[],zs,[]⟩ ⟨o,s.used++[[c.num,(i:Int)]],chL (rv.length:Int) s.left,s.trail++[(plM cs h.th,c.num,(i:Int),o)]⟩:=by
   rw[hls] at RN;rw[ral];exact RN.snoc (.mk RU emc hc eri nus tu)
  have UO':=UO.snoc hc eri nus;have u18':=UO'.len CS;rw[yea,yad] at u18';have HO':=tu.ok hok hc rok.2.2.1 rok.2.2.2;have TO':∀x∈s.trail++[(plM cs h.th,c.num,(i:Int),o)],∀h',x.2.2.2=some h'->zbm cs h':=λx hx h' e=>by
   rcases yeb.mp hx with z|z
   ·exact TO x z h' e
   ·rw[yia.mp z] at e;exact HO' h' e
  have fin:∀rl' (rv':(List V)) ms' He o8 o9 o10 o11 o12 o13,Same Hd He->He rl'=some (.lst rv')->All2 (ItT He) rv' ms'->Ruls cs o (s.used++[[c.num,(i:Int)]]) ms'->∃m',m'<18-s.used.length∧W m' [some (.ref ll),some (.ref sl),some v',some (.ref cl),some (.ref tl),some (.ref ul),some (.ref l2),some (.ref rl'),o8,o9,o10,o11,o12,o13] He:=λrl' rv' ms' He o8 o9 o10 o11 o12 o13 Se e1 e2 e3=>by
   refine⟨18-(s.used.length+1),by omega,?_⟩;rw[hW];exact⟨⟨o,s.used++[[c.num,(i:Int)]],chL (rv.length:Int) s.left,s.trail++[(plM cs h.th,c.num,(i:Int),o)]⟩,v',tv++[V.ref n2],uv++[V.ref n1],rv',ms',l2,rl',o8,o9,o10,o11,o12,o13,by rw[yea,yad],rfl,Se _ _ etd,TRd.imp λz=>z.kp (Kp.same Se),Se _ _ eud,USd.imp λz=>z.kp (Kp.same Se),Se _ _ eld,e1,e2,e3,ohd.kp (Kp.same Se),RN',UO',HO',TO',by rw[yea,yea,tlen];rfl,Sd0.trans Se,nl2H,nl2t,nl2u⟩
  cases o with
  | none =>
   have ev':v' = .non:=ohd;subst ev';refine⟨_,rfl,rfl,_,rfl,iteT ⟨sz0,λrl' hrl'=>?_⟩⟩;refine laid hrl' λHe Se ee=>?_;exact fin rl' [] [] He _ _ _ _ _ _ Se ee .nil rfl
  | some h' =>
   obtain⟨hd',rfl,ehd'⟩:=id (show HapT Hd v' h' from ohd);refine⟨_,rfl,rfl,_,rfl,iteF ?_⟩;refine⟨_,rfl,_,rfl,_,rfl,_,rfl,ll,sl,hd',ul,nm,ws,ss,_,cs,ds,h'.kd,h'.th,h'.av,_,rfl,⟨Sd0 _ _ LK.at_,LK.al.imp λz=>z.kp (Kp.same Sd0),LK.perm⟩,CS,ROK,Sd0 _ _ es,RW.map λ_ _ z=>z.same Sd0,ehd',eud,USd,λrl' rv' ms' He Se _ er' RA' pm' so'=>?_⟩;exact fin rl' rv' ms' He _ _ _ _ _ _ Se er' RA' ⟨pm',so'⟩
 ·have rnil:rv=[]:=by
   cases rv with
   | nil=>rfl
   | cons _ _=>exact absurd rfl ne
  subst rnil;have mnil:ms=[]:=yhe.mp ral.symm;subst mnil;refine⟨_,rfl,_,rfl,_,rfl,sz3,λt ht=>?_⟩;refine laid ht λH6 S6 e6=>?_;exact q t tl lf hv tv s H6 (S5.trans S6) e6 htl nlf (S6 _ _ et) (TR.imp λz=>z.kp (Kp.same S6)) (OH.kp (Kp.same S6)) (S6 _ _ el) RN RU ⟨HO,TO,by omega⟩
theorem zgib {t:Str}(h:∀c∈t.cps.toList,c≤122):yrb (.str t)=true:=by
 rw[yrb];unfold PyData.strOk;rw[Array.all_eq_true'];intro c hc;have:=h c (by simpa using hc);simp;omega
theorem zylb:∀k∈zqb,∀c∈k.cps.toList,c≤122:=by decide +kernel
def avD:V->PyData
 | .int z=>.int z
 | .str n=>.str n
 | _=>.none
def hapD:Option Hap->PyData
 | none=>.none
 | some h=>.tuple [.str h.kd,.int h.th,avD h.av]
def trD (x:Int×Int×Int×Option Hap):PyData:=.tuple [.int x.1,.int x.2.1,.int x.2.2.1,hapD x.2.2.2]
theorem zjpb {K:yba}{H:Hp}{v:V}{o:Option Hap}{cs:List C20}(h:OHap H v o)(ok:∀h',o=some h'->zbm cs h'):DV K H v (hapD o):=by
 cases o with
 | none =>
  have e:v = .non:=h;rw[e];exact .non
 | some x =>
  obtain⟨a,rfl,e⟩:=h;refine .tup (SqT.of e) (.cons (.str _) (.cons (.int _) (.cons ?_ .nil)))
  rcases (ok x rfl).av with⟨n,e,_⟩|⟨z,e,_⟩
  ·rw[e];exact .str n
  ·rw[e];exact .int z
theorem zzqb {K:yba}{H:Hp}{cs:List C20}{tv:List V}{tr:List (Int×Int×Int×Option Hap)}(z:All2 (TrT H) tv tr)(ok:∀x∈tr,∀h',x.2.2.2=some h'->zbm cs h'):DVs K H tv (tr.map trD):=by
 induction z with
 | nil=>exact .nil
 | cons h _ ih =>
  obtain⟨a,ov,rfl,e,oh⟩:=h;exact .cons (.tup (SqT.of e) (.cons (.int _) (.cons (.int _) (.cons (.int _) (.cons (zjpb oh (ok _ yka)) .nil))))) (ih λx hx=>ok x (yna _ hx))
theorem zvib {cs:List C20}{o:Option Hap}(ok:∀h',o=some h'->zbm cs h'):yrb (hapD o)=true∧yid (hapD o)≤1:=by
 cases o with
 | none=>exact⟨rfl,ylb _⟩
 | some x =>
  have H:=ok x rfl;have k1:=zgib (zylb _ H.kd);have k2:yrb (avD x.av)=true∧yid (avD x.av)=0:=by
   rcases H.av with⟨n,e,no,_⟩|⟨z,e,_⟩
   ·rw[e];exact⟨zgib λc hc=>(no.2.2 c hc).2,rfl⟩
   ·rw[e];exact⟨rfl,rfl⟩
  constructor
  ·show yrb (.tuple [.str x.kd,.int x.th,avD x.av])=true;rw[yrb];simp only[yvc,k1,k2.1,Bool.and_true];rfl
  ·show yid (.tuple [.str x.kd,.int x.th,avD x.av])≤1;simp only[yid,ykc,k2.2];decide
theorem ztnb {cs:List C20}{tr:List (Int×Int×Int×Option Hap)}(ok:∀x∈tr,∀h',x.2.2.2=some h'->zbm cs h'):yvc (tr.map trD)=true∧ykc (tr.map trD)≤2:=by
 induction tr with
 | nil=>exact⟨rfl,ylb _⟩
 | cons x r ih =>
  obtain⟨a,b⟩:=ih λy hy=>ok y (yna _ hy);obtain⟨c,d⟩:=zvib (ok x yka)
  constructor
  ·show (yrb (trD x)&&yvc (r.map trD))=true;rw[a,Bool.and_true];unfold trD;rw[yrb];simp[yvc,yrb,c]
  ·rw[yva];simp only[ykc];have:yid (trD x)≤2:=by
    unfold trD;simp only[yid,ykc];omega
   omega
structure Fd (cs:List C20)(H:Hp)(s:S21)(tl lf:Addr)(ov:V)(tv:List V):Prop where
 et:H tl=some (.lst tv)
 tr:All2 (TrT H) tv s.trail
 oh:OHap H ov s.hap
 el:H lf=some (.lst (s.left.map V.int))
 ok:SOk cs s
theorem Run.pre {cs:List C20}{s t:S21}(r:Run cs s t):∃x,t.trail=s.trail++x:=by
 induction r with
 | refl=>exact⟨[],(ytb _).symm⟩
 | head p _ ih =>
  obtain⟨x,e⟩:=ih;cases p with
  | mk _ _ _ _ _ _=>exact⟨_,by rw[e,yed]⟩
theorem Run.end_ {cs:List C20}{s t:S21}(r:Run cs s t)(h:t.trail.length≤s.trail.length):s=t:=by
 cases r with
 | refl=>rfl
 | head p r =>
  obtain⟨x,e⟩:=r.pre;have:=congrArg yag e;cases p with
  | @mk _ _ _ _ trail _ _ _ _ _ _ _ _ _ _ _ _ =>
   rw[yea,yea,yad] at this;have h':t.trail.length≤trail.length:=h;omega
theorem Run.next {cs:List C20}{s t:S21}(r:Run cs s t)(h:s.trail.length<t.trail.length):∃u,Stp cs s u∧Run cs u t:=by
 cases r with
 | refl=>omega
 | head p r=>exact⟨_,p,r⟩
theorem zwqb {n:Nat}(h:n+64<cLine):n+1<cLine:=by omega
theorem drop_cons {zs:List Int}{n:Nat}{z:Int}(h:zs[n]?=some z):zs.drop n=z::zs.drop (n+1):=by
 obtain⟨hi,hv⟩:=yfa.mp h;rw[yah hi,hv]
def KOf (M:List (List Key×V))(c:C20)(n:Nat):Prop:=∀(i:Nat) (k:Str) (y:Wh) (wd:Str) (z:Wv),i<n->c.rules[i]?=some (.instead k y wd z)->L2.valV M [.inl c.num,.inl (i:Int)]=some (.str k)
def zfob:Sp:=λvs H Q _=>Ex4 λcl (X:List Addr) us (cs:List C20)=>vs=[.ref cl]∧H cl=some (.lst us)∧All2 (CdT X H) us cs∧C20s cs∧∀dp (M:List (List Key×V)) H',Same H H'->H dp=none->H' dp=some (.dT M)->(∀c∈cs,KOf M c c.rules.length)->Q (.ref dp) H'
theorem ziib {cs:List C20}(CS:C20s cs){M:List (List Key×V)}{c d:C20}{j n:Nat}{k wd:Str}{y:Wh}{z:Wv}(hc:c∈cs)(hd:d∈cs)(er:c.rules[j]?=some (.instead k y wd z))(h:KOf M d n):KOf (putK M [.inl c.num,.inl (j:Int)] (.str k)) d n:=by
 intro i k' y' wd' z' hi e;rw[zfdb]
 by_cases eq:([.inl d.num,.inl (i:Int)]:List Key)=[.inl c.num,.inl (j:Int)]
 ·rw[if_pos eq];injection eq with e1 e2
  injection e1 with e1
  injection e2 with e2 _
  injection e2 with e2
  have ed:=zlsb CS.num hd hc e1;subst ed;have ei:i=j:=by omega
  subst ei;rw[er] at e;injection e with e
  injection e with e
  rw[e]
 ·rw[if_neg eq];exact h i k' y' wd' z' hi e
theorem zrq (T:Tx K mg):FnOk P w K mg base CX0 2 T.zfd.f T.zfd.d zfi zfob:=by
 refine T.zfd.ok zyc ?_;rintro f c A o s H vs Q E hr ⟨cl,Y,us,cs,rfl,ec,CD,CS,q⟩ X;have ucl:=CD.len;have c6:=CS.hi;refine⟨_,  (zba (zoa (i:=1) zyc.nd rfl (.inl rfl) zglb)
  (zba (zzh yxb rfl (zzd (pv 0)) (znj (n:=4) rfl (zab (zua (i:=2) zyc.nd rfl (.inl rfl)) (zab (zua (i:=3) zyc.nd rfl (.inl rfl)) (zab (zua (i:=4) zyc.nd rfl (.inl rfl)) (zab (zua (i:=5) zyc.nd rfl (.inl rfl)) zbg)))))
   (zda (zzh yxb rfl (zah rfl T.zth (zaa (zkb zdb rfl T.zsf ymb (zaa (pv 3) zca)) zca)) (zua (i:=6) zyc.nd rfl (.inl rfl))
    (zda (zwb (zma zqc (zjb zyb (zjb zkc (pv 3) (pv 6) (λ_ _=>rfl)) zfa (λ_ _=>rfl)) zna (zwa _))
     (zda (zsob (zwqb hr.units) (pv 1) (zlb (zaa (pv 2) (zaa (pv 6) zca))) (zjb zyb (zjb zkc (pv 3) (pv 6) (λ_ _=>rfl)) zfa (λ_ _=>rfl)) rfl))
     zsa)))))
  (zda (zqa (pv 1))))),?_⟩
 refine λdp hdp=>?_;refine laid hdp λH1 S1 e1=>?_;refine⟨_,rfl,cl,rfl,⟨_,SqL.of (S1 _ _ ec)⟩,?_⟩;refine zdk (xs:=us) (λi σ H'=>Ex6 λ(M:List (List Key×V)) o2 o3 o4 o5 o6=>σ=[some (.ref cl),some (.ref dp),o2,o3,o4,o5,o6]∧H' dp=some (.dT M)∧M.length≤3*i∧(∀c∈cs.take i,KOf M c c.rules.length)∧Same H H') ⟨[],_,_,_,_,_,rfl,e1,yma _,by simp,S1⟩ (λi σ H' _ ⟨_,_,_,_,_,_,_,_,_,_,S⟩=>SqL.of (S _ _ ec)) ?_ ?_
 ·rintro i u σ H2 hu ⟨M,o2,o3,o4,o5,o6,rfl,ed,ml,KO,S2⟩;obtain⟨c,eci,cd⟩:=CD.get hu;have hc:=ykb eci;have few:=CS.few c hc;have hi:i<us.length:=(yfa.mp hu).1;obtain⟨a,tl,tm,vs,rfl,ea,em,et,_,R2⟩:=cd;have vl:=R2.len;refine⟨a,_,rfl,SqT.of (S2 _ _ ea),rfl,_,_,rfl,_,_,rfl,_,_,rfl,_,_,rfl,rfl,?_⟩;refine⟨_,rfl,tl,_,rfl,.inl (SqL.of (S2 _ _ et)),_,rfl,by omega,by omega,?_⟩;rw[ydc];refine zgl (lo:=0) (n:=vs.length) (λj σ H'=>Ex2 λ(M:List (List Key×V)) o6=>σ=[some (.ref cl),some (.ref dp),some (.int c.num),some (.ref tl),some (.int c.came),some (.ref tm),o6]∧H' dp=some (.dT M)∧M.length≤3*i+j∧(∀d∈cs.take i,KOf M d d.rules.length)∧KOf M c j∧Same H H') ⟨M,_,rfl,ed,by omega,KO,λi _ _ _ _ h=>absurd h (Nat.not_lt_zero _),S2⟩ ?_ ?_
  ·rintro j σ H3 hj ⟨M3,o6,rfl,ed3,ml3,KO3,KC,S3⟩;obtain⟨r,ejr,r20⟩:=R2.get (yqa hj);have ej:atI vs (j:Int)=some vs[j]:=zia (yqa hj);generalize vs[j]=v at ej r20;rw[ypo];have et3:=S3 _ _ et;have r203:=r20.kp (Kp.same S3);cases r203 with
   | @may b y h ok y9 =>
    refine⟨_,rfl,_,rfl,tl,_,_,_,rfl,rfl,SqL.of et3,ej,b,_,_,_,rfl,rfl,SqT.of h,zia (j:=0) rfl,rfl,_,rfl,iteF ?_⟩;refine⟨M3,_,rfl,ed3,by omega,KO3,λi k y' wd z hi e=>?_,S3⟩
    by_cases ei:i<j
    ·exact KC i k y' wd z ei e
    ·have:i=j:=by omega
     subst this;rw[ejr] at e;unfold mayR at e;cases e
   | @ins b k wd x y z h wt ok y9 hd hw hz =>
    refine⟨_,rfl,_,rfl,tl,_,_,_,rfl,rfl,SqL.of et3,ej,b,_,_,_,rfl,rfl,SqT.of h,zia (j:=0) rfl,rfl,_,rfl,iteT ?_⟩;refine⟨_,rfl,_,rfl,tl,_,_,_,rfl,rfl,SqL.of et3,ej,b,_,_,_,rfl,rfl,SqT.of h,zia (j:=1) rfl,?_⟩;refine⟨_,rfl,_,rfl,_,rfl,sz2,λt ht=>?_⟩;refine laid ht λH4 S4 e4=>?_;refine⟨dp,_,rfl,DPut.t (k:=[.inl c.num,.inl (j:Int)]) (S4 _ _ ed3) e4 (zjc (by omega)),?_⟩;have lp:=znm M3 [.inl c.num,.inl (j:Int)] (.str k);refine⟨_,_,rfl,zga,by omega,λd hd=>ziib CS hc (yvg hd) ejr (KO3 d hd),λi k' y' wd' z' hi e=>?_,zae (S3.trans S4) hdp _⟩
    by_cases ei:i<j
    ·exact ziib CS hc hc ejr KC i k' y' wd' z' ei e
    ·have:i=j:=by omega
     subst this;rw[ejr] at e;injection e with e
     injection e with e
     rw[zfdb,if_pos rfl,e]
  ·rintro σ H3 ⟨M3,o6,rfl,ed3,ml3,KO3,KC,S3⟩;refine⟨M3,_,_,_,_,_,rfl,ed3,by omega,λd hd=>?_,S3⟩;rw[yjb,eci] at hd
   rcases yeb.mp hd with z|z
   ·exact KO3 d z
   ·rw[yia.mp z,← vl];exact KC
 ·rintro σ H2 ⟨M,o2,o3,o4,o5,o6,rfl,ed,ml,KO,S2⟩;rw[yua (by omega)] at KO;exact⟨_,rfl,q dp M H2 S2 hdp ed KO⟩
theorem zbp {cs:List C20}{o:Option Hap}(ok:∀h',o=some h'->zbm cs h'):yzb (hapD o)=true:=by
 obtain⟨a,b⟩:=zvib ok;unfold yzb;rw[a,ygd,decide_eq_true_eq];omega
theorem zxeb {cs:List C20}{tr:List (Int×Int×Int×Option Hap)}(ok:∀x∈tr,∀h',x.2.2.2=some h'->zbm cs h'):yzb (.list (tr.map trD))=true:=by
 obtain⟨a,b⟩:=ztnb ok;unfold yzb;rw[yrb,a,ygd,decide_eq_true_eq,yid];omega
theorem zpm (zs:List Int):yzb (.list (zs.map .int))=true:=by
 obtain⟨a,b⟩:=lay_ints zs;unfold yzb;rw[yrb,a,ygd,decide_eq_true_eq,yid,b];decide
def zjkb (B D:Addr):Sp:=λvs H Q _=>Ex14 λll sl cl ha zl (nm:Str) (X:List Addr) ws ss us (cs ds:List C20) (h:Hap) (zs:List Int)=>vs=[.ref ll,.ref sl,.ref cl,.ref ha,.ref zl]∧Lk B D nm H ll ws cs ds∧C20s cs∧H sl=some (.lst ss)∧zkd H ss (cs.map C20.row)∧H cl=some (.lst us)∧All2 (CdT X H) us cs∧H ha=some (.tup [.str h.kd,.int h.th,h.av])∧zbm cs h∧H zl=some (.lst (zs.map V.int))∧∀tl tv (t:S21) H',Same H H'->H' tl=some (.lst tv)->All2 (TrT H') tv t.trail->Run cs ⟨some h,[],zs,[]⟩ t->zuqb cs t->SOk cs t->Q (.ref tl) H'
theorem zfm (T:Tx K mg):FnOk P w K mg base CX0 25 T.zbd.f T.zbd.d zkk (zjkb T.zpf T.ztb):=by
 refine T.zbd.ok znb ?_;rintro f c A o s H vs Q E hr ⟨ll,sl,cl,ha,zl,nm,Y,ws,ss,us,cs,ds,h0,zs,rfl,LK,CS,es,RW,ec,CD,eh,HOK,ez,q⟩ X;have ROK:=CdT.rules CD;refine⟨_,  (zba (zbs (zja (zls T) hr rfl T.znd.m T.znd.F.kp (zau T) .nil zva (zaa (pv 0) (zaa (pv 1) (zaa (pv 3) (zaa (zyd zbj rfl T.zbr ynp (zaa (pv 4) zca)) zca))))) (znj (n:=3) rfl (zab (zua (i:=5) znb.nd rfl (.inl rfl)) (zab (zua (i:=6) znb.nd rfl (.inl rfl)) (zab (zua (i:=7) znb.nd rfl (.inl rfl)) zbg)))))
  (zba (zoa (i:=8) znb.nd rfl (.inl rfl) (zja (zrq T).up hr rfl T.zfd.m T.zfd.F.kp (zzs T) .nil zva (zaa (pv 2) zca)))
  (zba (zoa (i:=9) znb.nd rfl (.inl rfl) (zuc zca))
  (zba (zoa (i:=10) znb.nd rfl (.inl rfl) (pv 3))
  (zba (zoa (i:=11) znb.nd rfl (.inl rfl) zfa)
  (zba (zzh yxb rfl (zzd (pv 5)) (znj (n:=4) rfl (zab (zua (i:=12) znb.nd rfl (.inl rfl)) (zab (zua (i:=13) znb.nd rfl (.inl rfl)) (zab (zua (i:=14) znb.nd rfl (.inl rfl)) (zab (zua (i:=15) znb.nd rfl (.inl rfl)) zbg)))))
   (zba (zwb (PW.pt (zzab (zma zjy (pv 10) zcg (zwa _)) (zzab (zma (zgsb hr.units) (zlb (zaa (pv 13) (zaa (pv 14) zca))) (pv 9) rfl) (zdy (zma zfsb (zilb (zwqb hr.units) (pv 8) (zlb (zaa (pv 13) (zaa (pv 14) zca))) ⟨rfl,rfl,rfl,rfl⟩) (zjb zyb (pv 10) zfa (λ_ _=>rfl)) (zwa _))))))
    (zda (zqa zcg))
    zsa)
   (zba (zoa (i:=16) znb.nd rfl (.inl rfl) (zja (zsi T).up hr rfl T.zsc.m T.zsc.F.kp (zek T) .nil zva (zaa (pv 0) (zaa (pv 1) (zaa (pv 10) (zaa (pv 9) zca))))))
   (zba (zwb (zma (zgs hr.units) (zlb (zaa (pv 13) (zaa (pv 14) zca))) (zeg (own:=["_law_one"]) (cap:=[]) rfl (zpc.chk rfl rfl) .nil (zzd (pv 16)) (λ_ _ _ _=>(zua (i:=0) (show yfd (["_law_one"]:List Str) by decide +kernel) rfl (.inl rfl))) (λ_ _ _ _=>zcl) (λ_ _ _ _=>by exact (zlb (zaa (zjb (zmh K) (pv 0) zfa (λ_ _=>rfl)) (zaa (zjb (zmh K) (pv 0) zfa (λ_ _=>rfl)) zca))))) rfl)
    (zda (zqa zcg))
    zsa)
   (zba (zwb (PW.pt (zeq (zma zut (zkb zdb rfl T.zsf ymb (zaa (pv 16) zca)) zfa (zwa _)) (zto (zma zklb (pv 11) (zkb zdb rfl T.zsf ymb (zaa (pv 4) zca)) (zwa _)))))
    (zda (zoa (i:=11) znb.nd rfl (.inl rfl) (zcc zbh (pv 11) zfa)))
    zsa)
   (zba (zod (zai ycb yya yza zzc (pv 9) (zaa (zlb (zaa (pv 13) (zaa (pv 14) zca))) zca)))
   (zda (zoa (i:=10) znb.nd rfl (.inl rfl) (pv 15)))))))))
  (zba (zwb (PW.pt (zzab (zma (ziy hr.units) (pv 10) (pv 6) (zwa _)) (zdy (zma (ziy hr.units) (pv 7) (zsg zkm (pv 4) (zej (pv 11)) zfj) (zwa _)))))
   (zda (zqa zcg))
   zsa)
  (zba (zwb (PW.pt (zeq (zma zvhb (pv 10) zcg (zwa _)) (zto (zma (ziy hr.units) (zja (zsi T).up hr rfl T.zsc.m T.zsc.F.kp (zek T) .nil zva (zaa (pv 0) (zaa (pv 1) (zaa (pv 10) (zaa (pv 9) zca))))) (zuc zca) (zwa _)))))
   (zda (zqa zcg))
   zsa)
  (zda (zqa (pv 5))))))))))),?_⟩
 refine⟨_,rfl,_,rfl,_,rfl,_,rfl,zl,_,rfl,.inl (SqL.of ez),λnz hnz=>?_⟩;refine laid hnz λH1 S1 e1=>?_;refine⟨ll,sl,ha,nz,nm,ws,ss,cs,ds,h0,zs,rfl,⟨S1 _ _ LK.at_,LK.al.imp λz=>z.kp (Kp.same S1),LK.perm⟩,CS,ROK,S1 _ _ es,RW.map λ_ _ z=>z.same S1,S1 _ _ eh,HOK,e1,λpt tl lf ov tv t H2 S2 ept _ _ etl TR OH elf RN EN OK=>?_⟩;refine⟨pt,_,rfl,SqT.of ept,rfl,_,_,rfl,_,_,rfl,_,_,rfl,rfl,?_⟩;have S02:=S1.trans S2;refine⟨_,rfl,cl,Y,us,cs,rfl,S02 _ _ ec,CD.imp λz=>z.fm (Fm.same S02),CS,λdp M H3 S3 _ ed KO=>?_⟩;have S03:=S02.trans S3;refine⟨sz0,λul hul=>?_⟩;have ndu:dp≠ul:=zka ed hul;have hul0:=none_of S03 hul;refine laid hul λH4 S4 e4=>?_;have tvl:=TR.len;have t18:=OK.len;refine⟨_,rfl,?_⟩;refine⟨_,rfl,tl,rfl,⟨_,SqL.of ((S3.trans S4) _ _ etl)⟩,?_⟩;have el3:=S3 _ _ etl;refine zdk (xs:=tv) (λj σ H'=>Ex9 λ(u:S21) uv hv (n:Nat) o12 o13 o14 o15 o16=>σ=[some (.ref ll),some (.ref sl),some (.ref cl),some (.ref ha),some (.ref zl),some (.ref tl),some ov,some (.ref lf),some (.ref dp),some (.ref ul),some hv,some (.int (n:Int)),o12,o13,o14,o15,o16]∧H' ul=some (.lst uv)∧All2 (ItT H') uv u.used∧u.used.length=j∧OHap H' hv u.hap∧u.left=zs.drop n∧Run cs u t∧u.trail.length=j∧Same H3 H') ⟨⟨some h0,[],zs,[]⟩,[],_,0,_,_,_,_,_,rfl,e4,.nil,rfl,⟨ha,rfl,(S03.trans S4) _ _ eh⟩,rfl,RN,rfl,S4⟩ (λj σ H' _ ⟨_,_,_,_,_,_,_,_,_,_,_,_,_,_,_,_,_,S⟩=>SqL.of (S _ _ el3)) ?_ ?_
 ·rintro j v σ H5 hv ⟨u,uv,hv',n,o12,o13,o14,o15,o16,rfl,eu,US,ul',OH5,eleft,RU,utl,S5⟩;have hj:j<tv.length:=(yfa.mp hv).1;obtain⟨x,ex,tr⟩:=TR.get hv;obtain⟨a,ov2,rfl,ea,oh2⟩:=tr.kp (Kp.same (S3.trans S5));obtain⟨u',stp,RU'⟩:=RU.next (by omega);obtain⟨xr,epre⟩:=RU'.pre;have uvl:=US.len;cases stp with
  | @mk h used ms left trail c i wd y z o RUL em hc er nus tu =>
  have utl':trail.length=j:=utl;have ex2:x=(plM cs h.th,c.num,(i:Int),o):=by
   have e2:t.trail=trail++((plM cs h.th,c.num,(i:Int),o)::xr):=by
    rw[epre];show (trail++[_])++xr=_
    rw[yed];rfl
   rw[e2,← utl',ywb (yma _),yli] at ex;injection ex with ex
   exact ex.symm
  subst ex2;obtain⟨hd,rfl,ehd⟩:=(show HapT H5 hv' h from OH5);have US':All2 (ItT H5) uv used:=US;have ul2:used.length=j:=ul';refine⟨a,_,rfl,SqT.of ea,rfl,_,_,rfl,_,_,rfl,_,_,rfl,_,_,rfl,rfl,?_⟩;refine⟨_,rfl,rfl,_,rfl,iteF ?_⟩;refine⟨_,rfl,_,rfl,sz2,λt1 ht1=>?_⟩;refine laid ht1 λH6 S6 e6=>?_;refine⟨_,rfl,chD [c.num,(i:Int)],used.map chD,zqbb ⟨t1,rfl,e6⟩,.lst (SqL.of (S6 _ _ eu)) (zdz (US'.imp λz=>z.kp (Kp.same S6))),zrj _,zmg _,zmo _,_,rfl,?_⟩;rw[zoeb,decide_eq_false nus];refine iteF ?_;have S36:=S5.trans S6;have ed6:=S36 _ _ ed;refine⟨_,rfl,dp,rfl,.inr ⟨_,.inl ed6⟩,?_⟩;refine⟨_,rfl,_,rfl,sz2,λt2 ht2=>?_⟩;refine laid ht2 λH7 S7 e7=>?_;have dg:=DGet.t (k:=[.inl c.num,.inl (i:Int)]) (S7 _ _ ed6) e7;rw[KO c hc i _ _ _ _ (yfa.mp er).1 er] at dg;have S57:=S6.trans S7;refine⟨_,dg,_,rfl,hd,_,_,_,rfl,rfl,SqT.of (S57 _ _ ehd),zia (j:=0) rfl,rfl,_,rfl,?_⟩;refine ite2 (λc=>?_) (λ_=>?_)
  ·exfalso;have c2:(!decide (V.str h.kd=V.str h.kd))=true:=c;rw[decide_eq_true rfl] at c2;cases c2
  have S37:=S36.trans S7;have S07:=S03.trans S37;refine⟨_,rfl,_,rfl,_,rfl,_,rfl,ll,sl,hd,ul,nm,ws,ss,uv,cs,ds,h.kd,h.th,h.av,used,rfl,⟨S07 _ _ LK.at_,LK.al.imp λz=>z.kp (Kp.same S07),LK.perm⟩,CS,ROK,S07 _ _ es,RW.map λ_ _ z=>z.same S07,S57 _ _ ehd,S57 _ _ eu,US'.imp λz=>z.kp (Kp.same S57),λrl rv ms' H8 S8 _ erl RA pm so=>?_⟩;have ems:ms'=ms:=zmu so RUL.2 pm RUL.1;subst ems;have ral:=RA.len;refine⟨_,rfl,_,rfl,sz2,λt3 ht3=>?_⟩;refine laid ht3 λH9 S9 e9=>?_;have erl9:=S9 _ _ erl;refine⟨_,rfl,rl,rfl,⟨_,SqL.of erl9⟩,?_⟩;refine zne (xs:=rv) (λn ys Hy=>Same H9 Hy∧n≤rv.length∧All2 (ItT Hy) ys ((ms'.take n).map λm=>[m.getD 1 0,m.getD 2 0])) (λn ys Hy z=>SqL.of (z.1 _ _ erl9)) ⟨Same.refl _,ylb _,.nil⟩ ?_ ?_ ?_
  ·rintro n ys Hy ⟨_,hn,hy⟩;have l1:=hy.len;rw[yda,yib] at l1;have l2:=pm.length_eq;have l3:(cs.flatMap (dueC (rowOf (cs.map C20.row) h.th) h.kd h.th used)).length≤3*cs.length:=zqe λd hd=>by
    have f:=CS.few d hd;have a:=yvb (usd used d) (plc (hitR (rowOf (cs.map C20.row) h.th) h.kd h.th d) d.rules d.rules.length);have b:=zak (hitR (rowOf (cs.map C20.row) h.th) h.kd h.th d) d.rules d.rules.length;show (ygi _ _).length≤3
    rw[yda];omega
   have l4:=CS.hi;exact small (by omega)
  ·rintro n v ys Hy hv2 ⟨Sy,_,hy⟩;have hn:n<rv.length:=(yfa.mp hv2).1;obtain⟨m,em2,im⟩:=RA.get hv2;obtain⟨c',_,i',_,_,_,rfl,_,_⟩:=zdeb (RUL.1.mem_iff.mp (ykb em2));obtain⟨ra,rfl,era⟩:=im.kp (Kp.same (S9.trans Sy));refine⟨rfl,_,rfl,ra,_,_,_,rfl,rfl,SqT.of era,zia (j:=1) rfl,_,rfl,ra,_,_,_,rfl,rfl,SqT.of era,zia (j:=2) rfl,sz2,λt4 ht4=>?_⟩;refine laid ht4 λHz Sz ez'=>?_;refine⟨Sy.trans Sz,hn,?_⟩;rw[yjb,em2,ync,yfb];exact All2.snoc (b:=[c'.num,(i':Int)]) ⟨t4,rfl,ez'⟩ (hy.imp λz=>z.kp (Kp.same Sz))
  rintro ys Ha ⟨Sa,_,hy⟩ bl hbl;rw[yua (by omega)] at hy;refine laid hbl λHb Sb eb=>?_;refine⟨chD [c.num,(i:Int)],_,zqbb ⟨t3,rfl,(Sa.trans Sb) _ _ e9⟩,.lst (SqL.of eb) (zdz (hy.imp λz=>z.kp (Kp.same Sb))),zrj _,zmg _,zmo _,_,rfl,?_⟩;have min:[c.num,(i:Int)]∈ms'.map λm=>[m.getD 1 0,m.getD 2 0]:=ydb.mpr ⟨dut c i,ykb em,rfl⟩;rw[zoeb,decide_eq_true min];refine iteF ?_;have S5b:=S57.trans (S8.trans (S9.trans (Sa.trans Sb)));have S3b:=S5.trans S5b;have erlb:=(S9.trans (Sa.trans Sb)) _ _ erl;have ezb:=(S03.trans S3b) _ _ ez;refine⟨_,rfl,rl,_,rfl,.inl (SqL.of erlb),_,_,rfl,rfl,_,rfl,?_⟩;have eleft':left=zs.drop n:=eleft;refine' zjm (pre:=λb Hs=>Hs=Hb∧∃n':Nat,b = .int (n':Int)∧zs.drop n'=chL (ms'.length:Int) left) (λkk=>?gg) ?kn
  case gg =>
   refine ite2 (λc1=>⟨_,rfl,_,rfl,zl,_,rfl,.inl (SqL.of ezb),_,_,rfl,rfl,_,rfl,ite2 (λc2=>?A) (λc2=>?B)⟩) (λc1=>iteF ?C)
   case A =>
    have c1':(1:Int)<(rv.length:Int):=of_decide_eq_true c1;have c2':(n:Int)<((zs.map V.int).length:Int):=of_decide_eq_true c2;rw[yda] at c2';have hz:=yqa (l:=zs) (i:=n) (by omega);generalize zs[n]=zz at hz;refine⟨_,rfl,_,_,rfl,rfl,?_⟩;obtain⟨x2,hx2⟩:∃x,x=V.int ((n:Int)+1):=⟨_,rfl⟩;obtain⟨Hz,hHz⟩:∃h,h=Hb:=⟨_,rfl⟩;dsimp only;rw[← hx2,← hHz];refine kk x2 Hz ⟨hHz,n+1,hx2,?_⟩;rw[eleft',drop_cons hz];exact (if_neg (by omega)).symm
   case B =>
    have c2':¬ (n:Int)<((zs.map V.int).length:Int):=λz=>c2 (decide_eq_true z);rw[yda] at c2';have en:zs.drop n=[]:=ypl (by omega);refine kk (.int (n:Int)) Hb ⟨rfl,n,rfl,?_⟩;rw[eleft',en];rfl
   case C =>
    have c1':¬ (1:Int)<(rv.length:Int):=λz=>c1 (decide_eq_true z);have mpos:=(yfa.mp em).1;have e1:(ms'.length:Int)=1:=(by omega);refine kk (.int (n:Int)) Hb ⟨rfl,n,rfl,?_⟩;rw[e1,chL1,eleft']
  case kn =>
  rintro _ _ ⟨rfl,n',rfl,en'⟩;have eub:=S5b _ _ eu;refine⟨_,rfl,.inl ⟨rfl,_,SqL.of eub⟩,_,rfl,_,rfl,sz2,λt5 ht5=>?_⟩;refine laid ht5 λHc Sc ec5=>?_;have euc:=Sc _ _ eub;refine⟨ul,_,_,rfl,rfl,euc,zjc (by omega),?_⟩;have kp:Kp Hc (upd Hc ul (.lst (uv++[V.ref t5]))):=Kp.put euc;have k5d:Kp H5 (upd Hc ul (.lst (uv++[V.ref t5]))):=(Kp.same (S5b.trans Sc)).trans kp;refine⟨_,rfl,?_⟩;exact⟨⟨o,used++[[c.num,(i:Int)]],chL (ms'.length:Int) left,trail++[(plM cs h.th,c.num,(i:Int),o)]⟩,uv++[V.ref t5],ov2,n',_,_,_,_,_,rfl,zga,All2.snoc (b:=[c.num,(i:Int)]) (ItT.kp kp ⟨t5,rfl,ec5⟩) (US'.imp λz=>z.kp k5d),by rw[yea,ul2];rfl,oh2.kp k5d,en'.symm,RU',by rw[yea,utl'];rfl,zae (S3b.trans Sc) hul _⟩
 ·rintro σ H5 ⟨u,uv,hv',n,o12,o13,o14,o15,o16,rfl,eu,US,ul',OH5,eleft,RU,utl,S5⟩;have eut:=RU.end_ (by omega);subst eut;have S05:=S03.trans S5;have OH6:=OH.kp (Kp.same (S3.trans S5));refine⟨_,rfl,_,rfl,hapD u.hap,hapD u.hap,zjpb OH5 OK.hap,zjpb OH6 OK.hap,zbp OK.hap,zbp OK.hap,_,rfl,?_⟩;rw[SeqAt.eqv_refl _ (ywd (zbp OK.hap))];refine iteF ?_;refine⟨_,rfl,_,rfl,_,rfl,_,rfl,zl,_,rfl,SqL.of (S05 _ _ ez),λnl hnl=>?_⟩;rw[zqj,← List.map_drop,← eleft];refine laid hnl λH6 S6 e6=>?_;refine⟨.list (u.left.map .int),.list (u.left.map .int),.lst (SqL.of ((S3.trans (S5.trans S6)) _ _ elf)) (zrbb _),.lst (SqL.of e6) (zrbb _),zpm _,zpm _,_,rfl,?_⟩;rw[SeqAt.eqv_refl _ (ywd (zpm u.left))];refine iteF ?_;have S06:=S05.trans S6;have fin:∀H',Same H6 H'->Q (.ref tl) H':=λH' S'=>q tl tv u H' (S06.trans S') ((S3.trans (S5.trans (S6.trans S'))) _ _ etl) (TR.imp λz=>z.kp (Kp.same (S3.trans (S5.trans (S6.trans S'))))) RN EN OK;cases eo:u.hap with
  | none =>
   rw[eo] at OH5;have ev:hv' = .non:=OH5;subst ev;refine⟨_,rfl,rfl,_,rfl,iteF (iteF ?_)⟩;exact⟨_,rfl,fin _ (Same.refl _)⟩
  | some h =>
   rw[eo] at OH5;obtain⟨hd,rfl,ehd⟩:=(show HapT H5 hv' h from OH5);refine⟨_,rfl,rfl,_,rfl,iteT ?_⟩;refine⟨_,rfl,_,rfl,_,rfl,_,rfl,ll,sl,hd,ul,nm,ws,ss,uv,cs,ds,h.kd,h.th,h.av,u.used,rfl,⟨S06 _ _ LK.at_,LK.al.imp λz=>z.kp (Kp.same S06),LK.perm⟩,CS,ROK,S06 _ _ es,RW.map λ_ _ z=>z.same S06,S6 _ _ ehd,S6 _ _ eu,US.imp λz=>z.kp (Kp.same S6),λrl rv ms H7 S7 _ er RA pm so=>?_⟩;have en:ms=[]:=by
    unfold zuqb at EN;rw[eo] at EN;exact (pm.trans EN.1.symm).eq_nil
   subst en;refine⟨sz0,λkl hkl=>?_⟩;refine laid hkl λH8 S8 e8=>?_;refine⟨_,_,.lst (SqL.of (S8 _ _ er)) (zdz (RA.imp λz=>z.kp (Kp.same S8))),.lst (SqL.of e8) .nil,zmg [],zmg [],_,rfl,?_⟩;refine ite2 (λc=>absurd c (by simp[ydf,yke])) (λ_=>?_);exact⟨_,rfl,fin _ (S7.trans S8)⟩
structure Tb21 (X:List Addr)(B D:Addr)(nm:Str)(H:Hp)(nl kl cl sl ll:Addr)(ns ks:List Str)(us ss ws:List V)(cs ds:List C20):Prop where
 n4:N4 H nl ns
 kd:Kd H kl ks
 ec:H cl=some (.lst us)
 cd:All2 (CdT X H) us cs
 es:H sl=some (.lst ss)
 rw:zkd H ss (cs.map C20.row)
 lk:Lk B D nm H ll ws cs ds
 out:nl∉X∧kl∉X∧cl∉X∧sl∉X∧ll∉X
theorem Tb21.fm {X:List Addr}{B D:Addr}{nm:Str}{H H':Hp}{nl kl cl sl ll:Addr}{ns ks:List Str}{us ss ws:List V}{cs ds:List C20}(f:Fm X H H')(h:Tb21 X B D nm H nl kl cl sl ll ns ks us ss ws cs ds):Tb21 X B D nm H' nl kl cl sl ll ns ks us ss ws cs ds:=by
 obtain⟨o1,o2,o3,o4,o5⟩:=h.out;exact⟨⟨f.fr _ _ o1 h.n4.at_,h.n4.len,h.n4.ok,h.n4.nd⟩,⟨f.fr _ _ o2 h.kd.at_,h.kd.lo,h.kd.hi,h.kd.ok⟩,f.fr _ _ o3 h.ec,h.cd.imp λz=>z.fm f,f.fr _ _ o4 h.es,h.rw.map λ_ _ z=>z.kp f.kp,⟨f.fr _ _ o5 h.lk.at_,h.lk.al.imp λz=>z.kp f.kp,h.lk.perm⟩,h.out⟩
theorem zabb {H:Hp}{a b c d e:Addr}{v:V}(h:v∈[V.ref a,V.ref b,V.ref c,V.ref d,V.ref e])(ea:H a=some (.lst [.str "hurt"]))(eb:H b=some (.lst [.str "lose",.str "score"]))(ec:H c=some (.lst [.str "leave"]))(ed:H d=some (.lst [.str "gain",.str "lack"]))(ee:H e=some (.lst [.str "lose",.str "draw",.str "hurt"])):Ex2 λkl ks=>v = .ref kl∧Kd H kl ks:=by
 simp only[yja,ycd,or_false] at h
 rcases h with rfl|rfl|rfl|rfl|rfl
 ·exact⟨a,["hurt"],rfl,ea,by decide,by decide,by decide⟩
 ·exact⟨b,["lose","score"],rfl,eb,by decide,by decide,by decide⟩
 ·exact⟨c,["leave"],rfl,ec,by decide,by decide,by decide⟩
 ·exact⟨d,["gain","lack"],rfl,ed,by decide,by decide,by decide⟩
 ·exact⟨e,["lose","draw","hurt"],rfl,ee,by decide,by decide,by decide⟩
theorem zvqb {n i:Nat}(h:i<n)(x:Int)(r:List Int):(chW (n:Int) (((i:Int)+(n:Int)*x)::r)).toNat=i:=by
 show (if (n:Int)=1 then (0:Int) else ((i:Int)+(n:Int)*x) % (n:Int)).toNat=i
 split
 ·omega
 ·rw[Int.add_mul_emod_self_left,Int.emod_eq_of_lt (by omega) (by omega)];omega
theorem zksb (T:Tx K mg)(kb:K.In base):FnOk P w K mg base CX0 26 T.zkgb.f T.zkgb.d zwtb (zpkb K):=by
 refine T.zkgb.ok zlj ?_;rintro f c A o s H vs Q E hr ⟨sa,sc,rfl,hS,h63,q⟩ X;refine⟨_,  (zba (zoa (i:=1) zlj.nd rfl (.inr rfl) (zuc (zaa (pv 0) (zaa zfa zca))))
  (zba (zoa (i:=2) zlj.nd rfl (.inl rfl) (zja (zwv T).up hr rfl T.zge.m T.zge.F.kp (zdab T) .nil zva (zaa (pv 1) zca)))
  (zba (zoa (i:=3) zlj.nd rfl (.inl rfl) (zjb zkc (zuc (zaa (zuc (zaa zna zca)) (zaa (zuc (zaa zna (zaa zna zca))) (zaa (zuc (zaa zna zca)) (zaa (zuc (zaa zna (zaa zna zca))) (zaa (zuc (zaa zna (zaa zna (zaa zna zca)))) zca)))))) (zja (zpa T).up hr rfl T.zea.m T.zea.F.kp (zta T) .nil zva (zaa (pv 1) (zaa zfa zca))) (λ_ _=>rfl)))
  (zba (zbs (zja (zuv T).up hr rfl T.zee.m T.zee.F.kp (zbab T) .nil zva (zaa (pv 1) (zaa (pv 2) (zaa (pv 3) zca)))) (zbsb (n:=2) rfl (zab (zua (i:=4) zlj.nd rfl (.inl rfl)) (zab (zua (i:=5) zlj.nd rfl (.inl rfl)) zbg))))
  (zba (zoa (i:=6) zlj.nd rfl (.inl rfl) (zja (zxv T kb).up hr rfl T.zie.m T.zie.F.kp (zeab T) .nil zva (zaa (pv 4) (zaa (zjb zkc (pv 2) zfa (λ_ _=>rfl)) (zaa (zja (zpa T).up hr rfl T.zea.m T.zea.F.kp (zta T) .nil zva (zaa (pv 1) (zaa zfa zca))) zca)))))
  (zba (zoa (i:=7) zlj.nd rfl (.inl rfl) (zja (zvo T).up hr rfl T.zwc.m T.zwc.F.kp (zuq T) .nil zva (zaa (pv 1) (zaa (pv 3) (zaa (pv 4) (zaa (pv 2) zca))))))
  (zba (zoa (i:=8) zlj.nd rfl (.inl rfl) (zja (zwo T).up hr rfl T.zxc.m T.zxc.F.kp (zvq T) .nil zva (zaa (pv 4) (zaa (pv 5) (zaa (pv 7) (zaa (zuc zca) zca))))))
  (zba (zwb (zma zjy (zja (zfm T) hr rfl T.zbd.m T.zbd.F.kp (zno T) .nil zva (zaa (pv 6) (zaa (pv 5) (zaa (pv 4) (zaa (pv 7) (zaa (zuc zca) zca)))))) zcg (zwa _))
   (zda (zqa zkfb))
   zsa)
  (zba (zzh yxb rfl (zah rfl T.zth (zaa (zkb zdb rfl T.zsf ymb (zaa (pv 8) zca)) zca)) (zua (i:=9) zlj.nd rfl (.inl rfl))
   (zba (zoa (i:=10) zlj.nd rfl (.inl rfl) (zuc (zaa (zcc zbh (pv 9) (zcc zis (zkb zdb rfl T.zsf ymb (zaa (pv 8) zca)) (zcc zbi (zja (zpa T).up hr rfl T.zea.m T.zea.F.kp (zta T) .nil zva (zaa (pv 1) (zaa zfa zca))) zfa))) zca)))
   (zba (zoa (i:=10) zlj.nd rfl (.inl rfl) (zcc zou (pv 10) (zeg (own:=["_law_j"]) (cap:=["_law_pen"]) rfl (zpc.chk rfl rfl) (.cons (j:=1) rfl (.inl rfl) (.inl rfl) .nil) (zah rfl T.zth (zaa (zja (zpa T).up hr rfl T.zea.m T.zea.F.kp (zta T) .nil zva (zaa (pv 1) (zaa zfa zca))) zca)) (λ_ _ _ _=>(zua (i:=0) (show yfd (["_law_j","_law_pen"]:List Str) by decide +kernel) rfl (.inl rfl))) (λ_ _ _ _=>zcl) (λ_ _ _ _=>by exact (zcc zbi (zja (zpa T).up hr rfl T.zea.m T.zea.F.kp (zta T) .nil zva (zaa (pv 1) (zaa zfa zca))) zfa)))))
   (zba (zoa (i:=11) zlj.nd rfl (.inl rfl) (zja (zfm T) hr rfl T.zbd.m T.zbd.F.kp (zno T) .nil zva (zaa (pv 6) (zaa (pv 5) (zaa (pv 4) (zaa (pv 7) (zaa (pv 10) zca)))))))
   (zda (zwb (PW.pt (zzab (zma zjy (pv 11) zcg (zwa _)) (zzab (zma (zjsb hr.units) (pv 11) (zuc zca) (zwa _)) (zdy (zma (ziy hr.units) (zlb (zaa (zjb zyb (zjb zkc (pv 11) zfa (λ_ _=>rfl)) zfa (λ_ _=>rfl)) (zaa (zjb zyb (zjb zkc (pv 11) zfa (λ_ _=>rfl)) zfa (λ_ _=>rfl)) zca))) (zlb (zaa (zjb zyb (zjb zkc (pv 8) (pv 9) (λ_ _=>rfl)) zfa (λ_ _=>rfl)) (zaa (zjb zyb (zjb zkc (pv 8) (pv 9) (λ_ _=>rfl)) zfa (λ_ _=>rfl)) zca))) (zwa _))))))
    (zda (zqa zkfb))
    zsa))))))
  (zda (zqa zkfb))))))))))),?_⟩
 refine⟨_,rfl,sz2,λp hp=>?_⟩;have T1:=Tk.begin hp hS h63;generalize upd H p (.lst [.ref sa,.int 0])=H1 at T1 ⊢;refine⟨_,rfl,p,0,rfl,T1,by decide,λnl ns k2 H2 B2 T2 hk2 _ N2=>?_⟩;refine⟨sz1,λa1 ha1=>?_⟩;refine laid ha1 λI1 S1 e1=>?_;refine⟨sz2,λa2 ha2=>?_⟩;refine laid ha2 λI2 S2 e2=>?_;refine⟨sz1,λa3 ha3=>?_⟩;refine laid ha3 λI3 S3 e3=>?_;refine⟨sz2,λa4 ha4=>?_⟩;refine laid ha4 λI4 S4 e4=>?_;refine⟨sz3,λa5 ha5=>?_⟩;refine laid ha5 λI5 S5 e5=>?_;refine⟨sz5,λa6 ha6=>?_⟩;refine laid ha6 λI6 S6 e6=>?_;have S16:=S1.trans (S2.trans (S3.trans (S4.trans (S5.trans S6))));have TI:=T2.same S16;have n1:a1≠p:=ysb (T2.ne ha1);have n2:a2≠p:=ysb ((T2.same S1).ne ha2);have n3:a3≠p:=ysb ((T2.same (S1.trans S2)).ne ha3);have n4:a4≠p:=ysb ((T2.same (S1.trans (S2.trans S3))).ne ha4);have n5:a5≠p:=ysb ((T2.same (S1.trans (S2.trans (S3.trans S4)))).ne ha5);have n6:a6≠p:=ysb ((T2.same (S1.trans (S2.trans (S3.trans (S4.trans S5))))).ne ha6);refine⟨_,rfl,p,k2,5,rfl,TI,by omega,by decide,λr H3 r0 r1 B3 T3=>?_⟩;obtain⟨kv,hkv,mkv⟩:=zoo (xs:=[V.ref a1,V.ref a2,V.ref a3,V.ref a4,V.ref a5]) (i:=r) r0 r1;obtain⟨kl,ks,rfl,K3⟩:=zabb mkv (B3 _ _ n1 ((S2.trans (S3.trans (S4.trans (S5.trans S6)))) _ _ e1)) (B3 _ _ n2 ((S3.trans (S4.trans (S5.trans S6))) _ _ e2)) (B3 _ _ n3 ((S4.trans (S5.trans S6)) _ _ e3)) (B3 _ _ n4 ((S5.trans S6) _ _ e4)) (B3 _ _ n5 (S6 _ _ e5));refine⟨a6,_,_,_,rfl,rfl,SqL.of (B3 _ _ n6 e6),hkv,?_⟩;have N3:=(N2.same S16).but TI B3;clear e1 e2 e3 e4 e5 e6 S1 S2 S3 S4 S5 S6 S16 TI mkv hkv;refine⟨_,rfl,_,rfl,_,rfl,p,nl,kl,k2+1,ns,ks,rfl,T3,by omega,N3,K3,λtl cl sl us ss cs k4 H4 B4 T4 hk4 hcl hsl et ec es CD RW CS=>?_⟩;refine⟨tl,_,rfl,SqL.of et,rfl,_,_,rfl,_,_,rfl,rfl,?_⟩;have ncp:cl≠p:=ysb (T3.ne hcl);have nsp:sl≠p:=ysb (T3.ne hsl);have N4':=N3.but T3 B4;have K4:=K3.but T3 B4;obtain⟨nm,hnm,mnm⟩:=zct (ss:=ns) (r:=0) (ygn 0) (by rw[N3.len];decide);refine⟨_,rfl,_,rfl,nl,_,_,_,rfl,rfl,SqL.of N4'.at_,hnm,_,rfl,p,k4,6,rfl,T4,by omega,by decide,λt0 H5 t1 t2 B5 T5=>?_⟩;refine⟨cl,nm,t0,[p],us,cs,rfl,N3.ok nm mnm,B5 _ _ ncp ec,CD.imp λz=>z.fm (Fm.but (by simp) T4 B5),CS,t1,λll ws ds H6 S6 nll ell LY pd=>?_⟩;have B46:But p H4 H6:=B5.trans (But.same S6);have T6:=T5.same S6;have nlp:ll≠p:=ysb (T5.ne nll);have pX:p∈[p]:=by simp
 have N6:=N4'.but T4 B46;have K6:=K4.but T4 B46;have TB0:Tb21 [p] T.zpf T.ztb nm H6 nl kl cl sl ll ns ks us ss ws cs ds:=⟨N6,K6,B46 _ _ ncp ec,CD.imp λz=>z.fm (Fm.but pX T4 B46),B46 _ _ nsp es,RW.map λ_ _ z=>z.kp (Kp.but T4 B46),⟨ell,LY,pd⟩,by simp[N6.ne T6],by simp[T6.strs K6.at_],by simp[ncp],by simp[nsp],by simp[nlp]⟩;clear ec es CD RW ell LY N2 K3 N3 N4' K4 N6 K6 et;refine⟨_,rfl,_,rfl,_,rfl,_,rfl,p,kl,cl,nl,_,ns,ks,[p],us,cs,rfl,T6,by omega,TB0.n4,TB0.kd,TB0.ec,ncp,TB0.cd,CS,λha kd th av k9 H9 B9 T9 hk9 eh hkd hth ham=>?_⟩;have HOK:zbm cs ⟨kd,th,av⟩:=⟨TB0.kd.ok kd hkd,hth,ham⟩;have TB9:=TB0.fm (Fm.but pX T6 B9);refine⟨_,rfl,_,rfl,_,rfl,sz0,λz0 hz0=>?_⟩;refine laid hz0 λJ1 S1 e1=>?_;have TB1:=TB9.fm (Fm.same S1);refine⟨cl,sl,ha,z0,[p],us,ss,[],cs,kd,th,av,[],rfl,TB1.ec,TB1.cd,CS,TB1.es,TB1.rw,S1 _ _ eh,e1,.nil,λfl fout fms J2 S2 nfl efl FAL fperm fso=>?_⟩;have fperm':fms.Perm (rulD cs ⟨kd,th,av⟩ []):=fperm;have S12:=S1.trans S2;have T2':=T9.same S12;have nfp:fl≠p:=ysb ((T9.same S1).ne nfl);refine⟨_,rfl,_,rfl,_,rfl,_,rfl,sz0,λz1 hz1=>?_⟩;refine laid hz1 λJ3 S3 e3=>?_;have S13:=S12.trans S3;have TB3:=TB9.fm (Fm.same S13);have eh3:=S13 _ _ eh;refine⟨ll,sl,cl,ha,z1,nm,[p],ws,ss,us,cs,ds,⟨kd,th,av⟩,[],rfl,TB3.lk,CS,TB3.es,TB3.rw,TB3.ec,TB3.cd,eh3,HOK,e3,λwl wv wt J4 S4 _ _ _ _ _=>⟨rfl,_,rfl,iteF ?_⟩⟩;have TB4:=TB3.fm (Fm.same S4);have eh4:=S4 _ _ eh3;have S24:=S3.trans S4;have efl4:=S24 _ _ efl;have FAL4:All2 (ItT J4) fout fms:=FAL.imp λz=>z.kp (Kp.same S24);have T4':=T9.same (S13.trans S4);have fol:=FAL.len;have f18:fms.length≤18:=by
  have a:=fperm.length_eq;have b:(cs.flatMap (dueC (rowOf (cs.map C20.row) th) kd th [])).length≤3*cs.length:=zqe λd hd=>by
   have f:=CS.few d hd;have a:=yvb (usd [] d) (plc (hitR (rowOf (cs.map C20.row) th) kd th d) d.rules d.rules.length);have b:=zak (hitR (rowOf (cs.map C20.row) th) kd th d) d.rules d.rules.length;show (ygi _ _).length≤3
   rw[yda];omega
  have c:=CS.hi;omega
 clear TB0 TB9 TB1 TB3 efl FAL;refine⟨_,rfl,fl,_,rfl,.inl (SqL.of efl4),_,rfl,by omega,by omega,?_⟩;rw[ydc];refine zgl (lo:=0) (n:=fout.length) (λi σ Hx=>Ex4 λ(k':Int) o9 o10 o11=>σ=[some (.ref sa),some (.ref p),some (.ref nl),some (.ref kl),some (.ref cl),some (.ref sl),some (.ref ll),some (.ref ha),some (.ref fl),o9,o10,o11]∧But p J4 Hx∧Tk K Hx p k'∧k'≤3000+10*(i:Int)∧i≤fout.length) ⟨_,_,_,_,rfl,But.refl _ _,T4',by omega,ylb _⟩ ?_ ?_
 ·rintro i σ Hx hi ⟨k',o9,o10,o11,rfl,Bx,Tx,hk',_⟩;have TX:=TB4.fm (Fm.but pX T4' Bx);have efx:=Bx _ _ nfp efl4;have kx:=Kp.but T4' Bx;rw[ypo];refine⟨_,rfl,_,rfl,fl,_,rfl,.inl (SqL.of efx),_,rfl,p,k',7,rfl,Tx,by omega,by decide,λr Ha r0 r1 Ba Ta=>⟨_,_,rfl,rfl,_,_,rfl,rfl,.inl ⟨by omega,by omega⟩,_,_,rfl,rfl,sz1,λc0 hc0=>?_⟩⟩;dsimp only;refine laid hc0 λHb Sb eb=>?_;have Tb:=Ta.same Sb;have nc0:c0≠p:=ysb (Ta.ne hc0);refine⟨_,rfl,_,rfl,p,k'+1,5,rfl,Tb,by omega,by decide,λm0 Hc m1 m2 Bc Tc=>?_⟩;obtain⟨m,rfl⟩:∃m:Nat,m0=(m:Int):=⟨m0.toNat,by omega⟩;refine⟨_,rfl,by omega,by omega,?_⟩;rw[ydc];refine zfp (λj ys Hy=>Ex2 λ(zs:List Int) (k2:Int)=>ys=zs.map V.int∧zs.length=j∧But p Hc Hy∧Tk K Hy p k2∧k2≤k'+2+(j:Int)∧j≤m) ⟨[],_,rfl,rfl,But.refl _ _,Tc,by omega,ylb _⟩ ?_ ?_ ?_
  ·rintro j ys Hy ⟨zs,k2,rfl,zl,_,_,_,hj⟩;rw[yda,zl];exact small (by omega)
  ·rintro j ys Hy hj ⟨zs,k2,rfl,zl,b,Ty,hk2,_⟩;refine⟨rfl,_,rfl,p,k2,1000,rfl,Ty,by omega,by decide,λx Hz x0 x1 bz Tz=>⟨_,_,rfl,rfl,?_⟩⟩;exact⟨zs++[x-500],_,by rw[yfb];rfl,by rw[yea,zl];rfl,b.trans bz,Tz,by omega,hj⟩
  rintro ys Hd ⟨zs,k2,rfl,zl,bd,Td,hk2,_⟩ b0 hb0;refine laid hb0 λHe Se ee=>?_;have Bbe:But p Hb He:=Bc.trans (bd.trans (But.same Se));refine⟨c0,b0,_,_,rfl,rfl,Bbe _ _ nc0 eb,ee,small (by rw[yda];show 1+zs.length≤1000;omega),λzl0 hzl0=>?_⟩;refine laid hzl0 λHf Sf ef=>?_;have ef':Hf zl0=some (.lst ((((i:Int)+(fout.length:Int)*(r-3))::zs).map V.int)):=ef;have Bxf:But p Hx Hf:=Ba.trans ((But.same Sb).trans (Bbe.trans (But.same Sf)));have Tf:=Td.same (Se.trans Sf);have TF:=TX.fm (Fm.but pX Tx Bxf);have kxf:=Kp.but Tx Bxf;have ehf:=kxf.t (kx.t eh4);refine⟨_,rfl,_,rfl,_,rfl,_,rfl,_,rfl,ll,sl,cl,ha,zl0,nm,[p],ws,ss,us,cs,ds,⟨kd,th,av⟩,_,rfl,TF.lk,CS,TF.es,TF.rw,TF.ec,TF.cd,ehf,HOK,ef',λtl' tv t Hg Sg etl TR RN EN OK=>?_⟩;have eflg:=Sg _ _ (Bxf _ _ nfp efx);have tne:0<t.trail.length:=by
   rcases Nat.eq_zero_or_pos t.trail.length with z|z
   ·have es0:=RN.end_ (by omega);rw[← es0] at EN;have e2:([]:List (List Int)).Perm (rulD cs ⟨kd,th,av⟩ []):=EN.1;have:fms=[]:=(fperm'.trans e2.symm).eq_nil;rw[this] at fol;have:fout.length=0:=fol;omega
   ·exact z
  obtain⟨u,stp,RU⟩:=RN.next tne;obtain⟨xr,epre⟩:=RU.pre;cases stp with
  | @mk h used ms left trail c j wd y z o RUL em hc er nus tu =>
  have ems:ms=fms:=zmu RUL.2 fso RUL.1 fperm';subst ems;rw[← fol,zvqb hi] at em;have etr:t.trail=(plM cs th,c.num,(j:Int),o)::xr:=epre;rw[etr] at TR;cases TR with
  | @cons v0 _ tv' _ tr0 trs =>
  obtain⟨a,ov2,rfl,ea,oh0⟩:=tr0;refine⟨_,rfl,rfl,_,rfl,iteF ?_⟩;refine⟨_,rfl,sz0,λz2 hz2=>?_⟩;refine laid hz2 λHh Sh eh'=>?_;have eah:=Sh _ _ ea;have etlh:=Sh _ _ etl;have TRh:All2 (TrT Hh) (V.ref a::tv') t.trail:=by
   rw[etr];exact .cons ⟨a,ov2,rfl,eah,oh0.kp (Kp.same Sh)⟩ (trs.imp λz=>z.kp (Kp.same Sh))
  refine⟨.list (t.trail.map trD),.list [],.lst (SqL.of etlh) (zzqb TRh OK.tr),.lst (SqL.of eh') .nil,zxeb OK.tr,zmg [],_,rfl,?_⟩;refine ite2 (λc1=>?_) (λ_=>?_)
  ·exfalso;rw[etr] at c1;simp[ydf,yke] at c1
  obtain⟨fv,efv⟩:∃fv,fout[i]?=some fv:=⟨_,yqa hi⟩;obtain⟨fm,efm,ifm⟩:=FAL4.get efv;rw[em] at efm;injection efm with efm
  subst efm;obtain⟨fa,rfl,efa⟩:=ifm.kp (kx.trans (kxf.trans (Kp.same (Sg.trans Sh))));have eflh:=Sh _ _ eflg;refine⟨_,rfl,tl',_,_,_,rfl,rfl,SqL.of etlh,zia (j:=0) rfl,a,_,_,_,rfl,rfl,SqT.of eah,zia (j:=1) rfl,_,rfl,tl',_,_,_,rfl,rfl,SqL.of etlh,zia (j:=0) rfl,a,_,_,_,rfl,rfl,SqT.of eah,zia (j:=2) rfl,sz2,λt1 ht1=>?_⟩;refine laid ht1 λHi Si ei=>?_;have eflI:=Si _ _ eflh;have efaI:=Si _ _ efa;refine⟨_,rfl,_,rfl,fl,_,_,_,rfl,rfl,SqL.of eflI,zia efv,fa,_,_,_,rfl,rfl,SqT.of efaI,zia (j:=1) rfl,_,rfl,_,rfl,fl,_,_,_,rfl,rfl,SqL.of eflI,zia efv,fa,_,_,_,rfl,rfl,SqT.of efaI,zia (j:=2) rfl,sz2,λt2 ht2=>?_⟩;refine laid ht2 λHj Sj ej=>?_;refine⟨chD [c.num,(j:Int)],chD [c.num,(j:Int)],zqbb ⟨t1,rfl,Sj _ _ ei⟩,zqbb ⟨t2,rfl,ej⟩,zrj _,zrj _,_,rfl,?_⟩;rw[zlnb,decide_eq_true rfl];refine iteF ?_;have Sfj:=Sg.trans (Sh.trans (Si.trans Sj));exact⟨k2,_,_,_,rfl,Bx.trans (Bxf.trans (But.same Sfj)),Tf.same Sfj,by omega,hi⟩
 ·rintro σ Hx _;exact q _
end
def mkT {K:yba}{h:Heap}{mg:Str->Option Value}(X:K.In h)(G:h.Ns yab mg){C_Words:Addr}{C_Whom:Addr}{C_Card:Addr}{t_LETTERS:Tok}{t_FIGURES:Tok}{t_MOST_WORDS:Tok}{A_PARTS:Addr}{t_MOST_RULES:Tok}{A_SORTS:Addr}{A_CHANGES:Addr}{A_WHEN_KINDS:Addr}{A_DEED_KINDS:Addr}{A_PLAYER_KINDS:Addr}{A_TURNS:Addr}(tf:Tf K mg)
  (zvmb:yob K yab "Words" = some (some (.ref C_Words)))
  (zclb:yaf K C_Words yap=true)
  (zimb:yof K C_Words=true)
  (zykb:ytg K C_Words=true)
  (ztkb:ygb K (.ref C_Words) "__setattr__" = some (some (.builtin "object.__setattr__")))
  (y_Words___init__:If K C_Words "__init__" "Words.__init__" zlh)
  (y_Words_take:Mf K C_Words "take" "Words.take" zal)
  (y_Words_take_one_of:Mf K C_Words "take_one_of" "Words.take_one_of" zif)
  (y_Words_take_name:Mf K C_Words "take_name" "Words.take_name" zkg)
  (y_Words_take_number:Mf K C_Words "take_number" "Words.take_number" zjf)
  (y_Words_finish:Mf K C_Words "finish" "Words.finish" zdj)
  (zwd:ygb K (.ref C_Words) "words" = some none)
  (zld:ygb K (.ref C_Words) "place" = some none)
  (zqqb:yob K yab "Whom" = some (some (.ref C_Whom)))
  (zzob:yaf K C_Whom yap=true)
  (zwpb:yof K C_Whom=true)
  (ztob:ytg K C_Whom=true)
  (zmob:ygb K (.ref C_Whom) "__setattr__" = some (some (.builtin "object.__setattr__")))
  (y_Whom___init__:If K C_Whom "__init__" "Whom.__init__" zxh)
  (y_Whom_fits:Mf K C_Whom "fits" "Whom.fits" zlm)
  (y_Whom_fits_row:Mf K C_Whom "fits_row" "Whom.fits_row" zwh)
  (y_Whom_fits_parts:Mf K C_Whom "fits_parts" "Whom.fits_parts" zlg)
  (zcb:ygb K (.ref C_Whom) "word" = some none)
  (znf:ygb K (.ref C_Whom) "value" = some none)
  (zdd:ygb K (.ref C_Whom) "parts" = some none)
  (q1_Whom:ygb K (.ref C_Whom) "__class__" = some (some (.builtin "object.__class__")))
  (q2_Whom:yzh K (.builtin "object.__class__") "__get__" = some (some (.builtin "getset_descriptor.__get__")))
  (q3_Whom:ywl K (.builtin "object.__class__")=some true)
  (q4_Whom:yon K C_Whom (.type "object")=some true)
  (q5_Whom:ycc K (.ref C_Whom) (.type "str")=some false)
  (q6_Whom:ycc K (.ref C_Whom) (.type "int")=some false)
  (q7_Whom:ycc K (.ref C_Whom) (.type "tuple")=some false)
  (q8_Whom:ycc K (.ref C_Whom) (.type "list")=some false)
  (q9_Whom:ycc K (.type "str") (.ref C_Whom)=some false)
  (q10_Whom:ycc K (.type "int") (.ref C_Whom)=some false)
  (zrqb:yob K yab "Card" = some (some (.ref C_Card)))
  (zapb:yaf K C_Card yap=true)
  (zxpb:yof K C_Card=true)
  (zuob:ytg K C_Card=true)
  (znob:ygb K (.ref C_Card) "__setattr__" = some (some (.builtin "object.__setattr__")))
  (y_Card___init__:If K C_Card "__init__" "Card.__init__" zyh)
  (zbk:ygb K (.ref C_Card) "name" = some none)
  (zck:ygb K (.ref C_Card) "cost" = some none)
  (zui:ygb K (.ref C_Card) "force" = some none)
  (zti:ygb K (.ref C_Card) "marks" = some none)
  (zof:ygb K (.ref C_Card) "rules" = some none)
  (zqeb:yob K yab "all" = some none)
  (zuj:yob K yab "enumerate" = some none)
  (zbkb:yob K yab "int" = some none)
  (zwg:yob K yab "isinstance" = some none)
  (zsf:yob K yab "len" = some none)
  (zbr:yob K yab "list" = some none)
  (zakb:yob K yab "max" = some none)
  (zth:yob K yab "range" = some none)
  (zul:yob K yab "reversed" = some none)
  (zzjb:yob K yab "set" = some none)
  (ztj:yob K yab "sorted" = some none)
  (zpeb:yob K yab "str" = some none)
  (zsk:yob K yab "tuple" = some none)
  (zio:yob K yab "LETTERS" = some (some (.str zgt t_LETTERS)))
  (zjo:yob K yab "FIGURES" = some (some (.str zit t_FIGURES)))
  (zzi:yob K yab "MOST_WORDS" = some (some (.int 9 t_MOST_WORDS)))
  (zdp:yob K yab "PARTS" = some (some (.ref A_PARTS)))
  (zdw:yep (ykh λb=>K.lookup b) (λb=>K.lookup b) A_PARTS zqt=true)
  (zaj:yob K yab "MOST_RULES" = some (some (.int 3 t_MOST_RULES)))
  (zjw:yob K yab "SORTS" = some (some (.ref A_SORTS)))
  (zcw:TupK K A_SORTS ["hold","when","instead","may"])
  (zko:yob K yab "CHANGES" = some (some (.ref A_CHANGES)))
  (zfo:TupK K A_CHANGES ["mute","steal","gain","lack","be","more","less","per"])
  (zyi:yob K yab "WHEN_KINDS" = some (some (.ref A_WHEN_KINDS)))
  (zwi:TupK K A_WHEN_KINDS ["come","leave","hurt","gain","lack","lose","score","draw"])
  (zeh:yob K yab "DEED_KINDS" = some (some (.ref A_DEED_KINDS)))
  (zdh:TupK K A_DEED_KINDS ["leave","hurt","gain","lack","lose","score","draw"])
  (zug:yob K yab "PLAYER_KINDS" = some (some (.ref A_PLAYER_KINDS)))
  (ztg:TupK K A_PLAYER_KINDS ["lose","score","draw"])
  (ziw:yob K yab "TURNS" = some (some (.ref A_TURNS)))
  (zbw:TabK K A_TURNS zcdb):Tx K mg :=
 { tf with zsb:=C_Words,znbb:=yxc X G zvmb,zgb:=⟨zclb,zimb,zykb,ztkb⟩,znc:=y_Words___init__,zvc:=y_Words_take,zra:=y_Words_take_one_of,zub:=y_Words_take_name,zbb:=y_Words_take_number,zcd:=y_Words_finish,zwd:=zwd,zld:=zld,ztb:=C_Whom,zfnb:=yxc X G zqqb,zob:=⟨zzob,zwpb,ztob,zmob⟩,zgd:=y_Whom___init__,zgf:=y_Whom_fits,zeb:=y_Whom_fits_row,zac:=y_Whom_fits_parts,zcb:=zcb,znf:=znf,zdd:=zdd,zktb:=⟨q1_Whom,q2_Whom,q3_Whom,q4_Whom,q5_Whom,q6_Whom,q7_Whom,q8_Whom,q9_Whom,q10_Whom⟩,zpf:=C_Card,zgnb:=yxc X G zrqb,zil:=⟨zapb,zxpb,zuob,znob⟩,zid:=y_Card___init__,zbk:=zbk,zck:=zck,zui:=zui,zti:=zti,zof:=zof,zqeb:=yac X G zqeb,zuj:=yac X G zuj,zbkb:=yac X G zbkb,zwg:=yac X G zwg,zsf:=yac X G zsf,zbr:=yac X G zbr,zakb:=yac X G zakb,zth:=yac X G zth,zul:=yac X G zul,zzjb:=yac X G zzjb,ztj:=yac X G ztj,zpeb:=yac X G zpeb,zsk:=yac X G zsk,zaz:=t_LETTERS,zio:=yxc X G zio,zbz:=t_FIGURES,zjo:=yxc X G zjo,zjq:=t_MOST_WORDS,zzi:=yxc X G zzi,ztm:=A_PARTS,zdp:=yxc X G zdp,zdw:=zdw,zkq:=t_MOST_RULES,zaj:=yxc X G zaj,zxw:=A_SORTS,zjw:=yxc X G zjw,zcw:=zcw,zpo:=A_CHANGES,zko:=yxc X G zko,zfo:=zfo,zcj:=A_WHEN_KINDS,zyi:=yxc X G zyi,zwi:=zwi,zih:=A_DEED_KINDS,zeh:=yxc X G zeh,zdh:=zdh,zvg:=A_PLAYER_KINDS,zug:=yxc X G zug,ztg:=ztg,zww:=A_TURNS,ziw:=yxc X G ziw,zbw:=zbw }
theorem all_mk {l:ybm}{w:World}{K:yba}{mg:Str->Option Value}{fa:Addr}(hfa:mg "law" = some (.ref fa))(T:Tx K mg) :
  ∃fd:yxe,(∀(s:Shared) (v:Value),yao s fd ⟨[v],[]⟩ [("_law_script",v)])∧∀base:Heap,K.In base->base.Ns yab mg->FnOk l.prog w K mg base CX0 26 fa fd ["_law_script"] (zpkb K):=by
 cases zwsb T.zkgb hfa;refine⟨_,(λs v=>?_),λbase kb _=>zksb T kb⟩;obtain⟨oc,od,kV,doc,pm,an,cdv,ct,osl,e,lk,hcd⟩:=T.zkgb.F.ex;rw[e];exact .of_eq rfl
theorem walk {l:ybm}{q:ypb}{loose:List Str}{XP:(Str->Option Value)->Heap->Prop}{YP:World->Heap->Prop}{d:DefRec}{K:Params->yba}(hn:l.most=some 63)(hdf:d.params.defaults=[])
  (hY:∀(w:World) (h:Heap),YP w h->(K w.params).In h)
  (F:∀(w:World) (mg:Str->Option Value) fa (h:Heap),(K w.params).In h->h.Ns yab mg->mg d.name=some (.ref fa) →
   ∃fd:yxe,(∀(s:Shared) (u:Value),yao s fd ⟨[u],[]⟩ [("_law_script",u)])∧∀base:Heap,(K w.params).In base->base.Ns yab mg->FnOk l.prog w (K w.params) mg base CX0 26 fa fd ["_law_script"] (zpkb (K w.params))) :
  yrp q loose XP YP l.row.toRowW d [] (λf vs=>yqp f vs) :=
 L2.zrnb (n:=63) (k:=26) (x:="_law_script") (CX:=λ_=>CX0) (sp:=λw=>zpkb (K w.params)) hn (by decide) hdf ⟨rfl,by decide,by decide⟩ hY F (λ_ _ a ns hl hO hS=>⟨a,ns,rfl,SqF.of hO hS,hl,λ_=>rfl⟩) λ_ _ _ _ _ z=>z
end K22
namespace PySem.W.Fast
def tw8338006393130592533:=()
def tw3452659299451868110:=()
def tw17939797229141392381:=()
def tw14638934375557839431:=()
def tw10067721384592800320:=()
def tw14253094750404982707:=()
def tw710191590208408710:=()
def tw447337158338152599:=()
def tw17002625074674195993:=()
def tw3284339471747004012:=()
def tw2237889729680752127:=()
def tw8544255780372215445:=()
def tw1191453344633817814:=()
def tw13515835644397504070:=()
def tw5477469814212142319:=()
def tw883340654938725715:=()
def tw621259660346420671:=()
def tw4172793252509632514:=()
def tw3244750075229744815:=()
def tw2092298472975369737:=()
def tw15006860990255352163:=()
def tw12825936351232465738:=()
def tw16129003417470890958:=()
def tw1776396547597684566:=()
def tw3897370717003695659:=()
def tw10472165489893949887:=()
def tw3052881665342233717:=()
def tw3814314670556690831:=()
def tw3229485356109140186:=()
def tw8678862931073544154:=()
def tw17608773414302042939:=()
def tw8467478873208119247:=()
def tw17449448415297760124:=()
def tw5499557338856631631:=()
def tw7388176578896491099:=()
def tw14871738334189143458:=()
def tw3248852029174570782:=()
def tw11052162493054240941:=()
def tw13399863615239060213:=()
def tw403127990352219414:=()
def tw15412405501915749201:=()
def tw3402855802039042708:=()
def tw817499716147992929:=()
def tw9566264610312788638:=()
def tw5422727021644629858:=()
def tw13550784387672986139:=()
def tw13142656137617483410:=()
def tw7157296112246480894:=()
def tw9918171683040719132:=()
def tw16613459487811202220:=()
def tw252222570079593450:=()
def tw4010338585831477210:=()
def tw3789306422643362140:=()
def tw8035507121087027023:=()
def tw11235220392283518752:=()
def tw9856879394168853179:=()
def tw16136045868215543310:=()
def tw11198625544176160084:=()
def tw7872212573866265711:=()
def tw15280444335650761677:=()
def tw3054740711987698230:=()
def tw11490413601088628731:=()
def tw6997711153658150544:=()
def tw978552377846886178:=()
def tw11172936379068771137:=()
def tw3123250117409105268:=()
def tw13248036111840234301:=()
def tw15193492166257602818:=()
def tw6078106606542197018:=()
def tw4208067726226306917:=()
def tw18160470138647882479:=()
def tw6380937919138405332:=()
def tw1453113705379779392:=()
def tw1344663220246799928:=()
def tw14315847669292888707:=()
def tw493788533390948826:=()
def tw6590606550202289976:=()
def tw2950737600120559276:=()
def tw16068004339056415768:=()
def tw7363328037120471941:=()
def tw6157748875552114863:=()
def tw14019797127076525611:=()
def tw12406287443511900574:=()
def tw11663970402422452727:=()
def tw7153690628491238228:=()
def tw10757106418865957352:=()
def tw13044783807777852757:=()
def tw5022033975415886059:=()
def tw14383955576812298585:=()
def tw17594132138827654079:=()
def tw18045570151359378093:=()
def tw16370894834454879295:=()
def tw6718220995336874027:=()
def tw10892843730398423113:=()
def tw932622912297822831:=()
def tw5784063140773607400:=()
def tw8490000900643297593:=()
def tw16257816617990927962:=()
def tw5686698035858186160:=()
def tw3021162902034803153:=()
def tw13605244774141190117:=()
def tw3849230833253889448:=()
def tw4216891571862547422:=()
def tw1968114057101345962:=()
def tw16443815546677902180:=()
def tw13639298348334585667:=()
def tw1292954927749351549:=()
def tw18410352095172912188:=()
def tw3649677267851274577:=()
def tw9491743724887348111:=()
def tw2094031850059986557:=()
def tw9440117800296158051:=()
def tw16089788960261793699:=()
def tw1903942357789838920:=()
def tw9124312416194131318:=()
def tw11606109142574075161:=()
def tw8295947881755816583:=()
def tw2175061910939526341:=()
def tw9940163660902541169:=()
def tw1020456695912700316:=()
def tw16837622231603053507:=()
def tw12966318167336789041:=()
def tw11478716596487943120:=()
def tw6291844223828331322:=()
def tw13153870056100778896:=()
def tw15370647733154577548:=()
def tw1244437087830022659:=()
def tw6218010833519426483:=()
def tw949399918680670923:=()
def tw7050855131324163498:=()
def tw15088839109167742970:=()
def tw566528980438129145:=()
def tw13900191727187483692:=()
def tw397455789958440990:=()
def tw4607522098911587463:=()
def tw16460652682611728286:=()
def tw12236228698014527164:=()
def tw17819827249773787377:=()
def tw1725430218331533938:=()
def tw11012812319800729455:=()
def tw12117011741464575509:=()
def tw5940415621898886379:=()
def tw10148181876265463141:=()
def tw11783709664337215009:=()
def tw1094531101530837478:=()
def tw4917536254286081961:=()
def tw9896705620185392330:=()
def tw14639232708007185165:=()
def tw8872403971599211968:=()
def tw11633001638670739491:=()
def tw7710818901959669240:=()
def tw2385480048150903220:=()
def tw16070426893748042848:=()
def tw16132655502790959434:=()
def tw8725246398231699036:=()
def tw13663409933354109139:=()
def tw11860130493553650973:=()
def tw6043296368885231170:=()
def tw18143197586186116175:=()
def tw999595349137301957:=()
def tw4753116504699933141:=()
def tw10677007237622527457:=()
def tw2829714347820891266:=()
def tw18411250611788224618:=()
def tw8219646138433583335:=()
def tw4600942073697094444:=()
def tw11179698620866006719:=()
def tw2655495444558141671:=()
def tw17788537911746814128:=()
def tw8329824269496789550:=()
def tw16952891154984436142:=()
def tw4644378812125594860:=()
def tw11385552304895869588:=()
def tw17547809882974653967:=()
def tw8947074048777713574:=()
def tw14360180059391628307:=()
def tw1451445547448955595:=()
def tw850605161189792405:=()
def tw5948323563287927272:=()
def tw5540427991625658285:=()
def tw3465841335576937280:=()
def tw9533766119849669765:=()
def tw7908632824694803299:=()
def tw10328997117828571386:=()
def tw11026321707827467989:=()
def tw17424153872738397911:=()
def tw1282868645470775845:=()
def tw9602300173155328469:=()
def tw1291407359571744005:=()
def tw2836295405764517801:=()
def tw18203229230939172668:=()
def tw10161574542237792363:=()
def tw3512342396996634458:=()
def tw6619606038412276892:=()
def tw13777266847753869926:=()
def tw2493268149316308885:=()
def tw9327747337411532327:=()
def tw18350377080215098482:=()
def tw16232508169080012637:=()
def tw16927717573306549059:=()
def tw11339556059779065041:=()
def tw13624430725074448689:=()
def tw6047154887057267557:=()
def tw108749554977310649:=()
def tw5648678979855761458:=()
def tw16124632010935729941:=()
def tw12352012262029959449:=()
def tw8052366870871475084:=()
def tw18441532201265300971:=()
def tw7535676828711484227:=()
def tw8447164875418677590:=()
def tw12528658857454640817:=()
def tw15030371682082851738:=()
def tw3768712752757158467:=()
def tw16652806833677472283:=()
def tw1647917366610854493:=()
def tw6012318708599896893:=()
def tw12646257819062243856:=()
def tw5653207165888185246:=()
def tw12067651620646431561:=()
def tw8328137979755390992:=()
def tw14887037977511109565:=()
def tw7207863389224826226:=()
def tw7096757531912963599:=()
def tw10854914669811997361:=()
def tw2172518095430655748:=()
def tw12162246363248471667:=()
def tw14738981215608063155:=()
def tw11517602794486511853:=()
def tw9967300664580433083:=()
def tw313771704395711958:=()
def tw14401372337106306005:=()
def tw9915601644013095290:=()
def tw15360557890567954476:=()
def tw8400674467275513945:=()
def tw7628340914185256016:=()
def tw1953800504757008336:=()
def tw3366546463326674657:=()
def tw11810351215896126187:=()
def tw6324213020316883244:=()
def tw5597796837847377167:=()
def tw6212681434584089483:=()
def tw1166010067055543594:=()
def tw9646003576149901652:=()
def tw17240179059805048709:=()
def tw7080832407882036817:=()
def tw2598158167231432830:=()
def tw9837439422660575675:=()
def tw6117123066874951006:=()
def tw18215766022555522546:=()
def tw16499842670152514019:=()
def tw16830294659866803339:=()
def tw16038341954575301731:=()
def tw7168659125729046984:=()
def tw10561463871170329115:=()
def tw2540248645758075243:=()
def tw14549656004517922204:=()
def tw6691237460050770344:=()
def tw9664159897479598334:=()
def tw15552948502291314325:=()
def tw17479390480285068755:=()
def tw2374851362137274085:=()
def tw1087684017688483478:=()
def tw3975725608037941197:=()
def tw842388605571962083:=()
def tw4892677170194637222:=()
def tw8475385336028282689:=()
def tw3079469075222905987:=()
def tw6720205762604685319:=()
def tw4553216889819740675:=()
def tw16555049241648698737:=()
def tw13704502828156138490:=()
def tw13190018360099614142:=()
def tw12217923624710820729:=()
def tw3002720428109277294:=()
def tw16873670140988412938:=()
def tw12508843352420024275:=()
def tw15004043889591194137:=()
def tw8283919049618618849:=()
def tw15809875034178316872:=()
def tw7935615773780040655:=()
def tw1488044174014397147:=()
def tw4807573657327024528:=()
def tw336801522385373102:=()
def tw4187521456657789569:=()
def tw2317733654623318124:=()
def tw3636549841925664149:=()
def tw4376387730979557461:=()
def tw16425172534720153501:=()
def tw682225947053317756:=()
def tw2685508629113360024:=()
end PySem.W.Fast
open PySem PySem.W PyProof.Rows
set_option maxRecDepth 100000 in
set_option maxHeartbeats 0 in
theorem PySem.Challenge.cw_turnstack_k22_whole_it_ends_holds : PySem.Challenge.rw_turnstack_k22_whole_it_ends.Holds := by
  w_on; o_law; k_head; (case hw => w_witness2)
  k_fill
  refine K22.walk (l := PySem.Challenge.rw_turnstack_k22_whole_it_ends) rfl rfl (fun w h Y => PySem.W.kIn_of Y) ?F
  case F =>
    intro w mg fa h KX G hmg
    refine' K22.all_mk hmg (K22.mkT KX G ⟨L2.gf_of KX G ?qda ?qea ?qfa ?qga, L2.gf_of KX G ?qha ?qia ?qja ?qka, L2.gf_of KX G ?qla ?qma ?qna ?qoa, L2.gf_of KX G ?qnc ?qoc ?qpc ?qqc, L2.gf_of KX G ?qrc ?qsc ?qtc ?quc, L2.gf_of KX G ?qvc ?qwc ?qxc ?qyc, L2.gf_of KX G ?qzc ?qad ?qbd ?qcd, L2.gf_of KX G ?qdd ?qed ?qfd ?qgd, L2.gf_of KX G ?qhd ?qid ?qjd ?qkd, L2.gf_of KX G ?qld ?qmd ?qnd ?qod, L2.gf_of KX G ?qpd ?qqd ?qrd ?qsd, L2.gf_of KX G ?qtd ?qud ?qvd ?qwd, L2.gf_of KX G ?qxd ?qyd ?qzd ?qae, L2.gf_of KX G ?qbe ?qce ?qde ?qee, L2.gf_of KX G ?qke ?qle ?qme ?qne, L2.gf_of KX G ?qoe ?qpe ?qqe ?qre, L2.gf_of KX G ?qse ?qte ?que ?qve, L2.gf_of KX G ?qwe ?qxe ?qye ?qze, L2.gf_of KX G ?qaf ?qbf ?qcf ?qdf, L2.gf_of KX G ?qef ?qff ?qgf ?qhf, L2.gf_of KX G ?qif ?qjf ?qkf ?qlf, L2.gf_of KX G ?qmf ?qnf ?qof ?qpf, L2.gf_of KX G ?qqf ?qrf ?qsf ?qtf, L2.gf_of KX G ?quf ?qvf ?qwf ?qxf, L2.gf_of KX G ?qyf ?qzf ?qag ?qbg, L2.gf_of KX G ?qcg ?qdg ?qeg ?qfg, L2.gf_of KX G ?qgg ?qhg ?qig ?qjg, L2.gf_of KX G ?qkg ?qlg ?qmg ?qng, L2.gf_of KX G ?qog ?qpg ?qqg ?qrg, L2.gf_of KX G ?qsg ?qtg ?qug ?qvg, L2.gf_of KX G ?qwg ?qxg ?qyg ?qzg, L2.gf_of KX G ?qah ?qbh ?qch ?qdh, L2.gf_of KX G ?qeh ?qfh ?qgh ?qhh, L2.gf_of KX G ?qih ?qjh ?qkh ?qlh, L2.gf_of KX G ?qmh ?qnh ?qoh ?qph, L2.gf_of KX G ?qqh ?qrh ?qsh ?qth, L2.gf_of KX G ?quh ?qvh ?qwh ?qxh, L2.gf_of KX G ?qyh ?qzh ?qai ?qbi, L2.gf_of KX G ?qci ?qdi ?qei ?qfi, L2.gf_of KX G ?qgi ?qhi ?qii ?qji, L2.gf_of KX G ?qki ?qli ?qmi ?qni, L2.gf_of KX G ?qoi ?qpi ?qqi ?qri, L2.gf_of KX G ?qsi ?qti ?qui ?qvi⟩ ?qaa ?qwi ?qxi ?qyi ?qzi (L2.if_of ?qpa ?qqa ?qra ?qsa ?qta ?qaj ?qbj) (L2.mf_of ?qua ?qva ?qwa ?qxa ?qya) (L2.mf_of ?qza ?qab ?qbb ?qcb ?qdb) (L2.mf_of ?qeb ?qfb ?qgb ?qhb ?qib) (L2.mf_of ?qjb ?qkb ?qlb ?qmb ?qnb) (L2.mf_of ?qob ?qpb ?qqb ?qrb ?qsb) ?qcj ?qdj ?qba ?qej ?qfj ?qgj ?qhj (L2.if_of ?qtb ?qub ?qvb ?qwb ?qxb ?qij ?qjj) (L2.mf_of ?qyb ?qzb ?qac ?qbc ?qcc) (L2.mf_of ?qdc ?qec ?qfc ?qgc ?qhc) (L2.mf_of ?qic ?qjc ?qkc ?qlc ?qmc) ?qkj ?qlj ?qmj ?qnj ?qoj ?qpj ?qqj ?qrj ?qsj ?qtj ?quj ?qvj ?qwj ?qca ?qxj ?qyj ?qzj ?qak (L2.if_of ?qfe ?qge ?qhe ?qie ?qje ?qbk ?qck) ?qdk ?qek ?qfk ?qgk ?qhk ?qik ?qjk ?qkk ?qlk ?qmk ?qnk ?qok ?qpk ?qqk ?qrk ?qsk ?qtk ?quk ?qvk ?qwk ?qxk ?qyk ?qzk ?qal ?qbl ?qcl ?qdl ?qel ?qfl ?qgl ?qhl ?qil ?qjl ?qkl ?qll ?qml)
    case qaa | qba | qca | qda | qea | qfa | qga | qha | qia | qja | qka | qla | qma | qna | qoa | qpa | qqa | qra | qsa | qta | qua | qva | qwa | qxa | qya | qza | qab | qbb | qcb | qdb | qeb | qfb | qgb | qhb | qib | qjb | qkb | qlb | qmb | qnb | qob | qpb | qqb | qrb | qsb | qtb | qub | qvb | qwb | qxb | qyb | qzb | qac | qbc | qcc | qdc | qec | qfc | qgc | qhc | qic | qjc | qkc | qlc | qmc | qnc | qoc | qpc | qqc | qrc | qsc | qtc | quc | qvc | qwc | qxc | qyc | qzc | qad | qbd | qcd | qdd | qed | qfd | qgd | qhd | qid | qjd | qkd | qld | qmd | qnd | qod | qpd | qqd | qrd | qsd | qtd | qud | qvd | qwd | qxd | qyd | qzd | qae | qbe | qce | qde | qee | qfe | qge | qhe | qie | qje | qke | qle | qme | qne | qoe | qpe | qqe | qre | qse | qte | que | qve | qwe | qxe | qye | qze | qaf | qbf | qcf | qdf | qef | qff | qgf | qhf | qif | qjf | qkf | qlf | qmf | qnf | qof | qpf | qqf | qrf | qsf | qtf | quf | qvf | qwf | qxf | qyf | qzf | qag | qbg | qcg | qdg | qeg | qfg | qgg | qhg | qig | qjg | qkg | qlg | qmg | qng | qog | qpg | qqg | qrg | qsg | qtg | qug | qvg | qwg | qxg | qyg | qzg | qah | qbh | qch | qdh | qeh | qfh | qgh | qhh | qih | qjh | qkh | qlh | qmh | qnh | qoh | qph | qqh | qrh | qsh | qth | quh | qvh | qwh | qxh | qyh | qzh | qai | qbi | qci | qdi | qei | qfi | qgi | qhi | qii | qji | qki | qli | qmi | qni | qoi | qpi | qqi | qri | qsi | qti | qui | qvi | qwi | qxi | qyi | qzi | qaj | qbj | qcj | qdj | qej | qfj | qgj | qhj | qij | qjj | qkj | qlj | qmj => k_is
    case qnj | qoj | qpj | qqj | qrj | qsj | qtj | quj | qvj | qwj => first | k_is | kit_is | kernel_rfl
    case qxj | qyj | qzj | qak | qbk | qck | qdk | qek | qfk | qgk | qhk | qik | qjk | qkk | qlk | qmk | qnk | qok | qpk | qqk | qrk | qsk | qtk | quk | qvk | qwk | qxk | qyk => k_is
    case qzk => first | kernel_rfl | (unfold L2.TupK; kernel_rfl)
    case qal | qbl => k_is
    case qcl => first | kernel_rfl | (unfold L2.TupK; kernel_rfl)
    case qdl => k_is
    case qel => first | kernel_rfl | (unfold L2.TupK; kernel_rfl)
    case qfl => k_is
    case qgl => first | kernel_rfl | (unfold L2.TupK; kernel_rfl)
    case qhl => k_is
    case qil => first | kernel_rfl | (unfold L2.TupK; kernel_rfl)
    case qjl => k_is
    case qkl => first | kernel_rfl | (unfold L2.TupK; kernel_rfl)
    case qll => k_is
    case qml => first | kernel_rfl | (unfold L2.TupK; kernel_rfl)
